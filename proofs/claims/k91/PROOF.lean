import PyProof.Rows.All
import Wide.All
import OpenK.AllK
import Wide.FinOn
import Lean
import PyProof.EqAt
import PyProof.EqKinds
import PyProof.TupleCall
import PySem.Challenge.RW_hourtable_k91_whole_no_table_beats_a_tre
set_option Elab.async false
set_option linter.all false
set_option maxRecDepth 100000
set_option bootstrap.genMatcherCode false
noncomputable section
set_option maxHeartbeats 4000000
theorem gE {α : Type} {l : List α} {i : Nat} (h : i < l.length) : l[i]? = some l[i] := List.getElem?_eq_getElem h
namespace L2
open PySem PySem.Spec PyProof.Rows
abbrev Key := Sum Int Str
def keyIs : Key → Value → Bool
 | .inl k, v => Value.isInt k v
 | .inr x, v => Value.isStrOf x v
def keyH (w : World) : Key → Int
 | .inl k => hashInt k
 | .inr x => hashStr w x
theorem keyIs_shape : ∀ {k : Key} {v : Value}, keyIs k v = true → (∃ i t, k = Sum.inl i ∧ v = Value.int i t) ∨ (∃ x t, k = Sum.inr x ∧ v = Value.str x t)
 | .inl i, v, h => by
  obtain ⟨t, e⟩ := Value.isInt_shape (k := i) (v := v) h
  exact .inl ⟨i, t, rfl, e⟩
 | .inr x, v, h => by
  obtain ⟨t, e⟩ := Value.isStrOf_shape (x := x) (v := v) h
  exact .inr ⟨x, t, rfl, e⟩
theorem keyIs_int (i : Int) (t : Tok) : keyIs (.inl i) (.int i t) = true := by simp [keyIs, Value.isInt]
theorem keyIs_str (x : Str) (t : Tok) : keyIs (.inr x) (.str x t) = true := by simp [keyIs, Value.isStrOf]
theorem key_ll (a b : Int) : decide ((Sum.inl a : Key) = Sum.inl b) = (a == b) := by
 by_cases e : a = b
 ·subst e; simp
 ·have h : ¬ (Sum.inl a : Key) = Sum.inl b := fun q => e (Sum.inl.inj q)
  rw [decide_eq_false h]
  exact (beq_eq_false_iff_ne.mpr e).symm
theorem key_rr (a b : Str) : decide ((Sum.inr a : Key) = Sum.inr b) = decide (a = b) := by
 by_cases e : a = b
 ·subst e; simp
 ·have h : ¬ (Sum.inr a : Key) = Sum.inr b := fun q => e (Sum.inr.inj q)
  rw [decide_eq_false h, decide_eq_false e]
theorem key_lr (a : Int) (b : Str) : decide ((Sum.inl a : Key) = Sum.inr b) = false := decide_eq_false (fun q => nomatch q)
theorem key_rl (a : Str) (b : Int) : decide ((Sum.inr a : Key) = Sum.inl b) = false := decide_eq_false (fun q => nomatch q)
def mixKind (prog : Program) (w : World) : PySem.KeyKind prog w Key where
 is := keyIs
 hash := keyH w
 inj := fun v a b ha hb => by
  rcases keyIs_shape ha with ⟨i, t, rfl, rfl⟩ | ⟨x, t, rfl, rfl⟩
  ·rcases keyIs_shape hb with ⟨j, u, rfl, e⟩ | ⟨y, u, rfl, e⟩
   ·injection e with e1 _; rw [e1]
   ·exact nomatch e
  ·rcases keyIs_shape hb with ⟨j, u, rfl, e⟩ | ⟨y, u, rfl, e⟩
   ·exact nomatch e
   ·injection e with e1 _; rw [e1]
 byValue := fun k v h => by
  rcases keyIs_shape h with ⟨i, t, rfl, rfl⟩ | ⟨x, t, rfl, rfl⟩ <;> rfl
 pyHash := fun hv h => by
  rcases keyIs_shape hv with ⟨i, t, rfl, rfl⟩ | ⟨x, t, rfl, rfl⟩
  ·exact wpAny_pyHash_int h
  ·exact wpAny_pyHash_str h
 eqBool := fun hu hv h => by
  rcases keyIs_shape hu with ⟨i, t, rfl, rfl⟩ | ⟨x, t, rfl, rfl⟩
  ·rcases keyIs_shape hv with ⟨j, u, rfl, rfl⟩ | ⟨y, u, rfl, rfl⟩
   ·rw [key_ll] at h; exact wpAny_eqBool_int h
   ·rw [key_lr] at h; exact SeqAt.EqAt.int_str i t y u _ _ _ _ h
  ·rcases keyIs_shape hv with ⟨j, u, rfl, rfl⟩ | ⟨y, u, rfl, rfl⟩
   ·rw [key_rl] at h; exact SeqAt.EqAt.str_int x t j u _ _ _ _ h
   ·rw [key_rr] at h; exact wpAny_eqBool_str h
 «strs» := fun k x t v h => by
  rcases keyIs_shape h with ⟨i, u, rfl, e⟩ | ⟨y, u, rfl, e⟩
  ·exact nomatch e
  ·injection e with e1 _
   subst e1
   cases v <;> rfl
theorem mixKind_int (prog : Program) (w : World) (i : Int) (t : Tok) : (mixKind prog w).is (.inl i) (.int i t) = true := keyIs_int i t
theorem mixKind_str (prog : Program) (w : World) (x : Str) (t : Tok) : (mixKind prog w).is (.inr x) (.str x t) = true := keyIs_str x t
end L2
namespace L2
open PySem PySem.Spec PyProof.Rows
inductive V where
 | non | bl (b : Bool) | int (i : Int) | str (x : Str) | byt (b : Array UInt8) | flt (b : UInt64) | ref (a : Addr) | ty (n : String)
 deriving DecidableEq
def RelV : V → Value → Prop
 | .non, u => u = Value.none
 | .bl b, u => u = Value.bool b
 | .int i, u => ∃ t, u = Value.int i t
 | .str x, u => ∃ t, u = Value.str x t
 | .byt b, u => ∃ t, u = Value.bytes b t
 | .flt b, u => ∃ t, u = Value.float b t
 | .ref a, u => u = Value.ref a
 | .ty n, u => u = Value.type n
abbrev Vals : List V → List Value → Prop := Paired RelV
theorem Vals.length {xs : List V} {us : List Value} (r : Vals xs us) : xs.length = us.length := Paired.length r
theorem Vals.get : ∀ {xs : List V} {us : List Value} {i : Nat} {x : V}, Vals xs us → xs[i]? = some x → ∃ u, us[i]? = some u ∧ RelV x u
 | _, _, _, _, .nil, e => by simp at e
 | _, _, 0, _, .cons r _, e => by simp at e; subst e; exact ⟨_, rfl, r⟩
 | _, _, i + 1, x, .cons _ t, e => by
  obtain ⟨u, h1, h2⟩ := Vals.get (i := i) (x := x) t (by simpa using e)
  exact ⟨u, by simpa using h1, h2⟩
theorem Vals.set {x : V} {u : Value} (r : RelV x u) : ∀ {xs : List V} {us : List Value} (i : Nat), Vals xs us → Vals (xs.set i x) (us.set i u)
 | _, _, _, .nil => .nil
 | _, _, 0, .cons _ t => .cons r t
 | _, _, i + 1, .cons q t => .cons q (Vals.set r i t)
theorem Vals.append : ∀ {xs ys : List V} {us ws : List Value}, Vals xs us → Vals ys ws → Vals (xs ++ ys) (us ++ ws)
 | _, _, _, _, .nil, s => s
 | _, _, _, _, .cons r t, s => .cons r (Vals.append t s)
theorem Vals.take : ∀ {xs : List V} {us : List Value} (n : Nat), Vals xs us → Vals (xs.take n) (us.take n)
 | _, _, 0, _ => .nil
 | _, _, _ + 1, .nil => .nil
 | _, _, n + 1, .cons r t => .cons r (Vals.take n t)
theorem Vals.drop : ∀ {xs : List V} {us : List Value} (n : Nat), Vals xs us → Vals (xs.drop n) (us.drop n)
 | _, _, 0, r => r
 | _, _, _ + 1, .nil => .nil
 | _, _, n + 1, .cons _ t => Vals.drop n t
def RelO : Option V → Option Value → Prop
 | some v, some u => RelV v u
 | none, none => True
 | _, _ => False
def KV {κ : Type} : List (κ × V) → List (κ × Value) → Prop := Paired fun (p : κ × V) (q : κ × Value) => p.1 = q.1 ∧ RelV p.2 q.2
def kV : Key → V
 | .inl i => .int i
 | .inr x => .str x
inductive HO where
 | lst (xs : List V)
 | tup (xs : List V)
 | dK (kvs : List (Key × V)) | dT (kvs : List (List Key × V))
 | set (S : Int → Bool) (n : Nat)
 | ins (C dx : Addr) (fs : List (Str × V))
 | own (x : Addr)
 | xd (fs : List (Str × V))
 | met (f x : Addr)
 | rng (lo hi : Int)
 | frz (o : Obj) (u : HO)
 | tbl (ps : Array Value)
 | ext (φ : Heap → Prop)
abbrev Hp := Addr → Option HO
def upd (H : Hp) (a : Addr) (o : HO) : Hp := fun b => if b = a then some o else H b
theorem upd_same {H : Hp} {a : Addr} {o : HO} : upd H a o a = some o := by unfold upd; rw [if_pos rfl]
theorem upd_ne {H : Hp} {a b : Addr} {o : HO} (h : b ≠ a) : upd H a o b = H b := by unfold upd; rw [if_neg h]
theorem ne_of {H : Hp} {a b : Addr} {o u : HO} (h : H a = some o) (h' : H b = some u) (d : o ≠ u) : a ≠ b := by
 intro e; subst e; rw [h] at h'; exact d (Option.some.inj h')
theorem ne_of_none {H : Hp} {a b : Addr} {o : HO} (h : H a = some o) (h' : H b = none) : a ≠ b := by
 intro e; subst e; rw [h] at h'; cases h'
def IsTupN (h : Heap) (a : Addr) (items : Array Value) : Prop := ∃ o, h.get? a = some o ∧ o.cls = .type "tuple" ∧ o.dict = none ∧ ∃ n, o.data = .seq items n
theorem IsTupN.tup {h : Heap} {a : Addr} {items : Array Value} (p : IsTupN h a items) : IsTup h a items := let ⟨o, e, c, _, n, d⟩ := p; ⟨o, e, c, n, d⟩
theorem IsTupN.lt {h : Heap} {a : Addr} {items : Array Value} (p : IsTupN h a items) : a < h.objs.size := p.tup.lt
theorem IsTupN.new (h : Heap) (items : Array Value) : IsTupN (h.push { cls := .type "tuple", data := .seq items }) h.objs.size items := ⟨_, Heap.get?_push_size _ rfl, rfl, rfl, _, rfl⟩
section
variable (P : Program) (w : World)
def ObjOk (H : Hp) (h : Heap) (a : Addr) : HO → Prop
 | .lst xs => xs.length ≤ sizeLine ∧ ∃ (its : List Value) (n : Nat), Vals xs its ∧ h.get? a = some { cls := .type "list", data := .seq its.toArray n }
 | .tup xs => xs.length ≤ sizeLine ∧ ∃ its : List Value, Vals xs its ∧ IsTupN h a its.toArray
 | .dK kvs => kvs.length ≤ sizeLine ∧ (a == sysModules) = false ∧ ∃ vs, KV kvs vs ∧ h.DictOf (mixKind P w) a vs
 | .dT kvs => kvs.length ≤ sizeLine ∧ (a == sysModules) = false ∧ ∃ xs : List (List Key × Addr × Value),
   Paired (fun (p : List Key × V) (q : List Key × Addr × Value) => p.1 = q.1 ∧ H q.2.1 = some (.tup (p.1.map kV)) ∧ RelV p.2 q.2.2) kvs xs ∧
   ∃ o es ep, h.get? a = some o ∧ o.ExactDict ∧ o.data = .dict es ep ∧ es.toList = xs.map (entryOfKey (tupleKind (mixKind P w))) ∧ (xs.map (·.1)).Nodup
 | .set S n => h.SetOf (intKind P w) a S n
 | .ins C dx fs => H dx = some (.own a) ∧ fs.length ≤ 1000 ∧ dx ≠ a ∧ h.get? a = some (PySem.W.instObj C dx) ∧
   ∃ mA, h.Ns1 dx mA ∧ (∀ f, RelO (fs.lookup f) (mA f)) ∧ PySem.Within mA (fs.map (·.1))
 | .own _ => ∃ o, h.get? a = some o
 | .xd fs => ∃ mA, h.Ns1 a mA ∧ ∀ f, RelO (fs.lookup f) (mA f)
 | .rng lo hi => ∃ t u v, h.get? a = some { cls := .type "range", data := .fields #[.int lo t, .int hi u, .int 1 v] }
 | .frz o u => h.get? a = some o ∧ ObjOk H h a u
 | .tbl ps => h.get? a = some { cls := .none, data := .fields ps }
 | .met f x => h.get? a = some (PySem.W.methodObj (.ref f) (.ref x))
 | .ext φ => φ h ∧ (∃ o, h.get? a = some o) ∧ ∀ h1 h2 : Heap, φ h1 → (∀ o, h1.get? a = some o → h2.get? a = some o) → φ h2
def HOk (H : Hp) (h : Heap) : Prop := ∀ a o, H a = some o → ObjOk P w H h a o
end
section
variable {P : Program} {w : World} {H H' : Hp} {h h' : Heap} {a : Addr} {o : HO}
theorem ObjOk.lt (x : ObjOk P w H h a o) : a < h.objs.size := by
 cases o with
 | lst xs => obtain ⟨_, _, _, _, e⟩ := x; exact Heap.lt_size e
 | tup xs => obtain ⟨_, _, _, p⟩ := x; exact p.lt
 | dK kvs => obtain ⟨_, _, _, _, o, _, _, e, _⟩ := x; exact Heap.lt_size e
 | dT kvs => obtain ⟨_, _, _, _, o, _, _, e, _⟩ := x; exact Heap.lt_size e
 | set S n => obtain ⟨o, _, _, _, e, _⟩ := x; exact Heap.lt_size e
 | ins C dx fs => obtain ⟨_, _, _, e, _⟩ := x; exact Heap.lt_size e
 | own y => obtain ⟨_, e⟩ := x; exact Heap.lt_size e
 | xd fs => obtain ⟨_, ⟨_, _, _, e, _⟩, _⟩ := x; exact Heap.lt_size e
 | rng lo hi => obtain ⟨_, _, _, e⟩ := x; exact Heap.lt_size e
 | frz ob u => obtain ⟨e, _⟩ := x; exact Heap.lt_size e
 | tbl ps => exact Heap.lt_size (show h.get? a = some _ from x)
 | met f y => exact Heap.lt_size (show h.get? a = some _ from x)
 | ext φ => obtain ⟨_, ⟨_, e⟩, _⟩ := x; exact Heap.lt_size e
theorem Paired.mapP {α β : Type} {F G : α → β → Prop} : ∀ {l₁ : List α} {l₂ : List β}, Paired F l₁ l₂ → (∀ a b, F a b → G a b) → Paired G l₁ l₂
 | _, _, .nil, _ => .nil
 | _, _, .cons r t, f => .cons (f _ _ r) (Paired.mapP t f)
theorem ObjOk.stay (x : ObjOk P w H h a o) (k : ∀ b u, (b = a ∨ H b = some (.own a)) → h.get? b = some u → h'.get? b = some u)
  (ho : ∀ b, H b = some (.own a) → H' b = some (.own a)) (ht : ∀ b xs, H b = some (.tup xs) → H' b = some (.tup xs)) : ObjOk P w H' h' a o := by
 induction o with
 | lst xs => obtain ⟨z, its, n, r, e⟩ := x; exact ⟨z, its, n, r, k _ _ (.inl rfl) e⟩
 | tup xs => obtain ⟨z, its, r, ob, e, c⟩ := x; exact ⟨z, its, r, ob, k _ _ (.inl rfl) e, c⟩
 | dK kvs => obtain ⟨z, y, vs, r, ob, es, ep, e, c⟩ := x; exact ⟨z, y, vs, r, ob, es, ep, k _ _ (.inl rfl) e, c⟩
 | dT kvs =>
  obtain ⟨z, y, xs, r, ob, es, ep, e, c⟩ := x
  exact ⟨z, y, xs, Paired.mapP r fun p q z => ⟨z.1, ht _ _ z.2.1, z.2.2⟩, ob, es, ep, k _ _ (.inl rfl) e, c⟩
 | set S n => obtain ⟨ob, es, ep, t, e, c⟩ := x; exact ⟨ob, es, ep, t, k _ _ (.inl rfl) e, c⟩
 | ins C dx fs =>
  obtain ⟨d, z, ne, e, mA, ⟨od, es, ep, e2, c⟩, r⟩ := x
  exact ⟨ho _ d, z, ne, k _ _ (.inl rfl) e, mA, ⟨od, es, ep, k _ _ (.inr d) e2, c⟩, r⟩
 | own y => obtain ⟨ob, e⟩ := x; exact ⟨ob, k _ _ (.inl rfl) e⟩
 | xd fs => obtain ⟨mA, ⟨od, es, ep, e, c⟩, r⟩ := x; exact ⟨mA, ⟨od, es, ep, k _ _ (.inl rfl) e, c⟩, r⟩
 | rng lo hi => obtain ⟨t, u, v, e⟩ := x; exact ⟨t, u, v, k _ _ (.inl rfl) e⟩
 | frz ob u ih => obtain ⟨e, q⟩ := x; exact ⟨k _ _ (.inl rfl) e, ih q⟩
 | tbl ps =>
  have e : h.get? a = some { cls := .none, data := .fields ps } := x
  show h'.get? a = some { cls := .none, data := .fields ps }
  exact k a _ (.inl rfl) e
 | met f y =>
  have e : h.get? a = some (PySem.W.methodObj (.ref f) (.ref y)) := x
  show h'.get? a = some (PySem.W.methodObj (.ref f) (.ref y))
  exact k a _ (.inl rfl) e
 | ext φ => obtain ⟨p, ⟨o, e⟩, st⟩ := x; exact ⟨st _ _ p fun o q => k _ _ (.inl rfl) q, ⟨o, k _ _ (.inl rfl) e⟩, st⟩
theorem HOk.lt (x : HOk P w H h) (e : H a = some o) : a < h.objs.size := (x a o e).lt
theorem HOk.fresh (x : HOk P w H h) (e : h.objs.size ≤ a) : H a = none := by
 cases q : H a with
 | none => rfl
 | some u => exact absurd (Nat.lt_of_lt_of_le (x.lt q) e) (Nat.lt_irrefl _)
theorem HOk.kept (x : HOk P w H h) (k : ∀ b u, h.get? b = some u → h'.get? b = some u) : HOk P w H h' := fun a o e =>
 (x a o e).stay (fun b u _ q => k b u q) (fun _ q => q) fun _ _ q => q
theorem HOk.laid (x : HOk P w H h) (k : ∀ b u, h.get? b = some u → h'.get? b = some u) (hp : h.objs.size ≤ a) (new : ObjOk P w (upd H a o) h' a o) : HOk P w (upd H a o) h' := fun b u e => by
 have hn := x.fresh hp
 by_cases hb : b = a
 ·subst hb; rw [upd_same] at e; cases e; exact new
 ·rw [upd_ne hb] at e
  exact (x b u e).stay (fun c v _ q => k c v q) (fun c q => by rw [upd_ne (ne_of_none q hn)]; exact q) fun c xs q => by rw [upd_ne (ne_of_none q hn)]; exact q
end
def Rd (H : Hp) (a : Addr) (u : HO) : Prop := H a = some u ∨ ∃ o, H a = some (.frz o u)
theorem Rd.ok {P : Program} {w : World} {H : Hp} {h : Heap} {a : Addr} {u : HO} (r : Rd H a u) (x : HOk P w H h) : ObjOk P w H h a u := by
 rcases r with r | ⟨o, r⟩
 ·exact x a u r
 ·obtain ⟨_, q⟩ := x a _ r
  exact q
def Mut : Option HO → Prop
 | some (.lst _) => True
 | some (.dK _) => True
 | some (.dT _) => True
 | some (.set _ _) => True
 | some (.ins _ _ _) => True
 | some (.ext _) => True
 | _ => False
section
variable {P : Program} {w : World} {H : Hp} {h h' : Heap} {x e : Addr} {o' : HO}
theorem HOk.write (ok : HOk P w H h) (mu : Mut (H x)) (he : e = x ∨ H e = some (.own x)) (k : ∀ b u, b ≠ e → h.get? b = some u → h'.get? b = some u) (heo : ∃ u, h'.get? e = some u)
  (new : ObjOk P w (upd H x o') h' x o') : HOk P w (upd H x o') h' := fun b u q => by
 have nown : ∀ c y, H c = some (.own y) → c ≠ x := fun c y r z => by subst z; rw [r] at mu; exact mu
 have ntup : ∀ c xs, H c = some (.tup xs) → c ≠ x := fun c xs r z => by subst z; rw [r] at mu; exact mu
 by_cases hb : b = x
 ·subst hb; rw [upd_same] at q; cases q; exact new
 ·rw [upd_ne hb] at q
  by_cases hbe : b = e
  ·have q' : H b = some (.own x) := by
    rcases he with z | z
    ·exact absurd (hbe.trans z) hb
    ·rw [hbe]; exact z
   rw [q] at q'; cases q'
   obtain ⟨v, hv⟩ := heo
   exact ⟨v, by rw [hbe]; exact hv⟩
  ·refine (ok b u q).stay (fun c v hc r => k c v ?_ r) (fun c r => by rw [upd_ne (nown c b r)]; exact r) fun c xs r => by rw [upd_ne (ntup c xs r)]; exact r
   rcases hc with rfl | hc
   ·exact hbe
   ·rintro rfl
    rcases he with z | z
    ·exact nown c b hc z
    ·rw [hc] at z; cases z; exact hb rfl
end
structure Un (fs ex : List Addr) (H H' : Hp) (h h' : Heap) : Prop where
 keep : ∀ b o, h.get? b = some o → H b = none → b ∉ fs → b ∉ ex → h'.get? b = some o
 slot : ∀ b o, h.get? b = some o → H b = none → b ∈ fs → b ∉ ex → ∃ sl, h'.get? b = some { o with slots := sl }
 free : ∀ b o, h.get? b = some o → H b = none → b ∉ ex → H' b = none
 there : ∀ b o, h.get? b = some o → b ∉ ex → ∃ o', h'.get? b = some o'
 tups : ∀ b xs, H b = some (.tup xs) → H' b = some (.tup xs)
 frzs : ∀ b o u, H b = some (.frz o u) → H' b = some (.frz o u)
 tbls : ∀ b ps, H b = some (.tbl ps) → ∃ more, H' b = some (.tbl (ps ++ more))
section
variable {fs fs' ex ex' : List Addr} {H H1 H2 : Hp} {h h1 h2 h' : Heap} {a x e : Addr} {o : HO}
theorem Un.any (u : Un fs ex H H1 h h1) {b : Addr} {ob : Obj} (q : h.get? b = some ob) (n : H b = none) (hx : b ∉ ex) : ∃ sl, h1.get? b = some { ob with slots := sl } := by
 by_cases hb : b ∈ fs
 ·exact u.slot b ob q n hb hx
 ·exact ⟨ob.slots, u.keep b ob q n hb hx⟩
theorem Un.kept (k : ∀ b u, h.get? b = some u → h'.get? b = some u) : Un fs ex H H h h' :=
 ⟨fun b ob q _ _ _ => k b ob q, fun b ob q _ _ _ => ⟨ob.slots, k b ob q⟩, fun _ _ _ n _ => n, fun b ob q _ => ⟨ob, k b ob q⟩, fun _ _ q => q, fun _ _ _ q => q, fun _ ps q => ⟨#[], by rw [q]; simp⟩⟩
theorem Un.refl : Un fs ex H H h h := Un.kept fun _ _ q => q
theorem Un.laid (k : ∀ b u, h.get? b = some u → h'.get? b = some u) (hp : h.objs.size ≤ a) (hn : H a = none) : Un fs ex H (upd H a o) h h' where
 keep := fun b u q _ _ _ => k b u q
 slot := fun b u q _ _ _ => ⟨u.slots, k b u q⟩
 free := fun b u q n _ => by rw [upd_ne (Nat.ne_of_lt (Nat.lt_of_lt_of_le (Heap.lt_size q) hp))]; exact n
 there := fun b u q _ => ⟨u, k b u q⟩
 tups := fun b xs q => by rw [upd_ne (ne_of_none q hn)]; exact q
 frzs := fun b u xs q => by rw [upd_ne (ne_of_none q hn)]; exact q
 tbls := fun b ps q => ⟨#[], by rw [upd_ne (ne_of_none q hn), q]; simp⟩
theorem Un.write (mu : Mut (H x)) (he : e = x ∨ H e = some (.own x)) (k : ∀ b u, b ≠ e → h.get? b = some u → h'.get? b = some u) (heo : ∃ u, h'.get? e = some u) : Un fs ex H (upd H x o) h h' := by
 have hx : ∀ b, H b = none → b ≠ x := fun b n z => by subst z; rw [n] at mu; exact mu
 have hb : ∀ b, H b = none → b ≠ e := fun b n z => by
  subst z
  rcases he with r | r
  ·exact hx b n r
  ·rw [n] at r; cases r
 have hm : ∀ b u, H b = some u → ¬ Mut (some u) → b ≠ x := fun b u q nm z => by subst z; rw [q] at mu; exact nm mu
 refine ⟨fun b u q n _ _ => k b u (hb b n) q, fun b u q n _ _ => ⟨u.slots, k b u (hb b n) q⟩, fun b u q n _ => by rw [upd_ne (hx b n)]; exact n, fun b u q _ => ?_,
  fun b xs q => by rw [upd_ne (hm b _ q fun z => z)]; exact q, fun b u xs q => by rw [upd_ne (hm b _ q fun z => z)]; exact q, fun b ps q => ⟨#[], by rw [upd_ne (hm b _ q fun z => z), q]; simp⟩⟩
 by_cases hbe : b = e
 ·subst hbe; exact heo
 ·exact ⟨u, k b u hbe q⟩
end
def trk (h : Heap) (H : Hp) : List Addr := (List.range h.objs.size).filter fun a => (H a).isSome
def hidT (h : Heap) (H : Hp) : Heap := PySem.W.hideAll h (trk h H)
theorem hidT_size (h : Heap) (H : Hp) : (hidT h H).objs.size = h.objs.size := PySem.W.hideAll_size _ _
theorem hidT_get {h : Heap} {H : Hp} {b : Addr} {o : Obj} (e : h.get? b = some o) (n : H b = none) : (hidT h H).get? b = some o :=
 PySem.W.hideAll_get _ e fun hm => by
  have q : (H b).isSome = true := (List.mem_filter.mp hm).2
  rw [n] at q; simp at q
theorem of_hidT {h : Heap} {H : Hp} {b : Addr} {o : Obj} (e : (hidT h H).get? b = some o) : h.get? b = some o ∧ H b = none := by
 have e' : h.get? b = some o := PySem.W.of_hideAll (trk h H) e
 refine ⟨e', ?_⟩
 cases q : H b with
 | none => rfl
 | some x =>
  have hm : b ∈ trk h H := List.mem_filter.mpr ⟨List.mem_range.mpr (Heap.lt_size e'), by simp [q]⟩
  have z : (hidT h H).get? b = none := PySem.W.hideAll_none (trk h H) hm
  rw [z] at e; cases e
def allNews (g h : Heap) (L : Addr) : List (Addr × Obj) := (List.range h.objs.size).filterMap fun a => if a = L ∨ (g.get? a).isSome = true then none else (h.get? a).map fun o => (a, o)
def rest (g h : Heap) (L d : Addr) : List (Addr × Obj) := (allNews g h L).filter fun p => decide (p.1 ≠ d)
end L2
namespace L2
open PySem PySem.Spec PyProof.Rows
structure Mod (K : PySem.W.Frag) (mg : Str → Option Value) (base : Heap) : Prop where
 kin : K.In base
 glob : base.Ns mainGlobals mg
 blt : ∃ mb, base.Ns builtinsNs mb ∧ ∀ x : Str, x ≠ "__name__" → mb x = bootBuiltins x
 nolimit : base.NoLimit
structure Cx where
 prog : Program
 w : World
 K : PySem.W.Frag
 mg : Str → Option Value
 base : Heap
 A : Around
 N : List Str
 s₀ : Shared
 H₀ : Hp
 env : Env
 outer : List Env
 stack : List Env
 ex : List Addr
 fn : Str → Bool
 calm : Bool
 pn : List (Addr × Obj)
 xe : Value → Shared → Prop
def frs (l : List Env) : List Addr := l.filterMap (·.frame)
abbrev Cx.fs (X : Cx) : List Addr := frs X.outer
def Vis (sc : Scope) (x : Str) : Prop := sc.names.lookup x = some .local ∨ sc.names.lookup x = some .cell ∨ sc.names.lookup x = some .free
def Loc (sc : Scope) (x : Str) : Prop := sc.names.lookup x = some .local ∨ sc.names.lookup x = some .cell
def Look (env : Env) (h : Heap) (m : Str → Option Value) (x : Str) (u : Value) : Prop :=
 (env.kindOf x = some .local ∧ m x = some u) ∨ ((env.kindOf x = some .cell ∨ env.kindOf x = some .free) ∧ ∃ c, env.cells.lookup x = some c ∧ h.IsCell c (some u))
structure Cx.Ok (X : Cx) : Prop where
 mod : Mod X.K X.mg X.base
 kind : X.env.scope.kind = .function
 glob : X.env.globals = mainGlobals
 blt : X.env.builtins = builtinsNs
 above : X.s₀.heap.objs.size ≤ X.env.locals
 inj : ∀ x y c, X.env.cells.lookup x = some c → X.env.cells.lookup y = some c → x = y
 has : ∀ x, (X.env.kindOf x = some .cell ∨ X.env.kindOf x = some .free) → ∃ c, X.env.cells.lookup x = some c
 cab : ∀ x c, X.fn x = true → X.env.cells.lookup x = some c → X.s₀.heap.objs.size ≤ c
 hd : X.calm = true → X.A.handled = none
 frames : X.A.frames = some X.stack
 stk : X.stack = X.outer ∨ (X.stack = X.env :: X.outer ∧ X.env.frame = some X.env.locals)
 exf : ∀ b ∈ X.ex, b ≠ X.env.locals ∧ ∀ x c, X.env.cells.lookup x = some c → c ≠ b
 bs : ∀ b o, X.base.get? b = some o → X.s₀.heap.get? b = some o ∧ X.H₀ b = none
 bsz : X.base.objs.size ≤ X.s₀.heap.objs.size
 noex : ∀ b o, X.base.get? b = some o → b ∉ X.ex
 exfs : ∀ b ∈ X.ex, b ∉ X.fs
 funs : X.s₀.heap.FunFrames X.base X.outer
 frf : ∀ b ∈ X.fs, X.H₀ b = none
structure Inv (X : Cx) (pins : List (Addr × Obj)) (σ : List (Option V)) (H : Hp) (s : Shared) : Prop where
 ok : X.Ok
 os : s.os = X.s₀.os
 bare : AllBare s.gens
 base : Un X.fs X.ex X.H₀ H X.s₀.heap s.heap
 loc : ∃ m, s.heap.Ns X.env.locals m ∧ ∀ (i : Nat) (x : Str) (v : V), X.N[i]? = some x → σ[i]? = some (some v) → Vis X.env.scope x → ∃ u, RelV v u ∧ Look X.env s.heap m x u
 cell : ∀ x c, X.env.cells.lookup x = some c → ∃ v, s.heap.IsCell c v
 free : H X.env.locals = none
 freeC : ∀ x c, X.env.cells.lookup x = some c → H c = none
 pin : ∀ p ∈ X.pn ++ pins, s.heap.get? p.1 = some p.2 ∧ H p.1 = none ∧ p.1 ≠ X.env.locals ∧ p.1 ∉ X.fs ∧ ∀ v, p.2.data ≠ .cell v
 hok : HOk X.prog X.w H s.heap
 len : σ.length = X.N.length
section
variable {X : Cx} {pins : List (Addr × Obj)} {σ : List (Option V)} {H H' : Hp} {s : Shared} {h' : Heap}
theorem Cx.Ok.nofr (ok : X.Ok) {b : Addr} {o : Obj} (e : X.base.get? b = some o) : b ∉ X.fs := fun hb => by
 have := (ok.funs.mem hb).1
 rw [e] at this; cases this
theorem Inv.bs (I : Inv X pins σ H s) : ∀ b o, X.base.get? b = some o → s.heap.get? b = some o ∧ H b = none := fun b o e =>
 ⟨I.base.keep b o (I.ok.bs b o e).1 (I.ok.bs b o e).2 (I.ok.nofr e) (I.ok.noex b o e), I.base.free b o (I.ok.bs b o e).1 (I.ok.bs b o e).2 (I.ok.noex b o e)⟩
theorem Inv.bk (I : Inv X pins σ H s) : ∀ b o, X.base.get? b = some o → s.heap.get? b = some o := fun b o e => (I.bs b o e).1
theorem Inv.mod (I : Inv X pins σ H s) : Mod X.K X.mg X.base := I.ok.mod
theorem Inv.kIn (I : Inv X pins σ H s) : X.K.In s.heap := I.ok.mod.kin.keeps I.bk
theorem Inv.lt (I : Inv X pins σ H s) : X.env.locals < s.heap.objs.size := let ⟨_, hn, _⟩ := I.loc; hn.lt
theorem Inv.sz (I : Inv X pins σ H s) : X.s₀.heap.objs.size ≤ s.heap.objs.size := Nat.le_trans I.ok.above (Nat.le_of_lt I.lt)
theorem Inv.nofs (I : Inv X pins σ H s) {a : Addr} (h : s.heap.objs.size ≤ a) : a ∉ X.fs := fun hb => by
 obtain ⟨_, o, ho, _⟩ := I.ok.funs.mem hb
 exact absurd (Nat.lt_of_lt_of_le (Heap.lt_size ho) (Nat.le_trans I.sz h)) (Nat.lt_irrefl _)
theorem Inv.cne (I : Inv X pins σ H s) : ∀ x c, X.env.cells.lookup x = some c → c ≠ X.env.locals := fun x c e z => by
 obtain ⟨v, o, ho, hd⟩ := I.cell x c e
 obtain ⟨m, ⟨o', es, ep, ho', hd', _⟩, _⟩ := I.loc
 rw [z, ho'] at ho; cases ho; rw [hd'] at hd; cases hd
theorem Inv.funs (I : Inv X pins σ H s) : s.heap.FunFrames X.base X.outer := by
 have all : ∀ (l : List Env), (∀ b ∈ frs l, b ∈ X.fs) → X.s₀.heap.FunFrames X.base l → s.heap.FunFrames X.base l := by
  intro l
  induction l with
  | nil => intro _ _; trivial
  | cons env r ih =>
   intro hs hl
   obtain ⟨hk, ⟨L, o, hf, hn, ho, hd⟩, hr⟩ := hl
   have hL : L ∈ X.fs := hs L (by unfold frs; rw [List.filterMap_cons, hf]; exact List.mem_cons_self)
   obtain ⟨sl, e⟩ := I.base.slot L o ho (I.ok.frf L hL) hL fun z => I.ok.exfs L z hL
   exact ⟨hk, ⟨L, _, hf, hn, e, hd⟩, ih (fun b hb => hs b (by unfold frs; rw [List.filterMap_cons, hf]; exact List.mem_cons_of_mem _ hb)) hr⟩
 exact all X.outer (fun _ hb => hb) I.ok.funs
theorem Inv.stack (I : Inv X pins σ H s) : s.heap.FunFrames X.base X.stack := by
 rcases I.ok.stk with e | ⟨e, hf⟩
 ·rw [e]; exact I.funs
 ·rw [e]
  obtain ⟨m, hn, _⟩ := I.loc
  refine .cons (by rw [I.ok.kind]; decide) hf hn ?_ I.funs
  exact Heap.get?_none_of_le (Nat.le_trans I.ok.bsz I.ok.above)
theorem Inv.stkSub (I : Inv X pins σ H s) : ∀ b ∈ frs X.stack, b ∈ X.env.locals :: X.fs := fun b hb => by
 rcases I.ok.stk with e | ⟨e, hf⟩
 ·rw [e] at hb; exact List.mem_cons_of_mem _ hb
 ·rw [e] at hb
  unfold frs at hb
  rw [List.filterMap_cons, hf] at hb
  exact hb
theorem Inv.stkFree (I : Inv X pins σ H s) : ∀ b ∈ frs X.stack, H b = none := fun b hb => by
 rcases List.mem_cons.mp (I.stkSub b hb) with e | hb
 ·rw [e]; exact I.free
 ·obtain ⟨_, o, ho, _⟩ := I.ok.funs.mem hb
  exact I.base.free b o ho (I.ok.frf b hb) fun z => I.ok.exfs b z hb
theorem Inv.step {g' : Array GenState} {t' : Nat} {d' : Drawn} {ch : List Addr} (I : Inv X pins σ H s)
  (hch : ∀ b ∈ ch, (b ∈ X.ex ∨ X.s₀.heap.objs.size ≤ b) ∧ b ≠ X.env.locals ∧ (∀ x c, X.env.cells.lookup x = some c → c ≠ b) ∧ ∀ p ∈ X.pn ++ pins, p.1 ≠ b)
  (keep : ∀ b o, b ≠ X.env.locals → b ∉ X.fs → b ∉ ch → s.heap.get? b = some o → H b = none → h'.get? b = some o)
  (slot : ∀ b o, b ≠ X.env.locals → b ∈ X.fs → b ∉ ch → s.heap.get? b = some o → H b = none → ∃ sl, h'.get? b = some { o with slots := sl }) (free : ∀ b o, b ∉ ch → s.heap.get? b = some o → H b = none → H' b = none)
  (there : ∀ b o, b ∉ ch → s.heap.get? b = some o → ∃ o', h'.get? b = some o')
  (tups : ∀ b xs, H b = some (.tup xs) → H' b = some (.tup xs)) (frzs : ∀ b o u, H b = some (.frz o u) → H' b = some (.frz o u)) (tbls : ∀ b ps, H b = some (.tbl ps) → ∃ more, H' b = some (.tbl (ps ++ more)))
  (ns : ∀ m, s.heap.Ns X.env.locals m → h'.Ns X.env.locals m) (hok : HOk X.prog X.w H' h') (hg : AllBare g') :
  Inv X pins σ H' { s with heap := h', gens := g', drawn := d', toks := t' } := by
 have neL : ∀ b o, X.s₀.heap.get? b = some o → b ≠ X.env.locals := fun b o e => Nat.ne_of_lt (Nat.lt_of_lt_of_le (Heap.lt_size e) I.ok.above)
 have neC : ∀ b o, X.s₀.heap.get? b = some o → b ∉ X.ex → b ∉ ch := fun b o e hx hb => by
  rcases (hch b hb).1 with z | z
  ·exact hx z
  ·exact absurd (Nat.lt_of_lt_of_le (Heap.lt_size e) z) (Nat.lt_irrefl _)
 have cellK : ∀ x c, X.env.cells.lookup x = some c → ∀ v, s.heap.IsCell c v → h'.IsCell c v := fun x c e v ⟨o, ho, hd⟩ => by
  have nch : c ∉ ch := fun z => (hch c z).2.2.1 x c e rfl
  by_cases hc : c ∈ X.fs
  ·obtain ⟨sl, q⟩ := slot c o (I.cne x c e) hc nch ho (I.freeC x c e)
   exact ⟨_, q, hd⟩
  ·exact ⟨o, keep c o (I.cne x c e) hc nch ho (I.freeC x c e), hd⟩
 refine ⟨I.ok, I.os, hg, ⟨fun b o e n hb hx => ?_, fun b o e n hb hx => ?_, fun b o e n hx => ?_, fun b o e hx => ?_, fun b xs e => tups b xs (I.base.tups b xs e), fun b o xs e => frzs b o xs (I.base.frzs b o xs e), fun b ps e => ?_⟩, ?_, fun x c e => ?_, ?_, fun x c e => ?_, fun p hp => ?_, hok, I.len⟩
 ·exact keep b o (neL b o e) hb (neC b o e hx) (I.base.keep b o e n hb hx) (I.base.free b o e n hx)
 ·obtain ⟨sl, e1⟩ := I.base.slot b o e n hb hx
  obtain ⟨sl', e2⟩ := slot b _ (neL b o e) hb (neC b o e hx) e1 (I.base.free b o e n hx)
  exact ⟨sl', e2⟩
 ·obtain ⟨o', e1⟩ := I.base.there b o e hx
  exact free b o' (neC b o e hx) e1 (I.base.free b o e n hx)
 ·obtain ⟨o', e1⟩ := I.base.there b o e hx
  exact there b o' (neC b o e hx) e1
 ·obtain ⟨m1, e1⟩ := I.base.tbls b ps e
  obtain ⟨m2, e2⟩ := tbls b _ e1
  exact ⟨m1 ++ m2, by rw [e2, Array.append_assoc]⟩
 ·obtain ⟨m, hn, hl⟩ := I.loc
  refine ⟨m, ns m hn, fun i x v e1 e2 e3 => ?_⟩
  obtain ⟨u, r, l⟩ := hl i x v e1 e2 e3
  refine ⟨u, r, ?_⟩
  rcases l with l | ⟨k, c, e, z⟩
  ·exact .inl l
  ·exact .inr ⟨k, c, e, cellK x c e _ z⟩
 ·obtain ⟨v, z⟩ := I.cell x c e
  exact ⟨v, cellK x c e v z⟩
 ·obtain ⟨m, ⟨o, _, _, ho, _⟩, _⟩ := I.loc
  exact free _ o (fun z => (hch _ z).2.1 rfl) ho I.free
 ·obtain ⟨v, o, ho, hd⟩ := I.cell x c e
  exact free c o (fun z => (hch c z).2.2.1 x c e rfl) ho (I.freeC x c e)
 ·obtain ⟨e, n, ne, nf, d⟩ := I.pin p hp
  have nch : p.1 ∉ ch := fun z => (hch p.1 z).2.2.2 p hp rfl
  exact ⟨keep p.1 p.2 ne nf nch e n, free p.1 p.2 nch e n, ne, nf, d⟩
theorem Inv.un {t' : Nat} (I : Inv X pins σ H s) (u : Un X.fs [] H H' s.heap h') (hok : HOk X.prog X.w H' h') : Inv X pins σ H' { s with heap := h', toks := t' } := by
 obtain ⟨m, ⟨o, es, ep, ho, r⟩, _⟩ := id I.loc
 obtain ⟨sl, hL⟩ := u.any ho I.free (by simp)
 exact I.step (g' := s.gens) (d' := s.drawn) (ch := []) (fun _ z => nomatch z) (fun b o _ hb _ e n => u.keep b o e n hb (by simp)) (fun b o _ hb _ e n => u.slot b o e n hb (by simp)) (fun b o _ e n => u.free b o e n (by simp)) (fun b o _ e => u.there b o e (by simp)) u.tups u.frzs u.tbls (fun m' hm => by
  obtain ⟨o', es', ep', ho', r'⟩ := hm
  rw [ho] at ho'; cases ho'
  exact ⟨_, es', ep', hL, r'⟩) hok I.bare
theorem Inv.call {g' : Array GenState} {t' : Nat} {d' : Drawn} {ch : List Addr} (I : Inv X pins σ H s) (u : Un (frs X.stack) ch H H' s.heap h') (hok : HOk X.prog X.w H' h') (hg : AllBare g')
  (hch : ∀ b ∈ ch, (b ∈ X.ex ∨ X.s₀.heap.objs.size ≤ b) ∧ b ≠ X.env.locals ∧ (∀ x c, X.env.cells.lookup x = some c → c ≠ b) ∧ ∀ p ∈ X.pn ++ pins, p.1 ≠ b) :
  Inv X pins σ H' { s with heap := h', gens := g', drawn := d', toks := t' } := by
 obtain ⟨m, ⟨o, es, ep, ho, r⟩, _⟩ := id I.loc
 obtain ⟨sl, hL⟩ := u.any ho I.free fun z => (hch _ z).2.1 rfl
 exact I.step (ch := ch) hch (fun b o hL hb hc e n => u.keep b o e n (fun z => (List.mem_cons.mp (I.stkSub b z)).elim hL hb) hc) (fun b o _ _ hc e n => u.any e n hc) (fun b o hc e n => u.free b o e n hc) (fun b o hc e => u.there b o e hc) u.tups u.frzs u.tbls (fun m' hm => by
  obtain ⟨o', es', ep', ho', r'⟩ := hm
  rw [ho] at ho'; cases ho'
  exact ⟨_, es', ep', hL, r'⟩) hok hg
theorem Inv.turned {t' : Nat} {it : Addr} (I : Inv X pins σ H s) (k : ∀ b o, b ≠ it → s.heap.get? b = some o → h'.get? b = some o) (hn : H it = none) (hL : it ≠ X.env.locals)
  (h1 : it ∈ X.ex ∨ X.s₀.heap.objs.size ≤ it) (h2 : ∀ x c, X.env.cells.lookup x = some c → c ≠ it) (h3 : ∀ p ∈ X.pn ++ pins, p.1 ≠ it) : Inv X pins σ H { s with heap := h', toks := t' } := by
 have nit : ∀ b u, H b = some u → b ≠ it := fun b u e z => by rw [z, hn] at e; cases e
 refine I.step (g' := s.gens) (d' := s.drawn) (ch := [it]) (fun b hb => ?_) (fun b o _ _ hc e _ => k b o (fun z => hc (by simp [z])) e) (fun b o _ _ hc e _ => ⟨o.slots, k b o (fun z => hc (by simp [z])) e⟩) (fun _ _ _ _ n => n)
  (fun b o hc e => ⟨o, k b o (fun z => hc (by simp [z])) e⟩) (fun _ _ e => e) (fun _ _ _ e => e) (fun b ps e => ⟨#[], by rw [e]; simp⟩) (fun m hm => ?_) (fun b u e => ?_) I.bare
 ·have e : b = it := by simpa using hb
  subst e
  exact ⟨h1, hL, h2, h3⟩
 ·obtain ⟨o, es, ep, ho, r⟩ := hm
  exact ⟨o, es, ep, k _ o (Ne.symm hL) ho, r⟩
 ·refine (I.hok b u e).stay (fun c v hc q => k c v ?_ q) (fun _ q => q) fun _ _ q => q
  rcases hc with z | z
  ·rw [z]; exact nit b u e
  ·exact nit c _ z
theorem Inv.tok (I : Inv X pins σ H s) (t : Nat) : Inv X pins σ H { s with toks := t } := I.un (h' := s.heap) (t' := t) Un.refl I.hok
theorem Inv.kept {t' : Nat} (I : Inv X pins σ H s) (k : ∀ b u, s.heap.get? b = some u → h'.get? b = some u) : Inv X pins σ H { s with heap := h', toks := t' } := I.un (Un.kept k) (I.hok.kept k)
theorem Inv.laid {a : Addr} {o : HO} {t' : Nat} (I : Inv X pins σ H s) (k : ∀ b u, s.heap.get? b = some u → h'.get? b = some u) (hp : s.heap.objs.size ≤ a) (new : ObjOk X.prog X.w (upd H a o) h' a o) :
  Inv X pins σ (upd H a o) { s with heap := h', toks := t' } := I.un (Un.laid k hp (I.hok.fresh hp)) (I.hok.laid k hp new)
theorem Inv.write {x e : Addr} {o : HO} {t' : Nat} (I : Inv X pins σ H s) (mu : Mut (H x)) (he : e = x ∨ H e = some (.own x)) (k : ∀ b u, b ≠ e → s.heap.get? b = some u → h'.get? b = some u) (heo : ∃ u, h'.get? e = some u)
  (new : ObjOk X.prog X.w (upd H x o) h' x o) : Inv X pins σ (upd H x o) { s with heap := h', toks := t' } := I.un (Un.write mu he k heo) (I.hok.write mu he k heo new)
theorem Inv.pins_of {pins' : List (Addr × Obj)} (I : Inv X pins σ H s) (h : ∀ p ∈ pins', s.heap.get? p.1 = some p.2 ∧ H p.1 = none ∧ p.1 ≠ X.env.locals ∧ p.1 ∉ X.fs ∧ ∀ v, p.2.data ≠ .cell v) : Inv X pins' σ H s :=
 ⟨I.ok, I.os, I.bare, I.base, I.loc, I.cell, I.free, I.freeC, fun p hp => (List.mem_append.mp hp).elim (fun z => I.pin p (List.mem_append_left _ z)) (h p), I.hok, I.len⟩
theorem nodup_ix {N : List Str} (hN : N.Nodup) {i j : Nat} {x : Str} (a : N[i]? = some x) (b : N[j]? = some x) : i = j := by
 obtain ⟨h1, e1⟩ := List.getElem?_eq_some_iff.mp a
 obtain ⟨h2, e2⟩ := List.getElem?_eq_some_iff.mp b
 exact (List.getElem_inj hN).mp (e1.trans e2.symm)
theorem store_ok2 {M : Model} {A : Around} {E : Value → Shared → Prop} {i : Nat} {x : Str} {v : V} {u : Value} {Q : Unit → Shared → Prop} (I : Inv X pins σ H s) (hN : X.N.Nodup) (hi : X.N[i]? = some x) (hx : Loc X.env.scope x) (r : RelV v u)
  (h : ∀ s', Inv X pins (σ.set i (some v)) H s' → (∃ a, Heap.SameBut a s.heap s'.heap ∧ (a = X.env.locals ∨ X.env.cells.lookup x = some a)) → Q () s') (hf : X.fn x = true ∨ X.env.scope.names.lookup x = some .local := by first | exact .inl rfl | exact .inr rfl | assumption) : wpAny M A (storeName X.env x u) Q E s := by
 obtain ⟨m, hn, hl⟩ := id I.loc
 have hcls : (X.env.scope.kind == .class || (X.env.scope.kind == .module && X.env.locals != X.env.globals)) = false := by rw [I.ok.kind]; rfl
 have hiσ : i < σ.length := by rw [I.len]; exact (List.getElem?_eq_some_iff.mp hi).1
 have cne := I.cne
 have tracked : ∀ {a : Addr} {h' : Heap}, (∃ o, s.heap.get? a = some o ∧ H a = none) → Heap.SameBut a s.heap h' → HOk X.prog X.w H h' := fun {a h'} ha hs b ob e => by
  obtain ⟨_, _, hfree⟩ := ha
  refine (I.hok b ob e).stay (fun c w' hc q => (hs.2 c ?_).trans q) (fun _ q => q) fun _ _ q => q
  rintro rfl
  rcases hc with rfl | hc
  ·rw [hfree] at e; cases e
  ·rw [hfree] at hc; cases hc
 rcases hx with hk | hk
 ·refine wpAny_storeName_local hk hn (fun h' hn' hs => ?_) hcls
  obtain ⟨oL, _, _, hoL, _⟩ := id hn
  refine h _ ⟨I.ok, I.os, I.bare, ⟨fun b o e n hb hx => ?_, fun b o e n hb hx => ?_, I.base.free, fun b o e hx => ?_, I.base.tups, I.base.frzs, I.base.tbls⟩, ⟨_, hn', fun j y v' e1 e2 e3 => ?_⟩, fun y c e => ?_, I.free, I.freeC, fun p hp => ?_, tracked ⟨oL, hoL, I.free⟩ hs, by simpa using I.len⟩ ⟨_, hs, .inl rfl⟩
  ·exact (hs.2 b (Nat.ne_of_lt (Nat.lt_of_lt_of_le (Heap.lt_size e) I.ok.above))).trans (I.base.keep b o e n hb hx)
  ·obtain ⟨sl, e1⟩ := I.base.slot b o e n hb hx
   exact ⟨sl, (hs.2 b (Nat.ne_of_lt (Nat.lt_of_lt_of_le (Heap.lt_size e) I.ok.above))).trans e1⟩
  ·obtain ⟨o', e1⟩ := I.base.there b o e hx
   exact ⟨o', (hs.2 b (Nat.ne_of_lt (Nat.lt_of_lt_of_le (Heap.lt_size e) I.ok.above))).trans e1⟩
  ·by_cases hj : j = i
   ·subst hj
    rw [hi] at e1; cases e1
    rw [List.getElem?_set_self hiσ] at e2
    cases e2
    exact ⟨u, r, .inl ⟨hk, by simp⟩⟩
   ·rw [List.getElem?_set_ne (Ne.symm hj)] at e2
    obtain ⟨u', r', q⟩ := hl j y v' e1 e2 e3
    refine ⟨u', r', ?_⟩
    rcases q with ⟨k, e⟩ | ⟨k, c, e, z⟩
    ·refine .inl ⟨k, ?_⟩
     have : y ≠ x := fun e => hj (nodup_ix hN e1 (e ▸ hi))
     simp [this, e]
    ·exact .inr ⟨k, c, e, z.sameBut hs (cne y c e)⟩
  ·obtain ⟨w', z⟩ := I.cell y c e
   exact ⟨w', z.sameBut hs (cne y c e)⟩
  ·obtain ⟨e, n, ne, nf, d⟩ := I.pin p hp
   exact ⟨(hs.2 p.1 ne).trans e, n, ne, nf, d⟩
 ·have hfn : X.fn x = true := by
   rcases hf with z | z
   ·exact z
   ·rw [z] at hk; cases hk
  obtain ⟨c, hc⟩ := I.ok.has x (.inl hk)
  obtain ⟨w', z⟩ := I.cell x c hc
  refine wpAny_storeName_cell I.ok.kind hk hc z (fun h' hc' hs => ?_)
  obtain ⟨oc, hoc, hocd⟩ := id z
  refine h { s with heap := h' } ⟨I.ok, I.os, I.bare, ⟨fun b o e n hb hx => ?_, fun b o e n hb hx => ?_, I.base.free, fun b o e hx => ?_, I.base.tups, I.base.frzs, I.base.tbls⟩, ⟨m, hn.sameBut hs (Ne.symm (cne x c hc)), fun j y v' e1 e2 e3 => ?_⟩, fun y c' e => ?_, I.free, I.freeC, fun p hp => ?_, tracked ⟨oc, hoc, I.freeC x c hc⟩ hs, by simpa using I.len⟩ ⟨c, hs, .inr hc⟩
  ·exact (hs.2 b (Nat.ne_of_lt (Nat.lt_of_lt_of_le (Heap.lt_size e) (I.ok.cab x c hfn hc)))).trans (I.base.keep b o e n hb hx)
  ·obtain ⟨sl, e1⟩ := I.base.slot b o e n hb hx
   exact ⟨sl, (hs.2 b (Nat.ne_of_lt (Nat.lt_of_lt_of_le (Heap.lt_size e) (I.ok.cab x c hfn hc)))).trans e1⟩
  ·obtain ⟨o', e1⟩ := I.base.there b o e hx
   exact ⟨o', (hs.2 b (Nat.ne_of_lt (Nat.lt_of_lt_of_le (Heap.lt_size e) (I.ok.cab x c hfn hc)))).trans e1⟩
  ·by_cases hj : j = i
   ·subst hj
    rw [hi] at e1; cases e1
    rw [List.getElem?_set_self hiσ] at e2
    cases e2
    exact ⟨u, r, .inr ⟨.inl hk, c, hc, hc'⟩⟩
   ·rw [List.getElem?_set_ne (Ne.symm hj)] at e2
    obtain ⟨u', r', q⟩ := hl j y v' e1 e2 e3
    refine ⟨u', r', ?_⟩
    rcases q with q | ⟨k, c', e, z'⟩
    ·exact .inl q
    ·refine .inr ⟨k, c', e, z'.sameBut hs ?_⟩
     rintro rfl
     exact hj (nodup_ix hN e1 (I.ok.inj _ _ _ e hc ▸ hi))
  ·by_cases hcc : c' = c
   ·subst hcc; exact ⟨_, hc'⟩
   ·obtain ⟨w2, z2⟩ := I.cell y c' e
    exact ⟨w2, z2.sameBut hs hcc⟩
  ·obtain ⟨e, n, ne, nf, d⟩ := I.pin p hp
   refine ⟨(hs.2 p.1 ?_).trans e, n, ne, nf, d⟩
   intro q
   rw [q, hoc] at e
   have q' : oc = p.2 := Option.some.inj e
   exact d w' (by rw [← q']; exact hocd)
theorem store_ok {M : Model} {A : Around} {E : Value → Shared → Prop} {i : Nat} {x : Str} {v : V} {u : Value} {Q : Unit → Shared → Prop} (I : Inv X pins σ H s) (hN : X.N.Nodup) (hi : X.N[i]? = some x) (hx : Loc X.env.scope x) (r : RelV v u)
  (h : ∀ s', Inv X pins (σ.set i (some v)) H s' → Q () s') (hf : X.fn x = true ∨ X.env.scope.names.lookup x = some .local := by first | exact .inl rfl | exact .inr rfl | assumption) : wpAny M A (storeName X.env x u) Q E s :=
 store_ok2 I hN hi hx r (fun s' I' _ => h s' I') hf
theorem Inv.call' {s' : Shared} {ch : List Addr} (I : Inv X pins σ H s) (ho : s'.os = s.os) (u : Un (frs X.stack) ch H H' s.heap s'.heap) (hok : HOk X.prog X.w H' s'.heap) (hg : AllBare s'.gens)
  (hch : ∀ b ∈ ch, (b ∈ X.ex ∨ X.s₀.heap.objs.size ≤ b) ∧ b ≠ X.env.locals ∧ (∀ x c, X.env.cells.lookup x = some c → c ≠ b) ∧ ∀ p ∈ X.pn ++ pins, p.1 ≠ b) : Inv X pins σ H' s' := by
 obtain ⟨h', g', d', t', o'⟩ := s'
 have e : o' = s.os := ho
 subst e
 exact I.call (g' := g') (t' := t') (d' := d') u hok hg hch
end
abbrev XK := Value → Option Addr → Hp → Prop
abbrev St := List (Option V)
abbrev VK := V → Hp → Prop
abbrev TE := St → Hp → VK → Prop
abbrev TT := St → Hp → (Bool → Hp → Prop) → Prop
abbrev TA := St → Hp → (List V → Hp → Prop) → Prop
structure Ends where
 nx : St → Hp → Prop
 rt : VK
 bk : St → Hp → Prop := fun _ _ => False
 ct : St → Hp → Prop := fun _ _ => False
abbrev TS := Ends → St → Hp → Prop
def EP (X : Cx) (pins : List (Addr × Obj)) (σ : St) (Q : VK) (u : Value) (s' : Shared) : Prop := ∃ v H', Inv X pins σ H' s' ∧ RelV v u ∧ Q v H'
def TP (X : Cx) (pins : List (Addr × Obj)) (σ : St) (Q : Bool → Hp → Prop) (b : Bool) (s' : Shared) : Prop := ∃ H', Inv X pins σ H' s' ∧ Q b H'
def AP (X : Cx) (pins : List (Addr × Obj)) (σ : St) (Q : List V → Hp → Prop) (us : List Value) (s' : Shared) : Prop := ∃ vs H', Inv X pins σ H' s' ∧ Vals vs us ∧ Q vs H'
def SP (X : Cx) (pins : List (Addr × Obj)) (D : Ends) (f : Flow) (s' : Shared) : Prop :=
 match f with
 | .next => ∃ σ' H', Inv X pins σ' H' s' ∧ D.nx σ' H'
 | .brk => ∃ σ' H', Inv X pins σ' H' s' ∧ D.bk σ' H'
 | .cont => ∃ σ' H', Inv X pins σ' H' s' ∧ D.ct σ' H'
 | .ret u => ∃ v σ' H', Inv X pins σ' H' s' ∧ RelV v u ∧ D.rt v H'
def PE (X : Cx) (e : Expr) (t : TE) : Prop :=
 ∀ (pins : List (Addr × Obj)) (s : Shared) (σ : St) (H : Hp) (Q : VK), Inv X pins σ H s → t σ H Q → wpAny (model X.prog X.w) X.A (eval e X.env) (EP X pins σ Q) X.xe s
def PT (X : Cx) (e : Expr) (t : TT) : Prop :=
 ∀ (pins : List (Addr × Obj)) (s : Shared) (σ : St) (H : Hp) (Q : Bool → Hp → Prop), Inv X pins σ H s → t σ H Q → wpAny (model X.prog X.w) X.A (isTrue e X.env (eval e X.env)) (TP X pins σ Q) X.xe s
def PW (X : Cx) (e : Expr) (t : TT) : Prop :=
 ∀ (whole : Sem Value) (pins : List (Addr × Obj)) (s : Shared) (σ : St) (H : Hp) (Q : Bool → Hp → Prop), Inv X pins σ H s → t σ H Q → wpAny (model X.prog X.w) X.A (isTrue e X.env whole) (TP X pins σ Q) X.xe s
theorem PW.pt {X : Cx} {e : Expr} {t : TT} (h : PW X e t) : PT X e t := h _
def PA (X : Cx) (es : List Expr) (t : TA) : Prop :=
 ∀ (pos : Pos) (pins : List (Addr × Obj)) (s : Shared) (σ : St) (H : Hp) (Q : List V → Hp → Prop), Inv X pins σ H s → t σ H Q → wpAny (model X.prog X.w) X.A (spliced (backTo pos (starEach es X.env))) (AP X pins σ Q) X.xe s
def PS (X : Cx) (st : Stmt) (t : TS) : Prop :=
 ∀ (pins : List (Addr × Obj)) (s : Shared) (σ : St) (H : Hp) (D : Ends), Inv X pins σ H s → t D σ H → wpAny (model X.prog X.w) X.A (exec st X.env) (SP X pins D) X.xe s
def PSs (X : Cx) (st : List Stmt) (t : TS) : Prop :=
 ∀ (pins : List (Addr × Obj)) (s : Shared) (σ : St) (H : Hp) (D : Ends), Inv X pins σ H s → t D σ H → wpAny (model X.prog X.w) X.A (execs st X.env) (SP X pins D) X.xe s
theorem thn {α : Type} {t : Sem α} {Q Q' : α → Shared → Prop} {M : Model} {A : Around} {E : Value → Shared → Prop} {s : Shared} (h : wpAny M A t Q E s) (hQ : ∀ a s, Q a s → Q' a s) : wpAny M A t Q' E s := wpAny_mono h hQ fun _ _ x => x
end L2
namespace L2
open PySem PySem.Spec PyProof.Rows
section
variable {X : Cx}
def tVar (i : Nat) : TE := fun σ H Q => ∃ v, σ[i]? = some (some v) ∧ Q v H
def tC (v : V) : TE := fun _ H Q => Q v H
theorem pe_var {i : Nat} {x : Str} {pos : Pos} (hN : X.N[i]? = some x) (hv : Vis X.env.scope x) (hd : (x == ("__debug__" : Str)) = false := by decide) (hcd : (x == ("__classdict__" : Str)) = false := by decide) : PE X (.Name x pos) (tVar i) := by
 intro pins s σ H Q I h
 obtain ⟨v, e, h⟩ := h
 obtain ⟨m, hn, hl⟩ := I.loc
 obtain ⟨u, r, l⟩ := hl i x v hN e hv
 have fin : EP X pins σ Q u s := ⟨v, H, I, r, h⟩
 rcases l with ⟨hk, hm⟩ | ⟨hk, c, hc, hcell⟩
 ·exact wpAny_Name (wpAny_loadName_local I.ok.kind hk hn hm fin) hd
 ·rcases hk with hk | hk
  ·exact wpAny_Name (wpAny_loadName_cell I.ok.kind hk hc hcell fin) hd
  ·exact wpAny_Name (wpAny_loadName_free I.ok.kind hk hc hcell fin hcd) hd
theorem pe_int {i j pos} : PE X (.Constant (.int i) j pos) (tC (.int i)) := fun _ _ _ H _ I h => wpAny_Constant_int ⟨.int i, H, I.tok _, ⟨_, rfl⟩, h⟩
theorem pe_bl {b j pos} : PE X (.Constant (.bool b) j pos) (tC (.bl b)) := fun _ _ _ H _ I h => Constant_bool ⟨.bl b, H, I, rfl, h⟩
theorem pe_non {j pos} : PE X (.Constant .none j pos) (tC .non) := fun _ _ _ H _ I h => Constant_none ⟨.non, H, I, rfl, h⟩
theorem pe_str {x j pos} : PE X (.Constant (.str x) j pos) (tC (.str x)) := fun _ _ _ H _ I h => Calls.Constant_str ⟨.str x, H, I.tok _, ⟨_, rfl⟩, h⟩
def Gl (X : Cx) (x : Str) : Prop := X.env.kindOf x = some .globalImplicit
theorem ld_glob {E : Value → Shared → Prop} {pins : List (Addr × Obj)} {s : Shared} {σ : St} {H : Hp} {x : Str} {u : Value} {pos : Pos} {Q : Value → Shared → Prop} (I : Inv X pins σ H s) (hg : Gl X x) (hm : X.mg x = some u) (h : Q u s)
  (hd : (x == ("__debug__" : Str)) = false := by decide) : wpAny (model X.prog X.w) X.A (eval (.Name x pos) X.env) Q E s :=
 Calls.Name_function_global I.ok.kind hg (Calls.loadGlobal_global (by rw [I.ok.glob]; exact I.mod.glob.keeps I.bk) hm h) hd
theorem ld_blt {E : Value → Shared → Prop} {pins : List (Addr × Obj)} {s : Shared} {σ : St} {H : Hp} {x : Str} {u : Value} {pos : Pos} {Q : Value → Shared → Prop} (I : Inv X pins σ H s) (hg : Gl X x) (hm : X.mg x = none) (hv : bootBuiltins x = some u) (h : Q u s)
  (hn : x ≠ "__name__" := by decide) (hd : (x == ("__debug__" : Str)) = false := by decide) : wpAny (model X.prog X.w) X.A (eval (.Name x pos) X.env) Q E s := by
 obtain ⟨mb, h1, h2⟩ := I.mod.blt
 exact Calls.Name_function_global I.ok.kind hg (Calls.loadGlobal_builtin (by rw [I.ok.glob]; exact I.mod.glob.keeps I.bk) hm (by rw [I.ok.blt]; exact h1.keeps I.bk) ((h2 x hn).trans hv) h) hd
theorem pe_glob {x : Str} {v : V} {u : Value} {pos : Pos} (hg : Gl X x) (hm : X.mg x = some u) (r : RelV v u) (hd : (x == ("__debug__" : Str)) = false := by decide) : PE X (.Name x pos) (tC v) :=
 fun _ _ _ H _ I h => ld_glob I hg hm ⟨v, H, I, r, h⟩ hd
theorem pe_bltn {x : Str} {v : V} {u : Value} {pos : Pos} (hg : Gl X x) (hm : X.mg x = none) (hv : bootBuiltins x = some u) (r : RelV v u) (hn : x ≠ "__name__" := by decide) (hd : (x == ("__debug__" : Str)) = false := by decide) : PE X (.Name x pos) (tC v) :=
 fun _ _ _ H _ I h => ld_blt I hg hm hv ⟨v, H, I, r, h⟩ hn hd
variable {a b : Expr} {ta tb : TE} {pos : Pos}
def PC (X : Cx) (op : CmpOp) (a b : Expr) (t : TE) : Prop :=
 ∀ (pins : List (Addr × Obj)) (s : Shared) (σ : St) (H : Hp) (Q : VK), Inv X pins σ H s → t σ H Q →
  wpAny (model X.prog X.w) X.A (eval a X.env) (fun v s₁ => wpAny (model X.prog X.w) X.A (eval b X.env) (fun u s₂ => wpAny (model X.prog X.w) X.A (compareOp op v u) (EP X pins σ Q) X.xe s₂) X.xe s₁) X.xe s
def tB (t : TE) : TT := fun σ H Q => t σ H fun x H1 => ∃ c, x = .bl c ∧ Q c H1
theorem pt_cmp {op : CmpOp} {t : TE} (h : PC X op a b t) (h1 : behindInMarks op b = false := by first | exact nobehind _ (by decide) (by decide) | rfl) : PT X (.Compare a [op] [b] pos) (tB t) := by
 intro pins s σ H Q I hw
 refine wpAny_isTrue_Compare1 (thn (h pins s σ H _ I hw) fun v s1 h1 => thn h1 fun u s2 h2 => thn h2 fun c s3 ⟨x, H1, I1, r1, q1⟩ => ?_) h1
 obtain ⟨d, rfl, q⟩ := q1
 cases r1
 exact wpAny_truthy_bool ⟨H1, I1, q⟩
theorem pt_val {e : Expr} {t : TE} (h : PE X e t) (he : ∀ whole, isTrue e X.env whole = (do let v ← whole; standAt e.pos; holding [v] (truthy v)) := by intro _; rfl) : PT X e (tB t) := by
 intro pins s σ H Q I hw
 refine isTrue_plain (thn (h pins s σ H _ I hw) fun v s1 ⟨x, H1, I1, r1, q1⟩ => ?_) (he _)
 obtain ⟨d, rfl, q⟩ := q1
 cases r1
 exact wpAny_truthy_bool ⟨H1, I1, q⟩
variable {tA tB' : TT} {rest : List Expr}
def tAnd (t u : TT) : TT := fun σ H Q => t σ H fun c H1 => if c = true then u σ H1 Q else Q false H1
def tOr (t u : TT) : TT := fun σ H Q => t σ H fun c H1 => if c = true then Q true H1 else u σ H1 Q
def tNot (t : TT) : TT := fun σ H Q => t σ H fun c H1 => Q (!c) H1
theorem pw_and1 (ha : PT X a tA) : PW X (.BoolOp .And [a] pos) tA := by
 intro wh pins s σ H Q I h
 refine isTrue_and (thn (ha pins s σ H Q I h) fun c s1 e => ?_)
 cases c with
 | true => exact isTrue_and_nil e
 | false => exact e
theorem pw_or1 (ha : PT X a tA) : PW X (.BoolOp .Or [a] pos) tA := by
 intro wh pins s σ H Q I h
 refine isTrue_or (thn (ha pins s σ H Q I h) fun c s1 e => ?_)
 cases c with
 | false => exact isTrue_or_nil e
 | true => exact e
theorem pw_and (ha : PT X a tA) (hb : PW X (.BoolOp .And (b :: rest) pos) tB') : PW X (.BoolOp .And (a :: b :: rest) pos) (tAnd tA tB') := by
 intro wh pins s σ H Q I h
 refine isTrue_and (thn (ha pins s σ H _ I h) fun c s1 ⟨H1, I1, q1⟩ => ?_)
 cases c with
 | true => exact hb wh pins s1 σ H1 Q I1 q1
 | false => exact ⟨H1, I1, q1⟩
theorem pw_or (ha : PT X a tA) (hb : PW X (.BoolOp .Or (b :: rest) pos) tB') : PW X (.BoolOp .Or (a :: b :: rest) pos) (tOr tA tB') := by
 intro wh pins s σ H Q I h
 refine isTrue_or (thn (ha pins s σ H _ I h) fun c s1 ⟨H1, I1, q1⟩ => ?_)
 cases c with
 | true => exact ⟨H1, I1, q1⟩
 | false => exact hb wh pins s1 σ H1 Q I1 q1
theorem pt_not (ha : PT X a tA) : PT X (.UnaryOp .Not a pos) (tNot tA) := by
 intro pins s σ H Q I h
 exact isTrue_not (ha pins s σ H (fun c H1 => Q (!c) H1) I h)
def tAndV (ta tb : TE) : TE := fun σ H Q => ta σ H fun x H1 => ∃ c, x = .bl c ∧ if c = true then tb σ H1 Q else Q (.bl false) H1
def tNotV (ta : TE) : TE := fun σ H Q => ta σ H fun x H1 => ∃ c, x = .bl c ∧ Q (.bl (!c)) H1
theorem pe_one {op} {t : TE} (h : PE X a t) : PE X (.BoolOp op [a] pos) t := fun pins s σ H Q I hw => BoolOp_one (h pins s σ H Q I hw)
theorem pe_and (ha : PE X a ta) (hb : PE X (.BoolOp .And (b :: rest) pos) tb) : PE X (.BoolOp .And (a :: b :: rest) pos) (tAndV ta tb) := by
 intro pins s σ H Q I h
 refine BoolOp_and (thn (ha pins s σ H _ I h) fun v s1 ⟨x, H1, I1, r1, q1⟩ => ?_)
 obtain ⟨c, rfl, q1⟩ := q1
 cases r1
 refine wpAny_truthy_bool ?_
 cases c with
 | true => exact hb pins s1 σ H1 Q I1 q1
 | false => exact ⟨.bl false, H1, I1, rfl, q1⟩
theorem pe_not (ha : PE X a ta) : PE X (.UnaryOp .Not a pos) (tNotV ta) := by
 intro pins s σ H Q I h
 refine UnaryOp_ (thn (ha pins s σ H _ I h) fun v s1 ⟨x, H1, I1, r1, q1⟩ => ?_)
 obtain ⟨c, rfl, q1⟩ := q1
 cases r1
 exact not_of (wpAny_truthy_bool ⟨.bl (!c), H1, I1, rfl, q1⟩)
def tIf (t : TT) (ta tb : TE) : TE := fun σ H Q => t σ H fun c H1 => if c = true then ta σ H1 Q else tb σ H1 Q
theorem pe_ifExp {c : Expr} (hc : PT X c tA) (ha : PE X a ta) (hb : PE X b tb) : PE X (.IfExp c a b pos) (tIf tA ta tb) := by
 intro pins s σ H Q I h
 refine wpAny_IfExp (thn (hc pins s σ H _ I h) fun d s1 ⟨H1, I1, q1⟩ => ?_)
 cases d with
 | true => exact ha pins s1 σ H1 Q I1 q1
 | false => exact hb pins s1 σ H1 Q I1 q1
end
end L2
namespace L2
open PySem PySem.Spec PyProof.Rows
def SqL (K : PySem.W.Frag) (H : Hp) (a : Addr) (xs : List V) : Prop :=
 Rd H a (.lst xs) ∨
  ∃ (o : Obj) (its : Array Value) (n : Nat), K.lookup a = some o ∧ o.cls = .type "list" ∧ o.dict = none ∧ o.data = .seq its n ∧ its.size ≤ sizeLine ∧ Vals xs its.toList
def SqT (K : PySem.W.Frag) (H : Hp) (a : Addr) (xs : List V) : Prop :=
 Rd H a (.tup xs) ∨
  ∃ (o : Obj) (its : Array Value) (n : Nat), K.lookup a = some o ∧ o.cls = .type "tuple" ∧ o.data = .seq its n ∧ its.size ≤ sizeLine ∧ Vals xs its.toList
def absV : Value → Option V
 | .none => some .non
 | .bool b => some (.bl b)
 | .int i _ => some (.int i)
 | .str x _ => some (.str x)
 | .bytes b _ => some (.byt b)
 | .float b _ => some (.flt b)
 | .ref a => some (.ref a)
 | .type n => some (.ty n)
 | _ => none
theorem RelV.abs {x : V} {u : Value} (r : RelV x u) : absV u = some x := by
 cases x with
 | non => cases r; rfl
 | bl _ => cases r; rfl
 | int _ => obtain ⟨t, rfl⟩ := r; rfl
 | str _ => obtain ⟨t, rfl⟩ := r; rfl
 | byt _ => obtain ⟨t, rfl⟩ := r; rfl
 | flt _ => obtain ⟨t, rfl⟩ := r; rfl
 | ref _ => cases r; rfl
 | ty _ => cases r; rfl
theorem RelV.inj {x y : V} {u : Value} (r : RelV x u) (q : RelV y u) : x = y := Option.some.inj (r.abs.symm.trans q.abs)
theorem Vals.inj : ∀ {xs ys : List V} {us : List Value}, Vals xs us → Vals ys us → xs = ys
 | _, _, _, .nil, .nil => rfl
 | _, _, _, .cons r t, .cons r' t' => by rw [r.inj r', Vals.inj t t']
section
variable {X : Cx} {pins : List (Addr × Obj)} {σ : St} {H : Hp} {s : Shared} {a : Addr} {xs ys : List V}
theorem SqL.of {K : PySem.W.Frag} (h : H a = some (.lst xs)) : SqL K H a xs := .inl (.inl h)
theorem SqT.of {K : PySem.W.Frag} (h : H a = some (.tup xs)) : SqT K H a xs := .inl (.inl h)
theorem Inv.list (I : Inv X pins σ H s) (h : SqL X.K H a xs) : ∃ its : List Value, Vals xs its ∧ PlainL s.heap a its.toArray ∧ xs.length ≤ sizeLine := by
 rcases h with h | ⟨o, its, n, hk, hc, hd, hs, hz, r⟩
 ·obtain ⟨z, its, n, r, e⟩ := h.ok I.hok
  exact ⟨its, r, ⟨_, n, e, rfl, rfl, rfl⟩, z⟩
 ·refine ⟨its.toList, r, ⟨o, n, I.kIn a o hk, hc, hd, by simpa using hs⟩, ?_⟩
  have e := r.length
  simp only [Array.length_toList] at e
  omega
theorem Inv.tuple (I : Inv X pins σ H s) (h : SqT X.K H a xs) : ∃ its : List Value, Vals xs its ∧ IsTup s.heap a its.toArray ∧ xs.length ≤ sizeLine := by
 rcases h with h | ⟨o, its, n, hk, hc, hs, hz, r⟩
 ·obtain ⟨z, its, r, p⟩ := h.ok I.hok
  exact ⟨its, r, p.tup, z⟩
 ·refine ⟨its.toList, r, ⟨o, I.kIn a o hk, hc, n, by simpa using hs⟩, ?_⟩
  have e := r.length
  simp only [Array.length_toList] at e
  omega
theorem Inv.list_inj (I : Inv X pins σ H s) (h : SqL X.K H a xs) (h' : SqL X.K H a ys) : xs = ys := by
 obtain ⟨its, r, ⟨o, n, e, _, _, d⟩, _⟩ := I.list h
 obtain ⟨its', r', ⟨o', n', e', _, _, d'⟩, _⟩ := I.list h'
 rw [e] at e'; cases e'
 rw [d] at d'
 injection d' with d1 _
 have : its = its' := by simpa using congrArg Array.toList d1
 subst this
 exact r.inj r'
theorem Inv.tuple_inj (I : Inv X pins σ H s) (h : SqT X.K H a xs) (h' : SqT X.K H a ys) : xs = ys := by
 obtain ⟨its, r, ⟨o, e, _, n, d⟩, _⟩ := I.tuple h
 obtain ⟨its', r', ⟨o', e', _, n', d'⟩, _⟩ := I.tuple h'
 rw [e] at e'; cases e'
 rw [d] at d'
 injection d' with d1 _
 have : its = its' := by simpa using congrArg Array.toList d1
 subst this
 exact r.inj r'
end
abbrev Cx.wish (X : Cx) (E : Value → Shared → Prop) : Cx := { X with xe := E }
abbrev Cx.nox (X : Cx) : Cx := X.wish fun _ _ => False
theorem Cx.Ok.wish {X : Cx} (ok : X.Ok) (E : Value → Shared → Prop) : (X.wish E).Ok :=
 ⟨ok.mod, ok.kind, ok.glob, ok.blt, ok.above, ok.inj, ok.has, ok.cab, ok.hd, ok.frames, ok.stk, ok.exf, ok.bs, ok.bsz, ok.noex, ok.exfs, ok.funs, ok.frf⟩
theorem Cx.Ok.unwish {X : Cx} {E : Value → Shared → Prop} (ok : (X.wish E).Ok) : X.Ok :=
 ⟨ok.mod, ok.kind, ok.glob, ok.blt, ok.above, ok.inj, ok.has, ok.cab, ok.hd, ok.frames, ok.stk, ok.exf, ok.bs, ok.bsz, ok.noex, ok.exfs, ok.funs, ok.frf⟩
section
variable {X : Cx} {pins : List (Addr × Obj)} {σ : St} {H : Hp} {s : Shared} {E : Value → Shared → Prop}
theorem Inv.wish (I : Inv X pins σ H s) (E : Value → Shared → Prop) : Inv (X.wish E) pins σ H s := ⟨I.ok.wish E, I.os, I.bare, I.base, I.loc, I.cell, I.free, I.freeC, I.pin, I.hok, I.len⟩
theorem Inv.unwish (I : Inv (X.wish E) pins σ H s) : Inv X pins σ H s := ⟨I.ok.unwish, I.os, I.bare, I.base, I.loc, I.cell, I.free, I.freeC, I.pin, I.hok, I.len⟩
theorem SP.unwish {D : Ends} {f : Flow} {s' : Shared} (h : SP (X.wish E) pins D f s') : SP X pins D f s' := by
 cases f with
 | next => obtain ⟨σ', H', I, q⟩ := h; exact ⟨σ', H', I.unwish, q⟩
 | brk => obtain ⟨σ', H', I, q⟩ := h; exact ⟨σ', H', I.unwish, q⟩
 | cont => obtain ⟨σ', H', I, q⟩ := h; exact ⟨σ', H', I.unwish, q⟩
 | ret u => obtain ⟨v, σ', H', I, r, q⟩ := h; exact ⟨v, σ', H', I.unwish, r, q⟩
theorem PSs.nox {st : List Stmt} {t : TS} (h : PSs X.nox st t) : PSs X st t := fun pins s σ H D I hw =>
 wpAny_mono (h pins s σ H D (I.wish _) hw) (fun _ _ q => q.unwish) fun _ _ z => False.elim z
end
section
variable {X : Cx} {st : Stmt} {rest : List Stmt} {t u : TS} {e : Expr} {te : TE} {pos : Pos}
def tNext : TS := fun D σ H => D.nx σ H
def tSeq (t u : TS) : TS := fun D σ H => t { D with nx := u D } σ H
theorem pss_nil : PSs X [] tNext := fun _ _ σ H _ I h => wpAny_execs_nil ⟨σ, H, I, h⟩
theorem pss_cons (h1 : PS X st t) (h2 : PSs X rest u) : PSs X (st :: rest) (tSeq t u) := by
 intro pins s σ H D I h
 refine wpAny_execs_cons (thn (h1 pins s σ H { D with nx := u D } I h) fun f s1 q => ?_)
 cases f with
 | next =>
  obtain ⟨σ', H', I', q⟩ := q
  exact h2 pins s1 σ' H' D I' q
 | ret v => exact q
 | brk => exact q
 | cont => exact q
theorem pss_one (h1 : PS X st t) : PSs X [st] t := by
 intro pins s σ H D I h
 refine wpAny_execs_cons (thn (h1 pins s σ H D I h) fun f s1 q => ?_)
 cases f with
 | next => exact wpAny_execs_nil q
 | ret v => exact q
 | brk => exact q
 | cont => exact q
theorem Inv.quiet {pins : List (Addr × Obj)} {σ : St} {H : Hp} {s : Shared} (I : Inv X pins σ H s) : interactive X.env = false := by simp [interactive, I.ok.kind]
def tDrop (te : TE) : TS := fun D σ H => te σ H fun _ H1 => D.nx σ H1
theorem ps_expr (he : PE X e te) (hs : swapsWith e none pos.line X.env = pure false := by rfl) : PS X (.Expr e pos) (tDrop te) := by
 intro pins s σ H D I h
 exact wpAny_Expr_any (thn (he pins s σ H _ I h) fun v s1 ⟨x, H1, I1, r1, q1⟩ => ⟨σ, H1, I1, q1⟩) I.quiet hs
def tRet (te : TE) : TS := fun D σ H => te σ H D.rt
theorem ps_ret (he : PE X e te) : PS X (.Return (some e) pos) (tRet te) := by
 intro pins s σ H D I h
 exact wpAny_Return_some (thn (he pins s σ H _ I h) fun v s1 ⟨x, H1, I1, r1, q1⟩ => ⟨x, σ, H1, I1, r1, q1⟩)
def tIfS (c : TT) (t u : TS) : TS := fun D σ H => c σ H fun b H1 => if b = true then t D σ H1 else u D σ H1
theorem ps_if {c : Expr} {a b : List Stmt} {tc : TT} (hc : PT X c tc) (ha : PSs X a t) (hb : PSs X b u) : PS X (.If c a b pos) (tIfS tc t u) := by
 intro pins s σ H D I h
 refine wpAny_If (thn (hc pins s σ H _ I h) fun d s1 ⟨H1, I1, q1⟩ => ?_)
 cases d with
 | true => exact ha pins s1 σ H1 D I1 q1
 | false => exact hb pins s1 σ H1 D I1 q1
end
abbrev TG := V → St → Hp → (St → Hp → Prop) → Prop
abbrev TGs := List V → St → Hp → (St → Hp → Prop) → Prop
def PG (X : Cx) (target : Expr) (t : TG) : Prop :=
 ∀ (pins : List (Addr × Obj)) (s : Shared) (σ : St) (H : Hp) (v : V) (u : Value) (Q : St → Hp → Prop), Inv X pins σ H s → RelV v u → t v σ H Q →
  wpAny (model X.prog X.w) X.A (assign target X.env u) (fun _ s' => ∃ σ' H', Inv X pins σ' H' s' ∧ Q σ' H') X.xe s
def PGs (X : Cx) (ts : List Expr) (t : TGs) : Prop :=
 ∀ (pins : List (Addr × Obj)) (s : Shared) (σ : St) (H : Hp) (vs : List V) (us : List Value) (Q : St → Hp → Prop), Inv X pins σ H s → Vals vs us → t vs σ H Q →
  wpAny (model X.prog X.w) X.A (assignInOrder ((assignEach ts X.env).map (·.2)) us) (fun _ s' => ∃ σ' H', Inv X pins σ' H' s' ∧ Q σ' H') X.xe s
abbrev TSet := V → V → V → Hp → (Hp → Prop) → Prop
def PSet (X : Cx) (t : TSet) : Prop :=
 ∀ (pins : List (Addr × Obj)) (s : Shared) (σ : St) (H : Hp) (o i v : V) (ov iv u : Value) (Q : Hp → Prop), Inv X pins σ H s → RelV o ov → RelV i iv → RelV v u → t o i v H Q →
  wpAny (model X.prog X.w) X.A (setItem ov iv u) (fun _ s' => ∃ H', Inv X pins σ H' s' ∧ Q H') X.xe s
abbrev TIp := V → V → Hp → VK → Prop
def PIp (X : Cx) (op : Operator) (t : TIp) : Prop :=
 ∀ (pins : List (Addr × Obj)) (s : Shared) (σ : St) (H : Hp) (x y : V) (v u : Value) (Q : VK), Inv X pins σ H s → RelV x v → RelV y u → t x y H Q →
  wpAny (model X.prog X.w) X.A (inplaceOp op v u) (EP X pins σ Q) X.xe s
section
variable {X : Cx} {pos : Pos}
def gName (i : Nat) : TG := fun v σ H Q => Q (σ.set i (some v)) H
theorem pg_name {i : Nat} {x : Str} (hN : X.N.Nodup) (hi : X.N[i]? = some x) (hx : Loc X.env.scope x) (hf : X.fn x = true ∨ X.env.scope.names.lookup x = some .local := by first | exact .inl rfl | exact .inr rfl | assumption) : PG X (.Name x pos) (gName i) := by
 intro pins s σ H v u Q I r h
 exact wpAny_assign_Name (store_ok I hN hi hx r (fun s' I' => ⟨_, H, I', h⟩) hf)
def gNil : TGs := fun vs σ H Q => vs = [] ∧ Q σ H
def gCons (t : TG) (u : TGs) : TGs := fun vs σ H Q => ∃ v r, vs = v :: r ∧ t v σ H fun σ' H' => u r σ' H' Q
theorem pgs_nil : PGs X [] gNil := by
 intro pins s σ H vs us Q I r h
 obtain ⟨e, h⟩ := h
 subst e
 cases r
 exact assignInOrder_nil ⟨σ, H, I, h⟩
theorem pgs_cons {e : Expr} {es : List Expr} {t : TG} {u : TGs} (h1 : PG X e t) (h2 : PGs X es u)
  (hs : (assignEach (e :: es) X.env).map (·.2) = assign e X.env :: (assignEach es X.env).map (·.2) := by rfl) : PGs X (e :: es) (gCons t u) := by
 intro pins s σ H vs us Q I r h
 obtain ⟨v, vr, e1, h⟩ := h
 subst e1
 cases r with
 | cons r rr =>
  rw [hs]
  refine assignInOrder_cons (thn (h1 pins s σ H _ _ _ I r h) fun _ s1 ⟨σ1, H1, I1, q1⟩ => ?_)
  exact h2 pins s1 σ1 H1 _ _ Q I1 rr q1
def gTup (K : PySem.W.Frag) (n : Nat) (t : TGs) : TG := fun v σ H Q => ∃ a xs, v = .ref a ∧ SqT K H a xs ∧ xs.length = n ∧ t xs σ H Q
theorem pg_tup {es : List Expr} {k : Nat} {t : TGs} {n : Nat} (hc : X.calm = true) (h : PGs X es t)
  (hn : (assignEach es X.env).length = n := by rfl) (hst : (assignEach es X.env).findIdx? (·.1) = none := by rfl) : PG X (.Tuple es k pos) (gTup X.K n t) := by
 intro pins s σ H v u Q I r hw
 obtain ⟨a, xs, e1, hq, hl, hw⟩ := hw
 subst e1
 cases r
 obtain ⟨its, rv, ht, hz⟩ := I.tuple hq
 refine assign_Tuple_tuple (I.ok.hd hc) ht (by simp [hn, ← hl, rv.length]) hst fun h' hx => ?_
 have I1 : Inv X pins σ H { s with heap := h' } := I.kept (t' := s.toks) fun b o e => hx b o (Nat.ne_of_lt (Heap.lt_size e)) e
 exact h pins _ σ H xs _ Q I1 (by simpa using rv) hw
def gSub (to ti : TE) (t : TSet) : TG := fun v σ H Q => to σ H fun o H1 => ti σ H1 fun i H2 => t o i v H2 fun H3 => Q σ H3
theorem pg_sub {o i : Expr} {to ti : TE} {t : TSet} (ho : PE X o to) (hi : PE X i ti) (hs : PSet X t)
  (ha : ∀ v, assign (.Subscript o i pos) X.env v = (do
   let ov ← holding [v] (eval o X.env)
   let iv ← holding [v, ov] (eval i X.env)
   standAt pos
   holding [v, ov, iv] (setItem ov iv v)
   release [v, ov, iv] []) := by intro _; rfl) : PG X (.Subscript o i pos) (gSub to ti t) := by
 intro pins s σ H v u Q I r h
 rw [ha]
 refine wpAny_bind (wpAny_holding (thn (ho pins s σ H _ I h) fun ov s1 ⟨x, H1, I1, r1, q1⟩ => ?_))
 refine wpAny_bind (wpAny_holding (thn (hi pins s1 σ H1 _ I1 q1) fun iv s2 ⟨y, H2, I2, r2, q2⟩ => ?_))
 refine wpAny_bind (wpAny_standAt (wpAny_bind (wpAny_holding (thn (hs pins s2 σ H2 x y v ov iv u _ I2 r1 r2 r q2) fun _ s3 ⟨H3, I3, q3⟩ => ?_))))
 exact wpAny_release ⟨σ, H3, I3, q3⟩
def tAsg (te : TE) (g : TG) : TS := fun D σ H => te σ H fun x H1 => g x σ H1 D.nx
theorem ps_asg {tg e : Expr} {te : TE} {g : TG} (he : PE X e te) (hg : PG X tg g) (hs : swapsWithSole [tg] e pos.line X.env = pure false := by rfl) (hw : swappedStores [tg] e X.env = pure none := by rfl)
  (h1 : (assignEach [tg] X.env).map (·.2) = [assign tg X.env] := by rfl) : PS X (.Assign [tg] e pos) (tAsg te g) := by
 intro pins s σ H D I h
 refine wpAny_Assign_stores (thn (he pins s σ H _ I h) fun v s1 ⟨x, H1, I1, r1, q1⟩ => ?_) hs hw
 rw [h1]
 exact thn (hg pins s1 σ H1 x v _ I1 r1 q1) fun _ s2 q => q
theorem ps_set {i : Nat} {x : Str} {e : Expr} {te : TE} {pos' : Pos} (hN : X.N.Nodup) (hi : X.N[i]? = some x) (hx : Loc X.env.scope x) (he : PE X e te) (hs : swapsWith e (some (.Name x pos')) pos.line X.env = pure false := by rfl) (hf : X.fn x = true ∨ X.env.scope.names.lookup x = some .local := by first | exact .inl rfl | exact .inr rfl | assumption) :
  PS X (.Assign [.Name x pos'] e pos) (tAsg te (gName i)) := by
 intro pins s σ H D I h
 refine wpAny_Assign_Name (thn (he pins s σ H _ I h) fun v s1 ⟨y, H1, I1, r1, q1⟩ => ?_) hs
 exact store_ok I1 hN hi hx r1 (fun s2 I2 => ⟨_, H1, I2, q1⟩) hf
def tAug (i : Nat) (te : TE) (ti : TIp) : TS := fun D σ H => ∃ x, σ[i]? = some (some x) ∧ te σ H fun y H1 => ti x y H1 fun z H2 => D.nx (σ.set i (some z)) H2
theorem ps_aug {i : Nat} {x : Str} {e : Expr} {te : TE} {op : Operator} {ti : TIp} {pos' : Pos} (hN : X.N.Nodup) (hi : X.N[i]? = some x) (hx : Loc X.env.scope x) (he : PE X e te) (ho : PIp X op ti) (hf : X.fn x = true ∨ X.env.scope.names.lookup x = some .local := by first | exact .inl rfl | exact .inr rfl | assumption) :
  PS X (.AugAssign (.Name x pos') op e pos) (tAug i te ti) := by
 intro pins s σ H D I h
 obtain ⟨v, e1, h⟩ := h
 obtain ⟨m, hn, hl⟩ := I.loc
 have vis : Vis X.env.scope x := by rcases hx with k | k; exact .inl k; exact .inr (.inl k)
 obtain ⟨u, r, l⟩ := hl i x v hi e1 vis
 refine wpAny_AugAssign_Name ?_
 have go : wpAny (model X.prog X.w) X.A (eval e X.env) (fun w s₂ => wpAny (model X.prog X.w) X.A (inplaceOp op u w) (fun r s₃ => wpAny (model X.prog X.w) X.A (storeName X.env x r) (fun _ => SP X pins D .next) X.xe s₃) X.xe s₂) X.xe s := by
  refine thn (he pins s σ H _ I h) fun w s1 ⟨y, H1, I1, r1, q1⟩ => ?_
  refine thn (ho pins s1 σ H1 v y u w _ I1 r r1 q1) fun z s2 ⟨zv, H2, I2, r2, q2⟩ => ?_
  exact store_ok I2 hN hi hx r2 (fun s3 I3 => ⟨_, H2, I3, q2⟩) hf
 rcases l with ⟨hk, hm⟩ | ⟨hk, c, hc, hcell⟩
 ·exact wpAny_loadName_local I.ok.kind hk hn hm go
 ·rcases hk with hk | hk
  ·exact wpAny_loadName_cell I.ok.kind hk hc hcell go
  ·rcases hx with k | k
   ·have : X.env.scope.names.lookup x = some .free := hk
    rw [k] at this; cases this
   ·have : X.env.scope.names.lookup x = some .free := hk
    rw [k] at this; cases this
def tAugS (to ti te : TE) (tget : V → V → Hp → VK → Prop) (tip : TIp) (tset : TSet) : TS := fun D σ H => to σ H fun o H1 => ti σ H1 fun i H2 => tget o i H2 fun x H3 => te σ H3 fun y H4 => tip x y H4 fun z H5 => tset o i z H5 fun H6 => D.nx σ H6
def PGet (X : Cx) (t : V → V → Hp → VK → Prop) : Prop :=
 ∀ (pins : List (Addr × Obj)) (s : Shared) (σ : St) (H : Hp) (o i : V) (ov iv : Value) (Q : VK), Inv X pins σ H s → RelV o ov → RelV i iv → t o i H Q →
  wpAny (model X.prog X.w) X.A (getItem ov iv) (EP X pins σ Q) X.xe s
theorem ps_augS {o i e : Expr} {to ti te : TE} {tget : V → V → Hp → VK → Prop} {tip : TIp} {tset : TSet} {op : Operator} {tpos : Pos} (ho : PE X o to) (hi : PE X i ti) (hg : PGet X tget) (he : PE X e te) (hp : PIp X op tip) (hs : PSet X tset)
  (ha : ∀ ov iv new, augStore i ov iv new = (do holding [new, ov, iv] (setItem ov iv new); release [new, ov, iv] []; pure .next) := by intros; rfl) : PS X (.AugAssign (.Subscript o i tpos) op e pos) (tAugS to ti te tget tip tset) := by
 intro pins s σ H D I h
 refine wpAny_AugAssign_SubscriptAny (thn (ho pins s σ H _ I h) fun ov s1 ⟨x1, H1, I1, r1, q1⟩ => ?_) ha
 refine thn (hi pins s1 σ H1 _ I1 q1) fun iv s2 ⟨x2, H2, I2, r2, q2⟩ => ?_
 refine thn (hg pins s2 σ H2 x1 x2 ov iv _ I2 r1 r2 q2) fun old s3 ⟨x3, H3, I3, r3, q3⟩ => ?_
 refine thn (he pins s3 σ H3 _ I3 q3) fun v s4 ⟨x4, H4, I4, r4, q4⟩ => ?_
 refine thn (hp pins s4 σ H4 x3 x4 old v _ I4 r3 r4 q4) fun new s5 ⟨x5, H5, I5, r5, q5⟩ => ?_
 exact thn (hs pins s5 σ H5 x1 x2 x5 ov iv new _ I5 r1 r2 r5 q5) fun _ s6 ⟨H6, I6, q6⟩ => ⟨σ, H6, I6, q6⟩
def ipI (f : Int → Int → Int) : TIp := fun x y H Q => ∃ i j, x = .int i ∧ y = .int j ∧ Q (.int (f i j)) H
theorem ip_add : PIp X .Add (ipI fun i j => i + j) := by
 intro pins s σ H x y v u Q I r1 r2 h
 obtain ⟨i, j, e1, e2, q⟩ := h
 subst e1; subst e2
 obtain ⟨t, rfl⟩ := r1
 obtain ⟨t', rfl⟩ := r2
 exact iadd_int ⟨.int _, H, I.tok _, ⟨_, rfl⟩, q⟩
theorem ip_sub : PIp X .Sub (ipI fun i j => i - j) := by
 intro pins s σ H x y v u Q I r1 r2 h
 obtain ⟨i, j, e1, e2, q⟩ := h
 subst e1; subst e2
 obtain ⟨t, rfl⟩ := r1
 obtain ⟨t', rfl⟩ := r2
 exact isub_int ⟨.int _, H, I.tok _, ⟨_, rfl⟩, q⟩
end
section
variable {X : Cx} {pos : Pos}
def tWhile (c : TT) (tb : TS) : TS := fun D σ H => ∃ W : Nat → St → Hp → Prop, (∃ m, W m σ H) ∧ ∀ m σ H, W m σ H →
 c σ H fun b H1 => if b = true then ∃ N : St → Hp → Prop, (∀ σ' H', N σ' H' → ∃ m', m' < m ∧ W m' σ' H') ∧ tb { D with nx := N, ct := N, bk := D.nx } σ H1 else D.nx σ H1
theorem ps_while {c : Expr} {body : List Stmt} {tc : TT} {tb : TS} (hp : PassesOwn (model X.prog X.w) X.A X.env X.xe) (hc : PT X c tc) (hb : PSs X body tb) : PS X (.While c body [] pos) (tWhile tc tb) := by
 intro pins s σ H D I h
 obtain ⟨W, ⟨m0, w0⟩, turn⟩ := h
 refine wpAny_While (codeAny_whileLoop (fun n s' => ∃ σ' H', Inv X pins σ' H' s' ∧ W n σ' H') ?_ m0 ⟨σ, H, I, w0⟩)
 rintro n s1 ⟨σ1, H1, I1, w1⟩
 refine wpAny_passesOwn hp (thn (hc pins s1 σ1 H1 _ I1 (turn n σ1 H1 w1)) fun b s2 ⟨H2, I2, q2⟩ => ?_)
 cases b with
 | true =>
  obtain ⟨N, hN, q2⟩ := q2
  rw [if_pos rfl]
  refine wpAny_passesOwn hp (thn (hb pins s2 σ1 H2 _ I2 q2) fun f s3 q3 => ?_)
  cases f with
  | next =>
   obtain ⟨σ3, H3, I3, n3⟩ := q3
   obtain ⟨m', hm, w3⟩ := hN σ3 H3 n3
   exact ⟨m', hm, σ3, H3, I3, w3⟩
  | cont =>
   obtain ⟨σ3, H3, I3, n3⟩ := q3
   obtain ⟨m', hm, w3⟩ := hN σ3 H3 n3
   exact ⟨m', hm, σ3, H3, I3, w3⟩
  | brk => exact q3
  | ret v => exact q3
 | false =>
  rw [if_neg Bool.false_ne_true]
  exact wpAny_execs_nil ⟨σ1, H2, I2, q2⟩
end
structure It where
 go : Nat → Hp → Prop
 yld : Nat → Hp → V → Hp → Prop
 stop : Nat → Hp → Prop
def FpOk (X : Cx) (pins : List (Addr × Obj)) (H : Hp) (b : Addr) : Prop :=
 H b = none ∧ b ≠ X.env.locals ∧ b ∉ X.fs ∧ (b ∈ X.ex ∨ X.s₀.heap.objs.size ≤ b) ∧ (∀ x c, X.env.cells.lookup x = some c → c ≠ b) ∧ ∀ p ∈ X.pn ++ pins, p.1 ≠ b
theorem Inv.fpOk {X : Cx} {pins : List (Addr × Obj)} {σ : St} {H H' : Hp} {s : Shared} {b : Addr} (I : Inv X pins σ H s) (hb : s.heap.objs.size ≤ b) (hn : H' b = none) : FpOk X pins H' b := by
 refine ⟨hn, Nat.ne_of_gt (Nat.lt_of_lt_of_le I.lt hb), I.nofs hb, .inr (Nat.le_trans I.sz hb), fun x c e z => ?_, fun p hp z => ?_⟩
 ·obtain ⟨v, q⟩ := I.cell x c e
  exact absurd (Nat.lt_of_lt_of_le q.lt (by rw [z]; exact hb)) (Nat.lt_irrefl _)
 ·exact absurd (Nat.lt_of_lt_of_le (Heap.lt_size (I.pin p hp).1) (by rw [z]; exact hb)) (Nat.lt_irrefl _)
structure Turn (P : Program) (w : World) (K : PySem.W.Frag) (tg : Expr) (J : It) (fp : List Addr) (it : Addr) (tn : Nat → Heap → Prop) : Prop where
 mem : it ∈ fp
 obj : ∀ i h, tn i h → ∀ b ∈ fp, ∃ o, h.get? b = some o ∧ ∀ v, o.data ≠ .cell v
 keep : ∀ i h h', tn i h → (∀ b ∈ fp, ∀ o, h.get? b = some o → h'.get? b = some o) → tn i h'
 item : ∀ (X : Cx), X.prog = P → X.w = w → X.K = K → X.calm = true → ∀ (i : Nat) (pins : List (Addr × Obj)) (s : Shared) (σ : St) (H : Hp) (E : Value → Shared → Prop), Inv X pins σ H s → (∀ b ∈ fp, FpOk X pins H b) → tn i s.heap → J.go i H →
  wpAny (model P w) X.A (pyNext (.ref it)) (fun r s1 => ∃ u, r = some u ∧
   wpAny (model P w) X.A (letOwnedTupleGo tg (.ref it) u) (fun _ s2 => ∃ x H', Inv X pins σ H' s2 ∧ RelV x u ∧ J.yld i H x H' ∧ tn (i + 1) s2.heap ∧ ∀ b ∈ fp, H' b = none) E s1) E s
 done : ∀ (X : Cx), X.prog = P → X.w = w → X.K = K → X.calm = true → ∀ (i : Nat) (pins : List (Addr × Obj)) (s : Shared) (σ : St) (H : Hp) (E : Value → Shared → Prop), Inv X pins σ H s → (∀ b ∈ fp, FpOk X pins H b) → tn i s.heap → J.stop i H →
  wpAny (model P w) X.A (pyNext (.ref it)) (fun r s1 => r = none ∧ Inv X pins σ H s1) E s
 self : ∀ (A : Around) (i : Nat) (s : Shared) (Q : Value → Shared → Prop) (E : Value → Shared → Prop), tn i s.heap → Q (.ref it) s → wpAny (model P w) A (pyIter (.ref it)) Q E s
abbrev TI := St → Hp → (It → Hp → Prop) → Prop
def PIE (X : Cx) (pins : List (Addr × Obj)) (σ : St) (tg : Expr) (R : It → Hp → Prop) (itv : Value) (s2 : Shared) : Prop :=
 ∃ (it : Addr) (fp : List Addr) (tn : Nat → Heap → Prop) (J : It) (H' : Hp), itv = .ref it ∧ Inv X pins σ H' s2 ∧ Turn X.prog X.w X.K tg J fp it tn ∧ tn 0 s2.heap ∧ (∀ b ∈ fp, FpOk X pins H' b) ∧ R J H'
def PI (X : Cx) (tg iter : Expr) (wi : TI) : Prop :=
 ∀ (pins : List (Addr × Obj)) (s : Shared) (σ : St) (H : Hp) (R : It → Hp → Prop), Inv X pins σ H s → wi σ H R →
  wpAny (model X.prog X.w) X.A (eval iter X.env) (fun v s1 => wpAny (model X.prog X.w) X.A (pyIter v) (PIE X pins σ tg R) X.xe s1) X.xe s
theorem go_of {M : Model} {A : Around} {E : Value → Shared → Prop} {s : Shared} {tg : Expr} {it : Addr} {u : Value} {o : Obj} {n : String} {vs : Array Value} {Q : Unit → Shared → Prop} (ho : s.heap.get? it = some o) (hc : o.cls = .type n) (hd : o.data = .fields vs)
  (hn : ["enumerate", "zip", "dict_itemiterator", "dict_reverseitemiterator", "odict_iterator", "itertools.zip_longest", "itertools.pairwise"].contains n = false) (hQ : Q () s) : wpAny M A (letOwnedTupleGo tg (.ref it) u) Q E s := by
 unfold letOwnedTupleGo
 cases tg <;> first
  | exact wpAny_pure hQ
  | (cases u <;> first
    | exact wpAny_pure hQ
    | (refine wpAny_bind (wpAny_load ho ?_)
       rw [hc, hd]
       show wpAny M A (if (["enumerate", "zip", "dict_itemiterator", "dict_reverseitemiterator", "odict_iterator", "itertools.zip_longest", "itertools.pairwise"].contains n && vs[0]? == some (rawInt _)) = true then _ else _) Q E s
       rw [if_neg (by intro h; rw [hn, Bool.false_and] at h; cases h)]
       exact wpAny_pure hQ))
def Itl (K : PySem.W.Frag) (a : Addr) : It :=
 ⟨fun i H => ∃ xs x, SqL K H a xs ∧ xs[i]? = some x, fun i H x H' => H' = H ∧ ∀ xs, SqL K H a xs → xs[i]? = some x, fun i H => ∃ xs, SqL K H a xs ∧ xs.length ≤ i⟩
def Itt (K : PySem.W.Frag) (a : Addr) : It :=
 ⟨fun i H => ∃ xs x, SqT K H a xs ∧ xs[i]? = some x, fun i H x H' => H' = H ∧ ∀ xs, SqT K H a xs → xs[i]? = some x, fun i H => ∃ xs, SqT K H a xs ∧ xs.length ≤ i⟩
def Itr (lo : Int) (n : Nat) : It := ⟨fun i _ => i < n, fun i H x H' => H' = H ∧ x = .int (lo + i), fun i _ => n ≤ i⟩
theorem turn_list {P : Program} {w : World} {K : PySem.W.Frag} {tg : Expr} (a it : Addr) : Turn P w K tg (Itl K a) [it] it (fun i h => h.IsListIter it a i) where
 mem := by simp
 obj := fun i h st b hb => by
  have e : b = it := by simpa using hb
  subst e
  obtain ⟨o, e, c, d⟩ := st
  exact ⟨o, e, fun v z => by rw [d] at z; cases z⟩
 keep := fun i h h' st k => st.at fun o e => k it (by simp) o e
 item := by
  intro X hP hw hK hc i pins s σ H E I hf st hg
  subst hP hw hK
  obtain ⟨xs, x, hq, hx⟩ := hg
  obtain ⟨its, rv, p, hz⟩ := I.list hq
  obtain ⟨u, hu, ru⟩ := rv.get hx
  obtain ⟨f0, f1, f2, f3, f4, f5⟩ := hf it (by simp)
  refine wpAny_pyNext_list_item st p.isList (x := u) (by simpa using hu) fun h' st' sb => ?_
  have I1 : Inv X pins σ H { s with heap := h' } := I.turned (t' := s.toks) (fun b o hb e => (sb.2 b hb).trans e) f0 f1 f3 f4 f5
  obtain ⟨o, e, c, d⟩ := id st'
  exact ⟨u, rfl, go_of (s := { s with heap := h' }) e c d (by decide) ⟨x, H, I1, ru, ⟨rfl, fun ys hy => by rw [I.list_inj hy hq]; exact hx⟩, st', fun b hb => (hf b hb).1⟩⟩
 done := by
  intro X hP hw hK hc i pins s σ H E I hf st hg
  subst hP hw hK
  obtain ⟨xs, hq, hx⟩ := hg
  obtain ⟨its, rv, p, hz⟩ := I.list hq
  obtain ⟨f0, f1, f2, f3, f4, f5⟩ := hf it (by simp)
  have hl := rv.length
  exact wpAny_pyNext_list_end (I.ok.hd hc) st p.isList (by simp; omega) fun h' eb => ⟨rfl, I.turned (t' := s.toks) (fun b o hb e => eb b o hb e) f0 f1 f3 f4 f5⟩
 self := fun _ _ _ _ _ st h => wpAny_pyIter_listiter st h
theorem turn_tuple {P : Program} {w : World} {K : PySem.W.Frag} {tg : Expr} (a it : Addr) : Turn P w K tg (Itt K a) [it] it (fun i h => h.IsTupleIter it a i) where
 mem := by simp
 obj := fun i h st b hb => by
  have e : b = it := by simpa using hb
  subst e
  obtain ⟨o, e, c, d⟩ := st
  exact ⟨o, e, fun v z => by rw [d] at z; cases z⟩
 keep := fun i h h' st k => st.at fun o e => k it (by simp) o e
 item := by
  intro X hP hw hK hc i pins s σ H E I hf st hg
  subst hP hw hK
  obtain ⟨xs, x, hq, hx⟩ := hg
  obtain ⟨its, rv, p, hz⟩ := I.tuple hq
  obtain ⟨u, hu, ru⟩ := rv.get hx
  obtain ⟨f0, f1, f2, f3, f4, f5⟩ := hf it (by simp)
  refine wpAny_pyNext_tuple_item st (show s.heap.IsTuple a its.toArray from p) (x := u) (by simpa using hu) fun h' st' sb => ?_
  have I1 : Inv X pins σ H { s with heap := h' } := I.turned (t' := s.toks) (fun b o hb e => (sb.2 b hb).trans e) f0 f1 f3 f4 f5
  obtain ⟨o, e, c, d⟩ := id st'
  exact ⟨u, rfl, go_of (s := { s with heap := h' }) e c d (by decide) ⟨x, H, I1, ru, ⟨rfl, fun ys hy => by rw [I.tuple_inj hy hq]; exact hx⟩, st', fun b hb => (hf b hb).1⟩⟩
 done := by
  intro X hP hw hK hc i pins s σ H E I hf st hg
  subst hP hw hK
  obtain ⟨xs, hq, hx⟩ := hg
  obtain ⟨its, rv, p, hz⟩ := I.tuple hq
  obtain ⟨f0, f1, f2, f3, f4, f5⟩ := hf it (by simp)
  have hl := rv.length
  exact wpAny_pyNext_tuple_end (I.ok.hd hc) st (show s.heap.IsTuple a its.toArray from p) (by simp; omega) fun h' eb => ⟨rfl, I.turned (t' := s.toks) (fun b o hb e => eb b o hb e) f0 f1 f3 f4 f5⟩
 self := fun _ _ _ _ _ st h => wpAny_pyIter_tupleiter st h
theorem turn_range {P : Program} {w : World} {K : PySem.W.Frag} {tg : Expr} (it : Addr) (lo : Int) (n : Nat) : Turn P w K tg (Itr lo n) [it] it (fun i h => IsRangeIter h it (lo + (i : Nat) * 1) ((n : Int) - (i : Nat)) 1) where
 mem := by simp
 obj := fun i h st b hb => by
  have e : b = it := by simpa using hb
  subst e
  exact ⟨_, st, fun v z => by
   have z' : Data.fields _ = Data.cell v := z
   cases z'⟩
 keep := fun i h h' st k => k it (by simp) _ st
 item := by
  intro X hP hw hK hc i pins s σ H E I hf st hg
  subst hP hw hK
  obtain ⟨f0, f1, f2, f3, f4, f5⟩ := hf it (by simp)
  have W := Walks.range (prog := X.prog) (w := X.w) (I.ok.hd hc) it lo 1 n
  refine W.item i s _ _ hg st fun v h' tk hv st' kk => ?_
  obtain ⟨t, rfl⟩ := hv
  have I1 : Inv X pins σ H { s with heap := h', toks := tk } := I.turned (fun b o hb e => kk b o (by simpa using hb) e) f0 f1 f3 f4 f5
  refine ⟨_, rfl, go_of (s := { s with heap := h', toks := tk }) (n := "range_iterator") st' rfl rfl (by decide) ⟨.int (lo + i), H, I1, ⟨t, ?_⟩, ⟨rfl, rfl⟩, st', fun b hb => (hf b hb).1⟩⟩
  rw [Int.mul_one]
 done := by
  intro X hP hw hK hc i pins s σ H E I hf st hg
  subst hP hw hK
  obtain ⟨f0, f1, f2, f3, f4, f5⟩ := hf it (by simp)
  exact wpAny_pyNext_range_end (I.ok.hd hc) st (by have : n ≤ i := hg; omega) fun h' eb => ⟨rfl, I.turned (t' := s.toks) (fun b o hb e => eb b o hb e) f0 f1 f3 f4 f5⟩
 self := fun _ _ _ _ _ st h => wpAny_pyIter_rangeiter st h
end L2
namespace L2
open PySem PySem.Spec PyProof.Rows
section
variable {X : Cx} {tg : Expr}
def iList (K : PySem.W.Frag) (tl : TE) : TI := fun σ H R => tl σ H fun x H1 => ∃ a, x = .ref a ∧ (∃ xs, SqL K H1 a xs) ∧ R (Itl K a) H1
def iTup (K : PySem.W.Frag) (tl : TE) : TI := fun σ H R => tl σ H fun x H1 => ∃ a, x = .ref a ∧ (∃ xs, SqT K H1 a xs) ∧ R (Itt K a) H1
theorem pi_list {l : Expr} {tl : TE} (hl : PE X l tl) : PI X tg l (iList X.K tl) := by
 intro pins s σ H R I h
 refine thn (hl pins s σ H _ I h) fun v s1 ⟨x, H1, I1, r1, q1⟩ => ?_
 obtain ⟨a, e, ⟨xs, hq⟩, q⟩ := q1
 subst e
 cases r1
 obtain ⟨its, rv, p, hz⟩ := I1.list hq
 refine wpAny_pyIter_list p.isList ?_
 refine ⟨s1.heap.objs.size, [s1.heap.objs.size], _, _, H1, rfl, I1.kept (t' := s1.toks) fun b o e => Heap.get?_push_of_some _ e, turn_list a _, ⟨_, Heap.get?_push_size _ rfl, rfl, rfl⟩, fun b hb => ?_, q⟩
 have e : b = s1.heap.objs.size := by simpa using hb
 subst e
 exact I1.fpOk (Nat.le_refl _) (I1.hok.fresh (Nat.le_refl _))
theorem pi_tup {l : Expr} {tl : TE} (hl : PE X l tl) : PI X tg l (iTup X.K tl) := by
 intro pins s σ H R I h
 refine thn (hl pins s σ H _ I h) fun v s1 ⟨x, H1, I1, r1, q1⟩ => ?_
 obtain ⟨a, e, ⟨xs, hq⟩, q⟩ := q1
 subst e
 cases r1
 obtain ⟨its, rv, p, hz⟩ := I1.tuple hq
 refine wpAny_pyIter_tuple (show s1.heap.IsTuple a its.toArray from p) ?_
 refine ⟨s1.heap.objs.size, [s1.heap.objs.size], _, _, H1, rfl, I1.kept (t' := s1.toks) fun b o e => Heap.get?_push_of_some _ e, turn_tuple a _, ⟨_, Heap.get?_push_size _ rfl, rfl, rfl⟩, fun b hb => ?_, q⟩
 have e : b = s1.heap.objs.size := by simpa using hb
 subst e
 exact I1.fpOk (Nat.le_refl _) (I1.hok.fresh (Nat.le_refl _))
theorem range_it {pins : List (Addr × Obj)} {σ : St} {H : Hp} {s : Shared} {R : It → Hp → Prop} {E : Value → Shared → Prop} {lo hi : Int} {t u v : Tok} {tk : Nat} (I : Inv X pins σ H s) (h1 : -(2 ^ 62) ≤ lo) (h2 : lo < 2 ^ 62) (h3 : -(2 ^ 62) ≤ hi) (h4 : hi < 2 ^ 62)
  (q : R (Itr lo (hi - lo).toNat) H) : wpAny (model X.prog X.w) X.A (pyIter (.ref s.heap.objs.size)) (PIE X pins σ tg R) E { s with heap := s.heap.push { cls := .type "range", data := .fields #[.int lo t, .int hi u, .int 1 v] }, toks := tk } := by
 refine wpAny_pyIter_range (IsRange.new ..) (small_one h1 h2 h3 h4) ?_
 have I1 : Inv X pins σ H { s with heap := s.heap.push { cls := .type "range", data := .fields #[.int lo t, .int hi u, .int 1 v] }, toks := tk } := I.kept fun b o e => Heap.get?_push_of_some _ e
 refine ⟨(s.heap.push { cls := .type "range", data := .fields #[.int lo t, .int hi u, .int 1 v] }).objs.size, [(s.heap.push { cls := .type "range", data := .fields #[.int lo t, .int hi u, .int 1 v] }).objs.size], _, _, H, rfl,
  I1.kept (t' := tk) fun b o e => Heap.get?_push_of_some _ e, turn_range _ lo (hi - lo).toNat, ?_, fun b hb => ?_, q⟩
 ·have e1 : lo + ((0 : Nat) : Int) * 1 = lo := by simp
  have e2 : (((hi - lo).toNat : Nat) : Int) - ((0 : Nat) : Int) = Builtin.Range.rangeSize lo hi 1 := by rw [rangeSize_one]; split <;> omega
  show IsRangeIter _ _ (lo + ((0 : Nat) : Int) * 1) ((((hi - lo).toNat : Nat) : Int) - ((0 : Nat) : Int)) 1
  rw [e1, e2]
  exact Heap.get?_push_size _ rfl
 ·have e : b = (s.heap.push { cls := .type "range", data := .fields #[.int lo t, .int hi u, .int 1 v] }).objs.size := by simpa using hb
  subst e
  exact I1.fpOk (Nat.le_refl _) (I1.hok.fresh (Nat.le_refl _))
def iRng1 (ta : TA) : TI := fun σ H R => ta σ H fun vs H1 => ∃ j : Int, vs = [.int j] ∧ -(2 ^ 62) ≤ j ∧ j < 2 ^ 62 ∧ R (Itr 0 j.toNat) H1
theorem pi_range1 {a : Expr} {ta : TA} {p pos : Pos} (hg : Gl X "range") (hm : X.mg "range" = none) (ha : PA X [a] ta) (hs : starEach [a] X.env = [(false, eval a X.env)] := by rfl) : PI X tg (.Call (.Name "range" p) [a] [] pos) (iRng1 ta) := by
 intro pins s σ H R I h
 refine Call_ (ld_blt I hg hm boot_range (PyProof.Rows.callWith_type1 (thn (ha pos pins s σ H _ I h) fun us s1 ⟨vs, H1, I1, r1, q1⟩ => ?_) hs rfl))
 obtain ⟨j, e, q1, q2, q⟩ := q1
 subst e
 cases r1 with
 | cons r rr =>
  cases rr
  obtain ⟨t, rfl⟩ := r
  exact call_range_1 (range_it I1 (by omega) (by omega) q1 q2 (by simpa using q))
def tFor (wi : TI) (g : TG) (tb : TS) : TS := fun D σ H => wi σ H fun J H1 => ∃ W : Nat → Nat → St → Hp → Prop, (∃ m, W 0 m σ H1) ∧ ∀ i m σ H, W i m σ H →
 (J.stop i H ∧ D.nx σ H) ∨ (J.go i H ∧ ∃ N : St → Hp → Prop, (∀ σ' H', N σ' H' → ∃ m', m' < m ∧ W (i + 1) m' σ' H') ∧ ∀ x H', J.yld i H x H' → g x σ H' fun σ2 H2 => tb { D with nx := N, ct := N, bk := D.nx } σ2 H2)
def pinsAt (fp : List Addr) (h : Heap) : List (Addr × Obj) := fp.filterMap fun b => (h.get? b).map fun o => (b, o)
theorem mem_pinsAt {fp : List Addr} {h : Heap} {b : Addr} {o : Obj} (hb : b ∈ fp) (e : h.get? b = some o) : (b, o) ∈ pinsAt fp h := List.mem_filterMap.mpr ⟨b, hb, by rw [e]; rfl⟩
theorem of_pinsAt {fp : List Addr} {h : Heap} {p : Addr × Obj} (hp : p ∈ pinsAt fp h) : p.1 ∈ fp ∧ h.get? p.1 = some p.2 := by
 obtain ⟨b, hb, e⟩ := List.mem_filterMap.mp hp
 cases q : h.get? b with
 | none => rw [q] at e; cases e
 | some o =>
  rw [q] at e
  have e' : (b, o) = p := Option.some.inj e
  subst e'
  exact ⟨hb, q⟩
theorem Inv.pinned {pins : List (Addr × Obj)} {σ : St} {H : Hp} {s : Shared} {fp : List Addr} (I : Inv X pins σ H s) (hf : ∀ b ∈ fp, FpOk X pins H b) (ho : ∀ b ∈ fp, ∃ o, s.heap.get? b = some o ∧ ∀ v, o.data ≠ .cell v) : Inv X (pins ++ pinsAt fp s.heap) σ H s :=
 I.pins_of fun p hp => (List.mem_append.mp hp).elim (fun z => I.pin p (List.mem_append_right _ z)) fun z => by
  obtain ⟨hb, e⟩ := of_pinsAt z
  obtain ⟨f0, f1, f2, _⟩ := hf p.1 hb
  obtain ⟨o, e', d⟩ := ho p.1 hb
  rw [e] at e'; cases e'
  exact ⟨e, f0, f1, f2, d⟩
theorem Inv.unpinned {pins pl : List (Addr × Obj)} {σ : St} {H : Hp} {s : Shared} (I : Inv X (pins ++ pl) σ H s) : Inv X pins σ H s := I.pins_of fun p hp => I.pin p (List.mem_append_right _ (List.mem_append_left _ hp))
theorem ps_for {iter : Expr} {body : List Stmt} {wi : TI} {g : TG} {tb : TS} {pos : Pos} (hp : PassesOwn (model X.prog X.w) X.A X.env X.xe) (hc : X.calm = true) (hi : PI X tg iter wi) (hg : PG X tg g) (hb : PSs X body tb)
  (hs : ∀ x, foldedSetIterable iter X.env x = pure x := by intro _; rfl) : PS X (.For tg iter body [] pos) (tFor wi g tb) := by
 intro pins s σ H D I h
 refine wpAny_For (thn (hi pins s σ H _ I h) fun v s1 h1 => thn h1 fun itv s2 h2 => ?_) hs
 obtain ⟨it, fp, tn, J, H2, e, I2, T, st2, f2, W, ⟨m0, w0⟩, turn⟩ := h2
 subst e
 have stat : ∀ {H' : Hp}, (∀ b ∈ fp, H' b = none) → ∀ b ∈ fp, FpOk X pins H' b := fun hn b hb => ⟨hn b hb, (f2 b hb).2⟩
 refine codeAny_forLoop_any (fun n s' => ∃ i σ' H', Inv X pins σ' H' s' ∧ tn i s'.heap ∧ (∀ b ∈ fp, H' b = none) ∧ W i n σ' H') ?_ m0 ⟨0, σ, H2, I2, st2, fun b hb => (f2 b hb).1, w0⟩
 rintro n s3 ⟨i, σ3, H3, I3, st3, fr3, w3⟩
 rcases turn i n σ3 H3 w3 with ⟨stop, qn⟩ | ⟨go, N, hN, step⟩
 ·refine wpAny_passesOwn hp (thn (T.done X rfl rfl rfl hc i pins s3 σ3 H3 X.xe I3 (stat fr3) st3 stop) fun r s4 ⟨hr, I4⟩ => ?_)
  subst hr
  exact wpAny_execs_nil ⟨σ3, H3, I4, qn⟩
 ·refine wpAny_passesOwn hp (thn (T.item X rfl rfl rfl hc i pins s3 σ3 H3 X.xe I3 (stat fr3) st3 go) fun r s4 ⟨u, hr, h4⟩ => ?_)
  subst hr
  refine wpAny_passesOwn hp (thn h4 fun _ s5 ⟨x, H5, I5, r5, y5, st5, fr5⟩ => ?_)
  have I5' := I5.pinned (stat fr5) (T.obj _ _ st5)
  refine wpAny_passesOwn hp (thn (hg _ s5 σ3 H5 x u _ I5' r5 (step x H5 y5)) fun _ s6 ⟨σ6, H6, I6, q6⟩ => ?_)
  refine wpAny_passesOwn hp (thn (hb _ s6 σ6 H6 _ I6 q6) fun f s7 q7 => ?_)
  have again : ∀ {σ7 : St} {H7 : Hp}, Inv X (pins ++ pinsAt fp s5.heap) σ7 H7 s7 → N σ7 H7 → ∃ m, m < n ∧ ∃ i σ' H', Inv X pins σ' H' s7 ∧ tn i s7.heap ∧ (∀ b ∈ fp, H' b = none) ∧ W i m σ' H' := fun {σ7 H7} I7 n7 => by
   obtain ⟨m', hm, w7⟩ := hN σ7 H7 n7
   refine ⟨m', hm, i + 1, σ7, H7, I7.unpinned, T.keep _ _ _ st5 fun b hb o e => (I7.pin (b, o) (List.mem_append_right _ (List.mem_append_right _ (mem_pinsAt hb e)))).1, fun b hb => ?_, w7⟩
   obtain ⟨o, e, d⟩ := T.obj _ _ st5 b hb
   exact (I7.pin (b, o) (List.mem_append_right _ (List.mem_append_right _ (mem_pinsAt hb e)))).2.1
  cases f with
  | next => obtain ⟨σ7, H7, I7, n7⟩ := q7; exact again I7 n7
  | cont => obtain ⟨σ7, H7, I7, n7⟩ := q7; exact again I7 n7
  | brk => obtain ⟨σ7, H7, I7, q7⟩ := q7; exact ⟨σ7, H7, I7.unpinned, q7⟩
  | ret v => obtain ⟨x7, σ7, H7, I7, r7, q7⟩ := q7; exact ⟨x7, σ7, H7, I7.unpinned, r7, q7⟩
end
theorem for_list {K : PySem.W.Frag} {a : Addr} {xs : List V} {g : TG} {tb : TS} {D : Ends} {σ : St} {H : Hp} (Pv : Nat → St → Hp → Prop) (h0 : Pv 0 σ H) (hl : ∀ i σ H, i ≤ xs.length → Pv i σ H → SqL K H a xs)
  (hs : ∀ i x σ H, xs[i]? = some x → Pv i σ H → g x σ H fun σ2 H2 => tb { D with nx := Pv (i + 1), ct := Pv (i + 1), bk := D.nx } σ2 H2) (hd : ∀ σ H, Pv xs.length σ H → D.nx σ H) :
  ∃ W : Nat → Nat → St → Hp → Prop, (∃ m, W 0 m σ H) ∧ ∀ i m σ H, W i m σ H →
   ((Itl K a).stop i H ∧ D.nx σ H) ∨ ((Itl K a).go i H ∧ ∃ N : St → Hp → Prop, (∀ σ' H', N σ' H' → ∃ m', m' < m ∧ W (i + 1) m' σ' H') ∧ ∀ x H', (Itl K a).yld i H x H' → g x σ H' fun σ2 H2 => tb { D with nx := N, ct := N, bk := D.nx } σ2 H2) := by
 refine ⟨fun i m σ H => m = xs.length - i ∧ i ≤ xs.length ∧ Pv i σ H, ⟨xs.length, by simp, Nat.zero_le _, h0⟩, ?_⟩
 rintro i m σ H ⟨rfl, hi, p⟩
 have q := hl i σ H hi p
 by_cases hlt : i < xs.length
 ·refine .inr ⟨⟨xs, xs[i], q, by simp [hlt]⟩, Pv (i + 1), fun σ' H' p' => ⟨xs.length - (i + 1), by omega, rfl, hlt, p'⟩, fun x H' y => ?_⟩
  obtain ⟨e, y⟩ := y
  subst e
  exact hs i x σ _ (y xs q) p
 ·have e : i = xs.length := by omega
  subst e
  exact .inl ⟨⟨xs, q, Nat.le_refl _⟩, hd σ H p⟩
theorem for_tup {K : PySem.W.Frag} {a : Addr} {xs : List V} {g : TG} {tb : TS} {D : Ends} {σ : St} {H : Hp} (Pv : Nat → St → Hp → Prop) (h0 : Pv 0 σ H) (hl : ∀ i σ H, i ≤ xs.length → Pv i σ H → SqT K H a xs)
  (hs : ∀ i x σ H, xs[i]? = some x → Pv i σ H → g x σ H fun σ2 H2 => tb { D with nx := Pv (i + 1), ct := Pv (i + 1), bk := D.nx } σ2 H2) (hd : ∀ σ H, Pv xs.length σ H → D.nx σ H) :
  ∃ W : Nat → Nat → St → Hp → Prop, (∃ m, W 0 m σ H) ∧ ∀ i m σ H, W i m σ H →
   ((Itt K a).stop i H ∧ D.nx σ H) ∨ ((Itt K a).go i H ∧ ∃ N : St → Hp → Prop, (∀ σ' H', N σ' H' → ∃ m', m' < m ∧ W (i + 1) m' σ' H') ∧ ∀ x H', (Itt K a).yld i H x H' → g x σ H' fun σ2 H2 => tb { D with nx := N, ct := N, bk := D.nx } σ2 H2) := by
 refine ⟨fun i m σ H => m = xs.length - i ∧ i ≤ xs.length ∧ Pv i σ H, ⟨xs.length, by simp, Nat.zero_le _, h0⟩, ?_⟩
 rintro i m σ H ⟨rfl, hi, p⟩
 have q := hl i σ H hi p
 by_cases hlt : i < xs.length
 ·refine .inr ⟨⟨xs, xs[i], q, by simp [hlt]⟩, Pv (i + 1), fun σ' H' p' => ⟨xs.length - (i + 1), by omega, rfl, hlt, p'⟩, fun x H' y => ?_⟩
  obtain ⟨e, y⟩ := y
  subst e
  exact hs i x σ _ (y xs q) p
 ·have e : i = xs.length := by omega
  subst e
  exact .inl ⟨⟨xs, q, Nat.le_refl _⟩, hd σ H p⟩
theorem for_range {lo : Int} {n : Nat} {g : TG} {tb : TS} {D : Ends} {σ : St} {H : Hp} (Pv : Nat → St → Hp → Prop) (h0 : Pv 0 σ H)
  (hs : ∀ i σ H, i < n → Pv i σ H → g (.int (lo + i)) σ H fun σ2 H2 => tb { D with nx := Pv (i + 1), ct := Pv (i + 1), bk := D.nx } σ2 H2) (hd : ∀ σ H, Pv n σ H → D.nx σ H) :
  ∃ W : Nat → Nat → St → Hp → Prop, (∃ m, W 0 m σ H) ∧ ∀ i m σ H, W i m σ H →
   ((Itr lo n).stop i H ∧ D.nx σ H) ∨ ((Itr lo n).go i H ∧ ∃ N : St → Hp → Prop, (∀ σ' H', N σ' H' → ∃ m', m' < m ∧ W (i + 1) m' σ' H') ∧ ∀ x H', (Itr lo n).yld i H x H' → g x σ H' fun σ2 H2 => tb { D with nx := N, ct := N, bk := D.nx } σ2 H2) := by
 refine ⟨fun i m σ H => m = n - i ∧ i ≤ n ∧ Pv i σ H, ⟨n, by simp, Nat.zero_le _, h0⟩, ?_⟩
 rintro i m σ H ⟨rfl, hi, p⟩
 by_cases hlt : i < n
 ·refine .inr ⟨hlt, Pv (i + 1), fun σ' H' p' => ⟨n - (i + 1), by omega, rfl, hlt, p'⟩, fun x H' y => ?_⟩
  obtain ⟨e, y⟩ := y
  subst e y
  exact hs i σ _ hlt p
 ·have e : i = n := by omega
  subst e
  exact .inl ⟨Nat.le_refl _, hd σ H p⟩
end L2
namespace L2
open PySem PySem.Spec PyProof.Rows
abbrev R2 := V → V → Hp → VK → Prop
def OpR (X : Cx) (f : Value → Value → Sem Value) (r : R2) : Prop :=
 ∀ (pins : List (Addr × Obj)) (s : Shared) (σ : St) (H : Hp) (x y : V) (v u : Value) (Q : VK), Inv X pins σ H s → RelV x v → RelV y u → r x y H Q →
  wpAny (model X.prog X.w) X.A (f v u) (EP X pins σ Q) X.xe s
def UnR (X : Cx) (f : Value → Sem Value) (r : V → Hp → VK → Prop) : Prop :=
 ∀ (pins : List (Addr × Obj)) (s : Shared) (σ : St) (H : Hp) (x : V) (v : Value) (Q : VK), Inv X pins σ H s → RelV x v → r x H Q →
  wpAny (model X.prog X.w) X.A (f v) (EP X pins σ Q) X.xe s
def CallR (X : Cx) (f : Value) (r : List V → Hp → VK → Prop) : Prop :=
 ∀ (pins : List (Addr × Obj)) (s : Shared) (σ : St) (H : Hp) (xs : List V) (us : List Value) (Q : VK), Inv X pins σ H s → Vals xs us → r xs H Q →
  wpAny (model X.prog X.w) X.A (call f us) (EP X pins σ Q) X.xe s
def tOp (r : R2) (ta tb : TE) : TE := fun σ H Q => ta σ H fun x H1 => tb σ H1 fun y H2 => r x y H2 Q
def tUn (r : V → Hp → VK → Prop) (ta : TE) : TE := fun σ H Q => ta σ H fun x H1 => r x H1 Q
def rI (C : Int → Int → Prop) (g : Int → Int → V) : R2 := fun x y H Q => ∃ i j, x = .int i ∧ y = .int j ∧ C i j ∧ Q (g i j) H
def rI0 (g : Int → Int → V) : R2 := fun x y H Q => ∃ i j, x = .int i ∧ y = .int j ∧ Q (g i j) H
def rU (g : Int → V) : V → Hp → VK → Prop := fun x H Q => ∃ i, x = .int i ∧ Q (g i) H
section
variable {X : Cx} {a b c : Expr} {ta tb tc : TE} {pos : Pos}
theorem binT (ha : PE X a ta) (hb : PE X b tb) {pins : List (Addr × Obj)} {s : Shared} {σ : St} {H : Hp} {R : V → V → Hp → Prop} (I : Inv X pins σ H s)
  (h : ta σ H fun x H1 => tb σ H1 fun y H2 => R x y H2) {Q : Value → Shared → Prop} {f : Value → Value → Sem Value}
  (hf : ∀ v u s2 x y H2, Inv X pins σ H2 s2 → RelV x v → RelV y u → R x y H2 → wpAny (model X.prog X.w) X.A (f v u) Q X.xe s2) :
  wpAny (model X.prog X.w) X.A (eval a X.env) (fun v s₁ => wpAny (model X.prog X.w) X.A (eval b X.env) (fun u s₂ => wpAny (model X.prog X.w) X.A (f v u) Q X.xe s₂) X.xe s₁) X.xe s := by
 refine thn (ha pins s σ H _ I h) fun v s1 ⟨x, H1, I1, r1, q1⟩ => ?_
 refine thn (hb pins s1 σ H1 _ I1 q1) fun u s2 ⟨y, H2, I2, r2, q2⟩ => ?_
 exact hf v u s2 x y H2 I2 r1 r2 q2
theorem pe_op {op : Operator} {r : R2} (ho : OpR X (binaryOp op) r) (ha : PE X a ta) (hb : PE X b tb) : PE X (.BinOp a op b pos) (tOp r ta tb) := by
 intro pins s σ H Q I h
 exact wpAny_BinOp (binT ha hb I h fun v u s2 x y H2 I2 rx ry q => ho pins s2 σ H2 x y v u Q I2 rx ry q)
theorem pe_un {op : UnaryOp} {r : V → Hp → VK → Prop} (ho : UnR X (unaryOp op) r) (ha : PE X a ta) : PE X (.UnaryOp op a pos) (tUn r ta) := by
 intro pins s σ H Q I h
 exact UnaryOp_ (thn (ha pins s σ H _ I h) fun v s1 ⟨x, H1, I1, r1, q1⟩ => ho pins s1 σ H1 x v Q I1 r1 q1)
theorem opI {f : Value → Value → Sem Value} {C : Int → Int → Prop} {g : Int → Int → Int}
  (rule : ∀ (i j : Int) (t u : Tok) (s : Shared) (Q : Value → Shared → Prop) (E : Value → Shared → Prop), C i j → Q (.int (g i j) s.toks) { s with toks := s.toks + 1 } → wpAny (model X.prog X.w) X.A (f (.int i t) (.int j u)) Q E s) :
  OpR X f (rI C fun i j => .int (g i j)) := by
 intro pins s σ H x y v u Q I rx ry h
 obtain ⟨i, j, rfl, rfl, hc, q⟩ := h
 obtain ⟨t, rfl⟩ := rx
 obtain ⟨t', rfl⟩ := ry
 exact rule i j t t' s _ _ hc ⟨.int (g i j), H, I.tok _, ⟨_, rfl⟩, q⟩
theorem opI0 {f : Value → Value → Sem Value} {g : Int → Int → Int}
  (rule : ∀ (i j : Int) (t u : Tok) (s : Shared) (Q : Value → Shared → Prop) (E : Value → Shared → Prop), Q (.int (g i j) s.toks) { s with toks := s.toks + 1 } → wpAny (model X.prog X.w) X.A (f (.int i t) (.int j u)) Q E s) :
  OpR X f (rI0 fun i j => .int (g i j)) := by
 intro pins s σ H x y v u Q I rx ry h
 obtain ⟨i, j, rfl, rfl, q⟩ := h
 obtain ⟨t, rfl⟩ := rx
 obtain ⟨t', rfl⟩ := ry
 exact rule i j t t' s _ _ ⟨.int (g i j), H, I.tok _, ⟨_, rfl⟩, q⟩
theorem opB0 {f : Value → Value → Sem Value} {g : Int → Int → Bool}
  (rule : ∀ (i j : Int) (t u : Tok) (s : Shared) (Q : Value → Shared → Prop) (E : Value → Shared → Prop), Q (.bool (g i j)) s → wpAny (model X.prog X.w) X.A (f (.int i t) (.int j u)) Q E s) :
  OpR X f (rI0 fun i j => .bl (g i j)) := by
 intro pins s σ H x y v u Q I rx ry h
 obtain ⟨i, j, rfl, rfl, q⟩ := h
 obtain ⟨t, rfl⟩ := rx
 obtain ⟨t', rfl⟩ := ry
 exact rule i j t t' s _ _ ⟨.bl (g i j), H, I, rfl, q⟩
def CDiv (i j : Int) : Prop := 0 < j ∧ j < 1073741824
def CPow (i j : Int) : Prop := 0 ≤ j ∧ j ≤ 1000000 ∧ i.natAbs < 2 ^ 64
def CMul (i j : Int) : Prop := (-(2 ^ 64) < i ∧ i < 2 ^ 64) ∨ (-(2 ^ 64) < j ∧ j < 2 ^ 64)
theorem CMul.ok {i j : Int} (h : CMul i j) : IntMulOk i j := by
 rcases h with ⟨h1, h2⟩ | ⟨h1, h2⟩
 ·exact .of_left (intBits_le_64 h1 h2)
 ·exact .of_right (intBits_le_64 h1 h2)
theorem op_add : OpR X (binaryOp .Add) (rI0 fun i j => .int (i + j)) := opI0 fun _ _ _ _ _ _ _ q => add_int q
theorem op_sub : OpR X (binaryOp .Sub) (rI0 fun i j => .int (i - j)) := opI0 fun _ _ _ _ _ _ _ q => sub_int q
theorem op_mul : OpR X (binaryOp .Mult) (rI CMul fun i j => .int (i * j)) := opI fun _ _ _ _ _ _ _ hc q => mul_int q hc.ok
theorem op_fdiv : OpR X (binaryOp .FloorDiv) (rI CDiv fun i j => .int (i / j)) := opI fun i j _ _ _ _ _ hc q => by
 have h1 : (0 : Int) < j := hc.1
 have h2 : j < 1073741824 := hc.2
 exact floordiv_int (by omega) (by rw [Int.fdiv_eq_ediv_of_nonneg i (by omega)]; exact q) (.inl (PyProof.noPylong_small (by omega)))
theorem op_mod : OpR X (binaryOp .Mod) (rI (fun _ j => 0 < j) fun i j => .int (i % j)) := opI fun i j _ _ _ _ _ hc q => by
 have h1 : (0 : Int) < j := hc
 exact mod_int' (by omega) (by rw [Int.fmod_eq_emod_of_nonneg i (by omega)]; exact q)
theorem op_pow : OpR X (binaryOp .Pow) (rI CPow fun i j => .int (i ^ j.toNat)) := opI fun _ _ _ _ _ _ _ hc q => pow_int_small hc.1 hc.2.1 hc.2.2 q
theorem unI {f : Value → Sem Value} {g : Int → Int}
  (rule : ∀ (i : Int) (t : Tok) (s : Shared) (Q : Value → Shared → Prop) (E : Value → Shared → Prop), Q (.int (g i) s.toks) { s with toks := s.toks + 1 } → wpAny (model X.prog X.w) X.A (f (.int i t)) Q E s) :
  UnR X f (rU fun i => .int (g i)) := by
 intro pins s σ H x v Q I rx h
 obtain ⟨i, rfl, q⟩ := h
 obtain ⟨t, rfl⟩ := rx
 exact rule i t s _ _ ⟨.int (g i), H, I.tok _, ⟨_, rfl⟩, q⟩
theorem un_neg : UnR X (unaryOp .USub) (rU fun i => .int (-i)) := unI fun _ _ _ _ _ q => neg_int q
end
def scal : V → V → Bool
 | .non, .non => true | .non, .int _ => true | .int _, .non => true | .non, .bl _ => true | .bl _, .non => true | .non, .str _ => true | .str _, .non => true
 | .int _, .int _ => true | .bl _, .bl _ => true | .str _, .str _ => true | .byt _, .byt _ => true
 | .int _, .str _ => true | .str _, .int _ => true | .bl _, .str _ => true | .str _, .bl _ => true
 | _, _ => false
def rEq : R2 := fun x y H Q => scal x y = true ∧ Q (.bl (decide (x = y))) H
def rNe : R2 := fun x y H Q => scal x y = true ∧ Q (.bl (!decide (x = y))) H
theorem dec_int {i j : Int} : decide (V.int i = V.int j) = (i == j) := by
 rw [Bool.eq_iff_iff]
 simp
theorem dec_bl {i j : Bool} : decide (V.bl i = V.bl j) = (i == j) := by
 rw [Bool.eq_iff_iff]
 simp
theorem dec_str {i j : Str} : decide (V.str i = V.str j) = (i == j) := by
 rw [Bool.eq_iff_iff]
 simp
theorem dec_byt {i j : Array UInt8} : decide (V.byt i = V.byt j) = (i.toList == j.toList) := by
 rw [Bool.eq_iff_iff]
 cases i
 cases j
 simp
section
variable {X : Cx} {a b c : Expr} {ta tb tc : TE} {pos : Pos}
theorem fin_bl {pins : List (Addr × Obj)} {σ : St} {H : Hp} {s : Shared} {Q : VK} {k k' : Bool} (I : Inv X pins σ H s) (q : Q (.bl k) H) (e : k = k') : EP X pins σ Q (.bool k') s := by
 subst e
 exact ⟨.bl k, H, I, rfl, q⟩
theorem op_eq : OpR X (compareOp .Eq) rEq := by
 intro pins s σ H x y v u Q I rx ry h
 obtain ⟨hs, q⟩ := h
 cases x with
 | non =>
  cases rx
  cases y with
  | non => cases ry; exact PySem.EqNone.eq_none_none (fin_bl I q (by simp))
  | bl j => cases ry; exact PySem.EqNone.eq_none_bool (fin_bl I q (by simp))
  | int j => obtain ⟨t', rfl⟩ := ry; exact PySem.EqNone.eq_none_int (fin_bl I q (by simp))
  | str j => obtain ⟨t', rfl⟩ := ry; exact PySem.EqNone.eq_none_str (fin_bl I q (by simp))
  | _ => exact absurd (show false = true from hs) Bool.false_ne_true
 | bl i =>
  cases rx
  cases y with
  | non => cases ry; exact PySem.EqNone.eq_bool_none (fin_bl I q (by simp))
  | bl j => cases ry; exact eq_bool (fin_bl I q dec_bl)
  | str j => obtain ⟨t', rfl⟩ := ry; exact PySem.EqMixed.eq_bool_str (fin_bl I q (by simp))
  | _ => exact absurd (show false = true from hs) Bool.false_ne_true
 | int i =>
  obtain ⟨t, rfl⟩ := rx
  cases y with
  | non => cases ry; exact PySem.EqNone.eq_int_none (fin_bl I q (by simp))
  | int j => obtain ⟨t', rfl⟩ := ry; exact eq_int (fin_bl I q dec_int)
  | str j => obtain ⟨t', rfl⟩ := ry; exact PySem.EqMixed.eq_int_str (fin_bl I q (by simp))
  | _ => exact absurd (show false = true from hs) Bool.false_ne_true
 | str i =>
  obtain ⟨t, rfl⟩ := rx
  cases y with
  | non => cases ry; exact PySem.EqNone.eq_str_none (fin_bl I q (by simp))
  | bl j => cases ry; exact PySem.EqMixed.eq_str_bool (fin_bl I q (by simp))
  | int j => obtain ⟨t', rfl⟩ := ry; exact PySem.EqMixed.eq_str_int (fin_bl I q (by simp))
  | str j => obtain ⟨t', rfl⟩ := ry; exact eq_str (fin_bl I q dec_str)
  | _ => exact absurd (show false = true from hs) Bool.false_ne_true
 | byt i =>
  obtain ⟨t, rfl⟩ := rx
  cases y with
  | byt j => obtain ⟨t', rfl⟩ := ry; exact PySem.W.eq_bytes (fin_bl I q dec_byt)
  | _ => exact absurd (show false = true from hs) Bool.false_ne_true
 | _ => cases y <;> exact absurd (show false = true from hs) Bool.false_ne_true
theorem op_ne : OpR X (compareOp .NotEq) rNe := by
 intro pins s σ H x y v u Q I rx ry h
 obtain ⟨hs, q⟩ := h
 cases x with
 | non =>
  cases rx
  cases y with
  | non => cases ry; exact PySem.EqNone.ne_none_none (fin_bl I q (by simp))
  | bl j => cases ry; exact PySem.EqNone.ne_none_bool (fin_bl I q (by simp))
  | int j => obtain ⟨t', rfl⟩ := ry; exact PySem.EqNone.ne_none_int (fin_bl I q (by simp))
  | str j => obtain ⟨t', rfl⟩ := ry; exact PySem.EqNone.ne_none_str (fin_bl I q (by simp))
  | _ => exact absurd (show false = true from hs) Bool.false_ne_true
 | bl i =>
  cases rx
  cases y with
  | non => cases ry; exact PySem.EqNone.ne_bool_none (fin_bl I q (by simp))
  | bl j => cases ry; exact ne_bool (fin_bl I q (congrArg not dec_bl))
  | str j => obtain ⟨t', rfl⟩ := ry; exact PySem.EqMixed.ne_bool_str (fin_bl I q (by simp))
  | _ => exact absurd (show false = true from hs) Bool.false_ne_true
 | int i =>
  obtain ⟨t, rfl⟩ := rx
  cases y with
  | non => cases ry; exact PySem.EqNone.ne_int_none (fin_bl I q (by simp))
  | int j => obtain ⟨t', rfl⟩ := ry; exact ne_int (fin_bl I q (congrArg not dec_int))
  | str j => obtain ⟨t', rfl⟩ := ry; exact PySem.EqMixed.ne_int_str (fin_bl I q (by simp))
  | _ => exact absurd (show false = true from hs) Bool.false_ne_true
 | str i =>
  obtain ⟨t, rfl⟩ := rx
  cases y with
  | non => cases ry; exact PySem.EqNone.ne_str_none (fin_bl I q (by simp))
  | bl j => cases ry; exact PySem.EqMixed.ne_str_bool (fin_bl I q (by simp))
  | int j => obtain ⟨t', rfl⟩ := ry; exact PySem.EqMixed.ne_str_int (fin_bl I q (by simp))
  | str j => obtain ⟨t', rfl⟩ := ry; exact ne_str (fin_bl I q (congrArg not dec_str))
  | _ => exact absurd (show false = true from hs) Bool.false_ne_true
 | byt i =>
  obtain ⟨t, rfl⟩ := rx
  cases y with
  | byt j => obtain ⟨t', rfl⟩ := ry; exact PySem.W.ne_bytes (fin_bl I q (congrArg not dec_byt))
  | _ => exact absurd (show false = true from hs) Bool.false_ne_true
 | _ => cases y <;> exact absurd (show false = true from hs) Bool.false_ne_true
theorem op_lt : OpR X (compareOp .Lt) (rI0 fun i j => .bl (decide (i < j))) := opB0 fun _ _ _ _ _ _ _ q => lt_int q
theorem op_le : OpR X (compareOp .LtE) (rI0 fun i j => .bl (decide (i ≤ j))) := opB0 fun _ _ _ _ _ _ _ q => le_int q
theorem op_gt : OpR X (compareOp .Gt) (rI0 fun i j => .bl (decide (j < i))) := opB0 fun _ _ _ _ _ _ _ q => gt_int q
theorem op_isN : OpR X (compareOp .Is) (fun x y H Q => y = .non ∧ Q (.bl (decide (x = .non))) H) := by
 intro pins s σ H x y v u Q I rx ry h
 obtain ⟨rfl, q⟩ := h
 cases ry
 refine is_none_gen (fin_bl I q ?_)
 cases x <;> first
  | (cases rx; rfl)
  | (obtain ⟨t, rfl⟩ := rx; rfl)
theorem op_notN : OpR X (compareOp .IsNot) (fun x y H Q => y = .non ∧ Q (.bl (!decide (x = .non))) H) := by
 intro pins s σ H x y v u Q I rx ry h
 obtain ⟨rfl, q⟩ := h
 cases ry
 refine isnot_none_gen (fin_bl I q ?_)
 cases x <;> first
  | (cases rx; rfl)
  | (obtain ⟨t, rfl⟩ := rx; rfl)
theorem nomark (b : Expr) {op : CmpOp} (h : op ≠ .In := by decide) (h2 : op ≠ .NotIn := by decide) : behindInMarks op b = false := by
 have e1 : (op == CmpOp.In) = false := by cases op <;> first | rfl | exact absurd rfl h
 have e2 : (op == CmpOp.NotIn) = false := by cases op <;> first | rfl | exact absurd rfl h2
 cases b <;> simp [behindInMarks, e1, e2]
theorem pe_cmpR {op : CmpOp} {r : R2} (ho : OpR X (compareOp op) r) (ha : PE X a ta) (hb : PE X b tb) (hm : behindInMarks op b = false) : PE X (.Compare a [op] [b] pos) (tOp r ta tb) := by
 intro pins s σ H Q I h
 exact wpAny_Compare1 (binT ha hb I h fun v u s2 x y H2 I2 rx ry q => ho pins s2 σ H2 x y v u Q I2 rx ry q) hm
def tTest (t : TE) : TT := fun σ H Q => t σ H fun x H' => ∃ k, x = .bl k ∧ Q k H'
theorem pt_cmpR {op : CmpOp} {r : R2} (ho : OpR X (compareOp op) r) (ha : PE X a ta) (hb : PE X b tb) (hm : behindInMarks op b = false) : PT X (.Compare a [op] [b] pos) (tTest (tOp r ta tb)) := by
 intro pins s σ H Q I h
 refine wpAny_isTrue_Compare1 (thn (ha pins s σ H _ I h) fun v s1 ⟨x, H1, I1, r1, q1⟩ => thn (hb pins s1 σ H1 _ I1 q1) fun u s2 ⟨y, H2, I2, r2, q2⟩ =>
  thn (ho pins s2 σ H2 x y v u _ I2 r1 r2 q2) fun c s3 ⟨z, H3, I3, r3, k, e, q3⟩ => ?_) hm
 subst e
 cases r3
 exact wpAny_truthy_bool ⟨H3, I3, q3⟩
def tChain (r r' : R2) (ta tb tc : TE) : TE := fun σ H Q => ta σ H fun x H1 => tb σ H1 fun y H2 => r x y H2 fun z H3 => ∃ k, z = .bl k ∧
 (if k = true then tc σ H3 fun w' H4 => r' y w' H4 Q else Q (.bl false) H3)
theorem pe_chain {op op' : CmpOp} {r r' : R2} (ho : OpR X (compareOp op) r) (ho' : OpR X (compareOp op') r') (ha : PE X a ta) (hb : PE X b tb) (hc : PE X c tc)
  (hm : lastMarks [op, op'] [b, c] = false := by with_unfolding_all rfl) : PE X (.Compare a [op, op'] [b, c] pos) (tChain r r' ta tb tc) := by
 intro pins s σ H Q I h
 refine Compare_chain (thn (ha pins s σ H _ I h) fun v s1 ⟨x, H1, I1, r1, q1⟩ => chain_link (thn (hb pins s1 σ H1 _ I1 q1) fun u s2 ⟨y, H2, I2, r2, q2⟩ =>
  thn (ho pins s2 σ H2 x y v u _ I2 r1 r2 q2) fun d s3 ⟨z, H3, I3, r3, k, e, q3⟩ => ?_)) hm
 subst e
 cases r3
 refine wpAny_truthy_bool ?_
 cases k with
 | false => exact ite_ff ⟨.bl false, H3, I3, rfl, q3⟩
 | true => exact ite_tt (chain_last (thn (hc pins s3 σ H3 _ I3 q3) fun w' s4 ⟨z', H4, I4, r4, q4⟩ => ho' pins s4 σ H4 y z' u w' Q I4 r2 r4 q4))
theorem pt_chain {op op' : CmpOp} {r r' : R2} (ho : OpR X (compareOp op) r) (ho' : OpR X (compareOp op') r') (ha : PE X a ta) (hb : PE X b tb) (hc : PE X c tc)
  (hm : lastMarks [op, op'] [b, c] = false := by with_unfolding_all rfl) : PT X (.Compare a [op, op'] [b, c] pos) (tTest (tChain r r' ta tb tc)) := by
 intro pins s σ H Q I h
 refine isTrue_chain (thn (ha pins s σ H _ I h) fun v s1 ⟨x, H1, I1, r1, q1⟩ => test_link (thn (hb pins s1 σ H1 _ I1 q1) fun u s2 ⟨y, H2, I2, r2, q2⟩ =>
  thn (ho pins s2 σ H2 x y v u _ I2 r1 r2 q2) fun d s3 ⟨z, H3, I3, r3, k, e, q3⟩ => ?_)) hm
 subst e
 cases r3
 refine wpAny_truthy_bool ?_
 cases k with
 | false =>
  obtain ⟨k', e', q'⟩ := q3
  cases e'
  exact ite_ff ⟨H3, I3, q'⟩
 | true =>
  refine ite_tt (test_last (thn (hc pins s3 σ H3 _ I3 q3) fun w' s4 ⟨z', H4, I4, r4, q4⟩ => thn (ho' pins s4 σ H4 y z' u w' _ I4 r2 r4 q4) fun d' s5 ⟨z2, H5, I5, r5, k2, e2, q5⟩ => ?_))
  subst e2
  cases r5
  exact wpAny_truthy_bool ⟨H5, I5, q5⟩
theorem line63 : (sizeLine : Nat) < 2 ^ 63 := by rw [sizeLine_eq]; decide
theorem vals1 {x : V} {us : List Value} (r : Vals [x] us) : ∃ u, us = [u] ∧ RelV x u := by
 cases r with
 | cons r1 r2 => cases r2; exact ⟨_, rfl, r1⟩
theorem vals2 {x y : V} {us : List Value} (r : Vals [x, y] us) : ∃ u w', us = [u, w'] ∧ RelV x u ∧ RelV y w' := by
 cases r with
 | cons r1 r2 =>
  cases r2 with
  | cons r3 r4 => cases r4; exact ⟨_, _, rfl, r1, r3⟩
theorem call_min2 (hc : X.calm = true) : CallR X (.builtin "min") (fun xs H Q => ∃ i j, xs = [.int i, .int j] ∧ Q (.int (if j < i then j else i)) H) := by
 intro pins s σ H xs us Q I r h
 obtain ⟨i, j, rfl, q⟩ := h
 obtain ⟨u, w', rfl, ⟨t, rfl⟩, ⟨t', rfl⟩⟩ := vals2 r
 refine min_two_ints (I.ok.hd hc) fun h' tk k => ⟨_, H, I.kept k, ?_, q⟩
 by_cases hj : j < i
 ·rw [if_pos hj, if_pos hj]; exact ⟨_, rfl⟩
 ·rw [if_neg hj, if_neg hj]; exact ⟨_, rfl⟩
theorem call_int1 : CallR X (.type "int") (fun xs H Q => (∃ i, xs = [.int i] ∧ Q (.int i) H) ∨ ∃ k, xs = [.bl k] ∧ Q (.int (if k then 1 else 0)) H) := by
 intro pins s σ H xs us Q I r h
 rcases h with ⟨i, rfl, q⟩ | ⟨k, rfl, q⟩
 ·obtain ⟨u, rfl, t, rfl⟩ := vals1 r
  exact call_int_int ⟨.int i, H, I, ⟨_, rfl⟩, q⟩
 ·obtain ⟨u, rfl, r1⟩ := vals1 r
  cases r1
  exact call_int_bool ⟨.int (if k then 1 else 0), H, I.tok _, ⟨_, rfl⟩, q⟩
end
end L2
namespace L2
open PySem PySem.Spec PyProof.Rows
structure ObjM (h : Heap) (x dx C : Addr) (mA : Str → Option Value) : Prop where
 obj : h.get? x = some (PySem.W.instObj C dx)
 ns : h.Ns1 dx mA
 ne : dx ≠ x
theorem lookIn_ns {h : Heap} {dx : Addr} {mA : Str → Option Value} (n : h.Ns1 dx mA) : ∃ od, h.get? dx = some od ∧ ∀ name, PySem.W.lookIn name od = some (mA name) := by
 obtain ⟨o, es, ep, ho, hd, hk, _, hm⟩ := n
 refine ⟨o, ho, fun name => ?_⟩
 have e := hm name
 unfold nsFind findBy at e
 rw [← Array.find?_toList] at e
 unfold PySem.W.lookIn
 rw [hd]
 dsimp only
 split
 ·rename_i y q
  rw [q] at e
  exact congrArg some e
 ·rename_i q
  rw [q] at e
  have a : es.toList.any (·.refKey) = false := by
   rw [List.any_eq_false]
   intro y hy
   obtain ⟨z, t, hkey⟩ := hk y (Array.mem_toList_iff.mp hy)
   simp [DictEntry.refKey, hkey]
  have a' : ¬ es.toList.any (·.refKey) = true := by rw [a]; exact Bool.false_ne_true
  rw [if_neg a']
  exact congrArg some e
theorem ObjM.look {h : Heap} {x dx C : Addr} {mA : Str → Option Value} (I : ObjM h x dx C mA) : ∃ od, PySem.W.InstAt h x (PySem.W.instObj C dx) C (some od) ∧ ∀ name, PySem.W.lookIn name od = some (mA name) :=
 let ⟨od, ho, hl⟩ := lookIn_ns I.ns
 ⟨od, ⟨I.obj, rfl, rfl, ho⟩, hl⟩
section
variable {prog : Program} {w : World} {A : Around} {E : Value → Shared → Prop} {s : Shared} {K : PySem.W.Frag} {x dx C f : Addr} {mA : Str → Option Value} {name : Str} {v : Value}
end
theorem RelO.some_of {v : V} {o : Option Value} (r : RelO (some v) o) : ∃ u, o = some u ∧ RelV v u := by
 cases o with
 | none => exact (show False from r).elim
 | some u => exact ⟨u, rfl, r⟩
section
variable {P : Program} {w : World} {H H' : Hp} {h h' : Heap} {a C dx : Addr} {fs fs' : List (Str × V)}
theorem ins_get (hok : HOk P w H h) (e : H a = some (.ins C dx fs)) : ∃ mA, ObjM h a dx C mA ∧ (∀ f, RelO (fs.lookup f) (mA f)) ∧ PySem.Within mA (fs.map (·.1)) ∧ fs.length ≤ 1000 ∧ H dx = some (.own a) := by
 obtain ⟨d, z, ne, ob, mA, n, r, q⟩ := (show ObjOk P w H h a (.ins C dx fs) from hok a _ e)
 exact ⟨mA, ⟨ob, n, ne⟩, r, q, z, d⟩
end
structure Cls (K : PySem.W.Frag) (C : Addr) : Prop where
 pg : PySem.W.plainGet K C Str.empty = true
 hd : PySem.W.hasDictIn K C = true
 po : PySem.W.plainOver K C = true
 sa : PySem.W.findIn K (.ref C) "__setattr__" = some (some (.builtin "object.__setattr__"))
theorem Cls.get {K : PySem.W.Frag} {C : Addr} (c : Cls K C) (f : Str) : PySem.W.plainGet K C f = true := c.pg
structure Con (K : PySem.W.Frag) (C : Addr) (f : Str) (v : V) (u : Value) : Prop where
 at_ : PySem.W.findIn K (.ref C) f = some (some u)
 rel : RelV v u
 get : PySem.W.specialIn K u "__get__" = some none
 cp : PySem.W.copiedNames.contains f = false
structure Meth (K : PySem.W.Frag) (C : Addr) (m : Str) (f : Addr) : Prop where
 at_ : PySem.W.findIn K (.ref C) m = some (some (.ref f))
 fn : PySem.W.isFn K (.ref f) = true
 kp : PySem.W.keepIn K (.ref f) = true
section
variable {X : Cx} {pins : List (Addr × Obj)} {σ : St} {H : Hp} {s : Shared} {a C dx : Addr} {fs : List (Str × V)} {f : Str} {v : V} {A : Around} {E : Value → Shared → Prop}
end
section
variable {X : Cx} {o e value : Expr} {f : Str} {pos pos' tpos : Pos} {ta tv : TE}
end
section
variable {X : Cx} {pins : List (Addr × Obj)} {σ : St} {H : Hp} {s : Shared} {A : Around} {E : Value → Shared → Prop} {Q : Value → Shared → Prop} {c : Value} {b : Bool}
inductive TyOf (K : PySem.W.Frag) (H : Hp) : V → Value → Prop where
 | non : TyOf K H .non (.type "NoneType")
 | bl (x : Bool) : TyOf K H (.bl x) (.type "bool")
 | int (i : Int) : TyOf K H (.int i) (.type "int")
 | str (x : Str) : TyOf K H (.str x) (.type "str")
 | flt (x : UInt64) : TyOf K H (.flt x) (.type "float")
 | lst {a : Addr} {xs : List V} (e : H a = some (.lst xs)) : TyOf K H (.ref a) (.type "list")
 | frz {a : Addr} {o : Obj} {xs : List V} (e : H a = some (.frz o (.lst xs))) : TyOf K H (.ref a) (.type "list")
 | tup {a : Addr} {xs : List V} (e : H a = some (.tup xs)) : TyOf K H (.ref a) (.type "tuple")
 | dK {a : Addr} {kvs : List (Key × V)} (e : H a = some (.dK kvs)) : TyOf K H (.ref a) (.type "dict")
 | dT {a : Addr} {kvs : List (List Key × V)} (e : H a = some (.dT kvs)) : TyOf K H (.ref a) (.type "dict")
 | ins {a C dx : Addr} {fs : List (Str × V)} (e : H a = some (.ins C dx fs)) (cl : Cls K C) (ha : PySem.W.findIn K (.ref C) "__class__" = some (some (.builtin "object.__class__")))
   (hn : PySem.W.specialIn K (.builtin "object.__class__") "__get__" = some (some (.builtin "getset_descriptor.__get__"))) (htk : PySem.W.takesIn K (.builtin "object.__class__") = some true)
   (hm : PySem.W.mroIn K C (.type "object") = some true) : TyOf K H (.ref a) (.ref C)
theorem isinst_ok {x : V} {u t : Value} (I : Inv X pins σ H s) (rx : RelV x u) (ty : TyOf X.K H x t) (e : PySem.W.kitOne X.K t c = some b) (h : ∀ tk, Q (.bool b) { s with toks := tk }) :
  wpAny (model X.prog X.w) A (call (.builtin "isinstance") [u, c]) Q E s := by
 cases ty with
 | non => cases (show u = Value.none from rx); exact PySem.W.kia_one PySem.W.kitx_none I.kIn True.intro e (fun z => nomatch z) h
 | bl y => cases (show u = Value.bool y from rx); exact PySem.W.kia_one PySem.W.kitx_bool I.kIn True.intro e (fun z => nomatch z) h
 | int i => obtain ⟨t, q⟩ := (show ∃ t, u = Value.int i t from rx); cases q; exact PySem.W.kia_one PySem.W.kitx_int I.kIn True.intro e (fun z => nomatch z) h
 | str y => obtain ⟨t, q⟩ := (show ∃ t, u = Value.str y t from rx); cases q; exact PySem.W.kia_one PySem.W.kitx_str I.kIn True.intro e (fun z => nomatch z) h
 | flt y => obtain ⟨t, q⟩ := (show ∃ t, u = Value.float y t from rx); cases q; exact PySem.W.kia_one PySem.W.kitx_float I.kIn True.intro e (fun z => nomatch z) h
 | @lst a xs ea =>
  cases (show u = Value.ref a from rx)
  obtain ⟨_, _, n, _, h1⟩ := (show ObjOk X.prog X.w H s.heap a (.lst xs) from I.hok a _ ea)
  exact PySem.W.kia_one PySem.W.kitx_list I.kIn ⟨_, h1, rfl⟩ e (fun z => nomatch z) h
 | @frz a ob xs ea =>
  cases (show u = Value.ref a from rx)
  obtain ⟨_, _, _, n, _, h1⟩ := (show ObjOk X.prog X.w H s.heap a (.frz ob (.lst xs)) from I.hok a _ ea)
  exact PySem.W.kia_one PySem.W.kitx_list I.kIn ⟨_, h1, rfl⟩ e (fun z => nomatch z) h
 | @tup a xs ea =>
  cases (show u = Value.ref a from rx)
  obtain ⟨_, _, _, p⟩ := (show ObjOk X.prog X.w H s.heap a (.tup xs) from I.hok a _ ea)
  obtain ⟨o, h1, h2, _⟩ := p
  exact PySem.W.kia_one PySem.W.kitx_tuple I.kIn ⟨o, h1, h2⟩ e (fun z => nomatch z) h
 | @dK a kvs ea =>
  cases (show u = Value.ref a from rx)
  obtain ⟨_, _, vs, _, p⟩ := (show ObjOk X.prog X.w H s.heap a (.dK kvs) from I.hok a _ ea)
  obtain ⟨o, es, ep, h1, h2, _⟩ := p
  exact PySem.W.kia_one PySem.W.kitx_dict I.kIn ⟨o, h1, h2.1⟩ e (fun z => nomatch z) h
 | @dT a kvs ea =>
  cases (show u = Value.ref a from rx)
  obtain ⟨_, _, xs, _, o, es, ep, h1, h2, _⟩ := (show ObjOk X.prog X.w H s.heap a (.dT kvs) from I.hok a _ ea)
  exact PySem.W.kia_one PySem.W.kitx_dict I.kIn ⟨o, h1, h2.1⟩ e (fun z => nomatch z) h
 | @ins a C dx fs ea cl ha hn htk hm =>
  cases (show u = Value.ref a from rx)
  obtain ⟨mA, O, _⟩ := ins_get I.hok ea
  obtain ⟨od, J, _⟩ := O.look
  exact PySem.W.kia_one (PySem.W.kitx_own (cl.get _) cl.hd ha hn htk hm) I.kIn J e (fun z => nomatch z) h
end
end L2
namespace L2
open PySem PySem.Spec PyProof.Rows
structure Room (k : Nat) (A : Around) : Prop where
 hd : A.handled = none
 dp : A.depth + 3 * k + 5 < recursionLimit
 un : A.units + 16 * k + 200 < cLine
theorem Room.mono {j k : Nat} {A : Around} (r : Room k A) (h : j ≤ k) : Room j A := ⟨r.hd, by have := r.dp; omega, by have := r.un; omega⟩
theorem Room.deeper {k : Nat} {A : Around} (r : Room (k + 1) A) (env : Env) : Room k (A.deeper env) :=
 ⟨r.hd, by have := r.dp; show A.depth + 1 + 3 * k + 5 < _; omega, by have := r.un; show A.units + 3 + 16 * k + 200 < _; omega⟩
theorem Room.depth {k : Nat} {A : Around} (r : Room k A) : A.depth < recursionLimit := by have := r.dp; omega
theorem Room.units {k : Nat} {A : Around} (r : Room k A) : A.units + 64 < cLine := by have := r.un; omega
theorem Room.units0 {k : Nat} {A : Around} (r : Room k A) : A.units < cLine := by have := r.un; omega
def tNil : TA := fun _ H Q => Q [] H
def tCons (ta : TE) (tr : TA) : TA := fun σ H Q => ta σ H fun x H1 => tr σ H1 fun xs H2 => Q (x :: xs) H2
section
variable {X : Cx} {e : Expr} {es : List Expr} {te : TE} {t : TA} {pos : Pos}
theorem pa_nil : PA X [] tNil := fun _ _ _ _ H Q I h => Calls.spliced_nil ⟨[], H, I, .nil, h⟩
theorem pa_cons (ha : PE X e te) (hr : PA X es t) (hs : starEach (e :: es) X.env = (false, eval e X.env) :: starEach es X.env := by rfl) : PA X (e :: es) (tCons te t) := by
 intro pos pins s σ H Q I h
 rw [hs]
 show wpAny _ _ (spliced ((false, eval e X.env) :: backTo pos (starEach es X.env))) _ _ s
 refine Calls.spliced_cons (thn (ha pins s σ H _ I h) fun u s1 ⟨x, H1, I1, r1, q1⟩ => ?_)
 exact thn (hr pos pins s1 σ H1 _ I1 q1) fun us s2 ⟨xs, H2, I2, r2, q2⟩ => ⟨x :: xs, H2, I2, .cons r1 r2, q2⟩
def tTup (t : TA) : TE := fun σ H Q => t σ H fun xs H1 => xs.length ≤ sizeLine ∧ ∀ p, H1 p = none → Q (.ref p) (upd H1 p (.tup xs))
def tLst (t : TA) : TE := fun σ H Q => t σ H fun xs H1 => xs.length ≤ sizeLine ∧ ∀ p, H1 p = none → Q (.ref p) (upd H1 p (.lst xs))
theorem pe_tup {x1} (h : PA X es t) : PE X (.Tuple es x1 pos) (tTup t) := by
 intro pins s σ H Q I hq
 refine wpAny_Tuple_spliced (thn (h pos pins s σ H _ I hq) fun us s1 ⟨xs, H1, I1, r, z, q⟩ => ⟨by rw [← r.length]; exact z, ?_⟩)
 have hf : H1 s1.heap.objs.size = none := I1.hok.fresh (Nat.le_refl _)
 refine ⟨.ref s1.heap.objs.size, upd H1 s1.heap.objs.size (.tup xs), I1.laid (t' := s1.toks) (fun b u e => Heap.get?_push_of_some _ e) (Nat.le_refl _) ?_, rfl, q _ hf⟩
 exact ⟨z, us, r, ⟨_, Heap.get?_push_size _ rfl, rfl, rfl, _, rfl⟩⟩
theorem pe_lst (h : PA X es t) : PE X (.List es pos) (tLst t) := by
 intro pins s σ H Q I hq
 refine wpAny_List_spliced (thn (h pos pins s σ H _ I hq) fun us s1 ⟨xs, H1, I1, r, z, q⟩ => ⟨by rw [← r.length]; exact z, ?_⟩)
 have hf : H1 s1.heap.objs.size = none := I1.hok.fresh (Nat.le_refl _)
 refine ⟨.ref s1.heap.objs.size, upd H1 s1.heap.objs.size (.lst xs), I1.laid (t' := s1.toks) (fun b u e => Heap.get?_push_of_some _ e) (Nat.le_refl _) ?_, rfl, q _ hf⟩
 exact ⟨z, us, 0, r, Heap.get?_push_size _ rfl⟩
end
abbrev Sp := List V → Hp → VK → XK → Prop
abbrev CXT := List Env → Hp → Shared → XK → Value → Shared → Prop
structure Env0 (P : Program) (w : World) (K : PySem.W.Frag) (mg : Str → Option Value) (base : Heap) (A : Around) (outer : List Env) (s : Shared) (H : Hp) : Prop where
 frames : A.frames = some outer
 mod : Mod K mg base
 bs : ∀ b o, base.get? b = some o → s.heap.get? b = some o ∧ H b = none
 bsz : base.objs.size ≤ s.heap.objs.size
 funs : s.heap.FunFrames base outer
 frf : ∀ b ∈ frs outer, H b = none
 hok : HOk P w H s.heap
 bare : AllBare s.gens
def CE (outer : List Env) (P : Program) (w : World) (H : Hp) (s : Shared) (Q : VK) (u : Value) (s' : Shared) : Prop :=
 ∃ v H', s'.os = s.os ∧ AllBare s'.gens ∧ Un (frs outer) [] H H' s.heap s'.heap ∧ HOk P w H' s'.heap ∧ RelV v u ∧ Q v H'
def CR (CX : CXT) (outer : List Env) (P : Program) (w : World) (H : Hp) (s : Shared) (Q : VK) (E : XK) (r : Result) (s' : Shared) : Prop :=
 match r with
 | .ok (.ret u) => CE outer P w H s Q u s'
 | .ok _ => False
 | .error e => CX outer H s E e s'
structure FnOk (P : Program) (w : World) (K : PySem.W.Frag) (mg : Str → Option Value) (base : Heap) (CX : CXT) (k : Nat) (f : Addr) (fd : FuncData) (ps : List Str) (sp : Sp) : Prop where
 len : ∀ vs H Q E, sp vs H Q E → vs.length = ps.length
 run : ∀ (A : Around) (outer : List Env) (s : Shared) (H : Hp) (args : Args) (us : List Value) (vs : List V) (Q : VK) (E : XK), Room k A → Env0 P w K mg base A outer s H → BindsTo s fd args (ps.zip us) → Vals vs us → sp vs H Q E →
  codeAny (model P w) A (.call (.ref f) args) (CR CX outer P w H s Q E) s
section
variable {X : Cx} {pins : List (Addr × Obj)} {σ : St} {H : Hp} {s s' : Shared}
theorem Inv.env0 (I : Inv X pins σ H s) : Env0 X.prog X.w X.K X.mg X.base X.A X.stack s H :=
 ⟨I.ok.frames, I.ok.mod, I.bs, Nat.le_trans I.ok.bsz I.sz, I.stack, I.stkFree, I.hok, I.bare⟩
theorem Inv.after {Q : VK} {u : Value} (I : Inv X pins σ H s) (h : CE X.stack X.prog X.w H s Q u s') : EP X pins σ Q u s' := by
 obtain ⟨v, H', os, bare, un, hok, r, q⟩ := h
 obtain ⟨hh, g, d, t, os'⟩ := s'
 obtain rfl : os' = s.os := os
 exact ⟨v, H', I.call (h' := hh) (g' := g) (d' := d) (t' := t) (ch := []) un hok bare (fun b z => absurd z (by simp)), r, q⟩
end
def tCall (sp : Sp) (dvs : List V) (E : XK) (t : TA) : TE := fun σ H Q => t σ H fun vs H1 => sp (vs ++ dvs) H1 Q E
def Binds (K : PySem.W.Frag) (fd : FuncData) (ps : List Str) (ds : List Value) : Prop :=
 ∀ (s : Shared) (us : List Value), K.In s.heap → (us ++ ds).length = ps.length → BindsTo s fd ⟨us, []⟩ (ps.zip (us ++ ds))
theorem Binds.all {K : PySem.W.Frag} {fd : FuncData} {ps : List Str} (h : ∀ us : List Value, us.length = ps.length → bindArgs fd ⟨us, []⟩ = pure (ps.zip us)) : Binds K fd ps [] := fun s us _ hl => by
 rw [List.append_nil] at hl ⊢
 exact .of_eq (h us hl)
def Passes (CX : CXT) (X : Cx) (E : XK) : Prop := ∀ (pins : List (Addr × Obj)) (σ : St) (H : Hp) (s : Shared) (e : Value) (s' : Shared), Inv X pins σ H s → CX X.stack H s E e s' → X.xe e s'
section
variable {X : Cx} {CX : CXT} {k : Nat} {f C : Addr} {fd : FuncData} {ps : List Str} {sp : Sp} {dvs : List V} {ds : List Value} {E : XK} {x m : Str} {p pos apos : Pos} {e o : Expr} {es : List Expr} {ta : TE} {t : TA}
theorem run_fn {pins : List (Addr × Obj)} {σ : St} {H : Hp} {s : Shared} {Q : VK} {us : List Value} {vs : List V} (F : FnOk X.prog X.w X.K X.mg X.base CX k f fd ps sp) (hr : Room k X.A) (hb : Binds X.K fd ps ds) (hd : Vals dvs ds) (hx : Passes CX X E)
  (I : Inv X pins σ H s) (r : Vals vs us) (h : sp (vs ++ dvs) H Q E) : wpAny (model X.prog X.w) X.A (call (.ref f) us) (EP X pins σ Q) X.xe s := by
 have r2 : Vals (vs ++ dvs) (us ++ ds) := r.append hd
 have hl : (us ++ ds).length = ps.length := by rw [← r2.length]; exact F.len _ _ _ _ h
 refine wpAny_call (codeAny_mono (F.run X.A X.stack s H ⟨us, []⟩ (us ++ ds) (vs ++ dvs) Q E hr I.env0 (hb s us I.kIn hl) r2 h) fun r s' hq => ?_)
 cases r with
 | error e => exact hx pins σ H s e s' I hq
 | ok fl =>
  cases fl with
  | ret u => exact I.after hq
  | next => exact False.elim hq
  | brk => exact False.elim hq
  | cont => exact False.elim hq
theorem pe_call (F : FnOk X.prog X.w X.K X.mg X.base CX k f fd ps sp) (hr : Room k X.A) (hg : Gl X x) (hm : X.mg x = some (.ref f)) (hk : PySem.W.keepIn X.K (.ref f) = true) (hb : Binds X.K fd ps ds) (hd : Vals dvs ds) (hx : Passes CX X E)
  (ha : PA X (e :: es) t) (hdb : (x == ("__debug__" : Str)) = false := by decide) (he : starEach (e :: es) X.env = (false, eval e X.env) :: starEach es X.env := by rfl) (hpl : (backTo pos (starEach es X.env)).any (·.1) = false := by rfl) :
  PE X (.Call (.Name x p) (e :: es) [] pos) (tCall sp dvs E t) := by
 intro pins s σ H Q I h
 refine wpAny_Call_Name_kw (ld_glob I hg hm ?_ hdb)
 refine PySem.W.callWith_K (h₀ := X.base) I.ok.mod.kin hk (thn (ha pos pins s σ H _ I h) fun us s1 ⟨vs, H1, I1, r, q⟩ => ⟨I1.kIn, ?_⟩) he hpl
 exact run_fn F hr hb hd hx I1 r q
structure Mk (K : PySem.W.Frag) (C f : Addr) : Prop where
 makes : PySem.W.makesIn K C = true
 init : PySem.W.findIn K (.ref C) "__init__" = some (some (.ref f))
 fn : PySem.W.isFn K (.ref f) = true
 kp : PySem.W.keepIn K (.ref C) = true
end
section
variable {X : Cx} {CX : CXT} {k : Nat} {f C : Addr} {fd : FuncData} {ps ks : List Str} {sp : Sp} {E : XK} {x m : Str} {p pos apos kpos : Pos} {e o : Expr} {es : List Expr} {kws : List Keyword} {te ta : TE} {t tk : TA} {nm : Option Str}
structure KBinds (K : PySem.W.Frag) (fd : FuncData) (ps ks : List Str) (g : List Value → List Value → List Value) (gV : List V → List V → List V) : Prop where
 to : ∀ (s : Shared) (us ws : List Value), K.In s.heap → (g us ws).length = ps.length → BindsTo s fd ⟨us, ks.zip ws⟩ (ps.zip (g us ws))
 rel : ∀ {vs : List V} {us : List Value} {zs : List V} {ws : List Value}, Vals vs us → Vals zs ws → Vals (gV vs zs) (g us ws)
variable {g : List Value → List Value → List Value} {gV : List V → List V → List V}
end
structure FnScope (N P : List Str) (sc : Scope) : Prop where
 kind : sc.kind = .function
 co : sc.isCoroutine = false
 gen : sc.isGenerator = false
 nd : N.Nodup
 pre : N.take P.length = P
 par : ∀ x ∈ P, sc.names.lookup x = some .local ∨ sc.names.lookup x = some .cell
 nofree : ∀ y ∈ sc.names, y.2 ≠ .free
theorem bindL_out {kindOf : Str → Option NameKind} {x : Str} : ∀ {binds : List (Str × Value)} {m : Str → Option Value}, (∀ v, (x, v) ∉ binds) → bindL kindOf binds m x = m x
 | [], _, _ => rfl
 | (n, v) :: r, m, h => by
  unfold bindL
  rw [bindL_out fun w hw => h w (List.mem_cons_of_mem _ hw)]
  split
  ·have : x ≠ n := by rintro rfl; exact h v List.mem_cons_self
   simp [this]
  ·rfl
theorem bindC_out {kindOf : Str → Option NameKind} {x : Str} : ∀ {binds : List (Str × Value)} {m : Str → Option Value}, (∀ v, (x, v) ∉ binds) → bindC kindOf binds m x = m x
 | [], _, _ => rfl
 | (n, v) :: r, m, h => by
  unfold bindC
  rw [bindC_out fun w hw => h w (List.mem_cons_of_mem _ hw)]
  split
  ·rfl
  ·have : x ≠ n := by rintro rfl; exact h v List.mem_cons_self
   simp [this]
theorem bindL_get {kindOf : Str → Option NameKind} {x : Str} {v : Value} : ∀ {P : List Str} {vs : List Value} {i : Nat} {m : Str → Option Value}, P.Nodup → P[i]? = some x → vs[i]? = some v → kindOf x = some .local →
  bindL kindOf (P.zip vs) m x = some v
 | [], _, _, _, _, h, _, _ => by simp at h
 | _ :: _, [], _, _, _, _, h, _ => by simp at h
 | p :: P, w :: vs, 0, m, nd, h1, h2, hk => by
  simp at h1 h2; subst h1; subst h2
  show bindL kindOf ((p, w) :: P.zip vs) m p = _
  unfold bindL
  rw [bindL_out fun v hv => (List.nodup_cons.mp nd).1 (List.of_mem_zip hv).1, if_pos hk]
  simp
 | p :: P, w :: vs, i + 1, m, nd, h1, h2, hk => by
  show bindL kindOf ((p, w) :: P.zip vs) m x = _
  unfold bindL
  exact bindL_get (i := i) (List.nodup_cons.mp nd).2 (by simpa using h1) (by simpa using h2) hk
theorem bindC_get {kindOf : Str → Option NameKind} {x : Str} {v : Value} : ∀ {P : List Str} {vs : List Value} {i : Nat} {m : Str → Option Value}, P.Nodup → P[i]? = some x → vs[i]? = some v → kindOf x ≠ some .local →
  bindC kindOf (P.zip vs) m x = some v
 | [], _, _, _, _, h, _, _ => by simp at h
 | _ :: _, [], _, _, _, _, h, _ => by simp at h
 | p :: P, w :: vs, 0, m, nd, h1, h2, hk => by
  simp at h1 h2; subst h1; subst h2
  show bindC kindOf ((p, w) :: P.zip vs) m p = _
  unfold bindC
  rw [bindC_out fun v hv => (List.nodup_cons.mp nd).1 (List.of_mem_zip hv).1, if_neg hk]
  simp
 | p :: P, w :: vs, i + 1, m, nd, h1, h2, hk => by
  show bindC kindOf ((p, w) :: P.zip vs) m x = _
  unfold bindC
  exact bindC_get (i := i) (List.nodup_cons.mp nd).2 (by simpa using h1) (by simpa using h2) hk
def start (N : List Str) (vs : List V) : St := vs.map some ++ List.replicate (N.length - vs.length) none
def cxOf (CX : CXT) (P : Program) (w : World) (K : PySem.W.Frag) (mg : Str → Option Value) (base : Heap) (N : List Str) (qual : Str) (scope : Scope) (f : Addr) (cd : Value) (A : Around) (outer : List Env) (s : Shared) (H : Hp) (E : XK) : Cx where
 prog := P
 w := w
 K := K
 mg := mg
 base := base
 A := A.deeper (envOfC qual scope s.heap.objs.size f cd)
 N := N
 s₀ := s
 H₀ := H
 env := envOfC qual scope s.heap.objs.size f cd
 outer := outer
 stack := envOfC qual scope s.heap.objs.size f cd :: outer
 ex := []
 calm := true
 fn := fun _ => true
 pn := []
 xe := fun e s' => wpAny (model P w) (A.deeper (envOfC qual scope s.heap.objs.size f cd)) (leaving (envOfC qual scope s.heap.objs.size f cd) e) (fun _ s'' => CX outer H s E e s'') (fun e' s'' => CX outer H s E e' s'') s'
theorem cell_has {sc : Scope} {n : Nat} {x : Str} (h : sc.names.lookup x = some .cell) : ∃ c, (cellsFrom n sc.names []).lookup x = some c := by
 have q := PySem.W.cellsFrom_some sc.names n [] (.inl h)
 exact Option.isSome_iff_exists.mp q
theorem inv_start {CX : CXT} {P : Program} {w : World} {K : PySem.W.Frag} {mg : Str → Option Value} {base : Heap} {N ps : List Str} {qual : Str} {scope : Scope} {f : Addr} {cd : Value} {A : Around} {outer : List Env} {s s1 : Shared} {H : Hp} {E : XK} {us : List Value} {vs : List V}
  (S : FnScope N ps scope) (hd : A.handled = none) (e0 : Env0 P w K mg base A outer s H) (hl : vs.length = ps.length) (r : Vals vs us)
  (x : InCallC s s.heap.objs.size (bindL (envOfC qual scope s.heap.objs.size f cd).kindOf (ps.zip us) fun _ => none) (cellsFrom (s.heap.objs.size + 1) scope.names []) (bindC (envOfC qual scope s.heap.objs.size f cd).kindOf (ps.zip us) fun _ => none) s1) :
  Inv (cxOf CX P w K mg base N qual scope f cd A outer s H E) [] (start N vs) H s1 := by
 have hpl : ps.length ≤ N.length := by have := congrArg List.length S.pre; rw [List.length_take] at this; omega
 obtain ⟨h1, tk, rfl, hk⟩ := x.done
 have noA : ∀ b : Addr, b ∉ (cxOf CX P w K mg base N qual scope f cd A outer s H E).ex := fun b z => absurd (show b ∈ ([] : List Addr) from z) (by simp)
 refine ⟨⟨e0.mod, S.kind, rfl, rfl, Nat.le_refl _, fun y z c h1 h2 => ?_, fun y hy => ?_, fun y c _ h => ?_, fun _ => hd, Around.frames_deeper e0.frames, .inr ⟨rfl, rfl⟩, fun b z => absurd z (noA b), e0.bs, e0.bsz, fun b _ _ => noA b, fun b z => absurd z (noA b), e0.funs, e0.frf⟩,
  rfl, e0.bare, Un.kept hk, ⟨_, x.toInCall.ns, fun i y v h1 h2 h3 => ?_⟩, fun y c h => ⟨_, x.cell y c h⟩, e0.hok.fresh (Nat.le_refl _), fun y c h => ?_, fun p hp => absurd (show p ∈ ([] : List (Addr × Obj)) from hp) (by simp), e0.hok.kept hk, ?_⟩
 ·exact name_of_addr x.apart (PySem.mem_of_lookup h1) (PySem.mem_of_lookup h2)
 ·have hy : scope.names.lookup y = some .cell ∨ scope.names.lookup y = some .free := hy
  rcases hy with hy | hy
  ·exact cell_has hy
  ·exact absurd rfl (S.nofree _ (PySem.mem_of_lookup hy))
 ·exact Nat.le_of_lt (x.above y c (PySem.mem_of_lookup h))
 ·have hi : i < vs.length := by
   unfold start at h2
   by_cases hi : i < vs.length
   ·exact hi
   ·rw [List.getElem?_append_right (by simpa using hi)] at h2
    rw [List.getElem?_replicate] at h2
    split at h2 <;> cases h2
  have ha : vs[i]? = some v := by
   unfold start at h2
   rw [List.getElem?_append_left (by simpa using hi), List.getElem?_map] at h2
   cases e : vs[i]? with
   | none => rw [e] at h2; cases h2
   | some a => rw [e] at h2; cases h2; rfl
  obtain ⟨u, hu, rv⟩ := r.get ha
  have hp : ps[i]? = some y := by
   rw [← S.pre, List.getElem?_take_of_lt (by omega)]; exact h1
  have ndP : ps.Nodup := by rw [← S.pre]; exact S.nd.sublist (List.take_sublist _ _)
  refine ⟨u, rv, ?_⟩
  rcases S.par y (List.mem_of_getElem? hp) with k | k
  ·exact .inl ⟨k, bindL_get ndP hp hu k⟩
  ·obtain ⟨c, e⟩ := cell_has (n := s.heap.objs.size + 1) k
   refine .inr ⟨.inl k, c, e, ?_⟩
   have q := x.cell y c e
   rw [bindC_get ndP hp hu (by show scope.names.lookup y ≠ _; rw [k]; decide)] at q
   exact q
 ·exact e0.hok.fresh (Nat.le_of_lt (x.above y c (PySem.mem_of_lookup h)))
 ·unfold start
  show _ = N.length
  rw [List.length_append, List.length_map, List.length_replicate]
  omega
theorem fn_of {CX : CXT} {P : Program} {w : World} {K : PySem.W.Frag} {mg : Str → Option Value} {base : Heap} {k : Nat} {f : Addr} {name qual : Str} {params : Arguments} {body : List Stmt} {scope : Scope} {dV kV doc pm cdv ct oc : Value} {an od : Option Addr}
  {osl : Array (Option Value)} {N ps : List Str} {sp : Sp} (lk : K.lookup f = some ⟨oc, od, .func (PySem.W.fnOf name qual params body scope dV kV doc pm an cdv ct), osl⟩) (hcd : PySem.W.codeIn K cdv qual = true) (S : FnScope N ps scope)
  (len : ∀ vs H Q E, sp vs H Q E → vs.length = ps.length)
  (hbody : ∀ (A : Around) (outer : List Env) (s : Shared) (H : Hp) (vs : List V) (Q : VK) (E : XK), Room k (A.deeper (envOfC qual scope s.heap.objs.size f cdv)) → sp vs H Q E →
   ∃ t, PSs (cxOf CX P w K mg base N qual scope f cdv A outer s H E) body t ∧ t { nx := fun _ H' => Q .non H', rt := Q } (start N vs) H) :
  FnOk P w K mg base CX (k + 1) f (PySem.W.fnOf name qual params body scope dV kV doc pm an cdv ct) ps sp := by
 refine ⟨len, fun A outer s H args us vs Q E hr e0 hb r hsp => ?_⟩
 have hl := len _ _ _ _ hsp
 have KX : K.In s.heap := e0.mod.kin.keeps fun b o e => (e0.bs b o e).1
 have lim : s.heap.NoLimit := e0.mod.nolimit.keeps fun b o e => (e0.bs b o e).1
 have hkind : ∀ y ∈ ps.zip us, scope.names.lookup y.1 = some .local ∨ (scope.names.lookup y.1 = some .cell ∧ ((cellsFrom (s.heap.objs.size + 1) scope.names []).lookup y.1).isSome = true) := fun ⟨n, v⟩ hy => by
  rcases S.par n (List.of_mem_zip hy).1 with q | q
  ·exact .inl q
  ·exact .inr ⟨q, PySem.W.cellsFrom_some _ _ _ (.inl q)⟩
 refine codeAny_call_function hr.depth (KX _ _ lk) rfl S.co S.gen rfl (PySem.W.codeRec_of KX hcd) (hb _ _ _ _ ?_)
 refine wpAny_newFunctionEnv_cells S.kind hkind fun env he s1 x => ?_
 subst he
 refine ⟨lim.keeps x.toInCall.keep, codeAny_func ?_⟩
 obtain ⟨t, ht, hq⟩ := hbody A outer s H vs Q E (hr.deeper _) hsp
 have I : Inv (cxOf CX P w K mg base N qual scope f cdv A outer s H E) [] (start N vs) H s1 := inv_start S hr.hd e0 hl r x
 refine wpAny_mono (ht [] s1 (start N vs) H _ I hq) (fun fl s' hs => ?_) fun e s' hs => hs
 have fin : ∀ {σ' : St} {H' : Hp} {v : V} {u : Value}, Inv (cxOf CX P w K mg base N qual scope f cdv A outer s H E) [] σ' H' s' → RelV v u → Q v H' → CE outer P w H s Q u s' :=
  fun {σ' H' v u} J rv q => ⟨v, H', J.os, J.bare, J.base, J.hok, rv, q⟩
 cases fl with
 | ret u =>
  obtain ⟨v, σ', H', J, rv, q⟩ := hs
  exact fin J rv q
 | next =>
  obtain ⟨σ', H', J, q⟩ := hs
  exact fin (v := V.non) (u := Value.none) J rfl q
 | brk =>
  obtain ⟨_, _, _, q⟩ := hs
  exact False.elim q
 | cont =>
  obtain ⟨_, _, _, q⟩ := hs
  exact False.elim q
end L2
namespace L2
open PySem PySem.Spec PyProof.Rows
section
variable {X : Cx} {x : Str} {p pos : Pos} {e : Expr} {es : List Expr} {t : TA} {id T : String} {r : List V → Hp → VK → Prop}
def tCB (r : List V → Hp → VK → Prop) (t : TA) : TE := fun σ H Q => t σ H fun vs H1 => r vs H1 Q
theorem pe_callB (hc : CallR X (.builtin id) r) (hg : Gl X x) (hm : X.mg x = none) (hv : bootBuiltins x = some (.builtin id)) (ha : PA X (e :: es) t) (hn : x ≠ "__name__" := by decide) (hdb : (x == ("__debug__" : Str)) = false := by decide)
  (he : starEach (e :: es) X.env = (false, eval e X.env) :: starEach es X.env := by rfl) (hpl : (backTo pos (starEach es X.env)).any (·.1) = false := by rfl) : PE X (.Call (.Name x p) (e :: es) [] pos) (tCB r t) := by
 intro pins s σ H Q I h
 refine wpAny_Call_Name_kw (ld_blt I hg hm hv ?_ hn hdb)
 exact PyProof.Rows.callWith_builtin1 (thn (ha pos pins s σ H _ I h) fun us s1 ⟨vs, H1, I1, r1, q1⟩ => hc pins s1 σ H1 vs us Q I1 r1 q1) he hpl
theorem pe_callTy (hc : CallR X (.type T) r) (hg : Gl X x) (hm : X.mg x = none) (hv : bootBuiltins x = some (.type T)) (ha : PA X (e :: es) t) (hn : x ≠ "__name__" := by decide) (hdb : (x == ("__debug__" : Str)) = false := by decide)
  (he : starEach (e :: es) X.env = (false, eval e X.env) :: starEach es X.env := by rfl) (hpl : (backTo pos (starEach es X.env)).any (·.1) = false := by rfl) : PE X (.Call (.Name x p) (e :: es) [] pos) (tCB r t) := by
 intro pins s σ H Q I h
 refine wpAny_Call_Name_kw (ld_blt I hg hm hv ?_ hn hdb)
 exact PyProof.Rows.callWith_type1 (thn (ha pos pins s σ H _ I h) fun us s1 ⟨vs, H1, I1, r1, q1⟩ => hc pins s1 σ H1 vs us Q I1 r1 q1) he hpl
end
end L2
namespace HT
open PySem PyProof.Rows
section
open PySem.SeqAt
open PySem.AutoSeq1 (wpAny_loadPart')
open PySem.MeetsSeq PySem.MeetsSeq2 PySem.MeetsSeq3
end
section
variable {prog : Program} {w : World} {A : Around} {E : Value → Shared → Prop} {s : Shared}
theorem cat_tup {t b : Addr} {vs ws : List Value} {Q : Value → Shared → Prop} (ht : IsTup s.heap t vs.toArray) (hb : IsTup s.heap b ws.toArray) (hv : vs ≠ [])
  (h1 : ws = [] → Q (.ref t) s) (h2 : ws ≠ [] → Q (.ref s.heap.objs.size) { s with heap := s.heap.push { cls := .type "tuple", data := .seq (vs ++ ws).toArray } })
  (hsz : vs.length + ws.length ≤ sizeLine) : wpAny (model prog w) A (binaryOp .Add (.ref t) (.ref b)) Q E s := by
 obtain ⟨⟨cls, dd, data, sl⟩, ho, hc, n, hd⟩ := id ht
 obtain ⟨⟨cls2, dd2, data2, sl2⟩, ho2, hc2, n2, hd2⟩ := id hb
 simp only at hc hd hc2 hd2
 subst hc hd hc2 hd2
 have e : vs.toArray ++ ws.toArray = (vs ++ ws).toArray := by simp
 by_cases hw : ws = []
 ·exact concat_meets ⟨_, ho, rfl⟩ ⟨_, ho2, rfl⟩ noFill_tuple_add seq_tuple_add PySem.F.slot_tuple_add PySem.F.entry_tuple_add (PySem.F.args_tuple_add_2 _ _)
   (tuple_addW1 t b vs.toArray ws.toArray n n2 dd dd2 sl sl2 (by simpa using hv) (by simp [hw])) ⟨ho, ho2, h1 hw⟩
 ·refine concat_meets ⟨_, ho, rfl⟩ ⟨_, ho2, rfl⟩ noFill_tuple_add seq_tuple_add PySem.F.slot_tuple_add PySem.F.entry_tuple_add (PySem.F.args_tuple_add_2 _ _)
   (tuple_addW2 t b vs.toArray ws.toArray n n2 dd dd2 sl sl2 (by simpa using hv) (by simpa using hw) (by rw [List.size_toArray, List.size_toArray]; exact hsz)) ⟨ho, ho2, ?_⟩
  rw [e]
  exact h2 hw
def sIx (n d : Nat) : Option Int → Nat
 | none => d
 | some v => if v < 0 then (v + (n : Int)).toNat else min v.toNat n
theorem sIx_nat (n d k : Nat) : sIx n d (some (k : Int)) = min k n := by
 show (if (k : Int) < 0 then ((k : Int) + (n : Int)).toNat else min (k : Int).toNat n) = min k n
 rw [if_neg (by omega), Int.toNat_natCast]
theorem sIx_le (n d : Nat) (hd : d ≤ n) (o : Option Int) : sIx n d o ≤ n := by
 cases o with
 | none => exact hd
 | some v =>
  show (if v < 0 then (v + (n : Int)).toNat else min v.toNat n) ≤ n
  by_cases hv : v < 0
  ·rw [if_pos hv]; omega
  ·rw [if_neg hv]; exact Nat.min_le_right _ _
theorem clip_eq (v : Int) (n d : Nat) : (if v < 0 then max (v + (n : Int)) 0 else min v (n : Int)) = ((sIx n d (some v) : Nat) : Int) := by
 show (if v < 0 then max (v + (n : Int)) 0 else min v (n : Int)) = (((if v < 0 then (v + (n : Int)).toNat else min v.toNat n) : Nat) : Int)
 by_cases hv : v < 0
 ·simp only [if_pos hv]; omega
 ·simp only [if_neg hv]; omega
theorem adjust_gen (lo hi : Option Int) (n : Nat) : Builtin.Slice.sliceAdjust lo hi 1 (n : Int) = (((sIx n 0 lo : Nat) : Int), ((sIx n n hi : Nat) : Int)) := by
 have h1 : ¬ ((1 : Int) < 0) := by omega
 unfold Builtin.Slice.sliceAdjust
 simp only [h1, if_false]
 refine Prod.ext ?_ ?_
 ·cases lo with
  | none => rfl
  | some v => exact clip_eq v n 0
 ·cases hi with
  | none => rfl
  | some v => exact clip_eq v n n
theorem places_gen (i j : Nat) : Builtin.Slice.slicePlaces (i : Int) (j : Int) 1 = j - i := by
 unfold Builtin.Slice.slicePlaces
 have h1 : (1 : Int) > 0 := by omega
 simp only [h1, if_true, Int.ediv_one]
 split <;> omega
theorem slicePart_ {v : Value} {o : Option Int} {Q : Option Int → Shared → Prop} (p : IsPart v o) (h : Q o s) : wpAny (model prog w) A (Builtin.Slice.slicePartIndex v) Q E s := by
 cases p with
 | none => exact slicePart_none h
 | int i t => exact slicePart_int h
theorem sliceApplied_gen {sl : Addr} {vl vu : Value} {lo hi : Option Int} {n : Nat} {Q : Int × Int × Nat → Shared → Prop} (hs : s.heap.IsSliceOf sl vl vu .none) (pl : IsPart vl lo) (pu : IsPart vu hi)
  (h : Q (((sIx n 0 lo : Nat) : Int), 1, sIx n n hi - sIx n 0 lo) s) : wpAny (model prog w) A (Builtin.Slice.sliceApplied (.ref sl) (pure (n : Int))) Q E s := by
 obtain ⟨os, hos, hcs, hds⟩ := id hs
 unfold Builtin.Slice.sliceApplied Builtin.Slice.sliceFields
 refine wpAny_bind (wpAny_bind (wpAny_field hos hds (x := vl) rfl (wpAny_bind (wpAny_field hos hds (x := vu) rfl (wpAny_bind (wpAny_field hos hds (x := .none) rfl (wpAny_pure ?_)))))))
 refine wpAny_bind (slicePart_none ?_)
 show wpAny _ _ (if ((1 : Int) == 0) = true then _ else _) _ _ s
 rw [if_neg (by decide)]
 refine wpAny_bind (slicePart_ pl (wpAny_bind (slicePart_ pu (wpAny_bind (wpAny_pure ?_)))))
 show wpAny _ _ (match Builtin.Slice.sliceAdjust lo hi 1 (n : Int) with | (lo, hi) => pure (lo, (1 : Int), Builtin.Slice.slicePlaces lo hi 1)) _ _ s
 rw [adjust_gen lo hi n]
 show wpAny _ _ (pure (((sIx n 0 lo : Nat) : Int), (1 : Int), Builtin.Slice.slicePlaces ((sIx n 0 lo : Nat) : Int) ((sIx n n hi : Nat) : Int) 1)) _ _ s
 rw [places_gen]
 exact wpAny_pure h
theorem pick_gen (xs : Array Value) (i k : Nat) : ((List.range k).filterMap fun (m : Nat) => xs[((i : Int) + (m : Int) * 1).toNat]?).toArray = ((xs.toList.drop i).take k).toArray := by
 have e : (fun (m : Nat) => xs[((i : Int) + (m : Int) * 1).toNat]?) = fun m => xs[i + m]? := by
  funext m
  have : ((i : Int) + (m : Int) * 1).toNat = i + m := by omega
  rw [this]
 rw [e]
 have := pick_run xs i k
 rw [List.filterMap_map] at this
 have e2 : ((fun x => xs[x]?) ∘ fun x => i + x) = fun m => xs[i + m]? := rfl
 rw [e2] at this
 rw [this]
theorem getItem_tuple_cut {t sl : Addr} {items : Array Value} {vl vu : Value} {lo hi : Option Int} {Q : Value → Shared → Prop} (ht : IsTup s.heap t items) (hs : s.heap.IsSliceOf sl vl vu .none) (pl : IsPart vl lo) (pu : IsPart vu hi)
  (hw : ¬ (sIx items.size 0 lo = 0 ∧ sIx items.size items.size hi = items.size))
  (h : Q (.ref s.heap.objs.size) { s with heap := s.heap.push { cls := .type "tuple", data := .seq ((items.toList.drop (sIx items.size 0 lo)).take (sIx items.size items.size hi - sIx items.size 0 lo)).toArray } })
  (hsz : items.size ≤ sizeLine) : wpAny (model prog w) A (getItem (.ref t) (.ref sl)) Q E s := by
 have htake : sizeOk (.seq ((items.toList.drop (sIx items.size 0 lo)).take (sIx items.size items.size hi - sIx items.size 0 lo)).toArray) := by
  show ((items.toList.drop (sIx items.size 0 lo)).take (sIx items.size items.size hi - sIx items.size 0 lo)).toArray.size ≤ sizeLine
  rw [List.size_toArray, List.length_take, List.length_drop, Array.length_toList]
  omega
 have hj : sIx items.size items.size hi ≤ items.size := sIx_le _ _ (Nat.le_refl _) hi
 obtain ⟨os, hos, hcs, hds⟩ := id hs
 have hTs : s.TypeIs (.ref sl) "slice" := ⟨os, hos, hcs⟩
 unfold getItem
 try with_reducible refine wpAny_holding ?_
 first | refine wpAny_bind (wpAny_pure ?_) | skip
 refine wpAny_bind (wpAny_sequenceKey ht.typeIs (by decide) ?_)
 refine wpAny_bind (wpAny_callSpecial?_slot (name := Str.ofString "__getitem__") ht.typeIs PyProof.Rows.slot_tuple_getitem
  (wpAny_call_entry PyProof.Rows.slot_tuple_getitem ht.typeIs entry_tuple_getitem ?_ (args_tuple_getitem _ _)))
 show wpAny _ _ (Builtin.Tuple.tupleItemsOf (.ref t) >>= _) _ _ s
 refine wpAny_bind (tupleItemsOf_ ht ?_)
 refine wpAny_bind (wpAny_typeOf hTs ?_)
 rw [if_pos (by decide)]
 refine wpAny_bind (sliceApplied_gen hs pl pu ?_)
 have hno : ¬ ((((sIx items.size 0 lo : Nat) : Int) == 0 && (1 : Int) == 1 && (sIx items.size items.size hi - sIx items.size 0 lo) == items.size) = true) := by
  intro q
  rw [Bool.and_eq_true, Bool.and_eq_true] at q
  have q1 : ((sIx items.size 0 lo : Nat) : Int) = 0 := eq_of_beq q.1.1
  have q2 : sIx items.size items.size hi - sIx items.size 0 lo = items.size := eq_of_beq q.2
  exact hw ⟨by omega, by omega⟩
 show wpAny _ _ (if (((sIx items.size 0 lo : Nat) : Int) == 0 && (1 : Int) == 1 && (sIx items.size items.size hi - sIx items.size 0 lo) == items.size) = true then _ else _) _ _ s
 rw [if_neg hno, pick_gen]
 first
  | exact wpAny_bind (m := Builtin.Tuple.tupleExact _) (wpAny_newObj_type (wpAny_pure ⟨_, rfl, wpAny_pure h⟩) htake)
  | exact wpAny_bind (m := Builtin.Tuple.tupleExact _) (wpAny_newObj_type (wpAny_bind (wpAny_pure (wpAny_pure ⟨_, rfl, wpAny_pure h⟩))) htake)
  | exact wpAny_bind (wpAny_bind (m := Builtin.Tuple.tupleExact _) (wpAny_newObj_type (wpAny_pure (wpAny_pure ⟨_, rfl, wpAny_pure h⟩)) htake))
  | exact wpAny_bind (wpAny_bind (m := Builtin.Tuple.tupleExact _) (wpAny_newObj_type (wpAny_pure ⟨_, rfl, wpAny_pure h⟩) htake))
end
end HT
namespace L2
open PySem PySem.Spec PyProof.Rows
abbrev TO := St → Hp → (Option Int → Hp → Prop) → Prop
def PO (X : Cx) (e : Option Expr) (t : TO) : Prop :=
 ∀ (pins : List (Addr × Obj)) (s : Shared) (σ : St) (H : Hp) (Q : Option Int → Hp → Prop), Inv X pins σ H s → t σ H Q →
  wpAny (model X.prog X.w) X.A (evalPart e X.env) (fun u s' => ∃ o H', Inv X pins σ H' s' ∧ IsPart u o ∧ Q o H') X.xe s
def tNoPart : TO := fun _ H Q => Q none H
def tPart (t : TE) : TO := fun σ H Q => t σ H fun x H1 => ∃ i, x = .int i ∧ Q (some i) H1
section
variable {X : Cx} {e : Expr} {te : TE} {lo hi : Option Expr} {tl th : TO} {pos p2 : Pos}
theorem po_none : PO X none tNoPart := by
 intro pins s σ H Q I h
 rw [evalPart_none]
 exact wpAny_pure ⟨none, H, I, .none, h⟩
theorem po_some (h : PE X e te) : PO X (some e) (tPart te) := by
 intro pins s σ H Q I hw
 rw [evalPart_some]
 refine thn (h pins s σ H _ I hw) fun u s1 ⟨x, H1, I1, r1, q1⟩ => ?_
 obtain ⟨i, rfl, q⟩ := q1
 obtain ⟨t, rfl⟩ := r1
 exact ⟨some i, H1, I1, .int i t, q⟩
def SlR (X : Cx) (r : V → Option Int → Option Int → Hp → VK → Prop) : Prop :=
 ∀ (pins : List (Addr × Obj)) (s : Shared) (σ : St) (H : Hp) (x : V) (v vl vu : Value) (lo hi : Option Int) (sl : Addr) (Q : VK), Inv X pins σ H s → RelV x v → s.heap.IsSliceOf sl vl vu .none → IsPart vl lo → IsPart vu hi → r x lo hi H Q →
  ∃ T id, typeLookup (.type T) "__getitem__" = pure (some (.builtin id)) ∧ s.TypeIs v T ∧ wpAny (model X.prog X.w) X.A (getItem v (.ref sl)) (EP X pins σ Q) X.xe s
def tSl (r : V → Option Int → Option Int → Hp → VK → Prop) (te : TE) (tl th : TO) : TE := fun σ H Q => te σ H fun x H1 => tl σ H1 fun l H2 => th σ H2 fun u H3 => r x l u H3 Q
theorem pe_slice {r : V → Option Int → Option Int → Hp → VK → Prop} (hr : SlR X r) (he : PE X e te) (hl : PO X lo tl) (hu : PO X hi th) : PE X (.Subscript e (.Slice lo hi none p2) pos) (tSl r te tl th) := by
 intro pins s σ H Q I h
 refine Subscript_ (thn (he pins s σ H _ I h) fun v s1 ⟨x, H1, I1, r1, q1⟩ => ?_)
 refine wpAny_Slice (thn (hl pins s1 σ H1 _ I1 q1) fun vl s2 ⟨l, H2, I2, pl, q2⟩ => thn (hu pins s2 σ H2 _ I2 q2) fun vu s3 ⟨u, H3, I3, pu, q3⟩ => ?_)
 rw [evalPart_none]
 refine wpAny_pure ?_
 have I4 : Inv X pins σ H3 { s3 with heap := s3.heap.push { cls := .type "slice", data := .fields #[vl, vu, .none] } } := I3.kept (t' := s3.toks) fun b ob q => Heap.get?_push_of_some _ q
 obtain ⟨T, id, hT, ht, hg⟩ := hr pins { s3 with heap := s3.heap.push { cls := .type "slice", data := .fields #[vl, vu, .none] } } σ H3 x v vl vu l u s3.heap.objs.size Q I4 r1 (Heap.IsSliceOf.new ..) pl pu q3
 show wpAny (model X.prog X.w) X.A (subscriptTail e (.Slice lo hi none p2) v (.ref s3.heap.objs.size)) (EP X pins σ Q) X.xe { s3 with heap := s3.heap.push { cls := .type "slice", data := .fields #[vl, vu, .none] } }
 exact tail_any (ops := [.ref s3.heap.objs.size, v]) ht hT hg (by with_unfolding_all rfl)
def cutV (xs : List V) (lo hi : Option Int) : List V := (xs.drop (HT.sIx xs.length 0 lo)).take (HT.sIx xs.length xs.length hi - HT.sIx xs.length 0 lo)
theorem cutV_length (xs : List V) (lo hi : Option Int) : (cutV xs lo hi).length ≤ xs.length := by
 unfold cutV
 rw [List.length_take, List.length_drop]
 omega
def rSlT (K : PySem.W.Frag) : V → Option Int → Option Int → Hp → VK → Prop := fun x lo hi H Q => ∃ a xs, x = .ref a ∧ SqT K H a xs ∧
 ¬ (HT.sIx xs.length 0 lo = 0 ∧ HT.sIx xs.length xs.length hi = xs.length) ∧ ∀ p, H p = none → Q (.ref p) (upd H p (.tup (cutV xs lo hi)))
theorem sl_tup : SlR X (rSlT X.K) := by
 intro pins s σ H x v vl vu lo hi sl Q I rx hs pl pu h
 obtain ⟨a, xs, rfl, hx, hw, q⟩ := h
 cases rx
 obtain ⟨its, r, ht, hz⟩ := I.tuple hx
 have hlen : its.toArray.size = xs.length := by rw [List.size_toArray]; exact r.length.symm
 refine ⟨"tuple", _, PyProof.Rows.slot_tuple_getitem.lookup, ht.typeIs, ?_⟩
 refine HT.getItem_tuple_cut ht hs pl pu (by rw [hlen]; exact hw) ?_ (by rw [hlen]; exact hz)
 rw [hlen]
 refine ⟨.ref s.heap.objs.size, _, I.laid (t' := s.toks) (o := .tup (cutV xs lo hi)) (fun b ob q => Heap.get?_push_of_some _ q) (Nat.le_refl _) ?_, rfl, q _ (I.hok.fresh (Nat.le_refl _))⟩
 exact ⟨Nat.le_trans (cutV_length xs lo hi) hz, _, (r.drop (HT.sIx xs.length 0 lo)).take (HT.sIx xs.length xs.length hi - HT.sIx xs.length 0 lo), IsTupN.new _ _⟩
def rCatT (K : PySem.W.Frag) : R2 := fun x y H Q => ∃ a b xs ys, x = .ref a ∧ y = .ref b ∧ SqT K H a xs ∧ SqT K H b ys ∧ xs ≠ [] ∧ xs.length + ys.length ≤ sizeLine ∧
 (ys = [] → Q (.ref a) H) ∧ (ys ≠ [] → ∀ p, H p = none → Q (.ref p) (upd H p (.tup (xs ++ ys))))
theorem Vals.nil_iff {xs : List V} {us : List Value} (r : Vals xs us) : us = [] ↔ xs = [] := by
 cases r with
 | nil => simp
 | cons _ _ => simp
theorem op_catT : OpR X (binaryOp .Add) (rCatT X.K) := by
 intro pins s σ H x y v u Q I rx ry h
 obtain ⟨a, b, xs, ys, rfl, rfl, ha, hb, hx, hz, q1, q2⟩ := h
 cases rx
 cases ry
 obtain ⟨its, r1, p1, _⟩ := I.tuple ha
 obtain ⟨its2, r2, p2, _⟩ := I.tuple hb
 refine HT.cat_tup p1 p2 (fun z => hx (r1.nil_iff.mp z)) (fun z => ⟨.ref a, H, I, rfl, q1 (r2.nil_iff.mp z)⟩) (fun z => ?_) (by rw [← r1.length, ← r2.length]; exact hz)
 refine ⟨.ref s.heap.objs.size, _, I.laid (t' := s.toks) (o := .tup (xs ++ ys)) (fun b ob q => Heap.get?_push_of_some _ q) (Nat.le_refl _) ?_, rfl, q2 (fun w => z (r2.nil_iff.mpr w)) _ (I.hok.fresh (Nat.le_refl _))⟩
 exact ⟨by rw [List.length_append]; exact hz, _, r1.append r2, IsTupN.new _ _⟩
end
end L2
namespace L2
open PySem PySem.Spec PyProof.Rows
def ixN (n : Nat) (i : Int) : Option Nat := if 0 ≤ i then (if i < n then some i.toNat else none) else if -(n : Int) ≤ i then some (i + n).toNat else none
def atI {α : Type} (xs : List α) (i : Int) : Option α := (ixN xs.length i).bind fun j => xs[j]?
theorem ixN_seq {n : Nat} {i : Int} {j : Nat} (h : ixN n i = some j) : seqIndex? i n = some j ∧ j < n ∧ -(n : Int) ≤ i ∧ i < n := by
 unfold ixN at h
 by_cases h0 : 0 ≤ i
 ·rw [if_pos h0] at h
  by_cases h1 : i < n
  ·rw [if_pos h1] at h
   have e : i.toNat = j := Option.some.inj h
   exact ⟨by rw [seqIndex_of h0 h1, e], by omega, by omega, h1⟩
  ·rw [if_neg h1] at h; cases h
 ·rw [if_neg h0] at h
  by_cases h1 : -(n : Int) ≤ i
  ·rw [if_pos h1] at h
   have e : (i + n).toNat = j := Option.some.inj h
   exact ⟨by rw [seqIndex_neg (by omega) h1, e], by omega, h1, by omega⟩
  ·rw [if_neg h1] at h; cases h
theorem atI_get {α : Type} {xs : List α} {i : Int} {v : α} (h : atI xs i = some v) : ∃ j, seqIndex? i xs.length = some j ∧ xs[j]? = some v ∧ j < xs.length ∧ -(xs.length : Int) ≤ i ∧ i < xs.length := by
 unfold atI at h
 cases e : ixN xs.length i with
 | none => rw [e] at h; cases h
 | some j =>
  rw [e] at h
  obtain ⟨h1, h2, h3, h4⟩ := ixN_seq e
  exact ⟨j, h1, h, h2, h3, h4⟩
theorem atI_nat {α : Type} {xs : List α} {j : Nat} {v : α} (h : xs[j]? = some v) : atI xs (j : Int) = some v := by
 have hj : j < xs.length := (List.getElem?_eq_some_iff.mp h).1
 have e : ixN xs.length (j : Int) = some j := by
  unfold ixN
  rw [if_pos (by omega), if_pos (by omega)]; simp
 unfold atI; rw [e]; exact h
def PlainIx (b : Expr) : Prop := ∀ o i, subscripted b false o i = operate [o, i] (getItem o i)
def IxR (X : Cx) (r : R2) : Prop :=
 ∀ (value slice : Expr) (pins : List (Addr × Obj)) (s : Shared) (σ : St) (H : Hp) (x y : V) (v u : Value) (Q : VK), Inv X pins σ H s → RelV x v → RelV y u → r x y H Q →
  subscripted slice false v u = operate [v, u] (getItem v u) → wpAny (model X.prog X.w) X.A (subscriptTail value slice v u) (EP X pins σ Q) X.xe s
def MtR (X : Cx) (id : String) (r : V → List V → Hp → VK → Prop) : Prop :=
 ∀ (pins : List (Addr × Obj)) (s : Shared) (σ : St) (H : Hp) (x : V) (xs : List V) (v : Value) (us : List Value) (Q : VK), Inv X pins σ H s → RelV x v → Vals xs us → r x xs H Q →
  wpAny (model X.prog X.w) X.A (call (.builtin id) (v :: us)) (EP X pins σ Q) X.xe s
section
variable {X : Cx} {a b : Expr} {ta tb : TE} {pos : Pos}
theorem pe_ix {r : R2} (hr : IxR X r) (ha : PE X a ta) (hb : PE X b tb) (hs : PlainIx b) : PE X (.Subscript a b pos) (tOp r ta tb) := by
 intro pins s σ H Q I h
 exact Subscript_ (binT ha hb I h fun v u s2 x y H2 I2 rx ry q => hr a b pins s2 σ H2 x y v u Q I2 rx ry q (hs _ _))
def rIxL (K : PySem.W.Frag) : R2 := fun x y H Q => ∃ p xs i v, x = .ref p ∧ y = .int i ∧ SqL K H p xs ∧ atI xs i = some v ∧ Q v H
def rIxT (K : PySem.W.Frag) : R2 := fun x y H Q => ∃ p xs i v, x = .ref p ∧ y = .int i ∧ SqT K H p xs ∧ atI xs i = some v ∧ Q v H
theorem ix_list : IxR X (rIxL X.K) := by
 intro value slice pins s σ H x y v u Q I rx ry h hs
 obtain ⟨p, xs, i, z, rfl, rfl, hq, he, q⟩ := h
 cases rx
 obtain ⟨t, rfl⟩ := ry
 obtain ⟨its, r, pl, hz⟩ := I.list hq
 obtain ⟨j, h1, h2, h3, h4, h5⟩ := atI_get he
 obtain ⟨w, ew, rw'⟩ := r.get h2
 have hl := r.length
 have hn := line63
 have fin : EP X pins σ Q w s := ⟨z, H, I, rw', q⟩
 by_cases h0 : 0 ≤ i
 ·have hj : i.toNat = j := by
   rw [seqIndex_of h0 h5] at h1
   exact Option.some.inj h1
  exact item_listR pl.isList h0 (by omega) (by rw [hj]; simpa using ew) fin hs
 ·have hj : (i + (its.toArray.size : Int)).toNat = j := by
   rw [seqIndex_neg (by omega) h4] at h1
   rw [List.size_toArray, ← hl]
   exact Option.some.inj h1
  exact subscriptTail_builtinR (x := w) pl.isList.typeIs slot_list_getitem.lookup
   (wpAny_getItem_list_neg (Q := fun r s' => r = w ∧ EP X pins σ Q r s') pl.isList (by omega) (by rw [List.size_toArray] <;> omega) (by omega) (by rw [hj]; simpa using ew) ⟨rfl, fin⟩) hs
theorem ix_tup : IxR X (rIxT X.K) := by
 intro value slice pins s σ H x y v u Q I rx ry h hs
 obtain ⟨p, xs, i, z, rfl, rfl, hq, he, q⟩ := h
 cases rx
 obtain ⟨t, rfl⟩ := ry
 obtain ⟨its, r, pl, hz⟩ := I.tuple hq
 obtain ⟨j, h1, h2, h3, h4, h5⟩ := atI_get he
 obtain ⟨w, ew, rw'⟩ := r.get h2
 have hl := r.length
 have hn := line63
 have fin : EP X pins σ Q w s := ⟨z, H, I, rw', q⟩
 exact subscriptTail_builtinR (x := w) pl.typeIs slot_tuple_getitem.lookup
  (getItem_tuple (j := j) (Q := fun r s' => r = w ∧ EP X pins σ Q r s') pl (by omega) (by omega) (by rw [List.size_toArray, ← hl]; exact h1) (by simpa using ew) ⟨rfl, fin⟩) hs
theorem mapSeq_set (its : List Value) (n j : Nat) (u : Value) : Obj.mapSeq (·.setIfInBounds j u) { cls := .type "list", data := .seq its.toArray n } = { cls := .type "list", data := .seq (its.set j u).toArray n } := by
 simp [Obj.mapSeq]
theorem Inv.lst {pins : List (Addr × Obj)} {σ : St} {H : Hp} {s : Shared} {p : Addr} {xs : List V} (I : Inv X pins σ H s) (h : H p = some (.lst xs)) :
  ∃ (its : List Value) (n : Nat), Vals xs its ∧ s.heap.get? p = some { cls := .type "list", data := .seq its.toArray n } ∧ xs.length ≤ sizeLine := by
 obtain ⟨z, its, n, r, e⟩ := I.hok p _ h
 exact ⟨its, n, r, e, z⟩
theorem Inv.lstUpd {pins : List (Addr × Obj)} {σ : St} {H : Hp} {s : Shared} {p : Addr} {xs ys : List V} {its its' : List Value} {n n' : Nat} {f : Obj → Obj} (I : Inv X pins σ H s) (h : H p = some (.lst xs))
  (ho : s.heap.get? p = some { cls := .type "list", data := .seq its.toArray n }) (hf : f { cls := .type "list", data := .seq its.toArray n } = { cls := .type "list", data := .seq its'.toArray n' }) (r : Vals ys its') (hz : ys.length ≤ sizeLine) (t : Nat) :
  Inv X pins σ (upd H p (.lst ys)) { s with heap := s.heap.update p f, toks := t } := by
 have e : (s.heap.update p f).get? p = some { cls := .type "list", data := .seq its'.toArray n' } := by
  rw [Heap.get?_update_self f ho (by rw [hf] <;> rfl), hf]
 refine I.write (x := p) (e := p) (by rw [h]; trivial) (.inl rfl) (fun b u hb q => (Heap.get?_update_other _ _ (Ne.symm hb)).trans q) ⟨_, e⟩ ?_
 exact ⟨hz, its', n', r, e⟩
def rSetL : V → V → V → Hp → (Hp → Prop) → Prop := fun o i v H Q => ∃ p xs k j, o = .ref p ∧ i = .int k ∧ H p = some (.lst xs) ∧ ixN xs.length k = some j ∧ Q (upd H p (.lst (xs.set j v)))
theorem set_list : PSet X rSetL := by
 intro pins s σ H o i v ov iv u Q I ro ri rv h
 obtain ⟨p, xs, k, j, rfl, rfl, hp, hj, q⟩ := h
 cases ro
 obtain ⟨t, rfl⟩ := ri
 obtain ⟨its, n, r, ho, hz⟩ := I.lst hp
 obtain ⟨h1, h2, h3, h4⟩ := ixN_seq hj
 have hl := r.length
 have hn := line63
 have I' : Inv X pins σ (upd H p (.lst (xs.set j v))) { s with heap := s.heap.update p (Obj.mapSeq (·.setIfInBounds j u)) } :=
  I.lstUpd hp ho (mapSeq_set its n j u) (r.set rv j) (by rw [List.length_set]; exact hz) s.toks
 by_cases h0 : 0 ≤ k
 ·have hk : k.toNat = j := by
   rw [seqIndex_of h0 h4] at h1
   exact Option.some.inj h1
  exact PySem.W.ki_setAt ho h0 (by omega) (by rw [List.size_toArray, ← hl]; exact h4) (by rw [hk]; exact ⟨_, I', q⟩)
 ·have hk : (k + (its.toArray.size : Int)).toNat = j := by
   rw [seqIndex_neg (by omega) h3] at h1
   rw [List.size_toArray, ← hl]
   exact Option.some.inj h1
  exact PySem.W.ki_setBack ho (by omega) (by rw [List.size_toArray, ← hl]; exact h3) (by omega) (by rw [hk]; exact ⟨_, I', q⟩)
theorem slice_bounds (lo hi : Option Int) (n : Nat) : (sliceBounds lo hi none n).1 = ((HT.sIx n 0 lo : Nat) : Int) ∧ (sliceBounds lo hi none n).2.1 = ((HT.sIx n n hi : Nat) : Int) ∧ (sliceBounds lo hi none n).2.2 = 1 := by
 refine ⟨?_, ?_, rfl⟩
 ·cases lo with
  | none => simp [sliceBounds, HT.sIx]
  | some i =>
   simp only [sliceBounds, HT.sIx, Option.getD_none, show (1 : Int) > 0 by decide, if_true]
   by_cases h : i < 0
   ·simp only [h, if_true] <;> omega
   ·simp only [h, if_false] <;> omega
 ·cases hi with
  | none => simp [sliceBounds, HT.sIx]
  | some i =>
   simp only [sliceBounds, HT.sIx, Option.getD_none, show (1 : Int) > 0 by decide, if_true]
   by_cases h : i < 0
   ·simp only [h, if_true] <;> omega
   ·simp only [h, if_false] <;> omega
theorem slicePick_cut (its : List Value) (lo hi : Option Int) : slicePick its.toArray lo hi none = ((its.drop (HT.sIx its.length 0 lo)).take (HT.sIx its.length its.length hi - HT.sIx its.length 0 lo)).toArray := by
 obtain ⟨h1, h2, h3⟩ := slice_bounds lo hi its.toArray.size
 unfold slicePick
 rw [h1, h2, h3]
 simp only [sliceRange_one, pick_run, List.size_toArray] <;> rfl
def rSlL (K : PySem.W.Frag) : V → Option Int → Option Int → Hp → VK → Prop := fun x lo hi H Q => ∃ a xs, x = .ref a ∧ SqL K H a xs ∧ ∀ p, H p = none → Q (.ref p) (upd H p (.lst (cutV xs lo hi)))
theorem sl_list : SlR X (rSlL X.K) := by
 intro pins s σ H x v vl vu lo hi sl Q I rx hs pl pu h
 obtain ⟨a, xs, rfl, hx, q⟩ := h
 cases rx
 obtain ⟨its, r, ht, hz⟩ := I.list hx
 have hlen := r.length
 refine ⟨"list", _, slot_list_getitem.lookup, ht.isList.typeIs, ?_⟩
 refine wpAny_getItem_list_slice ht.isList hs pl pu .none (by simp) ?_ (by rw [List.size_toArray] <;> omega)
 rw [slicePick_cut, ← hlen]
 refine ⟨.ref s.heap.objs.size, _, I.laid (t' := s.toks) (o := .lst (cutV xs lo hi)) (fun b ob q => Heap.get?_push_of_some _ q) (Nat.le_refl _) ?_, rfl, q _ (I.hok.fresh (Nat.le_refl _))⟩
 exact ⟨Nat.le_trans (cutV_length xs lo hi) hz, _, 0, (r.drop (HT.sIx xs.length 0 lo)).take (HT.sIx xs.length xs.length hi - HT.sIx xs.length 0 lo), Heap.get?_push_size _ rfl⟩
def flatV : V → Bool
 | .non => true
 | .bl _ => true
 | .int _ => true
 | .str _ => true
 | _ => false
def eqV : V → V → Bool
 | .non, .non => true
 | .bl a, .bl b => a == b
 | .bl a, .int b => (if a then 1 else 0) == b
 | .int a, .bl b => a == (if b then 1 else 0)
 | .int a, .int b => a == b
 | .str a, .str b => a == b
 | _, _ => false
theorem eqAt_V {A : Around} {s : Shared} {y x : V} {u v : Value} (ry : RelV y u) (rx : RelV x v) (fy : flatV y = true) (fx : flatV x = true) : SeqAt.EqAt A s u v (eqV y x) := by
 cases y with
 | non =>
  cases ry
  cases x with
  | non => cases rx; exact SeqAt.EqAt.same _
  | bl b => cases rx; exact SeqAt.EqAt.none_bool b
  | int b => obtain ⟨t, rfl⟩ := rx; exact SeqAt.EqAt.none_int b t
  | str b => obtain ⟨t, rfl⟩ := rx; exact SeqAt.EqAt.none_str b t
  | _ => exact absurd (show false = true from fx) Bool.false_ne_true
 | bl a =>
  cases ry
  cases x with
  | non => cases rx; exact SeqAt.EqAt.bool_none a
  | bl b => cases rx; exact SeqAt.EqAt.bool_bool a b
  | int b => obtain ⟨t, rfl⟩ := rx; exact SeqAt.EqAt.bool_int a b t
  | str b => obtain ⟨t, rfl⟩ := rx; exact SeqAt.EqAt.bool_str a b t
  | _ => exact absurd (show false = true from fx) Bool.false_ne_true
 | int a =>
  obtain ⟨t', rfl⟩ := ry
  cases x with
  | non => cases rx; exact SeqAt.EqAt.int_none a t'
  | bl b => cases rx; exact SeqAt.EqAt.int_bool a t' b
  | int b => obtain ⟨t, rfl⟩ := rx; exact SeqAt.EqAt.int_int a t' b t
  | str b => obtain ⟨t, rfl⟩ := rx; exact SeqAt.EqAt.int_str a t' b t
  | _ => exact absurd (show false = true from fx) Bool.false_ne_true
 | str a =>
  obtain ⟨t', rfl⟩ := ry
  cases x with
  | non => cases rx; exact SeqAt.EqAt.str_none a t'
  | bl b => cases rx; exact SeqAt.EqAt.str_bool a t' b
  | int b => obtain ⟨t, rfl⟩ := rx; exact SeqAt.EqAt.str_int a t' b t
  | str b => obtain ⟨t, rfl⟩ := rx; exact SeqAt.EqAt.str_str a t' b t
  | _ => exact absurd (show false = true from fx) Bool.false_ne_true
 | _ => exact absurd (show false = true from fy) Bool.false_ne_true
theorem call_len_seq : CallR X (.builtin "len") (fun xs H Q => ∃ p ys, xs = [.ref p] ∧ (SqL X.K H p ys ∨ SqT X.K H p ys) ∧ Q (.int ys.length) H) := by
 intro pins s σ H xs us Q I r h
 obtain ⟨p, ys, rfl, hq, q⟩ := h
 obtain ⟨u, rfl, rx⟩ := vals1 r
 cases rx
 have hn := line63
 rcases hq with hq | hq
 ·obtain ⟨its, r', pl, hz⟩ := I.list hq
  have hlen := r'.length
  exact Calls.call_len_list pl.isList (by simp only [List.size_toArray] <;> omega) ⟨.int ys.length, H, I.tok _, ⟨s.toks + 1, by rw [List.size_toArray, hlen]⟩, q⟩
 ·obtain ⟨its, r', pl, hz⟩ := I.tuple hq
  have hlen := r'.length
  exact len_tuple pl (by simp only [List.size_toArray] <;> omega) ⟨.int ys.length, H, I.tok _, ⟨s.toks + 1, by rw [List.size_toArray, hlen]⟩, q⟩
theorem call_list_of : CallR X (.type "list") (fun xs H Q => ∃ p ys, xs = [.ref p] ∧ (SqL X.K H p ys ∨ SqT X.K H p ys) ∧ ∀ l, H l = none → Q (.ref l) (upd H l (.lst ys))) := by
 intro pins s σ H xs us Q I r h
 obtain ⟨p, ys, rfl, hq, q⟩ := h
 obtain ⟨u, rfl, rx⟩ := vals1 r
 cases rx
 have fin : ∀ (its : List Value), Vals ys its → ys.length ≤ sizeLine → ∀ (h' : Heap) (c' : Nat), (∀ b o', s.heap.get? b = some o' → h'.get? b = some o') →
   h'.get? s.heap.objs.size = some { cls := .type "list", dict := none, data := .seq its.toArray c', slots := #[] } → EP X pins σ Q (.ref s.heap.objs.size) { s with heap := h' } := fun its r' hz h' c' kp e =>
  ⟨.ref s.heap.objs.size, _, I.laid (t' := s.toks) kp (Nat.le_refl _) (show ObjOk X.prog X.w _ h' _ (.lst ys) from ⟨hz, its, c', r', e⟩), rfl, q _ (I.hok.fresh (Nat.le_refl _))⟩
 rcases hq with hq | hq
 ·obtain ⟨its, r', pl, hz⟩ := I.list hq
  have hlen := r'.length
  obtain ⟨o, ho, hc, n, hd⟩ := pl.isList
  exact call_list_seq p (.inl rfl) ho hc hd (fun h' c' kp e => fin its r' hz h' c' kp e) (by simp only [List.size_toArray] <;> omega)
 ·obtain ⟨its, r', pl, hz⟩ := I.tuple hq
  have hlen := r'.length
  obtain ⟨o, ho, hc, n, hd⟩ := pl
  exact call_list_seq p (.inr rfl) ho hc hd (fun h' c' kp e => fin its r' hz h' c' kp e) (by simp only [List.size_toArray] <;> omega)
theorem call_tuple_of : CallR X (.type "tuple") (fun xs H Q => ∃ p ys, xs = [.ref p] ∧ ((SqL X.K H p ys ∧ ∀ l, H l = none → Q (.ref l) (upd H l (.tup ys))) ∨ (SqT X.K H p ys ∧ Q (.ref p) H))) := by
 intro pins s σ H xs us Q I r h
 obtain ⟨p, ys, rfl, h⟩ := h
 obtain ⟨u, rfl, rx⟩ := vals1 r
 cases rx
 rcases h with ⟨hq, q⟩ | ⟨hq, q⟩
 ·obtain ⟨its, r', pl, hz⟩ := I.list hq
  have hlen := r'.length
  refine call_tuple_list pl.isList (fun h' kp => ?_) (by simp only [List.size_toArray] <;> omega)
  have I1 : Inv X pins σ H { s with heap := h' } := I.kept (t' := s.toks) kp
  have I2 : Inv X pins σ (upd H h'.objs.size (.tup ys)) { s with heap := h'.push { cls := .type "tuple", data := .seq its.toArray } } :=
   I1.laid (t' := s.toks) (fun b o e => Heap.get?_push_of_some _ e) (Nat.le_refl _) (show ObjOk X.prog X.w _ _ _ (.tup ys) from ⟨hz, its, r', IsTupN.new _ _⟩)
  exact ⟨.ref h'.objs.size, _, I2, rfl, q _ (I1.hok.fresh (Nat.le_refl _))⟩
 ·obtain ⟨its, r', pl, hz⟩ := I.tuple hq
  exact call_tuple_same pl ⟨.ref p, H, I, rfl, q⟩
def tyV (K : PySem.W.Frag) (T : String) (x : V) (H : Hp) : Prop := match x with
 | .str _ => T = "str"
 | .int _ => T = "int"
 | .ref p => (T = "list" ∧ ∃ xs, SqL K H p xs) ∨ (T = "tuple" ∧ ∃ o, K.lookup p = some o ∧ o.cls = .type "tuple" ∧ o.dict = none) ∨
   (T = "dict" ∧ ((∃ kvs, H p = some (.dK kvs)) ∨ ∃ kvs, H p = some (.dT kvs))) ∨ (T = "set" ∧ ∃ S n, H p = some (.set S n))
 | _ => False
theorem tyV_is {pins : List (Addr × Obj)} {σ : St} {H : Hp} {s : Shared} {T : String} {x : V} {v : Value} (I : Inv X pins σ H s) (r : RelV x v) (ty : tyV X.K T x H) :
  s.TypeIs v T ∧ ∀ a, v = .ref a → ∃ ob, s.heap.get? a = some ob ∧ ob.dict = none := by
 cases x with
 | str z =>
  obtain ⟨t, rfl⟩ := r
  cases (show T = "str" from ty)
  exact ⟨typeIs_str s z t, fun _ e => nomatch e⟩
 | int i =>
  obtain ⟨t, rfl⟩ := r
  cases (show T = "int" from ty)
  exact ⟨typeIs_int s i t, fun _ e => nomatch e⟩
 | ref p =>
  cases r
  rcases ty with ⟨rfl, xs, hq⟩ | ⟨rfl, o, hk, hc, hd⟩ | ⟨rfl, hk⟩ | ⟨rfl, S, n, hk⟩
  ·obtain ⟨its, _, pl, _⟩ := I.list hq
   refine ⟨pl.isList.typeIs, fun a e => ?_⟩
   cases e
   obtain ⟨o, n, e, c, hd, _⟩ := pl
   exact ⟨o, e, hd⟩
  ·refine ⟨⟨o, I.kIn p o hk, hc⟩, fun a e => ?_⟩
   cases e
   exact ⟨o, I.kIn _ o hk, hd⟩
  ·have z : ∃ o, s.heap.get? p = some o ∧ o.ExactDict := by
    rcases hk with ⟨kvs, hk⟩ | ⟨kvs, hk⟩
    ·obtain ⟨_, _, _, _, o, _, _, e, ex, _⟩ := I.hok p _ hk
     exact ⟨o, e, ex⟩
    ·obtain ⟨_, _, _, _, o, _, _, e, ex, _⟩ := I.hok p _ hk
     exact ⟨o, e, ex⟩
   obtain ⟨o, e, ex⟩ := z
   refine ⟨⟨o, e, ex.1⟩, fun a e2 => ?_⟩
   cases e2
   exact ⟨o, e, ex.2.1⟩
  ·obtain ⟨o, _, _, _, e, ex, _⟩ := I.hok p _ hk
   refine ⟨⟨o, e, ex.1⟩, fun a e2 => ?_⟩
   cases e2
   exact ⟨o, e, ex.2.1⟩
 | _ => exact False.elim ty
def tBM0 (K : PySem.W.Frag) (T : String) (r : V → List V → Hp → VK → Prop) (to : TE) : TE := fun σ H Q => to σ H fun x H1 => tyV K T x H1 ∧ r x [] H1 Q
def tBM (K : PySem.W.Frag) (T : String) (r : V → List V → Hp → VK → Prop) (to : TE) (t : TA) : TE := fun σ H Q => to σ H fun x H1 => tyV K T x H1 ∧ t σ H1 fun xs H2 => r x xs H2 Q
variable {o e : Expr} {es : List Expr} {to : TE} {t : TA} {name : Str} {apos cpos : Pos} {T id : String} {r : V → List V → Hp → VK → Prop}
theorem pe_bm0 (pa : PlainAttrs T) (slot : Slot T name id) (hty : typeOf (.builtin id) = pure (.type "method_descriptor")) (hm : MtR X id r) (ho : PE X o to)
  (hbase : attributeBase o name X.env (eval o X.env) = eval o X.env := by rfl) (hline : (apos.endLine == cpos.line) = true := by rfl) : PE X (.Call (.Attribute o name apos) [] [] cpos) (tBM0 X.K T r to) := by
 intro pins s σ H Q I h
 refine wpAny_Call_method0_late hbase hline (thn (ho pins s σ H _ I h) fun v s1 ⟨x, H1, I1, r1, ty, q1⟩ => ?_)
 obtain ⟨h1, h2⟩ := tyV_is I1 r1 ty
 exact ⟨T, id, pa, slot, hty, h1, h2, Calls.callWith_builtin rfl (PySem.evalArgs_none (hm pins s1 σ H1 x [] v [] Q I1 r1 .nil q1))⟩
theorem pe_bm (pa : PlainAttrs T) (slot : Slot T name id) (hty : typeOf (.builtin id) = pure (.type "method_descriptor")) (hm : MtR X id r) (ho : PE X o to) (ha : PA X (e :: es) t)
  (hbase : attributeBase o name X.env (eval o X.env) = eval o X.env := by rfl)
  (hfew : ((backTo cpos (starEach (e :: es) X.env)).all (fun x => !x.1) && (backToKw cpos (keywordEach [] X.env)).all (fun x => x.1.isSome)
   && decide ((e :: es).length + ([] : List Keyword).length + (if ([] : List Keyword).isEmpty then 0 else 1) < 30)) = true := by rfl)
  (hline : (apos.endLine == cpos.line) = true := by rfl) (hs : starEach (e :: es) X.env = (false, eval e X.env) :: starEach es X.env := by rfl) (hplain : (backTo cpos (starEach es X.env)).any (·.1) = false := by rfl) :
  PE X (.Call (.Attribute o name apos) (e :: es) [] cpos) (tBM X.K T r to t) := by
 intro pins s σ H Q I h
 refine wpAny_Call_method_late hbase hfew hline rfl (thn (ho pins s σ H _ I h) fun v s1 ⟨x, H1, I1, r1, ty, q1⟩ => ?_)
 obtain ⟨h1, h2⟩ := tyV_is I1 r1 ty
 refine ⟨T, id, pa, slot, hty, h1, h2, ?_⟩
 have hA := ha cpos pins s1 σ H1 _ I1 q1
 rw [hs] at hA ⊢
 refine Calls.callWith_builtin (by show (false || (backTo cpos (starEach es X.env)).any (·.1)) = false; rw [hplain] <;> rfl) (Calls.evalArgs_plain ?_)
 exact thn hA fun us s2 ⟨vs, H2, I2, r2, q2⟩ => hm pins s2 σ H2 x vs v us Q I2 r1 r2 q2
end
end L2
namespace L2
open PySem PySem.Spec PyProof.Rows
def MtM (X : Cx) (id : String) (r : V → List V → Hp → VK → Prop) : Prop :=
 ∀ (pins : List (Addr × Obj)) (s : Shared) (σ : St) (H : Hp) (x : V) (xs : List V) (v : Value) (us : List Value) (Q : VK), Inv X pins σ H s → RelV x v → Vals xs us → r x xs H Q →
  wpAny (model X.prog X.w) X.A (call (.builtin id) (v :: us)) (EP X pins σ Q) X.xe s
theorem Vals.one : ∀ {x : V} {us : List Value}, Vals [x] us → ∃ u, us = [u] ∧ RelV x u
 | _, _, .cons r .nil => ⟨_, rfl, r⟩
theorem Vals.zero : ∀ {us : List Value}, Vals [] us → us = []
 | _, .nil => rfl
theorem Vals.dropLast {xs : List V} {us : List Value} (h : Vals xs us) : Vals xs.dropLast us.dropLast := by
 induction h with
 | nil => exact .nil
 | cons r t ih =>
  cases t with
  | nil => exact .nil
  | cons q t' => exact .cons r ih
theorem Vals.eraseIdx : ∀ {xs : List V} {us : List Value} (i : Nat), Vals xs us → Vals (xs.eraseIdx i) (us.eraseIdx i)
 | _, _, _, .nil => .nil
 | _, _, 0, .cons _ t => t
 | _, _, i + 1, .cons r t => .cons r (Vals.eraseIdx i t)
theorem erase_last {α : Type} (l : List α) : l.eraseIdx (l.length - 1) = l.dropLast := by
 induction l with
 | nil => rfl
 | cons a r ih =>
  cases r with
  | nil => rfl
  | cons b r =>
   have e : (a :: b :: r).length - 1 = ((b :: r).length - 1) + 1 := by
    have h1 : (a :: b :: r).length = r.length + 2 := rfl
    have h2 : (b :: r).length = r.length + 1 := rfl
    omega
   rw [e, List.eraseIdx_cons_succ, ih]
   all_goals rfl
theorem len_erase {α : Type} : ∀ (l : List α) (i : Nat), (l.eraseIdx i).length ≤ l.length
 | [], _ => Nat.le_refl _
 | _ :: _, 0 => Nat.le_succ _
 | _ :: r, i + 1 => Nat.succ_le_succ (len_erase r i)
section
variable {X : Cx} {pins : List (Addr × Obj)} {σ : St} {H : Hp} {s : Shared} {l b : Addr} {xs ys zs : List V}
theorem Inv.lset {its its' : List Value} {n : Nat} {f : Array Value → Array Value} {t' : Nat} (I : Inv X pins σ H s) (hH : H l = some (.lst xs))
  (e : s.heap.get? l = some { cls := .type "list", data := .seq its.toArray n }) (hf : f its.toArray = its'.toArray) (hv : Vals ys its') (hz : ys.length ≤ sizeLine) :
  Inv X pins σ (upd H l (.lst ys)) { s with heap := s.heap.update l (Obj.mapSeq f), toks := t' } := by
 have q := PySem.IsL.update e f
 rw [hf] at q
 refine I.write (x := l) (e := l) (by rw [hH]; exact trivial) (.inl rfl) (fun b' u hb hu => (Heap.get?_update_other s.heap (Obj.mapSeq f) (Ne.symm hb)).trans hu) ⟨_, q⟩ ?_
 exact ⟨hz, its', _, hv, q⟩
theorem Inv.lnew {its : List Value} {t' : Nat} (I : Inv X pins σ H s) (hv : Vals ys its) (hz : ys.length ≤ sizeLine) :
  Inv X pins σ (upd H s.heap.objs.size (.lst ys)) { s with heap := s.heap.push { cls := .type "list", data := .seq its.toArray }, toks := t' } :=
 I.laid (fun _ _ q => Heap.get?_push_of_some _ q) (Nat.le_refl _) ⟨hz, its, 0, hv, Heap.get?_push_size _ rfl⟩
theorem Inv.fresh (I : Inv X pins σ H s) : H s.heap.objs.size = none := I.hok.fresh (Nat.le_refl _)
theorem Inv.lstM (I : Inv X pins σ H s) (hH : H l = some (.lst xs)) : xs.length ≤ sizeLine ∧ ∃ (its : List Value) (n : Nat), Vals xs its ∧ xs.length = its.length ∧ s.heap.get? l = some { cls := .type "list", data := .seq its.toArray n } := by
 obtain ⟨z, its, n, r, e⟩ := I.hok l _ hH
 exact ⟨z, its, n, r, r.length, e⟩
end
section
variable {X : Cx}
def rAppend : V → List V → Hp → VK → Prop := fun x vs H Q => ∃ l xs y, x = .ref l ∧ vs = [y] ∧ H l = some (.lst xs) ∧ xs.length < sizeLine ∧ Q .non (upd H l (.lst (xs ++ [y])))
theorem mt_append : MtM X "list.append" rAppend := by
 intro pins s σ H x vs v us Q I rx rv h
 obtain ⟨l, xs, y, rfl, rfl, hH, hz, q⟩ := h
 cases rx
 obtain ⟨u, rfl, ru⟩ := rv.one
 obtain ⟨z, its, n, r, hl, e⟩ := I.lstM hH
 refine call_meets F.slot_list_append ⟨_, e, rfl⟩ F.entry_list_append (F.args_list_append_2 _ _) (PySem.list_append l its.toArray n u (by rw [List.size_toArray]; omega)) ⟨e, ?_⟩
 refine ⟨.non, _, I.lset (its' := its ++ [u]) hH e (by simp) (r.append (.cons ru .nil)) ?_, rfl, q⟩
 rw [List.length_append, List.length_singleton]
 omega
def rPop : V → List V → Hp → VK → Prop := fun x vs H Q => ∃ l xs y, x = .ref l ∧ vs = [] ∧ H l = some (.lst xs) ∧ xs[xs.length - 1]? = some y ∧ Q y (upd H l (.lst xs.dropLast))
theorem mt_pop : MtM X "list.pop" rPop := by
 intro pins s σ H x vs v us Q I rx rv h
 obtain ⟨l, xs, y, rfl, rfl, hH, hy, q⟩ := h
 cases rx
 have hus := rv.zero
 subst hus
 obtain ⟨z, its, n, r, hl, e⟩ := I.lstM hH
 obtain ⟨u, hu, ru⟩ := r.get hy
 have hy' : its.toArray[its.toArray.size - 1]? = some u := by
  show its.toArray[its.length - 1]? = some u
  rw [← Array.getElem?_toList, ← hl]
  exact hu
 refine call_meets F.slot_list_pop ⟨_, e, rfl⟩ F.entry_list_pop (F.args_list_pop_1 _) (MeetsSeq.list_pop_last l its.toArray n u hy' (by rw [List.size_toArray]; omega)) ⟨e, ?_⟩
 refine ⟨y, _, I.lset (its' := its.dropLast) hH e ?_ r.dropLast ?_, ru, q⟩
 ·show its.toArray.eraseIdxIfInBounds (its.toArray.size - 1) = its.dropLast.toArray
  rw [List.size_toArray, List.eraseIdxIfInBounds_toArray, erase_last]
 ·rw [List.length_dropLast]
  omega
def rPopAt : V → List V → Hp → VK → Prop := fun x vs H Q => ∃ l xs i k y, x = .ref l ∧ vs = [.int i] ∧ H l = some (.lst xs) ∧ -(2 ^ 63) ≤ i ∧ i < 2 ^ 63 ∧ seqIndex? i xs.length = some k ∧ xs[k]? = some y ∧ Q y (upd H l (.lst (xs.eraseIdx k)))
theorem mt_popAt : MtM X "list.pop" rPopAt := by
 intro pins s σ H x vs v us Q I rx rv h
 obtain ⟨l, xs, i, k, y, rfl, rfl, hH, h1, h2, hk, hy, q⟩ := h
 cases rx
 obtain ⟨u, rfl, ru⟩ := rv.one
 obtain ⟨t, rfl⟩ := ru
 obtain ⟨z, its, n, r, hl, e⟩ := I.lstM hH
 obtain ⟨w, hw, rw'⟩ := r.get hy
 refine call_meets F.slot_list_pop ⟨_, e, rfl⟩ F.entry_list_pop (F.args_list_pop_2 _ _)
  (MeetsSeq.list_pop_at l its.toArray n i t k w (fitsIndex_both h1 h2) (by rw [List.size_toArray, ← hl]; exact hk) (by rw [← Array.getElem?_toList]; exact hw) (by rw [List.size_toArray]; omega)) ⟨e, ?_⟩
 refine ⟨y, _, I.lset (its' := its.eraseIdx k) hH e ?_ (r.eraseIdx k) ?_, rw', q⟩
 ·show its.toArray.eraseIdxIfInBounds k = (its.eraseIdx k).toArray
  rw [List.eraseIdxIfInBounds_toArray]
 ·have := len_erase xs k
  omega
def rCat : R2 := fun x y H Q => ∃ l b xs zs, x = .ref l ∧ y = .ref b ∧ H l = some (.lst xs) ∧ H b = some (.lst zs) ∧ xs.length + zs.length ≤ sizeLine ∧ ∀ p, H p = none → Q (.ref p) (upd H p (.lst (xs ++ zs)))
theorem op_cat : OpR X (binaryOp .Add) rCat := by
 intro pins s σ H x y v u Q I rx ry h
 obtain ⟨l, b, xs, zs, rfl, rfl, hH, hB, hz, q⟩ := h
 cases rx
 cases ry
 obtain ⟨z, its, n, r, hl, e⟩ := I.lstM hH
 obtain ⟨z2, its2, n2, r2, hl2, e2⟩ := I.lstM hB
 refine PySem.P.add_list e e2 ?_ (by rw [List.size_toArray, List.size_toArray]; omega)
 have ea : its.toArray ++ its2.toArray = (its ++ its2).toArray := by simp
 rw [ea]
 exact ⟨.ref _, _, I.lnew (t' := s.toks) (r.append r2) (by rw [List.length_append]; omega), rfl, q _ I.fresh⟩
end
section
variable {prog : Program} {w : World} {A : Around} {E : Value → Shared → Prop} {s : Shared}
end
section
variable {X : Cx}
end
end L2
namespace Att
open PySem PySem.W PySem.Calls PyProof.Rows
theorem ints_of_wellAll {P : Params} {h : Heap} : ∀ (ns : List Int) (vs : List Value), WellAll P h vs (ns.map WData.int) → IntsAre vs ns := by
 intro ns
 induction ns with
 | nil =>
  intro vs w
  rw [List.map_nil] at w
  cases w
  exact .nil
 | cons n ns ih =>
  intro vs w
  rw [List.map_cons] at w
  cases w with
  | cons a b =>
   cases a
   exact .cons _ _ (ih _ b)
theorem script_of {l : OpenLaw} {n : Nat} (hn : l.most = some n) {P : Params} {h : Heap} {args : List WData} {vals : List Value}
  (hpre : l.row.toRowW.claim.pre args = true) (hwl : WellAll P h vals args) :
  ∃ a vs ns, vals = [Value.ref a] ∧ args = [WData.list (ns.map WData.int)] ∧ h.get? a = some { cls := .type "list", data := .seq vs.toArray } ∧ IntsAre vs ns ∧ ns.length ≤ n := by
 have hsh : WShape.hasAll [] args [.list .int] = true := (pre_splitW hpre).1
 have hc : l.pre.holds [] { args := args } = true := (pre_splitW hpre).2
 obtain ⟨d, r, rfl, h1, h2⟩ := hasAllW_cons hsh
 obtain rfl := hasAllW_nil h2
 obtain ⟨xs, rfl, h3⟩ := hasW_list h1
 obtain ⟨ns, rfl⟩ := items_int h3
 have hlen : ns.length ≤ n := by
  unfold OpenLaw.pre at hc
  have h4 : (WTm.not (.lt (.lit (.int (n : Int))) (.len (.arg 0)))).holds [] { args := [.list (ns.map .int)] } = true := by
   have h4 := (holds_andW hc).1
   rw [hn] at h4
   exact h4
  have h5 := condW_of h4 (w_not (w_lt w_lit (w_len_list (w_arg rfl))))
  rw [List.length_map] at h5
  refine Nat.le_of_not_lt fun q => ?_
  have q' : (n : Int) < ((ns.length : Nat) : Int) := by omega
  first
   | (rw [decide_eq_true q'] at h5; exact absurd h5 (by decide))
   | (simp at h5; omega)
 cases hwl with
 | cons w1 w2 =>
  cases w2
  cases w1 with
  | list ho hall => exact ⟨_, _, ns, rfl, rfl, ho, ints_of_wellAll ns _ hall, hlen⟩
theorem post_true (l : OpenLaw) (args : List WData) : l.row.toRowW.claim.post args (.bool true) args = true :=
 postW_of (r := l.row.toRowW) (X := (true == true))
  (show WShape.has [] (.bool true) .bool = true by first | rfl | decide | simp [WShape.has, WShape.arms, WShape.armsAll])
  (show (WTm.eq .res (.lit (.bool true))).value [] { args := args, res := some (.bool true), after := args } = some (.bool (true == true)) from w_eq_bool (w_res rfl) w_lit) rfl
theorem attach_call {l : OpenLaw} {n : Nat} {q : Program} {loose : List Str} {XP : (Str → Option Value) → Heap → Prop} {YP : World → Heap → Prop} {d : DefRec}
  (hn : l.most = some n) (hdf : d.params.defaults = [])
  (call : ∀ (w : World) (s₀ s₁ : Shared) (mg mb : Str → Option Value) (fa : Addr) (o : Obj) (pm cd doc : Value) (a : Addr) (vs : List Value) (ns : List Int),
   Ground q loose [] XP w s₀ mg mb s₁.heap → YP w s₁.heap →
   s₁.heap.get? fa = some o → o.data = .func (docDef d.name d.params d.body d.scope pm cd doc) → s₁.heap.CodeRec cd d.name → mg d.name = some (.ref fa) →
   s₁.heap.get? a = some { cls := .type "list", data := .seq vs.toArray } → IntsAre vs ns → ns.length ≤ n → s₁.gens = #[] →
   codeAny (model l.prog w) callerA (.call (.ref fa) ⟨[.ref a], []⟩) (fun r s' => r = .ok (.ret (.bool true)) ∧ OldK s₁.heap s'.heap ∧ s'.os = s₁.os ∧ AllBare s'.gens) s₁) :
  WalkO q loose XP YP l.row.toRowW d [] (fun f vs => PySem.call f vs) := by
 intro w s₀ s₁ mg mb G Y fa o pm cd doc dV kV ho hd hcd hD hmg hg args vals as hpre hlay hrd hwl hlo
 obtain rfl : dV = .none := Dflts.none hD hdf
 obtain rfl : kV = .none := Dflts.noKw hD
 obtain ⟨a, vs, ns, rfl, rfl, hobj, hints, hlen⟩ := script_of hn hpre hwl
 refine enter_call (codeAny_mono (call w s₀ s₁ mg mb fa o pm cd doc a vs ns G Y ho (fd_plain hd) hcd hmg hobj hints hlen hg) fun r s' hq => ?_)
 obtain ⟨rfl, h2, h3, h4⟩ := hq
 exact ⟨.inl ⟨.bool true, .bool true, [], rfl, fun _ => rfl, .bool true, post_true l _, fun _ => ⟨List.Pairwise.nil, fun _ hm => (nomatch hm)⟩⟩, h2, h3, h4⟩
section
variable {prog : Program} {w : World} {A : Around} {E : Value → Shared → Prop} {s : Shared} {K : Frag}
def ledger (h : Heap) (L d : Addr) : List (Addr × Obj) := (List.range h.objs.size).filterMap fun a => if a = L ∨ a = d then none else (h.get? a).map fun o => (a, o)
end
end Att
namespace L2
open PySem PySem.Spec PyProof.Rows
theorem vals_ints : ∀ {vs : List Value} {ns : List Int}, IntsAre vs ns → Vals (ns.map V.int) vs
 | _, _, .nil => .nil
 | _, _, .cons n t h => .cons ⟨t, rfl⟩ (vals_ints h)
def Only (H : Hp) : Prop := ∀ b, H b = none ∨ ∃ o xs, H b = some (.frz o (.lst xs))
theorem law_call {P : Program} {w : World} {K : PySem.W.Frag} {mg mb : Str → Option Value} {CX : CXT} {k : Nat} {fa a : Addr} {fd : FuncData} {x : Str} {sp : Sp} {s₁ : Shared} {vs : List Value} {ns : List Int}
  (KX : K.In s₁.heap) (hns : s₁.heap.Ns mainGlobals mg) (hb : s₁.heap.Ns builtinsNs mb) (hbb : ∀ x : Str, x ≠ "__name__" → mb x = bootBuiltins x) (hlim : s₁.heap.NoLimit) (hg : s₁.gens = #[])
  (ha : s₁.heap.get? a = some { cls := .type "list", data := .seq vs.toArray }) (hi : IntsAre vs ns) (hl : ns.length ≤ sizeLine) (hr : Room k callerA)
  (F : ∀ base : Heap, K.In base → base.Ns mainGlobals mg → FnOk P w K mg base CX k fa fd [x] sp) (hbind : ∀ (s : Shared) (u : Value), BindsTo s fd ⟨[u], []⟩ [(x, u)])
  (hsp : ∀ H : Hp, Only H → SqL K H a (ns.map V.int) → sp [.ref a] H (fun v _ => v = .bl true) fun _ _ _ => False)
  (hCX : ∀ H e s', CX [] H s₁ (fun _ _ _ => False) e s' → False) :
  codeAny (model P w) callerA (.call (.ref fa) ⟨[.ref a], []⟩) (fun r s' => r = .ok (.ret (.bool true)) ∧ OldK s₁.heap s'.heap ∧ s'.os = s₁.os ∧ AllBare s'.gens) s₁ := by
 have rv := vals_ints hi
 have lenV := hi.length
 have core : ∀ H : Hp, Only H → SqL K H a (ns.map V.int) → HOk P w H s₁.heap → (∀ b, H b ≠ none → b = a) → (H a ≠ none → K.lookup a = none) →
   codeAny (model P w) callerA (.call (.ref fa) ⟨[.ref a], []⟩) (fun r s' => r = .ok (.ret (.bool true)) ∧ OldK s₁.heap s'.heap ∧ s'.os = s₁.os ∧ AllBare s'.gens) s₁ := by
  intro H hO hS hok hA hK
  have base_of : ∀ {b : Addr} {o : Obj}, s₁.heap.get? b = some o → H b = none → (hidT s₁.heap H).get? b = some o := fun e n => hidT_get e n
  have noA : ∀ {b : Addr} {o : Obj} {es : Array DictEntry} {ep : Nat}, s₁.heap.get? b = some o → o.data = .dict es ep → H b = none := fun {b o es ep} e d => by
   cases q : H b with
   | none => rfl
   | some u =>
    have e' : b = a := hA b (by rw [q]; simp)
    subst e'
    rw [ha] at e; cases e
    have d' : Data.seq vs.toArray _ = Data.dict es ep := d
    cases d'
  have nsK : ∀ {b : Addr} {m : Str → Option Value}, s₁.heap.Ns b m → (hidT s₁.heap H).Ns b m := fun {b m} ⟨o, es, ep, e, d, r⟩ => ⟨o, es, ep, base_of e (noA e d), d, r⟩
  have hKb : K.In (hidT s₁.heap H) := fun b o e => base_of (KX b o e) (by
   cases q : H b with
   | none => rfl
   | some u =>
    have e' : b = a := hA b (by rw [q]; simp)
    subst e'
    rw [hK (by rw [q]; simp)] at e; cases e)
  have hM : Mod K mg (hidT s₁.heap H) := ⟨hKb, nsK hns, ⟨mb, nsK hb, hbb⟩, let ⟨mc, h1, h2⟩ := hlim; ⟨mc, nsK h1, h2⟩⟩
  have e0 : Env0 P w K mg (hidT s₁.heap H) callerA [] s₁ H := ⟨rfl, hM, fun b o e => of_hidT e, Nat.le_of_eq (hidT_size _ _), trivial, fun b hb => absurd (show b ∈ ([] : List Addr) from hb) (by simp), hok, .of_eq hg⟩
  refine codeAny_mono ((F _ hKb (nsK hns)).run callerA [] s₁ H ⟨[.ref a], []⟩ [.ref a] [.ref a] _ _ hr e0 (hbind s₁ (.ref a)) (.cons rfl .nil) (hsp H hO hS)) fun r s' h => ?_
  cases r with
  | error e => exact (hCX H e s' h).elim
  | ok fl =>
   cases fl with
   | next => exact False.elim h
   | brk => exact False.elim h
   | cont => exact False.elim h
   | ret u =>
    obtain ⟨v, H', os, bare, un, hok', r', q⟩ := h
    have q' : v = .bl true := q
    subst q'
    obtain rfl : u = Value.bool true := r'
    refine ⟨rfl, OldK.of_keep fun b o e => ?_, os, bare⟩
    cases q : H b with
    | none => exact un.keep b o e q (by intro z; exact absurd (show b ∈ ([] : List Addr) from z) (by simp)) (by simp)
    | some u =>
     rcases hO b with z | ⟨ob, xs, z⟩
     ·rw [q] at z; cases z
     ·have z2 := un.frzs b ob _ z
      obtain ⟨e1, _⟩ := hok b _ z
      obtain ⟨e2, _⟩ := hok' b _ z2
      rw [e] at e1; cases e1
      exact e2
 cases hk : K.lookup a with
 | some o =>
  have e := KX a o hk
  rw [ha] at e
  cases e
  refine core (fun _ => none) (fun _ => .inl rfl) (.inr ⟨_, vs.toArray, _, hk, rfl, rfl, rfl, by rw [List.size_toArray, lenV]; exact hl, by simpa using rv⟩) (fun b u z => by have z' : (none : Option HO) = some u := z; cases z') (fun b z => absurd rfl z) fun z => absurd rfl z
 | none =>
  refine core (fun b => if b = a then some (.frz { cls := .type "list", data := .seq vs.toArray } (.lst (ns.map V.int))) else none) (fun b => ?_) (.inl (.inr ⟨{ cls := .type "list", data := .seq vs.toArray }, if_pos rfl⟩)) (fun b u z => ?_) (fun b z => ?_) fun _ => hk
  ·by_cases hb : b = a
   ·exact .inr ⟨_, _, if_pos hb⟩
   ·exact .inl (if_neg hb)
  ·by_cases hb : b = a
   ·have z' := (if_pos hb).symm.trans z
    cases z'
    subst hb
    exact ⟨ha, by rw [List.length_map]; exact hl, vs, _, rv, ha⟩
   ·have z' := (if_neg hb).symm.trans z
    cases z'
  ·by_cases hb : b = a
   ·exact hb
   ·exact absurd (if_neg hb) z
end L2
namespace L2
open PySem PySem.Spec PyProof.Rows
abbrev KOf {K : PySem.W.Frag} {h : Heap} (_ : K.In h) : PySem.W.Frag := K
theorem walk_of {l : PySem.W.OpenLaw} {n k : Nat} {q : Program} {loose : List Str} {XP : (Str → Option Value) → Heap → Prop} {YP : World → Heap → Prop} {d : DefRec} {K : Params → PySem.W.Frag} {CX : World → CXT} {sp : World → Sp} {x : Str}
  (hn : l.most = some n) (hn2 : n ≤ sizeLine) (hdf : d.params.defaults = []) (hr : Room k callerA)
  (hY : ∀ (w : World) (h : Heap), YP w h → (K w.params).In h)
  (F : ∀ (w : World) (mg : Str → Option Value) (fa : Addr) (h : Heap), (K w.params).In h → h.Ns mainGlobals mg → mg d.name = some (.ref fa) →
   ∃ fd : FuncData, (∀ (s : Shared) (u : Value), BindsTo s fd ⟨[u], []⟩ [(x, u)]) ∧
    ∀ base : Heap, (K w.params).In base → base.Ns mainGlobals mg → FnOk l.prog w (K w.params) mg base (CX w) k fa fd [x] (sp w))
  (hsp : ∀ (w : World) (H : Hp) (a : Addr) (ns : List Int), ns.length ≤ n → Only H → SqL (K w.params) H a (ns.map V.int) → sp w [.ref a] H (fun v _ => v = .bl true) fun _ _ _ => False)
  (hCX : ∀ (w : World) (H : Hp) (s : Shared) (e : Value) (s' : Shared), CX w [] H s (fun _ _ _ => False) e s' → False) :
  PySem.W.WalkO q loose XP YP l.row.toRowW d [] (fun f vs => PySem.call f vs) := by
 refine Att.attach_call hn hdf fun w s₀ s₁ mg mb fa o pm cd doc a vs ns G Y ho hd hcd hmg hobj hints hlen hg => ?_
 have KX := hY w _ Y
 obtain ⟨fd, hb, hF⟩ := F w mg fa _ KX G.T.g hmg
 exact law_call KX G.T.g G.T.b G.T.builtins G.T.nolimit hg hobj hints (Nat.le_trans hlen hn2) hr hF hb (fun H hO hS => hsp w H a ns hlen hO hS) fun H e s' => hCX w H s₁ e s'
end L2
namespace L2
open PySem PySem.Spec PyProof.Rows
def defArgs (s : Stmt) : Arguments := match s with
 | .FunctionDef _ a _ _ _ _ _ _ _ _ => a
 | _ => { posonlyargs := [], args := [], vararg := none, kwonlyargs := [], kw_defaults := [], kwarg := none, defaults := [] }
def defBody (s : Stmt) : List Stmt := match s with
 | .FunctionDef _ _ b _ _ _ _ _ _ _ => b
 | _ => []
def defScope (s : Stmt) : Scope := match s with
 | .FunctionDef _ _ _ _ _ _ sc _ _ _ => sc
 | _ => { kind := .function, names := [], isGenerator := false, isCoroutine := false }
abbrev CX0 : CXT := fun _ _ _ _ _ _ => False
abbrev E0 : XK := fun _ _ _ => False
theorem pass0 {X : Cx} : Passes CX0 X E0 := fun _ _ _ _ _ _ _ h => h.elim
structure Fun (K : PySem.W.Frag) (x qual : Str) (st : Stmt) (f : Addr) (fd : FuncData) : Prop where
 ex : ∃ (oc : Value) (od : Option Addr) (kV doc pm : Value) (an : Option Addr) (cdv ct : Value) (osl : Array (Option Value)),
  fd = PySem.W.fnOf x qual (defArgs st) (defBody st) (defScope st) .none kV doc pm an cdv ct ∧ K.lookup f = some ⟨oc, od, .func fd, osl⟩ ∧ PySem.W.codeIn K cdv qual = true
 kp : PySem.W.keepIn K (.ref f) = true
section
variable {P : Program} {w : World} {K : PySem.W.Frag} {mg : Str → Option Value} {base : Heap}
theorem Fun.ok {x qual : Str} {st : Stmt} {f : Addr} {fd : FuncData} {N ps : List Str} {k : Nat} {sp : Sp} (F : Fun K x qual st f fd) (S : FnScope N ps (defScope st)) (len : ∀ vs H Q E, sp vs H Q E → vs.length = ps.length)
  (hbody : ∀ (cdv : Value) (A : Around) (outer : List Env) (s : Shared) (H : Hp) (vs : List V) (Q : VK) (E : XK), Room k (A.deeper (envOfC qual (defScope st) s.heap.objs.size f cdv)) → sp vs H Q E →
   ∃ t, PSs (cxOf CX0 P w K mg base N qual (defScope st) f cdv A outer s H E).nox (defBody st) t ∧ t { nx := fun _ H' => Q .non H', rt := Q } (start N vs) H) : FnOk P w K mg base CX0 (k + 1) f fd ps sp := by
 obtain ⟨oc, od, kV, doc, pm, an, cdv, ct, osl, rfl, lk, hcd⟩ := F.ex
 refine fn_of lk hcd S len fun A outer s H vs Q E hr hsp => ?_
 obtain ⟨t, h, q⟩ := hbody cdv A outer s H vs Q E hr hsp
 exact ⟨t, h.nox, q⟩
theorem Fun.binds {x qual : Str} {st : Stmt} {f : Addr} {fd : FuncData} {ps : List Str} (F : Fun K x qual st f fd)
  (h : ∀ (kV doc pm : Value) (an : Option Addr) (cdv ct : Value) (us : List Value), us.length = ps.length → bindArgs (PySem.W.fnOf x qual (defArgs st) (defBody st) (defScope st) .none kV doc pm an cdv ct) ⟨us, []⟩ = pure (ps.zip us)) : Binds K fd ps [] := by
 obtain ⟨oc, od, kV, doc, pm, an, cdv, ct, osl, rfl, lk, hcd⟩ := F.ex
 exact .all (h kV doc pm an cdv ct)
theorem fun_mk {x qual : Str} {st : Stmt} {f : Addr} {oc : Value} {od an : Option Addr} {osl : Array (Option Value)} {kV doc pm cdv ct : Value} (l : K.lookup f = some ⟨oc, od, .func (PySem.W.fnOf x qual (defArgs st) (defBody st) (defScope st) .none kV doc pm an cdv ct), osl⟩)
  (c : PySem.W.codeIn K cdv qual = true) (k : PySem.W.keepIn K (.ref f) = true) : Fun K x qual st f (PySem.W.fnOf x qual (defArgs st) (defBody st) (defScope st) .none kV doc pm an cdv ct) := ⟨⟨oc, od, kV, doc, pm, an, cdv, ct, osl, rfl, l, c⟩, k⟩
end
section
variable {X : Cx}
theorem pv (i : Nat) {x : Str} {pos : Pos} (hN : X.N[i]? = some x := by rfl) (hv : Vis X.env.scope x := by first | exact Or.inl rfl | exact Or.inr (Or.inl rfl) | exact Or.inr (Or.inr rfl)) (hd : (x == ("__debug__" : Str)) = false := by decide)
  (hcd : (x == ("__classdict__" : Str)) = false := by decide) : PE X (.Name x pos) (tVar i) := pe_var hN hv hd hcd
end
theorem iteF {A B : Prop} (h : B) : if false = true then A else B := by
 rw [if_neg Bool.false_ne_true]
 exact h
theorem iteT {A B : Prop} (h : A) : if true = true then A else B := by
 rw [if_pos rfl]
 exact h
theorem ite2 {c A B : Prop} [Decidable c] (h1 : c → A) (h2 : ¬ c → B) : if c then A else B := by
 by_cases h : c
 ·rw [if_pos h]
  exact h1 h
 ·rw [if_neg h]
  exact h2 h
def Same (H H' : Hp) : Prop := ∀ b o, H b = some o → H' b = some o
theorem Same.refl (H : Hp) : Same H H := fun _ _ h => h
theorem Same.trans {H H1 H2 : Hp} (a : Same H H1) (b : Same H1 H2) : Same H H2 := fun c o h => b c o (a c o h)
end L2
namespace L2
open PySem PySem.Spec PyProof.Rows
section
variable {X : Cx}
theorem op_fdivB : OpR X (binaryOp .FloorDiv) (rI (fun _ j => 0 < j ∧ j.natAbs.log2 < 9000) fun i j => .int (i / j)) := opI fun i j _ _ _ _ _ hc q => by
 have e : i.fdiv j = i / j := Int.fdiv_eq_ediv_of_nonneg i (Int.le_of_lt hc.1)
 refine floordiv_int (by have := hc.1; omega) ?_ (.inl (PyProof.noPylong_of_log2 hc.2))
 rw [e]
 exact q
theorem bools_of : ∀ {bs : List Bool} {us : List Value}, Vals (bs.map V.bl) us → LSm.BoolsAre us bs
 | [], _, .nil => .nil
 | b :: bs, _, .cons r t => by
  cases (show _ = Value.bool b from r)
  exact .cons b (bools_of t)
theorem call_all (hc : X.calm = true) : CallR X (.builtin "all") (fun xs H Q => ∃ (p : Addr) (bs : List Bool), xs = [.ref p] ∧ SqL X.K H p (bs.map V.bl) ∧ Q (.bl (bs.all id)) H) := by
 intro pins s σ H xs us Q I r h
 obtain ⟨p, bs, rfl, hq, q⟩ := h
 obtain ⟨u, rfl, ru⟩ := vals1 r
 cases (show u = Value.ref p from ru)
 obtain ⟨its, rv, pl, hz⟩ := I.list hq
 have hb := bools_of rv
 have hil : s.heap.IsList p its.toArray := pl.isList
 have plt : p < s.heap.objs.size := by obtain ⟨_, e, _⟩ := hil; exact Heap.lt_size e
 refine call_all_walk (wpAny_pyIter_list hil ⟨s.heap.objs.size, [s.heap.objs.size, p], [s.heap.objs.size], its.toArray.size, _, _, fun i => (bs[i]?).getD true, rfl,
  Walks.list (A := X.A.in1) (I.ok.hd hc) _ p (Nat.ne_of_lt plt) its.toArray, ⟨⟨_, Heap.get?_push_size _ rfl, rfl, rfl⟩, hil.push _⟩, ?_, ?_⟩)
 ·intro i v s' Q' E' hP hT
  obtain ⟨b, e, rfl⟩ := hb.get i v (by simpa using hP)
  simp only [e, Option.getD_some] at hT
  exact wpAny_truthy_bool hT
 ·intro h' tk hk
  have e2 : ((List.range its.toArray.size).all fun i => (bs[i]?).getD true) = bs.all id := by
   rw [List.size_toArray, hb.length]
   exact LSm.range_all bs
  rw [e2]
  exact ⟨.bl _, H, I.kept (LSm.kept_iter hk), rfl, q⟩
theorem op_eqT0 (hu : X.A.units < cLine) : OpR X (compareOp .Eq) (fun x y H Q => ∃ a b xs, x = .ref a ∧ y = .ref b ∧ SqT X.K H a xs ∧ SqT X.K H b [] ∧ Q (.bl xs.isEmpty) H) := by
 intro pins s σ H x y v u Q I rx ry h
 obtain ⟨a, b, xs, rfl, rfl, ha, hb, q⟩ := h
 cases (show v = Value.ref a from rx)
 cases (show u = Value.ref b from ry)
 obtain ⟨its, r1, p1, _⟩ := I.tuple ha
 obtain ⟨its2, r2, p2, _⟩ := I.tuple hb
 cases r2
 refine SeqAt.eq_tupleAt (e := fun _ => true) (show s.heap.IsTuple a its.toArray from p1) (show s.heap.IsTuple b ([] : List Value).toArray from p2) hu (fun j _ h2 => absurd h2 (by simp)) (fin_bl I q ?_)
 cases r1 <;> simp
theorem op_eqL0 (hu : X.A.units < cLine) : OpR X (compareOp .Eq) (fun x y H Q => ∃ a b xs, x = .ref a ∧ y = .ref b ∧ SqL X.K H a xs ∧ SqL X.K H b [] ∧ Q (.bl xs.isEmpty) H) := by
 intro pins s σ H x y v u Q I rx ry h
 obtain ⟨a, b, xs, rfl, rfl, ha, hb, q⟩ := h
 cases (show v = Value.ref a from rx)
 cases (show u = Value.ref b from ry)
 obtain ⟨its, r1, p1, _⟩ := I.list ha
 obtain ⟨its2, r2, p2, _⟩ := I.list hb
 cases r2
 cases r1 with
 | nil => exact SeqAt.eq_listAt (e := fun _ => true) p1.isList p2.isList rfl hu (fun j h1 _ => absurd h1 (by simp)) (fin_bl I q (by simp))
 | cons _ _ => exact SeqAt.eq_list_lengthsAt p1.isList p2.isList (by simp) hu (fin_bl I q (by simp))
def tyn (H : Hp) : V → Option String
 | .non => some "NoneType"
 | .bl _ => some "bool"
 | .int _ => some "int"
 | .str _ => some "str"
 | .ref a => match H a with
  | some (.lst _) => some "list"
  | some (.tup _) => some "tuple"
  | some (.dK _) => some "dict"
  | _ => none
 | _ => none
theorem TyOf.byName {K : PySem.W.Frag} {H : Hp} {v : V} {T : String} (h : tyn H v = some T) : TyOf K H v (.type T) := by
 cases v with
 | non => cases h; exact .non
 | bl b => cases h; exact .bl b
 | int i => cases h; exact .int i
 | str x => cases h; exact .str x
 | ref a =>
  simp only [tyn] at h
  cases e : H a with
  | none => rw [e] at h; cases h
  | some o =>
   rw [e] at h
   cases o <;> first | (cases h; first | exact .lst e | exact .tup e | exact .dK e) | cases h
 | _ => cases h
theorem kit_tuple (K : PySem.W.Frag) {T : String} (h : T ∈ ["NoneType", "bool", "int", "str", "list", "tuple", "dict"]) : PySem.W.kitOne K (.type T) (.type "tuple") = some (T == "tuple") := by
 simp only [List.mem_cons, List.not_mem_nil, or_false] at h
 rcases h with rfl | rfl | rfl | rfl | rfl | rfl | rfl <;> kernel_rfl
theorem kit_int (K : PySem.W.Frag) {T : String} (h : T ∈ ["NoneType", "bool", "int", "str", "list", "tuple", "dict"]) : PySem.W.kitOne K (.type T) (.type "int") = some (T == "int" || T == "bool") := by
 simp only [List.mem_cons, List.not_mem_nil, or_false] at h
 rcases h with rfl | rfl | rfl | rfl | rfl | rfl | rfl <;> kernel_rfl
theorem kit_bool (K : PySem.W.Frag) {T : String} (h : T ∈ ["NoneType", "bool", "int", "str", "list", "tuple", "dict"]) : PySem.W.kitOne K (.type T) (.type "bool") = some (T == "bool") := by
 simp only [List.mem_cons, List.not_mem_nil, or_false] at h
 rcases h with rfl | rfl | rfl | rfl | rfl | rfl | rfl <;> kernel_rfl
theorem tyn_mem {H : Hp} {v : V} {T : String} (h : tyn H v = some T) : T ∈ ["NoneType", "bool", "int", "str", "list", "tuple", "dict"] := by
 cases v with
 | non => cases h; simp
 | bl b => cases h; simp
 | int i => cases h; simp
 | str x => cases h; simp
 | ref a =>
  simp only [tyn] at h
  cases e : H a with
  | none => rw [e] at h; cases h
  | some o =>
   rw [e] at h
   cases o <;> first | (cases h; simp; done) | cases h
 | _ => cases h
theorem call_isinst : CallR X (.builtin "isinstance") (fun xs H Q => ∃ x n t b, xs = [x, .ty n] ∧ TyOf X.K H x t ∧ PySem.W.kitOne X.K t (.type n) = some b ∧ Q (.bl b) H) := by
 intro pins s σ H xs us Q I r h
 obtain ⟨x, n, t, b, rfl, ty, e, q⟩ := h
 obtain ⟨u, w', rfl, ru, rw'⟩ := vals2 r
 cases (show w' = Value.type n from rw')
 exact isinst_ok I ru ty e fun tk => ⟨.bl b, H, I.tok tk, rfl, q⟩
theorem call_isTup : CallR X (.builtin "isinstance") (fun xs H Q => ∃ x T, xs = [x, .ty "tuple"] ∧ tyn H x = some T ∧ Q (.bl (T == "tuple")) H) :=
 fun pins s σ H xs us Q I r ⟨x, T, e, hT, q⟩ => call_isinst pins s σ H xs us Q I r ⟨x, _, _, _, e, .byName hT, kit_tuple _ (tyn_mem hT), q⟩
theorem call_isInt : CallR X (.builtin "isinstance") (fun xs H Q => ∃ x T, xs = [x, .ty "int"] ∧ tyn H x = some T ∧ Q (.bl (T == "int" || T == "bool")) H) :=
 fun pins s σ H xs us Q I r ⟨x, T, e, hT, q⟩ => call_isinst pins s σ H xs us Q I r ⟨x, _, _, _, e, .byName hT, kit_int _ (tyn_mem hT), q⟩
theorem call_isBool : CallR X (.builtin "isinstance") (fun xs H Q => ∃ x T, xs = [x, .ty "bool"] ∧ tyn H x = some T ∧ Q (.bl (T == "bool")) H) :=
 fun pins s σ H xs us Q I r ⟨x, T, e, hT, q⟩ => call_isinst pins s σ H xs us Q I r ⟨x, _, _, _, e, .byName hT, kit_bool _ (tyn_mem hT), q⟩
end
section
variable {X : Cx}
def rCatA (K : PySem.W.Frag) : R2 := fun x y H Q => ∃ a b xs ys, x = .ref a ∧ y = .ref b ∧ H a = some (.tup xs) ∧ H b = some (.tup ys) ∧ xs.length + ys.length ≤ sizeLine ∧
 ∀ p H', Same H H' → H' p = some (.tup (xs ++ ys)) → Q (.ref p) H'
theorem op_catA : OpR X (binaryOp .Add) (rCatA X.K) := by
 intro pins s σ H x y v u Q I rx ry h
 obtain ⟨a, b, xs, ys, rfl, rfl, ha, hb, hz, q⟩ := h
 cases xs with
 | cons x xs =>
  refine op_catT pins s σ H (.ref a) (.ref b) v u Q I rx ry ⟨a, b, _, ys, rfl, rfl, SqT.of ha, SqT.of hb, (by simp), hz, fun e => ?_, fun _ p hp => ?_⟩
  ·subst e
   exact q a H (Same.refl H) (by rw [List.append_nil]; exact ha)
  ·exact q p _ (fun c o e => by rw [upd_ne (ne_of_none e hp)]; exact e) upd_same
 | nil =>
  cases (show v = Value.ref a from rx)
  cases (show u = Value.ref b from ry)
  obtain ⟨its, r1, p1, _⟩ := I.tuple (SqT.of (K := X.K) ha)
  obtain ⟨its2, r2, p2, _⟩ := I.tuple (SqT.of (K := X.K) hb)
  cases r1
  obtain ⟨⟨c1, d1, t1, l1⟩, o1, k1, n1, g1⟩ := id p1
  obtain ⟨⟨c2, d2, t2, l2⟩, o2, k2, n2, g2⟩ := id p2
  simp only at k1 g1 k2 g2
  subst k1 g1 k2 g2
  exact concat_meets ⟨_, o1, rfl⟩ ⟨_, o2, rfl⟩ noFill_tuple_add seq_tuple_add PySem.F.slot_tuple_add PySem.F.entry_tuple_add (PySem.F.args_tuple_add_2 _ _)
   (tuple_addW0 a b _ its2.toArray n1 n2 d1 d2 l1 l2 (by simp)) ⟨o1, o2, ⟨.ref b, H, I, rfl, q b H (Same.refl H) hb⟩⟩
end
end L2
namespace L2
open PySem PySem.Spec PyProof.Rows
def cxComp (X : Cx) (scope : Scope) (cl : List (Str × Addr)) (C : Addr) (N : List Str) (s : Shared) (H : Hp) (ex : List Addr) : Cx :=
 { X with N := N, s₀ := s, H₀ := H, env := compEnvC scope cl C X.env, outer := X.stack, ex := ex, fn := fun _ => false, pn := [], xe := fun _ _ => False }
theorem closure_has {scope : Scope} {env : Env} (hf : ∀ y ∈ scope.names, y.2 = .free → ∃ c, env.cells.lookup y.1 = some c) :
  ∃ cl, closureFor scope env = pure cl ∧ (∀ x c, cl.lookup x = some c → env.cells.lookup x = some c) ∧ ∀ y ∈ scope.names, y.2 = .free → cl.lookup y.1 = env.cells.lookup y.1 := by
 have aux : ∀ (names : List (Str × NameKind)) (acc : List (Str × Addr)), (∀ y ∈ names, y.2 = .free → ∃ c, env.cells.lookup y.1 = some c) → (∀ x c, acc.lookup x = some c → env.cells.lookup x = some c) →
   ∃ cl, (forIn names acc fun x r => match x with
     | (name, kind) => if (kind == NameKind.free) = true then (cellOf env name >>= fun c => pure (ForInStep.yield ((name, c) :: r))) else pure (ForInStep.yield r) : Sem (List (Str × Addr))) = pure cl ∧
    (∀ x c, cl.lookup x = some c → env.cells.lookup x = some c) ∧ (∀ x c, acc.lookup x = some c → cl.lookup x = some c) ∧ ∀ y ∈ names, y.2 = .free → cl.lookup y.1 = env.cells.lookup y.1 := by
  intro names
  induction names with
  | nil => intro acc _ ha; exact ⟨acc, rfl, ha, fun _ _ e => e, fun y hy => absurd hy (by simp)⟩
  | cons z r ih =>
   intro acc hn ha
   obtain ⟨n, k⟩ := z
   have hr : ∀ y ∈ r, y.2 = .free → ∃ c, env.cells.lookup y.1 = some c := fun y hy => hn y (List.mem_cons_of_mem _ hy)
   by_cases hk : k = .free
   ·subst hk
    obtain ⟨c, hc⟩ := hn (n, .free) List.mem_cons_self rfl
    have hc : env.cells.lookup n = some c := hc
    have ha' : ∀ x d, ((n, c) :: acc).lookup x = some d → env.cells.lookup x = some d := fun x d e => by
     rw [List.lookup_cons] at e
     cases hx : x == n with
     | true =>
      rw [hx] at e
      have e' : c = d := Option.some.inj e
      have ex : x = n := eq_of_beq hx
      rw [ex, ← e']; exact hc
     | false => rw [hx] at e; exact ha x d e
    obtain ⟨cl, e1, e2, e3, e4⟩ := ih ((n, c) :: acc) hr ha'
    have hcell : cellOf env n = pure c := by unfold cellOf; rw [hc]
    refine ⟨cl, ?_, e2, fun x d e => ?_, fun y hy hy2 => ?_⟩
    ·rw [List.forIn_cons]
     show ((if (NameKind.free == NameKind.free) = true then (cellOf env n >>= fun c => pure (ForInStep.yield ((n, c) :: acc))) else pure (ForInStep.yield acc)) >>= _) = _
     rw [if_pos (by decide : (NameKind.free == NameKind.free) = true), hcell]
     exact e1
    ·have h1 : ((n, c) :: acc).lookup x = some (if x == n then c else d) := by
      rw [List.lookup_cons]
      cases hx : x == n with
      | true => rfl
      | false => exact e
     have h2 := e3 x _ h1
     have h3 := e2 x _ h2
     have h4 := ha x d e
     rw [h3] at h4
     rw [h2]; exact h4
    ·rcases List.mem_cons.mp hy with rfl | hy3
     ·have h1 : ((n, c) :: acc).lookup n = some c := by rw [List.lookup_cons, beq_self_eq_true]
      show cl.lookup n = _
      rw [e3 n c h1, hc]
     ·exact e4 y hy3 hy2
   ·have hb : (k == NameKind.free) = false := by simpa using hk
    obtain ⟨cl, e1, e2, e3, e4⟩ := ih acc hr ha
    refine ⟨cl, ?_, e2, e3, fun y hy hy2 => ?_⟩
    ·rw [List.forIn_cons]
     show ((if (k == NameKind.free) = true then (cellOf env n >>= fun c => pure (ForInStep.yield ((n, c) :: acc))) else pure (ForInStep.yield acc)) >>= _) = _
     rw [hb]
     exact e1
    ·rcases List.mem_cons.mp hy with rfl | hy3
     ·exact absurd hy2 hk
     ·exact e4 y hy3 hy2
 obtain ⟨cl, e1, e2, _, e4⟩ := aux scope.names [] hf fun x c e => by cases e
 refine ⟨cl, Eq.trans ?_ e1, e2, e4⟩
 unfold closureFor
 first
  | rfl
  | (simp only [bind_pure]; done)
  | (simp only [bind_pure]; rfl)
  | (simp only [bind_pure]
     congr 1
     funext x r
     obtain ⟨n, k⟩ := x
     cases (k == NameKind.free) <;> rfl)
theorem relabel_of {env : Env} : ∀ {names : List (Str × NameKind)} {x : Str} {k' : NameKind},
  (names.map fun (n, k) => if (k == NameKind.free && env.scope.kind == .function && env.kindOf n == some .cell) then (n, NameKind.cell) else (n, k)).lookup x = some k' →
  names.lookup x = some k' ∨ (names.lookup x = some .free ∧ k' = .cell)
 | [], _, _, h => by simp at h
 | (n, k) :: r, x, k', h => by
  have ih := @relabel_of env r x k'
  rw [List.map_cons] at h
  show List.lookup x ((n, k) :: r) = _ ∨ (List.lookup x ((n, k) :: r) = _ ∧ _)
  rw [List.lookup_cons]
  by_cases hq : (k == NameKind.free && env.scope.kind == .function && env.kindOf n == some .cell) = true
  ·have g : List.lookup x ((if (k == NameKind.free && env.scope.kind == .function && env.kindOf n == some .cell) = true then (n, NameKind.cell) else (n, k)) :: _) = _ := h
   rw [if_pos hq, List.lookup_cons] at g
   have hk : k = .free := by
    rw [Bool.and_eq_true, Bool.and_eq_true] at hq
    exact eq_of_beq hq.1.1
   cases hx : x == n with
   | true => rw [hx] at g; rw [hk]; exact .inr ⟨rfl, (Option.some.inj g).symm⟩
   | false => rw [hx] at g; exact ih g
  ·have g : List.lookup x ((if (k == NameKind.free && env.scope.kind == .function && env.kindOf n == some .cell) = true then (n, NameKind.cell) else (n, k)) :: _) = _ := h
   rw [if_neg hq, List.lookup_cons] at g
   cases hx : x == n with
   | true => rw [hx] at g; exact .inl g
   | false => rw [hx] at g; exact ih g
theorem relabel_cell {env : Env} (hk : env.scope.kind = .function) {x : Str} (hx : env.kindOf x = some .cell) : ∀ {names : List (Str × NameKind)}, names.lookup x = some .free →
  (names.map fun (n, k) => if (k == NameKind.free && env.scope.kind == .function && env.kindOf n == some .cell) then (n, NameKind.cell) else (n, k)).lookup x = some .cell
 | [], h => by simp at h
 | (n, k) :: r, h => by
  have ih := @relabel_cell env hk x hx r
  show List.lookup x ((if (k == NameKind.free && env.scope.kind == .function && env.kindOf n == some .cell) = true then (n, NameKind.cell) else (n, k)) :: _) = some NameKind.cell
  rw [List.lookup_cons] at h
  cases hxn : x == n with
  | true =>
   rw [hxn] at h
   have ek : k = .free := Option.some.inj h
   have en : x = n := eq_of_beq hxn
   subst ek en
   rw [if_pos (by rw [hk, hx]; rfl), List.lookup_cons, beq_self_eq_true]
  | false =>
   rw [hxn] at h
   by_cases hq : (k == NameKind.free && env.scope.kind == .function && env.kindOf n == some .cell) = true
   ·rw [if_pos hq, List.lookup_cons, hxn]; exact ih h
   ·rw [if_neg hq, List.lookup_cons, hxn]; exact ih h
def PTs (X : Cx) (ifs : List Expr) (t : TT) : Prop :=
 ∀ (pins : List (Addr × Obj)) (s : Shared) (σ : St) (H : Hp) (Q : Bool → Hp → Prop), Inv X pins σ H s → t σ H Q →
  wpAny (model X.prog X.w) X.A (forIn ifs true fun c r => if r = true then do let ok ← isTrue c X.env (eval c X.env); pure (ForInStep.yield ok) else pure (ForInStep.yield r)) (TP X pins σ Q) X.xe s
def tNoIf : TT := fun _ H Q => Q true H
theorem tNoIf_go {σ : St} {H : Hp} {A B : Hp → Prop} (h : A H) : tNoIf σ H fun b H4 => if b = true then A H4 else B H4 := by
 show if true = true then A H else B H
 rw [if_pos rfl]
 exact h
theorem pts_nil {X : Cx} : PTs X [] tNoIf := fun _ _ _ H _ I h => wpAny_tests_nil ⟨H, I, h⟩
theorem pts_one {X : Cx} {c : Expr} {t : TT} (h : PT X c t) : PTs X [c] t := fun pins s σ H Q I q => wpAny_tests_one (h pins s σ H Q I q)
theorem HOk.take {P : Program} {w : World} {H : Hp} {h : Heap} {a : Addr} {o : HO} (x : HOk P w H h) (hn : H a = none) (new : ObjOk P w (upd H a o) h a o) : HOk P w (upd H a o) h := fun b u e => by
 by_cases hb : b = a
 ·subst hb; rw [upd_same] at e; cases e; exact new
 ·rw [upd_ne hb] at e
  exact (x b u e).stay (fun _ _ _ q => q) (fun c q => by rw [upd_ne (ne_of_none q hn)]; exact q) fun c xs q => by rw [upd_ne (ne_of_none q hn)]; exact q
def blockSt (σ : St) (js : List Nat) : St := js.map fun j => (σ[j]?).getD none
def CompW (js : List Nat) (tt : TT) (te : TE) (σ : St) (Q : VK) (J : It) (H1 : Hp) : Prop := ∃ W : Nat → Nat → List V → Hp → Prop, (∃ m, W 0 m [] H1) ∧ ∀ i m ys H2, W i m ys H2 →
 (J.stop i H2 ∧ ∀ D, H2 D = none → Q (.ref D) (upd H2 D (.lst ys))) ∨
 (J.go i H2 ∧ ys.length < sizeLine ∧ ∃ N : List V → Hp → Prop, (∀ ys' H', N ys' H' → ∃ m', m' < m ∧ W (i + 1) m' ys' H') ∧ ∀ x H3, J.yld i H2 x H3 → tt (some x :: blockSt σ js) H3 fun b H4 =>
  if b = true then te (some x :: blockSt σ js) H4 fun y H5 => N (ys ++ [y]) H5 else N ys H4)
def tComp (wi : TI) (js : List Nat) (tt : TT) (te : TE) : TE := fun σ H Q => wi σ H fun J H1 => CompW js tt te σ Q J H1
abbrev lobj (us : List Value) (n : Nat) : Obj := { cls := .type "list", data := .seq us.toArray n }
section
variable {prog : Program} {w : World} {A : Around} {s : Shared} {R : Result → Shared → Prop}
abbrev NotedR (prog : Program) (w : World) (A : Around) (env : Env) (R : Result → Shared → Prop) : Value → Shared → Prop := notedBy (model prog w) A env fun x t => R (.error x) t
theorem loop_any {elt tg iter : Expr} {ifs : List Expr} {scope : Scope} {pos : Pos} {it acc : Value} {env : Env} (J : Nat → Shared → Prop)
  (step : ∀ k t, J k t → wpAny (model prog w) A (pyNext it) (fun r t1 => match r with
   | none => R (.ok .next) t1
   | some v => wpAny (model prog w) A (letOwnedTupleGo tg it v) (fun _ t2 => wpAny (model prog w) A (assign tg env v) (fun _ t3 =>
     wpAny (model prog w) A (forIn ifs true fun c b => if b = true then do let z ← isTrue c env (eval c env); pure (ForInStep.yield z) else pure (ForInStep.yield b)) (fun z t4 =>
      if z = true then wpAny (model prog w) A (eval elt env) (fun y t5 => wpAny (model prog w) A (call (.builtin "list.append") [acc, y]) (fun _ t6 => ∃ m, m < k ∧ J m t6) (NotedR prog w A env R) t5) (NotedR prog w A env R) t4
      else ∃ m, m < k ∧ J m t4) (NotedR prog w A env R) t3) (NotedR prog w A env R) t2) (NotedR prog w A env R) t1) (NotedR prog w A env R) t)
  (k : Nat) (h : J k s) : codeAny (model prog w) A (.compLoop (.ListComp elt [⟨tg, iter, ifs, 0⟩] scope pos) 0 it acc env) R s := by
 refine codeAny_loop rfl J (fun k t hJ => ?_) k h
 show wpAny _ A ((compTurn (.ListComp elt [⟨tg, iter, ifs, 0⟩] scope pos) 0 it acc env).onRaise (fun y => do noteFrame y env; theTreesLotGoes y)) _ _ t
 refine wpAny_noted ?_
 rw [compTurn_list]
 refine wpAny_bind (wpAny_standAt (wpAny_bind (wpAny_mono (step k t hJ) (fun r t1 q1 => ?_) fun _ _ f => f)))
 cases r with
 | none => exact wpAny_pure q1
 | some v =>
  refine wpAny_bind (wpAny_mono q1 (fun _ t2 q2 => ?_) fun _ _ f => f)
  refine wpAny_bind (wpAny_mono q2 (fun _ t3 q3 => ?_) fun _ _ f => f)
  refine wpAny_bind (wpAny_mono q3 (fun z t4 q4 => ?_) fun _ _ f => f)
  cases z with
  | false => exact wpAny_pure ⟨rfl, q4⟩
  | true => exact wpAny_bind (wpAny_bind (wpAny_mono q4 (fun y t5 q5 => wpAny_bind (wpAny_mono q5 (fun _ t6 q6 => wpAny_pure (wpAny_pure ⟨rfl, q6⟩)) fun _ _ f => f)) fun _ _ f => f))
end
def CompWT (n : Nat) (g : TG) (js : List Nat) (tt : TT) (te : TE) (σ : St) (Q : VK) (J : It) (H1 : Hp) : Prop := ∃ W : Nat → Nat → List V → Hp → Prop, (∃ m, W 0 m [] H1) ∧ ∀ i m ys H2, W i m ys H2 →
 (J.stop i H2 ∧ ∀ D, H2 D = none → Q (.ref D) (upd H2 D (.lst ys))) ∨
 (J.go i H2 ∧ ys.length < sizeLine ∧ ∃ N : List V → Hp → Prop, (∀ ys' H', N ys' H' → ∃ m', m' < m ∧ W (i + 1) m' ys' H') ∧ ∀ x H3, J.yld i H2 x H3 → ∀ v0 : St, v0.length = n → g x (v0 ++ blockSt σ js) H3 fun σ4 H4 =>
  (∃ v1 : St, v1.length = n ∧ σ4 = v1 ++ blockSt σ js) ∧ tt σ4 H4 fun b H5 => if b = true then te σ4 H5 fun y H6 => N (ys ++ [y]) H6 else N ys H5)
def tCompT (wi : TI) (n : Nat) (g : TG) (js : List Nat) (tt : TT) (te : TE) : TE := fun σ H Q => wi σ H fun J H1 => CompWT n g js tt te σ Q J H1
theorem comp_core {X : Cx} {pins : List (Addr × Obj)} {s : Shared} {σ : St} {H : Hp} {Q : VK} {use : Option (Value → Sem Unit)} {R : Value → Shared → Prop} {pos' : Pos} {CW : St → VK → It → Hp → Prop} {elt iter tg : Expr} {xs : List Str} {g : TG} {pos : Pos} {ifs : List Expr} {scope : Scope} {wi : TI} {te : TE} {tt : TT} {fr : List Str} {js : List Nat}
  (hc : X.calm = true) (hi : PI X tg iter wi)
  (hcell : ∀ y ∈ scope.names, y.2 ≠ .cell) (hkind : scope.kind = .function) (hnames : ∀ y ∈ scope.names, y.2 = .local → scope.names.lookup y.1 = some .local)
  (hfr : ∀ y ∈ scope.names, y.2 = .free → X.env.scope.names.lookup y.1 = some .cell) (hjs : js.map (fun j => X.N[j]?) = fr.map some) (hfv : ∀ y ∈ fr, scope.names.lookup y = some .free)
  (hg : ∀ cl C s' H' ex, PG (cxComp X scope cl C (xs ++ fr) s' H' ex) tg g)
  (hb : ∀ cl C s' H' ex, PE (cxComp X scope cl C (xs ++ fr) s' H' ex) elt te ∧ PTs (cxComp X scope cl C (xs ++ fr) s' H' ex) ifs tt)
  (hCW : ∀ σ Q J H1, CW σ Q J H1 → CompWT xs.length g js tt te σ Q J H1) (I : Inv X pins σ H s) (h : wi σ H fun J H1 => CW σ Q J H1)
  (fin : ∀ (s4 : Shared) (H5 : Hp) (D C : Addr) (mC : Str → Option Value), s4.heap.Ns C mC → Inv X pins σ H5 s4 → H5 C = none → C ≠ X.env.locals → C ∉ X.fs → (∀ p ∈ X.pn ++ pins, p.1 ≠ C) → (∀ y c, X.env.cells.lookup y = some c → c ≠ C) → X.s₀.heap.objs.size ≤ C → Q (.ref D) H5 → compPost (model X.prog X.w) X.A X.xe use R (.ref D) C (.ok .next) s4)
  (hs : ∀ z, foldedSetIterable iter X.env z = pure z := by intro _; rfl) :
  wpAny (model X.prog X.w) X.A (comprehension (.ListComp elt [⟨tg, iter, ifs, 0⟩] scope pos) scope X.env pos' (newList []) false (eval iter X.env) use) R X.xe s := by
 have hXk : X.env.scope.kind = .function := I.ok.kind
 obtain ⟨cl, hclos, c1, c2⟩ := closure_has (scope := scope) (env := X.env) fun y hy hk => I.ok.has _ (.inl (hfr y hy hk))
 refine wpAny_comprehension_free rfl hs hclos hkind hnames (thn (hi pins s σ H _ I h) fun xv s1 h1 => thn h1 fun itv s2 h2 => ?_)
 obtain ⟨it, fp, tn, J, H2, rfl, I2, T, st2, f2, hcw⟩ := h2
 obtain ⟨W, ⟨m0, w0⟩, turn⟩ := hCW _ _ _ _ hcw
 refine wpAny_newObj_type (wpAny_newFunctionEnv hcell (by intro y hy; simp at hy) (fun hA nsA sbA => ?_) hkind)
 dsimp only at nsA sbA ⊢
 generalize hG : s2.heap.push { cls := .type "list", dict := none, data := .seq ([] : List Value).toArray } = G at nsA sbA ⊢
 have hC : G.objs.size = s2.heap.objs.size + 1 := by rw [← hG, Heap.size_push]
 have hDC : s2.heap.objs.size ≠ G.objs.size := by rw [hC]; exact Nat.ne_of_lt (Nat.lt_succ_self _)
 have small : ∀ b o, s2.heap.get? b = some o → b ≠ G.objs.size ∧ b ≠ s2.heap.objs.size := fun b o e => ⟨by rw [hC]; exact Nat.ne_of_lt (Nat.lt_succ_of_lt (Heap.lt_size e)), Nat.ne_of_lt (Heap.lt_size e)⟩
 have old : ∀ b o, s2.heap.get? b = some o → hA.get? b = some o := fun b o e => sbA.extBut b o (small b o e).1 (Heap.get?_push_of_some _ (hG ▸ Heap.get?_push_of_some _ e))
 have hDA : hA.get? s2.heap.objs.size = some (lobj [] 0) := sbA.extBut _ _ hDC (Heap.get?_push_of_some _ (hG ▸ Heap.get?_push_size _ rfl))
 have fpo : ∀ b ∈ fp, ∃ o, s2.heap.get? b = some o := fun b hb => let ⟨o, e, _⟩ := T.obj _ _ st2 b hb; ⟨o, e⟩
 have celo : ∀ y c, cl.lookup y = some c → ∃ o, s2.heap.get? c = some o := fun y c e => let ⟨_, o, ho, _⟩ := I2.cell y c (c1 y c e); ⟨o, ho⟩
 have ok' : (cxComp X scope cl G.objs.size (xs ++ fr) s2 H2 fp).Ok := by
  refine ⟨I2.ok.mod, hkind, I2.ok.glob, I2.ok.blt, ?_, fun a b c e1 e2 => I2.ok.inj a b c (c1 a c e1) (c1 b c e2), fun y hy => ?_, fun _ _ z => absurd z (by intro q; cases q), I2.ok.hd, I2.ok.frames, .inl rfl, fun b hb => ?_, I2.bs, Nat.le_trans I2.ok.bsz I2.sz, fun b o e hb => ?_, fun b hb hz => ?_, I2.stack, I2.stkFree⟩
  ·show s2.heap.objs.size ≤ G.objs.size
   rw [hC]; exact Nat.le_succ _
  ·have hy : (relabel scope X.env).names.lookup y = some .cell ∨ (relabel scope X.env).names.lookup y = some .free := hy
   have key : scope.names.lookup y = some .free := by
    rcases hy with hy | hy
    ·rcases relabel_of hy with q | ⟨q, _⟩
     ·exact absurd rfl (hcell _ (PySem.mem_of_lookup q))
     ·exact q
    ·rcases relabel_of hy with q | ⟨q, _⟩
     ·exact q
     ·exact q
   have hm := PySem.mem_of_lookup key
   obtain ⟨c, e⟩ := I.ok.has y (.inl (hfr _ hm rfl))
   exact ⟨c, (c2 _ hm rfl).trans e⟩
  ·obtain ⟨o, e⟩ := fpo b hb
   exact ⟨(small b o e).1, fun y c q => (f2 b hb).2.2.2.2.1 y c (c1 y c q)⟩
  ·obtain ⟨_, _, _, f3, _⟩ := f2 b hb
   rcases f3 with f3 | f3
   ·exact I2.ok.noex b o e f3
   ·exact absurd (Nat.lt_of_lt_of_le (Heap.lt_size e) (Nat.le_trans I2.ok.bsz f3)) (Nat.lt_irrefl _)
  ·obtain ⟨_, n1, n2, _⟩ := f2 b hb
   exact (List.mem_cons.mp (I2.stkSub b hz)).elim n1 n2
 have nofs : s2.heap.objs.size ∉ frs X.stack := fun hz => by
  obtain ⟨_, o, ho, _⟩ := I2.stack.mem hz
  exact Nat.lt_irrefl _ (Heap.lt_size ho)
 have lenB : (blockSt σ js).length = fr.length := by
  have e := congrArg List.length hjs
  rw [List.length_map, List.length_map] at e
  unfold blockSt
  rw [List.length_map]; exact e
 have start' : ∀ t, Inv (cxComp X scope cl G.objs.size (xs ++ fr) s2 H2 fp) [(s2.heap.objs.size, lobj [] 0)] ((xs.map fun _ => none) ++ blockSt σ js) H2 { s2 with heap := hA, toks := t } := fun t => by
  refine ⟨ok', rfl, I2.bare, Un.kept old, ⟨_, nsA, fun i y v e1 e2 e3 => ?_⟩, fun y c e => ?_, I2.hok.fresh (by rw [hC]; exact Nat.le_succ _), fun y c e => I2.freeC y c (c1 y c e), fun p hp => ?_, I2.hok.kept old, ?_⟩
  ·by_cases hix : i < xs.length
   ·rw [List.getElem?_append_left (by rw [List.length_map]; exact hix), List.getElem?_map, gE hix] at e2
    cases e2
   ·obtain ⟨i, rfl⟩ : ∃ j, i = xs.length + j := ⟨i - xs.length, by omega⟩
    have e1 : (xs ++ fr)[xs.length + i]? = some y := e1
    have e1 : fr[i]? = some y := by rw [List.getElem?_append_right (by omega), show xs.length + i - xs.length = i by omega] at e1; exact e1
    have e2 : (blockSt σ js)[i]? = some (some v) := by rw [List.getElem?_append_right (by rw [List.length_map]; omega), List.length_map, show xs.length + i - xs.length = i by omega] at e2; exact e2
    unfold blockSt at e2
    rw [List.getElem?_map] at e2
    obtain ⟨j, ej, e2⟩ := Option.map_eq_some_iff.mp e2
    have hN : X.N[j]? = some y := by
     have q := congrArg (fun l => l[i]?) hjs
     simp only [List.getElem?_map, ej, e1, Option.map_some] at q
     exact Option.some.inj q
    have hσ : σ[j]? = some (some v) := by
     cases z : σ[j]? with
     | none => rw [z] at e2; cases e2
     | some w => rw [z] at e2; exact congrArg some e2
    have hfree := hfv y (List.mem_of_getElem? e1)
    have hm := PySem.mem_of_lookup hfree
    have hce : X.env.scope.names.lookup y = some .cell := hfr _ hm rfl
    obtain ⟨m, _, hl⟩ := I2.loc
    obtain ⟨u, ru, look⟩ := hl j y v hN hσ (.inr (.inl hce))
    refine ⟨u, ru, .inr ⟨.inl (relabel_cell hXk hce hfree), ?_⟩⟩
    rcases look with ⟨k, _⟩ | ⟨_, c, ec, ho⟩
    ·have k : X.env.scope.names.lookup y = some .local := k
     rw [hce] at k; cases k
    ·obtain ⟨o, ho, hd⟩ := ho
     exact ⟨c, (c2 _ hm rfl).trans ec, o, old c o ho, hd⟩
  ·obtain ⟨v, o, ho, hd⟩ := I2.cell y c (c1 y c e)
   exact ⟨v, o, old c o ho, hd⟩
  ·have hp : p ∈ [(s2.heap.objs.size, lobj [] 0)] := hp
   have e := List.mem_singleton.mp hp
   subst e
   exact ⟨hDA, I2.hok.fresh (Nat.le_refl _), hDC, nofs, fun v z => by cases z⟩
  ·show ((xs.map fun _ => none) ++ blockSt σ js).length = (xs ++ fr).length
   rw [List.length_append, List.length_append, List.length_map, lenB]
 have fok : ∀ {us : List Value} {n : Nat} {H' : Hp}, (∀ b ∈ fp, H' b = none) → ∀ b ∈ fp, FpOk (cxComp X scope cl G.objs.size (xs ++ fr) s2 H2 fp) [(s2.heap.objs.size, lobj us n)] H' b := fun {us n H'} hn b hb => by
  obtain ⟨o, e⟩ := fpo b hb
  refine ⟨hn b hb, (small b o e).1, fun hz => (List.mem_cons.mp (I2.stkSub b hz)).elim (f2 b hb).2.1 (f2 b hb).2.2.1, .inl hb, fun y c q => (f2 b hb).2.2.2.2.1 y c (c1 y c q), fun p hp => ?_⟩
  have hp : p ∈ [(s2.heap.objs.size, lobj us n)] := hp
  have ep := List.mem_singleton.mp hp
  subst ep
  exact fun z => (small b o e).2 z.symm
 have loop : ∀ sB : Shared, (∃ t, sB = { s2 with heap := hA, toks := t }) →
   codeAny (model X.prog X.w) X.A (.compLoop (.ListComp elt [⟨tg, iter, ifs, 0⟩] scope pos) 0 (.ref it) (.ref s2.heap.objs.size) (compEnvC scope cl G.objs.size X.env))
    (compPost (model X.prog X.w) X.A X.xe use R (.ref s2.heap.objs.size) G.objs.size) sB := by
  rintro sB ⟨t, rfl⟩
  refine loop_any (fun k s' => ∃ i ys us n v0 H', v0.length = xs.length ∧ Inv (cxComp X scope cl G.objs.size (xs ++ fr) s2 H2 fp) [(s2.heap.objs.size, lobj us n)] (v0 ++ blockSt σ js) H' s' ∧ Vals ys us ∧ ys.length ≤ sizeLine ∧ tn i s'.heap ∧ (∀ b ∈ fp, H' b = none) ∧ W i k ys H') ?_ m0
   ⟨0, [], [], 0, xs.map fun _ => none, H2, List.length_map .., start' t, .nil, Nat.zero_le _, T.keep _ _ _ st2 fun b hb o e => old b o e, fun b hb => (f2 b hb).1, w0⟩
  rintro k s3 ⟨i, ys, us, n, v0, H3, hv0, I3, rv, hlen, st3, fr3, w3⟩
  rcases turn i k ys H3 w3 with ⟨stop, qn⟩ | ⟨go, hlt, N', hN', step⟩
  ·refine thn (T.done (cxComp X scope cl G.objs.size (xs ++ fr) s2 H2 fp) rfl rfl rfl hc i _ s3 _ H3 _ I3 (fok fr3) st3 stop) fun r s4 ⟨hr, I4⟩ => ?_
   subst hr
   obtain ⟨mC, hnC, _⟩ := id I4.loc
   obtain ⟨pD, nD, _, _, _⟩ := I4.pin (s2.heap.objs.size, lobj us n) (by show _ ∈ [] ++ [_]; simp)
   have pD : s4.heap.get? s2.heap.objs.size = some (lobj us n) := pD
   have nD : H3 s2.heap.objs.size = none := nD
   have nC : H3 G.objs.size = none := I4.free
   have D2 : ∀ b o, s2.heap.get? b = some o → b ≠ s2.heap.objs.size := fun b o e => (small b o e).2
   have base4 : Un (frs X.stack) fp H2 H3 s2.heap s4.heap := I4.base
   have u4 : Un (frs X.stack) fp H2 (upd H3 s2.heap.objs.size (.lst ys)) s2.heap s4.heap :=
    {keep := base4.keep
     slot := base4.slot
     free := fun b o e nb hx' => by rw [upd_ne (D2 b o e)]; exact base4.free b o e nb hx'
     there := base4.there
     tups := fun b xs e => by have q := base4.tups b xs e; rw [upd_ne (ne_of_none q nD)]; exact q
     frzs := fun b o u e => by have q := base4.frzs b o u e; rw [upd_ne (ne_of_none q nD)]; exact q
     tbls := fun b ps e => by obtain ⟨more, q⟩ := base4.tbls b ps e; exact ⟨more, by rw [upd_ne (ne_of_none q nD)]; exact q⟩ }
   have I5 : Inv X pins σ (upd H3 s2.heap.objs.size (.lst ys)) s4 := I2.call' (s' := s4) (ch := fp) I4.os u4 (I4.hok.take nD ⟨hlen, us, n, rv, pD⟩) I4.bare fun b hb => by
    obtain ⟨_, g1, _, g3, g4, g5⟩ := f2 b hb
    exact ⟨g3, g1, g4, g5⟩
   have locC : G.objs.size ≠ X.env.locals := fun z => by
    obtain ⟨_, ⟨o, _, _, ho, _⟩, _⟩ := id I2.loc
    exact (small _ o ho).1 z.symm
   have fsC : G.objs.size ∉ X.fs := fun hz => by
    obtain ⟨_, o, ho, _⟩ := I2.ok.funs.mem hz
    have := Nat.lt_of_lt_of_le (Heap.lt_size ho) I2.sz
    rw [hC] at this
    exact Nat.lt_irrefl _ (Nat.lt_of_succ_lt this)
   have pinX : ∀ p ∈ X.pn ++ pins, p.1 ≠ G.objs.size := fun p hp => (small _ _ (I2.pin p hp).1).1
   have nCu : (upd H3 s2.heap.objs.size (.lst ys)) G.objs.size = none := by rw [upd_ne (Ne.symm hDC)]; exact nC
   refine fin s4 _ _ _ mC hnC I5 nCu locC fsC pinX (fun y c q z => ?_) (Nat.le_trans I2.sz (by rw [hC]; exact Nat.le_succ _)) (qn _ nD)
   obtain ⟨v, o, ho, _⟩ := I2.cell y c q
   exact (small c o ho).1 z
  ·refine thn (T.item (cxComp X scope cl G.objs.size (xs ++ fr) s2 H2 fp) rfl rfl rfl hc i _ s3 _ H3 _ I3 (fok fr3) st3 go) fun r s4 ⟨u, hr, h4⟩ => ?_
   subst hr
   refine thn h4 fun _ s5 ⟨v, H5, I5, r5, y5, st5, fr5⟩ => ?_
   have I5' := I5.pinned (fok fr5) (T.obj _ _ st5)
   refine wpAny_mono (hg cl G.objs.size s2 H2 fp _ s5 _ H5 v u _ I5' r5 (step v H5 y5 v0 hv0)) (fun _ s6 ⟨σ6, H6, I6, ⟨w1, hw1, e6⟩, q6⟩ => ?_) fun _ _ f => f.elim
   subst e6
   refine wpAny_mono ((hb cl G.objs.size s2 H2 fp).2 _ s6 _ H6 _ I6 q6) (fun b s7 ⟨H7, I7, q7⟩ => ?_) fun _ _ f => f.elim
   have back : ∀ {s8 : Shared} {H8 : Hp}, Inv (cxComp X scope cl G.objs.size (xs ++ fr) s2 H2 fp) ([(s2.heap.objs.size, lobj us n)] ++ pinsAt fp s5.heap) (w1 ++ blockSt σ js) H8 s8 → tn (i + 1) s8.heap ∧ ∀ b ∈ fp, H8 b = none := fun {s8 H8} I8 => by
    refine ⟨T.keep _ _ _ st5 fun b hb o e => (I8.pin (b, o) (List.mem_append_right _ (List.mem_append_right _ (mem_pinsAt hb e)))).1, fun b hb => ?_⟩
    obtain ⟨o, e, _⟩ := T.obj _ _ st5 b hb
    exact (I8.pin (b, o) (List.mem_append_right _ (List.mem_append_right _ (mem_pinsAt hb e)))).2.1
   cases b with
   | false =>
    obtain ⟨m', hm, w7⟩ := hN' _ _ q7
    obtain ⟨t7, n7⟩ := back I7
    exact ⟨m', hm, i + 1, ys, us, n, w1, H7, hw1, I7.unpinned, rv, hlen, t7, n7, w7⟩
   | true =>
    refine wpAny_mono ((hb cl G.objs.size s2 H2 fp).1 _ s7 _ H7 _ I7 q7) (fun y' s8 ⟨y, H8, I8, r8, q8⟩ => ?_) fun _ _ f => f.elim
    obtain ⟨m', hm, w8⟩ := hN' _ _ q8
    obtain ⟨t8, n8⟩ := back I8
    have I8' := I8.unpinned
    obtain ⟨pD, nD, _, _, _⟩ := I8'.pin (s2.heap.objs.size, lobj us n) (by show _ ∈ [] ++ [_]; simp)
    have pD : s8.heap.get? s2.heap.objs.size = some (lobj us n) := pD
    have nD : H8 s2.heap.objs.size = none := nD
    refine append_at pD (fun h9 hs9 e9 => ?_) (by rw [List.size_toArray, ← rv.length]; exact hlen)
    have e9 : h9.get? s2.heap.objs.size = some (lobj (us ++ [y']) (n + 1)) := by rw [e9]; simp [lobj]
    have J0 : Inv (cxComp X scope cl G.objs.size (xs ++ fr) s2 H2 fp) [] (w1 ++ blockSt σ js) H8 s8 := I8'.pins_of fun p hp => absurd hp (by simp)
    have J9 : Inv (cxComp X scope cl G.objs.size (xs ++ fr) s2 H2 fp) [] (w1 ++ blockSt σ js) H8 { s8 with heap := h9, toks := s8.toks } :=
     J0.turned (it := s2.heap.objs.size) (fun b o hb' e => hs9.extBut b o hb' e) nD hDC (.inr (Nat.le_refl _)) (fun y0 c q z => by
      obtain ⟨o, e⟩ := celo y0 c q
      exact (small c o e).2 z) fun p hp => absurd (show p ∈ ([] : List (Addr × Obj)) from hp) (by simp)
    refine ⟨m', hm, i + 1, ys ++ [y], us ++ [y'], n + 1, w1, H8, hw1, J9.pins_of fun p hp => ?_, rv.append (.cons r8 .nil), (by rw [List.length_append, List.length_singleton]; exact hlt), T.keep _ _ _ t8 fun b hb' o e => hs9.extBut b o (by
     obtain ⟨o', e'⟩ := fpo b hb'
     exact (small b o' e').2) e, n8, w8⟩
    have ep := List.mem_singleton.mp hp
    subst ep
    exact ⟨e9, nD, hDC, nofs, fun v z => by cases z⟩
 exact codeAny_compStart_list (loop _ ⟨_, rfl⟩) (T.self _ 0 _ _ _ (T.keep _ _ _ st2 fun b hb o e => old b o e) (loop _ ⟨_, rfl⟩))
theorem pe_compC {X : Cx} {CW : St → VK → It → Hp → Prop} {elt iter tg : Expr} {xs : List Str} {g : TG} {pos : Pos} {ifs : List Expr} {scope : Scope} {wi : TI} {te : TE} {tt : TT} {fr : List Str} {js : List Nat}
  (hc : X.calm = true) (hi : PI X tg iter wi)
  (hcell : ∀ y ∈ scope.names, y.2 ≠ .cell) (hkind : scope.kind = .function) (hnames : ∀ y ∈ scope.names, y.2 = .local → scope.names.lookup y.1 = some .local)
  (hfr : ∀ y ∈ scope.names, y.2 = .free → X.env.scope.names.lookup y.1 = some .cell) (hjs : js.map (fun j => X.N[j]?) = fr.map some) (hfv : ∀ y ∈ fr, scope.names.lookup y = some .free)
  (hg : ∀ cl C s' H' ex, PG (cxComp X scope cl C (xs ++ fr) s' H' ex) tg g)
  (hb : ∀ cl C s' H' ex, PE (cxComp X scope cl C (xs ++ fr) s' H' ex) elt te ∧ PTs (cxComp X scope cl C (xs ++ fr) s' H' ex) ifs tt)
  (hCW : ∀ σ Q J H1, CW σ Q J H1 → CompWT xs.length g js tt te σ Q J H1) (hs : ∀ z, foldedSetIterable iter X.env z = pure z := by intro _; rfl) :
  PE X (.ListComp elt [⟨tg, iter, ifs, 0⟩] scope pos) (fun σ H Q => wi σ H fun J H1 => CW σ Q J H1) := by
 intro pins s σ H Q I h
 rw [eval_ListComp]
 exact comp_core (use := none) (R := EP X pins σ Q) hc hi hcell hkind hnames hfr hjs hfv hg hb hCW I h (fun s4 H5 D C mC n I5 nC lC fC pC cC sC q => ⟨mC, n, fun h' hsb => ⟨.ref D, H5, I5.turned (t' := s4.toks) (it := C) (fun b o hb' e => hsb.extBut b o hb' e) nC lC (.inr sC) cC pC, rfl, q⟩⟩) hs
theorem compW_T {js : List Nat} {tt : TT} {te : TE} {σ : St} {Q : VK} {J : It} {H1 : Hp} (h : CompW js tt te σ Q J H1) : CompWT 1 (gName 0) js tt te σ Q J H1 := by
 obtain ⟨W, w0, turn⟩ := h
 refine ⟨W, w0, fun i m ys H2 hw => ?_⟩
 rcases turn i m ys H2 hw with h | ⟨h1, h2, N, h3, h4⟩
 ·exact .inl h
 ·refine .inr ⟨h1, h2, N, h3, fun x H3 hy v0 hv => ?_⟩
  obtain ⟨w, rfl⟩ : ∃ w, v0 = [w] := by
   obtain _ | ⟨w, v0⟩ := v0
   ·cases hv
   ·obtain _ | ⟨z, v0⟩ := v0
    ·exact ⟨w, rfl⟩
    ·cases hv
  exact ⟨⟨[some x], rfl, rfl⟩, h4 x H3 hy⟩
theorem pe_comp {X : Cx} {elt iter : Expr} {x : Str} {px pos : Pos} {ifs : List Expr} {scope : Scope} {wi : TI} {te : TE} {tt : TT} {fr : List Str} {js : List Nat}
  (hc : X.calm = true) (hi : PI X (.Name x px) iter wi)
  (hcell : ∀ y ∈ scope.names, y.2 ≠ .cell) (hkind : scope.kind = .function) (hnames : ∀ y ∈ scope.names, y.2 = .local → scope.names.lookup y.1 = some .local) (hx : scope.names.lookup x = some .local)
  (hfr : ∀ y ∈ scope.names, y.2 = .free → X.env.scope.names.lookup y.1 = some .cell) (hnd : (x :: fr).Nodup) (hjs : js.map (fun j => X.N[j]?) = fr.map some) (hfv : ∀ y ∈ fr, scope.names.lookup y = some .free)
  (hb : ∀ cl C s' H' ex, PE (cxComp X scope cl C (x :: fr) s' H' ex) elt te ∧ PTs (cxComp X scope cl C (x :: fr) s' H' ex) ifs tt)
  (hs : ∀ z, foldedSetIterable iter X.env z = pure z := by intro _; rfl) :
  PE X (.ListComp elt [⟨.Name x px, iter, ifs, 0⟩] scope pos) (tComp wi js tt te) :=
 pe_compC (xs := [x]) (g := gName 0) hc hi hcell hkind hnames hfr hjs hfv (fun _ _ _ _ _ => pg_name hnd rfl (.inl (lookup_relabel_local hx)) (.inr (lookup_relabel_local hx))) hb (fun _ _ _ _ h => compW_T h) hs
theorem comp_tup {K : PySem.W.Frag} {a : Addr} {xs : List V} {js : List Nat} {tt : TT} {te : TE} {σ : St} {H : Hp} {Q : VK} (Pv : Nat → List V → Hp → Prop) (h0 : Pv 0 [] H) (hl : ∀ i ys H, i ≤ xs.length → Pv i ys H → SqT K H a xs ∧ ys.length ≤ i) (hz : xs.length ≤ sizeLine)
  (hs : ∀ i x ys H, xs[i]? = some x → Pv i ys H → tt (some x :: blockSt σ js) H fun b H4 => if b = true then te (some x :: blockSt σ js) H4 fun y H5 => Pv (i + 1) (ys ++ [y]) H5 else Pv (i + 1) ys H4)
  (hd : ∀ ys H, Pv xs.length ys H → ∀ D, H D = none → Q (.ref D) (upd H D (.lst ys))) : CompW js tt te σ Q (Itt K a) H := by
 refine ⟨fun i m ys H => i ≤ xs.length ∧ m = xs.length - i ∧ Pv i ys H, ⟨_, Nat.zero_le _, rfl, h0⟩, fun i m ys H2 ⟨hi, hm, hp⟩ => ?_⟩
 obtain ⟨hq, hy⟩ := hl i ys H2 hi hp
 by_cases e : i = xs.length
 ·subst e
  exact .inl ⟨⟨xs, hq, Nat.le_refl _⟩, hd ys H2 hp⟩
 ·have hlt : i < xs.length := Nat.lt_of_le_of_ne hi e
  refine .inr ⟨⟨xs, _, hq, gE hlt⟩, by omega, Pv (i + 1), fun ys' H' hp' => ⟨xs.length - (i + 1), by omega, by omega, rfl, hp'⟩, fun x H3 hy3 => ?_⟩
  obtain ⟨e3, hx⟩ := hy3
  subst e3
  exact hs i x ys H3 (hx xs hq) hp
end L2
namespace L2
open PySem PySem.Spec PyProof.Rows
section
variable {prog : Program} {w : World} {A : Around} {E : Value → Shared → Prop} {s : Shared}
theorem nextT_item {j t : Addr} {i : Nat} {its} {v : Value} {Q : Value → Shared → Prop} (jt : s.heap.IsTupleIter j t i) (tt : s.heap.IsTuple t its) (hv : its[i]? = some v)
  (q : ∀ g, g.IsTupleIter j t (i + 1) → Heap.SameBut j s.heap g → Q v { s with heap := g }) : wpAny (model prog w) A (Builtin.SmallTypes.nextOf (.ref j)) Q E s := by
 obtain ⟨ob, e1, e2, e3⟩ := id jt
 obtain ⟨ot, g1, _, k, g2⟩ := tt
 unfold Builtin.SmallTypes.nextOf
 refine wpAny_bind (wpAny_callSpecial?_slot (name := Str.ofString "__next__") jt.typeIs F.slot_tuple_iterator_next (wpAny_call_entry F.slot_tuple_iterator_next jt.typeIs F.entry_tuple_iterator_next ?_ (F.args_tuple_iterator_next_1 _)))
 show wpAny _ _ (field (.ref j) 0 >>= _) _ _ s
 refine wpAny_bind (wpAny_field e1 e3 (x := .ref t) rfl ?_)
 show wpAny _ _ (ite ((Value.ref t == Value.none) = true) _ _) _ _ s
 rw [if_neg (fun z : (Value.ref t == Value.none) = true => Bool.false_ne_true z)]
 show wpAny _ _ (field (.ref j) 1 >>= _) _ _ s
 refine wpAny_bind (wpAny_field e1 e3 (x := .int i 0) rfl ?_)
 show wpAny _ _ (seqItems? (.ref t) >>= _) _ _ s
 refine wpAny_bind (wpAny_seqItems g1 g2 ?_)
 simp only [Int.toNat_natCast, hv]
 refine wpAny_bind (wpAny_setField e1 e3 (by simp) (wpAny_pure ⟨v, rfl, wpAny_pure (q _ ?_ (Heap.SameBut.update ..))⟩))
 exact ⟨_, Heap.get?_update_self _ e1 (Obj.isFreed_of_fields (Obj.data_mapFields e3 _)), (Obj.cls_mapFields ..).trans e2, by rw [Obj.data_mapFields e3]; simp [rawInt]⟩
theorem nextT_end {j t : Addr} {i : Nat} {its} {Q : Value → Shared → Prop} (hh : A.handled = none) (jt : s.heap.IsTupleIter j t i) (tt : s.heap.IsTuple t its) (hv : its[i]? = none)
  (q : ∀ g x, Heap.ExtBut j s.heap g → (∃ o, g.get? x = some o ∧ o.cls = .type "StopIteration") → E (.ref x) { s with heap := g }) : wpAny (model prog w) A (Builtin.SmallTypes.nextOf (.ref j)) Q E s := by
 obtain ⟨ob, e1, e2, e3⟩ := id jt
 obtain ⟨ot, g1, _, k, g2⟩ := tt
 unfold Builtin.SmallTypes.nextOf
 refine wpAny_bind (wpAny_callSpecial?_slot (name := Str.ofString "__next__") jt.typeIs F.slot_tuple_iterator_next (wpAny_call_entry F.slot_tuple_iterator_next jt.typeIs F.entry_tuple_iterator_next ?_ (F.args_tuple_iterator_next_1 _)))
 show wpAny _ _ (field (.ref j) 0 >>= _) _ _ s
 refine wpAny_bind (wpAny_field e1 e3 (x := .ref t) rfl ?_)
 show wpAny _ _ (ite ((Value.ref t == Value.none) = true) _ _) _ _ s
 rw [if_neg (fun z : (Value.ref t == Value.none) = true => Bool.false_ne_true z)]
 show wpAny _ _ (field (.ref j) 1 >>= _) _ _ s
 refine wpAny_bind (wpAny_field e1 e3 (x := .int i 0) rfl ?_)
 show wpAny _ _ (seqItems? (.ref t) >>= _) _ _ s
 refine wpAny_bind (wpAny_seqItems g1 g2 ?_)
 simp only [Int.toNat_natCast, hv]
 refine wpAny_bind (wpAny_rule (wpAny_bind (wpAny_setField e1 e3 (by simp) ?_)))
 show wpAny _ _ (newExc (.type "StopIteration") [] >>= _) _ _ _
 refine wpAny_bind ?_
 simp only [newExc, newTuple]
 refine wpAny_bind (wpAny_newObj_type ?_ (by size_fits))
 refine wpAny_bind (m := firstArgMember _ _) (wpAny_of_eq (a := Value.none) (by first | rfl | (unfold firstArgMember; rfl)) ?_)
 refine wpAny_newObj_type ?_ (by size_fits)
 simp only [raiseNew]
 refine wpAny_bind (wpAny_handled ?_)
 first | rw [show A.in1.handled = none from hh] | rw [hh]
 exact wpAny_bind (wpAny_pure (wpAny_throw (q _ _ (((Heap.SameBut.update ..).extBut.push _).push _) ⟨_, Heap.get?_push_size _ rfl, rfl⟩)))
structure ZAp (z TI TO i1 i2 a b : Addr) : Prop where
 p1 : TI ≠ z
 p2 : TO ≠ z
 p3 : i1 ≠ z
 p4 : i2 ≠ z
 p5 : TI ≠ TO
 p6 : TI ≠ i1
 p7 : TI ≠ i2
 p8 : TO ≠ i1
 p9 : TO ≠ i2
 p10 : i1 ≠ i2
 a1 : a ≠ z
 a2 : a ≠ TO
 a3 : a ≠ i1
 a4 : a ≠ i2
 b1 : b ≠ z
 b2 : b ≠ TO
 b3 : b ≠ i1
 b4 : b ≠ i2
end
section
open AutoSeq1 (wpAny_loadPart')
end
end L2
namespace L2
open PySem PySem.Spec PyProof.Rows
section
variable {X : Cx}
structure Z5 (z TI TO i1 i2 : Addr) : Prop where
 p1 : TI ≠ z
 p2 : TO ≠ z
 p3 : i1 ≠ z
 p4 : i2 ≠ z
 p5 : TI ≠ TO
 p6 : TI ≠ i1
 p7 : TI ≠ i2
 p8 : TO ≠ i1
 p9 : TO ≠ i2
 p10 : i1 ≠ i2
theorem Inv.turnAll {pins : List (Addr × Obj)} {σ : St} {H H' : Hp} {s : Shared} {g : Heap} {ch : List Addr} (I : Inv X pins σ H s) (hf : ∀ b ∈ ch, FpOk X pins H b)
  (k : ∀ b o, b ∉ ch → s.heap.get? b = some o → g.get? b = some o) (hH : ∀ b u, H b = some u → H' b = some u) (hN : ∀ b o, s.heap.get? b = some o → H b = none → H' b = none) (hok : HOk X.prog X.w H' g) : Inv X pins σ H' { s with heap := g } := by
 refine I.step (g' := s.gens) (d' := s.drawn) (t' := s.toks) (ch := ch) (fun b hb => ?_) (fun b o _ _ hc e _ => k b o hc e) (fun b o _ _ hc e _ => ⟨o.slots, k b o hc e⟩) (fun b o _ e n => hN b o e n)
  (fun b o hc e => ⟨o, k b o hc e⟩) (fun b xs e => hH b _ e) (fun b o u e => hH b _ e) (fun b ps e => ⟨#[], by rw [hH b _ e]; simp⟩) (fun m hm => ?_) hok I.bare
 ·obtain ⟨_, f1, _, f3, f4, f5⟩ := hf b hb
  exact ⟨f3, f1, f4, f5⟩
 ·obtain ⟨o, es, ep, ho, r⟩ := hm
  exact ⟨o, es, ep, k _ o (fun hb => (hf _ hb).2.1 rfl) ho, r⟩
end
end L2
namespace L2
open PySem PySem.Spec PyProof.Rows
theorem Same.put {H H1 : Hp} (e : Same H H1) {p : Addr} {o : HO} (h : H1 p = none) : Same H (upd H1 p o) := fun b u q => by rw [upd_ne (ne_of_none (e b u q) h)]; exact e b u q
section
variable {X : Cx} {pins : List (Addr × Obj)} {σ : St} {H : Hp} {s : Shared} {pos : Pos}
theorem Inv.big (I : Inv X pins σ H s) : sysModules < s.heap.objs.size := by
 have h : mainGlobals < s.heap.objs.size := (I.mod.glob.keeps I.bk).lt
 exact Nat.lt_trans (by decide) h
theorem dk_empty {P : Program} {w : World} {H : Hp} (h : Heap) (hb : sysModules < h.objs.size) : ObjOk P w H (h.push { cls := .type "dict", data := .dict #[] }) h.objs.size (.dK []) :=
 ⟨Nat.zero_le _, beq_eq_false_iff_ne.mpr (Ne.symm (Nat.ne_of_lt hb)), [], .nil, Heap.DictOf.new h⟩
end
end L2
namespace L2
open PySem PySem.Spec PyProof.Rows
section
variable {X : Cx}
theorem PE.imp {e : Expr} {t t' : TE} (h : PE X e t) (i : ∀ σ H Q, t' σ H Q → t σ H Q) : PE X e t' := fun pins s σ H Q I q => h pins s σ H Q I (i σ H Q q)
theorem OpR.imp {f : Value → Value → Sem Value} {r r' : R2} (h : OpR X f r) (i : ∀ x y H Q, r' x y H Q → r x y H Q) : OpR X f r' := fun pins s σ H x y v u Q I rx ry q => h pins s σ H x y v u Q I rx ry (i x y H Q q)
theorem CallR.imp {f : Value} {r r' : List V → Hp → VK → Prop} (h : CallR X f r) (i : ∀ xs H Q, r' xs H Q → r xs H Q) : CallR X f r' := fun pins s σ H xs us Q I rv q => h pins s σ H xs us Q I rv (i xs H Q q)
theorem SlR.imp {r r' : V → Option Int → Option Int → Hp → VK → Prop} (h : SlR X r) (i : ∀ x lo hi H Q, r' x lo hi H Q → r x lo hi H Q) : SlR X r' := fun pins s σ H x v vl vu lo hi sl Q I rx hs pl pu q => h pins s σ H x v vl vu lo hi sl Q I rx hs pl pu (i x lo hi H Q q)
def tACut (t : TA) : TA := fun σ H R => ∃ R' : List V → Hp → Prop, (∀ xs H, R' xs H → R xs H) ∧ t σ H R'
theorem PA.cut {es : List Expr} {t : TA} (h : PA X es t) : PA X es (tACut t) := fun pos pins s σ H Q I ⟨R', i, q⟩ =>
 thn (h pos pins s σ H R' I q) fun us s' ⟨vs, H', I', rv, q'⟩ => ⟨vs, H', I', rv, i _ _ q'⟩
def New (H : Hp) (o : HO) (Q : VK) : Prop := ∀ p H', Same H H' → H' p = some o → Q (.ref p) H'
theorem New.of {H : Hp} {o : HO} {Q : VK} (h : New H o Q) : ∀ p, H p = none → Q (.ref p) (upd H p o) := fun p hp => h p _ (Same.put (Same.refl H) hp) upd_same
def tTupA (t : TA) : TE := fun σ H Q => t σ H fun xs H1 => xs.length ≤ sizeLine ∧ New H1 (.tup xs) Q
def tLstA (t : TA) : TE := fun σ H Q => t σ H fun xs H1 => xs.length ≤ sizeLine ∧ New H1 (.lst xs) Q
theorem pe_tupA {es : List Expr} {t : TA} {x1} {pos : Pos} (h : PA X es t) : PE X (.Tuple es x1 pos) (tTupA t) := (pe_tup h.cut).imp fun _ _ _ q => ⟨_, fun _ _ z => ⟨z.1, z.2.of⟩, q⟩
theorem pe_lstA {es : List Expr} {t : TA} {pos : Pos} (h : PA X es t) : PE X (.List es pos) (tLstA t) := (pe_lst h.cut).imp fun _ _ _ q => ⟨_, fun _ _ z => ⟨z.1, z.2.of⟩, q⟩
theorem op_catL : OpR X (binaryOp .Add) (fun x y H Q => ∃ l b xs zs, x = .ref l ∧ y = .ref b ∧ H l = some (.lst xs) ∧ H b = some (.lst zs) ∧ xs.length + zs.length ≤ sizeLine ∧ New H (.lst (xs ++ zs)) Q) :=
 op_cat.imp fun _ _ _ _ ⟨l, b, xs, zs, e1, e2, e3, e4, e5, q⟩ => ⟨l, b, xs, zs, e1, e2, e3, e4, e5, q.of⟩
end
end L2
namespace L2
open PySem PySem.Spec PyProof.Rows
inductive Dt where
 | non | bl (b : Bool) | int (i : Int) | str (x : Str) | tup (ds : List Dt) | oth (T : String)
mutual
inductive IsD (H : Hp) : V → Dt → Prop where
 | non : IsD H .non .non
 | bl (b : Bool) : IsD H (.bl b) (.bl b)
 | int (i : Int) : IsD H (.int i) (.int i)
 | str (x : Str) : IsD H (.str x) (.str x)
 | tup {a : Addr} {xs : List V} {ds : List Dt} (h : H a = some (.tup xs)) (r : IsDs H xs ds) : IsD H (.ref a) (.tup ds)
 | lst {a : Addr} {xs : List V} (h : H a = some (.lst xs)) : IsD H (.ref a) (.oth "list")
 | dct {a : Addr} {kvs : List (Key × V)} (h : H a = some (.dK kvs)) : IsD H (.ref a) (.oth "dict")
inductive IsDs (H : Hp) : List V → List Dt → Prop where
 | nil : IsDs H [] []
 | cons {x : V} {d : Dt} {xs : List V} {ds : List Dt} (h : IsD H x d) (r : IsDs H xs ds) : IsDs H (x :: xs) (d :: ds)
end
mutual
theorem IsD.same {H H' : Hp} (e : Same H H') : ∀ {v : V} {d : Dt}, IsD H v d → IsD H' v d
 | _, _, .non => .non
 | _, _, .bl b => .bl b
 | _, _, .int i => .int i
 | _, _, .str x => .str x
 | _, _, .tup h r => .tup (e _ _ h) (IsDs.same e r)
 | _, _, .lst h => .lst (e _ _ h)
 | _, _, .dct h => .dct (e _ _ h)
theorem IsDs.same {H H' : Hp} (e : Same H H') : ∀ {vs : List V} {ds : List Dt}, IsDs H vs ds → IsDs H' vs ds
 | _, _, .nil => .nil
 | _, _, .cons h r => .cons (IsD.same e h) (IsDs.same e r)
end
mutual
theorem IsD.inj {H : Hp} : ∀ {v : V} {d e : Dt}, IsD H v d → IsD H v e → d = e
 | _, _, _, .non, .non => rfl
 | _, _, _, .bl _, .bl _ => rfl
 | _, _, _, .int _, .int _ => rfl
 | _, _, _, .str _, .str _ => rfl
 | _, _, _, .tup h r, q => by
  cases q with
  | tup h' r' => rw [h] at h'; cases h'; rw [IsDs.inj r r']
  | lst h' => rw [h] at h'; cases h'
  | dct h' => rw [h] at h'; cases h'
 | _, _, _, .lst h, q => by
  cases q with
  | tup h' r' => rw [h] at h'; cases h'
  | lst h' => rfl
  | dct h' => rw [h] at h'; cases h'
 | _, _, _, .dct h, q => by
  cases q with
  | tup h' r' => rw [h] at h'; cases h'
  | lst h' => rw [h] at h'; cases h'
  | dct h' => rfl
theorem IsDs.inj {H : Hp} : ∀ {vs : List V} {ds es : List Dt}, IsDs H vs ds → IsDs H vs es → ds = es
 | _, _, _, .nil, .nil => rfl
 | _, _, _, .cons h r, .cons h' r' => by rw [IsD.inj h h', IsDs.inj r r']
end
section
variable {H : Hp}
theorem IsDs.length : ∀ {xs : List V} {ds : List Dt}, IsDs H xs ds → xs.length = ds.length
 | _, _, .nil => rfl
 | _, _, .cons _ r => by rw [List.length_cons, List.length_cons, IsDs.length r]
theorem IsDs.get : ∀ {xs : List V} {ds : List Dt} {i : Nat} {x : V}, IsDs H xs ds → xs[i]? = some x → ∃ d, ds[i]? = some d ∧ IsD H x d
 | _, _, _, _, .nil, e => by simp at e
 | _, _, 0, _, .cons h _, e => by simp at e; subst e; exact ⟨_, rfl, h⟩
 | _, _, i + 1, x, .cons _ r, e => by
  obtain ⟨d, h1, h2⟩ := IsDs.get (i := i) (x := x) r (by simpa using e)
  exact ⟨d, by simpa using h1, h2⟩
theorem IsDs.at : ∀ {xs : List V} {ds : List Dt} {i : Nat} {d : Dt}, IsDs H xs ds → ds[i]? = some d → ∃ x, xs[i]? = some x ∧ IsD H x d
 | _, _, _, _, .nil, e => by simp at e
 | _, _, 0, _, .cons h _, e => by simp at e; subst e; exact ⟨_, rfl, h⟩
 | _, _, i + 1, d, .cons _ r, e => by
  obtain ⟨x, h1, h2⟩ := IsDs.at (i := i) (d := d) r (by simpa using e)
  exact ⟨x, by simpa using h1, h2⟩
theorem IsDs.append : ∀ {xs ys : List V} {ds es : List Dt}, IsDs H xs ds → IsDs H ys es → IsDs H (xs ++ ys) (ds ++ es)
 | _, _, _, _, .nil, s => s
 | _, _, _, _, .cons h r, s => .cons h (IsDs.append r s)
theorem IsDs.ints : ∀ (ns : List Int), IsDs H (ns.map V.int) (ns.map Dt.int)
 | [] => .nil
 | n :: r => .cons (.int n) (IsDs.ints r)
theorem IsDs.ints_of : ∀ {xs : List V} {ns : List Int}, IsDs H xs (ns.map Dt.int) → xs = ns.map V.int
 | _, [], .nil => rfl
 | _, n :: r, .cons h q => by cases h; rw [IsDs.ints_of q]; rfl
theorem IsD.tup_of {v : V} {ds : List Dt} (h : IsD H v (.tup ds)) : ∃ a xs, v = .ref a ∧ H a = some (.tup xs) ∧ IsDs H xs ds := by
 cases h with
 | tup h r => exact ⟨_, _, rfl, h, r⟩
theorem IsD.int_of {v : V} {i : Int} (h : IsD H v (.int i)) : v = .int i := by cases h; rfl
end
def Dt.ty : Dt → String
 | .non => "NoneType" | .bl _ => "bool" | .int _ => "int" | .str _ => "str" | .tup _ => "tuple" | .oth T => T
theorem IsD.tyn {H : Hp} {v : V} {d : Dt} (h : IsD H v d) : tyn H v = some d.ty := by
 cases h with
 | tup h r => simp only [L2.tyn]; rw [h]; rfl
 | lst h => simp only [L2.tyn]; rw [h]; rfl
 | dct h => simp only [L2.tyn]; rw [h]; rfl
 | _ => rfl
mutual
def eqD : Dt → Dt → Bool
 | .non, .non => true
 | .bl a, .bl b => a == b
 | .bl a, .int b => (if a then 1 else 0) == b
 | .int a, .bl b => a == (if b then 1 else 0)
 | .int a, .int b => a == b
 | .str a, .str b => a == b
 | .tup xs, .tup ys => eqDs xs ys
 | _, _ => false
def eqDs : List Dt → List Dt → Bool
 | [], [] => true
 | x :: xs, y :: ys => eqD x y && eqDs xs ys
 | _, _ => false
end
mutual
def pl : Dt → Bool
 | .oth _ => false
 | .tup ds => pls ds
 | _ => true
def pls : List Dt → Bool
 | [] => true
 | d :: ds => pl d && pls ds
end
mutual
def dep : Dt → Nat
 | .tup ds => deps ds + 1
 | _ => 0
def deps : List Dt → Nat
 | [] => 0
 | d :: ds => max (dep d) (deps ds)
end
mutual
theorem eqD_refl : ∀ d : Dt, pl d = true → eqD d d = true
 | .non, _ => by unfold eqD; rfl
 | .bl b, _ => by unfold eqD; exact beq_self_eq_true b
 | .int i, _ => by unfold eqD; exact beq_self_eq_true i
 | .str x, _ => by unfold eqD; exact beq_self_eq_true x
 | .tup ds, h => by
  unfold eqD
  unfold pl at h
  exact eqDs_refl ds h
 | .oth T, h => by unfold pl at h; cases h
theorem eqDs_refl : ∀ ds : List Dt, pls ds = true → eqDs ds ds = true
 | [], _ => by unfold eqDs; rfl
 | d :: ds, h => by
  unfold eqDs
  unfold pls at h
  rw [Bool.and_eq_true] at h
  rw [eqD_refl d h.1, eqDs_refl ds h.2]; rfl
end
theorem eqD_tup (xs ys : List Dt) : eqD (.tup xs) (.tup ys) = eqDs xs ys := by unfold eqD; rfl
theorem eqDs_all : ∀ (ds es : List Dt), eqDs ds es = ((List.range (min ds.length es.length)).all (fun j => eqD (ds.getD j .non) (es.getD j .non)) && ds.length == es.length)
 | [], [] => by unfold eqDs; rfl
 | [], e :: es => by unfold eqDs; simp
 | d :: ds, [] => by unfold eqDs; simp
 | d :: ds, e :: es => by
  unfold eqDs
  rw [eqDs_all ds es]
  rw [List.length_cons, List.length_cons]
  have h1 : min (ds.length + 1) (es.length + 1) = min ds.length es.length + 1 := by omega
  rw [h1, List.range_succ_eq_map, List.all_cons, List.all_map]
  have h2 : ((ds.length + 1) == (es.length + 1)) = (ds.length == es.length) := by rw [Bool.eq_iff_iff]; simp
  rw [h2, Bool.and_assoc]
  rfl
theorem pls_get : ∀ {ds : List Dt} {i : Nat} {d : Dt}, pls ds = true → ds[i]? = some d → pl d = true
 | [], _, _, _, e => by simp at e
 | d :: ds, 0, _, h, e => by
  unfold pls at h
  rw [Bool.and_eq_true] at h
  simp at e; subst e; exact h.1
 | d :: ds, i + 1, x, h, e => by
  unfold pls at h
  rw [Bool.and_eq_true] at h
  exact pls_get (i := i) h.2 (by simpa using e)
theorem deps_get : ∀ {ds : List Dt} {i : Nat} {d : Dt}, ds[i]? = some d → dep d ≤ deps ds
 | [], _, _, e => by simp at e
 | d :: ds, 0, _, e => by
  simp at e; subst e
  unfold deps
  exact Nat.le_max_left _ _
 | d :: ds, i + 1, x, e => by
  have := deps_get (ds := ds) (i := i) (d := x) (by simpa using e)
  unfold deps
  exact Nat.le_trans this (Nat.le_max_right _ _)
section
variable {X : Cx} {pins : List (Addr × Obj)} {σ : St} {H : Hp} {s : Shared}
theorem Inv.tupD {v : V} {ds : List Dt} {u : Value} (I : Inv X pins σ H s) (h : IsD H v (.tup ds)) (r : RelV v u) : ∃ a its, u = .ref a ∧ v = .ref a ∧ s.heap.IsTuple a its.toArray ∧ ∃ xs, Vals xs its ∧ IsDs H xs ds ∧ its.length = ds.length := by
 obtain ⟨a, xs, rfl, ha, hd⟩ := h.tup_of
 cases (show u = Value.ref a from r)
 obtain ⟨its, rv, p, _⟩ := I.tuple (SqT.of (K := X.K) ha)
 exact ⟨a, its, rfl, rfl, p, xs, rv, hd, by rw [← rv.length, hd.length]⟩
theorem eqAt_D : ∀ (n : Nat) {A : Around} {x y : V} {u v : Value} {d e : Dt}, dep d ≤ n → A.units + n < cLine → Inv X pins σ H s → IsD H x d → IsD H y e → RelV x u → RelV y v → pl d = true → pl e = true → SeqAt.EqAt A s u v (eqD d e) := by
 intro n
 induction n with
 | zero =>
  intro A x y u v d e hd hu I ix iy rx ry px py
  cases ix with
  | tup h r => unfold dep at hd; omega
  | lst h => unfold pl at px; cases px
  | dct h => unfold pl at px; cases px
  | non =>
   cases iy with
   | tup h' r' =>
    obtain ⟨a, its, rfl, _, hb, _⟩ := I.tupD (.tup h' r') ry
    cases rx
    exact SeqAt.EqAt.none_tuple hb (by omega)
   | lst h' => unfold pl at py; cases py
   | dct h' => unfold pl at py; cases py
   | non => exact eqAt_V rx ry rfl rfl
   | bl b => exact eqAt_V rx ry rfl rfl
   | int b => exact eqAt_V rx ry rfl rfl
   | str b => exact eqAt_V rx ry rfl rfl
  | bl b =>
   cases iy with
   | tup h' r' =>
    obtain ⟨a, its, rfl, _, hb, _⟩ := I.tupD (.tup h' r') ry
    cases rx
    exact SeqAt.EqAt.bool_tuple b hb (by omega)
   | lst h' => unfold pl at py; cases py
   | dct h' => unfold pl at py; cases py
   | non => exact eqAt_V rx ry rfl rfl
   | bl b => exact eqAt_V rx ry rfl rfl
   | int b => exact eqAt_V rx ry rfl rfl
   | str b => exact eqAt_V rx ry rfl rfl
  | int i =>
   cases iy with
   | tup h' r' =>
    obtain ⟨a, its, rfl, _, hb, _⟩ := I.tupD (.tup h' r') ry
    obtain ⟨t, rfl⟩ := rx
    exact SeqAt.EqAt.int_tuple i t hb (by omega)
   | lst h' => unfold pl at py; cases py
   | dct h' => unfold pl at py; cases py
   | non => exact eqAt_V rx ry rfl rfl
   | bl b => exact eqAt_V rx ry rfl rfl
   | int b => exact eqAt_V rx ry rfl rfl
   | str b => exact eqAt_V rx ry rfl rfl
  | str z =>
   cases iy with
   | tup h' r' =>
    obtain ⟨a, its, rfl, _, hb, _⟩ := I.tupD (.tup h' r') ry
    obtain ⟨t, rfl⟩ := rx
    exact SeqAt.EqAt.str_tuple z t hb (by omega)
   | lst h' => unfold pl at py; cases py
   | dct h' => unfold pl at py; cases py
   | non => exact eqAt_V rx ry rfl rfl
   | bl b => exact eqAt_V rx ry rfl rfl
   | int b => exact eqAt_V rx ry rfl rfl
   | str b => exact eqAt_V rx ry rfl rfl
 | succ n ih =>
  intro A x y u v d e hd hu I ix iy rx ry px py
  by_cases hz : dep d = 0
  ·
   cases ix with
   | tup h r => unfold dep at hz; omega
   | lst h => unfold pl at px; cases px
   | dct h => unfold pl at px; cases px
   | non => exact ih (by rw [hz]; exact Nat.zero_le _) (by omega) I .non iy rx ry px py
   | bl b => exact ih (by rw [hz]; exact Nat.zero_le _) (by omega) I (.bl b) iy rx ry px py
   | int i => exact ih (by rw [hz]; exact Nat.zero_le _) (by omega) I (.int i) iy rx ry px py
   | str z => exact ih (by rw [hz]; exact Nat.zero_le _) (by omega) I (.str z) iy rx ry px py
  ·cases ix with
   | lst h => unfold pl at px; cases px
   | dct h => unfold pl at px; cases px
   | non => exact absurd (by unfold dep; rfl) hz
   | bl b => exact absurd (by unfold dep; rfl) hz
   | int i => exact absurd (by unfold dep; rfl) hz
   | str z => exact absurd (by unfold dep; rfl) hz
   | tup h r =>
    rename_i a xs ds
    cases (show u = Value.ref a from rx)
    obtain ⟨its, rv, p, _⟩ := I.tuple (SqT.of (K := X.K) h)
    have p : s.heap.IsTuple a its.toArray := p
    cases iy with
    | lst h' => unfold pl at py; cases py
    | dct h' => unfold pl at py; cases py
    | non => cases ry; exact SeqAt.EqAt.tuple_none p (by omega)
    | bl b => cases ry; exact SeqAt.EqAt.tuple_bool b p (by omega)
    | int b => obtain ⟨t, rfl⟩ := ry; exact SeqAt.EqAt.tuple_int b t p (by omega)
    | str b => obtain ⟨t, rfl⟩ := ry; exact SeqAt.EqAt.tuple_str b t p (by omega)
    | tup h' r' =>
     rename_i b ys es
     cases (show v = Value.ref b from ry)
     by_cases hab : a = b
     ·subst hab
      have e1 : Dt.tup ds = Dt.tup es := IsD.inj (.tup h r) (.tup h' r')
      rw [e1]
      rw [eqD_refl _ py]
      exact SeqAt.EqAt.same _
     ·obtain ⟨its2, rv2, p2, _⟩ := I.tuple (SqT.of (K := X.K) h')
      have p2 : s.heap.IsTuple b its2.toArray := p2
      have l1 : its.length = ds.length := by rw [← rv.length, r.length]
      have l2 : its2.length = es.length := by rw [← rv2.length, r'.length]
      have pd : pls ds = true := by unfold pl at px; exact px
      have pe : pls es = true := by unfold pl at py; exact py
      have hd' : deps ds ≤ n := by unfold dep at hd; omega
      have key := SeqAt.RcAt.tuples (A := A) (e := fun j => eqD (ds.getD j .non) (es.getD j .non)) p p2 (by omega) fun j h1 h2 => by
       have h1' : j < its.length := by simpa using h1
       have h2' : j < its2.length := by simpa using h2
       obtain ⟨x', ex, dx⟩ := r.at (i := j) (d := ds[j]'(by omega)) (gE (by omega))
       obtain ⟨y', ey, dy⟩ := r'.at (i := j) (d := es[j]'(by omega)) (gE (by omega))
       obtain ⟨u', eu, ru⟩ := rv.get ex
       obtain ⟨v', ev, rw'⟩ := rv2.get ey
       have eu' : its[j] = u' := by rw [gE h1'] at eu; exact Option.some.inj eu
       have ev' : its2[j] = v' := by rw [gE h2'] at ev; exact Option.some.inj ev
       have g1 : ds.getD j .non = ds[j]'(by omega) := by rw [List.getD_eq_getElem?_getD, gE (by omega)]; rfl
       have g2 : es.getD j .non = es[j]'(by omega) := by rw [List.getD_eq_getElem?_getD, gE (by omega)]; rfl
       show SeqAt.EqAt A.in1 s (its.toArray[j]) (its2.toArray[j]) (eqD (ds.getD j .non) (es.getD j .non))
       rw [List.getElem_toArray, List.getElem_toArray, eu', ev', g1, g2]
       exact ih (Nat.le_trans (deps_get (gE (by omega))) hd') (by show A.units + 1 + n < cLine; omega) I dx dy ru rw' (pls_get pd (gE (by omega))) (pls_get pe (gE (by omega)))
      have e2 : eqD (.tup ds) (.tup es) = ((List.range (min its.toArray.size its2.toArray.size)).all (fun j => eqD (ds.getD j .non) (es.getD j .non)) && its.toArray.size == its2.toArray.size) := by
       rw [eqD_tup, eqDs_all, List.size_toArray, List.size_toArray, l1, l2]
      rw [e2]
      exact SeqAt.EqAt.of_refs hab key
theorem op_eqD (hu : X.A.units + 64 < cLine) : OpR X (compareOp .Eq) (fun x y H Q => ∃ ds es, IsD H x (.tup ds) ∧ IsD H y (.tup es) ∧ pls ds = true ∧ pls es = true ∧ deps ds < 60 ∧ Q (.bl (eqDs ds es)) H) := by
 intro pins s σ H x y v u Q I rx ry h
 obtain ⟨ds, es, ix, iy, pd, pe, hd, q⟩ := h
 obtain ⟨a, xs, rfl, ha, r⟩ := ix.tup_of
 obtain ⟨b, ys, rfl, hb, r'⟩ := iy.tup_of
 cases (show v = Value.ref a from rx)
 cases (show u = Value.ref b from ry)
 obtain ⟨its, rv, p, _⟩ := I.tuple (SqT.of (K := X.K) ha)
 obtain ⟨its2, rv2, p2, _⟩ := I.tuple (SqT.of (K := X.K) hb)
 have p : s.heap.IsTuple a its.toArray := p
 have p2 : s.heap.IsTuple b its2.toArray := p2
 have l1 : its.length = ds.length := by rw [← rv.length, r.length]
 have l2 : its2.length = es.length := by rw [← rv2.length, r'.length]
 refine SeqAt.eq_tupleAt (e := fun j => eqD (ds.getD j .non) (es.getD j .non)) p p2 (by omega) (fun j h1 h2 => ?_) (fin_bl I q ?_)
 ·have h1' : j < its.length := by simpa using h1
  have h2' : j < its2.length := by simpa using h2
  obtain ⟨x', ex, dx⟩ := r.at (i := j) (d := ds[j]'(by omega)) (gE (by omega))
  obtain ⟨y', ey, dy⟩ := r'.at (i := j) (d := es[j]'(by omega)) (gE (by omega))
  obtain ⟨u', eu, ru⟩ := rv.get ex
  obtain ⟨v', ev, rw'⟩ := rv2.get ey
  have eu' : its[j] = u' := by rw [gE h1'] at eu; exact Option.some.inj eu
  have ev' : its2[j] = v' := by rw [gE h2'] at ev; exact Option.some.inj ev
  have g1 : ds.getD j .non = ds[j]'(by omega) := by rw [List.getD_eq_getElem?_getD, gE (by omega)]; rfl
  have g2 : es.getD j .non = es[j]'(by omega) := by rw [List.getD_eq_getElem?_getD, gE (by omega)]; rfl
  show SeqAt.EqAt X.A.in1 s (its.toArray[j]) (its2.toArray[j]) (eqD (ds.getD j .non) (es.getD j .non))
  rw [List.getElem_toArray, List.getElem_toArray, eu', ev', g1, g2]
  exact eqAt_D 60 (Nat.le_trans (deps_get (gE (by omega))) (by omega)) (by show X.A.units + 1 + 60 < cLine; omega) I dx dy ru rw' (pls_get pd (gE (by omega))) (pls_get pe (gE (by omega)))
 ·rw [eqDs_all, List.size_toArray, List.size_toArray, l1, l2]
end
end L2
namespace L2
open PySem PySem.Spec PyProof.Rows
section
variable {X : Cx}
theorem call_tupA : CallR X (.type "tuple") (fun xs H Q => ∃ p ys, xs = [.ref p] ∧ SqL X.K H p ys ∧ New H (.tup ys) Q) :=
 call_tuple_of.imp fun _ _ _ ⟨p, ys, e, h, q⟩ => ⟨p, ys, e, .inl ⟨h, q.of⟩⟩
theorem sl_listA : SlR X (fun x lo hi H Q => ∃ a xs, x = .ref a ∧ SqL X.K H a xs ∧ New H (.lst (cutV xs lo hi)) Q) :=
 sl_list.imp fun _ _ _ _ _ ⟨a, xs, e, h, q⟩ => ⟨a, xs, e, h, q.of⟩
theorem kit_str (K : PySem.W.Frag) {T : String} (h : T ∈ ["NoneType", "bool", "int", "str", "list", "tuple", "dict"]) : PySem.W.kitOne K (.type T) (.type "str") = some (T == "str") := by
 simp only [List.mem_cons, List.not_mem_nil, or_false] at h
 rcases h with rfl | rfl | rfl | rfl | rfl | rfl | rfl <;> kernel_rfl
theorem call_isStr : CallR X (.builtin "isinstance") (fun xs H Q => ∃ x T, xs = [x, .ty "str"] ∧ tyn H x = some T ∧ Q (.bl (T == "str")) H) :=
 fun pins s σ H xs us Q I r ⟨x, T, e, hT, q⟩ => call_isinst pins s σ H xs us Q I r ⟨x, _, _, _, e, .byName hT, kit_str _ (tyn_mem hT), q⟩
end
theorem comp_range {lo : Int} {n : Nat} {js : List Nat} {tt : TT} {te : TE} {σ : St} {H : Hp} {Q : VK} (Pv : Nat → List V → Hp → Prop) (h0 : Pv 0 [] H) (hl : ∀ i ys H, i ≤ n → Pv i ys H → ys.length ≤ i) (hz : n ≤ sizeLine)
  (hs : ∀ (i : Nat) ys H, i < n → Pv i ys H → tt (some (.int (lo + i)) :: blockSt σ js) H fun b H4 => if b = true then te (some (.int (lo + i)) :: blockSt σ js) H4 fun y H5 => Pv (i + 1) (ys ++ [y]) H5 else Pv (i + 1) ys H4)
  (hd : ∀ ys H, Pv n ys H → ∀ D, H D = none → Q (.ref D) (upd H D (.lst ys))) : CompW js tt te σ Q (Itr lo n) H := by
 refine ⟨fun i m ys H => i ≤ n ∧ m = n - i ∧ Pv i ys H, ⟨_, Nat.zero_le _, rfl, h0⟩, fun i m ys H2 ⟨hi, hm, hp⟩ => ?_⟩
 have hy := hl i ys H2 hi hp
 by_cases e : i = n
 ·subst e
  exact .inl ⟨Nat.le_refl _, hd ys H2 hp⟩
 ·have hlt : i < n := Nat.lt_of_le_of_ne hi e
  refine .inr ⟨hlt, by omega, Pv (i + 1), fun ys' H' hp' => ⟨n - (i + 1), by omega, by omega, rfl, hp'⟩, fun x H3 hy3 => ?_⟩
  obtain ⟨e3, hx⟩ := hy3
  subst e3 hx
  exact hs i ys H3 hlt hp
end L2
namespace L2
open PySem PySem.Spec PyProof.Rows
section
variable {prog : Program} {w : World} {A : Around} {E : Value → Shared → Prop} {s : Shared}
theorem enumT_step {z i1 a : Addr} {k : Nat} {xs : Array Value} {x was : Value} {Q : Value → Shared → Prop} (E0 : IsEnum s.heap z i1 k was) (J0 : s.heap.IsTupleIter i1 a k) (T0 : s.heap.IsTuple a xs) (hx : xs[k]? = some x) (hzi : z ≠ i1)
  (q : ∀ g, IsEnumOut g z i1 ((k : Int) + 1) x s.heap.objs.size → g.IsTupleIter i1 a (k + 1) → g.get? s.heap.objs.size = some { cls := .type "tuple", data := .seq #[.int k s.toks, x] } → g.objs.size = s.heap.objs.size + 1 →
   (∀ c o, c ≠ z → c ≠ i1 → s.heap.get? c = some o → g.get? c = some o) → Q (.ref s.heap.objs.size) { s with heap := g, toks := s.toks + 1 }) :
  wpAny (model prog w) A (Builtin.«enumerate.__next__» ⟨[.ref z], []⟩) (fun fin s' => ∃ v, fin = .done (.ret v) ∧ Q v s') E s := by
 obtain ⟨h0, gs, dr, tk, os⟩ := s
 show wpAny _ _ (field (.ref z) 2 >>= _) _ _ _
 refine wpAny_bind (wpAny_field E0 rfl (x := .ref i1) rfl ?_)
 refine wpAny_bind (nextT_item J0 T0 hx fun g1 J1 s1 => ?_)
 have s1 : Heap.SameBut i1 h0 g1 := s1
 have E1 : IsEnum g1 z i1 k was := (s1.2 z hzi).trans E0
 show wpAny _ _ (field (.ref z) 3 >>= _) _ _ ⟨g1, gs, dr, tk, os⟩
 refine wpAny_bind (wpAny_field E1 rfl (x := rawInt k) rfl ?_)
 show wpAny _ _ (field (.ref z) 4 >>= _) _ _ ⟨g1, gs, dr, tk, os⟩
 refine wpAny_bind (wpAny_field E1 rfl (x := .none) rfl ?_)
 show wpAny _ _ (mkInt k >>= _) _ _ ⟨g1, gs, dr, tk, os⟩
 refine wpAny_bind (wpAny_mkInt ?_)
 show wpAny _ _ (setField (.ref z) 3 (rawInt ((k : Int) + 1)) >>= _) _ _ ⟨g1, gs, dr, tk + 1, os⟩
 refine wpAny_bind (wpAny_setField_rec E1 (by simp) fun g2 E2 s2 => ?_)
 have s2 : Heap.SameBut z g1 g2 := s2
 have E2 : IsEnum g2 z i1 ((k : Int) + 1) was := E2
 show wpAny _ _ (setField (.ref z) 4 .none >>= _) _ _ ⟨g2, gs, dr, tk + 1, os⟩
 refine wpAny_bind (wpAny_setField_rec E2 (by simp) fun g3 E3 s3 => ?_)
 have s3 : Heap.SameBut z g2 g3 := s3
 have E3 : IsEnum g3 z i1 ((k : Int) + 1) was := E3
 show wpAny _ _ (newTuple [.int k tk, x] >>= _) _ _ ⟨g3, gs, dr, tk + 1, os⟩
 refine wpAny_bind (wpAny_newTuple ?_)
 have E4 : IsEnum (g3.push { cls := .type "tuple", data := .seq #[.int k tk, x] }) z i1 ((k : Int) + 1) was := Heap.get?_push_of_some _ E3
 have z3 : g3.objs.size = h0.objs.size := by rw [s3.1, s2.1, s1.1]
 have J4 : (g3.push { cls := .type "tuple", data := .seq #[.int k tk, x] }).IsTupleIter i1 a (k + 1) := by
  obtain ⟨o, e, r⟩ := (J1.extBut s2.extBut hzi.symm).extBut s3.extBut hzi.symm
  exact ⟨o, Heap.get?_push_of_some _ e, r⟩
 have T4 : (g3.push { cls := .type "tuple", data := .seq #[.int k tk, x] }).get? h0.objs.size = some { cls := .type "tuple", data := .seq #[.int k tk, x] } := by rw [← z3]; exact Heap.get?_push_size _ rfl
 have z4 : (g3.push { cls := .type "tuple", data := .seq #[.int k tk, x] }).objs.size = h0.objs.size + 1 := by rw [Heap.size_push, z3]
 have k4 : ∀ c o, c ≠ z → c ≠ i1 → h0.get? c = some o → (g3.push { cls := .type "tuple", data := .seq #[.int k tk, x] }).get? c = some o := fun c o c1 c2 e => Heap.get?_push_of_some _ (s3.extBut c o c1 (s2.extBut c o c1 (s1.extBut c o c2 e)))
 have zlt : z < h0.objs.size := Heap.lt_size E0
 generalize g3.push { cls := .type "tuple", data := .seq #[.int k tk, x] } = g4 at E4 J4 T4 z4 k4
 rw [z3]
 show wpAny _ _ (Builtin.SmallTypes.ownedTupleIsFree (.ref z) >>= _) _ _ ⟨g4, gs, dr, tk + 1, os⟩
 refine wpAny_bind ?_
 unfold Builtin.SmallTypes.ownedTupleIsFree
 refine wpAny_bind (wpAny_field E4 rfl (x := .none) rfl (wpAny_pure ?_))
 simp only [if_true]
 refine wpAny_bind (wpAny_rule ?_)
 refine wpAny_bind (wpAny_field E4 rfl (x := was) rfl ?_)
 refine wpAny_bind (wpAny_setField_rec E4 (by simp) fun g5 E5 s5 => ?_)
 have s5 : Heap.SameBut z g4 g5 := s5
 have E5 : IsEnum g5 z i1 ((k : Int) + 1) x := E5
 show wpAny _ _ (Builtin.SmallTypes.ownedTupleHandOut (.ref z) (.ref h0.objs.size) >>= _) _ _ ⟨g5, gs, dr, tk + 1, os⟩
 refine wpAny_bind ?_
 unfold Builtin.SmallTypes.ownedTupleHandOut
 refine wpAny_bind (wpAny_setField_rec E5 (by simp) fun g6 E6 s6 => ?_)
 have s6 : Heap.SameBut z g5 g6 := s6
 have E6 : IsEnumOut g6 z i1 ((k : Int) + 1) x h0.objs.size := E6
 refine wpAny_setField_rec E6 (by simp) fun g7 E7 s7 => ?_
 have s7 : Heap.SameBut z g6 g7 := s7
 have E7 : IsEnumOut g7 z i1 ((k : Int) + 1) x h0.objs.size := E7
 have up : ∀ c o, c ≠ z → g4.get? c = some o → g7.get? c = some o := fun c o c1 e => s7.extBut c o c1 (s6.extBut c o c1 (s5.extBut c o c1 e))
 refine wpAny_bind (wpAny_letGo (wpAny_pure ⟨_, rfl, q g7 E7 ?_ (up _ _ (Nat.ne_of_gt zlt) T4) (by rw [s7.1, s6.1, s5.1, z4]) fun c o c1 c2 e => up c o c1 (k4 c o c1 c2 e)⟩))
 obtain ⟨o, e, r⟩ := J4
 exact ⟨o, up _ o hzi.symm e, r⟩
theorem enumT_item {z i1 a : Addr} {k : Nat} {xs : Array Value} {x was : Value} {Q : Option Value → Shared → Prop} (E0 : IsEnum s.heap z i1 k was) (J0 : s.heap.IsTupleIter i1 a k) (T0 : s.heap.IsTuple a xs) (hx : xs[k]? = some x) (hzi : z ≠ i1)
  (q : ∀ g, IsEnumOut g z i1 ((k : Int) + 1) x s.heap.objs.size → g.IsTupleIter i1 a (k + 1) → g.get? s.heap.objs.size = some { cls := .type "tuple", data := .seq #[.int k s.toks, x] } → g.objs.size = s.heap.objs.size + 1 →
   (∀ c o, c ≠ z → c ≠ i1 → s.heap.get? c = some o → g.get? c = some o) → Q (some (.ref s.heap.objs.size)) { s with heap := g, toks := s.toks + 1 }) : wpAny (model prog w) A (pyNext (.ref z)) Q E s := by
 have ht : s.TypeIs (.ref z) "enumerate" := ⟨_, E0, rfl⟩
 unfold pyNext
 refine wpAny_bind (wpAny_attempt (wpAny_callSpecial?_slot (name := Str.ofString "__next__") ht F.slot_enumerate_next (wpAny_call_entry F.slot_enumerate_next ht F.entry_enumerate_next ?_ (F.args_enumerate_next_1 _))))
 exact enumT_step E0 J0 T0 hx hzi fun g e1 e2 e3 e4 e5 => wpAny_pure (q g e1 e2 e3 e4 e5)
theorem enumT_end {z i1 a : Addr} {k : Nat} {xs : Array Value} {was : Value} {Q : Option Value → Shared → Prop} (hh : A.handled = none) (E0 : IsEnum s.heap z i1 k was) (J0 : s.heap.IsTupleIter i1 a k) (T0 : s.heap.IsTuple a xs) (hx : xs[k]? = none)
  (q : ∀ g, Heap.ExtBut i1 s.heap g → Q none { s with heap := g }) : wpAny (model prog w) A (pyNext (.ref z)) Q E s := by
 have ht : s.TypeIs (.ref z) "enumerate" := ⟨_, E0, rfl⟩
 unfold pyNext
 refine wpAny_bind (wpAny_attempt (wpAny_callSpecial?_slot (name := Str.ofString "__next__") ht F.slot_enumerate_next (wpAny_call_entry F.slot_enumerate_next ht F.entry_enumerate_next ?_ (F.args_enumerate_next_1 _))))
 show wpAny _ _ (field (.ref z) 2 >>= _) _ _ _
 refine wpAny_bind (wpAny_field E0 rfl (x := .ref i1) rfl ?_)
 refine wpAny_bind (nextT_end hh J0 T0 hx fun g x kp hxx => ?_)
 obtain ⟨o, e1, e2⟩ := hxx
 refine wpAny_bind (wpAny_isInstance (T := "StopIteration") (b := true) ⟨o, e1, e2⟩ isSubtype_stop ?_)
 exact wpAny_pure (q _ kp)
end
section
open AutoSeq1 (wpAny_loadPart')
theorem enumT_new (a : Addr) (xs : Array Value) :
  Meets (Builtin.«enumerate.__new__» ⟨[.type "enumerate", .ref a], []⟩) (fun _ R s => s.heap.IsTuple a xs ∧
   R (.ok (.ret (.ref (s.heap.push { cls := .type "tuple_iterator", data := .fields #[.ref a, .int 0 0] }).objs.size)))
    {s with heap := (s.heap.push { cls := .type "tuple_iterator", data := .fields #[.ref a, .int 0 0] }).push { cls := .type "enumerate", data := .fields #[.none, .bool false, .ref s.heap.objs.size, rawInt 0, .none, .none] } }) :=
 .of_wp fun prog w A R s h => by
  obtain ⟨hp, g, d, tk, os⟩ := s
  obtain ⟨h1, h⟩ := h
  have subE := sub_enumerate
  have k1 : Heap.IsTuple (Shared.heap ⟨hp, g, d, tk, os⟩) a xs := h1
  wp_walk using wpAny_pyIter_tuple k1
  refine wpAny_stack_any fun st => wpAny_pure ?_
  split
  ·rename_i c _ _ _ _ _
   cases (c == Value.type "enumerate")
   ·wp_walk using wpAny_pyIter_tuple k1
    exact ⟨_, rfl, h⟩
   ·wp_walk using wpAny_pyIter_tuple k1
    exact ⟨_, rfl, h⟩
  ·wp_walk using wpAny_pyIter_tuple k1
   exact ⟨_, rfl, h⟩
theorem call_enumT {prog : Program} {w : World} {A : Around} {E : Value → Shared → Prop} {s : Shared} {a : Addr} {xs : Array Value} {Q : Value → Shared → Prop} (h1 : s.heap.IsTuple a xs)
  (q : ∀ g, IsEnum g (s.heap.objs.size + 1) s.heap.objs.size 0 .none → g.IsTupleIter s.heap.objs.size a 0 → g.objs.size = s.heap.objs.size + 2 → (∀ c o, s.heap.get? c = some o → g.get? c = some o) → Q (.ref (s.heap.objs.size + 1)) { s with heap := g }) :
  wpAny (model prog w) A (call (.type "enumerate") [.ref a]) Q E s := by
 refine callType_new F.called_enumerate (by decide) (F.typeCall_enumerate_1 _) (F.newCall_enumerate_1 _) (fun obj => F.args_object_init_2 obj _) F.entry_enumerate_new (enumT_new a xs) ⟨h1, ?_⟩
 have e1 : (s.heap.push { cls := .type "tuple_iterator", data := .fields #[.ref a, .int 0 0] }).objs.size = s.heap.objs.size + 1 := Heap.size_push ..
 have f2 := Heap.get?_push_size (s.heap.push { cls := .type "tuple_iterator", data := .fields #[.ref a, .int 0 0] }) (o := { cls := .type "enumerate", data := .fields #[.none, .bool false, .ref s.heap.objs.size, rawInt 0, .none, .none] }) rfl
 show _ ∧ _
 rw [e1] at f2 ⊢
 exact ⟨⟨_, f2, rfl⟩, q _ f2 ⟨_, Heap.get?_push_of_some _ (Heap.get?_push_size _ rfl), rfl, rfl⟩ (by rw [Heap.size_push, e1]) fun c o x => Heap.get?_push_of_some _ (Heap.get?_push_of_some _ x)⟩
end
def Ite (a : Addr) : It :=
 ⟨fun i H => ∃ xs x, H a = some (.tup xs) ∧ xs[i]? = some x,
  fun i H v H' => ∃ p x, H p = none ∧ v = .ref p ∧ H' = upd H p (.tup [.int (i : Nat), x]) ∧ ∀ xs, H a = some (.tup xs) → xs[i]? = some x,
  fun i H => ∃ xs, H a = some (.tup xs) ∧ xs.length ≤ i⟩
section
variable {X : Cx}
theorem turn_enum {P : Program} {w : World} {K : PySem.W.Frag} {es : List Expr} {k0} {pos : Pos} {z i1 : Addr} (a : Addr) (hzi : z ≠ i1) :
  Turn P w K (.Tuple es k0 pos) (Ite a) [z, i1] z (fun i h => (∃ was, IsEnum h z i1 i was) ∧ h.IsTupleIter i1 a i) where
 mem := by simp
 obj := fun i h st c hc => by
  obtain ⟨⟨was, e1⟩, ⟨o2, e2, _, d2⟩⟩ := st
  simp only [List.mem_cons, List.not_mem_nil, or_false] at hc
  rcases hc with rfl | rfl
  ·exact ⟨_, e1, fun v z => by cases z⟩
  ·exact ⟨_, e2, fun v z => by rw [d2] at z; cases z⟩
 keep := fun i h h' st k => by
  obtain ⟨⟨was, e1⟩, ⟨o2, e2, r2⟩⟩ := st
  exact ⟨⟨was, k z (by simp) _ e1⟩, ⟨o2, k i1 (by simp) _ e2, r2⟩⟩
 item := by
  intro X hP hw hK hc i pins s σ H E I hf st hg
  subst hP hw hK
  obtain ⟨xs, x, ha, hx⟩ := hg
  obtain ⟨⟨was, e1⟩, j1⟩ := st
  obtain ⟨its, rv, pt, _⟩ := I.tuple (SqT.of (K := X.K) ha)
  obtain ⟨u, hu, ru⟩ := rv.get hx
  have nz : ∀ e ∈ [z, i1], H e = none := fun e he => (hf e he).1
  have hT : H s.heap.objs.size = none := I.fresh
  refine enumT_item e1 j1 (show s.heap.IsTuple a its.toArray from pt) (x := u) (by simpa using hu) hzi fun g z1 m1 tp sz kk => ⟨_, rfl, ?_⟩
  refine wpAny_letOwnedTupleGo_enum z1 fun g2 z2 s2 => ?_
  have s2 : Heap.SameBut z g g2 := s2
  have k2 : ∀ e o, e ∉ [z, i1] → s.heap.get? e = some o → g2.get? e = some o := fun e o hn h => by
   simp only [List.mem_cons, List.not_mem_nil, or_false, not_or] at hn
   exact s2.extBut _ _ hn.1 (kk e o hn.1 hn.2 h)
  have zlt : z < s.heap.objs.size := Heap.lt_size e1
  have tp2 : g2.get? s.heap.objs.size = some { cls := .type "tuple", data := .seq #[.int i s.toks, u] } := s2.extBut _ _ (Nat.ne_of_gt zlt) tp
  have trk : ∀ e o, H e = some o → e ∉ [z, i1] := fun e o he hm => by rw [nz e hm] at he; cases he
  have I' := I.tok (s.toks + 1)
  have J : Inv X pins σ (upd H s.heap.objs.size (.tup [.int (i : Nat), x])) { s with heap := g2, toks := s.toks + 1 } := by
   refine I'.turnAll (ch := [z, i1]) (fun e he => hf e he) k2 (fun e o h => by rw [upd_ne (ne_of_none h hT)]; exact h) (fun e o h n => by rw [upd_ne (Nat.ne_of_lt (Heap.lt_size h))]; exact n) fun e o h => ?_
   by_cases q : e = s.heap.objs.size
   ·subst q
    rw [upd_same] at h
    cases h
    exact ⟨by show 2 ≤ sizeLine; decide, [.int i s.toks, u], .cons ⟨_, rfl⟩ (.cons ru .nil), _, tp2, rfl, rfl, _, rfl⟩
   ·rw [upd_ne q] at h
    refine (I.hok e o h).stay (fun c v hc' q' => k2 c v (by
     rcases hc' with z' | z'
     ·rw [z']; exact trk e o h
     ·exact trk c _ z') q') (fun c q' => by rw [upd_ne (ne_of_none q' hT)]; exact q') fun c xs q' => by rw [upd_ne (ne_of_none q' hT)]; exact q'
  refine ⟨.ref s.heap.objs.size, _, J, rfl, ⟨_, x, hT, rfl, rfl, fun xs' h' => by rw [ha] at h'; cases h'; exact hx⟩, ⟨⟨u, z2⟩, m1.extBut s2.extBut hzi.symm⟩, fun e he => ?_⟩
  obtain ⟨o4, q4, _⟩ := j1
  have hlt : e < s.heap.objs.size := by
   simp only [List.mem_cons, List.not_mem_nil, or_false] at he
   rcases he with rfl | rfl
   ·exact Heap.lt_size e1
   ·exact Heap.lt_size q4
  rw [upd_ne (Nat.ne_of_lt hlt)]
  exact nz e he
 done := by
  intro X hP hw hK hc i pins s σ H E I hf st hg
  subst hP hw hK
  obtain ⟨xs, ha, hx⟩ := hg
  obtain ⟨⟨was, e1⟩, j1⟩ := st
  obtain ⟨its, rv, pt, _⟩ := I.tuple (SqT.of (K := X.K) ha)
  obtain ⟨f0, f1, f2, f3, f4, f5⟩ := hf i1 (by simp)
  have hl := rv.length
  exact enumT_end (I.ok.hd hc) e1 j1 (show s.heap.IsTuple a its.toArray from pt) (by simp; omega) fun g kp => ⟨rfl, I.turned (t' := s.toks) (fun b o hb e => kp b o hb e) f0 f1 f3 f4 f5⟩
 self := fun _ _ _ _ _ st h => let ⟨⟨_, e1⟩, _⟩ := st; wpAny_pyIter_enum e1 h
def iEnum (ta : TA) : TI := fun σ H R => ta σ H fun vs H1 => ∃ a xs, vs = [.ref a] ∧ H1 a = some (.tup xs) ∧ R (Ite a) H1
theorem pi_enum {ea : Expr} {ta : TA} {p pos : Pos} {es : List Expr} {k0} {pt : Pos} (hg : Gl X "enumerate") (hm : X.mg "enumerate" = none) (ha : PA X [ea] ta) (hs : starEach [ea] X.env = [(false, eval ea X.env)] := by rfl) :
  PI X (.Tuple es k0 pt) (.Call (.Name "enumerate" p) [ea] [] pos) (iEnum ta) := by
 intro pins s σ H R I h
 refine Call_ (ld_blt I hg hm boot_enumerate (PyProof.Rows.callWith_type1 (thn (ha pos pins s σ H _ I h) fun us s1 ⟨vs, H1, I1, r1, q1⟩ => ?_) hs rfl))
 obtain ⟨a, xs, e, hA, q⟩ := q1
 subst e
 obtain ⟨u1, rfl, r2⟩ := vals1 r1
 cases (show u1 = Value.ref a from r2)
 obtain ⟨its, rv, pt', _⟩ := I1.tuple (SqT.of (K := X.K) hA)
 refine call_enumT (show s1.heap.IsTuple a its.toArray from pt') fun g z1 j1 sz kk => ?_
 refine wpAny_pyIter_enum z1 ⟨s1.heap.objs.size + 1, [s1.heap.objs.size + 1, s1.heap.objs.size], _, Ite a, H1, rfl, I1.kept (t' := s1.toks) kk, turn_enum a (by show @Ne Nat _ _; omega), ⟨⟨_, z1⟩, j1⟩, fun e he => ?_, q⟩
 have hge : s1.heap.objs.size ≤ e := by
  simp only [List.mem_cons, List.not_mem_nil, or_false] at he
  rcases he with rfl | rfl <;> (show @LE.le Nat _ _ _; omega)
 exact I1.fpOk hge (I1.hok.fresh hge)
end
end L2
namespace L2
open PySem PySem.Spec PyProof.Rows
theorem ps_setCC {X : Cx} {CW : St → VK → It → Hp → Prop} {iy : Nat} {y0 : Str} {py spos : Pos} {elt iter tg : Expr} {xs : List Str} {g : TG} {pos : Pos} {ifs : List Expr} {scope : Scope} {wi : TI} {te : TE} {tt : TT} {fr : List Str} {js : List Nat}
  (hN0 : X.N.Nodup) (hi0 : X.N[iy]? = some y0) (hx0 : Loc X.env.scope y0) (hc : X.calm = true) (hi : PI X tg iter wi)
  (hcell : ∀ y ∈ scope.names, y.2 ≠ .cell) (hkind : scope.kind = .function) (hnames : ∀ y ∈ scope.names, y.2 = .local → scope.names.lookup y.1 = some .local)
  (hfr : ∀ y ∈ scope.names, y.2 = .free → X.env.scope.names.lookup y.1 = some .cell) (hjs : js.map (fun j => X.N[j]?) = fr.map some) (hfv : ∀ y ∈ fr, scope.names.lookup y = some .free)
  (hg : ∀ cl C s' H' ex, PG (cxComp X scope cl C (xs ++ fr) s' H' ex) tg g)
  (hb : ∀ cl C s' H' ex, PE (cxComp X scope cl C (xs ++ fr) s' H' ex) elt te ∧ PTs (cxComp X scope cl C (xs ++ fr) s' H' ex) ifs tt)
  (hCW : ∀ σ Q J H1, CW σ Q J H1 → CompWT xs.length g js tt te σ Q J H1) (hs : ∀ z, foldedSetIterable iter X.env z = pure z := by intro _; rfl) (hsw : swapsWith (.ListComp elt [⟨tg, iter, ifs, 0⟩] scope pos) (some (.Name y0 py)) spos.line X.env = pure true := by rfl)
  (hf0 : X.fn y0 = true ∨ X.env.scope.names.lookup y0 = some .local := by first | exact .inl rfl | exact .inr rfl | assumption) :
  PS X (.Assign [.Name y0 py] (.ListComp elt [⟨tg, iter, ifs, 0⟩] scope pos) spos) (tAsg (fun σ H Q => wi σ H fun J H1 => CW σ Q J H1) (gName iy)) := by
 intro pins s σ H Dn I h
 rw [exec_Assign_Name_used _ _ _ _ hsw]
 refine wpAny_bind (wpAny_standAt (wpAny_bind ?_))
 show wpAny _ X.A (do let _ ← comprehension (.ListComp elt [⟨tg, iter, ifs, 0⟩] scope pos) scope X.env _ (newList []) false (eval iter X.env) (some (assign (.Name y0 py) X.env))) _ _ s
 refine wpAny_bind (wpAny_mono (comp_core (use := some (assign (.Name y0 py) X.env)) (R := fun _ s' => SP X pins Dn .next s') hc hi hcell hkind hnames hfr hjs hfv hg hb hCW I h (fun s4 H5 D C mC hnC I5 nC locC fsC pinX cC sC q => ?_) hs) (fun _ s' hq => wpAny_pure (wpAny_pure hq)) fun _ _ e => e)
 obtain ⟨oC, esC, epC, hoC, rC⟩ := id hnC
 have I6 : Inv X ((C, oC) :: pins) σ H5 s4 := I5.pins_of fun p hp => by
  rcases List.mem_cons.mp hp with rfl | hp
  ·refine ⟨hoC, nC, locC, fsC, fun v z => ?_⟩
   rw [rC.1] at z
   cases z
  ·exact I5.pin p (List.mem_append_right _ hp)
 have hPG0 : PG X (.Name y0 py) (gName iy) := pg_name hN0 hi0 hx0 hf0
 refine thn (hPG0 _ s4 σ _ (.ref D) (.ref D) (fun σ' H' => Dn.nx σ' H' ∧ H' C = none) I6 rfl ⟨q, nC⟩) fun _ s6 ⟨σ6, H6, I7, q7, n7⟩ => ?_
 have o7 := (I7.pin (C, oC) (List.mem_append_right _ (List.mem_cons_self ..))).1
 refine ⟨mC, ⟨oC, esC, epC, o7, rC⟩, fun h' hsb => ⟨σ6, H6, ?_, q7⟩⟩
 have I8 : Inv X pins σ6 H6 s6 := I7.pins_of fun p hp => I7.pin p (List.mem_append_right _ (List.mem_cons_of_mem _ hp))
 exact I8.turned (t' := s6.toks) (it := C) (fun b o hb' e => hsb.extBut b o hb' e) n7 locC (.inr sC) cC pinX
theorem ps_setC {X : Cx} {iy : Nat} {y0 : Str} {py spos : Pos} {elt iter : Expr} {x : Str} {px pos : Pos} {ifs : List Expr} {scope : Scope} {wi : TI} {te : TE} {tt : TT} {fr : List Str} {js : List Nat}
  (hN0 : X.N.Nodup) (hi0 : X.N[iy]? = some y0) (hx0 : Loc X.env.scope y0) (hc : X.calm = true) (hi : PI X (.Name x px) iter wi)
  (hcell : ∀ y ∈ scope.names, y.2 ≠ .cell) (hkind : scope.kind = .function) (hnames : ∀ y ∈ scope.names, y.2 = .local → scope.names.lookup y.1 = some .local) (hx : scope.names.lookup x = some .local)
  (hfr : ∀ y ∈ scope.names, y.2 = .free → X.env.scope.names.lookup y.1 = some .cell) (hnd : (x :: fr).Nodup) (hjs : js.map (fun j => X.N[j]?) = fr.map some) (hfv : ∀ y ∈ fr, scope.names.lookup y = some .free)
  (hb : ∀ cl C s' H' ex, PE (cxComp X scope cl C (x :: fr) s' H' ex) elt te ∧ PTs (cxComp X scope cl C (x :: fr) s' H' ex) ifs tt)
  (hs : ∀ z, foldedSetIterable iter X.env z = pure z := by intro _; rfl) (hsw : swapsWith (.ListComp elt [⟨.Name x px, iter, ifs, 0⟩] scope pos) (some (.Name y0 py)) spos.line X.env = pure true := by rfl)
  (hf0 : X.fn y0 = true ∨ X.env.scope.names.lookup y0 = some .local := by first | exact .inl rfl | exact .inr rfl | assumption) :
  PS X (.Assign [.Name y0 py] (.ListComp elt [⟨.Name x px, iter, ifs, 0⟩] scope pos) spos) (tAsg (tComp wi js tt te) (gName iy)) :=
 ps_setCC (xs := [x]) (g := gName 0) hN0 hi0 hx0 hc hi hcell hkind hnames hfr hjs hfv (fun _ _ _ _ _ => pg_name hnd rfl (.inl (lookup_relabel_local hx)) (.inr (lookup_relabel_local hx))) hb (fun _ _ _ _ h => compW_T h) hs hsw hf0
def notStar : Expr → Bool
 | .Starred _ _ => false
 | _ => true
theorem starEach_not {e : Expr} {es : List Expr} {env : Env} (h : notStar e = true) : starEach (e :: es) env = (false, eval e env) :: starEach es env := by
 cases e <;> first | rfl | cases h
theorem pa_k {X : Cx} {e : Expr} {es : List Expr} {te : TE} {t : TA} (ha : PE X e te) (hr : PA X es t) (h : notStar e = true := by rfl) : PA X (e :: es) (tCons te t) := pa_cons ha hr (starEach_not h)
end L2
namespace L2
open PySem PySem.Spec PyProof.Rows
structure PEs (X : Cx) (e : Expr) (t : TE) : Prop where
 h : PE X e t
structure PAs (X : Cx) (es : List Expr) (t : TA) : Prop where
 h : PA X es t
structure PSt (X : Cx) (st : Stmt) (t : TS) : Prop where
 h : PS X st t
structure PIs (X : Cx) (tg it : Expr) (t : TI) : Prop where
 h : PI X tg it t
theorem ps_cutK {X : Cx} {st : Stmt} {t : TS} (h : PS X st t) : PS X st (fun D σ H => ∃ N : St → Hp → Prop, (∀ σ' H', N σ' H' → D.nx σ' H') ∧ t { D with nx := N } σ H) := by
 intro pins s σ H D I ⟨N, hN, ht⟩
 refine thn (h pins s σ H { D with nx := N } I ht) fun f s' q => ?_
 cases f with
 | next => obtain ⟨σ', H', I', n'⟩ := q; exact ⟨σ', H', I', hN _ _ n'⟩
 | brk => exact q
 | cont => exact q
 | ret u => exact q
structure PSl (X : Cx) (sts : List Stmt) (t : TS) : Prop where
 h : PSs X sts t
section
variable {X : Cx} {a b e : Expr} {es : List Expr} {ta tb te : TE} {t : TA} {pos : Pos}
theorem k_int {i j} : PEs X (.Constant (.int i) j pos) (tC (.int i)) := ⟨pe_int⟩
theorem k_op {op : Operator} {r : R2} (ho : OpR X (binaryOp op) r) (ha : PEs X a ta) (hb : PEs X b tb) : PEs X (.BinOp a op b pos) (tOp r ta tb) := ⟨pe_op ho ha.h hb.h⟩
theorem k_ix {r : R2} (hr : IxR X r) (ha : PEs X a ta) (hb : PEs X b tb) (hs : PlainIx b) : PEs X (.Subscript a b pos) (tOp r ta tb) := ⟨pe_ix hr ha.h hb.h hs⟩
theorem k_lst (h : PAs X es t) : PEs X (.List es pos) (tLstA t) := ⟨pe_lstA h.h⟩
theorem a_nil : PAs X [] tNil := ⟨pa_nil⟩
theorem a_cons (ha : PEs X e te) (hr : PAs X es t) (h : notStar e = true := by rfl) : PAs X (e :: es) (tCons te t) := ⟨pa_k ha.h hr.h h⟩
theorem l_cons {st : Stmt} {sts : List Stmt} {t u : TS} (a : PSt X st t) (b : PSl X sts u) : PSl X (st :: sts) (tSeq t u) := ⟨pss_cons a.h b.h⟩
theorem l_one {st : Stmt} {t : TS} (a : PSt X st t) : PSl X [st] t := ⟨pss_one a.h⟩
end
end L2
namespace L2
open PySem PySem.Spec PyProof.Rows
section
variable {X : Cx}
def CBig (i j : Int) : Prop := i.natAbs < 10 ^ 400 ∧ j.natAbs < 10 ^ 400
theorem bits_of {x : Int} (h : x.natAbs < 10 ^ 400) : Builtin.Int.intBits x ≤ 2 ^ 20 := by
 unfold Builtin.Int.intBits
 split
 ·exact Nat.zero_le _
 ·rename_i hx
  have h0 : x.natAbs ≠ 0 := fun z => hx (by have : x = 0 := by omega
                                            rw [this]; rfl)
  have h1 : x.natAbs < 2 ^ 4000 := Nat.lt_trans h (by decide +kernel)
  have h2 := (Nat.log2_lt h0).mpr h1
  have h3 : (4000 : Nat) + 1 ≤ 2 ^ 20 := by decide
  omega
theorem op_mulB : OpR X (binaryOp .Mult) (rI CBig fun i j => .int (i * j)) := opI fun _ _ _ _ _ _ _ hc q => mul_int q (IntMulOk.of_bits (bits_of hc.1) (bits_of hc.2))
theorem op_neD (hu : X.A.units + 64 < cLine) : OpR X (compareOp .NotEq) (fun x y H Q => ∃ ds es, IsD H x (.tup ds) ∧ IsD H y (.tup es) ∧ pls ds = true ∧ pls es = true ∧ deps ds < 60 ∧ Q (.bl (!(eqDs ds es))) H) := by
 intro pins s σ H x y v u Q I rx ry h
 obtain ⟨ds, es, ix, iy, pd, pe, hd, q⟩ := h
 obtain ⟨a, xs, rfl, ha, r⟩ := ix.tup_of
 obtain ⟨b, ys, rfl, hb, r'⟩ := iy.tup_of
 cases (show v = Value.ref a from rx)
 cases (show u = Value.ref b from ry)
 obtain ⟨its, rv, p, _⟩ := I.tuple (SqT.of (K := X.K) ha)
 obtain ⟨its2, rv2, p2, _⟩ := I.tuple (SqT.of (K := X.K) hb)
 have p : s.heap.IsTuple a its.toArray := p
 have p2 : s.heap.IsTuple b its2.toArray := p2
 have l1 : its.length = ds.length := by rw [← rv.length, r.length]
 have l2 : its2.length = es.length := by rw [← rv2.length, r'.length]
 have key := SeqAt.RcNeAt.tuples (A := X.A) (e := fun j => eqD (ds.getD j .non) (es.getD j .non)) p p2 (by omega) (fun j h1 h2 => by
  have h1' : j < its.length := by simpa using h1
  have h2' : j < its2.length := by simpa using h2
  obtain ⟨x', ex, dx⟩ := r.at (i := j) (d := ds[j]'(by omega)) (gE (by omega))
  obtain ⟨y', ey, dy⟩ := r'.at (i := j) (d := es[j]'(by omega)) (gE (by omega))
  obtain ⟨u', eu, ru⟩ := rv.get ex
  obtain ⟨v', ev, rw'⟩ := rv2.get ey
  have eu' : its[j] = u' := by rw [gE h1'] at eu; exact Option.some.inj eu
  have ev' : its2[j] = v' := by rw [gE h2'] at ev; exact Option.some.inj ev
  have g1 : ds.getD j .non = ds[j]'(by omega) := by rw [List.getD_eq_getElem?_getD, gE (by omega)]; rfl
  have g2 : es.getD j .non = es[j]'(by omega) := by rw [List.getD_eq_getElem?_getD, gE (by omega)]; rfl
  show SeqAt.EqAt X.A.in1 s (its.toArray[j]) (its2.toArray[j]) (eqD (ds.getD j .non) (es.getD j .non))
  rw [List.getElem_toArray, List.getElem_toArray, eu', ev', g1, g2]
  exact eqAt_D 60 (Nat.le_trans (deps_get (gE (by omega))) (by omega)) (by show X.A.units + 1 + 60 < cLine; omega) I dx dy ru rw' (pls_get pd (gE (by omega))) (pls_get pe (gE (by omega))))
 refine key X.prog X.w _ _ (fin_bl I q ?_)
 rw [eqDs_all, List.size_toArray, List.size_toArray, l1, l2]
theorem ints_are : ∀ {ns : List Int} {us : List Value}, Vals (ns.map V.int) us → IntsAre us ns
 | [], _, .nil => .nil
 | _ :: _, _, .cons ⟨_, e⟩ r => by cases e; exact .cons _ _ (ints_are r)
theorem eqDs_ints : ∀ ns ms : List Int, eqDs (ns.map Dt.int) (ms.map Dt.int) = decide (ns = ms)
 | [], [] => by unfold eqDs; rfl
 | [], _ :: _ => by unfold eqDs; rfl
 | _ :: _, [] => by unfold eqDs; rfl
 | n :: ns, m :: ms => by
  rw [List.map_cons, List.map_cons]
  unfold eqDs
  rw [eqDs_ints ns ms]
  unfold eqD
  by_cases h : n = m
  ·by_cases h' : ns = ms
   ·simp [h, h']
   ·simp [h, h']
  ·simp [h]
theorem pls_ints : ∀ ns : List Int, pls (ns.map Dt.int) = true
 | [] => by unfold pls; rfl
 | n :: r => by rw [List.map_cons]; unfold pls; rw [pls_ints r]; unfold pl; rfl
theorem deps_ints : ∀ ns : List Int, deps (ns.map Dt.int) = 0
 | [] => by unfold deps; rfl
 | n :: r => by rw [List.map_cons]; unfold deps; rw [deps_ints r]; unfold dep; rfl
end
end L2
namespace L2
open PySem PySem.Spec PyProof.Rows
theorem pe_compT {X : Cx} {elt iter tg : Expr} {xs : List Str} {g : TG} {pos : Pos} {ifs : List Expr} {scope : Scope} {wi : TI} {te : TE} {tt : TT} {fr : List Str} {js : List Nat}
  (hc : X.calm = true) (hi : PI X tg iter wi)
  (hcell : ∀ y ∈ scope.names, y.2 ≠ .cell) (hkind : scope.kind = .function) (hnames : ∀ y ∈ scope.names, y.2 = .local → scope.names.lookup y.1 = some .local)
  (hfr : ∀ y ∈ scope.names, y.2 = .free → X.env.scope.names.lookup y.1 = some .cell) (hjs : js.map (fun j => X.N[j]?) = fr.map some) (hfv : ∀ y ∈ fr, scope.names.lookup y = some .free)
  (hg : ∀ cl C s' H' ex, PG (cxComp X scope cl C (xs ++ fr) s' H' ex) tg g)
  (hb : ∀ cl C s' H' ex, PE (cxComp X scope cl C (xs ++ fr) s' H' ex) elt te ∧ PTs (cxComp X scope cl C (xs ++ fr) s' H' ex) ifs tt)
  (hs : ∀ z, foldedSetIterable iter X.env z = pure z := by intro _; rfl) :
  PE X (.ListComp elt [⟨tg, iter, ifs, 0⟩] scope pos) (tCompT wi xs.length g js tt te) :=
 pe_compC hc hi hcell hkind hnames hfr hjs hfv hg hb (fun _ _ _ _ h => h) hs
abbrev gPair (K : PySem.W.Frag) : TG := gTup K 2 (gCons (gName 0) (gCons (gName 1) gNil))
theorem pg_two {X : Cx} {scope : Scope} {cl : List (Str × Addr)} {C : Addr} {s : Shared} {H : Hp} {ex : List Addr} {x y : Str} {fr : List Str} {k : Nat} {p1 p2 pt : Pos} (hc : X.calm = true) (hnd : (x :: y :: fr).Nodup) (hx : scope.names.lookup x = some .local) (hy : scope.names.lookup y = some .local) :
  PG (cxComp X scope cl C ([x, y] ++ fr) s H ex) (.Tuple [.Name x p1, .Name y p2] k pt) (gPair X.K) :=
 pg_tup hc (pgs_cons (pg_name (i := 0) hnd rfl (.inl (lookup_relabel_local hx)) (.inr (lookup_relabel_local hx))) (pgs_cons (pg_name (i := 1) hnd rfl (.inl (lookup_relabel_local hy)) (.inr (lookup_relabel_local hy))) pgs_nil))
theorem compT_enum {K : PySem.W.Frag} {a : Addr} {xs : List V} {js : List Nat} {tt : TT} {te : TE} {σ : St} {H : Hp} {Q : VK} (Pv : Nat → List V → Hp → Prop) (h0 : Pv 0 [] H) (hl : ∀ i ys H, i ≤ xs.length → Pv i ys H → H a = some (.tup xs) ∧ ys.length ≤ i) (hz : xs.length ≤ sizeLine)
  (hs : ∀ i x ys p H, xs[i]? = some x → Pv i ys H → H p = none → tt (some (.int (i : Nat)) :: some x :: blockSt σ js) (upd H p (.tup [.int (i : Nat), x])) fun b H4 => if b = true then te (some (.int (i : Nat)) :: some x :: blockSt σ js) H4 fun y H5 => Pv (i + 1) (ys ++ [y]) H5 else Pv (i + 1) ys H4)
  (hd : ∀ ys H, Pv xs.length ys H → ∀ D, H D = none → Q (.ref D) (upd H D (.lst ys))) : CompWT 2 (gPair K) js tt te σ Q (Ite a) H := by
 refine ⟨fun i m ys H => i ≤ xs.length ∧ m = xs.length - i ∧ Pv i ys H, ⟨_, Nat.zero_le _, rfl, h0⟩, fun i m ys H2 ⟨hi, hm, hp⟩ => ?_⟩
 obtain ⟨hq, hy⟩ := hl i ys H2 hi hp
 by_cases e : i = xs.length
 ·subst e
  exact .inl ⟨⟨xs, hq, Nat.le_refl _⟩, hd ys H2 hp⟩
 ·have hlt : i < xs.length := Nat.lt_of_le_of_ne hi e
  refine .inr ⟨⟨xs, _, hq, gE hlt⟩, by omega, Pv (i + 1), fun ys' H' hp' => ⟨xs.length - (i + 1), by omega, by omega, rfl, hp'⟩, fun v H3 hy3 v0 hv0 => ?_⟩
  obtain ⟨p, x, hn, rfl, rfl, hx⟩ := hy3
  match v0, hv0 with
  | [v1, v2], _ => exact ⟨p, _, rfl, SqT.of upd_same, rfl, _, _, rfl, _, _, rfl, rfl, ⟨[some (.int (i : Nat)), some x], rfl, rfl⟩, hs i x ys p H2 (hx xs hq) hp hn⟩
end L2
namespace L2
open PySem PySem.Spec PyProof.Rows
theorem istup_push {h : Heap} {b : Addr} {ys : Array Value} (k : h.IsTuple b ys) (o : Obj) : (h.push o).IsTuple b ys := by
 obtain ⟨ob, e, r⟩ := k
 exact ⟨ob, Heap.get?_push_of_some _ e, r⟩
theorem istup_at {h : Heap} {b : Addr} {ys : Array Value} (k : IsTup h b ys) : h.IsTuple b ys := k
section
variable {prog : Program} {w : World} {A : Around} {E : Value → Shared → Prop} {s : Shared}
theorem zipTT_item {z TI TO i1 i2 a b : Addr} {k1 k2 : Nat} {xs ys : Array Value} {x y c d : Value} {Q : Option Value → Shared → Prop} (D : ZAp z TI TO i1 i2 a b)
  (hz : IsZip s.heap z TI TO .none) (ti : IsPair s.heap TI (.ref i1) (.ref i2)) (to : IsPair s.heap TO c d)
  (j1 : s.heap.IsTupleIter i1 a k1) (j2 : s.heap.IsTupleIter i2 b k2) (la : s.heap.IsTuple a xs) (lb : s.heap.IsTuple b ys) (hx : xs[k1]? = some x) (hy : ys[k2]? = some y)
  (q : ∀ g, IsZip g z TI TO (rawInt s.heap.objs.size) → IsPair g TO x y → g.IsTupleIter i1 a (k1 + 1) → g.IsTupleIter i2 b (k2 + 1) → IsPair g s.heap.objs.size x y → g.objs.size = s.heap.objs.size + 1 →
   (∀ e o, e ≠ z → e ≠ TO → e ≠ i1 → e ≠ i2 → s.heap.get? e = some o → g.get? e = some o) → Q (some (.ref s.heap.objs.size)) { s with heap := g }) : wpAny (model prog w) A (pyNext (.ref z)) Q E s := by
 have hT : s.TypeIs (.ref z) "zip" := ⟨_, hz, rfl⟩
 unfold pyNext
 refine wpAny_bind (wpAny_attempt (wpAny_callSpecial?_slot (name := Str.ofString "__next__") hT F.slot_zip_next (wpAny_call_entry F.slot_zip_next hT F.entry_zip_next ?_ (F.args_zip_next_1 _))))
 show wpAny _ _ (field (.ref z) 2 >>= _) _ _ s
 refine wpAny_bind (wpAny_field hz rfl (x := .bool false) (by rfl) ?_)
 show wpAny _ _ (field (.ref z) 3 >>= _) _ _ s
 refine wpAny_bind (wpAny_field hz rfl (x := .ref TI) (by rfl) ?_)
 refine wpAny_bind (wpAny_seqItems ti rfl ?_)
 show wpAny _ _ (Builtin.SmallTypes.ownedTupleIsFree (.ref z) >>= _) _ _ s
 refine wpAny_bind ?_
 unfold Builtin.SmallTypes.ownedTupleIsFree
 refine wpAny_bind (wpAny_field hz rfl (x := .none) (by rfl) (wpAny_pure ?_))
 simp only [if_true]
 refine wpAny_bind (wpAny_rule ?_)
 refine wpAny_bind (wpAny_field hz rfl (x := .ref TO) (by rfl) ?_)
 refine wpAny_bind (wpAny_setField_rec hz (by simp) fun g1 z1 s1 => ?_)
 have z1 : IsZip g1 z TI TO .ellipsis := z1
 refine wpAny_bind ?_
 simp only [List.zipIdx_cons, List.zipIdx_nil, List.forIn_cons, List.forIn_nil]
 refine wpAny_bind (wpAny_bind (wpAny_onRaise ?_))
 show wpAny _ _ (Builtin.SmallTypes.nextOf (.ref i1) >>= _) _ _ _
 refine wpAny_bind (nextT_item (j1.extBut s1.extBut D.p3) (la.extBut s1.extBut D.a1) hx fun g2 n2 s2 => wpAny_pure ?_)
 have o2 : IsPair g2 TO c d := s2.extBut _ _ D.p8 (s1.extBut _ _ D.p2 to)
 refine wpAny_bind (wpAny_seqItems o2 rfl ?_)
 refine wpAny_bind (wpAny_updateSeq_pair o2 fun g3 o3 s3 => ?_)
 have o3 : IsPair g3 TO x d := o3
 refine wpAny_bind (wpAny_letGo (wpAny_pure ?_))
 refine wpAny_bind (wpAny_bind (wpAny_onRaise ?_))
 show wpAny _ _ (Builtin.SmallTypes.nextOf (.ref i2) >>= _) _ _ _
 refine wpAny_bind (nextT_item (((j2.extBut s1.extBut D.p4).extBut s2.extBut D.p10.symm).extBut s3.extBut D.p9.symm)
  (((lb.extBut s1.extBut D.b1).extBut s2.extBut D.b3).extBut s3.extBut D.b2) hy fun g4 n4 s4 => wpAny_pure ?_)
 have o4 : IsPair g4 TO x d := s4.extBut _ _ D.p9 o3
 refine wpAny_bind (wpAny_seqItems o4 rfl ?_)
 refine wpAny_bind (wpAny_updateSeq_pair o4 fun g5 o5 s5 => ?_)
 have o5 : IsPair g5 TO x y := o5
 refine wpAny_bind (wpAny_letGo (wpAny_pure (wpAny_pure ?_)))
 refine wpAny_bind (wpAny_seqItems o5 rfl ?_)
 refine wpAny_bind (wpAny_newTuple ?_)
 have sz : g5.objs.size = s.heap.objs.size := by rw [s5.1, s4.1, s3.1, s2.1, s1.1]
 have z5 : IsZip g5 z TI TO .ellipsis := s5.extBut _ _ D.p2.symm (s4.extBut _ _ D.p4.symm (s3.extBut _ _ D.p2.symm (s2.extBut _ _ D.p3.symm z1)))
 have k5 : ∀ e o, e ≠ z → e ≠ TO → e ≠ i1 → e ≠ i2 → s.heap.get? e = some o → g5.get? e = some o := fun e o c1 c2 c3 c4 h =>
  s5.extBut _ _ c2 (s4.extBut _ _ c4 (s3.extBut _ _ c2 (s2.extBut _ _ c3 (s1.extBut _ _ c1 h))))
 have m1 : g5.IsTupleIter i1 a (k1 + 1) := ((n2.extBut s3.extBut D.p8.symm).extBut s4.extBut D.p10).extBut s5.extBut D.p8.symm
 have m2 : g5.IsTupleIter i2 b (k2 + 1) := n4.extBut s5.extBut D.p9.symm
 have zlt : z < g5.objs.size := Heap.lt_size z5
 show wpAny _ _ (Builtin.SmallTypes.ownedTupleHandOut (.ref z) (.ref g5.objs.size) >>= _) _ _ _
 refine wpAny_bind ?_
 unfold Builtin.SmallTypes.ownedTupleHandOut
 have z6 : IsZip (g5.push { cls := .type "tuple", data := .seq #[x, y] }) z TI TO .ellipsis := Heap.get?_push_of_some _ z5
 refine wpAny_bind (wpAny_setField_rec z6 (by simp) fun g7 z7 s7 => ?_)
 have z7 : IsZip g7 z TI TO (rawInt g5.objs.size) := z7
 refine wpAny_setField_rec z7 (by simp) fun g8 z8 s8 => ?_
 have z8 : IsZip g8 z TI TO (rawInt g5.objs.size) := z8
 have up : ∀ e o, e ≠ z → g5.get? e = some o → g8.get? e = some o := fun e o c1 h => s8.extBut _ _ c1 (s7.extBut _ _ c1 (Heap.get?_push_of_some _ h))
 have t8 : IsPair g8 g5.objs.size x y := s8.extBut _ _ (Nat.ne_of_gt zlt) (s7.extBut _ _ (Nat.ne_of_gt zlt) (Heap.get?_push_size _ rfl))
 have sz8 : g8.objs.size = g5.objs.size + 1 := by rw [s8.1, s7.1, Heap.size_push]
 rw [sz] at z8 t8 sz8
 refine wpAny_pure ⟨_, rfl, ?_⟩
 refine wpAny_pure ?_
 show Q (some (.ref g5.objs.size)) _
 rw [sz]
 exact q g8 z8 (up _ _ D.p2 o5) (by obtain ⟨o, e, r⟩ := m1; exact ⟨o, up _ o D.p3 e, r⟩) (by obtain ⟨o, e, r⟩ := m2; exact ⟨o, up _ o D.p4 e, r⟩) t8 sz8 fun e o c1 c2 c3 c4 h => up e o c1 (k5 e o c1 c2 c3 c4 h)
theorem zipTT_end {z TI TO i1 i2 a b : Addr} {k1 k2 : Nat} {xs ys : Array Value} {c d : Value} {Q : Option Value → Shared → Prop} (hh : A.handled = none) (D : ZAp z TI TO i1 i2 a b)
  (hz : IsZip s.heap z TI TO .none) (ti : IsPair s.heap TI (.ref i1) (.ref i2)) (to : IsPair s.heap TO c d)
  (j1 : s.heap.IsTupleIter i1 a k1) (j2 : s.heap.IsTupleIter i2 b k2) (la : s.heap.IsTuple a xs) (lb : s.heap.IsTuple b ys) (hx : xs[k1]? = none)
  (q : ∀ g, (∀ e o, e ≠ z → e ≠ TO → e ≠ i1 → e ≠ i2 → s.heap.get? e = some o → g.get? e = some o) → Q none { s with heap := g }) : wpAny (model prog w) A (pyNext (.ref z)) Q E s := by
 have hT : s.TypeIs (.ref z) "zip" := ⟨_, hz, rfl⟩
 have fin : ∀ g x, (∀ e o, e ≠ z → e ≠ TO → e ≠ i1 → e ≠ i2 → s.heap.get? e = some o → g.get? e = some o) → (∃ o, g.get? x = some o ∧ o.cls = .type "StopIteration") →
   wpAny (model prog w) A (do if ← isInstance (.ref x) (.type "StopIteration") then pure none else throw (.ref x)) Q E { s with heap := g } := fun g x k ⟨o, ho, hc⟩ => by
  refine wpAny_bind (wpAny_isInstance (T := "StopIteration") (b := true) ⟨o, ho, hc⟩ isSubtype_stop ?_)
  exact wpAny_pure (q g k)
 unfold pyNext
 refine wpAny_bind (wpAny_attempt (wpAny_callSpecial?_slot (name := Str.ofString "__next__") hT F.slot_zip_next (wpAny_call_entry F.slot_zip_next hT F.entry_zip_next ?_ (F.args_zip_next_1 _))))
 show wpAny _ _ (field (.ref z) 2 >>= _) _ _ s
 refine wpAny_bind (wpAny_field hz rfl (x := .bool false) (by rfl) ?_)
 show wpAny _ _ (field (.ref z) 3 >>= _) _ _ s
 refine wpAny_bind (wpAny_field hz rfl (x := .ref TI) (by rfl) ?_)
 refine wpAny_bind (wpAny_seqItems ti rfl ?_)
 show wpAny _ _ (Builtin.SmallTypes.ownedTupleIsFree (.ref z) >>= _) _ _ s
 refine wpAny_bind ?_
 unfold Builtin.SmallTypes.ownedTupleIsFree
 refine wpAny_bind (wpAny_field hz rfl (x := .none) (by rfl) (wpAny_pure ?_))
 simp only [if_true]
 refine wpAny_bind (wpAny_rule ?_)
 refine wpAny_bind (wpAny_field hz rfl (x := .ref TO) (by rfl) ?_)
 refine wpAny_bind (wpAny_setField_rec hz (by simp) fun g1 z1 s1 => ?_)
 have z1 : IsZip g1 z TI TO .ellipsis := z1
 refine wpAny_bind ?_
 simp only [List.zipIdx_cons, List.zipIdx_nil, List.forIn_cons, List.forIn_nil]
 refine wpAny_bind (wpAny_bind (wpAny_onRaise ?_))
 show wpAny _ _ (Builtin.SmallTypes.nextOf (.ref i1) >>= _) _ _ _
 refine wpAny_bind (nextT_end hh (j1.extBut s1.extBut D.p3) (la.extBut s1.extBut D.a1) hx fun g2 x s2 hx2 => ?_)
 obtain ⟨oe, e1, e2⟩ := hx2
 have z2 : IsZip g2 z TI TO .ellipsis := s2 _ _ D.p3.symm z1
 have xz : x ≠ z := fun r => by subst r; rw [z2] at e1; cases e1; simp at e2
 exact wpAny_setField_rec z2 (by simp) fun g3 _ s3 => fin g3 x (fun e o c1 _ c3 _ h => s3.extBut _ _ c1 (s2 _ _ c3 (s1.extBut _ _ c1 h))) ⟨oe, s3.extBut _ _ xz e1, e2⟩
theorem zipTT_end2 {z TI TO i1 i2 a b : Addr} {k1 k2 : Nat} {xs ys : Array Value} {x0 c d : Value} {Q : Option Value → Shared → Prop} (hh : A.handled = none) (D : ZAp z TI TO i1 i2 a b)
  (hz : IsZip s.heap z TI TO .none) (ti : IsPair s.heap TI (.ref i1) (.ref i2)) (to : IsPair s.heap TO c d)
  (j1 : s.heap.IsTupleIter i1 a k1) (j2 : s.heap.IsTupleIter i2 b k2) (la : s.heap.IsTuple a xs) (lb : s.heap.IsTuple b ys) (hx : xs[k1]? = some x0) (hy : ys[k2]? = none)
  (q : ∀ g, (∀ e o, e ≠ z → e ≠ TO → e ≠ i1 → e ≠ i2 → s.heap.get? e = some o → g.get? e = some o) → Q none { s with heap := g }) : wpAny (model prog w) A (pyNext (.ref z)) Q E s := by
 have hT : s.TypeIs (.ref z) "zip" := ⟨_, hz, rfl⟩
 have fin : ∀ g x, (∀ e o, e ≠ z → e ≠ TO → e ≠ i1 → e ≠ i2 → s.heap.get? e = some o → g.get? e = some o) → (∃ o, g.get? x = some o ∧ o.cls = .type "StopIteration") →
   wpAny (model prog w) A (do if ← isInstance (.ref x) (.type "StopIteration") then pure none else throw (.ref x)) Q E { s with heap := g } := fun g x k ⟨o, ho, hc⟩ => by
  refine wpAny_bind (wpAny_isInstance (T := "StopIteration") (b := true) ⟨o, ho, hc⟩ isSubtype_stop ?_)
  exact wpAny_pure (q g k)
 unfold pyNext
 refine wpAny_bind (wpAny_attempt (wpAny_callSpecial?_slot (name := Str.ofString "__next__") hT F.slot_zip_next (wpAny_call_entry F.slot_zip_next hT F.entry_zip_next ?_ (F.args_zip_next_1 _))))
 show wpAny _ _ (field (.ref z) 2 >>= _) _ _ s
 refine wpAny_bind (wpAny_field hz rfl (x := .bool false) (by rfl) ?_)
 show wpAny _ _ (field (.ref z) 3 >>= _) _ _ s
 refine wpAny_bind (wpAny_field hz rfl (x := .ref TI) (by rfl) ?_)
 refine wpAny_bind (wpAny_seqItems ti rfl ?_)
 show wpAny _ _ (Builtin.SmallTypes.ownedTupleIsFree (.ref z) >>= _) _ _ s
 refine wpAny_bind ?_
 unfold Builtin.SmallTypes.ownedTupleIsFree
 refine wpAny_bind (wpAny_field hz rfl (x := .none) (by rfl) (wpAny_pure ?_))
 simp only [if_true]
 refine wpAny_bind (wpAny_rule ?_)
 refine wpAny_bind (wpAny_field hz rfl (x := .ref TO) (by rfl) ?_)
 refine wpAny_bind (wpAny_setField_rec hz (by simp) fun g1 z1 s1 => ?_)
 have z1 : IsZip g1 z TI TO .ellipsis := z1
 refine wpAny_bind ?_
 simp only [List.zipIdx_cons, List.zipIdx_nil, List.forIn_cons, List.forIn_nil]
 refine wpAny_bind (wpAny_bind (wpAny_onRaise ?_))
 show wpAny _ _ (Builtin.SmallTypes.nextOf (.ref i1) >>= _) _ _ _
 refine wpAny_bind (nextT_item (j1.extBut s1.extBut D.p3) (la.extBut s1.extBut D.a1) hx fun g2 n2 s2 => wpAny_pure ?_)
 have o2 : IsPair g2 TO c d := s2.extBut _ _ D.p8 (s1.extBut _ _ D.p2 to)
 refine wpAny_bind (wpAny_seqItems o2 rfl ?_)
 refine wpAny_bind (wpAny_updateSeq_pair o2 fun g3 o3 s3 => ?_)
 refine wpAny_bind (wpAny_letGo (wpAny_pure ?_))
 refine wpAny_bind (wpAny_bind (wpAny_onRaise ?_))
 show wpAny _ _ (Builtin.SmallTypes.nextOf (.ref i2) >>= _) _ _ _
 refine wpAny_bind (nextT_end hh (((j2.extBut s1.extBut D.p4).extBut s2.extBut D.p10.symm).extBut s3.extBut D.p9.symm)
  (((lb.extBut s1.extBut D.b1).extBut s2.extBut D.b3).extBut s3.extBut D.b2) hy fun g4 x s4 hx4 => ?_)
 obtain ⟨oe, e1, e2⟩ := hx4
 have z4 : IsZip g4 z TI TO .ellipsis := s4 _ _ D.p4.symm (s3.extBut _ _ D.p2.symm (s2.extBut _ _ D.p3.symm z1))
 have xz : x ≠ z := fun r => by subst r; rw [z4] at e1; cases e1; simp at e2
 exact wpAny_setField_rec z4 (by simp) fun g5 _ s5 => fin g5 x (fun e o c1 c2 c3 c4 h => s5.extBut _ _ c1 (s4 _ _ c4 (s3.extBut _ _ c2 (s2.extBut _ _ c3 (s1.extBut _ _ c1 h))))) ⟨oe, s5.extBut _ _ xz e1, e2⟩
end
abbrev yT1 (h : Heap) (a : Addr) : Heap := h.push { cls := .type "tuple_iterator", data := .fields #[.ref a, .int 0 0] }
abbrev yT2 (h : Heap) (a b : Addr) : Heap := (yT1 h a).push { cls := .type "tuple_iterator", data := .fields #[.ref b, .int 0 0] }
abbrev yT3 (h : Heap) (a b : Addr) : Heap := (yT2 h a b).push { cls := .type "tuple", data := .seq #[.ref h.objs.size, .ref (yT1 h a).objs.size] }
abbrev yT4 (h : Heap) (a b : Addr) : Heap := (yT3 h a b).push { cls := .type "tuple", data := .seq #[.none, .none] }
abbrev yT5 (h : Heap) (a b : Addr) : Heap := (yT4 h a b).push { cls := .type "zip", data := .fields #[.none, .bool false, .bool false, .ref (yT2 h a b).objs.size, .ref (yT3 h a b).objs.size] }
theorem zipTT_new (a b : Addr) (xs ys : Array Value) :
  Meets (Builtin.«zip.__new__» ⟨[.type "zip", .ref a, .ref b], []⟩) (fun _ R s => s.heap.IsTuple a xs ∧ s.heap.IsTuple b ys ∧ R (.ok (.ret (.ref (yT4 s.heap a b).objs.size))) { s with heap := yT5 s.heap a b }) :=
 .of_wp fun prog w A R s h => by
  obtain ⟨hp, g, d, tk, os⟩ := s
  obtain ⟨h1, h2, h⟩ := h
  have subZ := sub_zip
  have k1 : Heap.IsTuple (Shared.heap ⟨hp, g, d, tk, os⟩) a xs := h1
  have k2 : Heap.IsTuple (Shared.heap ⟨hp.push { cls := .type "tuple_iterator", data := .fields #[.ref a, .int 0 0] }, g, d, tk, os⟩) b ys := istup_push h2 _
  wp_walk using wpAny_pyIter_tuple k1, wpAny_pyIter_tuple k2
  exact ⟨_, rfl, h⟩
theorem call_zipTT {prog : Program} {w : World} {A : Around} {E : Value → Shared → Prop} {s : Shared} {a b : Addr} {xs ys : Array Value} {Q : Value → Shared → Prop} (h1 : s.heap.IsTuple a xs) (h2 : s.heap.IsTuple b ys)
  (q : ∀ g, IsZip g (s.heap.objs.size + 4) (s.heap.objs.size + 2) (s.heap.objs.size + 3) .none → IsPair g (s.heap.objs.size + 2) (.ref s.heap.objs.size) (.ref (s.heap.objs.size + 1)) →
   IsPair g (s.heap.objs.size + 3) .none .none → g.IsTupleIter s.heap.objs.size a 0 → g.IsTupleIter (s.heap.objs.size + 1) b 0 → g.objs.size = s.heap.objs.size + 5 →
   (∀ c o, s.heap.get? c = some o → g.get? c = some o) → Q (.ref (s.heap.objs.size + 4)) { s with heap := g }) : wpAny (model prog w) A (call (.type "zip") [.ref a, .ref b]) Q E s := by
 refine callType_new F.called_zip (by decide) (F.typeCall_zip_2 _ _) (F.newCall_zip_2 _ _) (fun obj => F.args_object_init_3 obj _ _) F.entry_zip_new (zipTT_new a b xs ys) ⟨h1, h2, ?_⟩
 have e1 : (yT1 s.heap a).objs.size = s.heap.objs.size + 1 := Heap.size_push ..
 have e2 : (yT2 s.heap a b).objs.size = s.heap.objs.size + 2 := by rw [Heap.size_push, e1]
 have e3 : (yT3 s.heap a b).objs.size = s.heap.objs.size + 3 := by rw [Heap.size_push, e2]
 have e4 : (yT4 s.heap a b).objs.size = s.heap.objs.size + 4 := by rw [Heap.size_push, e3]
 have e5 : (yT5 s.heap a b).objs.size = s.heap.objs.size + 5 := by rw [Heap.size_push, e4]
 have f5 : (yT5 s.heap a b).get? (yT4 s.heap a b).objs.size = some _ := Heap.get?_push_size _ rfl
 have f4 : (yT5 s.heap a b).get? (yT3 s.heap a b).objs.size = some _ := Heap.get?_push_of_some _ (Heap.get?_push_size _ rfl)
 have f3 : (yT5 s.heap a b).get? (yT2 s.heap a b).objs.size = some _ := Heap.get?_push_of_some _ (Heap.get?_push_of_some _ (Heap.get?_push_size _ rfl))
 have f2 : (yT5 s.heap a b).get? (yT1 s.heap a).objs.size = some _ := Heap.get?_push_of_some _ (Heap.get?_push_of_some _ (Heap.get?_push_of_some _ (Heap.get?_push_size _ rfl)))
 have f1 : (yT5 s.heap a b).get? s.heap.objs.size = some _ := Heap.get?_push_of_some _ (Heap.get?_push_of_some _ (Heap.get?_push_of_some _ (Heap.get?_push_of_some _ (Heap.get?_push_size _ rfl))))
 show _ ∧ _
 rw [e2, e3, e4] at f5
 rw [e1, e2] at f3
 rw [e3] at f4
 rw [e1] at f2
 rw [e4]
 exact ⟨⟨_, f5, rfl⟩, q _ f5 f3 f4 ⟨_, f1, rfl, rfl⟩ ⟨_, f2, rfl, rfl⟩ e5 fun c o x => Heap.get?_push_of_some _ (Heap.get?_push_of_some _ (Heap.get?_push_of_some _ (Heap.get?_push_of_some _ (Heap.get?_push_of_some _ x))))⟩
section
variable {X : Cx}
def Ity (a b : Addr) : It :=
 ⟨fun i H => ∃ xs ys x y, H a = some (.tup xs) ∧ H b = some (.tup ys) ∧ xs[i]? = some x ∧ ys[i]? = some y,
  fun i H v H' => ∃ p x y, H p = none ∧ v = .ref p ∧ H' = upd H p (.tup [x, y]) ∧ (∀ xs, H a = some (.tup xs) → xs[i]? = some x) ∧ ∀ ys, H b = some (.tup ys) → ys[i]? = some y,
  fun i H => ∃ xs ys, H a = some (.tup xs) ∧ H b = some (.tup ys) ∧ (xs.length ≤ i ∨ ∃ x, xs[i]? = some x ∧ ys.length ≤ i)⟩
theorem turn_zipT {P : Program} {w : World} {K : PySem.W.Frag} {es : List Expr} {k0} {pos : Pos} {z TI TO i1 i2 : Addr} (a b : Addr) (D : Z5 z TI TO i1 i2) :
  Turn P w K (.Tuple es k0 pos) (Ity a b) [z, TI, TO, i1, i2] z (fun i h => IsZip h z TI TO .none ∧ IsPair h TI (.ref i1) (.ref i2) ∧ (∃ c d, IsPair h TO c d) ∧ h.IsTupleIter i1 a i ∧ h.IsTupleIter i2 b i) where
 mem := by simp
 obj := fun i h st c hc => by
  obtain ⟨e1, e2, ⟨_, _, e3⟩, ⟨o4, e4, _, d4⟩, ⟨o5, e5, _, d5⟩⟩ := st
  simp only [List.mem_cons, List.not_mem_nil, or_false] at hc
  rcases hc with rfl | rfl | rfl | rfl | rfl
  ·exact ⟨_, e1, fun v z => by cases z⟩
  ·exact ⟨_, e2, fun v z => by cases z⟩
  ·exact ⟨_, e3, fun v z => by cases z⟩
  ·exact ⟨_, e4, fun v z => by rw [d4] at z; cases z⟩
  ·exact ⟨_, e5, fun v z => by rw [d5] at z; cases z⟩
 keep := fun i h h' st k => by
  obtain ⟨e1, e2, ⟨c, d, e3⟩, ⟨o4, e4, r4⟩, ⟨o5, e5, r5⟩⟩ := st
  exact ⟨k z (by simp) _ e1, k TI (by simp) _ e2, ⟨c, d, k TO (by simp) _ e3⟩, ⟨o4, k i1 (by simp) _ e4, r4⟩, ⟨o5, k i2 (by simp) _ e5, r5⟩⟩
 item := by
  intro X hP hw hK hc i pins s σ H E I hf st hg
  subst hP hw hK
  obtain ⟨xs, ys, x, y, ha, hb, hx, hy⟩ := hg
  obtain ⟨e1, e2, ⟨c, d, e3⟩, j1, j2⟩ := st
  obtain ⟨its, rv, pt, _⟩ := I.tuple (SqT.of (K := X.K) ha)
  obtain ⟨its2, rv2, eL, _⟩ := I.tuple (SqT.of (K := X.K) hb)
  obtain ⟨u, hu, ru⟩ := rv.get hx
  obtain ⟨u2, hu2, ru2⟩ := rv2.get hy
  have nz : ∀ e ∈ [z, TI, TO, i1, i2], H e = none := fun e he => (hf e he).1
  have Z : ZAp z TI TO i1 i2 a b := ⟨D.p1, D.p2, D.p3, D.p4, D.p5, D.p6, D.p7, D.p8, D.p9, D.p10, ne_of_none ha (nz z (by simp)), ne_of_none ha (nz TO (by simp)), ne_of_none ha (nz i1 (by simp)), ne_of_none ha (nz i2 (by simp)),
   ne_of_none hb (nz z (by simp)), ne_of_none hb (nz TO (by simp)), ne_of_none hb (nz i1 (by simp)), ne_of_none hb (nz i2 (by simp))⟩
  have hT : H s.heap.objs.size = none := I.fresh
  refine zipTT_item Z e1 e2 e3 j1 j2 (show s.heap.IsTuple a its.toArray from pt) (istup_at eL) (x := u) (y := u2) (by simpa using hu) (by simpa using hu2) fun g z1 to1 m1 m2 tp sz kk => ⟨_, rfl, ?_⟩
  refine wpAny_letOwnedTupleGo_zip z1 fun g2 z2 s2 => ?_
  have s2 : Heap.SameBut z g g2 := s2
  have k2 : ∀ e o, e ∉ [z, TO, i1, i2] → s.heap.get? e = some o → g2.get? e = some o := fun e o hn h => by
   simp only [List.mem_cons, List.not_mem_nil, or_false, not_or] at hn
   exact s2.extBut _ _ hn.1 (kk e o hn.1 hn.2.1 hn.2.2.1 hn.2.2.2 h)
  have zlt : z < s.heap.objs.size := Heap.lt_size e1
  have tp2 : IsPair g2 s.heap.objs.size u u2 := s2.extBut _ _ (Nat.ne_of_gt zlt) tp
  have sub : ∀ e ∈ [z, TO, i1, i2], e ∈ [z, TI, TO, i1, i2] := fun e he => by
   simp only [List.mem_cons, List.not_mem_nil, or_false] at he ⊢
   rcases he with rfl | rfl | rfl | rfl <;> simp
  have trk : ∀ e o, H e = some o → e ∉ [z, TO, i1, i2] := fun e o he hm => by rw [nz e (sub e hm)] at he; cases he
  have J : Inv X pins σ (upd H s.heap.objs.size (.tup [x, y])) { s with heap := g2 } := by
   refine I.turnAll (ch := [z, TO, i1, i2]) (fun e he => hf e (sub e he)) k2 (fun e o h => by rw [upd_ne (ne_of_none h hT)]; exact h) (fun e o h n => by rw [upd_ne (Nat.ne_of_lt (Heap.lt_size h))]; exact n) fun e o h => ?_
   by_cases q : e = s.heap.objs.size
   ·subst q
    rw [upd_same] at h
    cases h
    exact ⟨by show 2 ≤ sizeLine; decide, [u, u2], .cons ru (.cons ru2 .nil), _, tp2, rfl, rfl, _, rfl⟩
   ·rw [upd_ne q] at h
    refine (I.hok e o h).stay (fun c v hc' q' => k2 c v (by
     rcases hc' with z' | z'
     ·rw [z']; exact trk e o h
     ·exact trk c _ z') q') (fun c q' => by rw [upd_ne (ne_of_none q' hT)]; exact q') fun c xs q' => by rw [upd_ne (ne_of_none q' hT)]; exact q'
  refine ⟨.ref s.heap.objs.size, _, J, rfl, ⟨_, x, y, hT, rfl, rfl, fun xs' h' => by rw [ha] at h'; cases h'; exact hx, fun ys' h' => by rw [hb] at h'; cases h'; exact hy⟩, ⟨z2, ?_, ⟨u, u2, s2.extBut _ _ D.p2 to1⟩, ?_, ?_⟩, fun e he => ?_⟩
  ·exact k2 _ _ (by simp [D.p1, D.p5, D.p6, D.p7]) e2
  ·exact m1.extBut s2.extBut D.p3
  ·exact m2.extBut s2.extBut D.p4
  ·obtain ⟨o4, q4, _⟩ := j1
   obtain ⟨o5, q5, _⟩ := j2
   have hlt : e < s.heap.objs.size := by
    simp only [List.mem_cons, List.not_mem_nil, or_false] at he
    rcases he with rfl | rfl | rfl | rfl | rfl
    ·exact Heap.lt_size e1
    ·exact Heap.lt_size e2
    ·exact Heap.lt_size e3
    ·exact Heap.lt_size q4
    ·exact Heap.lt_size q5
   rw [upd_ne (Nat.ne_of_lt hlt)]
   exact nz e he
 done := by
  intro X hP hw hK hc i pins s σ H E I hf st hg
  subst hP hw hK
  obtain ⟨xs, ys, ha, hb, hx⟩ := hg
  obtain ⟨e1, e2, ⟨c, d, e3⟩, j1, j2⟩ := st
  obtain ⟨its, rv, pt, _⟩ := I.tuple (SqT.of (K := X.K) ha)
  obtain ⟨its2, rv2, eL, _⟩ := I.tuple (SqT.of (K := X.K) hb)
  have nz : ∀ e ∈ [z, TI, TO, i1, i2], H e = none := fun e he => (hf e he).1
  have Z : ZAp z TI TO i1 i2 a b := ⟨D.p1, D.p2, D.p3, D.p4, D.p5, D.p6, D.p7, D.p8, D.p9, D.p10, ne_of_none ha (nz z (by simp)), ne_of_none ha (nz TO (by simp)), ne_of_none ha (nz i1 (by simp)), ne_of_none ha (nz i2 (by simp)),
   ne_of_none hb (nz z (by simp)), ne_of_none hb (nz TO (by simp)), ne_of_none hb (nz i1 (by simp)), ne_of_none hb (nz i2 (by simp))⟩
  have hl := rv.length
  have hl2 := rv2.length
  suffices key : ∀ g : Heap, (∀ e o, e ≠ z → e ≠ TO → e ≠ i1 → e ≠ i2 → s.heap.get? e = some o → g.get? e = some o) → Inv X pins σ H { s with heap := g } by
   rcases hx with hx | ⟨x0, hx0, hx⟩
   ·exact zipTT_end (I.ok.hd hc) Z e1 e2 e3 j1 j2 (istup_at pt) (istup_at eL) (by simp; omega) fun g kk => ⟨rfl, key g kk⟩
   ·obtain ⟨u, hu, _⟩ := rv.get hx0
    exact zipTT_end2 (I.ok.hd hc) Z e1 e2 e3 j1 j2 (istup_at pt) (istup_at eL) (x0 := u) (by simpa using hu) (by simp; omega) fun g kk => ⟨rfl, key g kk⟩
  intro g kk
  have sub : ∀ e ∈ [z, TO, i1, i2], e ∈ [z, TI, TO, i1, i2] := fun e he => by
   simp only [List.mem_cons, List.not_mem_nil, or_false] at he ⊢
   rcases he with rfl | rfl | rfl | rfl <;> simp
  have k2 : ∀ e o, e ∉ [z, TO, i1, i2] → s.heap.get? e = some o → g.get? e = some o := fun e o hn h => by
   simp only [List.mem_cons, List.not_mem_nil, or_false, not_or] at hn
   exact kk e o hn.1 hn.2.1 hn.2.2.1 hn.2.2.2 h
  have trk : ∀ e o, H e = some o → e ∉ [z, TO, i1, i2] := fun e o he hm => by rw [nz e (sub e hm)] at he; cases he
  refine I.turnAll (ch := [z, TO, i1, i2]) (fun e he => hf e (sub e he)) k2 (fun _ _ h => h) (fun _ _ _ n => n) fun e o h => ?_
  exact (I.hok e o h).stay (fun c v hc' q' => k2 c v (by
   rcases hc' with z' | z'
   ·rw [z']; exact trk e o h
   ·exact trk c _ z') q') (fun _ q' => q') fun _ _ q' => q'
 self := fun _ _ _ _ _ st h => wpAny_pyIter_zip st.1 h
def iZipT (ta : TA) : TI := fun σ H R => ta σ H fun vs H1 => ∃ a b xs ys, vs = [.ref a, .ref b] ∧ H1 a = some (.tup xs) ∧ H1 b = some (.tup ys) ∧ R (Ity a b) H1
theorem pi_zipT {ea eb : Expr} {ta : TA} {p pos : Pos} {es : List Expr} {k0} {pt : Pos} (hg : Gl X "zip") (hm : X.mg "zip" = none) (ha : PA X [ea, eb] ta) (hs : starEach [ea, eb] X.env = [(false, eval ea X.env), (false, eval eb X.env)] := by rfl) (hs2 : starEach [eb] X.env = [(false, eval eb X.env)] := by rfl) :
  PI X (.Tuple es k0 pt) (.Call (.Name "zip" p) [ea, eb] [] pos) (iZipT ta) := by
 intro pins s σ H R I h
 refine Call_ (ld_blt I hg hm boot_zip (PyProof.Rows.callWith_type1 (thn (ha pos pins s σ H _ I h) fun us s1 ⟨vs, H1, I1, r1, q1⟩ => ?_) (by rw [hs, hs2]) (by rw [hs2]; rfl)))
 obtain ⟨a, b, xs, ys, e, hA, hB, q⟩ := q1
 subst e
 obtain ⟨u1, u2, rfl, r2, r3⟩ := vals2 r1
 cases (show u1 = Value.ref a from r2)
 cases (show u2 = Value.ref b from r3)
 obtain ⟨its, rv, pt', _⟩ := I1.tuple (SqT.of (K := X.K) hA)
 obtain ⟨its2, rv2, eL, _⟩ := I1.tuple (SqT.of (K := X.K) hB)
 refine call_zipTT (show s1.heap.IsTuple a its.toArray from pt') (istup_at eL) fun g z1 t1 t2 j1 j2 sz kk => ?_
 refine wpAny_pyIter_zip z1 ⟨s1.heap.objs.size + 4, [s1.heap.objs.size + 4, s1.heap.objs.size + 2, s1.heap.objs.size + 3, s1.heap.objs.size, s1.heap.objs.size + 1], _, Ity a b, H1, rfl, I1.kept (t' := s1.toks) kk, turn_zipT a b ?_, ⟨z1, t1, ⟨_, _, t2⟩, j1, j2⟩, fun e he => ?_, q⟩
 ·constructor <;> (show @Ne Nat _ _; omega)
 ·have hge : s1.heap.objs.size ≤ e := by
   simp only [List.mem_cons, List.not_mem_nil, or_false] at he
   rcases he with rfl | rfl | rfl | rfl | rfl <;> (show @LE.le Nat _ _ _; omega)
  exact I1.fpOk hge (I1.hok.fresh hge)
end
theorem compT_zip {K : PySem.W.Frag} {a b : Addr} {xs ys : List V} {js : List Nat} {tt : TT} {te : TE} {σ : St} {H : Hp} {Q : VK} (Pv : Nat → List V → Hp → Prop) (h0 : Pv 0 [] H) (hl : ∀ i zs H, i ≤ xs.length → Pv i zs H → H a = some (.tup xs) ∧ H b = some (.tup ys) ∧ zs.length ≤ i) (hz : xs.length ≤ sizeLine)
  (hs : ∀ i x y zs p H, xs[i]? = some x → ys[i]? = some y → Pv i zs H → H p = none → tt (some x :: some y :: blockSt σ js) (upd H p (.tup [x, y])) fun b H4 => if b = true then te (some x :: some y :: blockSt σ js) H4 fun y H5 => Pv (i + 1) (zs ++ [y]) H5 else Pv (i + 1) zs H4)
  (hd : ∀ zs H, Pv (min xs.length ys.length) zs H → ∀ D, H D = none → Q (.ref D) (upd H D (.lst zs))) : CompWT 2 (gPair K) js tt te σ Q (Ity a b) H := by
 refine ⟨fun i m zs H => i ≤ min xs.length ys.length ∧ m = xs.length - i ∧ Pv i zs H, ⟨_, Nat.zero_le _, rfl, h0⟩, fun i m zs H2 ⟨hi, hm, hp⟩ => ?_⟩
 obtain ⟨qa, qb, hy⟩ := hl i zs H2 (by omega) hp
 by_cases e : i = min xs.length ys.length
 ·refine .inl ⟨⟨xs, ys, qa, qb, ?_⟩, by rw [e] at hp; exact hd zs H2 hp⟩
  by_cases e1 : xs.length ≤ i
  ·exact .inl e1
  ·exact .inr ⟨_, gE (by omega), by omega⟩
 ·have hlt : i < xs.length := by omega
  have hlt2 : i < ys.length := by omega
  refine .inr ⟨⟨xs, ys, _, _, qa, qb, gE hlt, gE hlt2⟩, by omega, Pv (i + 1), fun ys' H' hp' => ⟨xs.length - (i + 1), by omega, by omega, rfl, hp'⟩, fun v H3 hy3 v0 hv0 => ?_⟩
  obtain ⟨p, x, y, hn, rfl, rfl, hx, hy⟩ := hy3
  match v0, hv0 with
  | [v1, v2], _ => exact ⟨p, _, rfl, SqT.of upd_same, rfl, _, _, rfl, _, _, rfl, rfl, ⟨[some x, some y], rfl, rfl⟩, hs i x y zs p H2 (hx xs qa) (hy ys qb) hp hn⟩
end L2
namespace L2
open PySem PySem.Spec PyProof.Rows
theorem fm_some {α β : Type} {f : α → Option β} {g : α → β} : ∀ (l : List α), (∀ x ∈ l, f x = some (g x)) → l.filterMap f = l.map g
 | [], _ => rfl
 | x :: l, h => by rw [List.filterMap_cons, h x (by simp), List.map_cons, fm_some l fun y hy => h y (List.mem_cons_of_mem _ hy)]
theorem pick_back (xs : Array Value) : ((List.range xs.size).filterMap fun (k : Nat) => xs[((xs.size : Int) - 1 + (k : Int) * (-1)).toNat]?) = xs.toList.reverse := by
 have e : ∀ k ∈ List.range xs.size, (fun (k : Nat) => xs[((xs.size : Int) - 1 + (k : Int) * (-1)).toNat]?) k = some ((fun k => xs.toList.getD (xs.size - 1 - k) .none) k) := fun k hk => by
  have hk := List.mem_range.mp hk
  have : ((xs.size : Int) - 1 + (k : Int) * (-1)).toNat = xs.size - 1 - k := by omega
  show xs[((xs.size : Int) - 1 + (k : Int) * (-1)).toNat]? = some (xs.toList.getD (xs.size - 1 - k) .none)
  rw [this, List.getD_eq_getElem?_getD, Array.getElem?_toList, Array.getElem?_eq_getElem (by omega)]
  rfl
 rw [fm_some _ e]
 refine List.ext_getElem (by simp) fun i h1 h2 => ?_
 have hi : i < xs.size := by simpa using h1
 rw [List.getElem_map, List.getElem_range, List.getElem_reverse, List.getD_eq_getElem?_getD, gE (by rw [Array.length_toList]; omega)]
 simp
section
variable {prog : Program} {w : World} {A : Around} {E : Value → Shared → Prop} {s : Shared}
theorem getItem_all {t sl : Addr} {items : Array Value} {vl vu : Value} {lo hi : Option Int} {Q : Value → Shared → Prop} (ht : IsTup s.heap t items) (hs : s.heap.IsSliceOf sl vl vu .none) (pl : IsPart vl lo) (pu : IsPart vu hi)
  (hw : HT.sIx items.size 0 lo = 0 ∧ HT.sIx items.size items.size hi = items.size) (h : Q (.ref t) s) : wpAny (model prog w) A (getItem (.ref t) (.ref sl)) Q E s := by
 obtain ⟨os, hos, hcs, hds⟩ := id hs
 have hTs : s.TypeIs (.ref sl) "slice" := ⟨os, hos, hcs⟩
 unfold getItem
 try with_reducible refine wpAny_holding ?_
 first | refine wpAny_bind (wpAny_pure ?_) | skip
 refine wpAny_bind (wpAny_sequenceKey ht.typeIs (by decide) ?_)
 refine wpAny_bind (wpAny_callSpecial?_slot (name := Str.ofString "__getitem__") ht.typeIs PyProof.Rows.slot_tuple_getitem
  (wpAny_call_entry PyProof.Rows.slot_tuple_getitem ht.typeIs entry_tuple_getitem ?_ (args_tuple_getitem _ _)))
 show wpAny _ _ (Builtin.Tuple.tupleItemsOf (.ref t) >>= _) _ _ s
 refine wpAny_bind (tupleItemsOf_ ht ?_)
 refine wpAny_bind (wpAny_typeOf hTs ?_)
 rw [if_pos (by decide)]
 refine wpAny_bind (HT.sliceApplied_gen hs pl pu ?_)
 show wpAny _ _ (if (((HT.sIx items.size 0 lo : Nat) : Int) == 0 && (1 : Int) == 1 && (HT.sIx items.size items.size hi - HT.sIx items.size 0 lo) == items.size) = true then _ else _) _ _ s
 rw [hw.1, hw.2, Nat.sub_zero, if_pos (by simp)]
 unfold Builtin.Tuple.tupleIsExact
 refine wpAny_bind (wpAny_bind (wpAny_typeOf ht.typeIs (wpAny_pure ?_)))
 rw [if_pos (by decide)]
 exact wpAny_bind (wpAny_rule (wpAny_pure ⟨_, rfl, wpAny_pure h⟩))
end
section
variable {X : Cx}
theorem sl_tupN : SlR X (fun x lo hi H Q => ∃ a xs, x = .ref a ∧ H a = some (.tup xs) ∧ New H (.tup (cutV xs lo hi)) Q) := by
 intro pins s σ H x v vl vu lo hi sl Q I rx hs pl pu h
 obtain ⟨a, xs, rfl, hx, q⟩ := h
 by_cases hw : HT.sIx xs.length 0 lo = 0 ∧ HT.sIx xs.length xs.length hi = xs.length
 ·cases rx
  obtain ⟨its, r, ht, hz⟩ := I.tuple (SqT.of (K := X.K) hx)
  have hlen : its.toArray.size = xs.length := by rw [List.size_toArray]; exact r.length.symm
  refine ⟨"tuple", _, PyProof.Rows.slot_tuple_getitem.lookup, ht.typeIs, ?_⟩
  refine getItem_all ht hs pl pu (by rw [hlen]; exact hw) ⟨.ref a, H, I, rfl, q a H (Same.refl H) ?_⟩
  have e : cutV xs lo hi = xs := by unfold cutV; rw [hw.1, hw.2, List.drop_zero, Nat.sub_zero, List.take_length]
  rw [e]; exact hx
 ·exact sl_tup pins s σ H _ v vl vu lo hi sl Q I rx hs pl pu ⟨a, xs, rfl, SqT.of hx, hw, q.of⟩
theorem vals_back : ∀ {xs : List V} {us : List Value}, Vals xs us → Vals xs.reverse us.reverse
 | _, _, .nil => .nil
 | _ :: _, _ :: _, .cons r t => by rw [List.reverse_cons, List.reverse_cons]; exact (vals_back t).append (.cons r .nil)
theorem call_sum (hc : X.calm = true) : CallR X (.builtin "sum") (fun xs H Q => ∃ (p : Addr) (ns : List Int), xs = [.ref p] ∧ SqL X.K H p (ns.map V.int) ∧ Q (.int ns.sum) H) := by
 intro pins s σ H xs us Q I r h
 obtain ⟨p, ns, rfl, hq, q⟩ := h
 obtain ⟨u, rfl, ru⟩ := vals1 r
 cases (show u = Value.ref p from ru)
 obtain ⟨its, rv, pl, hz⟩ := I.list hq
 have hi := ints_are rv
 obtain ⟨ys, hx⟩ := hi.allInts.items
 have hl' : s.heap.IsList p (intItems ys) := hx ▸ pl.isList
 refine sum_intListG (I.ok.hd hc) hl' fun h' tk t' hk => ?_
 have e1 : ns = ys.toList.map (·.1) := by
  rw [← nums_intItems, ← hx]
  exact (show numsOf its.toArray.toList = ns from hi.numsOf).symm
 have e2 : preSum (numAt ys) ys.size = ns.sum := by
  rw [preSum_eq, List.take_of_length_le (by simp), e1]
 rw [e2]
 exact ⟨.int ns.sum, H, I.kept (t' := tk) hk, ⟨t', rfl⟩, q⟩
end
end L2
namespace L2
open PySem PySem.Spec PyProof.Rows
section
variable {X : Cx}
theorem op_neL0 (hu : X.A.units < cLine) : OpR X (compareOp .NotEq) (fun x y H Q => ∃ a b xs, x = .ref a ∧ y = .ref b ∧ SqL X.K H a xs ∧ SqL X.K H b [] ∧ Q (.bl (!xs.isEmpty)) H) := by
 intro pins s σ H x y v u Q I rx ry h
 obtain ⟨a, b, xs, rfl, rfl, ha, hb, q⟩ := h
 cases (show v = Value.ref a from rx)
 cases (show u = Value.ref b from ry)
 obtain ⟨its, r1, p1, _⟩ := I.list ha
 obtain ⟨its2, r2, p2, _⟩ := I.list hb
 cases r2
 cases r1 with
 | nil =>
  refine SeqAt.RcNeAt.lists (A := X.A) (e := fun _ => true) p1.isList p2.isList rfl hu (fun j h1 _ => absurd h1 (by simp)) X.prog X.w _ _ (fin_bl I q (by simp))
 | cons _ _ => exact SeqAt.RcNeAt.lists_lengths (A := X.A) p1.isList p2.isList (by simp) hu X.prog X.w _ _ (fin_bl I q (by simp))
end
section
open AutoSeq1 (wpAny_loadPart')
end
section
variable {X : Cx}
end
theorem compT_tup {K : PySem.W.Frag} {a : Addr} {xs : List V} {js : List Nat} {tt : TT} {te : TE} {σ : St} {H : Hp} {Q : VK} (Pv : Nat → List V → Hp → Prop) (h0 : Pv 0 [] H) (hl : ∀ i ys H, i ≤ xs.length → Pv i ys H → SqT K H a xs ∧ ys.length ≤ i) (hz : xs.length ≤ sizeLine)
  (hs : ∀ i v ys H, xs[i]? = some v → Pv i ys H → ∃ q x y, v = .ref q ∧ H q = some (.tup [x, y]) ∧ tt (some x :: some y :: blockSt σ js) H fun b H4 => if b = true then te (some x :: some y :: blockSt σ js) H4 fun z H5 => Pv (i + 1) (ys ++ [z]) H5 else Pv (i + 1) ys H4)
  (hd : ∀ ys H, Pv xs.length ys H → ∀ D, H D = none → Q (.ref D) (upd H D (.lst ys))) : CompWT 2 (gPair K) js tt te σ Q (Itt K a) H := by
 refine ⟨fun i m ys H => i ≤ xs.length ∧ m = xs.length - i ∧ Pv i ys H, ⟨_, Nat.zero_le _, rfl, h0⟩, fun i m ys H2 ⟨hi, hm, hp⟩ => ?_⟩
 obtain ⟨hq, hy⟩ := hl i ys H2 hi hp
 by_cases e : i = xs.length
 ·subst e
  exact .inl ⟨⟨xs, hq, Nat.le_refl _⟩, hd ys H2 hp⟩
 ·have hlt : i < xs.length := Nat.lt_of_le_of_ne hi e
  refine .inr ⟨⟨xs, _, hq, gE hlt⟩, by omega, Pv (i + 1), fun ys' H' hp' => ⟨xs.length - (i + 1), by omega, by omega, rfl, hp'⟩, fun v H3 hy3 v0 hv0 => ?_⟩
  obtain ⟨e3, hx⟩ := hy3
  subst e3
  obtain ⟨q, x, y, rfl, hq2, k⟩ := hs i v ys H3 (hx xs hq) hp
  match v0, hv0 with
  | [v1, v2], _ => exact ⟨q, _, rfl, SqT.of hq2, rfl, _, _, rfl, _, _, rfl, rfl, ⟨[some x, some y], rfl, rfl⟩, k⟩
end L2
namespace L2
open PySem PySem.Spec PyProof.Rows
def metL (ns : List Int) : List Int := firstMet (fun i => ns.getD i 0) ns.length
section
variable {X : Cx}
theorem call_setL (hc : X.calm = true) : CallR X (.type "set") (fun xs H Q => ∃ (p : Addr) (ns : List Int), xs = [.ref p] ∧ SqL X.K H p (ns.map V.int) ∧ ns.length ≤ 1000 ∧ New H (.set (fun k => (metL ns).any (· == k)) (metL ns).length) Q) := by
 intro pins s σ H xs us Q I r h
 obtain ⟨p, ns, rfl, hq, hn, q⟩ := h
 obtain ⟨u, rfl, ru⟩ := vals1 r
 cases (show u = Value.ref p from ru)
 obtain ⟨its, rv, pl, hz⟩ := I.list hq
 have hl : its.length = ns.length := by rw [← rv.length, List.length_map]
 refine call_set_list (ns := ns) (I.ok.hd hc) pl.isList (ints_are rv) (by rw [List.size_toArray, hl]; show ns.length + 1 < 4096; omega) fun h' tk hs hk => ?_
 have hl2 : its.toArray.size = ns.length := by rw [List.size_toArray, hl]
 rw [hl2] at hs
 exact ⟨.ref s.heap.objs.size, _, I.laid (t' := tk) (o := .set (fun k => (metL ns).any (· == k)) (metL ns).length) (fun b u e => hk b u (Heap.lt_size e) e) (Nat.le_refl _) hs, rfl, q.of _ I.fresh⟩
theorem call_lenS : CallR X (.builtin "len") (fun xs H Q => ∃ (a : Addr) (S : Int → Bool) (n : Nat), xs = [.ref a] ∧ H a = some (.set S n) ∧ Q (.int n) H) := by
 intro pins s σ H xs us Q I r h
 obtain ⟨a, S, n, rfl, ha, q⟩ := h
 obtain ⟨u, rfl, ru⟩ := vals1 r
 cases (show u = Value.ref a from ru)
 obtain ⟨o, es, ep, t, e1, e2, e3, _, _, e4, e5, e6⟩ := I.hok a _ ha
 have e4 : es.size < 4096 := e4
 refine call_len_set e1 e2 e3 e5 (by omega) ?_
 subst e6
 exact ⟨.int es.size, H, I.tok _, ⟨_, rfl⟩, q⟩
end
end L2
namespace L2
open PySem PySem.Spec PyProof.Rows
section
variable {X : Cx} {e : Expr} {es : List Expr} {te : TE} {t : TA} {pos : Pos}
theorem k_tup {x1} (h : PAs X es t) : PEs X (.Tuple es x1 pos) (tTupA t) := ⟨pe_tupA h.h⟩
theorem k_str {x j} : PEs X (.Constant (.str x) j pos) (tC (.str x)) := ⟨pe_str⟩
theorem i_list {tg : Expr} (h : PEs X e te) : PIs X tg e (iList X.K te) := ⟨pi_list h.h⟩
theorem fold_list {es : List Expr} {pos : Pos} {env : Env} (x : Value) : foldedSetIterable (.List es pos) env x = pure x := rfl
theorem st_forL {tg : Expr} {body : List Stmt} {p2 : Pos} {wi : TI} {g : TG} {tb : TS} (hp : PassesOwn (model X.prog X.w) X.A X.env X.xe) (hc : X.calm = true) (hi : PIs X tg (.List es p2) wi) (hg : PG X tg g) (hb : PSs X body tb) : PSt X (.For tg (.List es p2) body [] pos) (tFor wi g tb) := ⟨ps_for hp hc hi.h hg hb fold_list⟩
end
end L2
namespace L2
open PySem PySem.Spec PyProof.Rows
theorem vals_at : ∀ {xs : List V} {us : List Value}, xs.length = us.length → (∀ (i : Nat) (x : V), xs[i]? = some x → ∃ u, us[i]? = some u ∧ RelV x u) → Vals xs us
 | [], [], _, _ => .nil
 | [], _ :: _, h, _ => by cases h
 | _ :: _, [], h, _ => by cases h
 | x :: xs, u :: us, h, k => by
  obtain ⟨u', e, r⟩ := k 0 x rfl
  cases e
  exact .cons r (vals_at (by simpa using h) fun i y hy => k (i + 1) y hy)
section
variable {X : Cx}
theorem call_rng1 : CallR X (.type "range") (fun xs H Q => ∃ j : Int, xs = [.int j] ∧ New H (.rng 0 j) Q) := by
 intro pins s σ H xs us Q I r h
 obtain ⟨j, rfl, q⟩ := h
 obtain ⟨u, rfl, ru⟩ := vals1 r
 obtain ⟨t, rfl⟩ := (show ∃ t, u = Value.int j t from ru)
 refine call_range_1 ?_
 exact ⟨.ref s.heap.objs.size, _, I.laid (t' := s.toks + 1 + 1) (o := .rng 0 j) (fun _ _ z => Heap.get?_push_of_some _ z) (Nat.le_refl _) ⟨_, _, _, Heap.get?_push_size _ rfl⟩, rfl, q.of _ I.fresh⟩
theorem call_listR (hc : X.calm = true) : CallR X (.type "list") (fun xs H Q => ∃ (a : Addr) (n : Nat), xs = [.ref a] ∧ H a = some (.rng 0 (n : Int)) ∧ n ≤ 1000 ∧ ∀ l, H l = none → Q (.ref l) (upd H l (.lst ((List.range n).map fun k => V.int (k : Nat))))) := by
 intro pins s σ H xs us Q I r h
 obtain ⟨a, n, rfl, ha, hn, q⟩ := h
 obtain ⟨u, rfl, ru⟩ := vals1 r
 cases (show u = Value.ref a from ru)
 obtain ⟨t, u, v, hr⟩ := I.hok a _ ha
 have hs : Builtin.Range.rangeSize 0 (n : Int) 1 = n := by
  unfold Builtin.Range.rangeSize
  rw [if_pos (by decide)]
  by_cases h0 : (0 : Int) < n
  ·rw [if_pos h0, Int.ediv_one]; omega
  ·rw [if_neg h0]; omega
 refine call_list_range (n := n) (I.ok.hd hc) hr (by unfold Builtin.Range.small; rw [hs]; unfold Builtin.Range.rangeFitsLong; simp; omega) hs (by omega) fun h' tk acc c hk hg hi => ?_
 refine ⟨.ref s.heap.objs.size, _, I.laid (t' := tk) (o := .lst ((List.range n).map fun k => V.int (k : Nat))) hk (Nat.le_refl _) ⟨?_, acc.toList, c, ?_, ?_⟩, rfl, q _ I.fresh⟩
 ·rw [List.length_map, List.length_range]; exact Nat.le_trans hn (by decide)
 ·refine vals_at (by rw [List.length_map, List.length_range, Array.length_toList, hi.1]) fun i x hx => ?_
  rw [List.getElem?_map] at hx
  obtain ⟨k, hk2, rfl⟩ := Option.map_eq_some_iff.mp hx
  have hik : i < n := by have := (List.getElem?_eq_some_iff.mp hk2).1; rw [List.length_range] at this; exact this
  rw [List.getElem?_range hik] at hk2
  cases hk2
  have hi2 : i < acc.size := by rw [hi.1]; exact hik
  have e := Array.getElem?_eq_getElem hi2
  obtain ⟨t2, e2⟩ := hi.2 i _ e
  refine ⟨_, by rw [Array.getElem?_toList]; exact e, ⟨t2, ?_⟩⟩
  rw [e2]
  congr 1
  omega
 ·rw [Array.toArray_toList]; exact hg
end
section
variable {prog : Program} {w : World} {A : Around} {E : Value → Shared → Prop} {s : Shared}
end
section
variable {X : Cx}
end
end L2
namespace L2
open PySem PySem.Spec PyProof.Rows
section
variable {X : Cx}
theorem k_lstF {es : List Expr} {t : TA} {pos : Pos} (h : PAs X es t) : PEs X (.List es pos) (tLst t) := ⟨pe_lst h.h⟩
end
end L2
namespace L2
open PySem PySem.Spec PyProof.Rows
theorem pick_backL (its : List Value) : slicePick its.toArray none none (some (-1)) = its.reverse.toArray := by
 unfold slicePick
 have e0 : sliceBounds none none (some (-1)) its.toArray.size = ((its.length : Int) - 1, -1, -1) := by
  rw [List.size_toArray]; rfl
 rw [e0]
 show ((sliceRange ((its.length : Int) - 1) (-1) (-1)).filterMap (its.toArray[·]?)).toArray = _
 unfold sliceRange
 have ec : (if (-1 : Int) > 0 then (if (its.length : Int) - 1 < -1 then (-1 - ((its.length : Int) - 1) + -1 - 1) / -1 else 0) else (if (its.length : Int) - 1 > -1 then ((its.length : Int) - 1 - -1 - -1 - 1) / (- -1) else 0)) = (its.length : Int) := by
  rw [if_neg (by decide), show -(-1 : Int) = 1 from rfl, Int.ediv_one]
  split <;> omega
 show (((List.range (if (-1 : Int) > 0 then (if (its.length : Int) - 1 < -1 then (-1 - ((its.length : Int) - 1) + -1 - 1) / -1 else 0) else (if (its.length : Int) - 1 > -1 then ((its.length : Int) - 1 - -1 - -1 - 1) / (- -1) else 0)).toNat).map fun (k : Nat) => ((its.length : Int) - 1 + -1 * (k : Int)).toNat).filterMap (its.toArray[·]?)).toArray = _
 rw [ec, Int.toNat_natCast, List.filterMap_map]
 have h := pick_back its.toArray
 rw [List.size_toArray] at h
 congr 1
 rw [← h]
 refine congrArg (fun f => List.filterMap f (List.range its.length)) (funext fun k => ?_)
 show its.toArray[((its.length : Int) - 1 + -1 * (k : Int)).toNat]? = its.toArray[((its.length : Int) - 1 + (k : Int) * (-1)).toNat]?
 rw [Int.mul_comm]
section
variable {X : Cx}
def tBackL (te : TE) : TE := fun σ H Q => te σ H fun x H1 => ∃ a xs, x = .ref a ∧ H1 a = some (.lst xs) ∧ New H1 (.lst xs.reverse) Q
theorem pe_backL {e : Expr} {te : TE} {pos p1 p2 p3 : Pos} {j} (he : PE X e te) : PE X (.Subscript e (.Slice none none (some (.UnaryOp .USub (.Constant (.int 1) j p3) p1)) p2) pos) (tBackL te) := by
 intro pins s σ H Q I h
 refine Subscript_ (thn (he pins s σ H _ I h) fun v s1 ⟨x, H1, I1, r1, q1⟩ => ?_)
 obtain ⟨a, xs, rfl, hx, q⟩ := q1
 refine wpAny_Slice ?_
 rw [evalPart_none, evalPart_some]
 refine wpAny_pure (wpAny_pure ?_)
 refine thn ((pe_un un_neg pe_int : PE X (.UnaryOp .USub (.Constant (.int 1) j p3) p1) _) pins s1 σ H1 (fun x H2 => x = .int (-1) ∧ H2 = H1) I1 ⟨_, rfl, rfl, rfl⟩) fun u s2 ⟨x2, H2, I2, r2, e2, e3⟩ => ?_
 subst e2 e3
 obtain ⟨t, rfl⟩ := r2
 cases r1
 have I4 : Inv X pins σ H2 { s2 with heap := s2.heap.push { cls := .type "slice", data := .fields #[.none, .none, .int (-1) t] } } := I2.kept (t' := s2.toks) fun b ob q => Heap.get?_push_of_some _ q
 obtain ⟨its, r, ht, hz⟩ := I4.list (SqL.of (K := X.K) hx)
 have hlen : its.length = xs.length := r.length.symm
 refine tail_any (ops := [.ref a, .ref s2.heap.objs.size]) ht.isList.typeIs slot_list_getitem.lookup (wpAny_getItem_list_slice ht.isList (Heap.IsSliceOf.new ..) .none .none (.int (-1) t) (by decide) ?_ (by rw [List.size_toArray, hlen]; exact hz)) (by with_unfolding_all rfl)
 rw [pick_backL]
 refine ⟨.ref _, _, I4.laid (t' := s2.toks) (o := .lst xs.reverse) (fun _ _ z => Heap.get?_push_of_some _ z) (Nat.le_refl _) ⟨by rw [List.length_reverse]; exact hz, its.reverse, 0, vals_back r, Heap.get?_push_size _ rfl⟩, rfl, q.of _ I4.fresh⟩
end
end L2
namespace L2
open PySem PySem.Spec PyProof.Rows
end L2
namespace L2
open PySem PySem.Spec PyProof.Rows
section
variable (P : Program) (w : World)
end
section
variable {P : Program} {w : World} {H H' : Hp} {h h' : Heap} {a : Addr} {o : HO}
end
section
variable {P : Program} {w : World} {H : Hp} {h h' : Heap} {x e : Addr} {o' : HO}
end
section
variable {fs fs' ex ex' : List Addr} {H H1 H2 : Hp} {h h1 h2 h' : Heap} {a x e : Addr} {o : HO}
end
end L2
namespace L2
open PySem PySem.Spec PyProof.Rows
section
variable {X : Cx} {pins : List (Addr × Obj)} {σ : List (Option V)} {H H' : Hp} {s : Shared} {h' : Heap}
end
end L2
namespace L2
open PySem PySem.Spec PyProof.Rows
section
variable {X : Cx}
variable {a b : Expr} {ta tb : TE} {pos : Pos}
variable {tA tB' : TT} {rest : List Expr}
end
end L2
namespace L2
open PySem PySem.Spec PyProof.Rows
section
variable {X : Cx} {pins : List (Addr × Obj)} {σ : St} {H : Hp} {s : Shared} {a : Addr} {xs ys : List V}
end
section
variable {X : Cx} {pins : List (Addr × Obj)} {σ : St} {H : Hp} {s : Shared} {E : Value → Shared → Prop}
end
section
variable {X : Cx} {st : Stmt} {rest : List Stmt} {t u : TS} {e : Expr} {te : TE} {pos : Pos}
end
section
variable {X : Cx} {pos : Pos}
end
section
variable {X : Cx} {pos : Pos}
end
end L2
namespace L2
open PySem PySem.Spec PyProof.Rows
section
variable {X : Cx} {tg : Expr}
end
end L2
namespace L2
open PySem PySem.Spec PyProof.Rows
section
variable {X : Cx} {a b c : Expr} {ta tb tc : TE} {pos : Pos}
end
section
variable {X : Cx} {a b c : Expr} {ta tb tc : TE} {pos : Pos}
end
end L2
namespace L2
open PySem PySem.Spec PyProof.Rows
section
variable {prog : Program} {w : World} {A : Around} {E : Value → Shared → Prop} {s : Shared} {K : PySem.W.Frag} {x dx C f : Addr} {mA : Str → Option Value} {name : Str} {v : Value}
end
section
variable {P : Program} {w : World} {H H' : Hp} {h h' : Heap} {a C dx : Addr} {fs fs' : List (Str × V)}
end
section
variable {X : Cx} {pins : List (Addr × Obj)} {σ : St} {H : Hp} {s : Shared} {a C dx : Addr} {fs : List (Str × V)} {f : Str} {v : V} {A : Around} {E : Value → Shared → Prop}
end
section
variable {X : Cx} {o e value : Expr} {f : Str} {pos pos' tpos : Pos} {ta tv : TE}
end
section
variable {X : Cx} {pins : List (Addr × Obj)} {σ : St} {H : Hp} {s : Shared} {A : Around} {E : Value → Shared → Prop} {Q : Value → Shared → Prop} {c : Value} {b : Bool}
end
end L2
namespace L2
open PySem PySem.Spec PyProof.Rows
section
variable {X : Cx} {e : Expr} {es : List Expr} {te : TE} {t : TA} {pos : Pos}
end
section
variable {X : Cx} {pins : List (Addr × Obj)} {σ : St} {H : Hp} {s s' : Shared}
end
section
variable {X : Cx} {CX : CXT} {k : Nat} {f C : Addr} {fd : FuncData} {ps : List Str} {sp : Sp} {dvs : List V} {ds : List Value} {E : XK} {x m : Str} {p pos apos : Pos} {e o : Expr} {es : List Expr} {ta : TE} {t : TA}
end
section
variable {X : Cx} {CX : CXT} {k : Nat} {f C : Addr} {fd : FuncData} {ps ks : List Str} {sp : Sp} {E : XK} {x m : Str} {p pos apos kpos : Pos} {e o : Expr} {es : List Expr} {kws : List Keyword} {te ta : TE} {t tk : TA} {nm : Option Str}
variable {g : List Value → List Value → List Value} {gV : List V → List V → List V}
end
end L2
namespace L2
open PySem PySem.Spec PyProof.Rows
section
variable {X : Cx} {x : Str} {p pos : Pos} {e : Expr} {es : List Expr} {t : TA} {id T : String} {r : List V → Hp → VK → Prop}
end
end L2
namespace L2
open PySem PySem.Spec PyProof.Rows
section
variable {κ : Type} [DecidableEq κ]
def valV (kvs : List (κ × V)) (k : κ) : Option V := (kvs.find? fun kv => decide (kv.1 = k)).map (·.2)
def putK (kvs : List (κ × V)) (k : κ) (v : V) : List (κ × V) :=
 if (kvs.any fun kv => decide (kv.1 = k)) = true then kvs.map (fun kv => if kv.1 = k then (kv.1, v) else kv) else kvs ++ [(k, v)]
def dropK (kvs : List (κ × V)) (k : κ) : List (κ × V) := kvs.filter fun kv => decide (kv.1 ≠ k)
theorem valV_pos {p : κ × V} {r : List (κ × V)} {k : κ} (e : p.1 = k) : valV (p :: r) k = some p.2 := by simp [valV, List.find?_cons, e]
theorem valV_neg {p : κ × V} {r : List (κ × V)} {k : κ} (e : ¬ p.1 = k) : valV (p :: r) k = valV r k := by simp [valV, List.find?_cons, e]
theorem valV_any (k : κ) : ∀ kvs : List (κ × V), (kvs.any fun kv => decide (kv.1 = k)) = (valV kvs k).isSome
 | [] => rfl
 | p :: r => by
  rw [List.any_cons]
  by_cases e : p.1 = k
  ·simp only [valV_pos e, decide_eq_true e, Bool.true_or, Option.isSome_some]
  ·rw [valV_neg e, decide_eq_false e, Bool.false_or]; exact valV_any k r
theorem valV_map (k j : κ) (y : V) : ∀ kvs : List (κ × V), valV (kvs.map fun kv => if kv.1 = k then (kv.1, y) else kv) j = (valV kvs j).map fun x => if j = k then y else x
 | [] => rfl
 | p :: r => by
  have ih := valV_map k j y r
  rw [List.map_cons]
  by_cases h : p.1 = k
  ·rw [if_pos h]
   by_cases e : p.1 = j
   ·rw [valV_pos (p := (p.1, y)) e, valV_pos e, Option.map_some, if_pos (e.symm.trans h)]
   ·rw [valV_neg (p := (p.1, y)) e, valV_neg e, ih]
  ·rw [if_neg h]
   by_cases e : p.1 = j
   ·rw [valV_pos (p := p) e, valV_pos e, Option.map_some, if_neg (fun z => h (e.trans z))]
   ·rw [valV_neg (p := p) e, valV_neg e, ih]
theorem valV_snoc (k j : κ) (y : V) : ∀ kvs : List (κ × V), valV kvs k = none → valV (kvs ++ [(k, y)]) j = if j = k then some y else valV kvs j
 | [], _ => by
  by_cases e : k = j
  ·rw [if_pos e.symm]; exact valV_pos (p := (k, y)) e
  ·rw [if_neg (fun z => e z.symm)]; exact valV_neg (p := (k, y)) e
 | p :: r, hn => by
  rw [List.cons_append]
  have hk : ¬ p.1 = k := fun z => by rw [valV_pos z] at hn; cases hn
  rw [valV_neg hk] at hn
  have ih := valV_snoc k j y r hn
  by_cases e : p.1 = j
  ·rw [valV_pos e, valV_pos e, if_neg (fun z => hk (e.trans z))]
  ·rw [valV_neg e, valV_neg e, ih]
theorem valV_put (kvs : List (κ × V)) (k j : κ) (y : V) : valV (putK kvs k y) j = if j = k then some y else valV kvs j := by
 unfold putK
 by_cases a : (kvs.any fun kv => decide (kv.1 = k)) = true
 ·rw [if_pos a, valV_map]
  rw [valV_any] at a
  by_cases e : j = k
  ·obtain ⟨x, hx⟩ := Option.isSome_iff_exists.mp a
   rw [if_pos e, e, hx, Option.map_some, if_pos rfl]
  ·rw [if_neg e]
   cases valV kvs j with
   | none => rfl
   | some x => rw [Option.map_some, if_neg e]
 ·rw [if_neg a]
  refine valV_snoc k j y kvs ?_
  rw [valV_any] at a
  cases q : valV kvs k with
  | none => rfl
  | some x => rw [q] at a; exact (a rfl).elim
theorem length_putK (kvs : List (κ × V)) (k : κ) (v : V) : (putK kvs k v).length ≤ kvs.length + 1 := by
 unfold putK
 split
 ·rw [List.length_map]; omega
 ·rw [List.length_append, List.length_cons, List.length_nil]; omega
theorem putK_new {kvs : List (κ × V)} {k : κ} (v : V) (h : valV kvs k = none) : putK kvs k v = kvs ++ [(k, v)] := by
 unfold putK
 rw [valV_any, h]
 exact if_neg (by decide)
theorem RelO.isSome_eq {o : Option V} {u : Option Value} (r : RelO o u) : o.isSome = u.isSome := by
 cases o with
 | none => cases u with
  | none => rfl
  | some _ => exact (show False from r).elim
 | some _ => cases u with
  | none => exact (show False from r).elim
  | some _ => rfl
theorem RelO.getD {o : Option V} {u : Option Value} {d : V} {d' : Value} (r : RelO o u) (rd : RelV d d') : RelV (o.getD d) (u.getD d') := by
 cases o with
 | none => cases u with
  | none => exact rd
  | some _ => exact (show False from r).elim
 | some _ => cases u with
  | none => exact (show False from r).elim
  | some _ => exact r
theorem KV.val {kvs : List (κ × V)} {vs : List (κ × Value)} (r : KV kvs vs) (k : κ) : RelO (valV kvs k) (valueAt vs k) := by
 unfold KV at r
 induction r with
 | nil => exact True.intro
 | @cons p q ps qs h t ih =>
  obtain ⟨h1, h2⟩ := h
  by_cases e : p.1 = k
  ·have e' : q.1 = k := h1.symm.trans e
   have b : valueAt (q :: qs) k = some q.2 := by simp [valueAt, List.find?_cons, e']
   rw [valV_pos e, b]; exact h2
  ·have e' : ¬ q.1 = k := fun z => e (h1.trans z)
   have b : valueAt (q :: qs) k = valueAt qs k := by simp [valueAt, List.find?_cons, e']
   rw [valV_neg e, b]; exact ih
theorem KV.any {kvs : List (κ × V)} {vs : List (κ × Value)} (r : KV kvs vs) (k : κ) : (kvs.any fun kv => decide (kv.1 = k)) = vs.any fun kv => decide (kv.1 = k) := by
 unfold KV at r
 induction r with
 | nil => rfl
 | cons h t ih => rw [List.any_cons, List.any_cons, ih, h.1]
theorem KV.repl {kvs : List (κ × V)} {vs : List (κ × Value)} (r : KV kvs vs) (k : κ) {y : V} {u : Value} (ry : RelV y u) :
  KV (kvs.map fun kv => if kv.1 = k then (kv.1, y) else kv) (vs.map fun kv => if kv.1 = k then (kv.1, u) else kv) := by
 unfold KV at r ⊢
 induction r with
 | nil => exact .nil
 | @cons p q ps qs h t ih =>
  rw [List.map_cons, List.map_cons]
  refine .cons ?_ ih
  obtain ⟨h1, h2⟩ := h
  by_cases e : p.1 = k
  ·rw [if_pos e, if_pos (h1.symm.trans e)]; exact ⟨h1, ry⟩
  ·rw [if_neg e, if_neg (fun z => e (h1.trans z))]; exact ⟨h1, h2⟩
theorem KV.put {kvs : List (κ × V)} {vs : List (κ × Value)} (r : KV kvs vs) (k : κ) {y : V} {u : Value} (ry : RelV y u) : KV (putK kvs k y) (stored vs k u) := by
 unfold putK stored
 rw [r.any k]
 by_cases e : (vs.any fun kv => decide (kv.1 = k)) = true
 ·rw [if_pos e, if_pos e]; exact r.repl k ry
 ·rw [if_neg e, if_neg e]; exact Paired.snoc r ⟨rfl, ry⟩
theorem KV.length {kvs : List (κ × V)} {vs : List (κ × Value)} (r : KV kvs vs) : kvs.length = vs.length := Paired.length r
end
theorem kV_is {P : Program} {w : World} {k : Key} {u : Value} (r : RelV (kV k) u) : (mixKind P w).is k u = true := by
 cases k with
 | inl i => obtain ⟨t, e⟩ := (show ∃ t, u = Value.int i t from r); subst e; exact mixKind_int P w i t
 | inr x => obtain ⟨t, e⟩ := (show ∃ t, u = Value.str x t from r); subst e; exact mixKind_str P w x t
theorem items_are {P : Program} {w : World} : ∀ {ks : List Key} {us : List Value}, Vals (ks.map kV) us → ItemsAre (mixKind P w) ks us
 | [], _, r => by rw [List.map_nil] at r; cases r; exact .nil
 | k :: ks, _, r => by
  rw [List.map_cons] at r
  cases r with
  | cons h t => exact .cons (kV_is h) (items_are t)
abbrev KT (H : Hp) : List (List Key × V) → List (List Key × Addr × Value) → Prop := Paired fun p q => p.1 = q.1 ∧ H q.2.1 = some (.tup (p.1.map kV)) ∧ RelV p.2 q.2.2
theorem KT.val {H : Hp} {kvs : List (List Key × V)} {xs : List (List Key × Addr × Value)} (r : KT H kvs xs) (k : List Key) : RelO (valV kvs k) ((atKey xs k).map (·.2)) := by
 induction r with
 | nil => exact True.intro
 | @cons p q ps qs h t ih =>
  obtain ⟨h1, _, h2⟩ := h
  by_cases e : p.1 = k
  ·have e' : q.1 = k := h1.symm.trans e
   have b : atKey (q :: qs) k = some q.2 := by simp [atKey, List.find?_cons, e']
   rw [valV_pos e, b]; exact h2
  ·have e' : ¬ q.1 = k := fun z => e (h1.trans z)
   have b : atKey (q :: qs) k = atKey qs k := by simp [atKey, List.find?_cons, e']
   rw [valV_neg e, b]; exact ih
theorem KT.repl {H : Hp} {kvs : List (List Key × V)} {xs : List (List Key × Addr × Value)} (r : KT H kvs xs) (k : List Key) {y : V} {u : Value} (ry : RelV y u) :
  KT H (kvs.map fun kv => if kv.1 = k then (kv.1, y) else kv) (xs.map (putAt k u)) := by
 induction r with
 | nil => exact .nil
 | @cons p q ps qs h t ih =>
  rw [List.map_cons, List.map_cons]
  refine .cons ?_ ih
  obtain ⟨h1, h2, h3⟩ := h
  unfold putAt
  by_cases e : p.1 = k
  ·rw [if_pos e, if_pos (h1.symm.trans e)]; exact ⟨h1, h2, ry⟩
  ·rw [if_neg e, if_neg (fun z => e (h1.trans z))]; exact ⟨h1, h2, h3⟩
theorem KT.put {H : Hp} {kvs : List (List Key × V)} {xs : List (List Key × Addr × Value)} (r : KT H kvs xs) (k : List Key) {b : Addr} {y : V} {u : Value} (hb : H b = some (.tup (k.map kV))) (ry : RelV y u) :
  KT H (putK kvs k y) (storedH xs k b u) := by
 have e : (kvs.any fun kv => decide (kv.1 = k)) = (atKey xs k).isSome := by
  rw [valV_any, (r.val k).isSome_eq, Option.isSome_map]
 unfold putK storedH
 rw [e]
 by_cases q : (atKey xs k).isSome = true
 ·rw [if_pos q, if_pos q]; exact r.repl k ry
 ·rw [if_neg q, if_neg q]; exact Paired.snoc r ⟨rfl, hb, ry⟩
theorem KT.keeps {H H' : Hp} {kvs : List (List Key × V)} {xs : List (List Key × Addr × Value)} (r : KT H kvs xs) (ht : ∀ b ys, H b = some (.tup ys) → H' b = some (.tup ys)) : KT H' kvs xs :=
 Paired.mapP r fun _ _ z => ⟨z.1, ht _ _ z.2.1, z.2.2⟩
section
variable {P : Program} {w : World} {H : Hp} {h : Heap} {a : Addr}
theorem rd_of {u : HO} (ok : HOk P w H h) (e : Rd H a u) : ObjOk P w H h a u := e.ok ok
theorem dk_rd {kvs : List (Key × V)} (ok : HOk P w H h) (e : Rd H a (.dK kvs)) : kvs.length ≤ sizeLine ∧ (a == sysModules) = false ∧ ∃ vs, KV kvs vs ∧ h.DictOf (mixKind P w) a vs :=
 show ObjOk P w H h a (.dK kvs) from rd_of ok e
theorem dk_of {kvs : List (Key × V)} (ok : HOk P w H h) (e : H a = some (.dK kvs)) : kvs.length ≤ sizeLine ∧ (a == sysModules) = false ∧ ∃ vs, KV kvs vs ∧ h.DictOf (mixKind P w) a vs := dk_rd ok (.inl e)
theorem key_of {ks : List Key} (ok : HOk P w H h) (e : H a = some (.tup (ks.map kV))) : (tupleKind (mixKind P w)).is h ks a := by
 obtain ⟨_, its, r, o, h1, h2, _, n, h3⟩ := (show ObjOk P w H h a (.tup (ks.map kV)) from ok a _ e)
 exact ⟨o, its.toArray, n, h1, h2, h3, by simpa using items_are r⟩
theorem dt_rd {kvs : List (List Key × V)} (ok : HOk P w H h) (e : Rd H a (.dT kvs)) : kvs.length ≤ sizeLine ∧ (a == sysModules) = false ∧
  ∃ xs, KT H kvs xs ∧ h.DictOfH (tupleKind (mixKind P w)) a xs := by
 obtain ⟨z, y, xs, r, o, es, ep, h1, h2, h3, h4, h5⟩ := (show ObjOk P w H h a (.dT kvs) from rd_of ok e)
 refine ⟨z, y, xs, r, o, es, ep, h1, h2, h3, h4, fun x hx => ?_, h5⟩
 have all : ∀ {l : List (List Key × V)} {m : List (List Key × Addr × Value)}, KT H l m → ∀ x ∈ m, (tupleKind (mixKind P w)).is h x.1 x.2.1 := by
  intro l m q
  induction q with
  | nil => intro x hx; exact nomatch hx
  | @cons p q ps qs hq t ih =>
   intro x hx
   rcases List.mem_cons.mp hx with e | hx
   ·subst e
    exact key_of ok (by rw [← hq.1]; exact hq.2.1)
   ·exact ih x hx
 exact all r x hx
theorem dt_of {kvs : List (List Key × V)} (ok : HOk P w H h) (e : H a = some (.dT kvs)) : kvs.length ≤ sizeLine ∧ (a == sysModules) = false ∧
  ∃ xs, KT H kvs xs ∧ h.DictOfH (tupleKind (mixKind P w)) a xs := dt_rd ok (.inl e)
end
def DGet (H : Hp) (a : Addr) (y : V) (r : Option V) : Prop :=
 (∃ kvs k, Rd H a (.dK kvs) ∧ y = kV k ∧ r = valV kvs k) ∨ ∃ kvs k b, Rd H a (.dT kvs) ∧ y = .ref b ∧ H b = some (.tup (k.map kV)) ∧ r = valV kvs k
def DPut (H : Hp) (a : Addr) (y v : V) (H' : Hp) : Prop :=
 (∃ kvs k, H a = some (.dK kvs) ∧ y = kV k ∧ kvs.length < sizeLine ∧ H' = upd H a (.dK (putK kvs k v))) ∨
 ∃ kvs k b, H a = some (.dT kvs) ∧ y = .ref b ∧ H b = some (.tup (k.map kV)) ∧ kvs.length < sizeLine ∧ H' = upd H a (.dT (putK kvs k v))
theorem DGet.k {H : Hp} {a : Addr} {kvs : List (Key × V)} {k : Key} (e : H a = some (.dK kvs)) : DGet H a (kV k) (valV kvs k) := .inl ⟨kvs, k, .inl e, rfl, rfl⟩
theorem DPut.k {H : Hp} {a : Addr} {kvs : List (Key × V)} {k : Key} {v : V} (e : H a = some (.dK kvs)) (hl : kvs.length < sizeLine) : DPut H a (kV k) v (upd H a (.dK (putK kvs k v))) := .inl ⟨kvs, k, e, rfl, hl, rfl⟩
section
variable {X : Cx} {pins : List (Addr × Obj)} {σ : St} {H : Hp} {s : Shared} {a : Addr} {y v : V} {u r : Value} {o : Option V} {A : Around} {E : Value → Shared → Prop}
theorem d_getItem {Q : Value → Shared → Prop} (hu : A.units + 1 < cLine) (I : Inv X pins σ H s) (g : DGet H a y (some v)) (ry : RelV y u) (h : ∀ w' s', Inv X pins σ H s' → RelV v w' → Q w' s') :
  wpAny (model X.prog X.w) A (getItem (.ref a) u) Q E s := by
 rcases g with ⟨kvs, k, e, ey, l⟩ | ⟨kvs, k, b, e, ey, eb, l⟩
 ·subst ey
  obtain ⟨z, hd, vs, rel, dd⟩ := dk_rd I.hok e
  obtain ⟨w', hw, rw'⟩ := RelO.some_of (v := v) (o := valueAt vs k) (by rw [l]; exact rel.val k)
  exact wpAny_getItem_of (kV_is ry) dd.mapOf hw (h w' _ (I.tok _) rw')
 ·subst ey
  cases (show u = Value.ref b from ry)
  obtain ⟨z, hd, xs, rel, dd⟩ := dt_rd I.hok e
  obtain ⟨w', hw, rw'⟩ := RelO.some_of (v := v) (o := (atKey xs k).map (·.2)) (by rw [l]; exact rel.val k)
  obtain ⟨p, hp, hp2⟩ := Option.map_eq_some_iff.mp hw
  refine wpAny_getItem_heap (tupleKind_room_in1 hu) (key_of I.hok eb) dd hp ?_
  rw [hp2]
  exact h w' _ (I.tok _) rw'
theorem d_notIn {Q : Value → Shared → Prop} (hu : A.units + 1 < cLine) (I : Inv X pins σ H s) (g : DGet H a y o) (ry : RelV y u) (h : ∀ s', Inv X pins σ H s' → Q (.bool (!o.isSome)) s') :
  wpAny (model X.prog X.w) A (compareOp .NotIn u (.ref a)) Q E s := by
 rcases g with ⟨kvs, k, e, ey, l⟩ | ⟨kvs, k, b, e, ey, eb, l⟩
 ·subst ey
  obtain ⟨z, hd, vs, rel, dd⟩ := dk_rd I.hok e
  refine wpAny_notIn_of (kV_is ry) hd dd.mapOf ?_
  rw [← (rel.val k).isSome_eq, ← l]
  exact h _ (I.tok _)
 ·subst ey
  cases (show u = Value.ref b from ry)
  obtain ⟨z, hd, xs, rel, dd⟩ := dt_rd I.hok e
  refine wpAny_notIn_heap (tupleKind_room_in1 hu) (key_of I.hok eb) hd dd ?_
  have q := (rel.val k).isSome_eq
  rw [Option.isSome_map] at q
  rw [← q, ← l]
  exact h _ (I.tok _)
theorem d_write {h' : Heap} {t' : Nat} {ob : HO} (I : Inv X pins σ H s) (mu : Mut (H a)) (hs : Heap.SameBut a s.heap h') (he : ∃ q, h'.get? a = some q) (new : ObjOk X.prog X.w (upd H a ob) h' a ob) :
  Inv X pins σ (upd H a ob) { s with heap := h', toks := t' } :=
 I.write (x := a) (e := a) mu (.inl rfl) (fun b q hb z => (hs.2 b hb).trans z) he new
theorem dk_new {P : Program} {w : World} {H' : Hp} {h' : Heap} {kvs : List (Key × V)} {vs : List (Key × Value)} (z : kvs.length ≤ sizeLine) (hd : (a == sysModules) = false) (rel : KV kvs vs) (dd : h'.DictOf (mixKind P w) a vs) :
  ObjOk P w H' h' a (.dK kvs) := ⟨z, hd, vs, rel, dd⟩
theorem d_setItem {H' : Hp} {Q : Unit → Shared → Prop} (hu : A.units + 1 < cLine) (I : Inv X pins σ H s) (g : DPut H a y v H') (ry : RelV y u) (rv : RelV v r) (h : ∀ s', Inv X pins σ H' s' → Q () s') :
  wpAny (model X.prog X.w) A (setItem (.ref a) u r) Q E s := by
 rcases g with ⟨kvs, k, e, ey, l, eH⟩ | ⟨kvs, k, b, e, ey, eb, l, eH⟩
 ·subst ey eH
  obtain ⟨z, hd, vs, rel, dd⟩ := dk_of I.hok e
  have hz : vs.length ≤ sizeLine := by rw [← rel.length]; exact z
  have hl : (putK kvs k v).length ≤ sizeLine := by have := length_putK kvs k v; omega
  refine wpAny_setItem_pairs (hsz := hz) (kV_is ry) dd fun h' dd' hs => h _ ?_
  have he : ∃ q, h'.get? a = some q := let ⟨q, _, _, hq, _⟩ := dd'; ⟨q, hq⟩
  exact d_write I (by rw [e]; exact True.intro) hs he (dk_new hl hd (rel.put k rv) dd')
 ·subst ey eH
  cases (show u = Value.ref b from ry)
  obtain ⟨z, hd, xs, rel, dd⟩ := dt_of I.hok e
  have hz : xs.length ≤ sizeLine := by rw [← Paired.length rel]; exact z
  have hl : (putK kvs k v).length ≤ sizeLine := by have := length_putK kvs k v; omega
  refine wpAny_setItem_heap (hsz := hz) (tupleKind_room_in1 hu) (key_of I.hok eb) dd fun h' dd' hs => h _ ?_
  obtain ⟨q, es, ep, hq, h2, h3, h4, _, h5⟩ := dd'
  refine d_write I (by rw [e]; exact True.intro) hs ⟨q, hq⟩ ⟨hl, hd, _, (rel.put k eb rv).keeps fun c ys ec => ?_, q, es, ep, hq, h2, h3, h4, h5⟩
  rw [upd_ne (ne_of ec e (fun z => nomatch z))]
  exact ec
end
section
variable {X : Cx} {pins : List (Addr × Obj)} {σ : St} {H : Hp} {s : Shared} {a : Addr} {kvs : List (Key × V)} {k : Key} {u : Value} {A : Around} {E : Value → Shared → Prop}
end
def NoSl (i : Expr) : Prop := ∀ ov iv, subscripted i false ov iv = operate [ov, iv] (getItem ov iv)
theorem subD_of {prog : Program} {w : World} {A : Around} {E : Value → Shared → Prop} {s : Shared} {env : Env} {value slice : Expr} {pos : Pos} {T id : String} {Q : Value → Shared → Prop}
  (hl : typeLookup (.type T) "__getitem__" = pure (some (.builtin id))) (hs : NoSl slice)
  (h : wpAny (model prog w) A (eval value env) (fun o s₁ => wpAny (model prog w) A (eval slice env) (fun i s₂ => s₂.TypeIs o T ∧ wpAny (model prog w) A (getItem o i) Q E s₂) E s₁) E s) :
  wpAny (model prog w) A (eval (.Subscript value slice pos) env) Q E s := by
 refine Subscript_ (wpAny_mono h (fun o s₁ h₁ => wpAny_mono h₁ (fun i s₂ h₂ => ?_) fun _ _ x => x) fun _ _ x => x)
 obtain ⟨hT, h₂⟩ := h₂
 unfold subscriptTail
 refine wpAny_bind ?_
 rw [getitemInPython_of_ne hT.not_modules]
 refine wpAny_bind (wpAny_specialOf hT hl ?_)
 have fin : wpAny (model prog w) A (subscripted slice false o i) (fun r s₃ => wpAny (model prog w) A (letTemporaryGo value o r >>= fun _ => pure r) Q E s₃) E s₂ := by
  rw [hs o i]
  exact wpAny_operating (wpAny_mono h₂ (fun r s₃ h₃ => wpAny_bind (wpAny_letTemporaryGo (wpAny_pure h₃))) fun _ _ x => x)
 first
  | exact wpAny_pure (wpAny_bind fin)
  | exact wpAny_bind (wpAny_pure (wpAny_bind fin))
  | exact wpAny_bind fin
theorem dict_typeIs {X : Cx} {pins : List (Addr × Obj)} {σ : St} {H : Hp} {s : Shared} {a : Addr} {y : V} {o : Option V} (I : Inv X pins σ H s) (g : DGet H a y o) : s.TypeIs (.ref a) "dict" := by
 rcases g with ⟨kvs, k, e, _, _⟩ | ⟨kvs, k, b, e, _, _, _⟩
 ·obtain ⟨_, _, vs, _, dd⟩ := dk_rd I.hok e
  exact dd.typeIs
 ·obtain ⟨_, _, xs, _, dd⟩ := dt_rd I.hok e
  exact dd.typeIs
def tDGet (td ty : TE) : TE := fun σ H Q => td σ H fun x H1 => ty σ H1 fun y H2 => ∃ a v, x = .ref a ∧ DGet H2 a y (some v) ∧ Q v H2
def tDNotIn (ty td : TE) : TE := fun σ H Q => ty σ H fun y H1 => td σ H1 fun x H2 => ∃ a o, x = .ref a ∧ DGet H2 a y o ∧ Q (.bl (!o.isSome)) H2
def sDPut (td ty tv : TE) : TS := fun D σ H => tv σ H fun v H1 => td σ H1 fun x H2 => ty σ H2 fun y H3 => ∃ a H4, x = .ref a ∧ DPut H3 a y v H4 ∧ D.nx σ H4
section
variable {X : Cx} {o i e value : Expr} {pos pos' tpos : Pos} {td ty tv : TE}
theorem pe_dget (hu : X.A.units + 1 < cLine) (ho : PE X o td) (hi : PE X i ty) (hs : NoSl i) : PE X (.Subscript o i pos) (tDGet td ty) := by
 intro pins s σ H Q I h
 refine subD_of PySem.F.slot_dict_getitem.lookup hs (thn (ho pins s σ H _ I h) fun u s1 ⟨x, H1, I1, rx, q1⟩ => thn (hi pins s1 σ H1 _ I1 q1) fun iv s2 ⟨y, H2, I2, ry, a, v, ex, g, q2⟩ => ?_)
 subst ex
 obtain rfl : u = Value.ref a := rx
 exact ⟨dict_typeIs I2 g, d_getItem hu I2 g ry fun w' s3 I3 rw' => ⟨v, H2, I3, rw', q2⟩⟩
theorem pc_dnotin (hu : X.A.units + 1 < cLine) (hi : PE X i ty) (ho : PE X o td) : PC X .NotIn i o (tDNotIn ty td) := by
 intro pins s σ H Q I h
 refine thn (hi pins s σ H _ I h) fun iv s1 ⟨y, H1, I1, ry, q1⟩ => thn (ho pins s1 σ H1 _ I1 q1) fun u s2 ⟨x, H2, I2, rx, a, ov, ex, g, q2⟩ => ?_
 subst ex
 obtain rfl : u = Value.ref a := rx
 exact d_notIn hu I2 g ry fun s3 I3 => ⟨.bl (!ov.isSome), H2, I3, rfl, q2⟩
theorem ps_dput (hu : X.A.units + 1 < cLine) (ho : PE X o td) (hi : PE X i ty) (hv : PE X value tv) (hs : swapsWith value (some (.Subscript o i pos')) pos.line X.env = pure false) :
  PS X (.Assign [.Subscript o i pos'] value pos) (sDPut td ty tv) := by
 intro pins s σ H D I h
 refine wpAny_Assign_Subscript (thn (hv pins s σ H _ I h) fun r s1 ⟨v, H1, I1, rv, q1⟩ => thn (ho pins s1 σ H1 _ I1 q1) fun u s2 ⟨x, H2, I2, rx, q2⟩ => thn (hi pins s2 σ H2 _ I2 q2) fun iv s3 ⟨y, H3, I3, ry, a, H4, ex, g, q3⟩ => ?_) hs
 subst ex
 obtain rfl : u = Value.ref a := rx
 exact d_setItem hu I3 g ry rv fun s4 I4 => ⟨σ, H4, I4, q3⟩
end
section
variable {X : Cx} {pos : Pos}
end
def tPairs : List (TE × TE) → St → Hp → (List (V × V) → Hp → Prop) → Prop
 | [], _, H, Q => Q [] H
 | (tk, tv) :: r, σ, H, Q => tk σ H fun x H1 => tv σ H1 fun y H2 => tPairs r σ H2 fun ps H3 => Q ((x, y) :: ps) H3
abbrev VV : List (V × V) → List (Value × Value) → Prop := Paired fun p q => RelV p.1 q.1 ∧ RelV p.2 q.2
def PPs (X : Cx) (pos : Pos) (keys : List (Option Expr)) (values : List Expr) (trs : List (TE × TE)) : Prop :=
 ∀ (pins : List (Addr × Obj)) (s : Shared) (σ : St) (H : Hp) (Q : List (V × V) → Hp → Prop), Inv X pins σ H s → tPairs trs σ H Q →
  wpAny (model X.prog X.w) X.A (evalPairs (pairTrees keys values X.env pos)) (fun vs s' => ∃ ps H', Inv X pins σ H' s' ∧ VV ps vs ∧ Q ps H') X.xe s
theorem pps_nil {X : Cx} {pos : Pos} : PPs X pos [] [] [] := fun pins s σ H Q I h => pairTrees_nil_walk ⟨[], H, I, .nil, h⟩
theorem pps_cons {X : Cx} {pos : Pos} {k v : Expr} {ks : List (Option Expr)} {vs : List Expr} {tk tv : TE} {trs : List (TE × TE)} (hk : PE X k tk) (hv : PE X v tv) (hr : PPs X pos ks vs trs) :
  PPs X pos (some k :: ks) (v :: vs) ((tk, tv) :: trs) := fun pins s σ H Q I h =>
 pairTrees_cons_walk (thn (hk pins s σ H _ I h) fun u s1 ⟨x, H1, I1, rx, q1⟩ => thn (hv pins s1 σ H1 _ I1 q1) fun w2 s2 ⟨y, H2, I2, ry, q2⟩ =>
  thn (hr pins s2 σ H2 _ I2 q2) fun ws s3 ⟨ps, H3, I3, rel, q3⟩ => ⟨(x, y) :: ps, H3, I3, .cons ⟨rx, ry⟩ rel, q3⟩)
def mergeK (kvs more : List (Key × V)) : List (Key × V) := more.foldl (fun acc kv => putK acc kv.1 kv.2) kvs
theorem KV.merge : ∀ {more : List (Key × V)} {rs : List (Key × Value)} {kvs : List (Key × V)} {vs : List (Key × Value)}, KV more rs → KV kvs vs → KV (mergeK kvs more) (merged vs rs) := by
 intro more rs kvs vs r
 unfold KV at r
 induction r generalizing kvs vs with
 | nil => intro q; exact q
 | @cons p q ps qs h t ih =>
  intro r0
  have e : KV (putK kvs p.1 p.2) (stored vs q.1 q.2) := by
   have := r0.put p.1 h.2
   rw [← h.1]; exact this
  exact ih e
theorem length_mergeK : ∀ (more kvs : List (Key × V)), (mergeK kvs more).length ≤ kvs.length + more.length
 | [], kvs => by show kvs.length ≤ kvs.length + 0; omega
 | p :: r, kvs => by
  have h1 := length_mergeK r (putK kvs p.1 p.2)
  have h2 := length_putK kvs p.1 p.2
  show (mergeK (putK kvs p.1 p.2) r).length ≤ _
  rw [List.length_cons]; omega
theorem carries_of {P : Program} {w : World} : ∀ {kvs : List (Key × V)} {ws : List (Value × Value)}, VV (kvs.map fun kv => (kV kv.1, kv.2)) ws → ∃ rs, Carries (mixKind P w) ws rs ∧ KV kvs rs
 | [], _, r => by rw [List.map_nil] at r; cases r; exact ⟨[], True.intro, .nil⟩
 | p :: kvs, _, r => by
  rw [List.map_cons] at r
  cases r with
  | @cons a b as bs h t =>
   obtain ⟨rs, c, q⟩ := carries_of (P := P) (w := w) t
   obtain ⟨b1, b2⟩ := b
   exact ⟨(p.1, b2) :: rs, ⟨kV_is h.1, rfl, c⟩, .cons ⟨rfl, h.2⟩ q⟩
def tDisp (trs : List (TE × TE)) : TE := fun σ H Q => ∀ p, H p = none → tPairs trs σ (upd H p (.dK [])) fun ps H2 => H2 p = some (.dK []) ∧ ∃ kvs : List (Key × V), ps = kvs.map (fun kv => (kV kv.1, kv.2)) ∧ kvs.length ≤ 15 ∧ Q (.ref p) (upd H2 p (.dK (mergeK [] kvs)))
theorem pe_disp {X : Cx} {pos : Pos} {keys : List (Option Expr)} {values : List Expr} {trs : List (TE × TE)} (h : PPs X pos keys values trs) (hall : keys.all (·.isSome) = true) (hl : keys.length = values.length) (h0 : keys ≠ [])
  (h15 : keys.length ≤ 15) : PE X (.Dict keys values pos) (tDisp trs) := by
 intro pins s σ H Q I q
 have hn := I.hok.fresh (Nat.le_refl s.heap.objs.size)
 have I1 := I.laid (a := s.heap.objs.size) (o := .dK []) (h' := s.heap.push { cls := .type "dict", data := .dict #[] }) (t' := s.toks) (fun _ _ q => Heap.get?_push_of_some _ q) (Nat.le_refl _) (dk_empty s.heap I.big)
 refine wpAny_Dict_walk (knd := mixKind X.prog X.w) hall hl h0 h15 (thn (h pins _ σ _ _ I1 (q _ hn)) fun ws s2 ⟨ps, H2, I2, rel, e, kvs, ep, lk, q2⟩ => ?_)
 subst ep
 obtain ⟨rs, c, rk⟩ := carries_of (P := X.prog) (w := X.w) rel
 obtain ⟨z, hd, vs0, r0, dd⟩ := dk_of I2.hok e
 cases r0
 refine ⟨rs, c, dd, fun h' dd' hs => ⟨.ref s.heap.objs.size, _, ?_, rfl, q2⟩⟩
 have hz : (mergeK [] kvs).length ≤ sizeLine := by
  have h1 := length_mergeK kvs []
  rw [List.length_nil] at h1
  rw [sizeLine_eq]; omega
 have he : ∃ q, h'.get? s.heap.objs.size = some q := let ⟨q, _, _, hq, _⟩ := dd'; ⟨q, hq⟩
 exact d_write I2 (by rw [e]; exact True.intro) hs he (dk_new hz hd (rk.merge .nil) dd')
structure M1 (X : Cx) (o : Expr) (m : Str) (apos : Pos) (e : Expr) (cpos : Pos) : Prop where
 base : attributeBase o m X.env (eval o X.env) = eval o X.env
 few : ((backTo cpos (starEach [e] X.env)).all (fun x => !x.1) && (backToKw cpos (keywordEach [] X.env)).all (fun x => x.1.isSome)
  && decide (([e] : List Expr).length + ([] : List Keyword).length + (if ([] : List Keyword).isEmpty then 0 else 1) < 30)) = true
 line : (apos.endLine == cpos.line) = true
 trees : backTo cpos (starEach [e] X.env) = [(false, eval e X.env)]
structure M2 (X : Cx) (o : Expr) (m : Str) (apos : Pos) (e f : Expr) (cpos : Pos) : Prop where
 base : attributeBase o m X.env (eval o X.env) = eval o X.env
 few : ((backTo cpos (starEach [e, f] X.env)).all (fun x => !x.1) && (backToKw cpos (keywordEach [] X.env)).all (fun x => x.1.isSome)
  && decide (([e, f] : List Expr).length + ([] : List Keyword).length + (if ([] : List Keyword).isEmpty then 0 else 1) < 30)) = true
 line : (apos.endLine == cpos.line) = true
 trees : backTo cpos (starEach [e, f] X.env) = [(false, eval e X.env), (false, eval f X.env)]
def IsDct (H : Hp) (a : Addr) : Prop := (∃ kvs, Rd H a (.dK kvs)) ∨ ∃ kvs, Rd H a (.dT kvs)
theorem isDct_at {X : Cx} {pins : List (Addr × Obj)} {σ : St} {H : Hp} {s : Shared} {a : Addr} (I : Inv X pins σ H s) (d : IsDct H a) :
  s.TypeIs (.ref a) "dict" ∧ (∀ b, Value.ref a = .ref b → ∃ ob, s.heap.get? b = some ob ∧ ob.dict = none) ∧ (a == sysModules) = false := by
 rcases d with ⟨kvs, e⟩ | ⟨kvs, e⟩
 ·obtain ⟨_, hd, vs, _, dd⟩ := dk_rd I.hok e
  refine ⟨dd.typeIs, fun b q => ?_, hd⟩
  cases q
  obtain ⟨ob, _, _, h1, h2, _⟩ := dd
  exact ⟨ob, h1, h2.2.1⟩
 ·obtain ⟨_, hd, xs, _, dd⟩ := dt_rd I.hok e
  refine ⟨dd.typeIs, fun b q => ?_, hd⟩
  cases q
  obtain ⟨ob, _, _, h1, h2, _⟩ := dd
  exact ⟨ob, h1, h2.2.1⟩
section
variable {X : Cx} {pins : List (Addr × Obj)} {σ : St} {H : Hp} {s : Shared} {a : Addr} {y d : V} {u r : Value} {o : Option V} {A : Around} {E : Value → Shared → Prop}
theorem d_get1 {Q : Value → Shared → Prop} (hu : A.units + 1 < cLine) (I : Inv X pins σ H s) (g : DGet H a y o) (ry : RelV y u) (h : ∀ w' s', Inv X pins σ H s' → RelV (o.getD .non) w' → Q w' s') :
  wpAny (model X.prog X.w) A (call (.builtin "dict.get") [.ref a, u]) Q E s := by
 rcases g with ⟨kvs, k, e, ey, l⟩ | ⟨kvs, k, b, e, ey, eb, l⟩
 ·subst ey
  obtain ⟨z, hd, vs, rel, dd⟩ := dk_rd I.hok e
  refine call_meetsIn PySem.F.slot_dict_get dd.typeIs PySem.F.entry_dict_get (PySem.F.args_dict_get_2 _ _) (meets_dict_get (mixKind X.prog X.w) a (kV_is ry) hd) ⟨_, dd.mapOf, h _ _ (I.tok _) ?_⟩
  rw [l]
  exact (rel.val k).getD rfl
 ·subst ey
  cases (show u = Value.ref b from ry)
  obtain ⟨z, hd, xs, rel, dd⟩ := dt_rd I.hok e
  refine call_meetsIn PySem.F.slot_dict_get dd.typeIs PySem.F.entry_dict_get (PySem.F.args_dict_get_2 _ _) (meetsH_dict_get (tupleKind (mixKind X.prog X.w)) a b hd) ⟨tupleKind_room_in1 hu, k, xs, key_of I.hok eb, dd, h _ _ (I.tok _) ?_⟩
  rw [l]
  exact (rel.val k).getD rfl
end
def tDGet1 (td ty : TE) : TE := fun σ H Q => td σ H fun x H1 => ∃ a, x = .ref a ∧ IsDct H1 a ∧ ty σ H1 fun y H2 => ∃ o, DGet H2 a y o ∧ Q (o.getD .non) H2
section
variable {X : Cx} {o e f : Expr} {apos cpos : Pos} {td ty tx : TE}
theorem pe_dget1 (hu : X.A.units + 1 < cLine) (ho : PE X o td) (he : PE X e ty) (m : M1 X o "get" apos e cpos) : PE X (.Call (.Attribute o "get" apos) [e] [] cpos) (tDGet1 td ty) := by
 intro pins s σ H Q I h
 refine wpAny_Call_method m.base m.few m.line PySem.F.plainAttrs_dict PySem.F.slot_dict_get PySem.F.type_dict_get (thn (ho pins s σ H _ I h) fun u s1 ⟨x, H1, I1, rx, a, ex, d, q1⟩ => ?_)
 subst ex
 obtain rfl : u = Value.ref a := rx
 obtain ⟨t1, t2, _⟩ := isDct_at I1 d
 refine ⟨t1, t2, ?_⟩
 rw [m.trees]
 refine Calls.callWith_builtin rfl (Calls.evalArgs_plain (Calls.spliced_cons (thn (he pins s1 σ H1 _ I1 q1) fun iv s2 ⟨y, H2, I2, ry, ov, g, q2⟩ => Calls.spliced_nil ?_)))
 exact d_get1 hu I2 g ry fun w' s3 I3 rw' => ⟨_, H2, I3, rw', q2⟩
end
section
variable {X : Cx} {pins : List (Addr × Obj)} {σ : St} {H : Hp} {s : Shared} {a : Addr} {kvs : List (Key × V)} {A : Around} {E : Value → Shared → Prop}
end
section
variable {X : Cx} {pins : List (Addr × Obj)} {σ : St} {H : Hp} {s : Shared} {a : Addr} {y : V} {u : Value} {A : Around} {E : Value → Shared → Prop}
end
end L2
namespace Att
open PySem PySem.W PySem.Calls PyProof.Rows
section
variable {prog : Program} {w : World} {A : Around} {E : Value → Shared → Prop} {s : Shared} {K : Frag}
end
end Att
namespace L2
open PySem PySem.Spec PyProof.Rows
end L2
namespace L2
open PySem PySem.Spec PyProof.Rows
end L2
namespace L2
open PySem PySem.Spec PyProof.Rows
section
variable {P : Program} {w : World} {K : PySem.W.Frag} {mg : Str → Option Value} {base : Heap}
end
section
variable {X : Cx}
end
section
variable {κ : Type} [DecidableEq κ]
end
end L2
namespace L2
open PySem PySem.Spec PyProof.Rows
theorem rv_owner : Manifest.owners.lookup (String.ofList ['d', 'e', 's', 'r', 'e', 'v', 'e', 'r'].reverse) = some Manifest.sig_reversed := by kernel_rfl
theorem rv_next : Slot "reversed" "__next__" "reversed.__next__" :=
 Slot.of (n := "__next__") (owner := "reversed") (by rw [typeLookup_type, builtinLookup_eq_fast]; kernel_rfl) (by decide +kernel) (by decide +kernel) (by decide +kernel) (by first | exact .inl (by decide +kernel) | exact .inr (by decide +kernel)) (by rw [isSubtype_type]; kernel_rfl)
theorem rv_next_entry : entryFor table "reversed.__next__" = some Builtin.«reversed.__next__» := entryFor_of_tree (by kernel_rfl)
theorem rv_next_args (a : Value) : argsOk "reversed.__next__" ⟨[a], []⟩ := by
 unfold argsOk
 rw [signature?_of (id := "reversed.__next__") (n := ['_', '_', 't', 'x', 'e', 'n', '_', '_']) (o := ['d', 'e', 's', 'r', 'e', 'v', 'e', 'r']) (by kernel_rfl) rv_owner]
 kernel_rfl
theorem rv_iter : Slot "reversed" "__iter__" "reversed.__iter__" :=
 Slot.of (n := "__iter__") (owner := "reversed") (by rw [typeLookup_type, builtinLookup_eq_fast]; kernel_rfl) (by decide +kernel) (by decide +kernel) (by decide +kernel) (by first | exact .inl (by decide +kernel) | exact .inr (by decide +kernel)) (by rw [isSubtype_type]; kernel_rfl)
theorem rv_iter_args (a : Value) : argsOk "reversed.__iter__" ⟨[a], []⟩ := by
 unfold argsOk
 rw [signature?_of (id := "reversed.__iter__") (n := ['_', '_', 'r', 'e', 't', 'i', '_', '_']) (o := ['d', 'e', 's', 'r', 'e', 'v', 'e', 'r']) (by kernel_rfl) rv_owner]
 kernel_rfl
theorem rv_iter_entry : entryFor table "reversed.__iter__" = some Builtin.«dict_keyiterator.__iter__» :=
 entryFor_alias (id' := "dict_keyiterator.__iter__") (by kernel_rfl) (by first | rfl | decide +kernel | (unfold String.splitOn; simp +decide [String.splitOnAux])) (by decide +kernel) (by kernel_rfl)
theorem rv_init : Slot "reversed" "__init__" "object.__init__" :=
 Slot.of (n := "__init__") (owner := "object") (by rw [typeLookup_type, builtinLookup_eq_fast]; kernel_rfl) (by decide +kernel) (by decide +kernel) (by decide +kernel) (by first | exact .inl (by decide +kernel) | exact .inr (by decide +kernel)) (by rw [isSubtype_type]; kernel_rfl)
theorem rv_mro : mroOf (.type "reversed") = pure [.type "reversed", .type "object"] := by
 rw [mroOf_type]
 kernel_rfl
theorem rv_look : typeLookup (.type "reversed") "__new__" = pure (some (.builtin "reversed.__new__")) := by
 rw [typeLookup_type, builtinLookup_eq_fast]
 kernel_rfl
theorem rv_made : Bind.madeBy (.type "reversed") = pure (some "reversed.__new__") := madeBy_type rv_mro rv_look (by decide +kernel)
theorem rv_type (a : Value) : checkTypeCall "reversed" ⟨[a], []⟩ = pure () := by
 kernel_rfl
theorem rv_newc (a : Value) : checkBuiltinCall "reversed.__new__" ⟨[.type "reversed", a], []⟩ = pure () := by
 kernel_rfl
theorem rv_new_entry : entryFor table "reversed.__new__" = some Builtin.«reversed.__new__» :=
 entryFor_of_tree (by kernel_rfl)
theorem rv_self : isSubtype (.type "reversed") (.type "reversed") = pure true := by
 rw [isSubtype_type]
 kernel_rfl
theorem rv_class (a : Value) : Builtin.SmallTypes.newClass "reversed" ⟨[.type "reversed", a], []⟩ = pure (.type "reversed", [a]) := by
 unfold Builtin.SmallTypes.newClass
 simp only [isType, rv_self, pure_bind, Bool.not_true, Bool.false_eq_true, if_false]
theorem rv_called : TypeCalled "reversed" "reversed.__new__" "object.__init__" :=
 ⟨by decide +kernel, by decide +kernel, ⟨_, _, rv_mro⟩, rv_made, by decide +kernel, by rw [isSubtype_type]; kernel_rfl, rv_init⟩
theorem rv_none : typeLookup (.type "tuple") "__reversed__" = pure none := by rw [typeLookup_type, builtinLookup_eq_fast]; kernel_rfl
theorem rv_tupdict : isSubtype (.type "tuple") (.type "dict") = pure false := by rw [isSubtype_type]; kernel_rfl
abbrev rvObj (a : Addr) (i : Int) : Obj := { cls := .type "reversed", data := .fields #[.ref a, rawInt i] }
def IsRv (h : Heap) (z a : Addr) (i : Int) : Prop := ∃ o, h.get? z = some o ∧ o.cls = .type "reversed" ∧ o.data = .fields #[.ref a, rawInt i]
theorem rv_new (a : Addr) (xs : Array Value) (hz : (xs.size : Int) < 2 ^ 63) :
  Meets (Builtin.«reversed.__new__» ⟨[.type "reversed", .ref a], []⟩) (fun _ R s => IsTup s.heap a xs ∧
   R (.ok (.ret (.ref s.heap.objs.size))) { s with heap := s.heap.push (rvObj a ((xs.size : Int) - 1)), toks := s.toks + 1 + 1 }) :=
 .of_wp fun prog w A R s h => by
  obtain ⟨hp, g, d, tk, os⟩ := s
  obtain ⟨h1, h⟩ := h
  have h1 : IsTup (Shared.heap ⟨hp, g, d, tk, os⟩) a xs := h1
  unfold Builtin.«reversed.__new__»
  refine wpAny_bind (wpAny_of_eq (rv_class _) ?_)
  try dsimp only
  refine wpAny_bind (wpAny_of_eq (a := ()) (by first | rfl | kernel_rfl) ?_)
  refine wpAny_bind (wpAny_of_eq (a := ()) (by first | rfl | kernel_rfl) ?_)
  try dsimp only
  refine wpAny_bind (wpAny_specialOf h1.typeIs rv_none ?_)
  try dsimp only
  refine wpAny_bind ?_
  show wpAny _ _ (isInstance (.ref a) (.type "dict") >>= _) _ _ _
  refine wpAny_bind (wpAny_isInstance h1.typeIs rv_tupdict ?_)
  show wpAny _ _ (specialOf (.ref a) (Str.ofString "__getitem__") >>= _) _ _ _
  refine wpAny_bind (wpAny_specialOf h1.typeIs slot_tuple_getitem.lookup ?_)
  dsimp only
  rw [if_pos (by decide)]
  refine wpAny_pure ?_
  rw [if_neg (by decide)]
  refine wpAny_bind (len_tuple h1 hz ?_)
  refine wpAny_bind (wpAny_of_eq (a := some (xs.size : Int)) (by first | rfl | kernel_rfl) ?_)
  dsimp only
  refine wpAny_bind ?_
  unfold Builtin.SmallTypes.newRecord
  refine wpAny_newObj_type (wpAny_pure ⟨_, rfl, h⟩) (by show 2 ≤ sizeLine + 2; decide)
theorem call_rv {prog : Program} {w : World} {A : Around} {E : Value → Shared → Prop} {s : Shared} {a : Addr} {xs : Array Value} {Q : Value → Shared → Prop} (hz : (xs.size : Int) < 2 ^ 63) (h1 : IsTup s.heap a xs)
  (q : ∀ g, IsRv g s.heap.objs.size a ((xs.size : Int) - 1) → (∀ c o, s.heap.get? c = some o → g.get? c = some o) → Q (.ref s.heap.objs.size) { s with heap := g, toks := s.toks + 1 + 1 }) :
  wpAny (model prog w) A (call (.type "reversed") [.ref a]) Q E s := by
 refine callType_new rv_called (by decide) (rv_type _) (rv_newc _) (fun obj => F.args_object_init_2 obj _) rv_new_entry (rv_new a xs hz) ⟨h1, ?_⟩
 have f2 := Heap.get?_push_size s.heap (o := rvObj a ((xs.size : Int) - 1)) rfl
 exact ⟨⟨_, f2, rfl⟩, q _ ⟨_, f2, rfl, rfl⟩ fun c o x => Heap.get?_push_of_some _ x⟩
section
variable {prog : Program} {w : World} {A : Around} {E : Value → Shared → Prop} {s : Shared}
theorem IsRv.typeIs {z a : Addr} {i : Int} (x : IsRv s.heap z a i) : s.TypeIs (.ref z) "reversed" := let ⟨o, ho, hc, _⟩ := x; ⟨o, ho, hc⟩
theorem rv_walk {z a : Addr} {i : Int} {Q : Value → Shared → Prop} (x : IsRv s.heap z a i) (h : Q (.ref z) s) : wpAny (model prog w) A (pyIter (.ref z)) Q E s := by
 refine wpAny_pyIter_slot x.typeIs rv_iter (wpAny_call_entry rv_iter x.typeIs rv_iter_entry ?_ (rv_iter_args _))
 show wpAny _ _ (ret (.ref z)) _ _ s
 exact wpAny_pure ⟨_, rfl, "reversed", _, x.typeIs, rv_next.lookup, h⟩
theorem rv_item {z a : Addr} {k : Nat} {xs : Array Value} {x : Value} {Q : Option Value → Shared → Prop} (R : IsRv s.heap z a (k : Int)) (T : IsTup s.heap a xs) (hz : (xs.size : Int) < 2 ^ 63) (hx : xs[k]? = some x)
  (q : ∀ g, IsRv g z a ((k : Int) - 1) → Heap.SameBut z s.heap g → Q (some x) { s with heap := g, toks := s.toks + 1 }) : wpAny (model prog w) A (pyNext (.ref z)) Q E s := by
 obtain ⟨o, ho, hc, hd⟩ := id R
 have hk : k < xs.size := by
  rcases Nat.lt_or_ge k xs.size with h | h
  ·exact h
  ·rw [Array.getElem?_eq_none h] at hx; cases hx
 unfold pyNext
 refine wpAny_bind (wpAny_attempt (wpAny_callSpecial?_slot (name := Str.ofString "__next__") R.typeIs rv_next (wpAny_call_entry rv_next R.typeIs rv_next_entry ?_ (rv_next_args _))))
 unfold Builtin.«reversed.__next__»
 refine wpAny_bind (wpAny_of_eq (a := (Value.ref z, [])) rfl ?_)
 dsimp only
 refine wpAny_bind (wpAny_field ho hd (x := .ref a) rfl ?_)
 refine wpAny_bind (wpAny_field ho hd (x := rawInt (k : Int)) rfl ?_)
 show wpAny _ _ (if (k : Int) < 0 then _ else _) _ _ s
 rw [if_neg (by omega)]
 refine wpAny_bind (wpAny_specialOf T.typeIs slot_tuple_getitem.lookup ?_)
 rw [if_neg (by simp)]
 refine wpAny_bind (wpAny_mkInt ?_)
 have T2 : IsTup (Shared.heap { s with toks := s.toks + 1 }) a xs := T
 refine wpAny_bind (wpAny_attempt (getItem_tuple (j := k) T2 (by omega) (by omega) (PySem.StrLaws.seqIndex_nonneg (by omega) (by omega)) hx ?_))
 dsimp only
 refine wpAny_bind (wpAny_field (s := { s with toks := s.toks + 1 }) ho hd (x := rawInt (k : Int)) rfl ?_)
 show wpAny _ _ (setField (.ref z) 1 (rawInt ((k : Int) - 1)) >>= _) _ _ _
 refine wpAny_bind (wpAny_setField (s := { s with toks := s.toks + 1 }) ho hd (by simp) ?_)
 refine wpAny_pure ⟨x, rfl, wpAny_pure (q _ ?_ (Heap.SameBut.update ..))⟩
 exact ⟨_, Heap.get?_update_self _ ho (Obj.isFreed_of_fields (Obj.data_mapFields hd _)), (Obj.cls_mapFields ..).trans hc, by rw [Obj.data_mapFields hd]; simp⟩
theorem rv_end {z a : Addr} {i : Int} {Q : Option Value → Shared → Prop} (hh : A.handled = none) (R : IsRv s.heap z a i) (hi : i < 0)
  (q : ∀ g, Heap.ExtBut z s.heap g → Q none { s with heap := g }) : wpAny (model prog w) A (pyNext (.ref z)) Q E s := by
 obtain ⟨o, ho, hc, hd⟩ := id R
 unfold pyNext
 refine wpAny_bind (wpAny_attempt (wpAny_callSpecial?_slot (name := Str.ofString "__next__") R.typeIs rv_next (wpAny_call_entry rv_next R.typeIs rv_next_entry ?_ (rv_next_args _))))
 unfold Builtin.«reversed.__next__»
 refine wpAny_bind (wpAny_of_eq (a := (Value.ref z, [])) rfl ?_)
 dsimp only
 refine wpAny_bind (wpAny_field ho hd (x := .ref a) rfl ?_)
 refine wpAny_bind (wpAny_field ho hd (x := rawInt i) rfl ?_)
 show wpAny _ _ (if i < 0 then _ else _) _ _ s
 rw [if_pos hi]
 refine wpAny_bind (wpAny_rule ?_)
 refine wpAny_bind ?_
 show wpAny _ _ (setField (.ref z) 1 (rawInt (-1)) >>= _) _ _ _
 refine wpAny_bind (wpAny_setField ho hd (by simp) ?_)
 refine wpAny_setField (Heap.get?_update_self _ ho (Obj.isFreed_of_fields (Obj.data_mapFields hd _))) (Obj.data_mapFields hd _) (by simp) ?_
 refine wpAny_bind ?_
 show wpAny _ _ (newExc (.type "StopIteration") [] >>= _) _ _ _
 refine wpAny_bind ?_
 simp only [newExc, newTuple]
 refine wpAny_bind (wpAny_newObj_type ?_ (by size_fits))
 refine wpAny_bind (m := firstArgMember _ _) (wpAny_of_eq (a := Value.none) (by first | rfl | (unfold firstArgMember; rfl)) ?_)
 refine wpAny_newObj_type ?_ (by size_fits)
 simp only [raiseNew]
 refine wpAny_bind (wpAny_handled ?_)
 first | rw [show A.in1.handled = none from hh] | rw [hh]
 refine wpAny_bind (wpAny_pure (wpAny_throw ?_))
 refine wpAny_bind (wpAny_isInstance (T := "StopIteration") (b := true) ⟨_, Heap.get?_push_size _ rfl, rfl⟩ isSubtype_stop ?_)
 have x1 : Heap.ExtBut z s.heap (s.heap.update z (Obj.mapFields fun vs => vs.setIfInBounds 1 (rawInt (-1)))) := (Heap.SameBut.update ..).extBut
 refine wpAny_pure (q _ (Heap.ExtBut.push (Heap.ExtBut.push ?_ _) _))
 exact fun b o' hb e => (Heap.SameBut.update ..).extBut b o' hb ((Heap.SameBut.update ..).extBut b o' hb e)
end
end L2
namespace L2
open PySem PySem.Spec PyProof.Rows
section
variable {M : Model} {A : Around} {E : Value → Shared → Prop}
theorem wp_forIn {α β : Type} {f : α → β → Sem (ForInStep β)} {Q : β → Shared → Prop} : ∀ (l : List α) (I : Nat → β → Shared → Prop) (b : β) (s : Shared), I 0 b s →
  (∀ i a b s, l[i]? = some a → I i b s → wpAny M A (f a b) (fun r s' => ∃ b', r = .yield b' ∧ I (i + 1) b' s') E s) → (∀ b s, I l.length b s → Q b s) → wpAny M A (forIn l b f) Q E s
 | [], _, b, s, h0, _, hd => by
  rw [List.forIn_nil]
  exact wpAny_pure (hd b s h0)
 | a :: l, I, b, s, h0, hs, hd => by
  rw [List.forIn_cons]
  refine wpAny_bind (wpAny_mono (hs 0 a b s rfl h0) (fun r s' ⟨b', e, h'⟩ => ?_) fun _ _ f => f)
  subst e
  exact wp_forIn l (fun i => I (i + 1)) b' s' h' (fun i a b s ha hi => hs (i + 1) a b s ha hi) fun b s h => hd b s h
end
structure Sq where
 l : Bool
 a : Addr
def SqAt (h : Heap) (c : Sq) (xs : Array Value) : Prop := match c.l with | true => h.IsList c.a xs | false => h.IsTuple c.a xs
def ItAt (h : Heap) (c : Sq) (i : Addr) (k : Nat) : Prop := match c.l with | true => h.IsListIter i c.a k | false => h.IsTupleIter i c.a k
abbrev IsRow (h : Heap) (T : Addr) (vs : List Value) : Prop := h.get? T = some { cls := .type "tuple", data := .seq vs.toArray }
theorem SqAt.ext {h g : Heap} {c : Sq} {xs : Array Value} (x : SqAt h c xs) (e : ∀ o, h.get? c.a = some o → g.get? c.a = some o) : SqAt g c xs := by
 obtain ⟨l, a⟩ := c
 cases l with
 | true => obtain ⟨o, ho, r⟩ := (show h.IsList a xs from x); exact ⟨o, e o ho, r⟩
 | false => obtain ⟨o, ho, r⟩ := (show h.IsTuple a xs from x); exact ⟨o, e o ho, r⟩
theorem ItAt.ext {h g : Heap} {c : Sq} {i : Addr} {k : Nat} (x : ItAt h c i k) (e : ∀ o, h.get? i = some o → g.get? i = some o) : ItAt g c i k := by
 obtain ⟨l, a⟩ := c
 cases l with
 | true => obtain ⟨o, ho, r⟩ := (show h.IsListIter i a k from x); exact ⟨o, e o ho, r⟩
 | false => obtain ⟨o, ho, r⟩ := (show h.IsTupleIter i a k from x); exact ⟨o, e o ho, r⟩
theorem ItAt.obj {h : Heap} {c : Sq} {i : Addr} {k : Nat} (x : ItAt h c i k) : ∃ o, h.get? i = some o ∧ ∀ v, o.data ≠ .cell v := by
 obtain ⟨l, a⟩ := c
 cases l with
 | true => obtain ⟨o, ho, _, d⟩ := (show h.IsListIter i a k from x); exact ⟨o, ho, fun v z => by rw [d] at z; cases z⟩
 | false => obtain ⟨o, ho, _, d⟩ := (show h.IsTupleIter i a k from x); exact ⟨o, ho, fun v z => by rw [d] at z; cases z⟩
section
variable {prog : Program} {w : World} {A : Around} {E : Value → Shared → Prop} {s : Shared}
theorem nextS_item {c : Sq} {i : Addr} {k : Nat} {xs : Array Value} {v : Value} {Q : Value → Shared → Prop} (jt : ItAt s.heap c i k) (tt : SqAt s.heap c xs) (hv : xs[k]? = some v)
  (q : ∀ g, ItAt g c i (k + 1) → Heap.SameBut i s.heap g → Q v { s with heap := g }) : wpAny (model prog w) A (Builtin.SmallTypes.nextOf (.ref i)) Q E s := by
 obtain ⟨l, a⟩ := c
 cases l with
 | true => exact wpAny_nextOf_list_item (show s.heap.IsListIter i a k from jt) (show s.heap.IsList a xs from tt) hv fun g h1 h2 => q g h1 h2
 | false => exact nextT_item (show s.heap.IsTupleIter i a k from jt) (show s.heap.IsTuple a xs from tt) hv fun g h1 h2 => q g h1 h2
theorem nextS_end {c : Sq} {i : Addr} {k : Nat} {xs : Array Value} {Q : Value → Shared → Prop} (hh : A.handled = none) (jt : ItAt s.heap c i k) (tt : SqAt s.heap c xs) (hv : xs[k]? = none)
  (q : ∀ g x, Heap.ExtBut i s.heap g → (∃ o, g.get? x = some o ∧ o.cls = .type "StopIteration") → E (.ref x) { s with heap := g }) : wpAny (model prog w) A (Builtin.SmallTypes.nextOf (.ref i)) Q E s := by
 obtain ⟨l, a⟩ := c
 cases l with
 | true => exact wpAny_nextOf_list_end hh (show s.heap.IsListIter i a k from jt) (show s.heap.IsList a xs from tt) hv fun g x h1 h2 => q g x h1 h2
 | false => exact nextT_end hh (show s.heap.IsTupleIter i a k from jt) (show s.heap.IsTuple a xs from tt) hv fun g x h1 h2 => q g x h1 h2
theorem iterS {c : Sq} {xs : Array Value} {Q : Value → Shared → Prop} (tt : SqAt s.heap c xs)
  (q : ∀ g, ItAt g c s.heap.objs.size 0 → g.objs.size = s.heap.objs.size + 1 → (∀ b o, s.heap.get? b = some o → g.get? b = some o) → Q (.ref s.heap.objs.size) { s with heap := g }) : wpAny (model prog w) A (pyIter (.ref c.a)) Q E s := by
 obtain ⟨l, a⟩ := c
 cases l with
 | true => exact wpAny_pyIter_list (show s.heap.IsList a xs from tt) (q _ ⟨_, Heap.get?_push_size _ rfl, rfl, rfl⟩ (Heap.size_push ..) fun b o e => Heap.get?_push_of_some _ e)
 | false => exact wpAny_pyIter_tuple (show s.heap.IsTuple a xs from tt) (q _ ⟨_, Heap.get?_push_size _ rfl, rfl, rfl⟩ (Heap.size_push ..) fun b o e => Heap.get?_push_of_some _ e)
theorem updRow {T : Addr} {vs : List Value} {x : Value} {k : Nat} {Q : Unit → Shared → Prop} (hT : IsRow s.heap T vs) (hz : vs.length ≤ 100)
  (h : ∀ g, IsRow g T (vs.set k x) → Heap.SameBut T s.heap g → Q () { s with heap := g }) : wpAny (model prog w) A (updateSeq T (·.setIfInBounds k x)) Q E s := by
 refine wpAny_updateSeq hT rfl (h _ ?_ (Heap.SameBut.update ..)) (by rw [List.size_toArray]; exact Nat.le_trans hz (by decide)) (by rw [Array.size_setIfInBounds, List.size_toArray]; exact Nat.le_trans hz (by decide))
 show Heap.get? _ T = _
 rw [Heap.get?_update_self _ hT rfl]
 simp [Obj.mapSeq]
structure ZIn (h g : Heap) (z TI TO : Addr) (cs : List Sq) (is : List Addr) (k j : Nat) (vs old : List Value) : Prop where
 sz : g.objs.size = h.objs.size
 zip : IsZip g z TI TO .ellipsis
 row : IsRow g TO (vs.take j ++ old.drop j)
 its : ∀ (n : Nat) c i, cs[n]? = some c → is[n]? = some i → ItAt g c i (if n < j then k + 1 else k)
 ext : ∀ e o, e ≠ z → e ≠ TO → e ∉ is → h.get? e = some o → g.get? e = some o
structure ZOk (h : Heap) (z TI TO : Addr) (cs : List Sq) (is : List Addr) (k : Nat) (old : List Value) : Prop where
 len : is.length = cs.length
 few : cs.length ≤ 8
 pos : 0 < cs.length
 nod : (z :: TI :: TO :: is).Nodup
 zip : IsZip h z TI TO .none
 ti : IsRow h TI (is.map Value.ref)
 to : IsRow h TO old
 lo : old.length = cs.length
 its : ∀ (n : Nat) c i, cs[n]? = some c → is[n]? = some i → ItAt h c i k
 off : ∀ c ∈ cs, c.a ≠ z ∧ c.a ≠ TO ∧ c.a ∉ is
theorem nod_ne {is : List Addr} {i : Addr} {n j : Nat} {e : Addr} (hn : is.Nodup) (h1 : is[j]? = some i) (h2 : is[n]? = some e) (h : n ≠ j) : e ≠ i := fun z => by
 subst z
 have a := (List.getElem?_eq_some_iff.mp h1)
 have b := (List.getElem?_eq_some_iff.mp h2)
 obtain ⟨ha, ea⟩ := a
 obtain ⟨hb, eb⟩ := b
 exact h ((List.getElem_inj hn).mp (eb.trans ea.symm))
theorem ZIn.step {h g : Heap} {z TI TO : Addr} {cs : List Sq} {is : List Addr} {k j : Nat} {vs old : List Value} {i : Addr} {c : Sq} (D : ZOk h z TI TO cs is k old) (Z : ZIn h g z TI TO cs is k j vs old) (hi : is[j]? = some i) (hc : cs[j]? = some c) {g2 g3 : Heap} {v : Value} (hv : vs[j]? = some v) (lv : vs.length = cs.length)
  (n2 : ItAt g2 c i (k + 1)) (s2 : Heap.SameBut i g g2) (r3 : IsRow g3 TO ((vs.take j ++ old.drop j).set j v)) (s3 : Heap.SameBut TO g2 g3) : ZIn h g3 z TI TO cs is k (j + 1) vs old := by
 have nod := D.nod
 rw [List.nodup_cons, List.nodup_cons, List.nodup_cons] at nod
 obtain ⟨nz, nT, nO, ni⟩ := nod
 have mi : i ∈ is := List.mem_of_getElem? hi
 have iz : z ≠ i := fun q => nz (by rw [q]; simp [mi])
 have iO : TO ≠ i := fun q => nO (by rw [q]; exact mi)
 have zO : z ≠ TO := fun q => nz (by rw [q]; simp)
 have jl : j < cs.length := (List.getElem?_eq_some_iff.mp hc).1
 refine ⟨by rw [s3.1, s2.1, Z.sz], s3.extBut _ _ zO (s2.extBut _ _ iz Z.zip), ?_, fun n c' i' hc' hi' => ?_, fun e o e1 e2 e3 q => s3.extBut _ _ e2 (s2.extBut _ _ (fun y => e3 (by rw [y]; exact mi)) (Z.ext e o e1 e2 e3 q))⟩
 ·have lo := D.lo
  have e : (vs.take j ++ old.drop j).set j v = vs.take (j + 1) ++ old.drop (j + 1) := by
   have l1 : (vs.take j).length = j := by rw [List.length_take]; omega
   rw [List.set_append, if_neg (by omega), l1, Nat.sub_self, List.drop_eq_getElem_cons (by omega : j < old.length), List.set_cons_zero, List.take_add_one, hv]
   simp
  rw [← e]; exact r3
 ·have mi' : i' ∈ is := List.mem_of_getElem? hi'
  have iO' : i' ≠ TO := fun q => nO (by rw [← q]; exact mi')
  by_cases e : n = j
  ·subst e
   rw [hi] at hi'; rw [hc] at hc'
   cases hi'; cases hc'
   rw [if_pos (by omega)]
   exact n2.ext fun o q => s3.extBut _ _ iO' q
  ·have q := Z.its n c' i' hc' hi'
   have e2 : (if n < j + 1 then k + 1 else k) = (if n < j then k + 1 else k) := by
    by_cases y : n < j
    ·rw [if_pos y, if_pos (by omega)]
    ·rw [if_neg y, if_neg (by omega)]
   rw [e2]
   exact q.ext fun o r => s3.extBut _ _ iO' (s2.extBut _ _ (nod_ne ni hi hi' e) r)
theorem zipS_go {z TI TO : Addr} {cs : List Sq} {is : List Addr} {k : Nat} {old vs : List Value} {Q : Option Value → Shared → Prop} (D : ZOk s.heap z TI TO cs is k old)
  (hv : ∀ (n : Nat) c, cs[n]? = some c → ∃ xs v, SqAt s.heap c xs ∧ xs[k]? = some v ∧ vs[n]? = some v) (lv : vs.length = cs.length)
  (q : ∀ g, IsZip g z TI TO (rawInt s.heap.objs.size) → IsRow g TO vs → (∀ (n : Nat) c i, cs[n]? = some c → is[n]? = some i → ItAt g c i (k + 1)) → IsRow g s.heap.objs.size vs → g.objs.size = s.heap.objs.size + 1 →
   (∀ e o, e ≠ z → e ≠ TO → e ∉ is → s.heap.get? e = some o → g.get? e = some o) → Q (some (.ref s.heap.objs.size)) { s with heap := g }) : wpAny (model prog w) A (pyNext (.ref z)) Q E s := by
 have hT : s.TypeIs (.ref z) "zip" := ⟨_, D.zip, rfl⟩
 have nod := D.nod
 rw [List.nodup_cons, List.nodup_cons, List.nodup_cons] at nod
 obtain ⟨nz, nT, nO, ni⟩ := nod
 have zO : z ≠ TO := fun q => nz (by rw [q]; simp)
 have few := D.few
 have len := D.len
 unfold pyNext
 refine wpAny_bind (wpAny_attempt (wpAny_callSpecial?_slot (name := Str.ofString "__next__") hT F.slot_zip_next (wpAny_call_entry F.slot_zip_next hT F.entry_zip_next ?_ (F.args_zip_next_1 _))))
 show wpAny _ _ (field (.ref z) 2 >>= _) _ _ s
 refine wpAny_bind (wpAny_field D.zip rfl (x := .bool false) (by rfl) ?_)
 show wpAny _ _ (field (.ref z) 3 >>= _) _ _ s
 refine wpAny_bind (wpAny_field D.zip rfl (x := .ref TI) (by rfl) ?_)
 refine wpAny_bind (wpAny_seqItems D.ti rfl ?_)
 dsimp only
 rw [if_neg (by intro y; rw [Array.isEmpty_iff_size_eq_zero, List.size_toArray, List.length_map, len] at y; have := D.pos; omega)]
 refine wpAny_bind ?_
 unfold Builtin.SmallTypes.ownedTupleIsFree
 refine wpAny_bind (wpAny_field D.zip rfl (x := .none) (by rfl) (wpAny_pure ?_))
 simp only [if_true]
 refine wpAny_bind (wpAny_rule ?_)
 refine wpAny_bind (wpAny_field D.zip rfl (x := .ref TO) (by rfl) ?_)
 refine wpAny_bind (wpAny_setField_rec D.zip (by simp) fun g1 z1 s1 => ?_)
 have z1 : IsZip g1 z TI TO .ellipsis := z1
 refine wpAny_bind ?_
 refine wp_forIn _ (fun j b s' => b = _ ∧ ∃ g, s' = { s with heap := g } ∧ ZIn s.heap g z TI TO cs is k j vs old) _ _ ⟨rfl, g1, rfl, ?_⟩ ?_ ?_
 ·refine ⟨s1.1, z1, s1.extBut _ _ zO.symm D.to, fun n c i hc hi => ?_, fun e o e1 _ _ h => s1.extBut _ _ e1 h⟩
  rw [if_neg (by omega)]
  exact (D.its n c i hc hi).ext fun o h => s1.extBut _ _ (fun y => nz (by rw [← y]; simp [List.mem_of_getElem? hi])) h
 ·rintro j a b s' ha ⟨rfl, g, rfl, Z⟩
  rw [List.getElem?_zipIdx] at ha
  obtain ⟨x, hx, rfl⟩ := Option.map_eq_some_iff.mp ha
  have hx : (is.map Value.ref)[j]? = some x := by simpa using hx
  rw [List.getElem?_map] at hx
  obtain ⟨i, hi, rfl⟩ := Option.map_eq_some_iff.mp hx
  have jl : j < cs.length := by rw [← len]; exact (List.getElem?_eq_some_iff.mp hi).1
  have hc : cs[j]? = some cs[j] := gE jl
  obtain ⟨xs, v, hq, hxv, hvv⟩ := hv j _ hc
  obtain ⟨o1, o2, o3⟩ := D.off _ (List.getElem_mem jl)
  have it := Z.its j _ i hc hi
  rw [if_neg (by omega)] at it
  dsimp only
  refine wpAny_bind (wpAny_onRaise ?_)
  show wpAny _ _ (Builtin.SmallTypes.nextOf (.ref i) >>= _) _ _ _
  refine wpAny_bind (nextS_item it (hq.ext fun o h => Z.ext _ o o1 o2 o3 h) hxv fun g2 n2 s2 => wpAny_pure ?_)
  have iO : TO ≠ i := fun q => nO (by rw [q]; exact List.mem_of_getElem? hi)
  have r2 : IsRow g2 TO (vs.take j ++ old.drop j) := s2.extBut _ _ iO Z.row
  refine wpAny_bind (wpAny_seqItems r2 rfl ?_)
  refine wpAny_bind (updRow (x := v) (k := 0 + j) r2 (by rw [List.length_append, List.length_take, List.length_drop]; have := D.lo; omega) fun g3 r3 s3 => ?_)
  rw [Nat.zero_add] at r3
  refine wpAny_bind (wpAny_letGo (wpAny_pure ⟨_, rfl, rfl, g3, rfl, Z.step D hi hc hvv lv n2 s2 r3 s3⟩))
 ·rintro b s' ⟨rfl, g5, rfl, Z⟩
  have ll : ((is.map Value.ref).toArray.toList.zipIdx).length = cs.length := by simp [len]
  rw [ll] at Z
  have z5 := Z.zip
  have o5 : IsRow g5 TO vs := by
   have := Z.row
   rw [← lv, List.take_length, lv, ← D.lo, List.drop_length, List.append_nil] at this
   exact this
  have m5 : ∀ (n : Nat) c i, cs[n]? = some c → is[n]? = some i → ItAt g5 c i (k + 1) := fun n c i hc hi => by
   have := Z.its n c i hc hi
   rw [if_pos (List.getElem?_eq_some_iff.mp hc).1] at this
   exact this
  dsimp only
  refine wpAny_bind (wpAny_seqItems o5 rfl ?_)
  refine wpAny_bind (wpAny_newTuple ?_)
  have zlt : z < g5.objs.size := Heap.lt_size z5
  have sz := Z.sz
  refine wpAny_bind ?_
  unfold Builtin.SmallTypes.ownedTupleHandOut
  have z6 : IsZip (g5.push { cls := .type "tuple", data := .seq vs.toArray }) z TI TO .ellipsis := Heap.get?_push_of_some _ z5
  refine wpAny_bind (wpAny_setField_rec z6 (by simp) fun g7 z7 s7 => ?_)
  have z7 : IsZip g7 z TI TO (rawInt g5.objs.size) := z7
  refine wpAny_setField_rec z7 (by simp) fun g8 z8 s8 => ?_
  have z8 : IsZip g8 z TI TO (rawInt g5.objs.size) := z8
  have up : ∀ e o, e ≠ z → g5.get? e = some o → g8.get? e = some o := fun e o c1 h => s8.extBut _ _ c1 (s7.extBut _ _ c1 (Heap.get?_push_of_some _ h))
  have t8 : IsRow g8 g5.objs.size vs := s8.extBut _ _ (Nat.ne_of_gt zlt) (s7.extBut _ _ (Nat.ne_of_gt zlt) (Heap.get?_push_size _ rfl))
  have sz8 : g8.objs.size = g5.objs.size + 1 := by rw [s8.1, s7.1, Heap.size_push]
  rw [sz] at z8 t8 sz8
  refine wpAny_pure ⟨_, rfl, ?_⟩
  refine wpAny_pure ?_
  show Q (some (.ref g5.objs.size)) _
  rw [sz]
  refine q g8 z8 (up _ _ zO.symm o5) (fun n c i hc hi => (m5 n c i hc hi).ext fun o h => up _ o (fun y => nz (by rw [← y]; simp [List.mem_of_getElem? hi])) h) t8 sz8 fun e o c1 c2 c3 h => up e o c1 (Z.ext e o c1 c2 c3 h)
theorem zipS_stop {z TI TO : Addr} {cs : List Sq} {is : List Addr} {k : Nat} {old vs : List Value} {m : Nat} {cm : Sq} {Q : Option Value → Shared → Prop} (hh : A.handled = none) (D : ZOk s.heap z TI TO cs is k old)
  (hv : ∀ (n : Nat) c, cs[n]? = some c → n < m → ∃ xs v, SqAt s.heap c xs ∧ xs[k]? = some v ∧ vs[n]? = some v) (lv : vs.length = cs.length) (hm : cs[m]? = some cm) {xm : Array Value} (hxm : SqAt s.heap cm xm) (hem : xm[k]? = none)
  (q : ∀ g, (∀ e o, e ≠ z → e ≠ TO → e ∉ is → s.heap.get? e = some o → g.get? e = some o) → Q none { s with heap := g }) : wpAny (model prog w) A (pyNext (.ref z)) Q E s := by
 have hT : s.TypeIs (.ref z) "zip" := ⟨_, D.zip, rfl⟩
 have nod := D.nod
 rw [List.nodup_cons, List.nodup_cons, List.nodup_cons] at nod
 obtain ⟨nz, nT, nO, ni⟩ := nod
 have zO : z ≠ TO := fun q => nz (by rw [q]; simp)
 have few := D.few
 have len := D.len
 have fin : ∀ g x, (∀ e o, e ≠ z → e ≠ TO → e ∉ is → s.heap.get? e = some o → g.get? e = some o) → (∃ o, g.get? x = some o ∧ o.cls = .type "StopIteration") →
   wpAny (model prog w) A (do if ← isInstance (.ref x) (.type "StopIteration") then pure none else throw (.ref x)) Q E { s with heap := g } := fun g x k ⟨o, ho, hc⟩ => by
  refine wpAny_bind (wpAny_isInstance (T := "StopIteration") (b := true) ⟨o, ho, hc⟩ isSubtype_stop ?_)
  exact wpAny_pure (q g k)
 have ml : m < cs.length := (List.getElem?_eq_some_iff.mp hm).1
 unfold pyNext
 refine wpAny_bind (wpAny_attempt (wpAny_callSpecial?_slot (name := Str.ofString "__next__") hT F.slot_zip_next (wpAny_call_entry F.slot_zip_next hT F.entry_zip_next ?_ (F.args_zip_next_1 _))))
 show wpAny _ _ (field (.ref z) 2 >>= _) _ _ s
 refine wpAny_bind (wpAny_field D.zip rfl (x := .bool false) (by rfl) ?_)
 show wpAny _ _ (field (.ref z) 3 >>= _) _ _ s
 refine wpAny_bind (wpAny_field D.zip rfl (x := .ref TI) (by rfl) ?_)
 refine wpAny_bind (wpAny_seqItems D.ti rfl ?_)
 dsimp only
 rw [if_neg (by intro y; rw [Array.isEmpty_iff_size_eq_zero, List.size_toArray, List.length_map, len] at y; have := D.pos; omega)]
 refine wpAny_bind ?_
 unfold Builtin.SmallTypes.ownedTupleIsFree
 refine wpAny_bind (wpAny_field D.zip rfl (x := .none) (by rfl) (wpAny_pure ?_))
 simp only [if_true]
 refine wpAny_bind (wpAny_rule ?_)
 refine wpAny_bind (wpAny_field D.zip rfl (x := .ref TO) (by rfl) ?_)
 refine wpAny_bind (wpAny_setField_rec D.zip (by simp) fun g1 z1 s1 => ?_)
 have z1 : IsZip g1 z TI TO .ellipsis := z1
 refine wpAny_bind ?_
 refine wp_forIn _ (fun j b s' => b = _ ∧ j ≤ m ∧ ∃ g, s' = { s with heap := g } ∧ ZIn s.heap g z TI TO cs is k j vs old) _ _ ⟨rfl, Nat.zero_le _, g1, rfl, ?_⟩ ?_ ?_
 ·refine ⟨s1.1, z1, s1.extBut _ _ zO.symm D.to, fun n c i hc hi => ?_, fun e o e1 _ _ h => s1.extBut _ _ e1 h⟩
  rw [if_neg (by omega)]
  exact (D.its n c i hc hi).ext fun o h => s1.extBut _ _ (fun y => nz (by rw [← y]; simp [List.mem_of_getElem? hi])) h
 ·rintro j a b s' ha ⟨rfl, jm, g, rfl, Z⟩
  rw [List.getElem?_zipIdx] at ha
  obtain ⟨x, hx, rfl⟩ := Option.map_eq_some_iff.mp ha
  have hx : (is.map Value.ref)[j]? = some x := by simpa using hx
  rw [List.getElem?_map] at hx
  obtain ⟨i, hi, rfl⟩ := Option.map_eq_some_iff.mp hx
  have jl : j < cs.length := by rw [← len]; exact (List.getElem?_eq_some_iff.mp hi).1
  have hc : cs[j]? = some cs[j] := gE jl
  obtain ⟨o1, o2, o3⟩ := D.off _ (List.getElem_mem jl)
  have it := Z.its j _ i hc hi
  rw [if_neg (by omega)] at it
  have iO : TO ≠ i := fun q => nO (by rw [q]; exact List.mem_of_getElem? hi)
  have iz : z ≠ i := fun q => nz (by rw [q]; simp [List.mem_of_getElem? hi])
  dsimp only
  refine wpAny_bind (wpAny_onRaise ?_)
  show wpAny _ _ (Builtin.SmallTypes.nextOf (.ref i) >>= _) _ _ _
  by_cases e : j = m
  ·subst e
   rw [hc] at hm
   cases hm
   refine wpAny_bind (nextS_end hh it (hxm.ext fun o h => Z.ext _ o o1 o2 o3 h) hem fun g2 x s2 hx2 => ?_)
   obtain ⟨oe, e1, e2⟩ := hx2
   have z2 : IsZip g2 z TI TO .ellipsis := s2 _ _ iz Z.zip
   have xz : x ≠ z := fun r => by subst r; rw [z2] at e1; cases e1; simp at e2
   exact wpAny_setField_rec z2 (by simp) fun g3 _ s3 => fin g3 x (fun e o c1 c2 c3 h => s3.extBut _ _ c1 (s2 _ _ (fun y => c3 (by rw [y]; exact List.mem_of_getElem? hi)) (Z.ext e o c1 c2 c3 h))) ⟨oe, s3.extBut _ _ xz e1, e2⟩
  ·obtain ⟨xs, v, hq, hxv, hvv⟩ := hv j _ hc (by omega)
   refine wpAny_bind (nextS_item it (hq.ext fun o h => Z.ext _ o o1 o2 o3 h) hxv fun g2 n2 s2 => wpAny_pure ?_)
   have r2 : IsRow g2 TO (vs.take j ++ old.drop j) := s2.extBut _ _ iO Z.row
   refine wpAny_bind (wpAny_seqItems r2 rfl ?_)
   refine wpAny_bind (updRow (x := v) (k := 0 + j) r2 (by rw [List.length_append, List.length_take, List.length_drop]; have := D.lo; omega) fun g3 r3 s3 => ?_)
   rw [Nat.zero_add] at r3
   refine wpAny_bind (wpAny_letGo (wpAny_pure ⟨_, rfl, rfl, by omega, g3, rfl, Z.step D hi hc hvv lv n2 s2 r3 s3⟩))
 ·rintro b s' ⟨rfl, jm, g5, rfl, Z⟩
  have ll : ((is.map Value.ref).toArray.toList.zipIdx).length = cs.length := by simp [len]
  rw [ll] at jm
  omega
end
end L2
namespace L2
open PySem PySem.Spec PyProof.Rows
theorem choose_list {α : Type} {P : Nat → α → Prop} : ∀ (k : Nat), (∀ n, n < k → ∃ u, P n u) → ∃ us : List α, us.length = k ∧ ∀ (n : Nat) u, us[n]? = some u → P n u
 | 0, _ => ⟨[], rfl, fun n u h => by simp at h⟩
 | k + 1, h => by
  obtain ⟨us, hl, hu⟩ := choose_list k fun n hn => h n (by omega)
  obtain ⟨u, pu⟩ := h k (by omega)
  refine ⟨us ++ [u], by rw [List.length_append, hl]; rfl, fun n v hv => ?_⟩
  by_cases e : n < us.length
  ·rw [List.getElem?_append_left e] at hv
   exact hu n v hv
  ·rw [List.getElem?_append_right (by omega)] at hv
   have hn : n = us.length := by
    have := (List.getElem?_eq_some_iff.mp hv).1
    simp at this
    omega
   subst hn
   rw [Nat.sub_self] at hv
   cases hv
   rw [hl]; exact pu
theorem vals_of : ∀ {vs : List V} {us : List Value}, vs.length = us.length → (∀ (n : Nat) v u, vs[n]? = some v → us[n]? = some u → RelV v u) → Vals vs us
 | [], [], _, _ => .nil
 | v :: vs, u :: us, hl, h => .cons (h 0 v u rfl rfl) (vals_of (by simpa using hl) fun n v' u' a b => h (n + 1) v' u' a b)
 | [], _ :: _, hl, _ => by simp at hl
 | _ :: _, [], hl, _ => by simp at hl
def HSq (H : Hp) (c : Sq) (xs : List V) : Prop := match c.l with | true => H c.a = some (.lst xs) | false => H c.a = some (.tup xs)
theorem HSq.inj {H : Hp} {c : Sq} {xs ys : List V} (a : HSq H c xs) (b : HSq H c ys) : xs = ys := by
 obtain ⟨l, q⟩ := c
 cases l with
 | true => have a : H q = some (.lst xs) := a; have b : H q = some (.lst ys) := b; rw [a] at b; cases b; rfl
 | false => have a : H q = some (.tup xs) := a; have b : H q = some (.tup ys) := b; rw [a] at b; cases b; rfl
theorem HSq.has {H : Hp} {c : Sq} {xs : List V} (a : HSq H c xs) : ∃ o, H c.a = some o := by
 obtain ⟨l, q⟩ := c
 cases l with
 | true => exact ⟨_, a⟩
 | false => exact ⟨_, a⟩
theorem HSq.at {X : Cx} {pins : List (Addr × Obj)} {σ : St} {H : Hp} {s : Shared} {c : Sq} {xs : List V} (I : Inv X pins σ H s) (h : HSq H c xs) : ∃ its, Vals xs its ∧ SqAt s.heap c its.toArray := by
 obtain ⟨l, q⟩ := c
 cases l with
 | true =>
  obtain ⟨its, r, p, _⟩ := I.list (SqL.of (K := X.K) (show H q = some (.lst xs) from h))
  exact ⟨its, r, p.isList⟩
 | false =>
  obtain ⟨its, r, p, _⟩ := I.tuple (SqT.of (K := X.K) (show H q = some (.tup xs) from h))
  exact ⟨its, r, p⟩
def Itq (cs : List Sq) : It :=
 ⟨fun i H => ∃ vs : List V, vs.length = cs.length ∧ ∀ (n : Nat) c, cs[n]? = some c → ∃ xs x, HSq H c xs ∧ xs[i]? = some x ∧ vs[n]? = some x,
  fun i H v H' => ∃ p vs, H p = none ∧ v = .ref p ∧ H' = upd H p (.tup vs) ∧ vs.length = cs.length ∧ ∀ (n : Nat) c x xs, cs[n]? = some c → HSq H c xs → vs[n]? = some x → xs[i]? = some x,
  fun i H => ∃ m cm xm, cs[m]? = some cm ∧ HSq H cm xm ∧ xm.length ≤ i ∧ ∀ (n : Nat) c, cs[n]? = some c → n < m → ∃ xs x, HSq H c xs ∧ xs[i]? = some x⟩
section
theorem turn_zipS {P : Program} {w : World} {K : PySem.W.Frag} {es : List Expr} {k0} {pos : Pos} {z TI TO : Addr} {cs : List Sq} {is : List Addr} :
  Turn P w K (.Tuple es k0 pos) (Itq cs) (z :: TI :: TO :: is) z (fun i h => ∃ old, ZOk h z TI TO cs is i old) where
 mem := by simp
 obj := fun i h st c hc => by
  obtain ⟨old, D⟩ := st
  simp only [List.mem_cons] at hc
  rcases hc with rfl | rfl | rfl | hc
  ·exact ⟨_, D.zip, fun v z => by cases z⟩
  ·exact ⟨_, D.ti, fun v z => by cases z⟩
  ·exact ⟨_, D.to, fun v z => by cases z⟩
  ·obtain ⟨n, hn⟩ := List.getElem?_of_mem hc
   have hl : n < cs.length := by rw [← D.len]; exact (List.getElem?_eq_some_iff.mp hn).1
   exact (D.its n _ c (gE hl) hn).obj
 keep := fun i h h' st k => by
  obtain ⟨old, D⟩ := st
  exact ⟨old, D.len, D.few, D.pos, D.nod, k z (by simp) _ D.zip, k TI (by simp) _ D.ti, k TO (by simp) _ D.to, D.lo, fun n c i hc hi => (D.its n c i hc hi).ext fun o e => k i (by simp [List.mem_of_getElem? hi]) o e, D.off⟩
 item := by
  intro X hP hw hK hc i pins s σ H E I hf st hg
  subst hP hw hK
  obtain ⟨old, D⟩ := st
  obtain ⟨vs, lv, hv⟩ := hg
  have nz : ∀ e ∈ z :: TI :: TO :: is, H e = none := fun e he => (hf e he).1
  have hT : H s.heap.objs.size = none := I.fresh
  have ex : ∀ n, n < cs.length → ∃ u : Value, (∀ c, cs[n]? = some c → ∃ xs, SqAt s.heap c xs ∧ xs[i]? = some u) ∧ ∀ v, vs[n]? = some v → RelV v u := fun n hn => by
   obtain ⟨xs, x, h1, h2, h3⟩ := hv n _ (gE hn)
   obtain ⟨its, r, p⟩ := h1.at I
   obtain ⟨u, hu, ru⟩ := r.get h2
   refine ⟨u, fun c hc => ?_, fun v hv' => ?_⟩
   ·rw [gE hn] at hc
    cases hc
    exact ⟨_, p, by simpa using hu⟩
   ·rw [h3] at hv'
    cases hv'
    exact ru
  obtain ⟨us, lu, hu⟩ := choose_list cs.length ex
  have hrel : Vals vs us := vals_of (by omega) fun n v u a b => (hu n u b).2 v a
  refine zipS_go D (vs := us) (fun n c hc => ?_) lu fun g z1 to1 m1 tp sz kk => ⟨_, rfl, ?_⟩
  ·have hn : n < us.length := by rw [lu]; exact (List.getElem?_eq_some_iff.mp hc).1
   obtain ⟨xs, a, b⟩ := (hu n _ (gE hn)).1 c hc
   exact ⟨xs, us[n], a, b, gE hn⟩
  refine wpAny_letOwnedTupleGo_zip z1 fun g2 z2 s2 => ?_
  have s2 : Heap.SameBut z g g2 := s2
  have k2 : ∀ e o, e ∉ z :: TO :: is → s.heap.get? e = some o → g2.get? e = some o := fun e o hn h => by
   simp only [List.mem_cons, not_or] at hn
   exact s2.extBut _ _ hn.1 (kk e o hn.1 hn.2.1 hn.2.2 h)
  have zlt : z < s.heap.objs.size := Heap.lt_size D.zip
  have tp2 : IsRow g2 s.heap.objs.size us := s2.extBut _ _ (Nat.ne_of_gt zlt) tp
  have sub : ∀ e ∈ z :: TO :: is, e ∈ z :: TI :: TO :: is := fun e he => by
   simp only [List.mem_cons] at he ⊢
   rcases he with rfl | rfl | he <;> simp [*]
  have trk : ∀ e o, H e = some o → e ∉ z :: TO :: is := fun e o he hm => by rw [nz e (sub e hm)] at he; cases he
  have J : Inv X pins σ (upd H s.heap.objs.size (.tup vs)) { s with heap := g2 } := by
   refine I.turnAll (ch := z :: TO :: is) (fun e he => hf e (sub e he)) k2 (fun e o h => by rw [upd_ne (ne_of_none h hT)]; exact h) (fun e o h n => by rw [upd_ne (Nat.ne_of_lt (Heap.lt_size h))]; exact n) fun e o h => ?_
   by_cases q : e = s.heap.objs.size
   ·subst q
    rw [upd_same] at h
    cases h
    exact ⟨by rw [lv]; exact Nat.le_trans D.few (by decide), us, hrel, _, tp2, rfl, rfl, _, rfl⟩
   ·rw [upd_ne q] at h
    refine (I.hok e o h).stay (fun c v hc' q' => k2 c v (by
     rcases hc' with z' | z'
     ·rw [z']; exact trk e o h
     ·exact trk c _ z') q') (fun c q' => by rw [upd_ne (ne_of_none q' hT)]; exact q') fun c xs q' => by rw [upd_ne (ne_of_none q' hT)]; exact q'
  have nod := D.nod
  rw [List.nodup_cons, List.nodup_cons, List.nodup_cons] at nod
  obtain ⟨nz', nT, nO, ni⟩ := nod
  refine ⟨.ref s.heap.objs.size, _, J, rfl, ⟨_, vs, hT, rfl, rfl, lv, fun n c x xs hc hq hx => ?_⟩, ⟨us, D.len, D.few, D.pos, D.nod, z2, ?_, s2.extBut _ _ (fun y => nz' (by rw [← y]; simp)) to1, lu, fun n c j hc hj => ?_, D.off⟩, fun e he => ?_⟩
  ·obtain ⟨ys, y, h1, h2, h3⟩ := hv n c hc
   rw [h1.inj hq] at h2
   rw [h3] at hx
   cases hx
   exact h2
  ·refine k2 _ _ (fun y => ?_) D.ti
   rcases List.mem_cons.mp y with y | y
   ·exact nz' (by rw [← y]; simp)
   ·exact nT y
  ·exact (m1 n c j hc hj).ext fun o e => s2.extBut _ _ (fun y => nz' (by rw [← y]; simp [List.mem_of_getElem? hj])) e
  ·have hlt : e < s.heap.objs.size := by
    simp only [List.mem_cons] at he
    rcases he with rfl | rfl | rfl | he
    ·exact Heap.lt_size D.zip
    ·exact Heap.lt_size D.ti
    ·exact Heap.lt_size D.to
    ·obtain ⟨n, hn⟩ := List.getElem?_of_mem he
     have hl : n < cs.length := by rw [← D.len]; exact (List.getElem?_eq_some_iff.mp hn).1
     obtain ⟨o, ho, _⟩ := (D.its n _ e (gE hl) hn).obj
     exact Heap.lt_size ho
   rw [upd_ne (Nat.ne_of_lt hlt)]
   exact nz e he
 done := by
  intro X hP hw hK hc i pins s σ H E I hf st hg
  subst hP hw hK
  obtain ⟨old, D⟩ := st
  obtain ⟨m, cm, xm, hm, hxm, hi, hv⟩ := hg
  have nz : ∀ e ∈ z :: TI :: TO :: is, H e = none := fun e he => (hf e he).1
  have ex : ∀ n, n < cs.length → ∃ u : Value, ∀ c, cs[n]? = some c → n < m → ∃ xs, SqAt s.heap c xs ∧ xs[i]? = some u := fun n hn => by
   by_cases e : n < m
   ·obtain ⟨xs, x, h1, h2⟩ := hv n _ (gE hn) e
    obtain ⟨its, r, p⟩ := h1.at I
    obtain ⟨u, hu, ru⟩ := r.get h2
    refine ⟨u, fun c hc _ => ?_⟩
    rw [gE hn] at hc
    cases hc
    exact ⟨_, p, by simpa using hu⟩
   ·exact ⟨.none, fun c _ z => absurd z e⟩
  obtain ⟨us, lu, hu⟩ := choose_list cs.length ex
  obtain ⟨its, r, p⟩ := hxm.at I
  have hl := r.length
  refine zipS_stop (I.ok.hd hc) D (vs := us) (m := m) (fun n c hc hn => ?_) lu hm p (by simp; omega) fun g kk => ⟨rfl, ?_⟩
  ·have hn' : n < us.length := by rw [lu]; exact (List.getElem?_eq_some_iff.mp hc).1
   obtain ⟨xs, a, b⟩ := hu n _ (gE hn') c hc hn
   exact ⟨xs, us[n], a, b, gE hn'⟩
  have sub : ∀ e ∈ z :: TO :: is, e ∈ z :: TI :: TO :: is := fun e he => by
   simp only [List.mem_cons] at he ⊢
   rcases he with rfl | rfl | he <;> simp [*]
  have k2 : ∀ e o, e ∉ z :: TO :: is → s.heap.get? e = some o → g.get? e = some o := fun e o hn h => by
   simp only [List.mem_cons, not_or] at hn
   exact kk e o hn.1 hn.2.1 hn.2.2 h
  have trk : ∀ e o, H e = some o → e ∉ z :: TO :: is := fun e o he hm => by rw [nz e (sub e hm)] at he; cases he
  refine I.turnAll (ch := z :: TO :: is) (fun e he => hf e (sub e he)) k2 (fun _ _ h => h) (fun _ _ _ n => n) fun e o h => ?_
  exact (I.hok e o h).stay (fun c v hc' q' => k2 c v (by
   rcases hc' with z' | z'
   ·rw [z']; exact trk e o h
   ·exact trk c _ z') q') (fun _ q' => q') fun _ _ q' => q'
 self := fun _ _ _ _ _ st h => let ⟨_, D⟩ := st; wpAny_pyIter_zip D.zip h
end
structure ZNew (h g : Heap) (cs : List Sq) : Prop where
 zip : IsZip g (h.objs.size + cs.length + 2) (h.objs.size + cs.length) (h.objs.size + cs.length + 1) .none
 ti : IsRow g (h.objs.size + cs.length) (((List.range cs.length).map fun j => h.objs.size + j).map Value.ref)
 to : IsRow g (h.objs.size + cs.length + 1) (List.replicate cs.length .none)
 its : ∀ (n : Nat) c, cs[n]? = some c → ItAt g c (h.objs.size + n) 0
 ext : ∀ b o, h.get? b = some o → g.get? b = some o
theorem newClass_zip (vs : List Value) : Builtin.SmallTypes.newClass "zip" ⟨.type "zip" :: vs, []⟩ = pure (.type "zip", vs) := by
 unfold Builtin.SmallTypes.newClass
 simp only [isType, sub_zip, pure_bind, Bool.not_true, Bool.false_eq_true, if_false]
theorem zipS_new (cs : List Sq) (few : cs.length ≤ 8) :
  Meets (Builtin.«zip.__new__» ⟨.type "zip" :: cs.map fun c => Value.ref c.a, []⟩) (fun _ R s => (∀ c ∈ cs, ∃ xs, SqAt s.heap c xs) ∧ ∀ g, ZNew s.heap g cs → R (.ok (.ret (.ref (s.heap.objs.size + cs.length + 2)))) { s with heap := g }) :=
 .of_wp fun prog w A R s h => by
  obtain ⟨h1, h⟩ := h
  unfold Builtin.«zip.__new__»
  refine wpAny_bind (wpAny_of_eq (newClass_zip _) ?_)
  show wpAny _ _ (Builtin.SmallTypes.iterAll (cs.map fun c => Value.ref c.a) >>= _) _ _ _
  refine wpAny_bind ?_
  unfold Builtin.SmallTypes.iterAll
  refine wpAny_bind (wp_forIn _ (fun j its s' => ∃ g, s' = { s with heap := g } ∧ g.objs.size = s.heap.objs.size + j ∧ its = ((List.range j).map fun i => Value.ref (s.heap.objs.size + i)).toArray ∧ (∀ (n : Nat) c, n < j → cs[n]? = some c → ItAt g c (s.heap.objs.size + n) 0) ∧ ∀ b o, s.heap.get? b = some o → g.get? b = some o) _ _ ⟨s.heap, rfl, rfl, rfl, fun n c hn => absurd hn (by omega), fun _ _ e => e⟩ ?_ ?_)
  ·rintro j a its s' ha ⟨g, rfl, sz, rfl, hit, ext⟩
   rw [List.getElem?_map] at ha
   obtain ⟨c, hc, rfl⟩ := Option.map_eq_some_iff.mp ha
   obtain ⟨xs, hx⟩ := h1 c (List.mem_of_getElem? hc)
   refine wpAny_bind (wpAny_holding (iterS (c := c) (xs := xs) (hx.ext fun o e => ext _ o e) fun g2 i2 z2 e2 => ?_))
   refine wpAny_pure ⟨_, rfl, g2, rfl, ?_, ?_, fun n c' hn hc' => ?_, fun b o e => e2 b o (ext b o e)⟩
   ·show g2.objs.size = _
    rw [z2]; show g.objs.size + 1 = _; rw [sz]; omega
   ·show Array.push _ (Value.ref g.objs.size) = _
    rw [sz, List.range_succ, List.map_append]; simp
   ·by_cases e : n = j
    ·subst e
     rw [hc] at hc'
     cases hc'
     have i2 : ItAt g2 c g.objs.size 0 := i2
     rw [sz] at i2
     exact i2
    ·exact (hit n c' (by omega) hc').ext fun o q => e2 _ o q
  ·rintro its s' ⟨g, rfl, sz, rfl, hit, ext⟩
   have ll : (cs.map fun c => Value.ref c.a).length = cs.length := List.length_map ..
   rw [ll] at sz hit ⊢
   refine wpAny_pure ?_
   dsimp only
   have n8 : ((List.range cs.length).map fun i => Value.ref (s.heap.objs.size + i)).length ≤ sizeLine := by
    rw [List.length_map, List.length_range]; exact Nat.le_trans few (by decide)
   refine wpAny_bind (wpAny_newTuple ?_ (by simpa using n8))
   refine wpAny_bind (wpAny_newTuple ?_ (by simpa using n8))
   refine wpAny_bind ?_
   unfold Builtin.SmallTypes.newRecord
   refine wpAny_newObj_type (wpAny_pure ⟨_, rfl, ?_⟩) (by show 5 ≤ sizeLine + 2; decide)
   have e1 : (g.push { cls := .type "tuple", data := .seq ((List.range cs.length).map fun i => Value.ref (s.heap.objs.size + i)).toArray }).objs.size = s.heap.objs.size + cs.length + 1 := by rw [Heap.size_push, sz]
   have e2 : ((g.push { cls := .type "tuple", data := .seq ((List.range cs.length).map fun i => Value.ref (s.heap.objs.size + i)).toArray }).push { cls := .type "tuple", data := .seq ((((List.range cs.length).map fun i => Value.ref (s.heap.objs.size + i)).toArray.toList.map fun _ => Value.none)).toArray }).objs.size = s.heap.objs.size + cs.length + 2 := by rw [Heap.size_push, e1]
   have key := h (((g.push { cls := .type "tuple", data := .seq ((List.range cs.length).map fun i => Value.ref (s.heap.objs.size + i)).toArray }).push { cls := .type "tuple", data := .seq ((((List.range cs.length).map fun i => Value.ref (s.heap.objs.size + i)).toArray.toList.map fun _ => Value.none)).toArray }).push { cls := .type "zip", data := .fields #[.none, .bool false, .bool false, .ref (s.heap.objs.size + cs.length), .ref (s.heap.objs.size + cs.length + 1)] })
    ⟨by rw [← e2]; exact Heap.get?_push_size _ rfl, ?_, ?_, fun n c hc => (hit n c (List.getElem?_eq_some_iff.mp hc).1 hc).ext fun o q => Heap.get?_push_of_some _ (Heap.get?_push_of_some _ (Heap.get?_push_of_some _ q)), fun b o q => Heap.get?_push_of_some _ (Heap.get?_push_of_some _ (Heap.get?_push_of_some _ (ext b o q)))⟩
   ·rw [← e2] at key
    have e1' : (s.heap.objs.size + cs.length : Nat) = g.objs.size := sz.symm
    rw [← e1, e1'] at key
    exact key
   ·have em : (((List.range cs.length).map fun j => s.heap.objs.size + j).map Value.ref) = ((List.range cs.length).map fun i => Value.ref (s.heap.objs.size + i)) := by rw [List.map_map]; rfl
    show Heap.get? _ _ = _
    rw [em, ← sz]
    exact Heap.get?_push_of_some _ (Heap.get?_push_of_some _ (Heap.get?_push_size _ rfl))
   ·rw [← e1]
    have er : (((List.range cs.length).map fun i => Value.ref (s.heap.objs.size + i)).toArray.toList.map fun _ => Value.none) = List.replicate cs.length Value.none := by
     rw [List.eq_replicate_iff]
     exact ⟨by simp, fun x hx => by obtain ⟨_, _, rfl⟩ := List.mem_map.mp hx; rfl⟩
    rw [er]
    exact Heap.get?_push_of_some _ (Heap.get?_push_size _ rfl)
theorem zip_args3 (a b c d : Value) : argsOk "object.__init__" ⟨[a, b, c, d], []⟩ := by
 unfold argsOk
 rw [signature?_of (id := "object.__init__") (n := ['_', '_', 't', 'i', 'n', 'i', '_', '_']) (o := ['t', 'c', 'e', 'j', 'b', 'o']) (by kernel_rfl) F.owner_object]
 kernel_rfl
theorem zip_type3 (a b c : Value) : checkTypeCall "zip" ⟨[a, b, c], []⟩ = pure () := by kernel_rfl
theorem zip_new3 (a b c : Value) : checkBuiltinCall "zip.__new__" ⟨[.type "zip", a, b, c], []⟩ = pure () := by kernel_rfl
section
variable {X : Cx}
theorem zip_walk {pins : List (Addr × Obj)} {σ : St} {H1 : Hp} {s1 : Shared} {es : List Expr} {k0} {pt : Pos} {R : It → Hp → Prop} {E : Value → Shared → Prop} {cs : List Sq} (I1 : Inv X pins σ H1 s1) (few : cs.length ≤ 8) (pos : 0 < cs.length) (hq : ∀ c ∈ cs, ∃ xs, HSq H1 c xs) (q : R (Itq cs) H1) {g : Heap} (Z : ZNew s1.heap g cs) :
  wpAny (model X.prog X.w) X.A (pyIter (.ref (s1.heap.objs.size + cs.length + 2))) (PIE X pins σ (.Tuple es k0 pt) R) E { s1 with heap := g } := by
 have small : ∀ c ∈ cs, c.a < s1.heap.objs.size := fun c hc => by
  obtain ⟨xs, hx⟩ := hq c hc
  obtain ⟨o, ho⟩ := hx.has
  exact Nat.lt_of_not_le fun hge => by rw [I1.hok.fresh hge] at ho; cases ho
 refine wpAny_pyIter_zip Z.zip ⟨_, (s1.heap.objs.size + cs.length + 2) :: (s1.heap.objs.size + cs.length) :: (s1.heap.objs.size + cs.length + 1) :: ((List.range cs.length).map fun j => s1.heap.objs.size + j), _, Itq cs, H1, rfl, I1.kept (t' := s1.toks) Z.ext, turn_zipS, ⟨_, ?_, few, pos, ?_, Z.zip, Z.ti, Z.to, by rw [List.length_replicate], fun n c i hc hi => ?_, fun c hc => ?_⟩, fun e he => ?_, q⟩
 ·rw [List.length_map, List.length_range]
 ·have nd : ((List.range cs.length).map fun j => s1.heap.objs.size + j).Nodup := by
   rw [List.nodup_iff_pairwise_ne, List.pairwise_map]
   exact (List.nodup_iff_pairwise_ne.mp List.nodup_range).imp fun h e => h (by omega)
  have out : ∀ x, s1.heap.objs.size + cs.length ≤ x → x ∉ ((List.range cs.length).map fun j => s1.heap.objs.size + j) := fun x hx hm => by
   obtain ⟨j, hj, rfl⟩ := List.mem_map.mp hm
   have := List.mem_range.mp hj
   omega
  rw [List.nodup_cons, List.nodup_cons, List.nodup_cons]
  refine ⟨fun h => ?_, fun h => ?_, fun h => out _ (by show @LE.le Nat _ _ _; omega) h, nd⟩
  ·rcases List.mem_cons.mp h with h | h
   ·have h : @Eq Nat _ _ := h
    omega
   ·rcases List.mem_cons.mp h with h | h
    ·have h : @Eq Nat _ _ := h
     omega
    ·exact out _ (by show @LE.le Nat _ _ _; omega) h
  ·rcases List.mem_cons.mp h with h | h
   ·have h : @Eq Nat _ _ := h
    omega
   ·exact out _ (by show @LE.le Nat _ _ _; omega) h
 ·rw [List.getElem?_map, List.getElem?_range (List.getElem?_eq_some_iff.mp hc).1] at hi
  cases hi
  exact Z.its n c hc
 ·have := small c hc
  have this : @LT.lt Nat _ c.a s1.heap.objs.size := this
  refine ⟨by show @Ne Nat _ _; omega, by show @Ne Nat _ _; omega, fun hm => ?_⟩
  obtain ⟨j, hj, e⟩ := List.mem_map.mp hm
  have e : @Eq Nat _ _ := e
  omega
 ·have hge : s1.heap.objs.size ≤ e := by
   simp only [List.mem_cons] at he
   rcases he with rfl | rfl | rfl | he
   ·show @LE.le Nat _ _ _; omega
   ·show @LE.le Nat _ _ _; omega
   ·show @LE.le Nat _ _ _; omega
   ·obtain ⟨j, hj, rfl⟩ := List.mem_map.mp he
    show @LE.le Nat _ _ _; omega
  exact I1.fpOk hge (I1.hok.fresh hge)
def iZip2 (ta : TA) : TI := fun σ H R => ta σ H fun vs H1 => ∃ c1 c2 xs ys, vs = [.ref c1.a, .ref c2.a] ∧ HSq H1 c1 xs ∧ HSq H1 c2 ys ∧ R (Itq [c1, c2]) H1
theorem pi_zip2 {ea eb : Expr} {ta : TA} {p pos : Pos} {es : List Expr} {k0} {pt : Pos} (hg : Gl X "zip") (hm : X.mg "zip" = none) (ha : PA X [ea, eb] ta) (hs : starEach [ea, eb] X.env = [(false, eval ea X.env), (false, eval eb X.env)] := by rfl) (hs2 : starEach [eb] X.env = [(false, eval eb X.env)] := by rfl) :
  PI X (.Tuple es k0 pt) (.Call (.Name "zip" p) [ea, eb] [] pos) (iZip2 ta) := by
 intro pins s σ H R I h
 refine Call_ (ld_blt I hg hm boot_zip (PyProof.Rows.callWith_type1 (thn (ha pos pins s σ H _ I h) fun us s1 ⟨vs, H1, I1, r1, q1⟩ => ?_) (by rw [hs, hs2]) (by rw [hs2]; rfl)))
 obtain ⟨c1, c2, xs, ys, e, h1, h2, q⟩ := q1
 subst e
 obtain ⟨u1, u2, rfl, r2, r3⟩ := vals2 r1
 cases (show u1 = Value.ref c1.a from r2)
 cases (show u2 = Value.ref c2.a from r3)
 obtain ⟨_, _, p1⟩ := h1.at I1
 obtain ⟨_, _, p2⟩ := h2.at I1
 refine callType_new F.called_zip (by decide) (F.typeCall_zip_2 _ _) (F.newCall_zip_2 _ _) (fun obj => F.args_object_init_3 obj _ _) F.entry_zip_new (zipS_new [c1, c2] (by show 2 ≤ 8; decide)) ⟨fun c hc => ?_, fun g Z => ⟨⟨_, Z.zip, rfl⟩, ?_⟩⟩
 ·simp only [List.mem_cons, List.not_mem_nil, or_false] at hc
  rcases hc with rfl | rfl
  ·exact ⟨_, p1⟩
  ·exact ⟨_, p2⟩
 ·refine zip_walk (cs := [c1, c2]) I1 (by show 2 ≤ 8; decide) (by show 0 < 2; decide) (fun c hc => ?_) q Z
  simp only [List.mem_cons, List.not_mem_nil, or_false] at hc
  rcases hc with rfl | rfl
  ·exact ⟨_, h1⟩
  ·exact ⟨_, h2⟩
theorem valsThree {x y z : V} {us : List Value} (h : Vals [x, y, z] us) : ∃ u1 u2 u3, us = [u1, u2, u3] ∧ RelV x u1 ∧ RelV y u2 ∧ RelV z u3 := by
 cases h with
 | cons h1 r1 => cases r1 with
  | cons h2 r2 => cases r2 with
   | cons h3 r3 => cases r3; exact ⟨_, _, _, rfl, h1, h2, h3⟩
def iZip3 (ta : TA) : TI := fun σ H R => ta σ H fun vs H1 => ∃ c1 c2 c3 xs ys zs, vs = [.ref c1.a, .ref c2.a, .ref c3.a] ∧ HSq H1 c1 xs ∧ HSq H1 c2 ys ∧ HSq H1 c3 zs ∧ R (Itq [c1, c2, c3]) H1
theorem pi_zip3 {ea eb ec : Expr} {ta : TA} {p pos : Pos} {es : List Expr} {k0} {pt : Pos} (hg : Gl X "zip") (hm : X.mg "zip" = none) (ha : PA X [ea, eb, ec] ta) (hs : starEach [ea, eb, ec] X.env = [(false, eval ea X.env), (false, eval eb X.env), (false, eval ec X.env)] := by rfl) (hs2 : starEach [eb, ec] X.env = [(false, eval eb X.env), (false, eval ec X.env)] := by rfl) :
  PI X (.Tuple es k0 pt) (.Call (.Name "zip" p) [ea, eb, ec] [] pos) (iZip3 ta) := by
 intro pins s σ H R I h
 refine Call_ (ld_blt I hg hm boot_zip (PyProof.Rows.callWith_type1 (thn (ha pos pins s σ H _ I h) fun us s1 ⟨vs, H1, I1, r1, q1⟩ => ?_) (by rw [hs, hs2]) (by rw [hs2]; rfl)))
 obtain ⟨c1, c2, c3, xs, ys, zs, e, h1, h2, h3, q⟩ := q1
 subst e
 obtain ⟨u1, u2, u3, rfl, r2, r3, r4⟩ := valsThree r1
 cases (show u1 = Value.ref c1.a from r2)
 cases (show u2 = Value.ref c2.a from r3)
 cases (show u3 = Value.ref c3.a from r4)
 obtain ⟨_, _, p1⟩ := h1.at I1
 obtain ⟨_, _, p2⟩ := h2.at I1
 obtain ⟨_, _, p3⟩ := h3.at I1
 refine callType_new F.called_zip (by decide) (zip_type3 _ _ _) (zip_new3 _ _ _) (fun obj => zip_args3 obj _ _ _) F.entry_zip_new (zipS_new [c1, c2, c3] (by show 3 ≤ 8; decide)) ⟨fun c hc => ?_, fun g Z => ⟨⟨_, Z.zip, rfl⟩, ?_⟩⟩
 ·simp only [List.mem_cons, List.not_mem_nil, or_false] at hc
  rcases hc with rfl | rfl | rfl
  ·exact ⟨_, p1⟩
  ·exact ⟨_, p2⟩
  ·exact ⟨_, p3⟩
 ·refine zip_walk (cs := [c1, c2, c3]) I1 (by show 3 ≤ 8; decide) (by show 0 < 3; decide) (fun c hc => ?_) q Z
  simp only [List.mem_cons, List.not_mem_nil, or_false] at hc
  rcases hc with rfl | rfl | rfl
  ·exact ⟨_, h1⟩
  ·exact ⟨_, h2⟩
  ·exact ⟨_, h3⟩
end
theorem for_zip2 {c1 c2 : Sq} {xs ys : List V} {g : TG} {tb : TS} {D : Ends} {σ : St} {H : Hp} (Pv : Nat → St → Hp → Prop) (h0 : Pv 0 σ H) (hl : ∀ i σ H, i ≤ xs.length → Pv i σ H → HSq H c1 xs ∧ HSq H c2 ys) (hxy : xs.length = ys.length)
  (hs : ∀ i x y p σ H, xs[i]? = some x → ys[i]? = some y → Pv i σ H → H p = none → g (.ref p) σ (upd H p (.tup [x, y])) fun σ2 H2 => tb { D with nx := Pv (i + 1), ct := Pv (i + 1), bk := D.nx } σ2 H2) (hd : ∀ σ H, Pv xs.length σ H → D.nx σ H) :
  ∃ W : Nat → Nat → St → Hp → Prop, (∃ m, W 0 m σ H) ∧ ∀ i m σ H, W i m σ H →
   ((Itq [c1, c2]).stop i H ∧ D.nx σ H) ∨ ((Itq [c1, c2]).go i H ∧ ∃ N : St → Hp → Prop, (∀ σ' H', N σ' H' → ∃ m', m' < m ∧ W (i + 1) m' σ' H') ∧ ∀ x H', (Itq [c1, c2]).yld i H x H' → g x σ H' fun σ2 H2 => tb { D with nx := N, ct := N, bk := D.nx } σ2 H2) := by
 refine ⟨fun i m σ H => i ≤ xs.length ∧ m = xs.length - i ∧ Pv i σ H, ⟨_, Nat.zero_le _, rfl, h0⟩, fun i m σ H ⟨hi, hm, hp⟩ => ?_⟩
 obtain ⟨qa, qb⟩ := hl i σ H hi hp
 by_cases e : i = xs.length
 ·subst e
  exact .inl ⟨⟨0, c1, xs, rfl, qa, Nat.le_refl _, fun n c _ hn => absurd hn (by omega)⟩, hd σ H hp⟩
 ·have hlt : i < xs.length := Nat.lt_of_le_of_ne hi e
  have hlt2 : i < ys.length := by omega
  refine .inr ⟨⟨[xs[i], ys[i]], rfl, fun n c hc => ?_⟩, Pv (i + 1), fun σ' H' hp' => ⟨xs.length - (i + 1), by omega, by omega, rfl, hp'⟩, fun v H3 hy => ?_⟩
  ·match n, hc with
   | 0, hc => cases hc; exact ⟨xs, xs[i], qa, gE hlt, rfl⟩
   | 1, hc => cases hc; exact ⟨ys, ys[i], qb, gE hlt2, rfl⟩
   | n + 2, hc => simp at hc
  ·obtain ⟨p, vs, hn, rfl, rfl, lv, hx⟩ := hy
   match vs, lv, hx with
   | [x, y], _, hx => exact hs i x y p σ H (hx 0 c1 x xs rfl qa rfl) (hx 1 c2 y ys rfl qb rfl) hp hn
theorem for_zip3 {c1 c2 c3 : Sq} {xs ys zs : List V} {g : TG} {tb : TS} {D : Ends} {σ : St} {H : Hp} (Pv : Nat → St → Hp → Prop) (h0 : Pv 0 σ H) (hl : ∀ i σ H, i ≤ xs.length → Pv i σ H → HSq H c1 xs ∧ HSq H c2 ys ∧ HSq H c3 zs) (hxy : xs.length = ys.length) (hxz : xs.length = zs.length)
  (hs : ∀ i x y z p σ H, xs[i]? = some x → ys[i]? = some y → zs[i]? = some z → Pv i σ H → H p = none → g (.ref p) σ (upd H p (.tup [x, y, z])) fun σ2 H2 => tb { D with nx := Pv (i + 1), ct := Pv (i + 1), bk := D.nx } σ2 H2) (hd : ∀ σ H, Pv xs.length σ H → D.nx σ H) :
  ∃ W : Nat → Nat → St → Hp → Prop, (∃ m, W 0 m σ H) ∧ ∀ i m σ H, W i m σ H →
   ((Itq [c1, c2, c3]).stop i H ∧ D.nx σ H) ∨ ((Itq [c1, c2, c3]).go i H ∧ ∃ N : St → Hp → Prop, (∀ σ' H', N σ' H' → ∃ m', m' < m ∧ W (i + 1) m' σ' H') ∧ ∀ x H', (Itq [c1, c2, c3]).yld i H x H' → g x σ H' fun σ2 H2 => tb { D with nx := N, ct := N, bk := D.nx } σ2 H2) := by
 refine ⟨fun i m σ H => i ≤ xs.length ∧ m = xs.length - i ∧ Pv i σ H, ⟨_, Nat.zero_le _, rfl, h0⟩, fun i m σ H ⟨hi, hm, hp⟩ => ?_⟩
 obtain ⟨qa, qb, qc⟩ := hl i σ H hi hp
 by_cases e : i = xs.length
 ·subst e
  exact .inl ⟨⟨0, c1, xs, rfl, qa, Nat.le_refl _, fun n c _ hn => absurd hn (by omega)⟩, hd σ H hp⟩
 ·have hlt : i < xs.length := Nat.lt_of_le_of_ne hi e
  have hlt2 : i < ys.length := by omega
  have hlt3 : i < zs.length := by omega
  refine .inr ⟨⟨[xs[i], ys[i], zs[i]], rfl, fun n c hc => ?_⟩, Pv (i + 1), fun σ' H' hp' => ⟨xs.length - (i + 1), by omega, by omega, rfl, hp'⟩, fun v H3 hy => ?_⟩
  ·match n, hc with
   | 0, hc => cases hc; exact ⟨xs, xs[i], qa, gE hlt, rfl⟩
   | 1, hc => cases hc; exact ⟨ys, ys[i], qb, gE hlt2, rfl⟩
   | 2, hc => cases hc; exact ⟨zs, zs[i], qc, gE hlt3, rfl⟩
   | n + 3, hc => simp at hc
  ·obtain ⟨p, vs, hn, rfl, rfl, lv, hx⟩ := hy
   match vs, lv, hx with
   | [x, y, z], _, hx => exact hs i x y z p σ H (hx 0 c1 x xs rfl qa rfl) (hx 1 c2 y ys rfl qb rfl) (hx 2 c3 z zs rfl qc rfl) hp hn
end L2
namespace L2
open PySem PySem.Spec PyProof.Rows
theorem ps_setCT {X : Cx} {iy : Nat} {y0 : Str} {py spos : Pos} {elt iter tg : Expr} {xs : List Str} {g : TG} {pos : Pos} {ifs : List Expr} {scope : Scope} {wi : TI} {te : TE} {tt : TT} {fr : List Str} {js : List Nat}
  (hN0 : X.N.Nodup) (hi0 : X.N[iy]? = some y0) (hx0 : Loc X.env.scope y0) (hc : X.calm = true) (hi : PI X tg iter wi)
  (hcell : ∀ y ∈ scope.names, y.2 ≠ .cell) (hkind : scope.kind = .function) (hnames : ∀ y ∈ scope.names, y.2 = .local → scope.names.lookup y.1 = some .local)
  (hfr : ∀ y ∈ scope.names, y.2 = .free → X.env.scope.names.lookup y.1 = some .cell) (hjs : js.map (fun j => X.N[j]?) = fr.map some) (hfv : ∀ y ∈ fr, scope.names.lookup y = some .free)
  (hg : ∀ cl C s' H' ex, PG (cxComp X scope cl C (xs ++ fr) s' H' ex) tg g)
  (hb : ∀ cl C s' H' ex, PE (cxComp X scope cl C (xs ++ fr) s' H' ex) elt te ∧ PTs (cxComp X scope cl C (xs ++ fr) s' H' ex) ifs tt)
  (hs : ∀ z, foldedSetIterable iter X.env z = pure z := by intro _; rfl) (hsw : swapsWith (.ListComp elt [⟨tg, iter, ifs, 0⟩] scope pos) (some (.Name y0 py)) spos.line X.env = pure true := by rfl)
  (hf0 : X.fn y0 = true ∨ X.env.scope.names.lookup y0 = some .local := by first | exact .inl rfl | exact .inr rfl | assumption) :
  PS X (.Assign [.Name y0 py] (.ListComp elt [⟨tg, iter, ifs, 0⟩] scope pos) spos) (tAsg (tCompT wi xs.length g js tt te) (gName iy)) :=
 ps_setCC hN0 hi0 hx0 hc hi hcell hkind hnames hfr hjs hfv hg hb (fun _ _ _ _ h => h) hs hsw hf0
end L2
namespace L2
open PySem PySem.Spec PyProof.Rows
def Itv (K : PySem.W.Frag) (a : Addr) (n : Nat) : It :=
 ⟨fun i H => ∃ xs x, SqT K H a xs ∧ xs.length = n ∧ xs.reverse[i]? = some x, fun i H x H' => H' = H ∧ ∀ xs, SqT K H a xs → xs.reverse[i]? = some x, fun i _ => n ≤ i⟩
theorem turn_rev {P : Program} {w : World} {K : PySem.W.Frag} {tg : Expr} (a it : Addr) (n : Nat) : Turn P w K tg (Itv K a n) [it] it (fun i h => IsRv h it a ((n : Int) - 1 - (i : Nat))) where
 mem := by simp
 obj := fun i h st b hb => by
  have e : b = it := by simpa using hb
  subst e
  obtain ⟨o, e, c, d⟩ := st
  exact ⟨o, e, fun v z => by rw [d] at z; cases z⟩
 keep := fun i h h' st k => let ⟨o, e, r⟩ := st; ⟨o, k it (by simp) o e, r⟩
 item := by
  intro X hP hw hK hc i pins s σ H E I hf st hg
  subst hP hw hK
  obtain ⟨xs, x, hq, hn, hx⟩ := hg
  obtain ⟨its, rv, p, hz⟩ := I.tuple hq
  have hi : i < xs.length := by
   have := (List.getElem?_eq_some_iff.mp hx).1
   rw [List.length_reverse] at this
   exact this
  have hx2 := hx
  rw [List.getElem?_reverse hi] at hx2
  obtain ⟨u, hu, ru⟩ := rv.get hx2
  obtain ⟨f0, f1, f2, f3, f4, f5⟩ := hf it (by simp)
  have e : (n : Int) - 1 - (i : Nat) = ((xs.length - 1 - i : Nat) : Int) := by omega
  rw [e] at st
  have hl := rv.length
  have l63 := line63
  refine rv_item st (show IsTup s.heap a its.toArray from p) (by rw [List.size_toArray]; omega) (x := u) (by simpa using hu) fun h' st' sb => ?_
  have I1 : Inv X pins σ H { s with heap := h', toks := s.toks + 1 } := I.turned (t' := s.toks + 1) (fun b o hb e => (sb.2 b hb).trans e) f0 f1 f3 f4 f5
  obtain ⟨o, e2, c, d⟩ := id st'
  have e3 : ((xs.length - 1 - i : Nat) : Int) - 1 = (n : Int) - 1 - ((i + 1 : Nat) : Int) := by omega
  rw [e3] at st'
  exact ⟨u, rfl, go_of (s := { s with heap := h', toks := s.toks + 1 }) e2 c d (by decide) ⟨x, H, I1, ru, ⟨rfl, fun ys hy => by rw [I.tuple_inj hy hq]; exact hx⟩, st', fun b hb => (hf b hb).1⟩⟩
 done := by
  intro X hP hw hK hc i pins s σ H E I hf st hg
  subst hP hw hK
  obtain ⟨f0, f1, f2, f3, f4, f5⟩ := hf it (by simp)
  have hg : n ≤ i := hg
  exact rv_end (I.ok.hd hc) st (by omega) fun h' eb => ⟨rfl, I.turned (t' := s.toks) (fun b o hb e => eb b o hb e) f0 f1 f3 f4 f5⟩
 self := fun _ _ _ _ _ st h => rv_walk st h
section
variable {X : Cx} {tg : Expr}
def iRevT (K : PySem.W.Frag) (ta : TA) : TI := fun σ H R => ta σ H fun vs H1 => ∃ a xs, vs = [.ref a] ∧ SqT K H1 a xs ∧ R (Itv K a xs.length) H1
theorem pi_revT {ea : Expr} {ta : TA} {p pos : Pos} (hg : Gl X "reversed") (hm : X.mg "reversed" = none) (ha : PA X [ea] ta) (hs : starEach [ea] X.env = [(false, eval ea X.env)] := by rfl) :
  PI X tg (.Call (.Name "reversed" p) [ea] [] pos) (iRevT X.K ta) := by
 intro pins s σ H R I h
 refine Call_ (ld_blt I hg hm boot_reversed (PyProof.Rows.callWith_type1 (thn (ha pos pins s σ H _ I h) fun us s1 ⟨vs, H1, I1, r1, q1⟩ => ?_) hs rfl))
 obtain ⟨a, xs, e, hA, q⟩ := q1
 subst e
 obtain ⟨u1, rfl, r2⟩ := vals1 r1
 cases (show u1 = Value.ref a from r2)
 obtain ⟨its, rv, pt', hz⟩ := I1.tuple hA
 have hl := rv.length
 have l63 := line63
 refine call_rv (by rw [List.size_toArray]; omega) (show IsTup s1.heap a its.toArray from pt') fun g z1 kk => ?_
 have z2 : IsRv g s1.heap.objs.size a ((xs.length : Int) - 1 - ((0 : Nat) : Int)) := by
  have es : (its.toArray.size : Int) = xs.length := by rw [List.size_toArray, ← hl]
  rw [es] at z1
  rw [show (xs.length : Int) - 1 - ((0 : Nat) : Int) = (xs.length : Int) - 1 by omega]
  exact z1
 refine rv_walk (s := { s1 with heap := g, toks := s1.toks + 1 + 1 }) z1 ⟨s1.heap.objs.size, [s1.heap.objs.size], _, Itv X.K a xs.length, H1, rfl, I1.kept (t' := s1.toks + 1 + 1) kk, turn_rev a _ _, z2, fun b hb => ?_, q⟩
 have e : b = s1.heap.objs.size := by simpa using hb
 subst e
 exact I1.fpOk (Nat.le_refl _) (I1.hok.fresh (Nat.le_refl _))
end
theorem compT_rev {K : PySem.W.Frag} {a : Addr} {xs : List V} {js : List Nat} {tt : TT} {te : TE} {σ : St} {H : Hp} {Q : VK} (Pv : Nat → List V → Hp → Prop) (h0 : Pv 0 [] H) (hl : ∀ i ys H, i ≤ xs.length → Pv i ys H → SqT K H a xs ∧ ys.length ≤ i) (hz : xs.length ≤ sizeLine)
  (hs : ∀ i v ys H, xs.reverse[i]? = some v → Pv i ys H → ∃ q x y, v = .ref q ∧ H q = some (.tup [x, y]) ∧ tt (some x :: some y :: blockSt σ js) H fun b H4 => if b = true then te (some x :: some y :: blockSt σ js) H4 fun z H5 => Pv (i + 1) (ys ++ [z]) H5 else Pv (i + 1) ys H4)
  (hd : ∀ ys H, Pv xs.length ys H → ∀ D, H D = none → Q (.ref D) (upd H D (.lst ys))) : CompWT 2 (gPair K) js tt te σ Q (Itv K a xs.length) H := by
 refine ⟨fun i m ys H => i ≤ xs.length ∧ m = xs.length - i ∧ Pv i ys H, ⟨_, Nat.zero_le _, rfl, h0⟩, fun i m ys H2 ⟨hi, hm, hp⟩ => ?_⟩
 obtain ⟨hq, hy⟩ := hl i ys H2 hi hp
 by_cases e : i = xs.length
 ·subst e
  exact .inl ⟨Nat.le_refl _, hd ys H2 hp⟩
 ·have hlt : i < xs.reverse.length := by rw [List.length_reverse]; exact Nat.lt_of_le_of_ne hi e
  rw [List.length_reverse] at hlt
  refine .inr ⟨⟨xs, _, hq, rfl, gE (by rw [List.length_reverse]; exact hlt)⟩, by omega, Pv (i + 1), fun ys' H' hp' => ⟨xs.length - (i + 1), by omega, by omega, rfl, hp'⟩, fun v H3 hy3 v0 hv0 => ?_⟩
  obtain ⟨e3, hx⟩ := hy3
  subst e3
  obtain ⟨q, x, y, rfl, hq2, k⟩ := hs i v ys H3 (hx xs hq) hp
  match v0, hv0 with
  | [v1, v2], _ => exact ⟨q, _, rfl, SqT.of hq2, rfl, _, _, rfl, _, _, rfl, rfl, ⟨[some x, some y], rfl, rfl⟩, k⟩
end L2
namespace L2
open PySem PySem.Spec PyProof.Rows
def memD (H : Hp) (ds : List Dt) : Value → Bool
 | .ref q => @decide (∃ es, IsD H (.ref q) (.tup es) ∧ eqDs es ds = true) (Classical.propDecidable _)
 | _ => false
theorem memD_ref {H : Hp} {ds es : List Dt} {q : Addr} (h : IsD H (.ref q) (.tup es)) : memD H ds (.ref q) = eqDs es ds := by
 unfold memD
 cases e : eqDs es ds with
 | true => exact @decide_eq_true _ (Classical.propDecidable _) ⟨es, h, e⟩
 | false =>
  refine @decide_eq_false _ (Classical.propDecidable _) ?_
  rintro ⟨es', h', e'⟩
  have := IsD.inj h h'
  injection this with this
  rw [this, e'] at e
  cases e
theorem any_memD {H : Hp} {ds : List Dt} : ∀ {xs : List V} {its : List Value} {dss : List (List Dt)}, Vals xs its → IsDs H xs (dss.map Dt.tup) → its.any (memD H ds) = dss.any fun es => eqDs es ds
 | _, _, [], r, h => by
  cases h
  cases r
  rfl
 | _, _, es :: dss, r, h => by
  rw [List.map_cons] at h
  cases h with
  | cons h hs =>
   obtain ⟨q, ys, rfl, hq, rq⟩ := h.tup_of
   cases r with
   | cons r0 rs =>
    have r0 : _ = Value.ref q := r0
    subst r0
    rw [List.any_cons, List.any_cons, memD_ref h, any_memD rs hs]
section
variable {X : Cx}
theorem op_inD (hu : X.A.units + 64 < cLine) : OpR X (compareOp .In) (fun x y H Q => ∃ (ds : List Dt) (p : Addr) (dss : List (List Dt)), IsD H x (.tup ds) ∧ y = .ref p ∧ IsD H (.ref p) (.tup (dss.map Dt.tup)) ∧ pls ds = true ∧ (∀ es ∈ dss, pls es = true ∧ deps es < 59) ∧ Q (.bl (dss.any fun es => eqDs es ds)) H) := by
 intro pins s σ H x y v u Q I rx ry h
 obtain ⟨ds, p, dss, ix, rfl, iy, pd, pe, q⟩ := h
 cases (show u = Value.ref p from ry)
 obtain ⟨p', xs, e0, hp, rs⟩ := iy.tup_of
 cases e0
 obtain ⟨its, r, pt, _⟩ := I.tuple (SqT.of (K := X.K) hp)
 refine SeqAt.in_tupleAt (memD H ds) (show s.heap.IsTuple p its.toArray from pt) (fun w hw => ?_) ⟨.bl _, H, I, rfl, ?_⟩
 ·have hw : w ∈ its := by simpa using hw
  obtain ⟨i, hi⟩ := List.getElem?_of_mem hw
  have il : i < xs.length := by rw [r.length]; exact (List.getElem?_eq_some_iff.mp hi).1
  obtain ⟨w', e1, rw'⟩ := r.get (gE il)
  rw [hi] at e1
  cases e1
  obtain ⟨d, hd, dx⟩ := rs.get (gE il)
  rw [List.getElem?_map] at hd
  obtain ⟨es, hes, rfl⟩ := Option.map_eq_some_iff.mp hd
  obtain ⟨p1, p2⟩ := pe es (List.mem_of_getElem? hes)
  obtain ⟨q', ys, eq', hq', _⟩ := dx.tup_of
  rw [eq'] at dx rw'
  have rw2 : w = Value.ref q' := rw'
  subst rw2
  rw [memD_ref dx]
  have key := eqAt_D (A := X.A.in1) 60 (by rw [dep]; omega) (by show X.A.units + 1 + 60 < cLine; omega) I dx ix rw' rx (by rw [pl]; exact p1) (by rw [pl]; exact pd)
  rw [eqD_tup] at key
  exact key
 ·rw [show its.toArray.any (memD H ds) = its.any (memD H ds) by simp, any_memD r rs]
  exact q
end
end L2
namespace L2
open PySem PySem.Spec PyProof.Rows
end L2
namespace L2
open PySem PySem.Spec PyProof.Rows
end L2
namespace L2
open PySem PySem.Spec PyProof.Rows
theorem compT_lst {K : PySem.W.Frag} {a : Addr} {xs : List V} {js : List Nat} {tt : TT} {te : TE} {σ : St} {H : Hp} {Q : VK} (Pv : Nat → List V → Hp → Prop) (h0 : Pv 0 [] H) (hl : ∀ i ys H, i ≤ xs.length → Pv i ys H → SqL K H a xs ∧ ys.length ≤ i) (hz : xs.length ≤ sizeLine)
  (hs : ∀ i v ys H, xs[i]? = some v → Pv i ys H → ∃ q x y, v = .ref q ∧ H q = some (.tup [x, y]) ∧ tt (some x :: some y :: blockSt σ js) H fun b H4 => if b = true then te (some x :: some y :: blockSt σ js) H4 fun z H5 => Pv (i + 1) (ys ++ [z]) H5 else Pv (i + 1) ys H4)
  (hd : ∀ ys H, Pv xs.length ys H → ∀ D, H D = none → Q (.ref D) (upd H D (.lst ys))) : CompWT 2 (gPair K) js tt te σ Q (Itl K a) H := by
 refine ⟨fun i m ys H => i ≤ xs.length ∧ m = xs.length - i ∧ Pv i ys H, ⟨_, Nat.zero_le _, rfl, h0⟩, fun i m ys H2 z => ?_⟩
 obtain ⟨hi, hm, hp⟩ := z
 obtain ⟨hq, hy⟩ := hl i ys H2 hi hp
 by_cases e : i = xs.length
 ·subst e
  exact .inl ⟨⟨xs, hq, Nat.le_refl _⟩, hd ys H2 hp⟩
 ·have hlt : i < xs.length := Nat.lt_of_le_of_ne hi e
  refine .inr ⟨⟨xs, _, hq, gE hlt⟩, by omega, Pv (i + 1), fun ys' H' hp' => ⟨xs.length - (i + 1), by omega, by omega, rfl, hp'⟩, fun v H3 hy3 v0 hv0 => ?_⟩
  obtain ⟨e3, hx⟩ := hy3
  subst e3
  obtain ⟨q, x, y, rfl, hq2, k⟩ := hs i v ys H3 (hx xs hq) hp
  match v0, hv0 with
  | [v1, v2], _ => exact ⟨q, _, rfl, SqT.of hq2, rfl, _, _, rfl, _, _, rfl, rfl, ⟨[some x, some y], rfl, rfl⟩, k⟩
def leastI : List Int → Int
 | [] => 0
 | [a] => a
 | a :: b :: l => if a < leastI (b :: l) then a else leastI (b :: l)
theorem least_ok : ∀ (l : List Int), l ≠ [] → leastI l ∈ l ∧ ∀ a ∈ l, leastI l ≤ a
 | [], h => absurd rfl h
 | [a], _ => ⟨by simp [leastI], fun x hx => by rw [List.mem_singleton.mp hx]; exact Int.le_refl _⟩
 | a :: b :: l, _ => by
  obtain ⟨h1, h2⟩ := least_ok (b :: l) (by simp)
  show (if a < leastI (b :: l) then a else leastI (b :: l)) ∈ a :: b :: l ∧ ∀ x ∈ a :: b :: l, (if a < leastI (b :: l) then a else leastI (b :: l)) ≤ x
  split
  ·refine ⟨List.mem_cons_self .., fun x hx => ?_⟩
   rcases List.mem_cons.mp hx with rfl | hx
   ·exact Int.le_refl _
   ·have := h2 x hx; omega
  ·refine ⟨List.mem_cons_of_mem _ h1, fun x hx => ?_⟩
   rcases List.mem_cons.mp hx with rfl | hx
   ·omega
   ·exact h2 x hx
section
variable {X : Cx}
theorem call_min1 (hc : X.calm = true) : CallR X (.builtin "min") (fun xs H Q => ∃ (p : Addr) (ns : List Int), xs = [.ref p] ∧ SqL X.K H p (ns.map V.int) ∧ ns ≠ [] ∧ Q (.int (leastI ns)) H) := by
 intro pins s σ H xs us Q I r h
 obtain ⟨p, ns, rfl, hq, hne, q⟩ := h
 obtain ⟨u, rfl, ru⟩ := vals1 r
 cases (show u = Value.ref p from ru)
 obtain ⟨its, rv, pl, hz⟩ := I.list hq
 have hi := ints_are rv
 obtain ⟨ys, hx⟩ := hi.allInts.items
 have hl' : s.heap.IsList p (intItems ys) := hx ▸ pl.isList
 have e1 : ns = ys.toList.map (·.1) := by
  rw [← nums_intItems, ← hx]
  exact (show numsOf its.toArray.toList = ns from hi.numsOf).symm
 have hsz : 0 < ys.size := by
  have : 0 < ns.length := List.length_pos_iff.mpr hne
  rw [e1, List.length_map, Array.length_toList] at this
  exact this
 refine min_intList (I.ok.hd hc) hl' hsz fun v h' tk hv hk => ?_
 obtain ⟨t, rfl⟩ := intItems_at hv
 obtain ⟨b1, b2⟩ := argBest_lt (numAt ys) (ys.size - 1)
 obtain ⟨l1, l2⟩ := least_ok ns hne
 have m1 : numAt ys (argBest (fun i j => decide (numAt ys i < numAt ys j)) (ys.size - 1)) ∈ ns := by
  rw [e1, numAt_eq]
  exact getD_mem (by rw [List.length_map, Array.length_toList]; omega)
 have m2 : numAt ys (argBest (fun i j => decide (numAt ys i < numAt ys j)) (ys.size - 1)) = leastI ns := by
  refine Int.le_antisymm ?_ (l2 _ m1)
  have l3 : leastI ns ∈ ys.toList.map (·.1) := by rw [← e1]; exact l1
  obtain ⟨j, hj, e⟩ := mem_getD l3
  rw [List.length_map, Array.length_toList] at hj
  rw [← e, ← numAt_eq]
  exact b2 j (by omega)
 rw [m2]
 exact ⟨.int (leastI ns), H, I.kept (t' := tk) hk, ⟨t, rfl⟩, q⟩
end
end L2
namespace HN
open PySem L2 PyProof.Rows
def isI : V → Bool
 | .int _ => true
 | _ => false
def iv : V → Int
 | .int i => i
 | _ => 0
def inI (v : V) (lo hi : Int) : Bool := match v with
 | .int i => decide (lo ≤ i) && decide (i ≤ hi)
 | _ => false
def Kn (H : Hp) (v : V) : Prop := ∃ T, tyn H v = some T
def Below (P : V → Prop) (H : Hp) (v : V) : Prop := Kn H v ∧ ∀ a xs, v = .ref a → H a = some (.tup xs) → ∀ x ∈ xs, P x
abbrev G1 (H : Hp) (v : V) : Prop := Below (Kn H) H v
abbrev G2 (H : Hp) (v : V) : Prop := Below (G1 H) H v
abbrev G3 (H : Hp) (v : V) : Prop := Below (G2 H) H v
theorem sort_int {H : Hp} {v : V} {T : String} (h : tyn H v = some T) : (T == "int" || T == "bool") = true → (!(T == "bool")) = isI v := by
 cases v with
 | ref a =>
  simp only [tyn] at h
  cases q : H a with
  | none => rw [q] at h; cases h
  | some o => rw [q] at h; cases o <;> first | (cases h; intro z; exact absurd z (by decide)) | cases h
 | non => cases h; intro z; exact absurd z (by decide)
 | bl b => cases h; intro _; show (!("bool" == "bool")) = false; decide
 | int i => cases h; intro _; show (!("int" == "bool")) = true; decide
 | str x => cases h; intro z; exact absurd z (by decide)
 | _ => cases h
theorem sort_noInt {H : Hp} {v : V} {T : String} (h : tyn H v = some T) : ¬ (T == "int" || T == "bool") = true → isI v = false := by
 cases v with
 | int i => cases h; intro z; exact absurd (by decide) z
 | _ => intro _; rfl
theorem isI_of {v : V} (h : isI v = true) : ∃ i, v = .int i := by
 cases v with
 | int i => exact ⟨i, rfl⟩
 | _ => cases h
theorem iteB {b : Bool} {A B : Prop} (h : b = true) (x : A) : if b = true then A else B := by rw [if_pos h]; exact x
theorem iteC {b : Bool} {A B : Prop} (h : b = false) (x : B) : if b = true then A else B := by rw [if_neg (by rw [h]; exact Bool.false_ne_true)]; exact x
structure Nm (mg : Str → Option Value) : Prop where
 isin : mg "isinstance" = none
 tint : mg "int" = none
 tbool : mg "bool" = none
 ttup : mg "tuple" = none
 len : mg "len" = none
 min : mg "min" = none
 all : mg "all" = none
structure Cs (mg : Str → Option Value) : Prop where
 mh : ∃ t, mg "MOST_HAPPENINGS" = some (.int 16 t)
 ms : ∃ t, mg "MOST_SPANS" = some (.int 40 t)
 mw : ∃ t, mg "MOST_WEIGHT" = some (.int 1000000000000 t)
structure Fn (K : PySem.W.Frag) (mg : Str → Option Value) (x : Str) (st : Stmt) (ps : List Str) (f : Addr) (fd : FuncData) : Prop where
 F : Fun K x x st f fd
 mg : mg x = some (.ref f)
 b : Binds K fd ps []
theorem pc1 {X : Cx} {k : Nat} {f : Addr} {fd : FuncData} {ps : List Str} {sp : Sp} {x : Str} {st : Stmt} {p pos : Pos} {e : Expr} {es : List Expr} {t : TA} (G : Fn X.K X.mg x st ps f fd) (F : FnOk X.prog X.w X.K X.mg X.base CX0 k f fd ps sp) (hr : Room k X.A)
  (ha : PA X (e :: es) t) (hg : Gl X x := by rfl) (hdb : (x == ("__debug__" : Str)) = false := by decide) (he : starEach (e :: es) X.env = (false, eval e X.env) :: starEach es X.env := by rfl) (hpl : (backTo pos (starEach es X.env)).any (·.1) = false := by rfl) :
  PE X (.Call (.Name x p) (e :: es) [] pos) (tCall sp [] E0 t) := pe_call F hr hg G.mg G.F.kp G.b .nil pass0 ha hdb he hpl
theorem pe_gint {X : Cx} {x : Str} {i : Int} {pos : Pos} (hm : ∃ t, X.mg x = some (.int i t)) (hg : Gl X x := by rfl) (hd : (x == ("__debug__" : Str)) = false := by decide) : PE X (.Name x pos) (tC (.int i)) :=
 let ⟨t, e⟩ := hm; pe_glob (v := .int i) (u := .int i t) hg e ⟨t, rfl⟩ hd
theorem pe_isTup {X : Cx} {e : Expr} {te : TE} {p p2 pos : Pos} (N : Nm X.mg) (he : PE X e te) (hg : Gl X "isinstance" := by rfl) (hg2 : Gl X "tuple" := by rfl)
  (hs1 : starEach [e, .Name "tuple" p2] X.env = (false, eval e X.env) :: starEach [.Name "tuple" p2] X.env := by rfl) (hpl : (backTo pos (starEach [.Name "tuple" p2] X.env)).any (·.1) = false := by rfl) :
  PE X (.Call (.Name "isinstance" p) [e, .Name "tuple" p2] [] pos) (tCB (fun xs H Q => ∃ x T, xs = [x, .ty "tuple"] ∧ tyn H x = some T ∧ Q (.bl (T == "tuple")) H) (tCons te (tCons (tC (.ty "tuple")) tNil))) :=
 pe_callB call_isTup hg N.isin boot_isinstance (pa_cons he (pa_cons (pe_bltn hg2 N.ttup boot_tuple rfl) pa_nil) hs1) (he := hs1) (hpl := hpl)
theorem pe_isInt {X : Cx} {e : Expr} {te : TE} {p p2 pos : Pos} (N : Nm X.mg) (he : PE X e te) (hg : Gl X "isinstance" := by rfl) (hg2 : Gl X "int" := by rfl)
  (hs1 : starEach [e, .Name "int" p2] X.env = (false, eval e X.env) :: starEach [.Name "int" p2] X.env := by rfl) (hpl : (backTo pos (starEach [.Name "int" p2] X.env)).any (·.1) = false := by rfl) :
  PE X (.Call (.Name "isinstance" p) [e, .Name "int" p2] [] pos) (tCB (fun xs H Q => ∃ x T, xs = [x, .ty "int"] ∧ tyn H x = some T ∧ Q (.bl (T == "int" || T == "bool")) H) (tCons te (tCons (tC (.ty "int")) tNil))) :=
 pe_callB call_isInt hg N.isin boot_isinstance (pa_cons he (pa_cons (pe_bltn hg2 N.tint boot_int rfl) pa_nil) hs1) (he := hs1) (hpl := hpl)
theorem pe_isBool {X : Cx} {e : Expr} {te : TE} {p p2 pos : Pos} (N : Nm X.mg) (he : PE X e te) (hg : Gl X "isinstance" := by rfl) (hg2 : Gl X "bool" := by rfl)
  (hs1 : starEach [e, .Name "bool" p2] X.env = (false, eval e X.env) :: starEach [.Name "bool" p2] X.env := by rfl) (hpl : (backTo pos (starEach [.Name "bool" p2] X.env)).any (·.1) = false := by rfl) :
  PE X (.Call (.Name "isinstance" p) [e, .Name "bool" p2] [] pos) (tCB (fun xs H Q => ∃ x T, xs = [x, .ty "bool"] ∧ tyn H x = some T ∧ Q (.bl (T == "bool")) H) (tCons te (tCons (tC (.ty "bool")) tNil))) :=
 pe_callB call_isBool hg N.isin boot_isinstance (pa_cons he (pa_cons (pe_bltn hg2 N.tbool boot_bool rfl) pa_nil) hs1) (he := hs1) (hpl := hpl)
def spWhole : Sp := fun vs H Q _ => ∃ v, vs = [v] ∧ Kn H v ∧ Q (.bl (isI v)) H
def spWithin : Sp := fun vs H Q _ => ∃ v lo hi, vs = [v, .int lo, .int hi] ∧ Kn H v ∧ Q (.bl (inI v lo hi)) H
end HN
namespace HN
open PySem L2 PyProof.Rows
structure Sn where
 s : Int
 g : Int
 l : Int
 o : Int
 w : Int
abbrev Sn.row (x : Sn) : List Int := [x.s, x.g, x.l, x.o, x.w]
abbrev netP (b m : Int) (sp : List Sn) : Dt := .tup [.int b, .int m, .tup (sp.map fun x => .tup (x.row.map Dt.int))]
theorem netP_of {H : Hp} {v : V} {b m : Int} {sp : List Sn} (h : IsD H v (netP b m sp)) : ∃ t p ys, v = .ref t ∧ H t = some (.tup [.int b, .int m, .ref p]) ∧ H p = some (.tup ys) ∧ ys.length = sp.length ∧ ∀ (i : Nat) (x : Sn), sp[i]? = some x → ∃ q, ys[i]? = some (.ref q) ∧ H q = some (.tup [.int x.s, .int x.g, .int x.l, .int x.o, .int x.w]) := by
 obtain ⟨t, xs, rfl, ht, rx⟩ := h.tup_of
 cases rx with
 | cons h0 r0 =>
  cases r0 with
  | cons h1 r1 =>
   cases r1 with
   | cons h2 r2 =>
    cases r2
    cases h0
    cases h1
    obtain ⟨p, ys, rfl, hp, ry⟩ := h2.tup_of
    refine ⟨t, p, ys, rfl, ht, hp, by rw [ry.length, List.length_map], fun i x hx => ?_⟩
    obtain ⟨y, hy, dy⟩ := ry.at (i := i) (d := .tup (x.row.map Dt.int)) (by rw [List.getElem?_map, hx]; rfl)
    obtain ⟨q, zs, rfl, hq, rz⟩ := dy.tup_of
    have ez := rz.ints_of
    subst ez
    exact ⟨q, hy, hq⟩
def tm (ts : List Int) (i : Int) : Int := ts.getD i.toNat 0
theorem tm_at {ts : List Int} {i : Int} (h0 : 0 ≤ i) (h1 : i < ts.length) : atI (ts.map V.int) i = some (.int (tm ts i)) := by
 obtain ⟨j, rfl⟩ := Int.eq_ofNat_of_zero_le h0
 refine atI_nat ?_
 rw [List.getElem?_map, gE (by omega)]
 unfold tm
 rw [Int.toNat_natCast, List.getD_eq_getElem?_getD, gE (by omega)]
 rfl
structure Rdy (b : Int) (ts : List Int) (sp : List Sn) : Prop where
 b1 : 0 < b
 few : sp.length ≤ 1000
 ends : ∀ x ∈ sp, 0 ≤ x.s ∧ x.s < ts.length ∧ 0 ≤ x.g ∧ x.g < ts.length
def waitM (b : Int) (ts : List Int) (x : Sn) : Int := (tm ts x.g - tm ts x.s - x.l) % b
def waitsM (b : Int) (ts : List Int) (sp : List Sn) : List Int := sp.map (waitM b ts)
def brk (b : Int) (ts : List Int) (x : Sn) : Bool := decide (x.o - x.l < waitM b ts x)
def brokenM (b : Int) (ts : List Int) (sp : List Sn) : List Int := ((List.range sp.length).filter fun i => match sp[i]? with | some x => brk b ts x | none => false).map Int.ofNat
def fitsM (b : Int) (ts : List Int) (sp : List Sn) : Bool := !(sp.any (brk b ts))
def waitOfM (b : Int) (ts : List Int) (sp : List Sn) : Int := (sp.map fun x => x.w * waitM b ts x).sum
def movedL (b k : Int) (ns : List Int) : List Int := ns.map fun n => (n + k) % b
theorem small_le {n : Nat} (h : n ≤ 1000) : n ≤ sizeLine := Nat.le_trans h (by decide)
theorem brokenM_nil {b : Int} {ts : List Int} {sp : List Sn} : ((brokenM b ts sp).length = 0) ↔ fitsM b ts sp = true := by
 unfold brokenM fitsM
 rw [List.length_map, List.length_eq_zero_iff, List.filter_eq_nil_iff, Bool.not_eq_true', List.any_eq_false]
 constructor
 ·intro h x hx
  obtain ⟨i, hi, rfl⟩ := List.getElem_of_mem hx
  have := h i (List.mem_range.mpr hi)
  rw [gE hi] at this
  exact this
 ·intro h i hi
  have hi := List.mem_range.mp hi
  rw [gE hi]
  exact h _ (List.getElem_mem hi)
def bkAt (b : Int) (ts : List Int) (sp : List Sn) (k : Nat) : List Int := ((List.range k).filter fun i => match sp[i]? with | some x => brk b ts x | none => false).map Int.ofNat
theorem bkAt_more {b : Int} {ts : List Int} {sp : List Sn} {k : Nat} {x : Sn} (h : sp[k]? = some x) : bkAt b ts sp (k + 1) = bkAt b ts sp k ++ (if brk b ts x = true then [(k : Int)] else []) := by
 unfold bkAt
 rw [List.range_succ, List.filter_append, List.map_append]
 congr 1
 rw [List.filter_cons, h]
 by_cases q : brk b ts x = true
 ·simp only [q, if_true]; rfl
 ·simp only [q, if_false]; rfl
theorem bkAt_len {b : Int} {ts : List Int} {sp : List Sn} (k : Nat) : (bkAt b ts sp k).length ≤ k := by
 unfold bkAt
 rw [List.length_map]
 exact Nat.le_trans (List.length_filter_le _ _) (by rw [List.length_range]; exact Nat.le_refl _)
structure Nt (mg : Str → Option Value) : Prop where
 range : mg "range" = none
 enum : mg "enumerate" = none
 zip : mg "zip" = none
 sum : mg "sum" = none
 tlist : mg "list" = none
 max : mg "max" = none
structure SnOk (b m : Int) (x : Sn) : Prop where
 s0 : 0 ≤ x.s
 s1 : x.s < m
 g0 : 0 ≤ x.g
 g1 : x.g < m
 ne : x.s ≠ x.g
 l0 : 0 ≤ x.l
 lo : x.l ≤ x.o
 ob : x.o < x.l + b
 o60 : x.o < 10 ^ 60
 w0 : 0 ≤ x.w
 w1 : x.w ≤ 1000000000000
structure NetT (b m : Int) (sp : List Sn) : Prop where
 b1 : 1 ≤ b
 b2 : b ≤ 10 ^ 59
 m1 : 1 ≤ m
 m2 : m ≤ 16
 few : sp.length ≤ 40
 all : ∀ x ∈ sp, SnOk b m x
theorem NetT.rdy {b m : Int} {sp : List Sn} {ts : List Int} (h : NetT b m sp) (ht : (ts.length : Int) = m) : Rdy b ts sp :=
 ⟨by have := h.b1; omega, by have := h.few; omega, fun x hx => by have := h.all x hx; exact ⟨this.s0, by have := this.s1; omega, this.g0, by have := this.g1; omega⟩⟩
theorem NetT.ws {b m : Int} {sp : List Sn} (h : NetT b m sp) : ∀ x ∈ sp, 0 ≤ x.w ∧ x.w ≤ 1000000000000 := fun x hx => ⟨(h.all x hx).w0, (h.all x hx).w1⟩
def spRest : Sp := fun vs H Q _ => ∃ b n, vs = [.int b, .int n] ∧ 0 < b ∧ Q (.int (n % b)) H
def spWidth : Sp := fun vs H Q _ => ∃ v b m sp i x, vs = [v, .int (i : Nat)] ∧ IsD H v (netP b m sp) ∧ sp[i]? = some x ∧ Q (.int (x.o - x.l)) H
def spWaitIn : Sp := fun vs H Q _ => ∃ v u b m sp ts i x, vs = [v, .ref u, .int (i : Nat)] ∧ IsD H v (netP b m sp) ∧ H u = some (.tup (ts.map V.int)) ∧ Rdy b ts sp ∧ sp[i]? = some x ∧ Q (.int (waitM b ts x)) H
def spWaits : Sp := fun vs H Q _ => ∃ v u b m sp ts, vs = [v, .ref u] ∧ IsD H v (netP b m sp) ∧ H u = some (.tup (ts.map V.int)) ∧ Rdy b ts sp ∧ ∀ p H', Same H H' → H' p = some (.tup ((waitsM b ts sp).map V.int)) → Q (.ref p) H'
def spBroken : Sp := fun vs H Q _ => ∃ v u b m sp ts, vs = [v, .ref u] ∧ IsD H v (netP b m sp) ∧ H u = some (.tup (ts.map V.int)) ∧ Rdy b ts sp ∧ ∀ p H', Same H H' → H' p = some (.tup ((brokenM b ts sp).map V.int)) → Q (.ref p) H'
def spFits : Sp := fun vs H Q _ => ∃ v u b m sp ts, vs = [v, .ref u] ∧ IsD H v (netP b m sp) ∧ H u = some (.tup (ts.map V.int)) ∧ Rdy b ts sp ∧ ∀ H', Same H H' → Q (.bl (fitsM b ts sp)) H'
def spWaitOf : Sp := fun vs H Q _ => ∃ v u b m sp ts, vs = [v, .ref u] ∧ IsD H v (netP b m sp) ∧ H u = some (.tup (ts.map V.int)) ∧ Rdy b ts sp ∧ (∀ x ∈ sp, 0 ≤ x.w ∧ x.w ≤ 1000000000000) ∧ ∀ H', Same H H' → Q (.int (waitOfM b ts sp)) H'
end HN
namespace HN
open PySem L2 PyProof.Rows
def Mb (p : Addr) (H H' : Hp) : Prop := (∀ b o, b ≠ p → H b = some o → H' b = some o) ∧ ∃ x y, H' p = some (.lst [.int x, .int y])
theorem atI_in {α : Type} {xs : List α} {r : Int} (h0 : 0 ≤ r) (h1 : r < xs.length) : ∃ v, atI xs r = some v ∧ v ∈ xs := by
 obtain ⟨j, rfl⟩ := Int.eq_ofNat_of_zero_le h0
 have hj : j < xs.length := by omega
 exact ⟨xs[j], atI_nat (gE hj), List.getElem_mem hj⟩
theorem log_ok {m : Int} (h0 : 0 < m) (h : m < 10 ^ 61) : 0 < m ∧ m.natAbs.log2 < 9000 := by
 refine ⟨h0, ?_⟩
 have h1 : m.natAbs < 2 ^ 300 := by
  have : (10 : Nat) ^ 61 < 2 ^ 300 := by decide +kernel
  have h2 : m.natAbs < 10 ^ 61 := by omega
  exact Nat.lt_trans h2 this
 have h3 : m.natAbs ≠ 0 := by omega
 have := (Nat.log2_lt h3).mpr h1
 omega
theorem goal_ok {s t m : Int} (h0 : 0 ≤ s) (h1 : s < m) (h2 : 0 ≤ t) (h3 : t < m - 1) : 0 ≤ (s + 1 + t) % m ∧ (s + 1 + t) % m < m ∧ s ≠ (s + 1 + t) % m := by
 have hm : 0 < m := by omega
 have a := Int.emod_nonneg (s + 1 + t) (by omega : m ≠ 0)
 have b := Int.emod_lt_of_pos (s + 1 + t) hm
 refine ⟨a, b, ?_⟩
 by_cases q : s + 1 + t < m
 ·rw [Int.emod_eq_of_lt (by omega) q]; omega
 ·have e : (s + 1 + t) % m = (s + 1 + t - m) % m := (Int.sub_emod_right _ _).symm
  rw [e, Int.emod_eq_of_lt (by omega) (by omega)]; omega
end HN
namespace HN
open PySem L2 PyProof.Rows
abbrev rowsP {α : Type} (f : α → List Int) (xs : List α) : Dt := .tup (xs.map fun x => .tup ((f x).map Dt.int))
theorem rows_at {α : Type} {f : α → List Int} {H : Hp} {xs : List α} {ys : List V} (r : IsDs H ys (xs.map fun x => .tup ((f x).map Dt.int))) {i : Nat} {x : α} (hx : xs[i]? = some x) : ∃ q, ys[i]? = some (.ref q) ∧ H q = some (.tup ((f x).map V.int)) := by
 obtain ⟨y, hy, dy⟩ := r.at (i := i) (d := .tup ((f x).map Dt.int)) (by rw [List.getElem?_map, hx]; rfl)
 obtain ⟨q, zs, rfl, hq, rz⟩ := dy.tup_of
 have ez := rz.ints_of
 subst ez
 exact ⟨q, hy, hq⟩
theorem rows_of {α : Type} {f : α → List Int} {H : Hp} {v : V} {xs : List α} (h : IsD H v (rowsP f xs)) : ∃ p ys, v = .ref p ∧ H p = some (.tup ys) ∧ ys.length = xs.length ∧ IsDs H ys (xs.map fun x => .tup ((f x).map Dt.int)) := by
 obtain ⟨p, ys, rfl, hp, ry⟩ := h.tup_of
 exact ⟨p, ys, rfl, hp, by rw [ry.length, List.length_map], ry⟩
structure Stp where
 i : Nat
 d : Int
abbrev Stp.row (s : Stp) : List Int := [(s.i : Int), s.d]
abbrev wayP (ws : List Stp) : Dt := rowsP Stp.row ws
abbrev bndR (p : Int × Int) : List Int := [p.1, p.2]
abbrev bndP (bs : List (Int × Int)) : Dt := rowsP bndR bs
def frm (x : Sn) (d : Int) : Int := if d = 1 then x.s else x.g
def too (x : Sn) (d : Int) : Int := if d = 1 then x.g else x.s
def WayIn (n : Nat) (ws : List Stp) : Prop := ∀ s ∈ ws, s.i < n ∧ (s.d = 1 ∨ s.d = -1)
def frmS (sp : List Sn) (s : Stp) : Int := match sp[s.i]? with | some x => frm x s.d | none => 0
def tooS (sp : List Sn) (s : Stp) : Int := match sp[s.i]? with | some x => too x s.d | none => 0
def lowS (bs : List (Int × Int)) (s : Stp) : Int := match bs[s.i]? with | some p => if s.d = 1 then p.1 else -p.2 | none => 0
def highS (bs : List (Int × Int)) (s : Stp) : Int := match bs[s.i]? with | some p => if s.d = 1 then p.2 else -p.1 | none => 0
def sumLo (bs : List (Int × Int)) (ws : List Stp) : Int := (ws.map (lowS bs)).sum
def sumHi (bs : List (Int × Int)) (ws : List Stp) : Int := (ws.map (highS bs)).sum
theorem atI_last {α : Type} {xs : List α} {x : α} (h : xs[xs.length - 1]? = some x) : atI xs (-1) = some x := by
 have hl : xs.length - 1 < xs.length := (List.getElem?_eq_some_iff.mp h).1
 unfold atI ixN
 rw [if_neg (by decide), if_pos (by omega)]
 show xs[(-1 + (xs.length : Int)).toNat]? = some x
 rw [show (-1 + (xs.length : Int)).toNat = xs.length - 1 by omega]
 exact h
def spFrom : Sp := fun vs H Q _ => ∃ (v : V) (q : Addr) (b m : Int) (sp : List Sn) (s : Stp) (x : Sn), vs = [v, .ref q] ∧ IsD H v (netP b m sp) ∧ H q = some (.tup (s.row.map V.int)) ∧ sp[s.i]? = some x ∧ Q (.int (frm x s.d)) H
def spTo : Sp := fun vs H Q _ => ∃ (v : V) (q : Addr) (b m : Int) (sp : List Sn) (s : Stp) (x : Sn), vs = [v, .ref q] ∧ IsD H v (netP b m sp) ∧ H q = some (.tup (s.row.map V.int)) ∧ sp[s.i]? = some x ∧ Q (.int (too x s.d)) H
def spFirst : Sp := fun vs H Q _ => ∃ (v : V) (b m : Int) (sp : List Sn), vs = [v] ∧ IsD H v (netP b m sp) ∧ sp.length ≤ 1000 ∧ ∀ u H', Same H H' → IsD H' u (bndP (sp.map fun x => (x.l, x.o))) → Q u H'
def spSum : Sp := fun vs H Q _ => ∃ (vb vw : V) (bs : List (Int × Int)) (ws : List Stp), vs = [vb, vw] ∧ IsD H vb (bndP bs) ∧ IsD H vw (wayP ws) ∧ WayIn bs.length ws ∧ ∀ p H', Same H H' → H' p = some (.tup [.int (sumLo bs ws), .int (sumHi bs ws)]) → Q (.ref p) H'
end HN
namespace HN
open PySem L2 PyProof.Rows
def StepV (n : Nat) (H : Hp) (v : V) : Prop := ∃ (q : Addr) (s : Stp), v = .ref q ∧ H q = some (.tup (s.row.map V.int)) ∧ s.i < n ∧ (s.d = 1 ∨ s.d = -1)
def PairV (H : Hp) (v : V) : Prop := ∃ (q : Addr) (a b : Int), v = .ref q ∧ H q = some (.tup [.int a, .int b])
def spLeads : Sp := fun vs H Q _ => ∃ (v : V) (q : Addr) (b m : Int) (sp : List Sn) (s : Stp) (x : Sn), vs = [v, .ref q] ∧ IsD H v (netP b m sp) ∧ H q = some (.tup (s.row.map V.int)) ∧ sp[s.i]? = some x ∧ (s.d = 1 ∨ s.d = -1) ∧ ∀ p H', Same H H' → H' p = some (.tup [.int (frm x s.d), .int (too x s.d)]) → Q (.ref p) H'
end HN
namespace HN
open PySem L2 PyProof.Rows
def negS (s : Stp) : Stp := ⟨s.i, 0 - s.d⟩
def backW (ws : List Stp) : List Stp := ws.reverse.map negS
theorem backW_in {n : Nat} {ws : List Stp} (h : WayIn n ws) : WayIn n (backW ws) := fun s hs => by
 unfold backW at hs
 obtain ⟨t, ht, rfl⟩ := List.mem_map.mp hs
 obtain ⟨a, b⟩ := h t (List.mem_reverse.mp ht)
 exact ⟨a, by show 0 - t.d = 1 ∨ 0 - t.d = -1; omega⟩
theorem backW_len (ws : List Stp) : (backW ws).length = ws.length := by unfold backW; rw [List.length_map, List.length_reverse]
abbrev rowsD {α : Type} (f : α → List Int) (xs : List α) : List Dt := xs.map fun x => .tup ((f x).map Dt.int)
theorem back_rows {H : Hp} {xs : List V} {ds : List Dt} (r : IsDs H xs ds) : IsDs H xs.reverse ds.reverse := by
 induction ds generalizing xs with
 | nil => cases r; exact .nil
 | cons d ds ih =>
  cases r with
  | cons h r => rw [List.reverse_cons, List.reverse_cons]; exact (ih r).append (.cons h .nil)
end HN
namespace HN
open PySem L2 PyProof.Rows
structure N3 (mg : Str → Option Value) : Prop where
 tset : mg "set" = none
def inD (d : Dt) (lo hi : Int) : Bool := match d with
 | .int i => decide (lo ≤ i) && decide (i ≤ hi)
 | _ => false
theorem inI_inD {H : Hp} {x : V} {d : Dt} (lo hi : Int) (h : IsD H x d) : inI x lo hi = inD d lo hi := by cases h <;> rfl
def stepD (n : Nat) : Dt → Option Stp
 | .tup [.int i, .int k] => if 0 ≤ i ∧ i ≤ (n : Int) - 1 ∧ (k = 1 ∨ k = -1) then some ⟨i.toNat, k⟩ else none
 | _ => none
def stepB (n : Nat) (d : Dt) : Bool := (stepD n d).isSome
theorem stepD_of {n : Nat} {d : Dt} {s : Stp} (h : stepD n d = some s) : d = .tup (s.row.map Dt.int) ∧ s.i < n ∧ (s.d = 1 ∨ s.d = -1) := by
 unfold stepD at h
 split at h
 ·rename_i i k
  split at h
  ·rename_i hc
   obtain ⟨h0, h1, h2⟩ := hc
   cases h
   refine ⟨?_, by show i.toNat < n; omega, h2⟩
   show Dt.tup [.int i, .int k] = .tup [.int ((i.toNat : Nat) : Int), .int k]
   rw [Int.toNat_of_nonneg h0]
  ·cases h
 ·cases h
theorem stepB_len {n : Nat} {ds : List Dt} (h : ds.length ≠ 2) : stepB n (.tup ds) = false := by
 unfold stepB
 cases q : stepD n (.tup ds) with
 | none => rfl
 | some s =>
  obtain ⟨e, _⟩ := stepD_of q
  injection e with e
  rw [e] at h
  exact absurd rfl h
theorem stepD_row {n : Nat} {s : Stp} (h : s.i < n ∧ (s.d = 1 ∨ s.d = -1)) : stepD n (.tup (s.row.map Dt.int)) = some s := by
 show (if 0 ≤ (s.i : Int) ∧ (s.i : Int) ≤ (n : Int) - 1 ∧ (s.d = 1 ∨ s.d = -1) then some (⟨((s.i : Nat) : Int).toNat, s.d⟩ : Stp) else none) = some s
 rw [if_pos ⟨by omega, by omega, h.2⟩, Int.toNat_natCast]
theorem all_steps {n : Nat} : ∀ (ds : List Dt), ds.all (stepB n) = true → ∃ ss : List Stp, ds = rowsD Stp.row ss ∧ WayIn n ss
 | [], _ => ⟨[], rfl, fun _ h => absurd h (by simp)⟩
 | d :: ds, h => by
  rw [List.all_cons, Bool.and_eq_true] at h
  obtain ⟨ss, e, hs⟩ := all_steps ds h.2
  cases q : stepD n d with
  | none => unfold stepB at h; rw [q] at h; exact absurd h.1 (by decide)
  | some s =>
   obtain ⟨e1, e2⟩ := stepD_of q
   refine ⟨s :: ss, by rw [e1, e]; rfl, fun t ht => ?_⟩
   rcases List.mem_cons.mp ht with rfl | ht
   ·exact e2
   ·exact hs t ht
theorem rows_steps {n : Nat} : ∀ (ss : List Stp), WayIn n ss → (rowsD Stp.row ss).filterMap (stepD n) = ss ∧ (rowsD Stp.row ss).all (stepB n) = true
 | [], _ => ⟨rfl, rfl⟩
 | s :: ss, h => by
  obtain ⟨h1, h2⟩ := rows_steps ss fun t ht => h t (List.mem_cons_of_mem _ ht)
  have e := stepD_row (h s (by simp))
  unfold rowsD at h1 h2 ⊢
  rw [List.map_cons, List.filterMap_cons, e, List.all_cons]
  refine ⟨by rw [h1], ?_⟩
  rw [h2]
  unfold stepB
  rw [e]; rfl
def zipB (sp : List Sn) (ss : List Stp) : Bool := (ss.zip ss.tail).all fun p => decide (tooS sp p.1 = frmS sp p.2)
def wayB (sp : List Sn) (d : Dt) : Bool := match d with
 | .tup ds => !ds.isEmpty && (ds.all (stepB sp.length) && zipB sp (ds.filterMap (stepD sp.length)))
 | _ => false
def fstB (sp : List Sn) (ss : List Stp) : Int := match ss[0]? with | some s => frmS sp s | none => 0
def lstB (sp : List Sn) (ss : List Stp) : Int := match ss[ss.length - 1]? with | some s => tooS sp s | none => 0
def numsS (ss : List Stp) : List Int := ss.map fun s => (s.i : Int)
def ringOf (sp : List Sn) (ss : List Stp) : Bool := decide (2 ≤ ss.length) && (decide ((metL (numsS ss)).length = ss.length) && decide (fstB sp ss = lstB sp ss))
def ringB (sp : List Sn) (d : Dt) : Bool := match d with
 | .tup ds => wayB sp (.tup ds) && ringOf sp (ds.filterMap (stepD sp.length))
 | _ => false
abbrev Fine (d : Dt) : Prop := ∀ ds, d = .tup ds → ds.length ≤ 1000 ∧ ∀ e ∈ ds, ∀ x y, e = .tup [x, .int y] → y.natAbs < 10 ^ 400
def spStep : Sp := fun vs H Q _ => ∃ (v u : V) (b m : Int) (sp : List Sn) (d : Dt), vs = [v, u] ∧ IsD H v (netP b m sp) ∧ IsD H u d ∧ Q (.bl (stepB sp.length d)) H
def spWayP : Sp := fun vs H Q _ => ∃ (v u : V) (b m : Int) (sp : List Sn) (d : Dt), vs = [v, u] ∧ IsD H v (netP b m sp) ∧ IsD H u d ∧ Fine d ∧ ∀ H', Same H H' → Q (.bl (wayB sp d)) H'
def spRingP : Sp := fun vs H Q _ => ∃ (v u : V) (b m : Int) (sp : List Sn) (d : Dt), vs = [v, u] ∧ IsD H v (netP b m sp) ∧ IsD H u d ∧ Fine d ∧ ∀ H', Same H H' → Q (.bl (ringB sp d)) H'
theorem numsS_take {ss : List Stp} {i : Nat} (h : i < ss.length) : numsS (ss.take (i + 1)) = numsS (ss.take i) ++ [(ss[i].i : Int)] := by
 unfold numsS
 rw [List.take_add_one, gE h, List.map_append]; rfl
end HN
namespace HN
open PySem L2 PyProof.Rows
def TupK (H H' : Hp) : Prop := ∀ q xs, H q = some (.tup xs) → H' q = some (.tup xs)
theorem TupK.trans {H H1 H2 : Hp} (a : TupK H H1) (b : TupK H1 H2) : TupK H H2 := fun q xs h => b q xs (a q xs h)
theorem Same.tupK {H H' : Hp} (e : Same H H') : TupK H H' := fun _ _ h => e _ _ h
theorem tupK_upd {H : Hp} {p : Addr} {xs : List V} {o : HO} (hp : H p = some (.lst xs)) : TupK H (upd H p o) := fun q ys h => by rw [upd_ne (ne_of h hp (by intro z; cases z))]; exact h
theorem rows_keep {α : Type} {f : α → List Int} {H H' : Hp} (e : TupK H H') : ∀ {xs : List α} {zs : List V}, IsDs H zs (rowsD f xs) → IsDs H' zs (rowsD f xs)
 | [], _, h => by cases h; exact .nil
 | x :: xs, zs, h => by
  unfold rowsD at h ⊢
  rw [List.map_cons] at h ⊢
  cases h with
  | cons h1 h2 =>
   obtain ⟨q, ws, rfl, hq, rw'⟩ := h1.tup_of
   have e2 := rw'.ints_of
   subst e2
   exact .cons (.tup (e q _ hq) (IsDs.ints _)) (rows_keep e h2)
def BsU (bs : List (Int × Int)) : Prop := ∀ q ∈ bs, 0 ≤ q.1 ∧ q.1 ≤ q.2 ∧ q.2 < 10 ^ 60
def PairW (H : Hp) (v : V) : Prop := ∃ (q : Addr) (a b : Int), v = .ref q ∧ H q = some (.tup [.int a, .int b]) ∧ 0 ≤ a ∧ a ≤ b ∧ b < 10 ^ 60
def upB (b s : Int) : Int := -(-s / b)
def Rounds (hs : List Int) (n : Nat) (sp : List Sn) (ws : List Stp) : Prop := ∀ i, i < n → ∃ d x, ws[i]? = some ⟨i, d⟩ ∧ sp[i]? = some x ∧ (d = 1 ∨ d = -1) ∧ some (frm x d) = hs[i]? ∧ some (too x d) = hs[(i + 1) % hs.length]?
def spBeats : Sp := fun vs H Q _ => ∃ (vn vb vw : V) (b m : Int) (sp : List Sn) (bs : List (Int × Int)) (ws : List Stp), vs = [vn, vb, vw] ∧ IsD H vn (netP b m sp) ∧ 0 < b ∧ b < 10 ^ 61 ∧ IsD H vb (bndP bs) ∧ IsD H vw (wayP ws) ∧ WayIn bs.length ws ∧
 ∀ p H', Same H H' → H' p = some (.tup [.int (upB b (sumLo bs ws)), .int (sumHi bs ws / b)]) → Q (.ref p) H'
end HN
namespace HN
open PySem L2 PyProof.Rows
def Dk (p : Addr) (H : Hp) : Prop := ∃ (k : Int) (ns : List Int), H p = some (.lst ((k :: ns).map V.int)) ∧ ns.length ≤ 1000
def Md (p : Addr) (H H' : Hp) : Prop := (∀ b o, b ≠ p → H b = some o → H' b = some o) ∧ Dk p H'
theorem Md.refl {p : Addr} {H : Hp} (h : Dk p H) : Md p H H := ⟨fun _ _ _ e => e, h⟩
theorem Md.trans {p : Addr} {H H1 H2 : Hp} (a : Md p H H1) (b : Md p H1 H2) : Md p H H2 := ⟨fun c o hc e => b.1 c o hc (a.1 c o hc e), b.2⟩
theorem Dk.same {p : Addr} {H H1 : Hp} (h : Dk p H) (e : Same H H1) : Dk p H1 := let ⟨k, ns, a, b⟩ := h; ⟨k, ns, e _ _ a, b⟩
theorem Md.then {p : Addr} {H H1 H2 : Hp} (a : Md p H H1) (e : Same H1 H2) : Md p H H2 := ⟨fun c o hc q => e _ _ (a.1 c o hc q), a.2.same e⟩
theorem Md.at {p q : Addr} {H H1 : Hp} {o : HO} (a : Md p H H1) (h : H q = some o) (hne : q ≠ p) : H1 q = some o := a.1 q o hne h
theorem Md.tupK {p : Addr} {H H' : Hp} (hp : Dk p H) (M : Md p H H') : TupK H H' := fun q ys h => by
 obtain ⟨k, ns, e, _⟩ := hp
 exact M.1 q _ (ne_of h e (by intro z; cases z)) h
theorem Dk.ne {p q : Addr} {H : Hp} (h : Dk p H) (hq : H q = none) : q ≠ p := fun z => by obtain ⟨k, ns, e, _⟩ := h; rw [z, e] at hq; cases hq
def spDrawD : Sp := fun vs H Q _ => ∃ (p : Addr) (m : Int), vs = [.ref p, .int m] ∧ Dk p H ∧ 0 < m ∧ m < 10 ^ 61 ∧ ∀ r H', 0 ≤ r → r < m → Md p H H' → Q (.int r) H'
def spSpanD : Sp := fun vs H Q _ => ∃ (p h : Addr) (b m : Int) (hs : List Int) (k : Bool), vs = [.ref p, .int b, .int m, .ref h, .bl k] ∧ Dk p H ∧ 1 ≤ b ∧ b ≤ 10 ^ 33 ∧ 2 ≤ m ∧ m ≤ 16 ∧ H h = some (.tup (hs.map V.int)) ∧ (hs.length : Int) = m ∧
 ∀ t (z : Sn) H', Md p H H' → H' t = some (.tup (z.row.map V.int)) → SnOk b m z → Q (.ref t) H'
def spNetD : Sp := fun vs H Q _ => ∃ (p : Addr) (a c s g : Int), vs = [.ref p, .int a, .int c, .int s, .int g] ∧ Dk p H ∧ 1 ≤ a ∧ a ≤ 16 ∧ 1 ≤ c ∧ c ≤ 100 ∧ 0 ≤ s ∧ s ≤ 40 ∧ 1 ≤ g ∧ g ≤ 10 ^ 30 ∧
 ∀ (t : Addr) (v : V) (h : Addr) (b m : Int) (sp : List Sn) (hs : List Int) (H' : Hp), Md p H H' → H' t = some (.tup [v, .ref h]) → IsD H' v (netP b m sp) → NetT b m sp → b ≤ 10 ^ 33 → H' h = some (.tup (hs.map V.int)) → (hs.length : Int) = m → (∀ x ∈ hs, 0 ≤ x ∧ x < b) → Q (.ref t) H'
end HN
namespace HN
open PySem L2 PyProof.Rows
inductive Lf where
 | ring (ws : List Stp)
 | price (rows : List (Int × List Stp))
abbrev rowD (r : Int × List Stp) : Dt := .tup [.int r.1, wayP r.2]
def leafP : Lf → Dt
 | .ring ws => .tup [.str "ring", wayP ws]
 | .price rows => .tup [.str "price", .tup (rows.map rowD)]
def deadB (b : Int) (bs : List (Int × Int)) (ws : List Stp) : Bool := decide (upB b (sumLo bs ws) > sumHi bs ws / b)
def sureB (b : Int) (bs : List (Int × Int)) (ws : List Stp) : Bool := decide (upB b (sumLo bs ws) = sumHi bs ws / b)
def rightB (b : Int) (bs : List (Int × Int)) : Lf → Bool
 | .ring ws => deadB b bs ws
 | .price rows => rows.all fun r => sureB b bs r.2
def LfIn (n : Nat) : Lf → Prop
 | .ring ws => WayIn n ws
 | .price rows => rows.length ≤ 1000 ∧ ∀ r ∈ rows, WayIn n r.2
def spDead : Sp := fun vs H Q _ => ∃ (vn vb vw : V) (b m : Int) (sp : List Sn) (bs : List (Int × Int)) (ws : List Stp), vs = [vn, vb, vw] ∧ IsD H vn (netP b m sp) ∧ 0 < b ∧ b < 10 ^ 61 ∧ IsD H vb (bndP bs) ∧ IsD H vw (wayP ws) ∧ WayIn bs.length ws ∧ ∀ H', Same H H' → Q (.bl (deadB b bs ws)) H'
def spSure : Sp := fun vs H Q _ => ∃ (vn vb vw : V) (b m : Int) (sp : List Sn) (bs : List (Int × Int)) (ws : List Stp), vs = [vn, vb, vw] ∧ IsD H vn (netP b m sp) ∧ 0 < b ∧ b < 10 ^ 61 ∧ IsD H vb (bndP bs) ∧ IsD H vw (wayP ws) ∧ WayIn bs.length ws ∧ ∀ H', Same H H' → Q (.bl (sureB b bs ws)) H'
def spIsRight : Sp := fun vs H Q _ => ∃ (vn vb vl : V) (b m : Int) (sp : List Sn) (bs : List (Int × Int)) (lf : Lf), vs = [vn, vb, vl] ∧ IsD H vn (netP b m sp) ∧ 0 < b ∧ b < 10 ^ 61 ∧ IsD H vb (bndP bs) ∧ IsD H vl (leafP lf) ∧ LfIn bs.length lf ∧ ∀ H', Same H H' → Q (.bl (rightB b bs lf)) H'
end HN
namespace HN
open PySem L2 PyProof.Rows
theorem IsDs.takeN {H : Hp} : ∀ {xs : List V} {ds : List Dt} (n : Nat), IsDs H xs ds → IsDs H (xs.take n) (ds.take n)
 | _, _, 0, _ => .nil
 | _, _, _ + 1, .nil => .nil
 | _, _, n + 1, .cons h r => .cons h (IsDs.takeN n r)
theorem IsDs.dropN {H : Hp} : ∀ {xs : List V} {ds : List Dt} (n : Nat), IsDs H xs ds → IsDs H (xs.drop n) (ds.drop n)
 | _, _, 0, h => h
 | _, _, _ + 1, .nil => .nil
 | _, _, n + 1, .cons _ r => IsDs.dropN n r
def Along (sp : List Sn) : Int → List Stp → Int → Prop
 | x, [], y => x = y
 | x, s :: ws, y => frmS sp s = x ∧ Along sp (tooS sp s) ws y
theorem Along.append {sp : List Sn} : ∀ {us : List Stp} {x y z : Int} {vs : List Stp}, Along sp x us y → Along sp y vs z → Along sp x (us ++ vs) z
 | [], _, _, _, _, h, k => by cases h; exact k
 | _ :: us, _, _, _, _, h, k => ⟨h.1, Along.append (us := us) h.2 k⟩
theorem Along.split {sp : List Sn} : ∀ {us : List Stp} {x z : Int} {vs : List Stp}, Along sp x (us ++ vs) z → ∃ y, Along sp x us y ∧ Along sp y vs z
 | [], x, _, _, h => ⟨x, rfl, h⟩
 | _ :: us, _, _, _, h => let ⟨y, a, b⟩ := Along.split (us := us) h.2; ⟨y, ⟨h.1, a⟩, b⟩
theorem frmS_at {sp : List Sn} {j : Nat} {d : Int} (h : j < sp.length) : frmS sp ⟨j, d⟩ = frm sp[j] d := by
 unfold frmS
 show (match sp[j]? with | some x => frm x d | none => 0) = _
 rw [gE h]
theorem tooS_at {sp : List Sn} {j : Nat} {d : Int} (h : j < sp.length) : tooS sp ⟨j, d⟩ = too sp[j] d := by
 unfold tooS
 show (match sp[j]? with | some x => too x d | none => 0) = _
 rw [gE h]
theorem ends_of_span {sp : List Sn} {st : Stp} {j : Nat} {d : Int} (h : j < sp.length) (e : st.i = j) (hs : st.d = 1 ∨ st.d = -1) (hd : d = 1 ∨ d = -1) : tooS sp st = tooS sp ⟨j, d⟩ ∨ frmS sp st = tooS sp ⟨j, d⟩ := by
 obtain ⟨i, dd⟩ := st
 have e : i = j := e
 subst e
 have hs : dd = 1 ∨ dd = -1 := hs
 rw [tooS_at h, tooS_at h, frmS_at h]
 unfold too frm
 rcases hs with rfl | rfl <;> rcases hd with rfl | rfl <;> simp
structure Bk (sp : List Sn) (be ou : Int) (x : Int) (ws : List Stp) : Prop where
 inn : WayIn sp.length ws
 alo : Along sp be ws x
 one : (ws.map Stp.i).Nodup
 out : ∀ s ∈ ws, (s.i : Int) ≠ ou
theorem Bk.more {sp : List Sn} {be ou x to : Int} {ws : List Stp} {j : Nat} {d : Int} (h : Bk sp be ou x ws) (hj : j < sp.length) (hd : d = 1 ∨ d = -1) (h1 : frmS sp ⟨j, d⟩ = x) (h2 : tooS sp ⟨j, d⟩ = to) (ho : ((j : Nat) : Int) ≠ ou) (hn : ∀ st ∈ ws, st.i = j → False) : Bk sp be ou to (ws ++ [⟨j, d⟩]) := by
 refine ⟨fun s hs => ?_, h.alo.append ⟨h1, h2⟩, ?_, fun s hs => ?_⟩
 ·rcases List.mem_append.mp hs with hs | hs
  ·exact h.inn s hs
  ·rw [List.mem_singleton.mp hs]; exact ⟨hj, hd⟩
 ·rw [List.map_append]
  refine List.nodup_append.mpr ⟨h.one, by simp, fun a ha b hb e => ?_⟩
  obtain ⟨st, hst, rfl⟩ := List.mem_map.mp ha
  have hb : b = j := by simpa using hb
  exact hn st hst (by rw [e, hb])
 ·rcases List.mem_append.mp hs with hs | hs
  ·exact h.out s hs
  ·rw [List.mem_singleton.mp hs]; exact ho
structure Rg (sp : List Sn) (ws : List Stp) : Prop where
 inn : WayIn sp.length ws
 two : 2 ≤ ws.length
 few : ws.length ≤ 17
 one : (ws.map Stp.i).Nodup
 rnd : ∃ x, Along sp x ws x
theorem Bk.ring {sp : List Sn} {k : Nat} {ws : List Stp} (hk : k < sp.length) (hne : sp[k].s ≠ sp[k].g) (h : Bk sp sp[k].g (k : Nat) sp[k].s ws) (hl : ws.length ≤ 16) : Rg sp (⟨k, 1⟩ :: ws) := by
 refine ⟨fun s hs => ?_, ?_, by rw [List.length_cons]; omega, ?_, sp[k].s, ?_, ?_⟩
 ·rcases List.mem_cons.mp hs with rfl | hs
  ·exact ⟨hk, .inl rfl⟩
  ·exact h.inn s hs
 ·cases ws with
  | nil => exact absurd h.alo.symm hne
  | cons a r => rw [List.length_cons, List.length_cons]; omega
 ·rw [List.map_cons, List.nodup_cons]
  refine ⟨fun z => ?_, h.one⟩
  obtain ⟨st, hst, e⟩ := List.mem_map.mp z
  exact h.out st hst (by rw [e])
 ·rw [frmS_at hk]; rfl
 ·rw [tooS_at hk]; exact h.alo
theorem Rg.turn {sp : List Sn} {us vs : List Stp} (h : Rg sp (us ++ vs)) : Rg sp (vs ++ us) := by
 obtain ⟨x, hx⟩ := h.rnd
 obtain ⟨y, h1, h2⟩ := hx.split
 refine ⟨fun s hs => h.inn s ?_, ?_, ?_, ?_, y, h2.append h1⟩
 ·exact List.mem_append.mpr (List.mem_append.mp hs).symm
 ·have := h.two; rw [List.length_append] at this ⊢; omega
 ·have := h.few; rw [List.length_append] at this ⊢; omega
 ·have := h.one
  rw [List.map_append] at this ⊢
  obtain ⟨a, b, c⟩ := List.nodup_append.mp this
  exact List.nodup_append.mpr ⟨b, a, fun p hp q hq e => c q hq p hp e.symm⟩
theorem ends_neg {sp : List Sn} {s : Stp} (h : s.i < sp.length ∧ (s.d = 1 ∨ s.d = -1)) : frmS sp (negS s) = tooS sp s ∧ tooS sp (negS s) = frmS sp s := by
 obtain ⟨i, d⟩ := s
 obtain ⟨hi, hd⟩ := h
 have hi : i < sp.length := hi
 have hd : d = 1 ∨ d = -1 := hd
 show frmS sp ⟨i, 0 - d⟩ = _ ∧ tooS sp ⟨i, 0 - d⟩ = _
 rw [frmS_at hi, tooS_at hi, frmS_at hi, tooS_at hi]
 unfold frm too
 rcases hd with rfl | rfl <;> simp
theorem Along.back {sp : List Sn} : ∀ {ws : List Stp} {x y : Int}, WayIn sp.length ws → Along sp x ws y → Along sp y (backW ws) x
 | [], _, _, _, h => by cases h; rfl
 | s :: ws, x, y, hw, h => by
  have e : backW (s :: ws) = backW ws ++ [negS s] := by unfold backW; rw [List.reverse_cons, List.map_append]; rfl
  rw [e]
  obtain ⟨h1, h2⟩ := h
  obtain ⟨e1, e2⟩ := ends_neg (hw s (by simp))
  exact (Along.back (fun t ht => hw t (List.mem_cons_of_mem _ ht)) h2).append ⟨e1, by rw [e2]; exact h1⟩
theorem Rg.back {sp : List Sn} {ws : List Stp} (h : Rg sp ws) : Rg sp (backW ws) := by
 obtain ⟨x, hx⟩ := h.rnd
 refine ⟨backW_in h.inn, by rw [backW_len]; exact h.two, by rw [backW_len]; exact h.few, ?_, x, hx.back h.inn⟩
 have e : (backW ws).map Stp.i = (ws.map Stp.i).reverse := by
  unfold backW
  rw [List.map_map, ← List.map_reverse]
  rfl
 rw [e]
 exact List.pairwise_reverse.mpr (h.one.imp fun a => a.symm)
end HN
namespace HN
open PySem L2 PyProof.Rows
theorem pe_isStrT {X : Cx} {e : Expr} {te : TE} {p p2 pos : Pos} (N : Nm X.mg) (TS : X.mg "str" = none) (he : PE X e te) (hg : Gl X "isinstance" := by rfl) (hg2 : Gl X "str" := by rfl)
  (hs1 : starEach [e, .Name "str" p2] X.env = (false, eval e X.env) :: starEach [.Name "str" p2] X.env := by rfl) (hpl : (backTo pos (starEach [.Name "str" p2] X.env)).any (·.1) = false := by rfl) :
  PE X (.Call (.Name "isinstance" p) [e, .Name "str" p2] [] pos) (tCB (fun xs H Q => ∃ x T, xs = [x, .ty "str"] ∧ tyn H x = some T ∧ Q (.bl (T == "str")) H) (tCons te (tCons (tC (.ty "str")) tNil))) :=
 pe_callB call_isStr hg N.isin boot_isinstance (pa_cons he (pa_cons (pe_bltn hg2 TS boot_str rfl) pa_nil) hs1) (he := hs1) (hpl := hpl)
theorem ty_tup {H : Hp} {u : V} {d : Dt} (hd : IsD H u d) (h : (d.ty == "tuple") = true) : ∃ ds, d = .tup ds := by
 cases d with
 | tup ds => exact ⟨ds, rfl⟩
 | oth T => cases hd <;> simp [Dt.ty] at h
 | _ => simp [Dt.ty] at h
theorem ty_str {H : Hp} {u : V} {d : Dt} (hd : IsD H u d) (h : (d.ty == "str") = true) : ∃ x, d = .str x := by
 cases d with
 | str x => exact ⟨x, rfl⟩
 | oth T => cases hd <;> simp [Dt.ty] at h
 | _ => simp [Dt.ty] at h
def headB (w : Str) (n : Int) (d : Dt) : Bool := match d with
 | .tup ds => decide ((ds.length : Int) = n) && (match ds.head? with | some (Dt.str x) => decide (x = w) | _ => false)
 | _ => false
theorem head_no {H : Hp} {u : V} {w : Str} {n : Int} {d : Dt} (hd : IsD H u d) (h : ¬ (d.ty == "tuple") = true) : headB w n d = false := by
 cases d with
 | tup ds => exact absurd rfl h
 | _ => rfl
theorem head_of {w : Str} {n : Nat} {d : Dt} (h : headB w n d = true) : ∃ ds, d = .tup ds ∧ ds.length = n ∧ ds.head? = some (Dt.str w) := by
 unfold headB at h
 split at h
 ·rename_i ds
  rw [Bool.and_eq_true] at h
  obtain ⟨h1, h2⟩ := h
  refine ⟨ds, rfl, by have := of_decide_eq_true h1; omega, ?_⟩
  split at h2
  ·rename_i x hx
   rw [hx, of_decide_eq_true h2]
  ·cases h2
 ·cases h
def cutB (bs : List (Int × Int)) (d : Dt) : Bool := match d with
 | .tup [.str w, .int k, a, _, _] => decide (w = "cut") && (decide (0 ≤ k) && decide (k ≤ (bs.length : Int) - 1)) && (match bs[k.toNat]? with | some p => inD a p.1 (p.2 - 1) | none => false)
 | _ => false
def rowB (sp : List Sn) (d : Dt) : Bool := match d with
 | .tup [.int _, r] => ringB sp r
 | _ => false
def rowsB (sp : List Sn) (d : Dt) : Bool := match d with
 | .tup rows => decide (rows.length ≤ 40) && rows.all (rowB sp)
 | _ => false
def leafB (sp : List Sn) (d : Dt) : Bool := match d with
 | .tup [.str w, x] => if w = "ring" then ringB sp x else if w = "price" then rowsB sp x else false
 | _ => false
def FineL (d : Dt) : Prop := ∀ w x, d = .tup [w, x] → Fine x ∧ ∀ rows, x = .tup rows → ∀ r ∈ rows, ∀ p y, r = .tup [p, y] → Fine y
def spHeaded : Sp := fun vs H Q _ => ∃ (u : V) (w : Str) (n : Int) (d : Dt), vs = [u, .str w, .int n] ∧ IsD H u d ∧ 1 ≤ n ∧ Q (.bl (headB w n d)) H
def spCut : Sp := fun vs H Q _ => ∃ (vb u : V) (bs : List (Int × Int)) (d : Dt), vs = [vb, u] ∧ IsD H vb (bndP bs) ∧ IsD H u d ∧ Q (.bl (cutB bs d)) H
def spRowT : Sp := fun vs H Q _ => ∃ (v u : V) (b m : Int) (sp : List Sn) (d : Dt), vs = [v, u] ∧ IsD H v (netP b m sp) ∧ IsD H u d ∧ (∀ p y, d = .tup [p, y] → Fine y) ∧ ∀ H', Same H H' → Q (.bl (rowB sp d)) H'
def spLeafT : Sp := fun vs H Q _ => ∃ (v u : V) (b m : Int) (sp : List Sn) (d : Dt), vs = [v, u] ∧ IsD H v (netP b m sp) ∧ IsD H u d ∧ FineL d ∧ ∀ H', Same H H' → Q (.bl (leafB sp d)) H'
def spWithB : Sp := fun vs H Q _ => ∃ (vb : V) (k : Nat) (lo hi : Int) (bs : List (Int × Int)), vs = [vb, .int (k : Nat), .int lo, .int hi] ∧ IsD H vb (bndP bs) ∧ k < bs.length ∧ bs.length ≤ 40 ∧ ∀ u H', Same H H' → IsD H' u (bndP (bs.set k (lo, hi))) → Q u H'
inductive Tq where
 | leaf (d : Dt)
 | cut (k : Nat) (a : Int) (x y : Tq)
def treeD : Tq → Dt
 | .leaf d => d
 | .cut k a x y => .tup [.str "cut", .int (k : Nat), .int a, treeD x, treeD y]
def oneB (bs : List (Int × Int)) (k : Nat) (a : Int) : List (Int × Int) := bs.set k ((bs.getD k (0, 0)).1, a)
def otherB (bs : List (Int × Int)) (k : Nat) (a : Int) : List (Int × Int) := bs.set k (a + 1, (bs.getD k (0, 0)).2)
def lvs : Tq → List (Int × Int) → List (List (Int × Int) × Dt)
 | .leaf d, bs => [(bs, d)]
 | .cut k a x y, bs => lvs x (oneB bs k a) ++ lvs y (otherB bs k a)
def CutsOk : Tq → List (Int × Int) → Prop
 | .leaf d, bs => cutB bs d = false ∧ FineL d
 | .cut k a x y, bs => k < bs.length ∧ (bs.getD k (0, 0)).1 ≤ a ∧ a < (bs.getD k (0, 0)).2 ∧ CutsOk x (oneB bs k a) ∧ CutsOk y (otherB bs k a)
def siz : Tq → Nat
 | .leaf _ => 1
 | .cut _ _ x y => siz x + siz y + 1
theorem cut_true {k : Nat} {a : Int} {x y : Tq} {bs : List (Int × Int)} (h : CutsOk (.cut k a x y) bs) : cutB bs (treeD (.cut k a x y)) = true := by
 obtain ⟨h1, h2, h3, _⟩ := h
 show (decide (("cut" : Str) = "cut") && (decide ((0 : Int) ≤ (k : Nat)) && decide (((k : Nat) : Int) ≤ (bs.length : Int) - 1)) && (match bs[((k : Nat) : Int).toNat]? with | some p => inD (.int a) p.1 (p.2 - 1) | none => false)) = true
 have e : bs[((k : Nat) : Int).toNat]? = some bs[k] := by rw [Int.toNat_natCast, gE h1]
 have e2 : bs.getD k (0, 0) = bs[k] := by rw [List.getD_eq_getElem?_getD, gE h1]; rfl
 rw [e2] at h2 h3
 rw [e, decide_eq_true rfl, decide_eq_true (by omega), decide_eq_true (by omega)]
 show (true && (true && true) && (decide (bs[k].1 ≤ a) && decide (a ≤ bs[k].2 - 1))) = true
 rw [decide_eq_true h2, decide_eq_true (by omega)]; rfl
def plcD (p : List (Int × Int) × Dt) : Dt := .tup [bndP p.1, p.2]
def spSides : Sp := fun vs H Q _ => ∃ (vb : V) (c : Addr) (bs : List (Int × Int)) (k : Nat) (a : Int) (x3 x4 : V), vs = [vb, .ref c] ∧ IsD H vb (bndP bs) ∧ H c = some (.tup [.str "cut", .int (k : Nat), .int a, x3, x4]) ∧ k < bs.length ∧ bs.length ≤ 40 ∧
 ∀ p q r u1 u3 H', Same H H' → H' p = some (.tup [.ref q, .ref r]) → H' q = some (.tup [u1, x3]) → IsD H' u1 (bndP (oneB bs k a)) → H' r = some (.tup [u3, x4]) → IsD H' u3 (bndP (otherB bs k a)) → Q (.ref p) H'
def spLeavesIn : Sp := fun vs H Q _ => ∃ (v u : V) (b m : Int) (sp : List Sn) (t : Tq), vs = [v, u] ∧ IsD H v (netP b m sp) ∧ IsD H u (treeD t) ∧ sp.length ≤ 40 ∧ CutsOk t (sp.map fun x => (x.l, x.o)) ∧ siz t ≤ 2000 ∧
 ∀ res H', Same H H' → (if (lvs t (sp.map fun x => (x.l, x.o))).all (fun p => leafB sp p.2) = true then ∃ L ys, res = .ref L ∧ H L = none ∧ H' L = some (.lst ys) ∧ IsDs H' ys ((lvs t (sp.map fun x => (x.l, x.o))).map plcD) else res = .non) → Q res H'
theorem lvs_siz : ∀ (t : Tq) (bs : List (Int × Int)), (lvs t bs).length ≤ siz t
 | .leaf _, _ => by show 1 ≤ 1; decide
 | .cut k a x y, bs => by
  show (lvs x _ ++ lvs y _).length ≤ siz x + siz y + 1
  rw [List.length_append]
  have := lvs_siz x (oneB bs k a)
  have := lvs_siz y (otherB bs k a)
  omega
theorem one_len (bs : List (Int × Int)) (k : Nat) (a : Int) : (oneB bs k a).length = bs.length := by unfold oneB; rw [List.length_set]
theorem other_len (bs : List (Int × Int)) (k : Nat) (a : Int) : (otherB bs k a).length = bs.length := by unfold otherB; rw [List.length_set]
end HN
namespace HN
open PySem L2 PyProof.Rows
theorem getD_all (ns : List Int) : ((List.range ns.length).map fun i => ns.getD i 0) = ns := by
 refine List.ext_getElem (by rw [List.length_map, List.length_range]) fun i h1 h2 => ?_
 rw [List.getElem_map, List.getElem_range, List.getD_eq_getElem?_getD, gE h2]
 rfl
theorem met_eq (ns : List Int) : metL ns = ns.foldl step_dedup [] := by
 unfold metL firstMet
 rw [getD_all]
theorem fold_new : ∀ (ns acc : List Int), ns.Nodup → (∀ x ∈ ns, x ∉ acc) → ns.foldl step_dedup acc = acc ++ ns
 | [], acc, _, _ => by simp
 | x :: ns, acc, hn, h => by
  obtain ⟨h1, h2⟩ := List.nodup_cons.mp hn
  have e : step_dedup acc x = acc ++ [x] := by
   unfold step_dedup
   have : ¬ (acc.any (· == x)) = true := by
    intro z
    obtain ⟨y, hy, e⟩ := List.any_eq_true.mp z
    have e : y = x := by simpa using e
    exact h x (by simp) (e ▸ hy)
   rw [if_neg this]
  rw [List.foldl_cons, e, fold_new ns (acc ++ [x]) h2 fun y hy z => ?_]
  ·simp
  ·rcases List.mem_append.mp z with z | z
   ·exact h y (List.mem_cons_of_mem _ hy) z
   ·rw [List.mem_singleton.mp z] at hy; exact h1 hy
theorem met_nodup {ns : List Int} (h : ns.Nodup) : (metL ns).length = ns.length := by
 rw [met_eq, fold_new ns [] h (fun _ _ z => absurd z (by simp)), List.nil_append]
end HN
namespace HN
open PySem L2 PyProof.Rows
def TabsAt (H : Hp) (n : Nat) (us : List V) : Prop := ∀ u ∈ us, ∃ (q : Addr) (ts : List Int), u = .ref q ∧ H q = some (.tup (ts.map V.int)) ∧ ts.length = n
theorem TabsAt.same {H H' : Hp} {n : Nat} {us : List V} (h : TabsAt H n us) (e : Same H H') : TabsAt H' n us := fun u hu => let ⟨q, ts, a, b, c⟩ := h u hu; ⟨q, ts, a, e _ _ b, c⟩
end HN
namespace L2
open PySem PyProof.Rows HN
mutual
theorem IsD.keepP {H H' : Hp} (e : TupK H H') : ∀ {v : V} {d : Dt}, IsD H v d → pl d = true → IsD H' v d
 | _, _, .non, _ => .non
 | _, _, .bl b, _ => .bl b
 | _, _, .int i, _ => .int i
 | _, _, .str x, _ => .str x
 | _, _, .tup h r, p => .tup (e _ _ h) (IsDs.keepP e r (by unfold pl at p; exact p))
 | _, _, .lst h, p => by unfold pl at p; cases p
 | _, _, .dct h, p => by unfold pl at p; cases p
theorem IsDs.keepP {H H' : Hp} (e : TupK H H') : ∀ {xs : List V} {ds : List Dt}, IsDs H xs ds → pls ds = true → IsDs H' xs ds
 | _, _, .nil, _ => .nil
 | _, _, .cons h r, p => by
  unfold pls at p
  rw [Bool.and_eq_true] at p
  exact .cons (IsD.keepP e h p.1) (IsDs.keepP e r p.2)
end
end L2
namespace HN
open PySem L2 PyProof.Rows
theorem pls_map {α : Type} {f : α → Dt} : ∀ (xs : List α), (∀ x ∈ xs, pl (f x) = true) → pls (xs.map f) = true
 | [], _ => by show pls [] = true; unfold pls; rfl
 | x :: xs, h => by
  show pls (f x :: xs.map f) = true
  unfold pls
  rw [h x (by simp), pls_map xs fun y hy => h y (List.mem_cons_of_mem _ hy)]; rfl
theorem pl_ints (ns : List Int) : pl (.tup (ns.map Dt.int)) = true := by
 unfold pl
 exact pls_map ns fun x _ => by unfold pl; rfl
theorem pl_rows {α : Type} (f : α → List Int) (xs : List α) : pl (rowsP f xs) = true := by
 unfold rowsP
 unfold pl
 exact pls_map xs fun x _ => pl_ints (f x)
theorem pl_row (r : Int × List Stp) : pl (rowD r) = true := by
 show pl (.tup [.int r.1, wayP r.2]) = true
 unfold pl pls pls pls
 rw [show pl (.int r.1) = true by unfold pl; rfl, pl_rows]; rfl
theorem pl_leaf (l : Lf) : pl (leafP l) = true := by
 cases l with
 | ring ws =>
  show pl (.tup [.str "ring", wayP ws]) = true
  unfold pl pls pls pls
  rw [show pl (.str "ring") = true by unfold pl; rfl, pl_rows]; rfl
 | price rows =>
  show pl (.tup [.str "price", .tup (rows.map rowD)]) = true
  unfold pl pls pls pls
  have e : pl (.tup (rows.map rowD)) = true := by
   unfold pl
   exact pls_map rows fun r _ => pl_row r
  rw [show pl (.str "price") = true by unfold pl; rfl, e]; rfl
def RowOk (b : Int) (sp : List Sn) (bs : List (Int × Int)) (r : Int × List Stp) : Prop := Rg sp r.2 ∧ sureB b bs r.2 = true ∧ -1000000000000 ≤ r.1 ∧ r.1 ≤ 1000000000000
def LfOk (b : Int) (sp : List Sn) (bs : List (Int × Int)) : Lf → Prop
 | .ring ws => Rg sp ws ∧ deadB b bs ws = true
 | .price rows => rows.length ≤ 40 ∧ ∀ r ∈ rows, RowOk b sp bs r
def DrT (b : Int) (sp : List Sn) : Tq → List (Int × Int) → Prop
 | .leaf d, bs => ∃ lf, d = leafP lf ∧ LfOk b sp bs lf
 | .cut k a x y, bs => k < bs.length ∧ (bs.getD k (0, 0)).1 ≤ a ∧ a < (bs.getD k (0, 0)).2 ∧ DrT b sp x (oneB bs k a) ∧ DrT b sp y (otherB bs k a)
def dpT : Tq → Nat
 | .leaf _ => 0
 | .cut _ _ x y => max (dpT x) (dpT y) + 1
theorem siz_dp : ∀ (t : Tq), siz t + 1 ≤ 2 ^ (dpT t + 1)
 | .leaf _ => by show 1 + 1 ≤ 2 ^ 1; decide
 | .cut k a x y => by
  have h1 := siz_dp x
  have h2 := siz_dp y
  show siz x + siz y + 1 + 1 ≤ 2 ^ (max (dpT x) (dpT y) + 1 + 1)
  have e1 : 2 ^ (dpT x + 1) ≤ 2 ^ (max (dpT x) (dpT y) + 1) := Nat.pow_le_pow_right (by decide) (by omega)
  have e2 : 2 ^ (dpT y + 1) ≤ 2 ^ (max (dpT x) (dpT y) + 1) := Nat.pow_le_pow_right (by decide) (by omega)
  rw [Nat.pow_succ 2 (max (dpT x) (dpT y) + 1)]
  omega
theorem pl_tree {b : Int} {sp : List Sn} : ∀ (t : Tq) (bs : List (Int × Int)), DrT b sp t bs → pl (treeD t) = true
 | .leaf d, bs, h => by
  obtain ⟨lf, rfl, _⟩ := h
  exact pl_leaf lf
 | .cut k a x y, bs, h => by
  obtain ⟨_, _, _, h4, h5⟩ := h
  show pl (.tup [.str "cut", .int (k : Nat), .int a, treeD x, treeD y]) = true
  unfold pl pls pls pls pls pls pls
  rw [show pl (.str "cut") = true by unfold pl; rfl, show pl (.int ((k : Nat) : Int)) = true by unfold pl; rfl, show pl (.int a) = true by unfold pl; rfl, pl_tree x _ h4, pl_tree y _ h5]; rfl
theorem fine_ring {sp : List Sn} {ws : List Stp} (h : Rg sp ws) : Fine (wayP ws) := fun ds e => by
 injection e with e
 subst e
 refine ⟨by rw [List.length_map]; have := h.few; omega, fun e he x y ee => ?_⟩
 obtain ⟨s, hs, rfl⟩ := List.mem_map.mp he
 injection ee with e2
 injection e2 with e3 e4
 injection e4 with e5 e6
 injection e5 with e7
 have h1 : y.natAbs = 1 := by rw [← e7]; rcases (h.inn s hs).2 with d | d <;> rw [d] <;> rfl
 rw [h1]
 exact (by decide +kernel : 1 < 10 ^ 400)
theorem Along.zip {sp : List Sn} : ∀ {ws : List Stp} {x y : Int}, Along sp x ws y → zipB sp ws = true
 | [], _, _, _ => rfl
 | [s], _, _, _ => rfl
 | s :: t :: ws, x, y, h => by
  obtain ⟨_, h2⟩ := h
  have h3 := h2.1
  have ih := Along.zip h2
  show (decide (tooS sp s = frmS sp t) && zipB sp (t :: ws)) = true
  rw [ih, decide_eq_true h3.symm]; rfl
theorem Along.ends {sp : List Sn} : ∀ {ws : List Stp} {x y : Int}, ws ≠ [] → Along sp x ws y → fstB sp ws = x ∧ lstB sp ws = y
 | [], _, _, h, _ => absurd rfl h
 | [s], x, y, _, h => by
  obtain ⟨h1, h2⟩ := h
  exact ⟨h1, h2⟩
 | s :: t :: ws, x, y, _, h => by
  obtain ⟨h1, h2⟩ := h
  refine ⟨h1, ?_⟩
  have := (Along.ends (ws := t :: ws) (by simp) h2).2
  rw [← this]
  unfold lstB
  simp
theorem Rg.isRing {sp : List Sn} {ws : List Stp} (h : Rg sp ws) : ringB sp (wayP ws) = true := by
 obtain ⟨x, hx⟩ := h.rnd
 have two := h.two
 have hne : ws ≠ [] := fun z => by rw [z] at two; simp at two
 obtain ⟨e1, e2⟩ := rows_steps ws h.inn
 show (wayB sp (.tup (rowsD Stp.row ws)) && ringOf sp ((rowsD Stp.row ws).filterMap (stepD sp.length))) = true
 rw [e1]
 have hw : wayB sp (.tup (rowsD Stp.row ws)) = true := by
  show (!(rowsD Stp.row ws).isEmpty && ((rowsD Stp.row ws).all (stepB sp.length) && zipB sp ((rowsD Stp.row ws).filterMap (stepD sp.length)))) = true
  rw [e1, e2, hx.zip]
  cases ws with
  | nil => exact absurd rfl hne
  | cons _ _ => rfl
 rw [hw]
 show (true && (decide (2 ≤ ws.length) && (decide ((metL (numsS ws)).length = ws.length) && decide (fstB sp ws = lstB sp ws)))) = true
 obtain ⟨f1, f2⟩ := hx.ends hne
 have hn : (numsS ws).Nodup := by
  unfold numsS
  have : ws.map (fun s => (s.i : Int)) = (ws.map Stp.i).map fun n : Nat => (n : Int) := by rw [List.map_map]; rfl
  rw [this, List.nodup_iff_pairwise_ne, List.pairwise_map]
  exact (List.nodup_iff_pairwise_ne.mp h.one).imp fun hh e => hh (by omega)
 have hl : (metL (numsS ws)).length = ws.length := by rw [met_nodup hn]; unfold numsS; rw [List.length_map]
 rw [decide_eq_true two, decide_eq_true hl, decide_eq_true (by rw [f1, f2])]; rfl
theorem atI_nat0 {α : Type} {xs : List α} {i : Nat} {x : α} (h : xs[i]? = some x) : atI xs ((0 : Int) + (i : Nat)) = some x := by
 rw [Int.zero_add]
 exact atI_nat h
def spLeafL : Sp := fun vs H Q _ => ∃ (p : Addr) (v vb : V) (b m : Int) (sp : List Sn) (bs : List (Int × Int)), vs = [.ref p, v, vb] ∧ Dk p H ∧ IsD H v (netP b m sp) ∧ NetT b m sp ∧ b ≤ 10 ^ 33 ∧ IsD H vb (bndP bs) ∧ bs.length = sp.length ∧
 ∀ u lf H', Md p H H' → IsD H' u (leafP lf) → LfOk b sp bs lf → Q u H'
def spTreeL (dd : Nat) : Sp := fun vs H Q _ => ∃ (p : Addr) (v vb : V) (n b m : Int) (sp : List Sn) (bs : List (Int × Int)), vs = [.ref p, v, vb, .int n] ∧ 0 ≤ n ∧ n < dd ∧ Dk p H ∧ IsD H v (netP b m sp) ∧ NetT b m sp ∧ b ≤ 10 ^ 33 ∧ IsD H vb (bndP bs) ∧ bs.length = sp.length ∧ BsU bs ∧
 ∀ u t H', Md p H H' → IsD H' u (treeD t) → DrT b sp t bs → (dpT t : Int) ≤ n → Q u H'
theorem setU {bs : List (Int × Int)} {k : Nat} {x : Int × Int} (h : BsU bs) (hx : 0 ≤ x.1 ∧ x.1 ≤ x.2 ∧ x.2 < 10 ^ 60) : BsU (bs.set k x) := fun q hq => by
 rcases List.mem_or_eq_of_mem_set hq with hq | rfl
 ·exact h q hq
 ·exact hx
theorem set_cat {α : Type} {bs : List α} {n : Nat} {x : α} (hn : n < bs.length) : bs.set n x = bs.take n ++ [x] ++ bs.drop (n + 1) := by
 rw [List.set_eq_take_append_cons_drop, if_pos hn, List.append_assoc]; rfl
end HN
namespace HN
open PySem L2 PyProof.Rows
def stepP (pr : Int) (ps : List Int) (s : Stp) : List Int := ps.set s.i (ps.getD s.i 0 - pr * s.d)
def rowP (ps : List Int) (r : Int × List Stp) : List Int := r.2.foldl (stepP r.1) ps
def ownM (sp : List Sn) (rows : List (Int × List Stp)) : List Int := rows.foldl rowP (sp.map Sn.w)
theorem steps_len {pr : Int} : ∀ (ws : List Stp) (ps : List Int), (ws.foldl (stepP pr) ps).length = ps.length
 | [], _ => rfl
 | s :: ws, ps => by
  rw [List.foldl_cons, steps_len ws]
  unfold stepP
  rw [List.length_set]
theorem rows_len : ∀ (rows : List (Int × List Stp)) (ps : List Int), (rows.foldl rowP ps).length = ps.length
 | [], _ => rfl
 | r :: rows, ps => by
  rw [List.foldl_cons, rows_len rows]
  exact steps_len r.2 ps
theorem own_len (sp : List Sn) (rows : List (Int × List Stp)) : (ownM sp rows).length = sp.length := by
 unfold ownM
 rw [rows_len, List.length_map]
def hasS (k : Nat) (d : Int) (ws : List Stp) : Bool := ws.any fun s => decide (s.i = k) && decide (s.d = d)
def ownV (k : Nat) (acc pr : Int) (ws : List Stp) : Int := if hasS k (-1) ws = true then (if hasS k 1 ws = true then acc - pr else acc) + pr else (if hasS k 1 ws = true then acc - pr else acc)
def ownS (k : Nat) (acc : Int) (r : Int × List Stp) : Int := ownV k acc r.1 r.2
theorem hasS_no {k : Nat} {d : Int} : ∀ {ws : List Stp}, k ∉ ws.map Stp.i → hasS k d ws = false
 | [], _ => rfl
 | s :: ws, h => by
  show (decide (s.i = k) && decide (s.d = d) || hasS k d ws) = false
  rw [hasS_no (ws := ws) fun z => h (by rw [List.map_cons]; exact List.mem_cons_of_mem _ z), decide_eq_false (fun z => h (by rw [List.map_cons, z]; simp))]; rfl
theorem steps_at {k : Nat} {pr : Int} : ∀ (ws : List Stp) (ps : List Int), k < ps.length → (∀ s ∈ ws, s.d = 1 ∨ s.d = -1) → (ws.map Stp.i).Nodup → (ws.foldl (stepP pr) ps).getD k 0 = ownV k (ps.getD k 0) pr ws
 | [], _, _, _, _ => rfl
 | s :: ws, ps, hk, hd, hn => by
  rw [List.map_cons, List.nodup_cons] at hn
  rw [List.foldl_cons, steps_at ws _ (by unfold stepP; rw [List.length_set]; exact hk) (fun t ht => hd t (List.mem_cons_of_mem _ ht)) hn.2]
  by_cases e : s.i = k
  ·have h0 : ∀ d, hasS k d ws = false := fun d => hasS_no (by rw [← e]; exact hn.1)
   have h1 : ∀ d, hasS k d (s :: ws) = decide (s.d = d) := fun d => by
    show (decide (s.i = k) && decide (s.d = d) || hasS k d ws) = _
    rw [h0, decide_eq_true e]; simp
   have h2 : (stepP pr ps s).getD k 0 = ps.getD k 0 - pr * s.d := by
    unfold stepP
    rw [e, List.getD_eq_getElem?_getD, List.getElem?_set_self hk]; rfl
   unfold ownV
   rw [h0, h0, h1, h1, h2]
   rcases hd s (by simp) with d1 | d1
   ·rw [d1]; simp
   ·rw [d1]; simp
  ·have h1 : ∀ d, hasS k d (s :: ws) = hasS k d ws := fun d => by
    show (decide (s.i = k) && decide (s.d = d) || hasS k d ws) = _
    rw [decide_eq_false e]; simp
   have h2 : (stepP pr ps s).getD k 0 = ps.getD k 0 := by
    unfold stepP
    rw [List.getD_eq_getElem?_getD, List.getElem?_set_ne e, ← List.getD_eq_getElem?_getD]
   unfold ownV
   rw [h1, h1, h2]
structure RwOk (n : Nat) (r : Int × List Stp) : Prop where
 inn : WayIn n r.2
 one : (r.2.map Stp.i).Nodup
 few : r.2.length ≤ 17
 lo : -1000000000000 ≤ r.1
 hi : r.1 ≤ 1000000000000
theorem rows_at_own {k n : Nat} : ∀ (rows : List (Int × List Stp)) (ps : List Int), k < ps.length → (∀ r ∈ rows, RwOk n r) → (rows.foldl rowP ps).getD k 0 = rows.foldl (ownS k) (ps.getD k 0)
 | [], _, _, _ => rfl
 | r :: rows, ps, hk, h => by
  have hr := h r (by simp)
  rw [List.foldl_cons, List.foldl_cons, rows_at_own rows _ (by show k < (r.2.foldl (stepP r.1) ps).length; rw [steps_len]; exact hk) fun t ht => h t (List.mem_cons_of_mem _ ht)]
  congr 1
  exact steps_at r.2 ps hk (fun s hs => (hr.inn s hs).2) hr.one
theorem ownS_abs {k n : Nat} : ∀ (rows : List (Int × List Stp)) (a : Int) (m : Nat), a.natAbs ≤ m → (∀ r ∈ rows, RwOk n r) → (rows.foldl (ownS k) a).natAbs ≤ m + rows.length * 2000000000000
 | [], _, _, ha, _ => by simpa using ha
 | r :: rows, a, m, ha, h => by
  have hr := h r (by simp)
  have h1 := hr.lo
  have h2 := hr.hi
  rw [List.foldl_cons]
  have step : (ownS k a r).natAbs ≤ m + 2000000000000 := by
   show (ownV k a r.1 r.2).natAbs ≤ _
   unfold ownV
   split <;> split <;> omega
  have := ownS_abs (k := k) (n := n) rows (ownS k a r) (m + 2000000000000) step fun t ht => h t (List.mem_cons_of_mem _ ht)
  rw [List.length_cons]
  omega
def wOf (sp : List Sn) (k : Nat) : Int := match sp[k]? with | some x => x.w | none => 0
def lOf (sp : List Sn) (k : Nat) : Int := match sp[k]? with | some x => x.l | none => 0
def owK (sp : List Sn) (rows : List (Int × List Stp)) (k : Nat) : Int := rows.foldl (ownS k) (wOf sp k)
theorem own_at {sp : List Sn} {rows : List (Int × List Stp)} {k n : Nat} (hk : k < sp.length) (h : ∀ r ∈ rows, RwOk n r) : (ownM sp rows).getD k 0 = owK sp rows k := by
 unfold ownM owK
 rw [rows_at_own rows _ (by rw [List.length_map]; exact hk) h]
 congr 1
 unfold wOf
 rw [List.getD_eq_getElem?_getD, List.getElem?_map, gE hk]; rfl
theorem owK_abs {sp : List Sn} {rows : List (Int × List Stp)} {k n : Nat} (hw : ∀ x ∈ sp, 0 ≤ x.w ∧ x.w ≤ 1000000000000) (h : ∀ r ∈ rows, RwOk n r) (hl : rows.length ≤ 41) : -18446744073709551616 < owK sp rows k ∧ owK sp rows k < 18446744073709551616 := by
 have := ownS_abs (k := k) rows (wOf sp k) 1000000000000 (by
  unfold wOf
  cases q : sp[k]? with
  | none => exact Nat.zero_le _
  | some x =>
   have := hw x (List.mem_of_getElem? q)
   show x.w.natAbs ≤ _
   omega) h
 unfold owK
 omega
def termW (sp : List Sn) (bs : List (Int × Int)) (rows : List (Int × List Stp)) (k : Nat) : Int := owK sp rows k * (if owK sp rows k < 0 then (bs.getD k (0, 0)).2 else (bs.getD k (0, 0)).1) - wOf sp k * lOf sp k
def rowsW (b : Int) (bs : List (Int × Int)) (rows : List (Int × List Stp)) : Int := (rows.map fun r => r.1 * upB b (sumLo bs r.2) * b).sum
def worthM (b : Int) (sp : List Sn) (bs : List (Int × Int)) (rows : List (Int × List Stp)) : Int := rowsW b bs rows + ((List.range sp.length).map (termW sp bs rows)).sum
theorem termL_eq {sp : List Sn} {bs : List (Int × Int)} {rows : List (Int × List Stp)} {k : Nat} (h : (bs.getD k (0, 0)).1 ≤ (bs.getD k (0, 0)).2) :
  (if owK sp rows k * (bs.getD k (0, 0)).2 < owK sp rows k * (bs.getD k (0, 0)).1 then owK sp rows k * (bs.getD k (0, 0)).2 else owK sp rows k * (bs.getD k (0, 0)).1) - wOf sp k * lOf sp k = termW sp bs rows k := by
 unfold termW
 congr 1
 by_cases o : owK sp rows k < 0
 ·rw [if_pos o]
  split
  ·rfl
  ·rename_i hn
   have := Int.mul_le_mul_of_nonpos_left (Int.le_of_lt o) h
   omega
 ·rw [if_neg o]
  split
  ·rename_i hn
   have := Int.mul_le_mul_of_nonneg_left h (by omega : 0 ≤ owK sp rows k)
   omega
  ·rfl
theorem div_absW {x b : Int} (hb : 0 < b) : (x / b).natAbs ≤ x.natAbs := by
 have e := Int.mul_ediv_add_emod x b
 have r0 := Int.emod_nonneg x (by omega : b ≠ 0)
 have r1 := Int.emod_lt_of_pos x hb
 generalize x / b = q at e
 generalize x % b = r at e r0 r1
 rcases Int.lt_or_le q 0 with hq | hq
 ·have : b * (q + 1) ≤ 1 * (q + 1) := Int.mul_le_mul_of_nonpos_right (by omega) (by omega)
  rw [Int.mul_add] at this
  omega
 ·have : 1 * q ≤ b * q := Int.mul_le_mul_of_nonneg_right (by omega) hq
  omega
theorem sums_abs17 {bs : List (Int × Int)} : ∀ {ws : List Stp}, BsU bs → (sumLo bs ws).natAbs ≤ ws.length * 10 ^ 60
 | [], _ => Nat.zero_le _
 | s :: ws, h => by
  have ih := sums_abs17 (ws := ws) h
  have k : (lowS bs s).natAbs ≤ 10 ^ 60 := by
   unfold lowS
   cases q : bs[s.i]? with
   | none => exact Nat.zero_le _
   | some p =>
    obtain ⟨a, b, c⟩ := h p (List.mem_of_getElem? q)
    have c : p.2 < 10 ^ 60 := c
    show (if s.d = 1 then p.1 else -p.2).natAbs ≤ _
    split <;> omega
  have e : sumLo bs (s :: ws) = lowS bs s + sumLo bs ws := rfl
  rw [e, List.length_cons, Nat.add_mul]
  omega
theorem up_abs {b : Int} {bs : List (Int × Int)} {ws : List Stp} (hb : 0 < b) (h : BsU bs) (hl : ws.length ≤ 17) : (upB b (sumLo bs ws)).natAbs ≤ 17 * 10 ^ 60 := by
 unfold upB
 rw [Int.natAbs_neg]
 have h1 := div_absW (x := -sumLo bs ws) hb
 rw [Int.natAbs_neg] at h1
 have h2 := sums_abs17 (ws := ws) h
 have h3 : ws.length * 10 ^ 60 ≤ 17 * 10 ^ 60 := Nat.mul_le_mul_right _ hl
 omega
def spOwn : Sp := fun vs H Q _ => ∃ (v : V) (pr : Addr) (b m : Int) (sp : List Sn) (rows : List (Int × List Stp)), vs = [v, .ref pr] ∧ IsD H v (netP b m sp) ∧ sp.length ≤ 40 ∧ IsD H (.ref pr) (.tup (rows.map rowD)) ∧ (∀ r ∈ rows, RwOk sp.length r) ∧
 ∀ L H', Same H H' → H' L = some (.lst ((ownM sp rows).map V.int)) → Q (.ref L) H'
structure WoArgs (H : Hp) (v vb vl : V) (b m : Int) (sp : List Sn) (bs : List (Int × Int)) (rows : List (Int × List Stp)) : Prop where
 net : IsD H v (netP b m sp)
 bnd : IsD H vb (bndP bs)
 leaf : IsD H vl (leafP (.price rows))
 b0 : 0 < b
 b61 : b < 10 ^ 61
 lb : bs.length = sp.length
 few : sp.length ≤ 40
 bu : BsU bs
 ws : ∀ x ∈ sp, 0 ≤ x.w ∧ x.w ≤ 1000000000000
 rw' : ∀ r ∈ rows, RwOk sp.length r
 lr : rows.length ≤ 41
def spWorth : Sp := fun vs H Q _ => ∃ (v vb vl : V) (b m : Int) (sp : List Sn) (bs : List (Int × Int)) (rows : List (Int × List Stp)), vs = [v, vb, vl] ∧ WoArgs H v vb vl b m sp bs rows ∧ ∀ H', Same H H' → Q (.int (worthM b sp bs rows)) H'
end HN
namespace HN
open PySem L2 PyProof.Rows
abbrev Plc := List (Int × Int) × Lf
def plcL (p : Plc) : List (Int × Int) × Dt := (p.1, leafP p.2)
def worthO (b : Int) (sp : List Sn) (p : Plc) : Option Int := match p.2 with | .price rows => some (worthM b sp p.1 rows) | .ring _ => none
def worthsM (b : Int) (sp : List Sn) (ps : List Plc) : List Int := ps.filterMap (worthO b sp)
def rightP (b : Int) (p : Plc) : Bool := rightB b p.1 p.2
def shwD : List Int → Dt
 | [] => .tup [.str "none"]
 | a :: l => .tup [.str "wait", .int (leastI (a :: l))]
structure PlOk (n : Nat) (p : Plc) : Prop where
 len : p.1.length = n
 bu : BsU p.1
 inn : LfIn n p.2
 rws : ∀ rows, p.2 = .price rows → rows.length ≤ 41 ∧ ∀ r ∈ rows, RwOk n r
structure ShArgs (H : Hp) (v u : V) (b m : Int) (sp : List Sn) (t : Tq) (ps : List Plc) : Prop where
 net : IsD H v (netP b m sp)
 tr : IsD H u (treeD t)
 b0 : 0 < b
 b61 : b < 10 ^ 61
 few : sp.length ≤ 40
 ws : ∀ x ∈ sp, 0 ≤ x.w ∧ x.w ≤ 1000000000000
 siz : siz t ≤ 400
 lv : lvs t (sp.map fun x => (x.l, x.o)) = ps.map plcL
 ok : ∀ p ∈ ps, PlOk sp.length p
def ShAns (b : Int) (sp : List Sn) (ps : List Plc) (r : V) (H' : Hp) : Prop := if ps.all (rightP b) = true then IsD H' r (shwD (worthsM b sp ps)) else r = .non
def spShown : Sp := fun vs H Q _ => ∃ (v u : V) (b m : Int) (sp : List Sn) (t : Tq) (ps : List Plc), vs = [v, u] ∧ ShArgs H v u b m sp t ps ∧ CutsOk t (sp.map fun x => (x.l, x.o)) ∧ ((lvs t (sp.map fun x => (x.l, x.o))).all fun p => leafB sp p.2) = true ∧
 ∀ r H', Same H H' → ShAns b sp ps r H' → Q r H'
theorem worths_take {b : Int} {sp : List Sn} {ps : List Plc} {i : Nat} (h : i < ps.length) : worthsM b sp (ps.take (i + 1)) = worthsM b sp (ps.take i) ++ (worthO b sp ps[i]).toList := by
 unfold worthsM
 rw [List.take_add_one, gE h, List.filterMap_append]
 congr 1
theorem worths_len {b : Int} {sp : List Sn} (ps : List Plc) : (worthsM b sp ps).length ≤ ps.length := List.length_filterMap_le ..
theorem plc_of {H : Hp} {v : V} {p : Plc} (h : IsD H v (plcD (plcL p))) : ∃ q vb vl, v = .ref q ∧ H q = some (.tup [vb, vl]) ∧ IsD H vb (bndP p.1) ∧ IsD H vl (leafP p.2) := by
 obtain ⟨q, xs, rfl, hq, r⟩ := IsD.tup_of (show IsD H v (.tup [bndP p.1, leafP p.2]) from h)
 cases r with
 | cons g0 gr => cases gr with
  | cons g1 gr =>
   cases gr
   exact ⟨q, _, _, rfl, hq, g0, g1⟩
def wordL : Lf → Str
 | .ring _ => "ring"
 | .price _ => "price"
theorem word_of {H : Hp} {v : V} {l : Lf} (h : IsD H v (leafP l)) : ∃ q x, v = .ref q ∧ H q = some (.tup [.str (wordL l), x]) := by
 cases l with
 | ring ws =>
  obtain ⟨q, xs, rfl, hq, r⟩ := IsD.tup_of (show IsD H v (.tup [.str "ring", wayP ws]) from h)
  cases r with
  | cons g0 gr => cases gr with
   | cons g1 gr =>
    cases gr
    cases g0
    exact ⟨q, _, rfl, hq⟩
 | price rows =>
  obtain ⟨q, xs, rfl, hq, r⟩ := IsD.tup_of (show IsD H v (.tup [.str "price", .tup (rows.map rowD)]) from h)
  cases r with
  | cons g0 gr => cases gr with
   | cons g1 gr =>
    cases gr
    cases g0
    exact ⟨q, _, rfl, hq⟩
end HN
namespace HN
open PySem L2 PyProof.Rows
structure Cq where
 at' : Int
 lf : Bool
 rows : List (Int × List Stp)
def leafC (bs : List (Int × Int)) (c : Cq) : List (Int × Int) := if c.lf = true then oneB bs 0 c.at' else otherB bs 0 c.at'
structure CqOk (b : Int) (sp : List Sn) (bs : List (Int × Int)) (c : Cq) : Prop where
 l : (bs.getD 0 (0, 0)).1 ≤ c.at'
 h : c.at' < (bs.getD 0 (0, 0)).2
 ok : LfOk b sp (leafC bs c) (.price c.rows)
end HN
namespace HN
open PySem L2 PyProof.Rows
def LfG (sp : List Sn) : Lf → Prop
 | .ring ws => Rg sp ws
 | .price rows => rows.length ≤ 40 ∧ ∀ r ∈ rows, Rg sp r.2 ∧ -1000000000000 ≤ r.1 ∧ r.1 ≤ 1000000000000
def GrT (sp : List Sn) : Tq → List (Int × Int) → Prop
 | .leaf d, _ => ∃ lf, d = leafP lf ∧ LfG sp lf
 | .cut k a x y, bs => k < bs.length ∧ (bs.getD k (0, 0)).1 ≤ a ∧ a < (bs.getD k (0, 0)).2 ∧ GrT sp x (oneB bs k a) ∧ GrT sp y (otherB bs k a)
theorem lfG_of {b : Int} {sp : List Sn} {bs : List (Int × Int)} {lf : Lf} (h : LfOk b sp bs lf) : LfG sp lf := by
 cases lf with
 | ring ws => exact h.1
 | price rows => exact ⟨h.1, fun r hr => ⟨(h.2 r hr).1, (h.2 r hr).2.2⟩⟩
theorem gr_of {b : Int} {sp : List Sn} : ∀ (t : Tq) (bs : List (Int × Int)), DrT b sp t bs → GrT sp t bs
 | .leaf d, bs, h => by
  obtain ⟨lf, rfl, ok⟩ := h
  exact ⟨lf, rfl, lfG_of ok⟩
 | .cut k a x y, bs, h => ⟨h.1, h.2.1, h.2.2.1, gr_of x _ h.2.2.2.1, gr_of y _ h.2.2.2.2⟩
theorem pl_gr {sp : List Sn} : ∀ (t : Tq) (bs : List (Int × Int)), GrT sp t bs → pl (treeD t) = true
 | .leaf d, bs, h => by
  obtain ⟨lf, rfl, _⟩ := h
  exact pl_leaf lf
 | .cut k a x y, bs, h => by
  obtain ⟨_, _, _, h4, h5⟩ := h
  show pl (.tup [.str "cut", .int (k : Nat), .int a, treeD x, treeD y]) = true
  unfold pl pls pls pls pls pls pls
  rw [show pl (.str "cut") = true by unfold pl; rfl, show pl (.int ((k : Nat) : Int)) = true by unfold pl; rfl, show pl (.int a) = true by unfold pl; rfl, pl_gr x _ h4, pl_gr y _ h5]; rfl
theorem leaf_okG {sp : List Sn} {bs : List (Int × Int)} {lf : Lf} (h : LfG sp lf) : leafB sp (leafP lf) = true ∧ FineL (leafP lf) ∧ cutB bs (leafP lf) = false := by
 cases lf with
 | ring ws =>
  refine ⟨?_, fun w x e => ?_, rfl⟩
  ·show (if ("ring" : Str) = "ring" then ringB sp (wayP ws) else if ("ring" : Str) = "price" then rowsB sp (wayP ws) else false) = true
   rw [if_pos rfl]; exact Rg.isRing h
  ·injection e with e
   injection e with e1 e2
   injection e2 with e3 e4
   subst e3
   refine ⟨fine_ring h, fun rows er r hr p y ey => ?_⟩
   injection er with er
   subst er
   obtain ⟨s, hs, rfl⟩ := List.mem_map.mp hr
   injection ey with ey
   injection ey with e5 e6
   injection e6 with e7 e8
   intro ds ed
   rw [← e7] at ed
   cases ed
 | price rows =>
  obtain ⟨h1, h2⟩ := h
  refine ⟨?_, fun w x e => ?_, rfl⟩
  ·show (if ("price" : Str) = "ring" then ringB sp (.tup (rows.map rowD)) else if ("price" : Str) = "price" then rowsB sp (.tup (rows.map rowD)) else false) = true
   rw [if_neg (by decide), if_pos rfl]
   show (decide ((rows.map rowD).length ≤ 40) && (rows.map rowD).all (rowB sp)) = true
   rw [decide_eq_true (by rw [List.length_map]; exact h1), List.all_map, Bool.true_and, List.all_eq_true]
   intro r hr
   exact (h2 r hr).1.isRing
  ·injection e with e
   injection e with e1 e2
   injection e2 with e3 e4
   subst e3
   refine ⟨fun ds ed => ?_, fun rows' er r hr p y ey => ?_⟩
   ·injection ed with ed
    subst ed
    refine ⟨by rw [List.length_map]; omega, fun e he x y ee => ?_⟩
    obtain ⟨r, hr, rfl⟩ := List.mem_map.mp he
    injection ee with e5
    injection e5 with e6 e7
    injection e7 with e8 e9
    cases e8
   ·injection er with er
    subst er
    obtain ⟨r', hr', rfl⟩ := List.mem_map.mp hr
    injection ey with e5
    injection e5 with e6 e7
    injection e7 with e8 e9
    rw [← e8]
    exact fine_ring (h2 r' hr').1
theorem gr_cuts {sp : List Sn} : ∀ (t : Tq) (bs : List (Int × Int)), GrT sp t bs → CutsOk t bs ∧ ((lvs t bs).all fun p => leafB sp p.2) = true
 | .leaf d, bs, h => by
  obtain ⟨lf, rfl, h⟩ := h
  obtain ⟨h1, h2, h3⟩ := leaf_okG h
  exact ⟨⟨h3, h2⟩, by show (leafB sp (leafP lf) && true) = true; rw [h1]; rfl⟩
 | .cut k a x y, bs, h => by
  obtain ⟨h1, h2, h3, h4, h5⟩ := h
  obtain ⟨a1, a2⟩ := gr_cuts x _ h4
  obtain ⟨b1, b2⟩ := gr_cuts y _ h5
  refine ⟨⟨h1, h2, h3, a1, b1⟩, ?_⟩
  show ((lvs x _ ++ lvs y _).all _) = true
  rw [List.all_append, a2, b2]; rfl
theorem lfG_plok {sp : List Sn} {p : Plc} (hl : p.1.length = sp.length) (hu : BsU p.1) (h : LfG sp p.2) : PlOk sp.length p := by
 obtain ⟨bs, lf⟩ := p
 refine ⟨hl, hu, ?_, ?_⟩
 ·cases lf with
  | ring ws => exact Rg.inn h
  | price rows => exact ⟨Nat.le_trans h.1 (by decide), fun r hr => (h.2 r hr).1.inn⟩
 ·intro rows e
  have e : lf = .price rows := e
  subst e
  refine ⟨Nat.le_trans h.1 (by decide), fun r hr => ?_⟩
  have q := h.2 r hr
  exact ⟨q.1.inn, q.1.one, q.1.few, q.2.1, q.2.2⟩
theorem gr_ps {sp : List Sn} : ∀ (t : Tq) (bs : List (Int × Int)), GrT sp t bs → bs.length = sp.length → BsU bs → ∃ ps : List Plc, lvs t bs = ps.map plcL ∧ ∀ p ∈ ps, p.1.length = sp.length ∧ BsU p.1 ∧ LfG sp p.2
 | .leaf d, bs, h, hl, hu => by
  obtain ⟨lf, rfl, ok⟩ := h
  exact ⟨[(bs, lf)], rfl, fun p hp => by rw [List.mem_singleton.mp hp]; exact ⟨hl, hu, ok⟩⟩
 | .cut k a x y, bs, h, hl, hu => by
  obtain ⟨h1, h2, h3, h4, h5⟩ := h
  have e : bs.getD k (0, 0) ∈ bs := by rw [List.getD_eq_getElem?_getD, gE h1]; exact List.getElem_mem h1
  obtain ⟨u1, u2, u3⟩ := hu _ e
  have o1 : BsU (oneB bs k a) := fun q hq => by
   rcases List.mem_or_eq_of_mem_set hq with z | rfl
   ·exact hu q z
   ·exact ⟨u1, h2, by show a < 10 ^ 60; omega⟩
  have o2 : BsU (otherB bs k a) := fun q hq => by
   rcases List.mem_or_eq_of_mem_set hq with z | rfl
   ·exact hu q z
   ·exact ⟨by show 0 ≤ a + 1; omega, by show a + 1 ≤ _; omega, u3⟩
  obtain ⟨p1, e1, k1⟩ := gr_ps x _ h4 (by rw [one_len]; exact hl) o1
  obtain ⟨p2, e2, k2⟩ := gr_ps y _ h5 (by rw [other_len]; exact hl) o2
  refine ⟨p1 ++ p2, ?_, fun p hp => ?_⟩
  ·show lvs x _ ++ lvs y _ = _
   rw [e1, e2, List.map_append]
  ·rcases List.mem_append.mp hp with z | z
   ·exact k1 p z
   ·exact k2 p z
def spOthL (dd : Nat) : Sp := fun vs H Q _ => ∃ (p : Addr) (v u : V) (b m : Int) (sp : List Sn) (bs : List (Int × Int)) (t : Tq), vs = [.ref p, v, u] ∧ dpT t < dd ∧ Dk p H ∧ IsD H v (netP b m sp) ∧ NetT b m sp ∧ IsD H u (treeD t) ∧ GrT sp t bs ∧
 ∀ u' t' H', Md p H H' → IsD H' u' (treeD t') → GrT sp t' bs → dpT t' ≤ dpT t → Q u' H'
end HN
namespace HN
open PySem L2 PyProof.Rows
def spWaitsN : Sp := fun vs H Q _ => ∃ (v : V) (u : Addr) (b m : Int) (sp : List Sn) (ts : List Int), vs = [v, .ref u] ∧ IsD H v (netP b m sp) ∧ H u = some (.tup (ts.map V.int)) ∧ Rdy b ts sp ∧ ∀ p H', Same H H' → H' p = some (.lst ((waitsM b ts sp).map V.int)) → Q (.ref p) H'
def spDrawnT : Sp := fun vs H Q _ => ∃ (p t : Addr) (b m : Int) (rest : List V), vs = [.ref p, .ref t] ∧ Dk p H ∧ H t = some (.tup (.int b :: .int m :: rest)) ∧ 1 ≤ b ∧ b < 10 ^ 61 ∧ 0 ≤ m ∧ m ≤ 16 ∧ ∀ (u : Addr) (ts : List Int) (H' : Hp), Md p H H' → H' u = some (.tup (ts.map V.int)) → (ts.length : Int) = m → (∀ x ∈ ts, 0 ≤ x ∧ x < b) → Q (.ref u) H'
end HN
namespace HN
open PySem L2 PyProof.Rows
def sumN (f : Nat → Int) : Nat → Int
 | 0 => 0
 | n + 1 => sumN f n + f n
theorem sumN_range (f : Nat → Int) : ∀ n, ((List.range n).map f).sum = sumN f n
 | 0 => rfl
 | n + 1 => by
  rw [List.range_succ, List.map_append, List.sum_append, sumN_range f n]
  show sumN f n + (f n + 0) = sumN f n + f n
  omega
theorem sumN_add (f g : Nat → Int) : ∀ n, sumN (fun k => f k + g k) n = sumN f n + sumN g n
 | 0 => rfl
 | n + 1 => by
  show sumN (fun k => f k + g k) n + (f n + g n) = (sumN f n + f n) + (sumN g n + g n)
  rw [sumN_add f g n]; omega
theorem sumN_mul (c : Int) (f : Nat → Int) : ∀ n, sumN (fun k => c * f k) n = c * sumN f n
 | 0 => (Int.mul_zero c).symm
 | n + 1 => by
  show sumN (fun k => c * f k) n + c * f n = c * (sumN f n + f n)
  rw [sumN_mul c f n, Int.mul_add]
theorem sumN_le {f g : Nat → Int} : ∀ n, (∀ k, k < n → f k ≤ g k) → sumN f n ≤ sumN g n
 | 0, _ => Int.le_refl _
 | n + 1, h => by
  have h1 := sumN_le n fun k hk => h k (by omega)
  have h2 := h n (by omega)
  show sumN f n + f n ≤ sumN g n + g n
  omega
theorem sumN_same {f g : Nat → Int} : ∀ n, (∀ k, k < n → f k = g k) → sumN f n = sumN g n
 | 0, _ => rfl
 | n + 1, h => by
  show sumN f n + f n = sumN g n + g n
  rw [sumN_same n fun k hk => h k (by omega), h n (by omega)]
theorem sumN_none {i : Nat} {c : Int} {y : Nat → Int} : ∀ n, n ≤ i → sumN (fun k => (if i = k then c else 0) * y k) n = 0
 | 0, _ => rfl
 | n + 1, h => by
  show sumN (fun k => (if i = k then c else 0) * y k) n + (if i = n then c else 0) * y n = 0
  rw [sumN_none n (by omega), if_neg (by omega), Int.zero_mul]; rfl
theorem sumN_one {i : Nat} {c : Int} {y : Nat → Int} : ∀ n, i < n → sumN (fun k => (if i = k then c else 0) * y k) n = c * y i
 | 0, h => absurd h (by omega)
 | n + 1, h => by
  show sumN (fun k => (if i = k then c else 0) * y k) n + (if i = n then c else 0) * y n = c * y i
  by_cases e : i = n
  ·subst e
   rw [sumN_none i (Nat.le_refl _), if_pos rfl, Int.zero_add]
  ·rw [sumN_one n (by omega), if_neg e, Int.zero_mul, Int.add_zero]
theorem sumN_list {α : Type} (f : α → Int) (xs : List α) : ∀ n, n ≤ xs.length → ((xs.take n).map f).sum = sumN (fun k => match xs[k]? with | some x => f x | none => 0) n
 | 0, _ => rfl
 | n + 1, h => by
  rw [List.take_add_one, gE (by omega), List.map_append, List.sum_append, sumN_list f xs n (by omega)]
  show _ + (f xs[n] + 0) = sumN _ n + (match xs[n]? with | some x => f x | none => 0)
  rw [gE (by omega)]
  show _ + (f xs[n] + 0) = _ + f xs[n]
  omega
def sg (k : Nat) : List Stp → Int
 | [] => 0
 | s :: ws => (if s.i = k then s.d else 0) + sg k ws
def alg (y : Nat → Int) : List Stp → Int
 | [] => 0
 | s :: ws => s.d * y s.i + alg y ws
theorem fold_sg {k : Nat} {pr : Int} : ∀ (ws : List Stp) (ps : List Int), k < ps.length → (ws.foldl (stepP pr) ps).getD k 0 = ps.getD k 0 - pr * sg k ws
 | [], ps, _ => by show ps.getD k 0 = ps.getD k 0 - pr * 0; rw [Int.mul_zero, Int.sub_zero]
 | s :: ws, ps, hk => by
  rw [List.foldl_cons, fold_sg ws _ (by unfold stepP; rw [List.length_set]; exact hk)]
  show _ = ps.getD k 0 - pr * ((if s.i = k then s.d else 0) + sg k ws)
  rw [Int.mul_add]
  by_cases e : s.i = k
  ·have h2 : (stepP pr ps s).getD k 0 = ps.getD k 0 - pr * s.d := by
    unfold stepP
    rw [e, List.getD_eq_getElem?_getD, List.getElem?_set_self hk]; rfl
   rw [h2, if_pos e]; omega
  ·have h2 : (stepP pr ps s).getD k 0 = ps.getD k 0 := by
    unfold stepP
    rw [List.getD_eq_getElem?_getD, List.getElem?_set_ne e, ← List.getD_eq_getElem?_getD]
   rw [h2, if_neg e, Int.mul_zero]; omega
def sgR (k : Nat) : List (Int × List Stp) → Int
 | [] => 0
 | r :: rows => r.1 * sg k r.2 + sgR k rows
theorem rows_sg {k : Nat} : ∀ (rows : List (Int × List Stp)) (ps : List Int), k < ps.length → (rows.foldl rowP ps).getD k 0 = ps.getD k 0 - sgR k rows
 | [], ps, _ => by show ps.getD k 0 = ps.getD k 0 - 0; rw [Int.sub_zero]
 | r :: rows, ps, hk => by
  rw [List.foldl_cons, rows_sg rows _ (by show k < (r.2.foldl (stepP r.1) ps).length; rw [steps_len]; exact hk)]
  show (r.2.foldl (stepP r.1) ps).getD k 0 - sgR k rows = ps.getD k 0 - (r.1 * sg k r.2 + sgR k rows)
  rw [fold_sg r.2 ps hk]; omega
theorem owK_sg {sp : List Sn} {rows : List (Int × List Stp)} {k n : Nat} (hk : k < sp.length) (h : ∀ r ∈ rows, RwOk n r) : owK sp rows k = wOf sp k - sgR k rows := by
 rw [← own_at hk h]
 unfold ownM
 rw [rows_sg rows _ (by rw [List.length_map]; exact hk)]
 congr 1
 unfold wOf
 rw [List.getD_eq_getElem?_getD, List.getElem?_map, gE hk]; rfl
theorem sum_sg {y : Nat → Int} {n : Nat} : ∀ (ws : List Stp), (∀ s ∈ ws, s.i < n) → sumN (fun k => sg k ws * y k) n = alg y ws
 | [], _ => by
  show sumN (fun k => 0 * y k) n = 0
  rw [sumN_same (g := fun _ => 0 * 0) n fun k _ => by rw [Int.zero_mul, Int.zero_mul], sumN_mul 0 (fun _ => 0) n, Int.zero_mul]
 | s :: ws, h => by
  show sumN (fun k => ((if s.i = k then s.d else 0) + sg k ws) * y k) n = s.d * y s.i + alg y ws
  rw [sumN_same (g := fun k => (if s.i = k then s.d else 0) * y k + sg k ws * y k) n fun k _ => Int.add_mul .., sumN_add, sumN_one n (h s (by simp)), sum_sg ws fun t ht => h t (List.mem_cons_of_mem _ ht)]
def algR (y : Nat → Int) : List (Int × List Stp) → Int
 | [] => 0
 | r :: rows => r.1 * alg y r.2 + algR y rows
theorem sum_sgR {y : Nat → Int} {n : Nat} : ∀ (rows : List (Int × List Stp)), (∀ r ∈ rows, ∀ s ∈ r.2, s.i < n) → sumN (fun k => sgR k rows * y k) n = algR y rows
 | [], _ => by
  show sumN (fun k => 0 * y k) n = 0
  rw [sumN_same (g := fun _ => 0 * 0) n fun k _ => by rw [Int.zero_mul, Int.zero_mul], sumN_mul 0 (fun _ => 0) n, Int.zero_mul]
 | r :: rows, h => by
  show sumN (fun k => (r.1 * sg k r.2 + sgR k rows) * y k) n = r.1 * alg y r.2 + algR y rows
  rw [sumN_same (g := fun k => r.1 * (sg k r.2 * y k) + sgR k rows * y k) n fun k _ => by rw [Int.add_mul, Int.mul_assoc], sumN_add, sumN_mul, sum_sg r.2 (h r (by simp)), sum_sgR rows fun t ht => h t (List.mem_cons_of_mem _ ht)]
def layT (b : Int) (ts : List Int) (sp : List Sn) (k : Nat) : Int := match sp[k]? with | some x => x.l + waitM b ts x | none => 0
def InB (y : Nat → Int) (bs : List (Int × Int)) : Prop := ∀ k, k < bs.length → (bs.getD k (0, 0)).1 ≤ y k ∧ y k ≤ (bs.getD k (0, 0)).2
theorem lay_in {b : Int} {ts : List Int} {sp : List Sn} (hb : 0 < b) (hf : fitsM b ts sp = true) : InB (layT b ts sp) (sp.map fun x => (x.l, x.o)) := fun k hk => by
 rw [List.length_map] at hk
 have e : (sp.map fun x => (x.l, x.o)).getD k (0, 0) = (sp[k].l, sp[k].o) := by
  rw [List.getD_eq_getElem?_getD, List.getElem?_map, gE hk]; rfl
 have e2 : layT b ts sp k = sp[k].l + waitM b ts sp[k] := by
  unfold layT
  rw [gE hk]
 rw [e, e2]
 have h0 : 0 ≤ waitM b ts sp[k] := by unfold waitM; exact Int.emod_nonneg _ (by omega)
 have h1 : ¬ (sp[k].o - sp[k].l < waitM b ts sp[k]) := by
  unfold fitsM at hf
  rw [Bool.not_eq_true', List.any_eq_false] at hf
  have := hf sp[k] (List.getElem_mem hk)
  unfold brk at this
  simpa using this
 exact ⟨by show sp[k].l ≤ _; omega, by show _ ≤ sp[k].o; omega⟩
theorem inB_one {y : Nat → Int} {bs : List (Int × Int)} {k : Nat} {a : Int} (h : InB y bs) (ha : y k ≤ a) : InB y (oneB bs k a) := fun j hj => by
 rw [one_len] at hj
 have hh := h j hj
 unfold oneB
 rw [List.getD_eq_getElem?_getD]
 by_cases e : k = j
 ·subst e
  rw [List.getElem?_set_self hj]
  exact ⟨hh.1, ha⟩
 ·rw [List.getElem?_set_ne e, ← List.getD_eq_getElem?_getD]
  exact hh
theorem inB_other {y : Nat → Int} {bs : List (Int × Int)} {k : Nat} {a : Int} (h : InB y bs) (ha : a + 1 ≤ y k) : InB y (otherB bs k a) := fun j hj => by
 rw [other_len] at hj
 have hh := h j hj
 unfold otherB
 rw [List.getD_eq_getElem?_getD]
 by_cases e : k = j
 ·subst e
  rw [List.getElem?_set_self hj]
  exact ⟨ha, hh.2⟩
 ·rw [List.getElem?_set_ne e, ← List.getD_eq_getElem?_getD]
  exact hh
theorem in_leaf {y : Nat → Int} : ∀ (t : Tq) (bs : List (Int × Int)), InB y bs → ∃ p ∈ lvs t bs, InB y p.1
 | .leaf d, bs, h => ⟨(bs, d), List.mem_singleton.mpr rfl, h⟩
 | .cut k a t1 t2, bs, h => by
  rcases Int.lt_or_le a (y k) with q | q
  ·obtain ⟨p, hp, hh⟩ := in_leaf t2 (otherB bs k a) (inB_other h (by omega))
   exact ⟨p, List.mem_append.mpr (.inr hp), hh⟩
  ·obtain ⟨p, hp, hh⟩ := in_leaf t1 (oneB bs k a) (inB_one h q)
   exact ⟨p, List.mem_append.mpr (.inl hp), hh⟩
theorem alg_way {b : Int} {ts : List Int} {sp : List Sn} : ∀ (ws : List Stp) (x z : Int), WayIn sp.length ws → Along sp x ws z → ∃ Z, alg (layT b ts sp) ws = tm ts z - tm ts x + b * Z
 | [], x, z, _, h => by
  have h : x = z := h
  subst h
  exact ⟨0, by show (0 : Int) = _; rw [Int.mul_zero]; omega⟩
 | s :: ws, x, z, hw, h => by
  obtain ⟨h1, h2⟩ := h
  obtain ⟨Z, hZ⟩ := alg_way (b := b) (ts := ts) ws _ z (fun t ht => hw t (List.mem_cons_of_mem _ ht)) h2
  obtain ⟨hs, hd⟩ := hw s (by simp)
  obtain ⟨i, d⟩ := s
  have hs : i < sp.length := hs
  have hd : d = 1 ∨ d = -1 := hd
  have e2 : layT b ts sp i = sp[i].l + waitM b ts sp[i] := by
   unfold layT
   rw [gE hs]
  have hm := Int.mul_ediv_add_emod (tm ts sp[i].g - tm ts sp[i].s - sp[i].l) b
  show ∃ Z, d * layT b ts sp i + alg (layT b ts sp) ws = _
  rw [hZ, e2]
  unfold waitM
  rw [tooS_at hs] at *
  rw [frmS_at hs] at h1
  unfold frm at h1
  unfold too at *
  generalize (tm ts sp[i].g - tm ts sp[i].s - sp[i].l) / b = q at hm
  generalize (tm ts sp[i].g - tm ts sp[i].s - sp[i].l) % b = r at hm ⊢
  rcases hd with rfl | rfl
  ·rw [if_pos rfl] at h1 ⊢
   subst h1
   exact ⟨Z - q, by rw [Int.mul_sub]; omega⟩
  ·rw [if_neg (by decide)] at h1 ⊢
   subst h1
   exact ⟨Z + q, by rw [Int.mul_add b Z q]; omega⟩
theorem alg_lo {y : Nat → Int} {bs : List (Int × Int)} (h : InB y bs) : ∀ (ws : List Stp), WayIn bs.length ws → sumLo bs ws ≤ alg y ws ∧ alg y ws ≤ sumHi bs ws
 | [], _ => ⟨Int.le_refl _, Int.le_refl _⟩
 | s :: ws, hw => by
  obtain ⟨i1, i2⟩ := alg_lo h ws fun t ht => hw t (List.mem_cons_of_mem _ ht)
  obtain ⟨hs, hd⟩ := hw s (by simp)
  obtain ⟨b1, b2⟩ := h s.i hs
  have e : bs.getD s.i (0, 0) = bs[s.i] := by rw [List.getD_eq_getElem?_getD, gE hs]; rfl
  rw [e] at b1 b2
  have e1 : sumLo bs (s :: ws) = lowS bs s + sumLo bs ws := rfl
  have e2 : sumHi bs (s :: ws) = highS bs s + sumHi bs ws := rfl
  have f1 : lowS bs s = if s.d = 1 then bs[s.i].1 else -bs[s.i].2 := by unfold lowS; rw [gE hs]
  have f2 : highS bs s = if s.d = 1 then bs[s.i].2 else -bs[s.i].1 := by unfold highS; rw [gE hs]
  rw [e1, e2, f1, f2]
  show _ ≤ s.d * y s.i + alg y ws ∧ s.d * y s.i + alg y ws ≤ _
  rcases hd with d1 | d1
  ·rw [d1, if_pos rfl, if_pos rfl]; omega
  ·rw [d1, if_neg (by decide), if_neg (by decide)]; omega
theorem ring_in {b : Int} {ts : List Int} {sp : List Sn} {bs : List (Int × Int)} {ws : List Stp} (hb : 0 < b) (hl : bs.length = sp.length) (h : InB (layT b ts sp) bs) (hr : Rg sp ws) :
  ∃ Z, alg (layT b ts sp) ws = b * Z ∧ upB b (sumLo bs ws) ≤ Z ∧ Z ≤ sumHi bs ws / b := by
 obtain ⟨x, hx⟩ := hr.rnd
 obtain ⟨Z, hZ⟩ := alg_way (b := b) (ts := ts) ws x x hr.inn hx
 obtain ⟨l1, l2⟩ := alg_lo h ws (by rw [hl]; exact hr.inn)
 have e : alg (layT b ts sp) ws = b * Z := by omega
 rw [e] at l1 l2
 refine ⟨Z, e, ?_, ?_⟩
 ·unfold upB
  have : -Z ≤ -sumLo bs ws / b := by
   rw [Int.le_ediv_iff_mul_le hb, Int.neg_mul, Int.mul_comm Z b]; omega
  omega
 ·rw [Int.le_ediv_iff_mul_le hb, Int.mul_comm Z b]; exact l2
theorem wait_sum {b : Int} {ts : List Int} {sp : List Sn} : waitOfM b ts sp = sumN (fun k => wOf sp k * layT b ts sp k - wOf sp k * lOf sp k) sp.length := by
 unfold waitOfM
 have := sumN_list (fun x : Sn => x.w * waitM b ts x) sp sp.length (Nat.le_refl _)
 rw [List.take_length] at this
 rw [this]
 refine sumN_same _ fun k hk => ?_
 unfold wOf layT lOf
 rw [gE hk]
 show sp[k].w * waitM b ts sp[k] = sp[k].w * (sp[k].l + waitM b ts sp[k]) - sp[k].w * sp[k].l
 rw [Int.mul_add]; omega
theorem rows_in {b : Int} {ts : List Int} {sp : List Sn} {bs : List (Int × Int)} (hb : 0 < b) (hl : bs.length = sp.length) (h : InB (layT b ts sp) bs) : ∀ (rows : List (Int × List Stp)), (∀ r ∈ rows, RowOk b sp bs r) → algR (layT b ts sp) rows = rowsW b bs rows
 | [], _ => rfl
 | r :: rows, hr => by
  obtain ⟨h1, h2, _⟩ := hr r (by simp)
  obtain ⟨Z, e, z1, z2⟩ := ring_in hb hl h h1
  have h2 := of_decide_eq_true h2
  have ez : Z = upB b (sumLo bs r.2) := by omega
  have ih := rows_in hb hl h rows fun t ht => hr t (List.mem_cons_of_mem _ ht)
  have e3 : rowsW b bs (r :: rows) = r.1 * upB b (sumLo bs r.2) * b + rowsW b bs rows := rfl
  show r.1 * alg (layT b ts sp) r.2 + algR (layT b ts sp) rows = _
  rw [e3, ih, e, ez, Int.mul_comm b, Int.mul_assoc]
theorem weak {b : Int} {ts : List Int} {sp : List Sn} {bs : List (Int × Int)} {rows : List (Int × List Stp)} (hb : 0 < b) (hl : bs.length = sp.length) (h : InB (layT b ts sp) bs) (hr : ∀ r ∈ rows, RowOk b sp bs r) : worthM b sp bs rows ≤ waitOfM b ts sp := by
 have rw1 : ∀ r ∈ rows, RwOk sp.length r := fun r hh => by
  have q := hr r hh
  exact ⟨q.1.inn, q.1.one, q.1.few, q.2.2.1, q.2.2.2⟩
 have e1 := rows_in hb hl h rows hr
 have e2 := sum_sgR (y := layT b ts sp) (n := sp.length) rows fun r hh s hs => ((rw1 r hh).inn s hs).1
 unfold worthM
 rw [sumN_range, ← e1, ← e2, wait_sum, ← sumN_add]
 refine sumN_le _ fun k hk => ?_
 unfold termW
 have eo := owK_sg hk rw1
 obtain ⟨h1, h2⟩ := h k (by omega)
 have key : owK sp rows k * (if owK sp rows k < 0 then (bs.getD k (0, 0)).2 else (bs.getD k (0, 0)).1) ≤ owK sp rows k * layT b ts sp k := by
  split
  ·rename_i hn
   exact Int.mul_le_mul_of_nonpos_left (Int.le_of_lt hn) h2
  ·rename_i hn
   exact Int.mul_le_mul_of_nonneg_left h1 (by omega)
 have ex : owK sp rows k * layT b ts sp k = wOf sp k * layT b ts sp k - sgR k rows * layT b ts sp k := by rw [eo, Int.sub_mul]
 omega
theorem shown_weak {b : Int} {ts : List Int} {sp : List Sn} {t : Tq} {ps : List Plc} (hb : 0 < b) (hf : fitsM b ts sp = true) (lv : lvs t (sp.map fun x => (x.l, x.o)) = ps.map plcL) (ok : ∀ p ∈ ps, p.1.length = sp.length ∧ LfOk b sp p.1 p.2) :
  worthsM b sp ps ≠ [] ∧ leastI (worthsM b sp ps) ≤ waitOfM b ts sp := by
 obtain ⟨q, hq, hin⟩ := in_leaf (y := layT b ts sp) t _ (lay_in hb hf)
 rw [lv] at hq
 obtain ⟨p, hp, rfl⟩ := List.mem_map.mp hq
 obtain ⟨o1, o2⟩ := ok p hp
 have hin : InB (layT b ts sp) p.1 := hin
 obtain ⟨bs, lf⟩ := p
 cases lf with
 | ring ws =>
  obtain ⟨r1, r2⟩ := o2
  obtain ⟨Z, _, z1, z2⟩ := ring_in hb o1 hin r1
  have r2 := of_decide_eq_true r2
  exact absurd r2 (by show ¬ (upB b (sumLo bs ws) > sumHi bs ws / b); omega)
 | price rows =>
  have hw := weak hb o1 hin o2.2
  have hm : worthM b sp bs rows ∈ worthsM b sp ps := List.mem_filterMap.mpr ⟨_, hp, rfl⟩
  have ne : worthsM b sp ps ≠ [] := fun e => by rw [e] at hm; cases hm
  exact ⟨ne, Int.le_trans ((least_ok _ ne).2 _ hm) hw⟩
end HN
namespace HN
open PySem L2 PyProof.Rows
theorem shw_tup (l : List Int) : ∃ ds, shwD l = .tup ds ∧ pls ds = true ∧ deps ds < 60 ∧ eqDs ds ds = true := by
 cases l with
 | nil => exact ⟨_, rfl, by simp [pls, pl], by simp [deps, dep], by simp [eqDs, eqD]⟩
 | cons a l => exact ⟨_, rfl, by simp [pls, pl], by simp [deps, dep], by simp [eqDs, eqD]⟩
end HN
namespace HN
open PySem L2 PyProof.Rows
def inbB (y : Nat → Int) (bs : List (Int × Int)) : Bool := (List.range bs.length).all fun k => decide ((bs.getD k (0, 0)).1 ≤ y k) && decide (y k ≤ (bs.getD k (0, 0)).2)
theorem inb_iff {y : Nat → Int} {bs : List (Int × Int)} : inbB y bs = true ↔ InB y bs := by
 unfold inbB InB
 rw [List.all_eq_true]
 constructor
 ·intro h k hk
  have := h k (List.mem_range.mpr hk)
  rw [Bool.and_eq_true] at this
  exact ⟨of_decide_eq_true this.1, of_decide_eq_true this.2⟩
 ·intro h k hk
  obtain ⟨h1, h2⟩ := h k (List.mem_range.mp hk)
  rw [decide_eq_true h1, decide_eq_true h2]; rfl
def OutB (y : Nat → Int) (bs : List (Int × Int)) : Prop := ∃ k, k < bs.length ∧ (y k < (bs.getD k (0, 0)).1 ∨ (bs.getD k (0, 0)).2 < y k)
theorem out_no {y : Nat → Int} {bs : List (Int × Int)} (h : OutB y bs) : inbB y bs = false := by
 cases e : inbB y bs with
 | false => rfl
 | true =>
  obtain ⟨k, hk, z⟩ := h
  have := inb_iff.mp e k hk
  omega
theorem set_getD {bs : List (Int × Int)} {k j : Nat} {x : Int × Int} (hj : j < bs.length) : (bs.set k x).getD j (0, 0) = if k = j then x else bs.getD j (0, 0) := by
 rw [List.getD_eq_getElem?_getD]
 by_cases e : k = j
 ·subst e
  rw [List.getElem?_set_self hj, if_pos rfl]; rfl
 ·rw [List.getElem?_set_ne e, if_neg e, ← List.getD_eq_getElem?_getD]
theorem out_all {sp : List Sn} {y : Nat → Int} : ∀ (t : Tq) (bs : List (Int × Int)), GrT sp t bs → OutB y bs → ∀ p ∈ lvs t bs, OutB y p.1
 | .leaf d, bs, _, h, p, hp => by rw [List.mem_singleton.mp hp]; exact h
 | .cut k a t1 t2, bs, hg, h, p, hp => by
  obtain ⟨g1, g2, g3, g4, g5⟩ := hg
  obtain ⟨j, hj, z⟩ := h
  rcases List.mem_append.mp hp with q | q
  ·refine out_all t1 _ g4 ⟨j, by rw [one_len]; exact hj, ?_⟩ p q
   unfold oneB
   rw [set_getD hj]
   by_cases e : k = j
   ·rw [if_pos e]
    subst e
    show y k < (bs.getD k (0, 0)).1 ∨ a < y k
    omega
   ·rw [if_neg e]; exact z
  ·refine out_all t2 _ g5 ⟨j, by rw [other_len]; exact hj, ?_⟩ p q
   unfold otherB
   rw [set_getD hj]
   by_cases e : k = j
   ·rw [if_pos e]
    subst e
    show y k < a + 1 ∨ (bs.getD k (0, 0)).2 < y k
    omega
   ·rw [if_neg e]; exact z
theorem none_in {sp : List Sn} {y : Nat → Int} {t : Tq} {bs : List (Int × Int)} (hg : GrT sp t bs) (h : OutB y bs) : (lvs t bs).filter (fun p => inbB y p.1) = [] := by
 rw [List.filter_eq_nil_iff]
 intro p hp
 rw [out_no (out_all t bs hg h p hp)]
 exact Bool.false_ne_true
theorem home {sp : List Sn} {y : Nat → Int} : ∀ (t : Tq) (bs : List (Int × Int)), GrT sp t bs → InB y bs → ∃ p, (lvs t bs).filter (fun p => inbB y p.1) = [p] ∧ InB y p.1
 | .leaf d, bs, _, h => ⟨(bs, d), by show List.filter _ [(bs, d)] = _; rw [List.filter_cons, if_pos (inb_iff.mpr h)]; rfl, h⟩
 | .cut k a t1 t2, bs, hg, h => by
  obtain ⟨g1, g2, g3, g4, g5⟩ := hg
  show ∃ p, (lvs t1 _ ++ lvs t2 _).filter _ = [p] ∧ _
  rw [List.filter_append]
  rcases Int.lt_or_le a (y k) with q | q
  ·obtain ⟨p, e, hp⟩ := home t2 (otherB bs k a) g5 (inB_other h (by omega))
   have n : (lvs t1 (oneB bs k a)).filter (fun p => inbB y p.1) = [] := none_in g4 ⟨k, by rw [one_len]; exact g1, .inr (by unfold oneB; rw [set_getD g1, if_pos rfl]; exact q)⟩
   exact ⟨p, by rw [n, e]; rfl, hp⟩
  ·obtain ⟨p, e, hp⟩ := home t1 (oneB bs k a) g4 (inB_one h q)
   have n : (lvs t2 (otherB bs k a)).filter (fun p => inbB y p.1) = [] := none_in g5 ⟨k, by rw [other_len]; exact g1, .inl (by unfold otherB; rw [set_getD g1, if_pos rfl]; show y k < a + 1; omega)⟩
   exact ⟨p, by rw [n, e]; rfl, hp⟩
theorem lfok_of {b : Int} {sp : List Sn} {p : Plc} (h : LfG sp p.2) (hr : rightP b p = true) : LfOk b sp p.1 p.2 := by
 obtain ⟨bs, lf⟩ := p
 cases lf with
 | ring ws => exact ⟨h, hr⟩
 | price rows => exact ⟨h.1, fun r hh => ⟨(h.2 r hh).1, List.all_eq_true.mp hr r hh, (h.2 r hh).2⟩⟩
theorem home_price {b : Int} {ts : List Int} {sp : List Sn} {t : Tq} {ps : List Plc} (hb : 0 < b) (hf : fitsM b ts sp = true) (hg : GrT sp t (sp.map fun x => (x.l, x.o))) (lv : lvs t (sp.map fun x => (x.l, x.o)) = ps.map plcL) (ok : ∀ p ∈ ps, p.1.length = sp.length ∧ LfOk b sp p.1 p.2) :
  ∃ bs rows, ps.filter (fun p => inbB (layT b ts sp) p.1) = [(bs, .price rows)] := by
 obtain ⟨q, e, hin⟩ := home (y := layT b ts sp) t _ hg (lay_in hb hf)
 rw [lv, List.filter_map] at e
 obtain ⟨p, ep, rfl⟩ : ∃ p, ps.filter (fun p => inbB (layT b ts sp) p.1) = [p] ∧ plcL p = q := by
  have e : (ps.filter (fun p => inbB (layT b ts sp) p.1)).map plcL = [q] := e
  cases z : ps.filter (fun p => inbB (layT b ts sp) p.1) with
  | nil => rw [z] at e; cases e
  | cons p r =>
   rw [z] at e
   injection e with e1 e2
   rw [List.map_eq_nil_iff] at e2
   subst e2
   exact ⟨p, rfl, e1⟩
 have hp : p ∈ ps := (List.mem_filter.mp (by rw [ep]; exact List.mem_singleton.mpr rfl)).1
 obtain ⟨o1, o2⟩ := ok p hp
 have hin : InB (layT b ts sp) p.1 := hin
 obtain ⟨bs, lf⟩ := p
 cases lf with
 | ring ws =>
  obtain ⟨r1, r2⟩ := o2
  obtain ⟨Z, _, z1, z2⟩ := ring_in hb o1 hin r1
  have r2 := of_decide_eq_true r2
  exact absurd r2 (by show ¬ (upB b (sumLo bs ws) > sumHi bs ws / b); omega)
 | price rows => exact ⟨bs, rows, ep⟩
def spWithinL : Sp := fun vs H Q _ => ∃ (v vb : V) (u : Addr) (b m : Int) (sp : List Sn) (ts : List Int) (bs : List (Int × Int)), vs = [v, .ref u, vb] ∧ IsD H v (netP b m sp) ∧ H u = some (.tup (ts.map V.int)) ∧ Rdy b ts sp ∧ IsD H vb (bndP bs) ∧ bs.length = sp.length ∧ ∀ H', Same H H' → Q (.bl (inbB (layT b ts sp) bs)) H'
def spRightW : Sp := fun vs H Q _ => ∃ (v tr vf : V) (u : Addr) (b m : Int) (sp : List Sn) (ts : List Int) (t : Tq) (ps : List Plc) (wl : List Int) (bs : List (Int × Int)) (rows : List (Int × List Stp)), vs = [v, .ref u, tr, vf] ∧ IsD H v (netP b m sp) ∧ H u = some (.tup (ts.map V.int)) ∧ Rdy b ts sp ∧ (∀ x ∈ sp, 0 ≤ x.w ∧ x.w ≤ 1000000000000) ∧
 IsD H tr (treeD t) ∧ sp.length ≤ 40 ∧ CutsOk t (sp.map fun x => (x.l, x.o)) ∧ siz t ≤ 400 ∧ ((lvs t (sp.map fun x => (x.l, x.o))).all fun p => leafB sp p.2) = true ∧ lvs t (sp.map fun x => (x.l, x.o)) = ps.map plcL ∧ (∀ p ∈ ps, p.1.length = sp.length) ∧ wl ≠ [] ∧ IsD H vf (shwD wl) ∧ leastI wl ≤ waitOfM b ts sp ∧ ps.filter (fun p => inbB (layT b ts sp) p.1) = [(bs, .price rows)] ∧ ∀ H', Same H H' → Q (.bl true) H'
def spNear : Sp := fun vs H Q _ => ∃ (p t hd : Addr) (b m : Int) (rest : List V) (hs : List Int), vs = [.ref p, .ref t, .ref hd] ∧ Dk p H ∧ H t = some (.tup (.int b :: .int m :: rest)) ∧ H hd = some (.tup (hs.map V.int)) ∧ (hs.length : Int) = m ∧ 1 ≤ b ∧ b < 10 ^ 61 ∧ 1 ≤ m ∧ m ≤ 16 ∧
 ∀ L us H', Md p H H' → H' L = some (.lst us) → TabsAt H' m.toNat us → us.length ≤ 20 → Q (.ref L) H'
theorem TabsAt.keep {H H' : Hp} {n : Nat} {us : List V} (h : TabsAt H n us) (e : TupK H H') : TabsAt H' n us := fun u hu => let ⟨q, ts, a, b, c⟩ := h u hu; ⟨q, ts, a, e _ _ b, c⟩
end HN
namespace L2
open PySem PySem.Spec PyProof.Rows HN
theorem op_neO {X : Cx} (hu : X.A.units + 64 < cLine) : OpR X (compareOp .NotEq) (fun x y H Q => rNe x y H Q ∨ ∃ ds es, IsD H x (.tup ds) ∧ IsD H y (.tup es) ∧ pls ds = true ∧ pls es = true ∧ deps ds < 60 ∧ Q (.bl (!(eqDs ds es))) H) := by
 intro pins s σ H x y v u Q I rx ry h
 rcases h with h | h
 ·exact op_ne pins s σ H x y v u Q I rx ry h
 ·exact op_neD hu pins s σ H x y v u Q I rx ry h
end L2
namespace HN
open PySem L2 PyProof.Rows
def top (i : Nat) : Stmt := PySem.Challenge.pw_hourtable_k91_whole_no_table_beats_a_tre.main.body.getD i (.Pass ⟨0, 0, 0, 0⟩)
end HN
namespace HN
open PySem L2 PyProof.Rows
abbrev sBeatsL : Stmt := top 46
section
variable {P : Program} {w : World} {K : PySem.W.Frag} {mg : Str → Option Value} {base : Heap}
theorem scBeatsL : FnScope ["_law_net_here", "_law_bounds_here", "_law_ring_here", "_law_low", "_law_high", "_law_span_here", "_law_way"] ["_law_net_here", "_law_bounds_here", "_law_ring_here"] (defScope sBeatsL) := ⟨rfl, rfl, rfl, by decide +kernel, rfl, by decide +kernel, by decide +kernel⟩
theorem ok_beatsL {f : Addr} {fd : FuncData} (F : Fun K "_law_beats" "_law_beats" sBeatsL f fd) : FnOk P w K mg base CX0 1 f fd ["_law_net_here", "_law_bounds_here", "_law_ring_here"] spBeats := by
 refine F.ok scBeatsL (fun vs H Q E h => by obtain ⟨vn, vb, vw, b, m, sp, bs, ws, rfl, _⟩ := h; rfl) (fun cdv A outer s H vs Q E hr h => ?_)
 obtain ⟨vn, vb, vw, b, m, sp, bs, ws, rfl, hv, hb0, hb1, hb, hw, hin, k⟩ := h
 obtain ⟨t, pn, ys, rfl, ht, _⟩ := netP_of hv
 obtain ⟨pb, yb, rfl, hpb, hlb, rb⟩ := rows_of hb
 obtain ⟨pw, yw, rfl, hpw, hlw, rw'⟩ := rows_of hw
 refine ⟨_, PSl.h (l_cons ⟨(ps_set (i := 3) scBeatsL.nd rfl (Or.inl rfl) pe_int)⟩
  (l_cons ⟨(ps_set (i := 4) scBeatsL.nd rfl (Or.inl rfl) pe_int)⟩
  (l_cons ⟨(ps_for PassesOwn.never rfl (pi_tup (pv 2)) (pg_tup rfl (pgs_cons (pg_name (i := 5) scBeatsL.nd rfl (Or.inl rfl)) (pgs_cons (pg_name (i := 6) scBeatsL.nd rfl (Or.inl rfl)) pgs_nil))) (pss_one (ps_if (pt_cmpR op_eq (pv 6) pe_int (nomark _)) (PSl.h (l_cons ⟨(ps_set (i := 3) scBeatsL.nd rfl (Or.inl rfl) (pe_op op_add (pv 3) (pe_ix ix_tup (pe_ix ix_tup (pv 1) (pv 5) (fun _ _ => rfl)) pe_int (fun _ _ => rfl))))⟩
  (l_one ⟨(ps_set (i := 4) scBeatsL.nd rfl (Or.inl rfl) (pe_op op_add (pv 4) (pe_ix ix_tup (pe_ix ix_tup (pv 1) (pv 5) (fun _ _ => rfl)) pe_int (fun _ _ => rfl))))⟩))) (PSl.h (l_cons ⟨(ps_set (i := 3) scBeatsL.nd rfl (Or.inl rfl) (pe_op op_sub (pv 3) (pe_ix ix_tup (pe_ix ix_tup (pv 1) (pv 5) (fun _ _ => rfl)) pe_int (fun _ _ => rfl))))⟩
  (l_one ⟨(ps_set (i := 4) scBeatsL.nd rfl (Or.inl rfl) (pe_op op_sub (pv 4) (pe_ix ix_tup (pe_ix ix_tup (pv 1) (pv 5) (fun _ _ => rfl)) pe_int (fun _ _ => rfl))))⟩))))))⟩
  (l_one ⟨(ps_ret (pe_tupA (pa_cons (pe_op op_sub pe_int (pe_op op_fdivB (pe_op op_sub pe_int (pv 3)) (pe_ix ix_tup (pv 0) pe_int (fun _ _ => rfl)))) (pa_cons (pe_op op_fdivB (pv 4) (pe_ix ix_tup (pv 0) pe_int (fun _ _ => rfl))) pa_nil))))⟩)))), ?_⟩
 refine ⟨_, rfl, pw, rfl, ⟨_, SqT.of hpw⟩, ?_⟩
 refine for_tup (K := K) (xs := yw) (fun i σ H2 => H2 = H ∧ ∃ v4 v5, σ = [some (.ref t), some (.ref pb), some (.ref pw), some (.int (sumLo bs (ws.take i))), some (.int (sumHi bs (ws.take i))), v4, v5]) ⟨rfl, none, none, rfl⟩ (fun i σ H2 _ ⟨e1, _⟩ => by rw [e1]; exact SqT.of hpw) ?_ ?_
 ·rintro i y σ H2 hy ⟨rfl, v4, v5, rfl⟩
  have hi : i < ws.length := by rw [← hlw]; exact (List.getElem?_eq_some_iff.mp hy).1
  obtain ⟨q, hq, hq2⟩ := rows_at rw' (gE hi)
  rw [hy] at hq
  cases hq
  obtain ⟨i1, d1⟩ := hin ws[i] (List.getElem_mem hi)
  have hm1 : sumLo bs (ws.take (i + 1)) = sumLo bs (ws.take i) + lowS bs ws[i] := by
   unfold sumLo
   rw [List.take_add_one, gE hi, List.map_append, List.sum_append]; simp
  have hm2 : sumHi bs (ws.take (i + 1)) = sumHi bs (ws.take i) + highS bs ws[i] := by
   unfold sumHi
   rw [List.take_add_one, gE hi, List.map_append, List.sum_append]; simp
  obtain ⟨qb, hqb, hqb2⟩ := rows_at rb (gE i1)
  refine ⟨q, _, rfl, SqT.of hq2, rfl, _, _, rfl, _, _, rfl, rfl, ?_⟩
  refine ⟨_, rfl, rfl, _, rfl, ?_⟩
  refine ite2 (fun h1 => ?_) (fun h1 => ?_)
  ·have h1 : ws[i].d = 1 := by have := of_decide_eq_true h1; injection this
   refine ⟨_, rfl, _, rfl, _, rfl, pb, _, _, _, rfl, rfl, SqT.of hpb, atI_nat (j := ws[i].i) hqb, qb, _, _, _, rfl, rfl, SqT.of hqb2, atI_nat (j := 0) rfl, _, _, rfl, rfl, ?_⟩
   refine ⟨_, rfl, _, rfl, _, rfl, pb, _, _, _, rfl, rfl, SqT.of hpb, atI_nat (j := ws[i].i) hqb, qb, _, _, _, rfl, rfl, SqT.of hqb2, atI_nat (j := 1) rfl, _, _, rfl, rfl, rfl, some (.int (ws[i].i : Nat)), some (.int ws[i].d), ?_⟩
   have l1 : lowS bs ws[i] = bs[ws[i].i].1 := by unfold lowS; rw [gE i1]; exact if_pos h1
   have l2 : highS bs ws[i] = bs[ws[i].i].2 := by unfold highS; rw [gE i1]; exact if_pos h1
   rw [hm1, hm2, l1, l2]; rfl
  ·have h1 : ws[i].d ≠ 1 := fun z => h1 (decide_eq_true (by rw [z]))
   refine ⟨_, rfl, _, rfl, _, rfl, pb, _, _, _, rfl, rfl, SqT.of hpb, atI_nat (j := ws[i].i) hqb, qb, _, _, _, rfl, rfl, SqT.of hqb2, atI_nat (j := 1) rfl, _, _, rfl, rfl, ?_⟩
   refine ⟨_, rfl, _, rfl, _, rfl, pb, _, _, _, rfl, rfl, SqT.of hpb, atI_nat (j := ws[i].i) hqb, qb, _, _, _, rfl, rfl, SqT.of hqb2, atI_nat (j := 0) rfl, _, _, rfl, rfl, rfl, some (.int (ws[i].i : Nat)), some (.int ws[i].d), ?_⟩
   have l1 : lowS bs ws[i] = -bs[ws[i].i].2 := by unfold lowS; rw [gE i1]; exact if_neg h1
   have l2 : highS bs ws[i] = -bs[ws[i].i].1 := by unfold highS; rw [gE i1]; exact if_neg h1
   rw [hm1, hm2, l1, l2, ← Int.sub_eq_add_neg, ← Int.sub_eq_add_neg]; rfl
 ·rintro σ H2 ⟨rfl, v4, v5, rfl⟩
  rw [hlw, List.take_length]
  refine ⟨_, rfl, _, _, rfl, rfl, _, rfl, t, _, _, _, rfl, rfl, SqT.of ht, atI_nat (j := 0) rfl, _, _, rfl, rfl, log_ok hb0 hb1, _, _, rfl, rfl, ?_⟩
  refine ⟨_, rfl, _, rfl, t, _, _, _, rfl, rfl, SqT.of ht, atI_nat (j := 0) rfl, _, _, rfl, rfl, log_ok hb0 hb1, (by show 2 ≤ sizeLine; decide), fun p3 H3 S3 h3 => k p3 H3 S3 ?_⟩
  have e : (0 : Int) - (0 - sumLo bs ws) / b = upB b (sumLo bs ws) := by unfold upB; rw [Int.zero_sub, Int.zero_sub]
  rw [← e]; exact h3
end
end HN
namespace HN
open PySem L2 PyProof.Rows
abbrev sNums : Stmt := top 39
theorem cut_upto {xs : List V} {i : Int} {n : Nat} (hi : i = (n : Int)) : cutV xs none (some i) = xs.take n := by
 unfold cutV
 subst hi
 have e := HT.sIx_nat xs.length xs.length n
 rw [e]
 show (xs.drop 0).take (min n xs.length - 0) = xs.take n
 rw [List.drop_zero, Nat.sub_zero]
 by_cases h : n ≤ xs.length
 ·rw [Nat.min_eq_left h]
 ·rw [Nat.min_eq_right (by omega), List.take_length, List.take_of_length_le (by omega)]
def spNums (K : PySem.W.Frag) : Sp := fun vs H Q _ => ∃ (a : Addr) (ns : List Int) (m : Int), vs = [.ref a, .int m] ∧ SqL K H a (ns.map V.int) ∧ 64 ≤ m ∧ m ≤ 900 ∧ ∀ p H1 H', Same H H1 → H1 p = none → Md p H1 H' → Q (.ref p) H'
section
variable {P : Program} {w : World} {K : PySem.W.Frag} {mg : Str → Option Value} {base : Heap}
theorem scNums : FnScope ["_law_script", "_law_most", "_law_deck", "_law_kind", "_law_last"] ["_law_script", "_law_most"] (defScope sNums) := ⟨rfl, rfl, rfl, by decide +kernel, rfl, by decide +kernel, by decide +kernel⟩
theorem ok_nums {f : Addr} {fd : FuncData} (F : Fun K "_law_numbers" "_law_numbers" sNums f fd) (T : Nm mg) (T2 : Nt mg) : FnOk P w K mg base CX0 1 f fd ["_law_script", "_law_most"] (spNums K) := by
 refine F.ok scNums (fun vs H Q E h => by obtain ⟨a, ns, m, rfl, _⟩ := h; rfl) (fun cdv A outer s H vs Q E hr h => ?_)
 obtain ⟨a, ns, m, rfl, ha, hm1, hm2, k⟩ := h
 refine ⟨_, PSl.h (l_cons ⟨(ps_set (i := 2) scNums.nd rfl (Or.inl rfl) (pe_callTy call_list_of rfl T2.tlist boot_list (pa_cons (pe_slice sl_listA (pv 0) po_none (po_some pe_int)) pa_nil)))⟩
  (l_cons ⟨(ps_set (i := 3) scNums.nd rfl (Or.inl rfl) pe_int)⟩
  (l_cons ⟨(ps_cutK (ps_if (pt_cmpR (op_neL0 hr.units0) (pv 2) (pe_lstA pa_nil) (nomark _)) (PSl.h (l_cons ⟨(ps_set (i := 3) scNums.nd rfl (Or.inl rfl) (pe_op op_mod (pe_ix ix_list (pv 2) pe_int (fun _ _ => rfl)) pe_int))⟩
  (l_one ⟨(ps_asg (pe_op op_fdiv (pe_ix ix_list (pv 2) pe_int (fun _ _ => rfl)) pe_int) (pg_sub (pv 2) pe_int set_list))⟩))) pss_nil))⟩
  (l_cons ⟨(ps_set (i := 4) scNums.nd rfl (Or.inl rfl) (pe_op op_add pe_int (pe_op op_mod (pe_callB (call_sum rfl) rfl T2.sum boot_sum (pa_cons (pv 2) pa_nil)) pe_int)))⟩
  (l_cons ⟨(ps_while PassesOwn.never (pt_cmpR op_lt (pe_callB call_len_seq rfl T.len PySem.boot_len (pa_cons (pv 2) pa_nil)) (pv 1) (nomark _)) (PSl.h (l_cons ⟨(ps_set (i := 4) scNums.nd rfl (Or.inl rfl) (pe_op op_mod (pe_op op_add (pe_op op_add (pe_op op_mul (pv 4) (pv 4)) (pe_op op_mul pe_int (pv 4))) (pe_callB call_len_seq rfl T.len PySem.boot_len (pa_cons (pv 2) pa_nil))) pe_int))⟩
  (l_cons ⟨(ps_set (i := 4) scNums.nd rfl (Or.inl rfl) (pe_op op_mod (pe_op op_add (pe_op op_add (pe_op op_mul (pv 4) (pv 4)) (pe_op op_mul pe_int (pv 4))) pe_int) pe_int))⟩
  (l_one ⟨(ps_expr (pe_bm PySem.F.plainAttrs_list PySem.F.slot_list_append PySem.F.type_list_append mt_append (pv 2) (pa_cons (pv 4) pa_nil)))⟩)))))⟩
  (l_one ⟨(ps_ret (pe_op op_cat (pe_lstA (pa_cons (pv 3) pa_nil)) (pe_backL (pv 2))))⟩)))))), ?_⟩
 refine ⟨_, rfl, _, rfl, a, _, rfl, ha, fun q1 H1 S1 h1 => ?_⟩
 have h1 : H1 q1 = some (.lst ((ns.take 63).map V.int)) := by
  rw [h1, cut_upto (i := 63) (n := 63) rfl, List.map_take]
 refine ⟨q1, _, rfl, .inl (SqL.of h1), fun p hp => ?_⟩
 have S2 : Same H (upd H1 p (.lst ((ns.take 63).map V.int))) := S1.trans (Same.put (Same.refl H1) hp)
 have h2 : (upd H1 p (.lst ((ns.take 63).map V.int))) p = some (.lst ((ns.take 63).map V.int)) := upd_same
 have E2 : ∀ b o, b ≠ p → H1 b = some o → (upd H1 p (.lst ((ns.take 63).map V.int))) b = some o := fun b o hb e => by rw [upd_ne hb]; exact e
 have l2 : (ns.take 63).length ≤ 63 := by rw [List.length_take]; omega
 generalize upd H1 p (.lst ((ns.take 63).map V.int)) = H2 at S2 h2 E2 ⊢
 generalize ns.take 63 = d2 at h2 l2
 refine ⟨fun σ' H' => ∃ (kd : Int) (ds : List Int), σ' = [some (.ref a), some (.int m), some (.ref p), some (.int kd), none] ∧ H' p = some (.lst (ds.map V.int)) ∧ ds.length ≤ 63 ∧ ∀ b o, b ≠ p → H1 b = some o → H' b = some o, ?_, ?_⟩
 rotate_left
 ·refine ⟨_, rfl, Nat.zero_le _, fun q3 H3 S3 h3 => ⟨p, q3, _, rfl, rfl, SqL.of (S3 _ _ h2), SqL.of h3, _, rfl, ?_⟩⟩
  have E3 : ∀ b o, b ≠ p → H1 b = some o → H3 b = some o := fun b o hb e => S3 _ _ (E2 b o hb e)
  refine ite2 (fun hc => ?_) (fun _ => ⟨0, d2, rfl, S3 _ _ h2, l2, E3⟩)
  cases d2 with
  | nil => exact absurd hc (by decide)
  | cons d ds =>
   refine ⟨_, rfl, p, _, _, _, rfl, rfl, SqL.of (S3 _ _ h2), atI_nat (j := 0) rfl, _, _, rfl, rfl, (by show (0 : Int) < 2; decide), ?_⟩
   refine ⟨_, rfl, p, _, _, _, rfl, rfl, SqL.of (S3 _ _ h2), atI_nat (j := 0) rfl, _, _, rfl, rfl, ⟨by decide, by decide⟩, _, rfl, p, _, _, 0, rfl, rfl, S3 _ _ h2, (by simp [ixN]), ?_⟩
   exact ⟨_, d / 2 :: ds, rfl, by rw [upd_same]; rfl, l2, fun b o hb e => by rw [upd_ne hb]; exact E3 b o hb e⟩
 rintro σ' H3 ⟨kd, ds, rfl, h3, l3, E3⟩
 clear h2 E2 S2 H2 l2 d2
 refine ⟨_, rfl, p, ds, rfl, SqL.of h3, _, _, rfl, rfl, (by show (0 : Int) < 2147483647; decide), _, _, rfl, rfl, ?_⟩
 have s0 := Int.emod_nonneg ds.sum (by decide : (2147483647 : Int) ≠ 0)
 have s1 := Int.emod_lt_of_pos ds.sum (by decide : (0 : Int) < 2147483647)
 refine ⟨fun n σ H' => ∃ (la : Int) (ds : List Int), n = 1000 - ds.length ∧ σ = [some (.ref a), some (.int m), some (.ref p), some (.int kd), some (.int la)] ∧ H' p = some (.lst (ds.map V.int)) ∧ ds.length ≤ 900 ∧ 0 ≤ la ∧ la < 4294967296 ∧ ∀ b o, b ≠ p → H1 b = some o → H' b = some o, ⟨_, _, ds, rfl, rfl, h3, by omega, by omega, by omega, E3⟩, ?_⟩
 rintro n σ H4 ⟨la, ds, rfl, rfl, h4, l4, a0, a1, E4⟩
 refine ⟨_, rfl, p, _, rfl, .inl (SqL.of h4), _, rfl, _, _, rfl, rfl, _, rfl, ?_⟩
 refine ite2 (fun hc => ?_) (fun hc => ?_)
 ·have hc : ((ds.map V.int).length : Int) < m := of_decide_eq_true hc
  rw [List.length_map] at hc
  refine ⟨_, fun σ' H' z => z, ?_⟩
  refine ⟨_, rfl, _, rfl, _, _, rfl, rfl, .inl ⟨by omega, by omega⟩, _, rfl, _, _, rfl, rfl, .inl ⟨by decide, by decide⟩, _, _, rfl, rfl, _, rfl, p, _, rfl, .inl (SqL.of h4), _, _, rfl, rfl, _, _, rfl, rfl, (by show (0 : Int) < 2147483647; decide), ?_⟩
  have t0 := Int.emod_nonneg (la * la + 48271 * la + ((ds.map V.int).length : Int)) (by decide : (2147483647 : Int) ≠ 0)
  have t1 := Int.emod_lt_of_pos (la * la + 48271 * la + ((ds.map V.int).length : Int)) (by decide : (0 : Int) < 2147483647)
  refine ⟨_, rfl, _, rfl, _, _, rfl, rfl, .inl ⟨by omega, by omega⟩, _, rfl, _, _, rfl, rfl, .inl ⟨by decide, by decide⟩, _, _, rfl, rfl, _, _, rfl, rfl, _, _, rfl, rfl, (by show (0 : Int) < 2147483629; decide), ?_⟩
  refine ⟨_, rfl, .inl ⟨rfl, _, SqL.of h4⟩, _, rfl, p, _, _, rfl, rfl, h4, (Nat.lt_of_lt_of_le (by rw [List.length_map]; omega : (ds.map V.int).length < 1000) (by decide : 1000 ≤ sizeLine)), ?_⟩
  refine ⟨1000 - (ds.length + 1), by omega, _, ds ++ [_], by rw [List.length_append]; rfl, rfl, by rw [upd_same, List.map_append]; rfl, by rw [List.length_append]; show ds.length + 1 ≤ 900; omega, Int.emod_nonneg _ (by decide), Int.lt_trans (Int.emod_lt_of_pos _ (by decide)) (by decide), fun b o hb e => by rw [upd_ne hb]; exact E4 b o hb e⟩
 ·refine ⟨_, rfl, (by show 1 ≤ sizeLine; decide), fun q5 H5 S5 h5 => ⟨_, rfl, p, _, rfl, S5 _ _ h4, fun q6 H6 S6 h6 => ⟨q5, q6, _, _, rfl, rfl, S6 _ _ h5, h6, ?_, fun pd hpd => ?_⟩⟩⟩
  ·rw [List.length_reverse, List.length_map]
   exact Nat.le_trans (by show 1 + ds.length ≤ 1000; omega) (by decide)
  ·have hpH : H p = none := by
    cases z : H p with
    | none => rfl
    | some o => rw [S1 p o z] at hp; cases hp
   refine k pd H6 _ (fun b o e => S6 _ _ (S5 _ _ (E4 b o (fun z => by rw [z, hpH] at e; cases e) (S1 b o e)))) hpd ⟨fun b o hb e => by rw [upd_ne hb]; exact e, kd, ds.reverse, ?_, by rw [List.length_reverse]; omega⟩
   rw [upd_same, List.map_cons, List.map_reverse]; rfl
end
end HN
namespace HN
open PySem L2 PyProof.Rows
abbrev sDrawD : Stmt := top 40
section
variable {P : Program} {w : World} {K : PySem.W.Frag} {mg : Str → Option Value} {base : Heap}
theorem scDrawD : FnScope ["_law_deck", "_law_most", "_law_number"] ["_law_deck", "_law_most"] (defScope sDrawD) := ⟨rfl, rfl, rfl, by decide +kernel, rfl, by decide +kernel, by decide +kernel⟩
theorem ok_drawD {f : Addr} {fd : FuncData} (F : Fun K "_law_draw" "_law_draw" sDrawD f fd) (T : Nm mg) : FnOk P w K mg base CX0 1 f fd ["_law_deck", "_law_most"] spDrawD := by
 refine F.ok scDrawD (fun vs H Q E h => by obtain ⟨p, m, rfl, _⟩ := h; rfl) (fun cdv A outer s H vs Q E hr h => ?_)
 obtain ⟨p, m, rfl, ⟨k0, ns, hp, hl⟩, h0, h1, k⟩ := h
 refine ⟨_, PSl.h (l_cons ⟨(ps_if (pt_cmpR op_eq (pe_callB call_len_seq rfl T.len PySem.boot_len (pa_cons (pv 0) pa_nil)) pe_int (nomark _)) (pss_one (ps_ret pe_int)) pss_nil)⟩
  (l_cons ⟨(ps_set (i := 2) scDrawD.nd rfl (Or.inl rfl) (pe_bm0 PySem.F.plainAttrs_list PySem.F.slot_list_pop PySem.F.type_list_pop mt_pop (pv 0)))⟩
  (l_cons ⟨(ps_cutK (ps_if (PW.pt (pw_and (pt_cmpR op_eq (pe_ix ix_list (pv 0) pe_int (fun _ _ => rfl)) pe_int (nomark _)) (pw_and1 (pt_cmpR op_ne (pe_op op_fdivB (pv 2) (pv 1)) pe_int (nomark _))))) (pss_one (ps_expr (pe_bm PySem.F.plainAttrs_list PySem.F.slot_list_append PySem.F.type_list_append mt_append (pv 0) (pa_cons (pe_op op_fdivB (pv 2) (pv 1)) pa_nil)))) pss_nil))⟩
  (l_one ⟨(ps_ret (pe_op op_mod (pv 2) (pv 1)))⟩)))), ?_⟩
 refine ⟨_, rfl, p, _, rfl, .inl (SqL.of hp), rfl, _, rfl, ?_⟩
 refine ite2 (fun _ => k 0 H (by omega) h0 (Md.refl ⟨k0, ns, hp, hl⟩)) (fun hc => ?_)
 have hne : ns ≠ [] := fun z => hc (by rw [z]; rfl)
 obtain ⟨n', n, rfl⟩ : ∃ n' n, ns = n' ++ [n] := ⟨ns.dropLast, ns.getLast hne, (List.dropLast_concat_getLast hne).symm⟩
 have hp0 : H p = some (.lst ((k0 :: n').map V.int ++ [V.int n])) := by rw [hp, ← List.cons_append, List.map_append]; rfl
 have hl' : n'.length + 1 ≤ 1000 := by rw [List.length_append] at hl; exact hl
 refine ⟨_, rfl, .inl ⟨rfl, _, SqL.of hp0⟩, p, _, V.int n, rfl, rfl, hp0, by rw [List.length_append, List.getElem?_append_right (by simp)]; simp, ?_⟩
 rw [List.dropLast_concat]
 have M1 : Md p H (upd H p (.lst ((k0 :: n').map V.int))) := ⟨fun b o hb e => by rw [upd_ne hb]; exact e, k0, n', upd_same, by omega⟩
 have hp1 : (upd H p (.lst ((k0 :: n').map V.int))) p = some (.lst ((k0 :: n').map V.int)) := upd_same
 generalize upd H p (.lst ((k0 :: n').map V.int)) = H1 at M1 hp1 ⊢
 refine ⟨fun σ' H' => σ' = [some (.ref p), some (.int m), some (.int n)] ∧ Md p H H', ?_, ?_⟩
 rotate_left
 ·refine ⟨_, rfl, p, _, _, _, rfl, rfl, SqL.of hp1, atI_nat (j := 0) rfl, rfl, _, rfl, ?_⟩
  refine ite2 (fun _ => ?_) (fun _ => iteC rfl ⟨rfl, M1⟩)
  refine ⟨_, rfl, _, rfl, _, _, rfl, rfl, log_ok h0 h1, rfl, _, rfl, ?_⟩
  refine ite2 (fun _ => ?_) (fun _ => ⟨rfl, M1⟩)
  refine ⟨_, rfl, .inl ⟨rfl, _, SqL.of hp1⟩, _, rfl, _, rfl, _, _, rfl, rfl, log_ok h0 h1, ?_⟩
  refine ⟨p, _, _, rfl, rfl, hp1, (Nat.lt_of_lt_of_le (by rw [List.length_map, List.length_cons]; omega : ((k0 :: n').map V.int).length < 2000) (by decide : 2000 ≤ sizeLine)), rfl, ?_⟩
  refine ⟨fun b o hb e => by rw [upd_ne hb]; exact M1.1 b o hb e, k0, n' ++ [n / m], ?_, by rw [List.length_append]; exact hl'⟩
  rw [upd_same, ← List.cons_append, List.map_append]; rfl
 rintro σ' H2 ⟨rfl, M2⟩
 exact ⟨_, rfl, _, rfl, _, _, rfl, rfl, h0, k _ _ (Int.emod_nonneg _ (by omega)) (Int.emod_lt_of_pos _ h0) M2⟩
end
end HN
namespace HN
open PySem L2 PyProof.Rows
abbrev sSpanD : Stmt := top 41
section
variable {P : Program} {w : World} {K : PySem.W.Frag} {mg : Str → Option Value} {base : Heap}
theorem scSpanD : FnScope ["_law_deck", "_law_beat", "_law_many", "_law_hidden", "_law_kept", "_law_start", "_law_goal", "_law_width", "_law_least", "_law_weight"] ["_law_deck", "_law_beat", "_law_many", "_law_hidden", "_law_kept"] (defScope sSpanD) := ⟨rfl, rfl, rfl, by decide +kernel, rfl, by decide +kernel, by decide +kernel⟩
theorem ok_spanD {f f1 : Addr} {fd fd1 : FuncData} (F : Fun K "_law_span" "_law_span" sSpanD f fd) (T : Nm mg) (G1 : Fn K mg "_law_draw" sDrawD ["_law_deck", "_law_most"] f1 fd1) : FnOk P w K mg base CX0 2 f fd ["_law_deck", "_law_beat", "_law_many", "_law_hidden", "_law_kept"] spSpanD := by
 have F1 : FnOk P w K mg base CX0 1 f1 fd1 ["_law_deck", "_law_most"] spDrawD := ok_drawD G1.F T
 refine F.ok scSpanD (fun vs H Q E h => by obtain ⟨p, h, b, m, hs, k, rfl, _⟩ := h; rfl) (fun cdv A outer s H vs Q E hr h => ?_)
 obtain ⟨p, h, b, m, hs, kp, rfl, hp, hb1, hb2, hm1, hm2, hh, hlh, k⟩ := h
 refine ⟨_, PSl.h (l_cons ⟨(ps_set (i := 5) scSpanD.nd rfl (Or.inl rfl) (pc1 G1 F1 hr (pa_cons (pv 0) (pa_cons (pv 2) pa_nil))))⟩
  (l_cons ⟨(ps_set (i := 6) scSpanD.nd rfl (Or.inl rfl) (pe_op op_mod (pe_op op_add (pe_op op_add (pv 5) pe_int) (pc1 G1 F1 hr (pa_cons (pv 0) (pa_cons (pe_op op_sub (pv 2) pe_int) pa_nil)))) (pv 2)))⟩
  (l_cons ⟨(ps_set (i := 7) scSpanD.nd rfl (Or.inl rfl) (pe_callB (call_min2 rfl) rfl T.min boot_min (pa_cons (pe_op op_sub (pv 1) pe_int) (pa_cons (PEs.h (k_ix ix_list (k_lstF (a_cons k_int (a_cons ⟨pc1 G1 F1 hr (pa_cons (pv 0) (pa_cons pe_int pa_nil))⟩ (a_cons ⟨pc1 G1 F1 hr (pa_cons (pv 0) (pa_cons (pv 1) pa_nil))⟩ (a_cons (k_op op_sub ⟨pv 1⟩ k_int) a_nil))))) ⟨pc1 G1 F1 hr (pa_cons (pv 0) (pa_cons pe_int pa_nil))⟩ (fun _ _ => rfl))) pa_nil))))⟩
  (l_cons ⟨(ps_set (i := 8) scSpanD.nd rfl (Or.inl rfl) (pc1 G1 F1 hr (pa_cons (pv 0) (pa_cons (pv 1) pa_nil))))⟩
  (l_cons ⟨(ps_cutK (ps_if (pt_val (pv 4)) (pss_one (ps_set (i := 8) scSpanD.nd rfl (Or.inl rfl) (pe_op op_mod (pe_op op_sub (pe_op op_sub (pe_ix ix_tup (pv 3) (pv 6) (fun _ _ => rfl)) (pe_ix ix_tup (pv 3) (pv 5) (fun _ _ => rfl))) (pc1 G1 F1 hr (pa_cons (pv 0) (pa_cons (pe_op op_add (pv 7) pe_int) pa_nil)))) (pv 1)))) pss_nil))⟩
  (l_cons ⟨(ps_set (i := 8) scSpanD.nd rfl (Or.inl rfl) (pe_op op_add (pv 8) (pe_op op_mul (pv 1) (PEs.h (k_ix ix_list (k_lstF (a_cons k_int (a_cons k_int (a_cons k_int (a_cons ⟨pc1 G1 F1 hr (pa_cons (pv 0) (pa_cons (pe_op op_pow pe_int pe_int) pa_nil))⟩ a_nil))))) ⟨pc1 G1 F1 hr (pa_cons (pv 0) (pa_cons pe_int pa_nil))⟩ (fun _ _ => rfl))))))⟩
  (l_cons ⟨(ps_set (i := 9) scSpanD.nd rfl (Or.inl rfl) (PEs.h (k_ix ix_list (k_lstF (a_cons k_int (a_cons k_int (a_cons ⟨pc1 G1 F1 hr (pa_cons (pv 0) (pa_cons pe_int pa_nil))⟩ (a_cons ⟨pc1 G1 F1 hr (pa_cons (pv 0) (pa_cons (pe_op op_add (pe_op op_pow pe_int pe_int) pe_int) pa_nil))⟩ a_nil))))) ⟨pc1 G1 F1 hr (pa_cons (pv 0) (pa_cons pe_int pa_nil))⟩ (fun _ _ => rfl))))⟩
  (l_one ⟨(ps_ret (pe_tupA (pa_cons (pv 5) (pa_cons (pv 6) (pa_cons (pv 8) (pa_cons (pe_op op_add (pv 8) (pv 7)) (pa_cons (pv 9) pa_nil)))))))⟩)))))))), ?_⟩
 refine ⟨_, rfl, _, rfl, p, m, rfl, hp, by omega, by omega, fun r1 H1 a1 c1 M1 => ?_⟩
 refine ⟨_, rfl, _, _, rfl, rfl, _, rfl, _, rfl, _, _, rfl, rfl, p, _, rfl, M1.2, by omega, by omega, fun r2 H2 a2 c2 M2 => ?_⟩
 have M2 := M1.trans M2
 refine ⟨_, _, rfl, rfl, _, rfl, _, _, rfl, rfl, (by show (0 : Int) < m; omega), ?_⟩
 obtain ⟨g0, g1, g2⟩ := goal_ok a1 c1 a2 c2
 refine ⟨_, rfl, _, _, rfl, rfl, ?_⟩
 refine ⟨_, rfl, p, 4, rfl, M2.2, by decide, by decide, fun r7 H7 a7 c7 M7 => ?_⟩
 have M7 := M2.trans M7
 refine ⟨_, rfl, _, rfl, p, b, rfl, M7.2, by omega, by omega, fun r8 H8 a8 c8 M8 => ?_⟩
 have M8 := M7.trans M8
 refine ⟨_, rfl, _, _, rfl, rfl, (by show 4 ≤ sizeLine; decide), fun q9 hq9 => ?_⟩
 have nq9 := M8.2.ne hq9
 have S9 : Same H8 (upd H8 q9 (.lst [.int 0, .int r7, .int r8, .int (b - 1)])) := Same.put (Same.refl H8) hq9
 have h9 : (upd H8 q9 (.lst [.int 0, .int r7, .int r8, .int (b - 1)])) q9 = some (.lst [.int 0, .int r7, .int r8, .int (b - 1)]) := upd_same
 have M9 := M8.then S9
 refine ⟨_, rfl, p, 4, rfl, M9.2, by decide, by decide, fun rA HA aA cA MA => ?_⟩
 have hA := MA.at h9 nq9
 have MA := M9.trans MA
 clear M9 S9 h9
 obtain ⟨vA, eA, mA⟩ := atI_in (xs := [V.int 0, V.int r7, V.int r8, V.int (b - 1)]) aA cA
 obtain ⟨w0, rfl, w00⟩ : ∃ i, vA = V.int i ∧ 0 ≤ i := by
  simp only [List.mem_cons, List.not_mem_nil, or_false] at mA
  rcases mA with rfl | rfl | rfl | rfl
  ·exact ⟨_, rfl, by decide⟩
  ·exact ⟨_, rfl, a7⟩
  ·exact ⟨_, rfl, a8⟩
  ·exact ⟨_, rfl, by omega⟩
 refine ⟨q9, _, _, _, rfl, rfl, SqL.of hA, eA, _, _, rfl, ?_⟩
 obtain ⟨wd, hwd, wd0, wd1⟩ : ∃ wd, wd = (if w0 < b - 1 then w0 else b - 1) ∧ 0 ≤ wd ∧ wd < b := ⟨_, rfl, by split <;> omega, by split <;> omega⟩
 refine ⟨_, rfl, _, rfl, p, b, rfl, MA.2, by omega, by omega, fun rB HB aB cB MB => ?_⟩
 have MB := MA.trans MB
 show ∃ _, _
 rw [show (V.int (if w0 < b - 1 then w0 else b - 1)) = V.int wd from congrArg V.int hwd.symm]
 refine ⟨fun σ' H' => Md p H H' ∧ ∃ l, 0 ≤ l ∧ l < b ∧ σ' = [some (.ref p), some (.int b), some (.int m), some (.ref h), some (.bl kp), some (.int r1), some (.int ((r1 + 1 + r2) % m)), some (.int wd), some (.int l), none], ?_, ?_⟩
 rotate_left
 ·refine ⟨_, rfl, _, rfl, ?_⟩
  refine ite2 (fun _ => ?_) (fun _ => ⟨MB, rB, aB, cB, rfl⟩)
  have hhB : HB h = some (.tup (hs.map V.int)) := Md.tupK hp MB _ _ hh
  obtain ⟨vg, eg, mg'⟩ := atI_in (xs := hs.map V.int) (r := (r1 + 1 + r2) % m) g0 (by rw [List.length_map]; omega)
  obtain ⟨ig, _, rfl⟩ := List.mem_map.mp mg'
  obtain ⟨vs, es, ms⟩ := atI_in (xs := hs.map V.int) (r := r1) a1 (by rw [List.length_map]; omega)
  obtain ⟨is, _, rfl⟩ := List.mem_map.mp ms
  refine ⟨_, rfl, _, rfl, h, _, _, _, rfl, rfl, SqT.of hhB, eg, _, rfl, _, rfl, h, _, _, _, rfl, rfl, SqT.of hhB, es, _, _, rfl, rfl, _, rfl, _, rfl, _, _, rfl, rfl, p, _, rfl, MB.2, by omega, by omega, fun rC HC aC cC MC => ⟨_, _, rfl, rfl, _, rfl, _, _, rfl, rfl, (by show (0 : Int) < b; omega), ?_⟩⟩
  exact ⟨MB.trans MC, _, Int.emod_nonneg _ (by omega), Int.emod_lt_of_pos _ (by omega), rfl⟩
 rintro σ' HC ⟨MC, l, l0, l1, rfl⟩
 refine ⟨_, rfl, _, rfl, _, rfl, _, _, rfl, rfl, ⟨by decide, by decide, by decide⟩, p, _, rfl, MC.2, by decide, by decide, fun rD HD aD cD MD => ⟨(by show 4 ≤ sizeLine; decide), fun qE hqE => ?_⟩⟩
 have MD := MC.trans MD
 have cD : rD < 10 ^ 9 := cD
 have nqE := MD.2.ne hqE
 have SE : Same HD (upd HD qE (.lst [.int 0, .int 0, .int 1, .int rD])) := Same.put (Same.refl HD) hqE
 have hE : (upd HD qE (.lst [.int 0, .int 0, .int 1, .int rD])) qE = some (.lst [.int 0, .int 0, .int 1, .int rD]) := upd_same
 have ME := MD.then SE
 refine ⟨_, rfl, p, 4, rfl, ME.2, by decide, by decide, fun rF HF aF cF MF => ?_⟩
 have hF := MF.at hE nqE
 have MF := ME.trans MF
 clear ME SE hE
 obtain ⟨vF, eF, mF⟩ := atI_in (xs := [V.int 0, V.int 0, V.int 1, V.int rD]) aF cF
 obtain ⟨n, rfl, n0, n1⟩ : ∃ i, vF = V.int i ∧ 0 ≤ i ∧ i ≤ 10 ^ 9 := by
  simp only [List.mem_cons, List.not_mem_nil, or_false] at mF
  rcases mF with rfl | rfl | rfl | rfl
  ·exact ⟨_, rfl, by decide, by decide⟩
  ·exact ⟨_, rfl, by decide, by decide⟩
  ·exact ⟨_, rfl, by decide, by decide⟩
  ·exact ⟨_, rfl, by omega, by omega⟩
 refine ⟨qE, _, _, _, rfl, rfl, SqL.of hF, eF, _, _, rfl, rfl, .inr ⟨by omega, by omega⟩, _, _, rfl, rfl, ?_⟩
 have bn0 : 0 ≤ b * n := Int.mul_nonneg (by omega) n0
 have bn1 : b * n ≤ 10 ^ 33 * 10 ^ 9 := Int.mul_le_mul hb2 n1 n0 (by decide)
 refine ⟨_, rfl, p, 10, rfl, MF.2, by decide, by decide, fun rH HH aH cH MH => ?_⟩
 have MH := MF.trans MH
 refine ⟨_, rfl, _, _, rfl, rfl, ⟨by decide, by decide, by decide⟩, _, _, rfl, rfl, p, _, rfl, MH.2, by decide, by decide, fun rI HI aI cI MI => ⟨(by show 4 ≤ sizeLine; decide), fun qJ hqJ => ?_⟩⟩
 have MI := MH.trans MI
 have cI : rI < 10 ^ 12 + 1 := cI
 have nqJ := MI.2.ne hqJ
 have SJ : Same HI (upd HI qJ (.lst [.int 0, .int 1, .int rH, .int rI])) := Same.put (Same.refl HI) hqJ
 have hJ : (upd HI qJ (.lst [.int 0, .int 1, .int rH, .int rI])) qJ = some (.lst [.int 0, .int 1, .int rH, .int rI]) := upd_same
 have MJ := MI.then SJ
 refine ⟨_, rfl, p, 4, rfl, MJ.2, by decide, by decide, fun rK HK aK cK MK => ?_⟩
 have hK := MK.at hJ nqJ
 have MK := MJ.trans MK
 clear MJ SJ hJ
 obtain ⟨vK, eK, mK⟩ := atI_in (xs := [V.int 0, V.int 1, V.int rH, V.int rI]) aK cK
 obtain ⟨wt, rfl, t0, t1⟩ : ∃ i, vK = V.int i ∧ 0 ≤ i ∧ i ≤ 1000000000000 := by
  simp only [List.mem_cons, List.not_mem_nil, or_false] at mK
  rcases mK with rfl | rfl | rfl | rfl
  ·exact ⟨_, rfl, by decide, by decide⟩
  ·exact ⟨_, rfl, by decide, by decide⟩
  ·exact ⟨_, rfl, by omega, by omega⟩
  ·exact ⟨_, rfl, by omega, by omega⟩
 refine ⟨qJ, _, _, _, rfl, rfl, SqL.of hK, eK, ?_⟩
 refine ⟨_, rfl, _, rfl, _, rfl, _, rfl, _, rfl, _, _, rfl, rfl, _, rfl, (by show 5 ≤ sizeLine; decide), fun t HL SL hL => ?_⟩
 exact k t ⟨r1, (r1 + 1 + r2) % m, l + b * n, l + b * n + wd, wt⟩ HL (MK.then SL) hL ⟨a1, c1, g0, g1, g2, by show 0 ≤ l + b * n; omega, by show l + b * n ≤ l + b * n + wd; omega, by show l + b * n + wd < l + b * n + b; omega, by show l + b * n + wd < 10 ^ 60; omega, t0, t1⟩
end
end HN
namespace HN
open PySem L2 PyProof.Rows
abbrev sNetD : Stmt := top 42
section
variable {P : Program} {w : World} {K : PySem.W.Frag} {mg : Str → Option Value} {base : Heap}
theorem scNetD : FnScope ["_law_deck", "_law_most", "_law_beats_here", "_law_size", "_law_great", "_law_many", "_law_beat", "_law_hidden", "_law_kept", "_law_spans", "_law_k"] ["_law_deck", "_law_most", "_law_beats_here", "_law_size", "_law_great"] (defScope sNetD) := ⟨rfl, rfl, rfl, by decide +kernel, rfl, by decide +kernel, by decide +kernel⟩
theorem ok_netD {f f1 f2 : Addr} {fd fd1 fd2 : FuncData} (F : Fun K "_law_net" "_law_net" sNetD f fd) (T : Nm mg) (T2 : Nt mg) (G1 : Fn K mg "_law_draw" sDrawD ["_law_deck", "_law_most"] f1 fd1) (G2 : Fn K mg "_law_span" sSpanD ["_law_deck", "_law_beat", "_law_many", "_law_hidden", "_law_kept"] f2 fd2) : FnOk P w K mg base CX0 3 f fd ["_law_deck", "_law_most", "_law_beats_here", "_law_size", "_law_great"] spNetD := by
 have F1 : FnOk P w K mg base CX0 1 f1 fd1 ["_law_deck", "_law_most"] spDrawD := ok_drawD G1.F T
 have F2 : FnOk P w K mg base CX0 2 f2 fd2 ["_law_deck", "_law_beat", "_law_many", "_law_hidden", "_law_kept"] spSpanD := ok_spanD G2.F T G1
 refine F.ok scNetD (fun vs H Q E h => by obtain ⟨p, a, c, s, g, rfl, _⟩ := h; rfl) (fun cdv A outer s H vs Q E hr h => ?_)
 obtain ⟨p, a, c, s0, g, rfl, hp, a1, a2, c1, c2, s1, s2, g1, g2, k⟩ := h
 have hr1 : Room 1 _ := hr.mono (by decide)
 refine ⟨_, PSl.h (l_cons ⟨(ps_set (i := 5) scNetD.nd rfl (Or.inl rfl) (pe_op op_add pe_int (pc1 G1 F1 hr1 (pa_cons (pv 0) (pa_cons (pv 1) pa_nil)))))⟩
  (l_cons ⟨(ps_set (i := 6) scNetD.nd rfl (Or.inr rfl) (pe_op op_add pe_int (pc1 G1 F1 hr1 (pa_cons (pv 0) (pa_cons (pv 2) pa_nil)))))⟩
  (l_cons ⟨(ps_cutK (ps_if (pt_cmpR op_eq (pc1 G1 F1 hr1 (pa_cons (pv 0) (pa_cons pe_int pa_nil))) pe_int (nomark _)) (pss_one (ps_set (i := 6) scNetD.nd rfl (Or.inr rfl) (pe_op op_mul (pv 6) (pe_op op_add pe_int (pc1 G1 F1 hr1 (pa_cons (pv 0) (pa_cons (pv 4) pa_nil))))))) pss_nil))⟩
  (l_cons ⟨(ps_set (i := 7) scNetD.nd rfl (Or.inl rfl) (pe_callTy call_tupA rfl T.ttup boot_tuple (pa_cons (pe_comp (fr := ["_law_deck", "_law_beat"]) (js := [0, 6]) rfl (pi_range1 rfl T2.range (pa_cons (pv 5) pa_nil)) (by decide +kernel) rfl (by decide +kernel) rfl (by show ∀ y : Str × NameKind, y ∈ _ → y.2 = NameKind.free → List.lookup y.1 (defScope sNetD).names = some NameKind.cell; decide +kernel) (by decide +kernel) rfl (by decide +kernel) (fun _ _ _ _ _ => ⟨(pc1 G1 F1 hr1 (pa_cons (pv 1) (pa_cons (pv 2) pa_nil))), pts_nil⟩)) pa_nil)))⟩
  (l_cons ⟨(ps_set (i := 8) scNetD.nd rfl (Or.inl rfl) (pe_cmpR op_eq (pc1 G1 F1 hr1 (pa_cons (pv 0) (pa_cons pe_int pa_nil))) pe_int (nomark _)))⟩
  (l_cons ⟨(ps_set (i := 9) scNetD.nd rfl (Or.inl rfl) (pe_lst pa_nil))⟩
  (l_cons ⟨(ps_cutK (ps_if (pt_cmpR op_gt (pv 5) pe_int (nomark _)) (pss_one (ps_for PassesOwn.never rfl (pi_range1 rfl T2.range (pa_cons (pc1 G1 F1 hr1 (pa_cons (pv 0) (pa_cons (pe_op op_add (pv 3) pe_int) pa_nil))) pa_nil)) (pg_name (i := 10) scNetD.nd rfl (Or.inl rfl)) (pss_one (ps_expr (pe_bm PySem.F.plainAttrs_list PySem.F.slot_list_append PySem.F.type_list_append mt_append (pv 9) (pa_cons (pc1 G2 F2 hr (pa_cons (pv 0) (pa_cons (pv 6) (pa_cons (pv 5) (pa_cons (pv 7) (pa_cons (pv 8) pa_nil)))))) pa_nil)))))) pss_nil))⟩
  (l_one ⟨(ps_ret (pe_tupA (pa_cons (pe_tupA (pa_cons (pv 6) (pa_cons (pv 5) (pa_cons (pe_callTy call_tupA rfl T.ttup boot_tuple (pa_cons (pv 9) pa_nil)) pa_nil)))) (pa_cons (pv 7) pa_nil))))⟩)))))))), ?_⟩
 refine ⟨_, rfl, _, rfl, p, a, rfl, hp, by omega, by omega, fun r1 H1 r10 r11 M1 => ⟨_, _, rfl, rfl, ?_⟩⟩
 refine ⟨_, rfl, _, rfl, p, c, rfl, M1.2, by omega, by omega, fun r2 H2 r20 r21 M2 => ⟨_, _, rfl, rfl, ?_⟩⟩
 have M2 := M1.trans M2
 refine ⟨fun σ' H' => Md p H H' ∧ ∃ b, 1 ≤ b ∧ b ≤ 10 ^ 33 ∧ σ' = [some (.ref p), some (.int a), some (.int c), some (.int s0), some (.int g), some (.int (1 + r1)), some (.int b), none, none, none, none], ?_, ?_⟩
 rotate_left
 ·refine ⟨_, rfl, p, 5, rfl, M2.2, by decide, by decide, fun r3 H3 r30 r31 M3 => ⟨rfl, _, rfl, ?_⟩⟩
  have M3 := M2.trans M3
  refine ite2 (fun _ => ?_) (fun _ => ⟨M3, 1 + r2, by omega, by omega, rfl⟩)
  refine ⟨_, rfl, _, rfl, _, rfl, p, g, rfl, M3.2, by omega, by omega, fun r4 H4 r40 r41 M4 => ⟨_, _, rfl, rfl, _, _, rfl, rfl, .inl ⟨by omega, by omega⟩, ?_⟩⟩
  refine ⟨M3.trans M4, _, ?_, ?_, rfl⟩
  ·have : 1 * 1 ≤ (1 + r2) * (1 + r4) := Int.mul_le_mul (by omega) (by omega) (by decide) (by omega)
   omega
  ·have : (1 + r2) * (1 + r4) ≤ 100 * (10 ^ 30) := Int.mul_le_mul (by omega) (by omega) (by omega) (by decide)
   omega
 rintro σ' H3 ⟨M3, b, b1, b2, rfl⟩
 refine ⟨_, rfl, 1 + r1, rfl, by omega, by omega, ?_⟩
 refine comp_range (n := (1 + r1).toNat) (fun i zs H4 => Md p H H4 ∧ ∃ hs : List Int, zs = hs.map V.int ∧ hs.length = i ∧ ∀ x ∈ hs, 0 ≤ x ∧ x < b) ⟨M3, [], rfl, rfl, fun _ h => absurd h (by simp)⟩ (fun i zs H4 _ ⟨_, hs, e, hl, _⟩ => by rw [e, List.length_map, hl]; exact Nat.le_refl _) (small_le (by omega)) (fun i zs H4 hi ⟨M4, hs, e4, hl4, all4⟩ => ?_) (fun zs H4 ⟨M4, hs, e4, hl4, all4⟩ D hD => ?_)
 ·refine tNoIf_go ?_
  refine ⟨_, rfl, _, rfl, p, b, rfl, M4.2, by omega, by omega, fun r5 H5 r50 r51 M5 => ⟨M4.trans M5, hs ++ [r5], by rw [e4, List.map_append]; rfl, by rw [List.length_append, hl4]; rfl, fun x hx => ?_⟩⟩
  rcases List.mem_append.mp hx with hx | hx
  ·exact all4 x hx
  ·rw [List.mem_singleton.mp hx]; exact ⟨r50, r51⟩
 subst e4
 have S5 := Same.put (o := .lst (hs.map V.int)) (Same.refl H4) hD
 have hD5 : (upd H4 D (.lst (hs.map V.int))) D = some (.lst (hs.map V.int)) := upd_same
 generalize upd H4 D (.lst (hs.map V.int)) = H5 at S5 hD5 ⊢
 refine ⟨D, _, rfl, SqL.of hD5, fun h H6 S6 h6 => ?_⟩
 have M6 := M4.then (S5.trans S6)
 clear S5 S6 hD5 hD M4
 have hlh : (hs.length : Int) = 1 + r1 := by omega
 refine ⟨_, rfl, p, 2, rfl, M6.2, by decide, by decide, fun r7 H7 _ _ M7 => ⟨rfl, ?_⟩⟩
 have h7 := Md.tupK M6.2 M7 _ _ h6
 have M7 := M6.trans M7
 clear M6 h6
 obtain ⟨kp, hkp⟩ : ∃ kp : Bool, kp = decide (V.int r7 = V.int 1) := ⟨_, rfl⟩
 refine ⟨Nat.zero_le _, fun Ls hLs => ?_⟩
 have hLsp := M7.2.ne hLs
 have hLsH : H Ls = none := by
  cases z : H Ls with
  | none => rfl
  | some o => rw [M7.1 Ls o hLsp z] at hLs; cases hLs
 have S8 : Same H7 (upd H7 Ls (.lst [])) := Same.put (Same.refl H7) hLs
 have hLs8 : (upd H7 Ls (.lst [])) Ls = some (.lst []) := upd_same
 generalize upd H7 Ls (.lst []) = H8 at S8 hLs8 ⊢
 have M8 := M7.then S8
 have h8 := S8 _ _ h7
 clear M7 h7 S8
 refine ⟨fun σ' H' => Md p H H' ∧ H' h = some (.tup (hs.map V.int)) ∧ ∃ (v8 vk : Option V) (zs : List V) (sp : List Sn), σ' = [some (.ref p), some (.int a), some (.int c), some (.int s0), some (.int g), some (.int (1 + r1)), some (.int b), some (.ref h), v8, some (.ref Ls), vk] ∧ H' Ls = some (.lst zs) ∧ IsDs H' zs (rowsD Sn.row sp) ∧ sp.length ≤ 40 ∧ ∀ z ∈ sp, SnOk b (1 + r1) z, ?_, ?_⟩
 rotate_left
 ·refine ⟨_, rfl, _, _, rfl, rfl, _, rfl, ?_⟩
  refine ite2 (fun hm => ?_) (fun _ => ⟨M8, h8, _, none, [], [], rfl, hLs8, .nil, by simp, fun _ h => absurd h (by simp)⟩)
  have hm : 1 + r1 > 1 := of_decide_eq_true hm
  refine ⟨_, rfl, _, rfl, _, _, rfl, rfl, p, _, rfl, M8.2, by omega, by omega, fun r9 H9 r90 r91 M9 => ⟨r9, rfl, by omega, by omega, ?_⟩⟩
  have h9 := Md.tupK M8.2 M9 _ _ h8
  have hLs9 := M9.at hLs8 hLsp
  have M9 := M8.trans M9
  refine for_range (n := r9.toNat) (fun i σ H' => Md p H H' ∧ H' h = some (.tup (hs.map V.int)) ∧ ∃ (vk : Option V) (zs : List V) (sp : List Sn), σ = [some (.ref p), some (.int a), some (.int c), some (.int s0), some (.int g), some (.int (1 + r1)), some (.int b), some (.ref h), some (.bl (decide (V.int r7 = V.int 1))), some (.ref Ls), vk] ∧ H' Ls = some (.lst zs) ∧ IsDs H' zs (rowsD Sn.row sp) ∧ sp.length = i ∧ ∀ z ∈ sp, SnOk b (1 + r1) z) ⟨M9, h9, none, [], [], rfl, hLs9, .nil, rfl, fun _ h => absurd h (by simp)⟩ ?_ ?_
  ·rintro i σ HA hi ⟨MA, hA, vk, zs, sp, rfl, hLsA, dA, lA, allA⟩
   refine ⟨_, rfl, .inl ⟨rfl, _, SqL.of hLsA⟩, _, rfl, _, rfl, _, rfl, _, rfl, _, rfl, p, h, b, 1 + r1, hs, _, rfl, MA.2, b1, b2, by omega, by omega, hA, hlh, fun t z HB MB hB okB => ?_⟩
   have KB := Md.tupK MA.2 MB
   have hLsB := MB.at hLsA hLsp
   have MB := MA.trans MB
   have lz : zs.length = sp.length := by rw [dA.length, List.length_map]
   refine ⟨Ls, zs, _, rfl, rfl, hLsB, (Nat.lt_of_lt_of_le (by omega : zs.length < 1000) (by decide : 1000 ≤ sizeLine)), ?_⟩
   have KC : TupK HB (upd HB Ls (.lst (zs ++ [.ref t]))) := tupK_upd hLsB
   refine ⟨⟨fun q o hq e => ?_, ?_⟩, KC _ _ (KB _ _ hA), _, zs ++ [.ref t], sp ++ [z], rfl, upd_same, ?_, by rw [List.length_append, lA]; rfl, fun z' hz' => ?_⟩
   ·rw [upd_ne (fun z => by rw [z, hLsH] at e; cases e)]
    exact MB.1 q o hq e
   ·obtain ⟨k1, n1, e1, e2⟩ := MB.2
    exact ⟨k1, n1, by rw [upd_ne hLsp.symm]; exact e1, e2⟩
   ·unfold rowsD
    rw [List.map_append]
    exact (rows_keep (KB.trans KC) dA).append (.cons (.tup (KC _ _ hB) (IsDs.ints z.row)) .nil)
   ·rcases List.mem_append.mp hz' with hz' | hz'
    ·exact allA z' hz'
    ·rw [List.mem_singleton.mp hz']; exact okB
  ·rintro σ HA ⟨MA, hA, vk, zs, sp, rfl, hLsA, dA, lA, allA⟩
   exact ⟨MA, hA, _, vk, zs, sp, rfl, hLsA, dA, by omega, allA⟩
 rintro σ' HA ⟨MA, hA, v8, vk, zs, sp, rfl, hLsA, dA, lA, allA⟩
 refine ⟨_, rfl, _, rfl, _, rfl, Ls, _, rfl, SqL.of hLsA, fun qB HB SB hB => ⟨(by show 3 ≤ sizeLine; decide), fun tC HC SC hC => ⟨_, rfl, (by show 2 ≤ sizeLine; decide), fun tD HD SD hD' => ?_⟩⟩⟩
 have SBD := SB.trans (SC.trans SD)
 exact k tD (.ref tC) h b (1 + r1) sp hs HD (MA.then SBD) hD' (.tup (SD _ _ hC) (.cons (.int b) (.cons (.int _) (.cons (.tup (SD _ _ (SC _ _ hB)) (dA.same SBD)) .nil)))) ⟨b1, by omega, by omega, by omega, lA, allA⟩ b2 (SBD _ _ hA) hlh all4
end
end HN
namespace HN
open PySem L2 PyProof.Rows
abbrev sLeadsD : Stmt := top 43
section
variable {P : Program} {w : World} {K : PySem.W.Frag} {mg : Str → Option Value} {base : Heap}
theorem scLeadsD : FnScope ["_law_net_here", "_law_step", "_law_start", "_law_goal"] ["_law_net_here", "_law_step"] (defScope sLeadsD) := ⟨rfl, rfl, rfl, by decide +kernel, rfl, by decide +kernel, by decide +kernel⟩
theorem ok_leadsD {f : Addr} {fd : FuncData} (F : Fun K "_law_leads" "_law_leads" sLeadsD f fd) (T : Nm mg) : FnOk P w K mg base CX0 1 f fd ["_law_net_here", "_law_step"] spLeads := by
 refine F.ok scLeadsD (fun vs H Q E h => by obtain ⟨v, q, b, m, sp, s, x, rfl, _⟩ := h; rfl) (fun cdv A outer s H vs Q E hr h => ?_)
 obtain ⟨v, q, b, m, sp, st, x, rfl, hv, hq, hx, hd, k⟩ := h
 obtain ⟨t, p, ys, rfl, ht, hp, hl, hy⟩ := netP_of hv
 obtain ⟨qx, hqx, hqx2⟩ := hy st.i x hx
 refine ⟨_, PSl.h (l_cons ⟨(ps_asg (pe_slice sl_tupN (pe_ix ix_tup (pe_ix ix_tup (pv 0) pe_int (fun _ _ => rfl)) (pe_ix ix_tup (pv 1) pe_int (fun _ _ => rfl)) (fun _ _ => rfl)) po_none (po_some pe_int)) (pg_tup rfl (pgs_cons (pg_name (i := 2) scLeadsD.nd rfl (Or.inl rfl)) (pgs_cons (pg_name (i := 3) scLeadsD.nd rfl (Or.inl rfl)) pgs_nil))))⟩
  (l_one ⟨(ps_ret (PEs.h (k_ix ix_list (k_lst (a_cons (k_tup (a_cons ⟨pv 2⟩ (a_cons ⟨pv 3⟩ a_nil))) (a_cons (k_tup (a_cons ⟨pv 3⟩ (a_cons ⟨pv 2⟩ a_nil))) a_nil))) ⟨pe_callTy call_int1 rfl T.tint boot_int (pa_cons (pe_cmpR op_eq (pe_ix ix_tup (pv 1) pe_int (fun _ _ => rfl)) (pe_un un_neg pe_int) (nomark _)) pa_nil)⟩ (fun _ _ => rfl))))⟩)), ?_⟩
 refine ⟨_, rfl, t, _, _, _, rfl, rfl, SqT.of ht, atI_nat (j := 2) rfl, _, rfl, q, _, _, _, rfl, rfl, SqT.of hq, atI_nat (j := 0) rfl, p, _, _, _, rfl, rfl, SqT.of hp, atI_nat (j := st.i) hqx, _, rfl, qx, _, rfl, hqx2, fun p1 H1 S1 h1 => ?_⟩
 have h1 : H1 p1 = some (.tup [.int x.s, .int x.g]) := h1
 refine ⟨p1, _, rfl, SqT.of h1, rfl, _, _, rfl, _, _, rfl, rfl, ?_⟩
 refine ⟨_, rfl, _, rfl, (by show 2 ≤ sizeLine; decide), fun q2 H2 S2 h2 => ⟨_, rfl, _, rfl, (by show 2 ≤ sizeLine; decide), fun q3 H3 S3 h3 => ⟨(by show 2 ≤ sizeLine; decide), fun qL H4 S4 h4 => ?_⟩⟩⟩
 have S14 := S2.trans (S3.trans S4)
 refine ⟨_, rfl, q, _, _, _, rfl, rfl, SqT.of (S14 _ _ (S1 _ _ hq)), atI_nat (j := 1) rfl, _, rfl, rfl, .inr ⟨_, rfl, ?_⟩⟩
 rcases hd with e | e
 ·have e2 : decide (V.int st.d = V.int (-1)) = false := decide_eq_false (fun z => by injection z with z; omega)
  refine ⟨qL, _, _, _, rfl, rfl, SqL.of h4, (show atI [V.ref q2, V.ref q3] (if decide (V.int st.d = V.int (-1)) = true then 1 else 0) = some (V.ref q2) by rw [e2]; rfl), k q2 H4 (S1.trans S14) ?_⟩
  rw [S4 _ _ (S3 _ _ h2)]
  unfold frm too
  rw [if_pos e, if_pos e]
 ·have e2 : decide (V.int st.d = V.int (-1)) = true := decide_eq_true (by rw [e])
  refine ⟨qL, _, _, _, rfl, rfl, SqL.of h4, (show atI [V.ref q2, V.ref q3] (if decide (V.int st.d = V.int (-1)) = true then 1 else 0) = some (V.ref q3) by rw [e2]; rfl), k q3 H4 (S1.trans S14) ?_⟩
  rw [S4 _ _ h3]
  unfold frm too
  rw [if_neg (by omega), if_neg (by omega)]
end
end HN
namespace HN
open PySem L2 PyProof.Rows
abbrev sBackD : Stmt := top 44
def KnK (kvs : List (Key × V)) (x : Int) : Prop := valV kvs (.inl x) ≠ none
theorem KnK.put {kvs : List (Key × V)} {x y : Int} {w : V} (h : KnK kvs x) : KnK (putK kvs (.inl y) w) x := by
 unfold KnK
 rw [valV_put]
 split
 ·intro z; cases z
 ·exact h
def cntK (kvs : List (Key × V)) : Nat := (List.range 16).countP fun x => (valV kvs (.inl (x : Nat))).isNone
theorem count_lt {α : Type} {P Q : α → Bool} : ∀ {l : List α}, (∀ x ∈ l, Q x = true → P x = true) → ∀ {a : α}, a ∈ l → P a = true → Q a = false → l.countP Q < l.countP P
 | [], _, _, h, _, _ => absurd h (by simp)
 | x :: l, hPQ, a, h, hP, hQ => by
  have le : l.countP Q ≤ l.countP P := List.countP_mono_left fun y hy => hPQ y (List.mem_cons_of_mem _ hy)
  rw [List.countP_cons, List.countP_cons]
  rcases List.mem_cons.mp h with rfl | h
  ·rw [hP, hQ]; simp; omega
  ·have ih := count_lt (P := P) (Q := Q) (l := l) (fun y hy => hPQ y (List.mem_cons_of_mem _ hy)) h hP hQ
   have := hPQ x (by simp)
   cases q : Q x with
   | true => rw [this q]; simp; omega
   | false => simp; omega
structure JJ (H Hc : Hp) (p Da Lt : Addr) (sp : List Sn) (be ou : Int) (kvs : List (Key × V)) (td : List Int) : Prop where
 md : Md p H Hc
 da : Hc Da = some (.dK kvs)
 lt : Hc Lt = some (.lst (td.map V.int))
 ok : ∀ (x : Int) w, valV kvs (.inl x) = some w → ∃ ws, IsD Hc w (wayP ws) ∧ Bk sp be ou x ws ∧ ws.length < kvs.length ∧ ∀ s ∈ ws, KnK kvs (frmS sp s) ∧ KnK kvs (tooS sp s)
 cn : kvs.length + cntK kvs ≤ 17
 tk : ∀ x ∈ td, ∃ w, valV kvs (.inl x) = some w
theorem JJ.same {H Hc Hc' : Hp} {p Da Lt : Addr} {sp : List Sn} {be ou : Int} {kvs : List (Key × V)} {td : List Int} (j : JJ H Hc p Da Lt sp be ou kvs td) (e : Same Hc Hc') : JJ H Hc' p Da Lt sp be ou kvs td :=
 ⟨j.md.then e, e _ _ j.da, e _ _ j.lt, fun x w h => let ⟨ws, a, b⟩ := j.ok x w h; ⟨ws, a.same e, b⟩, j.cn, j.tk⟩
theorem wayP_keep {H H' : Hp} {v : V} {ws : List Stp} (e : TupK H H') (h : IsD H v (wayP ws)) : IsD H' v (wayP ws) := by
 obtain ⟨p, ys, rfl, hp, _, r⟩ := rows_of h
 exact .tup (e _ _ hp) (rows_keep e r)
theorem cnt_put {kvs : List (Key × V)} {x : Int} {w : V} (h : valV kvs (.inl x) = none) (h0 : 0 ≤ x) (h1 : x < 16) : cntK (putK kvs (.inl x) w) < cntK kvs := by
 unfold cntK
 obtain ⟨n, rfl⟩ := Int.eq_ofNat_of_zero_le h0
 refine count_lt (a := n) (fun y _ hy => ?_) (List.mem_range.mpr (by omega)) ?_ ?_
 ·rw [valV_put] at hy
  split at hy
  ·cases hy
  ·exact hy
 ·show (valV kvs (.inl ((n : Nat) : Int))).isNone = true
  rw [h]; rfl
 ·show (valV (putK kvs (.inl ((n : Nat) : Int)) w) (.inl ((n : Nat) : Int))).isNone = false
  rw [valV_put, if_pos rfl]; rfl
theorem JJ.draw {H Hc Hc' : Hp} {p Da Lt : Addr} {sp : List Sn} {be ou : Int} {kvs : List (Key × V)} {td : List Int} (j : JJ H Hc p Da Lt sp be ou kvs td) (M : Md p Hc Hc') (h1 : Da ≠ p) (h2 : Lt ≠ p) : JJ H Hc' p Da Lt sp be ou kvs td :=
 ⟨j.md.trans M, M.at j.da h1, M.at j.lt h2, fun x w h => let ⟨ws, a, b⟩ := j.ok x w h; ⟨ws, wayP_keep (Md.tupK j.md.2 M) a, b⟩, j.cn, j.tk⟩
theorem netP_keep {H H' : Hp} {v : V} {b m : Int} {sp : List Sn} (e : TupK H H') (h : IsD H v (netP b m sp)) : IsD H' v (netP b m sp) := by
 obtain ⟨t, xs, rfl, ht, rx⟩ := h.tup_of
 cases rx with
 | cons h0 r0 =>
  cases r0 with
  | cons h1 r1 =>
   cases r1 with
   | cons h2 r2 =>
    cases r2
    cases h0
    cases h1
    obtain ⟨q, ys, rfl, hq, ry⟩ := h2.tup_of
    exact .tup (e _ _ ht) (.cons (.int b) (.cons (.int m) (.cons (.tup (e _ _ hq) (rows_keep e ry)) .nil)))
theorem cut_upto' {xs : List V} {i : Int} {n : Nat} (hi : i = (n : Int)) : cutV xs none (some i) = xs.take n := by
 unfold cutV
 subst hi
 have e := HT.sIx_nat xs.length xs.length n
 rw [e]
 show (xs.drop 0).take (min n xs.length - 0) = xs.take n
 rw [List.drop_zero, Nat.sub_zero]
 by_cases h : n ≤ xs.length
 ·rw [Nat.min_eq_left h]
 ·rw [Nat.min_eq_right (by omega), List.take_length, List.take_of_length_le (by omega)]
theorem cut_from' {xs : List V} {i : Int} {n : Nat} (hi : i = (n : Int)) : cutV xs (some i) none = xs.drop n := by
 unfold cutV
 subst hi
 have e := HT.sIx_nat xs.length 0 n
 rw [e]
 show (xs.drop (min n xs.length)).take (xs.length - min n xs.length) = xs.drop n
 by_cases h : n ≤ xs.length
 ·rw [Nat.min_eq_left h, List.take_of_length_le (by rw [List.length_drop]; omega)]
 ·rw [Nat.min_eq_right (by omega), List.drop_length, List.drop_of_length_le (by omega), List.take_nil]
theorem JJ.upL {H Hc : Hp} {p Da Lt : Addr} {sp : List Sn} {be ou : Int} {kvs : List (Key × V)} {td td' : List Int} (j : JJ H Hc p Da Lt sp be ou kvs td) (hL : H Lt = none) (h1 : Da ≠ Lt) (h2 : Lt ≠ p) (h : ∀ x ∈ td', ∃ w, valV kvs (.inl x) = some w) : JJ H (upd Hc Lt (.lst (td'.map V.int))) p Da Lt sp be ou kvs td' := by
 refine ⟨⟨fun c o hc e => ?_, ?_⟩, by rw [upd_ne h1]; exact j.da, upd_same, fun x w h => let ⟨ws, a, b⟩ := j.ok x w h; ⟨ws, wayP_keep (tupK_upd j.lt) a, b⟩, j.cn, h⟩
 ·rw [upd_ne (fun z => by rw [z, hL] at e; cases e)]; exact j.md.1 c o hc e
 ·obtain ⟨k1, n1, e1, e2⟩ := j.md.2
  exact ⟨k1, n1, by rw [upd_ne h2.symm]; exact e1, e2⟩
theorem JJ.upD {H Hc : Hp} {p Da Lt : Addr} {sp : List Sn} {be ou : Int} {kvs : List (Key × V)} {td : List Int} {x : Int} {w : V} {ws : List Stp} (j : JJ H Hc p Da Lt sp be ou kvs td) (hD : H Da = none) (h1 : Da ≠ Lt) (h2 : Da ≠ p) (hx : valV kvs (.inl x) = none) (x0 : 0 ≤ x) (x1 : x < 16) (hw : IsD Hc w (wayP ws)) (hin : Bk sp be ou x ws) (hl : ws.length < kvs.length + 1) (hkn : ∀ s ∈ ws, KnK (putK kvs (.inl x) w) (frmS sp s) ∧ KnK (putK kvs (.inl x) w) (tooS sp s)) :
  JJ H (upd Hc Da (.dK (putK kvs (.inl x) w))) p Da Lt sp be ou (putK kvs (.inl x) w) td := by
 have K : TupK Hc (upd Hc Da (.dK (putK kvs (.inl x) w))) := fun q xs h => by rw [upd_ne (ne_of h j.da (by intro z; cases z))]; exact h
 have len : (putK kvs (.inl x) w).length = kvs.length + 1 := by rw [putK_new w hx, List.length_append]; rfl
 refine ⟨⟨fun c o hc e => ?_, ?_⟩, upd_same, by rw [upd_ne h1.symm]; exact j.lt, fun y v h => ?_, ?_, fun y hy => ?_⟩
 ·rw [upd_ne (fun z => by rw [z, hD] at e; cases e)]; exact j.md.1 c o hc e
 ·obtain ⟨k1, n1, e1, e2⟩ := j.md.2
  exact ⟨k1, n1, by rw [upd_ne h2.symm]; exact e1, e2⟩
 ·rw [valV_put] at h
  split at h
  ·rename_i e0
   injection e0 with e0
   subst e0
   cases h; exact ⟨ws, wayP_keep K hw, hin, by rw [len]; exact hl, hkn⟩
  ·obtain ⟨ws', a, b, c, d⟩ := j.ok y v h
   exact ⟨ws', wayP_keep K a, b, by rw [len]; omega, fun s hs => ⟨(d s hs).1.put, (d s hs).2.put⟩⟩
 ·have := cnt_put (w := w) hx x0 x1
  have := j.cn
  rw [len]; omega
 ·obtain ⟨v, hv⟩ := j.tk y hy
  rw [valV_put]
  split
  ·exact ⟨_, rfl⟩
  ·exact ⟨v, hv⟩
def spBack : Sp := fun vs H Q _ => ∃ (p : Addr) (v : V) (b m be en ou : Int) (sp : List Sn), vs = [.ref p, v, .int be, .int en, .int ou] ∧ Dk p H ∧ IsD H v (netP b m sp) ∧ NetT b m sp ∧ 0 ≤ be ∧ be < m ∧
 ∀ u H', Md p H H' → (u = .non ∨ ∃ ws, IsD H' u (wayP ws) ∧ Bk sp be ou en ws ∧ ws.length ≤ 16) → Q u H'
section
variable {P : Program} {w : World} {K : PySem.W.Frag} {mg : Str → Option Value} {base : Heap}
theorem scBackD : FnScope ["_law_deck", "_law_net_here", "_law_begin", "_law_end", "_law_out", "_law_ways", "_law_todo", "_law_turn", "_law_order", "_law_here", "_law_k", "_law_way", "_law_there"] ["_law_deck", "_law_net_here", "_law_begin", "_law_end", "_law_out"] (defScope sBackD) := ⟨rfl, rfl, rfl, by decide +kernel, rfl, by decide +kernel, by decide +kernel⟩
theorem ok_backD {f f1 f2 : Addr} {fd fd1 fd2 : FuncData} (F : Fun K "_law_back" "_law_back" sBackD f fd) (T : Nm mg) (T2 : Nt mg) (G1 : Fn K mg "_law_draw" sDrawD ["_law_deck", "_law_most"] f1 fd1) (G2 : Fn K mg "_law_leads" sLeadsD ["_law_net_here", "_law_step"] f2 fd2) : FnOk P w K mg base CX0 2 f fd ["_law_deck", "_law_net_here", "_law_begin", "_law_end", "_law_out"] spBack := by
 have F1 : FnOk P w K mg base CX0 1 f1 fd1 ["_law_deck", "_law_most"] spDrawD := ok_drawD G1.F T
 have F2 : FnOk P w K mg base CX0 1 f2 fd2 ["_law_net_here", "_law_step"] spLeads := ok_leadsD G2.F T
 refine F.ok scBackD (fun vs H Q E h => by obtain ⟨p, v, b, m, be, en, ou, sp, rfl, _⟩ := h; rfl) (fun cdv A outer s H vs Q E hr h => ?_)
 obtain ⟨p, v, b, m, be, en, ou, sp, rfl, hp, hv, N, be0, be1, k⟩ := h
 have u1 := Nat.lt_of_le_of_lt (Nat.add_le_add_left (by decide : 1 ≤ 64) _) hr.units
 refine ⟨_, PSl.h (l_cons ⟨(ps_set (i := 5) scBackD.nd rfl (Or.inl rfl) (pe_disp (pps_cons (pv 2) (pe_tupA pa_nil) pps_nil) rfl rfl (by decide) (by decide)))⟩
  (l_cons ⟨(ps_set (i := 6) scBackD.nd rfl (Or.inl rfl) (pe_lst (pa_cons (pv 2) pa_nil)))⟩
  (l_cons ⟨(ps_set (i := 7) scBackD.nd rfl (Or.inl rfl) (pc1 G1 F1 hr (pa_cons (pv 0) (pa_cons (pe_op op_add (pe_callB call_len_seq rfl T.len PySem.boot_len (pa_cons (pe_ix ix_tup (pv 1) pe_int (fun _ _ => rfl)) pa_nil)) pe_int) pa_nil))))⟩
  (l_cons ⟨(ps_set (i := 8) scBackD.nd rfl (Or.inl rfl) (pe_callTy (call_listR rfl) rfl T2.tlist boot_list (pa_cons (pe_callTy call_rng1 rfl T2.range boot_range (pa_cons (pe_callB call_len_seq rfl T.len PySem.boot_len (pa_cons (pe_ix ix_tup (pv 1) pe_int (fun _ _ => rfl)) pa_nil)) pa_nil)) pa_nil)))⟩
  (l_cons ⟨(ps_while PassesOwn.never (pt_cmpR (op_neL0 hr.units0) (pv 6) (pe_lstA pa_nil) (nomark _)) (PSl.h (l_cons ⟨(ps_set (i := 9) scBackD.nd rfl (Or.inl rfl) (pe_bm PySem.F.plainAttrs_list PySem.F.slot_list_pop PySem.F.type_list_pop mt_popAt (pv 6) (pa_cons pe_int pa_nil)))⟩
  (l_one ⟨(ps_for PassesOwn.never rfl (pi_list (pe_op op_cat (pe_slice sl_listA (pv 8) (po_some (pv 7)) po_none) (pe_slice sl_listA (pv 8) po_none (po_some (pv 7))))) (pg_name (i := 10) scBackD.nd rfl (Or.inl rfl)) (pss_one (PSt.h (st_forL PassesOwn.never rfl (i_list (k_lstF (a_cons k_int (a_cons ⟨pe_un un_neg pe_int⟩ a_nil)))) (pg_name (i := 11) scBackD.nd rfl (Or.inl rfl)) (PSl.h (l_cons ⟨(ps_set (i := 12) scBackD.nd rfl (Or.inl rfl) (pc1 G2 F2 hr (pa_cons (pv 1) (pa_cons (pe_tupA (pa_cons (pv 10) (pa_cons (pv 11) pa_nil))) pa_nil))))⟩
  (l_one ⟨(ps_cutK (ps_if (PW.pt (pw_and (pt_cmpR op_eq (pe_ix ix_tup (pv 12) pe_int (fun _ _ => rfl)) (pv 9) (nomark _)) (pw_and (pt_cmp (pc_dnotin u1 (pe_ix ix_tup (pv 12) pe_int (fun _ _ => rfl)) (pv 5)) rfl) (pw_and1 (pt_cmpR op_ne (pv 10) (pv 4) (nomark _)))))) (PSl.h (l_cons ⟨(ps_dput u1 (pv 5) (pe_ix ix_tup (pv 12) pe_int (fun _ _ => rfl)) (pe_op op_catA (pe_dget u1 (pv 5) (pv 9) (fun _ _ => rfl)) (pe_tupA (pa_cons (pe_tupA (pa_cons (pv 10) (pa_cons (pv 11) pa_nil))) pa_nil))) rfl)⟩
  (l_one ⟨(ps_expr (pe_bm PySem.F.plainAttrs_list PySem.F.slot_list_append PySem.F.type_list_append mt_append (pv 6) (pa_cons (pe_ix ix_tup (pv 12) pe_int (fun _ _ => rfl)) pa_nil)))⟩))) pss_nil))⟩)))))))⟩))))⟩
  (l_one ⟨(ps_ret (pe_dget1 u1 (pv 5) (pv 3) ⟨rfl, rfl, rfl, rfl⟩))⟩)))))), ?_⟩
 obtain ⟨t, pn, ys, rfl, ht, hpn, hl, hy⟩ := netP_of hv
 have few := N.few
 have hm16 := N.m2
 intro Da hDa
 refine ⟨_, rfl, Nat.zero_le _, fun q1 H1 S1 h1 => ⟨S1 _ _ upd_same, [(.inl be, .ref q1)], rfl, (by show 1 ≤ 15; decide), ?_⟩⟩
 have S0 : Same H (upd H Da (.dK [])) := Same.put (Same.refl H) hDa
 have nDa := hp.ne hDa
 have hDa1 : H1 Da = some (.dK []) := S1 _ _ upd_same
 have hDa2 : (upd H1 Da (.dK (mergeK [] [(.inl be, .ref q1)]))) Da = some (.dK [(.inl be, .ref q1)]) := upd_same
 have E2 : ∀ b o, H b = some o → (upd H1 Da (.dK (mergeK [] [(.inl be, .ref q1)]))) b = some o := fun b o e => by
  rw [upd_ne (fun z => by rw [z, hDa] at e; cases e)]
  exact S1 _ _ (S0 _ _ e)
 have hq1 : (upd H1 Da (.dK (mergeK [] [(.inl be, .ref q1)]))) q1 = some (.tup []) := by
  rw [upd_ne (ne_of h1 hDa1 (by intro z; cases z))]; exact h1
 generalize upd H1 Da (.dK (mergeK [] [(.inl be, .ref q1)])) = H2 at hDa2 E2 hq1 ⊢
 clear hDa1 S0 S1 h1
 have S2 : Same H H2 := E2
 refine ⟨_, rfl, (by show 1 ≤ sizeLine; decide), fun Lt hLt => ?_⟩
 have nLt : Lt ≠ p := (hp.same S2).ne hLt
 have nDL : Da ≠ Lt := fun z => by rw [z, hLt] at hDa2; cases hDa2
 have S3 : Same H2 (upd H2 Lt (.lst [.int be])) := Same.put (Same.refl H2) hLt
 have hLt3 : (upd H2 Lt (.lst [.int be])) Lt = some (.lst [.int be]) := upd_same
 have hLtH : H Lt = none := by
  cases z : H Lt with
  | none => rfl
  | some o => rw [S2 _ _ z] at hLt; cases hLt
 generalize upd H2 Lt (.lst [.int be]) = H3 at S3 hLt3 ⊢
 have J3 : JJ H H3 p Da Lt sp be ou [(.inl be, .ref q1)] [be] := by
  refine ⟨(Md.refl hp).then (S2.trans S3), S3 _ _ hDa2, hLt3, fun x w h => ?_, ?_, fun x hx => ?_⟩
  ·by_cases e : (Sum.inl be : Key) = .inl x
   ·rw [valV_pos e] at h
    cases h
    injection e with e
    exact ⟨[], .tup (S3 _ _ hq1) .nil, ⟨fun _ h => absurd h (by simp), e, List.nodup_nil, fun _ h => absurd h (by simp)⟩, by simp, fun _ h => absurd h (by simp)⟩
   ·rw [valV_neg e] at h; cases h
  ·have : cntK [(.inl be, .ref q1)] ≤ 16 := by
    unfold cntK
    have := List.countP_le_length (p := fun x : Nat => (valV [((.inl be : Key), V.ref q1)] (.inl (x : Int))).isNone) (l := List.range 16)
    rw [List.length_range] at this
    exact this
   show 1 + _ ≤ 17
   omega
  ·rw [List.mem_singleton.mp hx]; exact ⟨_, valV_pos rfl⟩
 have hv3 := hv.same (S2.trans S3)
 have ht3 : H3 t = some (.tup [.int b, .int m, .ref pn]) := S3 _ _ (S2 _ _ ht)
 have hpn3 := S3 _ _ (S2 _ _ hpn)
 clear hLt hDa2 hLt3 hq1 E2
 refine ⟨_, rfl, _, rfl, t, _, _, _, rfl, rfl, SqT.of ht3, atI_nat (j := 2) rfl, pn, _, rfl, .inr (SqT.of hpn3), _, _, rfl, rfl, p, _, rfl, J3.md.2, by omega, by omega, fun r4 H4 r40 r41 M4 => ?_⟩
 have J4 := J3.draw M4 nDa nLt
 have K4 : TupK H H4 := Md.tupK hp J4.md
 refine ⟨_, rfl, t, _, _, _, rfl, rfl, SqT.of (K4 _ _ ht), atI_nat (j := 2) rfl, pn, _, rfl, .inr (SqT.of (K4 _ _ hpn)), (ys.length : Int), rfl, fun a5 H5 S5 h5 => ⟨a5, ys.length, rfl, h5, by omega, fun Lo hLo => ?_⟩⟩
 have J5 := J4.same S5
 have nLo : Lo ≠ p := J5.md.2.ne hLo
 have nLoD : Lo ≠ Da := fun z => by rw [z, J5.da] at hLo; cases hLo
 have nLoL : Lo ≠ Lt := fun z => by rw [z, J5.lt] at hLo; cases hLo
 have S6 : Same H5 (upd H5 Lo (.lst ((List.range ys.length).map fun k => V.int (k : Nat)))) := Same.put (Same.refl H5) hLo
 have hLo6 : (upd H5 Lo (.lst ((List.range ys.length).map fun k => V.int (k : Nat)))) Lo = some (.lst ((List.range ys.length).map fun k => V.int (k : Nat))) := upd_same
 generalize upd H5 Lo (.lst ((List.range ys.length).map fun k => V.int (k : Nat))) = H6 at S6 hLo6 ⊢
 have J6 := J5.same S6
 obtain ⟨os, hos⟩ : ∃ os, os = (List.range ys.length).map fun k => V.int (k : Nat) := ⟨_, rfl⟩
 have hosn : ∀ x ∈ os, ∃ j : Nat, j < sp.length ∧ x = V.int (j : Int) := fun x hx => by
  rw [hos] at hx
  obtain ⟨j, hj, rfl⟩ := List.mem_map.mp hx
  exact ⟨j, by have := List.mem_range.mp hj; omega, rfl⟩
 have hosl : os.length = sp.length := by rw [hos, List.length_map, List.length_range]; exact hl
 rw [← hos] at hLo6
 obtain ⟨tn, rfl⟩ := Int.eq_ofNat_of_zero_le r40
 clear J5 J4 J3 S5 S6 h5 hLo M4 hv3 ht3 hpn3 S3 K4
 refine ⟨fun n σ H' => ∃ (kvs : List (Key × V)) (td : List Int) (v9 v10 v11 v12 : Option V), n = td.length + 2 * cntK kvs ∧ n ≤ 40 ∧ σ = [some (.ref p), some (.ref t), some (.int be), some (.int en), some (.int ou), some (.ref Da), some (.ref Lt), some (.int (tn : Nat)), some (.ref Lo), v9, v10, v11, v12] ∧ JJ H H' p Da Lt sp be ou kvs td ∧ H' Lo = some (.lst os), ⟨_, _, _, none, none, none, none, rfl, ?_, rfl, J6, hLo6⟩, ?_⟩
 ·have := J6.cn
  show 1 + 2 * cntK _ ≤ 40
  have e : [((.inl be : Key), V.ref q1)].length = 1 := rfl
  omega
 clear J6 hLo6
 rintro n σ H6 ⟨kvs, td, v9, v10, v11, v12, rfl, hn, rfl, J6, hLo6⟩
 refine ⟨_, rfl, Nat.zero_le _, fun q7 H7 S7 h7 => ⟨Lt, q7, _, rfl, rfl, SqL.of (S7 _ _ J6.lt), SqL.of h7, _, rfl, ?_⟩⟩
 have J7 := J6.same S7
 have hLo7 := S7 _ _ hLo6
 clear J6 hLo6 S7
 refine ite2 (fun hc => ?_) (fun _ => ?_)
 ·cases td with
  | nil => exact absurd hc (by decide)
  | cons x td =>
   refine ⟨_, fun σ' H' z => z, ?_⟩
   refine ⟨_, rfl, .inl ⟨rfl, _, SqL.of J7.lt⟩, Lt, _, 0, 0, V.int x, rfl, rfl, J7.lt, by decide, by decide, PySem.StrLaws.seqIndex_nonneg (by decide) (by simp), rfl, ?_⟩
   obtain ⟨wx, hwx⟩ := J7.tk x (by simp)
   have J8 : JJ H (upd H7 Lt (.lst (td.map V.int))) p Da Lt sp be ou kvs td := J7.upL hLtH nDL nLt fun y hy => J7.tk y (List.mem_cons_of_mem _ hy)
   have hLo8 : (upd H7 Lt (.lst (td.map V.int))) Lo = some (.lst os) := by rw [upd_ne nLoL]; exact hLo7
   rw [show ((x :: td).map V.int).eraseIdx 0 = td.map V.int from rfl]
   generalize upd H7 Lt (.lst (td.map V.int)) = H8 at J8 hLo8 ⊢
   clear J7 hLo7 h7
   have n0 : (x :: td).length + 2 * cntK kvs = td.length + 2 * cntK kvs + 1 := by rw [List.length_cons]; omega
   refine ⟨_, rfl, _, rfl, _, rfl, Lo, _, rfl, SqL.of hLo8, fun qa Ha Sa ha => ⟨_, rfl, _, rfl, _, rfl, Lo, _, rfl, SqL.of (Sa _ _ hLo8), fun qb Hb Sb hb => ⟨qa, qb, _, _, rfl, rfl, Sb _ _ ha, hb, ?_, fun Lk hLk => ⟨Lk, rfl, ⟨_, SqL.of upd_same⟩, ?_⟩⟩⟩⟩
   ·rw [cut_from' (n := tn) rfl, cut_upto' (n := tn) rfl, List.length_drop, List.length_take]
    have : os.length - tn + min tn os.length ≤ 1000 := by omega
    exact Nat.le_trans this (by decide)
   have Jb := J8.same (Sa.trans Sb)
   have hLob := Sb _ _ (Sa _ _ hLo8)
   have nLkD : Lk ≠ Da := fun z => by rw [z, Jb.da] at hLk; cases hLk
   have nLkL : Lk ≠ Lt := fun z => by rw [z, Jb.lt] at hLk; cases hLk
   have nLkp : Lk ≠ p := Jb.md.2.ne hLk
   obtain ⟨ks, hks⟩ : ∃ ks, ks = cutV os (some (tn : Int)) none ++ cutV os none (some (tn : Int)) := ⟨_, rfl⟩
   rw [← hks]
   have hksn : ∀ y ∈ ks, ∃ j : Nat, j < sp.length ∧ y = V.int (j : Int) := fun y hy => by
    rw [hks, cut_from' (n := tn) rfl, cut_upto' (n := tn) rfl] at hy
    rcases List.mem_append.mp hy with hy | hy
    ·exact hosn y (List.mem_of_mem_drop hy)
    ·exact hosn y (List.mem_of_mem_take hy)
   have S9 : Same Hb (upd Hb Lk (.lst ks)) := Same.put (Same.refl Hb) hLk
   have hLk9 : (upd Hb Lk (.lst ks)) Lk = some (.lst ks) := upd_same
   generalize upd Hb Lk (.lst ks) = H9 at S9 hLk9 ⊢
   have J9 := Jb.same S9
   have hLo9 := S9 _ _ hLob
   clear Jb hLob S9 hLk J8 hLo8 Sa Sb ha hb
   refine for_list (K := K) (a := Lk) (xs := ks) (fun i σ H' => ∃ (kvs' : List (Key × V)) (td' : List Int) (v10 v11 v12 : Option V), td'.length + 2 * cntK kvs' < (x :: td).length + 2 * cntK kvs ∧ σ = [some (.ref p), some (.ref t), some (.int be), some (.int en), some (.int ou), some (.ref Da), some (.ref Lt), some (.int (tn : Nat)), some (.ref Lo), some (.int x), v10, v11, v12] ∧ JJ H H' p Da Lt sp be ou kvs' td' ∧ H' Lo = some (.lst os) ∧ H' Lk = some (.lst ks) ∧ ∃ w, valV kvs' (.inl x) = some w)
    ⟨kvs, td, _, _, _, by omega, rfl, J9, hLo9, hLk9, wx, hwx⟩ (fun i σ H' _ ⟨_, _, _, _, _, _, _, _, _, h, _⟩ => SqL.of h) ?_ ?_
   ·rintro i y σ H10 hy ⟨kvs1, td1, w10, w11, w12, hm1, rfl, J10, hLo10, hLk10, w1, hw1⟩
    obtain ⟨jn, hjn, rfl⟩ := hksn y (List.mem_of_getElem? hy)
    refine ⟨_, rfl, (by show 2 ≤ sizeLine; decide), fun Lw hLw => ⟨Lw, rfl, ⟨_, SqL.of upd_same⟩, ?_⟩⟩
    have nLwD : Lw ≠ Da := fun z => by rw [z, J10.da] at hLw; cases hLw
    have nLwL : Lw ≠ Lt := fun z => by rw [z, J10.lt] at hLw; cases hLw
    have nLwp : Lw ≠ p := J10.md.2.ne hLw
    have S11 : Same H10 (upd H10 Lw (.lst [.int 1, .int (-1)])) := Same.put (Same.refl H10) hLw
    have hLw11 : (upd H10 Lw (.lst [.int 1, .int (-1)])) Lw = some (.lst [.int 1, .int (-1)]) := upd_same
    refine for_list (K := K) (a := Lw) (xs := [.int 1, .int (-1)]) (fun i σ H' => ∃ (kvs' : List (Key × V)) (td' : List Int) (v11 v12 : Option V), td'.length + 2 * cntK kvs' < (x :: td).length + 2 * cntK kvs ∧ σ = [some (.ref p), some (.ref t), some (.int be), some (.int en), some (.int ou), some (.ref Da), some (.ref Lt), some (.int (tn : Nat)), some (.ref Lo), some (.int x), some (.int (jn : Nat)), v11, v12] ∧ JJ H H' p Da Lt sp be ou kvs' td' ∧ H' Lo = some (.lst os) ∧ H' Lk = some (.lst ks) ∧ H' Lw = some (.lst [.int 1, .int (-1)]) ∧ ∃ w, valV kvs' (.inl x) = some w)
     ⟨kvs1, td1, _, _, hm1, rfl, J10.same S11, S11 _ _ hLo10, S11 _ _ hLk10, hLw11, w1, hw1⟩ (fun i σ H' _ ⟨_, _, _, _, _, _, _, _, _, h, _⟩ => SqL.of h) ?_ ?_
    ·rintro i2 y2 σ H12 hy2 ⟨kvs2, td2, w11, w12, hm2, rfl, J12, hLo12, hLk12, hLw12, w2, hw2⟩
     obtain ⟨d, rfl, hd⟩ : ∃ d : Int, y2 = V.int d ∧ (d = 1 ∨ d = -1) := by
      have := List.mem_of_getElem? hy2
      simp only [List.mem_cons, List.not_mem_nil, or_false] at this
      rcases this with rfl | rfl
      ·exact ⟨1, rfl, .inl rfl⟩
      ·exact ⟨-1, rfl, .inr rfl⟩
     have hv12 := netP_keep (Md.tupK hp J12.md) hv
     refine ⟨_, rfl, _, rfl, _, rfl, (by show 2 ≤ sizeLine; decide), fun qs H13 S13 h13 => ⟨.ref t, qs, b, m, sp, ⟨jn, d⟩, sp[jn], rfl, hv12.same S13, h13, gE hjn, hd, fun q2 H14 S14 h14 => ?_⟩⟩
     have S1214 := S13.trans S14
     have J14 := J12.same S1214
     have hLo14 := S1214 _ _ hLo12
     have hLk14 := S1214 _ _ hLk12
     have hLw14 := S1214 _ _ hLw12
     have X := N.all sp[jn] (List.getElem_mem hjn)
     have f0 : 0 ≤ too sp[jn] d ∧ too sp[jn] d < m := by
      unfold too
      split
      ·exact ⟨X.g0, X.g1⟩
      ·exact ⟨X.s0, X.s1⟩
     have h14 : H14 q2 = some (.tup [.int (frm sp[jn] d), .int (too sp[jn] d)]) := h14
     generalize hfr : frm sp[jn] d = fr at h14
     generalize hto : too sp[jn] d = to at h14 f0
     clear J12 hLo12 hLk12 hLw12 S1214 S13 S14 h13 hv12
     refine ⟨fun σ' H' => ∃ (kvs' : List (Key × V)) (td' : List Int), td'.length + 2 * cntK kvs' < (x :: td).length + 2 * cntK kvs ∧ σ' = [some (.ref p), some (.ref t), some (.int be), some (.int en), some (.int ou), some (.ref Da), some (.ref Lt), some (.int (tn : Nat)), some (.ref Lo), some (.int x), some (.int (jn : Nat)), some (.int d), some (.ref q2)] ∧ JJ H H' p Da Lt sp be ou kvs' td' ∧ H' Lo = some (.lst os) ∧ H' Lk = some (.lst ks) ∧ H' Lw = some (.lst [.int 1, .int (-1)]) ∧ ∃ w, valV kvs' (.inl x) = some w, ?_, ?_⟩
     ·rintro σ' H' ⟨kvs3, td3, hm3, rfl, J15, a1, a2, a3, a4⟩
      exact ⟨kvs3, td3, _, _, hm3, rfl, J15, a1, a2, a3, a4⟩
     refine ⟨_, rfl, q2, _, _, _, rfl, rfl, SqT.of h14, atI_nat (j := 0) rfl, _, rfl, rfl, _, rfl, ?_⟩
     refine ite2 (fun hc0 => ?_) (fun _ => iteC rfl ⟨kvs2, td2, hm2, rfl, J14, hLo14, hLk14, hLw14, w2, hw2⟩)
     refine ⟨_, rfl, q2, _, _, _, rfl, rfl, SqT.of h14, atI_nat (j := 1) rfl, _, rfl, Da, _, rfl, DGet.k (k := .inl to) J14.da, _, rfl, ?_⟩
     refine ite2 (fun hnot => ?_) (fun _ => iteC rfl ⟨kvs2, td2, hm2, rfl, J14, hLo14, hLk14, hLw14, w2, hw2⟩)
     refine ⟨_, rfl, _, rfl, rfl, _, rfl, ?_⟩
     refine ite2 (fun hc2 => ?_) (fun _ => ⟨kvs2, td2, hm2, rfl, J14, hLo14, hLk14, hLw14, w2, hw2⟩)
     have hnone : valV kvs2 (.inl to) = none := by
      cases q : valV kvs2 (.inl to) with
      | none => rfl
      | some w => rw [q] at hnot; exact absurd hnot (by simp)
     obtain ⟨ws, a1, a2, a3, a5⟩ := J14.ok x w2 hw2
     have hc0 : fr = x := by have := of_decide_eq_true hc0; injection this
     have hc2 : ((jn : Nat) : Int) ≠ ou := fun z => by rw [z] at hc2; simp at hc2
     have efr : frmS sp ⟨jn, d⟩ = x := by rw [frmS_at hjn, hfr, hc0]
     have eto : tooS sp ⟨jn, d⟩ = to := by rw [tooS_at hjn, hto]
     have hbk : Bk sp be ou to (ws ++ [⟨jn, d⟩]) := by
      refine a2.more hjn hd efr eto hc2 fun st hst e => ?_
      obtain ⟨z1, z2⟩ := a5 st hst
      rcases ends_of_span (sp := sp) (st := st) (d := d) hjn e (a2.inn st hst).2 hd with z | z
      ·rw [eto] at z; rw [z] at z2; exact z2 hnone
      ·rw [eto] at z; rw [z] at z1; exact z1 hnone
     obtain ⟨pw, yw, rfl, hpw, hlw, rw'⟩ := rows_of a1
     have hget : DGet H14 Da (V.int x) (some (.ref pw)) := by
      have := DGet.k (k := .inl x) J14.da
      rw [hw2] at this
      exact this
     have cn := J14.cn
     refine ⟨_, rfl, _, rfl, Da, .ref pw, rfl, hget, _, rfl, _, rfl, (by show 2 ≤ sizeLine; decide), fun q3 H15 S15 h15 => ⟨(by show 1 ≤ sizeLine; decide), fun q4 H16 S16 h16 => ⟨pw, q4, _, _, rfl, rfl, S16 _ _ (S15 _ _ hpw), h16, ?_, fun q5 H17 S17 h17 => ?_⟩⟩⟩
     ·rw [hlw]; exact Nat.le_trans (by show ws.length + 1 ≤ 1000; omega) (by decide)
     have S1417 := S15.trans (S16.trans S17)
     have J17 := J14.same S1417
     have hq2 := S1417 _ _ h14
     refine ⟨_, rfl, _, rfl, q2, _, _, _, rfl, rfl, SqT.of hq2, atI_nat (j := 1) rfl, Da, _, rfl, DPut.k (k := .inl to) J17.da (Nat.lt_of_lt_of_le (by omega : kvs2.length < 1000) (by decide)), ?_⟩
     have hway : IsD H17 (.ref q5) (wayP (ws ++ [⟨jn, d⟩])) := by
      refine .tup h17 ?_
      rw [List.map_append]
      exact (rw'.same S1417).append (.cons (.tup (S17 _ _ (S16 _ _ h15)) (IsDs.ints (Stp.row ⟨jn, d⟩))) .nil)
     have J18 := J17.upD hDa nDL nDa hnone f0.1 (by omega) hway hbk (by rw [List.length_append]; show ws.length + 1 < kvs2.length + 1; omega) (fun st hst => by
      rcases List.mem_append.mp hst with hst | hst
      ·exact ⟨(a5 st hst).1.put, (a5 st hst).2.put⟩
      ·rw [List.mem_singleton.mp hst, efr, eto]
       exact ⟨KnK.put (fun z => by rw [hw2] at z; cases z), fun z => by rw [valV_put, if_pos rfl] at z; cases z⟩)
     have K18 : TupK H17 (upd H17 Da (.dK (putK kvs2 (.inl to) (.ref q5)))) := fun q xs h => by rw [upd_ne (ne_of h J17.da (by intro z; cases z))]; exact h
     have hLo18 : (upd H17 Da (.dK (putK kvs2 (.inl to) (.ref q5)))) Lo = some (.lst os) := by rw [upd_ne nLoD]; exact S1417 _ _ hLo14
     have hLk18 : (upd H17 Da (.dK (putK kvs2 (.inl to) (.ref q5)))) Lk = some (.lst ks) := by rw [upd_ne nLkD]; exact S1417 _ _ hLk14
     have hLw18 : (upd H17 Da (.dK (putK kvs2 (.inl to) (.ref q5)))) Lw = some (.lst [.int 1, .int (-1)]) := by rw [upd_ne nLwD]; exact S1417 _ _ hLw14
     have hq18 := K18 _ _ hq2
     generalize upd H17 Da (.dK (putK kvs2 (.inl to) (.ref q5))) = H18 at J18 hLo18 hLk18 hLw18 hq18 ⊢
     have cp := cnt_put (w := .ref q5) hnone f0.1 (by omega)
     refine ⟨_, rfl, .inl ⟨rfl, _, SqL.of J18.lt⟩, _, rfl, q2, _, _, _, rfl, rfl, SqT.of hq18, atI_nat (j := 1) rfl, Lt, _, _, rfl, rfl, J18.lt, (Nat.lt_of_lt_of_le (by rw [List.length_map]; omega : (td2.map V.int).length < 1000) (by decide)), ?_⟩
     have J19 := J18.upL (td' := td2 ++ [to]) hLtH nDL nLt fun y hy => by
      rcases List.mem_append.mp hy with hy | hy
      ·exact J18.tk y hy
      ·rw [List.mem_singleton.mp hy, valV_put, if_pos rfl]; exact ⟨_, rfl⟩
     rw [List.map_append] at J19
     refine ⟨putK kvs2 (.inl to) (.ref q5), td2 ++ [to], ?_, rfl, J19, by rw [upd_ne nLoL]; exact hLo18, by rw [upd_ne nLkL]; exact hLk18, by rw [upd_ne nLwL]; exact hLw18, ?_⟩
     ·rw [List.length_append]
      show td2.length + 1 + 2 * cntK (putK kvs2 (.inl to) (.ref q5)) < _
      omega
     ·rw [valV_put]
      split
      ·exact ⟨_, rfl⟩
      ·exact ⟨_, hw2⟩
    ·rintro σ H12 ⟨kvs2, td2, w11, w12, hm2, rfl, J12, hLo12, hLk12, hLw12, w2, hw2⟩
     exact ⟨kvs2, td2, _, _, _, hm2, rfl, J12, hLo12, hLk12, w2, hw2⟩
   ·rintro σ H10 ⟨kvs1, td1, w10, w11, w12, hm1, rfl, J10, hLo10, hLk10, w1, hw1⟩
    exact ⟨_, hm1, kvs1, td1, _, _, _, _, rfl, by omega, rfl, J10, hLo10⟩
 ·refine ⟨_, rfl, Da, rfl, .inl ⟨_, .inl J7.da⟩, _, rfl, _, DGet.k (k := .inl en) J7.da, k _ _ J7.md ?_⟩
  cases q : valV kvs (.inl en) with
  | none => exact .inl rfl
  | some w =>
   obtain ⟨ws, a1, a2, a3, _⟩ := J7.ok en w q
   exact .inr ⟨ws, a1, a2, by have := J7.cn; omega⟩
end
end HN
namespace HN
open PySem L2 PyProof.Rows
abbrev sRingD : Stmt := top 45
def spRingD : Sp := fun vs H Q _ => ∃ (p : Addr) (v : V) (b m : Int) (sp : List Sn), vs = [.ref p, v] ∧ Dk p H ∧ IsD H v (netP b m sp) ∧ NetT b m sp ∧
 ∀ u H', Md p H H' → (u = .non ∨ ∃ ws, IsD H' u (wayP ws) ∧ Rg sp ws) → Q u H'
theorem comp_rev {K : PySem.W.Frag} {q : Addr} {yw : List V} {ws : List Stp} {σ : L2.St} {H : Hp} {Q : VK} (h : H q = some (.tup yw)) (r : IsDs H yw (rowsD Stp.row ws)) (few : ws.length ≤ 1000)
  (k : ∀ D zs H', Same H H' → H' D = some (.lst zs) → IsDs H' zs (rowsD Stp.row (backW ws)) → Q (.ref D) H') :
  CompWT 2 (gPair K) [] tNoIf (tTupA (tCons (tVar 0) (tCons (tOp (rI0 fun i j => .int (i - j)) (tC (.int 0)) (tVar 1)) tNil))) σ Q (Itv K q yw.length) H := by
 have lx : yw.length = ws.length := by rw [r.length, List.length_map]
 refine compT_rev (K := K) (xs := yw) (fun i zs H2 => Same H H2 ∧ IsDs H2 zs (rowsD Stp.row ((backW ws).take i))) ⟨Same.refl H, .nil⟩ (fun i zs H2 hi ⟨e1, e2⟩ => ?_) (by rw [lx]; exact small_le few) (fun i v zs H2 hv ⟨e1, e2⟩ => ?_) (fun zs H2 ⟨e1, e2⟩ D hD => ?_)
 ·refine ⟨SqT.of (e1 _ _ h), ?_⟩
  rw [e2.length, List.length_map, List.length_take]; omega
 ·have hi : i < ws.length := by rw [← lx]; have := (List.getElem?_eq_some_iff.mp hv).1; rw [List.length_reverse] at this; exact this
  have rr : IsDs H yw.reverse (rowsD Stp.row ws.reverse) := by
   have := back_rows r
   rw [← List.map_reverse] at this
   exact this
  have hi' : i < ws.reverse.length := by rw [List.length_reverse]; exact hi
  obtain ⟨q2, hq2, hq3⟩ := rows_at rr (gE hi')
  rw [hv] at hq2
  cases hq2
  refine ⟨q2, _, _, rfl, e1 _ _ hq3, tNoIf_go ?_⟩
  refine ⟨_, rfl, _, rfl, _, _, rfl, rfl, (by show 2 ≤ sizeLine; decide), fun q4 H4 S4 h4 => ⟨e1.trans S4, ?_⟩⟩
  have hb : (backW ws)[i]? = some (negS ws.reverse[i]) := by
   unfold backW
   rw [List.getElem?_map, gE hi']; rfl
  unfold rowsD
  rw [List.take_add_one, hb, List.map_append]
  exact (e2.same S4).append (.cons (.tup h4 (IsDs.ints (negS ws.reverse[i]).row)) .nil)
 ·refine k D zs _ (e1.put hD) upd_same ?_
  rw [lx, ← backW_len, List.take_length] at e2
  exact e2.same (Same.put (Same.refl H2) hD)
section
variable {P : Program} {w : World} {K : PySem.W.Frag} {mg : Str → Option Value} {base : Heap}
theorem scRingD : FnScope ["_law_deck", "_law_net_here", "_law_k", "_law_begin", "_law_end", "_law_back_here", "_law_ring_here", "_law_turn"] ["_law_deck", "_law_net_here"] (defScope sRingD) := ⟨rfl, rfl, rfl, by decide +kernel, rfl, by decide +kernel, by decide +kernel⟩
theorem ok_ringD {f f1 f2 f3 : Addr} {fd fd1 fd2 fd3 : FuncData} (F : Fun K "_law_ring" "_law_ring" sRingD f fd) (T : Nm mg) (T2 : Nt mg) (TR : mg "reversed" = none) (G1 : Fn K mg "_law_draw" sDrawD ["_law_deck", "_law_most"] f1 fd1) (G2 : Fn K mg "_law_leads" sLeadsD ["_law_net_here", "_law_step"] f2 fd2) (G3 : Fn K mg "_law_back" sBackD ["_law_deck", "_law_net_here", "_law_begin", "_law_end", "_law_out"] f3 fd3) : FnOk P w K mg base CX0 3 f fd ["_law_deck", "_law_net_here"] spRingD := by
 have F1 : FnOk P w K mg base CX0 1 f1 fd1 ["_law_deck", "_law_most"] spDrawD := ok_drawD G1.F T
 have F2 : FnOk P w K mg base CX0 1 f2 fd2 ["_law_net_here", "_law_step"] spLeads := ok_leadsD G2.F T
 have F3 : FnOk P w K mg base CX0 2 f3 fd3 ["_law_deck", "_law_net_here", "_law_begin", "_law_end", "_law_out"] spBack := ok_backD G3.F T T2 G1 G2
 refine F.ok scRingD (fun vs H Q E h => by obtain ⟨p, v, b, m, sp, rfl, _⟩ := h; rfl) (fun cdv A outer s H vs Q E hr h => ?_)
 obtain ⟨p, v, b, m, sp, rfl, hp, hv, N, k⟩ := h
 have hr1 : Room 1 _ := hr.mono (by decide)
 refine ⟨_, PSl.h (l_cons ⟨(ps_if (pt_cmpR (op_eqT0 hr.units0) (pe_ix ix_tup (pv 1) pe_int (fun _ _ => rfl)) (pe_tupA pa_nil) (nomark _)) (pss_one (ps_ret pe_non)) pss_nil)⟩
  (l_cons ⟨(ps_set (i := 2) scRingD.nd rfl (Or.inl rfl) (pc1 G1 F1 hr1 (pa_cons (pv 0) (pa_cons (pe_callB call_len_seq rfl T.len PySem.boot_len (pa_cons (pe_ix ix_tup (pv 1) pe_int (fun _ _ => rfl)) pa_nil)) pa_nil))))⟩
  (l_cons ⟨(ps_asg (pc1 G2 F2 hr1 (pa_cons (pv 1) (pa_cons (pe_tupA (pa_cons (pv 2) (pa_cons pe_int pa_nil))) pa_nil))) (pg_tup rfl (pgs_cons (pg_name (i := 3) scRingD.nd rfl (Or.inl rfl)) (pgs_cons (pg_name (i := 4) scRingD.nd rfl (Or.inl rfl)) pgs_nil))))⟩
  (l_cons ⟨(ps_set (i := 5) scRingD.nd rfl (Or.inl rfl) (pc1 G3 F3 hr (pa_cons (pv 0) (pa_cons (pv 1) (pa_cons (pv 4) (pa_cons (pv 3) (pa_cons (pv 2) pa_nil)))))))⟩
  (l_cons ⟨(ps_if (pt_cmpR op_isN (pv 5) pe_non (nomark _)) (pss_one (ps_ret pe_non)) pss_nil)⟩
  (l_cons ⟨(ps_set (i := 6) scRingD.nd rfl (Or.inl rfl) (pe_op op_catA (pe_tupA (pa_cons (pe_tupA (pa_cons (pv 2) (pa_cons pe_int pa_nil))) pa_nil)) (pv 5)))⟩
  (l_cons ⟨(ps_set (i := 7) scRingD.nd rfl (Or.inl rfl) (pc1 G1 F1 hr1 (pa_cons (pv 0) (pa_cons (pe_callB call_len_seq rfl T.len PySem.boot_len (pa_cons (pv 6) pa_nil)) pa_nil))))⟩
  (l_cons ⟨(ps_set (i := 6) scRingD.nd rfl (Or.inl rfl) (pe_op op_catA (pe_slice sl_tupN (pv 6) (po_some (pv 7)) po_none) (pe_slice sl_tupN (pv 6) po_none (po_some (pv 7)))))⟩
  (l_cons ⟨(ps_cutK (ps_if (pt_cmpR op_eq (pc1 G1 F1 hr1 (pa_cons (pv 0) (pa_cons pe_int pa_nil))) pe_int (nomark _)) (pss_one (ps_set (i := 6) scRingD.nd rfl (Or.inl rfl) (pe_callTy call_tupA rfl T.ttup boot_tuple (pa_cons (pe_compT (xs := ["_law_span_here", "_law_way"]) (fr := []) (js := []) rfl (pi_revT rfl TR (pa_cons (pv 6) pa_nil)) (by decide +kernel) rfl (by decide +kernel) (by show ∀ y : Str × NameKind, y ∈ _ → y.2 = NameKind.free → List.lookup y.1 (defScope sRingD).names = some NameKind.cell; decide +kernel) rfl (by decide +kernel) (fun _ _ _ _ _ => pg_two rfl (by decide +kernel) rfl rfl) (fun _ _ _ _ _ => ⟨(pe_tupA (pa_cons (pv 0) (pa_cons (pe_op op_sub pe_int (pv 1)) pa_nil))), pts_nil⟩)) pa_nil)))) pss_nil))⟩
  (l_one ⟨(ps_ret (pv 6))⟩)))))))))), ?_⟩
 obtain ⟨t, pn, ys, rfl, ht, hpn, hl, hy⟩ := netP_of hv
 have few := N.few
 refine ⟨_, rfl, t, _, _, _, rfl, rfl, SqT.of ht, atI_nat (j := 2) rfl, Nat.zero_le _, fun q0 H0 S0 h0 => ⟨pn, q0, _, rfl, rfl, SqT.of (S0 _ _ hpn), SqT.of h0, _, rfl, ?_⟩⟩
 refine ite2 (fun _ => k _ _ ((Md.refl hp).then S0) (.inl rfl)) (fun hne => ?_)
 have hpos : 0 < sp.length := by
  cases ys with
  | nil => exact absurd rfl hne
  | cons a r => rw [← hl, List.length_cons]; omega
 refine ⟨_, rfl, _, rfl, t, _, _, _, rfl, rfl, SqT.of (S0 _ _ ht), atI_nat (j := 2) rfl, pn, _, rfl, .inr (SqT.of (S0 _ _ hpn)), p, _, rfl, hp.same S0, by omega, by omega, fun r1 H1 r10 r11 M1 => ?_⟩
 have M1 := ((Md.refl hp).then S0).trans M1
 have K1 := Md.tupK hp M1
 obtain ⟨kn, rfl⟩ := Int.eq_ofNat_of_zero_le r10
 have hkn : kn < sp.length := by omega
 have X := N.all sp[kn] (List.getElem_mem hkn)
 have hv1 := netP_keep K1 hv
 refine ⟨_, rfl, _, rfl, (by show 2 ≤ sizeLine; decide), fun q2 H2 S2 h2 => ⟨.ref t, q2, b, m, sp, ⟨kn, 1⟩, sp[kn], rfl, hv1.same S2, h2, gE hkn, .inl rfl, fun q3 H3 S3 h3 => ?_⟩⟩
 have h3 : H3 q3 = some (.tup [.int sp[kn].s, .int sp[kn].g]) := by
  have := h3
  unfold frm too at this
  rw [if_pos rfl, if_pos rfl] at this
  exact this
 have S13 := S2.trans S3
 refine ⟨q3, _, rfl, SqT.of h3, rfl, _, _, rfl, _, _, rfl, rfl, ?_⟩
 have M3 := M1.then S13
 refine ⟨_, rfl, _, rfl, _, rfl, _, rfl, _, rfl, p, .ref t, b, m, sp[kn].g, sp[kn].s, ((kn : Nat) : Int), sp, rfl, M3.2, hv1.same S13, N, X.g0, X.g1, fun u H4 M4 hu => ?_⟩
 have M4 := M3.trans M4
 refine ⟨_, rfl, rfl, _, rfl, ?_⟩
 rcases hu with rfl | ⟨ws, hw, hbk, hwl⟩
 ·exact iteB (by decide) (k _ _ M4 (.inl rfl))
 obtain ⟨pw, yw, rfl, hpw, hlw, rw'⟩ := rows_of hw
 refine iteC (decide_eq_false (by intro z; cases z)) ?_
 have R1 := hbk.ring hkn X.ne hwl
 refine ⟨_, rfl, (by show 2 ≤ sizeLine; decide), fun q5 H5 S5 h5 => ⟨(by show 1 ≤ sizeLine; decide), fun q6 H6 S6 h6 => ⟨_, rfl, q6, pw, _, _, rfl, rfl, h6, S6 _ _ (S5 _ _ hpw), ?_, fun q7 H7 S7 h7 => ?_⟩⟩⟩
 ·rw [hlw]; exact Nat.le_trans (by show 1 + ws.length ≤ 1000; omega) (by decide)
 have S47 := S5.trans (S6.trans S7)
 have r7 : IsDs H7 ([V.ref q5] ++ yw) (rowsD Stp.row (⟨kn, 1⟩ :: ws)) := (IsDs.cons (.tup (S7 _ _ (S6 _ _ h5)) (IsDs.ints (Stp.row ⟨kn, 1⟩))) .nil).append (rw'.same S47)
 have M7 := M4.then S47
 have l7 : ([V.ref q5] ++ yw).length = (⟨kn, 1⟩ :: ws : List Stp).length := by rw [r7.length, List.length_map]
 generalize ([V.ref q5] ++ yw) = y7 at h7 r7 l7
 generalize (⟨kn, 1⟩ :: ws : List Stp) = w7 at R1 r7 l7
 have few7 := R1.few
 have two7 := R1.two
 clear h5 h6 S5 S6 S7 S47 hpw hlw rw' hw hbk hwl
 refine ⟨_, rfl, _, rfl, q7, _, rfl, .inr (SqT.of h7), p, _, rfl, M7.2, by omega, by omega, fun r8 H8 r80 r81 M8 => ?_⟩
 have K8 := Md.tupK M7.2 M8
 have h8 := K8 _ _ h7
 have r8' := rows_keep K8 r7
 have M8 := M7.trans M8
 obtain ⟨tn, rfl⟩ := Int.eq_ofNat_of_zero_le r80
 refine ⟨_, rfl, _, rfl, _, rfl, q7, _, rfl, h8, fun qa Ha Sa ha => ⟨_, rfl, _, rfl, _, rfl, q7, _, rfl, Sa _ _ h8, fun qb Hb Sb hb => ?_⟩⟩
 rw [cut_from' (n := tn) rfl] at ha
 rw [cut_upto' (n := tn) rfl] at hb
 refine ⟨qa, qb, _, _, rfl, rfl, Sb _ _ ha, hb, ?_, fun q9 H9 S9 h9 => ?_⟩
 ·rw [List.length_drop, List.length_take]
  exact Nat.le_trans (by show y7.length - tn + min tn y7.length ≤ 1000; omega) (by decide)
 have S89 := Sa.trans (Sb.trans S9)
 have M9 := M8.then S89
 have R9 : Rg sp (w7.drop tn ++ w7.take tn) := Rg.turn (us := w7.take tn) (vs := w7.drop tn) (by rw [List.take_append_drop]; exact R1)
 have r9 : IsDs H9 (y7.drop tn ++ y7.take tn) (rowsD Stp.row (w7.drop tn ++ w7.take tn)) := by
  unfold rowsD
  rw [List.map_append, List.map_take, List.map_drop]
  exact (IsDs.dropN tn (r8'.same S89)).append (IsDs.takeN tn (r8'.same S89))
 generalize (y7.drop tn ++ y7.take tn) = y9 at h9 r9
 generalize (w7.drop tn ++ w7.take tn) = w9 at R9 r9
 have few9 := R9.few
 clear ha hb Sa Sb S9 S89 h8 r8' K8 M7 h7 r7
 refine ⟨fun σ' H' => Md p H H' ∧ ∃ (u : V) (ws : List Stp), σ' = [some (.ref p), some (.ref t), some (.int (kn : Nat)), some (.int sp[kn].s), some (.int sp[kn].g), some (.ref pw), some u, some (.int (tn : Nat))] ∧ IsD H' u (wayP ws) ∧ Rg sp ws, ?_, ?_⟩
 ·rintro σ' HA ⟨MA, u, ws, rfl, hu, hR⟩
  exact ⟨_, rfl, k _ _ MA (.inr ⟨ws, hu, hR⟩)⟩
 refine ⟨_, rfl, p, 2, rfl, M9.2, by decide, by decide, fun rA HA _ _ MA => ⟨rfl, _, rfl, ?_⟩⟩
 have KA := Md.tupK M9.2 MA
 have MA := M9.trans MA
 refine ite2 (fun _ => ?_) (fun _ => ⟨MA, _, w9, rfl, .tup (KA _ _ h9) (rows_keep KA r9), R9⟩)
 refine ⟨_, rfl, q9, y9, rfl, SqT.of (KA _ _ h9), ?_⟩
 refine comp_rev (KA _ _ h9) (rows_keep KA r9) (by omega) fun DB zB HB SB hB rB => ?_
 exact ⟨DB, _, rfl, SqL.of hB, fun pb HC SC hC => ⟨MA.then (SB.trans SC), _, backW w9, rfl, .tup hC (rB.same SC), R9.back⟩⟩
end
end HN
namespace HN
open PySem L2 PyProof.Rows
abbrev sSum : Stmt := top 10
abbrev sBeats : Stmt := top 11
section
variable {P : Program} {w : World} {K : PySem.W.Frag} {mg : Str → Option Value} {base : Heap}
theorem scSum : FnScope ["bounds", "way", "low", "high", "step", "bound"] ["bounds", "way"] (defScope sSum) := ⟨rfl, rfl, rfl, by decide +kernel, rfl, by decide +kernel, by decide +kernel⟩
theorem ok_sum {f : Addr} {fd : FuncData} (F : Fun K "sum_of" "sum_of" sSum f fd) : FnOk P w K mg base CX0 1 f fd ["bounds", "way"] spSum := by
 refine F.ok scSum (fun vs H Q E h => by obtain ⟨vb, vw, bs, ws, rfl, _⟩ := h; rfl) (fun cdv A outer s H vs Q E hr h => ?_)
 obtain ⟨vb, vw, bs, ws, rfl, hb, hw, hin, k⟩ := h
 obtain ⟨pb, yb, rfl, hpb, hlb, rb⟩ := rows_of hb
 obtain ⟨pw, yw, rfl, hpw, hlw, rw'⟩ := rows_of hw
 refine ⟨_, PSl.h (l_cons ⟨(ps_set (i := 2) scSum.nd rfl (Or.inl rfl) pe_int)⟩
  (l_cons ⟨(ps_set (i := 3) scSum.nd rfl (Or.inl rfl) pe_int)⟩
  (l_cons ⟨(ps_for PassesOwn.never rfl (pi_tup (pv 1)) (pg_name (i := 4) scSum.nd rfl (Or.inl rfl)) (PSl.h (l_cons ⟨(ps_set (i := 5) scSum.nd rfl (Or.inl rfl) (pe_ix ix_tup (pv 0) (pe_ix ix_tup (pv 4) pe_int (fun _ _ => rfl)) (fun _ _ => rfl)))⟩
  (l_one ⟨(ps_if (pt_cmpR op_eq (pe_ix ix_tup (pv 4) pe_int (fun _ _ => rfl)) pe_int (nomark _)) (PSl.h (l_cons ⟨(ps_aug (i := 2) scSum.nd rfl (Or.inl rfl) (pe_ix ix_tup (pv 5) pe_int (fun _ _ => rfl)) ip_add)⟩
  (l_one ⟨(ps_aug (i := 3) scSum.nd rfl (Or.inl rfl) (pe_ix ix_tup (pv 5) pe_int (fun _ _ => rfl)) ip_add)⟩))) (PSl.h (l_cons ⟨(ps_aug (i := 2) scSum.nd rfl (Or.inl rfl) (pe_ix ix_tup (pv 5) pe_int (fun _ _ => rfl)) ip_sub)⟩
  (l_one ⟨(ps_aug (i := 3) scSum.nd rfl (Or.inl rfl) (pe_ix ix_tup (pv 5) pe_int (fun _ _ => rfl)) ip_sub)⟩))))⟩))))⟩
  (l_one ⟨(ps_ret (pe_tupA (pa_cons (pv 2) (pa_cons (pv 3) pa_nil))))⟩)))), ?_⟩
 refine ⟨_, rfl, pw, rfl, ⟨_, SqT.of hpw⟩, ?_⟩
 refine for_tup (K := K) (xs := yw) (fun i σ H2 => H2 = H ∧ ∃ v4 v5, σ = [some (.ref pb), some (.ref pw), some (.int (sumLo bs (ws.take i))), some (.int (sumHi bs (ws.take i))), v4, v5]) ⟨rfl, none, none, rfl⟩ (fun i σ H2 _ ⟨e1, _⟩ => by rw [e1]; exact SqT.of hpw) ?_ ?_
 ·rintro i y σ H2 hy ⟨rfl, v4, v5, rfl⟩
  have hi : i < ws.length := by rw [← hlw]; exact (List.getElem?_eq_some_iff.mp hy).1
  obtain ⟨q, hq, hq2⟩ := rows_at rw' (gE hi)
  rw [hy] at hq
  cases hq
  obtain ⟨i1, d1⟩ := hin ws[i] (List.getElem_mem hi)
  have hm1 : sumLo bs (ws.take (i + 1)) = sumLo bs (ws.take i) + lowS bs ws[i] := by
   unfold sumLo
   rw [List.take_add_one, gE hi, List.map_append, List.sum_append]; simp
  have hm2 : sumHi bs (ws.take (i + 1)) = sumHi bs (ws.take i) + highS bs ws[i] := by
   unfold sumHi
   rw [List.take_add_one, gE hi, List.map_append, List.sum_append]; simp
  obtain ⟨qb, hqb, hqb2⟩ := rows_at rb (gE i1)
  refine ⟨_, rfl, _, rfl, q, _, _, _, rfl, rfl, SqT.of hq2, atI_nat (j := 0) rfl, pb, _, _, _, rfl, rfl, SqT.of hpb, atI_nat (j := ws[i].i) hqb, ?_⟩
  refine ⟨_, rfl, q, _, _, _, rfl, rfl, SqT.of hq2, atI_nat (j := 1) rfl, rfl, _, rfl, ?_⟩
  refine ite2 (fun h1 => ?_) (fun h1 => ?_)
  ·have h1 : ws[i].d = 1 := by have := of_decide_eq_true h1; injection this
   refine ⟨_, rfl, _, rfl, qb, _, _, _, rfl, rfl, SqT.of hqb2, atI_nat (j := 0) rfl, _, _, rfl, rfl, ?_⟩
   refine ⟨_, rfl, _, rfl, qb, _, _, _, rfl, rfl, SqT.of hqb2, atI_nat (j := 1) rfl, _, _, rfl, rfl, rfl, some (.ref q), some (.ref qb), ?_⟩
   have l1 : lowS bs ws[i] = bs[ws[i].i].1 := by unfold lowS; rw [gE i1]; exact if_pos h1
   have l2 : highS bs ws[i] = bs[ws[i].i].2 := by unfold highS; rw [gE i1]; exact if_pos h1
   rw [hm1, hm2, l1, l2]; rfl
  ·have h1 : ws[i].d ≠ 1 := fun z => h1 (decide_eq_true (by rw [z]))
   refine ⟨_, rfl, _, rfl, qb, _, _, _, rfl, rfl, SqT.of hqb2, atI_nat (j := 1) rfl, _, _, rfl, rfl, ?_⟩
   refine ⟨_, rfl, _, rfl, qb, _, _, _, rfl, rfl, SqT.of hqb2, atI_nat (j := 0) rfl, _, _, rfl, rfl, rfl, some (.ref q), some (.ref qb), ?_⟩
   have l1 : lowS bs ws[i] = -bs[ws[i].i].2 := by unfold lowS; rw [gE i1]; exact if_neg h1
   have l2 : highS bs ws[i] = -bs[ws[i].i].1 := by unfold highS; rw [gE i1]; exact if_neg h1
   rw [hm1, hm2, l1, l2, ← Int.sub_eq_add_neg, ← Int.sub_eq_add_neg]; rfl
 ·rintro σ H2 ⟨rfl, v4, v5, rfl⟩
  rw [hlw, List.take_length]
  exact ⟨_, rfl, _, rfl, (by show 2 ≤ sizeLine; decide), fun p3 H3 S3 h3 => k p3 H3 S3 h3⟩
theorem scBeats : FnScope ["net", "bounds", "ring", "beat", "ends"] ["net", "bounds", "ring"] (defScope sBeats) := ⟨rfl, rfl, rfl, by decide +kernel, rfl, by decide +kernel, by decide +kernel⟩
theorem ok_beats {f f1 : Addr} {fd fd1 : FuncData} (F : Fun K "beats_of" "beats_of" sBeats f fd) (G1 : Fn K mg "sum_of" sSum ["bounds", "way"] f1 fd1) : FnOk P w K mg base CX0 2 f fd ["net", "bounds", "ring"] spBeats := by
 have F1 : FnOk P w K mg base CX0 1 f1 fd1 ["bounds", "way"] spSum := ok_sum G1.F
 refine F.ok scBeats (fun vs H Q E h => by obtain ⟨vn, vb, vw, b, m, sp, bs, ws, rfl, _⟩ := h; rfl) (fun cdv A outer s H vs Q E hr h => ?_)
 obtain ⟨vn, vb, vw, b, m, sp, bs, ws, rfl, hv, hb0, hb1, hb, hw, hin, k⟩ := h
 obtain ⟨t, pn, ys, rfl, ht, _⟩ := netP_of hv
 refine ⟨_, PSl.h (l_cons ⟨(ps_set (i := 3) scBeats.nd rfl (Or.inl rfl) (pe_ix ix_tup (pv 0) pe_int (fun _ _ => rfl)))⟩
  (l_cons ⟨(ps_set (i := 4) scBeats.nd rfl (Or.inl rfl) (pc1 G1 F1 hr (pa_cons (pv 1) (pa_cons (pv 2) pa_nil))))⟩
  (l_one ⟨(ps_ret (pe_tupA (pa_cons (pe_un un_neg (pe_op op_fdivB (pe_un un_neg (pe_ix ix_tup (pv 4) pe_int (fun _ _ => rfl))) (pv 3))) (pa_cons (pe_op op_fdivB (pe_ix ix_tup (pv 4) pe_int (fun _ _ => rfl)) (pv 3)) pa_nil))))⟩))), ?_⟩
 refine ⟨_, rfl, t, _, _, _, rfl, rfl, SqT.of ht, atI_nat (j := 0) rfl, ?_⟩
 refine ⟨_, rfl, _, rfl, vb, vw, bs, ws, rfl, hb, hw, hin, fun p1 H1 S1 h1 => ?_⟩
 refine ⟨_, rfl, p1, _, _, _, rfl, rfl, SqT.of h1, atI_nat (j := 0) rfl, _, rfl, _, rfl, _, _, rfl, rfl, log_ok hb0 hb1, _, rfl, ?_⟩
 refine ⟨_, rfl, p1, _, _, _, rfl, rfl, SqT.of h1, atI_nat (j := 1) rfl, _, rfl, _, _, rfl, rfl, log_ok hb0 hb1, (by show 2 ≤ sizeLine; decide), fun p2 H2 S2 h2 => k p2 H2 (S1.trans S2) h2⟩
end
end HN
namespace HN
open PySem L2 PyProof.Rows
abbrev sDead : Stmt := top 12
abbrev sSure : Stmt := top 13
abbrev sIsRight : Stmt := top 25
section
variable {P : Program} {w : World} {K : PySem.W.Frag} {mg : Str → Option Value} {base : Heap}
theorem scDead : FnScope ["net", "bounds", "ring", "beats"] ["net", "bounds", "ring"] (defScope sDead) := ⟨rfl, rfl, rfl, by decide +kernel, rfl, by decide +kernel, by decide +kernel⟩
theorem ok_dead {f f1 : Addr} {fd fd1 : FuncData} (F : Fun K "is_dead" "is_dead" sDead f fd) (G1 : Fn K mg "beats_of" sBeats ["net", "bounds", "ring"] f1 fd1) (F1 : FnOk P w K mg base CX0 2 f1 fd1 ["net", "bounds", "ring"] spBeats) : FnOk P w K mg base CX0 3 f fd ["net", "bounds", "ring"] spDead := by
 refine F.ok scDead (fun vs H Q E h => by obtain ⟨vn, vb, vw, b, m, sp, bs, ws, rfl, _⟩ := h; rfl) (fun cdv A outer s H vs Q E hr h => ?_)
 obtain ⟨vn, vb, vw, b, m, sp, bs, ws, rfl, hv, hb0, hb1, hb, hw, hin, k⟩ := h
 refine ⟨_, PSl.h (l_cons ⟨(ps_set (i := 3) scDead.nd rfl (Or.inl rfl) (pc1 G1 F1 hr (pa_cons (pv 0) (pa_cons (pv 1) (pa_cons (pv 2) pa_nil)))))⟩
  (l_one ⟨(ps_ret (pe_cmpR op_gt (pe_ix ix_tup (pv 3) pe_int (fun _ _ => rfl)) (pe_ix ix_tup (pv 3) pe_int (fun _ _ => rfl)) (nomark _)))⟩)), ?_⟩
 refine ⟨_, rfl, _, rfl, _, rfl, vn, vb, vw, b, m, sp, bs, ws, rfl, hv, hb0, hb1, hb, hw, hin, fun p1 H1 S1 h1 => ?_⟩
 exact ⟨_, rfl, p1, _, _, _, rfl, rfl, SqT.of h1, atI_nat (j := 0) rfl, _, rfl, p1, _, _, _, rfl, rfl, SqT.of h1, atI_nat (j := 1) rfl, _, _, rfl, rfl, k H1 S1⟩
theorem scSure : FnScope ["net", "bounds", "ring", "beats"] ["net", "bounds", "ring"] (defScope sSure) := ⟨rfl, rfl, rfl, by decide +kernel, rfl, by decide +kernel, by decide +kernel⟩
theorem ok_sure {f f1 : Addr} {fd fd1 : FuncData} (F : Fun K "is_sure" "is_sure" sSure f fd) (G1 : Fn K mg "beats_of" sBeats ["net", "bounds", "ring"] f1 fd1) (F1 : FnOk P w K mg base CX0 2 f1 fd1 ["net", "bounds", "ring"] spBeats) : FnOk P w K mg base CX0 3 f fd ["net", "bounds", "ring"] spSure := by
 refine F.ok scSure (fun vs H Q E h => by obtain ⟨vn, vb, vw, b, m, sp, bs, ws, rfl, _⟩ := h; rfl) (fun cdv A outer s H vs Q E hr h => ?_)
 obtain ⟨vn, vb, vw, b, m, sp, bs, ws, rfl, hv, hb0, hb1, hb, hw, hin, k⟩ := h
 refine ⟨_, PSl.h (l_cons ⟨(ps_set (i := 3) scSure.nd rfl (Or.inl rfl) (pc1 G1 F1 hr (pa_cons (pv 0) (pa_cons (pv 1) (pa_cons (pv 2) pa_nil)))))⟩
  (l_one ⟨(ps_ret (pe_cmpR op_eq (pe_ix ix_tup (pv 3) pe_int (fun _ _ => rfl)) (pe_ix ix_tup (pv 3) pe_int (fun _ _ => rfl)) (nomark _)))⟩)), ?_⟩
 refine ⟨_, rfl, _, rfl, _, rfl, vn, vb, vw, b, m, sp, bs, ws, rfl, hv, hb0, hb1, hb, hw, hin, fun p1 H1 S1 h1 => ?_⟩
 refine ⟨_, rfl, p1, _, _, _, rfl, rfl, SqT.of h1, atI_nat (j := 0) rfl, _, rfl, p1, _, _, _, rfl, rfl, SqT.of h1, atI_nat (j := 1) rfl, rfl, ?_⟩
 have e : decide (V.int (upB b (sumLo bs ws)) = V.int (sumHi bs ws / b)) = sureB b bs ws := decide_eq_decide.mpr ⟨fun z => by injection z, fun z => by rw [z]⟩
 have k1 := k H1 S1
 rw [← e] at k1
 exact k1
theorem scIsRight : FnScope ["net", "bounds", "leaf"] ["net", "bounds", "leaf"] (defScope sIsRight) := ⟨rfl, rfl, rfl, by decide +kernel, rfl, by decide +kernel, by decide +kernel⟩
theorem ok_isRight {f f1 f2 : Addr} {fd fd1 fd2 : FuncData} (F : Fun K "is_right" "is_right" sIsRight f fd) (T : Nm mg) (G1 : Fn K mg "is_dead" sDead ["net", "bounds", "ring"] f1 fd1) (F1 : FnOk P w K mg base CX0 3 f1 fd1 ["net", "bounds", "ring"] spDead) (G2 : Fn K mg "is_sure" sSure ["net", "bounds", "ring"] f2 fd2) (F2 : FnOk P w K mg base CX0 3 f2 fd2 ["net", "bounds", "ring"] spSure) : FnOk P w K mg base CX0 4 f fd ["net", "bounds", "leaf"] spIsRight := by
 refine F.ok scIsRight (fun vs H Q E h => by obtain ⟨vn, vb, vl, b, m, sp, bs, lf, rfl, _⟩ := h; rfl) (fun cdv A outer s H vs Q E hr h => ?_)
 obtain ⟨vn, vb, vl, b, m, sp, bs, lf, rfl, hv, hb0, hb1, hb, hl, hin, k⟩ := h
 refine ⟨_, PSl.h (l_cons ⟨(ps_if (pt_cmpR op_eq (pe_ix ix_tup (pv 2) pe_int (fun _ _ => rfl)) pe_str (nomark _)) (pss_one (ps_ret (pc1 G1 F1 hr (pa_cons (pv 0) (pa_cons (pv 1) (pa_cons (pe_ix ix_tup (pv 2) pe_int (fun _ _ => rfl)) pa_nil)))))) pss_nil)⟩
  (l_one ⟨(ps_ret (pe_callB (call_all rfl) rfl T.all boot_all (pa_cons (pe_comp (fr := ["net", "bounds"]) (js := [0, 1]) rfl (pi_tup (pe_ix ix_tup (pv 2) pe_int (fun _ _ => rfl))) (by decide +kernel) rfl (by decide +kernel) rfl (by show ∀ y : Str × NameKind, y ∈ _ → y.2 = NameKind.free → List.lookup y.1 (defScope sIsRight).names = some NameKind.cell; decide +kernel) (by decide +kernel) rfl (by decide +kernel) (fun _ _ _ _ _ => ⟨(pc1 G2 F2 hr (pa_cons (pv 1) (pa_cons (pv 2) (pa_cons (pe_ix (r := rIxT K) ix_tup (pv 0) pe_int (fun _ _ => rfl)) pa_nil)))), pts_nil⟩)) pa_nil)))⟩)), ?_⟩
 cases lf with
 | ring ws =>
  obtain ⟨p, xs, rfl, hp, rx⟩ := IsD.tup_of (show IsD H vl (.tup [.str "ring", wayP ws]) from hl)
  cases rx with
  | cons h1 r1 =>
   cases r1 with
   | cons h2 r2 =>
    cases r2
    cases h1
    refine ⟨_, rfl, p, _, _, _, rfl, rfl, SqT.of hp, atI_nat (j := 0) rfl, rfl, _, rfl, iteB (by decide) ?_⟩
    exact ⟨_, rfl, _, rfl, _, rfl, p, _, _, _, rfl, rfl, SqT.of hp, atI_nat (j := 1) rfl, vn, vb, _, b, m, sp, bs, ws, rfl, hv, hb0, hb1, hb, h2, hin, fun H' S' => k H' S'⟩
 | price rows =>
  obtain ⟨p, xs, rfl, hp, rx⟩ := IsD.tup_of (show IsD H vl (.tup [.str "price", .tup (rows.map rowD)]) from hl)
  cases rx with
  | cons h1 r1 =>
   cases r1 with
   | cons h2 r2 =>
    cases r2
    cases h1
    refine ⟨_, rfl, p, _, _, _, rfl, rfl, SqT.of hp, atI_nat (j := 0) rfl, rfl, _, rfl, iteC (by decide) ?_⟩
    obtain ⟨q, ys, rfl, hq, ry⟩ := h2.tup_of
    have ly : ys.length = rows.length := by rw [ry.length, List.length_map]
    refine ⟨_, rfl, p, _, _, _, rfl, rfl, SqT.of hp, atI_nat (j := 1) rfl, q, rfl, ⟨_, SqT.of hq⟩, ?_⟩
    refine comp_tup (K := K) (a := q) (xs := ys) (fun i zs H2 => Same H H2 ∧ zs = ((rows.take i).map fun r => sureB b bs r.2).map V.bl) ⟨Same.refl H, rfl⟩ (fun i zs H2 hi ⟨e1, e2⟩ => ?_) (by rw [ly]; exact small_le hin.1) (fun i x zs H2 hx ⟨e1, e2⟩ => ?_) (fun zs H2 ⟨e1, e2⟩ D hD => ?_)
    ·refine ⟨SqT.of (e1 _ _ hq), ?_⟩
     rw [e2, List.length_map, List.length_map, List.length_take]; omega
    ·have hi : i < rows.length := by rw [← ly]; exact (List.getElem?_eq_some_iff.mp hx).1
     obtain ⟨d', hd', dx⟩ := ry.get hx
     rw [List.getElem?_map, gE hi] at hd'
     cases hd'
     obtain ⟨qr, zr, rfl, hqr, rr⟩ := dx.tup_of
     cases rr with
     | cons g1 rr2 =>
      cases rr2 with
      | cons g2 rr3 =>
       cases rr3
       cases g1
       refine tNoIf_go ?_
       refine ⟨_, rfl, _, rfl, _, rfl, qr, _, _, _, rfl, rfl, SqT.of (e1 _ _ hqr), atI_nat (j := 1) rfl, vn, vb, _, b, m, sp, bs, rows[i].2, rfl, hv.same e1, hb0, hb1, hb.same e1, g2.same e1, hin.2 _ (List.getElem_mem hi), fun H' S' => ⟨e1.trans S', ?_⟩⟩
       rw [e2, List.take_add_one, gE hi, List.map_append, List.map_append]; rfl
    ·refine ⟨D, rows.map fun r => sureB b bs r.2, rfl, SqL.of ?_, ?_⟩
     ·rw [upd_same, e2, ly, List.take_length]
     have eA : (rows.map fun r => sureB b bs r.2).all id = rightB b bs (.price rows) := by rw [List.all_map]; rfl
     rw [eA]
     exact k _ (e1.put hD)
end
end HN
namespace HN
open PySem L2 PyProof.Rows
abbrev sOwn : Stmt := top 26
abbrev sWorth : Stmt := top 27
def rGetL : V → V → Hp → VK → Prop := fun o i H Q => ∃ p xs k y, o = .ref p ∧ i = .int ((k : Nat) : Int) ∧ H p = some (.lst xs) ∧ xs[k]? = some y ∧ Q y H
theorem get_listP {X : Cx} : PGet X rGetL := by
 intro pins s σ H o i ov iv Q I ro ri h
 obtain ⟨p, xs, k, y, rfl, rfl, hp, hy, q⟩ := h
 cases (show ov = Value.ref p from ro)
 obtain ⟨t, rfl⟩ := ri
 obtain ⟨its, r, pl, hz⟩ := I.list (SqL.of (K := X.K) hp)
 obtain ⟨u, hu, ru⟩ := r.get hy
 have hl := r.length
 have hk : k < xs.length := (List.getElem?_eq_some_iff.mp hy).1
 have l63 := line63
 exact wpAny_getItem_list pl.isList (by omega) (by omega) (by simpa using hu) ⟨y, H, I, ru, q⟩
theorem row_of {H : Hp} {v : V} {r : Int × List Stp} (h : IsD H v (rowD r)) : ∃ q vw, v = .ref q ∧ H q = some (.tup [.int r.1, vw]) ∧ IsD H vw (wayP r.2) := by
 obtain ⟨q, xs, rfl, hq, rx⟩ := IsD.tup_of (show IsD H v (.tup [.int r.1, wayP r.2]) from h)
 cases rx with
 | cons g1 gr => cases gr with
  | cons g2 gr =>
   cases gr
   cases g1
   exact ⟨q, _, rfl, hq, g2⟩
theorem price_of {H : Hp} {v : V} {rows : List (Int × List Stp)} (h : IsD H v (leafP (.price rows))) : ∃ p pr ys, v = .ref p ∧ H p = some (.tup [.str "price", .ref pr]) ∧ H pr = some (.tup ys) ∧ IsDs H ys (rows.map rowD) := by
 obtain ⟨p, xs, rfl, hp, rx⟩ := IsD.tup_of (show IsD H v (.tup [.str "price", .tup (rows.map rowD)]) from h)
 cases rx with
 | cons g1 gr => cases gr with
  | cons g2 gr =>
   cases gr
   cases g1
   obtain ⟨pr, ys, rfl, hpr, ry⟩ := g2.tup_of
   exact ⟨p, pr, ys, rfl, hp, hpr, ry⟩
theorem fold_take {α β : Type} (f : β → α → β) (b : β) {xs : List α} {i : Nat} (h : i < xs.length) : (xs.take (i + 1)).foldl f b = f ((xs.take i).foldl f b) xs[i] := by
 rw [List.take_add_one, gE h, List.foldl_append]; rfl
theorem sum_take {α : Type} (f : α → Int) {xs : List α} {i : Nat} (h : i < xs.length) : ((xs.take (i + 1)).map f).sum = ((xs.take i).map f).sum + f xs[i] := by
 rw [List.take_add_one, gE h, List.map_append, List.sum_append]; simp
theorem sum_range (f : Nat → Int) (i : Nat) : ((List.range (i + 1)).map f).sum = ((List.range i).map f).sum + f i := by
 rw [List.range_succ, List.map_append, List.sum_append]; simp
section
variable {P : Program} {w : World} {K : PySem.W.Frag} {mg : Str → Option Value} {base : Heap}
theorem scOwn : FnScope ["net", "rows", "prices", "row", "step"] ["net", "rows"] (defScope sOwn) := ⟨rfl, rfl, rfl, by decide +kernel, rfl, by decide +kernel, by decide +kernel⟩
theorem ok_own {f : Addr} {fd : FuncData} (F : Fun K "own_prices" "own_prices" sOwn f fd) : FnOk P w K mg base CX0 1 f fd ["net", "rows"] spOwn := by
 refine F.ok scOwn (fun vs H Q E h => by obtain ⟨v, pr, b, m, sp, rows, rfl, _⟩ := h; rfl) (fun cdv A outer s H vs Q E hr h => ?_)
 obtain ⟨v, pr, b, m, sp, rows, rfl, hv, few, hrr, hok, k⟩ := h
 obtain ⟨t, pn, ys, rfl, ht, hpn, hl, hy⟩ := netP_of hv
 obtain ⟨pr', yr, e0, hpr, ry⟩ := hrr.tup_of
 cases e0
 have lr : yr.length = rows.length := by rw [ry.length, List.length_map]
 refine ⟨_, PSl.h (l_cons ⟨(ps_setC (iy := 2) (fr := []) (js := []) scOwn.nd rfl (Or.inl rfl) rfl (pi_tup (pe_ix ix_tup (pv 0) pe_int (fun _ _ => rfl))) (by decide +kernel) rfl (by decide +kernel) rfl (by show ∀ y : Str × NameKind, y ∈ _ → y.2 = NameKind.free → List.lookup y.1 (defScope sOwn).names = some NameKind.cell; decide +kernel) (by decide +kernel) rfl (by decide +kernel) (fun _ _ _ _ _ => ⟨(pe_ix (r := rIxT K) ix_tup (pv 0) pe_int (fun _ _ => rfl)), pts_nil⟩))⟩
  (l_cons ⟨(ps_for PassesOwn.never rfl (pi_tup (pv 1)) (pg_name (i := 3) scOwn.nd rfl (Or.inl rfl)) (pss_one (ps_for PassesOwn.never rfl (pi_tup (pe_ix ix_tup (pv 3) pe_int (fun _ _ => rfl))) (pg_name (i := 4) scOwn.nd rfl (Or.inl rfl)) (pss_one (ps_augS (pv 2) (pe_ix ix_tup (pv 4) pe_int (fun _ _ => rfl)) get_listP (pe_op op_mul (pe_ix ix_tup (pv 3) pe_int (fun _ _ => rfl)) (pe_ix ix_tup (pv 4) pe_int (fun _ _ => rfl))) ip_sub set_list)))))⟩
  (l_one ⟨(ps_ret (pv 2))⟩))), ?_⟩
 refine ⟨_, rfl, t, _, _, _, rfl, rfl, SqT.of ht, atI_nat (j := 2) rfl, pn, rfl, ⟨_, SqT.of hpn⟩, ?_⟩
 refine comp_tup (K := K) (a := pn) (xs := ys) (fun i zs H2 => H2 = H ∧ zs = ((sp.take i).map Sn.w).map V.int) ⟨rfl, rfl⟩ (fun i zs H2 hi ⟨e1, e2⟩ => ?_) (by rw [hl]; exact small_le (by omega)) (fun i x zs H2 hx ⟨e1, e2⟩ => ?_) (fun zs H2 ⟨e1, e2⟩ D hD => ?_)
 ·subst e1
  refine ⟨SqT.of hpn, ?_⟩
  rw [e2, List.length_map, List.length_map, List.length_take]; omega
 ·subst e1
  have hi : i < sp.length := by rw [← hl]; exact (List.getElem?_eq_some_iff.mp hx).1
  obtain ⟨q, hq, hq2⟩ := hy i sp[i] (gE hi)
  rw [hx] at hq
  cases hq
  refine tNoIf_go ⟨_, rfl, q, _, _, _, rfl, rfl, SqT.of hq2, atI_nat (j := 4) rfl, rfl, ?_⟩
  rw [e2, List.take_add_one, gE hi, List.map_append, List.map_append]; rfl
 subst e1
 rw [hl, List.take_length] at e2
 subst e2
 have S1 : Same H2 (upd H2 D (.lst ((sp.map Sn.w).map V.int))) := Same.put (Same.refl H2) hD
 have hD1 : (upd H2 D (.lst ((sp.map Sn.w).map V.int))) D = some (.lst ((sp.map Sn.w).map V.int)) := upd_same
 generalize upd H2 D (.lst ((sp.map Sn.w).map V.int)) = H1 at S1 hD1 ⊢
 refine ⟨_, rfl, pr, rfl, ⟨_, SqT.of (S1 _ _ hpr)⟩, ?_⟩
 refine for_tup (K := K) (xs := yr) (fun i σ H3 => Same H2 H3 ∧ (∃ v3 v4, σ = [some (.ref t), some (.ref pr), some (.ref D), v3, v4]) ∧ H3 D = some (.lst (((rows.take i).foldl rowP (sp.map Sn.w)).map V.int))) ⟨S1, ⟨none, none, rfl⟩, hD1⟩ (fun i σ H3 _ ⟨S3, _⟩ => SqT.of (S3 _ _ hpr)) ?_ ?_
 ·rintro i y σ H3 hy3 ⟨S3, ⟨v3, v4, rfl⟩, hD3⟩
  have hi : i < rows.length := by rw [← lr]; exact (List.getElem?_eq_some_iff.mp hy3).1
  obtain ⟨d, hd, dy⟩ := ry.get hy3
  rw [List.getElem?_map, gE hi] at hd
  cases hd
  obtain ⟨q, vw, rfl, hq, hw⟩ := row_of dy
  obtain ⟨pw, yw, rfl, hpw, hlw, rw'⟩ := rows_of hw
  have ok := hok rows[i] (List.getElem_mem hi)
  obtain ⟨ps, hps⟩ : ∃ ps, ps = (rows.take i).foldl rowP (sp.map Sn.w) := ⟨_, rfl⟩
  have lps : ps.length = sp.length := by rw [hps, rows_len, List.length_map]
  rw [← hps] at hD3
  refine ⟨_, rfl, q, _, _, _, rfl, rfl, SqT.of (S3 _ _ hq), atI_nat (j := 1) rfl, pw, rfl, ⟨_, SqT.of (S3 _ _ hpw)⟩, ?_⟩
  refine for_tup (K := K) (xs := yw) (fun j σ H4 => Same H2 H4 ∧ (∃ v4, σ = [some (.ref t), some (.ref pr), some (.ref D), some (.ref q), v4]) ∧ H4 D = some (.lst (((rows[i].2.take j).foldl (stepP rows[i].1) ps).map V.int))) ⟨S3, ⟨_, rfl⟩, hD3⟩ (fun j σ H4 _ ⟨S4, _⟩ => SqT.of (S4 _ _ hpw)) ?_ ?_
  ·rintro j z σ H4 hz ⟨S4, ⟨v4, rfl⟩, hD4⟩
   have hj : j < rows[i].2.length := by rw [← hlw]; exact (List.getElem?_eq_some_iff.mp hz).1
   obtain ⟨q2, e2, h2⟩ := rows_at rw' (gE hj)
   rw [hz] at e2
   cases e2
   obtain ⟨i1, d1⟩ := ok.inn rows[i].2[j] (List.getElem_mem hj)
   obtain ⟨qs, hqs⟩ : ∃ qs, qs = (rows[i].2.take j).foldl (stepP rows[i].1) ps := ⟨_, rfl⟩
   have lqs : qs.length = sp.length := by rw [hqs, steps_len, lps]
   rw [← hqs] at hD4
   have hgs : qs[rows[i].2[j].i]? = some (qs.getD rows[i].2[j].i 0) := by rw [List.getD_eq_getElem?_getD, gE (by omega)]; rfl
   refine ⟨_, rfl, _, rfl, q2, _, _, _, rfl, rfl, SqT.of (S4 _ _ h2), atI_nat (j := 0) rfl, D, _, rows[i].2[j].i, _, rfl, rfl, hD4, by rw [List.getElem?_map, hgs]; rfl, _, rfl, q, _, _, _, rfl, rfl, SqT.of (S4 _ _ hq), atI_nat (j := 0) rfl, _, rfl, q2, _, _, _, rfl, rfl, SqT.of (S4 _ _ h2), atI_nat (j := 1) rfl, _, _, rfl, rfl, .inr ?_, _, _, rfl, rfl, D, _, _, rows[i].2[j].i, rfl, rfl, hD4, (by simp [ixN, lqs, i1]), ?_⟩
   ·rcases d1 with d1 | d1 <;> rw [d1] <;> exact ⟨by decide, by decide⟩
   refine ⟨fun bb o e => ?_, ⟨_, rfl⟩, ?_⟩
   ·rw [upd_ne (fun z => by rw [z, hD] at e; cases e)]
    exact S4 _ _ e
   ·rw [upd_same, fold_take _ _ hj, ← hqs]
    congr 2
    unfold stepP
    rw [List.map_set]
  ·rintro σ H4 ⟨S4, ⟨v4, rfl⟩, hD4⟩
   refine ⟨S4, ⟨_, _, rfl⟩, ?_⟩
   rw [fold_take _ _ hi, ← hps, hD4, hlw, List.take_length]
   rfl
 ·rintro σ H3 ⟨S3, ⟨v3, v4, rfl⟩, hD3⟩
  refine ⟨_, rfl, k D H3 S3 ?_⟩
  rw [hD3, lr, List.take_length]; rfl
theorem scWorth : FnScope ["net", "bounds", "leaf", "worth", "row", "price", "bound", "span"] ["net", "bounds", "leaf"] (defScope sWorth) := ⟨rfl, rfl, rfl, by decide +kernel, rfl, by decide +kernel, by decide +kernel⟩
theorem ok_worth {f f1 f2 : Addr} {fd fd1 fd2 : FuncData} (F : Fun K "worth_of" "worth_of" sWorth f fd) (T : Nm mg) (T2 : Nt mg) (G1 : Fn K mg "beats_of" sBeats ["net", "bounds", "ring"] f1 fd1) (F1 : FnOk P w K mg base CX0 2 f1 fd1 ["net", "bounds", "ring"] spBeats) (G2 : Fn K mg "own_prices" sOwn ["net", "rows"] f2 fd2) : FnOk P w K mg base CX0 3 f fd ["net", "bounds", "leaf"] spWorth := by
 have F2 : FnOk P w K mg base CX0 1 f2 fd2 ["net", "rows"] spOwn := ok_own G2.F
 refine F.ok scWorth (fun vs H Q E h => by obtain ⟨v, vb, vl, b, m, sp, bs, rows, rfl, _⟩ := h; rfl) (fun cdv A outer s H vs Q E hr h => ?_)
 obtain ⟨v, vb, vl, b, m, sp, bs, rows, rfl, W, k⟩ := h
 have hr1 : Room 1 _ := hr.mono (by decide)
 obtain ⟨hv, hb, hl0, b0, b61, lb, few, bu, hws, hok, lr41⟩ := W
 obtain ⟨t, pn, ys, rfl, ht, hpn, hl, hy⟩ := netP_of hv
 obtain ⟨p, pr, yr, rfl, hp, hpr, ry⟩ := price_of hl0
 obtain ⟨pb, yb, rfl, hpb, hlb, rb⟩ := rows_of hb
 have lr : yr.length = rows.length := by rw [ry.length, List.length_map]
 refine ⟨_, PSl.h (l_cons ⟨(ps_set (i := 3) scWorth.nd rfl (Or.inl rfl) pe_int)⟩
  (l_cons ⟨(ps_for PassesOwn.never rfl (pi_tup (pe_ix ix_tup (pv 2) pe_int (fun _ _ => rfl))) (pg_name (i := 4) scWorth.nd rfl (Or.inl rfl)) (pss_one (ps_aug (i := 3) scWorth.nd rfl (Or.inl rfl) (pe_op op_mulB (pe_op op_mul (pe_ix ix_tup (pv 4) pe_int (fun _ _ => rfl)) (pe_ix ix_tup (pc1 G1 F1 hr (pa_cons (pv 0) (pa_cons (pv 1) (pa_cons (pe_ix ix_tup (pv 4) pe_int (fun _ _ => rfl)) pa_nil)))) pe_int (fun _ _ => rfl))) (pe_ix ix_tup (pv 0) pe_int (fun _ _ => rfl))) ip_add)))⟩
  (l_cons ⟨(ps_for PassesOwn.never rfl (pi_zip3 rfl T2.zip (pa_cons (pc1 G2 F2 hr1 (pa_cons (pv 0) (pa_cons (pe_ix ix_tup (pv 2) pe_int (fun _ _ => rfl)) pa_nil))) (pa_cons (pv 1) (pa_cons (pe_ix ix_tup (pv 0) pe_int (fun _ _ => rfl)) pa_nil)))) (pg_tup rfl (pgs_cons (pg_name (i := 5) scWorth.nd rfl (Or.inl rfl)) (pgs_cons (pg_name (i := 6) scWorth.nd rfl (Or.inl rfl)) (pgs_cons (pg_name (i := 7) scWorth.nd rfl (Or.inl rfl)) pgs_nil)))) (pss_one (ps_aug (i := 3) scWorth.nd rfl (Or.inl rfl) (pe_op op_sub (pe_op op_mul (pv 5) (pe_ifExp (pt_cmpR op_lt (pv 5) pe_int (nomark _)) (pe_ix ix_tup (pv 6) pe_int (fun _ _ => rfl)) (pe_ix ix_tup (pv 6) pe_int (fun _ _ => rfl)))) (pe_op op_mul (pe_ix ix_tup (pv 7) pe_int (fun _ _ => rfl)) (pe_ix ix_tup (pv 7) pe_int (fun _ _ => rfl)))) ip_add)))⟩
  (l_one ⟨(ps_ret (pv 3))⟩)))), ?_⟩
 refine ⟨_, rfl, p, _, _, _, rfl, rfl, SqT.of hp, atI_nat (j := 1) rfl, pr, rfl, ⟨_, SqT.of hpr⟩, ?_⟩
 refine for_tup (K := K) (xs := yr) (fun i σ H3 => Same H H3 ∧ ∃ v4 v5 v6 v7, σ = [some (.ref t), some (.ref pb), some (.ref p), some (.int (rowsW b bs (rows.take i))), v4, v5, v6, v7]) ⟨Same.refl H, none, none, none, none, rfl⟩ (fun i σ H3 _ ⟨S3, _⟩ => SqT.of (S3 _ _ hpr)) ?_ ?_
 ·rintro i y σ H3 hy3 ⟨S3, v4, v5, v6, v7, rfl⟩
  have hi : i < rows.length := by rw [← lr]; exact (List.getElem?_eq_some_iff.mp hy3).1
  obtain ⟨d, hd, dy⟩ := ry.get hy3
  rw [List.getElem?_map, gE hi] at hd
  cases hd
  obtain ⟨q, vw, rfl, hq, hw⟩ := row_of dy
  have ok := hok rows[i] (List.getElem_mem hi)
  have u1 := up_abs (b := b) (bs := bs) (ws := rows[i].2) b0 bu ok.few
  have p1 := ok.lo
  have p2 := ok.hi
  refine ⟨_, rfl, _, rfl, q, _, _, _, rfl, rfl, SqT.of (S3 _ _ hq), atI_nat (j := 0) rfl, _, rfl, _, rfl, _, rfl, q, _, _, _, rfl, rfl, SqT.of (S3 _ _ hq), atI_nat (j := 1) rfl, .ref t, .ref pb, vw, b, m, sp, bs, rows[i].2, rfl, hv.same S3, b0, b61, hb.same S3, hw.same S3, by rw [lb]; exact ok.inn, fun q5 H5 S5 h5 => ?_⟩
  refine ⟨q5, _, _, _, rfl, rfl, SqT.of h5, atI_nat (j := 0) rfl, _, _, rfl, rfl, .inl ⟨by show -(2 ^ 64) < rows[i].1; omega, by show rows[i].1 < 2 ^ 64; omega⟩, _, rfl, t, _, _, _, rfl, rfl, SqT.of (S5 _ _ (S3 _ _ ht)), atI_nat (j := 0) rfl, _, _, rfl, rfl, ⟨?_, ?_⟩, _, _, rfl, rfl, S3.trans S5, some (.ref q), v5, v6, v7, ?_⟩
  ·rw [Int.natAbs_mul]
   have h1 : rows[i].1.natAbs ≤ 10 ^ 12 := by omega
   exact Nat.lt_of_le_of_lt (Nat.mul_le_mul h1 u1) (by decide +kernel)
  ·exact Nat.lt_of_le_of_lt (by omega : b.natAbs ≤ 10 ^ 61) (by decide +kernel)
  ·unfold rowsW
   rw [sum_take _ hi]; rfl
 rintro σ H3 ⟨S3, v4, v5, v6, v7, rfl⟩
 rw [lr, List.take_length]
 have hrr : IsD H3 (.ref pr) (.tup (rows.map rowD)) := .tup (S3 _ _ hpr) (ry.same S3)
 refine ⟨_, rfl, _, rfl, p, _, _, _, rfl, rfl, SqT.of (S3 _ _ hp), atI_nat (j := 1) rfl, .ref t, pr, b, m, sp, rows, rfl, hv.same S3, few, hrr, hok, fun L H4 S4 hL => ?_⟩
 have S04 := S3.trans S4
 refine ⟨_, rfl, _, rfl, t, _, _, _, rfl, rfl, SqT.of (S04 _ _ ht), atI_nat (j := 2) rfl, ⟨true, L⟩, ⟨false, pb⟩, ⟨false, pn⟩, _, _, _, rfl, hL, S04 _ _ hpb, S04 _ _ hpn, ?_⟩
 have lo := own_len sp rows
 refine for_zip3 (c1 := ⟨true, L⟩) (c2 := ⟨false, pb⟩) (c3 := ⟨false, pn⟩) (xs := (ownM sp rows).map V.int) (ys := yb) (zs := ys) (fun i σ H5 => Same H4 H5 ∧ ∃ v4 v5 v6 v7, σ = [some (.ref t), some (.ref pb), some (.ref p), some (.int (rowsW b bs rows + ((List.range i).map (termW sp bs rows)).sum)), v4, v5, v6, v7]) ⟨Same.refl H4, v4, v5, v6, v7, by simp⟩ (fun i σ H5 _ ⟨S5, _⟩ => ⟨S5 _ _ hL, S5 _ _ (S04 _ _ hpb), S5 _ _ (S04 _ _ hpn)⟩) (by rw [List.length_map]; omega) (by rw [List.length_map]; omega) ?_ ?_
 ·rintro i x y z pz σ H5 hx hy5 hz ⟨S5, v4, v5, v6, v7, rfl⟩ hpz
  have hi : i < sp.length := by rw [← hl]; exact (List.getElem?_eq_some_iff.mp hz).1
  have hib : i < bs.length := by omega
  rw [List.getElem?_map, gE (by omega)] at hx
  cases hx
  obtain ⟨qb, e1, h1⟩ := rows_at rb (gE hib)
  rw [hy5] at e1
  cases e1
  obtain ⟨qz, e2, h2⟩ := hy i sp[i] (gE hi)
  rw [hz] at e2
  cases e2
  have eo : (ownM sp rows)[i] = owK sp rows i := by
   rw [← own_at hi hok, List.getD_eq_getElem?_getD, gE (by omega)]; rfl
  rw [eo]
  have S6 : Same H4 (upd H5 pz (.tup [.int (owK sp rows i), .ref qb, .ref qz])) := S5.put hpz
  have h6 : (upd H5 pz (.tup [.int (owK sp rows i), .ref qb, .ref qz])) pz = some (.tup [.int (owK sp rows i), .ref qb, .ref qz]) := upd_same
  generalize upd H5 pz (.tup [.int (owK sp rows i), .ref qb, .ref qz]) = H6 at S6 h6 ⊢
  have S06 := S04.trans S6
  have ob := owK_abs (k := i) hws hok lr41
  have wx := hws sp[i] (List.getElem_mem hi)
  have ew : wOf sp i = sp[i].w := by unfold wOf; rw [gE hi]
  have el : lOf sp i = sp[i].l := by unfold lOf; rw [gE hi]
  have eb : bs.getD i (0, 0) = bs[i] := by rw [List.getD_eq_getElem?_getD, gE hib]; rfl
  have et : termW sp bs rows i = owK sp rows i * (if owK sp rows i < 0 then bs[i].2 else bs[i].1) - sp[i].w * sp[i].l := by unfold termW; rw [ew, el, eb]
  refine ⟨pz, _, rfl, SqT.of h6, rfl, _, _, rfl, _, _, rfl, _, _, rfl, rfl, ?_⟩
  refine ⟨_, rfl, _, rfl, _, rfl, _, _, rfl, rfl, _, rfl, ?_⟩
  by_cases hneg : owK sp rows i < 0
  ·refine iteB (decide_eq_true hneg) ?_
   refine ⟨_, rfl, qb, _, _, _, rfl, rfl, SqT.of (S06 _ _ h1), atI_nat (j := 1) rfl, _, _, rfl, rfl, .inl ⟨by show -(2 ^ 64) < owK sp rows i; omega, by show owK sp rows i < 2 ^ 64; omega⟩, _, rfl, qz, _, _, _, rfl, rfl, SqT.of (S06 _ _ h2), atI_nat (j := 4) rfl, _, rfl, qz, _, _, _, rfl, rfl, SqT.of (S06 _ _ h2), atI_nat (j := 2) rfl, _, _, rfl, rfl, .inl ⟨by show -(2 ^ 64) < sp[i].w; omega, by show sp[i].w < 2 ^ 64; omega⟩, _, _, rfl, rfl, _, _, rfl, rfl, S6, v4, some (.int (owK sp rows i)), some (.ref qb), some (.ref qz), ?_⟩
   rw [sum_range, et, if_pos hneg, ← Int.add_assoc]; rfl
  ·refine iteC (decide_eq_false hneg) ?_
   refine ⟨_, rfl, qb, _, _, _, rfl, rfl, SqT.of (S06 _ _ h1), atI_nat (j := 0) rfl, _, _, rfl, rfl, .inl ⟨by show -(2 ^ 64) < owK sp rows i; omega, by show owK sp rows i < 2 ^ 64; omega⟩, _, rfl, qz, _, _, _, rfl, rfl, SqT.of (S06 _ _ h2), atI_nat (j := 4) rfl, _, rfl, qz, _, _, _, rfl, rfl, SqT.of (S06 _ _ h2), atI_nat (j := 2) rfl, _, _, rfl, rfl, .inl ⟨by show -(2 ^ 64) < sp[i].w; omega, by show sp[i].w < 2 ^ 64; omega⟩, _, _, rfl, rfl, _, _, rfl, rfl, S6, v4, some (.int (owK sp rows i)), some (.ref qb), some (.ref qz), ?_⟩
   rw [sum_range, et, if_neg hneg, ← Int.add_assoc]; rfl
 ·rintro σ H5 ⟨S5, v4, v5, v6, v7, rfl⟩
  refine ⟨_, rfl, ?_⟩
  have k1 := k H5 (S04.trans S5)
  unfold worthM at k1
  rw [List.length_map, lo]
  exact k1
end
end HN
namespace HN
open PySem L2 PyProof.Rows
abbrev sWhole : Stmt := top 1
abbrev sWithin : Stmt := top 2
section
variable {P : Program} {w : World} {K : PySem.W.Frag} {mg : Str → Option Value} {base : Heap}
theorem scWhole : FnScope ["thing"] ["thing"] (defScope sWhole) := ⟨rfl, rfl, rfl, by decide +kernel, rfl, by decide +kernel, by decide +kernel⟩
theorem ok_whole {f : Addr} {fd : FuncData} (F : Fun K "is_whole" "is_whole" sWhole f fd) (T : Nm mg) : FnOk P w K mg base CX0 1 f fd ["thing"] spWhole := by
 refine F.ok scWhole (fun vs H Q E h => by obtain ⟨v, rfl, _⟩ := h; rfl) (fun cdv A outer s H vs Q E hr h => ?_)
 obtain ⟨v, rfl, ⟨S, hS⟩, k⟩ := h
 refine ⟨_, pss_one (ps_ret (pe_and (pe_isInt T (pv 0)) (pe_one (pe_not (pe_isBool T (pv 0)))))), ?_⟩
 refine ⟨_, rfl, _, _, rfl, hS, _, rfl, ?_⟩
 refine ite2 (fun hc => ?_) (fun hc => ?_)
 ·refine ⟨_, rfl, _, _, rfl, hS, _, rfl, ?_⟩
  rw [sort_int hS hc]; exact k
 ·rw [← sort_noInt hS hc]; exact k
theorem scWithin : FnScope ["thing", "low", "high"] ["thing", "low", "high"] (defScope sWithin) := ⟨rfl, rfl, rfl, by decide +kernel, rfl, by decide +kernel, by decide +kernel⟩
theorem ok_within {f f1 : Addr} {fd fd1 : FuncData} (F : Fun K "is_within" "is_within" sWithin f fd) (T : Nm mg) (G1 : Fn K mg "is_whole" sWhole ["thing"] f1 fd1) : FnOk P w K mg base CX0 2 f fd ["thing", "low", "high"] spWithin := by
 have F1 : FnOk P w K mg base CX0 1 f1 fd1 ["thing"] spWhole := ok_whole G1.F T
 refine F.ok scWithin (fun vs H Q E h => by obtain ⟨v, lo, hi, rfl, _⟩ := h; rfl) (fun cdv A outer s H vs Q E hr h => ?_)
 obtain ⟨v, lo, hi, rfl, hS, k⟩ := h
 refine ⟨_, pss_one (ps_ret (pe_and (pc1 G1 F1 hr (pa_cons (pv 0) pa_nil)) (pe_one (pe_chain op_le op_le (pv 1) (pv 0) (pv 2))))), ?_⟩
 refine ⟨_, rfl, _, rfl, hS, _, rfl, ?_⟩
 refine ite2 (fun hc => ?_) (fun hc => ?_)
 ·obtain ⟨i, rfl⟩ := isI_of hc
  refine ⟨_, rfl, _, rfl, _, _, rfl, rfl, _, rfl, ?_⟩
  refine ite2 (fun h1 => ?_) (fun h1 => ?_)
  ·refine ⟨_, rfl, _, _, rfl, rfl, ?_⟩
   have e : inI (.int i) lo hi = decide (i ≤ hi) := by show (decide (lo ≤ i) && decide (i ≤ hi)) = _; rw [h1]; rfl
   show Q (.bl (decide (i ≤ hi))) H
   rw [← e]; exact k
  ·have e : inI (.int i) lo hi = false := by show (decide (lo ≤ i) && decide (i ≤ hi)) = _; rw [Bool.eq_false_iff.mpr h1]; rfl
   rw [← e]; exact k
 ·have e : inI v lo hi = false := by
   cases v with
   | int i => exact absurd rfl hc
   | _ => rfl
  rw [← e]; exact k
end
end HN
namespace HN
open PySem L2 PyProof.Rows
abbrev sFrom : Stmt := top 5
abbrev sTo : Stmt := top 6
section
variable {P : Program} {w : World} {K : PySem.W.Frag} {mg : Str → Option Value} {base : Heap}
theorem scFrom : FnScope ["net", "step", "span"] ["net", "step"] (defScope sFrom) := ⟨rfl, rfl, rfl, by decide +kernel, rfl, by decide +kernel, by decide +kernel⟩
theorem ok_from {f : Addr} {fd : FuncData} (F : Fun K "leads_from" "leads_from" sFrom f fd) : FnOk P w K mg base CX0 1 f fd ["net", "step"] spFrom := by
 refine F.ok scFrom (fun vs H Q E h => by obtain ⟨v, q, b, m, sp, s, x, rfl, _⟩ := h; rfl) (fun cdv A outer s0 H vs Q E hr h => ?_)
 obtain ⟨v, q, b, m, sp, s, x, rfl, hv, hq, hx, k⟩ := h
 obtain ⟨t, p, ys, rfl, ht, hp, hl, hy⟩ := netP_of hv
 obtain ⟨qx, hqx, hqx2⟩ := hy s.i x hx
 refine ⟨_, PSl.h (l_cons ⟨(ps_set (i := 2) scFrom.nd rfl (Or.inl rfl) (pe_ix ix_tup (pe_ix ix_tup (pv 0) pe_int (fun _ _ => rfl)) (pe_ix ix_tup (pv 1) pe_int (fun _ _ => rfl)) (fun _ _ => rfl)))⟩
  (l_one ⟨(ps_ret (pe_ifExp (pt_cmpR op_eq (pe_ix ix_tup (pv 1) pe_int (fun _ _ => rfl)) pe_int (nomark _)) (pe_ix ix_tup (pv 2) pe_int (fun _ _ => rfl)) (pe_ix ix_tup (pv 2) pe_int (fun _ _ => rfl))))⟩)), ?_⟩
 refine ⟨_, rfl, t, _, _, _, rfl, rfl, SqT.of ht, atI_nat (j := 2) rfl, _, rfl, q, _, _, _, rfl, rfl, SqT.of hq, atI_nat (j := 0) rfl, p, _, _, _, rfl, rfl, SqT.of hp, atI_nat (j := s.i) hqx, ?_⟩
 refine ⟨_, rfl, q, _, _, _, rfl, rfl, SqT.of hq, atI_nat (j := 1) rfl, rfl, _, rfl, ?_⟩
 refine ite2 (fun h1 => ?_) (fun h1 => ?_)
 ·have h1 : s.d = 1 := by have := of_decide_eq_true h1; injection this
  refine ⟨_, rfl, qx, _, _, _, rfl, rfl, SqT.of hqx2, atI_nat (j := 0) rfl, ?_⟩
  have e : frm x s.d = x.s := if_pos h1
  rw [← e]; exact k
 ·have h1 : s.d ≠ 1 := fun z => h1 (decide_eq_true (by rw [z]))
  refine ⟨_, rfl, qx, _, _, _, rfl, rfl, SqT.of hqx2, atI_nat (j := 1) rfl, ?_⟩
  have e : frm x s.d = x.g := if_neg h1
  rw [← e]; exact k
theorem scTo : FnScope ["net", "step", "span"] ["net", "step"] (defScope sTo) := ⟨rfl, rfl, rfl, by decide +kernel, rfl, by decide +kernel, by decide +kernel⟩
theorem ok_to {f : Addr} {fd : FuncData} (F : Fun K "leads_to" "leads_to" sTo f fd) : FnOk P w K mg base CX0 1 f fd ["net", "step"] spTo := by
 refine F.ok scTo (fun vs H Q E h => by obtain ⟨v, q, b, m, sp, s, x, rfl, _⟩ := h; rfl) (fun cdv A outer s0 H vs Q E hr h => ?_)
 obtain ⟨v, q, b, m, sp, s, x, rfl, hv, hq, hx, k⟩ := h
 obtain ⟨t, p, ys, rfl, ht, hp, hl, hy⟩ := netP_of hv
 obtain ⟨qx, hqx, hqx2⟩ := hy s.i x hx
 refine ⟨_, PSl.h (l_cons ⟨(ps_set (i := 2) scTo.nd rfl (Or.inl rfl) (pe_ix ix_tup (pe_ix ix_tup (pv 0) pe_int (fun _ _ => rfl)) (pe_ix ix_tup (pv 1) pe_int (fun _ _ => rfl)) (fun _ _ => rfl)))⟩
  (l_one ⟨(ps_ret (pe_ifExp (pt_cmpR op_eq (pe_ix ix_tup (pv 1) pe_int (fun _ _ => rfl)) pe_int (nomark _)) (pe_ix ix_tup (pv 2) pe_int (fun _ _ => rfl)) (pe_ix ix_tup (pv 2) pe_int (fun _ _ => rfl))))⟩)), ?_⟩
 refine ⟨_, rfl, t, _, _, _, rfl, rfl, SqT.of ht, atI_nat (j := 2) rfl, _, rfl, q, _, _, _, rfl, rfl, SqT.of hq, atI_nat (j := 0) rfl, p, _, _, _, rfl, rfl, SqT.of hp, atI_nat (j := s.i) hqx, ?_⟩
 refine ⟨_, rfl, q, _, _, _, rfl, rfl, SqT.of hq, atI_nat (j := 1) rfl, rfl, _, rfl, ?_⟩
 refine ite2 (fun h1 => ?_) (fun h1 => ?_)
 ·have h1 : s.d = 1 := by have := of_decide_eq_true h1; injection this
  refine ⟨_, rfl, qx, _, _, _, rfl, rfl, SqT.of hqx2, atI_nat (j := 1) rfl, ?_⟩
  have e : too x s.d = x.g := if_pos h1
  rw [← e]; exact k
 ·have h1 : s.d ≠ 1 := fun z => h1 (decide_eq_true (by rw [z]))
  refine ⟨_, rfl, qx, _, _, _, rfl, rfl, SqT.of hqx2, atI_nat (j := 0) rfl, ?_⟩
  have e : too x s.d = x.s := if_neg h1
  rw [← e]; exact k
end
end HN
namespace HN
open PySem L2 PyProof.Rows
abbrev sFirst : Stmt := top 9
section
variable {P : Program} {w : World} {K : PySem.W.Frag} {mg : Str → Option Value} {base : Heap}
theorem scFirst : FnScope ["net"] ["net"] (defScope sFirst) := ⟨rfl, rfl, rfl, by decide +kernel, rfl, by decide +kernel, by decide +kernel⟩
theorem ok_first {f : Addr} {fd : FuncData} (F : Fun K "first_bounds" "first_bounds" sFirst f fd) (T : Nm mg) : FnOk P w K mg base CX0 1 f fd ["net"] spFirst := by
 refine F.ok scFirst (fun vs H Q E h => by obtain ⟨v, b, m, sp, rfl, _⟩ := h; rfl) (fun cdv A outer s H vs Q E hr h => ?_)
 obtain ⟨v, b, m, sp, rfl, hv, few, k⟩ := h
 obtain ⟨t, p, ys, rfl, ht, hp, hl, hy⟩ := netP_of hv
 refine ⟨_, PSl.h (l_one ⟨(ps_ret (pe_callTy call_tupA rfl T.ttup boot_tuple (pa_cons (pe_comp (fr := []) (js := []) rfl (pi_tup (pe_ix ix_tup (pv 0) pe_int (fun _ _ => rfl))) (by decide +kernel) rfl (by decide +kernel) rfl (by show ∀ y : Str × NameKind, y ∈ _ → y.2 = NameKind.free → List.lookup y.1 (defScope sFirst).names = some NameKind.cell; decide +kernel) (by decide +kernel) rfl (by decide +kernel) (fun _ _ _ _ _ => ⟨(pe_tupA (pa_cons (pe_ix (r := rIxT K) ix_tup (pv 0) pe_int (fun _ _ => rfl)) (pa_cons (pe_ix (r := rIxT K) ix_tup (pv 0) pe_int (fun _ _ => rfl)) pa_nil))), pts_nil⟩)) pa_nil)))⟩), ?_⟩
 refine ⟨_, rfl, t, _, _, _, rfl, rfl, SqT.of ht, atI_nat (j := 2) rfl, p, rfl, ⟨_, SqT.of hp⟩, ?_⟩
 refine comp_tup (K := K) (a := p) (xs := ys) (fun i zs H2 => Same H H2 ∧ IsDs H2 zs (((sp.take i).map fun x => (x.l, x.o)).map fun x => .tup ((bndR x).map Dt.int))) ⟨Same.refl H, .nil⟩ (fun i zs H2 hi ⟨e1, e2⟩ => ?_) (by rw [hl]; exact small_le few) (fun i x zs H2 hx ⟨e1, e2⟩ => ?_) (fun zs H2 ⟨e1, e2⟩ D hD => ?_)
 ·refine ⟨SqT.of (e1 _ _ hp), ?_⟩
  rw [e2.length, List.length_map, List.length_map, List.length_take]; omega
 ·have hi : i < sp.length := by rw [← hl]; exact (List.getElem?_eq_some_iff.mp hx).1
  obtain ⟨q, hq, hq2⟩ := hy i sp[i] (gE hi)
  rw [hx] at hq
  cases hq
  have hq3 := e1 _ _ hq2
  refine tNoIf_go ?_
  refine ⟨_, rfl, q, _, _, _, rfl, rfl, SqT.of hq3, atI_nat (j := 2) rfl, _, rfl, q, _, _, _, rfl, rfl, SqT.of hq3, atI_nat (j := 3) rfl, (by show 2 ≤ sizeLine; decide), fun q4 H4 S4 h4 => ⟨e1.trans S4, ?_⟩⟩
  rw [List.take_add_one, gE hi, List.map_append, List.map_append]
  exact (e2.same S4).append (.cons (.tup h4 (IsDs.ints [sp[i].l, sp[i].o])) .nil)
 ·refine ⟨D, _, rfl, SqL.of upd_same, fun p3 H3 S3 h3 => ?_⟩
  have S23 := (Same.put (o := .lst zs) (Same.refl H2) hD).trans S3
  refine k (.ref p3) H3 (e1.trans S23) (.tup h3 ?_)
  rw [hl, List.take_length] at e2
  exact e2.same S23
end
end HN
namespace HN
open PySem L2 PyProof.Rows
abbrev sWithB : Stmt := top 21
abbrev sSides : Stmt := top 22
abbrev sLeavesIn : Stmt := top 23
theorem cutU {xs : List V} {i : Int} {n : Nat} (hi : i = (n : Int)) : cutV xs none (some i) = xs.take n := by
 unfold cutV
 subst hi
 have e := HT.sIx_nat xs.length xs.length n
 rw [e]
 show (xs.drop 0).take (min n xs.length - 0) = xs.take n
 rw [List.drop_zero, Nat.sub_zero]
 by_cases h : n ≤ xs.length
 ·rw [Nat.min_eq_left h]
 ·rw [Nat.min_eq_right (by omega), List.take_length, List.take_of_length_le (by omega)]
theorem cutF {xs : List V} {i : Int} {n : Nat} (hi : i = (n : Int)) : cutV xs (some i) none = xs.drop n := by
 unfold cutV
 subst hi
 have e := HT.sIx_nat xs.length 0 n
 rw [e]
 show (xs.drop (min n xs.length)).take (xs.length - min n xs.length) = xs.drop n
 by_cases h : n ≤ xs.length
 ·rw [Nat.min_eq_left h, List.take_of_length_le (by rw [List.length_drop]; omega)]
 ·rw [Nat.min_eq_right (by omega), List.drop_length, List.drop_of_length_le (by omega), List.take_nil]
def PlAt (H Hc : Hp) (y : V) (p : List (Int × Int) × Tq) : Prop := ∃ (q : Addr) (vb vd : V), y = .ref q ∧ Hc q = some (.tup [vb, vd]) ∧ IsD Hc vb (bndP p.1) ∧ IsD H vd (treeD p.2)
theorem PlAt.keep {H Hc Hd : Hp} {y : V} {p : List (Int × Int) × Tq} (h : PlAt H Hc y p) (e : TupK Hc Hd) : PlAt H Hd y p := by
 obtain ⟨q, vb, vd, a, b, c, d⟩ := h
 obtain ⟨pb, yb, rfl, hpb, _, rb⟩ := rows_of c
 exact ⟨q, _, vd, a, e _ _ b, .tup (e _ _ hpb) (rows_keep e rb), d⟩
inductive PlsAt (H Hc : Hp) : List V → List (List (Int × Int) × Tq) → Prop where
 | nil : PlsAt H Hc [] []
 | cons {y : V} {p : List (Int × Int) × Tq} {ys : List V} {ps : List (List (Int × Int) × Tq)} (h : PlAt H Hc y p) (r : PlsAt H Hc ys ps) : PlsAt H Hc (y :: ys) (p :: ps)
theorem PlsAt.keep {H Hc Hd : Hp} (e : TupK Hc Hd) : ∀ {ys : List V} {ps : List (List (Int × Int) × Tq)}, PlsAt H Hc ys ps → PlsAt H Hd ys ps
 | _, _, .nil => .nil
 | _, _, .cons h r => .cons (h.keep e) (PlsAt.keep e r)
theorem PlsAt.length {H Hc : Hp} : ∀ {ys : List V} {ps : List (List (Int × Int) × Tq)}, PlsAt H Hc ys ps → ys.length = ps.length
 | _, _, .nil => rfl
 | _, _, .cons _ r => by rw [List.length_cons, List.length_cons, r.length]
theorem PlsAt.data {H Hc : Hp} (e : Same H Hc) : ∀ {ys : List V} {ds : List (List (Int × Int) × Dt)}, PlsAt H Hc ys (ds.map fun p => (p.1, Tq.leaf p.2)) → IsDs Hc ys (ds.map plcD)
 | _, [], h => by cases h; exact .nil
 | _, d :: ds, h => by
  rw [List.map_cons] at h ⊢
  cases h with
  | cons h r =>
   obtain ⟨q, vb, vd, rfl, h2, h3, h4⟩ := h
   exact .cons (.tup h2 (.cons h3 (.cons (h4.same e) .nil))) (PlsAt.data e r)
theorem PlsAt.append {H Hc : Hp} : ∀ {ys zs : List V} {ps qs : List (List (Int × Int) × Tq)}, PlsAt H Hc ys ps → PlsAt H Hc zs qs → PlsAt H Hc (ys ++ zs) (ps ++ qs)
 | _, _, _, _, .nil, s => s
 | _, _, _, _, .cons h r, s => .cons h (PlsAt.append r s)
def lvsAll (ps : List (List (Int × Int) × Tq)) : List (List (Int × Int) × Dt) := (ps.map fun p => lvs p.2 p.1).flatten
def sizAll (ps : List (List (Int × Int) × Tq)) : Nat := (ps.map fun p => siz p.2).sum
structure LvJ (H Hc : Hp) (Ls Ah : Addr) (n : Nat) (st : List (List (Int × Int) × Tq)) (fo : List (List (Int × Int) × Dt)) : Prop where
 same : Same H Hc
 ls : ∃ ys, Hc Ls = some (.lst ys) ∧ PlsAt H Hc ys (fo.map fun p => (p.1, Tq.leaf p.2))
 ah : ∃ zs, Hc Ah = some (.lst zs.reverse) ∧ PlsAt H Hc zs st
 ok : ∀ p ∈ st, CutsOk p.2 p.1 ∧ p.1.length = n
section
variable {P : Program} {w : World} {K : PySem.W.Frag} {mg : Str → Option Value} {base : Heap}
theorem scWithB : FnScope ["bounds", "span", "low", "high"] ["bounds", "span", "low", "high"] (defScope sWithB) := ⟨rfl, rfl, rfl, by decide +kernel, rfl, by decide +kernel, by decide +kernel⟩
theorem ok_withB {f : Addr} {fd : FuncData} (F : Fun K "with_bound" "with_bound" sWithB f fd) : FnOk P w K mg base CX0 1 f fd ["bounds", "span", "low", "high"] spWithB := by
 refine F.ok scWithB (fun vs H Q E h => by obtain ⟨vb, k, lo, hi, bs, rfl, _⟩ := h; rfl) (fun cdv A outer s H vs Q E hr h => ?_)
 obtain ⟨vb, n, lo, hi, bs, rfl, hb, hn, few, k⟩ := h
 obtain ⟨pb, yb, rfl, hpb, hlb, rb⟩ := rows_of hb
 refine ⟨_, PSl.h (l_one ⟨(ps_ret (pe_op op_catA (pe_op op_catA (pe_slice sl_tupN (pv 0) po_none (po_some (pv 1))) (pe_tupA (pa_cons (pe_tupA (pa_cons (pv 2) (pa_cons (pv 3) pa_nil))) pa_nil))) (pe_slice sl_tupN (pv 0) (po_some (pe_op op_add (pv 1) pe_int)) po_none)))⟩), ?_⟩
 have lyb : yb.length ≤ 40 := by omega
 refine ⟨_, rfl, _, rfl, _, rfl, pb, _, rfl, hpb, fun qB HB SB hB => ⟨_, rfl, _, rfl, (by show 2 ≤ sizeLine; decide), fun q1 H1 S1 h1 => ⟨(by show 1 ≤ sizeLine; decide), fun qC HC SC hC => ?_⟩⟩⟩
 rw [cutU (n := n) rfl] at hB
 refine ⟨qB, qC, _, _, rfl, rfl, SC _ _ (S1 _ _ hB), hC, ?_, fun qD HD SD hD => ?_⟩
 ·rw [List.length_take]; exact Nat.le_trans (by show min n yb.length + 1 ≤ 1000; omega) (by decide)
 refine ⟨_, rfl, _, rfl, _, _, rfl, rfl, _, rfl, pb, _, rfl, SD _ _ (SC _ _ (S1 _ _ (SB _ _ hpb))), fun qE HE SE hE => ?_⟩
 rw [cutF (n := n + 1) (by omega)] at hE
 refine ⟨qD, qE, _, _, rfl, rfl, SE _ _ hD, hE, ?_, fun qF HF SF hF => ?_⟩
 ·rw [List.length_append, List.length_take, List.length_drop]; exact Nat.le_trans (by show min n yb.length + 1 + (yb.length - (n + 1)) ≤ 1000; omega) (by decide)
 have S1F : Same H1 HF := SC.trans (SD.trans (SE.trans SF))
 have SF' : Same H HF := SB.trans (S1.trans S1F)
 refine k (.ref qF) HF SF' (.tup hF ?_)
 have e : bs.set n (lo, hi) = bs.take n ++ [(lo, hi)] ++ bs.drop (n + 1) := by
  rw [List.set_eq_take_append_cons_drop, if_pos hn, List.append_assoc]; rfl
 rw [e, List.map_append, List.map_append, List.map_take, List.map_drop]
 exact ((IsDs.takeN n (rb.same SF')).append (.cons (.tup (S1F _ _ h1) (IsDs.ints [lo, hi])) .nil)).append (IsDs.dropN (n + 1) (rb.same SF'))
theorem scSides : FnScope ["bounds", "cut", "span", "at", "low", "high", "one", "other"] ["bounds", "cut"] (defScope sSides) := ⟨rfl, rfl, rfl, by decide +kernel, rfl, by decide +kernel, by decide +kernel⟩
theorem ok_sides {f f1 : Addr} {fd fd1 : FuncData} (F : Fun K "sides_of" "sides_of" sSides f fd) (G1 : Fn K mg "with_bound" sWithB ["bounds", "span", "low", "high"] f1 fd1) : FnOk P w K mg base CX0 2 f fd ["bounds", "cut"] spSides := by
 have F1 : FnOk P w K mg base CX0 1 f1 fd1 ["bounds", "span", "low", "high"] spWithB := ok_withB G1.F
 refine F.ok scSides (fun vs H Q E h => by obtain ⟨vb, c, bs, k, a, x3, x4, rfl, _⟩ := h; rfl) (fun cdv A outer s H vs Q E hr h => ?_)
 obtain ⟨vb, p, bs, n, a, x3, x4, rfl, hb, hp, hn, few, k⟩ := h
 obtain ⟨pb, yb, rfl, hpb, hlb, rb⟩ := rows_of hb
 obtain ⟨qn, hqn, hqn2⟩ := rows_at rb (gE hn)
 have e0 : bs.getD n (0, 0) = bs[n] := by rw [List.getD_eq_getElem?_getD, gE hn]; rfl
 have e1 : oneB bs n a = bs.set n (bs[n].1, a) := by unfold oneB; rw [e0]
 have e2 : otherB bs n a = bs.set n (a + 1, bs[n].2) := by unfold otherB; rw [e0]
 refine ⟨_, PSl.h (l_cons ⟨(ps_set (i := 2) scSides.nd rfl (Or.inl rfl) (pe_ix ix_tup (pv 1) pe_int (fun _ _ => rfl)))⟩
  (l_cons ⟨(ps_set (i := 3) scSides.nd rfl (Or.inl rfl) (pe_ix ix_tup (pv 1) pe_int (fun _ _ => rfl)))⟩
  (l_cons ⟨(ps_set (i := 4) scSides.nd rfl (Or.inl rfl) (pe_ix ix_tup (pe_ix ix_tup (pv 0) (pv 2) (fun _ _ => rfl)) pe_int (fun _ _ => rfl)))⟩
  (l_cons ⟨(ps_set (i := 5) scSides.nd rfl (Or.inl rfl) (pe_ix ix_tup (pe_ix ix_tup (pv 0) (pv 2) (fun _ _ => rfl)) pe_int (fun _ _ => rfl)))⟩
  (l_cons ⟨(ps_set (i := 6) scSides.nd rfl (Or.inl rfl) (pe_tupA (pa_cons (pc1 G1 F1 hr (pa_cons (pv 0) (pa_cons (pv 2) (pa_cons (pv 4) (pa_cons (pv 3) pa_nil))))) (pa_cons (pe_ix ix_tup (pv 1) pe_int (fun _ _ => rfl)) pa_nil))))⟩
  (l_cons ⟨(ps_set (i := 7) scSides.nd rfl (Or.inl rfl) (pe_tupA (pa_cons (pc1 G1 F1 hr (pa_cons (pv 0) (pa_cons (pv 2) (pa_cons (pe_op op_add (pv 3) pe_int) (pa_cons (pv 5) pa_nil))))) (pa_cons (pe_ix ix_tup (pv 1) pe_int (fun _ _ => rfl)) pa_nil))))⟩
  (l_one ⟨(ps_ret (pe_tupA (pa_cons (pv 6) (pa_cons (pv 7) pa_nil))))⟩))))))), ?_⟩
 refine ⟨_, rfl, p, _, _, _, rfl, rfl, SqT.of hp, atI_nat (j := 1) rfl, ?_⟩
 refine ⟨_, rfl, p, _, _, _, rfl, rfl, SqT.of hp, atI_nat (j := 2) rfl, ?_⟩
 refine ⟨_, rfl, _, rfl, pb, _, _, _, rfl, rfl, SqT.of hpb, atI_nat (j := n) hqn, qn, _, _, _, rfl, rfl, SqT.of hqn2, atI_nat (j := 0) rfl, ?_⟩
 refine ⟨_, rfl, _, rfl, pb, _, _, _, rfl, rfl, SqT.of hpb, atI_nat (j := n) hqn, qn, _, _, _, rfl, rfl, SqT.of hqn2, atI_nat (j := 1) rfl, ?_⟩
 refine ⟨_, rfl, _, rfl, _, rfl, _, rfl, .ref pb, n, bs[n].1, a, bs, rfl, hb, hn, few, fun u1 H1 S1 hu1 => ?_⟩
 refine ⟨_, rfl, p, _, _, _, rfl, rfl, SqT.of (S1 _ _ hp), atI_nat (j := 3) rfl, (by show 2 ≤ sizeLine; decide), fun q2 H2 S2 h2 => ?_⟩
 have S02 := S1.trans S2
 refine ⟨_, rfl, _, rfl, _, rfl, _, _, rfl, rfl, _, rfl, .ref pb, n, a + 1, bs[n].2, bs, rfl, hb.same S02, hn, few, fun u3 H3 S3 hu3 => ?_⟩
 refine ⟨_, rfl, p, _, _, _, rfl, rfl, SqT.of (S3 _ _ (S02 _ _ hp)), atI_nat (j := 4) rfl, (by show 2 ≤ sizeLine; decide), fun q4 H4 S4 h4 => ?_⟩
 refine ⟨_, rfl, _, rfl, (by show 2 ≤ sizeLine; decide), fun q5 H5 S5 h5 => ?_⟩
 have S15 : Same H2 H5 := S3.trans (S4.trans S5)
 refine k q5 q2 q4 u1 u3 H5 (S02.trans S15) h5 (S15 _ _ h2) ?_ (S5 _ _ h4) ?_
 ·rw [e1]; exact (hu1.same S2).same S15
 ·rw [e2]; exact (hu3.same S4).same S5
end
end HN
namespace HN
open PySem L2 PyProof.Rows
abbrev sLeavesL : Stmt := top 50
def HdOk (d : Dt) : Prop := ∃ w ds, d = .tup (.str w :: ds) ∧ w ≠ "cut"
def HdsOk : Tq → Prop
 | .leaf d => HdOk d
 | .cut _ _ x y => HdsOk x ∧ HdsOk y
theorem leaf_hd (l : Lf) : HdOk (leafP l) := by
 cases l with
 | ring ws => exact ⟨"ring", _, rfl, by decide⟩
 | price rows => exact ⟨"price", _, rfl, by decide⟩
def InsT : Tq → List (Int × Int) → Prop
 | .leaf _, _ => True
 | .cut k a x y, bs => k < bs.length ∧ InsT x (oneB bs k a) ∧ InsT y (otherB bs k a)
def spLeavesL (dd : Nat) : Sp := fun vs H Q _ => ∃ (u vb : V) (t : Tq) (bs : List (Int × Int)), vs = [u, vb] ∧ dpT t < dd ∧ siz t ≤ 400 ∧ IsD H u (treeD t) ∧ HdsOk t ∧ InsT t bs ∧ IsD H vb (bndP bs) ∧ bs.length ≤ 40 ∧
 ∀ R ys H', Same H H' → H' R = some (.lst ys) → IsDs H' ys ((lvs t bs).map plcD) → Q (.ref R) H'
section
variable {P : Program} {w : World} {K : PySem.W.Frag} {mg : Str → Option Value} {base : Heap}
theorem scLeavesL : FnScope ["_law_tree_here", "_law_bounds_here", "_law_k", "_law_one", "_law_other"] ["_law_tree_here", "_law_bounds_here"] (defScope sLeavesL) := ⟨rfl, rfl, rfl, by decide +kernel, rfl, by decide +kernel, by decide +kernel⟩
theorem ok_leavesL0 {f : Addr} {fd : FuncData} : FnOk P w K mg base CX0 0 f fd ["_law_tree_here", "_law_bounds_here"] (spLeavesL 0) :=
 ⟨fun vs H Q E h => by obtain ⟨u, vb, t, bs, rfl, _⟩ := h; rfl, fun A outer s H args us vs Q E _ _ _ _ h => by
  obtain ⟨u, vb, t, bs, _, h0, _⟩ := h
  exact absurd h0 (Nat.not_lt_zero _)⟩
theorem ok_leavesL1 {dd : Nat} {f : Addr} {fd : FuncData} (G1 : Fn K mg "_law_leaves" sLeavesL ["_law_tree_here", "_law_bounds_here"] f fd) (F1 : FnOk P w K mg base CX0 dd f fd ["_law_tree_here", "_law_bounds_here"] (spLeavesL dd)) : FnOk P w K mg base CX0 (dd + 1) f fd ["_law_tree_here", "_law_bounds_here"] (spLeavesL (dd + 1)) := by
 refine G1.F.ok scLeavesL (fun vs H Q E h => by obtain ⟨u, vb, t, bs, rfl, _⟩ := h; rfl) (fun cdv A outer s H vs Q E hr h => ?_)
 obtain ⟨u, vb, t, bs, rfl, hdd, hdd7, hu, hhd, hin, hvb, few, k⟩ := h
 refine ⟨_, PSl.h (l_cons ⟨(ps_if (pt_cmpR op_ne (pe_ix ix_tup (pv 0) pe_int (fun _ _ => rfl)) pe_str (nomark _)) (pss_one (ps_ret (pe_lstA (pa_cons (pe_tupA (pa_cons (pv 1) (pa_cons (pv 0) pa_nil))) pa_nil)))) pss_nil)⟩
  (l_cons ⟨(ps_set (i := 2) scLeavesL.nd rfl (Or.inl rfl) (pe_ix ix_tup (pv 0) pe_int (fun _ _ => rfl)))⟩
  (l_cons ⟨(ps_set (i := 3) scLeavesL.nd rfl (Or.inl rfl) (pe_op op_catA (pe_op op_catA (pe_slice sl_tupN (pv 1) po_none (po_some (pv 2))) (pe_tupA (pa_cons (pe_tupA (pa_cons (pe_ix ix_tup (pe_ix ix_tup (pv 1) (pv 2) (fun _ _ => rfl)) pe_int (fun _ _ => rfl)) (pa_cons (pe_ix ix_tup (pv 0) pe_int (fun _ _ => rfl)) pa_nil))) pa_nil))) (pe_slice sl_tupN (pv 1) (po_some (pe_op op_add (pv 2) pe_int)) po_none)))⟩
  (l_cons ⟨(ps_set (i := 4) scLeavesL.nd rfl (Or.inl rfl) (pe_op op_catA (pe_op op_catA (pe_slice sl_tupN (pv 1) po_none (po_some (pv 2))) (pe_tupA (pa_cons (pe_tupA (pa_cons (pe_op op_add (pe_ix ix_tup (pv 0) pe_int (fun _ _ => rfl)) pe_int) (pa_cons (pe_ix ix_tup (pe_ix ix_tup (pv 1) (pv 2) (fun _ _ => rfl)) pe_int (fun _ _ => rfl)) pa_nil))) pa_nil))) (pe_slice sl_tupN (pv 1) (po_some (pe_op op_add (pv 2) pe_int)) po_none)))⟩
  (l_one ⟨(ps_ret (pe_op op_catL (pc1 G1 F1 hr (pa_cons (pe_ix ix_tup (pv 0) pe_int (fun _ _ => rfl)) (pa_cons (pv 3) pa_nil))) (pc1 G1 F1 hr (pa_cons (pe_ix ix_tup (pv 0) pe_int (fun _ _ => rfl)) (pa_cons (pv 4) pa_nil)))))⟩))))), ?_⟩
 cases t with
 | leaf d =>
  obtain ⟨z, ds, rfl, hz⟩ := hhd
  obtain ⟨p, xs, rfl, hp, rx⟩ := IsD.tup_of (show IsD H u (.tup (.str z :: ds)) from hu)
  cases rx with
  | cons r0 rr =>
   cases r0
   refine ⟨_, rfl, p, _, _, _, rfl, rfl, SqT.of hp, atI_nat (j := 0) rfl, rfl, _, rfl, ?_⟩
   refine iteB (by rw [decide_eq_false (fun e => hz (by injection e))]; rfl) ?_
   refine ⟨_, rfl, _, rfl, (by show 2 ≤ sizeLine; decide), fun q1 H1 S1 h1 => ⟨(by show 1 ≤ sizeLine; decide), fun q2 H2 S2 h2 => ?_⟩⟩
   have S02 := S1.trans S2
   exact k q2 _ H2 S02 h2 (.cons (.tup (S2 _ _ h1) (.cons (hvb.same S02) (.cons (hu.same S02) .nil))) .nil)
 | cut kk a x y =>
  obtain ⟨i1, i2, i3⟩ := hin
  obtain ⟨p, xs, rfl, hp, rx⟩ := IsD.tup_of (show IsD H u (.tup [.str "cut", .int (kk : Nat), .int a, treeD x, treeD y]) from hu)
  cases rx with
  | cons g0 gr => cases gr with
   | cons g1 gr => cases gr with
    | cons g2 gr => cases gr with
     | cons g3 gr => cases gr with
      | cons g4 gr =>
       cases gr
       cases g0
       cases g1
       cases g2
       rename_i x3 x4
       obtain ⟨pb, yb, rfl, hpb, lyb, rb⟩ := rows_of hvb
       obtain ⟨qn, hqn, hqn2⟩ := rows_at rb (gE i1)
       have e0 : bs.getD kk (0, 0) = bs[kk] := by rw [List.getD_eq_getElem?_getD, gE i1]; rfl
       refine ⟨_, rfl, p, _, _, _, rfl, rfl, SqT.of hp, atI_nat (j := 0) rfl, rfl, _, rfl, iteC (by decide) ?_⟩
       refine ⟨_, rfl, p, _, _, _, rfl, rfl, SqT.of hp, atI_nat (j := 1) rfl, ?_⟩
       refine ⟨_, rfl, _, rfl, _, rfl, pb, _, rfl, hpb, fun qB HB SB hB => ⟨_, rfl, _, rfl, pb, _, _, _, rfl, rfl, SqT.of (SB _ _ hpb), atI_nat (j := kk) hqn, qn, _, _, _, rfl, rfl, SqT.of (SB _ _ hqn2), atI_nat (j := 0) rfl, _, rfl, p, _, _, _, rfl, rfl, SqT.of (SB _ _ hp), atI_nat (j := 2) rfl, (by show 2 ≤ sizeLine; decide), fun q1 H1 S1 h1 => ⟨(by show 1 ≤ sizeLine; decide), fun qC HC SC hC => ?_⟩⟩⟩
       rw [cutU (n := kk) (by omega)] at hB
       refine ⟨qB, qC, _, _, rfl, rfl, SC _ _ (S1 _ _ hB), hC, ?_, fun qD HD SD hD => ?_⟩
       ·rw [List.length_take]; exact Nat.le_trans (by show min kk yb.length + 1 ≤ 1000; omega) (by decide)
       refine ⟨_, rfl, _, rfl, _, _, rfl, rfl, _, rfl, pb, _, rfl, SD _ _ (SC _ _ (S1 _ _ (SB _ _ (hpb)))), fun qE HE SE hE => ?_⟩
       rw [cutF (n := kk + 1) (by omega)] at hE
       refine ⟨qD, qE, _, _, rfl, rfl, SE _ _ hD, hE, ?_, fun qa H2 SF hF => ?_⟩
       ·rw [List.length_append, List.length_take, List.length_drop]; exact Nat.le_trans (by show min kk yb.length + 1 + (yb.length - (kk + 1)) ≤ 1000; omega) (by decide)
       have S1F : Same H1 H2 := SC.trans (SD.trans (SE.trans SF))
       have S2 : Same H H2 := SB.trans (S1.trans S1F)
       have hb2 : IsD H2 (.ref qa) (bndP (bs.set kk (bs[kk].1, a))) := by
        refine .tup hF ?_
        rw [set_cat i1, List.map_append, List.map_append, List.map_take, List.map_drop]
        exact ((IsDs.takeN kk (rb.same S2)).append (.cons (.tup (S1F _ _ h1) (IsDs.ints [bs[kk].1, a])) .nil)).append (IsDs.dropN (kk + 1) (rb.same S2))
       clear hB hC hD hE hF h1 SB SC SD SE SF S1 S1F
       refine ⟨_, rfl, _, rfl, _, rfl, pb, _, rfl, S2 _ _ hpb, fun qB HB SB hB => ⟨_, rfl, p, _, _, _, rfl, rfl, SqT.of (SB _ _ (S2 _ _ hp)), atI_nat (j := 2) rfl, _, _, rfl, rfl, _, rfl, _, rfl, pb, _, _, _, rfl, rfl, SqT.of (SB _ _ (S2 _ _ hpb)), atI_nat (j := kk) hqn, qn, _, _, _, rfl, rfl, SqT.of (SB _ _ (S2 _ _ hqn2)), atI_nat (j := 1) rfl, (by show 2 ≤ sizeLine; decide), fun q1 H1 S1 h1 => ⟨(by show 1 ≤ sizeLine; decide), fun qC HC SC hC => ?_⟩⟩⟩
       rw [cutU (n := kk) (by omega)] at hB
       refine ⟨qB, qC, _, _, rfl, rfl, SC _ _ (S1 _ _ hB), hC, ?_, fun qD HD SD hD => ?_⟩
       ·rw [List.length_take]; exact Nat.le_trans (by show min kk yb.length + 1 ≤ 1000; omega) (by decide)
       refine ⟨_, rfl, _, rfl, _, _, rfl, rfl, _, rfl, pb, _, rfl, SD _ _ (SC _ _ (S1 _ _ (SB _ _ (S2 _ _ hpb)))), fun qE HE SE hE => ?_⟩
       rw [cutF (n := kk + 1) (by omega)] at hE
       refine ⟨qD, qE, _, _, rfl, rfl, SE _ _ hD, hE, ?_, fun qF HF SF hF => ?_⟩
       ·rw [List.length_append, List.length_take, List.length_drop]; exact Nat.le_trans (by show min kk yb.length + 1 + (yb.length - (kk + 1)) ≤ 1000; omega) (by decide)
       have S1F : Same H1 HF := SC.trans (SD.trans (SE.trans SF))
       have SF' : Same H2 HF := SB.trans (S1.trans S1F)
       have hbF : IsD HF (.ref qF) (bndP (bs.set kk (a + 1, bs[kk].2))) := by
        refine .tup hF ?_
        rw [set_cat i1, List.map_append, List.map_append, List.map_take, List.map_drop]
        exact ((IsDs.takeN kk ((rb.same S2).same SF')).append (.cons (.tup (S1F _ _ h1) (IsDs.ints [a + 1, bs[kk].2])) .nil)).append (IsDs.dropN (kk + 1) ((rb.same S2).same SF'))
       clear hB hC hD hE hF h1 SB SC SD SE SF S1 S1F
       have S6 := S2.trans SF'
       have hd2 : max (dpT x) (dpT y) + 1 < dd + 1 := hdd
       have hz2 : siz x + siz y + 1 ≤ 400 := hdd7
       have bl1 : IsD HF (.ref qa) (bndP (oneB bs kk a)) := by unfold oneB; rw [e0]; exact hb2.same SF'
       have bl2 : IsD HF (.ref qF) (bndP (otherB bs kk a)) := by unfold otherB; rw [e0]; exact hbF
       refine ⟨_, rfl, p, _, _, _, rfl, rfl, SqT.of (S6 _ _ hp), atI_nat (j := 3) rfl, _, rfl, x3, .ref qa, x, oneB bs kk a, rfl, by omega, by omega, g3.same S6, hhd.1, i2, bl1, by rw [one_len]; exact few, fun R1 y1 H7 S7 h7 d7 => ?_⟩
       refine ⟨_, rfl, p, _, _, _, rfl, rfl, SqT.of (S7 _ _ (S6 _ _ hp)), atI_nat (j := 4) rfl, _, rfl, x4, .ref qF, y, otherB bs kk a, rfl, by omega, by omega, (g4.same S6).same S7, hhd.2, i3, bl2.same S7, by rw [other_len]; exact few, fun R2 y2 H8 S8 h8 d8 => ?_⟩
       have n1 := lvs_siz x (oneB bs kk a)
       have n2 := lvs_siz y (otherB bs kk a)
       have v1 := d7.length
       have v2 := d8.length
       rw [List.length_map] at v1 v2
       refine ⟨R1, R2, _, _, rfl, rfl, S8 _ _ h7, h8, Nat.le_trans (by omega : y1.length + y2.length ≤ 1000) (by decide), fun q9 H9 S9 h9 => k q9 _ H9 (S6.trans (S7.trans (S8.trans S9))) h9 ?_⟩
       show IsDs H9 (y1 ++ y2) ((lvs x (oneB bs kk a) ++ lvs y (otherB bs kk a)).map plcD)
       rw [List.map_append]
       exact (d7.same (S8.trans S9)).append (d8.same S9)
theorem ok_leavesL {f : Addr} {fd : FuncData} (G1 : Fn K mg "_law_leaves" sLeavesL ["_law_tree_here", "_law_bounds_here"] f fd) : ∀ dd, FnOk P w K mg base CX0 dd f fd ["_law_tree_here", "_law_bounds_here"] (spLeavesL dd)
 | 0 => ok_leavesL0
 | dd + 1 => ok_leavesL1 G1 (ok_leavesL G1 dd)
end
end HN
namespace HN
open PySem L2 PyProof.Rows
abbrev sStep : Stmt := top 4
abbrev sWay : Stmt := top 7
abbrev sRing : Stmt := top 8
theorem cut_one {xs : List V} : cutV xs (some 1) none = xs.drop 1 := by
 unfold cutV
 cases xs with
 | nil => rfl
 | cons x xs =>
  have e1 : HT.sIx (x :: xs).length 0 (some 1) = 1 := by
   have := HT.sIx_nat (x :: xs).length 0 1
   rw [show ((1 : Nat) : Int) = 1 from rfl] at this
   rw [this, List.length_cons]; omega
  rw [e1]
  show ((x :: xs).drop 1).take ((x :: xs).length - 1) = _
  rw [List.take_of_length_le (by simp)]
section
variable {P : Program} {w : World} {K : PySem.W.Frag} {mg : Str → Option Value} {base : Heap}
theorem scStep : FnScope ["net", "thing"] ["net", "thing"] (defScope sStep) := ⟨rfl, rfl, rfl, by decide +kernel, rfl, by decide +kernel, by decide +kernel⟩
theorem ok_step {f f1 f2 : Addr} {fd fd1 fd2 : FuncData} (F : Fun K "is_step" "is_step" sStep f fd) (T : Nm mg) (G1 : Fn K mg "is_within" sWithin ["thing", "low", "high"] f1 fd1) (G2 : Fn K mg "is_whole" sWhole ["thing"] f2 fd2) : FnOk P w K mg base CX0 3 f fd ["net", "thing"] spStep := by
 have F1 : FnOk P w K mg base CX0 2 f1 fd1 ["thing", "low", "high"] spWithin := ok_within G1.F T G2
 refine F.ok scStep (fun vs H Q E h => by obtain ⟨v, u, b, m, sp, d, rfl, _⟩ := h; rfl) (fun cdv A outer s H vs Q E hr h => ?_)
 obtain ⟨v, u, b, m, sp, d, rfl, hv, hd, k⟩ := h
 obtain ⟨t, pn, ys, rfl, ht, hpn, hl, hy⟩ := netP_of hv
 refine ⟨_, PSl.h (l_cons ⟨(ps_if (PW.pt (pw_or (pt_not (pt_val (pe_isTup T (pv 1)))) (pw_or1 (pt_cmpR op_ne (pe_callB call_len_seq rfl T.len PySem.boot_len (pa_cons (pv 1) pa_nil)) pe_int (nomark _))))) (pss_one (ps_ret pe_bl)) pss_nil)⟩
  (l_cons ⟨(ps_if (pt_not (pt_val (pc1 G1 F1 hr (pa_cons (pe_ix ix_tup (pv 1) pe_int (fun _ _ => rfl)) (pa_cons pe_int (pa_cons (pe_op op_sub (pe_callB call_len_seq rfl T.len PySem.boot_len (pa_cons (pe_ix ix_tup (pv 0) pe_int (fun _ _ => rfl)) pa_nil)) pe_int) pa_nil)))))) (pss_one (ps_ret pe_bl)) pss_nil)⟩
  (l_one ⟨(ps_ret (pe_and (pc1 G1 F1 hr (pa_cons (pe_ix ix_tup (pv 1) pe_int (fun _ _ => rfl)) (pa_cons (pe_un un_neg pe_int) (pa_cons pe_int pa_nil)))) (pe_one (pe_cmpR op_ne (pe_ix ix_tup (pv 1) pe_int (fun _ _ => rfl)) pe_int (nomark _)))))⟩))), ?_⟩
 by_cases hT : d.ty = "tuple"
 ·obtain ⟨ds, rfl⟩ : ∃ ds, d = .tup ds := by
   cases d with
   | tup ds => exact ⟨ds, rfl⟩
   | oth T => cases hd <;> simp [Dt.ty] at hT
   | _ => simp [Dt.ty] at hT
  obtain ⟨p, xs, rfl, hp, rx⟩ := hd.tup_of
  have lx := rx.length
  refine ⟨_, rfl, _, _, rfl, hd.tyn, _, rfl, iteC rfl ?_⟩
  refine ⟨_, rfl, p, _, rfl, .inr (SqT.of hp), rfl, _, rfl, ?_⟩
  by_cases h2 : ds.length = 2
  ·refine iteC (by rw [lx, h2]; rfl) ?_
   obtain ⟨d0, d1, rfl⟩ : ∃ a b, ds = [a, b] := by
    match ds, h2 with
    | [a, b], _ => exact ⟨a, b, rfl⟩
   cases rx with
   | cons r0 rr =>
    cases rr with
    | cons r1 rr =>
     cases rr
     rename_i x0 x1
     have e : stepB sp.length (.tup [d0, d1]) = (inD d0 0 ((sp.length : Int) - 1) && (inD d1 (-1) 1 && !(match d1 with | .int k => decide (k = 0) | _ => false))) := by
      unfold stepB
      cases d0 <;> cases d1 <;> first | rfl | skip
      all_goals try (simp [stepD, inD]; done)
      rename_i i j
      show (if 0 ≤ i ∧ i ≤ (sp.length : Int) - 1 ∧ (j = 1 ∨ j = -1) then some (⟨i.toNat, j⟩ : Stp) else none).isSome = ((decide (0 ≤ i) && decide (i ≤ (sp.length : Int) - 1)) && ((decide (-1 ≤ j) && decide (j ≤ 1)) && !decide (j = 0)))
      by_cases c1 : 0 ≤ i ∧ i ≤ (sp.length : Int) - 1 ∧ (j = 1 ∨ j = -1)
      ·rw [if_pos c1, decide_eq_true c1.1, decide_eq_true c1.2.1, decide_eq_true (by omega : -1 ≤ j), decide_eq_true (by omega : j ≤ 1), decide_eq_false (by omega : ¬ j = 0)]; rfl
      ·rw [if_neg c1]
       symm
       show _ = false
       rw [Bool.eq_false_iff]
       intro z
       simp only [Bool.and_eq_true, decide_eq_true_eq, Bool.not_eq_true', decide_eq_false_iff_not] at z
       exact c1 ⟨z.1.1, z.1.2, by omega⟩
     rw [e] at k
     refine ⟨_, rfl, p, _, _, _, rfl, rfl, SqT.of hp, atI_nat (j := 0) rfl, _, rfl, t, _, _, _, rfl, rfl, SqT.of ht, atI_nat (j := 2) rfl, pn, _, rfl, .inr (SqT.of hpn), _, _, rfl, rfl, x0, 0, _, rfl, ⟨_, r0.tyn⟩, _, rfl, ?_⟩
     rw [hl, inI_inD _ _ r0]
     cases q0 : inD d0 0 ((sp.length : Int) - 1) with
     | false => rw [q0] at k; exact iteT k
     | true =>
      rw [q0, Bool.true_and] at k
      refine iteF ?_
      refine ⟨_, rfl, p, _, _, _, rfl, rfl, SqT.of hp, atI_nat (j := 1) rfl, _, rfl, x1, -1, 1, rfl, ⟨_, r1.tyn⟩, _, rfl, ?_⟩
      rw [inI_inD _ _ r1]
      cases q1 : inD d1 (-1) 1 with
      | false => rw [q1] at k; exact iteF k
      | true =>
       rw [q1, Bool.true_and] at k
       obtain ⟨kk, rfl⟩ : ∃ kk, d1 = .int kk := by
        cases d1 with
        | int kk => exact ⟨kk, rfl⟩
        | _ => simp [inD] at q1
       have ex := r1.int_of
       subst ex
       refine iteT ⟨_, rfl, p, _, _, _, rfl, rfl, SqT.of hp, atI_nat (j := 1) rfl, rfl, ?_⟩
       have e3 : (!decide (V.int kk = V.int 0)) = !(decide (kk = 0)) := by
        congr 1
        exact decide_eq_decide.mpr ⟨fun z => by injection z, fun z => by rw [z]⟩
       rw [e3]; exact k
  ·refine iteB ?_ ?_
   ·rw [lx, decide_eq_false (fun z => h2 (by injection z with z; omega))]; rfl
   ·have e : stepB sp.length (.tup ds) = false := stepB_len h2
    rw [← e]; exact k
 ·refine ⟨_, rfl, _, _, rfl, hd.tyn, _, rfl, iteB ?_ ?_⟩
  ·have : (d.ty == "tuple") = false := by simpa using hT
   rw [this]; rfl
  ·have e : stepB sp.length d = false := by
    cases d with
    | tup ds => exact absurd rfl hT
    | _ => rfl
   rw [← e]; exact k
theorem scWay : FnScope ["net", "thing"] ["net", "thing"] (defScope sWay) := ⟨rfl, rfl, rfl, by decide +kernel, rfl, by decide +kernel, by decide +kernel⟩
theorem ok_way {f f1 f2 f3 : Addr} {fd fd1 fd2 fd3 : FuncData} (F : Fun K "is_way" "is_way" sWay f fd) (T : Nm mg) (T2 : Nt mg) (G1 : Fn K mg "is_step" sStep ["net", "thing"] f1 fd1) (F1 : FnOk P w K mg base CX0 3 f1 fd1 ["net", "thing"] spStep) (G2 : Fn K mg "leads_from" sFrom ["net", "step"] f2 fd2) (G3 : Fn K mg "leads_to" sTo ["net", "step"] f3 fd3) : FnOk P w K mg base CX0 4 f fd ["net", "thing"] spWayP := by
 have F2 : FnOk P w K mg base CX0 1 f2 fd2 ["net", "step"] spFrom := ok_from G2.F
 have F3 : FnOk P w K mg base CX0 1 f3 fd3 ["net", "step"] spTo := ok_to G3.F
 refine F.ok scWay (fun vs H Q E h => by obtain ⟨v, u, b, m, sp, d, rfl, _⟩ := h; rfl) (fun cdv A outer s H vs Q E hr h => ?_)
 obtain ⟨v, u, b, m, sp, d, rfl, hv, hd, fine, k⟩ := h
 have hr1 : Room 1 _ := hr.mono (by decide)
 refine ⟨_, PSl.h (l_cons ⟨(ps_if (PW.pt (pw_or (pt_not (pt_val (pe_isTup T (pv 1)))) (pw_or1 (pt_cmpR op_eq (pe_callB call_len_seq rfl T.len PySem.boot_len (pa_cons (pv 1) pa_nil)) pe_int (nomark _))))) (pss_one (ps_ret pe_bl)) pss_nil)⟩
  (l_cons ⟨(ps_if (pt_not (pt_val (pe_callB (call_all rfl) rfl T.all boot_all (pa_cons (pe_comp (fr := ["net"]) (js := [0]) rfl (pi_tup (pv 1)) (by decide +kernel) rfl (by decide +kernel) rfl (by show ∀ y : Str × NameKind, y ∈ _ → y.2 = NameKind.free → List.lookup y.1 (defScope sWay).names = some NameKind.cell; decide +kernel) (by decide +kernel) rfl (by decide +kernel) (fun _ _ _ _ _ => ⟨(pc1 G1 F1 hr (pa_cons (pv 1) (pa_cons (pv 0) pa_nil))), pts_nil⟩)) pa_nil)))) (pss_one (ps_ret pe_bl)) pss_nil)⟩
  (l_one ⟨(ps_ret (pe_callB (call_all rfl) rfl T.all boot_all (pa_cons (pe_compT (xs := ["one", "other"]) (fr := ["net"]) (js := [0]) rfl (pi_zipT rfl T2.zip (pa_cons (pv 1) (pa_cons (pe_slice sl_tupN (pv 1) (po_some pe_int) po_none) pa_nil))) (by decide +kernel) rfl (by decide +kernel) (by show ∀ y : Str × NameKind, y ∈ _ → y.2 = NameKind.free → List.lookup y.1 (defScope sWay).names = some NameKind.cell; decide +kernel) rfl (by decide +kernel) (fun _ _ _ _ _ => pg_two rfl (by decide +kernel) rfl rfl) (fun _ _ _ _ _ => ⟨(pe_cmpR op_eq (pc1 G3 F3 hr1 (pa_cons (pv 2) (pa_cons (pv 0) pa_nil))) (pc1 G2 F2 hr1 (pa_cons (pv 2) (pa_cons (pv 1) pa_nil))) (nomark _)), pts_nil⟩)) pa_nil)))⟩))), ?_⟩
 by_cases hT : d.ty = "tuple"
 ·obtain ⟨ds, rfl⟩ : ∃ ds, d = .tup ds := by
   cases d with
   | tup ds => exact ⟨ds, rfl⟩
   | oth T => cases hd <;> simp [Dt.ty] at hT
   | _ => simp [Dt.ty] at hT
  obtain ⟨p, xs, rfl, hp, rx⟩ := hd.tup_of
  have lx := rx.length
  have few := (fine ds rfl).1
  refine ⟨_, rfl, _, _, rfl, hd.tyn, _, rfl, iteC rfl ?_⟩
  refine ⟨_, rfl, p, _, rfl, .inr (SqT.of hp), rfl, _, rfl, ?_⟩
  by_cases h0 : ds = []
  ·refine iteB (by rw [lx, h0]; rfl) ?_
   have e : wayB sp (.tup ds) = false := by rw [h0]; rfl
   rw [← e]; exact k H (Same.refl H)
  refine iteC (by rw [lx, decide_eq_false (fun z => h0 (List.length_eq_zero_iff.mp (by injection z with z; omega)))]) ?_
  have e0 : ds.isEmpty = false := by cases ds with
   | nil => exact absurd rfl h0
   | cons _ _ => rfl
  refine ⟨_, rfl, p, rfl, ⟨_, SqT.of hp⟩, ?_⟩
  refine comp_tup (K := K) (a := p) (xs := xs) (fun i zs H2 => H2 = H ∧ zs = ((ds.take i).map (stepB sp.length)).map V.bl) ⟨rfl, rfl⟩ (fun i zs H2 hi ⟨e1, e2⟩ => ?_) (by rw [lx]; exact small_le few) (fun i x zs H2 hx ⟨e1, e2⟩ => ?_) (fun zs H2 ⟨e1, e2⟩ D hD => ?_)
  ·subst e1
   refine ⟨SqT.of hp, ?_⟩
   rw [e2, List.length_map, List.length_map, List.length_take]; omega
  ·subst e1
   obtain ⟨d', hd', dx⟩ := rx.get hx
   refine tNoIf_go ?_
   refine ⟨_, rfl, _, rfl, v, x, b, m, sp, d', rfl, hv, dx, rfl, ?_⟩
   rw [e2, List.take_add_one, hd', List.map_append, List.map_append]; rfl
  subst e1
  refine ⟨D, ds.map (stepB sp.length), rfl, SqL.of ?_, _, rfl, ?_⟩
  ·rw [upd_same, e2, lx, List.take_length]
  have eA : (ds.map (stepB sp.length)).all id = ds.all (stepB sp.length) := by rw [List.all_map]; rfl
  rw [eA]
  have S3 := Same.put (o := .lst zs) (Same.refl H2) hD
  generalize upd H2 D (.lst zs) = H3 at S3 ⊢
  cases qA : ds.all (stepB sp.length) with
  | false =>
   refine iteT ?_
   have e : wayB sp (.tup ds) = false := by
    show (!ds.isEmpty && (ds.all (stepB sp.length) && _)) = false
    rw [qA, Bool.false_and, Bool.and_false]
   rw [← e]; exact k H3 S3
  | true =>
   refine iteF ?_
   obtain ⟨ss, rfl, hs⟩ := all_steps ds qA
   have eW : wayB sp (.tup (rowsD Stp.row ss)) = zipB sp ss := by
    show (!(rowsD Stp.row ss).isEmpty && ((rowsD Stp.row ss).all (stepB sp.length) && zipB sp ((rowsD Stp.row ss).filterMap (stepD sp.length)))) = _
    rw [e0, (rows_steps ss hs).1, (rows_steps ss hs).2]; rfl
   rw [eW] at k
   have lxs : xs.length = ss.length := by rw [lx, List.length_map]
   refine ⟨_, rfl, _, rfl, _, rfl, p, _, rfl, S3 _ _ hp, fun p4 H4 S4 h4 => ?_⟩
   rw [cut_one] at h4
   have S24 := S3.trans S4
   refine ⟨p, p4, _, _, rfl, S24 _ _ hp, h4, ?_⟩
   refine compT_zip (K := K) (a := p) (b := p4) (xs := xs) (ys := xs.drop 1) (fun i zs H5 => Same H4 H5 ∧ zs = (((ss.zip ss.tail).take i).map fun q => decide (tooS sp q.1 = frmS sp q.2)).map V.bl) ⟨Same.refl _, rfl⟩ (fun i zs H5 hi ⟨e1, e2⟩ => ?_) (by rw [lx]; exact small_le few) (fun i x y zs p5 H5 hx hy ⟨e1, e2⟩ hp5 => ?_) (fun zs H5 ⟨e1, e2⟩ D5 hD5 => ?_)
   ·refine ⟨e1 _ _ (S24 _ _ hp), e1 _ _ h4, ?_⟩
    rw [e2, List.length_map, List.length_map, List.length_take]; omega
   ·have hi : i < ss.length := by rw [← lxs]; exact (List.getElem?_eq_some_iff.mp hx).1
    rw [List.getElem?_drop, Nat.add_comm] at hy
    have hi1 : i + 1 < ss.length := by rw [← lxs]; exact (List.getElem?_eq_some_iff.mp hy).1
    obtain ⟨q1, f1, g1⟩ := rows_at rx (gE hi)
    obtain ⟨q2, f2, g2⟩ := rows_at rx (gE hi1)
    rw [hx] at f1
    rw [hy] at f2
    cases f1
    cases f2
    have S5 := e1.put (o := .tup [.ref q1, .ref q2]) hp5
    have S25 := S24.trans S5
    obtain ⟨i1, d1⟩ := hs ss[i] (List.getElem_mem hi)
    obtain ⟨i2, d2⟩ := hs ss[i + 1] (List.getElem_mem hi1)
    refine tNoIf_go ?_
    refine ⟨_, rfl, _, rfl, v, q1, b, m, sp, ss[i], sp[ss[i].i], rfl, hv.same S25, S25 _ _ g1, gE i1, ?_⟩
    refine ⟨_, rfl, _, rfl, v, q2, b, m, sp, ss[i + 1], sp[ss[i + 1].i], rfl, hv.same S25, S25 _ _ g2, gE i2, rfl, S5, ?_⟩
    have hz : (ss.zip ss.tail)[i]? = some (ss[i], ss[i + 1]) := by
     rw [List.getElem?_zip_eq_some]
     exact ⟨gE hi, by rw [List.getElem?_tail]; exact gE hi1⟩
    have eb : decide (V.int (too sp[ss[i].i] ss[i].d) = V.int (frm sp[ss[i + 1].i] ss[i + 1].d)) = decide (tooS sp ss[i] = frmS sp ss[i + 1]) := by
     have u1 : tooS sp ss[i] = too sp[ss[i].i] ss[i].d := by unfold tooS; rw [gE i1]
     have u2 : frmS sp ss[i + 1] = frm sp[ss[i + 1].i] ss[i + 1].d := by unfold frmS; rw [gE i2]
     rw [u1, u2]
     exact decide_eq_decide.mpr ⟨fun z => by injection z, fun z => by rw [z]⟩
    rw [e2, eb, List.take_add_one, hz, List.map_append, List.map_append]; rfl
   ·refine ⟨D5, (ss.zip ss.tail).map fun q => decide (tooS sp q.1 = frmS sp q.2), rfl, SqL.of ?_, ?_⟩
    ·rw [upd_same, e2, List.take_of_length_le (by rw [List.length_zip, List.length_tail, List.length_drop]; omega)]
    ·have e : ((ss.zip ss.tail).map fun q => decide (tooS sp q.1 = frmS sp q.2)).all id = zipB sp ss := by rw [List.all_map]; rfl
     rw [e]; exact k _ (S24.trans (e1.put hD5))
 ·refine ⟨_, rfl, _, _, rfl, hd.tyn, _, rfl, iteB ?_ ?_⟩
  ·have : (d.ty == "tuple") = false := by simpa using hT
   rw [this]; rfl
  ·have e : wayB sp d = false := by
    cases d with
    | tup ds => exact absurd rfl hT
    | _ => rfl
   rw [← e]; exact k H (Same.refl H)
theorem scRing : FnScope ["net", "thing"] ["net", "thing"] (defScope sRing) := ⟨rfl, rfl, rfl, by decide +kernel, rfl, by decide +kernel, by decide +kernel⟩
theorem ok_ring {f f1 f2 f3 : Addr} {fd fd1 fd2 fd3 : FuncData} (F : Fun K "is_ring" "is_ring" sRing f fd) (T : Nm mg) (T3 : N3 mg) (G1 : Fn K mg "is_way" sWay ["net", "thing"] f1 fd1) (F1 : FnOk P w K mg base CX0 4 f1 fd1 ["net", "thing"] spWayP) (G2 : Fn K mg "leads_from" sFrom ["net", "step"] f2 fd2) (G3 : Fn K mg "leads_to" sTo ["net", "step"] f3 fd3) : FnOk P w K mg base CX0 5 f fd ["net", "thing"] spRingP := by
 have F2 : FnOk P w K mg base CX0 1 f2 fd2 ["net", "step"] spFrom := ok_from G2.F
 have F3 : FnOk P w K mg base CX0 1 f3 fd3 ["net", "step"] spTo := ok_to G3.F
 refine F.ok scRing (fun vs H Q E h => by obtain ⟨v, u, b, m, sp, d, rfl, _⟩ := h; rfl) (fun cdv A outer s H vs Q E hr h => ?_)
 obtain ⟨v, u, b, m, sp, d, rfl, hv, hd, fine, k⟩ := h
 have hr1 : Room 1 _ := hr.mono (by decide)
 refine ⟨_, PSl.h (l_cons ⟨(ps_if (PW.pt (pw_or (pt_not (pt_val (pc1 G1 F1 hr (pa_cons (pv 0) (pa_cons (pv 1) pa_nil))))) (pw_or1 (pt_cmpR op_lt (pe_callB call_len_seq rfl T.len PySem.boot_len (pa_cons (pv 1) pa_nil)) pe_int (nomark _))))) (pss_one (ps_ret pe_bl)) pss_nil)⟩
  (l_cons ⟨(ps_if (pt_cmpR op_ne (pe_callB call_lenS rfl T.len PySem.boot_len (pa_cons (pe_callTy (call_setL rfl) rfl T3.tset boot_set (pa_cons (pe_comp (fr := []) (js := []) rfl (pi_tup (pv 1)) (by decide +kernel) rfl (by decide +kernel) rfl (by show ∀ y : Str × NameKind, y ∈ _ → y.2 = NameKind.free → List.lookup y.1 (defScope sRing).names = some NameKind.cell; decide +kernel) (by decide +kernel) rfl (by decide +kernel) (fun _ _ _ _ _ => ⟨(pe_ix (r := rIxT K) ix_tup (pv 0) pe_int (fun _ _ => rfl)), pts_nil⟩)) pa_nil)) pa_nil)) (pe_callB call_len_seq rfl T.len PySem.boot_len (pa_cons (pv 1) pa_nil)) (nomark _)) (pss_one (ps_ret pe_bl)) pss_nil)⟩
  (l_one ⟨(ps_ret (pe_cmpR op_eq (pc1 G2 F2 hr1 (pa_cons (pv 0) (pa_cons (pe_ix ix_tup (pv 1) pe_int (fun _ _ => rfl)) pa_nil))) (pc1 G3 F3 hr1 (pa_cons (pv 0) (pa_cons (pe_ix ix_tup (pv 1) (pe_un un_neg pe_int) (fun _ _ => rfl)) pa_nil))) (nomark _)))⟩))), ?_⟩
 refine ⟨_, rfl, _, rfl, v, u, b, m, sp, d, rfl, hv, hd, fine, fun H1 S1 => ?_⟩
 refine ⟨_, rfl, ?_⟩
 cases qW : wayB sp d with
 | false =>
  refine iteT ?_
  have e : ringB sp d = false := by
   cases d with
   | tup ds => show (wayB sp (.tup ds) && _) = false; rw [qW]; rfl
   | _ => rfl
  rw [← e]; exact k H1 S1
 | true =>
  refine iteF ?_
  obtain ⟨ds, rfl⟩ : ∃ ds, d = .tup ds := by
   cases d with
   | tup ds => exact ⟨ds, rfl⟩
   | _ => simp [wayB] at qW
  obtain ⟨p, xs, rfl, hp, rx⟩ := hd.tup_of
  have lx := rx.length
  have few := (fine ds rfl).1
  have qA : ds.all (stepB sp.length) = true := by
   have : (!ds.isEmpty && (ds.all (stepB sp.length) && zipB sp (ds.filterMap (stepD sp.length)))) = true := qW
   simp only [Bool.and_eq_true] at this
   exact this.2.1
  have q0 : ds ≠ [] := fun z => by rw [z] at qW; simp [wayB] at qW
  obtain ⟨ss, rfl, hs⟩ := all_steps ds qA
  have eR : ringB sp (.tup (rowsD Stp.row ss)) = ringOf sp ss := by
   show (wayB sp (.tup (rowsD Stp.row ss)) && ringOf sp ((rowsD Stp.row ss).filterMap (stepD sp.length))) = _
   rw [qW, (rows_steps ss hs).1]; rfl
  rw [eR] at k
  have lxs : xs.length = ss.length := by rw [lx, List.length_map]
  have few : ss.length ≤ 1000 := by rw [List.length_map] at few; exact few
  have hpos : 0 < ss.length := by
   cases ss with
   | nil => exact absurd rfl q0
   | cons _ _ => simp
  refine ⟨_, rfl, p, _, rfl, .inr (SqT.of (S1 _ _ hp)), _, _, rfl, rfl, _, rfl, ?_⟩
  by_cases h2 : 2 ≤ ss.length
  rotate_left
  ·refine iteB (by rw [lxs]; exact decide_eq_true (by omega)) ?_
   have e : ringOf sp ss = false := by unfold ringOf; rw [decide_eq_false h2]; rfl
   rw [← e]; exact k H1 S1
  refine iteC (by rw [lxs]; exact decide_eq_false (by omega)) ?_
  refine ⟨_, rfl, p, rfl, ⟨_, SqT.of (S1 _ _ hp)⟩, ?_⟩
  refine comp_tup (K := K) (a := p) (xs := xs) (fun i zs H2 => H2 = H1 ∧ zs = (numsS (ss.take i)).map V.int) ⟨rfl, rfl⟩ (fun i zs H2 hi ⟨e1, e2⟩ => ?_) (by rw [lxs]; exact small_le few) (fun i x zs H2 hx ⟨e1, e2⟩ => ?_) (fun zs H2 ⟨e1, e2⟩ D hD => ?_)
  ·subst e1
   refine ⟨SqT.of (S1 _ _ hp), ?_⟩
   rw [e2, List.length_map]; unfold numsS; rw [List.length_map, List.length_take]; omega
  ·subst e1
   have hi : i < ss.length := by rw [← lxs]; exact (List.getElem?_eq_some_iff.mp hx).1
   obtain ⟨q1, f1, g1⟩ := rows_at rx (gE hi)
   rw [hx] at f1
   cases f1
   refine tNoIf_go ?_
   refine ⟨_, rfl, q1, _, _, _, rfl, rfl, SqT.of (S1 _ _ g1), atI_nat (j := 0) rfl, rfl, ?_⟩
   rw [e2, numsS_take hi, List.map_append]; rfl
  subst e1
  have e3 : zs = (numsS ss).map V.int := by rw [e2, lxs, List.take_length]
  subst e3
  refine ⟨D, numsS ss, rfl, SqL.of upd_same, by unfold numsS; rw [List.length_map]; exact few, fun p4 H4 S4 h4 => ?_⟩
  have S14 : Same H2 H4 := (Same.put (Same.refl H2) hD).trans S4
  have SH4 := S1.trans S14
  refine ⟨p4, _, _, rfl, h4, ?_⟩
  refine ⟨_, rfl, p, _, rfl, .inr (SqT.of (SH4 _ _ hp)), rfl, _, rfl, ?_⟩
  by_cases h3 : (metL (numsS ss)).length = ss.length
  rotate_left
  ·refine iteB (by rw [lxs, decide_eq_false (fun z => h3 (by injection z with z; omega))]; rfl) ?_
   have e : ringOf sp ss = false := by unfold ringOf; rw [decide_eq_false h3, Bool.false_and, Bool.and_false]
   rw [← e]; exact k H4 SH4
  refine iteC (by rw [lxs, decide_eq_true (by rw [h3])]; rfl) ?_
  have e1 : ss[0]? = some ss[0] := gE hpos
  have e2 : ss[ss.length - 1]? = some ss[ss.length - 1] := gE (by omega)
  obtain ⟨i1, d1⟩ := hs ss[0] (List.getElem_mem _)
  obtain ⟨i2, d2⟩ := hs ss[ss.length - 1] (List.getElem_mem _)
  have eF : fstB sp ss = frm sp[ss[0].i] ss[0].d := by unfold fstB; rw [e1]; show frmS sp ss[0] = _; unfold frmS; rw [gE i1]
  have eL : lstB sp ss = too sp[ss[ss.length - 1].i] ss[ss.length - 1].d := by unfold lstB; rw [e2]; show tooS sp ss[ss.length - 1] = _; unfold tooS; rw [gE i2]
  obtain ⟨q1, f1, g1⟩ := rows_at rx e1
  obtain ⟨q2, f2, g2⟩ := rows_at rx e2
  refine ⟨_, rfl, _, rfl, p, _, _, _, rfl, rfl, SqT.of (SH4 _ _ hp), atI_nat (j := 0) f1, v, q1, b, m, sp, ss[0], sp[ss[0].i], rfl, hv.same SH4, SH4 _ _ g1, gE i1, ?_⟩
  refine ⟨_, rfl, _, rfl, _, rfl, p, _, _, _, rfl, rfl, SqT.of (SH4 _ _ hp), atI_last (by rw [lxs]; exact f2), v, q2, b, m, sp, ss[ss.length - 1], sp[ss[ss.length - 1].i], rfl, hv.same SH4, SH4 _ _ g2, gE i2, rfl, ?_⟩
  have eq : decide (V.int (frm sp[ss[0].i] ss[0].d) = V.int (too sp[ss[ss.length - 1].i] ss[ss.length - 1].d)) = ringOf sp ss := by
   unfold ringOf
   rw [decide_eq_true h2, decide_eq_true h3, Bool.true_and, Bool.true_and, eF, eL]
   exact decide_eq_decide.mpr ⟨fun z => by injection z, fun z => by rw [z]⟩
  rw [eq]; exact k H4 SH4
end
end HN
namespace HN
open PySem L2 PyProof.Rows
abbrev sHeaded : Stmt := top 17
abbrev sCut : Stmt := top 18
abbrev sRowT : Stmt := top 19
abbrev sLeafT : Stmt := top 20
section
variable {P : Program} {w : World} {K : PySem.W.Frag} {mg : Str → Option Value} {base : Heap}
theorem scHeaded : FnScope ["thing", "word", "many"] ["thing", "word", "many"] (defScope sHeaded) := ⟨rfl, rfl, rfl, by decide +kernel, rfl, by decide +kernel, by decide +kernel⟩
theorem ok_headed {f : Addr} {fd : FuncData} (F : Fun K "is_headed" "is_headed" sHeaded f fd) (T : Nm mg) (TS : mg "str" = none) : FnOk P w K mg base CX0 1 f fd ["thing", "word", "many"] spHeaded := by
 refine F.ok scHeaded (fun vs H Q E h => by obtain ⟨u, z, n, d, rfl, _⟩ := h; rfl) (fun cdv A outer s H vs Q E hr h => ?_)
 obtain ⟨u, z, n, d, rfl, hd, hn, k⟩ := h
 refine ⟨_, PSl.h (l_one ⟨(ps_ret (pe_and (pe_isTup T (pv 0)) (pe_and (pe_cmpR op_eq (pe_callB call_len_seq rfl T.len PySem.boot_len (pa_cons (pv 0) pa_nil)) (pv 2) (nomark _)) (pe_and (pe_isStrT T TS (pe_ix ix_tup (pv 0) pe_int (fun _ _ => rfl))) (pe_one (pe_cmpR op_eq (pe_ix ix_tup (pv 0) pe_int (fun _ _ => rfl)) (pv 1) (nomark _)))))))⟩), ?_⟩
 refine ⟨_, rfl, _, _, rfl, hd.tyn, _, rfl, ?_⟩
 by_cases hT : (d.ty == "tuple") = true
 rotate_left
 ·refine iteC (Bool.eq_false_iff.mpr hT) ?_
  rw [head_no hd hT] at k
  exact k
 refine iteB hT ?_
 obtain ⟨ds, rfl⟩ := ty_tup hd hT
 obtain ⟨p, xs, rfl, hp, rx⟩ := hd.tup_of
 have lx := rx.length
 refine ⟨_, rfl, p, _, rfl, .inr (SqT.of hp), _, rfl, rfl, _, rfl, ?_⟩
 have e1 : decide (V.int (xs.length : Int) = V.int n) = decide ((ds.length : Int) = n) := decide_eq_decide.mpr ⟨fun q => by injection q with q; omega, fun q => by rw [← q, lx]⟩
 rw [e1]
 by_cases h1 : (ds.length : Int) = n
 rotate_left
 ·refine iteC (decide_eq_false h1) ?_
  have e : headB z n (.tup ds) = false := by
   show (decide ((ds.length : Int) = n) && _) = _
   rw [decide_eq_false h1]; rfl
  rw [e] at k
  exact k
 refine iteB (decide_eq_true h1) ?_
 cases rx with
 | nil => exfalso; simp at h1; omega
 | cons r0 rr =>
  rename_i x0 d0 xr dr
  have e2 : headB z n (.tup (d0 :: dr)) = (match d0 with | Dt.str x => decide (x = z) | _ => false) := by
   show (decide (((d0 :: dr).length : Int) = n) && (match (some d0 : Option Dt) with | some (Dt.str x) => decide (x = z) | _ => false)) = _
   rw [decide_eq_true h1]
   cases d0 <;> rfl
  rw [e2] at k
  refine ⟨_, rfl, p, _, _, _, rfl, rfl, SqT.of hp, atI_nat (j := 0) rfl, _, _, rfl, r0.tyn, _, rfl, ?_⟩
  by_cases h2 : (d0.ty == "str") = true
  ·refine iteB h2 ?_
   obtain ⟨x, rfl⟩ := ty_str r0 h2
   cases r0
   refine ⟨_, rfl, p, _, _, _, rfl, rfl, SqT.of hp, atI_nat (j := 0) rfl, _, rfl, rfl, ?_⟩
   have e3 : decide (V.str x = V.str z) = decide (x = z) := decide_eq_decide.mpr ⟨fun q => by injection q, fun q => by rw [q]⟩
   rw [e3]
   exact k
  ·refine iteC (Bool.eq_false_iff.mpr h2) ?_
   have e3 : headB z n (.tup (d0 :: dr)) = false := by
    rw [e2]
    cases d0 with
    | str x => exact absurd rfl h2
    | _ => rfl
   rw [← e2, e3] at k
   exact k
theorem scCut : FnScope ["bounds", "thing", "bound"] ["bounds", "thing"] (defScope sCut) := ⟨rfl, rfl, rfl, by decide +kernel, rfl, by decide +kernel, by decide +kernel⟩
theorem ok_cut {f f1 f2 f3 : Addr} {fd fd1 fd2 fd3 : FuncData} (F : Fun K "is_cut" "is_cut" sCut f fd) (T : Nm mg) (TS : mg "str" = none) (G1 : Fn K mg "is_headed" sHeaded ["thing", "word", "many"] f1 fd1) (G2 : Fn K mg "is_within" sWithin ["thing", "low", "high"] f2 fd2) (G3 : Fn K mg "is_whole" sWhole ["thing"] f3 fd3) : FnOk P w K mg base CX0 3 f fd ["bounds", "thing"] spCut := by
 have F1 : FnOk P w K mg base CX0 1 f1 fd1 ["thing", "word", "many"] spHeaded := ok_headed G1.F T TS
 have F2 : FnOk P w K mg base CX0 2 f2 fd2 ["thing", "low", "high"] spWithin := ok_within G2.F T G3
 refine F.ok scCut (fun vs H Q E h => by obtain ⟨vb, u, bs, d, rfl, _⟩ := h; rfl) (fun cdv A outer s H vs Q E hr h => ?_)
 obtain ⟨vb, u, bs, d, rfl, hb, hd, k⟩ := h
 obtain ⟨pb, yb, rfl, hpb, hlb, rb⟩ := rows_of hb
 have hr1 : Room 1 _ := hr.mono (by decide)
 refine ⟨_, PSl.h (l_cons ⟨(ps_if (PW.pt (pw_or (pt_not (pt_val (pc1 G1 F1 hr1 (pa_cons (pv 1) (pa_cons pe_str (pa_cons pe_int pa_nil)))))) (pw_or1 (pt_not (pt_val (pc1 G2 F2 hr (pa_cons (pe_ix ix_tup (pv 1) pe_int (fun _ _ => rfl)) (pa_cons pe_int (pa_cons (pe_op op_sub (pe_callB call_len_seq rfl T.len PySem.boot_len (pa_cons (pv 0) pa_nil)) pe_int) pa_nil))))))))) (pss_one (ps_ret pe_bl)) pss_nil)⟩
  (l_cons ⟨(ps_set (i := 2) scCut.nd rfl (Or.inl rfl) (pe_ix ix_tup (pv 0) (pe_ix ix_tup (pv 1) pe_int (fun _ _ => rfl)) (fun _ _ => rfl)))⟩
  (l_one ⟨(ps_ret (pc1 G2 F2 hr (pa_cons (pe_ix ix_tup (pv 1) pe_int (fun _ _ => rfl)) (pa_cons (pe_ix ix_tup (pv 2) pe_int (fun _ _ => rfl)) (pa_cons (pe_op op_sub (pe_ix ix_tup (pv 2) pe_int (fun _ _ => rfl)) pe_int) pa_nil)))))⟩))), ?_⟩
 refine ⟨_, rfl, u, "cut", 5, d, rfl, hd, by decide, _, rfl, ?_⟩
 by_cases h1 : headB "cut" 5 d = true
 rotate_left
 ·refine iteB (by rw [Bool.eq_false_iff.mpr h1]; rfl) ?_
  have e : cutB bs d = false := by
   unfold cutB
   split
   ·rename_i z i a x y
    by_cases q : z = "cut"
    ·exact absurd (by rw [q]; rfl) h1
    ·rw [decide_eq_false q]; rfl
   ·rfl
  rw [e] at k
  exact k
 refine iteC (by rw [h1]; rfl) ?_
 obtain ⟨ds, rfl, hl5, h0⟩ := head_of (n := 5) h1
 obtain ⟨d0, d1, d2, d3, d4, rfl⟩ : ∃ a b c e g, ds = [a, b, c, e, g] := by
  match ds, hl5 with
  | [a, b, c, e, g], _ => exact ⟨a, b, c, e, g, rfl⟩
 have h0 : d0 = .str "cut" := by simpa using h0
 subst h0
 obtain ⟨p, xs, rfl, hp, rx⟩ := hd.tup_of
 cases rx with
 | cons r0 rr => cases rr with
  | cons r1 rr => cases rr with
   | cons r2 rr => cases rr with
    | cons r3 rr => cases rr with
     | cons r4 rr =>
      cases rr
      cases r0
      rename_i x1 x2 x3 x4
      refine ⟨_, rfl, p, _, _, _, rfl, rfl, SqT.of hp, atI_nat (j := 1) rfl, _, rfl, pb, _, rfl, .inr (SqT.of hpb), _, _, rfl, rfl, x1, 0, _, rfl, ⟨_, r1.tyn⟩, _, rfl, ?_⟩
      rw [inI_inD _ _ r1]
      by_cases h2 : inD d1 0 ((yb.length : Int) - 1) = true
      rotate_left
      ·refine iteB (by rw [Bool.eq_false_iff.mpr h2]; rfl) ?_
       have e : cutB bs (.tup [.str "cut", d1, d2, d3, d4]) = false := by
        cases d1 with
        | int i =>
         show (decide (("cut" : Str) = "cut") && (decide (0 ≤ i) && decide (i ≤ (bs.length : Int) - 1)) && _) = false
         have h2 : (decide (0 ≤ i) && decide (i ≤ (yb.length : Int) - 1)) = false := Bool.eq_false_iff.mpr h2
         rw [hlb] at h2
         rw [h2, Bool.and_false, Bool.false_and]
        | _ => rfl
       rw [e] at k
       exact k
      refine iteC (by rw [h2]; rfl) ?_
      cases d1 with
      | int i =>
       have h2 : (decide (0 ≤ i) && decide (i ≤ (yb.length : Int) - 1)) = true := h2
       rw [Bool.and_eq_true] at h2
       obtain ⟨i0, i1⟩ := h2
       have i0 := of_decide_eq_true i0
       have i1 := of_decide_eq_true i1
       cases r1
       obtain ⟨n, rfl⟩ := Int.eq_ofNat_of_zero_le i0
       have hn : n < bs.length := by omega
       obtain ⟨qn, hqn, hqn2⟩ := rows_at rb (gE hn)
       refine ⟨_, rfl, _, rfl, p, _, _, _, rfl, rfl, SqT.of hp, atI_nat (j := 1) rfl, pb, _, _, _, rfl, rfl, SqT.of hpb, atI_nat (j := n) hqn, ?_⟩
       refine ⟨_, rfl, p, _, _, _, rfl, rfl, SqT.of hp, atI_nat (j := 2) rfl, _, rfl, qn, _, _, _, rfl, rfl, SqT.of hqn2, atI_nat (j := 0) rfl, _, rfl, qn, _, _, _, rfl, rfl, SqT.of hqn2, atI_nat (j := 1) rfl, _, _, rfl, rfl, x2, _, _, rfl, ⟨_, r2.tyn⟩, ?_⟩
       rw [inI_inD _ _ r2]
       have e : cutB bs (.tup [.str "cut", .int ((n : Nat) : Int), d2, d3, d4]) = inD d2 bs[n].1 (bs[n].2 - 1) := by
        show (decide (("cut" : Str) = "cut") && (decide ((0 : Int) ≤ (n : Nat)) && decide (((n : Nat) : Int) ≤ (bs.length : Int) - 1)) && (match bs[((n : Nat) : Int).toNat]? with | some p => inD d2 p.1 (p.2 - 1) | none => false)) = _
        have e2 : bs[((n : Nat) : Int).toNat]? = some bs[n] := by rw [Int.toNat_natCast, gE hn]
        rw [e2, decide_eq_true rfl, decide_eq_true (by omega), decide_eq_true (by omega)]; rfl
       rw [e] at k
       exact k
      | _ => cases h2
theorem scRowT : FnScope ["net", "thing"] ["net", "thing"] (defScope sRowT) := ⟨rfl, rfl, rfl, by decide +kernel, rfl, by decide +kernel, by decide +kernel⟩
theorem ok_rowT {f f1 f2 : Addr} {fd fd1 fd2 : FuncData} (F : Fun K "is_row" "is_row" sRowT f fd) (T : Nm mg) (G1 : Fn K mg "is_whole" sWhole ["thing"] f1 fd1) (G2 : Fn K mg "is_ring" sRing ["net", "thing"] f2 fd2) (F2 : FnOk P w K mg base CX0 5 f2 fd2 ["net", "thing"] spRingP) : FnOk P w K mg base CX0 6 f fd ["net", "thing"] spRowT := by
 have F1 : FnOk P w K mg base CX0 1 f1 fd1 ["thing"] spWhole := ok_whole G1.F T
 refine F.ok scRowT (fun vs H Q E h => by obtain ⟨v, u, b, m, sp, d, rfl, _⟩ := h; rfl) (fun cdv A outer s H vs Q E hr h => ?_)
 obtain ⟨v, u, b, m, sp, d, rfl, hv, hd, hf, k⟩ := h
 have hr1 : Room 1 _ := hr.mono (by decide)
 refine ⟨_, PSl.h (l_one ⟨(ps_ret (pe_and (pe_isTup T (pv 1)) (pe_and (pe_cmpR op_eq (pe_callB call_len_seq rfl T.len PySem.boot_len (pa_cons (pv 1) pa_nil)) pe_int (nomark _)) (pe_and (pc1 G1 F1 hr1 (pa_cons (pe_ix ix_tup (pv 1) pe_int (fun _ _ => rfl)) pa_nil)) (pe_one (pc1 G2 F2 hr (pa_cons (pv 0) (pa_cons (pe_ix ix_tup (pv 1) pe_int (fun _ _ => rfl)) pa_nil))))))))⟩), ?_⟩
 refine ⟨_, rfl, _, _, rfl, hd.tyn, _, rfl, ?_⟩
 by_cases hT : (d.ty == "tuple") = true
 rotate_left
 ·refine iteC (Bool.eq_false_iff.mpr hT) ?_
  have e : rowB sp d = false := by
   cases d with
   | tup ds => exact absurd rfl hT
   | _ => rfl
  have k1 := k H (Same.refl H)
  rw [e] at k1
  exact k1
 refine iteB hT ?_
 obtain ⟨ds, rfl⟩ := ty_tup hd hT
 obtain ⟨p, xs, rfl, hp, rx⟩ := hd.tup_of
 have lx := rx.length
 refine ⟨_, rfl, p, _, rfl, .inr (SqT.of hp), rfl, _, rfl, ?_⟩
 by_cases h2 : ds.length = 2
 rotate_left
 ·refine iteC (decide_eq_false fun q => h2 (by injection q with q; omega)) ?_
  have e : rowB sp (.tup ds) = false := by
   unfold rowB
   split
   ·rename_i e; injection e with e; rw [e] at h2; exact absurd rfl h2
   ·rfl
  have k1 := k H (Same.refl H)
  rw [e] at k1
  exact k1
 refine iteB (decide_eq_true (by rw [lx, h2]; rfl)) ?_
 obtain ⟨d0, d1, rfl⟩ : ∃ a b, ds = [a, b] := by
  match ds, h2 with
  | [a, b], _ => exact ⟨a, b, rfl⟩
 cases rx with
 | cons r0 rr => cases rr with
  | cons r1 rr =>
   cases rr
   rename_i x0 x1
   refine ⟨_, rfl, p, _, _, _, rfl, rfl, SqT.of hp, atI_nat (j := 0) rfl, x0, rfl, ⟨_, r0.tyn⟩, _, rfl, ?_⟩
   by_cases h3 : isI x0 = true
   rotate_left
   ·refine iteC (Bool.eq_false_iff.mpr h3) ?_
    have e : rowB sp (.tup [d0, d1]) = false := by
     cases r0 with
     | int i => exact absurd rfl h3
     | _ => rfl
    have k1 := k H (Same.refl H)
    rw [e] at k1
    exact k1
   refine iteB h3 ?_
   obtain ⟨i, rfl⟩ := isI_of h3
   cases r0
   exact ⟨_, rfl, _, rfl, p, _, _, _, rfl, rfl, SqT.of hp, atI_nat (j := 1) rfl, v, x1, b, m, sp, d1, rfl, hv, r1, hf _ _ rfl, fun H' S' => k H' S'⟩
theorem scLeafT : FnScope ["net", "thing", "rows"] ["net", "thing"] (defScope sLeafT) := ⟨rfl, rfl, rfl, by decide +kernel, rfl, by decide +kernel, by decide +kernel⟩
theorem ok_leafT {f f1 f2 f3 f4 : Addr} {fd fd1 fd2 fd3 fd4 : FuncData} (F : Fun K "is_leaf" "is_leaf" sLeafT f fd) (T : Nm mg) (TS : mg "str" = none) (CR : ∃ t, mg "MOST_ROWS" = some (.int 40 t)) (G1 : Fn K mg "is_headed" sHeaded ["thing", "word", "many"] f1 fd1) (G2 : Fn K mg "is_ring" sRing ["net", "thing"] f2 fd2) (F2 : FnOk P w K mg base CX0 5 f2 fd2 ["net", "thing"] spRingP) (G3 : Fn K mg "is_row" sRowT ["net", "thing"] f3 fd3) (G4 : Fn K mg "is_whole" sWhole ["thing"] f4 fd4) : FnOk P w K mg base CX0 7 f fd ["net", "thing"] spLeafT := by
 have F1 : FnOk P w K mg base CX0 1 f1 fd1 ["thing", "word", "many"] spHeaded := ok_headed G1.F T TS
 have F3 : FnOk P w K mg base CX0 6 f3 fd3 ["net", "thing"] spRowT := ok_rowT G3.F T G4 G2 F2
 refine F.ok scLeafT (fun vs H Q E h => by obtain ⟨v, u, b, m, sp, d, rfl, _⟩ := h; rfl) (fun cdv A outer s H vs Q E hr h => ?_)
 obtain ⟨v, u, b, m, sp, d, rfl, hv, hd, hf, k⟩ := h
 have hr1 : Room 1 _ := hr.mono (by decide)
 have hr5 : Room 5 _ := hr.mono (by decide)
 refine ⟨_, PSl.h (l_cons ⟨(ps_if (pt_val (pc1 G1 F1 hr1 (pa_cons (pv 1) (pa_cons pe_str (pa_cons pe_int pa_nil))))) (pss_one (ps_ret (pc1 G2 F2 hr5 (pa_cons (pv 0) (pa_cons (pe_ix ix_tup (pv 1) pe_int (fun _ _ => rfl)) pa_nil))))) pss_nil)⟩
  (l_cons ⟨(ps_if (pt_not (pt_val (pc1 G1 F1 hr1 (pa_cons (pv 1) (pa_cons pe_str (pa_cons pe_int pa_nil)))))) (pss_one (ps_ret pe_bl)) pss_nil)⟩
  (l_cons ⟨(ps_set (i := 2) scLeafT.nd rfl (Or.inl rfl) (pe_ix ix_tup (pv 1) pe_int (fun _ _ => rfl)))⟩
  (l_cons ⟨(ps_if (PW.pt (pw_or (pt_not (pt_val (pe_isTup T (pv 2)))) (pw_or1 (pt_cmpR op_gt (pe_callB call_len_seq rfl T.len PySem.boot_len (pa_cons (pv 2) pa_nil)) (pe_gint CR) (nomark _))))) (pss_one (ps_ret pe_bl)) pss_nil)⟩
  (l_one ⟨(ps_ret (pe_callB (call_all rfl) rfl T.all boot_all (pa_cons (pe_comp (fr := ["net"]) (js := [0]) rfl (pi_tup (pv 2)) (by decide +kernel) rfl (by decide +kernel) rfl (by show ∀ y : Str × NameKind, y ∈ _ → y.2 = NameKind.free → List.lookup y.1 (defScope sLeafT).names = some NameKind.cell; decide +kernel) (by decide +kernel) rfl (by decide +kernel) (fun _ _ _ _ _ => ⟨(pc1 G3 F3 hr (pa_cons (pv 1) (pa_cons (pv 0) pa_nil))), pts_nil⟩)) pa_nil)))⟩))))), ?_⟩
 have two : ∀ z : Str, headB z 2 d = true → ∃ d1, d = .tup [.str z, d1] := fun z hz => by
  obtain ⟨ds, rfl, hl2, h0⟩ := head_of (n := 2) hz
  obtain ⟨d0, d1, rfl⟩ : ∃ a b, ds = [a, b] := by
   match ds, hl2 with
   | [a, b], _ => exact ⟨a, b, rfl⟩
  have h0 : d0 = .str z := by simpa using h0
  exact ⟨d1, by rw [h0]⟩
 refine ⟨_, rfl, u, "ring", 2, d, rfl, hd, by decide, _, rfl, ?_⟩
 by_cases h1 : headB "ring" 2 d = true
 ·refine iteB h1 ?_
  obtain ⟨d1, rfl⟩ := two _ h1
  obtain ⟨p, xs, rfl, hp, rx⟩ := hd.tup_of
  cases rx with
  | cons r0 rr => cases rr with
   | cons r1 rr =>
    cases rr
    rename_i x0 x1
    exact ⟨_, rfl, _, rfl, p, _, _, _, rfl, rfl, SqT.of hp, atI_nat (j := 1) rfl, v, x1, b, m, sp, d1, rfl, hv, r1, (hf _ _ rfl).1, fun H' S' => k H' S'⟩
 refine iteC (Bool.eq_false_iff.mpr h1) ?_
 refine ⟨_, rfl, u, "price", 2, d, rfl, hd, by decide, _, rfl, ?_⟩
 by_cases h2 : headB "price" 2 d = true
 rotate_left
 ·refine iteB (by rw [Bool.eq_false_iff.mpr h2]; rfl) ?_
  have e : leafB sp d = false := by
   unfold leafB
   split
   ·rename_i z x
    by_cases q : z = "ring"
    ·exact absurd (by rw [q]; rfl) h1
    ·by_cases q2 : z = "price"
     ·exact absurd (by rw [q2]; rfl) h2
     ·rw [if_neg q, if_neg q2]
   ·rfl
  have k1 := k H (Same.refl H)
  rw [e] at k1
  exact k1
 refine iteC (by rw [h2]; rfl) ?_
 obtain ⟨d1, rfl⟩ := two _ h2
 obtain ⟨p, xs, rfl, hp, rx⟩ := hd.tup_of
 cases rx with
 | cons r0 rr => cases rr with
  | cons r1 rr =>
   cases rr
   rename_i x0 x1
   have e : leafB sp (.tup [.str "price", d1]) = rowsB sp d1 := by
    show (if ("price" : Str) = "ring" then ringB sp d1 else if ("price" : Str) = "price" then rowsB sp d1 else false) = _
    rw [if_neg (by decide), if_pos rfl]
   rw [e] at k
   refine ⟨_, rfl, p, _, _, _, rfl, rfl, SqT.of hp, atI_nat (j := 1) rfl, ?_⟩
   refine ⟨_, rfl, _, _, rfl, r1.tyn, _, rfl, ?_⟩
   by_cases hT : (d1.ty == "tuple") = true
   rotate_left
   ·refine iteB (by rw [Bool.eq_false_iff.mpr hT]; rfl) ?_
    have e2 : rowsB sp d1 = false := by
     cases d1 with
     | tup ds => exact absurd rfl hT
     | _ => rfl
    have k1 := k H (Same.refl H)
    rw [e2] at k1
    exact k1
   refine iteC (by rw [hT]; rfl) ?_
   obtain ⟨rows, rfl⟩ := ty_tup r1 hT
   obtain ⟨q, ys, rfl, hq, ry⟩ := r1.tup_of
   have ly := ry.length
   have k : ∀ H', Same H H' → Q (.bl (decide (rows.length ≤ 40) && rows.all (rowB sp))) H' := k
   refine ⟨_, rfl, q, _, rfl, .inr (SqT.of hq), _, _, rfl, rfl, _, rfl, ?_⟩
   by_cases h40 : rows.length ≤ 40
   rotate_left
   ·refine iteB (decide_eq_true (by show (ys.length : Int) > 40; omega)) ?_
    have k1 := k H (Same.refl H)
    rw [decide_eq_false h40] at k1
    exact k1
   refine iteC (decide_eq_false (by show ¬ (ys.length : Int) > 40; omega)) ?_
   rw [decide_eq_true h40] at k
   refine ⟨_, rfl, q, rfl, ⟨_, SqT.of hq⟩, ?_⟩
   refine comp_tup (K := K) (a := q) (xs := ys) (fun i zs H2 => Same H H2 ∧ zs = ((rows.take i).map (rowB sp)).map V.bl) ⟨Same.refl H, rfl⟩ (fun i zs H2 hi ⟨e1, e2⟩ => ?_) (by rw [ly]; exact small_le (by omega)) (fun i x zs H2 hx ⟨e1, e2⟩ => ?_) (fun zs H2 ⟨e1, e2⟩ D hD => ?_)
   ·refine ⟨SqT.of (e1 _ _ hq), ?_⟩
    rw [e2, List.length_map, List.length_map, List.length_take]; omega
   ·have hi : i < rows.length := by rw [← ly]; exact (List.getElem?_eq_some_iff.mp hx).1
    obtain ⟨d', hd', dx⟩ := ry.get hx
    rw [gE hi] at hd'
    cases hd'
    refine tNoIf_go ?_
    refine ⟨_, rfl, _, rfl, v, x, b, m, sp, rows[i], rfl, hv.same e1, dx.same e1, fun p' y' e => (hf _ _ rfl).2 _ rfl _ (List.getElem_mem hi) p' y' e, fun H' S' => ⟨e1.trans S', ?_⟩⟩
    rw [e2, List.take_add_one, gE hi, List.map_append, List.map_append]; rfl
   ·refine ⟨D, rows.map (rowB sp), rfl, SqL.of ?_, ?_⟩
    ·rw [upd_same, e2, ly, List.take_length]
    have eA : (rows.map (rowB sp)).all id = rows.all (rowB sp) := by rw [List.all_map]; rfl
    rw [eA]
    exact k _ (e1.put hD)
end
end HN
namespace HN
open PySem L2 PyProof.Rows
theorem LvJ.grow {H Hc Hd : Hp} {Ls Ah : Addr} {n : Nat} {st : List (List (Int × Int) × Tq)} {fo : List (List (Int × Int) × Dt)} (j : LvJ H Hc Ls Ah n st fo) (e : Same Hc Hd) : LvJ H Hd Ls Ah n st fo := by
 obtain ⟨ys, h1, h2⟩ := j.ls
 obtain ⟨zs, h3, h4⟩ := j.ah
 exact ⟨j.same.trans e, ⟨ys, e _ _ h1, h2.keep (Same.tupK e)⟩, ⟨zs, e _ _ h3, h4.keep (Same.tupK e)⟩, j.ok⟩
theorem same_up {H Hc : Hp} {a : Addr} {o : HO} (e : Same H Hc) (h : H a = none) : Same H (upd Hc a o) := fun b u q => by
 rw [upd_ne (fun z => by rw [z, h] at q; cases q)]
 exact e b u q
theorem siz_pos (t : Tq) : 1 ≤ siz t := by
 cases t with
 | leaf d => exact Nat.le_refl _
 | cut k a x y => show 1 ≤ siz x + siz y + 1; omega
theorem sizAll_le : ∀ (st : List (List (Int × Int) × Tq)), st.length ≤ sizAll st
 | [] => Nat.le_refl _
 | p :: st => by
  show st.length + 1 ≤ siz p.2 + sizAll st
  have := siz_pos p.2
  have := sizAll_le st
  omega
theorem rowsPk {α : Type} {f : α → List Int} {H H' : Hp} {v : V} {xs : List α} (e : TupK H H') (h : IsD H v (rowsP f xs)) : IsD H' v (rowsP f xs) := by
 obtain ⟨p, ys, rfl, hp, _, r⟩ := rows_of h
 exact .tup (e _ _ hp) (rows_keep e r)
theorem allP {sp : List Sn} {fo : List (List (Int × Int) × Dt)} {p : List (Int × Int) × Dt} (h : fo.all (fun p => leafB sp p.2) = true) (hp : leafB sp p.2 = true) : (fo ++ [p]).all (fun p => leafB sp p.2) = true := by
 rw [List.all_append, h]; simp [hp]
section
variable {P : Program} {w : World} {K : PySem.W.Frag} {mg : Str → Option Value} {base : Heap}
theorem scLeavesIn : FnScope ["net", "thing", "leaves", "ahead", "place", "sides"] ["net", "thing"] (defScope sLeavesIn) := ⟨rfl, rfl, rfl, by decide +kernel, rfl, by decide +kernel, by decide +kernel⟩
theorem ok_leavesIn {f f1 f2 f3 f4 : Addr} {fd fd1 fd2 fd3 fd4 : FuncData} (F : Fun K "leaves_in" "leaves_in" sLeavesIn f fd) (T : Nm mg) (CL : ∃ t, mg "MOST_LEAVES_WALKED" = some (.int 20000 t))
  (G1 : Fn K mg "first_bounds" sFirst ["net"] f1 fd1) (F1 : FnOk P w K mg base CX0 1 f1 fd1 ["net"] spFirst)
  (G2 : Fn K mg "is_cut" sCut ["bounds", "thing"] f2 fd2) (F2 : FnOk P w K mg base CX0 3 f2 fd2 ["bounds", "thing"] spCut)
  (G3 : Fn K mg "sides_of" sSides ["bounds", "cut"] f3 fd3) (F3 : FnOk P w K mg base CX0 2 f3 fd3 ["bounds", "cut"] spSides)
  (G4 : Fn K mg "is_leaf" sLeafT ["net", "thing"] f4 fd4) (F4 : FnOk P w K mg base CX0 7 f4 fd4 ["net", "thing"] spLeafT) : FnOk P w K mg base CX0 8 f fd ["net", "thing"] spLeavesIn := by
 refine F.ok scLeavesIn (fun vs H Q E h => by obtain ⟨v, u, b, m, sp, t, rfl, _⟩ := h; rfl) (fun cdv A outer s H vs Q E hr h => ?_)
 obtain ⟨v, u, b, m, sp, t, rfl, hv, hu, few, ok, hsz, k⟩ := h
 have hr1 : Room 1 _ := hr.mono (by decide)
 have hr2 : Room 2 _ := hr.mono (by decide)
 have hr3 : Room 3 _ := hr.mono (by decide)
 refine ⟨_, PSl.h (l_cons ⟨(ps_set (i := 2) scLeavesIn.nd rfl (Or.inl rfl) (pe_lst pa_nil))⟩
  (l_cons ⟨(ps_set (i := 3) scLeavesIn.nd rfl (Or.inl rfl) (pe_lst (pa_cons (pe_tupA (pa_cons (pc1 G1 F1 hr1 (pa_cons (pv 0) pa_nil)) (pa_cons (pv 1) pa_nil))) pa_nil)))⟩
  (l_cons ⟨(ps_while PassesOwn.never (pt_cmpR op_gt (pe_callB call_len_seq rfl T.len PySem.boot_len (pa_cons (pv 3) pa_nil)) pe_int (nomark _)) (PSl.h (l_cons ⟨(ps_set (i := 4) scLeavesIn.nd rfl (Or.inl rfl) (pe_bm0 PySem.F.plainAttrs_list PySem.F.slot_list_pop PySem.F.type_list_pop mt_pop (pv 3)))⟩
  (l_one ⟨(ps_if (pt_val (pc1 G2 F2 hr3 (pa_cons (pe_ix ix_tup (pv 4) pe_int (fun _ _ => rfl)) (pa_cons (pe_ix ix_tup (pv 4) pe_int (fun _ _ => rfl)) pa_nil)))) (PSl.h (l_cons ⟨(ps_set (i := 5) scLeavesIn.nd rfl (Or.inl rfl) (pc1 G3 F3 hr2 (pa_cons (pe_ix ix_tup (pv 4) pe_int (fun _ _ => rfl)) (pa_cons (pe_ix ix_tup (pv 4) pe_int (fun _ _ => rfl)) pa_nil))))⟩
  (l_cons ⟨(ps_expr (pe_bm PySem.F.plainAttrs_list PySem.F.slot_list_append PySem.F.type_list_append mt_append (pv 3) (pa_cons (pe_ix ix_tup (pv 5) pe_int (fun _ _ => rfl)) pa_nil)))⟩
  (l_one ⟨(ps_expr (pe_bm PySem.F.plainAttrs_list PySem.F.slot_list_append PySem.F.type_list_append mt_append (pv 3) (pa_cons (pe_ix ix_tup (pv 5) pe_int (fun _ _ => rfl)) pa_nil)))⟩)))) (pss_one (ps_if (PW.pt (pw_and (pt_val (pc1 G4 F4 hr (pa_cons (pv 0) (pa_cons (pe_ix ix_tup (pv 4) pe_int (fun _ _ => rfl)) pa_nil)))) (pw_and1 (pt_cmpR op_lt (pe_callB call_len_seq rfl T.len PySem.boot_len (pa_cons (pv 2) pa_nil)) (pe_gint CL) (nomark _))))) (pss_one (ps_expr (pe_bm PySem.F.plainAttrs_list PySem.F.slot_list_append PySem.F.type_list_append mt_append (pv 2) (pa_cons (pv 4) pa_nil)))) (pss_one (ps_ret pe_non)))))⟩))))⟩
  (l_one ⟨(ps_ret (pv 2))⟩)))), ?_⟩
 refine ⟨Nat.zero_le _, fun Ls hLs => ?_⟩
 have S1 : Same H (upd H Ls (.lst [])) := Same.put (Same.refl H) hLs
 have h1 : (upd H Ls (.lst [])) Ls = some (.lst []) := upd_same
 generalize upd H Ls (.lst []) = H1 at S1 h1 ⊢
 refine ⟨_, rfl, v, b, m, sp, rfl, hv.same S1, by omega, fun ub H2 S2 hub => ⟨_, rfl, (by show 2 ≤ sizeLine; decide), fun q3 H3 S3 h3 => ⟨(by show 1 ≤ sizeLine; decide), fun Ah hAh => ?_⟩⟩⟩
 have S13 := S1.trans (S2.trans S3)
 have nLA : Ls ≠ Ah := fun z => by rw [← z, S3 _ _ (S2 _ _ h1)] at hAh; cases hAh
 have hAhH : H Ah = none := by
  cases z : H Ah with
  | none => rfl
  | some o => rw [S13 _ _ z] at hAh; cases hAh
 have S4 : Same H3 (upd H3 Ah (.lst [.ref q3])) := Same.put (Same.refl H3) hAh
 have h4 : (upd H3 Ah (.lst [.ref q3])) Ah = some (.lst [.ref q3]) := upd_same
 generalize upd H3 Ah (.lst [.ref q3]) = H4 at S4 h4 ⊢
 obtain ⟨bs0, hbs0⟩ : ∃ bs0, bs0 = sp.map fun x => (x.l, x.o) := ⟨_, rfl⟩
 rw [← hbs0] at ok k hub
 have lb0 : bs0.length = sp.length := by rw [hbs0, List.length_map]
 have J4 : LvJ H H4 Ls Ah sp.length [(bs0, t)] [] := ⟨S13.trans S4, ⟨[], S4 _ _ (S3 _ _ (S2 _ _ h1)), .nil⟩, ⟨[.ref q3], h4, .cons ⟨q3, ub, u, rfl, S4 _ _ h3, (hub.same S3).same S4, hu⟩ .nil⟩, fun p hp => by rw [List.mem_singleton.mp hp]; exact ⟨ok, lb0⟩⟩
 refine ⟨fun n σ Hc => ∃ (st : List (List (Int × Int) × Tq)) (fo : List (List (Int × Int) × Dt)) (v4 v5 : Option V), n = sizAll st ∧ σ = [some v, some u, some (.ref Ls), some (.ref Ah), v4, v5] ∧ LvJ H Hc Ls Ah sp.length st fo ∧ fo ++ lvsAll st = lvs t bs0 ∧ fo.all (fun p => leafB sp p.2) = true ∧ fo.length + sizAll st ≤ 2000, ⟨_, _, _, none, none, rfl, rfl, J4, by show [] ++ (lvs t bs0 ++ []) = _; simp, rfl, by show 0 + (siz t + 0) ≤ 2000; omega⟩, ?_⟩
 clear J4 h4 S4 h3 hub S13 S3 S2 h1 S1 hAh
 rintro n σ Hc ⟨st, fo, v4, v5, rfl, rfl, J, hl, hall, hmx⟩
 obtain ⟨zs, hz, pz⟩ := J.ah
 refine ⟨_, rfl, Ah, _, rfl, .inl (SqL.of hz), _, _, rfl, rfl, _, rfl, ?_⟩
 cases pz with
 | nil =>
  refine iteC (by rfl) ?_
  obtain ⟨ys, hy, py⟩ := J.ls
  have e : fo = lvs t bs0 := by rw [← hl]; show fo = fo ++ []; simp
  refine ⟨_, rfl, k (.ref Ls) Hc J.same ?_⟩
  rw [← e, if_pos hall]
  exact ⟨Ls, ys, rfl, hLs, hy, py.data J.same⟩
 | cons h r =>
  rename_i y p zs st
  refine iteB (decide_eq_true (by rw [List.length_reverse, List.length_cons]; show ((zs.length + 1 : Nat) : Int) > 0; omega)) ?_
  refine ⟨_, fun σ' H' z => z, ?_⟩
  rw [List.reverse_cons] at hz
  refine ⟨_, rfl, .inl ⟨rfl, _, SqL.of hz⟩, Ah, _, y, rfl, rfl, hz, by rw [List.length_append, List.getElem?_append_right (by simp)]; simp, ?_⟩
  rw [List.dropLast_concat]
  obtain ⟨q, vb, vd, rfl, hq, hvb, hvd⟩ := h
  have K5 : TupK Hc (upd Hc Ah (.lst zs.reverse)) := tupK_upd hz
  have q5 := K5 _ _ hq
  have vb5 : IsD (upd Hc Ah (.lst zs.reverse)) vb (bndP p.1) := by
   obtain ⟨pb, yb, rfl, hpb, _, rb⟩ := rows_of hvb
   exact .tup (K5 _ _ hpb) (rows_keep K5 rb)
  have J5 : LvJ H (upd Hc Ah (.lst zs.reverse)) Ls Ah sp.length st fo := by
   obtain ⟨ys, hy, py⟩ := J.ls
   exact ⟨same_up J.same hAhH, ⟨ys, by rw [upd_ne nLA]; exact hy, py.keep K5⟩, ⟨zs, upd_same, r.keep K5⟩, fun p hp => J.ok p (List.mem_cons_of_mem _ hp)⟩
  obtain ⟨okp, lenp⟩ := J.ok p (by simp)
  generalize upd Hc Ah (.lst zs.reverse) = H5 at K5 q5 vb5 J5 ⊢
  have vd5 := hvd.same J5.same
  obtain ⟨bs, tq⟩ := p
  have lenp : bs.length = sp.length := lenp
  refine ⟨_, rfl, q, _, _, _, rfl, rfl, SqT.of q5, atI_nat (j := 0) rfl, _, rfl, q, _, _, _, rfl, rfl, SqT.of q5, atI_nat (j := 1) rfl, vb, vd, bs, treeD tq, rfl, vb5, vd5, _, rfl, ?_⟩
  cases tq with
  | cut kk a x y =>
   refine iteB (cut_true okp) ?_
   obtain ⟨o1, o2, o3, o4, o5⟩ := okp
   obtain ⟨c, cs, rfl, hc, rc⟩ := hvd.tup_of
   cases rc with
   | cons g0 gr => cases gr with
    | cons g1 gr => cases gr with
     | cons g2 gr => cases gr with
      | cons g3 gr => cases gr with
       | cons g4 gr =>
        cases gr
        cases g0
        cases g1
        cases g2
        rename_i x3 x4
        refine ⟨_, rfl, q, _, _, _, rfl, rfl, SqT.of q5, atI_nat (j := 0) rfl, _, rfl, q, _, _, _, rfl, rfl, SqT.of q5, atI_nat (j := 1) rfl, vb, c, bs, kk, a, x3, x4, rfl, vb5, J5.same _ _ hc, o1, by omega, fun p6 q6 r6 u1 u3 H6 S6 h6 hq6 hu1 hr6 hu3 => ?_⟩
        have J6 := J5.grow S6
        obtain ⟨zs6, hz6, pz6⟩ := J6.ah
        have lz := pz6.length
        have mx : st.length ≤ sizAll st := sizAll_le st
        have hmx : fo.length + ((siz x + siz y + 1) + sizAll st) ≤ 2000 := hmx
        refine ⟨_, rfl, .inl ⟨rfl, _, SqL.of hz6⟩, _, rfl, p6, _, _, _, rfl, rfl, SqT.of h6, atI_nat (j := 1) rfl, Ah, _, _, rfl, rfl, hz6, (Nat.lt_of_lt_of_le (by rw [List.length_reverse, lz]; omega : zs6.reverse.length < 3000) (by decide : 3000 ≤ sizeLine)), ?_⟩
        have K7 : TupK H6 (upd H6 Ah (.lst (zs6.reverse ++ [.ref r6]))) := tupK_upd hz6
        have hz7 : (upd H6 Ah (.lst (zs6.reverse ++ [.ref r6]))) Ah = some (.lst (zs6.reverse ++ [.ref r6])) := upd_same
        have E7 : ∀ b o, b ≠ Ah → H6 b = some o → (upd H6 Ah (.lst (zs6.reverse ++ [.ref r6]))) b = some o := fun b o hb e => by rw [upd_ne hb]; exact e
        have S7 : Same H (upd H6 Ah (.lst (zs6.reverse ++ [.ref r6]))) := same_up J6.same hAhH
        generalize upd H6 Ah (.lst (zs6.reverse ++ [.ref r6])) = H7 at K7 hz7 E7 S7 ⊢
        refine ⟨_, rfl, .inl ⟨rfl, _, SqL.of hz7⟩, _, rfl, p6, _, _, _, rfl, rfl, SqT.of (K7 _ _ h6), atI_nat (j := 0) rfl, Ah, _, _, rfl, rfl, hz7, (Nat.lt_of_lt_of_le (by rw [List.length_append, List.length_reverse, lz]; show st.length + 1 < 3000; omega : (zs6.reverse ++ [V.ref r6]).length < 3000) (by decide : 3000 ≤ sizeLine)), ?_⟩
        have K8 : TupK H7 (upd H7 Ah (.lst (zs6.reverse ++ [.ref r6] ++ [.ref q6]))) := tupK_upd hz7
        have K68 := K7.trans K8
        obtain ⟨ys6, hy6, py6⟩ := J6.ls
        refine ⟨siz x + (siz y + sizAll st), by show _ < siz x + siz y + 1 + sizAll st; omega, (oneB bs kk a, x) :: (otherB bs kk a, y) :: st, fo, _, _, rfl, rfl, ⟨same_up S7 hAhH, ⟨ys6, by rw [upd_ne nLA]; exact E7 _ _ nLA hy6, py6.keep K68⟩, ⟨.ref q6 :: .ref r6 :: zs6, by rw [upd_same, List.reverse_cons, List.reverse_cons], .cons ⟨q6, u1, x3, rfl, K68 _ _ hq6, rowsPk K68 hu1, g3⟩ (.cons ⟨r6, u3, x4, rfl, K68 _ _ hr6, rowsPk K68 hu3, g4⟩ (pz6.keep K68))⟩, fun p hp => ?_⟩, ?_, hall, by show fo.length + (siz x + (siz y + sizAll st)) ≤ 2000; omega⟩
        ·rcases List.mem_cons.mp hp with rfl | hp
         ·exact ⟨o4, by rw [one_len]; exact lenp⟩
         ·rcases List.mem_cons.mp hp with rfl | hp
          ·exact ⟨o5, by rw [other_len]; exact lenp⟩
          ·exact J6.ok p hp
        ·rw [← hl]
         show fo ++ (lvs x _ ++ (lvs y _ ++ lvsAll st)) = fo ++ ((lvs x _ ++ lvs y _) ++ lvsAll st)
         rw [List.append_assoc (lvs x _)]
  | leaf d =>
   refine iteC okp.1 ?_
   refine ⟨_, rfl, _, rfl, q, _, _, _, rfl, rfl, SqT.of q5, atI_nat (j := 1) rfl, v, vd, b, m, sp, d, rfl, hv.same J5.same, vd5, okp.2, fun H6 S6 => ⟨_, rfl, ?_⟩⟩
   have J6 := J5.grow S6
   by_cases hlf : leafB sp d = true
   rotate_left
   ·refine iteC (Bool.eq_false_iff.mpr hlf) (iteC rfl ?_)
    refine k .non H6 J6.same ?_
    rw [if_neg]
    rw [← hl]
    intro z
    rw [List.all_append, Bool.and_eq_true] at z
    have z2 : ((lvs (.leaf d) bs ++ lvsAll st).all fun p => leafB sp p.2) = true := z.2
    rw [List.all_append, Bool.and_eq_true] at z2
    have z3 : (([(bs, d)] : List (List (Int × Int) × Dt)).all fun p => leafB sp p.2) = true := z2.1
    simp at z3
    exact hlf z3
   refine iteB hlf ?_
   obtain ⟨ys6, hy6, py6⟩ := J6.ls
   have ly := py6.length
   rw [List.length_map] at ly
   refine ⟨_, rfl, Ls, _, rfl, .inl (SqL.of hy6), _, _, rfl, rfl, _, rfl, iteB (decide_eq_true (by show (ys6.length : Int) < 20000; omega)) ?_⟩
   refine ⟨_, rfl, .inl ⟨rfl, _, SqL.of hy6⟩, _, rfl, Ls, _, _, rfl, rfl, hy6, (Nat.lt_of_lt_of_le (by omega : ys6.length < 3000) (by decide : 3000 ≤ sizeLine)), ?_⟩
   have K7 : TupK H6 (upd H6 Ls (.lst (ys6 ++ [.ref q]))) := tupK_upd hy6
   obtain ⟨zs6, hz6, pz6⟩ := J6.ah
   have hmx : fo.length + (1 + sizAll st) ≤ 2000 := hmx
   refine ⟨sizAll st, by show _ < 1 + sizAll st; omega, st, fo ++ [(bs, d)], _, _, rfl, rfl, ⟨same_up J6.same hLs, ⟨_, upd_same, ?_⟩, ⟨zs6, by rw [upd_ne nLA.symm]; exact hz6, pz6.keep K7⟩, J6.ok⟩, ?_, allP hall hlf, by rw [List.length_append]; show fo.length + 1 + _ ≤ 2000; omega⟩
   ·rw [List.map_append]
    refine (py6.keep K7).append (.cons ⟨q, vb, vd, rfl, K7 _ _ (S6 _ _ q5), ?_, hvd⟩ .nil)
    obtain ⟨pb, yb, rfl, hpb, _, rb⟩ := rows_of (vb5.same S6)
    exact .tup (K7 _ _ hpb) (rows_keep K7 rb)
   ·rw [← hl, List.append_assoc]; rfl
end
end HN
namespace HN
open PySem L2 PyProof.Rows
abbrev sRest : Stmt := top 32
abbrev sWaitIn : Stmt := top 33
abbrev sWaits : Stmt := top 34
section
variable {P : Program} {w : World} {K : PySem.W.Frag} {mg : Str → Option Value} {base : Heap}
theorem scRest : FnScope ["beat", "number"] ["beat", "number"] (defScope sRest) := ⟨rfl, rfl, rfl, by decide +kernel, rfl, by decide +kernel, by decide +kernel⟩
theorem ok_rest {f : Addr} {fd : FuncData} (F : Fun K "rest_by" "rest_by" sRest f fd) : FnOk P w K mg base CX0 1 f fd ["beat", "number"] spRest := by
 refine F.ok scRest (fun vs H Q E h => by obtain ⟨b, n, rfl, _⟩ := h; rfl) (fun cdv A outer s H vs Q E hr h => ?_)
 obtain ⟨b, n, rfl, hb, k⟩ := h
 refine ⟨_, PSl.h (l_one ⟨(ps_ret (pe_op op_mod (pv 1) (pv 0)))⟩), ?_⟩
 exact ⟨_, rfl, _, rfl, _, _, rfl, rfl, hb, k⟩
theorem scWaitIn : FnScope ["net", "table", "span", "start", "goal", "least"] ["net", "table", "span"] (defScope sWaitIn) := ⟨rfl, rfl, rfl, by decide +kernel, rfl, by decide +kernel, by decide +kernel⟩
theorem ok_waitIn {f f1 : Addr} {fd fd1 : FuncData} (F : Fun K "wait_in" "wait_in" sWaitIn f fd) (G1 : Fn K mg "rest_by" sRest ["beat", "number"] f1 fd1) : FnOk P w K mg base CX0 2 f fd ["net", "table", "span"] spWaitIn := by
 have F1 : FnOk P w K mg base CX0 1 f1 fd1 ["beat", "number"] spRest := ok_rest G1.F
 refine F.ok scWaitIn (fun vs H Q E h => by obtain ⟨v, u, b, m, sp, ts, i, x, rfl, _⟩ := h; rfl) (fun cdv A outer s H vs Q E hr h => ?_)
 obtain ⟨v, u, b, m, sp, ts, i, x, rfl, hv, hu, R, hx, k⟩ := h
 obtain ⟨t, p, ys, rfl, ht, hp, hl, hy⟩ := netP_of hv
 obtain ⟨q, hq, hq2⟩ := hy i x hx
 obtain ⟨s0, s1, g0, g1⟩ := R.ends x (List.mem_of_getElem? hx)
 refine ⟨_, PSl.h (l_cons ⟨(ps_set (i := 3) scWaitIn.nd rfl (Or.inl rfl) (pe_ix ix_tup (pe_ix ix_tup (pe_ix ix_tup (pv 0) pe_int (fun _ _ => rfl)) (pv 2) (fun _ _ => rfl)) pe_int (fun _ _ => rfl)))⟩
  (l_cons ⟨(ps_set (i := 4) scWaitIn.nd rfl (Or.inl rfl) (pe_ix ix_tup (pe_ix ix_tup (pe_ix ix_tup (pv 0) pe_int (fun _ _ => rfl)) (pv 2) (fun _ _ => rfl)) pe_int (fun _ _ => rfl)))⟩
  (l_cons ⟨(ps_set (i := 5) scWaitIn.nd rfl (Or.inl rfl) (pe_ix ix_tup (pe_ix ix_tup (pe_ix ix_tup (pv 0) pe_int (fun _ _ => rfl)) (pv 2) (fun _ _ => rfl)) pe_int (fun _ _ => rfl)))⟩
  (l_one ⟨(ps_ret (pc1 G1 F1 hr (pa_cons (pe_ix ix_tup (pv 0) pe_int (fun _ _ => rfl)) (pa_cons (pe_op op_sub (pe_op op_sub (pe_ix ix_tup (pv 1) (pv 4) (fun _ _ => rfl)) (pe_ix ix_tup (pv 1) (pv 3) (fun _ _ => rfl))) (pv 5)) pa_nil))))⟩)))), ?_⟩
 refine ⟨_, rfl, t, _, _, _, rfl, rfl, SqT.of ht, atI_nat (j := 2) rfl, _, rfl, p, _, _, _, rfl, rfl, SqT.of hp, atI_nat (j := i) hq, q, _, _, _, rfl, rfl, SqT.of hq2, atI_nat (j := 0) rfl, ?_⟩
 refine ⟨_, rfl, t, _, _, _, rfl, rfl, SqT.of ht, atI_nat (j := 2) rfl, _, rfl, p, _, _, _, rfl, rfl, SqT.of hp, atI_nat (j := i) hq, q, _, _, _, rfl, rfl, SqT.of hq2, atI_nat (j := 1) rfl, ?_⟩
 refine ⟨_, rfl, t, _, _, _, rfl, rfl, SqT.of ht, atI_nat (j := 2) rfl, _, rfl, p, _, _, _, rfl, rfl, SqT.of hp, atI_nat (j := i) hq, q, _, _, _, rfl, rfl, SqT.of hq2, atI_nat (j := 2) rfl, ?_⟩
 refine ⟨_, rfl, t, _, _, _, rfl, rfl, SqT.of ht, atI_nat (j := 0) rfl, ?_⟩
 refine ⟨_, rfl, _, rfl, u, _, _, _, rfl, rfl, SqT.of hu, tm_at g0 g1, _, rfl, _, rfl, u, _, _, _, rfl, rfl, SqT.of hu, tm_at s0 s1, _, _, rfl, rfl, _, rfl, _, _, rfl, rfl, ?_⟩
 exact ⟨b, _, rfl, R.b1, k⟩
theorem scWaits : FnScope ["net", "table"] ["net", "table"] (defScope sWaits) := ⟨rfl, rfl, rfl, by decide +kernel, rfl, by decide +kernel, by decide +kernel⟩
theorem ok_waits {f f1 f2 : Addr} {fd fd1 fd2 : FuncData} (F : Fun K "waits_of" "waits_of" sWaits f fd) (T : Nm mg) (T2 : Nt mg) (G1 : Fn K mg "rest_by" sRest ["beat", "number"] f1 fd1) (G2 : Fn K mg "wait_in" sWaitIn ["net", "table", "span"] f2 fd2) : FnOk P w K mg base CX0 3 f fd ["net", "table"] spWaits := by
 have F2 : FnOk P w K mg base CX0 2 f2 fd2 ["net", "table", "span"] spWaitIn := ok_waitIn G2.F G1
 refine F.ok scWaits (fun vs H Q E h => by obtain ⟨v, u, b, m, sp, ts, rfl, _⟩ := h; rfl) (fun cdv A outer s H vs Q E hr h => ?_)
 obtain ⟨v, u, b, m, sp, ts, rfl, hv, hu, R, k⟩ := h
 obtain ⟨t, p, ys, rfl, ht, hp, hl, hy⟩ := netP_of hv
 refine ⟨_, PSl.h (l_one ⟨(ps_ret (pe_callTy call_tupA rfl T.ttup boot_tuple (pa_cons (pe_comp (fr := ["net", "table"]) (js := [0, 1]) rfl (pi_range1 rfl T2.range (pa_cons (pe_callB call_len_seq rfl T.len PySem.boot_len (pa_cons (pe_ix ix_tup (pv 0) pe_int (fun _ _ => rfl)) pa_nil)) pa_nil)) (by decide +kernel) rfl (by decide +kernel) rfl (by show ∀ y : Str × NameKind, y ∈ _ → y.2 = NameKind.free → List.lookup y.1 (defScope sWaits).names = some NameKind.cell; decide +kernel) (by decide +kernel) rfl (by decide +kernel) (fun _ _ _ _ _ => ⟨(pc1 G2 F2 hr (pa_cons (pv 1) (pa_cons (pv 2) (pa_cons (pv 0) pa_nil)))), pts_nil⟩)) pa_nil)))⟩), ?_⟩
 have few := R.few
 refine ⟨_, rfl, t, _, _, _, rfl, rfl, SqT.of ht, atI_nat (j := 2) rfl, p, _, rfl, .inr (SqT.of hp), _, rfl, by omega, by omega, ?_⟩
 refine comp_range (n := ((ys.length : Int)).toNat) (fun i zs H2 => H2 = H ∧ zs = (waitsM b ts (sp.take i)).map V.int) ⟨rfl, rfl⟩ (fun i zs H2 hi ⟨e1, e2⟩ => ?_) (by rw [Int.toNat_natCast, hl]; exact small_le few) (fun i zs H2 hi ⟨e1, e2⟩ => ?_) (fun zs H2 ⟨e1, e2⟩ D hD => ?_)
 ·rw [e2, List.length_map]; unfold waitsM; rw [List.length_map, List.length_take]; omega
 ·subst e1
  rw [Int.toNat_natCast, hl] at hi
  refine tNoIf_go ?_
  refine ⟨_, rfl, _, rfl, _, rfl, .ref t, u, b, m, sp, ts, i, sp[i], ?_, hv, hu, R, gE hi, rfl, ?_⟩
  ·rw [Int.zero_add]; rfl
  ·rw [e2]; unfold waitsM
   rw [List.take_add_one, gE hi, List.map_append, List.map_append]; rfl
 ·subst e1
  refine ⟨D, _, rfl, SqL.of upd_same, fun p3 H3 S3 h3 => ?_⟩
  refine k p3 H3 ((Same.put (Same.refl H2) hD).trans S3) ?_
  rw [h3, e2, Int.toNat_natCast, hl, List.take_length]
end
end HN
namespace HN
open PySem L2 PyProof.Rows
abbrev sWidth : Stmt := top 30
abbrev sBroken : Stmt := top 35
abbrev sFits : Stmt := top 36
abbrev sWaitOf : Stmt := top 37
section
variable {P : Program} {w : World} {K : PySem.W.Frag} {mg : Str → Option Value} {base : Heap}
theorem scWidth : FnScope ["net", "span", "least", "most"] ["net", "span"] (defScope sWidth) := ⟨rfl, rfl, rfl, by decide +kernel, rfl, by decide +kernel, by decide +kernel⟩
theorem ok_width {f : Addr} {fd : FuncData} (F : Fun K "width_of" "width_of" sWidth f fd) : FnOk P w K mg base CX0 1 f fd ["net", "span"] spWidth := by
 refine F.ok scWidth (fun vs H Q E h => by obtain ⟨v, b, m, sp, i, x, rfl, _⟩ := h; rfl) (fun cdv A outer s H vs Q E hr h => ?_)
 obtain ⟨v, b, m, sp, i, x, rfl, hv, hx, k⟩ := h
 obtain ⟨t, p, ys, rfl, ht, hp, hl, hy⟩ := netP_of hv
 obtain ⟨q, hq, hq2⟩ := hy i x hx
 refine ⟨_, PSl.h (l_cons ⟨(ps_set (i := 2) scWidth.nd rfl (Or.inl rfl) (pe_ix ix_tup (pe_ix ix_tup (pe_ix ix_tup (pv 0) pe_int (fun _ _ => rfl)) (pv 1) (fun _ _ => rfl)) pe_int (fun _ _ => rfl)))⟩
  (l_cons ⟨(ps_set (i := 3) scWidth.nd rfl (Or.inl rfl) (pe_ix ix_tup (pe_ix ix_tup (pe_ix ix_tup (pv 0) pe_int (fun _ _ => rfl)) (pv 1) (fun _ _ => rfl)) pe_int (fun _ _ => rfl)))⟩
  (l_one ⟨(ps_ret (pe_op op_sub (pv 3) (pv 2)))⟩))), ?_⟩
 refine ⟨_, rfl, t, _, _, _, rfl, rfl, SqT.of ht, atI_nat (j := 2) rfl, _, rfl, p, _, _, _, rfl, rfl, SqT.of hp, atI_nat (j := i) hq, q, _, _, _, rfl, rfl, SqT.of hq2, atI_nat (j := 2) rfl, ?_⟩
 refine ⟨_, rfl, t, _, _, _, rfl, rfl, SqT.of ht, atI_nat (j := 2) rfl, _, rfl, p, _, _, _, rfl, rfl, SqT.of hp, atI_nat (j := i) hq, q, _, _, _, rfl, rfl, SqT.of hq2, atI_nat (j := 3) rfl, ?_⟩
 exact ⟨_, rfl, _, rfl, _, _, rfl, rfl, k⟩
theorem scBroken : FnScope ["net", "table", "waits"] ["net", "table"] (defScope sBroken) := ⟨rfl, rfl, rfl, by decide +kernel, rfl, by decide +kernel, by decide +kernel⟩
theorem ok_broken {f f1 f2 : Addr} {fd fd1 fd2 : FuncData} (F : Fun K "broken_in" "broken_in" sBroken f fd) (T : Nm mg) (T2 : Nt mg) (G1 : Fn K mg "waits_of" sWaits ["net", "table"] f1 fd1) (F1 : FnOk P w K mg base CX0 3 f1 fd1 ["net", "table"] spWaits) (G2 : Fn K mg "width_of" sWidth ["net", "span"] f2 fd2) : FnOk P w K mg base CX0 4 f fd ["net", "table"] spBroken := by
 have F2 : FnOk P w K mg base CX0 1 f2 fd2 ["net", "span"] spWidth := ok_width G2.F
 refine F.ok scBroken (fun vs H Q E h => by obtain ⟨v, u, b, m, sp, ts, rfl, _⟩ := h; rfl) (fun cdv A outer s H vs Q E hr h => ?_)
 obtain ⟨v, u, b, m, sp, ts, rfl, hv, hu, R, k⟩ := h
 have hr1 : Room 1 _ := hr.mono (by decide)
 refine ⟨_, PSl.h (l_cons ⟨(ps_set (i := 2) scBroken.nd rfl (Or.inl rfl) (pc1 G1 F1 hr (pa_cons (pv 0) (pa_cons (pv 1) pa_nil))))⟩
  (l_one ⟨(ps_ret (pe_callTy call_tupA rfl T.ttup boot_tuple (pa_cons (pe_compT (xs := ["span", "wait"]) (fr := ["net"]) (js := [0]) rfl (pi_enum rfl T2.enum (pa_cons (pv 2) pa_nil)) (by decide +kernel) rfl (by decide +kernel) (by show ∀ y : Str × NameKind, y ∈ _ → y.2 = NameKind.free → List.lookup y.1 (defScope sBroken).names = some NameKind.cell; decide +kernel) rfl (by decide +kernel) (fun _ _ _ _ _ => pg_two rfl (by decide +kernel) rfl rfl) (fun _ _ _ _ _ => ⟨(pv 0), (pts_one (pt_cmpR op_gt (pv 1) (pc1 G2 F2 hr1 (pa_cons (pv 2) (pa_cons (pv 0) pa_nil))) (nomark _)))⟩)) pa_nil)))⟩)), ?_⟩
 have few := R.few
 refine ⟨_, rfl, _, rfl, v, u, b, m, sp, ts, rfl, hv, hu, R, fun p1 H1 S1 h1 => ?_⟩
 have hlen : ((waitsM b ts sp).map V.int).length = sp.length := by unfold waitsM; rw [List.length_map, List.length_map]
 refine ⟨_, rfl, p1, _, rfl, h1, ?_⟩
 refine compT_enum (K := K) (a := p1) (xs := (waitsM b ts sp).map V.int) (fun i zs H2 => Same H1 H2 ∧ zs = (bkAt b ts sp i).map V.int) ⟨Same.refl _, rfl⟩ (fun i zs H2 hi ⟨e1, e2⟩ => ?_) (by rw [hlen]; exact small_le few) (fun i x zs p2 H2 hx ⟨e1, e2⟩ hp2 => ?_) (fun zs H2 ⟨e1, e2⟩ D hD => ?_)
 ·refine ⟨e1 _ _ h1, ?_⟩
  rw [e2, List.length_map]; exact bkAt_len i
 ·have hi : i < sp.length := by
   rw [← hlen]
   exact (List.getElem?_eq_some_iff.mp hx).1
  have hxe : x = .int (waitM b ts sp[i]) := by
   unfold waitsM at hx
   rw [List.getElem?_map, List.getElem?_map, gE hi] at hx
   exact (Option.some.inj hx).symm
  subst hxe
  have S2 : Same H1 (upd H2 p2 (.tup [.int (i : Nat), .int (waitM b ts sp[i])])) := e1.put hp2
  refine ⟨_, rfl, _, rfl, _, rfl, v, b, m, sp, i, sp[i], rfl, (hv.same S1).same S2, gE hi, _, _, rfl, rfl, _, rfl, ?_⟩
  have hm := bkAt_more (b := b) (ts := ts) (gE hi)
  refine ite2 (fun h1 => ?_) (fun h1 => ?_)
  ·have h1 : brk b ts sp[i] = true := h1
   refine ⟨_, rfl, S2, ?_⟩
   rw [hm, if_pos h1, List.map_append, e2]; rfl
  ·have h1 : ¬ brk b ts sp[i] = true := h1
   refine ⟨S2, ?_⟩
   rw [hm, if_neg h1, List.append_nil, e2]
 ·refine ⟨D, _, rfl, SqL.of upd_same, fun p3 H3 S3 h3 => ?_⟩
  refine k p3 H3 (S1.trans ((e1.put hD).trans S3)) ?_
  rw [h3, e2, hlen]; rfl
theorem scFits : FnScope ["net", "table"] ["net", "table"] (defScope sFits) := ⟨rfl, rfl, rfl, by decide +kernel, rfl, by decide +kernel, by decide +kernel⟩
theorem ok_fits {f f1 : Addr} {fd fd1 : FuncData} (F : Fun K "fits" "fits" sFits f fd) (T : Nm mg) (G1 : Fn K mg "broken_in" sBroken ["net", "table"] f1 fd1) (F1 : FnOk P w K mg base CX0 4 f1 fd1 ["net", "table"] spBroken) : FnOk P w K mg base CX0 5 f fd ["net", "table"] spFits := by
 refine F.ok scFits (fun vs H Q E h => by obtain ⟨v, u, b, m, sp, ts, rfl, _⟩ := h; rfl) (fun cdv A outer s H vs Q E hr h => ?_)
 obtain ⟨v, u, b, m, sp, ts, rfl, hv, hu, R, k⟩ := h
 refine ⟨_, PSl.h (l_one ⟨(ps_ret (pe_cmpR op_eq (pe_callB call_len_seq rfl T.len PySem.boot_len (pa_cons (pc1 G1 F1 hr (pa_cons (pv 0) (pa_cons (pv 1) pa_nil))) pa_nil)) pe_int (nomark _)))⟩), ?_⟩
 refine ⟨_, rfl, _, rfl, v, u, b, m, sp, ts, rfl, hv, hu, R, fun p1 H1 S1 h1 => ?_⟩
 refine ⟨p1, _, rfl, .inr (SqT.of h1), rfl, ?_⟩
 have e : decide (V.int (((brokenM b ts sp).map V.int).length : Nat) = V.int 0) = fitsM b ts sp := by
  rw [Bool.eq_iff_iff, decide_eq_true_iff, ← brokenM_nil, List.length_map]
  constructor
  ·intro z; injection z with z; omega
  ·intro z; rw [z]; rfl
 rw [e]; exact k H1 S1
theorem scWaitOf : FnScope ["net", "table"] ["net", "table"] (defScope sWaitOf) := ⟨rfl, rfl, rfl, by decide +kernel, rfl, by decide +kernel, by decide +kernel⟩
theorem ok_waitOf {f f1 : Addr} {fd fd1 : FuncData} (F : Fun K "wait_of" "wait_of" sWaitOf f fd) (T : Nm mg) (T2 : Nt mg) (G1 : Fn K mg "waits_of" sWaits ["net", "table"] f1 fd1) (F1 : FnOk P w K mg base CX0 3 f1 fd1 ["net", "table"] spWaits) : FnOk P w K mg base CX0 4 f fd ["net", "table"] spWaitOf := by
 refine F.ok scWaitOf (fun vs H Q E h => by obtain ⟨v, u, b, m, sp, ts, rfl, _⟩ := h; rfl) (fun cdv A outer s H vs Q E hr h => ?_)
 obtain ⟨v, u, b, m, sp, ts, rfl, hv, hu, R, hw, k⟩ := h
 obtain ⟨t, p, ys, e0, ht, hp, hl, hy⟩ := netP_of hv
 subst e0
 refine ⟨_, PSl.h (l_one ⟨(ps_ret (pe_callB (call_sum rfl) rfl T2.sum boot_sum (pa_cons (pe_compT (xs := ["span", "wait"]) (fr := []) (js := []) rfl (pi_zipT rfl T2.zip (pa_cons (pe_ix ix_tup (pv 0) pe_int (fun _ _ => rfl)) (pa_cons (pc1 G1 F1 hr (pa_cons (pv 0) (pa_cons (pv 1) pa_nil))) pa_nil))) (by decide +kernel) rfl (by decide +kernel) (by show ∀ y : Str × NameKind, y ∈ _ → y.2 = NameKind.free → List.lookup y.1 (defScope sWaitOf).names = some NameKind.cell; decide +kernel) rfl (by decide +kernel) (fun _ _ _ _ _ => pg_two rfl (by decide +kernel) rfl rfl) (fun _ _ _ _ _ => ⟨(pe_op op_mul (pe_ix (r := rIxT K) ix_tup (pv 0) pe_int (fun _ _ => rfl)) (pv 1)), pts_nil⟩)) pa_nil)))⟩), ?_⟩
 have few := R.few
 refine ⟨_, rfl, t, _, _, _, rfl, rfl, SqT.of ht, atI_nat (j := 2) rfl, _, rfl, _, rfl, _, u, b, m, sp, ts, rfl, hv, hu, R, fun p1 H1 S1 h1 => ?_⟩
 have hlen : ((waitsM b ts sp).map V.int).length = sp.length := by unfold waitsM; rw [List.length_map, List.length_map]
 refine ⟨p, p1, _, _, rfl, S1 _ _ hp, h1, ?_⟩
 refine compT_zip (K := K) (a := p) (b := p1) (xs := ys) (ys := (waitsM b ts sp).map V.int) (fun i zs H2 => Same H1 H2 ∧ zs = ((sp.take i).map fun x => x.w * waitM b ts x).map V.int) ⟨Same.refl _, rfl⟩ (fun i zs H2 hi ⟨e1, e2⟩ => ?_) (by rw [hl]; exact small_le few) (fun i x y zs p2 H2 hx hy2 ⟨e1, e2⟩ hp2 => ?_) (fun zs H2 ⟨e1, e2⟩ D hD => ?_)
 ·refine ⟨e1 _ _ (S1 _ _ hp), e1 _ _ h1, ?_⟩
  rw [e2, List.length_map, List.length_map, List.length_take]; omega
 ·have hi : i < sp.length := by
   rw [← hl]
   exact (List.getElem?_eq_some_iff.mp hx).1
  have hye : y = .int (waitM b ts sp[i]) := by
   unfold waitsM at hy2
   rw [List.getElem?_map, List.getElem?_map, gE hi] at hy2
   exact (Option.some.inj hy2).symm
  subst hye
  obtain ⟨q, hq, hq2⟩ := hy i sp[i] (gE hi)
  rw [hx] at hq
  cases hq
  have S2 := e1.put (o := .tup [.ref q, .int (waitM b ts sp[i])]) hp2
  obtain ⟨w0, w1⟩ := hw sp[i] (List.getElem_mem hi)
  refine tNoIf_go ?_
  refine ⟨_, rfl, q, _, _, _, rfl, rfl, SqT.of (S2 _ _ (S1 _ _ hq2)), atI_nat (j := 4) rfl, _, rfl, _, _, rfl, rfl, .inl ⟨by omega, by omega⟩, S2, ?_⟩
  rw [e2, List.take_add_one, gE hi, List.map_append, List.map_append]; rfl
 ·refine ⟨D, _, rfl, SqL.of (xs := ((sp.map fun x => x.w * waitM b ts x).map V.int)) ?_, ?_⟩
  ·rw [upd_same, e2, hl, hlen, Nat.min_self, List.take_length]
  ·exact k _ (S1.trans (e1.put hD))
end
end HN
namespace HN
open PySem L2 PyProof.Rows
abbrev sBoundsF : Stmt := top 47
section
variable {P : Program} {w : World} {K : PySem.W.Frag} {mg : Str → Option Value} {base : Heap}
theorem scBoundsF : FnScope ["_law_net_here"] ["_law_net_here"] (defScope sBoundsF) := ⟨rfl, rfl, rfl, by decide +kernel, rfl, by decide +kernel, by decide +kernel⟩
theorem ok_boundsF {f : Addr} {fd : FuncData} (F : Fun K "_law_bounds" "_law_bounds" sBoundsF f fd) (T : Nm mg) : FnOk P w K mg base CX0 1 f fd ["_law_net_here"] spFirst := by
 refine F.ok scBoundsF (fun vs H Q E h => by obtain ⟨v, b, m, sp, rfl, _⟩ := h; rfl) (fun cdv A outer s H vs Q E hr h => ?_)
 obtain ⟨v, b, m, sp, rfl, hv, few, k⟩ := h
 obtain ⟨t, p, ys, rfl, ht, hp, hl, hy⟩ := netP_of hv
 refine ⟨_, PSl.h (l_one ⟨(ps_ret (pe_callTy call_tupA rfl T.ttup boot_tuple (pa_cons (pe_comp (fr := []) (js := []) rfl (pi_tup (pe_ix ix_tup (pv 0) pe_int (fun _ _ => rfl))) (by decide +kernel) rfl (by decide +kernel) rfl (by show ∀ y : Str × NameKind, y ∈ _ → y.2 = NameKind.free → List.lookup y.1 (defScope sBoundsF).names = some NameKind.cell; decide +kernel) (by decide +kernel) rfl (by decide +kernel) (fun _ _ _ _ _ => ⟨(pe_tupA (pa_cons (pe_ix (r := rIxT K) ix_tup (pv 0) pe_int (fun _ _ => rfl)) (pa_cons (pe_ix (r := rIxT K) ix_tup (pv 0) pe_int (fun _ _ => rfl)) pa_nil))), pts_nil⟩)) pa_nil)))⟩), ?_⟩
 refine ⟨_, rfl, t, _, _, _, rfl, rfl, SqT.of ht, atI_nat (j := 2) rfl, p, rfl, ⟨_, SqT.of hp⟩, ?_⟩
 refine comp_tup (K := K) (a := p) (xs := ys) (fun i zs H2 => Same H H2 ∧ IsDs H2 zs (((sp.take i).map fun x => (x.l, x.o)).map fun x => .tup ((bndR x).map Dt.int))) ⟨Same.refl H, .nil⟩ (fun i zs H2 hi ⟨e1, e2⟩ => ?_) (by rw [hl]; exact small_le few) (fun i x zs H2 hx ⟨e1, e2⟩ => ?_) (fun zs H2 ⟨e1, e2⟩ D hD => ?_)
 ·refine ⟨SqT.of (e1 _ _ hp), ?_⟩
  rw [e2.length, List.length_map, List.length_map, List.length_take]; omega
 ·have hi : i < sp.length := by rw [← hl]; exact (List.getElem?_eq_some_iff.mp hx).1
  obtain ⟨q, hq, hq2⟩ := hy i sp[i] (gE hi)
  rw [hx] at hq
  cases hq
  have hq3 := e1 _ _ hq2
  refine tNoIf_go ?_
  refine ⟨_, rfl, q, _, _, _, rfl, rfl, SqT.of hq3, atI_nat (j := 2) rfl, _, rfl, q, _, _, _, rfl, rfl, SqT.of hq3, atI_nat (j := 3) rfl, (by show 2 ≤ sizeLine; decide), fun q4 H4 S4 h4 => ⟨e1.trans S4, ?_⟩⟩
  rw [List.take_add_one, gE hi, List.map_append, List.map_append]
  exact (e2.same S4).append (.cons (.tup h4 (IsDs.ints [sp[i].l, sp[i].o])) .nil)
 ·refine ⟨D, _, rfl, SqL.of upd_same, fun p3 H3 S3 h3 => ?_⟩
  have S23 := (Same.put (o := .lst zs) (Same.refl H2) hD).trans S3
  refine k (.ref p3) H3 (e1.trans S23) (.tup h3 ?_)
  rw [hl, List.take_length] at e2
  exact e2.same S23
end
end HN
namespace HN
open PySem L2 PyProof.Rows
abbrev sIsRL : Stmt := top 51
theorem all_take {α : Type} (f : α → Bool) {xs : List α} {i : Nat} (h : i < xs.length) (a : (xs.take i).all f = true) (b : f xs[i] = true) : (xs.take (i + 1)).all f = true := by
 rw [List.take_add_one, gE h, List.all_append, a]
 show (true && (f xs[i] && true)) = true
 rw [b]; rfl
theorem all_not {α : Type} (f : α → Bool) {xs : List α} {i : Nat} (h : i < xs.length) (b : f xs[i] = false) : xs.all f = false := by
 rw [List.all_eq_false]
 exact ⟨xs[i], List.getElem_mem h, by rw [b]; decide⟩
section
variable {P : Program} {w : World} {K : PySem.W.Frag} {mg : Str → Option Value} {base : Heap}
theorem scIsRL : FnScope ["_law_net_here", "_law_bounds_here", "_law_leaf_here", "_law_first", "_law_last", "_law_price", "_law_ring_here"] ["_law_net_here", "_law_bounds_here", "_law_leaf_here"] (defScope sIsRL) := ⟨rfl, rfl, rfl, by decide +kernel, rfl, by decide +kernel, by decide +kernel⟩
theorem ok_isRL {f f1 : Addr} {fd fd1 : FuncData} (F : Fun K "_law_is_right" "_law_is_right" sIsRL f fd) (G1 : Fn K mg "_law_beats" sBeatsL ["_law_net_here", "_law_bounds_here", "_law_ring_here"] f1 fd1) : FnOk P w K mg base CX0 2 f fd ["_law_net_here", "_law_bounds_here", "_law_leaf_here"] spIsRight := by
 have F1 : FnOk P w K mg base CX0 1 f1 fd1 ["_law_net_here", "_law_bounds_here", "_law_ring_here"] spBeats := ok_beatsL G1.F
 refine F.ok scIsRL (fun vs H Q E h => by obtain ⟨vn, vb, vl, b, m, sp, bs, lf, rfl, _⟩ := h; rfl) (fun cdv A outer s H vs Q E hr h => ?_)
 obtain ⟨vn, vb, vl, b, m, sp, bs, lf, rfl, hv, b0, b61, hvb, hl, hin, k⟩ := h
 refine ⟨_, PSl.h (l_cons ⟨(ps_if (pt_cmpR op_eq (pe_ix ix_tup (pv 2) pe_int (fun _ _ => rfl)) pe_str (nomark _)) (PSl.h (l_cons ⟨(ps_asg (pc1 G1 F1 hr (pa_cons (pv 0) (pa_cons (pv 1) (pa_cons (pe_ix ix_tup (pv 2) pe_int (fun _ _ => rfl)) pa_nil)))) (pg_tup rfl (pgs_cons (pg_name (i := 3) scIsRL.nd rfl (Or.inl rfl)) (pgs_cons (pg_name (i := 4) scIsRL.nd rfl (Or.inl rfl)) pgs_nil))))⟩
  (l_one ⟨(ps_ret (pe_cmpR op_gt (pv 3) (pv 4) (nomark _)))⟩))) pss_nil)⟩
  (l_cons ⟨(ps_for PassesOwn.never rfl (pi_tup (pe_ix ix_tup (pv 2) pe_int (fun _ _ => rfl))) (pg_tup rfl (pgs_cons (pg_name (i := 5) scIsRL.nd rfl (Or.inl rfl)) (pgs_cons (pg_name (i := 6) scIsRL.nd rfl (Or.inl rfl)) pgs_nil))) (PSl.h (l_cons ⟨(ps_asg (pc1 G1 F1 hr (pa_cons (pv 0) (pa_cons (pv 1) (pa_cons (pv 6) pa_nil)))) (pg_tup rfl (pgs_cons (pg_name (i := 3) scIsRL.nd rfl (Or.inl rfl)) (pgs_cons (pg_name (i := 4) scIsRL.nd rfl (Or.inl rfl)) pgs_nil))))⟩
  (l_one ⟨(ps_if (pt_cmpR op_ne (pv 3) (pv 4) (nomark _)) (pss_one (ps_ret pe_bl)) pss_nil)⟩))))⟩
  (l_one ⟨(ps_ret pe_bl)⟩))), ?_⟩
 cases lf with
 | ring ws =>
  obtain ⟨p, xs, rfl, hp, rx⟩ := IsD.tup_of (show IsD H vl (.tup [.str "ring", wayP ws]) from hl)
  cases rx with
  | cons g0 gr => cases gr with
   | cons g1 gr =>
    cases gr
    cases g0
    rename_i vw
    refine ⟨_, rfl, p, _, _, _, rfl, rfl, SqT.of hp, atI_nat (j := 0) rfl, rfl, _, rfl, iteB (by decide) ?_⟩
    refine ⟨_, rfl, _, rfl, _, rfl, p, _, _, _, rfl, rfl, SqT.of hp, atI_nat (j := 1) rfl, vn, vb, vw, b, m, sp, bs, ws, rfl, hv, b0, b61, hvb, g1, hin, fun q2 H2 S2 h2 => ?_⟩
    refine ⟨q2, _, rfl, SqT.of h2, rfl, _, _, rfl, _, _, rfl, rfl, ?_⟩
    exact ⟨_, rfl, _, rfl, _, _, rfl, rfl, k H2 S2⟩
 | price rows =>
  obtain ⟨p, pr, yr, rfl, hp, hpr, ry⟩ := price_of hl
  have lr : yr.length = rows.length := by rw [ry.length, List.length_map]
  refine ⟨_, rfl, p, _, _, _, rfl, rfl, SqT.of hp, atI_nat (j := 0) rfl, rfl, _, rfl, iteC (by decide) ?_⟩
  refine ⟨_, rfl, p, _, _, _, rfl, rfl, SqT.of hp, atI_nat (j := 1) rfl, pr, rfl, ⟨_, SqT.of hpr⟩, ?_⟩
  refine for_tup (K := K) (xs := yr) (fun i σ H3 => Same H H3 ∧ (rows.take i).all (fun r => sureB b bs r.2) = true ∧ ∃ v3 v4 v5 v6, σ = [some vn, some vb, some (.ref p), v3, v4, v5, v6]) ⟨Same.refl H, rfl, none, none, none, none, rfl⟩ (fun i σ H3 _ ⟨S3, _⟩ => SqT.of (S3 _ _ hpr)) ?_ ?_
  ·rintro i y σ H3 hy3 ⟨S3, all3, v3, v4, v5, v6, rfl⟩
   have hi : i < rows.length := by rw [← lr]; exact (List.getElem?_eq_some_iff.mp hy3).1
   obtain ⟨d, hd, dy⟩ := ry.get hy3
   rw [List.getElem?_map, gE hi] at hd
   cases hd
   obtain ⟨q, vw, rfl, hq, hw⟩ := row_of dy
   refine ⟨q, _, rfl, SqT.of (S3 _ _ hq), rfl, _, _, rfl, _, _, rfl, rfl, ?_⟩
   refine ⟨_, rfl, _, rfl, _, rfl, vn, vb, vw, b, m, sp, bs, rows[i].2, rfl, hv.same S3, b0, b61, hvb.same S3, hw.same S3, hin.2 _ (List.getElem_mem hi), fun q2 H4 S4 h4 => ?_⟩
   refine ⟨q2, _, rfl, SqT.of h4, rfl, _, _, rfl, _, _, rfl, rfl, ?_⟩
   refine ⟨_, rfl, _, rfl, rfl, _, rfl, ?_⟩
   refine ite2 (fun hd => ?_) (fun hd => ⟨S3.trans S4, ?_, _, _, _, _, rfl⟩)
   ·have k1 := k H4 (S3.trans S4)
    have e : rightB b bs (.price rows) = false := by
     show (rows.all fun r => sureB b bs r.2) = false
     refine all_not _ hi (decide_eq_false fun z => ?_)
     have hd : (!decide (V.int (upB b (sumLo bs rows[i].2)) = V.int (sumHi bs rows[i].2 / b))) = true := hd
     rw [z, decide_eq_true rfl] at hd
     cases hd
    rw [e] at k1
    exact k1
   ·refine all_take _ hi all3 (decide_eq_true ?_)
    have hd : ¬ (!decide (V.int (upB b (sumLo bs rows[i].2)) = V.int (sumHi bs rows[i].2 / b))) = true := hd
    rw [Bool.not_eq_true', Bool.not_eq_false, decide_eq_true_eq] at hd
    injection hd
  ·rintro σ H3 ⟨S3, all3, v3, v4, v5, v6, rfl⟩
   rw [lr, List.take_length] at all3
   have k1 := k H3 S3
   have e : rightB b bs (.price rows) = true := all3
   rw [e] at k1
   exact k1
end
end HN
namespace HN
open PySem L2 PyProof.Rows
abbrev sWorthL : Stmt := top 52
def rowS (ws : List Stp) : List (List Dt) := ws.map fun s => (Stp.row s).map Dt.int
theorem way_in {H : Hp} {p : Addr} {ws : List Stp} (h : IsD H (.ref p) (wayP ws)) : IsD H (.ref p) (.tup ((rowS ws).map Dt.tup)) := by
 unfold rowS
 rw [List.map_map]
 exact h
theorem way_pl (ws : List Stp) : ∀ es ∈ rowS ws, pls es = true ∧ deps es < 59 := fun es he => by
 obtain ⟨s, _, rfl⟩ := List.mem_map.mp he
 exact ⟨pls_ints _, by rw [deps_ints]; decide⟩
theorem has_eq {i : Nat} {d : Int} : ∀ (ws : List Stp), ((rowS ws).any fun es => eqDs es ([((i : Nat) : Int), d].map Dt.int)) = hasS i d ws
 | [] => rfl
 | s :: ws => by
  show (eqDs ((Stp.row s).map Dt.int) ([((i : Nat) : Int), d].map Dt.int) || ((rowS ws).any fun es => eqDs es ([((i : Nat) : Int), d].map Dt.int))) = (decide (s.i = i) && decide (s.d = d) || hasS i d ws)
  rw [has_eq ws, eqDs_ints]
  congr 1
  by_cases e1 : s.i = i
  ·by_cases e2 : s.d = d
   ·rw [decide_eq_true e1, decide_eq_true e2, decide_eq_true (by show [(s.i : Int), s.d] = _; rw [e1, e2])]; rfl
   ·rw [decide_eq_false e2, Bool.and_false]
    exact decide_eq_false fun z => e2 (by injection z with z1 z2; injection z2)
  ·rw [decide_eq_false e1, Bool.false_and]
   exact decide_eq_false fun z => e1 (by injection z with z1 z2; omega)
def spWorthL : Sp := fun vs H Q _ => ∃ (v vb vl : V) (b m : Int) (sp : List Sn) (bs : List (Int × Int)) (rows : List (Int × List Stp)), vs = [v, vb, vl] ∧ WoArgs H v vb vl b m sp bs rows ∧ ∀ H', Same H H' → Q (.int (worthM b sp bs rows)) H'
section
variable {P : Program} {w : World} {K : PySem.W.Frag} {mg : Str → Option Value} {base : Heap}
theorem scWorthL : FnScope ["_law_net_here", "_law_bounds_here", "_law_leaf_here", "_law_worth_here", "_law_k", "_law_start", "_law_goal", "_law_least", "_law_most", "_law_weight", "_law_own", "_law_price", "_law_ring_here"] ["_law_net_here", "_law_bounds_here", "_law_leaf_here"] (defScope sWorthL) := ⟨rfl, rfl, rfl, by decide +kernel, rfl, by decide +kernel, by decide +kernel⟩
theorem ok_worthL {f f1 : Addr} {fd fd1 : FuncData} (F : Fun K "_law_worth" "_law_worth" sWorthL f fd) (T : Nm mg) (T2 : Nt mg) (G1 : Fn K mg "_law_beats" sBeatsL ["_law_net_here", "_law_bounds_here", "_law_ring_here"] f1 fd1) : FnOk P w K mg base CX0 2 f fd ["_law_net_here", "_law_bounds_here", "_law_leaf_here"] spWorthL := by
 have F1 : FnOk P w K mg base CX0 1 f1 fd1 ["_law_net_here", "_law_bounds_here", "_law_ring_here"] spBeats := ok_beatsL G1.F
 refine F.ok scWorthL (fun vs H Q E h => by obtain ⟨v, vb, vl, b, m, sp, bs, rows, rfl, _⟩ := h; rfl) (fun cdv A outer s H vs Q E hr h => ?_)
 obtain ⟨v, vb, vl, b, m, sp, bs, rows, rfl, W, k⟩ := h
 obtain ⟨hv, hb, hl0, b0, b61, lb, few, bu, hws, hok, lr41⟩ := W
 obtain ⟨t, pn, ys, rfl, ht, hpn, hl, hy⟩ := netP_of hv
 obtain ⟨p, pr, yr, rfl, hp, hpr, ry⟩ := price_of hl0
 obtain ⟨pb, yb, rfl, hpb, hlb, rb⟩ := rows_of hb
 have lr : yr.length = rows.length := by rw [ry.length, List.length_map]
 refine ⟨_, PSl.h (l_cons ⟨(ps_set (i := 3) scWorthL.nd rfl (Or.inl rfl) pe_int)⟩
  (l_cons ⟨(ps_for PassesOwn.never rfl (pi_range1 rfl T2.range (pa_cons (pe_callB call_len_seq rfl T.len PySem.boot_len (pa_cons (pe_ix ix_tup (pv 0) pe_int (fun _ _ => rfl)) pa_nil)) pa_nil)) (pg_name (i := 4) scWorthL.nd rfl (Or.inl rfl)) (PSl.h (l_cons ⟨(ps_asg (pe_ix ix_tup (pe_ix ix_tup (pv 0) pe_int (fun _ _ => rfl)) (pv 4) (fun _ _ => rfl)) (pg_tup rfl (pgs_cons (pg_name (i := 5) scWorthL.nd rfl (Or.inl rfl)) (pgs_cons (pg_name (i := 6) scWorthL.nd rfl (Or.inl rfl)) (pgs_cons (pg_name (i := 7) scWorthL.nd rfl (Or.inl rfl)) (pgs_cons (pg_name (i := 8) scWorthL.nd rfl (Or.inl rfl)) (pgs_cons (pg_name (i := 9) scWorthL.nd rfl (Or.inl rfl)) pgs_nil)))))))⟩
  (l_cons ⟨(ps_set (i := 10) scWorthL.nd rfl (Or.inl rfl) (pv 9))⟩
  (l_cons ⟨(ps_for PassesOwn.never rfl (pi_tup (pe_ix ix_tup (pv 2) pe_int (fun _ _ => rfl))) (pg_tup rfl (pgs_cons (pg_name (i := 11) scWorthL.nd rfl (Or.inl rfl)) (pgs_cons (pg_name (i := 12) scWorthL.nd rfl (Or.inl rfl)) pgs_nil))) (PSl.h (l_cons ⟨(ps_cutK (ps_if (pt_cmpR (op_inD hr.units) (pe_tupA (pa_cons (pv 4) (pa_cons pe_int pa_nil))) (pv 12) rfl) (pss_one (ps_set (i := 10) scWorthL.nd rfl (Or.inl rfl) (pe_op op_sub (pv 10) (pv 11)))) pss_nil))⟩
  (l_one ⟨(ps_cutK (ps_if (pt_cmpR (op_inD hr.units) (pe_tupA (pa_cons (pv 4) (pa_cons (pe_un un_neg pe_int) pa_nil))) (pv 12) rfl) (pss_one (ps_set (i := 10) scWorthL.nd rfl (Or.inl rfl) (pe_op op_add (pv 10) (pv 11)))) pss_nil))⟩))))⟩
  (l_one ⟨(ps_set (i := 3) scWorthL.nd rfl (Or.inl rfl) (pe_op op_add (pe_op op_sub (pv 3) (pe_op op_mul (pv 9) (pv 7))) (pe_callB (call_min2 rfl) rfl T.min boot_min (pa_cons (pe_op op_mul (pv 10) (pe_ix ix_tup (pe_ix ix_tup (pv 1) (pv 4) (fun _ _ => rfl)) pe_int (fun _ _ => rfl))) (pa_cons (pe_op op_mul (pv 10) (pe_ix ix_tup (pe_ix ix_tup (pv 1) (pv 4) (fun _ _ => rfl)) pe_int (fun _ _ => rfl))) pa_nil)))))⟩))))))⟩
  (l_cons ⟨(ps_for PassesOwn.never rfl (pi_tup (pe_ix ix_tup (pv 2) pe_int (fun _ _ => rfl))) (pg_tup rfl (pgs_cons (pg_name (i := 11) scWorthL.nd rfl (Or.inl rfl)) (pgs_cons (pg_name (i := 12) scWorthL.nd rfl (Or.inl rfl)) pgs_nil))) (pss_one (ps_set (i := 3) scWorthL.nd rfl (Or.inl rfl) (pe_op op_add (pv 3) (pe_op op_mulB (pe_op op_mul (pv 11) (pe_ix ix_tup (pv 0) pe_int (fun _ _ => rfl))) (pe_ix ix_tup (pc1 G1 F1 hr (pa_cons (pv 0) (pa_cons (pv 1) (pa_cons (pv 12) pa_nil)))) pe_int (fun _ _ => rfl)))))))⟩
  (l_one ⟨(ps_ret (pv 3))⟩)))), ?_⟩
 refine ⟨_, rfl, t, _, _, _, rfl, rfl, SqT.of ht, atI_nat (j := 2) rfl, pn, _, rfl, .inr (SqT.of hpn), (ys.length : Int), rfl, by omega, by omega, ?_⟩
 refine for_range (n := ((ys.length : Int)).toNat) (fun i σ H3 => Same H H3 ∧ ∃ v4 v5 v6 v7 v8 v9 v10 v11 v12, σ = [some (.ref t), some (.ref pb), some (.ref p), some (.int ((List.range i).map (termW sp bs rows)).sum), v4, v5, v6, v7, v8, v9, v10, v11, v12]) ⟨Same.refl H, none, none, none, none, none, none, none, none, none, rfl⟩ ?_ ?_
 ·rintro i σ H3 hi0 ⟨S3, v4, v5, v6, v7, v8, v9, v10, v11, v12, rfl⟩
  have hi : i < sp.length := by omega
  have hib : i < bs.length := by omega
  have zi : (0 : Int) + (i : Nat) = (i : Nat) := Int.zero_add _
  rw [zi]
  obtain ⟨qz, e2, h2⟩ := hy i sp[i] (gE hi)
  obtain ⟨qb, e1, h1⟩ := rows_at rb (gE hib)
  have ew : wOf sp i = sp[i].w := by unfold wOf; rw [gE hi]
  have el : lOf sp i = sp[i].l := by unfold lOf; rw [gE hi]
  have eb : bs.getD i (0, 0) = bs[i] := by rw [List.getD_eq_getElem?_getD, gE hib]; rfl
  have wx := hws sp[i] (List.getElem_mem hi)
  have bx := bu bs[i] (List.getElem_mem hib)
  have ob := owK_abs (k := i) hws hok lr41
  refine ⟨_, rfl, t, _, _, _, rfl, rfl, SqT.of (S3 _ _ ht), atI_nat (j := 2) rfl, _, rfl, pn, _, _, _, rfl, rfl, SqT.of (S3 _ _ hpn), atI_nat (j := i) e2, qz, _, rfl, SqT.of (S3 _ _ h2), rfl, _, _, rfl, _, _, rfl, _, _, rfl, _, _, rfl, _, _, rfl, rfl, ?_⟩
  refine ⟨_, rfl, _, rfl, p, _, _, _, rfl, rfl, SqT.of (S3 _ _ hp), atI_nat (j := 1) rfl, pr, rfl, ⟨_, SqT.of (S3 _ _ hpr)⟩, ?_⟩
  refine for_tup (K := K) (xs := yr) (fun j σ H4 => Same H H4 ∧ ∃ v11 v12, σ = [some (.ref t), some (.ref pb), some (.ref p), some (.int ((List.range i).map (termW sp bs rows)).sum), some (.int (i : Nat)), some (.int sp[i].s), some (.int sp[i].g), some (.int sp[i].l), some (.int sp[i].o), some (.int sp[i].w), some (.int ((rows.take j).foldl (ownS i) sp[i].w)), v11, v12]) ⟨S3, _, _, rfl⟩ (fun j σ H4 _ ⟨S4, _⟩ => SqT.of (S4 _ _ hpr)) ?_ ?_
  ·rintro j y σ H4 hy4 ⟨S4, v11, v12, rfl⟩
   have hj : j < rows.length := by rw [← lr]; exact (List.getElem?_eq_some_iff.mp hy4).1
   obtain ⟨d, hd, dy⟩ := ry.get hy4
   rw [List.getElem?_map, gE hj] at hd
   cases hd
   obtain ⟨q, vw, rfl, hq, hw⟩ := row_of dy
   obtain ⟨pw, yw, rfl, hpw, hlw, rw'⟩ := rows_of hw
   obtain ⟨acc, hacc⟩ : ∃ acc, acc = (rows.take j).foldl (ownS i) sp[i].w := ⟨_, rfl⟩
   have step : (rows.take (j + 1)).foldl (ownS i) sp[i].w = ownV i acc rows[j].1 rows[j].2 := by rw [fold_take _ _ hj, ← hacc]; rfl
   rw [step, ← hacc]
   refine ⟨q, _, rfl, SqT.of (S4 _ _ hq), rfl, _, _, rfl, _, _, rfl, rfl, ?_⟩
   refine ⟨fun σ' H' => Same H H' ∧ σ' = [some (.ref t), some (.ref pb), some (.ref p), some (.int ((List.range i).map (termW sp bs rows)).sum), some (.int (i : Nat)), some (.int sp[i].s), some (.int sp[i].g), some (.int sp[i].l), some (.int sp[i].o), some (.int sp[i].w), some (.int (if hasS i 1 rows[j].2 = true then acc - rows[j].1 else acc)), some (.int rows[j].1), some (.ref pw)], ?_, ?_⟩
   rotate_left
   ·refine ⟨_, rfl, (by show 2 ≤ sizeLine; decide), fun q1 H5 S5 h5 => ⟨_, rfl, _, pw, _, .tup h5 (IsDs.ints [((i : Nat) : Int), 1]), rfl, way_in (hw.same (S4.trans S5)), pls_ints [((i : Nat) : Int), 1], way_pl rows[j].2, _, rfl, ?_⟩⟩
    rw [has_eq]
    refine ite2 (fun hd => ?_) (fun hd => ⟨S4.trans S5, ?_⟩)
    ·refine ⟨_, rfl, _, rfl, _, _, rfl, rfl, S4.trans S5, ?_⟩
     rw [if_pos hd]; rfl
    ·rw [if_neg hd]; rfl
   rintro σ' H5 ⟨S5, rfl⟩
   refine ⟨fun σ' H' => Same H H' ∧ ∃ v11 v12, σ' = [some (.ref t), some (.ref pb), some (.ref p), some (.int ((List.range i).map (termW sp bs rows)).sum), some (.int (i : Nat)), some (.int sp[i].s), some (.int sp[i].g), some (.int sp[i].l), some (.int sp[i].o), some (.int sp[i].w), some (.int (ownV i acc rows[j].1 rows[j].2)), v11, v12], fun σ' H' z => z, ?_⟩
   refine ⟨_, rfl, _, rfl, (by show 2 ≤ sizeLine; decide), fun q1 H6 S6 h6 => ⟨_, rfl, _, pw, _, .tup h6 (IsDs.ints [((i : Nat) : Int), -1]), rfl, way_in (hw.same (S5.trans S6)), pls_ints [((i : Nat) : Int), -1], way_pl rows[j].2, _, rfl, ?_⟩⟩
   rw [has_eq]
   refine ite2 (fun hd => ?_) (fun hd => ⟨S5.trans S6, some (.int rows[j].1), some (.ref pw), ?_⟩)
   ·refine ⟨_, rfl, _, rfl, _, _, rfl, rfl, S5.trans S6, some (.int rows[j].1), some (.ref pw), ?_⟩
    unfold ownV
    rw [if_pos hd]; rfl
   ·unfold ownV
    rw [if_neg hd]
  rintro σ H4 ⟨S4, v11, v12, rfl⟩
  rw [lr, List.take_length]
  have eo : rows.foldl (ownS i) sp[i].w = owK sp rows i := by unfold owK; rw [ew]
  rw [eo]
  refine ⟨_, rfl, _, rfl, _, rfl, _, _, rfl, rfl, .inl ⟨by show -(2 ^ 64) < sp[i].w; omega, by show sp[i].w < 2 ^ 64; omega⟩, _, _, rfl, rfl, _, rfl, _, rfl, _, rfl, pb, _, _, _, rfl, rfl, SqT.of (S4 _ _ hpb), atI_nat (j := i) e1, qb, _, _, _, rfl, rfl, SqT.of (S4 _ _ h1), atI_nat (j := 0) rfl, _, _, rfl, rfl, .inl ⟨by show -(2 ^ 64) < owK sp rows i; omega, by show owK sp rows i < 2 ^ 64; omega⟩, _, rfl, _, rfl, _, rfl, pb, _, _, _, rfl, rfl, SqT.of (S4 _ _ hpb), atI_nat (j := i) e1, qb, _, _, _, rfl, rfl, SqT.of (S4 _ _ h1), atI_nat (j := 1) rfl, _, _, rfl, rfl, .inl ⟨by show -(2 ^ 64) < owK sp rows i; omega, by show owK sp rows i < 2 ^ 64; omega⟩, _, _, rfl, _, _, rfl, rfl, S4, some (.int (i : Nat)), some (.int sp[i].s), some (.int sp[i].g), some (.int sp[i].l), some (.int sp[i].o), some (.int sp[i].w), some (.int (owK sp rows i)), v11, v12, ?_⟩
  have tl := termL_eq (sp := sp) (bs := bs) (rows := rows) (k := i) (by rw [eb]; exact bx.2.1)
  rw [eb, ew, el] at tl
  have ee : ∀ x y z : Int, x + (z - y) = x - y + z := by intros; omega
  rw [sum_range, ← tl, ee]; rfl
 rintro σ H3 ⟨S3, v4, v5, v6, v7, v8, v9, v10, v11, v12, rfl⟩
 have en : ((ys.length : Int)).toNat = sp.length := by omega
 rw [en]
 obtain ⟨base', hbase⟩ : ∃ z, z = ((List.range sp.length).map (termW sp bs rows)).sum := ⟨_, rfl⟩
 rw [← hbase]
 refine ⟨_, rfl, p, _, _, _, rfl, rfl, SqT.of (S3 _ _ hp), atI_nat (j := 1) rfl, pr, rfl, ⟨_, SqT.of (S3 _ _ hpr)⟩, ?_⟩
 refine for_tup (K := K) (xs := yr) (fun j σ H4 => Same H H4 ∧ ∃ v11 v12, σ = [some (.ref t), some (.ref pb), some (.ref p), some (.int (base' + rowsW b bs (rows.take j))), v4, v5, v6, v7, v8, v9, v10, v11, v12]) ⟨S3, v11, v12, by show _ = [_, _, _, some (V.int (base' + 0)), _, _, _, _, _, _, _, _, _]; rw [Int.add_zero]⟩ (fun j σ H4 _ ⟨S4, _⟩ => SqT.of (S4 _ _ hpr)) ?_ ?_
 ·rintro j y σ H4 hy4 ⟨S4, v11, v12, rfl⟩
  have hj : j < rows.length := by rw [← lr]; exact (List.getElem?_eq_some_iff.mp hy4).1
  obtain ⟨d, hd, dy⟩ := ry.get hy4
  rw [List.getElem?_map, gE hj] at hd
  cases hd
  obtain ⟨q, vw, rfl, hq, hw⟩ := row_of dy
  have ok := hok rows[j] (List.getElem_mem hj)
  have u1 := up_abs (b := b) (bs := bs) (ws := rows[j].2) b0 bu ok.few
  have p1 := ok.lo
  have p2 := ok.hi
  refine ⟨q, _, rfl, SqT.of (S4 _ _ hq), rfl, _, _, rfl, _, _, rfl, rfl, ?_⟩
  refine ⟨_, rfl, _, rfl, _, rfl, t, _, _, _, rfl, rfl, SqT.of (S4 _ _ ht), atI_nat (j := 0) rfl, _, _, rfl, rfl, .inl ⟨by show -(2 ^ 64) < rows[j].1; omega, by show rows[j].1 < 2 ^ 64; omega⟩, _, rfl, _, rfl, _, rfl, .ref t, .ref pb, vw, b, m, sp, bs, rows[j].2, rfl, hv.same S4, b0, b61, hb.same S4, hw.same S4, by rw [lb]; exact ok.inn, fun q5 H5 S5 h5 => ?_⟩
  refine ⟨q5, _, _, _, rfl, rfl, SqT.of h5, atI_nat (j := 0) rfl, _, _, rfl, rfl, ⟨?_, ?_⟩, _, _, rfl, rfl, S4.trans S5, some (.int rows[j].1), some vw, ?_⟩
  ·rw [Int.natAbs_mul]
   have h1 : rows[j].1.natAbs ≤ 10 ^ 12 := by omega
   have h2 : b.natAbs ≤ 10 ^ 61 := by omega
   exact Nat.lt_of_le_of_lt (Nat.mul_le_mul h1 h2) (by decide +kernel)
  ·exact Nat.lt_of_le_of_lt u1 (by decide +kernel)
  ·unfold rowsW
   rw [sum_take _ hj, Int.mul_right_comm, ← Int.add_assoc]; rfl
 ·rintro σ H4 ⟨S4, v11, v12, rfl⟩
  refine ⟨_, rfl, ?_⟩
  have k1 := k H4 S4
  unfold worthM at k1
  rw [← hbase, Int.add_comm] at k1
  rw [lr, List.take_length]
  exact k1
end
end HN
namespace HN
open PySem L2 PyProof.Rows
abbrev sWaitsN : Stmt := top 54
section
variable {P : Program} {w : World} {K : PySem.W.Frag} {mg : Str → Option Value} {base : Heap}
theorem scWaitsN : FnScope ["_law_net_here", "_law_table", "_law_waits_here", "_law_start", "_law_goal", "_law_least", "_law_most", "_law_weight"] ["_law_net_here", "_law_table"] (defScope sWaitsN) := ⟨rfl, rfl, rfl, by decide +kernel, rfl, by decide +kernel, by decide +kernel⟩
theorem ok_waitsN {f : Addr} {fd : FuncData} (F : Fun K "_law_waits" "_law_waits" sWaitsN f fd) : FnOk P w K mg base CX0 1 f fd ["_law_net_here", "_law_table"] spWaitsN := by
 refine F.ok scWaitsN (fun vs H Q E h => by obtain ⟨v, u, b, m, sp, ts, rfl, _⟩ := h; rfl) (fun cdv A outer s H vs Q E hr h => ?_)
 obtain ⟨v, u, b, m, sp, ts, rfl, hv, hu, R, k⟩ := h
 obtain ⟨t, p, ys, rfl, ht, hp, hl, hy⟩ := netP_of hv
 have few := R.few
 refine ⟨_, PSl.h (l_cons ⟨(ps_set (i := 2) scWaitsN.nd rfl (Or.inl rfl) (pe_lst pa_nil))⟩
  (l_cons ⟨(ps_for PassesOwn.never rfl (pi_tup (pe_ix ix_tup (pv 0) pe_int (fun _ _ => rfl))) (pg_tup rfl (pgs_cons (pg_name (i := 3) scWaitsN.nd rfl (Or.inl rfl)) (pgs_cons (pg_name (i := 4) scWaitsN.nd rfl (Or.inl rfl)) (pgs_cons (pg_name (i := 5) scWaitsN.nd rfl (Or.inl rfl)) (pgs_cons (pg_name (i := 6) scWaitsN.nd rfl (Or.inl rfl)) (pgs_cons (pg_name (i := 7) scWaitsN.nd rfl (Or.inl rfl)) pgs_nil)))))) (pss_one (ps_expr (pe_bm PySem.F.plainAttrs_list PySem.F.slot_list_append PySem.F.type_list_append mt_append (pv 2) (pa_cons (pe_op op_mod (pe_op op_sub (pe_op op_sub (pe_ix ix_tup (pv 1) (pv 4) (fun _ _ => rfl)) (pe_ix ix_tup (pv 1) (pv 3) (fun _ _ => rfl))) (pv 5)) (pe_ix ix_tup (pv 0) pe_int (fun _ _ => rfl))) pa_nil)))))⟩
  (l_one ⟨(ps_ret (pv 2))⟩))), ?_⟩
 refine ⟨Nat.zero_le _, fun L hL => ?_⟩
 have S1 : Same H (upd H L (.lst [])) := Same.put (Same.refl H) hL
 have h1 : (upd H L (.lst [])) L = some (.lst []) := upd_same
 generalize upd H L (.lst []) = H1 at S1 h1 ⊢
 refine ⟨_, rfl, t, _, _, _, rfl, rfl, SqT.of (S1 _ _ ht), atI_nat (j := 2) rfl, p, rfl, ⟨_, SqT.of (S1 _ _ hp)⟩, ?_⟩
 refine for_tup (K := K) (xs := ys) (fun i σ H2 => Same H H2 ∧ H2 L = some (.lst ((waitsM b ts (sp.take i)).map V.int)) ∧ ∃ v3 v4 v5 v6 v7, σ = [some (.ref t), some (.ref u), some (.ref L), v3, v4, v5, v6, v7]) ⟨S1, h1, none, none, none, none, none, rfl⟩ (fun i σ H2 _ ⟨S2, _⟩ => SqT.of (S2 _ _ hp)) ?_ ?_
 ·rintro i x σ H2 hx ⟨S2, h2, v3, v4, v5, v6, v7, rfl⟩
  have hi : i < sp.length := by rw [← hl]; exact (List.getElem?_eq_some_iff.mp hx).1
  obtain ⟨q, hq, hq2⟩ := hy i sp[i] (gE hi)
  rw [hx] at hq
  cases hq
  have hq3 := S2 _ _ hq2
  have hu2 := S2 _ _ hu
  obtain ⟨s0, s1, g0, g1⟩ := R.ends sp[i] (List.getElem_mem hi)
  refine ⟨q, _, rfl, SqT.of hq3, rfl, _, _, rfl, _, _, rfl, _, _, rfl, _, _, rfl, _, _, rfl, rfl, ?_⟩
  refine ⟨_, rfl, .inl ⟨rfl, _, SqL.of h2⟩, _, rfl, _, rfl, u, _, _, _, rfl, rfl, SqT.of hu2, tm_at g0 g1, _, rfl, _, rfl, u, _, _, _, rfl, rfl, SqT.of hu2, tm_at s0 s1, _, _, rfl, rfl, _, rfl, _, _, rfl, rfl, _, rfl, t, _, _, _, rfl, rfl, SqT.of (S2 _ _ ht), atI_nat (j := 0) rfl, _, _, rfl, rfl, R.b1, ?_⟩
  refine ⟨L, _, _, rfl, rfl, h2, (Nat.lt_of_lt_of_le (by unfold waitsM; rw [List.length_map, List.length_map, List.length_take]; omega : _ < 1001) (by decide : 1001 ≤ sizeLine)), ?_⟩
  refine ⟨fun c o e => ?_, ?_, _, _, _, _, _, rfl⟩
  ·rw [upd_ne (fun z => by rw [z, hL] at e; cases e)]
   exact S2 _ _ e
  ·rw [upd_same, List.take_add_one, gE hi]
   unfold waitsM
   rw [List.map_append, List.map_append]; rfl
 ·rintro σ H2 ⟨S2, h2, v3, v4, v5, v6, v7, rfl⟩
  rw [hl, List.take_length] at h2
  exact ⟨_, rfl, k L H2 S2 h2⟩
end
end HN
namespace HN
open PySem L2 PyProof.Rows
abbrev sFitsN : Stmt := top 55
section
variable {P : Program} {w : World} {K : PySem.W.Frag} {mg : Str → Option Value} {base : Heap}
theorem scFitsN : FnScope ["_law_net_here", "_law_table", "_law_wait", "_law_span_here"] ["_law_net_here", "_law_table"] (defScope sFitsN) := ⟨rfl, rfl, rfl, by decide +kernel, rfl, by decide +kernel, by decide +kernel⟩
theorem ok_fitsN {f f1 : Addr} {fd fd1 : FuncData} (F : Fun K "_law_fits" "_law_fits" sFitsN f fd) (T2 : Nt mg) (G1 : Fn K mg "_law_waits" sWaitsN ["_law_net_here", "_law_table"] f1 fd1) : FnOk P w K mg base CX0 2 f fd ["_law_net_here", "_law_table"] spFits := by
 have F1 : FnOk P w K mg base CX0 1 f1 fd1 ["_law_net_here", "_law_table"] spWaitsN := ok_waitsN G1.F
 refine F.ok scFitsN (fun vs H Q E h => by obtain ⟨v, u, b, m, sp, ts, rfl, _⟩ := h; rfl) (fun cdv A outer s H vs Q E hr h => ?_)
 obtain ⟨v, u, b, m, sp, ts, rfl, hv, hu, R, k⟩ := h
 obtain ⟨t, p, ys, rfl, ht, hp, hl, hy⟩ := netP_of hv
 refine ⟨_, PSl.h (l_cons ⟨(ps_for PassesOwn.never rfl (pi_zip2 rfl T2.zip (pa_cons (pc1 G1 F1 hr (pa_cons (pv 0) (pa_cons (pv 1) pa_nil))) (pa_cons (pe_ix ix_tup (pv 0) pe_int (fun _ _ => rfl)) pa_nil))) (pg_tup rfl (pgs_cons (pg_name (i := 2) scFitsN.nd rfl (Or.inl rfl)) (pgs_cons (pg_name (i := 3) scFitsN.nd rfl (Or.inl rfl)) pgs_nil))) (pss_one (ps_if (pt_cmpR op_gt (pv 2) (pe_op op_sub (pe_ix ix_tup (pv 3) pe_int (fun _ _ => rfl)) (pe_ix ix_tup (pv 3) pe_int (fun _ _ => rfl))) (nomark _)) (pss_one (ps_ret pe_bl)) pss_nil)))⟩
  (l_one ⟨(ps_ret pe_bl)⟩)), ?_⟩
 refine ⟨_, rfl, _, rfl, .ref t, u, b, m, sp, ts, rfl, hv, hu, R, fun L H1 S1 h1 => ?_⟩
 refine ⟨_, rfl, t, _, _, _, rfl, rfl, SqT.of (S1 _ _ ht), atI_nat (j := 2) rfl, ⟨true, L⟩, ⟨false, p⟩, _, _, rfl, h1, S1 _ _ hp, ?_⟩
 refine for_zip2 (c1 := ⟨true, L⟩) (c2 := ⟨false, p⟩) (xs := (waitsM b ts sp).map V.int) (ys := ys) (fun i σ H2 => Same H1 H2 ∧ (∀ x ∈ sp.take i, brk b ts x = false) ∧ ∃ v2 v3, σ = [some (.ref t), some (.ref u), v2, v3]) ⟨Same.refl H1, fun _ h => absurd h (by simp), none, none, rfl⟩ (fun i σ H2 _ ⟨S2, _⟩ => ⟨S2 _ _ h1, S2 _ _ (S1 _ _ hp)⟩) (by unfold waitsM; rw [List.length_map, List.length_map, hl]) ?_ ?_
 ·rintro i x y pz σ H2 hx' hx ⟨S2, hno, v2, v3, rfl⟩ hpz
  have hi : i < sp.length := by rw [← hl]; exact (List.getElem?_eq_some_iff.mp hx).1
  obtain ⟨q, hq, hq2⟩ := hy i sp[i] (gE hi)
  rw [hx] at hq
  cases hq
  unfold waitsM at hx'
  rw [List.getElem?_map, List.getElem?_map, gE hi] at hx'
  cases hx'
  have S3 : Same H1 (upd H2 pz (.tup [.int (waitM b ts sp[i]), .ref q])) := S2.put hpz
  have h3 : (upd H2 pz (.tup [.int (waitM b ts sp[i]), .ref q])) pz = some (.tup [.int (waitM b ts sp[i]), .ref q]) := upd_same
  generalize upd H2 pz (.tup [.int (waitM b ts sp[i]), .ref q]) = H3 at S3 h3 ⊢
  have hq3 := S3 _ _ (S1 _ _ hq2)
  refine ⟨pz, _, rfl, SqT.of h3, rfl, _, _, rfl, _, _, rfl, rfl, ?_⟩
  refine ⟨_, rfl, _, rfl, q, _, _, _, rfl, rfl, SqT.of hq3, atI_nat (j := 3) rfl, _, rfl, q, _, _, _, rfl, rfl, SqT.of hq3, atI_nat (j := 2) rfl, _, _, rfl, rfl, _, _, rfl, rfl, _, rfl, ?_⟩
  refine ite2 (fun hc => ?_) (fun hc => ?_)
  ·have e : fitsM b ts sp = false := by
    unfold fitsM
    rw [List.any_eq_true.mpr ⟨sp[i], List.getElem_mem hi, hc⟩]; rfl
   have kk := k H3 (S1.trans S3)
   rw [e] at kk
   exact kk
  ·refine ⟨S3, fun x hx => ?_, _, _, rfl⟩
   rw [List.take_add_one, gE hi] at hx
   rcases List.mem_append.mp hx with hx | hx
   ·exact hno x hx
   ·rw [List.mem_singleton.mp hx]
    exact Bool.eq_false_iff.mpr hc
 ·rintro σ H2 ⟨S2, hno, v2, v3, rfl⟩
  have e : fitsM b ts sp = true := by
   unfold fitsM
   rw [Bool.not_eq_true', List.any_eq_false]
   intro x hx
   have := hno x (by unfold waitsM; rw [List.length_map, List.length_map, List.take_length]; exact hx)
   rw [this]; exact Bool.false_ne_true
  have kk := k H2 (S1.trans S2)
  rw [e] at kk
  exact kk
end
end HN
namespace HN
open PySem L2 PyProof.Rows
abbrev sDrawnT : Stmt := top 56
section
variable {P : Program} {w : World} {K : PySem.W.Frag} {mg : Str → Option Value} {base : Heap}
theorem scDrawnT : FnScope ["_law_deck", "_law_net_here"] ["_law_deck", "_law_net_here"] (defScope sDrawnT) := ⟨rfl, rfl, rfl, by decide +kernel, rfl, by decide +kernel, by decide +kernel⟩
theorem ok_drawnT {f f1 : Addr} {fd fd1 : FuncData} (F : Fun K "_law_drawn_table" "_law_drawn_table" sDrawnT f fd) (T : Nm mg) (T2 : Nt mg) (G1 : Fn K mg "_law_draw" sDrawD ["_law_deck", "_law_most"] f1 fd1) : FnOk P w K mg base CX0 2 f fd ["_law_deck", "_law_net_here"] spDrawnT := by
 have F1 : FnOk P w K mg base CX0 1 f1 fd1 ["_law_deck", "_law_most"] spDrawD := ok_drawD G1.F T
 refine F.ok scDrawnT (fun vs H Q E h => by obtain ⟨p, t, b, m, rest, rfl, _⟩ := h; rfl) (fun cdv A outer s H vs Q E hr h => ?_)
 obtain ⟨p, t, b, m, rest, rfl, hp, ht, b1, b61, m0, m1, k⟩ := h
 refine ⟨_, PSl.h (l_one ⟨(ps_ret (pe_callTy call_tupA rfl T.ttup boot_tuple (pa_cons (pe_comp (fr := ["_law_deck", "_law_net_here"]) (js := [0, 1]) rfl (pi_range1 rfl T2.range (pa_cons (pe_ix ix_tup (pv 1) pe_int (fun _ _ => rfl)) pa_nil)) (by decide +kernel) rfl (by decide +kernel) rfl (by show ∀ y : Str × NameKind, y ∈ _ → y.2 = NameKind.free → List.lookup y.1 (defScope sDrawnT).names = some NameKind.cell; decide +kernel) (by decide +kernel) rfl (by decide +kernel) (fun _ _ _ _ _ => ⟨(pc1 G1 F1 hr (pa_cons (pv 1) (pa_cons (pe_ix (r := rIxT K) ix_tup (pv 2) pe_int (fun _ _ => rfl)) pa_nil))), pts_nil⟩)) pa_nil)))⟩), ?_⟩
 refine ⟨_, rfl, t, _, _, _, rfl, rfl, SqT.of ht, atI_nat (j := 1) rfl, m, rfl, by omega, by omega, ?_⟩
 refine comp_range (n := m.toNat) (fun i zs H4 => Md p H H4 ∧ ∃ hs : List Int, zs = hs.map V.int ∧ hs.length = i ∧ ∀ x ∈ hs, 0 ≤ x ∧ x < b) ⟨Md.refl hp, [], rfl, rfl, fun _ h => absurd h (by simp)⟩ (fun i zs H4 _ ⟨_, hs, e, hl, _⟩ => by rw [e, List.length_map, hl]; exact Nat.le_refl _) (small_le (by omega)) (fun i zs H4 hi ⟨M4, hs, e4, hl4, all4⟩ => ?_) (fun zs H4 ⟨M4, hs, e4, hl4, all4⟩ D hD => ?_)
 ·refine tNoIf_go ?_
  refine ⟨_, rfl, _, rfl, t, _, _, _, rfl, rfl, SqT.of (Md.tupK hp M4 _ _ ht), atI_nat (j := 0) rfl, p, b, rfl, M4.2, by omega, b61, fun r5 H5 r50 r51 M5 => ⟨M4.trans M5, hs ++ [r5], by rw [e4, List.map_append]; rfl, by rw [List.length_append, hl4]; rfl, fun x hx => ?_⟩⟩
  rcases List.mem_append.mp hx with hx | hx
  ·exact all4 x hx
  ·rw [List.mem_singleton.mp hx]; exact ⟨r50, r51⟩
 subst e4
 exact ⟨D, _, rfl, SqL.of upd_same, fun u H6 S6 h6 => k u hs H6 (M4.then ((Same.put (Same.refl H4) hD).trans S6)) h6 (by omega) all4⟩
end
end HN
namespace HN
open PySem L2 PyProof.Rows
abbrev sLeafL : Stmt := top 48
abbrev sTreeL : Stmt := top 49
section
variable {P : Program} {w : World} {K : PySem.W.Frag} {mg : Str → Option Value} {base : Heap}
theorem scLeafL : FnScope ["_law_deck", "_law_net_here", "_law_bounds_here", "_law_ring_here", "_law_first", "_law_last", "_law_rows", "_law_k", "_law_price"] ["_law_deck", "_law_net_here", "_law_bounds_here"] (defScope sLeafL) := ⟨rfl, rfl, rfl, by decide +kernel, rfl, by decide +kernel, by decide +kernel⟩
theorem ok_leafL {f f1 f2 f3 : Addr} {fd fd1 fd2 fd3 : FuncData} (F : Fun K "_law_leaf" "_law_leaf" sLeafL f fd) (T : Nm mg) (T2 : Nt mg) (G1 : Fn K mg "_law_ring" sRingD ["_law_deck", "_law_net_here"] f1 fd1) (F1 : FnOk P w K mg base CX0 3 f1 fd1 ["_law_deck", "_law_net_here"] spRingD) (G2 : Fn K mg "_law_beats" sBeatsL ["_law_net_here", "_law_bounds_here", "_law_ring_here"] f2 fd2) (G3 : Fn K mg "_law_draw" sDrawD ["_law_deck", "_law_most"] f3 fd3) : FnOk P w K mg base CX0 4 f fd ["_law_deck", "_law_net_here", "_law_bounds_here"] spLeafL := by
 have F2 : FnOk P w K mg base CX0 1 f2 fd2 ["_law_net_here", "_law_bounds_here", "_law_ring_here"] spBeats := ok_beatsL G2.F
 have F3 : FnOk P w K mg base CX0 1 f3 fd3 ["_law_deck", "_law_most"] spDrawD := ok_drawD G3.F T
 refine F.ok scLeafL (fun vs H Q E h => by obtain ⟨p, v, vb, b, m, sp, bs, rfl, _⟩ := h; rfl) (fun cdv A outer s H vs Q E hr h => ?_)
 obtain ⟨p, v, vb, b, m, sp, bs, rfl, hp, hv, N, hb33, hvb, hlb, k⟩ := h
 have hr1 : Room 1 _ := hr.mono (by decide)
 have hb0 : 0 < b := N.b1
 have hb61 : b < 10 ^ 61 := Int.lt_of_le_of_lt hb33 (by decide)
 refine ⟨_, PSl.h (l_cons ⟨(ps_set (i := 3) scLeafL.nd rfl (Or.inl rfl) (pc1 G1 F1 hr (pa_cons (pv 0) (pa_cons (pv 1) pa_nil))))⟩
  (l_cons ⟨(ps_cutK (ps_if (pt_cmpR op_notN (pv 3) pe_non (nomark _)) (PSl.h (l_cons ⟨(ps_asg (pc1 G2 F2 hr1 (pa_cons (pv 1) (pa_cons (pv 2) (pa_cons (pv 3) pa_nil)))) (pg_tup rfl (pgs_cons (pg_name (i := 4) scLeafL.nd rfl (Or.inl rfl)) (pgs_cons (pg_name (i := 5) scLeafL.nd rfl (Or.inl rfl)) pgs_nil))))⟩
  (l_one ⟨(ps_if (pt_cmpR op_gt (pv 4) (pv 5) (nomark _)) (pss_one (ps_ret (pe_tupA (pa_cons pe_str (pa_cons (pv 3) pa_nil))))) pss_nil)⟩))) pss_nil))⟩
  (l_cons ⟨(ps_set (i := 6) scLeafL.nd rfl (Or.inl rfl) (pe_lst pa_nil))⟩
  (l_cons ⟨(ps_for PassesOwn.never rfl (pi_range1 rfl T2.range (pa_cons (pc1 G3 F3 hr1 (pa_cons (pv 0) (pa_cons pe_int pa_nil))) pa_nil)) (pg_name (i := 7) scLeafL.nd rfl (Or.inl rfl)) (PSl.h (l_cons ⟨(ps_set (i := 3) scLeafL.nd rfl (Or.inl rfl) (pc1 G1 F1 hr (pa_cons (pv 0) (pa_cons (pv 1) pa_nil))))⟩
  (l_one ⟨(ps_cutK (ps_if (pt_cmpR op_notN (pv 3) pe_non (nomark _)) (PSl.h (l_cons ⟨(ps_asg (pc1 G2 F2 hr1 (pa_cons (pv 1) (pa_cons (pv 2) (pa_cons (pv 3) pa_nil)))) (pg_tup rfl (pgs_cons (pg_name (i := 4) scLeafL.nd rfl (Or.inl rfl)) (pgs_cons (pg_name (i := 5) scLeafL.nd rfl (Or.inl rfl)) pgs_nil))))⟩
  (l_one ⟨(ps_if (pt_cmpR op_eq (pv 4) (pv 5) (nomark _)) (PSl.h (l_cons ⟨(ps_set (i := 8) scLeafL.nd rfl (Or.inl rfl) (PEs.h (k_ix ix_list (k_lstF (a_cons k_int (a_cons ⟨pe_un un_neg pe_int⟩ (a_cons (k_ix ix_tup (k_ix ix_tup (k_ix ix_tup ⟨pv 1⟩ k_int (fun _ _ => rfl)) (k_ix ix_tup (k_ix ix_tup ⟨pv 3⟩ k_int (fun _ _ => rfl)) k_int (fun _ _ => rfl)) (fun _ _ => rfl)) k_int (fun _ _ => rfl)) (a_cons (k_op op_sub ⟨pc1 G3 F3 hr1 (pa_cons (pv 0) (pa_cons (pe_op op_mul pe_int (pe_op op_pow pe_int pe_int)) pa_nil))⟩ (k_op op_pow k_int k_int)) a_nil))))) ⟨pc1 G3 F3 hr1 (pa_cons (pv 0) (pa_cons pe_int pa_nil))⟩ (fun _ _ => rfl))))⟩
  (l_one ⟨(ps_expr (pe_bm PySem.F.plainAttrs_list PySem.F.slot_list_append PySem.F.type_list_append mt_append (pv 6) (pa_cons (pe_tupA (pa_cons (pv 8) (pa_cons (pv 3) pa_nil))) pa_nil)))⟩))) pss_nil)⟩))) pss_nil))⟩))))⟩
  (l_one ⟨(ps_ret (pe_tupA (pa_cons pe_str (pa_cons (pe_callTy call_tupA rfl T.ttup boot_tuple (pa_cons (pv 6) pa_nil)) pa_nil))))⟩))))), ?_⟩
 refine ⟨_, rfl, _, rfl, p, v, b, m, sp, rfl, hp, hv, N, fun u1 H1 M1 hu1 => ?_⟩
 have K1 := Md.tupK hp M1
 refine ⟨fun σ' H' => Md p H H' ∧ ∃ v3 v4 v5, σ' = [some (.ref p), some v, some vb, v3, v4, v5, none, none, none], ?_, ?_⟩
 rotate_left
 ·refine ⟨_, rfl, rfl, _, rfl, ?_⟩
  rcases hu1 with rfl | ⟨ws, hw, hR⟩
  ·exact iteC (by decide) ⟨M1, _, _, _, rfl⟩
  obtain ⟨pw, yw, rfl, hpw, hlw, rw'⟩ := rows_of hw
  refine iteB (by rw [decide_eq_false (by intro z; cases z)]; rfl) ?_
  have hin : WayIn bs.length ws := by rw [hlb]; exact hR.inn
  refine ⟨_, rfl, _, rfl, _, rfl, v, vb, .ref pw, b, m, sp, bs, ws, rfl, netP_keep K1 hv, hb0, hb61, hvb.keepP K1 (pl_rows _ _), hw, hin, fun q2 H2 S2 h2 => ?_⟩
  refine ⟨q2, _, rfl, SqT.of h2, rfl, _, _, rfl, _, _, rfl, rfl, ?_⟩
  refine ⟨_, rfl, _, rfl, _, _, rfl, rfl, _, rfl, ?_⟩
  refine ite2 (fun hd => ?_) (fun _ => ⟨M1.then S2, _, _, _, rfl⟩)
  refine ⟨_, rfl, (by show 2 ≤ sizeLine; decide), fun q3 H3 S3 h3 => k (.ref q3) (.ring ws) H3 (M1.then (S2.trans S3)) ?_ ⟨hR, hd⟩⟩
  exact .tup h3 (.cons (.str _) (.cons (hw.same (S2.trans S3)) .nil))
 rintro σ' H2 ⟨M2, v3, v4, v5, rfl⟩
 clear M1 K1 hu1
 refine ⟨Nat.zero_le _, fun Ls hLs => ?_⟩
 have hLsp := M2.2.ne hLs
 have hLsH : H Ls = none := by
  cases z : H Ls with
  | none => rfl
  | some o => rw [M2.1 Ls o hLsp z] at hLs; cases hLs
 have S3 : Same H2 (upd H2 Ls (.lst [])) := Same.put (Same.refl H2) hLs
 have hLs3 : (upd H2 Ls (.lst [])) Ls = some (.lst []) := upd_same
 generalize upd H2 Ls (.lst []) = H3 at S3 hLs3 ⊢
 have M3 := M2.then S3
 refine ⟨_, rfl, p, 4, rfl, M3.2, by decide, by decide, fun r4 H4 r40 r41 M4 => ⟨r4, rfl, by omega, by omega, ?_⟩⟩
 have hLs4 := M4.at hLs3 hLsp
 have M4 := M3.trans M4
 refine for_range (n := r4.toNat) (fun i σ H' => Md p H H' ∧ ∃ (v3 v4 v5 v7 v8 : Option V) (zs : List V) (rows : List (Int × List Stp)), σ = [some (.ref p), some v, some vb, v3, v4, v5, some (.ref Ls), v7, v8] ∧ H' Ls = some (.lst zs) ∧ IsDs H' zs (rows.map rowD) ∧ rows.length ≤ i ∧ ∀ r ∈ rows, RowOk b sp bs r) ⟨M4, v3, v4, v5, none, none, [], [], rfl, hLs4, .nil, Nat.le_refl _, fun _ h => absurd h (by simp)⟩ ?_ ?_
 ·rintro i σ HA hi ⟨MA, v3, v4, v5, v7, v8, zs, rows, rfl, hLsA, dA, lA, allA⟩
  have KA := Md.tupK hp MA
  refine ⟨_, rfl, _, rfl, p, v, b, m, sp, rfl, MA.2, netP_keep KA hv, N, fun u1 HB MB hu1 => ?_⟩
  have KB := Md.tupK MA.2 MB
  have hLsB := MB.at hLsA hLsp
  have dB : IsDs HB zs (rows.map rowD) := dA.keepP KB (pls_map rows fun r _ => pl_row r)
  have MB := MA.trans MB
  have KB0 := Md.tupK hp MB
  refine ⟨fun σ' H' => Md p H H' ∧ ∃ (v3 v4 v5 v7 v8 : Option V) (zs : List V) (rows : List (Int × List Stp)), σ' = [some (.ref p), some v, some vb, v3, v4, v5, some (.ref Ls), v7, v8] ∧ H' Ls = some (.lst zs) ∧ IsDs H' zs (rows.map rowD) ∧ rows.length ≤ i + 1 ∧ ∀ r ∈ rows, RowOk b sp bs r, fun σ' H' z => z, ?_⟩
  refine ⟨_, rfl, rfl, _, rfl, ?_⟩
  rcases hu1 with rfl | ⟨ws, hw, hR⟩
  ·exact iteC (by decide) ⟨MB, _, _, _, _, _, zs, rows, rfl, hLsB, dB, by omega, allA⟩
  obtain ⟨pw, yw, rfl, hpw, hlw, rw'⟩ := rows_of hw
  refine iteB (by rw [decide_eq_false (by intro z; cases z)]; rfl) ?_
  have hin : WayIn bs.length ws := by rw [hlb]; exact hR.inn
  refine ⟨_, rfl, _, rfl, _, rfl, v, vb, .ref pw, b, m, sp, bs, ws, rfl, netP_keep KB0 hv, hb0, hb61, hvb.keepP KB0 (pl_rows _ _), hw, hin, fun q2 HC SC hC => ?_⟩
  refine ⟨q2, _, rfl, SqT.of hC, rfl, _, _, rfl, _, _, rfl, rfl, ?_⟩
  refine ⟨_, rfl, _, rfl, rfl, _, rfl, ?_⟩
  have MC := MB.then SC
  refine ite2 (fun hs => ?_) (fun _ => ⟨MC, _, _, _, _, _, zs, rows, rfl, SC _ _ hLsB, dB.same SC, by omega, allA⟩)
  have hsure : sureB b bs ws = true := by
   have : decide (V.int (upB b (sumLo bs ws)) = V.int (sumHi bs ws / b)) = true := hs
   have := of_decide_eq_true this
   injection this with e
   exact decide_eq_true e
  have hv' := netP_keep (Md.tupK hp MC) hv
  obtain ⟨t, pn, ys, e0, ht, hpn, hl, hy⟩ := netP_of hv'
  subst e0
  have two := hR.two
  have hw0 : 0 < ws.length := by omega
  obtain ⟨q0, hq0, hq02⟩ := rows_at (rw'.same SC) (gE hw0)
  have hi0 : ws[0].i < sp.length := (hR.inn ws[0] (List.getElem_mem hw0)).1
  obtain ⟨qx, hqx, hqx2⟩ := hy ws[0].i sp[ws[0].i] (gE hi0)
  have X := N.all sp[ws[0].i] (List.getElem_mem hi0)
  refine ⟨_, rfl, _, rfl, t, _, _, _, rfl, rfl, SqT.of ht, atI_nat (j := 2) rfl, _, rfl, pw, _, _, _, rfl, rfl, SqT.of (SC _ _ hpw), atI_nat (j := 0) hq0, q0, _, _, _, rfl, rfl, SqT.of hq02, atI_nat (j := 0) rfl, pn, _, _, _, rfl, rfl, SqT.of hpn, atI_nat (j := ws[0].i) hqx, qx, _, _, _, rfl, rfl, SqT.of hqx2, atI_nat (j := 4) rfl, ?_⟩
  refine ⟨_, rfl, _, _, rfl, rfl, ⟨by decide, by decide, by decide⟩, _, _, rfl, rfl, .inl ⟨by decide, by decide⟩, p, _, rfl, MC.2, by decide, by decide, fun rD HD rD0 rD1 MD => ⟨_, _, rfl, rfl, ⟨by decide, by decide, by decide⟩, _, _, rfl, rfl, (by show 4 ≤ sizeLine; decide), fun qL hqL => ?_⟩⟩
  have rD1 : rD < 2 * 10 ^ 12 := rD1
  have KD := Md.tupK MC.2 MD
  have hLsD := MD.at (SC _ _ hLsB) hLsp
  have MD := MC.trans MD
  have nqL := MD.2.ne hqL
  have nqLs : qL ≠ Ls := fun z => by rw [z, hLsD] at hqL; cases hqL
  obtain ⟨pr4, hpr4⟩ : ∃ x : Int, (fun i j => V.int (i - j)) rD (10 ^ Int.toNat 12) = V.int x ∧ -1000000000000 ≤ x ∧ x ≤ 1000000000000 := ⟨_, rfl, by show -1000000000000 ≤ rD - 10 ^ 12; omega, by show rD - 10 ^ 12 ≤ 1000000000000; omega⟩
  obtain ⟨hpr4, p40, p41⟩ := hpr4
  rw [hpr4]
  have SE : Same HD (upd HD qL (.lst [.int 1, .int (-1), .int sp[ws[0].i].w, .int pr4])) := Same.put (Same.refl HD) hqL
  have hE : (upd HD qL (.lst [.int 1, .int (-1), .int sp[ws[0].i].w, .int pr4])) qL = some (.lst [.int 1, .int (-1), .int sp[ws[0].i].w, .int pr4]) := upd_same
  generalize upd HD qL (.lst [.int 1, .int (-1), .int sp[ws[0].i].w, .int pr4]) = HE at SE hE ⊢
  have ME := MD.then SE
  refine ⟨_, rfl, p, 4, rfl, ME.2, by decide, by decide, fun rF HF rF0 rF1 MF => ?_⟩
  have hF := MF.at hE nqL
  have hLsF := MF.at (SE _ _ hLsD) hLsp
  have KF := (KD.trans (Same.tupK SE)).trans (Md.tupK ME.2 MF)
  have MF := ME.trans MF
  obtain ⟨vF, eF, mF⟩ := atI_in (xs := [V.int 1, V.int (-1), V.int sp[ws[0].i].w, V.int pr4]) rF0 rF1
  obtain ⟨pr, rfl, pr0, pr1⟩ : ∃ x : Int, vF = V.int x ∧ -1000000000000 ≤ x ∧ x ≤ 1000000000000 := by
   have w0 := X.w0
   have w1 := X.w1
   simp only [List.mem_cons, List.not_mem_nil, or_false] at mF
   rcases mF with rfl | rfl | rfl | rfl
   ·exact ⟨_, rfl, by decide, by decide⟩
   ·exact ⟨_, rfl, by decide, by decide⟩
   ·exact ⟨_, rfl, by omega, by omega⟩
   ·exact ⟨_, rfl, p40, p41⟩
  refine ⟨qL, _, _, _, rfl, rfl, SqL.of hF, eF, ?_⟩
  have lz : zs.length = rows.length := by rw [dA.length, List.length_map]
  refine ⟨_, rfl, .inl ⟨rfl, _, SqL.of hLsF⟩, _, rfl, _, rfl, (by show 2 ≤ sizeLine; decide), fun qR HG SG hG => ⟨Ls, zs, _, rfl, rfl, SG _ _ hLsF, (Nat.lt_of_lt_of_le (by omega : zs.length < 1000) (by decide : 1000 ≤ sizeLine)), ?_⟩⟩
  have KG := KF.trans (Same.tupK SG)
  have MG := MF.then SG
  have KH : TupK HG (upd HG Ls (.lst (zs ++ [.ref qR]))) := tupK_upd (SG _ _ hLsF)
  refine ⟨⟨fun q o hq e => ?_, ?_⟩, _, _, _, _, _, zs ++ [.ref qR], rows ++ [(pr, ws)], rfl, upd_same, ?_, by rw [List.length_append]; show rows.length + 1 ≤ i + 1; omega, fun r hr' => ?_⟩
  ·rw [upd_ne (fun z => by rw [z, hLsH] at e; cases e)]
   exact MG.1 q o hq e
  ·obtain ⟨k1, n1, e1, e2⟩ := MG.2
   exact ⟨k1, n1, by rw [upd_ne hLsp.symm]; exact e1, e2⟩
  ·rw [List.map_append]
   exact ((dB.same SC).keepP (KG.trans KH) (pls_map rows fun r _ => pl_row r)).append (.cons (.tup (KH _ _ hG) (.cons (.int pr) (.cons ((hw.same SC).keepP (KG.trans KH) (pl_rows _ _)) .nil))) .nil)
  ·rcases List.mem_append.mp hr' with hr' | hr'
   ·exact allA r hr'
   ·rw [List.mem_singleton.mp hr']; exact ⟨hR, hsure, pr0, pr1⟩
 rintro σ HA ⟨MA, v3, v4, v5, v7, v8, zs, rows, rfl, hLsA, dA, lA, allA⟩
 refine ⟨_, rfl, Ls, _, rfl, SqL.of hLsA, fun qB HB SB hB => ⟨(by show 2 ≤ sizeLine; decide), fun tC HC SC hC => ?_⟩⟩
 exact k (.ref tC) (.price rows) HC (MA.then (SB.trans SC)) (.tup hC (.cons (.str _) (.cons (.tup (SC _ _ hB) (dA.same (SB.trans SC))) .nil))) ⟨by omega, allA⟩
end
end HN
namespace HN
open PySem L2 PyProof.Rows
section
variable {P : Program} {w : World} {K : PySem.W.Frag} {mg : Str → Option Value} {base : Heap}
theorem scTreeL : FnScope ["_law_deck", "_law_net_here", "_law_bounds_here", "_law_deep", "_law_wide", "_law_k", "_law_low", "_law_high", "_law_at", "_law_one", "_law_other"] ["_law_deck", "_law_net_here", "_law_bounds_here", "_law_deep"] (defScope sTreeL) := ⟨rfl, rfl, rfl, by decide +kernel, rfl, by decide +kernel, by decide +kernel⟩
theorem ok_treeL0 {f : Addr} {fd : FuncData} : FnOk P w K mg base CX0 4 f fd ["_law_deck", "_law_net_here", "_law_bounds_here", "_law_deep"] (spTreeL 0) :=
 ⟨fun vs H Q E h => by obtain ⟨p, v, vb, n, b, m, sp, bs, rfl, _⟩ := h; rfl, fun A outer s H args us vs Q E _ _ _ _ h => by
  obtain ⟨p, v, vb, n, b, m, sp, bs, _, h0, h1, _⟩ := h
  exact absurd h1 (by show ¬ n < 0; omega)⟩
theorem ok_treeL1 {dd : Nat} {f f1 f2 : Addr} {fd fd1 fd2 : FuncData} (T : Nm mg) (T2 : Nt mg) (G1 : Fn K mg "_law_draw" sDrawD ["_law_deck", "_law_most"] f1 fd1) (G2 : Fn K mg "_law_leaf" sLeafL ["_law_deck", "_law_net_here", "_law_bounds_here"] f2 fd2) (F2 : FnOk P w K mg base CX0 4 f2 fd2 ["_law_deck", "_law_net_here", "_law_bounds_here"] spLeafL) (G3 : Fn K mg "_law_tree" sTreeL ["_law_deck", "_law_net_here", "_law_bounds_here", "_law_deep"] f fd) (F3 : FnOk P w K mg base CX0 (4 + dd) f fd ["_law_deck", "_law_net_here", "_law_bounds_here", "_law_deep"] (spTreeL dd)) : FnOk P w K mg base CX0 (4 + dd + 1) f fd ["_law_deck", "_law_net_here", "_law_bounds_here", "_law_deep"] (spTreeL (dd + 1)) := by
 have F1 : FnOk P w K mg base CX0 1 f1 fd1 ["_law_deck", "_law_most"] spDrawD := ok_drawD G1.F T
 refine G3.F.ok scTreeL (fun vs H Q E h => by obtain ⟨p, v, vb, n, b, m, sp, bs, rfl, _⟩ := h; rfl) (fun cdv A outer s H vs Q E hr h => ?_)
 obtain ⟨p, v, vb, n, b, m, sp, bs, rfl, n0, n1, hp, hv, N, hb33, hvb, hlb, hBs, k⟩ := h
 have hr1 : Room 1 _ := hr.mono (by omega)
 have hr4 : Room 4 _ := hr.mono (by omega)
 obtain ⟨pb, yb, rfl, hpb, hlyb, rb⟩ := rows_of hvb
 have few := N.few
 refine ⟨_, PSl.h (l_cons ⟨(ps_setC (iy := 4) (fr := ["_law_bounds_here"]) (js := [2]) scTreeL.nd rfl (Or.inl rfl) rfl (pi_range1 rfl T2.range (pa_cons (pe_callB call_len_seq rfl T.len PySem.boot_len (pa_cons (pv 2) pa_nil)) pa_nil)) (by decide +kernel) rfl (by decide +kernel) rfl (by show ∀ y : Str × NameKind, y ∈ _ → y.2 = NameKind.free → List.lookup y.1 (defScope sTreeL).names = some NameKind.cell; decide +kernel) (by decide +kernel) rfl (by decide +kernel) (fun _ _ _ _ _ => ⟨(pv 0), (pts_one (pt_cmpR op_lt (pe_ix (r := rIxT K) ix_tup (pe_ix (r := rIxT K) ix_tup (pv 1) (pv 0) (fun _ _ => rfl)) pe_int (fun _ _ => rfl)) (pe_ix (r := rIxT K) ix_tup (pe_ix (r := rIxT K) ix_tup (pv 1) (pv 0) (fun _ _ => rfl)) pe_int (fun _ _ => rfl)) (nomark _)))⟩))⟩
  (l_cons ⟨(ps_if (PW.pt (pw_or (pt_cmpR op_eq (pv 3) pe_int (nomark _)) (pw_or (pt_cmpR (op_eqL0 hr.units0) (pv 4) (pe_lstA pa_nil) (nomark _)) (pw_or1 (pt_cmpR op_eq (pc1 G1 F1 hr1 (pa_cons (pv 0) (pa_cons pe_int pa_nil))) pe_int (nomark _)))))) (pss_one (ps_ret (pc1 G2 F2 hr4 (pa_cons (pv 0) (pa_cons (pv 1) (pa_cons (pv 2) pa_nil)))))) pss_nil)⟩
  (l_cons ⟨(ps_set (i := 5) scTreeL.nd rfl (Or.inl rfl) (pe_ix ix_list (pv 4) (pc1 G1 F1 hr1 (pa_cons (pv 0) (pa_cons (pe_callB call_len_seq rfl T.len PySem.boot_len (pa_cons (pv 4) pa_nil)) pa_nil))) (fun _ _ => rfl)))⟩
  (l_cons ⟨(ps_asg (pe_ix ix_tup (pv 2) (pv 5) (fun _ _ => rfl)) (pg_tup rfl (pgs_cons (pg_name (i := 6) scTreeL.nd rfl (Or.inl rfl)) (pgs_cons (pg_name (i := 7) scTreeL.nd rfl (Or.inl rfl)) pgs_nil))))⟩
  (l_cons ⟨(ps_set (i := 8) scTreeL.nd rfl (Or.inl rfl) (pe_op op_add (pv 6) (pc1 G1 F1 hr1 (pa_cons (pv 0) (pa_cons (pe_op op_sub (pv 7) (pv 6)) pa_nil)))))⟩
  (l_cons ⟨(ps_set (i := 9) scTreeL.nd rfl (Or.inl rfl) (pc1 G3 F3 hr (pa_cons (pv 0) (pa_cons (pv 1) (pa_cons (pe_op op_catA (pe_op op_catA (pe_slice sl_tupN (pv 2) po_none (po_some (pv 5))) (pe_tupA (pa_cons (pe_tupA (pa_cons (pv 6) (pa_cons (pv 8) pa_nil))) pa_nil))) (pe_slice sl_tupN (pv 2) (po_some (pe_op op_add (pv 5) pe_int)) po_none)) (pa_cons (pe_op op_sub (pv 3) pe_int) pa_nil))))))⟩
  (l_cons ⟨(ps_set (i := 10) scTreeL.nd rfl (Or.inl rfl) (pc1 G3 F3 hr (pa_cons (pv 0) (pa_cons (pv 1) (pa_cons (pe_op op_catA (pe_op op_catA (pe_slice sl_tupN (pv 2) po_none (po_some (pv 5))) (pe_tupA (pa_cons (pe_tupA (pa_cons (pe_op op_add (pv 8) pe_int) (pa_cons (pv 7) pa_nil))) pa_nil))) (pe_slice sl_tupN (pv 2) (po_some (pe_op op_add (pv 5) pe_int)) po_none)) (pa_cons (pe_op op_sub (pv 3) pe_int) pa_nil))))))⟩
  (l_one ⟨(ps_ret (pe_tupA (pa_cons pe_str (pa_cons (pv 5) (pa_cons (pv 8) (pa_cons (pv 9) (pa_cons (pv 10) pa_nil)))))))⟩)))))))), ?_⟩
 refine ⟨_, rfl, pb, _, rfl, .inr (SqT.of hpb), (yb.length : Int), rfl, by omega, by omega, ?_⟩
 refine comp_range (n := ((yb.length : Int) : Int).toNat) (fun i zs H4 => H4 = H ∧ ∃ ks : List Nat, zs = ks.map (fun j => V.int ((0 : Int) + (j : Nat))) ∧ ks.length ≤ i ∧ ∀ j ∈ ks, ∃ hj : j < bs.length, bs[j].1 < bs[j].2) ⟨rfl, [], rfl, Nat.le_refl _, fun _ h => absurd h (by simp)⟩ (fun i zs H4 _ ⟨_, ks, e, hl, _⟩ => by rw [e, List.length_map]; exact hl) (small_le (by omega)) (fun i zs H4 hi ⟨e0, ks, e4, hl4, all4⟩ => ?_) (fun zs H4 ⟨e0, ks, e4, hl4, all4⟩ D hD => ?_)
 ·subst e0
  have hib : i < bs.length := by omega
  obtain ⟨qn, hqn, hqn2⟩ := rows_at rb (gE hib)
  refine ⟨_, rfl, _, rfl, pb, _, _, _, rfl, rfl, SqT.of hpb, atI_nat0 hqn, qn, _, _, _, rfl, rfl, SqT.of hqn2, atI_nat (j := 0) rfl, _, rfl, _, rfl, pb, _, _, _, rfl, rfl, SqT.of hpb, atI_nat0 hqn, qn, _, _, _, rfl, rfl, SqT.of hqn2, atI_nat (j := 1) rfl, _, _, rfl, rfl, _, rfl, ?_⟩
  refine ite2 (fun hlt => ?_) (fun _ => ⟨rfl, ks, e4, by omega, all4⟩)
  have hlt : bs[i].1 < bs[i].2 := of_decide_eq_true hlt
  refine ⟨_, rfl, rfl, ks ++ [i], by rw [e4, List.map_append]; rfl, by rw [List.length_append]; show ks.length + 1 ≤ i + 1; omega, fun j hj => ?_⟩
  rcases List.mem_append.mp hj with hj | hj
  ·exact all4 j hj
  ·rw [List.mem_singleton.mp hj]; exact ⟨hib, hlt⟩
 subst e0 e4
 have nDp : D ≠ p := hp.ne hD
 have S1 : Same H4 (upd H4 D (.lst (ks.map fun j => V.int ((0 : Int) + (j : Nat))))) := Same.put (Same.refl H4) hD
 have hD1 : (upd H4 D (.lst (ks.map fun j => V.int ((0 : Int) + (j : Nat))))) D = some (.lst (ks.map fun j => V.int ((0 : Int) + (j : Nat)))) := upd_same
 generalize upd H4 D (.lst (ks.map fun j => V.int ((0 : Int) + (j : Nat)))) = H1 at S1 hD1 ⊢
 have M1 := (Md.refl hp).then S1
 have lks : ks.length ≤ 40 := by omega
 refine ⟨_, rfl, rfl, _, rfl, ?_⟩
 refine ite2 (fun _ => ?_) (fun hn0 => ?_)
 ·exact ⟨_, rfl, _, rfl, _, rfl, p, v, .ref pb, b, m, sp, bs, rfl, M1.2, hv.same S1, N, hb33, hvb.same S1, hlb, fun u lf H' M' hu hok => k u (.leaf (leafP lf)) H' (M1.trans M') hu ⟨lf, rfl, hok⟩ (by show ((0 : Nat) : Int) ≤ n; omega)⟩
 refine ⟨_, rfl, Nat.zero_le _, fun q2 H2 S2 h2 => ⟨D, q2, _, rfl, rfl, SqL.of (S2 _ _ hD1), SqL.of h2, _, rfl, ?_⟩⟩
 have S02 := S1.trans S2
 have M2 := M1.then S2
 refine ite2 (fun _ => ?_) (fun hne => ?_)
 ·exact ⟨_, rfl, _, rfl, _, rfl, p, v, .ref pb, b, m, sp, bs, rfl, M2.2, hv.same S02, N, hb33, hvb.same S02, hlb, fun u lf H' M' hu hok => k u (.leaf (leafP lf)) H' (M2.trans M') hu ⟨lf, rfl, hok⟩ (by show ((0 : Nat) : Int) ≤ n; omega)⟩
 have hpos : 0 < ks.length := by
  cases ks with
  | nil => exact absurd rfl hne
  | cons _ _ => simp
 refine ⟨_, rfl, p, 4, rfl, M2.2, by decide, by decide, fun r3 H3 _ _ M3 => ⟨rfl, _, rfl, ?_⟩⟩
 have hD3 := M3.at (S2 _ _ hD1) nDp
 have M3 := M2.trans M3
 have K3 := Md.tupK hp M3
 refine ite2 (fun _ => ?_) (fun _ => ?_)
 ·exact ⟨_, rfl, _, rfl, _, rfl, p, v, .ref pb, b, m, sp, bs, rfl, M3.2, netP_keep K3 hv, N, hb33, hvb.keepP K3 (pl_rows _ _), hlb, fun u lf H' M' hu hok => k u (.leaf (leafP lf)) H' (M3.trans M') hu ⟨lf, rfl, hok⟩ (by show ((0 : Nat) : Int) ≤ n; omega)⟩
 have hn1 : n ≠ 0 := fun z => hn0 (decide_eq_true (by rw [z]))
 clear M2 M1 h2 S2 S02 S1 hD1 hne
 refine ⟨_, rfl, _, rfl, _, rfl, D, _, rfl, .inl (SqL.of hD3), p, _, rfl, M3.2, by rw [List.length_map]; omega, by rw [List.length_map]; omega, fun r4 H5 r40 r41 M5 => ?_⟩
 have hD5 := M5.at hD3 nDp
 have M5 := M3.trans M5
 rw [List.length_map] at r41
 obtain ⟨rn, rfl⟩ := Int.eq_ofNat_of_zero_le r40
 have hrn : rn < ks.length := by omega
 obtain ⟨kk, hkk, hk, hlt⟩ : ∃ kk, ks[rn] = kk ∧ ∃ hk : kk < bs.length, bs[kk].1 < bs[kk].2 := ⟨_, rfl, all4 _ (List.getElem_mem hrn)⟩
 refine ⟨D, _, _, _, rfl, rfl, SqL.of hD5, atI_nat (j := rn) (by rw [List.getElem?_map, gE hrn, hkk]; rfl), ?_⟩
 have K5 := Md.tupK hp M5
 have hpb5 := K5 _ _ hpb
 have rb5 : IsDs H5 yb (rowsD bndR bs) := rows_keep K5 rb
 obtain ⟨qn, hqn, hqn2⟩ := rows_at rb5 (gE hk)
 obtain ⟨c0, c1, c2⟩ := hBs bs[kk] (List.getElem_mem hk)
 have c2 : bs[kk].2 < 10 ^ 60 := c2
 refine ⟨_, rfl, _, rfl, pb, _, _, _, rfl, rfl, SqT.of hpb5, atI_nat0 hqn, qn, _, rfl, SqT.of hqn2, rfl, _, _, rfl, _, _, rfl, rfl, ?_⟩
 refine ⟨_, rfl, _, rfl, _, rfl, _, rfl, _, _, rfl, rfl, p, _, rfl, M5.2, by omega, by omega, fun r6 H6 r60 r61 M6 => ⟨_, _, rfl, rfl, ?_⟩⟩
 have M6 := M5.trans M6
 have K6 := Md.tupK hp M6
 have hpb6 := K6 _ _ hpb
 have rb6 : IsDs H6 yb (rowsD bndR bs) := rows_keep K6 rb
 have e0 : bs.getD kk (0, 0) = bs[kk] := by rw [List.getD_eq_getElem?_getD, gE hk]; rfl
 have e1 : oneB bs kk (bs[kk].1 + r6) = bs.set kk (bs[kk].1, bs[kk].1 + r6) := by unfold oneB; rw [e0]
 have e2 : otherB bs kk (bs[kk].1 + r6) = bs.set kk (bs[kk].1 + r6 + 1, bs[kk].2) := by unfold otherB; rw [e0]
 have zk : (0 : Int) + (kk : Nat) = (kk : Nat) := Int.zero_add _
 clear M5 M3 hD5 hD3 K5 hpb5 rb5 hqn hqn2 K3 hkk
 refine ⟨_, rfl, _, rfl, _, rfl, _, rfl, _, rfl, pb, _, rfl, hpb6, fun qB HB SB hB => ⟨_, rfl, _, rfl, (by show 2 ≤ sizeLine; decide), fun q1 H1 S1 h1 => ⟨(by show 1 ≤ sizeLine; decide), fun qC HC SC hC => ?_⟩⟩⟩
 rw [cutU (n := kk) (by omega)] at hB
 refine ⟨qB, qC, _, _, rfl, rfl, SC _ _ (S1 _ _ hB), hC, ?_, fun qD HD SD hD => ?_⟩
 ·rw [List.length_take]; exact Nat.le_trans (by show min kk yb.length + 1 ≤ 1000; omega) (by decide)
 refine ⟨_, rfl, _, rfl, _, _, rfl, rfl, _, rfl, pb, _, rfl, SD _ _ (SC _ _ (S1 _ _ (SB _ _ hpb6))), fun qE HE SE hE => ?_⟩
 rw [cutF (n := kk + 1) (by omega)] at hE
 refine ⟨qD, qE, _, _, rfl, rfl, SE _ _ hD, hE, ?_, fun qF HF SF hF => ?_⟩
 ·rw [List.length_append, List.length_take, List.length_drop]; exact Nat.le_trans (by show min kk yb.length + 1 + (yb.length - (kk + 1)) ≤ 1000; omega) (by decide)
 have S1F : Same H1 HF := SC.trans (SD.trans (SE.trans SF))
 have SF' : Same H6 HF := SB.trans (S1.trans S1F)
 have hbF : IsD HF (.ref qF) (bndP (bs.set kk (bs[kk].1, bs[kk].1 + r6))) := by
  refine .tup hF ?_
  rw [set_cat hk, List.map_append, List.map_append, List.map_take, List.map_drop]
  exact ((IsDs.takeN kk (rb6.same SF')).append (.cons (.tup (S1F _ _ h1) (IsDs.ints [bs[kk].1, bs[kk].1 + r6])) .nil)).append (IsDs.dropN (kk + 1) (rb6.same SF'))
 clear hB hC hD hE hF h1 SB SC SD SE SF S1 S1F
 refine ⟨_, rfl, _, _, rfl, rfl, p, v, .ref qF, n - 1, b, m, sp, _, rfl, by omega, by omega, (M6.then SF').2, (netP_keep K6 hv).same SF', N, hb33, hbF, by rw [List.length_set]; exact hlb, setU hBs ⟨c0, by show bs[kk].1 ≤ bs[kk].1 + r6; omega, by show bs[kk].1 + r6 < 10 ^ 60; omega⟩, fun u1 t1 H7 M7 hu1 hd1 hq1 => ?_⟩
 have M7 := (M6.then SF').trans M7
 have K7 := Md.tupK hp M7
 have hpb7 := K7 _ _ hpb
 have rb7 : IsDs H7 yb (rowsD bndR bs) := rows_keep K7 rb
 clear hbF SF'
 refine ⟨_, rfl, _, rfl, _, rfl, _, rfl, _, rfl, pb, _, rfl, hpb7, fun qB HB SB hB => ⟨_, rfl, _, _, rfl, rfl, _, rfl, (by show 2 ≤ sizeLine; decide), fun q1 H1 S1 h1 => ⟨(by show 1 ≤ sizeLine; decide), fun qC HC SC hC => ?_⟩⟩⟩
 rw [cutU (n := kk) (by omega)] at hB
 refine ⟨qB, qC, _, _, rfl, rfl, SC _ _ (S1 _ _ hB), hC, ?_, fun qD HD SD hD => ?_⟩
 ·rw [List.length_take]; exact Nat.le_trans (by show min kk yb.length + 1 ≤ 1000; omega) (by decide)
 refine ⟨_, rfl, _, rfl, _, _, rfl, rfl, _, rfl, pb, _, rfl, SD _ _ (SC _ _ (S1 _ _ (SB _ _ hpb7))), fun qE HE SE hE => ?_⟩
 rw [cutF (n := kk + 1) (by omega)] at hE
 refine ⟨qD, qE, _, _, rfl, rfl, SE _ _ hD, hE, ?_, fun qF HF SF hF => ?_⟩
 ·rw [List.length_append, List.length_take, List.length_drop]; exact Nat.le_trans (by show min kk yb.length + 1 + (yb.length - (kk + 1)) ≤ 1000; omega) (by decide)
 have S1F : Same H1 HF := SC.trans (SD.trans (SE.trans SF))
 have SF' : Same H7 HF := SB.trans (S1.trans S1F)
 have hbF : IsD HF (.ref qF) (bndP (bs.set kk (bs[kk].1 + r6 + 1, bs[kk].2))) := by
  refine .tup hF ?_
  rw [set_cat hk, List.map_append, List.map_append, List.map_take, List.map_drop]
  exact ((IsDs.takeN kk (rb7.same SF')).append (.cons (.tup (S1F _ _ h1) (IsDs.ints [bs[kk].1 + r6 + 1, bs[kk].2])) .nil)).append (IsDs.dropN (kk + 1) (rb7.same SF'))
 clear hB hC hD hE hF h1 SB SC SD SE SF S1 S1F
 refine ⟨_, rfl, _, _, rfl, rfl, p, v, .ref qF, n - 1, b, m, sp, _, rfl, by omega, by omega, (M7.then SF').2, (netP_keep K7 hv).same SF', N, hb33, hbF, by rw [List.length_set]; exact hlb, setU hBs ⟨by show 0 ≤ bs[kk].1 + r6 + 1; omega, by show bs[kk].1 + r6 + 1 ≤ bs[kk].2; omega, c2⟩, fun u2 t2 H8 M8 hu2 hd2 hq2 => ?_⟩
 have hu1' := (hu1.same SF').keepP (Md.tupK (M7.then SF').2 M8) (pl_tree t1 _ hd1)
 have M8 := (M7.then SF').trans M8
 refine ⟨_, rfl, _, rfl, _, rfl, _, rfl, (by show 5 ≤ sizeLine; decide), fun q9 H9 S9 h9 => ?_⟩
 refine k (.ref q9) (.cut kk (bs[kk].1 + r6) t1 t2) H9 (M8.then S9) ?_ ⟨hk, by rw [e0]; omega, by rw [e0]; omega, by rw [e1]; exact hd1, by rw [e2]; exact hd2⟩ ?_
 ·have h9 : H9 q9 = some (.tup [.str "cut", .int ((0 : Int) + (kk : Nat)), .int (bs[kk].1 + r6), u1, u2]) := h9
  rw [zk] at h9
  exact .tup h9 (.cons (.str _) (.cons (.int _) (.cons (.int _) (.cons (hu1'.same S9) (.cons (hu2.same S9) .nil)))))
 ·show ((max (dpT t1) (dpT t2) + 1 : Nat) : Int) ≤ n
  omega
theorem ok_treeL {f f1 f2 : Addr} {fd fd1 fd2 : FuncData} (T : Nm mg) (T2 : Nt mg) (G1 : Fn K mg "_law_draw" sDrawD ["_law_deck", "_law_most"] f1 fd1) (G2 : Fn K mg "_law_leaf" sLeafL ["_law_deck", "_law_net_here", "_law_bounds_here"] f2 fd2) (F2 : FnOk P w K mg base CX0 4 f2 fd2 ["_law_deck", "_law_net_here", "_law_bounds_here"] spLeafL) (G3 : Fn K mg "_law_tree" sTreeL ["_law_deck", "_law_net_here", "_law_bounds_here", "_law_deep"] f fd) : ∀ dd, FnOk P w K mg base CX0 (4 + dd) f fd ["_law_deck", "_law_net_here", "_law_bounds_here", "_law_deep"] (spTreeL dd)
 | 0 => ok_treeL0
 | dd + 1 => ok_treeL1 T T2 G1 G2 F2 G3 (ok_treeL T T2 G1 G2 F2 G3 dd)
end
end HN
namespace HN
open PySem L2 PyProof.Rows
abbrev sShown : Stmt := top 28
section
variable {P : Program} {w : World} {K : PySem.W.Frag} {mg : Str → Option Value} {base : Heap}
theorem scShown : FnScope ["net", "thing", "leaves", "worths"] ["net", "thing"] (defScope sShown) := ⟨rfl, rfl, rfl, by decide +kernel, rfl, by decide +kernel, by decide +kernel⟩
theorem ok_shown {f f1 f2 f3 : Addr} {fd fd1 fd2 fd3 : FuncData} (F : Fun K "shown_by" "shown_by" sShown f fd) (T : Nm mg)
  (G1 : Fn K mg "leaves_in" sLeavesIn ["net", "thing"] f1 fd1) (F1 : FnOk P w K mg base CX0 8 f1 fd1 ["net", "thing"] spLeavesIn)
  (G2 : Fn K mg "is_right" sIsRight ["net", "bounds", "leaf"] f2 fd2) (F2 : FnOk P w K mg base CX0 4 f2 fd2 ["net", "bounds", "leaf"] spIsRight)
  (G3 : Fn K mg "worth_of" sWorth ["net", "bounds", "leaf"] f3 fd3) (F3 : FnOk P w K mg base CX0 3 f3 fd3 ["net", "bounds", "leaf"] spWorth) : FnOk P w K mg base CX0 9 f fd ["net", "thing"] spShown := by
 refine F.ok scShown (fun vs H Q E h => by obtain ⟨v, u, b, m, sp, t, ps, rfl, _⟩ := h; rfl) (fun cdv A outer s H vs Q E hr h => ?_)
 obtain ⟨v, u, b, m, sp, t, ps, rfl, W, hcut, hall, k⟩ := h
 obtain ⟨hv, hu, b0, b61, few, hws, hsz, hlv, hok⟩ := W
 have hr8 : Room 8 _ := hr
 have hr4 : Room 4 _ := hr.mono (by decide)
 have hr3 : Room 3 _ := hr.mono (by decide)
 refine ⟨_, PSl.h (l_cons ⟨(ps_set (i := 2) scShown.nd rfl (Or.inl rfl) (pc1 G1 F1 hr8 (pa_cons (pv 0) (pa_cons (pv 1) pa_nil))))⟩
  (l_cons ⟨(ps_if (PW.pt (pw_or (pt_cmpR op_isN (pv 2) pe_non (nomark _)) (pw_or1 (pt_not (pt_val (pe_callB (call_all rfl) rfl T.all boot_all (pa_cons (pe_compT (xs := ["bounds", "leaf"]) (fr := ["net"]) (js := [0]) rfl (pi_list (pv 2)) (by decide +kernel) rfl (by decide +kernel) (by show ∀ y : Str × NameKind, y ∈ _ → y.2 = NameKind.free → List.lookup y.1 (defScope sShown).names = some NameKind.cell; decide +kernel) rfl (by decide +kernel) (fun _ _ _ _ _ => pg_two rfl (by decide +kernel) rfl rfl) (fun _ _ _ _ _ => ⟨(pc1 G2 F2 hr4 (pa_cons (pv 2) (pa_cons (pv 0) (pa_cons (pv 1) pa_nil)))), pts_nil⟩)) pa_nil))))))) (pss_one (ps_ret pe_non)) pss_nil)⟩
  (l_cons ⟨(ps_setCT (iy := 3) (xs := ["bounds", "leaf"]) (fr := ["net"]) (js := [0]) scShown.nd rfl (Or.inl rfl) rfl (pi_list (pv 2)) (by decide +kernel) rfl (by decide +kernel) (by show ∀ y : Str × NameKind, y ∈ _ → y.2 = NameKind.free → List.lookup y.1 (defScope sShown).names = some NameKind.cell; decide +kernel) rfl (by decide +kernel) (fun _ _ _ _ _ => pg_two rfl (by decide +kernel) rfl rfl) (fun _ _ _ _ _ => ⟨(pc1 G3 F3 hr3 (pa_cons (pv 2) (pa_cons (pv 0) (pa_cons (pv 1) pa_nil)))), (pts_one (pt_cmpR op_eq (pe_ix (r := rIxT K) ix_tup (pv 1) pe_int (fun _ _ => rfl)) pe_str (nomark _)))⟩))⟩
  (l_cons ⟨(ps_if (pt_cmpR op_eq (pe_callB call_len_seq rfl T.len PySem.boot_len (pa_cons (pv 3) pa_nil)) pe_int (nomark _)) (pss_one (ps_ret (pe_tupA (pa_cons pe_str pa_nil)))) pss_nil)⟩
  (l_one ⟨(ps_ret (pe_tupA (pa_cons pe_str (pa_cons (pe_callB (call_min1 rfl) rfl T.min boot_min (pa_cons (pv 3) pa_nil)) pa_nil))))⟩))))), ?_⟩
 refine ⟨_, rfl, _, rfl, v, u, b, m, sp, t, rfl, hv, hu, few, hcut, by omega, fun res H1 S1 hres => ?_⟩
 rw [if_pos hall] at hres
 obtain ⟨L, ys, rfl, hLn, hL, hys⟩ := hres
 rw [hlv, List.map_map] at hys
 have ly : ys.length = ps.length := by rw [hys.length, List.length_map]
 have lps : ps.length ≤ 400 := by
  have := lvs_siz t (sp.map fun x => (x.l, x.o))
  rw [hlv, List.length_map] at this
  omega
 have plc : ∀ {i : Nat} {y : V}, ys[i]? = some y → ∃ (hi : i < ps.length) (q : Addr) (vb vl : V), y = .ref q ∧ H1 q = some (.tup [vb, vl]) ∧ IsD H1 vb (bndP ps[i].1) ∧ IsD H1 vl (leafP ps[i].2) := fun {i y} hy => by
  have hi : i < ps.length := by rw [← ly]; exact (List.getElem?_eq_some_iff.mp hy).1
  obtain ⟨d, hd, dy⟩ := hys.get hy
  rw [List.getElem?_map, gE hi] at hd
  cases hd
  obtain ⟨q, vb, vl, e, h1, h2, h3⟩ := plc_of dy
  exact ⟨hi, q, vb, vl, e, h1, h2, h3⟩
 refine ⟨_, rfl, rfl, _, rfl, iteC (decide_eq_false fun z => by cases z) ?_⟩
 refine ⟨_, rfl, L, rfl, ⟨_, SqL.of hL⟩, ?_⟩
 refine compT_lst (K := K) (a := L) (xs := ys) (fun i zs H2 => Same H1 H2 ∧ zs = ((ps.take i).map (rightP b)).map V.bl) ⟨Same.refl H1, rfl⟩ (fun i zs H2 hi z => ?_) (by rw [ly]; exact small_le (by omega)) (fun i y zs H2 hy z => ?_) (fun zs H2 z D hD => ?_)
 ·obtain ⟨e1, e2⟩ := z
  refine ⟨SqL.of (e1 _ _ hL), ?_⟩
  rw [e2, List.length_map, List.length_map, List.length_take]; omega
 ·obtain ⟨e1, e2⟩ := z
  obtain ⟨hi, q, vb, vl, rfl, hq, hb, hl⟩ := plc hy
  have ok := hok ps[i] (List.getElem_mem hi)
  refine ⟨q, vb, vl, rfl, e1 _ _ hq, tNoIf_go ?_⟩
  refine ⟨_, rfl, _, rfl, _, rfl, v, vb, vl, b, m, sp, ps[i].1, ps[i].2, rfl, (hv.same S1).same e1, b0, b61, hb.same e1, hl.same e1, by rw [ok.len]; exact ok.inn, fun H3 S3 => ⟨e1.trans S3, ?_⟩⟩
  rw [e2, List.take_add_one, gE hi, List.map_append, List.map_append]; rfl
 obtain ⟨e1, e2⟩ := z
 rw [ly, List.take_length] at e2
 subst e2
 have S2 : Same H1 (upd H2 D (.lst ((ps.map (rightP b)).map V.bl))) := Same.put e1 hD
 have hD2 : (upd H2 D (.lst ((ps.map (rightP b)).map V.bl))) D = some (.lst ((ps.map (rightP b)).map V.bl)) := upd_same
 generalize upd H2 D (.lst ((ps.map (rightP b)).map V.bl)) = H3 at S2 hD2 ⊢
 refine ⟨D, ps.map (rightP b), rfl, SqL.of hD2, _, rfl, ?_⟩
 have ea : (ps.map (rightP b)).all id = ps.all (rightP b) := by rw [List.all_map]; rfl
 rw [ea]
 cases hright : ps.all (rightP b) with
 | false =>
  refine iteB rfl ?_
  refine k .non H3 (S1.trans S2) ?_
  unfold ShAns
  rw [hright]
  rfl
 | true =>
 refine iteC rfl ?_
 have S13 := S1.trans S2
 refine ⟨_, rfl, L, rfl, ⟨_, SqL.of (S2 _ _ hL)⟩, ?_⟩
 refine compT_lst (K := K) (a := L) (xs := ys) (fun i zs H4 => Same H3 H4 ∧ zs = (worthsM b sp (ps.take i)).map V.int) ⟨Same.refl H3, rfl⟩ (fun i zs H4 hi z => ?_) (by rw [ly]; exact small_le (by omega)) (fun i y zs H4 hy z => ?_) (fun zs H4 z D2 hD2 => ?_)
 ·obtain ⟨e1, e2⟩ := z
  refine ⟨SqL.of (e1 _ _ (S2 _ _ hL)), ?_⟩
  have := worths_len (b := b) (sp := sp) (ps.take i)
  rw [List.length_take] at this
  rw [e2, List.length_map]; omega
 ·obtain ⟨e1, e2⟩ := z
  obtain ⟨hi, q, vb, vl, rfl, hq, hb, hl⟩ := plc hy
  have ok := hok ps[i] (List.getElem_mem hi)
  obtain ⟨ql, xl, rfl, hql⟩ := word_of hl
  have T4 := S2.trans e1
  refine ⟨q, vb, .ref ql, rfl, T4 _ _ hq, ?_⟩
  rw [worths_take hi]
  refine ⟨_, rfl, ql, _, _, _, rfl, rfl, SqT.of (T4 _ _ hql), atI_nat (j := 0) rfl, rfl, _, rfl, ?_⟩
  cases hlf : ps[i].2 with
  | ring ws =>
   refine iteC (decide_eq_false (by show ¬ V.str "ring" = V.str "price"; decide)) ⟨e1, ?_⟩
   have : worthO b sp ps[i] = none := by unfold worthO; rw [hlf]
   rw [this, e2]
   show _ = List.map V.int (_ ++ [])
   rw [List.append_nil]
  | price rows =>
   refine iteB (decide_eq_true rfl) ?_
   obtain ⟨l41, rk⟩ := ok.rws rows hlf
   have : worthO b sp ps[i] = some (worthM b sp ps[i].1 rows) := by unfold worthO; rw [hlf]
   rw [this]
   rw [hlf] at hl
   refine ⟨_, rfl, _, rfl, _, rfl, v, vb, .ref ql, b, m, sp, ps[i].1, rows, rfl, ⟨(hv.same S13).same e1, hb.same T4, hl.same T4, b0, b61, ok.len, few, ok.bu, hws, rk, l41⟩, fun H5 S5 => ⟨e1.trans S5, ?_⟩⟩
   rw [e2, List.map_append]; rfl
 obtain ⟨e1, e2⟩ := z
 rw [ly, List.take_length] at e2
 subst e2
 have S4 : Same H3 (upd H4 D2 (.lst ((worthsM b sp ps).map V.int))) := Same.put e1 hD2
 have h4 : (upd H4 D2 (.lst ((worthsM b sp ps).map V.int))) D2 = some (.lst ((worthsM b sp ps).map V.int)) := upd_same
 generalize upd H4 D2 (.lst ((worthsM b sp ps).map V.int)) = H5 at S4 h4 ⊢
 have S05 := S13.trans S4
 refine ⟨_, rfl, D2, _, rfl, .inl (SqL.of h4), rfl, _, rfl, ?_⟩
 cases hw : worthsM b sp ps with
 | nil =>
  refine iteB (by rfl) ?_
  refine ⟨(by show 1 ≤ sizeLine; decide), fun q6 H6 S6 h6 => k (.ref q6) H6 (S05.trans S6) ?_⟩
  unfold ShAns
  rw [if_pos hright, hw]
  exact .tup h6 (.cons (.str _) .nil)
 | cons a l =>
  refine iteC (by rw [List.map_cons, List.length_cons]; refine decide_eq_false fun z => ?_; injection z with z; omega) ?_
  refine ⟨_, rfl, D2, worthsM b sp ps, rfl, SqL.of h4, by rw [hw]; simp, (by show 2 ≤ sizeLine; decide), fun q6 H6 S6 h6 => k (.ref q6) H6 (S05.trans S6) ?_⟩
  unfold ShAns
  rw [if_pos hright, hw]
  rw [hw] at h6
  exact .tup h6 (.cons (.str _) (.cons (.int _) .nil))
end
end HN
namespace HN
open PySem L2 PyProof.Rows
abbrev sShownL : Stmt := top 53
theorem lvs_ne : ∀ (t : Tq) (bs : List (Int × Int)), lvs t bs ≠ []
 | .leaf _, _ => by intro z; cases z
 | .cut k a x y, bs => by
  intro z
  have z : lvs x (oneB bs k a) ++ lvs y (otherB bs k a) = [] := z
  exact lvs_ne x _ (List.append_eq_nil_iff.mp z).1
def spShownL (dd : Nat) : Sp := fun vs H Q _ => ∃ (v u : V) (b m : Int) (sp : List Sn) (t : Tq) (ps : List Plc), vs = [v, u] ∧ ShArgs H v u b m sp t ps ∧ dpT t < dd ∧ HdsOk t ∧ InsT t (sp.map fun x => (x.l, x.o)) ∧
 ∀ r H', Same H H' → ShAns b sp ps r H' → Q r H'
section
variable {P : Program} {w : World} {K : PySem.W.Frag} {mg : Str → Option Value} {base : Heap}
theorem scShownL : FnScope ["_law_net_here", "_law_tree_here", "_law_worths", "_law_bounds_here", "_law_leaf_here"] ["_law_net_here", "_law_tree_here"] (defScope sShownL) := ⟨rfl, rfl, rfl, by decide +kernel, rfl, by decide +kernel, by decide +kernel⟩
theorem ok_shownL {dd : Nat} {f f1 f2 f3 f4 : Addr} {fd fd1 fd2 fd3 fd4 : FuncData} (F : Fun K "_law_shown" "_law_shown" sShownL f fd) (T : Nm mg)
  (G1 : Fn K mg "_law_leaves" sLeavesL ["_law_tree_here", "_law_bounds_here"] f1 fd1) (F1 : FnOk P w K mg base CX0 dd f1 fd1 ["_law_tree_here", "_law_bounds_here"] (spLeavesL dd))
  (G2 : Fn K mg "_law_bounds" sBoundsF ["_law_net_here"] f2 fd2) (F2 : FnOk P w K mg base CX0 1 f2 fd2 ["_law_net_here"] spFirst)
  (G3 : Fn K mg "_law_is_right" sIsRL ["_law_net_here", "_law_bounds_here", "_law_leaf_here"] f3 fd3) (F3 : FnOk P w K mg base CX0 2 f3 fd3 ["_law_net_here", "_law_bounds_here", "_law_leaf_here"] spIsRight)
  (G4 : Fn K mg "_law_worth" sWorthL ["_law_net_here", "_law_bounds_here", "_law_leaf_here"] f4 fd4) (F4 : FnOk P w K mg base CX0 2 f4 fd4 ["_law_net_here", "_law_bounds_here", "_law_leaf_here"] spWorthL) : FnOk P w K mg base CX0 (dd + 3) f fd ["_law_net_here", "_law_tree_here"] (spShownL dd) := by
 refine F.ok scShownL (fun vs H Q E h => by obtain ⟨v, u, b, m, sp, t, ps, rfl, _⟩ := h; rfl) (fun cdv A outer s H vs Q E hr h => ?_)
 obtain ⟨v, u, b, m, sp, t, ps, rfl, W, hdp, hhd, hin, k⟩ := h
 obtain ⟨hv, hu, b0, b61, few, hws, hsz, hlv, hok⟩ := W
 have hr : Room (dd + 2) _ := hr
 have hrd : Room dd _ := hr.mono (by omega)
 have hr2 : Room 2 _ := hr.mono (by omega)
 have hr1 : Room 1 _ := hr.mono (by omega)
 refine ⟨_, PSl.h (l_cons ⟨(ps_set (i := 2) scShownL.nd rfl (Or.inl rfl) (pe_lst pa_nil))⟩
  (l_cons ⟨(ps_for PassesOwn.never rfl (pi_list (pc1 G1 F1 hrd (pa_cons (pv 1) (pa_cons (pc1 G2 F2 hr1 (pa_cons (pv 0) pa_nil)) pa_nil)))) (pg_tup rfl (pgs_cons (pg_name (i := 3) scShownL.nd rfl (Or.inl rfl)) (pgs_cons (pg_name (i := 4) scShownL.nd rfl (Or.inl rfl)) pgs_nil))) (PSl.h (l_cons ⟨(ps_if (pt_not (pt_val (pc1 G3 F3 hr2 (pa_cons (pv 0) (pa_cons (pv 3) (pa_cons (pv 4) pa_nil)))))) (pss_one (ps_ret pe_non)) pss_nil)⟩
  (l_one ⟨(ps_if (pt_cmpR op_eq (pe_ix ix_tup (pv 4) pe_int (fun _ _ => rfl)) pe_str (nomark _)) (pss_one (ps_expr (pe_bm PySem.F.plainAttrs_list PySem.F.slot_list_append PySem.F.type_list_append mt_append (pv 2) (pa_cons (pc1 G4 F4 hr2 (pa_cons (pv 0) (pa_cons (pv 3) (pa_cons (pv 4) pa_nil)))) pa_nil)))) pss_nil)⟩))))⟩
  (l_cons ⟨(ps_if (pt_cmpR (op_eqL0 hr.units0) (pv 2) (pe_lstA pa_nil) (nomark _)) (pss_one (ps_ret (pe_tupA (pa_cons pe_str pa_nil)))) pss_nil)⟩
  (l_one ⟨(ps_ret (pe_tupA (pa_cons pe_str (pa_cons (pe_callB (call_min1 rfl) rfl T.min boot_min (pa_cons (pv 2) pa_nil)) pa_nil))))⟩)))), ?_⟩
 refine ⟨Nat.zero_le _, fun Lw hLw => ?_⟩
 have S1 : Same H (upd H Lw (.lst [])) := Same.put (Same.refl H) hLw
 have h1 : (upd H Lw (.lst [])) Lw = some (.lst []) := upd_same
 generalize upd H Lw (.lst []) = H1 at S1 h1 ⊢
 refine ⟨_, rfl, _, rfl, v, b, m, sp, rfl, hv.same S1, by omega, fun vb H2 S2 hvb => ?_⟩
 have S02 := S1.trans S2
 refine ⟨u, vb, t, sp.map fun x => (x.l, x.o), rfl, hdp, hsz, hu.same S02, hhd, hin, hvb, by rw [List.length_map]; exact few, fun R ys H3 S3 hR hys => ?_⟩
 rw [hlv, List.map_map] at hys
 have ly : ys.length = ps.length := by rw [hys.length, List.length_map]
 have lps : ps.length ≤ 400 := by
  have := lvs_siz t (sp.map fun x => (x.l, x.o))
  rw [hlv, List.length_map] at this
  omega
 have h3 : H3 Lw = some (.lst []) := S3 _ _ (S2 _ _ h1)
 have nR : R ≠ Lw := fun z => by
  rw [z, h3] at hR
  cases hR
  have : ps = [] := List.length_eq_zero_iff.mp ly.symm
  rw [this] at hlv
  exact lvs_ne _ _ hlv
 have plc : ∀ {i : Nat} {y : V}, ys[i]? = some y → ∃ (hi : i < ps.length) (q : Addr) (vb vl : V), y = .ref q ∧ H3 q = some (.tup [vb, vl]) ∧ IsD H3 vb (bndP ps[i].1) ∧ IsD H3 vl (leafP ps[i].2) := fun {i y} hy => by
  have hi : i < ps.length := by rw [← ly]; exact (List.getElem?_eq_some_iff.mp hy).1
  obtain ⟨d, hd, dy⟩ := hys.get hy
  rw [List.getElem?_map, gE hi] at hd
  cases hd
  obtain ⟨q, vb, vl, e, h1, h2, h3⟩ := plc_of dy
  exact ⟨hi, q, vb, vl, e, h1, h2, h3⟩
 refine ⟨R, rfl, ⟨_, SqL.of hR⟩, ?_⟩
 refine for_list (K := K) (xs := ys) (fun i σ H4 => Same H H4 ∧ TupK H3 H4 ∧ H4 R = some (.lst ys) ∧ H4 Lw = some (.lst ((worthsM b sp (ps.take i)).map V.int)) ∧ (ps.take i).all (rightP b) = true ∧ ∃ v3 v4, σ = [some v, some u, some (.ref Lw), v3, v4]) ⟨S02.trans S3, fun _ _ z => z, hR, h3, rfl, none, none, rfl⟩ (fun i σ H4 _ z => SqL.of z.2.2.1) ?_ ?_
 ·rintro i y σ H4 hy ⟨S4, K4, hR4, hW4, all4, v3, v4, rfl⟩
  obtain ⟨hi, q, vb, vl, rfl, hq, hb, hl⟩ := plc hy
  have ok := hok ps[i] (List.getElem_mem hi)
  have hb4 : IsD H4 vb (bndP ps[i].1) := hb.keepP K4 (pl_rows _ _)
  have hl4 : IsD H4 vl (leafP ps[i].2) := hl.keepP K4 (pl_leaf _)
  obtain ⟨ql, xl, rfl, hql⟩ := word_of hl4
  refine ⟨q, _, rfl, SqT.of (K4 _ _ hq), rfl, _, _, rfl, _, _, rfl, rfl, ?_⟩
  refine ⟨_, rfl, _, rfl, _, rfl, v, vb, .ref ql, b, m, sp, ps[i].1, ps[i].2, rfl, hv.same S4, b0, b61, hb4, hl4, by rw [ok.len]; exact ok.inn, fun H5 S5 => ⟨_, rfl, ?_⟩⟩
  cases hright : rightB b ps[i].1 ps[i].2 with
  | false =>
   refine iteB rfl ?_
   refine k .non H5 (S4.trans S5) ?_
   unfold ShAns
   rw [if_neg]
   rw [all_not (rightP b) hi hright]
   decide
  | true =>
  refine iteC rfl ?_
  have all5 := all_take (rightP b) hi all4 hright
  rw [worths_take hi]
  refine ⟨_, rfl, ql, _, _, _, rfl, rfl, SqT.of (S5 _ _ hql), atI_nat (j := 0) rfl, rfl, _, rfl, ?_⟩
  cases hlf : ps[i].2 with
  | ring ws =>
   refine iteC (decide_eq_false (by show ¬ V.str "ring" = V.str "price"; decide)) ⟨S4.trans S5, K4.trans (Same.tupK S5), S5 _ _ hR4, ?_, all5, _, _, rfl⟩
   have : worthO b sp ps[i] = none := by unfold worthO; rw [hlf]
   rw [this]
   show _ = some (HO.lst (List.map V.int (_ ++ [])))
   rw [List.append_nil]
   exact S5 _ _ hW4
  | price rows =>
   refine iteB (decide_eq_true rfl) ?_
   obtain ⟨l41, rk⟩ := ok.rws rows hlf
   have : worthO b sp ps[i] = some (worthM b sp ps[i].1 rows) := by unfold worthO; rw [hlf]
   rw [this]
   rw [hlf] at hl4
   refine ⟨_, rfl, .inl ⟨rfl, _, SqL.of (S5 _ _ hW4)⟩, _, rfl, _, rfl, _, rfl, v, vb, .ref ql, b, m, sp, ps[i].1, rows, rfl, ⟨(hv.same S4).same S5, hb4.same S5, hl4.same S5, b0, b61, ok.len, few, ok.bu, hws, rk, l41⟩, fun H6 S6 => ?_⟩
   have S56 := S5.trans S6
   have hW6 := S56 _ _ hW4
   have wl := worths_len (b := b) (sp := sp) (ps.take i)
   rw [List.length_take] at wl
   refine ⟨Lw, _, _, rfl, rfl, hW6, (Nat.lt_of_lt_of_le (by rw [List.length_map]; omega : (List.map V.int (worthsM b sp (ps.take i))).length < 3000) (by decide : 3000 ≤ sizeLine)), same_up (S4.trans S56) hLw, (K4.trans (Same.tupK S56)).trans (tupK_upd hW6), by rw [upd_ne nR]; exact S56 _ _ hR4, ?_, all5, _, _, rfl⟩
   rw [upd_same, List.map_append]; rfl
 ·rintro σ H4 ⟨S4, K4, hR4, hW4, all4, v3, v4, rfl⟩
  rw [ly, List.take_length] at hW4 all4
  refine ⟨_, rfl, (by show 0 ≤ sizeLine; decide), fun q5 H5 S5 h5 => ⟨Lw, q5, _, rfl, rfl, SqL.of (S5 _ _ hW4), SqL.of h5, _, rfl, ?_⟩⟩
  cases hw : worthsM b sp ps with
  | nil =>
   refine iteB (by rfl) ?_
   refine ⟨(by show 1 ≤ sizeLine; decide), fun q6 H6 S6 h6 => k (.ref q6) H6 (S4.trans (S5.trans S6)) ?_⟩
   unfold ShAns
   rw [if_pos all4, hw]
   exact .tup h6 (.cons (.str _) .nil)
  | cons a l =>
   refine iteC (by rfl) ?_
   refine ⟨_, rfl, Lw, worthsM b sp ps, rfl, SqL.of (S5 _ _ hW4), by rw [hw]; simp, (by show 2 ≤ sizeLine; decide), fun q6 H6 S6 h6 => k (.ref q6) H6 (S4.trans (S5.trans S6)) ?_⟩
   unfold ShAns
   rw [if_pos all4, hw]
   rw [hw] at h6
   exact .tup h6 (.cons (.str _) (.cons (.int _) .nil))
end
end HN
namespace HN
open PySem L2 PyProof.Rows
abbrev sOthL : Stmt := top 57
section
variable {P : Program} {w : World} {K : PySem.W.Frag} {mg : Str → Option Value} {base : Heap}
theorem scOthL : FnScope ["_law_deck", "_law_net_here", "_law_tree_here", "_law_ring_here"] ["_law_deck", "_law_net_here", "_law_tree_here"] (defScope sOthL) := ⟨rfl, rfl, rfl, by decide +kernel, rfl, by decide +kernel, by decide +kernel⟩
theorem ok_othL0 {f : Addr} {fd : FuncData} : FnOk P w K mg base CX0 4 f fd ["_law_deck", "_law_net_here", "_law_tree_here"] (spOthL 0) :=
 ⟨fun vs H Q E h => by obtain ⟨p, v, u, b, m, sp, bs, t, rfl, _⟩ := h; rfl, fun A outer s H args us vs Q E _ _ _ _ h => by
  obtain ⟨p, v, u, b, m, sp, bs, t, _, h0, _⟩ := h
  exact absurd h0 (Nat.not_lt_zero _)⟩
theorem ok_othL1 {dd : Nat} {f f1 f2 : Addr} {fd fd1 fd2 : FuncData} (T : Nm mg) (G1 : Fn K mg "_law_draw" sDrawD ["_law_deck", "_law_most"] f1 fd1) (G2 : Fn K mg "_law_ring" sRingD ["_law_deck", "_law_net_here"] f2 fd2) (F2 : FnOk P w K mg base CX0 3 f2 fd2 ["_law_deck", "_law_net_here"] spRingD) (G3 : Fn K mg "_law_other_leaf" sOthL ["_law_deck", "_law_net_here", "_law_tree_here"] f fd) (F3 : FnOk P w K mg base CX0 (4 + dd) f fd ["_law_deck", "_law_net_here", "_law_tree_here"] (spOthL dd)) : FnOk P w K mg base CX0 (4 + dd + 1) f fd ["_law_deck", "_law_net_here", "_law_tree_here"] (spOthL (dd + 1)) := by
 have F1 : FnOk P w K mg base CX0 1 f1 fd1 ["_law_deck", "_law_most"] spDrawD := ok_drawD G1.F T
 refine G3.F.ok scOthL (fun vs H Q E h => by obtain ⟨p, v, u, b, m, sp, bs, t, rfl, _⟩ := h; rfl) (fun cdv A outer s H vs Q E hr h => ?_)
 obtain ⟨p, v, u, b, m, sp, bs, t, rfl, hdd, hp, hv, N, hu, hg, k⟩ := h
 have hr1 : Room 1 _ := hr.mono (by omega)
 have hr3 : Room 3 _ := hr.mono (by omega)
 refine ⟨_, PSl.h (l_cons ⟨(ps_if (pt_cmpR op_eq (pe_ix ix_tup (pv 2) pe_int (fun _ _ => rfl)) pe_str (nomark _)) (PSl.h (l_cons ⟨(ps_if (pt_cmpR op_eq (pc1 G1 F1 hr1 (pa_cons (pv 0) (pa_cons pe_int pa_nil))) pe_int (nomark _)) (pss_one (ps_ret (pe_op op_catA (pe_slice sl_tupN (pv 2) po_none (po_some pe_int)) (pe_tupA (pa_cons (pc1 G3 F3 hr (pa_cons (pv 0) (pa_cons (pv 1) (pa_cons (pe_ix ix_tup (pv 2) pe_int (fun _ _ => rfl)) pa_nil)))) (pa_cons (pe_ix ix_tup (pv 2) pe_int (fun _ _ => rfl)) pa_nil)))))) pss_nil)⟩
  (l_one ⟨(ps_ret (pe_op op_catA (pe_slice sl_tupN (pv 2) po_none (po_some pe_int)) (pe_tupA (pa_cons (pc1 G3 F3 hr (pa_cons (pv 0) (pa_cons (pv 1) (pa_cons (pe_ix ix_tup (pv 2) pe_int (fun _ _ => rfl)) pa_nil)))) pa_nil))))⟩))) pss_nil)⟩
  (l_cons ⟨(ps_set (i := 3) scOthL.nd rfl (Or.inl rfl) (pc1 G2 F2 hr3 (pa_cons (pv 0) (pa_cons (pv 1) pa_nil))))⟩
  (l_cons ⟨(ps_if (pt_cmpR op_isN (pv 3) pe_non (nomark _)) (pss_one (ps_ret (pe_tupA (pa_cons pe_str (pa_cons (pe_tupA pa_nil) pa_nil))))) pss_nil)⟩
  (l_one ⟨(ps_ret (PEs.h (k_ix ix_list (k_lstF (a_cons (k_tup (a_cons k_str (a_cons ⟨pv 3⟩ a_nil))) (a_cons (k_tup (a_cons k_str (a_cons (k_tup (a_cons (k_tup (a_cons (k_op op_add k_int ⟨pc1 G1 F1 hr1 (pa_cons (pv 0) (pa_cons pe_int pa_nil))⟩) (a_cons ⟨pv 3⟩ a_nil))) a_nil)) a_nil))) a_nil))) ⟨pc1 G1 F1 hr1 (pa_cons (pv 0) (pa_cons pe_int pa_nil))⟩ (fun _ _ => rfl))))⟩)))), ?_⟩
 cases t with
 | cut kk a x y =>
  have hdd : max (dpT x) (dpT y) + 1 < dd + 1 := hdd
  obtain ⟨hk, h1, h2, hx, hy⟩ := hg
  obtain ⟨q, xs, rfl, hq, r⟩ := IsD.tup_of (show IsD H u (.tup [.str "cut", .int (kk : Nat), .int a, treeD x, treeD y]) from hu)
  cases r with
  | cons g0 r => cases r with
   | cons g1 r => cases r with
    | cons g2 r => cases r with
     | cons gx r => cases r with
      | cons gy r =>
       cases r
       cases g0
       cases g1
       cases g2
       rename_i vx vy
       refine ⟨_, rfl, q, _, _, _, rfl, rfl, SqT.of hq, atI_nat (j := 0) rfl, rfl, _, rfl, iteB (by decide) ?_⟩
       refine ⟨_, rfl, p, 2, rfl, hp, by decide, by decide, fun r1 H1 _ _ M1 => ⟨rfl, _, rfl, ?_⟩⟩
       have K1 := Md.tupK hp M1
       have hq1 := K1 _ _ hq
       have hv1 := netP_keep K1 hv
       have gx1 := gx.keepP K1 (pl_gr x _ hx)
       have gy1 := gy.keepP K1 (pl_gr y _ hy)
       clear K1 hq hv gx gy hu
       refine ite2 (fun _ => ?_) (fun _ => ?_)
       ·refine ⟨_, rfl, _, rfl, q, _, rfl, hq1, fun qB HB SB hB => ?_⟩
        have hB : HB qB = some (.tup [.str "cut", .int (kk : Nat), .int a]) := hB
        have MB := M1.then SB
        refine ⟨_, rfl, _, rfl, _, rfl, q, _, _, _, rfl, rfl, SqT.of (SB _ _ hq1), atI_nat (j := 3) rfl, p, v, vx, b, m, sp, _, x, rfl, by omega, MB.2, hv1.same SB, N, gx1.same SB, hx, fun u2 t2 H2 M2 hu2 hg2 hd2 => ?_⟩
        have K2 := Md.tupK MB.2 M2
        have hB2 := K2 _ _ hB
        have gy2 := (gy1.same SB).keepP K2 (pl_gr y _ hy)
        refine ⟨_, rfl, q, _, _, _, rfl, rfl, SqT.of (K2 _ _ (SB _ _ hq1)), atI_nat (j := 4) rfl, (by show 2 ≤ sizeLine; decide), fun q3 H3 S3 h3 => ⟨qB, q3, _, _, rfl, rfl, S3 _ _ hB2, h3, (by show 3 + 2 ≤ sizeLine; decide), fun q4 H4 S4 h4 => ?_⟩⟩
        have S34 := S3.trans S4
        refine k (.ref q4) (.cut kk a t2 y) H4 ((MB.trans M2).then S34) (.tup h4 (.cons (.str _) (.cons (.int _) (.cons (.int _) (.cons (hu2.same S34) (.cons (gy2.same S34) .nil)))))) ⟨hk, h1, h2, hg2, hy⟩ ?_
        show max (dpT t2) (dpT y) + 1 ≤ max (dpT x) (dpT y) + 1
        omega
       ·refine ⟨_, rfl, _, rfl, q, _, rfl, hq1, fun qB HB SB hB => ?_⟩
        have hB : HB qB = some (.tup [.str "cut", .int (kk : Nat), .int a, vx]) := hB
        have MB := M1.then SB
        refine ⟨_, rfl, _, rfl, _, rfl, q, _, _, _, rfl, rfl, SqT.of (SB _ _ hq1), atI_nat (j := 4) rfl, p, v, vy, b, m, sp, _, y, rfl, by omega, MB.2, hv1.same SB, N, gy1.same SB, hy, fun u2 t2 H2 M2 hu2 hg2 hd2 => ?_⟩
        have K2 := Md.tupK MB.2 M2
        have hB2 := K2 _ _ hB
        have gx2 := (gx1.same SB).keepP K2 (pl_gr x _ hx)
        refine ⟨(by show 1 ≤ sizeLine; decide), fun q3 H3 S3 h3 => ⟨qB, q3, _, _, rfl, rfl, S3 _ _ hB2, h3, (by show 4 + 1 ≤ sizeLine; decide), fun q4 H4 S4 h4 => ?_⟩⟩
        have S34 := S3.trans S4
        refine k (.ref q4) (.cut kk a x t2) H4 ((MB.trans M2).then S34) (.tup h4 (.cons (.str _) (.cons (.int _) (.cons (.int _) (.cons (gx2.same S34) (.cons (hu2.same S34) .nil)))))) ⟨hk, h1, h2, hx, hg2⟩ ?_
        show max (dpT x) (dpT t2) + 1 ≤ max (dpT x) (dpT y) + 1
        omega
 | leaf d =>
  obtain ⟨lf, rfl, hlf⟩ := hg
  obtain ⟨q, x, rfl, hq⟩ := word_of (show IsD H u (leafP lf) from hu)
  refine ⟨_, rfl, q, _, _, _, rfl, rfl, SqT.of hq, atI_nat (j := 0) rfl, rfl, _, rfl, iteC (by cases lf <;> rfl) ?_⟩
  refine ⟨_, rfl, _, rfl, p, v, b, m, sp, rfl, hp, hv, N, fun u1 H1 M1 hu1 => ?_⟩
  rcases hu1 with rfl | ⟨ws, hw, hrg⟩
  ·refine ⟨_, rfl, rfl, _, rfl, iteB (decide_eq_true rfl) ?_⟩
   refine ⟨Nat.zero_le _, fun q2 H2 S2 h2 => ⟨(by show 2 ≤ sizeLine; decide), fun q3 H3 S3 h3 => ?_⟩⟩
   exact k (.ref q3) (.leaf (leafP (.price []))) H3 (M1.then (S2.trans S3)) (.tup h3 (.cons (.str _) (.cons (.tup (S3 _ _ h2) .nil) .nil))) ⟨.price [], rfl, ⟨Nat.zero_le _, fun _ h => absurd h (by simp)⟩⟩ (Nat.le_refl _)
  ·obtain ⟨q1, x1, rfl, hq1, _⟩ := IsD.tup_of hw
   refine ⟨_, rfl, rfl, _, rfl, iteC (decide_eq_false fun z => by cases z) ?_⟩
   refine ⟨_, rfl, (by show 2 ≤ sizeLine; decide), fun qa Ha Sa ha => ?_⟩
   have Ma := M1.then Sa
   refine ⟨_, rfl, p, 10, rfl, Ma.2, by decide, by decide, fun r2 H2 r20 r21 M2 => ⟨_, _, rfl, rfl, ?_⟩⟩
   have K2 := Md.tupK Ma.2 M2
   have ha2 := K2 _ _ ha
   have hw2 := (hw.same Sa).keepP K2 (pl_rows _ _)
   have M2 := Ma.trans M2
   refine ⟨_, rfl, (by show 2 ≤ sizeLine; decide), fun qb Hb Sb hb => ⟨(by show 1 ≤ sizeLine; decide), fun qc Hc Sc hc => ⟨(by show 2 ≤ sizeLine; decide), fun qd Hd Sd hd => ⟨(by show 2 ≤ sizeLine; decide), fun qe hqe => ?_⟩⟩⟩⟩
   have S2d := Sb.trans (Sc.trans Sd)
   have Md' := M2.then S2d
   have nqe := Md'.2.ne hqe
   have Se : Same Hd (upd Hd qe (.lst [.ref qa, .ref qd])) := Same.put (Same.refl Hd) hqe
   have he : (upd Hd qe (.lst [.ref qa, .ref qd])) qe = some (.lst [.ref qa, .ref qd]) := upd_same
   generalize upd Hd qe (.lst [.ref qa, .ref qd]) = He at Se he ⊢
   have Me := Md'.then Se
   refine ⟨_, rfl, p, 2, rfl, Me.2, by decide, by decide, fun r3 H3 r30 r31 M3 => ?_⟩
   have K3 := Md.tupK Me.2 M3
   have he3 := M3.at he nqe
   have M3 := Me.trans M3
   have S2e := S2d.trans Se
   have h01 : r3 = 0 ∨ r3 = 1 := by omega
   have hw3 := (hw2.same S2e).keepP K3 (pl_rows _ _)
   rcases h01 with rfl | rfl
   ·refine ⟨qe, _, _, _, rfl, rfl, SqL.of he3, atI_nat (j := 0) rfl, ?_⟩
    exact k (.ref qa) (.leaf (leafP (.ring ws))) H3 M3 (.tup (K3 _ _ (S2e _ _ ha2)) (.cons (.str _) (.cons hw3 .nil))) ⟨.ring ws, rfl, hrg⟩ (Nat.le_refl _)
   ·refine ⟨qe, _, _, _, rfl, rfl, SqL.of he3, atI_nat (j := 1) rfl, ?_⟩
    have Sce := Sc.trans (Sd.trans Se)
    exact k (.ref qd) (.leaf (leafP (.price [(1 + r2, ws)]))) H3 M3 (.tup (K3 _ _ (Se _ _ hd)) (.cons (.str _) (.cons (.tup (K3 _ _ (Se _ _ (Sd _ _ hc))) (.cons (.tup (K3 _ _ (Sce _ _ hb)) (.cons (.int _) (.cons hw3 .nil))) .nil)) .nil))) ⟨.price [(1 + r2, ws)], rfl, ⟨by show 1 ≤ 40; decide, fun r hr => by rw [List.mem_singleton.mp hr]; exact ⟨hrg, by show -1000000000000 ≤ 1 + r2; omega, by show 1 + r2 ≤ 1000000000000; omega⟩⟩⟩ (Nat.le_refl _)
theorem ok_othL {f f1 f2 : Addr} {fd fd1 fd2 : FuncData} (T : Nm mg) (G1 : Fn K mg "_law_draw" sDrawD ["_law_deck", "_law_most"] f1 fd1) (G2 : Fn K mg "_law_ring" sRingD ["_law_deck", "_law_net_here"] f2 fd2) (F2 : FnOk P w K mg base CX0 3 f2 fd2 ["_law_deck", "_law_net_here"] spRingD) (G3 : Fn K mg "_law_other_leaf" sOthL ["_law_deck", "_law_net_here", "_law_tree_here"] f fd) : ∀ dd, FnOk P w K mg base CX0 (4 + dd) f fd ["_law_deck", "_law_net_here", "_law_tree_here"] (spOthL dd)
 | 0 => ok_othL0
 | dd + 1 => ok_othL1 T G1 G2 F2 G3 (ok_othL T G1 G2 F2 G3 dd)
end
end HN
namespace HN
open PySem L2 PyProof.Rows
abbrev sLeavesOf : Stmt := top 24
def bs0 (sp : List Sn) : List (Int × Int) := sp.map fun x => (x.l, x.o)
def spLeavesOf : Sp := fun vs H Q _ => ∃ (v u : V) (b m : Int) (sp : List Sn) (t : Tq), vs = [v, u] ∧ IsD H v (netP b m sp) ∧ IsD H u (treeD t) ∧ sp.length ≤ 40 ∧ CutsOk t (sp.map fun x => (x.l, x.o)) ∧ siz t ≤ 2000 ∧ ((lvs t (sp.map fun x => (x.l, x.o))).all fun p => leafB sp p.2) = true ∧
 ∀ q H', Same H H' → IsD H' (.ref q) (.tup ((lvs t (sp.map fun x => (x.l, x.o))).map plcD)) → Q (.ref q) H'
section
variable {P : Program} {w : World} {K : PySem.W.Frag} {mg : Str → Option Value} {base : Heap}
theorem scLeavesOf : FnScope ["net", "tree"] ["net", "tree"] (defScope sLeavesOf) := ⟨rfl, rfl, rfl, by decide +kernel, rfl, by decide +kernel, by decide +kernel⟩
theorem ok_leavesOf {f f1 : Addr} {fd fd1 : FuncData} (F : Fun K "leaves_of" "leaves_of" sLeavesOf f fd) (T : Nm mg) (G1 : Fn K mg "leaves_in" sLeavesIn ["net", "thing"] f1 fd1) (F1 : FnOk P w K mg base CX0 8 f1 fd1 ["net", "thing"] spLeavesIn) : FnOk P w K mg base CX0 9 f fd ["net", "tree"] spLeavesOf := by
 refine F.ok scLeavesOf (fun vs H Q E h => by obtain ⟨v, u, b, m, sp, t, rfl, _⟩ := h; rfl) (fun cdv A outer s H vs Q E hr h => ?_)
 obtain ⟨v, u, b, m, sp, t, rfl, hv, hu, few, ok, hsz, hall, k⟩ := h
 refine ⟨_, PSl.h (l_one ⟨(ps_ret (pe_callTy call_tupA rfl T.ttup boot_tuple (pa_cons (pc1 G1 F1 hr (pa_cons (pv 0) (pa_cons (pv 1) pa_nil))) pa_nil)))⟩), ?_⟩
 refine ⟨_, rfl, _, rfl, v, u, b, m, sp, t, rfl, hv, hu, few, ok, hsz, fun res H1 S1 hres => ?_⟩
 rw [if_pos hall] at hres
 obtain ⟨L, ys, rfl, hL0, hL, d⟩ := hres
 exact ⟨L, _, rfl, SqL.of hL, fun q H2 S2 h2 => k q H2 (S1.trans S2) (.tup h2 (d.same S2))⟩
end
end HN
namespace HN
open PySem L2 PyProof.Rows
abbrev sWithinL : Stmt := top 59
section
variable {P : Program} {w : World} {K : PySem.W.Frag} {mg : Str → Option Value} {base : Heap}
theorem scWithinL : FnScope ["_law_net_here", "_law_table", "_law_bounds_here", "_law_wait", "_law_span_here", "_law_pair"] ["_law_net_here", "_law_table", "_law_bounds_here"] (defScope sWithinL) := ⟨rfl, rfl, rfl, by decide +kernel, rfl, by decide +kernel, by decide +kernel⟩
theorem ok_withinL {f f1 : Addr} {fd fd1 : FuncData} (F : Fun K "_law_within" "_law_within" sWithinL f fd) (T2 : Nt mg) (G1 : Fn K mg "_law_waits" sWaitsN ["_law_net_here", "_law_table"] f1 fd1) : FnOk P w K mg base CX0 2 f fd ["_law_net_here", "_law_table", "_law_bounds_here"] spWithinL := by
 have F1 : FnOk P w K mg base CX0 1 f1 fd1 ["_law_net_here", "_law_table"] spWaitsN := ok_waitsN G1.F
 refine F.ok scWithinL (fun vs H Q E h => by obtain ⟨v, vb, u, b, m, sp, ts, bs, rfl, _⟩ := h; rfl) (fun cdv A outer s H vs Q E hr h => ?_)
 obtain ⟨v, vb, u, b, m, sp, ts, bs, rfl, hv, hu, R, hvb, lb, k⟩ := h
 obtain ⟨t, pn, ys, rfl, ht, hpn, hl, hy⟩ := netP_of hv
 obtain ⟨pb, yb, rfl, hpb, hlb, rb⟩ := rows_of hvb
 refine ⟨_, PSl.h (l_cons ⟨(ps_for PassesOwn.never rfl (pi_zip3 rfl T2.zip (pa_cons (pc1 G1 F1 hr (pa_cons (pv 0) (pa_cons (pv 1) pa_nil))) (pa_cons (pe_ix ix_tup (pv 0) pe_int (fun _ _ => rfl)) (pa_cons (pv 2) pa_nil)))) (pg_tup rfl (pgs_cons (pg_name (i := 3) scWithinL.nd rfl (Or.inl rfl)) (pgs_cons (pg_name (i := 4) scWithinL.nd rfl (Or.inl rfl)) (pgs_cons (pg_name (i := 5) scWithinL.nd rfl (Or.inl rfl)) pgs_nil)))) (pss_one (ps_if (pt_not (pt_chain op_le op_le (pe_ix ix_tup (pv 5) pe_int (fun _ _ => rfl)) (pe_op op_add (pe_ix ix_tup (pv 4) pe_int (fun _ _ => rfl)) (pv 3)) (pe_ix ix_tup (pv 5) pe_int (fun _ _ => rfl)))) (pss_one (ps_ret pe_bl)) pss_nil)))⟩
  (l_one ⟨(ps_ret pe_bl)⟩)), ?_⟩
 refine ⟨_, rfl, _, rfl, .ref t, u, b, m, sp, ts, rfl, hv, hu, R, fun L H1 S1 h1 => ?_⟩
 refine ⟨_, rfl, t, _, _, _, rfl, rfl, SqT.of (S1 _ _ ht), atI_nat (j := 2) rfl, _, rfl, ⟨true, L⟩, ⟨false, pn⟩, ⟨false, pb⟩, _, _, _, rfl, h1, S1 _ _ hpn, S1 _ _ hpb, ?_⟩
 refine for_zip3 (c1 := ⟨true, L⟩) (c2 := ⟨false, pn⟩) (c3 := ⟨false, pb⟩) (xs := (waitsM b ts sp).map V.int) (ys := ys) (zs := yb) (fun i σ H2 => Same H1 H2 ∧ (∀ j, j < i → (bs.getD j (0, 0)).1 ≤ layT b ts sp j ∧ layT b ts sp j ≤ (bs.getD j (0, 0)).2) ∧ ∃ v3 v4 v5, σ = [some (.ref t), some (.ref u), some (.ref pb), v3, v4, v5]) ⟨Same.refl H1, fun j hj => absurd hj (by omega), none, none, none, rfl⟩ (fun i σ H2 _ ⟨S2, _⟩ => ⟨S2 _ _ h1, S2 _ _ (S1 _ _ hpn), S2 _ _ (S1 _ _ hpb)⟩) (by unfold waitsM; rw [List.length_map, List.length_map, hl]) (by unfold waitsM; rw [List.length_map, List.length_map]; omega) ?_ ?_
 ·rintro i x y z pz σ H2 hx hy2 hz ⟨S2, hin, v3, v4, v5, rfl⟩ hpz
  have hi : i < sp.length := by rw [← hl]; exact (List.getElem?_eq_some_iff.mp hy2).1
  have hib : i < bs.length := by omega
  unfold waitsM at hx
  rw [List.getElem?_map, List.getElem?_map, gE hi] at hx
  cases hx
  obtain ⟨qs, e1, g1⟩ := hy i sp[i] (gE hi)
  rw [hy2] at e1
  cases e1
  obtain ⟨qb, e2, g2⟩ := rows_at rb (gE hib)
  rw [hz] at e2
  cases e2
  have ey : layT b ts sp i = sp[i].l + waitM b ts sp[i] := by unfold layT; rw [gE hi]
  have eb : bs.getD i (0, 0) = bs[i] := by rw [List.getD_eq_getElem?_getD, gE hib]; rfl
  have S3 : Same H1 (upd H2 pz (.tup [.int (waitM b ts sp[i]), .ref qs, .ref qb])) := S2.put hpz
  have h3 : (upd H2 pz (.tup [.int (waitM b ts sp[i]), .ref qs, .ref qb])) pz = some (.tup [.int (waitM b ts sp[i]), .ref qs, .ref qb]) := upd_same
  generalize upd H2 pz (.tup [.int (waitM b ts sp[i]), .ref qs, .ref qb]) = H3 at S3 h3 ⊢
  have gs3 := S3 _ _ (S1 _ _ g1)
  have gb3 := S3 _ _ (S1 _ _ g2)
  refine ⟨pz, _, rfl, SqT.of h3, rfl, _, _, rfl, _, _, rfl, _, _, rfl, rfl, ?_⟩
  refine ⟨_, rfl, qb, _, _, _, rfl, rfl, SqT.of gb3, atI_nat (j := 0) rfl, _, rfl, qs, _, _, _, rfl, rfl, SqT.of gs3, atI_nat (j := 2) rfl, _, rfl, _, _, rfl, rfl, _, _, rfl, rfl, _, rfl, ite2 (fun c1 => ?_) (fun c1 => ?_)⟩
  ·have c1 := of_decide_eq_true c1
   refine ⟨_, rfl, qb, _, _, _, rfl, rfl, SqT.of gb3, atI_nat (j := 1) rfl, _, _, rfl, rfl, _, rfl, ite2 (fun c2 => ?_) (fun c2 => ?_)⟩
   ·have c2 : ¬ (sp[i].l + waitM b ts sp[i] ≤ bs[i].2) := by simpa using c2
    have e : inbB (layT b ts sp) bs = false := out_no ⟨i, hib, by rw [eb, ey]; exact .inr (by omega)⟩
    have kk := k H3 (S1.trans S3)
    rw [e] at kk
    exact kk
   ·have c2 : sp[i].l + waitM b ts sp[i] ≤ bs[i].2 := by simpa using c2
    refine ⟨S3, fun j hj => ?_, _, _, _, rfl⟩
    by_cases ej : j = i
    ·subst ej
     rw [eb, ey]; exact ⟨c1, c2⟩
    ·exact hin j (by omega)
  ·have c1 : ¬ (bs[i].1 ≤ sp[i].l + waitM b ts sp[i]) := fun z => c1 (decide_eq_true z)
   refine ⟨_, rfl, iteB (by rfl) ?_⟩
   have e : inbB (layT b ts sp) bs = false := out_no ⟨i, hib, by rw [eb, ey]; exact .inl (by omega)⟩
   have kk := k H3 (S1.trans S3)
   rw [e] at kk
   exact kk
 ·rintro σ H2 ⟨S2, hin, v3, v4, v5, rfl⟩
  have e : inbB (layT b ts sp) bs = true := inb_iff.mpr fun j hj => hin j (by unfold waitsM; rw [List.length_map, List.length_map]; omega)
  have kk := k H2 (S1.trans S2)
  rw [e] at kk
  exact kk
end
end HN
namespace HN
open PySem L2 PyProof.Rows
abbrev sNear : Stmt := top 58
section
variable {P : Program} {w : World} {K : PySem.W.Frag} {mg : Str → Option Value} {base : Heap}
theorem scNear : FnScope ["_law_deck", "_law_net_here", "_law_hidden", "_law_tables", "_law_far", "_law_turn", "_law_k", "_law_time"] ["_law_deck", "_law_net_here", "_law_hidden"] (defScope sNear) := ⟨rfl, rfl, rfl, by decide +kernel, rfl, by decide +kernel, by decide +kernel⟩
theorem ok_near {f f1 f2 : Addr} {fd fd1 fd2 : FuncData} (F : Fun K "_law_near" "_law_near" sNear f fd) (T : Nm mg) (T2 : Nt mg) (G1 : Fn K mg "_law_draw" sDrawD ["_law_deck", "_law_most"] f1 fd1) (G2 : Fn K mg "_law_drawn_table" sDrawnT ["_law_deck", "_law_net_here"] f2 fd2) : FnOk P w K mg base CX0 3 f fd ["_law_deck", "_law_net_here", "_law_hidden"] spNear := by
 have F1 : FnOk P w K mg base CX0 1 f1 fd1 ["_law_deck", "_law_most"] spDrawD := ok_drawD G1.F T
 have F2 : FnOk P w K mg base CX0 2 f2 fd2 ["_law_deck", "_law_net_here"] spDrawnT := ok_drawnT G2.F T T2 G1
 refine F.ok scNear (fun vs H Q E h => by obtain ⟨p, t, hd, b, m, rest, hs, rfl, _⟩ := h; rfl) (fun cdv A outer s H vs Q E hr h => ?_)
 obtain ⟨p, t, hd, b, m, rest, hs, rfl, hp, ht, hhd, hlen, b1, b61, m1, m16, k⟩ := h
 have hr2 : Room 2 _ := hr
 have hr1 : Room 1 _ := hr.mono (by decide)
 have hb0 : (0 : Int) < b := by omega
 have lhs : hs.length ≤ 16 := by omega
 have nm : m.toNat = hs.length := by omega
 refine ⟨_, PSl.h (l_cons ⟨(ps_set (i := 3) scNear.nd rfl (Or.inl rfl) (pe_lst (pa_cons (pv 2) (pa_cons (pe_op op_catA (pe_callTy call_tupA rfl T.ttup boot_tuple (pa_cons (pe_comp (fr := ["_law_net_here", "_law_deck"]) (js := [1, 0]) rfl (pi_tup (pe_slice sl_tupN (pv 2) po_none (po_some pe_int))) (by decide +kernel) rfl (by decide +kernel) rfl (by show ∀ y : Str × NameKind, y ∈ _ → y.2 = NameKind.free → List.lookup y.1 (defScope sNear).names = some NameKind.cell; decide +kernel) (by decide +kernel) rfl (by decide +kernel) (fun _ _ _ _ _ => ⟨(pe_op op_mod (pe_op op_add (pe_op op_add (pv 0) pe_int) (pc1 G1 F1 hr1 (pa_cons (pv 2) (pa_cons (pe_ix (r := rIxT K) ix_tup (pv 1) pe_int (fun _ _ => rfl)) pa_nil)))) (pe_ix (r := rIxT K) ix_tup (pv 1) pe_int (fun _ _ => rfl))), pts_nil⟩)) pa_nil)) (pe_slice sl_tupN (pv 2) (po_some pe_int) po_none)) pa_nil))))⟩
  (l_cons ⟨(ps_set (i := 4) scNear.nd rfl (Or.inr rfl) (pc1 G1 F1 hr1 (pa_cons (pv 0) (pa_cons (pe_ix ix_tup (pv 1) pe_int (fun _ _ => rfl)) pa_nil))))⟩
  (l_cons ⟨(ps_expr (pe_bm PySem.F.plainAttrs_list PySem.F.slot_list_append PySem.F.type_list_append mt_append (pv 3) (pa_cons (pe_callTy call_tupA rfl T.ttup boot_tuple (pa_cons (pe_comp (fr := ["_law_far", "_law_net_here"]) (js := [4, 1]) rfl (pi_tup (pv 2)) (by decide +kernel) rfl (by decide +kernel) rfl (by show ∀ y : Str × NameKind, y ∈ _ → y.2 = NameKind.free → List.lookup y.1 (defScope sNear).names = some NameKind.cell; decide +kernel) (by decide +kernel) rfl (by decide +kernel) (fun _ _ _ _ _ => ⟨(pe_op op_mod (pe_op op_add (pv 0) (pv 1)) (pe_ix (r := rIxT K) ix_tup (pv 2) pe_int (fun _ _ => rfl))), pts_nil⟩)) pa_nil)) pa_nil)))⟩
  (l_cons ⟨(ps_for PassesOwn.never rfl (pi_range1 rfl T2.range (pa_cons pe_int pa_nil)) (pg_name (i := 5) scNear.nd rfl (Or.inl rfl)) (PSl.h (l_cons ⟨(ps_set (i := 6) scNear.nd rfl (Or.inl rfl) (pc1 G1 F1 hr1 (pa_cons (pv 0) (pa_cons (pe_ix ix_tup (pv 1) pe_int (fun _ _ => rfl)) pa_nil))))⟩
  (l_cons ⟨(ps_set (i := 7) scNear.nd rfl (Or.inl rfl) (pe_op op_mod (pe_op op_add (pe_ix ix_tup (pv 2) (pv 6) (fun _ _ => rfl)) (PEs.h (k_ix ix_list (k_lstF (a_cons k_int (a_cons ⟨pe_un un_neg pe_int⟩ (a_cons ⟨pc1 G1 F1 hr1 (pa_cons (pv 0) (pa_cons (pe_ix ix_tup (pv 1) pe_int (fun _ _ => rfl)) pa_nil))⟩ a_nil)))) ⟨pc1 G1 F1 hr1 (pa_cons (pv 0) (pa_cons pe_int pa_nil))⟩ (fun _ _ => rfl)))) (pe_ix ix_tup (pv 1) pe_int (fun _ _ => rfl))))⟩
  (l_one ⟨(ps_expr (pe_bm PySem.F.plainAttrs_list PySem.F.slot_list_append PySem.F.type_list_append mt_append (pv 3) (pa_cons (pe_op op_catA (pe_op op_catA (pe_slice sl_tupN (pv 2) po_none (po_some (pv 6))) (pe_tupA (pa_cons (pv 7) pa_nil))) (pe_slice sl_tupN (pv 2) (po_some (pe_op op_add (pv 6) pe_int)) po_none)) pa_nil)))⟩)))))⟩
  (l_one ⟨(ps_ret (pe_op op_catL (pv 3) (pe_lstA (pa_cons (pc1 G2 F2 hr2 (pa_cons (pv 0) (pa_cons (pv 1) pa_nil))) (pa_cons (pc1 G2 F2 hr2 (pa_cons (pv 0) (pa_cons (pv 1) pa_nil))) pa_nil)))))⟩))))), ?_⟩
 refine ⟨_, rfl, _, rfl, _, rfl, hd, _, rfl, hhd, fun qs HS SS hqs => ?_⟩
 rw [cutU (i := (1 : Int)) (n := 1) rfl] at hqs
 have MS := (Md.refl hp).then SS
 refine ⟨qs, rfl, ⟨_, SqT.of hqs⟩, ?_⟩
 refine comp_tup (K := K) (a := qs) (xs := (hs.map V.int).take 1) (fun i zs H2 => Md p HS H2 ∧ ∃ zi : List Int, zs = zi.map V.int ∧ zi.length = i) ⟨Md.refl MS.2, [], rfl, rfl⟩ (fun i zs H2 _ ⟨M2, zi, e, l⟩ => ⟨SqT.of (Md.tupK MS.2 M2 _ _ hqs), by rw [e, List.length_map, l]; exact Nat.le_refl _⟩) (by rw [List.length_take]; exact Nat.le_trans (Nat.min_le_left ..) (by decide)) (fun i x zs H2 hx ⟨M2, zi, e, l⟩ => ?_) (fun zs H2 ⟨M2, zi, e, l⟩ D hD => ?_)
 ·obtain ⟨n0, rfl⟩ : ∃ n0 : Int, x = .int n0 := by
   have := List.mem_of_mem_take (List.mem_of_getElem? hx)
   obtain ⟨n0, _, e⟩ := List.mem_map.mp this
   exact ⟨n0, e.symm⟩
  have K2 := Md.tupK MS.2 M2
  refine tNoIf_go ?_
  refine ⟨_, rfl, _, _, rfl, rfl, _, rfl, _, rfl, t, _, _, _, rfl, rfl, SqT.of (K2 _ _ (SS _ _ ht)), atI_nat (j := 0) rfl, p, b, rfl, M2.2, b1, b61, fun r H3 r0 r1 M3 => ?_⟩
  have M3' := M2.trans M3
  refine ⟨_, _, rfl, rfl, _, rfl, t, _, _, _, rfl, rfl, SqT.of (Md.tupK MS.2 M3' _ _ (SS _ _ ht)), atI_nat (j := 0) rfl, _, _, rfl, rfl, hb0, ?_⟩
  exact ⟨M3', zi ++ [(n0 + 1 + r) % b], by rw [e, List.map_append]; rfl, by rw [List.length_append, l]; rfl⟩
 subst e
 rw [List.length_take, List.length_map] at l
 have M2 := MS.trans M2
 refine ⟨D, _, rfl, SqL.of upd_same, fun q3 H3 S3 h3 => ?_⟩
 have S3 := (Same.put (o := .lst (zi.map V.int)) (Same.refl H2) hD).trans S3
 have M3 := M2.then S3
 have K3 := Md.tupK hp M3
 refine ⟨_, rfl, _, rfl, hd, _, rfl, K3 _ _ hhd, fun q4 H4 S4 h4 => ?_⟩
 rw [cutF (i := (1 : Int)) (n := 1) rfl] at h4
 refine ⟨q3, q4, _, _, rfl, rfl, S4 _ _ h3, h4, (by rw [List.length_map, List.length_drop, List.length_map]; exact Nat.le_trans (by omega : _ ≤ 1000) (by decide)), fun q5 H5 S5 h5 => ?_⟩
 have M5 := M3.then (S4.trans S5)
 have h5 : H5 q5 = some (.tup ((zi ++ hs.drop 1).map V.int)) := by rw [h5, List.map_append, List.map_drop]
 refine ⟨(by show 2 ≤ sizeLine; decide), fun L hL => ?_⟩
 have nLp := M5.2.ne hL
 have S6 : Same H5 (upd H5 L (.lst [.ref hd, .ref q5])) := Same.put (Same.refl H5) hL
 have h6 : (upd H5 L (.lst [.ref hd, .ref q5])) L = some (.lst [.ref hd, .ref q5]) := upd_same
 generalize upd H5 L (.lst [.ref hd, .ref q5]) = H6 at S6 h6 ⊢
 have M6 := M5.then S6
 have K6 := Md.tupK hp M6
 have hLH : H L = none := by
  cases z : H L with
  | none => rfl
  | some o => have := M5.1 L o nLp z; rw [hL] at this; cases this
 have T6 : TabsAt H6 hs.length [.ref hd, .ref q5] := fun u hu => by
  simp only [List.mem_cons, List.not_mem_nil, or_false] at hu
  rcases hu with rfl | rfl
  ·exact ⟨hd, hs, rfl, K6 _ _ hhd, rfl⟩
  ·exact ⟨q5, _, rfl, S6 _ _ h5, by rw [List.length_append, List.length_drop]; omega⟩
 clear hqs h3 h4 h5 S3 S4 S5 M5 M3 M2 MS SS hD
 refine ⟨_, rfl, _, rfl, t, _, _, _, rfl, rfl, SqT.of (K6 _ _ ht), atI_nat (j := 0) rfl, p, b, rfl, M6.2, b1, b61, fun far H7 _ _ M7 => ?_⟩
 have T7 := T6.keep (Md.tupK M6.2 M7)
 have h7 := M7.at h6 nLp
 have M7 := M6.trans M7
 have K7 := Md.tupK hp M7
 refine ⟨_, rfl, .inl ⟨rfl, _, SqL.of h7⟩, _, rfl, hd, rfl, ⟨_, SqT.of (K7 _ _ hhd)⟩, ?_⟩
 refine comp_tup (K := K) (a := hd) (xs := hs.map V.int) (fun i zs H2 => H2 = H7 ∧ ∃ zi : List Int, zs = zi.map V.int ∧ zi.length = i) ⟨rfl, [], rfl, rfl⟩ (fun i zs H2 _ ⟨e0, zi, e, l⟩ => ⟨by rw [e0]; exact SqT.of (K7 _ _ hhd), by rw [e, List.length_map, l]; exact Nat.le_refl _⟩) (by rw [List.length_map]; exact small_le (by omega)) (fun i x zs H2 hx ⟨e0, zi, e, l⟩ => ?_) (fun zs H2 ⟨e0, zi, e, l⟩ D hD => ?_)
 ·subst e0
  obtain ⟨n0, rfl⟩ : ∃ n0 : Int, x = .int n0 := by
   obtain ⟨n0, _, e⟩ := List.mem_map.mp (List.mem_of_getElem? hx)
   exact ⟨n0, e.symm⟩
  refine tNoIf_go ?_
  exact ⟨_, rfl, _, rfl, _, _, rfl, rfl, _, rfl, t, _, _, _, rfl, rfl, SqT.of (K7 _ _ ht), atI_nat (j := 0) rfl, _, _, rfl, rfl, hb0, rfl, zi ++ [(n0 + far) % b], by rw [e, List.map_append]; rfl, by rw [List.length_append, l]; rfl⟩
 subst e0 e
 rw [List.length_map] at l
 refine ⟨D, _, rfl, SqL.of upd_same, fun q8 H8 S8 h8 => ?_⟩
 have S8 := (Same.put (o := .lst (zi.map V.int)) (Same.refl H2) hD).trans S8
 refine ⟨L, _, _, rfl, rfl, S8 _ _ h7, (by show 2 < sizeLine; decide), ?_⟩
 have KU : TupK H8 (upd H8 L (.lst [.ref hd, .ref q5, .ref q8])) := tupK_upd (S8 _ _ h7)
 have M8 := M7.then S8
 have M9 : Md p H (upd H8 L (.lst [.ref hd, .ref q5, .ref q8])) := by
  refine ⟨fun q o hq e => ?_, ?_⟩
  ·rw [upd_ne (fun z => by rw [z, hLH] at e; cases e)]
   exact M8.1 q o hq e
  ·obtain ⟨k1, n1, z1, z2⟩ := M8.2
   exact ⟨k1, n1, by rw [upd_ne nLp.symm]; exact z1, z2⟩
 have T9 : TabsAt (upd H8 L (.lst [.ref hd, .ref q5, .ref q8])) hs.length ([.ref hd, .ref q5] ++ [.ref q8]) := fun u hu => by
  rcases List.mem_append.mp hu with hu | hu
  ·exact (((T7.same S8).keep KU)) u hu
  ·rw [List.mem_singleton.mp hu]
   exact ⟨q8, zi, rfl, KU _ _ h8, l⟩
 have h9 : (upd H8 L (.lst [.ref hd, .ref q5, .ref q8])) L = some (.lst ([.ref hd, .ref q5] ++ [.ref q8])) := upd_same
 have M9 : Md p H (upd H8 L (.lst ([.ref hd, .ref q5] ++ [.ref q8]))) := M9
 have T9 : TabsAt (upd H8 L (.lst ([.ref hd, .ref q5] ++ [.ref q8]))) hs.length ([.ref hd, .ref q5] ++ [.ref q8]) := T9
 have h9 : (upd H8 L (.lst ([.ref hd, .ref q5] ++ [.ref q8]))) L = some (.lst ([.ref hd, .ref q5] ++ [.ref q8])) := h9
 generalize upd H8 L (.lst ([.ref hd, .ref q5] ++ [.ref q8])) = H9 at M9 T9 h9 ⊢
 clear KU h8 S8 M8 M7 h7 T7 K7 T6 K6 h6 M6
 refine ⟨6, rfl, by decide, by decide, ?_⟩
 refine for_range (n := 6) (fun i σ H' => Md p H H' ∧ ∃ (us : List V) (v5 v6 v7 : Option V), σ = [some (.ref p), some (.ref t), some (.ref hd), some (.ref L), some (.int far), v5, v6, v7] ∧ H' L = some (.lst us) ∧ TabsAt H' hs.length us ∧ us.length = 3 + i) ⟨M9, _, none, none, none, rfl, h9, T9, rfl⟩ ?_ ?_
 ·rintro i σ HA hi ⟨MA, us, v5, v6, v7, rfl, hA, TA, lA⟩
  have KA := Md.tupK hp MA
  refine ⟨_, rfl, _, rfl, t, _, _, _, rfl, rfl, SqT.of (KA _ _ ht), atI_nat (j := 1) rfl, p, m, rfl, MA.2, m1, by omega, fun kk HB k0 k1 MB => ?_⟩
  have TB := TA.keep (Md.tupK MA.2 MB)
  have hB := MB.at hA nLp
  have MB := MA.trans MB
  have KB := Md.tupK hp MB
  refine ⟨_, rfl, _, rfl, hd, _, _, _, rfl, rfl, SqT.of (KB _ _ hhd), tm_at k0 (by omega), ?_⟩
  refine ⟨_, rfl, _, rfl, _, rfl, t, _, _, _, rfl, rfl, SqT.of (KB _ _ ht), atI_nat (j := 0) rfl, p, b, rfl, MB.2, b1, b61, fun r2 HC _ _ MC => ?_⟩
  have TC := TB.keep (Md.tupK MB.2 MC)
  have hC := MC.at hB nLp
  have MC := MB.trans MC
  refine ⟨(by show 3 ≤ sizeLine; decide), fun qe hqe => ?_⟩
  have nqe := MC.2.ne hqe
  have SD : Same HC (upd HC qe (.lst [.int 1, .int (-1), .int r2])) := Same.put (Same.refl HC) hqe
  have hD' : (upd HC qe (.lst [.int 1, .int (-1), .int r2])) qe = some (.lst [.int 1, .int (-1), .int r2]) := upd_same
  generalize upd HC qe (.lst [.int 1, .int (-1), .int r2]) = HD at SD hD' ⊢
  have MD := MC.then SD
  refine ⟨_, rfl, p, 3, rfl, MD.2, by decide, by decide, fun r3 HE r30 r31 ME => ?_⟩
  have TE := (TC.same SD).keep (Md.tupK MD.2 ME)
  have hE := ME.at (SD _ _ hC) nLp
  have hqE := ME.at hD' nqe
  have ME := MD.trans ME
  have KE := Md.tupK hp ME
  obtain ⟨vA, eA, mA⟩ := atI_in (xs := [V.int 1, V.int (-1), V.int r2]) r30 r31
  obtain ⟨d0, rfl⟩ : ∃ d0 : Int, vA = .int d0 := by
   simp only [List.mem_cons, List.not_mem_nil, or_false] at mA
   rcases mA with rfl | rfl | rfl
   ·exact ⟨_, rfl⟩
   ·exact ⟨_, rfl⟩
   ·exact ⟨_, rfl⟩
  refine ⟨qe, _, _, _, rfl, rfl, SqL.of hqE, eA, _, _, rfl, rfl, _, rfl, t, _, _, _, rfl, rfl, SqT.of (KE _ _ ht), atI_nat (j := 0) rfl, _, _, rfl, rfl, hb0, ?_⟩
  obtain ⟨kn, rfl⟩ := Int.eq_ofNat_of_zero_le k0
  have hkn : kn < hs.length := by omega
  refine ⟨_, rfl, .inl ⟨rfl, _, SqL.of hE⟩, _, rfl, _, rfl, _, rfl, hd, _, rfl, KE _ _ hhd, fun q1 J1 s1 g1 => ⟨_, rfl, (by show 1 ≤ sizeLine; decide), fun q2 J2 s2 g2 => ?_⟩⟩
  rw [cutU (n := kn) rfl] at g1
  refine ⟨q1, q2, _, _, rfl, rfl, s2 _ _ g1, g2, (by rw [List.length_take, List.length_map]; exact Nat.le_trans (by show min kn hs.length + 1 ≤ 1000; omega) (by decide)), fun q3 J3 s3 g3 => ?_⟩
  refine ⟨_, rfl, _, rfl, _, _, rfl, rfl, _, rfl, hd, _, rfl, s3 _ _ (s2 _ _ (s1 _ _ (KE _ _ hhd))), fun q4 J4 s4 g4 => ?_⟩
  rw [cutF (n := kn + 1) (by omega)] at g4
  refine ⟨q3, q4, _, _, rfl, rfl, s4 _ _ g3, g4, (by rw [List.length_append, List.length_take, List.length_drop, List.length_map]; exact Nat.le_trans (by show min kn hs.length + 1 + (hs.length - (kn + 1)) ≤ 1000; omega) (by decide)), fun q5' J5 s5 g5 => ?_⟩
  have sE5 := s1.trans (s2.trans (s3.trans (s4.trans s5)))
  refine ⟨L, us, _, rfl, rfl, sE5 _ _ hE, (Nat.lt_of_lt_of_le (by omega : us.length < 1000) (by decide : 1000 ≤ sizeLine)), ?_⟩
  have KU : TupK J5 (upd J5 L (.lst (us ++ [.ref q5']))) := tupK_upd (sE5 _ _ hE)
  have M5' := ME.then sE5
  refine ⟨⟨fun q o hq e => ?_, ?_⟩, us ++ [.ref q5'], _, _, _, rfl, upd_same, fun u hu => ?_, by rw [List.length_append, lA]; rfl⟩
  ·rw [upd_ne (fun z => by rw [z, hLH] at e; cases e)]
   exact M5'.1 q o hq e
  ·obtain ⟨k1', n1', z1, z2⟩ := M5'.2
   exact ⟨k1', n1', by rw [upd_ne nLp.symm]; exact z1, z2⟩
  ·rcases List.mem_append.mp hu with hu | hu
   ·exact ((TE.same sE5).keep KU) u hu
   ·rw [List.mem_singleton.mp hu]
    refine ⟨q5', hs.take kn ++ [(tm hs (kn : Nat) + d0) % b] ++ hs.drop (kn + 1), rfl, KU _ _ (by rw [g5, List.map_append, List.map_append, List.map_take, List.map_drop]; rfl), ?_⟩
    rw [List.length_append, List.length_append, List.length_take, List.length_drop]
    show min kn hs.length + 1 + (hs.length - (kn + 1)) = hs.length
    omega
 ·rintro σ HA ⟨MA, us, v5, v6, v7, rfl, hA, TA, lA⟩
  have KA := Md.tupK hp MA
  refine ⟨_, rfl, _, rfl, _, rfl, p, t, b, m, rest, rfl, MA.2, KA _ _ ht, b1, b61, by omega, m16, fun u1 ts1 HB MB h1 l1 _ => ?_⟩
  have TB := TA.keep (Md.tupK MA.2 MB)
  have hB := MB.at hA nLp
  have MB := MA.trans MB
  refine ⟨_, rfl, _, rfl, p, t, b, m, rest, rfl, MB.2, Md.tupK hp MB _ _ ht, b1, b61, by omega, m16, fun u2 ts2 HC MC h2 l2 _ => ?_⟩
  have KC := Md.tupK MB.2 MC
  have TC := TB.keep KC
  have hC := MC.at hB nLp
  have h1 := KC _ _ h1
  have MC := MB.trans MC
  refine ⟨(by show 2 ≤ sizeLine; decide), fun qn HD SD hn => ⟨L, qn, _, _, rfl, rfl, SD _ _ hC, hn, (by rw [lA]; show 3 + 6 + 2 ≤ sizeLine; decide), fun qR HR SR hR => ?_⟩⟩
  have SDR := SD.trans SR
  refine k qR _ HR (MC.then SDR) hR ?_ (by rw [List.length_append, lA]; show 3 + 6 + 2 ≤ 20; decide)
  rw [nm]
  intro u hu
  rcases List.mem_append.mp hu with hu | hu
  ·exact (TC.same SDR) u hu
  ·simp only [List.mem_cons, List.not_mem_nil, or_false] at hu
   rcases hu with rfl | rfl
   ·exact ⟨u1, ts1, rfl, SDR _ _ h1, by omega⟩
   ·exact ⟨u2, ts2, rfl, SDR _ _ h2, by omega⟩
end
end HN
namespace HN
open PySem L2 PyProof.Rows
abbrev sRightW : Stmt := top 60
section
variable {P : Program} {w : World} {K : PySem.W.Frag} {mg : Str → Option Value} {base : Heap}
theorem scRightW : FnScope ["_law_net_here", "_law_table", "_law_tree_here", "_law_found", "_law_homes"] ["_law_net_here", "_law_table", "_law_tree_here", "_law_found"] (defScope sRightW) := ⟨rfl, rfl, rfl, by decide +kernel, rfl, by decide +kernel, by decide +kernel⟩
theorem ok_rightW {f f1 f2 f3 : Addr} {fd fd1 fd2 fd3 : FuncData} (F : Fun K "_law_right" "_law_right" sRightW f fd) (T : Nm mg)
  (G1 : Fn K mg "wait_of" sWaitOf ["net", "table"] f1 fd1) (F1 : FnOk P w K mg base CX0 4 f1 fd1 ["net", "table"] spWaitOf)
  (G2 : Fn K mg "leaves_of" sLeavesOf ["net", "tree"] f2 fd2) (F2 : FnOk P w K mg base CX0 9 f2 fd2 ["net", "tree"] spLeavesOf)
  (G3 : Fn K mg "_law_within" sWithinL ["_law_net_here", "_law_table", "_law_bounds_here"] f3 fd3) (F3 : FnOk P w K mg base CX0 2 f3 fd3 ["_law_net_here", "_law_table", "_law_bounds_here"] spWithinL) : FnOk P w K mg base CX0 10 f fd ["_law_net_here", "_law_table", "_law_tree_here", "_law_found"] spRightW := by
 refine F.ok scRightW (fun vs H Q E h => by obtain ⟨v, tr, vf, u, b, m, sp, ts, t, ps, wl, bs, rows, rfl, _⟩ := h; rfl) (fun cdv A outer s H vs Q E hr h => ?_)
 obtain ⟨v, tr, vf, u, b, m, sp, ts, t, ps, wl, bs, rows, rfl, hv, hu, R, hw, htr, few, hcut, hsz, hall, hlv, hlen, hne, hvf, hle, hfil, k⟩ := h
 have hr9 : Room 9 _ := hr
 have hr4 : Room 4 _ := hr.mono (by decide)
 have hr2 : Room 2 _ := hr.mono (by decide)
 refine ⟨_, PSl.h (l_cons ⟨(ps_if (PW.pt (pw_or (pt_cmpR (op_eqD hr.units) (pv 3) (pe_tupA (pa_cons pe_str pa_nil)) (nomark _)) (pw_or1 (pt_cmpR op_gt (pe_ix ix_tup (pv 3) pe_int (fun _ _ => rfl)) (pc1 G1 F1 hr4 (pa_cons (pv 0) (pa_cons (pv 1) pa_nil))) (nomark _))))) (pss_one (ps_ret pe_bl)) pss_nil)⟩
  (l_cons ⟨(ps_setCT (iy := 4) (xs := ["_law_bounds_here", "_law_leaf_here"]) (fr := ["_law_net_here", "_law_table"]) (js := [0, 1]) scRightW.nd rfl (Or.inl rfl) rfl (pi_tup (pc1 G2 F2 hr9 (pa_cons (pv 0) (pa_cons (pv 2) pa_nil)))) (by decide +kernel) rfl (by decide +kernel) (by show ∀ y : Str × NameKind, y ∈ _ → y.2 = NameKind.free → List.lookup y.1 (defScope sRightW).names = some NameKind.cell; decide +kernel) rfl (by decide +kernel) (fun _ _ _ _ _ => pg_two rfl (by decide +kernel) rfl rfl) (fun _ _ _ _ _ => ⟨(pv 1), (pts_one (pt_val (pc1 G3 F3 hr2 (pa_cons (pv 2) (pa_cons (pv 3) (pa_cons (pv 0) pa_nil))))))⟩))⟩
  (l_one ⟨(ps_ret (pe_and (pe_cmpR op_eq (pe_callB call_len_seq rfl T.len PySem.boot_len (pa_cons (pv 4) pa_nil)) pe_int (nomark _)) (pe_one (pe_cmpR op_eq (pe_ix ix_tup (pe_ix ix_list (pv 4) pe_int (fun _ _ => rfl)) pe_int (fun _ _ => rfl)) pe_str (nomark _)))))⟩))), ?_⟩
 obtain ⟨w0, wr, ew⟩ : ∃ w0 wr, wl = w0 :: wr := by
  cases wl with
  | nil => exact absurd rfl hne
  | cons w0 wr => exact ⟨w0, wr, rfl⟩
 have hvf : IsD H vf (.tup [.str "wait", .int (leastI wl)]) := by rw [ew] at hvf ⊢; exact hvf
 obtain ⟨qf, xf, rfl, hqf, rf⟩ := hvf.tup_of
 cases rf with
 | cons g0 gr => cases gr with
  | cons g1 gr =>
   cases gr
   cases g0
   cases g1
   refine ⟨_, rfl, (by show 1 ≤ sizeLine; decide), fun qn H1 S1 hn' => ?_⟩
   refine ⟨_, [.str "none"], hvf.same S1, .tup hn' (.cons (.str _) .nil), rfl, rfl, by simp [deps, dep], _, rfl, iteC (by rfl) ?_⟩
   refine ⟨_, rfl, qf, _, _, _, rfl, rfl, SqT.of (S1 _ _ hqf), atI_nat (j := 1) rfl, _, rfl, _, rfl, v, u, b, m, sp, ts, rfl, hv.same S1, S1 _ _ hu, R, hw, fun H2 S2 => ?_⟩
   refine ⟨_, _, rfl, rfl, _, rfl, iteC (decide_eq_false (by omega)) ?_⟩
   have S02 := S1.trans S2
   refine ⟨_, rfl, _, rfl, v, tr, b, m, sp, t, rfl, hv.same S02, htr.same S02, few, hcut, by omega, hall, fun qL H3 S3 hL => ?_⟩
   have S03 := S02.trans S3
   rw [hlv, List.map_map] at hL
   obtain ⟨qL', yl, eq, hqL, rl⟩ := hL.tup_of
   cases eq
   have ly : yl.length = ps.length := by rw [rl.length, List.length_map]
   have lps : ps.length ≤ 400 := by
    have := lvs_siz t (sp.map fun x => (x.l, x.o))
    rw [hlv, List.length_map] at this
    omega
   refine ⟨qL, rfl, ⟨_, SqT.of hqL⟩, ?_⟩
   refine compT_tup (K := K) (a := qL) (xs := yl) (fun i zs H4 => Same H3 H4 ∧ zs.length ≤ i ∧ IsDs H4 zs (((ps.take i).filter fun p => inbB (layT b ts sp) p.1).map fun p => leafP p.2)) ⟨Same.refl H3, Nat.le_refl _, .nil⟩ (fun i zs H4 hi z => ⟨SqT.of (z.1 _ _ hqL), z.2.1⟩) (by rw [ly]; exact small_le (by omega)) (fun i y zs H4 hy z => ?_) (fun zs H4 z D hD => ?_)
   ·obtain ⟨S4, hz1, hz2⟩ := z
    have hi : i < ps.length := by rw [← ly]; exact (List.getElem?_eq_some_iff.mp hy).1
    obtain ⟨d, hd, dy⟩ := rl.get hy
    rw [List.getElem?_map, gE hi] at hd
    cases hd
    obtain ⟨q, vb, vl, rfl, hq, hb, hl⟩ := plc_of dy
    have et : (ps.take (i + 1)).filter (fun p => inbB (layT b ts sp) p.1) = (ps.take i).filter (fun p => inbB (layT b ts sp) p.1) ++ (if inbB (layT b ts sp) ps[i].1 = true then [ps[i]] else []) := by
     rw [List.take_add_one, gE hi, List.filter_append]
     congr 1
     show List.filter _ [ps[i]] = _
     rw [List.filter_cons]; rfl
    refine ⟨q, vb, vl, rfl, S4 _ _ hq, ?_⟩
    refine ⟨_, rfl, _, rfl, _, rfl, v, vb, u, b, m, sp, ts, ps[i].1, rfl, (hv.same S03).same S4, S4 _ _ (S03 _ _ hu), R, hb.same S4, hlen _ (List.getElem_mem hi), fun H5 S5 => ⟨_, rfl, ?_⟩⟩
    rw [et]
    refine ite2 (fun c => ?_) (fun c => ?_)
    ·refine ⟨_, rfl, S4.trans S5, by rw [List.length_append]; show zs.length + 1 ≤ i + 1; omega, ?_⟩
     rw [if_pos c, List.map_append]
     exact (hz2.same S5).append (.cons (hl.same (S4.trans S5)) .nil)
    ·refine ⟨S4.trans S5, by omega, ?_⟩
     rw [if_neg c, List.append_nil]
     exact hz2.same S5
   ·obtain ⟨S4, hz1, hz2⟩ := z
    rw [ly, List.take_length, hfil] at hz2
    have S5 : Same H4 (upd H4 D (.lst zs)) := Same.put (Same.refl H4) hD
    have hD5 : (upd H4 D (.lst zs)) D = some (.lst zs) := upd_same
    generalize upd H4 D (.lst zs) = H5 at S5 hD5 ⊢
    cases hz2 with
    | cons p0 pr =>
     cases pr
     obtain ⟨ql, xl, rfl, hql⟩ := word_of (p0.same S5)
     refine ⟨_, rfl, _, _, rfl, .inl (SqL.of hD5), rfl, _, rfl, iteB (by rfl) ?_⟩
     refine ⟨_, rfl, D, _, _, _, rfl, rfl, SqL.of hD5, atI_nat (j := 0) rfl, ql, _, _, _, rfl, rfl, SqT.of hql, atI_nat (j := 0) rfl, rfl, ?_⟩
     exact k H5 (S03.trans (S4.trans S5))
end
end HN
namespace HN
open PySem L2 PyProof.Rows
abbrev sLaw : Stmt := top 61
def spLaw (K : PySem.W.Frag) : Sp := fun vs H Q _ => ∃ (a : Addr) (ns : List Int), vs = [.ref a] ∧ SqL K H a (ns.map V.int) ∧ ns.length ≤ 63 ∧ ∀ H', Q (.bl true) H'
theorem neO_go {x y : V} {H : Hp} {B : VK} (h : (x = .non ∧ y = .non) ∨ ∃ ds, IsD H x (.tup ds) ∧ IsD H y (.tup ds) ∧ pls ds = true ∧ deps ds < 60 ∧ eqDs ds ds = true) (k : B (.bl false) H) : rNe x y H B ∨ ∃ ds es, IsD H x (.tup ds) ∧ IsD H y (.tup es) ∧ pls ds = true ∧ pls es = true ∧ deps ds < 60 ∧ B (.bl (!(eqDs ds es))) H := by
 rcases h with ⟨rfl, rfl⟩ | ⟨ds, h1, h2, h3, h4, h5⟩
 ·exact .inl ⟨rfl, by rw [decide_eq_true rfl]; exact k⟩
 ·exact .inr ⟨ds, ds, h1, h2, h3, h3, h4, by rw [h5]; exact k⟩
theorem gr_hd {sp : List Sn} : ∀ (t : Tq) (bs : List (Int × Int)), GrT sp t bs → HdsOk t
 | .leaf d, _, h => by obtain ⟨lf, rfl, _⟩ := h; exact leaf_hd lf
 | .cut k a x y, bs, h => ⟨gr_hd x _ h.2.2.2.1, gr_hd y _ h.2.2.2.2⟩
theorem gr_ins {sp : List Sn} : ∀ (t : Tq) (bs : List (Int × Int)), GrT sp t bs → InsT t bs
 | .leaf d, _, h => trivial
 | .cut k a x y, bs, h => ⟨h.1, gr_ins x _ h.2.2.2.1, gr_ins y _ h.2.2.2.2⟩
section
variable {P : Program} {w : World} {K : PySem.W.Frag} {mg : Str → Option Value} {base : Heap}
theorem scLaw : FnScope ["_law_script", "_law_deck", "_law_net_here", "_law_hidden", "_law_tree_here", "_law_found", "_law_table"] ["_law_script"] (defScope sLaw) := ⟨rfl, rfl, rfl, by decide +kernel, rfl, by decide +kernel, by decide +kernel⟩
theorem ok_law {f f1 f2 f3 f4 f5 f6 f7 f8 f9 fA fB fC : Addr} {fd fd1 fd2 fd3 fd4 fd5 fd6 fd7 fd8 fd9 fdA fdB fdC : FuncData} (F : Fun K "law" "law" sLaw f fd) (T : Nm mg) (T2 : Nt mg)
  (G1 : Fn K mg "_law_numbers" sNums ["_law_script", "_law_most"] f1 fd1)
  (G2 : Fn K mg "_law_draw" sDrawD ["_law_deck", "_law_most"] f2 fd2)
  (G3 : Fn K mg "_law_net" sNetD ["_law_deck", "_law_most", "_law_beats_here", "_law_size", "_law_great"] f3 fd3) (F3 : FnOk P w K mg base CX0 3 f3 fd3 ["_law_deck", "_law_most", "_law_beats_here", "_law_size", "_law_great"] spNetD)
  (G4 : Fn K mg "_law_bounds" sBoundsF ["_law_net_here"] f4 fd4)
  (G5 : Fn K mg "_law_tree" sTreeL ["_law_deck", "_law_net_here", "_law_bounds_here", "_law_deep"] f5 fd5) (F5 : FnOk P w K mg base CX0 11 f5 fd5 ["_law_deck", "_law_net_here", "_law_bounds_here", "_law_deep"] (spTreeL 7))
  (G6 : Fn K mg "_law_other_leaf" sOthL ["_law_deck", "_law_net_here", "_law_tree_here"] f6 fd6) (F6 : FnOk P w K mg base CX0 11 f6 fd6 ["_law_deck", "_law_net_here", "_law_tree_here"] (spOthL 7))
  (G7 : Fn K mg "shown_by" sShown ["net", "thing"] f7 fd7) (F7 : FnOk P w K mg base CX0 9 f7 fd7 ["net", "thing"] spShown)
  (G8 : Fn K mg "_law_shown" sShownL ["_law_net_here", "_law_tree_here"] f8 fd8) (F8 : FnOk P w K mg base CX0 10 f8 fd8 ["_law_net_here", "_law_tree_here"] (spShownL 7))
  (G9 : Fn K mg "_law_near" sNear ["_law_deck", "_law_net_here", "_law_hidden"] f9 fd9) (F9 : FnOk P w K mg base CX0 3 f9 fd9 ["_law_deck", "_law_net_here", "_law_hidden"] spNear)
  (GA : Fn K mg "fits" sFits ["net", "table"] fA fdA) (FA : FnOk P w K mg base CX0 5 fA fdA ["net", "table"] spFits)
  (GB : Fn K mg "_law_fits" sFitsN ["_law_net_here", "_law_table"] fB fdB) (FB : FnOk P w K mg base CX0 2 fB fdB ["_law_net_here", "_law_table"] spFits)
  (GC : Fn K mg "_law_right" sRightW ["_law_net_here", "_law_table", "_law_tree_here", "_law_found"] fC fdC) (FC : FnOk P w K mg base CX0 10 fC fdC ["_law_net_here", "_law_table", "_law_tree_here", "_law_found"] spRightW) : FnOk P w K mg base CX0 12 f fd ["_law_script"] (spLaw K) := by
 have F1 : FnOk P w K mg base CX0 1 f1 fd1 ["_law_script", "_law_most"] (spNums K) := ok_nums G1.F T T2
 have F2 : FnOk P w K mg base CX0 1 f2 fd2 ["_law_deck", "_law_most"] spDrawD := ok_drawD G2.F T
 have F4 : FnOk P w K mg base CX0 1 f4 fd4 ["_law_net_here"] spFirst := ok_boundsF G4.F T
 refine F.ok scLaw (fun vs H Q E h => by obtain ⟨a, ns, rfl, _⟩ := h; rfl) (fun cdv A outer s H vs Q E hr h => ?_)
 obtain ⟨a, ns, rfl, ha, hn, k⟩ := h
 have hr1 : Room 1 _ := hr.mono (by decide)
 have hr2 : Room 2 _ := hr.mono (by decide)
 have hr3 : Room 3 _ := hr.mono (by decide)
 have hr5 : Room 5 _ := hr.mono (by decide)
 have hr9 : Room 9 _ := hr.mono (by decide)
 have hr10 : Room 10 _ := hr.mono (by decide)
 have hr11 : Room 11 _ := hr
 refine ⟨_, PSl.h (l_cons ⟨(ps_set (i := 1) scLaw.nd rfl (Or.inl rfl) (pc1 G1 F1 hr1 (pa_cons (pv 0) (pa_cons pe_int pa_nil))))⟩
  (l_cons ⟨(ps_asg (pc1 G3 F3 hr3 (pa_cons (pv 1) (pa_cons pe_int (pa_cons pe_int (pa_cons pe_int (pa_cons (pe_op op_pow pe_int pe_int) pa_nil)))))) (pg_tup rfl (pgs_cons (pg_name (i := 2) scLaw.nd rfl (Or.inl rfl)) (pgs_cons (pg_name (i := 3) scLaw.nd rfl (Or.inl rfl)) pgs_nil))))⟩
  (l_cons ⟨(ps_set (i := 4) scLaw.nd rfl (Or.inl rfl) (pc1 G5 F5 hr11 (pa_cons (pv 1) (pa_cons (pv 2) (pa_cons (pc1 G4 F4 hr1 (pa_cons (pv 2) pa_nil)) (pa_cons pe_int pa_nil))))))⟩
  (l_cons ⟨(ps_cutK (ps_if (pt_cmpR op_eq (pc1 G2 F2 hr1 (pa_cons (pv 1) (pa_cons pe_int pa_nil))) pe_int (nomark _)) (pss_one (ps_set (i := 4) scLaw.nd rfl (Or.inl rfl) (pc1 G6 F6 hr11 (pa_cons (pv 1) (pa_cons (pv 2) (pa_cons (pv 4) pa_nil)))))) pss_nil))⟩
  (l_cons ⟨(ps_set (i := 5) scLaw.nd rfl (Or.inl rfl) (pc1 G7 F7 hr9 (pa_cons (pv 2) (pa_cons (pv 4) pa_nil))))⟩
  (l_cons ⟨(ps_if (pt_cmpR (op_neO hr.units) (pv 5) (pc1 G8 F8 hr10 (pa_cons (pv 2) (pa_cons (pv 4) pa_nil))) (nomark _)) (pss_one (ps_ret pe_bl)) pss_nil)⟩
  (l_cons ⟨(ps_for PassesOwn.never rfl (pi_list (pc1 G9 F9 hr3 (pa_cons (pv 1) (pa_cons (pv 2) (pa_cons (pv 3) pa_nil))))) (pg_name (i := 6) scLaw.nd rfl (Or.inl rfl)) (PSl.h (l_cons ⟨(ps_if (pt_cmpR op_ne (pc1 GA FA hr5 (pa_cons (pv 2) (pa_cons (pv 6) pa_nil))) (pc1 GB FB hr2 (pa_cons (pv 2) (pa_cons (pv 6) pa_nil))) (nomark _)) (pss_one (ps_ret pe_bl)) pss_nil)⟩
  (l_one ⟨(ps_if (PW.pt (pw_and (pt_cmpR op_notN (pv 5) pe_non (nomark _)) (pw_and (pt_val (pc1 GB FB hr2 (pa_cons (pv 2) (pa_cons (pv 6) pa_nil)))) (pw_and1 (pt_not (pt_val (pc1 GC FC hr10 (pa_cons (pv 2) (pa_cons (pv 6) (pa_cons (pv 4) (pa_cons (pv 5) pa_nil))))))))))) (pss_one (ps_ret pe_bl)) pss_nil)⟩))))⟩
  (l_one ⟨(ps_ret pe_bl)⟩)))))))), ?_⟩
 refine ⟨_, rfl, a, ns, 600, rfl, ha, by decide, by decide, fun p H1 H2 S1 hp1 M2 => ?_⟩
 refine ⟨_, rfl, _, _, rfl, rfl, ⟨by decide, by decide, by decide⟩, p, 8, 60, 16, _, rfl, M2.2, by decide, by decide, by decide, by decide, by decide, by decide, by decide, by decide, fun t v hd b m sp hs H6 M6 h6 hv N hb33 hh hlen hall => ?_⟩
 have few := N.few
 have hb0 : 0 < b := N.b1
 have hb61 : b < 10 ^ 61 := Int.lt_of_le_of_lt hb33 (by decide)
 have m1 := N.m1
 have m16 := N.m2
 have hdk := M6.2
 clear M6 M2 S1 hp1 hall
 refine ⟨t, _, rfl, SqT.of h6, rfl, _, _, rfl, _, _, rfl, rfl, ?_⟩
 clear h6
 obtain ⟨bs0, hbs0⟩ : ∃ bs0, bs0 = sp.map fun x => (x.l, x.o) := ⟨_, rfl⟩
 have lb0 : bs0.length = sp.length := by rw [hbs0, List.length_map]
 have bsu : BsU bs0 := fun q hq => by
  rw [hbs0] at hq
  obtain ⟨z, hz, rfl⟩ := List.mem_map.mp hq
  exact ⟨(N.all z hz).l0, (N.all z hz).lo, (N.all z hz).o60⟩
 refine ⟨_, rfl, _, rfl, _, rfl, v, b, m, sp, rfl, hv, by omega, fun ub H7 S7 hub => ?_⟩
 rw [← hbs0] at hub
 refine ⟨p, v, ub, 6, b, m, sp, bs0, rfl, by decide, by decide, hdk.same S7, hv.same S7, N, hb33, hub, lb0, bsu, fun u0 t0 H8 M8 hu0 hd0 hdp0 => ?_⟩
 have K8 := Md.tupK (hdk.same S7) M8
 have hv8 := netP_keep K8 (hv.same S7)
 have hh8 := K8 _ _ (S7 _ _ hh)
 have hdk8 := M8.2
 have hg0 := gr_of t0 bs0 hd0
 clear M8 hub hdk hv hd0 hh K8
 refine ⟨fun σ' H' => ∃ (u : V) (t : Tq), σ' = [some (.ref a), some (.ref p), some v, some (.ref hd), some u, none, none] ∧ Dk p H' ∧ IsD H' v (netP b m sp) ∧ H' hd = some (.tup (hs.map V.int)) ∧ IsD H' u (treeD t) ∧ GrT sp t bs0 ∧ dpT t ≤ 6, ?_, ?_⟩
 rotate_left
 ·refine ⟨_, rfl, p, 4, rfl, hdk8, by decide, by decide, fun r5 H9 _ _ M9 => ⟨rfl, _, rfl, ?_⟩⟩
  have K9 := Md.tupK hdk8 M9
  have hv9 := netP_keep K9 hv8
  have hu9 := hu0.keepP K9 (pl_gr t0 _ hg0)
  refine ite2 (fun _ => ?_) (fun _ => ⟨u0, t0, rfl, M9.2, hv9, K9 _ _ hh8, hu9, hg0, by omega⟩)
  refine ⟨_, rfl, _, rfl, _, rfl, p, v, u0, b, m, sp, bs0, t0, rfl, by omega, M9.2, hv9, N, hu9, hg0, fun u' t' HA MA hu' hg' hd' => ?_⟩
  have KA := Md.tupK M9.2 MA
  exact ⟨u', t', rfl, MA.2, netP_keep KA hv9, KA _ _ (K9 _ _ hh8), hu', hg', by omega⟩
 clear hdk8 hv8 hu0 hg0 hdp0 hh8
 rintro σ' H9 ⟨u, tr, rfl, hdk9, hv9, hh9, hu9, hg, hdp⟩
 obtain ⟨kc, ka⟩ := gr_cuts tr bs0 hg
 have hsz := siz_dp tr
 have h64 : 2 ^ (dpT tr + 1) ≤ 2 ^ 7 := Nat.pow_le_pow_right (by decide) (by omega)
 obtain ⟨ps, hps, pok⟩ := gr_ps tr bs0 hg lb0 bsu
 have hplok : ∀ x ∈ ps, PlOk sp.length x := fun x hx => lfG_plok (pok x hx).1 (pok x hx).2.1 (pok x hx).2.2
 have hins := gr_ins tr bs0 hg
 have hhd := gr_hd tr bs0 hg
 have hplt := pl_gr tr bs0 hg
 rw [hbs0] at kc ka hps hins hg
 refine ⟨_, rfl, _, rfl, v, u, b, m, sp, tr, ps, rfl, ⟨hv9, hu9, hb0, hb61, few, N.ws, by omega, hps, hplok⟩, kc, ka, fun v5 HA SA aA => ?_⟩
 refine ⟨_, rfl, _, rfl, _, rfl, v, u, b, m, sp, tr, ps, rfl, ⟨hv9.same SA, hu9.same SA, hb0, hb61, few, N.ws, by omega, hps, hplok⟩, by omega, hhd, hins, fun v6 HB SB aB => ?_⟩
 have SAB := SA.trans SB
 obtain ⟨wl, hwl⟩ : ∃ wl, wl = worthsM b sp ps := ⟨_, rfl⟩
 have shw : ∃ ds, shwD wl = .tup ds ∧ pls ds = true ∧ deps ds < 60 ∧ eqDs ds ds = true := shw_tup wl
 unfold ShAns at aA aB
 rw [← hwl] at aA aB
 have hvB := hv9.same SAB
 have huB := hu9.same SAB
 have hhB := SAB _ _ hh9
 have hdkB := hdk9.same SAB
 have found : (v5 = .non ∧ ¬ ps.all (rightP b) = true) ∨ (ps.all (rightP b) = true ∧ IsD HB v5 (shwD wl)) := by
  by_cases hr' : ps.all (rightP b) = true
  ·rw [if_pos hr'] at aA
   exact .inr ⟨hr', aA.same SB⟩
  ·rw [if_neg hr'] at aA
   exact .inl ⟨aA, hr'⟩
 have same : (v5 = .non ∧ v6 = .non) ∨ ∃ ds, IsD HB v5 (.tup ds) ∧ IsD HB v6 (.tup ds) ∧ pls ds = true ∧ deps ds < 60 ∧ eqDs ds ds = true := by
  by_cases hr' : ps.all (rightP b) = true
  ·rw [if_pos hr'] at aA aB
   obtain ⟨ds, e, e1, e2, e3⟩ := shw
   rw [e] at aA aB
   exact .inr ⟨ds, aA.same SB, aB, e1, e2, e3⟩
  ·rw [if_neg hr'] at aA aB
   exact .inl ⟨aA, aB⟩
 refine neO_go same ⟨_, rfl, iteC (by rfl) ?_⟩
 clear same aA aB
 clear hv9 hu9 hh9 hdk9 SA SB SAB
 obtain ⟨tn, pn, yn, rfl, htn, hpn, hln, hyn⟩ := netP_of hvB
 refine ⟨_, rfl, _, rfl, _, rfl, p, tn, hd, b, m, _, hs, rfl, hdkB, htn, hhB, hlen, hb0, hb61, m1, m16, fun L us HC MC hL hT _ => ?_⟩
 have KC := Md.tupK hdkB MC
 have hvC := netP_keep KC hvB
 have huC := huB.keepP KC hplt
 have foundC : (v5 = .non ∧ ¬ ps.all (rightP b) = true) ∨ (ps.all (rightP b) = true ∧ IsD HC v5 (shwD wl)) := by
  rcases found with z | ⟨z1, z2⟩
  ·exact .inl z
  ·refine .inr ⟨z1, z2.keepP KC ?_⟩
   obtain ⟨ds, e, e1, _⟩ := shw
   rw [e]; unfold pl; exact e1
 clear found hvB huB hhB hdkB MC
 refine ⟨L, rfl, ⟨_, SqL.of hL⟩, ?_⟩
 refine for_list (K := K) (a := L) (xs := us) (fun j σ HD => Same HC HD ∧ ∃ v7, σ = [some (.ref a), some (.ref p), some (.ref tn), some (.ref hd), some u, some v5, v7]) ⟨Same.refl HC, none, rfl⟩ (fun j σ HD _ ⟨S, _⟩ => SqL.of (S _ _ hL)) ?_ ?_
 ·rintro j x σ HD hx ⟨SD, v7, rfl⟩
  obtain ⟨q, ts, rfl, hq, hts⟩ := hT x (List.mem_of_getElem? hx)
  have R : Rdy b ts sp := N.rdy (by omega)
  refine ⟨_, rfl, _, rfl, .ref tn, q, b, m, sp, ts, rfl, hvC.same SD, SD _ _ hq, R, fun HE SE => ?_⟩
  have SDE := SD.trans SE
  refine ⟨_, rfl, _, rfl, .ref tn, q, b, m, sp, ts, rfl, hvC.same SDE, SDE _ _ hq, R, fun HF SF => ?_⟩
  have SDF := SDE.trans SF
  refine ⟨rfl, _, rfl, iteC (by rw [decide_eq_true rfl]; rfl) ?_⟩
  rcases foundC with ⟨rfl, _⟩ | ⟨hright, hsh⟩
  ·exact ⟨_, rfl, rfl, _, rfl, iteC (by rfl) ⟨SDF, _, rfl⟩⟩
  ·obtain ⟨ds, e, e1, e2, e3⟩ := shw
   obtain ⟨q5, x5, rfl, hq5, _⟩ := IsD.tup_of (show IsD HC v5 (.tup ds) by rw [← e]; exact hsh)
   refine ⟨_, rfl, rfl, _, rfl, iteB (by rfl) ?_⟩
   refine ⟨_, rfl, _, rfl, .ref tn, q, b, m, sp, ts, rfl, hvC.same SDF, SDF _ _ hq, R, fun HG SG => ⟨_, rfl, ite2 (fun hf => ?_) (fun _ => ⟨SDF.trans SG, _, rfl⟩)⟩⟩
   have SDG := SDF.trans SG
   have hokp : ∀ x ∈ ps, x.1.length = sp.length ∧ LfOk b sp x.1 x.2 := fun x hx => ⟨(pok x hx).1, lfok_of (pok x hx).2.2 (List.all_eq_true.mp hright x hx)⟩
   obtain ⟨ne, le⟩ := shown_weak hb0 hf hps hokp
   rw [← hwl] at ne le
   obtain ⟨bs, rows, hfil⟩ := home_price hb0 hf hg hps hokp
   refine ⟨_, rfl, _, rfl, _, rfl, _, rfl, .ref tn, u, .ref q5, q, b, m, sp, ts, tr, ps, wl, bs, rows, rfl, hvC.same SDG, SDG _ _ hq, R, N.ws, huC.same SDG, few, kc, by omega, ka, hps, fun x hx => (pok x hx).1, ne, hsh.same SDG, le, hfil, fun HI SI => ?_⟩
   exact ⟨_, rfl, iteC (by rfl) ⟨SDG.trans SI, _, rfl⟩⟩
 ·rintro σ HD ⟨SD, v7, rfl⟩
  exact k HD
end
end HN
namespace HN
open PySem L2 PyProof.Rows
theorem args1 {P : List Value → Prop} (h : ∀ x0, P [x0]) : ∀ us : List Value, us.length = 1 → P us := by
 intro us hl
 obtain _ | ⟨x0, us⟩ := us <;> try (cases hl; done)
 obtain _ | ⟨y, us⟩ := us
 ·exact h x0
 ·exact absurd hl (by simp only [List.length_cons]; omega)
theorem args2 {P : List Value → Prop} (h : ∀ x0 x1, P [x0, x1]) : ∀ us : List Value, us.length = 2 → P us := by
 intro us hl
 obtain _ | ⟨x0, us⟩ := us <;> try (cases hl; done)
 obtain _ | ⟨x1, us⟩ := us <;> try (cases hl; done)
 obtain _ | ⟨y, us⟩ := us
 ·exact h x0 x1
 ·exact absurd hl (by simp only [List.length_cons]; omega)
theorem args3 {P : List Value → Prop} (h : ∀ x0 x1 x2, P [x0, x1, x2]) : ∀ us : List Value, us.length = 3 → P us := by
 intro us hl
 obtain _ | ⟨x0, us⟩ := us <;> try (cases hl; done)
 obtain _ | ⟨x1, us⟩ := us <;> try (cases hl; done)
 obtain _ | ⟨x2, us⟩ := us <;> try (cases hl; done)
 obtain _ | ⟨y, us⟩ := us
 ·exact h x0 x1 x2
 ·exact absurd hl (by simp only [List.length_cons]; omega)
theorem args4 {P : List Value → Prop} (h : ∀ x0 x1 x2 x3, P [x0, x1, x2, x3]) : ∀ us : List Value, us.length = 4 → P us := by
 intro us hl
 obtain _ | ⟨x0, us⟩ := us <;> try (cases hl; done)
 obtain _ | ⟨x1, us⟩ := us <;> try (cases hl; done)
 obtain _ | ⟨x2, us⟩ := us <;> try (cases hl; done)
 obtain _ | ⟨x3, us⟩ := us <;> try (cases hl; done)
 obtain _ | ⟨y, us⟩ := us
 ·exact h x0 x1 x2 x3
 ·exact absurd hl (by simp only [List.length_cons]; omega)
theorem args5 {P : List Value → Prop} (h : ∀ x0 x1 x2 x3 x4, P [x0, x1, x2, x3, x4]) : ∀ us : List Value, us.length = 5 → P us := by
 intro us hl
 obtain _ | ⟨x0, us⟩ := us <;> try (cases hl; done)
 obtain _ | ⟨x1, us⟩ := us <;> try (cases hl; done)
 obtain _ | ⟨x2, us⟩ := us <;> try (cases hl; done)
 obtain _ | ⟨x3, us⟩ := us <;> try (cases hl; done)
 obtain _ | ⟨x4, us⟩ := us <;> try (cases hl; done)
 obtain _ | ⟨y, us⟩ := us
 ·exact h x0 x1 x2 x3 x4
 ·exact absurd hl (by simp only [List.length_cons]; omega)
structure Df (K : PySem.W.Frag) (x : Str) (st : Stmt) (f : Addr) : Prop where
 n : PySem.W.nsIn K mainGlobals x = some (some (.ref f))
 l : ∃ (oc : Value) (od an : Option Addr) (sl : Array (Option Value)) (kV dc pm cd ct : Value), K.lookup f = some ⟨oc, od, .func (PySem.W.fnOf x x (defArgs st) (defBody st) (defScope st) .none kV dc pm an cd ct), sl⟩ ∧ PySem.W.codeIn K cd x = true ∧ PySem.W.keepIn K (.ref f) = true
theorem Df.fn {K : PySem.W.Frag} {h : Heap} {mg : Str → Option Value} {x : Str} {st : Stmt} {f : Addr} (a : Df K x st f) (X : K.In h) (G : h.Ns mainGlobals mg) {ps : List Str}
  (hb : ∀ (kV dc pm : Value) (an : Option Addr) (cd ct : Value) (us : List Value), us.length = ps.length → bindArgs (PySem.W.fnOf x x (defArgs st) (defBody st) (defScope st) .none kV dc pm an cd ct) ⟨us, []⟩ = pure (ps.zip us)) : ∃ fd, Fn K mg x st ps f fd := by
 obtain ⟨n, oc, od, an, sl, kV, dc, pm, cd, ct, l, c, k⟩ := a
 have F := fun_mk (st := st) l c k
 exact ⟨_, F, PySem.W.mg_of X G n, F.binds hb⟩
theorem all_mk {l : PySem.W.OpenLaw} {w : World} {K : PySem.W.Frag} {h : Heap} {mg : Str → Option Value} {fa f1 f2 f3 f4 f5 f6 f7 f8 f9 f10 f11 f12 f13 f14 f15 f16 f17 f18 f19 f20 f21 f22 f23 f24 f25 f26 f27 f28 f29 f30 f31 f32 f33 f34 f35 f36 f37 f38 f39 f40 f41 f42 f43 f44 f45 f46 f47 f48 f49 f50 f51 f52 f53 f54 : Addr} {t1 t2 : Tok} (X : K.In h) (G : h.Ns mainGlobals mg) (hfa : mg "law" = some (.ref fa))
  (a1 : Df K "is_whole" sWhole f1)
  (a2 : Df K "is_within" sWithin f2)
  (a3 : Df K "is_step" sStep f3)
  (a4 : Df K "leads_from" sFrom f4)
  (a5 : Df K "leads_to" sTo f5)
  (a6 : Df K "is_way" sWay f6)
  (a7 : Df K "is_ring" sRing f7)
  (a8 : Df K "sum_of" sSum f8)
  (a9 : Df K "beats_of" sBeats f9)
  (a10 : Df K "is_dead" sDead f10)
  (a11 : Df K "is_sure" sSure f11)
  (a12 : Df K "first_bounds" sFirst f12)
  (a13 : Df K "is_headed" sHeaded f13)
  (a14 : Df K "is_cut" sCut f14)
  (a15 : Df K "is_row" sRowT f15)
  (a16 : Df K "is_leaf" sLeafT f16)
  (a17 : Df K "with_bound" sWithB f17)
  (a18 : Df K "sides_of" sSides f18)
  (a19 : Df K "leaves_in" sLeavesIn f19)
  (a20 : Df K "leaves_of" sLeavesOf f20)
  (a21 : Df K "is_right" sIsRight f21)
  (a22 : Df K "own_prices" sOwn f22)
  (a23 : Df K "worth_of" sWorth f23)
  (a24 : Df K "shown_by" sShown f24)
  (a25 : Df K "width_of" sWidth f25)
  (a26 : Df K "rest_by" sRest f26)
  (a27 : Df K "wait_in" sWaitIn f27)
  (a28 : Df K "waits_of" sWaits f28)
  (a29 : Df K "broken_in" sBroken f29)
  (a30 : Df K "fits" sFits f30)
  (a31 : Df K "wait_of" sWaitOf f31)
  (a32 : Df K "_law_numbers" sNums f32)
  (a33 : Df K "_law_draw" sDrawD f33)
  (a34 : Df K "_law_span" sSpanD f34)
  (a35 : Df K "_law_net" sNetD f35)
  (a36 : Df K "_law_leads" sLeadsD f36)
  (a37 : Df K "_law_back" sBackD f37)
  (a38 : Df K "_law_ring" sRingD f38)
  (a39 : Df K "_law_beats" sBeatsL f39)
  (a40 : Df K "_law_bounds" sBoundsF f40)
  (a41 : Df K "_law_leaf" sLeafL f41)
  (a42 : Df K "_law_tree" sTreeL f42)
  (a43 : Df K "_law_leaves" sLeavesL f43)
  (a44 : Df K "_law_is_right" sIsRL f44)
  (a45 : Df K "_law_worth" sWorthL f45)
  (a46 : Df K "_law_shown" sShownL f46)
  (a47 : Df K "_law_waits" sWaitsN f47)
  (a48 : Df K "_law_fits" sFitsN f48)
  (a49 : Df K "_law_drawn_table" sDrawnT f49)
  (a50 : Df K "_law_other_leaf" sOthL f50)
  (a51 : Df K "_law_near" sNear f51)
  (a52 : Df K "_law_within" sWithinL f52)
  (a53 : Df K "_law_right" sRightW f53)
  (a54 : Df K "law" sLaw f54)
  (y1 : PySem.W.nsIn K mainGlobals "MOST_ROWS" = some (some (.int 40 t1)))
  (y2 : PySem.W.nsIn K mainGlobals "MOST_LEAVES_WALKED" = some (some (.int 20000 t2)))
  (z1 : PySem.W.nsIn K mainGlobals "isinstance" = some none)
  (z2 : PySem.W.nsIn K mainGlobals "int" = some none)
  (z3 : PySem.W.nsIn K mainGlobals "bool" = some none)
  (z4 : PySem.W.nsIn K mainGlobals "tuple" = some none)
  (z5 : PySem.W.nsIn K mainGlobals "len" = some none)
  (z6 : PySem.W.nsIn K mainGlobals "min" = some none)
  (z7 : PySem.W.nsIn K mainGlobals "all" = some none)
  (z8 : PySem.W.nsIn K mainGlobals "range" = some none)
  (z9 : PySem.W.nsIn K mainGlobals "enumerate" = some none)
  (z10 : PySem.W.nsIn K mainGlobals "zip" = some none)
  (z11 : PySem.W.nsIn K mainGlobals "sum" = some none)
  (z12 : PySem.W.nsIn K mainGlobals "list" = some none)
  (z13 : PySem.W.nsIn K mainGlobals "max" = some none)
  (z14 : PySem.W.nsIn K mainGlobals "set" = some none)
  (z15 : PySem.W.nsIn K mainGlobals "reversed" = some none)
  (z16 : PySem.W.nsIn K mainGlobals "str" = some none)
  : ∃ fd : FuncData, (∀ (s : Shared) (v : Value), BindsTo s fd ⟨[v], []⟩ [("_law_script", v)]) ∧ ∀ base : Heap, K.In base → base.Ns mainGlobals mg → FnOk l.prog w K mg base CX0 12 fa fd ["_law_script"] (spLaw K) := by
 have e := hfa.symm.trans (PySem.W.mg_of X G a54.n)
 cases e
 obtain ⟨fd1, G1⟩ := a1.fn X G (ps := ["thing"]) fun _ _ _ _ _ _ => args1 fun _ => rfl
 obtain ⟨fd2, G2⟩ := a2.fn X G (ps := ["thing", "low", "high"]) fun _ _ _ _ _ _ => args3 fun _ _ _ => rfl
 obtain ⟨fd3, G3⟩ := a3.fn X G (ps := ["net", "thing"]) fun _ _ _ _ _ _ => args2 fun _ _ => rfl
 obtain ⟨fd4, G4⟩ := a4.fn X G (ps := ["net", "step"]) fun _ _ _ _ _ _ => args2 fun _ _ => rfl
 obtain ⟨fd5, G5⟩ := a5.fn X G (ps := ["net", "step"]) fun _ _ _ _ _ _ => args2 fun _ _ => rfl
 obtain ⟨fd6, G6⟩ := a6.fn X G (ps := ["net", "thing"]) fun _ _ _ _ _ _ => args2 fun _ _ => rfl
 obtain ⟨fd7, G7⟩ := a7.fn X G (ps := ["net", "thing"]) fun _ _ _ _ _ _ => args2 fun _ _ => rfl
 obtain ⟨fd8, G8⟩ := a8.fn X G (ps := ["bounds", "way"]) fun _ _ _ _ _ _ => args2 fun _ _ => rfl
 obtain ⟨fd9, G9⟩ := a9.fn X G (ps := ["net", "bounds", "ring"]) fun _ _ _ _ _ _ => args3 fun _ _ _ => rfl
 obtain ⟨fd10, G10⟩ := a10.fn X G (ps := ["net", "bounds", "ring"]) fun _ _ _ _ _ _ => args3 fun _ _ _ => rfl
 obtain ⟨fd11, G11⟩ := a11.fn X G (ps := ["net", "bounds", "ring"]) fun _ _ _ _ _ _ => args3 fun _ _ _ => rfl
 obtain ⟨fd12, G12⟩ := a12.fn X G (ps := ["net"]) fun _ _ _ _ _ _ => args1 fun _ => rfl
 obtain ⟨fd13, G13⟩ := a13.fn X G (ps := ["thing", "word", "many"]) fun _ _ _ _ _ _ => args3 fun _ _ _ => rfl
 obtain ⟨fd14, G14⟩ := a14.fn X G (ps := ["bounds", "thing"]) fun _ _ _ _ _ _ => args2 fun _ _ => rfl
 obtain ⟨fd15, G15⟩ := a15.fn X G (ps := ["net", "thing"]) fun _ _ _ _ _ _ => args2 fun _ _ => rfl
 obtain ⟨fd16, G16⟩ := a16.fn X G (ps := ["net", "thing"]) fun _ _ _ _ _ _ => args2 fun _ _ => rfl
 obtain ⟨fd17, G17⟩ := a17.fn X G (ps := ["bounds", "span", "low", "high"]) fun _ _ _ _ _ _ => args4 fun _ _ _ _ => rfl
 obtain ⟨fd18, G18⟩ := a18.fn X G (ps := ["bounds", "cut"]) fun _ _ _ _ _ _ => args2 fun _ _ => rfl
 obtain ⟨fd19, G19⟩ := a19.fn X G (ps := ["net", "thing"]) fun _ _ _ _ _ _ => args2 fun _ _ => rfl
 obtain ⟨fd20, G20⟩ := a20.fn X G (ps := ["net", "tree"]) fun _ _ _ _ _ _ => args2 fun _ _ => rfl
 obtain ⟨fd21, G21⟩ := a21.fn X G (ps := ["net", "bounds", "leaf"]) fun _ _ _ _ _ _ => args3 fun _ _ _ => rfl
 obtain ⟨fd22, G22⟩ := a22.fn X G (ps := ["net", "rows"]) fun _ _ _ _ _ _ => args2 fun _ _ => rfl
 obtain ⟨fd23, G23⟩ := a23.fn X G (ps := ["net", "bounds", "leaf"]) fun _ _ _ _ _ _ => args3 fun _ _ _ => rfl
 obtain ⟨fd24, G24⟩ := a24.fn X G (ps := ["net", "thing"]) fun _ _ _ _ _ _ => args2 fun _ _ => rfl
 obtain ⟨fd25, G25⟩ := a25.fn X G (ps := ["net", "span"]) fun _ _ _ _ _ _ => args2 fun _ _ => rfl
 obtain ⟨fd26, G26⟩ := a26.fn X G (ps := ["beat", "number"]) fun _ _ _ _ _ _ => args2 fun _ _ => rfl
 obtain ⟨fd27, G27⟩ := a27.fn X G (ps := ["net", "table", "span"]) fun _ _ _ _ _ _ => args3 fun _ _ _ => rfl
 obtain ⟨fd28, G28⟩ := a28.fn X G (ps := ["net", "table"]) fun _ _ _ _ _ _ => args2 fun _ _ => rfl
 obtain ⟨fd29, G29⟩ := a29.fn X G (ps := ["net", "table"]) fun _ _ _ _ _ _ => args2 fun _ _ => rfl
 obtain ⟨fd30, G30⟩ := a30.fn X G (ps := ["net", "table"]) fun _ _ _ _ _ _ => args2 fun _ _ => rfl
 obtain ⟨fd31, G31⟩ := a31.fn X G (ps := ["net", "table"]) fun _ _ _ _ _ _ => args2 fun _ _ => rfl
 obtain ⟨fd32, G32⟩ := a32.fn X G (ps := ["_law_script", "_law_most"]) fun _ _ _ _ _ _ => args2 fun _ _ => rfl
 obtain ⟨fd33, G33⟩ := a33.fn X G (ps := ["_law_deck", "_law_most"]) fun _ _ _ _ _ _ => args2 fun _ _ => rfl
 obtain ⟨fd34, G34⟩ := a34.fn X G (ps := ["_law_deck", "_law_beat", "_law_many", "_law_hidden", "_law_kept"]) fun _ _ _ _ _ _ => args5 fun _ _ _ _ _ => rfl
 obtain ⟨fd35, G35⟩ := a35.fn X G (ps := ["_law_deck", "_law_most", "_law_beats_here", "_law_size", "_law_great"]) fun _ _ _ _ _ _ => args5 fun _ _ _ _ _ => rfl
 obtain ⟨fd36, G36⟩ := a36.fn X G (ps := ["_law_net_here", "_law_step"]) fun _ _ _ _ _ _ => args2 fun _ _ => rfl
 obtain ⟨fd37, G37⟩ := a37.fn X G (ps := ["_law_deck", "_law_net_here", "_law_begin", "_law_end", "_law_out"]) fun _ _ _ _ _ _ => args5 fun _ _ _ _ _ => rfl
 obtain ⟨fd38, G38⟩ := a38.fn X G (ps := ["_law_deck", "_law_net_here"]) fun _ _ _ _ _ _ => args2 fun _ _ => rfl
 obtain ⟨fd39, G39⟩ := a39.fn X G (ps := ["_law_net_here", "_law_bounds_here", "_law_ring_here"]) fun _ _ _ _ _ _ => args3 fun _ _ _ => rfl
 obtain ⟨fd40, G40⟩ := a40.fn X G (ps := ["_law_net_here"]) fun _ _ _ _ _ _ => args1 fun _ => rfl
 obtain ⟨fd41, G41⟩ := a41.fn X G (ps := ["_law_deck", "_law_net_here", "_law_bounds_here"]) fun _ _ _ _ _ _ => args3 fun _ _ _ => rfl
 obtain ⟨fd42, G42⟩ := a42.fn X G (ps := ["_law_deck", "_law_net_here", "_law_bounds_here", "_law_deep"]) fun _ _ _ _ _ _ => args4 fun _ _ _ _ => rfl
 obtain ⟨fd43, G43⟩ := a43.fn X G (ps := ["_law_tree_here", "_law_bounds_here"]) fun _ _ _ _ _ _ => args2 fun _ _ => rfl
 obtain ⟨fd44, G44⟩ := a44.fn X G (ps := ["_law_net_here", "_law_bounds_here", "_law_leaf_here"]) fun _ _ _ _ _ _ => args3 fun _ _ _ => rfl
 obtain ⟨fd45, G45⟩ := a45.fn X G (ps := ["_law_net_here", "_law_bounds_here", "_law_leaf_here"]) fun _ _ _ _ _ _ => args3 fun _ _ _ => rfl
 obtain ⟨fd46, G46⟩ := a46.fn X G (ps := ["_law_net_here", "_law_tree_here"]) fun _ _ _ _ _ _ => args2 fun _ _ => rfl
 obtain ⟨fd47, G47⟩ := a47.fn X G (ps := ["_law_net_here", "_law_table"]) fun _ _ _ _ _ _ => args2 fun _ _ => rfl
 obtain ⟨fd48, G48⟩ := a48.fn X G (ps := ["_law_net_here", "_law_table"]) fun _ _ _ _ _ _ => args2 fun _ _ => rfl
 obtain ⟨fd49, G49⟩ := a49.fn X G (ps := ["_law_deck", "_law_net_here"]) fun _ _ _ _ _ _ => args2 fun _ _ => rfl
 obtain ⟨fd50, G50⟩ := a50.fn X G (ps := ["_law_deck", "_law_net_here", "_law_tree_here"]) fun _ _ _ _ _ _ => args3 fun _ _ _ => rfl
 obtain ⟨fd51, G51⟩ := a51.fn X G (ps := ["_law_deck", "_law_net_here", "_law_hidden"]) fun _ _ _ _ _ _ => args3 fun _ _ _ => rfl
 obtain ⟨fd52, G52⟩ := a52.fn X G (ps := ["_law_net_here", "_law_table", "_law_bounds_here"]) fun _ _ _ _ _ _ => args3 fun _ _ _ => rfl
 obtain ⟨fd53, G53⟩ := a53.fn X G (ps := ["_law_net_here", "_law_table", "_law_tree_here", "_law_found"]) fun _ _ _ _ _ _ => args4 fun _ _ _ _ => rfl
 obtain ⟨_, oc, od, an, sl, kV, dc, pm, cd, ct, l54, c54, k54⟩ := a54
 have F54 := fun_mk (st := sLaw) l54 c54 k54
 have m1 := PySem.W.mg_none_of X G z1
 have m2 := PySem.W.mg_none_of X G z2
 have m3 := PySem.W.mg_none_of X G z3
 have m4 := PySem.W.mg_none_of X G z4
 have m5 := PySem.W.mg_none_of X G z5
 have m6 := PySem.W.mg_none_of X G z6
 have m7 := PySem.W.mg_none_of X G z7
 have m8 := PySem.W.mg_none_of X G z8
 have m9 := PySem.W.mg_none_of X G z9
 have m10 := PySem.W.mg_none_of X G z10
 have m11 := PySem.W.mg_none_of X G z11
 have m12 := PySem.W.mg_none_of X G z12
 have m13 := PySem.W.mg_none_of X G z13
 have m14 := PySem.W.mg_none_of X G z14
 have m15 := PySem.W.mg_none_of X G z15
 have m16 := PySem.W.mg_none_of X G z16
 have i1 := PySem.W.mg_of X G y1
 have i2 := PySem.W.mg_of X G y2
 refine ⟨PySem.W.fnOf "law" "law" (defArgs sLaw) (defBody sLaw) (defScope sLaw) .none kV dc pm an cd ct, fun s v => .of_eq rfl, fun base _ _ => ?_⟩
 have T : Nm mg := ⟨m1, m2, m3, m4, m5, m6, m7⟩
 have T2 : Nt mg := ⟨m8, m9, m10, m11, m12, m13⟩
 have T3 : N3 mg := ⟨m14⟩
 have W : FnOk l.prog w K mg base CX0 4 f6 _ ["net", "thing"] spWayP := ok_way G6.F T T2 G3 (ok_step G3.F T G2 G1) G4 G5
 have R : FnOk l.prog w K mg base CX0 5 f7 _ ["net", "thing"] spRingP := ok_ring G7.F T T3 G6 W G4 G5
 have LI : FnOk l.prog w K mg base CX0 8 f19 _ ["net", "thing"] spLeavesIn := ok_leavesIn G19.F T ⟨_, i2⟩ G12 (ok_first G12.F T) G14 (ok_cut G14.F T m16 G13 G2 G1) G18 (ok_sides G18.F G17) G16 (ok_leafT G16.F T m16 ⟨_, i1⟩ G13 G7 R G15 G1)
 have BO : FnOk l.prog w K mg base CX0 2 f9 _ ["net", "bounds", "ring"] spBeats := ok_beats G9.F G8
 have SH : FnOk l.prog w K mg base CX0 9 f24 _ ["net", "thing"] spShown := ok_shown G24.F T G19 LI G21 (ok_isRight G21.F T G10 (ok_dead G10.F G9 BO) G11 (ok_sure G11.F G9 BO)) G23 (ok_worth G23.F T T2 G9 BO G22)
 have LF : FnOk l.prog w K mg base CX0 4 f41 _ ["_law_deck", "_law_net_here", "_law_bounds_here"] spLeafL := ok_leafL G41.F T T2 G38 (ok_ringD G38.F T T2 m15 G33 G36 G37) G39 G33
 have RD : FnOk l.prog w K mg base CX0 3 f38 _ ["_law_deck", "_law_net_here"] spRingD := ok_ringD G38.F T T2 m15 G33 G36 G37
 have SL : FnOk l.prog w K mg base CX0 10 f46 _ ["_law_net_here", "_law_tree_here"] (spShownL 7) := ok_shownL G46.F T G43 (ok_leavesL G43 7) G40 (ok_boundsF G40.F T) G44 (ok_isRL G44.F G39) G45 (ok_worthL G45.F T T2 G39)
 have WA : FnOk l.prog w K mg base CX0 3 f28 _ ["net", "table"] spWaits := ok_waits G28.F T T2 G26 G27
 have BR : FnOk l.prog w K mg base CX0 4 f29 _ ["net", "table"] spBroken := ok_broken G29.F T T2 G28 WA G25
 exact ok_law F54 T T2 G32 G33 G35 (ok_netD G35.F T T2 G33 G34) G40 G42 (ok_treeL T T2 G33 G41 LF G42 7) G50 (ok_othL T G33 G38 RD G50 7) G24 SH G46 SL G51 (ok_near G51.F T T2 G33 G49) G30 (ok_fits G30.F T G29 BR) G48 (ok_fitsN G48.F T2 G47) G53 (ok_rightW G53.F T G31 (ok_waitOf G31.F T T2 G28 WA) G20 (ok_leavesOf G20.F T G19 LI) G52 (ok_withinL G52.F T2 G47))
theorem walk {l : PySem.W.OpenLaw} {q : Program} {loose : List Str} {XP : (Str → Option Value) → Heap → Prop} {YP : World → Heap → Prop} {d : DefRec} {K : Params → PySem.W.Frag} (hn : l.most = some 63) (hdf : d.params.defaults = [])
  (hY : ∀ (w : World) (h : Heap), YP w h → (K w.params).In h)
  (F : ∀ (w : World) (mg : Str → Option Value) (fa : Addr) (h : Heap), (K w.params).In h → h.Ns mainGlobals mg → mg d.name = some (.ref fa) →
   ∃ fd : FuncData, (∀ (s : Shared) (u : Value), BindsTo s fd ⟨[u], []⟩ [("_law_script", u)]) ∧ ∀ base : Heap, (K w.params).In base → base.Ns mainGlobals mg → FnOk l.prog w (K w.params) mg base CX0 12 fa fd ["_law_script"] (spLaw (K w.params))) :
  PySem.W.WalkO q loose XP YP l.row.toRowW d [] (fun f vs => PySem.call f vs) :=
 L2.walk_of (n := 63) (k := 12) (x := "_law_script") (CX := fun _ => CX0) (sp := fun w => spLaw (K w.params)) hn (by decide) hdf ⟨rfl, by decide, by decide⟩ hY F (fun _ _ a ns hl _ hS => ⟨a, ns, rfl, hS, hl, fun _ => rfl⟩) fun _ _ _ _ _ z => z
end HN
open PySem PySem.W PyProof.Rows
def HN.seenOf : Program := { PySem.Challenge.pw_hourtable_k91_whole_no_table_beats_a_tre with main := { PySem.Challenge.pw_hourtable_k91_whole_no_table_beats_a_tre.main with body := [1, 2, 4, 5, 6, 7, 8, 9, 10, 11, 12, 13, 15, 16, 17, 18, 19, 20, 21, 22, 23, 24, 25, 26, 27, 28, 30, 32, 33, 34, 35, 36, 37, 39, 40, 41, 42, 43, 44, 45, 46, 47, 48, 49, 50, 51, 52, 53, 54, 55, 56, 57, 58, 59, 60, 61].map HN.top } }
def HN.isSeen (s : Shared) : Bool := xlAt HN.seenOf [] s && recOk (RowW.records (OpenRow.toRowW (OpenLaw.row PySem.Challenge.rw_hourtable_k91_whole_no_table_beats_a_tre))) s
local macro_rules
 | `(tactic| o_head $H:term) => `(tactic| (refine holds_open (q := HN.seenOf) (loose := []) (XP := XL HN.seenOf []) (Xt := HN.isSeen) (Yf := Hook.obs $H) (Ya := Hook.val $H) (YP := Hook.says $H) (N := 3608) ?_ (Hook.of $H) (Hook.keeps $H) (fun s e => xl_of s (Bool.and_eq_true_iff.mp e).1) XL.keeps (by rfl) (by rfl) (by rfl) (fun s e => recFacts_of (Bool.and_eq_true_iff.mp e).2) ?_ ?_ ?_ ?_ ?_ ?_))
set_option maxRecDepth 100000 in
set_option maxHeartbeats 0 in
theorem PySem.Challenge.cw_hourtable_k91_whole_no_table_beats_a_tre_holds : PySem.Challenge.rw_hourtable_k91_whole_no_table_beats_a_tre.Holds := by
 w_on; refine holds_law (by decide +kernel) fun said => ?_; k_head
 ·intro w; kernel_rfl
 ·rfl
 ·assumption
 ·decide +kernel
 ·exact ⟨rfl, rfl, rfl, rfl, rfl, by decide +kernel⟩
 ·w_witness2
 k_fill
 refine HN.walk (l := PySem.Challenge.rw_hourtable_k91_whole_no_table_beats_a_tre) rfl rfl (fun w h Y => PySem.W.kIn_of Y) ?F
 case F =>
  intro w mg fa h KX G hmg
  refine' HN.all_mk KX G hmg ?_ ?_ ?_ ?_ ?_ ?_ ?_ ?_ ?_ ?_ ?_ ?_ ?_ ?_ ?_ ?_ ?_ ?_ ?_ ?_ ?_ ?_ ?_ ?_ ?_ ?_ ?_ ?_ ?_ ?_ ?_ ?_ ?_ ?_ ?_ ?_ ?_ ?_ ?_ ?_ ?_ ?_ ?_ ?_ ?_ ?_ ?_ ?_ ?_ ?_ ?_ ?_ ?_ ?_ ?_ ?_ ?_ ?_ ?_ ?_ ?_ ?_ ?_ ?_ ?_ ?_ ?_ ?_ ?_ ?_ ?_ ?_
  all_goals first | exact ⟨by k_is, _, _, _, _, _, _, _, _, _, by k_is, by k_is, by k_is⟩ | skip
  all_goals first | k_is | skip
