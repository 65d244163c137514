import PyProof.Rows.All
import Wide.All
import OpenK.AllK
import Wide.FinOn
import Lean
import PyProof.EqAt
import PyProof.EqKinds
import PyProof.TupleCall
import PySem.Challenge.RW_stepledger_k41_cut_and_joined
set_option Elab.async false
set_option linter.all false
set_option maxRecDepth 100000
namespace L2
open PySem PySem.Spec PyProof.Rows
abbrev Key := Sum Int Str
def Ziq : Key → Value → Bool
 | .inl k, v => Value.isInt k v
 | .inr x, v => Value.isStrOf x v
def Zk1 (w : World) : Key → Int
 | .inl k => hashInt k
 | .inr x => hashStr w x
theorem ZaF : ∀ {k : Key} {v : Value}, Ziq k v = true → (∃ i t, k = Sum.inl i ∧ v = Value.int i t) ∨ (∃ x t, k = Sum.inr x ∧ v = Value.str x t)
 | .inl i, v, h => by
  obtain ⟨t, e⟩ := Value.isInt_shape (k := i) (v := v) h
  exact .inl ⟨i, t, rfl, e⟩
 | .inr x, v, h => by
  obtain ⟨t, e⟩ := Value.isStrOf_shape (x := x) (v := v) h
  exact .inr ⟨x, t, rfl, e⟩
theorem ZiD (a b : Int) : decide ((Sum.inl a : Key) = Sum.inl b) = (a == b) := by
 by_cases e : a = b
 ·subst e; simp
 ·have h : ¬ (Sum.inl a : Key) = Sum.inl b := fun q => e (Sum.inl.inj q)
  rw [decide_eq_false h]
  exact (beq_eq_false_iff_ne.mpr e).symm
theorem Zjs (a b : Str) : decide ((Sum.inr a : Key) = Sum.inr b) = decide (a = b) := by
 by_cases e : a = b
 ·subst e; simp
 ·have h : ¬ (Sum.inr a : Key) = Sum.inr b := fun q => e (Sum.inr.inj q)
  rw [decide_eq_false h, decide_eq_false e]
theorem ZiV (a : Int) (b : Str) : decide ((Sum.inl a : Key) = Sum.inr b) = false := decide_eq_false (fun q => nomatch q)
theorem Zjo (a : Str) (b : Int) : decide ((Sum.inr a : Key) = Sum.inl b) = false := decide_eq_false (fun q => nomatch q)
def Zf5 (prog : Program) (w : World) : PySem.KeyKind prog w Key where
 is := Ziq
 hash := Zk1 w
 inj := fun v a b ha hb => by
  rcases ZaF ha with ⟨i, t, rfl, rfl⟩ | ⟨x, t, rfl, rfl⟩
  ·rcases ZaF hb with ⟨j, u, rfl, e⟩ | ⟨y, u, rfl, e⟩
   ·injection e with e1 _; rw [e1]
   ·exact nomatch e
  ·rcases ZaF hb with ⟨j, u, rfl, e⟩ | ⟨y, u, rfl, e⟩
   ·exact nomatch e
   ·injection e with e1 _; rw [e1]
 byValue := fun k v h => by
  rcases ZaF h with ⟨i, t, rfl, rfl⟩ | ⟨x, t, rfl, rfl⟩ <;> rfl
 pyHash := fun hv h => by
  rcases ZaF hv with ⟨i, t, rfl, rfl⟩ | ⟨x, t, rfl, rfl⟩
  ·exact wpAny_pyHash_int h
  ·exact wpAny_pyHash_str h
 eqBool := fun hu hv h => by
  rcases ZaF hu with ⟨i, t, rfl, rfl⟩ | ⟨x, t, rfl, rfl⟩
  ·rcases ZaF hv with ⟨j, u, rfl, rfl⟩ | ⟨y, u, rfl, rfl⟩
   ·rw [ZiD] at h; exact wpAny_eqBool_int h
   ·rw [ZiV] at h; exact SeqAt.EqAt.int_str i t y u _ _ _ _ h
  ·rcases ZaF hv with ⟨j, u, rfl, rfl⟩ | ⟨y, u, rfl, rfl⟩
   ·rw [Zjo] at h; exact SeqAt.EqAt.str_int x t j u _ _ _ _ h
   ·rw [Zjs] at h; exact wpAny_eqBool_str h
 «strs» := fun k x t v h => by
  rcases ZaF h with ⟨i, u, rfl, e⟩ | ⟨y, u, rfl, e⟩
  ·exact nomatch e
  ·injection e with e1 _
   subst e1
   cases v <;> rfl
end L2
namespace L2
open PySem PySem.Spec PyProof.Rows
inductive V where
 | non | bl (b : Bool) | int (i : Int) | str (x : Str) | byt (b : Array UInt8) | flt (b : UInt64) | ref (a : Addr) | ty (n : String)
 deriving DecidableEq
def RelV : V → Value → Prop
 | .non, u => u = Value.none
 | .bl b, u => u = Value.bool b
 | .int i, u => ∃ t, u = Value.int i t
 | .str x, u => ∃ t, u = Value.str x t
 | .byt b, u => ∃ t, u = Value.bytes b t
 | .flt b, u => ∃ t, u = Value.float b t
 | .ref a, u => u = Value.ref a
 | .ty n, u => u = Value.type n
abbrev Vals : List V → List Value → Prop := Paired RelV
theorem Vals.length {xs : List V} {us : List Value} (r : Vals xs us) : xs.length = us.length := Paired.length r
theorem Vals.get : ∀ {xs : List V} {us : List Value} {i : Nat} {x : V}, Vals xs us → xs[i]? = some x → ∃ u, us[i]? = some u ∧ RelV x u
 | _, _, _, _, .nil, e => by simp at e
 | _, _, 0, _, .cons r _, e => by simp at e; subst e; exact ⟨_, rfl, r⟩
 | _, _, i + 1, x, .cons _ t, e => by
  obtain ⟨u, h1, h2⟩ := Vals.get (i := i) (x := x) t (by simpa using e)
  exact ⟨u, by simpa using h1, h2⟩
theorem Vals.set {x : V} {u : Value} (r : RelV x u) : ∀ {xs : List V} {us : List Value} (i : Nat), Vals xs us → Vals (xs.set i x) (us.set i u)
 | _, _, _, .nil => .nil
 | _, _, 0, .cons _ t => .cons r t
 | _, _, i + 1, .cons q t => .cons q (Vals.set r i t)
theorem Vals.append : ∀ {xs ys : List V} {us ws : List Value}, Vals xs us → Vals ys ws → Vals (xs ++ ys) (us ++ ws)
 | _, _, _, _, .nil, s => s
 | _, _, _, _, .cons r t, s => .cons r (Vals.append t s)
theorem Vals.take : ∀ {xs : List V} {us : List Value} (n : Nat), Vals xs us → Vals (xs.take n) (us.take n)
 | _, _, 0, _ => .nil
 | _, _, _ + 1, .nil => .nil
 | _, _, n + 1, .cons r t => .cons r (Vals.take n t)
theorem Vals.drop : ∀ {xs : List V} {us : List Value} (n : Nat), Vals xs us → Vals (xs.drop n) (us.drop n)
 | _, _, 0, r => r
 | _, _, _ + 1, .nil => .nil
 | _, _, n + 1, .cons _ t => Vals.drop n t
def ZdV : Option V → Option Value → Prop
 | some v, some u => RelV v u
 | none, none => True
 | _, _ => False
def KV {κ : Type} : List (κ × V) → List (κ × Value) → Prop := Paired fun (p : κ × V) (q : κ × Value) => p.1 = q.1 ∧ RelV p.2 q.2
def kV : Key → V
 | .inl i => .int i
 | .inr x => .str x
inductive HO where
 /-- a list -/
 | lst (xs : List V)
 /-- a tuple (never changes) -/
 | tup (xs : List V)
 /-- a dict whose keys are ints and texts; one whose keys are tuples of ints and texts (the empty one is both) -/
 | dK (kvs : List (Key × V)) | dT (kvs : List (List Key × V))
 /-- a set of ints: its members, its size -/
 | set (S : Int → Bool) (n : Nat)
 /-- an instance of the class at C, its dict at dx, its attributes -/
 | ins (C dx : Addr) (fs : List (Str × V))
 /-- the dict of the instance at x -/
 | own (x : Addr)
 /-- the dict of an exception -/
 | xd (fs : List (Str × V))
 /-- a bound method, f of x -/
 | met (f x : Addr)
 /-- a range object lo, lo + 1, .. below hi -/
 | rng (lo hi : Int)
 /-- a thing that is known to the object (the script; a dict while a loop walks it): read, never written while it is so -/
 | frz (o : Obj) (u : HO)
 /-- a code object's table -/
 | tbl (ps : Array Value)
 /-- any other thing, by what is true of its one object (a def of one's own: SetO a S n := HO.ext fun h => ..) -/
 | ext (φ : Heap → Prop)
abbrev Hp := Addr → Option HO
def upd (H : Hp) (a : Addr) (o : HO) : Hp := fun b => if b = a then some o else H b
theorem ZbX {H : Hp} {a : Addr} {o : HO} : upd H a o a = some o := by unfold upd; rw [if_pos rfl]
theorem Zas {H : Hp} {a b : Addr} {o : HO} (h : b ≠ a) : upd H a o b = H b := by unfold upd; rw [if_neg h]
theorem ZbT {H : Hp} {a b : Addr} {o : HO} (h : H a = some o) (h' : H b = none) : a ≠ b := by
 intro e; subst e; rw [h] at h'; cases h'
section
variable (P : Program) (w : World)
def Zce (h : Heap) (a : Addr) (items : Array Value) : Prop := ∃ o, h.get? a = some o ∧ (o.cls = .type "tuple" ∧ o.dict = none) ∧ ∃ n, o.data = .seq items n
theorem Zce.tup {h : Heap} {a : Addr} {items : Array Value} (x : Zce h a items) : IsTup h a items := let ⟨o, e, c, d⟩ := x; ⟨o, e, c.1, d⟩
theorem Zce.new (h : Heap) (items : Array Value) : Zce (h.push { cls := .type "tuple", data := .seq items }) h.objs.size items := ⟨_, Heap.get?_push_size _ rfl, ⟨rfl, rfl⟩, 0, rfl⟩
def ZaV (H : Hp) (h : Heap) (a : Addr) : HO → Prop
 | .lst xs => xs.length ≤ sizeLine ∧ ∃ (its : List Value) (n : Nat), Vals xs its ∧ h.get? a = some { cls := .type "list", data := .seq its.toArray n }
 | .tup xs => xs.length ≤ sizeLine ∧ ∃ its : List Value, Vals xs its ∧ Zce h a its.toArray
 | .dK kvs => kvs.length ≤ sizeLine ∧ (a == sysModules) = false ∧ ∃ vs, KV kvs vs ∧ h.DictOf (Zf5 P w) a vs
 | .dT kvs => kvs.length ≤ sizeLine ∧ (a == sysModules) = false ∧ ∃ xs : List (List Key × Addr × Value),
   Paired (fun (p : List Key × V) (q : List Key × Addr × Value) => p.1 = q.1 ∧ H q.2.1 = some (.tup (p.1.map kV)) ∧ RelV p.2 q.2.2) kvs xs ∧
   ∃ o es ep, h.get? a = some o ∧ o.ExactDict ∧ o.data = .dict es ep ∧ es.toList = xs.map (entryOfKey (tupleKind (Zf5 P w))) ∧ (xs.map (·.1)).Nodup
 | .set S n => h.SetOf (intKind P w) a S n
 | .ins C dx fs => H dx = some (.own a) ∧ fs.length ≤ 1000 ∧ dx ≠ a ∧ h.get? a = some (PySem.W.instObj C dx) ∧
   ∃ mA, h.Ns1 dx mA ∧ (∀ f, ZdV (fs.lookup f) (mA f)) ∧ PySem.Within mA (fs.map (·.1))
 | .own _ => ∃ o, h.get? a = some o
 | .xd fs => ∃ mA, h.Ns1 a mA ∧ ∀ f, ZdV (fs.lookup f) (mA f)
 | .rng lo hi => ∃ t u v, h.get? a = some { cls := .type "range", data := .fields #[.int lo t, .int hi u, .int 1 v] }
 | .frz o u => h.get? a = some o ∧ ZaV H h a u
 | .tbl ps => h.get? a = some { cls := .none, data := .fields ps }
 | .met f x => h.get? a = some (PySem.W.methodObj (.ref f) (.ref x))
 | .ext φ => φ h ∧ (∃ o, h.get? a = some o) ∧ ∀ h1 h2 : Heap, φ h1 → (∀ o, h1.get? a = some o → h2.get? a = some o) → φ h2
def HOk (H : Hp) (h : Heap) : Prop := ∀ a o, H a = some o → ZaV P w H h a o
end
section
variable {P : Program} {w : World} {H H' : Hp} {h h' : Heap} {a : Addr} {o : HO}
theorem ZaV.lt (x : ZaV P w H h a o) : a < h.objs.size := by
 cases o with
 | lst xs => obtain ⟨_, _, _, _, e⟩ := x; exact Heap.lt_size e
 | tup xs => obtain ⟨_, _, _, p⟩ := x; exact p.tup.lt
 | dK kvs => obtain ⟨_, _, _, _, o, _, _, e, _⟩ := x; exact Heap.lt_size e
 | dT kvs => obtain ⟨_, _, _, _, o, _, _, e, _⟩ := x; exact Heap.lt_size e
 | set S n => obtain ⟨o, _, _, _, e, _⟩ := x; exact Heap.lt_size e
 | ins C dx fs => obtain ⟨_, _, _, e, _⟩ := x; exact Heap.lt_size e
 | own y => obtain ⟨_, e⟩ := x; exact Heap.lt_size e
 | xd fs => obtain ⟨_, ⟨_, _, _, e, _⟩, _⟩ := x; exact Heap.lt_size e
 | rng lo hi => obtain ⟨_, _, _, e⟩ := x; exact Heap.lt_size e
 | frz ob u => obtain ⟨e, _⟩ := x; exact Heap.lt_size e
 | tbl ps => exact Heap.lt_size (show h.get? a = some _ from x)
 | met f y => exact Heap.lt_size (show h.get? a = some _ from x)
 | ext φ => obtain ⟨_, ⟨_, e⟩, _⟩ := x; exact Heap.lt_size e
theorem Paired.mapP {α β : Type} {F G : α → β → Prop} : ∀ {l₁ : List α} {l₂ : List β}, Paired F l₁ l₂ → (∀ a b, F a b → G a b) → Paired G l₁ l₂
 | _, _, .nil, _ => .nil
 | _, _, .cons r t, f => .cons (f _ _ r) (Paired.mapP t f)
theorem ZaV.stay (x : ZaV P w H h a o) (k : ∀ b u, (b = a ∨ H b = some (.own a)) → h.get? b = some u → h'.get? b = some u)
  (ho : ∀ b, H b = some (.own a) → H' b = some (.own a)) (ht : ∀ b xs, H b = some (.tup xs) → H' b = some (.tup xs)) : ZaV P w H' h' a o := by
 induction o with
 | lst xs => obtain ⟨z, its, n, r, e⟩ := x; exact ⟨z, its, n, r, k _ _ (.inl rfl) e⟩
 | tup xs => obtain ⟨z, its, r, ob, e, c⟩ := x; exact ⟨z, its, r, ob, k _ _ (.inl rfl) e, c⟩
 | dK kvs => obtain ⟨z, y, vs, r, ob, es, ep, e, c⟩ := x; exact ⟨z, y, vs, r, ob, es, ep, k _ _ (.inl rfl) e, c⟩
 | dT kvs =>
  obtain ⟨z, y, xs, r, ob, es, ep, e, c⟩ := x
  exact ⟨z, y, xs, Paired.mapP r fun p q z => ⟨z.1, ht _ _ z.2.1, z.2.2⟩, ob, es, ep, k _ _ (.inl rfl) e, c⟩
 | set S n => obtain ⟨ob, es, ep, t, e, c⟩ := x; exact ⟨ob, es, ep, t, k _ _ (.inl rfl) e, c⟩
 | ins C dx fs =>
  obtain ⟨d, z, ne, e, mA, ⟨od, es, ep, e2, c⟩, r⟩ := x
  exact ⟨ho _ d, z, ne, k _ _ (.inl rfl) e, mA, ⟨od, es, ep, k _ _ (.inr d) e2, c⟩, r⟩
 | own y => obtain ⟨ob, e⟩ := x; exact ⟨ob, k _ _ (.inl rfl) e⟩
 | xd fs => obtain ⟨mA, ⟨od, es, ep, e, c⟩, r⟩ := x; exact ⟨mA, ⟨od, es, ep, k _ _ (.inl rfl) e, c⟩, r⟩
 | rng lo hi => obtain ⟨t, u, v, e⟩ := x; exact ⟨t, u, v, k _ _ (.inl rfl) e⟩
 | frz ob u ih => obtain ⟨e, q⟩ := x; exact ⟨k _ _ (.inl rfl) e, ih q⟩
 | tbl ps =>
  have e : h.get? a = some { cls := .none, data := .fields ps } := x
  show h'.get? a = some { cls := .none, data := .fields ps }
  exact k a _ (.inl rfl) e
 | met f y =>
  have e : h.get? a = some (PySem.W.methodObj (.ref f) (.ref y)) := x
  show h'.get? a = some (PySem.W.methodObj (.ref f) (.ref y))
  exact k a _ (.inl rfl) e
 | ext φ => obtain ⟨p, ⟨o, e⟩, st⟩ := x; exact ⟨st _ _ p fun o q => k _ _ (.inl rfl) q, ⟨o, k _ _ (.inl rfl) e⟩, st⟩
theorem HOk.lt (x : HOk P w H h) (e : H a = some o) : a < h.objs.size := (x a o e).lt
theorem HOk.fresh (x : HOk P w H h) (e : h.objs.size ≤ a) : H a = none := by
 cases q : H a with
 | none => rfl
 | some u => exact absurd (Nat.lt_of_lt_of_le (x.lt q) e) (Nat.lt_irrefl _)
theorem HOk.kept (x : HOk P w H h) (k : ∀ b u, h.get? b = some u → h'.get? b = some u) : HOk P w H h' := fun a o e =>
 (x a o e).stay (fun b u _ q => k b u q) (fun _ q => q) fun _ _ q => q
theorem HOk.laid (x : HOk P w H h) (k : ∀ b u, h.get? b = some u → h'.get? b = some u) (hp : h.objs.size ≤ a) (new : ZaV P w (upd H a o) h' a o) : HOk P w (upd H a o) h' := fun b u e => by
 have hn := x.fresh hp
 by_cases hb : b = a
 ·subst hb; rw [ZbX] at e; cases e; exact new
 ·rw [Zas hb] at e
  exact (x b u e).stay (fun c v _ q => k c v q) (fun c q => by rw [Zas (ZbT q hn)]; exact q) fun c xs q => by rw [Zas (ZbT q hn)]; exact q
end
def Rd (H : Hp) (a : Addr) (u : HO) : Prop := H a = some u ∨ ∃ o, H a = some (.frz o u)
theorem Rd.ok {P : Program} {w : World} {H : Hp} {h : Heap} {a : Addr} {u : HO} (r : Rd H a u) (x : HOk P w H h) : ZaV P w H h a u := by
 rcases r with r | ⟨o, r⟩
 ·exact x a u r
 ·obtain ⟨_, q⟩ := x a _ r
  exact q
def Mut : Option HO → Prop
 | some (.lst _) => True
 | some (.dK _) => True
 | some (.dT _) => True
 | some (.set _ _) => True
 | some (.ins _ _ _) => True
 | some (.ext _) => True
 | _ => False
section
variable {P : Program} {w : World} {H : Hp} {h h' : Heap} {x e : Addr} {o' : HO}
theorem HOk.write (ok : HOk P w H h) (mu : Mut (H x)) (he : e = x ∨ H e = some (.own x)) (k : ∀ b u, b ≠ e → h.get? b = some u → h'.get? b = some u) (heo : ∃ u, h'.get? e = some u)
  (new : ZaV P w (upd H x o') h' x o') : HOk P w (upd H x o') h' := fun b u q => by
 have nown : ∀ c y, H c = some (.own y) → c ≠ x := fun c y r z => by subst z; rw [r] at mu; exact mu
 have ntup : ∀ c xs, H c = some (.tup xs) → c ≠ x := fun c xs r z => by subst z; rw [r] at mu; exact mu
 by_cases hb : b = x
 ·subst hb; rw [ZbX] at q; cases q; exact new
 ·rw [Zas hb] at q
  by_cases hbe : b = e
  ·have q' : H b = some (.own x) := by
    rcases he with z | z
    ·exact absurd (hbe.trans z) hb
    ·rw [hbe]; exact z
   rw [q] at q'; cases q'
   obtain ⟨v, hv⟩ := heo
   exact ⟨v, by rw [hbe]; exact hv⟩
  ·refine (ok b u q).stay (fun c v hc r => k c v ?_ r) (fun c r => by rw [Zas (nown c b r)]; exact r) fun c xs r => by rw [Zas (ntup c xs r)]; exact r
   rcases hc with rfl | hc
   ·exact hbe
   ·rintro rfl
    rcases he with z | z
    ·exact nown c b hc z
    ·rw [hc] at z; cases z; exact hb rfl
end
structure Un (fs ex : List Addr) (H H' : Hp) (h h' : Heap) : Prop where
 keep : ∀ b o, h.get? b = some o → H b = none → b ∉ fs → b ∉ ex → h'.get? b = some o
 slot : ∀ b o, h.get? b = some o → H b = none → b ∈ fs → b ∉ ex → ∃ sl, h'.get? b = some { o with slots := sl }
 free : ∀ b o, h.get? b = some o → H b = none → b ∉ ex → H' b = none
 there : ∀ b o, h.get? b = some o → b ∉ ex → ∃ o', h'.get? b = some o'
 tups : ∀ b xs, H b = some (.tup xs) → H' b = some (.tup xs)
 frzs : ∀ b o u, H b = some (.frz o u) → H' b = some (.frz o u)
 tbls : ∀ b ps, H b = some (.tbl ps) → ∃ more, H' b = some (.tbl (ps ++ more))
section
variable {fs fs' ex ex' : List Addr} {H H1 H2 : Hp} {h h1 h2 h' : Heap} {a x e : Addr} {o : HO}
theorem Un.any (u : Un fs ex H H1 h h1) {b : Addr} {ob : Obj} (q : h.get? b = some ob) (n : H b = none) (hx : b ∉ ex) : ∃ sl, h1.get? b = some { ob with slots := sl } := by
 by_cases hb : b ∈ fs
 ·exact u.slot b ob q n hb hx
 ·exact ⟨ob.slots, u.keep b ob q n hb hx⟩
theorem Un.trans (a : Un fs ex H H1 h h1) (b : Un fs ex H1 H2 h1 h2) : Un fs ex H H2 h h2 where
 keep := fun c ob q n hc hx => b.keep c ob (a.keep c ob q n hc hx) (a.free c ob q n hx) hc hx
 slot := fun c ob q n hc hx => by
  obtain ⟨sl, e1⟩ := a.slot c ob q n hc hx
  obtain ⟨sl', e2⟩ := b.slot c _ e1 (a.free c ob q n hx) hc hx
  exact ⟨sl', e2⟩
 free := fun c ob q n hx => by
  obtain ⟨o', e1⟩ := a.there c ob q hx
  exact b.free c o' e1 (a.free c ob q n hx) hx
 there := fun c ob q hx => by
  obtain ⟨o', e1⟩ := a.there c ob q hx
  exact b.there c o' e1 hx
 tups := fun c xs q => b.tups c xs (a.tups c xs q)
 frzs := fun c ob xs q => b.frzs c ob xs (a.frzs c ob xs q)
 tbls := fun c ps q => by
  obtain ⟨m1, e1⟩ := a.tbls c ps q
  obtain ⟨m2, e2⟩ := b.tbls c _ e1
  exact ⟨m1 ++ m2, by rw [e2, Array.append_assoc]⟩
theorem Un.kept (k : ∀ b u, h.get? b = some u → h'.get? b = some u) : Un fs ex H H h h' :=
 ⟨fun b ob q _ _ _ => k b ob q, fun b ob q _ _ _ => ⟨ob.slots, k b ob q⟩, fun _ _ _ n _ => n, fun b ob q _ => ⟨ob, k b ob q⟩, fun _ _ q => q, fun _ _ _ q => q, fun _ ps q => ⟨#[], by rw [q]; simp⟩⟩
theorem Un.refl : Un fs ex H H h h := Un.kept fun _ _ q => q
theorem Un.laid (k : ∀ b u, h.get? b = some u → h'.get? b = some u) (hp : h.objs.size ≤ a) (hn : H a = none) : Un fs ex H (upd H a o) h h' where
 keep := fun b u q _ _ _ => k b u q
 slot := fun b u q _ _ _ => ⟨u.slots, k b u q⟩
 free := fun b u q n _ => by rw [Zas (Nat.ne_of_lt (Nat.lt_of_lt_of_le (Heap.lt_size q) hp))]; exact n
 there := fun b u q _ => ⟨u, k b u q⟩
 tups := fun b xs q => by rw [Zas (ZbT q hn)]; exact q
 frzs := fun b u xs q => by rw [Zas (ZbT q hn)]; exact q
 tbls := fun b ps q => ⟨#[], by rw [Zas (ZbT q hn), q]; simp⟩
theorem Un.write (mu : Mut (H x)) (he : e = x ∨ H e = some (.own x)) (k : ∀ b u, b ≠ e → h.get? b = some u → h'.get? b = some u) (heo : ∃ u, h'.get? e = some u) : Un fs ex H (upd H x o) h h' := by
 have hx : ∀ b, H b = none → b ≠ x := fun b n z => by subst z; rw [n] at mu; exact mu
 have hb : ∀ b, H b = none → b ≠ e := fun b n z => by
  subst z
  rcases he with r | r
  ·exact hx b n r
  ·rw [n] at r; cases r
 have hm : ∀ b u, H b = some u → ¬ Mut (some u) → b ≠ x := fun b u q nm z => by subst z; rw [q] at mu; exact nm mu
 refine ⟨fun b u q n _ _ => k b u (hb b n) q, fun b u q n _ _ => ⟨u.slots, k b u (hb b n) q⟩, fun b u q n _ => by rw [Zas (hx b n)]; exact n, fun b u q _ => ?_,
  fun b xs q => by rw [Zas (hm b _ q fun z => z)]; exact q, fun b u xs q => by rw [Zas (hm b _ q fun z => z)]; exact q, fun b ps q => ⟨#[], by rw [Zas (hm b _ q fun z => z), q]; simp⟩⟩
 by_cases hbe : b = e
 ·subst hbe; exact heo
 ·exact ⟨u, k b u hbe q⟩
theorem Un.mono (u : Un fs ex H H1 h h1) (hs : ∀ b ∈ fs, b ∈ fs') (hx : ∀ b ∈ ex, b ∈ ex') : Un fs' ex' H H1 h h1 :=
 ⟨fun b ob q n hb he => u.keep b ob q n (fun z => hb (hs b z)) fun z => he (hx b z), fun _ _ q n _ he => u.any q n fun z => he (hx _ z), fun b ob q n he => u.free b ob q n fun z => he (hx b z), fun b ob q he => u.there b ob q fun z => he (hx b z), u.tups, u.frzs, u.tbls⟩
end
def trk (h : Heap) (H : Hp) : List Addr := (List.range h.objs.size).filter fun a => (H a).isSome
def ZeG (h : Heap) (H : Hp) : Heap := PySem.W.hideAll h (trk h H)
theorem ZgD (h : Heap) (H : Hp) : (ZeG h H).objs.size = h.objs.size := PySem.W.hideAll_size _ _
theorem Zho {h : Heap} {H : Hp} {b : Addr} {o : Obj} (e : h.get? b = some o) (n : H b = none) : (ZeG h H).get? b = some o :=
 PySem.W.hideAll_get _ e fun hm => by
  have q : (H b).isSome = true := (List.mem_filter.mp hm).2
  rw [n] at q; simp at q
theorem ZhD {h : Heap} {H : Hp} {b : Addr} {o : Obj} (e : (ZeG h H).get? b = some o) : h.get? b = some o ∧ H b = none := by
 have e' : h.get? b = some o := PySem.W.of_hideAll (trk h H) e
 refine ⟨e', ?_⟩
 cases q : H b with
 | none => rfl
 | some x =>
  have hm : b ∈ trk h H := List.mem_filter.mpr ⟨List.mem_range.mpr (Heap.lt_size e'), by simp [q]⟩
  have z : (ZeG h H).get? b = none := PySem.W.hideAll_none (trk h H) hm
  rw [z] at e; cases e
def ZhT (g h : Heap) (L : Addr) : List (Addr × Obj) := (List.range h.objs.size).filterMap fun a => if a = L ∨ (g.get? a).isSome = true then none else (h.get? a).map fun o => (a, o)
def rest (g h : Heap) (L d : Addr) : List (Addr × Obj) := (ZhT g h L).filter fun p => decide (p.1 ≠ d)
end L2
namespace L2
open PySem PySem.Spec PyProof.Rows
structure Mod (K : PySem.W.Frag) (mg : Str → Option Value) (base : Heap) : Prop where
 kin : K.In base
 glob : base.Ns mainGlobals mg
 blt : ∃ mb, base.Ns builtinsNs mb ∧ ∀ x : Str, x ≠ "__name__" → mb x = bootBuiltins x
 nolimit : base.NoLimit
/-- the context: a def's body (or a comprehension's block) running. base: fixed through the whole law; s₀, H₀: the entry; outer: the frames whose slots others may change (a def's callers); stack: all frames that run;
  ex: iterators that were made ahead of the entry and are walked here (a comprehension's); fn: the names whose cells were made at the entry (a def: all; a comprehension's block: its own); calm: not within an except suite; pn: pins that every state bears; xe: what is wanted of an exception that leaves the code -/
structure Cx where
 prog : Program
 w : World
 K : PySem.W.Frag
 mg : Str → Option Value
 base : Heap
 A : Around
 N : List Str
 s₀ : Shared
 H₀ : Hp
 env : Env
 outer : List Env
 stack : List Env
 ex : List Addr
 fn : Str → Bool
 calm : Bool
 pn : List (Addr × Obj)
 xe : Value → Shared → Prop
def frs (l : List Env) : List Addr := l.filterMap (·.frame)
abbrev Cx.fs (X : Cx) : List Addr := frs X.outer
def Vis (sc : Scope) (x : Str) : Prop := sc.names.lookup x = some .local ∨ sc.names.lookup x = some .cell ∨ sc.names.lookup x = some .free
def Loc (sc : Scope) (x : Str) : Prop := sc.names.lookup x = some .local ∨ sc.names.lookup x = some .cell
def Look (env : Env) (h : Heap) (m : Str → Option Value) (x : Str) (u : Value) : Prop :=
 (env.kindOf x = some .local ∧ m x = some u) ∨ ((env.kindOf x = some .cell ∨ env.kindOf x = some .free) ∧ ∃ c, env.cells.lookup x = some c ∧ h.IsCell c (some u))
structure Cx.Ok (X : Cx) : Prop where
 mod : Mod X.K X.mg X.base
 kind : X.env.scope.kind = .function
 glob : X.env.globals = mainGlobals
 blt : X.env.builtins = builtinsNs
 above : X.s₀.heap.objs.size ≤ X.env.locals
 inj : ∀ x y c, X.env.cells.lookup x = some c → X.env.cells.lookup y = some c → x = y
 has : ∀ x, (X.env.kindOf x = some .cell ∨ X.env.kindOf x = some .free) → ∃ c, X.env.cells.lookup x = some c
 cab : ∀ x c, X.fn x = true → X.env.cells.lookup x = some c → X.s₀.heap.objs.size ≤ c
 hd : X.calm = true → X.A.handled = none
 frames : X.A.frames = some X.stack
 stk : X.stack = X.outer ∨ (X.stack = X.env :: X.outer ∧ X.env.frame = some X.env.locals)
 exf : ∀ b ∈ X.ex, b ≠ X.env.locals ∧ ∀ x c, X.env.cells.lookup x = some c → c ≠ b
 bs : ∀ b o, X.base.get? b = some o → X.s₀.heap.get? b = some o ∧ X.H₀ b = none
 bsz : X.base.objs.size ≤ X.s₀.heap.objs.size
 noex : ∀ b o, X.base.get? b = some o → b ∉ X.ex
 exfs : ∀ b ∈ X.ex, b ∉ X.fs
 funs : X.s₀.heap.FunFrames X.base X.outer
 frf : ∀ b ∈ X.fs, X.H₀ b = none
structure Inv (X : Cx) (pins : List (Addr × Obj)) (σ : List (Option V)) (H : Hp) (s : Shared) : Prop where
 ok : X.Ok
 os : s.os = X.s₀.os
 bare : AllBare s.gens
 base : Un X.fs X.ex X.H₀ H X.s₀.heap s.heap
 loc : ∃ m, s.heap.Ns X.env.locals m ∧ ∀ (i : Nat) (x : Str) (v : V), X.N[i]? = some x → σ[i]? = some (some v) → Vis X.env.scope x → ∃ u, RelV v u ∧ Look X.env s.heap m x u
 cell : ∀ x c, X.env.cells.lookup x = some c → ∃ v, s.heap.IsCell c v
 free : H X.env.locals = none
 freeC : ∀ x c, X.env.cells.lookup x = some c → H c = none
 pin : ∀ p ∈ X.pn ++ pins, s.heap.get? p.1 = some p.2 ∧ H p.1 = none ∧ p.1 ≠ X.env.locals ∧ p.1 ∉ X.fs ∧ ∀ v, p.2.data ≠ .cell v
 hok : HOk X.prog X.w H s.heap
 len : σ.length = X.N.length
section
variable {X : Cx} {pins : List (Addr × Obj)} {σ : List (Option V)} {H H' : Hp} {s : Shared} {h' : Heap}
theorem Cx.Ok.nofr (ok : X.Ok) {b : Addr} {o : Obj} (e : X.base.get? b = some o) : b ∉ X.fs := fun hb => by
 have := (ok.funs.mem hb).1
 rw [e] at this; cases this
theorem Inv.bs (I : Inv X pins σ H s) : ∀ b o, X.base.get? b = some o → s.heap.get? b = some o ∧ H b = none := fun b o e =>
 ⟨I.base.keep b o (I.ok.bs b o e).1 (I.ok.bs b o e).2 (I.ok.nofr e) (I.ok.noex b o e), I.base.free b o (I.ok.bs b o e).1 (I.ok.bs b o e).2 (I.ok.noex b o e)⟩
theorem Inv.bk (I : Inv X pins σ H s) : ∀ b o, X.base.get? b = some o → s.heap.get? b = some o := fun b o e => (I.bs b o e).1
theorem Inv.mod (I : Inv X pins σ H s) : Mod X.K X.mg X.base := I.ok.mod
theorem Inv.kIn (I : Inv X pins σ H s) : X.K.In s.heap := I.ok.mod.kin.keeps I.bk
theorem Inv.nolimit (I : Inv X pins σ H s) : s.heap.NoLimit := I.ok.mod.nolimit.keeps I.bk
theorem Inv.lt (I : Inv X pins σ H s) : X.env.locals < s.heap.objs.size := let ⟨_, hn, _⟩ := I.loc; hn.lt
theorem Inv.sz (I : Inv X pins σ H s) : X.s₀.heap.objs.size ≤ s.heap.objs.size := Nat.le_trans I.ok.above (Nat.le_of_lt I.lt)
theorem Inv.nofs (I : Inv X pins σ H s) {a : Addr} (h : s.heap.objs.size ≤ a) : a ∉ X.fs := fun hb => by
 obtain ⟨_, o, ho, _⟩ := I.ok.funs.mem hb
 exact absurd (Nat.lt_of_lt_of_le (Heap.lt_size ho) (Nat.le_trans I.sz h)) (Nat.lt_irrefl _)
theorem Inv.cne (I : Inv X pins σ H s) : ∀ x c, X.env.cells.lookup x = some c → c ≠ X.env.locals := fun x c e z => by
 obtain ⟨v, o, ho, hd⟩ := I.cell x c e
 obtain ⟨m, ⟨o', es, ep, ho', hd', _⟩, _⟩ := I.loc
 rw [z, ho'] at ho; cases ho; rw [hd'] at hd; cases hd
theorem Inv.funs (I : Inv X pins σ H s) : s.heap.FunFrames X.base X.outer := by
 have all : ∀ (l : List Env), (∀ b ∈ frs l, b ∈ X.fs) → X.s₀.heap.FunFrames X.base l → s.heap.FunFrames X.base l := by
  intro l
  induction l with
  | nil => intro _ _; trivial
  | cons env r ih =>
   intro hs hl
   obtain ⟨hk, ⟨L, o, hf, hn, ho, hd⟩, hr⟩ := hl
   have hL : L ∈ X.fs := hs L (by unfold frs; rw [List.filterMap_cons, hf]; exact List.mem_cons_self)
   obtain ⟨sl, e⟩ := I.base.slot L o ho (I.ok.frf L hL) hL fun z => I.ok.exfs L z hL
   exact ⟨hk, ⟨L, _, hf, hn, e, hd⟩, ih (fun b hb => hs b (by unfold frs; rw [List.filterMap_cons, hf]; exact List.mem_cons_of_mem _ hb)) hr⟩
 exact all X.outer (fun _ hb => hb) I.ok.funs
theorem Inv.stack (I : Inv X pins σ H s) : s.heap.FunFrames X.base X.stack := by
 rcases I.ok.stk with e | ⟨e, hf⟩
 ·rw [e]; exact I.funs
 ·rw [e]
  obtain ⟨m, hn, _⟩ := I.loc
  refine .cons (by rw [I.ok.kind]; decide) hf hn ?_ I.funs
  exact Heap.get?_none_of_le (Nat.le_trans I.ok.bsz I.ok.above)
theorem Inv.stkSub (I : Inv X pins σ H s) : ∀ b ∈ frs X.stack, b ∈ X.env.locals :: X.fs := fun b hb => by
 rcases I.ok.stk with e | ⟨e, hf⟩
 ·rw [e] at hb; exact List.mem_cons_of_mem _ hb
 ·rw [e] at hb
  unfold frs at hb
  rw [List.filterMap_cons, hf] at hb
  exact hb
theorem Inv.stkFree (I : Inv X pins σ H s) : ∀ b ∈ frs X.stack, H b = none := fun b hb => by
 rcases List.mem_cons.mp (I.stkSub b hb) with e | hb
 ·rw [e]; exact I.free
 ·obtain ⟨_, o, ho, _⟩ := I.ok.funs.mem hb
  exact I.base.free b o ho (I.ok.frf b hb) fun z => I.ok.exfs b z hb
theorem Inv.step {g' : Array GenState} {t' : Nat} {d' : Drawn} {ch : List Addr} (I : Inv X pins σ H s)
  (hch : ∀ b ∈ ch, (b ∈ X.ex ∨ X.s₀.heap.objs.size ≤ b) ∧ b ≠ X.env.locals ∧ (∀ x c, X.env.cells.lookup x = some c → c ≠ b) ∧ ∀ p ∈ X.pn ++ pins, p.1 ≠ b)
  (keep : ∀ b o, b ≠ X.env.locals → b ∉ X.fs → b ∉ ch → s.heap.get? b = some o → H b = none → h'.get? b = some o)
  (slot : ∀ b o, b ≠ X.env.locals → b ∈ X.fs → b ∉ ch → s.heap.get? b = some o → H b = none → ∃ sl, h'.get? b = some { o with slots := sl }) (free : ∀ b o, b ∉ ch → s.heap.get? b = some o → H b = none → H' b = none)
  (there : ∀ b o, b ∉ ch → s.heap.get? b = some o → ∃ o', h'.get? b = some o')
  (tups : ∀ b xs, H b = some (.tup xs) → H' b = some (.tup xs)) (frzs : ∀ b o u, H b = some (.frz o u) → H' b = some (.frz o u)) (tbls : ∀ b ps, H b = some (.tbl ps) → ∃ more, H' b = some (.tbl (ps ++ more)))
  (ns : ∀ m, s.heap.Ns X.env.locals m → h'.Ns X.env.locals m) (hok : HOk X.prog X.w H' h') (hg : AllBare g') :
  Inv X pins σ H' { s with heap := h', gens := g', drawn := d', toks := t' } := by
 have neL : ∀ b o, X.s₀.heap.get? b = some o → b ≠ X.env.locals := fun b o e => Nat.ne_of_lt (Nat.lt_of_lt_of_le (Heap.lt_size e) I.ok.above)
 have neC : ∀ b o, X.s₀.heap.get? b = some o → b ∉ X.ex → b ∉ ch := fun b o e hx hb => by
  rcases (hch b hb).1 with z | z
  ·exact hx z
  ·exact absurd (Nat.lt_of_lt_of_le (Heap.lt_size e) z) (Nat.lt_irrefl _)
 have cellK : ∀ x c, X.env.cells.lookup x = some c → ∀ v, s.heap.IsCell c v → h'.IsCell c v := fun x c e v ⟨o, ho, hd⟩ => by
  have nch : c ∉ ch := fun z => (hch c z).2.2.1 x c e rfl
  by_cases hc : c ∈ X.fs
  ·obtain ⟨sl, q⟩ := slot c o (I.cne x c e) hc nch ho (I.freeC x c e)
   exact ⟨_, q, hd⟩
  ·exact ⟨o, keep c o (I.cne x c e) hc nch ho (I.freeC x c e), hd⟩
 refine ⟨I.ok, I.os, hg, ⟨fun b o e n hb hx => ?_, fun b o e n hb hx => ?_, fun b o e n hx => ?_, fun b o e hx => ?_, fun b xs e => tups b xs (I.base.tups b xs e), fun b o xs e => frzs b o xs (I.base.frzs b o xs e), fun b ps e => ?_⟩, ?_, fun x c e => ?_, ?_, fun x c e => ?_, fun p hp => ?_, hok, I.len⟩
 ·exact keep b o (neL b o e) hb (neC b o e hx) (I.base.keep b o e n hb hx) (I.base.free b o e n hx)
 ·obtain ⟨sl, e1⟩ := I.base.slot b o e n hb hx
  obtain ⟨sl', e2⟩ := slot b _ (neL b o e) hb (neC b o e hx) e1 (I.base.free b o e n hx)
  exact ⟨sl', e2⟩
 ·obtain ⟨o', e1⟩ := I.base.there b o e hx
  exact free b o' (neC b o e hx) e1 (I.base.free b o e n hx)
 ·obtain ⟨o', e1⟩ := I.base.there b o e hx
  exact there b o' (neC b o e hx) e1
 ·obtain ⟨m1, e1⟩ := I.base.tbls b ps e
  obtain ⟨m2, e2⟩ := tbls b _ e1
  exact ⟨m1 ++ m2, by rw [e2, Array.append_assoc]⟩
 ·obtain ⟨m, hn, hl⟩ := I.loc
  refine ⟨m, ns m hn, fun i x v e1 e2 e3 => ?_⟩
  obtain ⟨u, r, l⟩ := hl i x v e1 e2 e3
  refine ⟨u, r, ?_⟩
  rcases l with l | ⟨k, c, e, z⟩
  ·exact .inl l
  ·exact .inr ⟨k, c, e, cellK x c e _ z⟩
 ·obtain ⟨v, z⟩ := I.cell x c e
  exact ⟨v, cellK x c e v z⟩
 ·obtain ⟨m, ⟨o, _, _, ho, _⟩, _⟩ := I.loc
  exact free _ o (fun z => (hch _ z).2.1 rfl) ho I.free
 ·obtain ⟨v, o, ho, hd⟩ := I.cell x c e
  exact free c o (fun z => (hch c z).2.2.1 x c e rfl) ho (I.freeC x c e)
 ·obtain ⟨e, n, ne, nf, d⟩ := I.pin p hp
  have nch : p.1 ∉ ch := fun z => (hch p.1 z).2.2.2 p hp rfl
  exact ⟨keep p.1 p.2 ne nf nch e n, free p.1 p.2 nch e n, ne, nf, d⟩
theorem Inv.un {t' : Nat} (I : Inv X pins σ H s) (u : Un X.fs [] H H' s.heap h') (hok : HOk X.prog X.w H' h') : Inv X pins σ H' { s with heap := h', toks := t' } := by
 obtain ⟨m, ⟨o, es, ep, ho, r⟩, _⟩ := id I.loc
 obtain ⟨sl, hL⟩ := u.any ho I.free (by simp)
 exact I.step (g' := s.gens) (d' := s.drawn) (ch := []) (fun _ z => nomatch z) (fun b o _ hb _ e n => u.keep b o e n hb (by simp)) (fun b o _ hb _ e n => u.slot b o e n hb (by simp)) (fun b o _ e n => u.free b o e n (by simp)) (fun b o _ e => u.there b o e (by simp)) u.tups u.frzs u.tbls (fun m' hm => by
  obtain ⟨o', es', ep', ho', r'⟩ := hm
  rw [ho] at ho'; cases ho'
  exact ⟨_, es', ep', hL, r'⟩) hok I.bare
theorem Inv.call {g' : Array GenState} {t' : Nat} {d' : Drawn} {ch : List Addr} (I : Inv X pins σ H s) (u : Un (frs X.stack) ch H H' s.heap h') (hok : HOk X.prog X.w H' h') (hg : AllBare g')
  (hch : ∀ b ∈ ch, (b ∈ X.ex ∨ X.s₀.heap.objs.size ≤ b) ∧ b ≠ X.env.locals ∧ (∀ x c, X.env.cells.lookup x = some c → c ≠ b) ∧ ∀ p ∈ X.pn ++ pins, p.1 ≠ b) :
  Inv X pins σ H' { s with heap := h', gens := g', drawn := d', toks := t' } := by
 obtain ⟨m, ⟨o, es, ep, ho, r⟩, _⟩ := id I.loc
 obtain ⟨sl, hL⟩ := u.any ho I.free fun z => (hch _ z).2.1 rfl
 exact I.step (ch := ch) hch (fun b o hL hb hc e n => u.keep b o e n (fun z => (List.mem_cons.mp (I.stkSub b z)).elim hL hb) hc) (fun b o _ _ hc e n => u.any e n hc) (fun b o hc e n => u.free b o e n hc) (fun b o hc e => u.there b o e hc) u.tups u.frzs u.tbls (fun m' hm => by
  obtain ⟨o', es', ep', ho', r'⟩ := hm
  rw [ho] at ho'; cases ho'
  exact ⟨_, es', ep', hL, r'⟩) hok hg
theorem Inv.turned {t' : Nat} {it : Addr} (I : Inv X pins σ H s) (k : ∀ b o, b ≠ it → s.heap.get? b = some o → h'.get? b = some o) (hn : H it = none) (hL : it ≠ X.env.locals)
  (h1 : it ∈ X.ex ∨ X.s₀.heap.objs.size ≤ it) (h2 : ∀ x c, X.env.cells.lookup x = some c → c ≠ it) (h3 : ∀ p ∈ X.pn ++ pins, p.1 ≠ it) : Inv X pins σ H { s with heap := h', toks := t' } := by
 have nit : ∀ b u, H b = some u → b ≠ it := fun b u e z => by rw [z, hn] at e; cases e
 refine I.step (g' := s.gens) (d' := s.drawn) (ch := [it]) (fun b hb => ?_) (fun b o _ _ hc e _ => k b o (fun z => hc (by simp [z])) e) (fun b o _ _ hc e _ => ⟨o.slots, k b o (fun z => hc (by simp [z])) e⟩) (fun _ _ _ _ n => n)
  (fun b o hc e => ⟨o, k b o (fun z => hc (by simp [z])) e⟩) (fun _ _ e => e) (fun _ _ _ e => e) (fun b ps e => ⟨#[], by rw [e]; simp⟩) (fun m hm => ?_) (fun b u e => ?_) I.bare
 ·have e : b = it := by simpa using hb
  subst e
  exact ⟨h1, hL, h2, h3⟩
 ·obtain ⟨o, es, ep, ho, r⟩ := hm
  exact ⟨o, es, ep, k _ o (Ne.symm hL) ho, r⟩
 ·refine (I.hok b u e).stay (fun c v hc q => k c v ?_ q) (fun _ q => q) fun _ _ q => q
  rcases hc with z | z
  ·rw [z]; exact nit b u e
  ·exact nit c _ z
theorem Inv.tok (I : Inv X pins σ H s) (t : Nat) : Inv X pins σ H { s with toks := t } := I.un (h' := s.heap) (t' := t) Un.refl I.hok
theorem Inv.kept {t' : Nat} (I : Inv X pins σ H s) (k : ∀ b u, s.heap.get? b = some u → h'.get? b = some u) : Inv X pins σ H { s with heap := h', toks := t' } := I.un (Un.kept k) (I.hok.kept k)
theorem Inv.laid {a : Addr} {o : HO} {t' : Nat} (I : Inv X pins σ H s) (k : ∀ b u, s.heap.get? b = some u → h'.get? b = some u) (hp : s.heap.objs.size ≤ a) (new : ZaV X.prog X.w (upd H a o) h' a o) :
  Inv X pins σ (upd H a o) { s with heap := h', toks := t' } := I.un (Un.laid k hp (I.hok.fresh hp)) (I.hok.laid k hp new)
theorem Inv.write {x e : Addr} {o : HO} {t' : Nat} (I : Inv X pins σ H s) (mu : Mut (H x)) (he : e = x ∨ H e = some (.own x)) (k : ∀ b u, b ≠ e → s.heap.get? b = some u → h'.get? b = some u) (heo : ∃ u, h'.get? e = some u)
  (new : ZaV X.prog X.w (upd H x o) h' x o) : Inv X pins σ (upd H x o) { s with heap := h', toks := t' } := I.un (Un.write mu he k heo) (I.hok.write mu he k heo new)
theorem Inv.pins_of {pins' : List (Addr × Obj)} (I : Inv X pins σ H s) (h : ∀ p ∈ pins', s.heap.get? p.1 = some p.2 ∧ H p.1 = none ∧ p.1 ≠ X.env.locals ∧ p.1 ∉ X.fs ∧ ∀ v, p.2.data ≠ .cell v) : Inv X pins' σ H s :=
 ⟨I.ok, I.os, I.bare, I.base, I.loc, I.cell, I.free, I.freeC, fun p hp => (List.mem_append.mp hp).elim (fun z => I.pin p (List.mem_append_left _ z)) (h p), I.hok, I.len⟩
theorem Ze8 {N : List Str} (hN : N.Nodup) {i j : Nat} {x : Str} (a : N[i]? = some x) (b : N[j]? = some x) : i = j := by
 obtain ⟨h1, e1⟩ := List.getElem?_eq_some_iff.mp a
 obtain ⟨h2, e2⟩ := List.getElem?_eq_some_iff.mp b
 exact (List.getElem_inj hN).mp (e1.trans e2.symm)
theorem Zgq {M : Model} {A : Around} {E : Value → Shared → Prop} {i : Nat} {x : Str} {v : V} {u : Value} {Q : Unit → Shared → Prop} (I : Inv X pins σ H s) (hN : X.N.Nodup) (hi : X.N[i]? = some x) (hx : Loc X.env.scope x) (r : RelV v u)
  (h : ∀ s', Inv X pins (σ.set i (some v)) H s' → (∃ a, Heap.SameBut a s.heap s'.heap ∧ (a = X.env.locals ∨ X.env.cells.lookup x = some a)) → Q () s') (hf : X.fn x = true ∨ X.env.scope.names.lookup x = some .local := by first | exact .inl rfl | exact .inr rfl | assumption) : wpAny M A (storeName X.env x u) Q E s := by
 obtain ⟨m, hn, hl⟩ := id I.loc
 have hcls : (X.env.scope.kind == .class || (X.env.scope.kind == .module && X.env.locals != X.env.globals)) = false := by rw [I.ok.kind]; rfl
 have hiσ : i < σ.length := by rw [I.len]; exact (List.getElem?_eq_some_iff.mp hi).1
 have cne := I.cne
 have tracked : ∀ {a : Addr} {h' : Heap}, (∃ o, s.heap.get? a = some o ∧ H a = none) → Heap.SameBut a s.heap h' → HOk X.prog X.w H h' := fun {a h'} ha hs b ob e => by
  obtain ⟨_, _, hfree⟩ := ha
  refine (I.hok b ob e).stay (fun c w' hc q => (hs.2 c ?_).trans q) (fun _ q => q) fun _ _ q => q
  rintro rfl
  rcases hc with rfl | hc
  ·rw [hfree] at e; cases e
  ·rw [hfree] at hc; cases hc
 rcases hx with hk | hk
 ·refine wpAny_storeName_local hk hn (fun h' hn' hs => ?_) hcls
  obtain ⟨oL, _, _, hoL, _⟩ := id hn
  refine h _ ⟨I.ok, I.os, I.bare, ⟨fun b o e n hb hx => ?_, fun b o e n hb hx => ?_, I.base.free, fun b o e hx => ?_, I.base.tups, I.base.frzs, I.base.tbls⟩, ⟨_, hn', fun j y v' e1 e2 e3 => ?_⟩, fun y c e => ?_, I.free, I.freeC, fun p hp => ?_, tracked ⟨oL, hoL, I.free⟩ hs, by simpa using I.len⟩ ⟨_, hs, .inl rfl⟩
  ·exact (hs.2 b (Nat.ne_of_lt (Nat.lt_of_lt_of_le (Heap.lt_size e) I.ok.above))).trans (I.base.keep b o e n hb hx)
  ·obtain ⟨sl, e1⟩ := I.base.slot b o e n hb hx
   exact ⟨sl, (hs.2 b (Nat.ne_of_lt (Nat.lt_of_lt_of_le (Heap.lt_size e) I.ok.above))).trans e1⟩
  ·obtain ⟨o', e1⟩ := I.base.there b o e hx
   exact ⟨o', (hs.2 b (Nat.ne_of_lt (Nat.lt_of_lt_of_le (Heap.lt_size e) I.ok.above))).trans e1⟩
  ·by_cases hj : j = i
   ·subst hj
    rw [hi] at e1; cases e1
    rw [List.getElem?_set_self hiσ] at e2
    cases e2
    exact ⟨u, r, .inl ⟨hk, by simp⟩⟩
   ·rw [List.getElem?_set_ne (Ne.symm hj)] at e2
    obtain ⟨u', r', q⟩ := hl j y v' e1 e2 e3
    refine ⟨u', r', ?_⟩
    rcases q with ⟨k, e⟩ | ⟨k, c, e, z⟩
    ·refine .inl ⟨k, ?_⟩
     have : y ≠ x := fun e => hj (Ze8 hN e1 (e ▸ hi))
     simp [this, e]
    ·exact .inr ⟨k, c, e, z.sameBut hs (cne y c e)⟩
  ·obtain ⟨w', z⟩ := I.cell y c e
   exact ⟨w', z.sameBut hs (cne y c e)⟩
  ·obtain ⟨e, n, ne, nf, d⟩ := I.pin p hp
   exact ⟨(hs.2 p.1 ne).trans e, n, ne, nf, d⟩
 ·have hfn : X.fn x = true := by
   rcases hf with z | z
   ·exact z
   ·rw [z] at hk; cases hk
  obtain ⟨c, hc⟩ := I.ok.has x (.inl hk)
  obtain ⟨w', z⟩ := I.cell x c hc
  refine wpAny_storeName_cell I.ok.kind hk hc z (fun h' hc' hs => ?_)
  obtain ⟨oc, hoc, hocd⟩ := id z
  refine h { s with heap := h' } ⟨I.ok, I.os, I.bare, ⟨fun b o e n hb hx => ?_, fun b o e n hb hx => ?_, I.base.free, fun b o e hx => ?_, I.base.tups, I.base.frzs, I.base.tbls⟩, ⟨m, hn.sameBut hs (Ne.symm (cne x c hc)), fun j y v' e1 e2 e3 => ?_⟩, fun y c' e => ?_, I.free, I.freeC, fun p hp => ?_, tracked ⟨oc, hoc, I.freeC x c hc⟩ hs, by simpa using I.len⟩ ⟨c, hs, .inr hc⟩
  ·exact (hs.2 b (Nat.ne_of_lt (Nat.lt_of_lt_of_le (Heap.lt_size e) (I.ok.cab x c hfn hc)))).trans (I.base.keep b o e n hb hx)
  ·obtain ⟨sl, e1⟩ := I.base.slot b o e n hb hx
   exact ⟨sl, (hs.2 b (Nat.ne_of_lt (Nat.lt_of_lt_of_le (Heap.lt_size e) (I.ok.cab x c hfn hc)))).trans e1⟩
  ·obtain ⟨o', e1⟩ := I.base.there b o e hx
   exact ⟨o', (hs.2 b (Nat.ne_of_lt (Nat.lt_of_lt_of_le (Heap.lt_size e) (I.ok.cab x c hfn hc)))).trans e1⟩
  ·by_cases hj : j = i
   ·subst hj
    rw [hi] at e1; cases e1
    rw [List.getElem?_set_self hiσ] at e2
    cases e2
    exact ⟨u, r, .inr ⟨.inl hk, c, hc, hc'⟩⟩
   ·rw [List.getElem?_set_ne (Ne.symm hj)] at e2
    obtain ⟨u', r', q⟩ := hl j y v' e1 e2 e3
    refine ⟨u', r', ?_⟩
    rcases q with q | ⟨k, c', e, z'⟩
    ·exact .inl q
    ·refine .inr ⟨k, c', e, z'.sameBut hs ?_⟩
     rintro rfl
     exact hj (Ze8 hN e1 (I.ok.inj _ _ _ e hc ▸ hi))
  ·by_cases hcc : c' = c
   ·subst hcc; exact ⟨_, hc'⟩
   ·obtain ⟨w2, z2⟩ := I.cell y c' e
    exact ⟨w2, z2.sameBut hs hcc⟩
  ·obtain ⟨e, n, ne, nf, d⟩ := I.pin p hp
   refine ⟨(hs.2 p.1 ?_).trans e, n, ne, nf, d⟩
   intro q
   rw [q, hoc] at e
   have q' : oc = p.2 := Option.some.inj e
   exact d w' (by rw [← q']; exact hocd)
theorem Ze5 {M : Model} {A : Around} {E : Value → Shared → Prop} {i : Nat} {x : Str} {v : V} {u : Value} {Q : Unit → Shared → Prop} (I : Inv X pins σ H s) (hN : X.N.Nodup) (hi : X.N[i]? = some x) (hx : Loc X.env.scope x) (r : RelV v u)
  (h : ∀ s', Inv X pins (σ.set i (some v)) H s' → Q () s') (hf : X.fn x = true ∨ X.env.scope.names.lookup x = some .local := by first | exact .inl rfl | exact .inr rfl | assumption) : wpAny M A (storeName X.env x u) Q E s :=
 Zgq I hN hi hx r (fun s' I' _ => h s' I') hf
theorem Inv.call' {s' : Shared} {ch : List Addr} (I : Inv X pins σ H s) (ho : s'.os = s.os) (u : Un (frs X.stack) ch H H' s.heap s'.heap) (hok : HOk X.prog X.w H' s'.heap) (hg : AllBare s'.gens)
  (hch : ∀ b ∈ ch, (b ∈ X.ex ∨ X.s₀.heap.objs.size ≤ b) ∧ b ≠ X.env.locals ∧ (∀ x c, X.env.cells.lookup x = some c → c ≠ b) ∧ ∀ p ∈ X.pn ++ pins, p.1 ≠ b) : Inv X pins σ H' s' := by
 obtain ⟨h', g', d', t', o'⟩ := s'
 have e : o' = s.os := ho
 subst e
 exact I.call (g' := g') (t' := t') (d' := d') u hok hg hch
end
abbrev XK := Value → Option Addr → Hp → Prop
abbrev St := List (Option V)
abbrev VK := V → Hp → Prop
abbrev TE := St → Hp → VK → Prop
abbrev TT := St → Hp → (Bool → Hp → Prop) → Prop
abbrev TA := St → Hp → (List V → Hp → Prop) → Prop
structure Ends where
 nx : St → Hp → Prop
 rt : VK
 bk : St → Hp → Prop := fun _ _ => False
 ct : St → Hp → Prop := fun _ _ => False
abbrev TS := Ends → St → Hp → Prop
def EP (X : Cx) (pins : List (Addr × Obj)) (σ : St) (Q : VK) (u : Value) (s' : Shared) : Prop := ∃ v H', Inv X pins σ H' s' ∧ RelV v u ∧ Q v H'
def TP (X : Cx) (pins : List (Addr × Obj)) (σ : St) (Q : Bool → Hp → Prop) (b : Bool) (s' : Shared) : Prop := ∃ H', Inv X pins σ H' s' ∧ Q b H'
def AP (X : Cx) (pins : List (Addr × Obj)) (σ : St) (Q : List V → Hp → Prop) (us : List Value) (s' : Shared) : Prop := ∃ vs H', Inv X pins σ H' s' ∧ Vals vs us ∧ Q vs H'
def SP (X : Cx) (pins : List (Addr × Obj)) (D : Ends) (f : Flow) (s' : Shared) : Prop :=
 match f with
 | .next => ∃ σ' H', Inv X pins σ' H' s' ∧ D.nx σ' H'
 | .brk => ∃ σ' H', Inv X pins σ' H' s' ∧ D.bk σ' H'
 | .cont => ∃ σ' H', Inv X pins σ' H' s' ∧ D.ct σ' H'
 | .ret u => ∃ v σ' H', Inv X pins σ' H' s' ∧ RelV v u ∧ D.rt v H'
def PE (X : Cx) (e : Expr) (t : TE) : Prop :=
 ∀ (pins : List (Addr × Obj)) (s : Shared) (σ : St) (H : Hp) (Q : VK), Inv X pins σ H s → t σ H Q → wpAny (model X.prog X.w) X.A (eval e X.env) (EP X pins σ Q) X.xe s
def PT (X : Cx) (e : Expr) (t : TT) : Prop :=
 ∀ (pins : List (Addr × Obj)) (s : Shared) (σ : St) (H : Hp) (Q : Bool → Hp → Prop), Inv X pins σ H s → t σ H Q → wpAny (model X.prog X.w) X.A (isTrue e X.env (eval e X.env)) (TP X pins σ Q) X.xe s
def PW (X : Cx) (e : Expr) (t : TT) : Prop :=
 ∀ (whole : Sem Value) (pins : List (Addr × Obj)) (s : Shared) (σ : St) (H : Hp) (Q : Bool → Hp → Prop), Inv X pins σ H s → t σ H Q → wpAny (model X.prog X.w) X.A (isTrue e X.env whole) (TP X pins σ Q) X.xe s
theorem PW.pt {X : Cx} {e : Expr} {t : TT} (h : PW X e t) : PT X e t := h _
def PA (X : Cx) (es : List Expr) (t : TA) : Prop :=
 ∀ (pos : Pos) (pins : List (Addr × Obj)) (s : Shared) (σ : St) (H : Hp) (Q : List V → Hp → Prop), Inv X pins σ H s → t σ H Q → wpAny (model X.prog X.w) X.A (spliced (backTo pos (starEach es X.env))) (AP X pins σ Q) X.xe s
def PS (X : Cx) (st : Stmt) (t : TS) : Prop :=
 ∀ (pins : List (Addr × Obj)) (s : Shared) (σ : St) (H : Hp) (D : Ends), Inv X pins σ H s → t D σ H → wpAny (model X.prog X.w) X.A (exec st X.env) (SP X pins D) X.xe s
def PSs (X : Cx) (st : List Stmt) (t : TS) : Prop :=
 ∀ (pins : List (Addr × Obj)) (s : Shared) (σ : St) (H : Hp) (D : Ends), Inv X pins σ H s → t D σ H → wpAny (model X.prog X.w) X.A (execs st X.env) (SP X pins D) X.xe s
theorem thn {α : Type} {t : Sem α} {Q Q' : α → Shared → Prop} {M : Model} {A : Around} {E : Value → Shared → Prop} {s : Shared} (h : wpAny M A t Q E s) (hQ : ∀ a s, Q a s → Q' a s) : wpAny M A t Q' E s := wpAny_mono h hQ fun _ _ x => x
end L2
namespace L2
open PySem PySem.Spec PyProof.Rows
section
variable {X : Cx}
def Zll (i : Nat) : TE := fun σ H Q => ∃ v, σ[i]? = some (some v) ∧ Q v H
def tC (v : V) : TE := fun _ H Q => Q v H
theorem Zi2 {i : Nat} {x : Str} {pos : Pos} (hN : X.N[i]? = some x) (hv : Vis X.env.scope x) (hd : (x == ("__debug__" : Str)) = false := by decide) (hcd : (x == ("__classdict__" : Str)) = false := by decide) : PE X (.Name x pos) (Zll i) := by
 intro pins s σ H Q I h
 obtain ⟨v, e, h⟩ := h
 obtain ⟨m, hn, hl⟩ := I.loc
 obtain ⟨u, r, l⟩ := hl i x v hN e hv
 have fin : EP X pins σ Q u s := ⟨v, H, I, r, h⟩
 rcases l with ⟨hk, hm⟩ | ⟨hk, c, hc, hcell⟩
 ·exact wpAny_Name (wpAny_loadName_local I.ok.kind hk hn hm fin) hd
 ·rcases hk with hk | hk
  ·exact wpAny_Name (wpAny_loadName_cell I.ok.kind hk hc hcell fin) hd
  ·exact wpAny_Name (wpAny_loadName_free I.ok.kind hk hc hcell fin hcd) hd
theorem ZjM {i j pos} : PE X (.Constant (.int i) j pos) (tC (.int i)) := fun _ _ _ H _ I h => wpAny_Constant_int ⟨.int i, H, I.tok _, ⟨_, rfl⟩, h⟩
theorem ZkC {b j pos} : PE X (.Constant (.bool b) j pos) (tC (.bl b)) := fun _ _ _ H _ I h => Constant_bool ⟨.bl b, H, I, rfl, h⟩
theorem ZjP {x j pos} : PE X (.Constant (.str x) j pos) (tC (.str x)) := fun _ _ _ H _ I h => Calls.Constant_str ⟨.str x, H, I.tok _, ⟨_, rfl⟩, h⟩
def Gl (X : Cx) (x : Str) : Prop := X.env.kindOf x = some .globalImplicit
theorem Zid {E : Value → Shared → Prop} {pins : List (Addr × Obj)} {s : Shared} {σ : St} {H : Hp} {x : Str} {u : Value} {pos : Pos} {Q : Value → Shared → Prop} (I : Inv X pins σ H s) (hg : Gl X x) (hm : X.mg x = some u) (h : Q u s)
  (hd : (x == ("__debug__" : Str)) = false := by decide) : wpAny (model X.prog X.w) X.A (eval (.Name x pos) X.env) Q E s :=
 Calls.Name_function_global I.ok.kind hg (Calls.loadGlobal_global (by rw [I.ok.glob]; exact I.mod.glob.keeps I.bk) hm h) hd
theorem Zdz {E : Value → Shared → Prop} {pins : List (Addr × Obj)} {s : Shared} {σ : St} {H : Hp} {x : Str} {u : Value} {pos : Pos} {Q : Value → Shared → Prop} (I : Inv X pins σ H s) (hg : Gl X x) (hm : X.mg x = none) (hv : bootBuiltins x = some u) (h : Q u s)
  (hn : x ≠ "__name__" := by decide) (hd : (x == ("__debug__" : Str)) = false := by decide) : wpAny (model X.prog X.w) X.A (eval (.Name x pos) X.env) Q E s := by
 obtain ⟨mb, h1, h2⟩ := I.mod.blt
 exact Calls.Name_function_global I.ok.kind hg (Calls.loadGlobal_builtin (by rw [I.ok.glob]; exact I.mod.glob.keeps I.bk) hm (by rw [I.ok.blt]; exact h1.keeps I.bk) ((h2 x hn).trans hv) h) hd
theorem Zex {x : Str} {v : V} {u : Value} {pos : Pos} (hg : Gl X x) (hm : X.mg x = none) (hv : bootBuiltins x = some u) (r : RelV v u) (hn : x ≠ "__name__" := by decide) (hd : (x == ("__debug__" : Str)) = false := by decide) : PE X (.Name x pos) (tC v) :=
 fun _ _ _ H _ I h => Zdz I hg hm hv ⟨v, H, I, r, h⟩ hn hd
variable {a b : Expr} {ta tb : TE} {pos : Pos}
def tB (t : TE) : TT := fun σ H Q => t σ H fun x H1 => ∃ c, x = .bl c ∧ Q c H1
theorem Zjc {e : Expr} {t : TE} (h : PE X e t) (he : ∀ whole, isTrue e X.env whole = (do let v ← whole; standAt e.pos; holding [v] (truthy v)) := by intro _; rfl) : PT X e (tB t) := by
 intro pins s σ H Q I hw
 refine isTrue_plain (thn (h pins s σ H _ I hw) fun v s1 ⟨x, H1, I1, r1, q1⟩ => ?_) (he _)
 obtain ⟨d, rfl, q⟩ := q1
 cases r1
 exact wpAny_truthy_bool ⟨H1, I1, q⟩
variable {tA tB' : TT} {rest : List Expr}
def Zlb (t u : TT) : TT := fun σ H Q => t σ H fun c H1 => if c = true then u σ H1 Q else Q false H1
def tOr (t u : TT) : TT := fun σ H Q => t σ H fun c H1 => if c = true then Q true H1 else u σ H1 Q
def Zle (t : TT) : TT := fun σ H Q => t σ H fun c H1 => Q (!c) H1
theorem Zij (ha : PT X a tA) : PW X (.BoolOp .And [a] pos) tA := by
 intro wh pins s σ H Q I h
 refine isTrue_and (thn (ha pins s σ H Q I h) fun c s1 e => ?_)
 cases c with
 | true => exact isTrue_and_nil e
 | false => exact e
theorem ZiM (ha : PT X a tA) : PW X (.BoolOp .Or [a] pos) tA := by
 intro wh pins s σ H Q I h
 refine isTrue_or (thn (ha pins s σ H Q I h) fun c s1 e => ?_)
 cases c with
 | false => exact isTrue_or_nil e
 | true => exact e
theorem Zi9 (ha : PT X a tA) (hb : PW X (.BoolOp .And (b :: rest) pos) tB') : PW X (.BoolOp .And (a :: b :: rest) pos) (Zlb tA tB') := by
 intro wh pins s σ H Q I h
 refine isTrue_and (thn (ha pins s σ H _ I h) fun c s1 ⟨H1, I1, q1⟩ => ?_)
 cases c with
 | true => exact hb wh pins s1 σ H1 Q I1 q1
 | false => exact ⟨H1, I1, q1⟩
theorem Zkh (ha : PT X a tA) (hb : PW X (.BoolOp .Or (b :: rest) pos) tB') : PW X (.BoolOp .Or (a :: b :: rest) pos) (tOr tA tB') := by
 intro wh pins s σ H Q I h
 refine isTrue_or (thn (ha pins s σ H _ I h) fun c s1 ⟨H1, I1, q1⟩ => ?_)
 cases c with
 | true => exact ⟨H1, I1, q1⟩
 | false => exact hb wh pins s1 σ H1 Q I1 q1
theorem Zjz (ha : PT X a tA) : PT X (.UnaryOp .Not a pos) (Zle tA) := by
 intro pins s σ H Q I h
 exact isTrue_not (ha pins s σ H (fun c H1 => Q (!c) H1) I h)
def Zkt (ta tb : TE) : TE := fun σ H Q => ta σ H fun x H1 => ∃ c, x = .bl c ∧ if c = true then tb σ H1 Q else Q (.bl false) H1
def ZkA (ta : TE) : TE := fun σ H Q => ta σ H fun x H1 => ∃ c, x = .bl c ∧ Q (.bl (!c)) H1
theorem ZjC {op} {t : TE} (h : PE X a t) : PE X (.BoolOp op [a] pos) t := fun pins s σ H Q I hw => BoolOp_one (h pins s σ H Q I hw)
theorem Zjn (ha : PE X a ta) (hb : PE X (.BoolOp .And (b :: rest) pos) tb) : PE X (.BoolOp .And (a :: b :: rest) pos) (Zkt ta tb) := by
 intro pins s σ H Q I h
 refine BoolOp_and (thn (ha pins s σ H _ I h) fun v s1 ⟨x, H1, I1, r1, q1⟩ => ?_)
 obtain ⟨c, rfl, q1⟩ := q1
 cases r1
 refine wpAny_truthy_bool ?_
 cases c with
 | true => exact hb pins s1 σ H1 Q I1 q1
 | false => exact ⟨.bl false, H1, I1, rfl, q1⟩
theorem ZiY (ha : PE X a ta) : PE X (.UnaryOp .Not a pos) (ZkA ta) := by
 intro pins s σ H Q I h
 refine UnaryOp_ (thn (ha pins s σ H _ I h) fun v s1 ⟨x, H1, I1, r1, q1⟩ => ?_)
 obtain ⟨c, rfl, q1⟩ := q1
 cases r1
 exact not_of (wpAny_truthy_bool ⟨.bl (!c), H1, I1, rfl, q1⟩)
def tIf (t : TT) (ta tb : TE) : TE := fun σ H Q => t σ H fun c H1 => if c = true then ta σ H1 Q else tb σ H1 Q
theorem Zhq {c : Expr} (hc : PT X c tA) (ha : PE X a ta) (hb : PE X b tb) : PE X (.IfExp c a b pos) (tIf tA ta tb) := by
 intro pins s σ H Q I h
 refine wpAny_IfExp (thn (hc pins s σ H _ I h) fun d s1 ⟨H1, I1, q1⟩ => ?_)
 cases d with
 | true => exact ha pins s1 σ H1 Q I1 q1
 | false => exact hb pins s1 σ H1 Q I1 q1
end
end L2
namespace L2
open PySem PySem.Spec PyProof.Rows
def SqL (K : PySem.W.Frag) (H : Hp) (a : Addr) (xs : List V) : Prop :=
 Rd H a (.lst xs) ∨
  ∃ (o : Obj) (its : Array Value) (n : Nat), K.lookup a = some o ∧ o.cls = .type "list" ∧ o.dict = none ∧ o.data = .seq its n ∧ its.size ≤ sizeLine ∧ Vals xs its.toList
def SqT (K : PySem.W.Frag) (H : Hp) (a : Addr) (xs : List V) : Prop :=
 Rd H a (.tup xs) ∨
  ∃ (o : Obj) (its : Array Value) (n : Nat), K.lookup a = some o ∧ (o.cls = .type "tuple" ∧ o.dict = none) ∧ o.data = .seq its n ∧ its.size ≤ sizeLine ∧ Vals xs its.toList
def Zlo : Value → Option V
 | .none => some .non
 | .bool b => some (.bl b)
 | .int i _ => some (.int i)
 | .str x _ => some (.str x)
 | .bytes b _ => some (.byt b)
 | .float b _ => some (.flt b)
 | .ref a => some (.ref a)
 | .type n => some (.ty n)
 | _ => none
theorem RelV.abs {x : V} {u : Value} (r : RelV x u) : Zlo u = some x := by
 cases x with
 | non => cases r; rfl
 | bl _ => cases r; rfl
 | int _ => obtain ⟨t, rfl⟩ := r; rfl
 | str _ => obtain ⟨t, rfl⟩ := r; rfl
 | byt _ => obtain ⟨t, rfl⟩ := r; rfl
 | flt _ => obtain ⟨t, rfl⟩ := r; rfl
 | ref _ => cases r; rfl
 | ty _ => cases r; rfl
theorem RelV.inj {x y : V} {u : Value} (r : RelV x u) (q : RelV y u) : x = y := Option.some.inj (r.abs.symm.trans q.abs)
theorem Vals.inj : ∀ {xs ys : List V} {us : List Value}, Vals xs us → Vals ys us → xs = ys
 | _, _, _, .nil, .nil => rfl
 | _, _, _, .cons r t, .cons r' t' => by rw [r.inj r', Vals.inj t t']
section
variable {X : Cx} {pins : List (Addr × Obj)} {σ : St} {H : Hp} {s : Shared} {a : Addr} {xs ys : List V}
theorem SqL.of {K : PySem.W.Frag} (h : H a = some (.lst xs)) : SqL K H a xs := .inl (.inl h)
theorem SqT.of {K : PySem.W.Frag} (h : H a = some (.tup xs)) : SqT K H a xs := .inl (.inl h)
theorem Inv.list (I : Inv X pins σ H s) (h : SqL X.K H a xs) : ∃ its : List Value, Vals xs its ∧ PlainL s.heap a its.toArray ∧ xs.length ≤ sizeLine := by
 rcases h with h | ⟨o, its, n, hk, hc, hd, hs, hz, r⟩
 ·obtain ⟨z, its, n, r, e⟩ := h.ok I.hok
  exact ⟨its, r, ⟨_, n, e, rfl, rfl, rfl⟩, z⟩
 ·refine ⟨its.toList, r, ⟨o, n, I.kIn a o hk, hc, hd, by simpa using hs⟩, ?_⟩
  have e := r.length
  simp only [Array.length_toList] at e
  omega
theorem Inv.tuple (I : Inv X pins σ H s) (h : SqT X.K H a xs) : ∃ its : List Value, Vals xs its ∧ IsTup s.heap a its.toArray ∧ xs.length ≤ sizeLine := by
 rcases h with h | ⟨o, its, n, hk, hc, hs, hz, r⟩
 ·obtain ⟨z, its, r, p⟩ := h.ok I.hok
  exact ⟨its, r, p.tup, z⟩
 ·refine ⟨its.toList, r, ⟨o, I.kIn a o hk, hc.1, n, by simpa using hs⟩, ?_⟩
  have e := r.length
  simp only [Array.length_toList] at e
  omega
theorem Inv.list_inj (I : Inv X pins σ H s) (h : SqL X.K H a xs) (h' : SqL X.K H a ys) : xs = ys := by
 obtain ⟨its, r, ⟨o, n, e, _, _, d⟩, _⟩ := I.list h
 obtain ⟨its', r', ⟨o', n', e', _, _, d'⟩, _⟩ := I.list h'
 rw [e] at e'; cases e'
 rw [d] at d'
 injection d' with d1 _
 have : its = its' := by simpa using congrArg Array.toList d1
 subst this
 exact r.inj r'
theorem Inv.tupleN (I : Inv X pins σ H s) (h : SqT X.K H a xs) : ∃ its : List Value, Vals xs its ∧ Zce s.heap a its.toArray ∧ xs.length ≤ sizeLine := by
 rcases h with h | ⟨o, its, n, hk, hc, hs, hz, r⟩
 ·obtain ⟨z, its, r, p⟩ := h.ok I.hok; exact ⟨its, r, p, z⟩
 ·refine ⟨its.toList, r, ⟨o, I.kIn a o hk, hc, n, by simpa using hs⟩, ?_⟩; have e := r.length; simp only [Array.length_toList] at e; omega
theorem Inv.tuple_inj (I : Inv X pins σ H s) (h : SqT X.K H a xs) (h' : SqT X.K H a ys) : xs = ys := by
 obtain ⟨its, r, ⟨o, e, _, n, d⟩, _⟩ := I.tuple h
 obtain ⟨its', r', ⟨o', e', _, n', d'⟩, _⟩ := I.tuple h'
 rw [e] at e'; cases e'
 rw [d] at d'
 injection d' with d1 _
 have : its = its' := by simpa using congrArg Array.toList d1
 subst this
 exact r.inj r'
end
abbrev Cx.wish (X : Cx) (E : Value → Shared → Prop) : Cx := { X with xe := E }
abbrev Cx.nox (X : Cx) : Cx := X.wish fun _ _ => False
theorem Cx.Ok.wish {X : Cx} (ok : X.Ok) (E : Value → Shared → Prop) : (X.wish E).Ok :=
 ⟨ok.mod, ok.kind, ok.glob, ok.blt, ok.above, ok.inj, ok.has, ok.cab, ok.hd, ok.frames, ok.stk, ok.exf, ok.bs, ok.bsz, ok.noex, ok.exfs, ok.funs, ok.frf⟩
theorem Cx.Ok.unwish {X : Cx} {E : Value → Shared → Prop} (ok : (X.wish E).Ok) : X.Ok :=
 ⟨ok.mod, ok.kind, ok.glob, ok.blt, ok.above, ok.inj, ok.has, ok.cab, ok.hd, ok.frames, ok.stk, ok.exf, ok.bs, ok.bsz, ok.noex, ok.exfs, ok.funs, ok.frf⟩
section
variable {X : Cx} {pins : List (Addr × Obj)} {σ : St} {H : Hp} {s : Shared} {E : Value → Shared → Prop}
theorem Inv.wish (I : Inv X pins σ H s) (E : Value → Shared → Prop) : Inv (X.wish E) pins σ H s := ⟨I.ok.wish E, I.os, I.bare, I.base, I.loc, I.cell, I.free, I.freeC, I.pin, I.hok, I.len⟩
theorem Inv.unwish (I : Inv (X.wish E) pins σ H s) : Inv X pins σ H s := ⟨I.ok.unwish, I.os, I.bare, I.base, I.loc, I.cell, I.free, I.freeC, I.pin, I.hok, I.len⟩
theorem SP.unwish {D : Ends} {f : Flow} {s' : Shared} (h : SP (X.wish E) pins D f s') : SP X pins D f s' := by
 cases f with
 | next => obtain ⟨σ', H', I, q⟩ := h; exact ⟨σ', H', I.unwish, q⟩
 | brk => obtain ⟨σ', H', I, q⟩ := h; exact ⟨σ', H', I.unwish, q⟩
 | cont => obtain ⟨σ', H', I, q⟩ := h; exact ⟨σ', H', I.unwish, q⟩
 | ret u => obtain ⟨v, σ', H', I, r, q⟩ := h; exact ⟨v, σ', H', I.unwish, r, q⟩
theorem PSs.nox {st : List Stmt} {t : TS} (h : PSs X.nox st t) : PSs X st t := fun pins s σ H D I hw =>
 wpAny_mono (h pins s σ H D (I.wish _) hw) (fun _ _ q => q.unwish) fun _ _ z => False.elim z
end
section
variable {X : Cx} {st : Stmt} {rest : List Stmt} {t u : TS} {e : Expr} {te : TE} {pos : Pos}
def Zkd : TS := fun D σ H => D.nx σ H
def Zld (t u : TS) : TS := fun D σ H => t { D with nx := u D } σ H
theorem ZhK : PSs X [] Zkd := fun _ _ σ H _ I h => wpAny_execs_nil ⟨σ, H, I, h⟩
theorem Zhb (h1 : PS X st t) (h2 : PSs X rest u) : PSs X (st :: rest) (Zld t u) := by
 intro pins s σ H D I h
 refine wpAny_execs_cons (thn (h1 pins s σ H { D with nx := u D } I h) fun f s1 q => ?_)
 cases f with
 | next =>
  obtain ⟨σ', H', I', q⟩ := q
  exact h2 pins s1 σ' H' D I' q
 | ret v => exact q
 | brk => exact q
 | cont => exact q
theorem ZhF (h1 : PS X st t) : PSs X [st] t := by
 intro pins s σ H D I h
 refine wpAny_execs_cons (thn (h1 pins s σ H D I h) fun f s1 q => ?_)
 cases f with
 | next => exact wpAny_execs_nil q
 | ret v => exact q
 | brk => exact q
 | cont => exact q
theorem Inv.quiet {pins : List (Addr × Obj)} {σ : St} {H : Hp} {s : Shared} (I : Inv X pins σ H s) : interactive X.env = false := by simp [interactive, I.ok.kind]
def Zkn (te : TE) : TS := fun D σ H => te σ H fun _ H1 => D.nx σ H1
theorem Zh9 (he : PE X e te) (hs : swapsWith e none pos.line X.env = pure false := by rfl) : PS X (.Expr e pos) (Zkn te) := by
 intro pins s σ H D I h
 exact wpAny_Expr_any (thn (he pins s σ H _ I h) fun v s1 ⟨x, H1, I1, r1, q1⟩ => ⟨σ, H1, I1, q1⟩) I.quiet hs
def Zlg (te : TE) : TS := fun D σ H => te σ H D.rt
theorem Zju (he : PE X e te) : PS X (.Return (some e) pos) (Zlg te) := by
 intro pins s σ H D I h
 exact wpAny_Return_some (thn (he pins s σ H _ I h) fun v s1 ⟨x, H1, I1, r1, q1⟩ => ⟨x, σ, H1, I1, r1, q1⟩)
def Zk8 (c : TT) (t u : TS) : TS := fun D σ H => c σ H fun b H1 => if b = true then t D σ H1 else u D σ H1
theorem ZkI {c : Expr} {a b : List Stmt} {tc : TT} (hc : PT X c tc) (ha : PSs X a t) (hb : PSs X b u) : PS X (.If c a b pos) (Zk8 tc t u) := by
 intro pins s σ H D I h
 refine wpAny_If (thn (hc pins s σ H _ I h) fun d s1 ⟨H1, I1, q1⟩ => ?_)
 cases d with
 | true => exact ha pins s1 σ H1 D I1 q1
 | false => exact hb pins s1 σ H1 D I1 q1
end
abbrev TG := V → St → Hp → (St → Hp → Prop) → Prop
abbrev TGs := List V → St → Hp → (St → Hp → Prop) → Prop
def PG (X : Cx) (target : Expr) (t : TG) : Prop :=
 ∀ (pins : List (Addr × Obj)) (s : Shared) (σ : St) (H : Hp) (v : V) (u : Value) (Q : St → Hp → Prop), Inv X pins σ H s → RelV v u → t v σ H Q →
  wpAny (model X.prog X.w) X.A (assign target X.env u) (fun _ s' => ∃ σ' H', Inv X pins σ' H' s' ∧ Q σ' H') X.xe s
def PGs (X : Cx) (ts : List Expr) (t : TGs) : Prop :=
 ∀ (pins : List (Addr × Obj)) (s : Shared) (σ : St) (H : Hp) (vs : List V) (us : List Value) (Q : St → Hp → Prop), Inv X pins σ H s → Vals vs us → t vs σ H Q →
  wpAny (model X.prog X.w) X.A (assignInOrder ((assignEach ts X.env).map (·.2)) us) (fun _ s' => ∃ σ' H', Inv X pins σ' H' s' ∧ Q σ' H') X.xe s
abbrev Zjp := V → V → V → Hp → (Hp → Prop) → Prop
def ZkJ (X : Cx) (t : Zjp) : Prop :=
 ∀ (pins : List (Addr × Obj)) (s : Shared) (σ : St) (H : Hp) (o i v : V) (ov iv u : Value) (Q : Hp → Prop), Inv X pins σ H s → RelV o ov → RelV i iv → RelV v u → t o i v H Q →
  wpAny (model X.prog X.w) X.A (setItem ov iv u) (fun _ s' => ∃ H', Inv X pins σ H' s' ∧ Q H') X.xe s
section
variable {X : Cx} {pos : Pos}
def Zix (i : Nat) : TG := fun v σ H Q => Q (σ.set i (some v)) H
theorem Zf9 {i : Nat} {x : Str} (hN : X.N.Nodup) (hi : X.N[i]? = some x) (hx : Loc X.env.scope x) (hf : X.fn x = true ∨ X.env.scope.names.lookup x = some .local := by first | exact .inl rfl | exact .inr rfl | assumption) : PG X (.Name x pos) (Zix i) := by
 intro pins s σ H v u Q I r h
 exact wpAny_assign_Name (Ze5 I hN hi hx r (fun s' I' => ⟨_, H, I', h⟩) hf)
def Zk7 : TGs := fun vs σ H Q => vs = [] ∧ Q σ H
def Zka (t : TG) (u : TGs) : TGs := fun vs σ H Q => ∃ v r, vs = v :: r ∧ t v σ H fun σ' H' => u r σ' H' Q
theorem ZhZ : PGs X [] Zk7 := by
 intro pins s σ H vs us Q I r h
 obtain ⟨e, h⟩ := h
 subst e
 cases r
 exact assignInOrder_nil ⟨σ, H, I, h⟩
theorem ZgZ {e : Expr} {es : List Expr} {t : TG} {u : TGs} (h1 : PG X e t) (h2 : PGs X es u)
  (hs : (assignEach (e :: es) X.env).map (·.2) = assign e X.env :: (assignEach es X.env).map (·.2) := by rfl) : PGs X (e :: es) (Zka t u) := by
 intro pins s σ H vs us Q I r h
 obtain ⟨v, vr, e1, h⟩ := h
 subst e1
 cases r with
 | cons r rr =>
  rw [hs]
  refine assignInOrder_cons (thn (h1 pins s σ H _ _ _ I r h) fun _ s1 ⟨σ1, H1, I1, q1⟩ => ?_)
  exact h2 pins s1 σ1 H1 _ _ Q I1 rr q1
def Zli (K : PySem.W.Frag) (n : Nat) (t : TGs) : TG := fun v σ H Q => ∃ a xs, v = .ref a ∧ SqT K H a xs ∧ xs.length = n ∧ t xs σ H Q
theorem ZiT {es : List Expr} {k : Nat} {t : TGs} {n : Nat} (hc : X.calm = true) (h : PGs X es t)
  (hn : (assignEach es X.env).length = n := by rfl) (hst : (assignEach es X.env).findIdx? (·.1) = none := by rfl) : PG X (.Tuple es k pos) (Zli X.K n t) := by
 intro pins s σ H v u Q I r hw
 obtain ⟨a, xs, e1, hq, hl, hw⟩ := hw
 subst e1
 cases r
 obtain ⟨its, rv, ht, hz⟩ := I.tuple hq
 refine assign_Tuple_tuple (I.ok.hd hc) ht (by simp [hn, ← hl, rv.length]) hst fun h' hx => ?_
 have I1 : Inv X pins σ H { s with heap := h' } := I.kept (t' := s.toks) fun b o e => hx b o (Nat.ne_of_lt (Heap.lt_size e)) e
 exact h pins _ σ H xs _ Q I1 (by simpa using rv) hw
def Zlf (to ti : TE) (t : Zjp) : TG := fun v σ H Q => to σ H fun o H1 => ti σ H1 fun i H2 => t o i v H2 fun H3 => Q σ H3
theorem ZiJ {o i : Expr} {to ti : TE} {t : Zjp} (ho : PE X o to) (hi : PE X i ti) (hs : ZkJ X t)
  (ha : ∀ v, assign (.Subscript o i pos) X.env v = (do
   let ov ← holding [v] (eval o X.env)
   let iv ← holding [v, ov] (eval i X.env)
   standAt pos
   holding [v, ov, iv] (setItem ov iv v)
   release [v, ov, iv] []) := by intro _; rfl) : PG X (.Subscript o i pos) (Zlf to ti t) := by
 intro pins s σ H v u Q I r h
 rw [ha]
 refine wpAny_bind (wpAny_holding (thn (ho pins s σ H _ I h) fun ov s1 ⟨x, H1, I1, r1, q1⟩ => ?_))
 refine wpAny_bind (wpAny_holding (thn (hi pins s1 σ H1 _ I1 q1) fun iv s2 ⟨y, H2, I2, r2, q2⟩ => ?_))
 refine wpAny_bind (wpAny_standAt (wpAny_bind (wpAny_holding (thn (hs pins s2 σ H2 x y v ov iv u _ I2 r1 r2 r q2) fun _ s3 ⟨H3, I3, q3⟩ => ?_))))
 exact wpAny_release ⟨σ, H3, I3, q3⟩
def Zj6 (te : TE) (g : TG) : TS := fun D σ H => te σ H fun x H1 => g x σ H1 D.nx
theorem Zi7 {tg e : Expr} {te : TE} {g : TG} (he : PE X e te) (hg : PG X tg g) (hs : swapsWithSole [tg] e pos.line X.env = pure false := by rfl) (hw : swappedStores [tg] e X.env = pure none := by rfl)
  (h1 : (assignEach [tg] X.env).map (·.2) = [assign tg X.env] := by rfl) : PS X (.Assign [tg] e pos) (Zj6 te g) := by
 intro pins s σ H D I h
 refine wpAny_Assign_stores (thn (he pins s σ H _ I h) fun v s1 ⟨x, H1, I1, r1, q1⟩ => ?_) hs hw
 rw [h1]
 exact thn (hg pins s1 σ H1 x v _ I1 r1 q1) fun _ s2 q => q
theorem ZiH {i : Nat} {x : Str} {e : Expr} {te : TE} {pos' : Pos} (hN : X.N.Nodup) (hi : X.N[i]? = some x) (hx : Loc X.env.scope x) (he : PE X e te) (hs : swapsWith e (some (.Name x pos')) pos.line X.env = pure false := by rfl) (hf : X.fn x = true ∨ X.env.scope.names.lookup x = some .local := by first | exact .inl rfl | exact .inr rfl | assumption) :
  PS X (.Assign [.Name x pos'] e pos) (Zj6 te (Zix i)) := by
 intro pins s σ H D I h
 refine wpAny_Assign_Name (thn (he pins s σ H _ I h) fun v s1 ⟨y, H1, I1, r1, q1⟩ => ?_) hs
 exact Ze5 I1 hN hi hx r1 (fun s2 I2 => ⟨_, H1, I2, q1⟩) hf
end
section
variable {X : Cx} {pos : Pos}
end
structure It where
 go : Nat → Hp → Prop
 yld : Nat → Hp → V → Hp → Prop
 stop : Nat → Hp → Prop
def ZcF (X : Cx) (pins : List (Addr × Obj)) (H : Hp) (b : Addr) : Prop :=
 H b = none ∧ b ≠ X.env.locals ∧ b ∉ X.fs ∧ (b ∈ X.ex ∨ X.s₀.heap.objs.size ≤ b) ∧ (∀ x c, X.env.cells.lookup x = some c → c ≠ b) ∧ ∀ p ∈ X.pn ++ pins, p.1 ≠ b
theorem Inv.fpOk {X : Cx} {pins : List (Addr × Obj)} {σ : St} {H H' : Hp} {s : Shared} {b : Addr} (I : Inv X pins σ H s) (hb : s.heap.objs.size ≤ b) (hn : H' b = none) : ZcF X pins H' b := by
 refine ⟨hn, Nat.ne_of_gt (Nat.lt_of_lt_of_le I.lt hb), I.nofs hb, .inr (Nat.le_trans I.sz hb), fun x c e z => ?_, fun p hp z => ?_⟩
 ·obtain ⟨v, q⟩ := I.cell x c e
  exact absurd (Nat.lt_of_lt_of_le q.lt (by rw [z]; exact hb)) (Nat.lt_irrefl _)
 ·exact absurd (Nat.lt_of_lt_of_le (Heap.lt_size (I.pin p hp).1) (by rw [z]; exact hb)) (Nat.lt_irrefl _)
structure Turn (P : Program) (w : World) (K : PySem.W.Frag) (tg : Expr) (J : It) (fp : List Addr) (it : Addr) (tn : Nat → Heap → Prop) : Prop where
 mem : it ∈ fp
 obj : ∀ i h, tn i h → ∀ b ∈ fp, ∃ o, h.get? b = some o ∧ ∀ v, o.data ≠ .cell v
 keep : ∀ i h h', tn i h → (∀ b ∈ fp, ∀ o, h.get? b = some o → h'.get? b = some o) → tn i h'
 item : ∀ (X : Cx), X.prog = P → X.w = w → X.K = K → X.calm = true → ∀ (i : Nat) (pins : List (Addr × Obj)) (s : Shared) (σ : St) (H : Hp) (E : Value → Shared → Prop), Inv X pins σ H s → (∀ b ∈ fp, ZcF X pins H b) → tn i s.heap → J.go i H →
  wpAny (model P w) X.A (pyNext (.ref it)) (fun r s1 => ∃ u, r = some u ∧
   wpAny (model P w) X.A (letOwnedTupleGo tg (.ref it) u) (fun _ s2 => ∃ x H', Inv X pins σ H' s2 ∧ RelV x u ∧ J.yld i H x H' ∧ tn (i + 1) s2.heap ∧ ∀ b ∈ fp, H' b = none) E s1) E s
 done : ∀ (X : Cx), X.prog = P → X.w = w → X.K = K → X.calm = true → ∀ (i : Nat) (pins : List (Addr × Obj)) (s : Shared) (σ : St) (H : Hp) (E : Value → Shared → Prop), Inv X pins σ H s → (∀ b ∈ fp, ZcF X pins H b) → tn i s.heap → J.stop i H →
  wpAny (model P w) X.A (pyNext (.ref it)) (fun r s1 => r = none ∧ Inv X pins σ H s1) E s
 self : ∀ (A : Around) (i : Nat) (s : Shared) (Q : Value → Shared → Prop) (E : Value → Shared → Prop), tn i s.heap → Q (.ref it) s → wpAny (model P w) A (pyIter (.ref it)) Q E s
abbrev TI := St → Hp → (It → Hp → Prop) → Prop
def PIE (X : Cx) (pins : List (Addr × Obj)) (σ : St) (tg : Expr) (R : It → Hp → Prop) (itv : Value) (s2 : Shared) : Prop :=
 ∃ (it : Addr) (fp : List Addr) (tn : Nat → Heap → Prop) (J : It) (H' : Hp), itv = .ref it ∧ Inv X pins σ H' s2 ∧ Turn X.prog X.w X.K tg J fp it tn ∧ tn 0 s2.heap ∧ (∀ b ∈ fp, ZcF X pins H' b) ∧ R J H'
def PI (X : Cx) (tg iter : Expr) (wi : TI) : Prop :=
 ∀ (pins : List (Addr × Obj)) (s : Shared) (σ : St) (H : Hp) (R : It → Hp → Prop), Inv X pins σ H s → wi σ H R →
  wpAny (model X.prog X.w) X.A (eval iter X.env) (fun v s1 => wpAny (model X.prog X.w) X.A (pyIter v) (PIE X pins σ tg R) X.xe s1) X.xe s
theorem Zf0 {M : Model} {A : Around} {E : Value → Shared → Prop} {s : Shared} {tg : Expr} {it : Addr} {u : Value} {o : Obj} {n : String} {vs : Array Value} {Q : Unit → Shared → Prop} (ho : s.heap.get? it = some o) (hc : o.cls = .type n) (hd : o.data = .fields vs)
  (hn : ["enumerate", "zip", "dict_itemiterator", "dict_reverseitemiterator", "odict_iterator", "itertools.zip_longest", "itertools.pairwise"].contains n = false) (hQ : Q () s) : wpAny M A (letOwnedTupleGo tg (.ref it) u) Q E s := by
 unfold letOwnedTupleGo
 cases tg <;> first
  | exact wpAny_pure hQ
  | (cases u <;> first
    | exact wpAny_pure hQ
    | (refine wpAny_bind (wpAny_load ho ?_)
       rw [hc, hd]
       show wpAny M A (if (["enumerate", "zip", "dict_itemiterator", "dict_reverseitemiterator", "odict_iterator", "itertools.zip_longest", "itertools.pairwise"].contains n && vs[0]? == some (rawInt _)) = true then _ else _) Q E s
       rw [if_neg (by intro h; rw [hn, Bool.false_and] at h; cases h)]
       exact wpAny_pure hQ))
def Itl (K : PySem.W.Frag) (a : Addr) : It :=
 ⟨fun i H => ∃ xs x, SqL K H a xs ∧ xs[i]? = some x, fun i H x H' => H' = H ∧ ∀ xs, SqL K H a xs → xs[i]? = some x, fun i H => ∃ xs, SqL K H a xs ∧ xs.length ≤ i⟩
def Itt (K : PySem.W.Frag) (a : Addr) : It :=
 ⟨fun i H => ∃ xs x, SqT K H a xs ∧ xs[i]? = some x, fun i H x H' => H' = H ∧ ∀ xs, SqT K H a xs → xs[i]? = some x, fun i H => ∃ xs, SqT K H a xs ∧ xs.length ≤ i⟩
def Itr (lo : Int) (n : Nat) : It := ⟨fun i _ => i < n, fun i H x H' => H' = H ∧ x = .int (lo + i), fun i _ => n ≤ i⟩
theorem Zgr {P : Program} {w : World} {K : PySem.W.Frag} {tg : Expr} (a it : Addr) : Turn P w K tg (Itl K a) [it] it (fun i h => h.IsListIter it a i) where
 mem := by simp
 obj := fun i h st b hb => by
  have e : b = it := by simpa using hb
  subst e
  obtain ⟨o, e, c, d⟩ := st
  exact ⟨o, e, fun v z => by rw [d] at z; cases z⟩
 keep := fun i h h' st k => st.at fun o e => k it (by simp) o e
 item := by
  intro X hP hw hK hc i pins s σ H E I hf st hg
  subst hP hw hK
  obtain ⟨xs, x, hq, hx⟩ := hg
  obtain ⟨its, rv, p, hz⟩ := I.list hq
  obtain ⟨u, hu, ru⟩ := rv.get hx
  obtain ⟨f0, f1, f2, f3, f4, f5⟩ := hf it (by simp)
  refine wpAny_pyNext_list_item st p.isList (x := u) (by simpa using hu) fun h' st' sb => ?_
  have I1 : Inv X pins σ H { s with heap := h' } := I.turned (t' := s.toks) (fun b o hb e => (sb.2 b hb).trans e) f0 f1 f3 f4 f5
  obtain ⟨o, e, c, d⟩ := id st'
  exact ⟨u, rfl, Zf0 (s := { s with heap := h' }) e c d (by decide) ⟨x, H, I1, ru, ⟨rfl, fun ys hy => by rw [I.list_inj hy hq]; exact hx⟩, st', fun b hb => (hf b hb).1⟩⟩
 done := by
  intro X hP hw hK hc i pins s σ H E I hf st hg
  subst hP hw hK
  obtain ⟨xs, hq, hx⟩ := hg
  obtain ⟨its, rv, p, hz⟩ := I.list hq
  obtain ⟨f0, f1, f2, f3, f4, f5⟩ := hf it (by simp)
  have hl := rv.length
  exact wpAny_pyNext_list_end (I.ok.hd hc) st p.isList (by simp; omega) fun h' eb => ⟨rfl, I.turned (t' := s.toks) (fun b o hb e => eb b o hb e) f0 f1 f3 f4 f5⟩
 self := fun _ _ _ _ _ st h => wpAny_pyIter_listiter st h
theorem ZfN {P : Program} {w : World} {K : PySem.W.Frag} {tg : Expr} (a it : Addr) : Turn P w K tg (Itt K a) [it] it (fun i h => h.IsTupleIter it a i) where
 mem := by simp
 obj := fun i h st b hb => by
  have e : b = it := by simpa using hb
  subst e
  obtain ⟨o, e, c, d⟩ := st
  exact ⟨o, e, fun v z => by rw [d] at z; cases z⟩
 keep := fun i h h' st k => st.at fun o e => k it (by simp) o e
 item := by
  intro X hP hw hK hc i pins s σ H E I hf st hg
  subst hP hw hK
  obtain ⟨xs, x, hq, hx⟩ := hg
  obtain ⟨its, rv, p, hz⟩ := I.tuple hq
  obtain ⟨u, hu, ru⟩ := rv.get hx
  obtain ⟨f0, f1, f2, f3, f4, f5⟩ := hf it (by simp)
  refine wpAny_pyNext_tuple_item st (show s.heap.IsTuple a its.toArray from p) (x := u) (by simpa using hu) fun h' st' sb => ?_
  have I1 : Inv X pins σ H { s with heap := h' } := I.turned (t' := s.toks) (fun b o hb e => (sb.2 b hb).trans e) f0 f1 f3 f4 f5
  obtain ⟨o, e, c, d⟩ := id st'
  exact ⟨u, rfl, Zf0 (s := { s with heap := h' }) e c d (by decide) ⟨x, H, I1, ru, ⟨rfl, fun ys hy => by rw [I.tuple_inj hy hq]; exact hx⟩, st', fun b hb => (hf b hb).1⟩⟩
 done := by
  intro X hP hw hK hc i pins s σ H E I hf st hg
  subst hP hw hK
  obtain ⟨xs, hq, hx⟩ := hg
  obtain ⟨its, rv, p, hz⟩ := I.tuple hq
  obtain ⟨f0, f1, f2, f3, f4, f5⟩ := hf it (by simp)
  have hl := rv.length
  exact wpAny_pyNext_tuple_end (I.ok.hd hc) st (show s.heap.IsTuple a its.toArray from p) (by simp; omega) fun h' eb => ⟨rfl, I.turned (t' := s.toks) (fun b o hb e => eb b o hb e) f0 f1 f3 f4 f5⟩
 self := fun _ _ _ _ _ st h => wpAny_pyIter_tupleiter st h
theorem ZfL {P : Program} {w : World} {K : PySem.W.Frag} {tg : Expr} (it : Addr) (lo : Int) (n : Nat) : Turn P w K tg (Itr lo n) [it] it (fun i h => IsRangeIter h it (lo + (i : Nat) * 1) ((n : Int) - (i : Nat)) 1) where
 mem := by simp
 obj := fun i h st b hb => by
  have e : b = it := by simpa using hb
  subst e
  exact ⟨_, st, fun v z => by
   have z' : Data.fields _ = Data.cell v := z
   cases z'⟩
 keep := fun i h h' st k => k it (by simp) _ st
 item := by
  intro X hP hw hK hc i pins s σ H E I hf st hg
  subst hP hw hK
  obtain ⟨f0, f1, f2, f3, f4, f5⟩ := hf it (by simp)
  have W := Walks.range (prog := X.prog) (w := X.w) (I.ok.hd hc) it lo 1 n
  refine W.item i s _ _ hg st fun v h' tk hv st' kk => ?_
  obtain ⟨t, rfl⟩ := hv
  have I1 : Inv X pins σ H { s with heap := h', toks := tk } := I.turned (fun b o hb e => kk b o (by simpa using hb) e) f0 f1 f3 f4 f5
  refine ⟨_, rfl, Zf0 (s := { s with heap := h', toks := tk }) (n := "range_iterator") st' rfl rfl (by decide) ⟨.int (lo + i), H, I1, ⟨t, ?_⟩, ⟨rfl, rfl⟩, st', fun b hb => (hf b hb).1⟩⟩
  rw [Int.mul_one]
 done := by
  intro X hP hw hK hc i pins s σ H E I hf st hg
  subst hP hw hK
  obtain ⟨f0, f1, f2, f3, f4, f5⟩ := hf it (by simp)
  exact wpAny_pyNext_range_end (I.ok.hd hc) st (by have : n ≤ i := hg; omega) fun h' eb => ⟨rfl, I.turned (t' := s.toks) (fun b o hb e => eb b o hb e) f0 f1 f3 f4 f5⟩
 self := fun _ _ _ _ _ st h => wpAny_pyIter_rangeiter st h
end L2
namespace L2
open PySem PySem.Spec PyProof.Rows
section
variable {X : Cx} {tg : Expr}
def Zkg (K : PySem.W.Frag) (tl : TE) : TI := fun σ H R => tl σ H fun x H1 => ∃ a, x = .ref a ∧ (∃ xs, SqL K H1 a xs) ∧ R (Itl K a) H1
def Zk6 (K : PySem.W.Frag) (tl : TE) : TI := fun σ H R => tl σ H fun x H1 => ∃ a, x = .ref a ∧ (∃ xs, SqT K H1 a xs) ∧ R (Itt K a) H1
theorem Zh4 {l : Expr} {tl : TE} (hl : PE X l tl) : PI X tg l (Zkg X.K tl) := by
 intro pins s σ H R I h
 refine thn (hl pins s σ H _ I h) fun v s1 ⟨x, H1, I1, r1, q1⟩ => ?_
 obtain ⟨a, e, ⟨xs, hq⟩, q⟩ := q1
 subst e
 cases r1
 obtain ⟨its, rv, p, hz⟩ := I1.list hq
 refine wpAny_pyIter_list p.isList ?_
 refine ⟨s1.heap.objs.size, [s1.heap.objs.size], _, _, H1, rfl, I1.kept (t' := s1.toks) fun b o e => Heap.get?_push_of_some _ e, Zgr a _, ⟨_, Heap.get?_push_size _ rfl, rfl, rfl⟩, fun b hb => ?_, q⟩
 have e : b = s1.heap.objs.size := by simpa using hb
 subst e
 exact I1.fpOk (Nat.le_refl _) (I1.hok.fresh (Nat.le_refl _))
theorem Zi0 {l : Expr} {tl : TE} (hl : PE X l tl) : PI X tg l (Zk6 X.K tl) := by
 intro pins s σ H R I h
 refine thn (hl pins s σ H _ I h) fun v s1 ⟨x, H1, I1, r1, q1⟩ => ?_
 obtain ⟨a, e, ⟨xs, hq⟩, q⟩ := q1
 subst e
 cases r1
 obtain ⟨its, rv, p, hz⟩ := I1.tuple hq
 refine wpAny_pyIter_tuple (show s1.heap.IsTuple a its.toArray from p) ?_
 refine ⟨s1.heap.objs.size, [s1.heap.objs.size], _, _, H1, rfl, I1.kept (t' := s1.toks) fun b o e => Heap.get?_push_of_some _ e, ZfN a _, ⟨_, Heap.get?_push_size _ rfl, rfl, rfl⟩, fun b hb => ?_, q⟩
 have e : b = s1.heap.objs.size := by simpa using hb
 subst e
 exact I1.fpOk (Nat.le_refl _) (I1.hok.fresh (Nat.le_refl _))
theorem Ze0 {pins : List (Addr × Obj)} {σ : St} {H : Hp} {s : Shared} {R : It → Hp → Prop} {E : Value → Shared → Prop} {lo hi : Int} {t u v : Tok} {tk : Nat} (I : Inv X pins σ H s) (h1 : -(2 ^ 62) ≤ lo) (h2 : lo < 2 ^ 62) (h3 : -(2 ^ 62) ≤ hi) (h4 : hi < 2 ^ 62)
  (q : R (Itr lo (hi - lo).toNat) H) : wpAny (model X.prog X.w) X.A (pyIter (.ref s.heap.objs.size)) (PIE X pins σ tg R) E { s with heap := s.heap.push { cls := .type "range", data := .fields #[.int lo t, .int hi u, .int 1 v] }, toks := tk } := by
 refine wpAny_pyIter_range (IsRange.new ..) (small_one h1 h2 h3 h4) ?_
 have I1 : Inv X pins σ H { s with heap := s.heap.push { cls := .type "range", data := .fields #[.int lo t, .int hi u, .int 1 v] }, toks := tk } := I.kept fun b o e => Heap.get?_push_of_some _ e
 refine ⟨(s.heap.push { cls := .type "range", data := .fields #[.int lo t, .int hi u, .int 1 v] }).objs.size, [(s.heap.push { cls := .type "range", data := .fields #[.int lo t, .int hi u, .int 1 v] }).objs.size], _, _, H, rfl,
  I1.kept (t' := tk) fun b o e => Heap.get?_push_of_some _ e, ZfL _ lo (hi - lo).toNat, ?_, fun b hb => ?_, q⟩
 ·have e1 : lo + ((0 : Nat) : Int) * 1 = lo := by simp
  have e2 : (((hi - lo).toNat : Nat) : Int) - ((0 : Nat) : Int) = Builtin.Range.rangeSize lo hi 1 := by rw [rangeSize_one]; split <;> omega
  show IsRangeIter _ _ (lo + ((0 : Nat) : Int) * 1) ((((hi - lo).toNat : Nat) : Int) - ((0 : Nat) : Int)) 1
  rw [e1, e2]
  exact Heap.get?_push_size _ rfl
 ·have e : b = (s.heap.push { cls := .type "range", data := .fields #[.int lo t, .int hi u, .int 1 v] }).objs.size := by simpa using hb
  subst e
  exact I1.fpOk (Nat.le_refl _) (I1.hok.fresh (Nat.le_refl _))
def Zkz (ta : TA) : TI := fun σ H R => ta σ H fun vs H1 => ∃ j : Int, vs = [.int j] ∧ -(2 ^ 62) ≤ j ∧ j < 2 ^ 62 ∧ R (Itr 0 j.toNat) H1
def ZkD (ta : TA) : TI := fun σ H R => ta σ H fun vs H1 => ∃ i j : Int, vs = [.int i, .int j] ∧ (-(2 ^ 62) ≤ i ∧ i < 2 ^ 62 ∧ -(2 ^ 62) ≤ j ∧ j < 2 ^ 62) ∧ R (Itr i (j - i).toNat) H1
theorem ZgG {a : Expr} {ta : TA} {p pos : Pos} (hg : Gl X "range") (hm : X.mg "range" = none) (ha : PA X [a] ta) (hs : starEach [a] X.env = [(false, eval a X.env)] := by rfl) : PI X tg (.Call (.Name "range" p) [a] [] pos) (Zkz ta) := by
 intro pins s σ H R I h
 refine Call_ (Zdz I hg hm boot_range (PyProof.Rows.callWith_type1 (thn (ha pos pins s σ H _ I h) fun us s1 ⟨vs, H1, I1, r1, q1⟩ => ?_) hs rfl))
 obtain ⟨j, e, q1, q2, q⟩ := q1
 subst e
 cases r1 with
 | cons r rr =>
  cases rr
  obtain ⟨t, rfl⟩ := r
  exact call_range_1 (Ze0 I1 (by omega) (by omega) q1 q2 (by simpa using q))
theorem Zgl {a b : Expr} {ta : TA} {p pos : Pos} (hg : Gl X "range") (hm : X.mg "range" = none) (ha : PA X [a, b] ta) (hs : starEach [a, b] X.env = [(false, eval a X.env), (false, eval b X.env)] := by rfl) (hs2 : starEach [b] X.env = [(false, eval b X.env)] := by rfl) :
  PI X tg (.Call (.Name "range" p) [a, b] [] pos) (ZkD ta) := by
 intro pins s σ H R I h
 refine Call_ (Zdz I hg hm boot_range (PyProof.Rows.callWith_type1 (thn (ha pos pins s σ H _ I h) fun us s1 ⟨vs, H1, I1, r1, q1⟩ => ?_) (by rw [hs, hs2]) (by rw [hs2]; rfl)))
 obtain ⟨i, j, e, ⟨q1, q2, q3, q4⟩, q⟩ := q1
 subst e
 cases r1 with
 | cons r rr =>
  cases rr with
  | cons r' rr =>
   cases rr
   obtain ⟨t, rfl⟩ := r
   obtain ⟨t', rfl⟩ := r'
   exact call_range_2 (Ze0 I1 q1 q2 q3 q4 q)
def Zlz (wi : TI) (g : TG) (tb : TS) : TS := fun D σ H => wi σ H fun J H1 => ∃ W : Nat → Nat → St → Hp → Prop, (∃ m, W 0 m σ H1) ∧ ∀ i m σ H, W i m σ H →
 (J.stop i H ∧ D.nx σ H) ∨ (J.go i H ∧ ∃ N : St → Hp → Prop, (∀ σ' H', N σ' H' → ∃ m', m' < m ∧ W (i + 1) m' σ' H') ∧ ∀ x H', J.yld i H x H' → g x σ H' fun σ2 H2 => tb { D with nx := N, ct := N, bk := D.nx } σ2 H2)
def Zdq (fp : List Addr) (h : Heap) : List (Addr × Obj) := fp.filterMap fun b => (h.get? b).map fun o => (b, o)
theorem ZbA {fp : List Addr} {h : Heap} {b : Addr} {o : Obj} (hb : b ∈ fp) (e : h.get? b = some o) : (b, o) ∈ Zdq fp h := List.mem_filterMap.mpr ⟨b, hb, by rw [e]; rfl⟩
theorem Zgk {fp : List Addr} {h : Heap} {p : Addr × Obj} (hp : p ∈ Zdq fp h) : p.1 ∈ fp ∧ h.get? p.1 = some p.2 := by
 obtain ⟨b, hb, e⟩ := List.mem_filterMap.mp hp
 cases q : h.get? b with
 | none => rw [q] at e; cases e
 | some o =>
  rw [q] at e
  have e' : (b, o) = p := Option.some.inj e
  subst e'
  exact ⟨hb, q⟩
theorem Inv.pinned {pins : List (Addr × Obj)} {σ : St} {H : Hp} {s : Shared} {fp : List Addr} (I : Inv X pins σ H s) (hf : ∀ b ∈ fp, ZcF X pins H b) (ho : ∀ b ∈ fp, ∃ o, s.heap.get? b = some o ∧ ∀ v, o.data ≠ .cell v) : Inv X (pins ++ Zdq fp s.heap) σ H s :=
 I.pins_of fun p hp => (List.mem_append.mp hp).elim (fun z => I.pin p (List.mem_append_right _ z)) fun z => by
  obtain ⟨hb, e⟩ := Zgk z
  obtain ⟨f0, f1, f2, _⟩ := hf p.1 hb
  obtain ⟨o, e', d⟩ := ho p.1 hb
  rw [e] at e'; cases e'
  exact ⟨e, f0, f1, f2, d⟩
theorem Inv.unpinned {pins pl : List (Addr × Obj)} {σ : St} {H : Hp} {s : Shared} (I : Inv X (pins ++ pl) σ H s) : Inv X pins σ H s := I.pins_of fun p hp => I.pin p (List.mem_append_right _ (List.mem_append_left _ hp))
theorem Zjw {iter : Expr} {body : List Stmt} {wi : TI} {g : TG} {tb : TS} {pos : Pos} (hp : PassesOwn (model X.prog X.w) X.A X.env X.xe) (hc : X.calm = true) (hi : PI X tg iter wi) (hg : PG X tg g) (hb : PSs X body tb)
  (hs : ∀ x, foldedSetIterable iter X.env x = pure x := by intro _; rfl) : PS X (.For tg iter body [] pos) (Zlz wi g tb) := by
 intro pins s σ H D I h
 refine wpAny_For (thn (hi pins s σ H _ I h) fun v s1 h1 => thn h1 fun itv s2 h2 => ?_) hs
 obtain ⟨it, fp, tn, J, H2, e, I2, T, st2, f2, W, ⟨m0, w0⟩, turn⟩ := h2
 subst e
 have stat : ∀ {H' : Hp}, (∀ b ∈ fp, H' b = none) → ∀ b ∈ fp, ZcF X pins H' b := fun hn b hb => ⟨hn b hb, (f2 b hb).2⟩
 refine codeAny_forLoop_any (fun n s' => ∃ i σ' H', Inv X pins σ' H' s' ∧ tn i s'.heap ∧ (∀ b ∈ fp, H' b = none) ∧ W i n σ' H') ?_ m0 ⟨0, σ, H2, I2, st2, fun b hb => (f2 b hb).1, w0⟩
 rintro n s3 ⟨i, σ3, H3, I3, st3, fr3, w3⟩
 rcases turn i n σ3 H3 w3 with ⟨stop, qn⟩ | ⟨go, N, hN, step⟩
 ·refine wpAny_passesOwn hp (thn (T.done X rfl rfl rfl hc i pins s3 σ3 H3 X.xe I3 (stat fr3) st3 stop) fun r s4 ⟨hr, I4⟩ => ?_)
  subst hr
  exact wpAny_execs_nil ⟨σ3, H3, I4, qn⟩
 ·refine wpAny_passesOwn hp (thn (T.item X rfl rfl rfl hc i pins s3 σ3 H3 X.xe I3 (stat fr3) st3 go) fun r s4 ⟨u, hr, h4⟩ => ?_)
  subst hr
  refine wpAny_passesOwn hp (thn h4 fun _ s5 ⟨x, H5, I5, r5, y5, st5, fr5⟩ => ?_)
  have I5' := I5.pinned (stat fr5) (T.obj _ _ st5)
  refine wpAny_passesOwn hp (thn (hg _ s5 σ3 H5 x u _ I5' r5 (step x H5 y5)) fun _ s6 ⟨σ6, H6, I6, q6⟩ => ?_)
  refine wpAny_passesOwn hp (thn (hb _ s6 σ6 H6 _ I6 q6) fun f s7 q7 => ?_)
  have again : ∀ {σ7 : St} {H7 : Hp}, Inv X (pins ++ Zdq fp s5.heap) σ7 H7 s7 → N σ7 H7 → ∃ m, m < n ∧ ∃ i σ' H', Inv X pins σ' H' s7 ∧ tn i s7.heap ∧ (∀ b ∈ fp, H' b = none) ∧ W i m σ' H' := fun {σ7 H7} I7 n7 => by
   obtain ⟨m', hm, w7⟩ := hN σ7 H7 n7
   refine ⟨m', hm, i + 1, σ7, H7, I7.unpinned, T.keep _ _ _ st5 fun b hb o e => (I7.pin (b, o) (List.mem_append_right _ (List.mem_append_right _ (ZbA hb e)))).1, fun b hb => ?_, w7⟩
   obtain ⟨o, e, d⟩ := T.obj _ _ st5 b hb
   exact (I7.pin (b, o) (List.mem_append_right _ (List.mem_append_right _ (ZbA hb e)))).2.1
  cases f with
  | next => obtain ⟨σ7, H7, I7, n7⟩ := q7; exact again I7 n7
  | cont => obtain ⟨σ7, H7, I7, n7⟩ := q7; exact again I7 n7
  | brk => obtain ⟨σ7, H7, I7, q7⟩ := q7; exact ⟨σ7, H7, I7.unpinned, q7⟩
  | ret v => obtain ⟨x7, σ7, H7, I7, r7, q7⟩ := q7; exact ⟨x7, σ7, H7, I7.unpinned, r7, q7⟩
end
end L2
namespace L2
open PySem PySem.Spec PyProof.Rows
abbrev R2 := V → V → Hp → VK → Prop
def OpR (X : Cx) (f : Value → Value → Sem Value) (r : R2) : Prop :=
 ∀ (pins : List (Addr × Obj)) (s : Shared) (σ : St) (H : Hp) (x y : V) (v u : Value) (Q : VK), Inv X pins σ H s → RelV x v → RelV y u → r x y H Q →
  wpAny (model X.prog X.w) X.A (f v u) (EP X pins σ Q) X.xe s
def UnR (X : Cx) (f : Value → Sem Value) (r : V → Hp → VK → Prop) : Prop :=
 ∀ (pins : List (Addr × Obj)) (s : Shared) (σ : St) (H : Hp) (x : V) (v : Value) (Q : VK), Inv X pins σ H s → RelV x v → r x H Q →
  wpAny (model X.prog X.w) X.A (f v) (EP X pins σ Q) X.xe s
def Za5 (X : Cx) (f : Value) (r : List V → Hp → VK → Prop) : Prop :=
 ∀ (pins : List (Addr × Obj)) (s : Shared) (σ : St) (H : Hp) (xs : List V) (us : List Value) (Q : VK), Inv X pins σ H s → Vals xs us → r xs H Q →
  wpAny (model X.prog X.w) X.A (call f us) (EP X pins σ Q) X.xe s
def tOp (r : R2) (ta tb : TE) : TE := fun σ H Q => ta σ H fun x H1 => tb σ H1 fun y H2 => r x y H2 Q
def tUn (r : V → Hp → VK → Prop) (ta : TE) : TE := fun σ H Q => ta σ H fun x H1 => r x H1 Q
def rI (C : Int → Int → Prop) (g : Int → Int → V) : R2 := fun x y H Q => ∃ i j, x = .int i ∧ y = .int j ∧ C i j ∧ Q (g i j) H
def rI0 (g : Int → Int → V) : R2 := fun x y H Q => ∃ i j, x = .int i ∧ y = .int j ∧ Q (g i j) H
def rU (g : Int → V) : V → Hp → VK → Prop := fun x H Q => ∃ i, x = .int i ∧ Q (g i) H
section
variable {X : Cx} {a b c : Expr} {ta tb tc : TE} {pos : Pos}
theorem Zi6 (ha : PE X a ta) (hb : PE X b tb) {pins : List (Addr × Obj)} {s : Shared} {σ : St} {H : Hp} {R : V → V → Hp → Prop} (I : Inv X pins σ H s)
  (h : ta σ H fun x H1 => tb σ H1 fun y H2 => R x y H2) {Q : Value → Shared → Prop} {f : Value → Value → Sem Value}
  (hf : ∀ v u s2 x y H2, Inv X pins σ H2 s2 → RelV x v → RelV y u → R x y H2 → wpAny (model X.prog X.w) X.A (f v u) Q X.xe s2) :
  wpAny (model X.prog X.w) X.A (eval a X.env) (fun v s₁ => wpAny (model X.prog X.w) X.A (eval b X.env) (fun u s₂ => wpAny (model X.prog X.w) X.A (f v u) Q X.xe s₂) X.xe s₁) X.xe s := by
 refine thn (ha pins s σ H _ I h) fun v s1 ⟨x, H1, I1, r1, q1⟩ => ?_
 refine thn (hb pins s1 σ H1 _ I1 q1) fun u s2 ⟨y, H2, I2, r2, q2⟩ => ?_
 exact hf v u s2 x y H2 I2 r1 r2 q2
theorem Zkr {op : Operator} {r : R2} (ho : OpR X (binaryOp op) r) (ha : PE X a ta) (hb : PE X b tb) : PE X (.BinOp a op b pos) (tOp r ta tb) := by
 intro pins s σ H Q I h
 exact wpAny_BinOp (Zi6 ha hb I h fun v u s2 x y H2 I2 rx ry q => ho pins s2 σ H2 x y v u Q I2 rx ry q)
theorem ZkH {op : UnaryOp} {r : V → Hp → VK → Prop} (ho : UnR X (unaryOp op) r) (ha : PE X a ta) : PE X (.UnaryOp op a pos) (tUn r ta) := by
 intro pins s σ H Q I h
 exact UnaryOp_ (thn (ha pins s σ H _ I h) fun v s1 ⟨x, H1, I1, r1, q1⟩ => ho pins s1 σ H1 x v Q I1 r1 q1)
theorem opI {f : Value → Value → Sem Value} {C : Int → Int → Prop} {g : Int → Int → Int}
  (rule : ∀ (i j : Int) (t u : Tok) (s : Shared) (Q : Value → Shared → Prop) (E : Value → Shared → Prop), C i j → Q (.int (g i j) s.toks) { s with toks := s.toks + 1 } → wpAny (model X.prog X.w) X.A (f (.int i t) (.int j u)) Q E s) :
  OpR X f (rI C fun i j => .int (g i j)) := by
 intro pins s σ H x y v u Q I rx ry h
 obtain ⟨i, j, rfl, rfl, hc, q⟩ := h
 obtain ⟨t, rfl⟩ := rx
 obtain ⟨t', rfl⟩ := ry
 exact rule i j t t' s _ _ hc ⟨.int (g i j), H, I.tok _, ⟨_, rfl⟩, q⟩
theorem ZkL {f : Value → Value → Sem Value} {g : Int → Int → Int}
  (rule : ∀ (i j : Int) (t u : Tok) (s : Shared) (Q : Value → Shared → Prop) (E : Value → Shared → Prop), Q (.int (g i j) s.toks) { s with toks := s.toks + 1 } → wpAny (model X.prog X.w) X.A (f (.int i t) (.int j u)) Q E s) :
  OpR X f (rI0 fun i j => .int (g i j)) := by
 intro pins s σ H x y v u Q I rx ry h
 obtain ⟨i, j, rfl, rfl, q⟩ := h
 obtain ⟨t, rfl⟩ := rx
 obtain ⟨t', rfl⟩ := ry
 exact rule i j t t' s _ _ ⟨.int (g i j), H, I.tok _, ⟨_, rfl⟩, q⟩
theorem Zkj {f : Value → Value → Sem Value} {g : Int → Int → Bool}
  (rule : ∀ (i j : Int) (t u : Tok) (s : Shared) (Q : Value → Shared → Prop) (E : Value → Shared → Prop), Q (.bool (g i j)) s → wpAny (model X.prog X.w) X.A (f (.int i t) (.int j u)) Q E s) :
  OpR X f (rI0 fun i j => .bl (g i j)) := by
 intro pins s σ H x y v u Q I rx ry h
 obtain ⟨i, j, rfl, rfl, q⟩ := h
 obtain ⟨t, rfl⟩ := rx
 obtain ⟨t', rfl⟩ := ry
 exact rule i j t t' s _ _ ⟨.bl (g i j), H, I, rfl, q⟩
def Zk2 (i j : Int) : Prop := 0 < j ∧ j < 1073741824
def Zla (i j : Int) : Prop := 0 ≤ j ∧ j ≤ 1000000 ∧ i.natAbs < 2 ^ 64
def Zja (i j : Int) : Prop := (-(2 ^ 64) < i ∧ i < 2 ^ 64) ∨ (-(2 ^ 64) < j ∧ j < 2 ^ 64)
theorem Zja.ok {i j : Int} (h : Zja i j) : IntMulOk i j := by
 rcases h with ⟨h1, h2⟩ | ⟨h1, h2⟩
 ·exact .of_left (intBits_le_64 h1 h2)
 ·exact .of_right (intBits_le_64 h1 h2)
theorem ZjO : OpR X (binaryOp .Add) (rI0 fun i j => .int (i + j)) := ZkL fun _ _ _ _ _ _ _ q => add_int q
theorem Zjy : OpR X (binaryOp .Sub) (rI0 fun i j => .int (i - j)) := ZkL fun _ _ _ _ _ _ _ q => sub_int q
theorem Zjr : OpR X (binaryOp .Mult) (rI Zja fun i j => .int (i * j)) := opI fun _ _ _ _ _ _ _ hc q => mul_int q hc.ok
theorem Zia : OpR X (binaryOp .FloorDiv) (rI Zk2 fun i j => .int (i / j)) := opI fun i j _ _ _ _ _ hc q => by
 have h1 : (0 : Int) < j := hc.1
 have h2 : j < 1073741824 := hc.2
 exact floordiv_int (by omega) (by rw [Int.fdiv_eq_ediv_of_nonneg i (by omega)]; exact q) (.inl (PyProof.noPylong_small (by omega)))
theorem ZjJ : OpR X (binaryOp .Mod) (rI (fun _ j => 0 < j) fun i j => .int (i % j)) := opI fun i j _ _ _ _ _ hc q => by
 have h1 : (0 : Int) < j := hc
 exact mod_int' (by omega) (by rw [Int.fmod_eq_emod_of_nonneg i (by omega)]; exact q)
theorem Zjm : OpR X (binaryOp .Pow) (rI Zla fun i j => .int (i ^ j.toNat)) := opI fun _ _ _ _ _ _ _ hc q => pow_int_small hc.1 hc.2.1 hc.2.2 q
theorem unI {f : Value → Sem Value} {g : Int → Int}
  (rule : ∀ (i : Int) (t : Tok) (s : Shared) (Q : Value → Shared → Prop) (E : Value → Shared → Prop), Q (.int (g i) s.toks) { s with toks := s.toks + 1 } → wpAny (model X.prog X.w) X.A (f (.int i t)) Q E s) :
  UnR X f (rU fun i => .int (g i)) := by
 intro pins s σ H x v Q I rx h
 obtain ⟨i, rfl, q⟩ := h
 obtain ⟨t, rfl⟩ := rx
 exact rule i t s _ _ ⟨.int (g i), H, I.tok _, ⟨_, rfl⟩, q⟩
theorem ZjI : UnR X (unaryOp .USub) (rU fun i => .int (-i)) := unI fun _ _ _ _ _ q => neg_int q
end
section
variable {X : Cx} {a b c : Expr} {ta tb tc : TE} {pos : Pos}
theorem Zks : OpR X (compareOp .Lt) (rI0 fun i j => .bl (decide (i < j))) := Zkj fun _ _ _ _ _ _ _ q => lt_int q
theorem ZkM : OpR X (compareOp .Gt) (rI0 fun i j => .bl (decide (j < i))) := Zkj fun _ _ _ _ _ _ _ q => gt_int q
theorem OpR.or {f : Value → Value → Sem Value} {r r' : R2} (h : OpR X f r) (h' : OpR X f r') : OpR X f (fun x y H Q => r x y H Q ∨ r' x y H Q) := by
 intro pins s σ H x y v u Q I rx ry q
 rcases q with q | q
 ·exact h pins s σ H x y v u Q I rx ry q
 ·exact h' pins s σ H x y v u Q I rx ry q
theorem Zib {op : CmpOp} {r : R2} (ho : OpR X (compareOp op) r) (ha : PE X a ta) (hb : PE X b tb) (hm : behindInMarks op b = false) : PE X (.Compare a [op] [b] pos) (tOp r ta tb) := by
 intro pins s σ H Q I h
 exact wpAny_Compare1 (Zi6 ha hb I h fun v u s2 x y H2 I2 rx ry q => ho pins s2 σ H2 x y v u Q I2 rx ry q) hm
def Zki (t : TE) : TT := fun σ H Q => t σ H fun x H' => ∃ k, x = .bl k ∧ Q k H'
theorem Zh3 {op : CmpOp} {r : R2} (ho : OpR X (compareOp op) r) (ha : PE X a ta) (hb : PE X b tb) (hm : behindInMarks op b = false) : PT X (.Compare a [op] [b] pos) (Zki (tOp r ta tb)) := by
 intro pins s σ H Q I h
 refine wpAny_isTrue_Compare1 (thn (ha pins s σ H _ I h) fun v s1 ⟨x, H1, I1, r1, q1⟩ => thn (hb pins s1 σ H1 _ I1 q1) fun u s2 ⟨y, H2, I2, r2, q2⟩ =>
  thn (ho pins s2 σ H2 x y v u _ I2 r1 r2 q2) fun c s3 ⟨z, H3, I3, r3, k, e, q3⟩ => ?_) hm
 subst e
 cases r3
 exact wpAny_truthy_bool ⟨H3, I3, q3⟩
theorem Zd3 : (sizeLine : Nat) < 2 ^ 63 := by rw [sizeLine_eq]; decide
theorem ZfH : OpR X (binaryOp .Add) (fun x y H Q => ∃ i j, x = .str i ∧ y = .str j ∧ i.length + j.length ≤ sizeLine ∧ Q (.str (i ++ j)) H) := by
 intro pins s σ H x y v u Q I rx ry h
 obtain ⟨i, j, rfl, rfl, hz, q⟩ := h
 obtain ⟨t, rfl⟩ := rx
 obtain ⟨t', rfl⟩ := ry
 exact add_str (fun t' tk => ⟨.str (i ++ j), H, I.tok _, ⟨_, rfl⟩, q⟩) hz
theorem vals1 {x : V} {us : List Value} (r : Vals [x] us) : ∃ u, us = [u] ∧ RelV x u := by
 cases r with
 | cons r1 r2 => cases r2; exact ⟨_, rfl, r1⟩
theorem vals2 {x y : V} {us : List Value} (r : Vals [x, y] us) : ∃ u w', us = [u, w'] ∧ RelV x u ∧ RelV y w' := by
 cases r with
 | cons r1 r2 =>
  cases r2 with
  | cons r3 r4 => cases r4; exact ⟨_, _, rfl, r1, r3⟩
theorem ZgK (hc : X.calm = true) : Za5 X (.builtin "max") (fun xs H Q => ∃ i j, xs = [.int i, .int j] ∧ Q (.int (if j > i then j else i)) H) := by
 intro pins s σ H xs us Q I r h
 obtain ⟨i, j, rfl, q⟩ := h
 obtain ⟨u, w', rfl, ⟨t, rfl⟩, ⟨t', rfl⟩⟩ := vals2 r
 refine max_two_ints (I.ok.hd hc) fun h' tk k => ⟨_, H, I.kept k, ?_, q⟩
 by_cases hj : j > i
 ·rw [if_pos hj, if_pos hj]; exact ⟨_, rfl⟩
 ·rw [if_neg hj, if_neg hj]; exact ⟨_, rfl⟩
def Zlt (K : PySem.W.Frag) (x : V) (H : Hp) (n : Nat) : Prop :=
 match x with
 | .str y => y.length ≤ sizeLine ∧ n = y.length
 | .byt y => y.size ≤ sizeLine ∧ n = y.size
 | .ref p => (∃ xs, SqL K H p xs ∧ n = xs.length) ∨ ∃ xs, SqT K H p xs ∧ n = xs.length
 | _ => False
theorem Zhr : Za5 X (.builtin "len") (fun xs H Q => ∃ x n, xs = [x] ∧ Zlt X.K x H n ∧ Q (.int n) H) := by
 intro pins s σ H xs us Q I r h
 obtain ⟨x, n, rfl, e, q⟩ := h
 obtain ⟨u, rfl, rx⟩ := vals1 r
 have hl := Zd3
 have hs : sizeLine = 16777216 := sizeLine_eq
 cases x with
 | str y =>
  obtain ⟨t, rfl⟩ := rx
  obtain ⟨hy, e'⟩ : y.length ≤ sizeLine ∧ n = y.length := e
  subst e'
  exact len_str (by omega) ⟨.int _, H, I.tok _, ⟨_, rfl⟩, q⟩
 | byt y =>
  obtain ⟨t, rfl⟩ := rx
  obtain ⟨hy, e'⟩ : y.size ≤ sizeLine ∧ n = y.size := e
  subst e'
  exact PySem.W.len_bytes (by omega) ⟨.int _, H, I.tok _, ⟨_, rfl⟩, q⟩
 | ref p =>
  cases rx
  have e' : (∃ xs, SqL X.K H p xs ∧ n = xs.length) ∨ ∃ xs, SqT X.K H p xs ∧ n = xs.length := e
  rcases e' with ⟨xs, hx, e'⟩ | ⟨xs, hx, e'⟩
  ·subst e'
   obtain ⟨its, r', pl, hz⟩ := I.list hx
   have hlen := r'.length
   exact Calls.call_len_list pl.isList (by simp only [List.size_toArray]; omega) ⟨.int xs.length, H, I.tok _, ⟨_, by simp only [List.size_toArray]; rw [hlen]⟩, q⟩
  ·subst e'
   obtain ⟨its, r', pl, hz⟩ := I.tuple hx
   have hlen := r'.length
   exact len_tuple pl (by simp only [List.size_toArray]; omega) ⟨.int xs.length, H, I.tok _, ⟨_, by simp only [List.size_toArray]; rw [hlen]⟩, q⟩
 | _ => exact (show False from e).elim
end
end L2
namespace L2
open PySem PySem.Spec PyProof.Rows
structure ZiO (h : Heap) (x dx C : Addr) (mA : Str → Option Value) : Prop where
 obj : h.get? x = some (PySem.W.instObj C dx)
 ns : h.Ns1 dx mA
 ne : dx ≠ x
theorem ZgA {h : Heap} {dx : Addr} {mA : Str → Option Value} (n : h.Ns1 dx mA) : ∃ od, h.get? dx = some od ∧ ∀ name, PySem.W.lookIn name od = some (mA name) := by
 obtain ⟨o, es, ep, ho, hd, hk, _, hm⟩ := n
 refine ⟨o, ho, fun name => ?_⟩
 have e := hm name
 unfold nsFind findBy at e
 rw [← Array.find?_toList] at e
 unfold PySem.W.lookIn
 rw [hd]
 dsimp only
 split
 ·rename_i y q
  rw [q] at e
  exact congrArg some e
 ·rename_i q
  rw [q] at e
  have a : es.toList.any (·.refKey) = false := by
   rw [List.any_eq_false]
   intro y hy
   obtain ⟨z, t, hkey⟩ := hk y (Array.mem_toList_iff.mp hy)
   simp [DictEntry.refKey, hkey]
  have a' : ¬ es.toList.any (·.refKey) = true := by rw [a]; exact Bool.false_ne_true
  rw [if_neg a']
  exact congrArg some e
theorem ZiO.look {h : Heap} {x dx C : Addr} {mA : Str → Option Value} (I : ZiO h x dx C mA) : ∃ od, PySem.W.InstAt h x (PySem.W.instObj C dx) C (some od) ∧ ∀ name, PySem.W.lookIn name od = some (mA name) :=
 let ⟨od, ho, hl⟩ := ZgA I.ns
 ⟨od, ⟨I.obj, rfl, rfl, ho⟩, hl⟩
section
variable {prog : Program} {w : World} {A : Around} {E : Value → Shared → Prop} {s : Shared} {K : PySem.W.Frag} {x dx C f : Addr} {mA : Str → Option Value} {name : Str} {v : Value}
end
theorem ZdV.some_of {v : V} {o : Option Value} (r : ZdV (some v) o) : ∃ u, o = some u ∧ RelV v u := by
 cases o with
 | none => exact (show False from r).elim
 | some u => exact ⟨u, rfl, r⟩
section
variable {P : Program} {w : World} {H H' : Hp} {h h' : Heap} {a C dx : Addr} {fs fs' : List (Str × V)}
theorem ZhM (hok : HOk P w H h) (e : H a = some (.ins C dx fs)) : ∃ mA, ZiO h a dx C mA ∧ (∀ f, ZdV (fs.lookup f) (mA f)) ∧ PySem.Within mA (fs.map (·.1)) ∧ fs.length ≤ 1000 ∧ H dx = some (.own a) := by
 obtain ⟨d, z, ne, ob, mA, n, r, q⟩ := (show ZaV P w H h a (.ins C dx fs) from hok a _ e)
 exact ⟨mA, ⟨ob, n, ne⟩, r, q, z, d⟩
end
structure Cls (K : PySem.W.Frag) (C : Addr) : Prop where
 pg : PySem.W.plainGet K C Str.empty = true
 hd : PySem.W.hasDictIn K C = true
 po : PySem.W.plainOver K C = true
 sa : PySem.W.findIn K (.ref C) "__setattr__" = some (some (.builtin "object.__setattr__"))
theorem Cls.get {K : PySem.W.Frag} {C : Addr} (c : Cls K C) (f : Str) : PySem.W.plainGet K C f = true := c.pg
section
variable {X : Cx} {pins : List (Addr × Obj)} {σ : St} {H : Hp} {s : Shared} {a C dx : Addr} {fs : List (Str × V)} {f : Str} {v : V} {A : Around} {E : Value → Shared → Prop}
end
section
variable {X : Cx} {o e value : Expr} {f : Str} {pos pos' tpos : Pos} {ta tv : TE}
end
section
variable {X : Cx} {pins : List (Addr × Obj)} {σ : St} {H : Hp} {s : Shared} {A : Around} {E : Value → Shared → Prop} {Q : Value → Shared → Prop} {c : Value} {b : Bool}
inductive ZdK (K : PySem.W.Frag) (H : Hp) : V → Value → Prop where
 | non : ZdK K H .non (.type "NoneType")
 | bl (x : Bool) : ZdK K H (.bl x) (.type "bool")
 | int (i : Int) : ZdK K H (.int i) (.type "int")
 | str (x : Str) : ZdK K H (.str x) (.type "str")
 | flt (x : UInt64) : ZdK K H (.flt x) (.type "float")
 | lst {a : Addr} {xs : List V} (e : H a = some (.lst xs)) : ZdK K H (.ref a) (.type "list")
 | frz {a : Addr} {o : Obj} {xs : List V} (e : H a = some (.frz o (.lst xs))) : ZdK K H (.ref a) (.type "list")
 | tup {a : Addr} {xs : List V} (e : H a = some (.tup xs)) : ZdK K H (.ref a) (.type "tuple")
 | dK {a : Addr} {kvs : List (Key × V)} (e : H a = some (.dK kvs)) : ZdK K H (.ref a) (.type "dict")
 | dT {a : Addr} {kvs : List (List Key × V)} (e : H a = some (.dT kvs)) : ZdK K H (.ref a) (.type "dict")
 | ins {a C dx : Addr} {fs : List (Str × V)} (e : H a = some (.ins C dx fs)) (cl : Cls K C) (ha : PySem.W.findIn K (.ref C) "__class__" = some (some (.builtin "object.__class__")))
   (hn : PySem.W.specialIn K (.builtin "object.__class__") "__get__" = some (some (.builtin "getset_descriptor.__get__"))) (htk : PySem.W.takesIn K (.builtin "object.__class__") = some true)
   (hm : PySem.W.mroIn K C (.type "object") = some true) : ZdK K H (.ref a) (.ref C)
theorem ZbS {x : V} {u t : Value} (I : Inv X pins σ H s) (rx : RelV x u) (ty : ZdK X.K H x t) (e : PySem.W.kitOne X.K t c = some b) (h : ∀ tk, Q (.bool b) { s with toks := tk }) :
  wpAny (model X.prog X.w) A (call (.builtin "isinstance") [u, c]) Q E s := by
 cases ty with
 | non => cases (show u = Value.none from rx); exact PySem.W.kia_one PySem.W.kitx_none I.kIn True.intro e (fun z => nomatch z) h
 | bl y => cases (show u = Value.bool y from rx); exact PySem.W.kia_one PySem.W.kitx_bool I.kIn True.intro e (fun z => nomatch z) h
 | int i => obtain ⟨t, q⟩ := (show ∃ t, u = Value.int i t from rx); cases q; exact PySem.W.kia_one PySem.W.kitx_int I.kIn True.intro e (fun z => nomatch z) h
 | str y => obtain ⟨t, q⟩ := (show ∃ t, u = Value.str y t from rx); cases q; exact PySem.W.kia_one PySem.W.kitx_str I.kIn True.intro e (fun z => nomatch z) h
 | flt y => obtain ⟨t, q⟩ := (show ∃ t, u = Value.float y t from rx); cases q; exact PySem.W.kia_one PySem.W.kitx_float I.kIn True.intro e (fun z => nomatch z) h
 | @lst a xs ea =>
  cases (show u = Value.ref a from rx)
  obtain ⟨_, _, n, _, h1⟩ := (show ZaV X.prog X.w H s.heap a (.lst xs) from I.hok a _ ea)
  exact PySem.W.kia_one PySem.W.kitx_list I.kIn ⟨_, h1, rfl⟩ e (fun z => nomatch z) h
 | @frz a ob xs ea =>
  cases (show u = Value.ref a from rx)
  obtain ⟨_, _, _, n, _, h1⟩ := (show ZaV X.prog X.w H s.heap a (.frz ob (.lst xs)) from I.hok a _ ea)
  exact PySem.W.kia_one PySem.W.kitx_list I.kIn ⟨_, h1, rfl⟩ e (fun z => nomatch z) h
 | @tup a xs ea =>
  cases (show u = Value.ref a from rx)
  obtain ⟨_, _, _, p⟩ := (show ZaV X.prog X.w H s.heap a (.tup xs) from I.hok a _ ea)
  obtain ⟨o, h1, h2, _⟩ := p
  exact PySem.W.kia_one PySem.W.kitx_tuple I.kIn ⟨o, h1, h2.1⟩ e (fun z => nomatch z) h
 | @dK a kvs ea =>
  cases (show u = Value.ref a from rx)
  obtain ⟨_, _, vs, _, p⟩ := (show ZaV X.prog X.w H s.heap a (.dK kvs) from I.hok a _ ea)
  obtain ⟨o, es, ep, h1, h2, _⟩ := p
  exact PySem.W.kia_one PySem.W.kitx_dict I.kIn ⟨o, h1, h2.1⟩ e (fun z => nomatch z) h
 | @dT a kvs ea =>
  cases (show u = Value.ref a from rx)
  obtain ⟨_, _, xs, _, o, es, ep, h1, h2, _⟩ := (show ZaV X.prog X.w H s.heap a (.dT kvs) from I.hok a _ ea)
  exact PySem.W.kia_one PySem.W.kitx_dict I.kIn ⟨o, h1, h2.1⟩ e (fun z => nomatch z) h
 | @ins a C dx fs ea cl ha hn htk hm =>
  cases (show u = Value.ref a from rx)
  obtain ⟨mA, O, _⟩ := ZhM I.hok ea
  obtain ⟨od, J, _⟩ := O.look
  exact PySem.W.kia_one (PySem.W.kitx_own (cl.get _) cl.hd ha hn htk hm) I.kIn J e (fun z => nomatch z) h
end
end L2
namespace L2
open PySem PySem.Spec PyProof.Rows
structure ZbK (k : Nat) (A : Around) : Prop where
 hd : A.handled = none
 dp : A.depth + 3 * k + 5 < recursionLimit
 un : A.units + 16 * k + 200 < cLine
theorem ZbK.mono {j k : Nat} {A : Around} (r : ZbK k A) (h : j ≤ k) : ZbK j A := ⟨r.hd, by have := r.dp; omega, by have := r.un; omega⟩
theorem ZbK.deeper {k : Nat} {A : Around} (r : ZbK (k + 1) A) (env : Env) : ZbK k (A.deeper env) :=
 ⟨r.hd, by have := r.dp; show A.depth + 1 + 3 * k + 5 < _; omega, by have := r.un; show A.units + 3 + 16 * k + 200 < _; omega⟩
theorem ZbK.in1 {k : Nat} {A : Around} (r : ZbK (k + 1) A) : ZbK k A.in1 :=
 ⟨r.hd, by have := r.dp; show A.depth + 3 * k + 5 < _; omega, by have := r.un; show A.units + 1 + 16 * k + 200 < _; omega⟩
theorem ZbK.depth {k : Nat} {A : Around} (r : ZbK k A) : A.depth < recursionLimit := by have := r.dp; omega
theorem ZbK.units {k : Nat} {A : Around} (r : ZbK k A) : A.units + 64 < cLine := by have := r.un; omega
def Zly : TA := fun _ H Q => Q [] H
def Zj8 (ta : TE) (tr : TA) : TA := fun σ H Q => ta σ H fun x H1 => tr σ H1 fun xs H2 => Q (x :: xs) H2
section
variable {X : Cx} {e : Expr} {es : List Expr} {te : TE} {t : TA} {pos : Pos}
theorem ZeA : PA X [] Zly := fun _ _ _ _ H Q I h => Calls.spliced_nil ⟨[], H, I, .nil, h⟩
theorem Zct (ha : PE X e te) (hr : PA X es t) (hs : starEach (e :: es) X.env = (false, eval e X.env) :: starEach es X.env := by rfl) : PA X (e :: es) (Zj8 te t) := by
 intro pos pins s σ H Q I h
 rw [hs]
 show wpAny _ _ (spliced ((false, eval e X.env) :: backTo pos (starEach es X.env))) _ _ s
 refine Calls.spliced_cons (thn (ha pins s σ H _ I h) fun u s1 ⟨x, H1, I1, r1, q1⟩ => ?_)
 exact thn (hr pos pins s1 σ H1 _ I1 q1) fun us s2 ⟨xs, H2, I2, r2, q2⟩ => ⟨x :: xs, H2, I2, .cons r1 r2, q2⟩
def ZkZ (t : TA) : TE := fun σ H Q => t σ H fun xs H1 => xs.length ≤ sizeLine ∧ ∀ p, H1 p = none → Q (.ref p) (upd H1 p (.tup xs))
def Zk4 (t : TA) : TE := fun σ H Q => t σ H fun xs H1 => xs.length ≤ sizeLine ∧ ∀ p, H1 p = none → Q (.ref p) (upd H1 p (.lst xs))
theorem Zhk {x1} (h : PA X es t) : PE X (.Tuple es x1 pos) (ZkZ t) := by
 intro pins s σ H Q I hq
 refine wpAny_Tuple_spliced (thn (h pos pins s σ H _ I hq) fun us s1 ⟨xs, H1, I1, r, z, q⟩ => ⟨by rw [← r.length]; exact z, ?_⟩)
 have hf : H1 s1.heap.objs.size = none := I1.hok.fresh (Nat.le_refl _)
 refine ⟨.ref s1.heap.objs.size, upd H1 s1.heap.objs.size (.tup xs), I1.laid (t' := s1.toks) (fun b u e => Heap.get?_push_of_some _ e) (Nat.le_refl _) ?_, rfl, q _ hf⟩
 exact ⟨z, us, r, ⟨_, Heap.get?_push_size _ rfl, ⟨rfl, rfl⟩, _, rfl⟩⟩
theorem ZiX (h : PA X es t) : PE X (.List es pos) (Zk4 t) := by
 intro pins s σ H Q I hq
 refine wpAny_List_spliced (thn (h pos pins s σ H _ I hq) fun us s1 ⟨xs, H1, I1, r, z, q⟩ => ⟨by rw [← r.length]; exact z, ?_⟩)
 have hf : H1 s1.heap.objs.size = none := I1.hok.fresh (Nat.le_refl _)
 refine ⟨.ref s1.heap.objs.size, upd H1 s1.heap.objs.size (.lst xs), I1.laid (t' := s1.toks) (fun b u e => Heap.get?_push_of_some _ e) (Nat.le_refl _) ?_, rfl, q _ hf⟩
 exact ⟨z, us, 0, r, Heap.get?_push_size _ rfl⟩
end
abbrev Sp := List V → Hp → VK → XK → Prop
abbrev CXT := List Env → Hp → Shared → XK → Value → Shared → Prop
structure ZfP (P : Program) (w : World) (K : PySem.W.Frag) (mg : Str → Option Value) (base : Heap) (A : Around) (outer : List Env) (s : Shared) (H : Hp) : Prop where
 frames : A.frames = some outer
 mod : Mod K mg base
 bs : ∀ b o, base.get? b = some o → s.heap.get? b = some o ∧ H b = none
 bsz : base.objs.size ≤ s.heap.objs.size
 funs : s.heap.FunFrames base outer
 frf : ∀ b ∈ frs outer, H b = none
 hok : HOk P w H s.heap
 bare : AllBare s.gens
def CE (outer : List Env) (P : Program) (w : World) (H : Hp) (s : Shared) (Q : VK) (u : Value) (s' : Shared) : Prop :=
 ∃ v H', s'.os = s.os ∧ AllBare s'.gens ∧ Un (frs outer) [] H H' s.heap s'.heap ∧ HOk P w H' s'.heap ∧ RelV v u ∧ Q v H'
def CR (CX : CXT) (outer : List Env) (P : Program) (w : World) (H : Hp) (s : Shared) (Q : VK) (E : XK) (r : Result) (s' : Shared) : Prop :=
 match r with
 | .ok (.ret u) => CE outer P w H s Q u s'
 | .ok _ => False
 | .error e => CX outer H s E e s'
structure Zdn (P : Program) (w : World) (K : PySem.W.Frag) (mg : Str → Option Value) (base : Heap) (CX : CXT) (k : Nat) (f : Addr) (fd : FuncData) (ps : List Str) (sp : Sp) : Prop where
 len : ∀ vs H Q E, sp vs H Q E → vs.length = ps.length
 run : ∀ (A : Around) (outer : List Env) (s : Shared) (H : Hp) (args : Args) (us : List Value) (vs : List V) (Q : VK) (E : XK), ZbK k A → ZfP P w K mg base A outer s H → BindsTo s fd args (ps.zip us) → Vals vs us → sp vs H Q E →
  codeAny (model P w) A (.call (.ref f) args) (CR CX outer P w H s Q E) s
theorem Zdn.mono {P : Program} {w : World} {K : PySem.W.Frag} {mg : Str → Option Value} {base : Heap} {CX : CXT} {j k : Nat} {f : Addr} {fd : FuncData} {ps : List Str} {sp : Sp} (F : Zdn P w K mg base CX j f fd ps sp) (h : j ≤ k) :
  Zdn P w K mg base CX k f fd ps sp := ⟨F.len, fun A outer s H args us vs Q E hr => F.run A outer s H args us vs Q E (hr.mono h)⟩
theorem ZfP.in1 {P : Program} {w : World} {K : PySem.W.Frag} {mg : Str → Option Value} {base : Heap} {A : Around} {outer : List Env} {s : Shared} {H : Hp} (e : ZfP P w K mg base A outer s H) :
  ZfP P w K mg base A.in1 outer s H := ⟨e.frames, e.mod, e.bs, e.bsz, e.funs, e.frf, e.hok, e.bare⟩
section
variable {X : Cx} {pins : List (Addr × Obj)} {σ : St} {H : Hp} {s s' : Shared}
theorem Inv.env0 (I : Inv X pins σ H s) : ZfP X.prog X.w X.K X.mg X.base X.A X.stack s H :=
 ⟨I.ok.frames, I.ok.mod, I.bs, Nat.le_trans I.ok.bsz I.sz, I.stack, I.stkFree, I.hok, I.bare⟩
theorem Inv.after {Q : VK} {u : Value} (I : Inv X pins σ H s) (h : CE X.stack X.prog X.w H s Q u s') : EP X pins σ Q u s' := by
 obtain ⟨v, H', os, bare, un, hok, r, q⟩ := h
 obtain ⟨hh, g, d, t, os'⟩ := s'
 obtain rfl : os' = s.os := os
 exact ⟨v, H', I.call (h' := hh) (g' := g) (d' := d) (t' := t) (ch := []) un hok bare (fun b z => absurd z (by simp)), r, q⟩
end
def Zj5 (sp : Sp) (dvs : List V) (E : XK) (t : TA) : TE := fun σ H Q => t σ H fun vs H1 => sp (vs ++ dvs) H1 Q E
def Binds (K : PySem.W.Frag) (fd : FuncData) (ps : List Str) (ds : List Value) : Prop :=
 ∀ (s : Shared) (us : List Value), K.In s.heap → (us ++ ds).length = ps.length → BindsTo s fd ⟨us, []⟩ (ps.zip (us ++ ds))
theorem Binds.all {K : PySem.W.Frag} {fd : FuncData} {ps : List Str} (h : ∀ us : List Value, us.length = ps.length → bindArgs fd ⟨us, []⟩ = pure (ps.zip us)) : Binds K fd ps [] := fun s us _ hl => by
 rw [List.append_nil] at hl ⊢
 exact .of_eq (h us hl)
def ZfR (CX : CXT) (X : Cx) (E : XK) : Prop := ∀ (pins : List (Addr × Obj)) (σ : St) (H : Hp) (s : Shared) (e : Value) (s' : Shared), Inv X pins σ H s → CX X.stack H s E e s' → X.xe e s'
section
variable {X : Cx} {CX : CXT} {k : Nat} {f C : Addr} {fd : FuncData} {ps : List Str} {sp : Sp} {dvs : List V} {ds : List Value} {E : XK} {x m : Str} {p pos apos : Pos} {e o : Expr} {es : List Expr} {ta : TE} {t : TA}
theorem Zjk {pins : List (Addr × Obj)} {σ : St} {H : Hp} {s : Shared} {Q : VK} {us : List Value} {vs : List V} (F : Zdn X.prog X.w X.K X.mg X.base CX k f fd ps sp) (hr : ZbK k X.A) (hb : Binds X.K fd ps ds) (hd : Vals dvs ds) (hx : ZfR CX X E)
  (I : Inv X pins σ H s) (r : Vals vs us) (h : sp (vs ++ dvs) H Q E) : wpAny (model X.prog X.w) X.A (call (.ref f) us) (EP X pins σ Q) X.xe s := by
 have r2 : Vals (vs ++ dvs) (us ++ ds) := r.append hd
 have hl : (us ++ ds).length = ps.length := by rw [← r2.length]; exact F.len _ _ _ _ h
 refine wpAny_call (codeAny_mono (F.run X.A X.stack s H ⟨us, []⟩ (us ++ ds) (vs ++ dvs) Q E hr I.env0 (hb s us I.kIn hl) r2 h) fun r s' hq => ?_)
 cases r with
 | error e => exact hx pins σ H s e s' I hq
 | ok fl =>
  cases fl with
  | ret u => exact I.after hq
  | next => exact False.elim hq
  | brk => exact False.elim hq
  | cont => exact False.elim hq
theorem Zh8 (F : Zdn X.prog X.w X.K X.mg X.base CX k f fd ps sp) (hr : ZbK k X.A) (hg : Gl X x) (hm : X.mg x = some (.ref f)) (hk : PySem.W.keepIn X.K (.ref f) = true) (hb : Binds X.K fd ps ds) (hd : Vals dvs ds) (hx : ZfR CX X E)
  (ha : PA X (e :: es) t) (hdb : (x == ("__debug__" : Str)) = false := by decide) (he : starEach (e :: es) X.env = (false, eval e X.env) :: starEach es X.env := by rfl) (hpl : (backTo pos (starEach es X.env)).any (·.1) = false := by rfl) :
  PE X (.Call (.Name x p) (e :: es) [] pos) (Zj5 sp dvs E t) := by
 intro pins s σ H Q I h
 refine wpAny_Call_Name_kw (Zid I hg hm ?_ hdb)
 refine PySem.W.callWith_K (h₀ := X.base) I.ok.mod.kin hk (thn (ha pos pins s σ H _ I h) fun us s1 ⟨vs, H1, I1, r, q⟩ => ⟨I1.kIn, ?_⟩) he hpl
 exact Zjk F hr hb hd hx I1 r q
end
section
variable {X : Cx} {CX : CXT} {k : Nat} {f C : Addr} {fd : FuncData} {ps ks : List Str} {sp : Sp} {E : XK} {x m : Str} {p pos apos kpos : Pos} {e o : Expr} {es : List Expr} {kws : List Keyword} {te ta : TE} {t tk : TA} {nm : Option Str}
variable {g : List Value → List Value → List Value} {gV : List V → List V → List V}
end
structure Zam (N P : List Str) (sc : Scope) : Prop where
 kind : sc.kind = .function
 co : sc.isCoroutine = false
 gen : sc.isGenerator = false
 nd : N.Nodup
 pre : N.take P.length = P
 par : ∀ x ∈ P, sc.names.lookup x = some .local ∨ sc.names.lookup x = some .cell
 nofree : ∀ y ∈ sc.names, y.2 ≠ .free
theorem Zeu {kindOf : Str → Option NameKind} {x : Str} : ∀ {binds : List (Str × Value)} {m : Str → Option Value}, (∀ v, (x, v) ∉ binds) → bindL kindOf binds m x = m x
 | [], _, _ => rfl
 | (n, v) :: r, m, h => by
  unfold bindL
  rw [Zeu fun w hw => h w (List.mem_cons_of_mem _ hw)]
  split
  ·have : x ≠ n := by rintro rfl; exact h v List.mem_cons_self
   simp [this]
  ·rfl
theorem Zen {kindOf : Str → Option NameKind} {x : Str} : ∀ {binds : List (Str × Value)} {m : Str → Option Value}, (∀ v, (x, v) ∉ binds) → bindC kindOf binds m x = m x
 | [], _, _ => rfl
 | (n, v) :: r, m, h => by
  unfold bindC
  rw [Zen fun w hw => h w (List.mem_cons_of_mem _ hw)]
  split
  ·rfl
  ·have : x ≠ n := by rintro rfl; exact h v List.mem_cons_self
   simp [this]
theorem Zes {kindOf : Str → Option NameKind} {x : Str} {v : Value} : ∀ {P : List Str} {vs : List Value} {i : Nat} {m : Str → Option Value}, P.Nodup → P[i]? = some x → vs[i]? = some v → kindOf x = some .local →
  bindL kindOf (P.zip vs) m x = some v
 | [], _, _, _, _, h, _, _ => by simp at h
 | _ :: _, [], _, _, _, _, h, _ => by simp at h
 | p :: P, w :: vs, 0, m, nd, h1, h2, hk => by
  simp at h1 h2; subst h1; subst h2
  show bindL kindOf ((p, w) :: P.zip vs) m p = _
  unfold bindL
  rw [Zeu fun v hv => (List.nodup_cons.mp nd).1 (List.of_mem_zip hv).1, if_pos hk]
  simp
 | p :: P, w :: vs, i + 1, m, nd, h1, h2, hk => by
  show bindL kindOf ((p, w) :: P.zip vs) m x = _
  unfold bindL
  exact Zes (i := i) (List.nodup_cons.mp nd).2 (by simpa using h1) (by simpa using h2) hk
theorem Zeh {kindOf : Str → Option NameKind} {x : Str} {v : Value} : ∀ {P : List Str} {vs : List Value} {i : Nat} {m : Str → Option Value}, P.Nodup → P[i]? = some x → vs[i]? = some v → kindOf x ≠ some .local →
  bindC kindOf (P.zip vs) m x = some v
 | [], _, _, _, _, h, _, _ => by simp at h
 | _ :: _, [], _, _, _, _, h, _ => by simp at h
 | p :: P, w :: vs, 0, m, nd, h1, h2, hk => by
  simp at h1 h2; subst h1; subst h2
  show bindC kindOf ((p, w) :: P.zip vs) m p = _
  unfold bindC
  rw [Zen fun v hv => (List.nodup_cons.mp nd).1 (List.of_mem_zip hv).1, if_neg hk]
  simp
 | p :: P, w :: vs, i + 1, m, nd, h1, h2, hk => by
  show bindC kindOf ((p, w) :: P.zip vs) m x = _
  unfold bindC
  exact Zeh (i := i) (List.nodup_cons.mp nd).2 (by simpa using h1) (by simpa using h2) hk
def start (N : List Str) (vs : List V) : St := vs.map some ++ List.replicate (N.length - vs.length) none
def Zfi (CX : CXT) (P : Program) (w : World) (K : PySem.W.Frag) (mg : Str → Option Value) (base : Heap) (N : List Str) (qual : Str) (scope : Scope) (f : Addr) (cd : Value) (A : Around) (outer : List Env) (s : Shared) (H : Hp) (E : XK) : Cx where
 prog := P
 w := w
 K := K
 mg := mg
 base := base
 A := A.deeper (envOfC qual scope s.heap.objs.size f cd)
 N := N
 s₀ := s
 H₀ := H
 env := envOfC qual scope s.heap.objs.size f cd
 outer := outer
 stack := envOfC qual scope s.heap.objs.size f cd :: outer
 ex := []
 calm := true
 fn := fun _ => true
 pn := []
 xe := fun e s' => wpAny (model P w) (A.deeper (envOfC qual scope s.heap.objs.size f cd)) (leaving (envOfC qual scope s.heap.objs.size f cd) e) (fun _ s'' => CX outer H s E e s'') (fun e' s'' => CX outer H s E e' s'') s'
theorem Zfj {sc : Scope} {n : Nat} {x : Str} (h : sc.names.lookup x = some .cell) : ∃ c, (cellsFrom n sc.names []).lookup x = some c := by
 have q := PySem.W.cellsFrom_some sc.names n [] (.inl h)
 exact Option.isSome_iff_exists.mp q
theorem Zgu {CX : CXT} {P : Program} {w : World} {K : PySem.W.Frag} {mg : Str → Option Value} {base : Heap} {N ps : List Str} {qual : Str} {scope : Scope} {f : Addr} {cd : Value} {A : Around} {outer : List Env} {s s1 : Shared} {H : Hp} {E : XK} {us : List Value} {vs : List V}
  (S : Zam N ps scope) (hd : A.handled = none) (e0 : ZfP P w K mg base A outer s H) (hl : vs.length = ps.length) (r : Vals vs us)
  (x : InCallC s s.heap.objs.size (bindL (envOfC qual scope s.heap.objs.size f cd).kindOf (ps.zip us) fun _ => none) (cellsFrom (s.heap.objs.size + 1) scope.names []) (bindC (envOfC qual scope s.heap.objs.size f cd).kindOf (ps.zip us) fun _ => none) s1) :
  Inv (Zfi CX P w K mg base N qual scope f cd A outer s H E) [] (start N vs) H s1 := by
 have hpl : ps.length ≤ N.length := by have := congrArg List.length S.pre; rw [List.length_take] at this; omega
 obtain ⟨h1, tk, rfl, hk⟩ := x.done
 have noA : ∀ b : Addr, b ∉ (Zfi CX P w K mg base N qual scope f cd A outer s H E).ex := fun b z => absurd (show b ∈ ([] : List Addr) from z) (by simp)
 refine ⟨⟨e0.mod, S.kind, rfl, rfl, Nat.le_refl _, fun y z c h1 h2 => ?_, fun y hy => ?_, fun y c _ h => ?_, fun _ => hd, Around.frames_deeper e0.frames, .inr ⟨rfl, rfl⟩, fun b z => absurd z (noA b), e0.bs, e0.bsz, fun b _ _ => noA b, fun b z => absurd z (noA b), e0.funs, e0.frf⟩,
  rfl, e0.bare, Un.kept hk, ⟨_, x.toInCall.ns, fun i y v h1 h2 h3 => ?_⟩, fun y c h => ⟨_, x.cell y c h⟩, e0.hok.fresh (Nat.le_refl _), fun y c h => ?_, fun p hp => absurd (show p ∈ ([] : List (Addr × Obj)) from hp) (by simp), e0.hok.kept hk, ?_⟩
 ·exact name_of_addr x.apart (PySem.mem_of_lookup h1) (PySem.mem_of_lookup h2)
 ·have hy : scope.names.lookup y = some .cell ∨ scope.names.lookup y = some .free := hy
  rcases hy with hy | hy
  ·exact Zfj hy
  ·exact absurd rfl (S.nofree _ (PySem.mem_of_lookup hy))
 ·exact Nat.le_of_lt (x.above y c (PySem.mem_of_lookup h))
 ·have hi : i < vs.length := by
   unfold start at h2
   by_cases hi : i < vs.length
   ·exact hi
   ·rw [List.getElem?_append_right (by simpa using hi)] at h2
    rw [List.getElem?_replicate] at h2
    split at h2 <;> cases h2
  have ha : vs[i]? = some v := by
   unfold start at h2
   rw [List.getElem?_append_left (by simpa using hi), List.getElem?_map] at h2
   cases e : vs[i]? with
   | none => rw [e] at h2; cases h2
   | some a => rw [e] at h2; cases h2; rfl
  obtain ⟨u, hu, rv⟩ := r.get ha
  have hp : ps[i]? = some y := by
   rw [← S.pre, List.getElem?_take_of_lt (by omega)]; exact h1
  have ndP : ps.Nodup := by rw [← S.pre]; exact S.nd.sublist (List.take_sublist _ _)
  refine ⟨u, rv, ?_⟩
  rcases S.par y (List.mem_of_getElem? hp) with k | k
  ·exact .inl ⟨k, Zes ndP hp hu k⟩
  ·obtain ⟨c, e⟩ := Zfj (n := s.heap.objs.size + 1) k
   refine .inr ⟨.inl k, c, e, ?_⟩
   have q := x.cell y c e
   rw [Zeh ndP hp hu (by show scope.names.lookup y ≠ _; rw [k]; decide)] at q
   exact q
 ·exact e0.hok.fresh (Nat.le_of_lt (x.above y c (PySem.mem_of_lookup h)))
 ·unfold start
  show _ = N.length
  rw [List.length_append, List.length_map, List.length_replicate]
  omega
theorem Zj2 {CX : CXT} {P : Program} {w : World} {K : PySem.W.Frag} {mg : Str → Option Value} {base : Heap} {k : Nat} {f : Addr} {name qual : Str} {params : Arguments} {body : List Stmt} {scope : Scope} {dV kV doc pm cdv ct oc : Value} {an od : Option Addr}
  {osl : Array (Option Value)} {N ps : List Str} {sp : Sp} (lk : K.lookup f = some ⟨oc, od, .func (PySem.W.fnOf name qual params body scope dV kV doc pm an cdv ct), osl⟩) (hcd : PySem.W.codeIn K cdv qual = true) (S : Zam N ps scope)
  (len : ∀ vs H Q E, sp vs H Q E → vs.length = ps.length)
  (hbody : ∀ (A : Around) (outer : List Env) (s : Shared) (H : Hp) (vs : List V) (Q : VK) (E : XK), ZbK k (A.deeper (envOfC qual scope s.heap.objs.size f cdv)) → sp vs H Q E →
   ∃ t, PSs (Zfi CX P w K mg base N qual scope f cdv A outer s H E) body t ∧ t { nx := fun _ H' => Q .non H', rt := Q } (start N vs) H) :
  Zdn P w K mg base CX (k + 1) f (PySem.W.fnOf name qual params body scope dV kV doc pm an cdv ct) ps sp := by
 refine ⟨len, fun A outer s H args us vs Q E hr e0 hb r hsp => ?_⟩
 have hl := len _ _ _ _ hsp
 have KX : K.In s.heap := e0.mod.kin.keeps fun b o e => (e0.bs b o e).1
 have lim : s.heap.NoLimit := e0.mod.nolimit.keeps fun b o e => (e0.bs b o e).1
 have hkind : ∀ y ∈ ps.zip us, scope.names.lookup y.1 = some .local ∨ (scope.names.lookup y.1 = some .cell ∧ ((cellsFrom (s.heap.objs.size + 1) scope.names []).lookup y.1).isSome = true) := fun ⟨n, v⟩ hy => by
  rcases S.par n (List.of_mem_zip hy).1 with q | q
  ·exact .inl q
  ·exact .inr ⟨q, PySem.W.cellsFrom_some _ _ _ (.inl q)⟩
 refine codeAny_call_function hr.depth (KX _ _ lk) rfl S.co S.gen rfl (PySem.W.codeRec_of KX hcd) (hb _ _ _ _ ?_)
 refine wpAny_newFunctionEnv_cells S.kind hkind fun env he s1 x => ?_
 subst he
 refine ⟨lim.keeps x.toInCall.keep, codeAny_func ?_⟩
 obtain ⟨t, ht, hq⟩ := hbody A outer s H vs Q E (hr.deeper _) hsp
 have I : Inv (Zfi CX P w K mg base N qual scope f cdv A outer s H E) [] (start N vs) H s1 := Zgu S hr.hd e0 hl r x
 refine wpAny_mono (ht [] s1 (start N vs) H _ I hq) (fun fl s' hs => ?_) fun e s' hs => hs
 have fin : ∀ {σ' : St} {H' : Hp} {v : V} {u : Value}, Inv (Zfi CX P w K mg base N qual scope f cdv A outer s H E) [] σ' H' s' → RelV v u → Q v H' → CE outer P w H s Q u s' :=
  fun {σ' H' v u} J rv q => ⟨v, H', J.os, J.bare, J.base, J.hok, rv, q⟩
 cases fl with
 | ret u =>
  obtain ⟨v, σ', H', J, rv, q⟩ := hs
  exact fin J rv q
 | next =>
  obtain ⟨σ', H', J, q⟩ := hs
  exact fin (v := V.non) (u := Value.none) J rfl q
 | brk =>
  obtain ⟨_, _, _, q⟩ := hs
  exact False.elim q
 | cont =>
  obtain ⟨_, _, _, q⟩ := hs
  exact False.elim q
end L2
namespace L2
open PySem PySem.Spec PyProof.Rows
section
variable {X : Cx} {x : Str} {p pos : Pos} {e : Expr} {es : List Expr} {t : TA} {id T : String} {r : List V → Hp → VK → Prop}
def tCB (r : List V → Hp → VK → Prop) (t : TA) : TE := fun σ H Q => t σ H fun vs H1 => r vs H1 Q
theorem Zd8 (hc : Za5 X (.builtin id) r) (hg : Gl X x) (hm : X.mg x = none) (hv : bootBuiltins x = some (.builtin id)) (ha : PA X (e :: es) t) (hn : x ≠ "__name__" := by decide) (hdb : (x == ("__debug__" : Str)) = false := by decide)
  (he : starEach (e :: es) X.env = (false, eval e X.env) :: starEach es X.env := by rfl) (hpl : (backTo pos (starEach es X.env)).any (·.1) = false := by rfl) : PE X (.Call (.Name x p) (e :: es) [] pos) (tCB r t) := by
 intro pins s σ H Q I h
 refine wpAny_Call_Name_kw (Zdz I hg hm hv ?_ hn hdb)
 exact PyProof.Rows.callWith_builtin1 (thn (ha pos pins s σ H _ I h) fun us s1 ⟨vs, H1, I1, r1, q1⟩ => hc pins s1 σ H1 vs us Q I1 r1 q1) he hpl
theorem ZgL (hc : Za5 X (.type T) r) (hg : Gl X x) (hm : X.mg x = none) (hv : bootBuiltins x = some (.type T)) (ha : PA X (e :: es) t) (hn : x ≠ "__name__" := by decide) (hdb : (x == ("__debug__" : Str)) = false := by decide)
  (he : starEach (e :: es) X.env = (false, eval e X.env) :: starEach es X.env := by rfl) (hpl : (backTo pos (starEach es X.env)).any (·.1) = false := by rfl) : PE X (.Call (.Name x p) (e :: es) [] pos) (tCB r t) := by
 intro pins s σ H Q I h
 refine wpAny_Call_Name_kw (Zdz I hg hm hv ?_ hn hdb)
 exact PyProof.Rows.callWith_type1 (thn (ha pos pins s σ H _ I h) fun us s1 ⟨vs, H1, I1, r1, q1⟩ => hc pins s1 σ H1 vs us Q I1 r1 q1) he hpl
end
end L2
namespace HT
open PySem PyProof.Rows
section
open PySem.SeqAt
open PySem.AutoSeq1 (wpAny_loadPart')
open PySem.MeetsSeq PySem.MeetsSeq2 PySem.MeetsSeq3
end
section
variable {prog : Program} {w : World} {A : Around} {E : Value → Shared → Prop} {s : Shared}
theorem cat_tup {t b : Addr} {vs ws : List Value} {Q : Value → Shared → Prop} (ht : IsTup s.heap t vs.toArray) (hb : IsTup s.heap b ws.toArray) (hv : vs ≠ [])
  (h1 : ws = [] → Q (.ref t) s) (h2 : ws ≠ [] → Q (.ref s.heap.objs.size) { s with heap := s.heap.push { cls := .type "tuple", data := .seq (vs ++ ws).toArray } })
  (hsz : vs.length + ws.length ≤ sizeLine) : wpAny (model prog w) A (binaryOp .Add (.ref t) (.ref b)) Q E s := by
 obtain ⟨⟨cls, dd, data, sl⟩, ho, hc, n, hd⟩ := id ht
 obtain ⟨⟨cls2, dd2, data2, sl2⟩, ho2, hc2, n2, hd2⟩ := id hb
 simp only at hc hd hc2 hd2
 subst hc hd hc2 hd2
 have e : vs.toArray ++ ws.toArray = (vs ++ ws).toArray := by simp
 by_cases hw : ws = []
 ·exact concat_meets ⟨_, ho, rfl⟩ ⟨_, ho2, rfl⟩ noFill_tuple_add seq_tuple_add PySem.F.slot_tuple_add PySem.F.entry_tuple_add (PySem.F.args_tuple_add_2 _ _)
   (tuple_addW1 t b vs.toArray ws.toArray n n2 dd dd2 sl sl2 (by simpa using hv) (by simp [hw])) ⟨ho, ho2, h1 hw⟩
 ·refine concat_meets ⟨_, ho, rfl⟩ ⟨_, ho2, rfl⟩ noFill_tuple_add seq_tuple_add PySem.F.slot_tuple_add PySem.F.entry_tuple_add (PySem.F.args_tuple_add_2 _ _)
   (tuple_addW2 t b vs.toArray ws.toArray n n2 dd dd2 sl sl2 (by simpa using hv) (by simpa using hw) (by rw [List.size_toArray, List.size_toArray]; exact hsz)) ⟨ho, ho2, ?_⟩
  rw [e]
  exact h2 hw
def sIx (n d : Nat) : Option Int → Nat
 | none => d
 | some v => if v < 0 then (v + (n : Int)).toNat else min v.toNat n
theorem Ze7 (n d : Nat) : sIx n d none = d := rfl
theorem ZdP (n d k : Nat) : sIx n d (some (k : Int)) = min k n := by
 show (if (k : Int) < 0 then ((k : Int) + (n : Int)).toNat else min (k : Int).toNat n) = min k n
 rw [if_neg (by omega), Int.toNat_natCast]
theorem ZeD (n d : Nat) (hd : d ≤ n) (o : Option Int) : sIx n d o ≤ n := by
 cases o with
 | none => exact hd
 | some v =>
  show (if v < 0 then (v + (n : Int)).toNat else min v.toNat n) ≤ n
  by_cases hv : v < 0
  ·rw [if_pos hv]; omega
  ·rw [if_neg hv]; exact Nat.min_le_right _ _
theorem ZfY (v : Int) (n d : Nat) : (if v < 0 then max (v + (n : Int)) 0 else min v (n : Int)) = ((sIx n d (some v) : Nat) : Int) := by
 show (if v < 0 then max (v + (n : Int)) 0 else min v (n : Int)) = (((if v < 0 then (v + (n : Int)).toNat else min v.toNat n) : Nat) : Int)
 by_cases hv : v < 0
 ·simp only [if_pos hv]; omega
 ·simp only [if_neg hv]; omega
theorem ZfK (lo hi : Option Int) (n : Nat) : Builtin.Slice.sliceAdjust lo hi 1 (n : Int) = (((sIx n 0 lo : Nat) : Int), ((sIx n n hi : Nat) : Int)) := by
 have h1 : ¬ ((1 : Int) < 0) := by omega
 unfold Builtin.Slice.sliceAdjust
 simp only [h1, if_false]
 refine Prod.ext ?_ ?_
 ·cases lo with
  | none => rfl
  | some v => exact ZfY v n 0
 ·cases hi with
  | none => rfl
  | some v => exact ZfY v n n
theorem ZfS (i j : Nat) : Builtin.Slice.slicePlaces (i : Int) (j : Int) 1 = j - i := by
 unfold Builtin.Slice.slicePlaces
 have h1 : (1 : Int) > 0 := by omega
 simp only [h1, if_true, Int.ediv_one]
 split <;> omega
theorem Zd4 {v : Value} {o : Option Int} {Q : Option Int → Shared → Prop} (p : IsPart v o) (h : Q o s) : wpAny (model prog w) A (Builtin.Slice.slicePartIndex v) Q E s := by
 cases p with
 | none => exact slicePart_none h
 | int i t => exact slicePart_int h
theorem sliceApplied_gen {sl : Addr} {vl vu : Value} {lo hi : Option Int} {n : Nat} {Q : Int × Int × Nat → Shared → Prop} (hs : s.heap.IsSliceOf sl vl vu .none) (pl : IsPart vl lo) (pu : IsPart vu hi)
  (h : Q (((sIx n 0 lo : Nat) : Int), 1, sIx n n hi - sIx n 0 lo) s) : wpAny (model prog w) A (Builtin.Slice.sliceApplied (.ref sl) (pure (n : Int))) Q E s := by
 obtain ⟨os, hos, hcs, hds⟩ := id hs
 unfold Builtin.Slice.sliceApplied Builtin.Slice.sliceFields
 refine wpAny_bind (wpAny_bind (wpAny_field hos hds (x := vl) rfl (wpAny_bind (wpAny_field hos hds (x := vu) rfl (wpAny_bind (wpAny_field hos hds (x := .none) rfl (wpAny_pure ?_)))))))
 refine wpAny_bind (slicePart_none ?_)
 show wpAny _ _ (if ((1 : Int) == 0) = true then _ else _) _ _ s
 rw [if_neg (by decide)]
 refine wpAny_bind (Zd4 pl (wpAny_bind (Zd4 pu (wpAny_bind (wpAny_pure ?_)))))
 show wpAny _ _ (match Builtin.Slice.sliceAdjust lo hi 1 (n : Int) with | (lo, hi) => pure (lo, (1 : Int), Builtin.Slice.slicePlaces lo hi 1)) _ _ s
 rw [ZfK lo hi n]
 show wpAny _ _ (pure (((sIx n 0 lo : Nat) : Int), (1 : Int), Builtin.Slice.slicePlaces ((sIx n 0 lo : Nat) : Int) ((sIx n n hi : Nat) : Int) 1)) _ _ s
 rw [ZfS]
 exact wpAny_pure h
theorem Zhx (xs : Array Value) (i k : Nat) : ((List.range k).filterMap fun (m : Nat) => xs[((i : Int) + (m : Int) * 1).toNat]?).toArray = ((xs.toList.drop i).take k).toArray := by
 have e : (fun (m : Nat) => xs[((i : Int) + (m : Int) * 1).toNat]?) = fun m => xs[i + m]? := by
  funext m
  have : ((i : Int) + (m : Int) * 1).toNat = i + m := by omega
  rw [this]
 rw [e]
 have := pick_run xs i k
 rw [List.filterMap_map] at this
 have e2 : ((fun x => xs[x]?) ∘ fun x => i + x) = fun m => xs[i + m]? := rfl
 rw [e2] at this
 rw [this]
theorem getItem_tuple_cut {t sl : Addr} {items : Array Value} {vl vu : Value} {lo hi : Option Int} {Q : Value → Shared → Prop} (ht : IsTup s.heap t items) (hs : s.heap.IsSliceOf sl vl vu .none) (pl : IsPart vl lo) (pu : IsPart vu hi)
  (hw : ¬ (sIx items.size 0 lo = 0 ∧ sIx items.size items.size hi = items.size))
  (h : Q (.ref s.heap.objs.size) { s with heap := s.heap.push { cls := .type "tuple", data := .seq ((items.toList.drop (sIx items.size 0 lo)).take (sIx items.size items.size hi - sIx items.size 0 lo)).toArray } })
  (hsz : items.size ≤ sizeLine) : wpAny (model prog w) A (getItem (.ref t) (.ref sl)) Q E s := by
 have htake : sizeOk (.seq ((items.toList.drop (sIx items.size 0 lo)).take (sIx items.size items.size hi - sIx items.size 0 lo)).toArray) := by
  show ((items.toList.drop (sIx items.size 0 lo)).take (sIx items.size items.size hi - sIx items.size 0 lo)).toArray.size ≤ sizeLine
  rw [List.size_toArray, List.length_take, List.length_drop, Array.length_toList]
  omega
 have hj : sIx items.size items.size hi ≤ items.size := ZeD _ _ (Nat.le_refl _) hi
 obtain ⟨os, hos, hcs, hds⟩ := id hs
 have hTs : s.TypeIs (.ref sl) "slice" := ⟨os, hos, hcs⟩
 unfold getItem
 try with_reducible refine wpAny_holding ?_
 first | refine wpAny_bind (wpAny_pure ?_) | skip
 refine wpAny_bind (wpAny_sequenceKey ht.typeIs (by decide) ?_)
 refine wpAny_bind (wpAny_callSpecial?_slot (name := Str.ofString "__getitem__") ht.typeIs PyProof.Rows.slot_tuple_getitem
  (wpAny_call_entry PyProof.Rows.slot_tuple_getitem ht.typeIs entry_tuple_getitem ?_ (args_tuple_getitem _ _)))
 show wpAny _ _ (Builtin.Tuple.tupleItemsOf (.ref t) >>= _) _ _ s
 refine wpAny_bind (tupleItemsOf_ ht ?_)
 refine wpAny_bind (wpAny_typeOf hTs ?_)
 rw [if_pos (by decide)]
 refine wpAny_bind (sliceApplied_gen hs pl pu ?_)
 have hno : ¬ ((((sIx items.size 0 lo : Nat) : Int) == 0 && (1 : Int) == 1 && (sIx items.size items.size hi - sIx items.size 0 lo) == items.size) = true) := by
  intro q
  rw [Bool.and_eq_true, Bool.and_eq_true] at q
  have q1 : ((sIx items.size 0 lo : Nat) : Int) = 0 := eq_of_beq q.1.1
  have q2 : sIx items.size items.size hi - sIx items.size 0 lo = items.size := eq_of_beq q.2
  exact hw ⟨by omega, by omega⟩
 show wpAny _ _ (if (((sIx items.size 0 lo : Nat) : Int) == 0 && (1 : Int) == 1 && (sIx items.size items.size hi - sIx items.size 0 lo) == items.size) = true then _ else _) _ _ s
 rw [if_neg hno, Zhx]
 first
  | exact wpAny_bind (m := Builtin.Tuple.tupleExact _) (wpAny_newObj_type (wpAny_pure ⟨_, rfl, wpAny_pure h⟩) htake)
  | exact wpAny_bind (m := Builtin.Tuple.tupleExact _) (wpAny_newObj_type (wpAny_bind (wpAny_pure (wpAny_pure ⟨_, rfl, wpAny_pure h⟩))) htake)
  | exact wpAny_bind (wpAny_bind (m := Builtin.Tuple.tupleExact _) (wpAny_newObj_type (wpAny_pure (wpAny_pure ⟨_, rfl, wpAny_pure h⟩)) htake))
  | exact wpAny_bind (wpAny_bind (m := Builtin.Tuple.tupleExact _) (wpAny_newObj_type (wpAny_pure ⟨_, rfl, wpAny_pure h⟩) htake))
end
end HT
namespace L2
open PySem PySem.Spec PyProof.Rows
abbrev TO := St → Hp → (Option Int → Hp → Prop) → Prop
def PO (X : Cx) (e : Option Expr) (t : TO) : Prop :=
 ∀ (pins : List (Addr × Obj)) (s : Shared) (σ : St) (H : Hp) (Q : Option Int → Hp → Prop), Inv X pins σ H s → t σ H Q →
  wpAny (model X.prog X.w) X.A (evalPart e X.env) (fun u s' => ∃ o H', Inv X pins σ H' s' ∧ IsPart u o ∧ Q o H') X.xe s
def Zh2 : TO := fun _ H Q => Q none H
def Zkq (t : TE) : TO := fun σ H Q => t σ H fun x H1 => ∃ i, x = .int i ∧ Q (some i) H1
section
variable {X : Cx} {e : Expr} {te : TE} {lo hi : Option Expr} {tl th : TO} {pos p2 : Pos}
theorem ZhL : PO X none Zh2 := by
 intro pins s σ H Q I h
 rw [evalPart_none]
 exact wpAny_pure ⟨none, H, I, .none, h⟩
theorem Zih (h : PE X e te) : PO X (some e) (Zkq te) := by
 intro pins s σ H Q I hw
 rw [evalPart_some]
 refine thn (h pins s σ H _ I hw) fun u s1 ⟨x, H1, I1, r1, q1⟩ => ?_
 obtain ⟨i, rfl, q⟩ := q1
 obtain ⟨t, rfl⟩ := r1
 exact ⟨some i, H1, I1, .int i t, q⟩
def SlR (X : Cx) (r : V → Option Int → Option Int → Hp → VK → Prop) : Prop :=
 ∀ (pins : List (Addr × Obj)) (s : Shared) (σ : St) (H : Hp) (x : V) (v vl vu : Value) (lo hi : Option Int) (sl : Addr) (Q : VK), Inv X pins σ H s → RelV x v → s.heap.IsSliceOf sl vl vu .none → IsPart vl lo → IsPart vu hi → r x lo hi H Q →
  ∃ T id, typeLookup (.type T) "__getitem__" = pure (some (.builtin id)) ∧ s.TypeIs v T ∧ wpAny (model X.prog X.w) X.A (getItem v (.ref sl)) (EP X pins σ Q) X.xe s
theorem SlR.or {r r' : V → Option Int → Option Int → Hp → VK → Prop} (h : SlR X r) (h' : SlR X r') : SlR X (fun x lo hi H Q => r x lo hi H Q ∨ r' x lo hi H Q) := by
 intro pins s σ H x v vl vu lo hi sl Q I rx hs pl pu q
 rcases q with q | q
 ·exact h pins s σ H x v vl vu lo hi sl Q I rx hs pl pu q
 ·exact h' pins s σ H x v vl vu lo hi sl Q I rx hs pl pu q
def tSl (r : V → Option Int → Option Int → Hp → VK → Prop) (te : TE) (tl th : TO) : TE := fun σ H Q => te σ H fun x H1 => tl σ H1 fun l H2 => th σ H2 fun u H3 => r x l u H3 Q
theorem ZgS {r : V → Option Int → Option Int → Hp → VK → Prop} (hr : SlR X r) (he : PE X e te) (hl : PO X lo tl) (hu : PO X hi th) : PE X (.Subscript e (.Slice lo hi none p2) pos) (tSl r te tl th) := by
 intro pins s σ H Q I h
 refine Subscript_ (thn (he pins s σ H _ I h) fun v s1 ⟨x, H1, I1, r1, q1⟩ => ?_)
 refine wpAny_Slice (thn (hl pins s1 σ H1 _ I1 q1) fun vl s2 ⟨l, H2, I2, pl, q2⟩ => thn (hu pins s2 σ H2 _ I2 q2) fun vu s3 ⟨u, H3, I3, pu, q3⟩ => ?_)
 rw [evalPart_none]
 refine wpAny_pure ?_
 have I4 : Inv X pins σ H3 { s3 with heap := s3.heap.push { cls := .type "slice", data := .fields #[vl, vu, .none] } } := I3.kept (t' := s3.toks) fun b ob q => Heap.get?_push_of_some _ q
 obtain ⟨T, id, hT, ht, hg⟩ := hr pins { s3 with heap := s3.heap.push { cls := .type "slice", data := .fields #[vl, vu, .none] } } σ H3 x v vl vu l u s3.heap.objs.size Q I4 r1 (Heap.IsSliceOf.new ..) pl pu q3
 show wpAny (model X.prog X.w) X.A (subscriptTail e (.Slice lo hi none p2) v (.ref s3.heap.objs.size)) (EP X pins σ Q) X.xe { s3 with heap := s3.heap.push { cls := .type "slice", data := .fields #[vl, vu, .none] } }
 exact tail_any (ops := [.ref s3.heap.objs.size, v]) ht hT hg (by with_unfolding_all rfl)
def ZeV (xs : List V) (lo hi : Option Int) : List V := (xs.drop (HT.sIx xs.length 0 lo)).take (HT.sIx xs.length xs.length hi - HT.sIx xs.length 0 lo)
theorem ZdD (xs : List V) (lo hi : Option Int) : (ZeV xs lo hi).length ≤ xs.length := by
 unfold ZeV
 rw [List.length_take, List.length_drop]
 omega
def Zlv (K : PySem.W.Frag) : V → Option Int → Option Int → Hp → VK → Prop := fun x lo hi H Q => ∃ a xs, x = .ref a ∧ SqT K H a xs ∧
 ¬ (HT.sIx xs.length 0 lo = 0 ∧ HT.sIx xs.length xs.length hi = xs.length) ∧ ∀ p, H p = none → Q (.ref p) (upd H p (.tup (ZeV xs lo hi)))
theorem Zjh : SlR X (Zlv X.K) := by
 intro pins s σ H x v vl vu lo hi sl Q I rx hs pl pu h
 obtain ⟨a, xs, rfl, hx, hw, q⟩ := h
 cases rx
 obtain ⟨its, r, ht, hz⟩ := I.tuple hx
 have hlen : its.toArray.size = xs.length := by rw [List.size_toArray]; exact r.length.symm
 refine ⟨"tuple", _, PyProof.Rows.slot_tuple_getitem.lookup, ht.typeIs, ?_⟩
 refine HT.getItem_tuple_cut ht hs pl pu (by rw [hlen]; exact hw) ?_ (by rw [hlen]; exact hz)
 rw [hlen]
 refine ⟨.ref s.heap.objs.size, _, I.laid (t' := s.toks) (o := .tup (ZeV xs lo hi)) (fun b ob q => Heap.get?_push_of_some _ q) (Nat.le_refl _) ?_, rfl, q _ (I.hok.fresh (Nat.le_refl _))⟩
 exact ⟨Nat.le_trans (ZdD xs lo hi) hz, _, (r.drop (HT.sIx xs.length 0 lo)).take (HT.sIx xs.length xs.length hi - HT.sIx xs.length 0 lo), Zce.new _ _⟩
def Zkk (K : PySem.W.Frag) : R2 := fun x y H Q => ∃ a b xs ys, x = .ref a ∧ y = .ref b ∧ SqT K H a xs ∧ SqT K H b ys ∧ xs ≠ [] ∧ xs.length + ys.length ≤ sizeLine ∧
 (ys = [] → Q (.ref a) H) ∧ (ys ≠ [] → ∀ p, H p = none → Q (.ref p) (upd H p (.tup (xs ++ ys))))
theorem Vals.nil_iff {xs : List V} {us : List Value} (r : Vals xs us) : us = [] ↔ xs = [] := by
 cases r with
 | nil => simp
 | cons _ _ => simp
theorem ZhS : OpR X (binaryOp .Add) (Zkk X.K) := by
 intro pins s σ H x y v u Q I rx ry h
 obtain ⟨a, b, xs, ys, rfl, rfl, ha, hb, hx, hz, q1, q2⟩ := h
 cases rx
 cases ry
 obtain ⟨its, r1, p1, _⟩ := I.tuple ha
 obtain ⟨its2, r2, p2, _⟩ := I.tuple hb
 refine HT.cat_tup p1 p2 (fun z => hx (r1.nil_iff.mp z)) (fun z => ⟨.ref a, H, I, rfl, q1 (r2.nil_iff.mp z)⟩) (fun z => ?_) (by rw [← r1.length, ← r2.length]; exact hz)
 refine ⟨.ref s.heap.objs.size, _, I.laid (t' := s.toks) (o := .tup (xs ++ ys)) (fun b ob q => Heap.get?_push_of_some _ q) (Nat.le_refl _) ?_, rfl, q2 (fun w => z (r2.nil_iff.mpr w)) _ (I.hok.fresh (Nat.le_refl _))⟩
 exact ⟨by rw [List.length_append]; exact hz, _, r1.append r2, Zce.new _ _⟩
end
end L2
namespace L2
open PySem PySem.Spec PyProof.Rows
def ixN (n : Nat) (i : Int) : Option Nat := if 0 ≤ i then (if i < n then some i.toNat else none) else if -(n : Int) ≤ i then some (i + n).toNat else none
def atI {α : Type} (xs : List α) (i : Int) : Option α := (ixN xs.length i).bind fun j => xs[j]?
theorem Zf4 {n : Nat} {i : Int} {j : Nat} (h : ixN n i = some j) : seqIndex? i n = some j ∧ j < n ∧ -(n : Int) ≤ i ∧ i < n := by
 unfold ixN at h
 by_cases h0 : 0 ≤ i
 ·rw [if_pos h0] at h
  by_cases h1 : i < n
  ·rw [if_pos h1] at h
   have e : i.toNat = j := Option.some.inj h
   exact ⟨by rw [seqIndex_of h0 h1, e], by omega, by omega, h1⟩
  ·rw [if_neg h1] at h; cases h
 ·rw [if_neg h0] at h
  by_cases h1 : -(n : Int) ≤ i
  ·rw [if_pos h1] at h
   have e : (i + n).toNat = j := Option.some.inj h
   exact ⟨by rw [seqIndex_neg (by omega) h1, e], by omega, h1, by omega⟩
  ·rw [if_neg h1] at h; cases h
theorem ZeP {α : Type} {xs : List α} {i : Int} {v : α} (h : atI xs i = some v) : ∃ j, seqIndex? i xs.length = some j ∧ xs[j]? = some v ∧ j < xs.length ∧ -(xs.length : Int) ≤ i ∧ i < xs.length := by
 unfold atI at h
 cases e : ixN xs.length i with
 | none => rw [e] at h; cases h
 | some j =>
  rw [e] at h
  obtain ⟨h1, h2, h3, h4⟩ := Zf4 e
  exact ⟨j, h1, h, h2, h3, h4⟩
def Zf1 (b : Expr) : Prop := ∀ o i, subscripted b false o i = operate [o, i] (getItem o i)
def IxR (X : Cx) (r : R2) : Prop :=
 ∀ (value slice : Expr) (pins : List (Addr × Obj)) (s : Shared) (σ : St) (H : Hp) (x y : V) (v u : Value) (Q : VK), Inv X pins σ H s → RelV x v → RelV y u → r x y H Q →
  subscripted slice false v u = operate [v, u] (getItem v u) → wpAny (model X.prog X.w) X.A (subscriptTail value slice v u) (EP X pins σ Q) X.xe s
def MtR (X : Cx) (id : String) (r : V → List V → Hp → VK → Prop) : Prop :=
 ∀ (pins : List (Addr × Obj)) (s : Shared) (σ : St) (H : Hp) (x : V) (xs : List V) (v : Value) (us : List Value) (Q : VK), Inv X pins σ H s → RelV x v → Vals xs us → r x xs H Q →
  wpAny (model X.prog X.w) X.A (call (.builtin id) (v :: us)) (EP X pins σ Q) X.xe s
section
variable {X : Cx} {a b : Expr} {ta tb : TE} {pos : Pos}
theorem IxR.or {r r' : R2} (h : IxR X r) (h' : IxR X r') : IxR X (fun x y H Q => r x y H Q ∨ r' x y H Q) := by
 intro value slice pins s σ H x y v u Q I rx ry q hs
 rcases q with q | q
 ·exact h value slice pins s σ H x y v u Q I rx ry q hs
 ·exact h' value slice pins s σ H x y v u Q I rx ry q hs
theorem Zj1 {r : R2} (hr : IxR X r) (ha : PE X a ta) (hb : PE X b tb) (hs : Zf1 b) : PE X (.Subscript a b pos) (tOp r ta tb) := by
 intro pins s σ H Q I h
 exact Subscript_ (Zi6 ha hb I h fun v u s2 x y H2 I2 rx ry q => hr a b pins s2 σ H2 x y v u Q I2 rx ry q (hs _ _))
def Zkc (K : PySem.W.Frag) : R2 := fun x y H Q => ∃ p xs i v, x = .ref p ∧ y = .int i ∧ SqL K H p xs ∧ atI xs i = some v ∧ Q v H
def Zj7 (K : PySem.W.Frag) : R2 := fun x y H Q => ∃ p xs i v, x = .ref p ∧ y = .int i ∧ SqT K H p xs ∧ atI xs i = some v ∧ Q v H
def Zj3 : R2 := fun x y H Q => ∃ z i c, x = .str z ∧ y = .int i ∧ z.length ≤ sizeLine ∧ atI z.cps.toList i = some c ∧ Q (.str ⟨#[c]⟩) H
theorem ZhY : IxR X (Zkc X.K) := by
 intro value slice pins s σ H x y v u Q I rx ry h hs
 obtain ⟨p, xs, i, z, rfl, rfl, hq, he, q⟩ := h
 cases rx
 obtain ⟨t, rfl⟩ := ry
 obtain ⟨its, r, pl, hz⟩ := I.list hq
 obtain ⟨j, h1, h2, h3, h4, h5⟩ := ZeP he
 obtain ⟨w, ew, rw'⟩ := r.get h2
 have hl := r.length
 have hn := Zd3
 have fin : EP X pins σ Q w s := ⟨z, H, I, rw', q⟩
 by_cases h0 : 0 ≤ i
 ·have hj : i.toNat = j := by
   rw [seqIndex_of h0 h5] at h1
   exact Option.some.inj h1
  exact item_listR pl.isList h0 (by omega) (by rw [hj]; simpa using ew) fin hs
 ·have hj : (i + (its.toArray.size : Int)).toNat = j := by
   rw [seqIndex_neg (by omega) h4] at h1
   rw [List.size_toArray, ← hl]
   exact Option.some.inj h1
  exact subscriptTail_builtinR (x := w) pl.isList.typeIs slot_list_getitem.lookup
   (wpAny_getItem_list_neg (Q := fun r s' => r = w ∧ EP X pins σ Q r s') pl.isList (by omega) (by rw [List.size_toArray] <;> omega) (by omega) (by rw [hj]; simpa using ew) ⟨rfl, fin⟩) hs
theorem ZiU : IxR X (Zj7 X.K) := by
 intro value slice pins s σ H x y v u Q I rx ry h hs
 obtain ⟨p, xs, i, z, rfl, rfl, hq, he, q⟩ := h
 cases rx
 obtain ⟨t, rfl⟩ := ry
 obtain ⟨its, r, pl, hz⟩ := I.tuple hq
 obtain ⟨j, h1, h2, h3, h4, h5⟩ := ZeP he
 obtain ⟨w, ew, rw'⟩ := r.get h2
 have hl := r.length
 have hn := Zd3
 have fin : EP X pins σ Q w s := ⟨z, H, I, rw', q⟩
 exact subscriptTail_builtinR (x := w) pl.typeIs slot_tuple_getitem.lookup
  (getItem_tuple (j := j) (Q := fun r s' => r = w ∧ EP X pins σ Q r s') pl (by omega) (by omega) (by rw [List.size_toArray, ← hl]; exact h1) (by simpa using ew) ⟨rfl, fin⟩) hs
theorem ZiP : IxR X Zj3 := by
 intro value slice pins s σ H x y v u Q I rx ry h hs
 obtain ⟨z, i, c, rfl, rfl, hz, he, q⟩ := h
 obtain ⟨t, rfl⟩ := rx
 obtain ⟨t', rfl⟩ := ry
 obtain ⟨j, h1, h2, h3, h4, h5⟩ := ZeP he
 have hl : z.cps.toList.length = z.length := by simp [Str.length]
 rw [hl] at h1 h4 h5
 have hn := Zd3
 exact tail_any (typeIs_str s z t) slot_str_getitem.lookup (getItem_str (c := c) (by
  have e1 : decide (i < -(2 ^ 63 : Int)) = false := decide_eq_false (by omega)
  have e2 : decide (i ≥ 2 ^ 63) = false := decide_eq_false (by omega)
  rw [e1, e2, Bool.or_false]) (by rw [h1]; simpa using h2) ⟨.str ⟨#[c]⟩, H, I.tok _, ⟨_, rfl⟩, q⟩) hs
def rIx (K : PySem.W.Frag) : R2 := fun x y H Q => Zkc K x y H Q ∨ Zj7 K x y H Q ∨ Zj3 x y H Q
theorem Zjb : IxR X (rIx X.K) := ZhY.or (ZiU.or ZiP)
theorem ZfA (its : List Value) (n j : Nat) (u : Value) : Obj.mapSeq (·.setIfInBounds j u) { cls := .type "list", data := .seq its.toArray n } = { cls := .type "list", data := .seq (its.set j u).toArray n } := by
 simp [Obj.mapSeq]
theorem Inv.lst {pins : List (Addr × Obj)} {σ : St} {H : Hp} {s : Shared} {p : Addr} {xs : List V} (I : Inv X pins σ H s) (h : H p = some (.lst xs)) :
  ∃ (its : List Value) (n : Nat), Vals xs its ∧ s.heap.get? p = some { cls := .type "list", data := .seq its.toArray n } ∧ xs.length ≤ sizeLine := by
 obtain ⟨z, its, n, r, e⟩ := I.hok p _ h
 exact ⟨its, n, r, e, z⟩
theorem Inv.lstUpd {pins : List (Addr × Obj)} {σ : St} {H : Hp} {s : Shared} {p : Addr} {xs ys : List V} {its its' : List Value} {n n' : Nat} {f : Obj → Obj} (I : Inv X pins σ H s) (h : H p = some (.lst xs))
  (ho : s.heap.get? p = some { cls := .type "list", data := .seq its.toArray n }) (hf : f { cls := .type "list", data := .seq its.toArray n } = { cls := .type "list", data := .seq its'.toArray n' }) (r : Vals ys its') (hz : ys.length ≤ sizeLine) (t : Nat) :
  Inv X pins σ (upd H p (.lst ys)) { s with heap := s.heap.update p f, toks := t } := by
 have e : (s.heap.update p f).get? p = some { cls := .type "list", data := .seq its'.toArray n' } := by
  rw [Heap.get?_update_self f ho (by rw [hf] <;> rfl), hf]
 refine I.write (x := p) (e := p) (by rw [h]; trivial) (.inl rfl) (fun b u hb q => (Heap.get?_update_other _ _ (Ne.symm hb)).trans q) ⟨_, e⟩ ?_
 exact ⟨hz, its', n', r, e⟩
def ZkK : V → V → V → Hp → (Hp → Prop) → Prop := fun o i v H Q => ∃ p xs k j, o = .ref p ∧ i = .int k ∧ H p = some (.lst xs) ∧ ixN xs.length k = some j ∧ Q (upd H p (.lst (xs.set j v)))
theorem set_list : ZkJ X ZkK := by
 intro pins s σ H o i v ov iv u Q I ro ri rv h
 obtain ⟨p, xs, k, j, rfl, rfl, hp, hj, q⟩ := h
 cases ro
 obtain ⟨t, rfl⟩ := ri
 obtain ⟨its, n, r, ho, hz⟩ := I.lst hp
 obtain ⟨h1, h2, h3, h4⟩ := Zf4 hj
 have hl := r.length
 have hn := Zd3
 have I' : Inv X pins σ (upd H p (.lst (xs.set j v))) { s with heap := s.heap.update p (Obj.mapSeq (·.setIfInBounds j u)) } :=
  I.lstUpd hp ho (ZfA its n j u) (r.set rv j) (by rw [List.length_set]; exact hz) s.toks
 by_cases h0 : 0 ≤ k
 ·have hk : k.toNat = j := by
   rw [seqIndex_of h0 h4] at h1
   exact Option.some.inj h1
  exact PySem.W.ki_setAt ho h0 (by omega) (by rw [List.size_toArray, ← hl]; exact h4) (by rw [hk]; exact ⟨_, I', q⟩)
 ·have hk : (k + (its.toArray.size : Int)).toNat = j := by
   rw [seqIndex_neg (by omega) h3] at h1
   rw [List.size_toArray, ← hl]
   exact Option.some.inj h1
  exact PySem.W.ki_setBack ho (by omega) (by rw [List.size_toArray, ← hl]; exact h3) (by omega) (by rw [hk]; exact ⟨_, I', q⟩)
theorem ZeT (lo hi : Option Int) (n : Nat) : (sliceBounds lo hi none n).1 = ((HT.sIx n 0 lo : Nat) : Int) ∧ (sliceBounds lo hi none n).2.1 = ((HT.sIx n n hi : Nat) : Int) ∧ (sliceBounds lo hi none n).2.2 = 1 := by
 refine ⟨?_, ?_, rfl⟩
 ·cases lo with
  | none => simp [sliceBounds, HT.sIx]
  | some i =>
   simp only [sliceBounds, HT.sIx, Option.getD_none, show (1 : Int) > 0 by decide, if_true]
   by_cases h : i < 0
   ·simp only [h, if_true] <;> omega
   ·simp only [h, if_false] <;> omega
 ·cases hi with
  | none => simp [sliceBounds, HT.sIx]
  | some i =>
   simp only [sliceBounds, HT.sIx, Option.getD_none, show (1 : Int) > 0 by decide, if_true]
   by_cases h : i < 0
   ·simp only [h, if_true] <;> omega
   ·simp only [h, if_false] <;> omega
theorem Zec (its : List Value) (lo hi : Option Int) : slicePick its.toArray lo hi none = ((its.drop (HT.sIx its.length 0 lo)).take (HT.sIx its.length its.length hi - HT.sIx its.length 0 lo)).toArray := by
 obtain ⟨h1, h2, h3⟩ := ZeT lo hi its.toArray.size
 unfold slicePick
 rw [h1, h2, h3]
 simp only [sliceRange_one, pick_run, List.size_toArray] <;> rfl
def Zlj (K : PySem.W.Frag) : V → Option Int → Option Int → Hp → VK → Prop := fun x lo hi H Q => ∃ a xs, x = .ref a ∧ SqL K H a xs ∧ ∀ p, H p = none → Q (.ref p) (upd H p (.lst (ZeV xs lo hi)))
theorem ZhQ : SlR X (Zlj X.K) := by
 intro pins s σ H x v vl vu lo hi sl Q I rx hs pl pu h
 obtain ⟨a, xs, rfl, hx, q⟩ := h
 cases rx
 obtain ⟨its, r, ht, hz⟩ := I.list hx
 have hlen := r.length
 refine ⟨"list", _, slot_list_getitem.lookup, ht.isList.typeIs, ?_⟩
 refine wpAny_getItem_list_slice ht.isList hs pl pu .none (by simp) ?_ (by rw [List.size_toArray] <;> omega)
 rw [Zec, ← hlen]
 refine ⟨.ref s.heap.objs.size, _, I.laid (t' := s.toks) (o := .lst (ZeV xs lo hi)) (fun b ob q => Heap.get?_push_of_some _ q) (Nat.le_refl _) ?_, rfl, q _ (I.hok.fresh (Nat.le_refl _))⟩
 exact ⟨Nat.le_trans (ZdD xs lo hi) hz, _, 0, (r.drop (HT.sIx xs.length 0 lo)).take (HT.sIx xs.length xs.length hi - HT.sIx xs.length 0 lo), Heap.get?_push_size _ rfl⟩
theorem ZeI : Za5 X (.type "list") (fun xs H Q => ∃ p ys, xs = [.ref p] ∧ (SqL X.K H p ys ∨ SqT X.K H p ys) ∧ ∀ l, H l = none → Q (.ref l) (upd H l (.lst ys))) := by
 intro pins s σ H xs us Q I r h
 obtain ⟨p, ys, rfl, hq, q⟩ := h
 obtain ⟨u, rfl, rx⟩ := vals1 r
 cases rx
 have fin : ∀ (its : List Value), Vals ys its → ys.length ≤ sizeLine → ∀ (h' : Heap) (c' : Nat), (∀ b o', s.heap.get? b = some o' → h'.get? b = some o') →
   h'.get? s.heap.objs.size = some { cls := .type "list", dict := none, data := .seq its.toArray c', slots := #[] } → EP X pins σ Q (.ref s.heap.objs.size) { s with heap := h' } := fun its r' hz h' c' kp e =>
  ⟨.ref s.heap.objs.size, _, I.laid (t' := s.toks) kp (Nat.le_refl _) (show ZaV X.prog X.w _ h' _ (.lst ys) from ⟨hz, its, c', r', e⟩), rfl, q _ (I.hok.fresh (Nat.le_refl _))⟩
 rcases hq with hq | hq
 ·obtain ⟨its, r', pl, hz⟩ := I.list hq
  have hlen := r'.length
  obtain ⟨o, ho, hc, n, hd⟩ := pl.isList
  exact call_list_seq p (.inl rfl) ho hc hd (fun h' c' kp e => fin its r' hz h' c' kp e) (by simp only [List.size_toArray] <;> omega)
 ·obtain ⟨its, r', pl, hz⟩ := I.tuple hq
  have hlen := r'.length
  obtain ⟨o, ho, hc, n, hd⟩ := pl
  exact call_list_seq p (.inr rfl) ho hc hd (fun h' c' kp e => fin its r' hz h' c' kp e) (by simp only [List.size_toArray] <;> omega)
theorem Zeg : Za5 X (.type "tuple") (fun xs H Q => ∃ p ys, xs = [.ref p] ∧ ((SqL X.K H p ys ∧ ∀ l, H l = none → Q (.ref l) (upd H l (.tup ys))) ∨ (SqT X.K H p ys ∧ Q (.ref p) H))) := by
 intro pins s σ H xs us Q I r h
 obtain ⟨p, ys, rfl, h⟩ := h
 obtain ⟨u, rfl, rx⟩ := vals1 r
 cases rx
 rcases h with ⟨hq, q⟩ | ⟨hq, q⟩
 ·obtain ⟨its, r', pl, hz⟩ := I.list hq
  have hlen := r'.length
  refine call_tuple_list pl.isList (fun h' kp => ?_) (by simp only [List.size_toArray] <;> omega)
  have I1 : Inv X pins σ H { s with heap := h' } := I.kept (t' := s.toks) kp
  have I2 : Inv X pins σ (upd H h'.objs.size (.tup ys)) { s with heap := h'.push { cls := .type "tuple", data := .seq its.toArray } } :=
   I1.laid (t' := s.toks) (fun b o e => Heap.get?_push_of_some _ e) (Nat.le_refl _) (show ZaV X.prog X.w _ _ _ (.tup ys) from ⟨hz, its, r', Zce.new _ _⟩)
  exact ⟨.ref h'.objs.size, _, I2, rfl, q _ (I1.hok.fresh (Nat.le_refl _))⟩
 ·obtain ⟨its, r', pl, hz⟩ := I.tuple hq
  exact call_tuple_same pl ⟨.ref p, H, I, rfl, q⟩
def tyV (K : PySem.W.Frag) (T : String) (x : V) (H : Hp) : Prop := match x with
 | .str _ => T = "str"
 | .int _ => T = "int"
 | .ref p => (T = "list" ∧ ∃ xs, SqL K H p xs) ∨ (T = "tuple" ∧ ∃ o, K.lookup p = some o ∧ o.cls = .type "tuple" ∧ o.dict = none) ∨
   (T = "dict" ∧ ((∃ kvs, H p = some (.dK kvs)) ∨ ∃ kvs, H p = some (.dT kvs))) ∨ (T = "set" ∧ ∃ S n, H p = some (.set S n))
 | _ => False
theorem Zg0 {pins : List (Addr × Obj)} {σ : St} {H : Hp} {s : Shared} {T : String} {x : V} {v : Value} (I : Inv X pins σ H s) (r : RelV x v) (ty : tyV X.K T x H) :
  s.TypeIs v T ∧ ∀ a, v = .ref a → ∃ ob, s.heap.get? a = some ob ∧ ob.dict = none := by
 cases x with
 | str z =>
  obtain ⟨t, rfl⟩ := r
  cases (show T = "str" from ty)
  exact ⟨typeIs_str s z t, fun _ e => nomatch e⟩
 | int i =>
  obtain ⟨t, rfl⟩ := r
  cases (show T = "int" from ty)
  exact ⟨typeIs_int s i t, fun _ e => nomatch e⟩
 | ref p =>
  cases r
  rcases ty with ⟨rfl, xs, hq⟩ | ⟨rfl, o, hk, hc, hd⟩ | ⟨rfl, hk⟩ | ⟨rfl, S, n, hk⟩
  ·obtain ⟨its, _, pl, _⟩ := I.list hq
   refine ⟨pl.isList.typeIs, fun a e => ?_⟩
   cases e
   obtain ⟨o, n, e, c, hd, _⟩ := pl
   exact ⟨o, e, hd⟩
  ·refine ⟨⟨o, I.kIn p o hk, hc⟩, fun a e => ?_⟩
   cases e
   exact ⟨o, I.kIn _ o hk, hd⟩
  ·have z : ∃ o, s.heap.get? p = some o ∧ o.ExactDict := by
    rcases hk with ⟨kvs, hk⟩ | ⟨kvs, hk⟩
    ·obtain ⟨_, _, _, _, o, _, _, e, ex, _⟩ := I.hok p _ hk
     exact ⟨o, e, ex⟩
    ·obtain ⟨_, _, _, _, o, _, _, e, ex, _⟩ := I.hok p _ hk
     exact ⟨o, e, ex⟩
   obtain ⟨o, e, ex⟩ := z
   refine ⟨⟨o, e, ex.1⟩, fun a e2 => ?_⟩
   cases e2
   exact ⟨o, e, ex.2.1⟩
  ·obtain ⟨o, _, _, _, e, ex, _⟩ := I.hok p _ hk
   refine ⟨⟨o, e, ex.1⟩, fun a e2 => ?_⟩
   cases e2
   exact ⟨o, e, ex.2.1⟩
 | _ => exact False.elim ty
def Zky (K : PySem.W.Frag) (T : String) (r : V → List V → Hp → VK → Prop) (to : TE) : TE := fun σ H Q => to σ H fun x H1 => tyV K T x H1 ∧ r x [] H1 Q
def tBM (K : PySem.W.Frag) (T : String) (r : V → List V → Hp → VK → Prop) (to : TE) (t : TA) : TE := fun σ H Q => to σ H fun x H1 => tyV K T x H1 ∧ t σ H1 fun xs H2 => r x xs H2 Q
variable {o e : Expr} {es : List Expr} {to : TE} {t : TA} {name : Str} {apos cpos : Pos} {T id : String} {r : V → List V → Hp → VK → Prop}
theorem Zjj (pa : PlainAttrs T) (slot : Slot T name id) (hty : typeOf (.builtin id) = pure (.type "method_descriptor")) (hm : MtR X id r) (ho : PE X o to)
  (hbase : attributeBase o name X.env (eval o X.env) = eval o X.env := by rfl) (hline : (apos.endLine == cpos.line) = true := by rfl) : PE X (.Call (.Attribute o name apos) [] [] cpos) (Zky X.K T r to) := by
 intro pins s σ H Q I h
 refine wpAny_Call_method0_late hbase hline (thn (ho pins s σ H _ I h) fun v s1 ⟨x, H1, I1, r1, ty, q1⟩ => ?_)
 obtain ⟨h1, h2⟩ := Zg0 I1 r1 ty
 exact ⟨T, id, pa, slot, hty, h1, h2, Calls.callWith_builtin rfl (PySem.evalArgs_none (hm pins s1 σ H1 x [] v [] Q I1 r1 .nil q1))⟩
theorem Ziy (pa : PlainAttrs T) (slot : Slot T name id) (hty : typeOf (.builtin id) = pure (.type "method_descriptor")) (hm : MtR X id r) (ho : PE X o to) (ha : PA X (e :: es) t)
  (hbase : attributeBase o name X.env (eval o X.env) = eval o X.env := by rfl)
  (hfew : ((backTo cpos (starEach (e :: es) X.env)).all (fun x => !x.1) && (backToKw cpos (keywordEach [] X.env)).all (fun x => x.1.isSome)
   && decide ((e :: es).length + ([] : List Keyword).length + (if ([] : List Keyword).isEmpty then 0 else 1) < 30)) = true := by rfl)
  (hline : (apos.endLine == cpos.line) = true := by rfl) (hs : starEach (e :: es) X.env = (false, eval e X.env) :: starEach es X.env := by rfl) (hplain : (backTo cpos (starEach es X.env)).any (·.1) = false := by rfl) :
  PE X (.Call (.Attribute o name apos) (e :: es) [] cpos) (tBM X.K T r to t) := by
 intro pins s σ H Q I h
 refine wpAny_Call_method_late hbase hfew hline rfl (thn (ho pins s σ H _ I h) fun v s1 ⟨x, H1, I1, r1, ty, q1⟩ => ?_)
 obtain ⟨h1, h2⟩ := Zg0 I1 r1 ty
 refine ⟨T, id, pa, slot, hty, h1, h2, ?_⟩
 have hA := ha cpos pins s1 σ H1 _ I1 q1
 rw [hs] at hA ⊢
 refine Calls.callWith_builtin (by show (false || (backTo cpos (starEach es X.env)).any (·.1)) = false; rw [hplain] <;> rfl) (Calls.evalArgs_plain ?_)
 exact thn hA fun us s2 ⟨vs, H2, I2, r2, q2⟩ => hm pins s2 σ H2 x vs v us Q I2 r1 r2 q2
/- xs.append(e), list.index on a module's tuple .. are MtR facts of 06m -/
end
end L2
namespace L2
open PySem PySem.Spec PyProof.Rows
def MtM (X : Cx) (id : String) (r : V → List V → Hp → VK → Prop) : Prop :=
 ∀ (pins : List (Addr × Obj)) (s : Shared) (σ : St) (H : Hp) (x : V) (xs : List V) (v : Value) (us : List Value) (Q : VK), Inv X pins σ H s → RelV x v → Vals xs us → r x xs H Q →
  wpAny (model X.prog X.w) X.A (call (.builtin id) (v :: us)) (EP X pins σ Q) X.xe s
theorem Vals.one : ∀ {x : V} {us : List Value}, Vals [x] us → ∃ u, us = [u] ∧ RelV x u
 | _, _, .cons r .nil => ⟨_, rfl, r⟩
theorem Vals.zero : ∀ {us : List Value}, Vals [] us → us = []
 | _, .nil => rfl
theorem Vals.dropLast {xs : List V} {us : List Value} (h : Vals xs us) : Vals xs.dropLast us.dropLast := by
 induction h with
 | nil => exact .nil
 | cons r t ih =>
  cases t with
  | nil => exact .nil
  | cons q t' => exact .cons r ih
theorem Vals.eraseIdx : ∀ {xs : List V} {us : List Value} (i : Nat), Vals xs us → Vals (xs.eraseIdx i) (us.eraseIdx i)
 | _, _, _, .nil => .nil
 | _, _, 0, .cons _ t => t
 | _, _, i + 1, .cons r t => .cons r (Vals.eraseIdx i t)
theorem Vals.rep {xs : List V} {us : List Value} (h : Vals xs us) : ∀ k : Nat, Vals (List.replicate k xs).flatten (List.replicate k us).flatten
 | 0 => .nil
 | k + 1 => by
  rw [List.replicate_succ, List.replicate_succ, List.flatten_cons, List.flatten_cons]
  exact Vals.append h (Vals.rep h k)
theorem foldl_rep (its : List Value) : ∀ (k : Nat) (acc : List Value),
  List.foldl (fun x1 x2 => x1 ++ x2) acc.toArray (List.replicate k its.toArray) = (acc ++ (List.replicate k its).flatten).toArray
 | 0, acc => by simp
 | k + 1, acc => by
  have e : acc.toArray ++ its.toArray = (acc ++ its).toArray := by simp
  have e2 : (acc ++ its) ++ (List.replicate k its).flatten = acc ++ (List.replicate (k + 1) its).flatten := by
   rw [List.replicate_succ, List.flatten_cons, List.append_assoc]
  rw [← e2, ← foldl_rep its k (acc ++ its), ← e, List.replicate_succ, List.foldl_cons]
section
variable {X : Cx} {pins : List (Addr × Obj)} {σ : St} {H : Hp} {s : Shared} {l b : Addr} {xs ys zs : List V}
theorem Inv.lset {its its' : List Value} {n : Nat} {f : Array Value → Array Value} {t' : Nat} (I : Inv X pins σ H s) (hH : H l = some (.lst xs))
  (e : s.heap.get? l = some { cls := .type "list", data := .seq its.toArray n }) (hf : f its.toArray = its'.toArray) (hv : Vals ys its') (hz : ys.length ≤ sizeLine) :
  Inv X pins σ (upd H l (.lst ys)) { s with heap := s.heap.update l (Obj.mapSeq f), toks := t' } := by
 have q := PySem.IsL.update e f
 rw [hf] at q
 refine I.write (x := l) (e := l) (by rw [hH]; exact trivial) (.inl rfl) (fun b' u hb hu => (Heap.get?_update_other s.heap (Obj.mapSeq f) (Ne.symm hb)).trans hu) ⟨_, q⟩ ?_
 exact ⟨hz, its', _, hv, q⟩
theorem Inv.lnew {its : List Value} {t' : Nat} (I : Inv X pins σ H s) (hv : Vals ys its) (hz : ys.length ≤ sizeLine) :
  Inv X pins σ (upd H s.heap.objs.size (.lst ys)) { s with heap := s.heap.push { cls := .type "list", data := .seq its.toArray }, toks := t' } :=
 I.laid (fun _ _ q => Heap.get?_push_of_some _ q) (Nat.le_refl _) ⟨hz, its, 0, hv, Heap.get?_push_size _ rfl⟩
theorem Inv.fresh (I : Inv X pins σ H s) : H s.heap.objs.size = none := I.hok.fresh (Nat.le_refl _)
theorem Inv.lstM (I : Inv X pins σ H s) (hH : H l = some (.lst xs)) : xs.length ≤ sizeLine ∧ ∃ (its : List Value) (n : Nat), Vals xs its ∧ xs.length = its.length ∧ s.heap.get? l = some { cls := .type "list", data := .seq its.toArray n } := by
 obtain ⟨z, its, n, r, e⟩ := I.hok l _ hH
 exact ⟨z, its, n, r, r.length, e⟩
theorem Zd1 {n : Nat} (h : n ≤ sizeLine) : Builtin.List.listTooLong n = false := by
 unfold Builtin.List.listTooLong
 exact decide_eq_false (by omega)
end
section
variable {X : Cx}
def Zge : V → List V → Hp → VK → Prop := fun x vs H Q => ∃ l xs y, x = .ref l ∧ vs = [y] ∧ H l = some (.lst xs) ∧ xs.length < sizeLine ∧ Q .non (upd H l (.lst (xs ++ [y])))
theorem Zdx : MtM X "list.append" Zge := by
 intro pins s σ H x vs v us Q I rx rv h
 obtain ⟨l, xs, y, rfl, rfl, hH, hz, q⟩ := h
 cases rx
 obtain ⟨u, rfl, ru⟩ := rv.one
 obtain ⟨z, its, n, r, hl, e⟩ := I.lstM hH
 refine call_meets F.slot_list_append ⟨_, e, rfl⟩ F.entry_list_append (F.args_list_append_2 _ _) (PySem.list_append l its.toArray n u (by rw [List.size_toArray]; omega)) ⟨e, ?_⟩
 refine ⟨.non, _, I.lset (its' := its ++ [u]) hH e (by simp) (r.append (.cons ru .nil)) ?_, rfl, q⟩
 rw [List.length_append, List.length_singleton]
 omega
def Zf3 : V → List V → Hp → VK → Prop := fun x vs H Q => ∃ l b xs zs, x = .ref l ∧ vs = [.ref b] ∧ H l = some (.lst xs) ∧ H b = some (.lst zs) ∧ xs.length + zs.length ≤ sizeLine ∧ Q .non (upd H l (.lst (xs ++ zs)))
theorem Zgs : MtM X "list.extend" Zf3 := by
 intro pins s σ H x vs v us Q I rx rv h
 obtain ⟨l, b, xs, zs, rfl, rfl, hH, hB, hz, q⟩ := h
 cases rx
 obtain ⟨u, rfl, ru⟩ := rv.one
 cases ru
 obtain ⟨z, its, n, r, hl, e⟩ := I.lstM hH
 obtain ⟨z2, its2, n2, r2, hl2, e2⟩ := I.lstM hB
 have hsz : its.toArray.size + its2.toArray.size ≤ sizeLine := by rw [List.size_toArray, List.size_toArray]; omega
 have hlong : ¬ (!its.toArray.isEmpty && Builtin.List.listTooLong (its.toArray.size + its2.toArray.size)) = true := by
  rw [Zd1 hsz, Bool.and_false]
  exact Bool.false_ne_true
 refine call_meets F.slot_list_extend ⟨_, e, rfl⟩ F.entry_list_extend (F.args_list_extend_2 _ _)
  (AutoSeq1.list_extend_list_list_0 l its.toArray n b its2.toArray n2 hlong (by rw [List.size_toArray]; omega) (by omega)) ⟨e, e2, ?_⟩
 refine ⟨.non, _, I.lset (its' := its ++ its2) hH e (by simp) (r.append r2) ?_, rfl, q⟩
 rw [List.length_append]
 omega
def ZeQ : V → List V → Hp → VK → Prop := fun x vs H Q => ∃ l xs, x = .ref l ∧ vs = [] ∧ H l = some (.lst xs) ∧ Q .non (upd H l (.lst []))
theorem Zfc : MtM X "list.clear" ZeQ := by
 intro pins s σ H x vs v us Q I rx rv h
 obtain ⟨l, xs, rfl, rfl, hH, q⟩ := h
 cases rx
 have hus := rv.zero
 subst hus
 obtain ⟨z, its, n, r, hl, e⟩ := I.lstM hH
 refine call_meets F.slot_list_clear ⟨_, e, rfl⟩ F.entry_list_clear (F.args_list_clear_1 _) (AutoSeq1.list_clear_list_0 l its.toArray n (by rw [List.size_toArray]; omega)) ⟨e, ?_⟩
 exact ⟨.non, _, I.lset (its' := []) (ys := []) hH e rfl .nil (Nat.zero_le _), rfl, q⟩
def Zk5 : R2 := fun x y H Q => ∃ l b xs zs, x = .ref l ∧ y = .ref b ∧ H l = some (.lst xs) ∧ H b = some (.lst zs) ∧ xs.length + zs.length ≤ sizeLine ∧ ∀ p, H p = none → Q (.ref p) (upd H p (.lst (xs ++ zs)))
theorem ZiQ : OpR X (binaryOp .Add) Zk5 := by
 intro pins s σ H x y v u Q I rx ry h
 obtain ⟨l, b, xs, zs, rfl, rfl, hH, hB, hz, q⟩ := h
 cases rx
 cases ry
 obtain ⟨z, its, n, r, hl, e⟩ := I.lstM hH
 obtain ⟨z2, its2, n2, r2, hl2, e2⟩ := I.lstM hB
 refine PySem.P.add_list e e2 ?_ (by rw [List.size_toArray, List.size_toArray]; omega)
 have ea : its.toArray ++ its2.toArray = (its ++ its2).toArray := by simp
 rw [ea]
 exact ⟨.ref _, _, I.lnew (t' := s.toks) (r.append r2) (by rw [List.length_append]; omega), rfl, q _ I.fresh⟩
def Zlw : R2 := fun x y H Q => ∃ l k xs, x = .ref l ∧ y = .int k ∧ H l = some (.lst xs) ∧ -(2 ^ 63) ≤ k ∧ k < 2 ^ 63 ∧ xs.length * k.toNat ≤ sizeLine ∧
 ∀ p, H p = none → Q (.ref p) (upd H p (.lst (List.replicate k.toNat xs).flatten))
theorem len_rep {α : Type} (xs : List α) (k : Nat) : (List.replicate k xs).flatten.length = k * xs.length := by
 induction k with
 | zero => simp
 | succ k ih => rw [List.replicate_succ, List.flatten_cons, List.length_append, ih, Nat.succ_mul, Nat.add_comm]
theorem ZjB : OpR X (binaryOp .Mult) Zlw := by
 intro pins s σ H x y v u Q I rx ry h
 obtain ⟨l, k, xs, rfl, rfl, hH, h1, h2, hz, q⟩ := h
 cases rx
 obtain ⟨t, rfl⟩ := ry
 obtain ⟨z, its, n, r, hl, e⟩ := I.lstM hH
 have hlen : its.toArray.size * k.toNat ≤ sizeLine := by rw [List.size_toArray, ← hl]; exact hz
 have hcap : ¬ its.toArray.size * k.toNat > (2 ^ 63 - 1) / 8 := by
  have : (sizeLine : Nat) ≤ (2 ^ 63 - 1) / 8 := by decide
  omega
 have hfit : ¬ (!Builtin.List.listFitsIndex k) = true := by
  rw [fitsIndex_both h1 h2]
  exact Bool.false_ne_true
 have hlong : ¬ Builtin.List.listTooLong (its.toArray.size * k.toNat) = true := by
  rw [Zd1 hlen]
  exact Bool.false_ne_true
 have hnew : List.foldl (fun x1 x2 => x1 ++ x2) #[] (List.replicate (if its.toArray.isEmpty = true then 0 else k.toNat) its.toArray) = (List.replicate k.toNat its).flatten.toArray := by
  have f0 : ∀ m : Nat, List.foldl (fun x1 x2 => x1 ++ x2) #[] (List.replicate m its.toArray) = (List.replicate m its).flatten.toArray := fun m => by
   have := foldl_rep its m []
   rw [List.nil_append] at this
   exact this
  rw [f0]
  cases its with
  | nil => simp
  | cons a r' => rw [if_neg (by simp)]
 refine wpAny_binaryOp_repeat_ref (T := "list") (U := "int") (by decide) ⟨_, e, rfl⟩ (fun s' => typeIs_int s' k t) noFill_list_mul F.fills_int_mul F.slot_int_rmul repeat_list F.slot_int_index.lookup
  (call_meets F.slot_int_rmul (typeIs_int s k t) F.entry_int_rmul (F.args_int_rmul_2 _ _) (int___rmul___int_list k t l its.toArray n)
   ⟨e, rfl, ⟨_, e, rfl⟩, call_meets F.slot_list_mul ⟨_, e, rfl⟩ F.entry_list_mul (F.args_list_mul_2 _ _) (AutoListH.list___mul___list_int_3 l its.toArray n k t hfit hcap hlong) ⟨e, ?_⟩⟩)
 rw [hnew]
 exact ⟨.ref _, _, I.lnew (t' := s.toks) (r.rep k.toNat) (by rw [len_rep, Nat.mul_comm]; exact hz), rfl, q _ I.fresh⟩
end
section
variable {prog : Program} {w : World} {A : Around} {E : Value → Shared → Prop} {s : Shared}
end
section
variable {X : Cx}
end
end L2
namespace Att
open PySem PySem.W PySem.Calls PyProof.Rows
theorem ZdJ {P : Params} {h : Heap} : ∀ (ns : List Int) (vs : List Value), WellAll P h vs (ns.map WData.int) → IntsAre vs ns := by
 intro ns
 induction ns with
 | nil =>
  intro vs w
  rw [List.map_nil] at w
  cases w
  exact .nil
 | cons n ns ih =>
  intro vs w
  rw [List.map_cons] at w
  cases w with
  | cons a b =>
   cases a
   exact .cons _ _ (ih _ b)
theorem ZgC {l : OpenLaw} {n : Nat} (hn : l.most = some n) {P : Params} {h : Heap} {args : List WData} {vals : List Value}
  (hpre : l.row.toRowW.claim.pre args = true) (hwl : WellAll P h vals args) :
  ∃ a vs ns, vals = [Value.ref a] ∧ args = [WData.list (ns.map WData.int)] ∧ h.get? a = some { cls := .type "list", data := .seq vs.toArray } ∧ IntsAre vs ns ∧ ns.length ≤ n := by
 have hsh : WShape.hasAll [] args [.list .int] = true := (pre_splitW hpre).1
 have hc : l.pre.holds [] { args := args } = true := (pre_splitW hpre).2
 obtain ⟨d, r, rfl, h1, h2⟩ := hasAllW_cons hsh
 obtain rfl := hasAllW_nil h2
 obtain ⟨xs, rfl, h3⟩ := hasW_list h1
 obtain ⟨ns, rfl⟩ := items_int h3
 have hlen : ns.length ≤ n := by
  unfold OpenLaw.pre at hc
  have h4 : (WTm.not (.lt (.lit (.int (n : Int))) (.len (.arg 0)))).holds [] { args := [.list (ns.map .int)] } = true := by
   have h4 := (holds_andW hc).1
   rw [hn] at h4
   exact h4
  have h5 := condW_of h4 (w_not (w_lt w_lit (w_len_list (w_arg rfl))))
  rw [List.length_map] at h5
  refine Nat.le_of_not_lt fun q => ?_
  have q' : (n : Int) < ((ns.length : Nat) : Int) := by omega
  first
   | (rw [decide_eq_true q'] at h5; exact absurd h5 (by decide))
   | (simp at h5; omega)
 cases hwl with
 | cons w1 w2 =>
  cases w2
  cases w1 with
  | list ho hall => exact ⟨_, _, ns, rfl, rfl, ho, ZdJ ns _ hall, hlen⟩
theorem Zgx (l : OpenLaw) (args : List WData) : l.row.toRowW.claim.post args (.bool true) args = true :=
 postW_of (r := l.row.toRowW) (X := (true == true))
  (show WShape.has [] (.bool true) .bool = true by first | rfl | decide | simp [WShape.has, WShape.arms, WShape.armsAll])
  (show (WTm.eq .res (.lit (.bool true))).value [] { args := args, res := some (.bool true), after := args } = some (.bool (true == true)) from w_eq_bool (w_res rfl) w_lit) rfl
theorem attach_call {l : OpenLaw} {n : Nat} {q : Program} {loose : List Str} {XP : (Str → Option Value) → Heap → Prop} {YP : World → Heap → Prop} {d : DefRec}
  (hn : l.most = some n) (hdf : d.params.defaults = [])
  (call : ∀ (w : World) (s₀ s₁ : Shared) (mg mb : Str → Option Value) (fa : Addr) (o : Obj) (pm cd doc : Value) (a : Addr) (vs : List Value) (ns : List Int),
   Ground q loose [] XP w s₀ mg mb s₁.heap → YP w s₁.heap →
   s₁.heap.get? fa = some o → o.data = .func (docDef d.name d.params d.body d.scope pm cd doc) → s₁.heap.CodeRec cd d.name → mg d.name = some (.ref fa) →
   s₁.heap.get? a = some { cls := .type "list", data := .seq vs.toArray } → IntsAre vs ns → ns.length ≤ n → s₁.gens = #[] →
   codeAny (model l.prog w) callerA (.call (.ref fa) ⟨[.ref a], []⟩) (fun r s' => r = .ok (.ret (.bool true)) ∧ OldK s₁.heap s'.heap ∧ s'.os = s₁.os ∧ AllBare s'.gens) s₁) :
  WalkO q loose XP YP l.row.toRowW d [] (fun f vs => PySem.call f vs) := by
 intro w s₀ s₁ mg mb G Y fa o pm cd doc dV kV ho hd hcd hD hmg hg args vals as hpre hlay hrd hwl hlo
 obtain rfl : dV = .none := Dflts.none hD hdf
 obtain rfl : kV = .none := Dflts.noKw hD
 obtain ⟨a, vs, ns, rfl, rfl, hobj, hints, hlen⟩ := ZgC hn hpre hwl
 refine enter_call (codeAny_mono (call w s₀ s₁ mg mb fa o pm cd doc a vs ns G Y ho (fd_plain hd) hcd hmg hobj hints hlen hg) fun r s' hq => ?_)
 obtain ⟨rfl, h2, h3, h4⟩ := hq
 exact ⟨.inl ⟨.bool true, .bool true, [], rfl, fun _ => rfl, .bool true, Zgx l _, fun _ => ⟨List.Pairwise.nil, fun _ hm => (nomatch hm)⟩⟩, h2, h3, h4⟩
section
variable {prog : Program} {w : World} {A : Around} {E : Value → Shared → Prop} {s : Shared} {K : Frag}
end
end Att
namespace L2
open PySem PySem.Spec PyProof.Rows
theorem Zeo : ∀ {vs : List Value} {ns : List Int}, IntsAre vs ns → Vals (ns.map V.int) vs
 | _, _, .nil => .nil
 | _, _, .cons n t h => .cons ⟨t, rfl⟩ (Zeo h)
def Only (H : Hp) : Prop := ∀ b, H b = none ∨ ∃ o xs, H b = some (.frz o (.lst xs))
theorem ZgQ {P : Program} {w : World} {K : PySem.W.Frag} {mg mb : Str → Option Value} {CX : CXT} {k : Nat} {fa a : Addr} {fd : FuncData} {x : Str} {sp : Sp} {s₁ : Shared} {vs : List Value} {ns : List Int}
  (KX : K.In s₁.heap) (hns : s₁.heap.Ns mainGlobals mg) (hb : s₁.heap.Ns builtinsNs mb) (hbb : ∀ x : Str, x ≠ "__name__" → mb x = bootBuiltins x) (hlim : s₁.heap.NoLimit) (hg : s₁.gens = #[])
  (ha : s₁.heap.get? a = some { cls := .type "list", data := .seq vs.toArray }) (hi : IntsAre vs ns) (hl : ns.length ≤ sizeLine) (hr : ZbK k callerA)
  (F : ∀ base : Heap, K.In base → base.Ns mainGlobals mg → Zdn P w K mg base CX k fa fd [x] sp) (hbind : ∀ (s : Shared) (u : Value), BindsTo s fd ⟨[u], []⟩ [(x, u)])
  (hsp : ∀ H : Hp, Only H → SqL K H a (ns.map V.int) → sp [.ref a] H (fun v _ => v = .bl true) fun _ _ _ => False)
  (hCX : ∀ H e s', CX [] H s₁ (fun _ _ _ => False) e s' → False) :
  codeAny (model P w) callerA (.call (.ref fa) ⟨[.ref a], []⟩) (fun r s' => r = .ok (.ret (.bool true)) ∧ OldK s₁.heap s'.heap ∧ s'.os = s₁.os ∧ AllBare s'.gens) s₁ := by
 have rv := Zeo hi
 have lenV := hi.length
 have core : ∀ H : Hp, Only H → SqL K H a (ns.map V.int) → HOk P w H s₁.heap → (∀ b, H b ≠ none → b = a) → (H a ≠ none → K.lookup a = none) →
   codeAny (model P w) callerA (.call (.ref fa) ⟨[.ref a], []⟩) (fun r s' => r = .ok (.ret (.bool true)) ∧ OldK s₁.heap s'.heap ∧ s'.os = s₁.os ∧ AllBare s'.gens) s₁ := by
  intro H hO hS hok hA hK
  have base_of : ∀ {b : Addr} {o : Obj}, s₁.heap.get? b = some o → H b = none → (ZeG s₁.heap H).get? b = some o := fun e n => Zho e n
  have noA : ∀ {b : Addr} {o : Obj} {es : Array DictEntry} {ep : Nat}, s₁.heap.get? b = some o → o.data = .dict es ep → H b = none := fun {b o es ep} e d => by
   cases q : H b with
   | none => rfl
   | some u =>
    have e' : b = a := hA b (by rw [q]; simp)
    subst e'
    rw [ha] at e; cases e
    have d' : Data.seq vs.toArray _ = Data.dict es ep := d
    cases d'
  have nsK : ∀ {b : Addr} {m : Str → Option Value}, s₁.heap.Ns b m → (ZeG s₁.heap H).Ns b m := fun {b m} ⟨o, es, ep, e, d, r⟩ => ⟨o, es, ep, base_of e (noA e d), d, r⟩
  have hKb : K.In (ZeG s₁.heap H) := fun b o e => base_of (KX b o e) (by
   cases q : H b with
   | none => rfl
   | some u =>
    have e' : b = a := hA b (by rw [q]; simp)
    subst e'
    rw [hK (by rw [q]; simp)] at e; cases e)
  have hM : Mod K mg (ZeG s₁.heap H) := ⟨hKb, nsK hns, ⟨mb, nsK hb, hbb⟩, let ⟨mc, h1, h2⟩ := hlim; ⟨mc, nsK h1, h2⟩⟩
  have e0 : ZfP P w K mg (ZeG s₁.heap H) callerA [] s₁ H := ⟨rfl, hM, fun b o e => ZhD e, Nat.le_of_eq (ZgD _ _), trivial, fun b hb => absurd (show b ∈ ([] : List Addr) from hb) (by simp), hok, .of_eq hg⟩
  refine codeAny_mono ((F _ hKb (nsK hns)).run callerA [] s₁ H ⟨[.ref a], []⟩ [.ref a] [.ref a] _ _ hr e0 (hbind s₁ (.ref a)) (.cons rfl .nil) (hsp H hO hS)) fun r s' h => ?_
  cases r with
  | error e => exact (hCX H e s' h).elim
  | ok fl =>
   cases fl with
   | next => exact False.elim h
   | brk => exact False.elim h
   | cont => exact False.elim h
   | ret u =>
    obtain ⟨v, H', os, bare, un, hok', r', q⟩ := h
    have q' : v = .bl true := q
    subst q'
    obtain rfl : u = Value.bool true := r'
    refine ⟨rfl, OldK.of_keep fun b o e => ?_, os, bare⟩
    cases q : H b with
    | none => exact un.keep b o e q (by intro z; exact absurd (show b ∈ ([] : List Addr) from z) (by simp)) (by simp)
    | some u =>
     rcases hO b with z | ⟨ob, xs, z⟩
     ·rw [q] at z; cases z
     ·have z2 := un.frzs b ob _ z
      obtain ⟨e1, _⟩ := hok b _ z
      obtain ⟨e2, _⟩ := hok' b _ z2
      rw [e] at e1; cases e1
      exact e2
 cases hk : K.lookup a with
 | some o =>
  have e := KX a o hk
  rw [ha] at e
  cases e
  refine core (fun _ => none) (fun _ => .inl rfl) (.inr ⟨_, vs.toArray, _, hk, rfl, rfl, rfl, by rw [List.size_toArray, lenV]; exact hl, by simpa using rv⟩) (fun b u z => by have z' : (none : Option HO) = some u := z; cases z') (fun b z => absurd rfl z) fun z => absurd rfl z
 | none =>
  refine core (fun b => if b = a then some (.frz { cls := .type "list", data := .seq vs.toArray } (.lst (ns.map V.int))) else none) (fun b => ?_) (.inl (.inr ⟨{ cls := .type "list", data := .seq vs.toArray }, if_pos rfl⟩)) (fun b u z => ?_) (fun b z => ?_) fun _ => hk
  ·by_cases hb : b = a
   ·exact .inr ⟨_, _, if_pos hb⟩
   ·exact .inl (if_neg hb)
  ·by_cases hb : b = a
   ·have z' := (if_pos hb).symm.trans z
    cases z'
    subst hb
    exact ⟨ha, by rw [List.length_map]; exact hl, vs, _, rv, ha⟩
   ·have z' := (if_neg hb).symm.trans z
    cases z'
  ·by_cases hb : b = a
   ·exact hb
   ·exact absurd (if_neg hb) z
end L2
namespace L2
open PySem PySem.Spec PyProof.Rows
theorem Zga {l : PySem.W.OpenLaw} {n k : Nat} {q : Program} {loose : List Str} {XP : (Str → Option Value) → Heap → Prop} {YP : World → Heap → Prop} {d : DefRec} {K : Params → PySem.W.Frag} {CX : World → CXT} {sp : World → Sp} {x : Str}
  (hn : l.most = some n) (hn2 : n ≤ sizeLine) (hdf : d.params.defaults = []) (hr : ZbK k callerA)
  (hY : ∀ (w : World) (h : Heap), YP w h → (K w.params).In h)
  (F : ∀ (w : World) (mg : Str → Option Value) (fa : Addr) (h : Heap), (K w.params).In h → h.Ns mainGlobals mg → mg d.name = some (.ref fa) →
   ∃ fd : FuncData, (∀ (s : Shared) (u : Value), BindsTo s fd ⟨[u], []⟩ [(x, u)]) ∧
    ∀ base : Heap, (K w.params).In base → base.Ns mainGlobals mg → Zdn l.prog w (K w.params) mg base (CX w) k fa fd [x] (sp w))
  (hsp : ∀ (w : World) (H : Hp) (a : Addr) (ns : List Int), ns.length ≤ n → Only H → SqL (K w.params) H a (ns.map V.int) → sp w [.ref a] H (fun v _ => v = .bl true) fun _ _ _ => False)
  (hCX : ∀ (w : World) (H : Hp) (s : Shared) (e : Value) (s' : Shared), CX w [] H s (fun _ _ _ => False) e s' → False) :
  PySem.W.WalkO q loose XP YP l.row.toRowW d [] (fun f vs => PySem.call f vs) := by
 refine Att.attach_call hn hdf fun w s₀ s₁ mg mb fa o pm cd doc a vs ns G Y ho hd hcd hmg hobj hints hlen hg => ?_
 have KX := hY w _ Y
 obtain ⟨fd, hb, hF⟩ := F w mg fa _ KX G.T.g hmg
 exact ZgQ KX G.T.g G.T.b G.T.builtins G.T.nolimit hg hobj hints (Nat.le_trans hlen hn2) hr hF hb (fun H hO hS => hsp w H a ns hlen hO hS) fun H e s' => hCX w H s₁ e s'
end L2
/- THE LAST THEOREM (shape; LID, My.* are yours):
  My.Adr: a structure of the addresses that your layer names (classes, functions); My.Txt K t: a structure (Prop) of the equations over K;
  My.txt_mk : {K} {implicit addresses ..} (e1 : nsIn K mainGlobals "law" = some (some (.ref f))) (e2 : K.lookup f = some ⟨oc, od, .func (fnOf "law" "law" params body scope dV kV doc pm an cdv ct), sl⟩) (e3 : codeIn K cdv "law" = true) .. : ∃ t, My.Txt K t
set_option maxRecDepth 100000 in
set_option maxHeartbeats 0 in
theorem PySem.Challenge.cw_LID_holds : PySem.Challenge.rw_LID.Holds := by
 w_on; o_law; k_head; (case hw => w_witness2)
 k_fill
 refine L2.Zga (l := PySem.Challenge.rw_LID) (n := 63) (k := 40) (x := "script") (CX := fun w => ..) (sp := fun _ => My.sp_law) rfl (by decide) rfl ⟨rfl, by decide, by decide⟩ (fun w h Y => PySem.W.kIn_of Y) ?F ?S ?C
 case F =>
  intro w mg fa h KX G hmg
  have T : ∃ t, My.Txt (L2.KOf KX) t := by
   dsimp only [L2.KOf]                          -- K must stand as «<heap const> w.params» for k_is
   refine' My.txt_mk ?e1 ?e2 ?e3 ..
   (case e1 => PySem.W.k_is)                    -- in the order: a name -> its address -> its object -> its parts
   (case e2 => PySem.W.k_is)
   ..
  obtain ⟨t, T⟩ := T
  have e0 := hmg.symm.trans (PySem.W.mg_of KX G T.law)
  cases e0                                       -- fa is the law's own address
  exact ⟨_, fun s u => .of_eq rfl, fun base kb nb => My.law_fn T kb nb⟩     -- if «.of_eq rfl» comes too early: refine' ⟨_, ?b, fun base kb nb => My.law_fn T kb nb⟩; exact fun s u => .of_eq rfl
 case S => exact fun w H a ns hl hO hS => ..
 case C => exact ..
(the tactic k_is has no namespace: write k_is) -/
namespace L2
open PySem PySem.Spec PyProof.Rows
def Zai (s : Stmt) : Arguments := match s with
 | .FunctionDef _ a _ _ _ _ _ _ _ _ => a
 | _ => { posonlyargs := [], args := [], vararg := none, kwonlyargs := [], kw_defaults := [], kwarg := none, defaults := [] }
def Zac (s : Stmt) : List Stmt := match s with
 | .FunctionDef _ _ b _ _ _ _ _ _ _ => b
 | _ => []
def Zh (s : Stmt) : Scope := match s with
 | .FunctionDef _ _ _ _ _ _ sc _ _ _ => sc
 | _ => { kind := .function, names := [], isGenerator := false, isCoroutine := false }
abbrev CX0 : CXT := fun _ _ _ _ _ _ => False
abbrev E0 : XK := fun _ _ _ => False
theorem ZkN {X : Cx} : ZfR CX0 X E0 := fun _ _ _ _ _ _ _ h => h.elim
structure Fun (K : PySem.W.Frag) (x qual : Str) (st : Stmt) (f : Addr) (fd : FuncData) : Prop where
 ex : ∃ (oc : Value) (od : Option Addr) (dV kV doc pm : Value) (an : Option Addr) (cdv ct : Value) (osl : Array (Option Value)),
  fd = PySem.W.fnOf x qual (Zai st) (Zac st) (Zh st) dV kV doc pm an cdv ct ∧ K.lookup f = some ⟨oc, od, .func fd, osl⟩ ∧ PySem.W.codeIn K cdv qual = true
 kp : PySem.W.keepIn K (.ref f) = true
section
variable {P : Program} {w : World} {K : PySem.W.Frag} {mg : Str → Option Value} {base : Heap}
theorem Fun.ok {x qual : Str} {st : Stmt} {f : Addr} {fd : FuncData} {N ps : List Str} {k : Nat} {sp : Sp} (F : Fun K x qual st f fd) (S : Zam N ps (Zh st)) (len : ∀ vs H Q E, sp vs H Q E → vs.length = ps.length)
  (hbody : ∀ (cdv : Value) (A : Around) (outer : List Env) (s : Shared) (H : Hp) (vs : List V) (Q : VK) (E : XK), ZbK k (A.deeper (envOfC qual (Zh st) s.heap.objs.size f cdv)) → sp vs H Q E →
   ∃ t, PSs (Zfi CX0 P w K mg base N qual (Zh st) f cdv A outer s H E).nox (Zac st) t ∧ t { nx := fun _ H' => Q .non H', rt := Q } (start N vs) H) : Zdn P w K mg base CX0 (k + 1) f fd ps sp := by
 obtain ⟨oc, od, dV, kV, doc, pm, an, cdv, ct, osl, rfl, lk, hcd⟩ := F.ex
 refine Zj2 lk hcd S len fun A outer s H vs Q E hr hsp => ?_
 obtain ⟨t, h, q⟩ := hbody cdv A outer s H vs Q E hr hsp
 exact ⟨t, h.nox, q⟩
theorem Fun.binds {x qual : Str} {st : Stmt} {f : Addr} {fd : FuncData} {ps : List Str} (F : Fun K x qual st f fd)
  (h : ∀ (dV kV doc pm : Value) (an : Option Addr) (cdv ct : Value) (us : List Value), us.length = ps.length → bindArgs (PySem.W.fnOf x qual (Zai st) (Zac st) (Zh st) dV kV doc pm an cdv ct) ⟨us, []⟩ = pure (ps.zip us)) : Binds K fd ps [] := by
 obtain ⟨oc, od, dV, kV, doc, pm, an, cdv, ct, osl, rfl, lk, hcd⟩ := F.ex
 exact .all (h dV kV doc pm an cdv ct)
theorem Zhn {x qual : Str} {st : Stmt} {f : Addr} {oc : Value} {od an : Option Addr} {osl : Array (Option Value)} {dV kV doc pm cdv ct : Value} (l : K.lookup f = some ⟨oc, od, .func (PySem.W.fnOf x qual (Zai st) (Zac st) (Zh st) dV kV doc pm an cdv ct), osl⟩)
  (c : PySem.W.codeIn K cdv qual = true) (k : PySem.W.keepIn K (.ref f) = true) : Fun K x qual st f (PySem.W.fnOf x qual (Zai st) (Zac st) (Zh st) dV kV doc pm an cdv ct) := ⟨⟨oc, od, dV, kV, doc, pm, an, cdv, ct, osl, rfl, l, c⟩, k⟩
end
section
variable {X : Cx}
end
def Zfb (H H' : Hp) : Prop := ∀ b o, H b = some o → H' b = some o
theorem Zfb.trans {H H1 H2 : Hp} (a : Zfb H H1) (b : Zfb H1 H2) : Zfb H H2 := fun c o h => b c o (a c o h)
theorem Zfb.free {H H' : Hp} (e : Zfb H H') {l : Addr} (h : H' l = Option.none) : H l = Option.none := by
 cases q : H l with
 | none => rfl
 | some o =>
  rw [e l o q] at h
  cases h
theorem Zfb.seq {K : PySem.W.Frag} {H H' : Hp} {a : Addr} {xs : List V} (e : Zfb H H') (h : SqL K H a xs) : SqL K H' a xs := by
 rcases h with (h | ⟨o, h⟩) | h
 ·exact .inl (.inl (e _ _ h))
 ·exact .inl (.inr ⟨o, e _ _ h⟩)
 ·exact .inr h
end L2
namespace L2
open PySem PySem.Spec PyProof.Rows
section
variable {κ : Type} [DecidableEq κ]
def Zc0 (kvs : List (κ × V)) (k : κ) : Option V := (kvs.find? fun kv => decide (kv.1 = k)).map (·.2)
def putK (kvs : List (κ × V)) (k : κ) (v : V) : List (κ × V) :=
 if (kvs.any fun kv => decide (kv.1 = k)) = true then kvs.map (fun kv => if kv.1 = k then (kv.1, v) else kv) else kvs ++ [(k, v)]
theorem Zhi {k : κ} : Zc0 ([] : List (κ × V)) k = none := rfl
theorem Zc8 {p : κ × V} {r : List (κ × V)} {k : κ} (e : p.1 = k) : Zc0 (p :: r) k = some p.2 := by simp [Zc0, List.find?_cons, e]
theorem Zc9 {p : κ × V} {r : List (κ × V)} {k : κ} (e : ¬ p.1 = k) : Zc0 (p :: r) k = Zc0 r k := by simp [Zc0, List.find?_cons, e]
theorem Ze3 (k : κ) : ∀ kvs : List (κ × V), (kvs.any fun kv => decide (kv.1 = k)) = (Zc0 kvs k).isSome
 | [] => rfl
 | p :: r => by
  rw [List.any_cons]
  by_cases e : p.1 = k
  ·simp only [Zc8 e, decide_eq_true e, Bool.true_or, Option.isSome_some]
  ·rw [Zc9 e, decide_eq_false e, Bool.false_or]; exact Ze3 k r
theorem ZdV.isSome_eq {o : Option V} {u : Option Value} (r : ZdV o u) : o.isSome = u.isSome := by
 cases o with
 | none => cases u with
  | none => rfl
  | some _ => exact (show False from r).elim
 | some _ => cases u with
  | none => exact (show False from r).elim
  | some _ => rfl
theorem ZdV.getD {o : Option V} {u : Option Value} {d : V} {d' : Value} (r : ZdV o u) (rd : RelV d d') : RelV (o.getD d) (u.getD d') := by
 cases o with
 | none => cases u with
  | none => exact rd
  | some _ => exact (show False from r).elim
 | some _ => cases u with
  | none => exact (show False from r).elim
  | some _ => exact r
theorem KV.val {kvs : List (κ × V)} {vs : List (κ × Value)} (r : KV kvs vs) (k : κ) : ZdV (Zc0 kvs k) (valueAt vs k) := by
 unfold KV at r
 induction r with
 | nil => exact True.intro
 | @cons p q ps qs h t ih =>
  obtain ⟨h1, h2⟩ := h
  by_cases e : p.1 = k
  ·have e' : q.1 = k := h1.symm.trans e
   have b : valueAt (q :: qs) k = some q.2 := by simp [valueAt, List.find?_cons, e']
   rw [Zc8 e, b]; exact h2
  ·have e' : ¬ q.1 = k := fun z => e (h1.trans z)
   have b : valueAt (q :: qs) k = valueAt qs k := by simp [valueAt, List.find?_cons, e']
   rw [Zc9 e, b]; exact ih
theorem KV.any {kvs : List (κ × V)} {vs : List (κ × Value)} (r : KV kvs vs) (k : κ) : (kvs.any fun kv => decide (kv.1 = k)) = vs.any fun kv => decide (kv.1 = k) := by
 unfold KV at r
 induction r with
 | nil => rfl
 | cons h t ih => rw [List.any_cons, List.any_cons, ih, h.1]
theorem KV.repl {kvs : List (κ × V)} {vs : List (κ × Value)} (r : KV kvs vs) (k : κ) {y : V} {u : Value} (ry : RelV y u) :
  KV (kvs.map fun kv => if kv.1 = k then (kv.1, y) else kv) (vs.map fun kv => if kv.1 = k then (kv.1, u) else kv) := by
 unfold KV at r ⊢
 induction r with
 | nil => exact .nil
 | @cons p q ps qs h t ih =>
  rw [List.map_cons, List.map_cons]
  refine .cons ?_ ih
  obtain ⟨h1, h2⟩ := h
  by_cases e : p.1 = k
  ·rw [if_pos e, if_pos (h1.symm.trans e)]; exact ⟨h1, ry⟩
  ·rw [if_neg e, if_neg (fun z => e (h1.trans z))]; exact ⟨h1, h2⟩
theorem KV.put {kvs : List (κ × V)} {vs : List (κ × Value)} (r : KV kvs vs) (k : κ) {y : V} {u : Value} (ry : RelV y u) : KV (putK kvs k y) (stored vs k u) := by
 unfold putK stored
 rw [r.any k]
 by_cases e : (vs.any fun kv => decide (kv.1 = k)) = true
 ·rw [if_pos e, if_pos e]; exact r.repl k ry
 ·rw [if_neg e, if_neg e]; exact Paired.snoc r ⟨rfl, ry⟩
theorem KV.length {kvs : List (κ × V)} {vs : List (κ × Value)} (r : KV kvs vs) : kvs.length = vs.length := Paired.length r
end
abbrev KT (H : Hp) : List (List Key × V) → List (List Key × Addr × Value) → Prop := Paired fun p q => p.1 = q.1 ∧ H q.2.1 = some (.tup (p.1.map kV)) ∧ RelV p.2 q.2.2
theorem KT.val {H : Hp} {kvs : List (List Key × V)} {xs : List (List Key × Addr × Value)} (r : KT H kvs xs) (k : List Key) : ZdV (Zc0 kvs k) ((atKey xs k).map (·.2)) := by
 induction r with
 | nil => exact True.intro
 | @cons p q ps qs h t ih =>
  obtain ⟨h1, _, h2⟩ := h
  by_cases e : p.1 = k
  ·have e' : q.1 = k := h1.symm.trans e
   have b : atKey (q :: qs) k = some q.2 := by simp [atKey, List.find?_cons, e']
   rw [Zc8 e, b]; exact h2
  ·have e' : ¬ q.1 = k := fun z => e (h1.trans z)
   have b : atKey (q :: qs) k = atKey qs k := by simp [atKey, List.find?_cons, e']
   rw [Zc9 e, b]; exact ih
theorem KT.repl {H : Hp} {kvs : List (List Key × V)} {xs : List (List Key × Addr × Value)} (r : KT H kvs xs) (k : List Key) {y : V} {u : Value} (ry : RelV y u) :
  KT H (kvs.map fun kv => if kv.1 = k then (kv.1, y) else kv) (xs.map (putAt k u)) := by
 induction r with
 | nil => exact .nil
 | @cons p q ps qs h t ih =>
  rw [List.map_cons, List.map_cons]
  refine .cons ?_ ih
  obtain ⟨h1, h2, h3⟩ := h
  unfold putAt
  by_cases e : p.1 = k
  ·rw [if_pos e, if_pos (h1.symm.trans e)]; exact ⟨h1, h2, ry⟩
  ·rw [if_neg e, if_neg (fun z => e (h1.trans z))]; exact ⟨h1, h2, h3⟩
theorem KT.put {H : Hp} {kvs : List (List Key × V)} {xs : List (List Key × Addr × Value)} (r : KT H kvs xs) (k : List Key) {b : Addr} {y : V} {u : Value} (hb : H b = some (.tup (k.map kV))) (ry : RelV y u) :
  KT H (putK kvs k y) (storedH xs k b u) := by
 have e : (kvs.any fun kv => decide (kv.1 = k)) = (atKey xs k).isSome := by
  rw [Ze3, (r.val k).isSome_eq, Option.isSome_map]
 unfold putK storedH
 rw [e]
 by_cases q : (atKey xs k).isSome = true
 ·rw [if_pos q, if_pos q]; exact r.repl k ry
 ·rw [if_neg q, if_neg q]; exact Paired.snoc r ⟨rfl, hb, ry⟩
theorem KT.keeps {H H' : Hp} {kvs : List (List Key × V)} {xs : List (List Key × Addr × Value)} (r : KT H kvs xs) (ht : ∀ b ys, H b = some (.tup ys) → H' b = some (.tup ys)) : KT H' kvs xs :=
 Paired.mapP r fun _ _ z => ⟨z.1, ht _ _ z.2.1, z.2.2⟩
section
variable {P : Program} {w : World} {H : Hp} {h : Heap} {a : Addr}
end
def ZhH (H : Hp) (a : Addr) (y : V) (r : Option V) : Prop :=
 (∃ kvs k, Rd H a (.dK kvs) ∧ y = kV k ∧ r = Zc0 kvs k) ∨ ∃ kvs k b, Rd H a (.dT kvs) ∧ y = .ref b ∧ H b = some (.tup (k.map kV)) ∧ r = Zc0 kvs k
def ZhW (H : Hp) (a : Addr) (y v : V) (H' : Hp) : Prop :=
 (∃ kvs k, H a = some (.dK kvs) ∧ y = kV k ∧ kvs.length < sizeLine ∧ H' = upd H a (.dK (putK kvs k v))) ∨
 ∃ kvs k b, H a = some (.dT kvs) ∧ y = .ref b ∧ H b = some (.tup (k.map kV)) ∧ kvs.length < sizeLine ∧ H' = upd H a (.dT (putK kvs k v))
theorem ZhH.k {H : Hp} {a : Addr} {kvs : List (Key × V)} {k : Key} (e : H a = some (.dK kvs)) : ZhH H a (kV k) (Zc0 kvs k) := .inl ⟨kvs, k, .inl e, rfl, rfl⟩
theorem ZhH.t {H : Hp} {a b : Addr} {kvs : List (List Key × V)} {k : List Key} (e : H a = some (.dT kvs)) (eb : H b = some (.tup (k.map kV))) : ZhH H a (.ref b) (Zc0 kvs k) := .inr ⟨kvs, k, b, .inl e, rfl, eb, rfl⟩
theorem ZhW.k {H : Hp} {a : Addr} {kvs : List (Key × V)} {k : Key} {v : V} (e : H a = some (.dK kvs)) (hl : kvs.length < sizeLine) : ZhW H a (kV k) v (upd H a (.dK (putK kvs k v))) := .inl ⟨kvs, k, e, rfl, hl, rfl⟩
theorem ZhW.t {H : Hp} {a b : Addr} {kvs : List (List Key × V)} {k : List Key} {v : V} (e : H a = some (.dT kvs)) (eb : H b = some (.tup (k.map kV))) (hl : kvs.length < sizeLine) :
  ZhW H a (.ref b) v (upd H a (.dT (putK kvs k v))) := .inr ⟨kvs, k, b, e, rfl, eb, hl, rfl⟩
section
variable {X : Cx} {pins : List (Addr × Obj)} {σ : St} {H : Hp} {s : Shared} {a : Addr} {y v : V} {u r : Value} {o : Option V} {A : Around} {E : Value → Shared → Prop}
end
section
variable {X : Cx} {pins : List (Addr × Obj)} {σ : St} {H : Hp} {s : Shared} {a : Addr} {kvs : List (Key × V)} {k : Key} {u : Value} {A : Around} {E : Value → Shared → Prop}
end
section
variable {X : Cx} {o i e value : Expr} {pos pos' tpos : Pos} {td ty tv : TE}
end
section
variable {X : Cx} {pos : Pos}
end
structure M1 (X : Cx) (o : Expr) (m : Str) (apos : Pos) (e : Expr) (cpos : Pos) : Prop where
 base : attributeBase o m X.env (eval o X.env) = eval o X.env
 few : ((backTo cpos (starEach [e] X.env)).all (fun x => !x.1) && (backToKw cpos (keywordEach [] X.env)).all (fun x => x.1.isSome)
  && decide (([e] : List Expr).length + ([] : List Keyword).length + (if ([] : List Keyword).isEmpty then 0 else 1) < 30)) = true
 line : (apos.endLine == cpos.line) = true
 trees : backTo cpos (starEach [e] X.env) = [(false, eval e X.env)]
structure M2 (X : Cx) (o : Expr) (m : Str) (apos : Pos) (e f : Expr) (cpos : Pos) : Prop where
 base : attributeBase o m X.env (eval o X.env) = eval o X.env
 few : ((backTo cpos (starEach [e, f] X.env)).all (fun x => !x.1) && (backToKw cpos (keywordEach [] X.env)).all (fun x => x.1.isSome)
  && decide (([e, f] : List Expr).length + ([] : List Keyword).length + (if ([] : List Keyword).isEmpty then 0 else 1) < 30)) = true
 line : (apos.endLine == cpos.line) = true
 trees : backTo cpos (starEach [e, f] X.env) = [(false, eval e X.env), (false, eval f X.env)]
section
variable {X : Cx} {pins : List (Addr × Obj)} {σ : St} {H : Hp} {s : Shared} {a : Addr} {y d : V} {u r : Value} {o : Option V} {A : Around} {E : Value → Shared → Prop}
end
section
variable {X : Cx} {o e f : Expr} {apos cpos : Pos} {td ty tx : TE}
end
section
variable {X : Cx} {pins : List (Addr × Obj)} {σ : St} {H : Hp} {s : Shared} {a : Addr} {kvs : List (Key × V)} {A : Around} {E : Value → Shared → Prop}
end
section
variable {X : Cx} {pins : List (Addr × Obj)} {σ : St} {H : Hp} {s : Shared} {a : Addr} {y : V} {u : Value} {A : Around} {E : Value → Shared → Prop}
end
end L2
namespace L3
open PySem
noncomputable section
inductive D where
 | non | bl (b : Bool) | int (i : Int) | str (x : List Nat) | tup (ds : List D) | scr (ds : List D) | ref (n : Nat)
 deriving Inhabited
abbrev Zba := Sum Int (List Nat)
inductive MO where
 | lst (xs : List D) | dct (kvs : List (Zba × D)) | fdct (kvs : List (Zba × D))
 deriving Inhabited
abbrev Store := List MO
structure X3 where
 cls : List Nat
 arg : D
inductive R3 (α : Type) where
 | ok (a : α) (M : Store) | exc (x : X3) (M : Store) | bad
@[simp] def R3.bind {α β : Type} (r : R3 α) (k : α → Store → R3 β) : R3 β := match r with
 | .ok a M => k a M
 | .exc x M => .exc x M
 | .bad => .bad
theorem R3.bind_ok {α β : Type} (a : α) (M : Store) (k : α → Store → R3 β) : (R3.ok a M).bind k = k a M := rfl
def Zr : Nat → D → Bool
 | _, .non => true | _, .bl _ => true | _, .int _ => true | _, .str _ => true
 | n + 1, .tup ds => ds.all (Zr n)
 | _, _ => false
abbrev DEEP : Nat := 60
mutual
def deq : D → D → Bool
 | .non, .non => true
 | .bl a, .bl b => a == b
 | .int a, .int b => a == b
 | .str a, .str b => a == b
 | .tup a, .tup b => Zbx a b
 | .bl a, .int b => (if a then 1 else 0) == b
 | .int a, .bl b => a == (if b then 1 else 0)
 | _, _ => false
def Zbx : List D → List D → Bool
 | [], [] => true
 | a :: x, b :: y => deq a b && Zbx x y
 | _, _ => false
end
mutual
def below (n : Nat) : D → Bool
 | .tup ds => belowL n ds
 | .scr ds => belowL n ds
 | .ref k => k < n
 | .non => true | .bl _ => true | .int _ => true | .str _ => true
def belowL (n : Nat) : List D → Bool
 | [] => true
 | d :: ds => below n d && belowL n ds
end
mutual
def same : D → D → Bool
 | .non, .non => true
 | .bl a, .bl b => a == b
 | .int a, .int b => a == b
 | .str a, .str b => a == b
 | .tup a, .tup b => ZdT a b
 | .scr a, .scr b => ZdT a b
 | .ref a, .ref b => a == b
 | _, _ => false
def ZdT : List D → List D → Bool
 | [], [] => true
 | a :: x, b :: y => same a b && ZdT x y
 | _, _ => false
end
mutual
theorem same_iff : ∀ {a b : D}, same a b = true ↔ a = b
 | .non, b => by cases b <;> simp [same]
 | .bl a, b => by cases b <;> simp [same]
 | .int a, b => by cases b <;> simp [same]
 | .str a, b => by cases b <;> simp [same]
 | .tup a, b => by cases b <;> simp [same, Zdv (x := a)]
 | .scr a, b => by cases b <;> simp [same, Zdv (x := a)]
 | .ref a, b => by cases b <;> simp [same]
theorem Zdv : ∀ {x y : List D}, ZdT x y = true ↔ x = y
 | [], y => by cases y <;> simp [ZdT]
 | a :: x, y => by
  cases y with
  | nil => simp [ZdT]
  | cons b y => simp [ZdT, same_iff (a := a), Zdv (x := x)]
end
instance : DecidableEq D := fun a b => decidable_of_iff (same a b = true) same_iff
instance : DecidableEq MO := fun a b => match a, b with
 | .lst x, .lst y => if h : x = y then isTrue (by rw [h]) else isFalse (by intro e; cases e; exact h rfl)
 | .dct x, .dct y => if h : x = y then isTrue (by rw [h]) else isFalse (by intro e; cases e; exact h rfl)
 | .fdct x, .fdct y => if h : x = y then isTrue (by rw [h]) else isFalse (by intro e; cases e; exact h rfl)
 | .lst _, .dct _ => isFalse (by intro e; cases e)
 | .lst _, .fdct _ => isFalse (by intro e; cases e)
 | .dct _, .lst _ => isFalse (by intro e; cases e)
 | .dct _, .fdct _ => isFalse (by intro e; cases e)
 | .fdct _, .lst _ => isFalse (by intro e; cases e)
 | .fdct _, .dct _ => isFalse (by intro e; cases e)
@[simp] abbrev SZ : Nat := 1000000
abbrev Zaa := List (Option D)
abbrev E3 := Zaa → Store → R3 D
abbrev EL3 := Zaa → Store → R3 (List D)
abbrev F3 := List D → Store → R3 D
inductive O3 where
 | nx (env : Zaa) (M : Store) | rt (d : D) (M : Store) | bk (env : Zaa) (M : Store) | ct (env : Zaa) (M : Store) | exc (x : X3) (M : Store) | bad
abbrev S3 := Zaa → Store → O3
@[simp] def Zb (i : Nat) : E3 := fun env M => match env[i]? with
 | some (some d) => .ok d M
 | _ => .bad
@[simp] def eC (d : D) : E3 := fun _ M => .ok d M
@[simp] def e1 (op : D → Store → R3 D) (f : E3) : E3 := fun env M => (f env M).bind op
@[simp] def e2 (op : D → D → Store → R3 D) (f g : E3) : E3 := fun env M => (f env M).bind fun a M1 => (g env M1).bind fun b M2 => op a b M2
@[simp] def Ze : EL3 := fun _ M => .ok [] M
@[simp] def Za (f : E3) (g : EL3) : EL3 := fun env M => (f env M).bind fun a M1 => (g env M1).bind fun b M2 => .ok (a :: b) M2
@[simp] def alloc (o : MO) (M : Store) : R3 D := .ok (.ref M.length) (M ++ [o])
section
local instance (priority := 100000) clP1 (p : Prop) : Decidable p := Classical.propDecidable p
@[simp] def Zed (g : EL3) : E3 := fun env M => (g env M).bind fun ds M1 => if ds.length ≤ SZ then .ok (.tup ds) M1 else .bad
end
section
local instance (priority := 100000) clP2 (p : Prop) : Decidable p := Classical.propDecidable p
@[simp] def ZaI (g : EL3) : E3 := fun env M => (g env M).bind fun ds M1 => if ds.length ≤ SZ then alloc (.lst ds) M1 else .bad
end
@[simp] def Zch (f g : E3) : E3 := fun env M => (f env M).bind fun a M1 => match a with
 | .bl true => g env M1
 | .bl false => .ok (.bl false) M1
 | _ => .bad
@[simp] def eOr (f g : E3) : E3 := fun env M => (f env M).bind fun a M1 => match a with
 | .bl false => g env M1
 | .bl true => .ok (.bl true) M1
 | _ => .bad
@[simp] def Zcg (a : D) (M : Store) : R3 D := match a with
 | .bl b => .ok (.bl (!b)) M
 | _ => .bad
@[simp] def eIf (c f g : E3) : E3 := fun env M => (c env M).bind fun a M1 => match a with
 | .bl true => f env M1
 | .bl false => g env M1
 | _ => .bad
@[simp] def Zt (F : F3) (g : EL3) : E3 := fun env M => (g env M).bind fun ds M1 => F ds M1
section
local instance (priority := 100000) clP3 (p : Prop) : Decidable p := Classical.propDecidable p
@[simp] def Zu (a b : D) (M : Store) : R3 D := match a, b with
 | .int i, .int j => .ok (.int (i + j)) M
 | .str x, .str y => if x.length + y.length ≤ SZ then .ok (.str (x ++ y)) M else .bad
 | .tup x, .tup y => if x.length + y.length ≤ SZ then .ok (.tup (x ++ y)) M else .bad
 | .ref n, .ref m => match M[n]?, M[m]? with
  | some (.lst x), some (.lst y) => if x.length + y.length ≤ SZ then alloc (.lst (x ++ y)) M else .bad
  | _, _ => .bad
 | _, _ => .bad
end
@[simp] def ZbL (a b : D) (M : Store) : R3 D := match a, b with
 | .int i, .int j => .ok (.int (i - j)) M
 | _, _ => .bad
section
local instance (priority := 100000) clP4 (p : Prop) : Decidable p := Classical.propDecidable p
def ZbF (i j : Int) : Bool := (decide (-(2 ^ 64) < i) && decide (i < 2 ^ 64)) || (decide (-(2 ^ 64) < j) && decide (j < 2 ^ 64))
end
section
local instance (priority := 100000) clP5 (p : Prop) : Decidable p := Classical.propDecidable p
@[simp] def Zb5 (a b : D) (M : Store) : R3 D := match a, b with
 | .int i, .int j => if ZbF i j then .ok (.int (i * j)) M else .bad
 | .str x, .int k => if x.length * k.toNat ≤ SZ ∧ k < 1000000 ∧ -1000000 < k then .ok (.str (List.replicate k.toNat x).flatten) M else .bad
 | .ref n, .int k => match M[n]? with
  | some (.lst x) => if x.length * k.toNat ≤ SZ ∧ k < 1000000 ∧ -1000000 < k then alloc (.lst (List.replicate k.toNat x).flatten) M else .bad
  | _ => .bad
 | _, _ => .bad
end
@[simp] def Zab (a b : D) (M : Store) : R3 D := match a, b with
 | .int i, .int j => if 0 < j then .ok (.int (i % j)) M else .bad
 | _, _ => .bad
section
local instance (priority := 100000) clP6 (p : Prop) : Decidable p := Classical.propDecidable p
@[simp] def Zay (a b : D) (M : Store) : R3 D := match a, b with
 | .int i, .int j => if 0 < j ∧ j < 1073741824 then .ok (.int (i / j)) M else .bad
 | _, _ => .bad
end
@[simp] def Zgf (a b : D) (M : Store) : R3 D := match a, b with
 | .int i, .int j => if 0 ≤ j ∧ j ≤ 1000 ∧ i.natAbs < 1000 then .ok (.int (i ^ j.toNat)) M else .bad
 | _, _ => .bad
@[simp] def Zer (a : D) (M : Store) : R3 D := match a with
 | .int i => .ok (.int (-i)) M
 | _ => .bad
@[simp] def Zh5 (a b : D) (M : Store) : R3 D := match a, b with
 | .int i, .int j => .ok (.bl (decide (i < j))) M
 | _, _ => .bad
@[simp] def Zme (a b : D) (M : Store) : R3 D := match a, b with
 | .int i, .int j => .ok (.bl (decide (i ≤ j))) M
 | _, _ => .bad
@[simp] def ZfO (a b : D) (M : Store) : R3 D := match a, b with
 | .int i, .int j => .ok (.bl (decide (j < i))) M
 | _, _ => .bad
@[simp] def Zl0 (a b : D) (M : Store) : R3 D := match a, b with
 | .int i, .int j => .ok (.bl (decide (j ≤ i))) M
 | _, _ => .bad
@[simp] def eqD (a b : D) (M : Store) : Option Bool := match a, b with
 | .ref n, .ref m => match M[n]?, M[m]? with
  | some (.lst x), some (.lst y) => if x.all (Zr DEEP) && y.all (Zr DEEP) then some (Zbx x y) else none
  | _, _ => none
 | .int i, .int j => some (decide (i = j))
 | .str x, .str y => some (decide (x = y))
 | .bl x, .bl y => some (decide (x = y))
 | .tup x, .tup y => if x.all (Zr DEEP) && y.all (Zr DEEP) then some (Zbx x y) else none
 | _, _ => none
@[simp] def ZaU (a b : D) (M : Store) : R3 D := match eqD a b M with
 | some r => .ok (.bl r) M
 | none => .bad
@[simp] def Zds (a b : D) (M : Store) : R3 D := match eqD a b M with
 | some r => .ok (.bl (!r)) M
 | none => .bad
@[simp] def ZlY (a b : D) (M : Store) : R3 D := match b with
 | .non => .ok (.bl (decide (a = .non))) M
 | _ => .bad
@[simp] def ZkO (a b : D) (M : Store) : R3 D := match b with
 | .non => .ok (.bl (!decide (a = .non))) M
 | _ => .bad
def Zcm : D → Bool
 | .non => true | .bl _ => true | .int _ => true | .str _ => true | _ => false
@[simp] def inD (a b : D) : Option Bool := match a, b with
 | .str [c], .str y => some (decide (c ∈ y))
 | x, .tup ys => if Zcm x && ys.all Zcm then some (ys.any fun y => deq y x) else none
 | _, _ => none
@[simp] def Zl9 (a b : D) (M : Store) : R3 D := match inD a b with
 | some r => .ok (.bl r) M
 | none => .bad
@[simp] def ZkT (a b : D) (M : Store) : R3 D := match inD a b with
 | some r => .ok (.bl (!r)) M
 | none => .bad
def ixD (n : Nat) (i : Int) : Option Nat := if 0 ≤ i then (if i < n then some i.toNat else none) else if -(n : Int) ≤ i then some (i + n).toNat else none
def Za6 {α : Type} (xs : List α) (i : Int) : Option α := (ixD xs.length i).bind fun j => xs[j]?
@[simp] def ZgB : D → Option Zba
 | .int i => some (.inl i)
 | .str x => some (.inr x)
 | _ => none
def ZgE : List (Zba × D) → Zba → Option D
 | [], _ => none
 | (k, v) :: r, x => if k = x then some v else ZgE r x
section
local instance (priority := 100000) clP7 (p : Prop) : Decidable p := Classical.propDecidable p
@[simp] def Zz (a b : D) (M : Store) : R3 D := match a, b with
 | .tup ds, .int i => match Za6 ds i with
  | some d => .ok d M
  | none => .bad
 | .scr ds, .int i => match Za6 ds i with
  | some d => .ok d M
  | none => .bad
 | .str x, .int i => match Za6 x i with
  | some c => if x.length ≤ SZ then .ok (.str [c]) M else .bad
  | none => .bad
 | .ref n, .int i => match M[n]? with
  | some (.lst ds) => match Za6 ds i with
   | some d => .ok d M
   | none => .bad
  | _ => .bad
 | _, _ => .bad
end
@[simp] def Zfl : Option MO → Option (List (Zba × D))
 | some (.dct kvs) => some kvs
 | some (.fdct kvs) => some kvs
 | _ => none
@[simp] def Zk9 (a b : D) (M : Store) : R3 D := match a with
 | .ref n => match Zfl M[n]?, ZgB b with
  | some kvs, some x => match ZgE kvs x with
   | some d => .ok d M
   | none => .bad
  | _, _ => .bad
 | _ => .bad
def sIx (n d : Nat) : Option Int → Nat
 | none => d
 | some v => if v < 0 then (v + (n : Int)).toNat else min v.toNat n
def cutD {α : Type} (xs : List α) (lo hi : Option Int) : List α := (xs.drop (sIx xs.length 0 lo)).take (sIx xs.length xs.length hi - sIx xs.length 0 lo)
abbrev EO3 := Zaa → Store → R3 (Option Int)
@[simp] def ZcC : EO3 := fun _ M => .ok none M
@[simp] def Zaz (f : E3) : EO3 := fun env M => (f env M).bind fun a M1 => match a with
 | .int i => .ok (some i) M1
 | _ => .bad
section
local instance (priority := 100000) clP8 (p : Prop) : Decidable p := Classical.propDecidable p
@[simp] def Zfd (a : D) (lo hi : Option Int) (M : Store) : R3 D := match a with
 | .tup ds => .ok (.tup (cutD ds lo hi)) M
 | .scr ds => alloc (.lst (cutD ds lo hi)) M
 | .str x => if x.length ≤ SZ then .ok (.str (cutD x lo hi)) M else .bad
 | .ref n => match M[n]? with
  | some (.lst ds) => alloc (.lst (cutD ds lo hi)) M
  | _ => .bad
 | _ => .bad
end
@[simp] def eSl (f : E3) (lo hi : EO3) : E3 := fun env M => (f env M).bind fun a M1 => (lo env M1).bind fun l M2 => (hi env M2).bind fun h M3 => Zfd a l h M3
section
local instance (priority := 100000) clP9 (p : Prop) : Decidable p := Classical.propDecidable p
@[simp] def ZaC (ds : List D) (M : Store) : R3 D := match ds with
 | [.tup x] => .ok (.int x.length) M
 | [.scr x] => .ok (.int x.length) M
 | [.str x] => if x.length ≤ SZ then .ok (.int x.length) M else .bad
 | [.ref n] => match M[n]? with
  | some (.lst x) => .ok (.int x.length) M
  | _ => .bad
 | _ => .bad
end
@[simp] def Zbe (ds : List D) (M : Store) : R3 D := match ds with
 | [.tup x] => .ok (.tup x) M
 | [.scr x] => .ok (.tup x) M
 | [.ref n] => match M[n]? with
  | some (.lst x) => .ok (.tup x) M
  | _ => .bad
 | _ => .bad
@[simp] def Zd9 (ds : List D) (M : Store) : R3 D := match ds with
 | [.tup x] => alloc (.lst x) M
 | [.scr x] => alloc (.lst x) M
 | [.ref n] => match M[n]? with
  | some (.lst x) => alloc (.lst x) M
  | _ => .bad
 | _ => .bad
inductive Ty3 where
 | int | bool | str | list | tuple
 deriving DecidableEq
@[simp] def Zbr (T : Ty3) (d : D) (M : Store) : Option Bool := match d with
 | .non => some false
 | .bl _ => some (T == .bool || T == .int)
 | .int _ => some (T == .int)
 | .str _ => some (T == .str)
 | .tup _ => some (T == .tuple)
 | .scr _ => none
 | .ref n => match M[n]? with
  | some (.lst _) => some (T == .list)
  | some (.dct _) => some false
  | some (.fdct _) => none
  | none => none
@[simp] def Zbp (T : Ty3) (d : D) (M : Store) : R3 D := match Zbr T d M with
 | some b => .ok (.bl b) M
 | none => .bad
def isB : D → Bool
 | .bl _ => true
 | _ => false
def isT : D → Bool
 | .bl b => b
 | _ => false
def allB (l : List D) : Option Bool := if l.all isB then some (l.all isT) else none
@[simp] def Zgn (ds : List D) (M : Store) : R3 D := match ds with
 | [.ref n] => match M[n]? with
  | some (.lst x) => match allB x with
   | some b => .ok (.bl b) M
   | none => .bad
  | _ => .bad
 | _ => .bad
@[simp] def Ziu (o : D) (ds : List D) (M : Store) : R3 D := match o, ds with
 | .str x, [.str y] => if x.length ≤ SZ ∧ y.length ≤ SZ then .ok (.bl (y.isPrefixOf x)) M else .bad
 | _, _ => .bad
section
local instance (priority := 100000) clP11 (p : Prop) : Decidable p := Classical.propDecidable p
@[simp] def Zbc (o : D) (ds : List D) (M : Store) : R3 D := match o, ds with
 | .ref n, [d] => match M[n]? with
  | some (.lst x) => if x.length < SZ then .ok .non (M.set n (.lst (x ++ [d]))) else .bad
  | _ => .bad
 | _, _ => .bad
end
section
local instance (priority := 100000) clPp (p : Prop) : Decidable p := Classical.propDecidable p
@[simp] def Zma (o : D) (ds : List D) (M : Store) : R3 D := match o, ds with
 | .ref n, [.int i] => match M[n]? with
  | some (.lst x) => if -1000000 ≤ i ∧ i ≤ 1000000 then match ixD x.length i with
   | some k => match x[k]? with
    | some d => .ok d (M.set n (.lst (x.eraseIdx k)))
    | none => .bad
   | none => .bad
   else .bad
  | _ => .bad
 | .ref n, [] => match M[n]? with
  | some (.lst x) => match x[x.length - 1]? with
   | some d => .ok d (M.set n (.lst x.dropLast))
   | none => .bad
  | _ => .bad
 | _, _ => .bad
end
@[simp] def tyS (a : D) (_ : Store) : Bool := match a with
 | .str _ => true
 | _ => false
@[simp] def tyL (a : D) (M : Store) : Bool := match a with
 | .ref n => match M[n]? with
  | some (.lst _) => true
  | _ => false
 | _ => false
@[simp] def ZlZ (a : D) (M : Store) : Bool := match a with
 | .ref n => (Zfl M[n]?).isSome
 | _ => false
@[simp] def Zb0 (ty : D → Store → Bool) (m : D → List D → Store → R3 D) (o : E3) (g : EL3) : E3 := fun env M => (o env M).bind fun a M1 => if ty a M1 then (g env M1).bind fun ds M2 => m a ds M2 else .bad
@[simp] def Zah (b : List D → Store → R3 D) (g : EL3) : E3 := fun env M => (g env M).bind fun ds M1 => b ds M1
def putD (k : Zba) (v : D) (kvs : List (Zba × D)) : List (Zba × D) :=
 if (kvs.any fun p => decide (p.1 = k)) = true then kvs.map (fun p => if p.1 = k then (p.1, v) else p) else kvs ++ [(k, v)]
abbrev EP3 := Zaa → Store → R3 (List (Zba × D))
@[simp] def Zl4 : EP3 := fun _ M => .ok [] M
@[simp] def ZlC (f g : E3) (r : EP3) : EP3 := fun env M => (f env M).bind fun a M1 => (g env M1).bind fun b M2 => match ZgB a with
 | some k => (r env M2).bind fun l M3 => .ok ((k, b) :: l) M3
 | none => .bad
def dictOf (l : List (Zba × D)) : List (Zba × D) := l.foldl (fun acc p => putD p.1 p.2 acc) []
@[simp] def Zmd (r : EP3) : E3 := fun env M => (r env (M ++ [.dct []])).bind fun l M1 => match M1[M.length]? with
 | some (.dct []) => if l.length ≤ 15 then .ok (.ref M.length) (M1.set M.length (.dct (dictOf l))) else .bad
 | _ => .bad
@[simp] def ZlG : E3 := fun _ M => alloc (.dct []) M
@[simp] def e3 (op : D → D → D → Store → R3 D) (f g h : E3) : E3 := fun env M => (f env M).bind fun a M1 => (g env M1).bind fun b M2 => (h env M2).bind fun c M3 => op a b c M3
section
local instance (priority := 100000) clP12 (p : Prop) : Decidable p := Classical.propDecidable p
@[simp] def Zlk (v a b : D) (M : Store) : R3 D := match a with
 | .ref n => match M[n]?, ZgB b with
  | some (.dct kvs), some k => if kvs.length < SZ then .ok .non (M.set n (.dct (putD k v kvs))) else .bad
  | _, _ => .bad
 | _ => .bad
end
@[simp] def Zhp (v a b : D) (M : Store) : R3 D := match a, b with
 | .ref n, .int i => match M[n]? with
  | some (.lst xs) => match ixD xs.length i with
   | some j => .ok .non (M.set n (.lst (xs.set j v)))
   | none => .bad
  | _ => .bad
 | _, _ => .bad
@[simp] def ZlW (o : D) (ds : List D) (M : Store) : R3 D := match o, ds with
 | .ref n, [b] => match Zfl M[n]?, ZgB b with
  | some kvs, some k => .ok ((ZgE kvs k).getD .non) M
  | _, _ => .bad
 | .ref n, [b, d] => match Zfl M[n]?, ZgB b with
  | some kvs, some k => .ok ((ZgE kvs k).getD d) M
  | _, _ => .bad
 | _, _ => .bad
def Zg4 : List D → Option (List (Zba × D))
 | [] => some []
 | .tup [a, b] :: r => match ZgB a with
  | some k => (Zg4 r).map fun l => (k, b) :: l
  | none => none
 | _ :: _ => none
section
local instance (priority := 100000) clP13 (p : Prop) : Decidable p := Classical.propDecidable p
@[simp] def ZlM (ds : List D) (M : Store) : R3 D := match ds with
 | [.ref n] => match Zfl M[n]? with
  | some kvs => alloc (.dct kvs) M
  | none => .bad
 | [.tup x] => match Zg4 x with
  | some l => if l.length ≤ 100000 then alloc (.dct (dictOf l)) M else .bad
  | none => .bad
 | _ => .bad
end
@[simp] def Zlx (ds : List D) (M : Store) : R3 D := match ds with
 | [.int i] => .ok (.int i) M
 | [.bl b] => .ok (.int (if b then 1 else 0)) M
 | _ => .bad
def ltT : List D → List D → Option Bool
 | [], [] => some false
 | [], _ :: _ => some true
 | _ :: _, [] => some false
 | .int i :: x, .int j :: y => if i = j then ltT x y else some (decide (i < j))
 | .str a :: x, .str b :: y => if a = b then ltT x y else some (decide (a < b))
 | _ :: _, _ :: _ => none
def ltD : D → D → Option Bool
 | .tup a, .tup b => ltT a b
 | .int i, .int j => some (decide (i < j))
 | _, _ => none
def leD (a b : D) : Prop := ltD b a = some false
def ZjL (x y : List D) : Prop := y.Perm x ∧ y.Pairwise leD
def ZhP : D → Bool
 | .tup (.int _ :: _) => true
 | _ => false
def ZiE : D → Bool
 | .int _ => true
 | _ => false
structure ZiW (x : List D) : Prop where
 len : x.length < 64
 kind : x.all ZhP = true ∨ x.all ZiE = true
 cmp : ∀ a ∈ x, ∀ b ∈ x, (ltD a b).isSome = true
section
local instance (priority := 100000) clPs (p : Prop) : Decidable p := Classical.propDecidable p
def Zkp (x : List D) : List D := if h : ∃ y, ZjL x y then h.choose else x
@[simp] def ZkU (ds : List D) (M : Store) : R3 D := match ds with
 | [.ref n] => match M[n]? with
  | some (.lst x) => if ZiW x then alloc (.lst (Zkp x)) M else .bad
  | _ => .bad
 | _ => .bad
end
def Zhm : List D → Option (List Int)
 | [] => some []
 | .int i :: r => (Zhm r).map (i :: ·)
 | _ :: _ => none
@[simp] def Zl6 (ds : List D) (M : Store) : R3 D := match ds with
 | [.ref n] => match M[n]? with
  | some (.lst x) => match Zhm x with
   | some ns => .ok (.int ns.sum) M
   | none => .bad
  | _ => .bad
 | [.scr x] => match Zhm x with
  | some ns => .ok (.int ns.sum) M
  | none => .bad
 | _ => .bad
def Zag : S3 := fun env M => .nx env M
def ZdI : S3 := fun _ _ => .bad
def Zw (f g : S3) : S3 := fun env M => match f env M with
 | .nx env' M' => g env' M'
 | o => o
def sIf (c : E3) (f g : S3) : S3 := fun env M => match c env M with
 | .ok (.bl true) M1 => f env M1
 | .ok (.bl false) M1 => g env M1
 | .exc x M1 => .exc x M1
 | _ => .bad
def ZaG (f : E3) : S3 := fun env M => match f env M with
 | .ok d M1 => .rt d M1
 | .exc x M1 => .exc x M1
 | .bad => .bad
def Zal (f : E3) : S3 := fun env M => match f env M with
 | .ok _ M1 => .nx env M1
 | .exc x M1 => .exc x M1
 | .bad => .bad
def Zat (i : Nat) (f : E3) : S3 := fun env M => match f env M with
 | .ok d M1 => .nx (env.set i (some d)) M1
 | .exc x M1 => .exc x M1
 | .bad => .bad
def Zcq (o i f : E3) : S3 := Zal (e3 Zhp f o i)
abbrev G3 := D → Zaa → Option Zaa
@[simp] def Zb1 (i : Nat) : G3 := fun d env => some (env.set i (some d))
@[simp] def bindAll : List Nat → List D → Zaa → Option Zaa
 | [], [], env => some env
 | i :: is, d :: ds, env => bindAll is ds (env.set i (some d))
 | _, _, _ => none
@[simp] def ZeZ (is : List Nat) : G3 := fun d env => match d with
 | .tup ds => bindAll is ds env
 | _ => none
structure It3 where
 items : List D
 lock : Option Nat
abbrev I3 := Zaa → Store → R3 It3
section
local instance (priority := 100000) clP14 (p : Prop) : Decidable p := Classical.propDecidable p
@[simp] def Zfh (f : E3) : I3 := fun env M => (f env M).bind fun a M1 => match a with
 | .tup ds => .ok ⟨ds, none⟩ M1
 | .scr ds => .ok ⟨ds, none⟩ M1
 | .str x => if x.length ≤ SZ then .ok ⟨x.map fun c => .str [c], none⟩ M1 else .bad
 | .ref n => match M1[n]? with
  | some (.lst ds) => .ok ⟨ds, some n⟩ M1
  | _ => .bad
 | _ => .bad
end
def Zb2 (lo : Int) (n : Nat) : List D := (List.range n).map fun (k : Nat) => D.int (lo + (k : Int))
section
local instance (priority := 100000) clP15 (p : Prop) : Decidable p := Classical.propDecidable p
@[simp] def Za2 (f : E3) : I3 := fun env M => (f env M).bind fun a M1 => match a with
 | .int j => if j ≤ 1000000 ∧ -1000000 ≤ j then .ok ⟨Zb2 0 j.toNat, none⟩ M1 else .bad
 | _ => .bad
end
section
local instance (priority := 100000) clP16 (p : Prop) : Decidable p := Classical.propDecidable p
@[simp] def ZdO (f g : E3) : I3 := fun env M => (f env M).bind fun a M1 => (g env M1).bind fun b M2 => match a, b with
 | .int i, .int j => if (j ≤ 1000000 ∧ -1000000 ≤ j) ∧ (i ≤ 1000000 ∧ -1000000 ≤ i) then .ok ⟨Zb2 i (j - i).toNat, none⟩ M2 else .bad
 | _, _ => .bad
end
def locked (it : It3) (M : Store) : Bool := match it.lock with
 | none => true
 | some n => decide (M[n]? = some (.lst it.items))
def ZcE (it : It3) (g : G3) (body : S3) : List D → Zaa → Store → O3
 | [], env, M => if locked it M then .nx env M else .bad
 | d :: ds, env, M => if locked it M then match g d env with
  | none => .bad
  | some env1 => match body env1 M with
   | .nx e M' => ZcE it g body ds e M'
   | .ct e M' => ZcE it g body ds e M'
   | .bk e M' => .nx e M'
   | o => o
  else .bad
def Zd6 (i : I3) (g : G3) (body : S3) : S3 := fun env M => match i env M with
 | .ok it M1 => ZcE it g body it.items env M1
 | .exc x M1 => .exc x M1
 | .bad => .bad
def Zcv : List E3 → Zaa → Store → R3 Bool
 | [], _, M => .ok true M
 | c :: cs, env, M => (c env M).bind fun a M1 => match a with
  | .bl true => Zcv cs env M1
  | .bl false => .ok false M1
  | _ => .bad
section
local instance (priority := 100000) clP17 (p : Prop) : Decidable p := Classical.propDecidable p
def Zb6 (it : It3) (g : G3) (ifs : List E3) (elt : E3) (n : Nat) : List D → Zaa → Store → R3 D
 | [], _, M => if locked it M then .ok (.ref n) M else .bad
 | d :: ds, env, M => if locked it M then match g d env with
  | none => .bad
  | some env1 => (Zcv ifs env1 M).bind fun b M1 => if b then (elt env1 M1).bind fun e M2 => match M2[n]? with
    | some (.lst x) => if x.length < SZ then Zb6 it g ifs elt n ds env1 (M2.set n (.lst (x ++ [e]))) else .bad
    | _ => .bad
   else Zb6 it g ifs elt n ds env1 M1
  else .bad
end
def eLC (i : I3) (own : Nat) (g : G3) (ifs : List E3) (elt : E3) : E3 := fun env M => (i env M).bind fun it M1 =>
 Zb6 it g ifs elt M1.length it.items (env ++ List.replicate own none) (M1 ++ [.lst []])
def Zdo (n : Nat) : MO → Bool
 | .lst xs => belowL n xs
 | .dct kvs => belowL n (kvs.map (·.2))
 | .fdct kvs => belowL n (kvs.map (·.2))
def ZbB (M : Store) (d : D) (M' : Store) : R3 D :=
 if below M.length d && (decide (M'.take M.length = M) || (M'.take M.length).all (Zdo M.length)) then .ok d (M'.take M.length) else .ok d M'
def mkF (ps n : Nat) (body : S3) : F3 := fun ds M => if ds.length = ps then match body (ds.map some ++ List.replicate (n - ps) none) M with
  | .nx _ M' => ZbB M .non M'
  | .rt d M' => ZbB M d M'
  | .exc x M' => .exc x M'
  | _ => .bad
 else .bad
end
end L3
namespace L3
theorem Zfo {it : It3} {i n : Nat} {elt : E3} {R : D → D → Prop} {env0 : Zaa} : ∀ (ds : List D) (acc : List D) (env : Zaa) (M : Store), (∀ d, env.set i (some d) = env0.set i (some d)) →
  (∀ d ∈ ds, ∀ x, ∃ e, elt (env0.set i (some d)) (M.set n (.lst x)) = .ok e (M.set n (.lst x)) ∧ R d e) → (∀ x, locked it (M.set n (.lst x)) = true) → M[n]? = some (.lst acc) → acc.length + ds.length ≤ SZ →
  ∃ es, es.length = ds.length ∧ (∀ (j : Nat) d e, ds[j]? = some d → es[j]? = some e → R d e) ∧ Zb6 it (Zb1 i) [] elt n ds env M = .ok (.ref n) (M.set n (.lst (acc ++ es))) := by
 intro ds
 induction ds with
 | nil =>
  intro acc env M _ _ hl hM _
  have e : M.set n (.lst acc) = M := by
   apply List.ext_getElem?
   intro j
   by_cases hj : j = n
   ·subst hj
    rw [List.getElem?_set_self (List.getElem?_eq_some_iff.mp hM).1, hM]
   ·rw [List.getElem?_set_ne (Ne.symm hj)]
  have hl' := hl acc
  rw [e] at hl'
  exact ⟨[], rfl, fun j d e h => by simp at h, by simp only [Zb6, hl', if_true, List.append_nil, e]⟩
 | cons d ds ih =>
  intro acc env M he hf hl hM hz
  have hn : n < M.length := (List.getElem?_eq_some_iff.mp hM).1
  have e : M.set n (.lst acc) = M := by
   apply List.ext_getElem?
   intro j
   by_cases hj : j = n
   ·subst hj
    rw [List.getElem?_set_self hn, hM]
   ·rw [List.getElem?_set_ne (Ne.symm hj)]
  have hl' := hl acc
  rw [e] at hl'
  obtain ⟨v, hf', hR⟩ := hf d List.mem_cons_self acc
  rw [e] at hf'
  have hz' : acc.length < SZ := by simp at hz ⊢; omega
  obtain ⟨es, le, re, h⟩ := ih (acc ++ [v]) (env0.set i (some d)) (M.set n (.lst (acc ++ [v]))) (fun d' => by rw [List.set_set]) (fun d' hd' x => by rw [List.set_set]; exact hf d' (List.mem_cons_of_mem _ hd') x) (fun x => by rw [List.set_set]; exact hl x) (by rw [List.getElem?_set_self hn]) (by simp at hz ⊢; omega)
  refine ⟨v :: es, by simp [le], fun j d' e' h1 h2 => ?_, ?_⟩
  ·cases j with
   | zero => simp at h1 h2; subst h1 h2; exact hR
   | succ j => exact re j d' e' (by simpa using h1) (by simpa using h2)
  ·simp only [Zb6, hl', if_true, Zb1, he d, Zcv, R3.bind_ok, hf', hM, hz']
   rw [h, List.set_set]
   simp
theorem Zcn {it : It3} {g : G3} {body : S3} {P : Nat → Zaa → Store → Prop} : ∀ (ds : List D) (j : Nat) (env : Zaa) (M : Store), P j env M → (∀ j env M, P j env M → locked it M = true) →
  (∀ (k : Nat) d, ds[k]? = some d → ∀ env M, P (j + k) env M → ∃ env1 e' M', g d env = some env1 ∧ body env1 M = .nx e' M' ∧ P (j + k + 1) e' M') → ∃ e' M', ZcE it g body ds env M = .nx e' M' ∧ P (j + ds.length) e' M' := by
 intro ds
 induction ds with
 | nil => intro j env M p hl _; exact ⟨env, M, by simp only [ZcE, hl j env M p, if_true], p⟩
 | cons d ds ih =>
  intro j env M p hl hs
  obtain ⟨env1, e', M', h1, h2, p'⟩ := hs 0 d rfl env M p
  obtain ⟨e2, M2, h3, p2⟩ := ih (j + 1) e' M' p' hl fun k d' hd' env M p => by
   have := hs (k + 1) d' (by simpa using hd') env M (by rw [show j + (k + 1) = j + 1 + k by omega]; exact p)
   rw [show j + (k + 1) + 1 = j + 1 + k + 1 by omega] at this
   exact this
  exact ⟨e2, M2, by simp only [ZcE, hl j env M p, if_true, h1, h2, h3], by rw [List.length_cons, show j + (ds.length + 1) = j + 1 + ds.length by omega]; exact p2⟩
theorem Zy {f g : S3} {env env' : Zaa} {M M' : Store} (h : f env M = .nx env' M') : Zw f g env M = g env' M' := by rw [Zw, h]
theorem ZfZ {f g : S3} {env : Zaa} {M M' : Store} {d : D} (h : f env M = .rt d M') : Zw f g env M = .rt d M' := by rw [Zw, h]
theorem Zfr {c : E3} {f g : S3} {env : Zaa} {M M' : Store} (h : c env M = .ok (.bl true) M') : sIf c f g env M = f env M' := by rw [sIf, h]
theorem Zbm {f : E3} {env : Zaa} {M M' : Store} {d : D} (h : f env M = .ok d M') : ZaG f env M = .rt d M' := by rw [ZaG, h]
theorem Za3 {f : E3} {i : Nat} {env env' : Zaa} {M M' : Store} {d : D} (h : f env M = .ok d M') (he : env.set i (some d) = env' := by first | (dsimp only [List.set_cons_succ, List.set_cons_zero] <;> exact rfl) | exact rfl) : Zat i f env M = .nx env' M' := by rw [Zat, h]; simp only [he]
theorem ZaS {c : E3} {f : S3} {env : Zaa} {M M' : Store} (h : c env M = .ok (.bl false) M') : sIf c f Zag env M = .nx env M' := by rw [sIf, h]; rfl
theorem Zbn {f : E3} {env : Zaa} {M M' : Store} {d : D} (h : f env M = .ok d M') : Zal f env M = .nx env M' := by rw [Zal, h]
theorem Zcu {i : I3} {g : G3} {u : S3} {env : Zaa} {M M' : Store} {it : It3} (h : i env M = .ok it M') : Zd6 i g u env M = ZcE it g u it.items env M' := by rw [Zd6, h]
theorem ZfT {i : I3} {own : Nat} {g : G3} {ts : List E3} {f : E3} {env : Zaa} {M M' : Store} {it : It3} (h : i env M = .ok it M') : eLC i own g ts f env M = Zb6 it g ts f M'.length it.items (env ++ List.replicate own none) (M' ++ [.lst []]) := by rw [eLC, h]; rfl
theorem Zcd {ps n : Nat} {body : S3} {ds : List D} {env : Zaa} {M M' : Store} {d : D} (h : body env M = .rt d M') (hl : ds.length = ps := by rfl) (he : ds.map some ++ List.replicate (n - ps) none = env := by rfl) : mkF ps n body ds M = ZbB M d M' := by rw [mkF, if_pos hl, he, h]
theorem ZjN {ps n : Nat} {body : S3} {ds : List D} {env env' : Zaa} {M M' : Store} (h : body env M = .nx env' M') (hl : ds.length = ps := by rfl) (he : ds.map some ++ List.replicate (n - ps) none = env := by rfl) : mkF ps n body ds M = ZbB M .non M' := by rw [mkF, if_pos hl, he, h]
theorem Zg8 {M G : Store} {d : D} (h : below M.length d = true) : ZbB M d (M ++ G) = .ok d M := by
 simp [ZbB, h]
theorem ZgH {M : Store} {d : D} (h : below M.length d = true) : ZbB M d M = .ok d M := by
 simp [ZbB, h]
end L3
namespace L3
theorem ZaA {α : Type} (M : List α) (x : α) (xs : List α) : (M ++ x :: xs)[M.length]? = some x := by simp
theorem ZbO {α : Type} (M xs : List α) (k : Nat) : (M ++ xs)[M.length + k]? = xs[k]? := by
 rw [List.getElem?_append_right (by omega)]; congr 1; omega
theorem Zo {α : Type} {M : List α} {n : Nat} {o : α} (h : M[n]? = some o) (xs : List α) : (M ++ xs)[n]? = some o := by
 rw [List.getElem?_append_left (List.getElem?_eq_some_iff.mp h).1, h]
theorem Zcr {α : Type} (xs : List α) (k : Nat) : Za6 xs (k : Int) = xs[k]? := by
 unfold Za6 ixD
 rw [if_pos (Int.natCast_nonneg k)]
 by_cases h : k < xs.length
 ·rw [if_pos (by omega)]; simp
 ·rw [if_neg (by omega)]; simp at h ⊢; omega
@[simp] theorem ZgN {α : Type} (xs : List α) (k : Nat) : Za6 xs (k : Int) = xs[k]? := Zcr xs k
@[simp] theorem Zkx {α : Type} (xs : List α) (n : Nat) : Za6 xs (no_index (OfNat.ofNat n : Int)) = xs[(OfNat.ofNat n : Nat)]? := Zcr xs n
@[simp] theorem Zgj {α : Type} (xs : List α) : Za6 xs (-1) = xs.getLast? := by
 unfold Za6 ixD
 rw [if_neg (by decide), List.getLast?_eq_getElem?]
 by_cases h : 0 < xs.length
 ·rw [if_pos (by omega)]
  simp only [Option.bind_some]
  congr 1; omega
 ·have : xs = [] := by simpa using h
  subst this; rfl
theorem Zgb (n k : Nat) : ixD n (k : Int) = if k < n then some k else none := by
 unfold ixD
 rw [if_pos (Int.natCast_nonneg k)]
 by_cases h : k < n
 ·rw [if_pos (by omega), if_pos h]; simp
 ·rw [if_neg (by omega), if_neg h]
@[simp] theorem Zkv (n k : Nat) : ixD n (k : Int) = if k < n then some k else none := Zgb n k
@[simp] theorem ZkW (m n : Nat) : ixD m (no_index (OfNat.ofNat n : Int)) = if (OfNat.ofNat n : Nat) < m then some (OfNat.ofNat n : Nat) else none := Zgb m n
theorem Zgi {α : Type} (xs : List α) (k : Nat) (h : xs.length ≤ k) : cutD xs none (some (k : Int)) = xs := by
 unfold cutD sIx
 simp only [List.drop_zero]
 rw [if_neg (by omega), List.take_of_length_le (by simp; omega)]
inductive Row where
 | put (a : Nat) (n : Int) | add (a b c : Nat) | sub (a b c : Nat) | more (a b c : Nat) | get (a b : Nat) | set (a b : Nat) | jump (k : Nat) | when (a k : Nat) | tell (a : Nat) | halt
 deriving Inhabited
def Row.ok (many : Nat) : Row → Prop
 | .put a _ => a < 8
 | .add a b c => a < 8 ∧ b < 8 ∧ c < 8
 | .sub a b c => a < 8 ∧ b < 8 ∧ c < 8
 | .more a b c => a < 8 ∧ b < 8 ∧ c < 8
 | .get a b => a < 8 ∧ b < 8
 | .set a b => a < 8 ∧ b < 8
 | .jump k => k < many
 | .when a k => a < 8 ∧ k < many
 | .tell a => a < 8
 | .halt => True
abbrev Zlm := List Row
structure Stt where
 place : Nat
 boxes : List Int
 cells : List (Int × Int)
 deriving Inhabited, DecidableEq
def Stt.ok (r : Zlm) (s : Stt) : Prop := s.place < r.length ∧ s.boxes.length = 8
def Row.tells (bs : List Int) : Row → Option Int
 | .tell a => bs[a]?
 | _ => none
def Row.isHalt : Row → Bool
 | .halt => true
 | _ => false
@[simp] theorem ZjV {a : Nat} {n : Int} {bs : List Int} : (Row.put a n).tells bs = none := rfl
@[simp] theorem ZiS {a : Nat} {n : Int} : (Row.put a n).isHalt = false := rfl
@[simp] theorem ZjW {a : Nat} {b : Nat} {c : Nat} {bs : List Int} : (Row.add a b c).tells bs = none := rfl
@[simp] theorem Zje {a : Nat} {b : Nat} {c : Nat} : (Row.add a b c).isHalt = false := rfl
@[simp] theorem ZjT {a : Nat} {b : Nat} {c : Nat} {bs : List Int} : (Row.sub a b c).tells bs = none := rfl
@[simp] theorem ZiN {a : Nat} {b : Nat} {c : Nat} : (Row.sub a b c).isHalt = false := rfl
@[simp] theorem ZiL {a : Nat} {b : Nat} {c : Nat} {bs : List Int} : (Row.more a b c).tells bs = none := rfl
@[simp] theorem Zik {a : Nat} {b : Nat} {c : Nat} : (Row.more a b c).isHalt = false := rfl
@[simp] theorem ZjS {a : Nat} {b : Nat} {bs : List Int} : (Row.get a b).tells bs = none := rfl
@[simp] theorem Zjt {a : Nat} {b : Nat} : (Row.get a b).isHalt = false := rfl
@[simp] theorem ZjR {a : Nat} {b : Nat} {bs : List Int} : (Row.set a b).tells bs = none := rfl
@[simp] theorem Zjq {a : Nat} {b : Nat} : (Row.set a b).isHalt = false := rfl
@[simp] theorem ZjK {k : Nat} {bs : List Int} : (Row.jump k).tells bs = none := rfl
@[simp] theorem Zin {k : Nat} : (Row.jump k).isHalt = false := rfl
@[simp] theorem ZiI {a : Nat} {k : Nat} {bs : List Int} : (Row.when a k).tells bs = none := rfl
@[simp] theorem Zim {a : Nat} {k : Nat} : (Row.when a k).isHalt = false := rfl
@[simp] theorem Zi5 {a : Nat} {bs : List Int} : (Row.tell a).tells bs = bs[a]? := rfl
@[simp] theorem ZiA {a : Nat} : (Row.tell a).isHalt = false := rfl
@[simp] theorem Zi1  {bs : List Int} : (Row.halt).tells bs = none := rfl
@[simp] theorem Zis  : (Row.halt).isHalt = true := rfl
theorem ZeX (n : Nat) (i : Int) : Zr n (.int i) = true := by cases n <;> rfl
theorem Zej (ss : List Int) : (ss.map D.int).all (Zr DEEP) = true := by
 simp only [List.all_map, List.all_eq_true]
 intro s _
 exact ZeX _ _
mutual
theorem Zgy : ∀ (n : Nat) (d : D), Zr n d = true → deq d d = true
 | _, .non, _ => rfl
 | _, .bl _, _ => by simp [deq]
 | _, .int _, _ => by simp [deq]
 | _, .str _, _ => by simp [deq]
 | 0, .tup _, h => by simp [Zr] at h
 | n + 1, .tup ds, h => by simp only [deq]; exact ZcV n ds (by simpa [Zr] using h)
 | _, .scr _, h => by simp [Zr] at h
 | _, .ref _, h => by simp [Zr] at h
theorem ZcV : ∀ (n : Nat) (ds : List D), (∀ d ∈ ds, Zr n d = true) → Zbx ds ds = true
 | _, [], _ => rfl
 | n, d :: ds, h => by
  simp only [Zbx, Bool.and_eq_true]
  exact ⟨Zgy n d (h d List.mem_cons_self), ZcV n ds fun x hx => h x (List.mem_cons_of_mem _ hx)⟩
end
theorem Zdu {ds : List D} (h : ds.all (Zr DEEP) = true) : Zbx ds ds = true := ZcV DEEP ds (by simpa using h)
end L3
namespace L3
def Rt (o : O3) (d : D) : Prop := ∃ M', o = .rt d M'
theorem Rt.set {i : Nat} {f : E3} {g : S3} {env env' : Zaa} {M M' : Store} {d r : D} (h : f env M = .ok d M') (k : Rt (g env' M') r) (he : env.set i (some d) = env' := by first | (dsimp only [List.set_cons_succ, List.set_cons_zero] <;> exact rfl) | exact rfl) : Rt (Zw (Zat i f) g env M) r := by
 rw [Rt, Zy (Za3 h he)]; exact k
theorem Rt.expr {f : E3} {g : S3} {env : Zaa} {M M' : Store} {d r : D} (h : f env M = .ok d M') (k : Rt (g env M') r) : Rt (Zw (Zal f) g env M) r := by
 rw [Rt, Zy (Zbn h)]; exact k
theorem Rt.skip {c : E3} {u g : S3} {env : Zaa} {M M' : Store} {r : D} (h : c env M = .ok (.bl false) M') (k : Rt (g env M') r) : Rt (Zw (sIf c u Zag) g env M) r := by
 rw [Rt, Zy (ZaS h)]; exact k
theorem Rt.loop {i : I3} {t : G3} {u g : S3} {env env' : Zaa} {M M' M1 : Store} {it : It3} {r : D} (h : i env M = .ok it M1) (hl : ZcE it t u it.items env M1 = .nx env' M') (k : Rt (g env' M') r) : Rt (Zw (Zd6 i t u) g env M) r := by
 rw [Rt, Zy ((Zcu h).trans hl)]; exact k
theorem Rt.step {f g : S3} {env env' : Zaa} {M M' : Store} {r : D} (h : f env M = .nx env' M') (k : Rt (g env' M') r) : Rt (Zw f g env M) r := by
 rw [Rt, Zy h]; exact k
theorem Rt.ret {f : E3} {env : Zaa} {M M' : Store} {d : D} (h : f env M = .ok d M') : Rt (ZaG f env M) d := ⟨M', Zbm h⟩
theorem Rt.law {ps n : Nat} {body : S3} {ds : List D} {env : Zaa} {b : Bool} (h : Rt (body env []) (.bl b)) (hl : ds.length = ps := by rfl) (he : ds.map some ++ List.replicate (n - ps) none = env := by rfl) : ∃ M', mkF ps n body ds [] = .ok (.bl b) M' := by
 obtain ⟨M', h⟩ := h
 exact ⟨_, (Zcd h hl he).trans (by rw [ZbB, if_pos (by simp [below])])⟩
theorem Rt.pure {ps n : Nat} {body : S3} {ds : List D} {env : Zaa} {M G : Store} {d : D} (h : body env M = .rt d (M ++ G)) (hd : below M.length d = true) (hl : ds.length = ps := by rfl) (he : ds.map some ++ List.replicate (n - ps) none = env := by rfl) : mkF ps n body ds M = .ok d M :=
 (Zcd h hl he).trans (Zg8 hd)
theorem Zgd {n : Nat} {lo : Int} {j : Nat} {d : D} (h : (Zb2 lo n)[j]? = some d) : d = .int (lo + j) ∧ j < n := by
 unfold Zb2 at h
 rw [List.getElem?_map] at h
 cases q : (List.range n)[j]? with
 | none => rw [q] at h; cases h
 | some k =>
  rw [q] at h
  obtain ⟨hi, e⟩ := List.getElem?_eq_some_iff.mp q
  rw [List.getElem_range] at e
  subst e
  simp at h hi
  exact ⟨h.symm, hi⟩
theorem Zfq {n : Nat} {j : Nat} {d : D} (h : (Zb2 0 n)[j]? = some d) : d = .int (j : Int) ∧ j < n := by
 obtain ⟨e, l⟩ := Zgd h
 exact ⟨by rw [e, Int.zero_add], l⟩
theorem ZeJ (lo : Int) (n : Nat) : (Zb2 lo n).length = n := by simp [Zb2]
end L3
namespace L3
theorem ZcL {o arg : E3} {env : Zaa} {M M2 : Store} {n : Nat} {xs ys : List D} {d : D} (ho : o env M = .ok (.ref n) M) (hM : M[n]? = some (.lst xs)) (ha : arg env M = .ok d M2) (hM2 : M2[n]? = some (.lst ys)) (hz : ys.length < 1000000) :
  Zb0 tyL Zbc o (Za arg Ze) env M = .ok .non (M2.set n (.lst (ys ++ [d]))) := by
 simp [ho, hM, ha, hM2, hz]
theorem ZhX {M : Store} {n m : Nat} {xs : List D} (h1 : M[n]? = some (.lst xs)) (h2 : M[m]? = some (.lst xs)) (hp : xs.all (Zr DEEP) = true) : ZaU (.ref n) (.ref m) M = .ok (.bl true) M := by
 simp only [ZaU, eqD, h1, h2, hp, Bool.and_self, if_true, Zdu hp]
theorem ZeS {M : Store} {n m : Nat} {xs : List D} (h1 : M[n]? = some (.lst xs)) (h2 : M[m]? = some (.lst xs)) (hp : xs.all (Zr DEEP) = true) : Zds (.ref n) (.ref m) M = .ok (.bl false) M := by
 simp only [Zds, eqD, h1, h2, hp, Bool.and_self, if_true, Zdu hp, Bool.not_true]
theorem ZbM {op : D → D → Store → R3 D} {f g : E3} {env : Zaa} {M M1 M2 M3 : Store} {a b d : D} (h1 : f env M = .ok a M1) (h2 : g env M1 = .ok b M2) (h3 : op a b M2 = .ok d M3) : e2 op f g env M = .ok d M3 := by
 simp only [e2, h1, h2, h3, R3.bind]
theorem Zcx {F : F3} {f : E3} {env : Zaa} {M M1 M2 : Store} {a d : D} (h1 : f env M = .ok a M1) (h2 : F [a] M1 = .ok d M2) : Zt F (Za f Ze) env M = .ok d M2 := by
 simp only [Zt, Za, Ze, h1, h2, R3.bind]
theorem ZaY {F : F3} {f g : E3} {env : Zaa} {M M1 M2 M3 : Store} {a b d : D} (h1 : f env M = .ok a M1) (h2 : g env M1 = .ok b M2) (h3 : F [a, b] M2 = .ok d M3) : Zt F (Za f (Za g Ze)) env M = .ok d M3 := by
 simp only [Zt, Za, Ze, h1, h2, h3, R3.bind]
theorem Zg5 {F : F3} {f g h : E3} {env : Zaa} {M M1 M2 M3 M4 : Store} {a b c d : D} (h1 : f env M = .ok a M1) (h2 : g env M1 = .ok b M2) (h3 : h env M2 = .ok c M3) (h4 : F [a, b, c] M3 = .ok d M4) : Zt F (Za f (Za g (Za h Ze))) env M = .ok d M4 := by
 simp only [Zt, Za, Ze, h1, h2, h3, h4, R3.bind]
@[simp] theorem Zls (a b : Ty3) : (a == b) = decide (a = b) := by cases a <;> cases b <;> rfl
theorem Zhe {F : F3} {f g h k : E3} {env : Zaa} {M M1 M2 M3 M4 M5 : Store} {a b c d e : D} (h1 : f env M = .ok a M1) (h2 : g env M1 = .ok b M2) (h3 : h env M2 = .ok c M3) (h4 : k env M3 = .ok d M4) (h5 : F [a, b, c, d] M4 = .ok e M5) : Zt F (Za f (Za g (Za h (Za k Ze)))) env M = .ok e M5 := by
 simp only [Zt, Za, Ze, h1, h2, h3, h4, h5, R3.bind]
theorem Zek {b : List D → Store → R3 D} {f : E3} {env : Zaa} {M M1 M2 : Store} {a d : D} (h1 : f env M = .ok a M1) (h2 : b [a] M1 = .ok d M2) : Zah b (Za f Ze) env M = .ok d M2 := by
 simp only [Zah, Za, Ze, h1, h2, R3.bind]
theorem Zel {op : D → Store → R3 D} {f : E3} {env : Zaa} {M M1 M2 : Store} {a d : D} (h1 : f env M = .ok a M1) (h2 : op a M1 = .ok d M2) : e1 op f env M = .ok d M2 := by
 simp only [e1, h1, h2, R3.bind]
theorem Zd5 {f g : E3} {env : Zaa} {M M1 : Store} (h1 : f env M = .ok (.bl false) M1) : eOr f g env M = g env M1 := by simp only [eOr, h1, R3.bind]
theorem Zke {f g : E3} {env : Zaa} {M M1 : Store} (h1 : f env M = .ok (.bl true) M1) : eOr f g env M = .ok (.bl true) M1 := by simp only [eOr, h1, R3.bind]
theorem Zdr {f g : E3} {env : Zaa} {M M1 : Store} (h1 : f env M = .ok (.bl true) M1) : Zch f g env M = g env M1 := by simp only [Zch, h1, R3.bind]
theorem Zfx {f g : E3} {env : Zaa} {M M1 : Store} (h1 : f env M = .ok (.bl false) M1) : Zch f g env M = .ok (.bl false) M1 := by simp only [Zch, h1, R3.bind]
theorem Zj0 {c f g : E3} {env : Zaa} {M M1 : Store} (h1 : c env M = .ok (.bl true) M1) : eIf c f g env M = f env M1 := by simp only [eIf, h1, R3.bind]
theorem ZkB {c f g : E3} {env : Zaa} {M M1 : Store} (h1 : c env M = .ok (.bl false) M1) : eIf c f g env M = g env M1 := by simp only [eIf, h1, R3.bind]
theorem Zji {α : Type} {enc : α → D} {h : α → D} {own : Nat} {i : Nat} {it : I3} {elt : E3} {env : Zaa} {M M1 : Store} {lock : Option Nat} {as : List α} (hi : it env M = .ok ⟨as.map enc, lock⟩ M1) (hlock : ∀ n, lock = some n → M1[n]? = some (.lst (as.map enc)))
  (he : ∀ a ∈ as, ∀ M, elt ((env ++ List.replicate own none).set i (some (enc a))) M = .ok (h a) M) (hz : as.length ≤ 100000) : eLC it own (Zb1 i) [] elt env M = .ok (.ref M1.length) (M1 ++ [.lst (as.map h)]) := by
 rw [ZfT hi]
 obtain ⟨es, le, re, hh⟩ := Zfo (it := ⟨as.map enc, lock⟩) (i := i) (n := M1.length) (elt := elt) (R := fun d e => ∀ a ∈ as, d = enc a → e = h a) (env0 := env ++ List.replicate own none) (as.map enc) [] (env ++ List.replicate own none) (M1 ++ [.lst []]) (fun _ => rfl)
  (fun d hd x => by
   obtain ⟨a, ha, rfl⟩ := List.mem_map.mp hd
   refine ⟨h a, he a ha _, fun b hb e => ?_⟩
   have h1 := he a ha []
   have h2 := he b hb []
   rw [e, h2] at h1
   injection h1 with h1 _
   exact h1.symm)
  (fun x => by
   cases lock with
   | none => rfl
   | some n =>
    have hn := hlock n rfl
    have hlt := (List.getElem?_eq_some_iff.mp hn).1
    simp only [locked, decide_eq_true_eq]
    rw [List.getElem?_set_ne (by omega), List.getElem?_append_left hlt, hn]) (by simp) (by simp; omega)
 rw [show (⟨as.map enc, lock⟩ : It3).items = as.map enc from rfl, hh]
 have : es = as.map h := by
  apply List.ext_getElem?
  intro j
  rw [List.getElem?_map]
  cases ha : as[j]? with
  | none =>
   have : as.length ≤ j := by simpa using ha
   simp [le]; exact this
  | some a =>
   have hj : j < es.length := by
    have := (List.getElem?_eq_some_iff.mp ha).1
    simpa [le] using this
   have h2 := re j (enc a) es[j] (by simp [ha]) (by simp [hj]) a (List.mem_of_getElem? ha) rfl
   rw [List.getElem?_eq_getElem hj, h2]; rfl
 rw [this]
 simp
end L3
namespace L3
def ZkF : List (Int × Int) → Int → Int
 | [], _ => 0
 | (k, v) :: r, n => if k = n then v else ZkF r n
def Zic (cs : List (Int × Int)) (n v : Int) : List (Int × Int) := cs.filter (fun c => decide (c.1 < n)) ++ (if v ≠ 0 then [(n, v)] else []) ++ cs.filter (fun c => decide (n < c.1))
def Row.place (bs : List Int) (p : Nat) : Row → Nat
 | .jump k => k
 | .when a k => if 0 < bs.getD a 0 then k else p + 1
 | _ => p + 1
def Row.boxes (bs : List Int) (cs : List (Int × Int)) : Row → List Int
 | .put a n => bs.set a n
 | .add a b c => bs.set a (bs.getD b 0 + bs.getD c 0)
 | .sub a b c => bs.set a (bs.getD b 0 - bs.getD c 0)
 | .more a b c => bs.set a (if bs.getD c 0 < bs.getD b 0 then 1 else 0)
 | .get a b => bs.set a (ZkF cs (bs.getD b 0))
 | _ => bs
def Row.cells (bs : List Int) (cs : List (Int × Int)) : Row → List (Int × Int)
 | .set a b => Zic cs (bs.getD a 0) (bs.getD b 0)
 | _ => cs
end L3
namespace L3
end L3
namespace L3
end L3
namespace L3
def Zii (i : Int) : List Nat := (PySem.Str.ofString (toString i)).cps.toList
noncomputable section
local instance (priority := 100000) clQ1 (p : Prop) : Decidable p := Classical.propDecidable p
@[simp] def Zl8 (ds : List D) (M : Store) : R3 D := match ds with
 | [.int i] => if i.natAbs.log2 < 1920 then .ok (.str (Zii i)) M else .bad
 | [.str x] => .ok (.str x) M
 | _ => .bad
def Zio : List D → Option (List (List Nat))
 | [] => some []
 | .str x :: ds => (Zio ds).map (x :: ·)
 | _ => none
def glue (sep : List Nat) : List (List Nat) → List Nat
 | [] => []
 | [x] => x
 | x :: y :: xs => x ++ sep ++ glue sep (y :: xs)
def Zh7 (sep : List Nat) (ts : List (List Nat)) : Nat := (ts.map fun t => t.length + sep.length).sum
@[simp] def ZlK (o : D) (ds : List D) (M : Store) : R3 D := match o, ds with
 | .str sep, [.ref n] => match M[n]? with
  | some (.lst x) => match Zio x with
   | some ts => if Zh7 sep ts ≤ SZ then .ok (.str (glue sep ts)) M else .bad
   | none => .bad
  | _ => .bad
 | _, _ => .bad
def Zjv (x y : List Nat) : List (List Nat) := (PySem.Txt.split ⟨x.toArray⟩ ⟨y.toArray⟩).map fun t => t.cps.toList
@[simp] def Zk0 (o : D) (ds : List D) (M : Store) : R3 D := match o, ds with
 | .str x, [.str y] => if 0 < y.length ∧ x.length + 2 ≤ SZ then alloc (.lst ((Zjv x y).map D.str)) M else .bad
 | _, _ => .bad
@[simp] def ZlL (ds : List D) (M : Store) : R3 D := match ds with
 | [.str x] => match PySem.intText? ⟨x.toArray⟩ with
  | some n => if x.length ≤ 640 then .ok (.int n) M else .bad
  | none => .bad
 | ds => Zlx ds M
@[simp] def Zdm (T1 T2 : Ty3) (d : D) (M : Store) : R3 D := match Zbr T1 d M, Zbr T2 d M with
 | some a, some b => .ok (.bl (a || b)) M
 | _, _ => .bad
end
end L3
namespace L3
noncomputable section
structure ItL where
 items : List D
 lk : List (Nat × List D)
def Zb7 (lk : List (Nat × List D)) (M : Store) : Bool := lk.all fun q => decide (M[q.1]? = some (.lst q.2))
abbrev IL3 := Zaa → Store → R3 ItL
def ZgV : Nat → List D → List D
 | _, [] => []
 | k, d :: ds => .tup [.int k, d] :: ZgV (k + 1) ds
@[simp] def ZlU (f : E3) : IL3 := fun env M => (f env M).bind fun a M1 => match a with
 | .tup ds => .ok ⟨ZgV 0 ds, []⟩ M1
 | .ref n => match M1[n]? with
  | some (.lst ds) => .ok ⟨ZgV 0 ds, [(n, ds)]⟩ M1
  | _ => .bad
 | _ => .bad
@[simp] def ZlQ (a b : D) (M : Store) : R3 D := match a, b with
 | .tup [.int i, .int j], .tup [.int k, .int l] => .ok (.bl (decide (i < k) || (decide (i = k) && decide (j ≤ l)))) M
 | _, _ => .bad
@[simp] def ZeY (ds : List D) (M : Store) : R3 D := match ds with
 | [.int i, .int j] => .ok (.int (if j > i then j else i)) M
 | _ => .bad
@[simp] def ZlE (ds : List D) (M : Store) : R3 D := match ds with
 | [.int i, .int j] => .ok (.int (if j < i then j else i)) M
 | _ => .bad
def Zlp (a c : Int) (n : Nat) : List D := (List.range n).map fun (k : Nat) => D.int (a + (k : Int) * c)
def Zlr (a b c : Int) : Nat := if a < b then ((b - a - 1) / c + 1).toNat else 0
@[simp] def Zmg (f g h : E3) : E3 := fun env M => (f env M).bind fun x M1 => (g env M1).bind fun y M2 => (h env M2).bind fun z M3 => match x, y, z with
 | .int a, .int b, .int c => if 0 < c ∧ c ≤ 1000 ∧ -1000000 ≤ a ∧ a ≤ 1000000 ∧ -1000000 ≤ b ∧ b ≤ 1000000 then alloc (.lst (Zlp a c (Zlr a b c))) M3 else .bad
 | _, _, _ => .bad
@[simp] def ZlI (a b : D) (M : Store) : R3 D := match a, b with
 | .bl x, .bl y => .ok (.bl (decide (x = y))) M
 | _, _ => .bad
@[simp] def ZlS (a b : D) (M : Store) : R3 D := match b with
 | .ref n => match M[n]? with
  | some (.lst ys) => if Zcm a && ys.all Zcm then .ok (.bl (ys.any fun y => deq y a)) M else .bad
  | _ => .bad
 | _ => .bad
end
end L3
namespace L3
noncomputable section
def Zc7 : List D → List D → List D
 | a :: x, b :: y => .tup [a, b] :: Zc7 x y
 | _, _ => []
@[simp] def Zgm (f g : E3) : IL3 := fun env M => (f env M).bind fun a M1 => (g env M1).bind fun b M2 => match a, b with
 | .ref n, .ref m => match M2[n]?, M2[m]? with
  | some (.lst x), some (.lst y) => .ok ⟨Zc7 x y, [(n, x), (m, y)]⟩ M2
  | _, _ => .bad
 | _, _ => .bad
section
local instance (priority := 100000) clZ1 (p : Prop) : Decidable p := Classical.propDecidable p
def Zcc (lk : List (Nat × List D)) (g : G3) (ifs : List E3) (elt : E3) (n : Nat) : List D → Zaa → Store → R3 D
 | [], _, M => if Zb7 lk M then .ok (.ref n) M else .bad
 | d :: ds, env, M => if Zb7 lk M then match g d env with
  | none => .bad
  | some env1 => (Zcv ifs env1 M).bind fun b M1 => if b then (elt env1 M1).bind fun v M2 => match M2[n]? with
    | some (.lst xs) => if xs.length < SZ then Zcc lk g ifs elt n ds env1 (M2.set n (.lst (xs ++ [v]))) else .bad
    | _ => .bad
   else Zcc lk g ifs elt n ds env1 M1
  else .bad
end
def Zhf (i : IL3) (own : Nat) (g : G3) (ifs : List E3) (elt : E3) : E3 := fun env M => (i env M).bind fun it M1 => Zcc it.lk g ifs elt M1.length it.items (env ++ List.replicate own none) (M1 ++ [.lst []])
section
local instance (priority := 100000) clZ2 (p : Prop) : Decidable p := Classical.propDecidable p
@[simp] def ZaQ (o : D) (ds : List D) (M : Store) : R3 D := match o, ds with
 | .ref n, [.ref m] => match M[n]?, M[m]? with
  | some (.lst x), some (.lst y) => if n ≠ m ∧ x.length + y.length ≤ SZ then .ok .non (M.set n (.lst (x ++ y))) else .bad
  | _, _ => .bad
 | .ref n, [.tup y] => match M[n]? with
  | some (.lst x) => if x.length + y.length ≤ SZ then .ok .non (M.set n (.lst (x ++ y))) else .bad
  | _ => .bad
 | _, _ => .bad
end
@[simp] def ZcS (o : D) (ds : List D) (M : Store) : R3 D := match o, ds with
 | .ref n, [] => match M[n]? with
  | some (.lst _) => .ok .non (M.set n (.lst []))
  | _ => .bad
 | _, _ => .bad
theorem Zdc : ∀ (x y : List D) (i : Nat), (Zc7 x y)[i]? = (match x[i]?, y[i]? with | some a, some b => some (D.tup [a, b]) | _, _ => none)
 | [], y, i => by cases y <;> simp [Zc7]
 | a :: x, [], i => by simp [Zc7]
 | a :: x, b :: y, 0 => by simp [Zc7]
 | a :: x, b :: y, i + 1 => by simp only [Zc7, List.getElem?_cons_succ, Zdc x y i]
theorem Zd2 : ∀ (x y : List D), (Zc7 x y).length = min x.length y.length
 | [], y => by cases y <;> simp [Zc7]
 | a :: x, [] => by simp [Zc7]
 | a :: x, b :: y => by simp only [Zc7, List.length_cons, Zd2 x y]; omega
end
end L3
namespace L3
open PySem PySem.Spec PyProof.Rows L2
abbrev St := L2.St
theorem ZaK : SZ ≤ sizeLine := by rw [sizeLine_eq]; decide
def SqF (K : PySem.W.Frag) (H : Hp) (a : Addr) (xs : List V) : Prop :=
 (∃ o, H a = some (.frz o (.lst xs))) ∨
  ∃ (o : Obj) (its : Array Value) (n : Nat), K.lookup a = some o ∧ o.cls = .type "list" ∧ o.dict = none ∧ o.data = .seq its n ∧ its.size ≤ sizeLine ∧ Vals xs its.toList
theorem SqF.sq {K : PySem.W.Frag} {H : Hp} {a : Addr} {xs : List V} (h : SqF K H a xs) : SqL K H a xs := by
 rcases h with ⟨o, h⟩ | h
 ·exact .inl (.inr ⟨o, h⟩)
 ·exact .inr h
mutual
def Rep (K : PySem.W.Frag) (H : Hp) (ι : List Addr) : D → V → Prop
 | .non, v => v = .non
 | .bl b, v => v = .bl b
 | .int i, v => v = .int i
 | .str x, v => v = .str ⟨x.toArray⟩
 | .tup ds, v => ∃ a vs, v = .ref a ∧ SqT K H a vs ∧ Zj K H ι ds vs
 | .scr ds, v => ∃ a vs, v = .ref a ∧ SqF K H a vs ∧ Zj K H ι ds vs
 | .ref n, v => ∃ a, ι[n]? = some a ∧ v = .ref a
def Zj (K : PySem.W.Frag) (H : Hp) (ι : List Addr) : List D → List V → Prop
 | [], vs => vs = []
 | d :: ds, vs => ∃ v ws, vs = v :: ws ∧ Rep K H ι d v ∧ Zj K H ι ds ws
end
structure Ext (K : PySem.W.Frag) (H : Hp) (ι : List Addr) (H' : Hp) (ι' : List Addr) : Prop where
 tup : ∀ a xs, SqT K H a xs → SqT K H' a xs
 scr : ∀ a xs, SqF K H a xs → SqF K H' a xs
 pre : ∀ (n : Nat) (a : Addr), ι[n]? = some a → ι'[n]? = some a
 frz : ∀ a o u, H a = some (.frz o u) → H' a = some (.frz o u)
section
variable {K : PySem.W.Frag} {H H' H1 H2 : Hp} {ι ι' ι1 ι2 : List Addr}
theorem Ext.refl : Ext K H ι H ι := ⟨fun _ _ h => h, fun _ _ h => h, fun _ _ h => h, fun _ _ _ h => h⟩
theorem Ext.trans (a : Ext K H ι H1 ι1) (b : Ext K H1 ι1 H2 ι2) : Ext K H ι H2 ι2 :=
 ⟨fun x xs h => b.tup x xs (a.tup x xs h), fun x xs h => b.scr x xs (a.scr x xs h), fun n x h => b.pre n x (a.pre n x h), fun x o u h => b.frz x o u (a.frz x o u h)⟩
mutual
theorem Rep.mono (e : Ext K H ι H' ι') : ∀ {d : D} {v : V}, Rep K H ι d v → Rep K H' ι' d v
 | .non, _, h => by simpa [Rep] using h
 | .bl _, _, h => by simpa [Rep] using h
 | .int _, _, h => by simpa [Rep] using h
 | .str _, _, h => by simpa [Rep] using h
 | .tup ds, _, h => by
  simp only [Rep] at h ⊢
  obtain ⟨a, vs, rfl, s, r⟩ := h
  exact ⟨a, vs, rfl, e.tup _ _ s, Zj.mono e (ds := ds) r⟩
 | .scr ds, _, h => by
  simp only [Rep] at h ⊢
  obtain ⟨a, vs, rfl, s, r⟩ := h
  exact ⟨a, vs, rfl, e.scr _ _ s, Zj.mono e (ds := ds) r⟩
 | .ref n, _, h => by
  simp only [Rep] at h ⊢
  obtain ⟨a, s, rfl⟩ := h
  exact ⟨a, e.pre _ _ s, rfl⟩
theorem Zj.mono (e : Ext K H ι H' ι') : ∀ {ds : List D} {vs : List V}, Zj K H ι ds vs → Zj K H' ι' ds vs
 | [], _, h => by simpa [Zj] using h
 | d :: ds, _, h => by
  simp only [Zj] at h ⊢
  obtain ⟨v, ws, rfl, r, q⟩ := h
  exact ⟨v, ws, rfl, Rep.mono e (d := d) r, Zj.mono e (ds := ds) q⟩
end
mutual
theorem Rep.keep (ht : ∀ a xs, SqT K H a xs → SqT K H' a xs) (hs : ∀ a xs, SqF K H a xs → SqF K H' a xs) : ∀ {d : D} {v : V}, Rep K H ι d v → Rep K H' ι d v
 | .non, _, h => by simpa [Rep] using h
 | .bl _, _, h => by simpa [Rep] using h
 | .int _, _, h => by simpa [Rep] using h
 | .str _, _, h => by simpa [Rep] using h
 | .tup ds, _, h => by
  simp only [Rep] at h ⊢
  obtain ⟨a, vs, rfl, s, r⟩ := h
  exact ⟨a, vs, rfl, ht _ _ s, Zj.keep ht hs (ds := ds) r⟩
 | .scr ds, _, h => by
  simp only [Rep] at h ⊢
  obtain ⟨a, vs, rfl, s, r⟩ := h
  exact ⟨a, vs, rfl, hs _ _ s, Zj.keep ht hs (ds := ds) r⟩
 | .ref n, _, h => by simpa [Rep] using h
theorem Zj.keep (ht : ∀ a xs, SqT K H a xs → SqT K H' a xs) (hs : ∀ a xs, SqF K H a xs → SqF K H' a xs) : ∀ {ds : List D} {vs : List V}, Zj K H ι ds vs → Zj K H' ι ds vs
 | [], _, h => by simpa [Zj] using h
 | d :: ds, _, h => by
  simp only [Zj] at h ⊢
  obtain ⟨v, ws, rfl, r, q⟩ := h
  exact ⟨v, ws, rfl, Rep.keep ht hs (d := d) r, Zj.keep ht hs (ds := ds) q⟩
end
theorem Zj.nil : Zj K H ι [] [] := by simp [Zj]
theorem Zj.cons {d : D} {ds : List D} {v : V} {vs : List V} (h : Rep K H ι d v) (t : Zj K H ι ds vs) : Zj K H ι (d :: ds) (v :: vs) := by
 simp only [Zj]
 exact ⟨v, vs, rfl, h, t⟩
theorem Zj.nil_inv {vs : List V} (h : Zj K H ι [] vs) : vs = [] := by simpa [Zj] using h
theorem Zj.cons_inv {d : D} {ds : List D} {vs : List V} (h : Zj K H ι (d :: ds) vs) : ∃ v ws, vs = v :: ws ∧ Rep K H ι d v ∧ Zj K H ι ds ws := by simpa [Zj] using h
theorem Zj.length : ∀ {ds : List D} {vs : List V}, Zj K H ι ds vs → vs.length = ds.length
 | [], _, h => by rw [h.nil_inv]; rfl
 | d :: ds, _, h => by
  obtain ⟨v, ws, rfl, _, q⟩ := h.cons_inv
  simp [q.length]
theorem Zj.append : ∀ {ds es : List D} {vs ws : List V}, Zj K H ι ds vs → Zj K H ι es ws → Zj K H ι (ds ++ es) (vs ++ ws)
 | [], _, _, _, h, q => by rw [h.nil_inv]; exact q
 | d :: ds, _, _, _, h, q => by
  obtain ⟨v, us, rfl, r, t⟩ := h.cons_inv
  exact Zj.cons r (t.append q)
theorem Zj.drop : ∀ {ds : List D} {vs : List V} (n : Nat), Zj K H ι ds vs → Zj K H ι (ds.drop n) (vs.drop n)
 | _, _, 0, h => h
 | [], _, n + 1, h => by rw [h.nil_inv]; exact Zj.nil
 | d :: ds, _, n + 1, h => by
  obtain ⟨v, us, rfl, r, t⟩ := h.cons_inv
  exact t.drop n
theorem Zj.take : ∀ {ds : List D} {vs : List V} (n : Nat), Zj K H ι ds vs → Zj K H ι (ds.take n) (vs.take n)
 | _, _, 0, h => Zj.nil
 | [], _, n + 1, h => by rw [h.nil_inv]; exact Zj.nil
 | d :: ds, _, n + 1, h => by
  obtain ⟨v, us, rfl, r, t⟩ := h.cons_inv
  exact Zj.cons r (t.take n)
theorem Zj.get : ∀ {ds : List D} {vs : List V} {i : Nat} {d : D}, Zj K H ι ds vs → ds[i]? = some d → ∃ v, vs[i]? = some v ∧ Rep K H ι d v
 | [], _, _, _, _, e => by simp at e
 | d :: ds, _, 0, _, h, e => by
  obtain ⟨v, us, rfl, r, t⟩ := h.cons_inv
  simp at e; subst e
  exact ⟨v, rfl, r⟩
 | d :: ds, _, i + 1, _, h, e => by
  obtain ⟨v, us, rfl, r, t⟩ := h.cons_inv
  obtain ⟨w, q, z⟩ := t.get (i := i) (by simpa using e)
  exact ⟨w, by simpa using q, z⟩
theorem Zj.set : ∀ {ds : List D} {vs : List V} {d : D} {v : V} (i : Nat), Zj K H ι ds vs → Rep K H ι d v → Zj K H ι (ds.set i d) (vs.set i v)
 | [], _, _, _, _, h, _ => by rw [h.nil_inv]; exact Zj.nil
 | d :: ds, _, _, _, 0, h, q => by
  obtain ⟨v, us, rfl, r, t⟩ := h.cons_inv
  exact Zj.cons q t
 | d :: ds, _, _, _, i + 1, h, q => by
  obtain ⟨v, us, rfl, r, t⟩ := h.cons_inv
  exact Zj.cons r (t.set i q)
theorem Zj.ints : ∀ (ns : List Int), Zj K H ι (ns.map D.int) (ns.map V.int)
 | [] => Zj.nil
 | n :: ns => Zj.cons (by simp [Rep]) (Zj.ints ns)
theorem Rep.non_inv {v : V} (h : Rep K H ι .non v) : v = .non := by simpa [Rep] using h
theorem Rep.bl_inv {v : V} {b : Bool} (h : Rep K H ι (.bl b) v) : v = .bl b := by simpa [Rep] using h
theorem Rep.int_inv {v : V} {i : Int} (h : Rep K H ι (.int i) v) : v = .int i := by simpa [Rep] using h
theorem Rep.str_inv {v : V} {x : List Nat} (h : Rep K H ι (.str x) v) : v = .str ⟨x.toArray⟩ := by simpa [Rep] using h
theorem Rep.tup_inv {v : V} {ds : List D} (h : Rep K H ι (.tup ds) v) : ∃ a vs, v = .ref a ∧ SqT K H a vs ∧ Zj K H ι ds vs := by simpa [Rep] using h
theorem Rep.scr_inv {v : V} {ds : List D} (h : Rep K H ι (.scr ds) v) : ∃ a vs, v = .ref a ∧ SqF K H a vs ∧ Zj K H ι ds vs := by simpa [Rep] using h
theorem Rep.ref_inv {v : V} {n : Nat} (h : Rep K H ι (.ref n) v) : ∃ a, ι[n]? = some a ∧ v = .ref a := by simpa [Rep] using h
theorem Rep.non : Rep K H ι .non .non := by simp [Rep]
theorem Rep.bl {b : Bool} : Rep K H ι (.bl b) (.bl b) := by simp [Rep]
theorem Rep.int {i : Int} : Rep K H ι (.int i) (.int i) := by simp [Rep]
theorem Rep.str {x : List Nat} : Rep K H ι (.str x) (.str ⟨x.toArray⟩) := by simp [Rep]
theorem Rep.tup {a : Addr} {vs : List V} {ds : List D} (s : SqT K H a vs) (r : Zj K H ι ds vs) : Rep K H ι (.tup ds) (.ref a) := by
 simp only [Rep]; exact ⟨a, vs, rfl, s, r⟩
theorem Rep.ref {a : Addr} {n : Nat} (s : ι[n]? = some a) : Rep K H ι (.ref n) (.ref a) := by
 simp only [Rep]; exact ⟨a, s, rfl⟩
end
def dk : Zba → Key
 | .inl i => .inl i
 | .inr x => .inr ⟨x.toArray⟩
def KvR (K : PySem.W.Frag) (H : Hp) (ι : List Addr) (kvs : List (Zba × D)) (ws : List (Key × V)) : Prop :=
 ws.map (·.1) = kvs.map (fun p => dk p.1) ∧ Zj K H ι (kvs.map (·.2)) (ws.map (·.2))
def ZcX (K : PySem.W.Frag) (H : Hp) (ι : List Addr) : MO → Addr → Prop
 | .lst xs, a => ∃ vs, H a = some (.lst vs) ∧ Zj K H ι xs vs
 | .dct kvs, a => ∃ ws, H a = some (.dK ws) ∧ KvR K H ι kvs ws
 | .fdct kvs, a => ∃ ws, (∃ o, H a = some (.frz o (.dK ws))) ∧ KvR K H ι kvs ws
structure Zx (K : PySem.W.Frag) (H : Hp) (ι : List Addr) (M : Store) : Prop where
 len : ι.length = M.length
 nd : ι.Nodup
 obj : ∀ (n : Nat) o a, M[n]? = some o → ι[n]? = some a → ZcX K H ι o a
def Loose (H : Hp) (p : Addr) : Prop := H p = none ∨ (∃ vs, H p = some (.lst vs)) ∨ ∃ ws, H p = some (.dK ws)
section
variable {K : PySem.W.Frag} {H H' : Hp} {ι ι' : List Addr} {M : Store} {p : Addr} {o : HO}
theorem Loose.ne {a : Addr} {u : HO} (l : Loose H p) (h : H a = some u) (h1 : ∀ vs, u ≠ .lst vs) (h2 : ∀ ws, u ≠ .dK ws) : a ≠ p := by
 rintro rfl
 rcases l with l | ⟨vs, l⟩ | ⟨ws, l⟩
 ·rw [h] at l; cases l
 ·rw [h] at l; exact h1 vs (Option.some.inj l)
 ·rw [h] at l; exact h2 ws (Option.some.inj l)
theorem Loose.tup (l : Loose H p) {a : Addr} {xs : List V} (h : SqT K H a xs) : SqT K (upd H p o) a xs := by
 rcases h with (h | ⟨ob, h⟩) | h
 ·exact .inl (.inl (by rw [Zas (l.ne h (fun _ z => nomatch z) (fun _ z => nomatch z))]; exact h))
 ·exact .inl (.inr ⟨ob, by rw [Zas (l.ne h (fun _ z => nomatch z) (fun _ z => nomatch z))]; exact h⟩)
 ·exact .inr h
theorem Loose.scr (l : Loose H p) {a : Addr} {xs : List V} (h : SqF K H a xs) : SqF K (upd H p o) a xs := by
 rcases h with ⟨ob, h⟩ | h
 ·exact .inl ⟨ob, by rw [Zas (l.ne h (fun _ z => nomatch z) (fun _ z => nomatch z))]; exact h⟩
 ·exact .inr h
theorem Loose.frz (l : Loose H p) {a : Addr} {ob : Obj} {u : HO} (h : H a = some (.frz ob u)) : upd H p o a = some (.frz ob u) := by
 rw [Zas (l.ne h (fun _ z => nomatch z) (fun _ z => nomatch z))]; exact h
theorem Loose.ext (l : Loose H p) : Ext K H ι (upd H p o) ι := ⟨fun _ _ h => l.tup h, fun _ _ h => l.scr h, fun _ _ h => h, fun _ _ _ h => l.frz h⟩
theorem Loose.extA (l : Loose H p) : Ext K H ι (upd H p o) (ι ++ [p]) := ⟨fun _ _ h => l.tup h, fun _ _ h => l.scr h, fun n a h => by
 rw [List.getElem?_append_left (List.getElem?_eq_some_iff.mp h).1]; exact h, fun _ _ _ h => l.frz h⟩
theorem ZcX.mono {m : MO} {a : Addr} (e : Ext K H ι H' ι') (h : ZcX K H ι m a) (k : H' a = H a) : ZcX K H' ι' m a := by
 cases m with
 | lst xs => obtain ⟨vs, q, r⟩ := h; exact ⟨vs, k.trans q, r.mono e⟩
 | dct kvs => obtain ⟨ws, q, r1, r2⟩ := h; exact ⟨ws, k.trans q, r1, r2.mono e⟩
 | fdct kvs => obtain ⟨ws, ⟨o, q⟩, r1, r2⟩ := h; exact ⟨ws, ⟨o, k.trans q⟩, r1, r2.mono e⟩
theorem ZcX.ne {m : MO} {a : Addr} (h : ZcX K H ι m a) : H a ≠ none := by
 cases m with
 | lst xs => obtain ⟨vs, q, r⟩ := h; rw [q]; simp
 | dct kvs => obtain ⟨ws, q, r⟩ := h; rw [q]; simp
 | fdct kvs => obtain ⟨ws, ⟨o, q⟩, r⟩ := h; rw [q]; simp
theorem Zx.at (S : Zx K H ι M) {n : Nat} {m : MO} (h : M[n]? = some m) : ∃ a, ι[n]? = some a ∧ ZcX K H ι m a := by
 have hn : n < ι.length := by rw [S.len]; exact (List.getElem?_eq_some_iff.mp h).1
 exact ⟨ι[n], by simp [hn], S.obj n m _ h (by simp [hn])⟩
theorem Zx.there (S : Zx K H ι M) {n : Nat} {a : Addr} (h : ι[n]? = some a) : ∃ m, M[n]? = some m ∧ ZcX K H ι m a := by
 have hn : n < M.length := by rw [← S.len]; exact (List.getElem?_eq_some_iff.mp h).1
 exact ⟨M[n], by simp [hn], S.obj n _ _ (by simp [hn]) h⟩
theorem Zx.fresh (S : Zx K H ι M) (hp : H p = none) : p ∉ ι := fun h => by
 obtain ⟨n, hn⟩ := List.getElem?_of_mem h
 obtain ⟨m, _, q⟩ := S.there hn
 exact q.ne hp
theorem Zx.other (S : Zx K H ι M) (l : Loose H p) (hp : p ∉ ι) : Zx K (upd H p o) ι M :=
 ⟨S.len, S.nd, fun n m a h1 h2 => (S.obj n m a h1 h2).mono l.ext (by
  rw [Zas]; rintro rfl; exact hp (List.mem_of_getElem? h2))⟩
theorem Zx.new (S : Zx K H ι M) (hp : H p = none) {m : MO} (h : ZcX K (upd H p o) (ι ++ [p]) m p) : Zx K (upd H p o) (ι ++ [p]) (M ++ [m]) := by
 have hf := S.fresh hp
 refine ⟨by simp [S.len], ?_, fun n m' a h1 h2 => ?_⟩
 ·exact List.nodup_append.mpr ⟨S.nd, by simp, fun x hx y hy => by
   have e : y = p := by simpa using hy
   subst e
   rintro rfl
   exact hf hx⟩
 ·by_cases hn : n < ι.length
  ·rw [List.getElem?_append_left hn] at h2
   rw [List.getElem?_append_left (by rw [← S.len]; exact hn)] at h1
   refine (S.obj n m' a h1 h2).mono (Loose.extA (.inl hp)) ?_
   rw [Zas]
   rintro rfl
   exact hf (List.mem_of_getElem? h2)
  ·rw [List.getElem?_append_right (by omega)] at h2
   rw [List.getElem?_append_right (by rw [← S.len]; omega)] at h1
   have hlt : n - ι.length < 1 := by
    have := (List.getElem?_eq_some_iff.mp h2).1
    simpa using this
   have e0 : n - ι.length = 0 := by omega
   rw [e0] at h2
   rw [← S.len, e0] at h1
   simp at h1 h2
   subst h1 h2
   exact h
theorem Zx.put (S : Zx K H ι M) {n : Nat} (l0 : Loose H p) (hn : ι[n]? = some p) {m : MO} (h : ZcX K (upd H p o) ι m p) : Zx K (upd H p o) ι (M.set n m) := by
 obtain ⟨m0, hm0, q0⟩ := S.there hn
 refine ⟨by simp [S.len], S.nd, fun k m' a h1 h2 => ?_⟩
 by_cases hk : k = n
 ·subst hk
  rw [hn] at h2
  cases h2
  have hlt : k < M.length := (List.getElem?_eq_some_iff.mp hm0).1
  rw [List.getElem?_set_self hlt] at h1
  cases h1
  exact h
 ·rw [List.getElem?_set_ne (Ne.symm hk)] at h1
  refine (S.obj k m' a h1 h2).mono (Loose.ext l0) ?_
  rw [Zas]
  rintro rfl
  have hlt1 := (List.getElem?_eq_some_iff.mp h2)
  have hlt2 := (List.getElem?_eq_some_iff.mp hn)
  exact hk ((List.getElem_inj S.nd).mp (hlt1.2.trans hlt2.2.symm))
theorem Zx.lst (S : Zx K H ι M) (hp : H p = none) {xs : List D} {vs : List V} (r : Zj K H ι xs vs) : Ext K H ι (upd H p (.lst vs)) (ι ++ [p]) ∧ Zx K (upd H p (.lst vs)) (ι ++ [p]) (M ++ [.lst xs]) ∧ Rep K (upd H p (.lst vs)) (ι ++ [p]) (.ref M.length) (.ref p) := by
 have e : Ext K H ι (upd H p (.lst vs)) (ι ++ [p]) := Loose.extA (.inl hp)
 refine ⟨e, S.new hp ⟨vs, ZbX, r.mono e⟩, Rep.ref ?_⟩
 rw [← S.len]; simp
theorem Zx.tupl (S : Zx K H ι M) (hp : H p = none) {xs : List D} {vs : List V} (r : Zj K H ι xs vs) : Ext K H ι (upd H p (.tup vs)) ι ∧ Zx K (upd H p (.tup vs)) ι M ∧ Rep K (upd H p (.tup vs)) ι (.tup xs) (.ref p) := by
 have e : Ext K H ι (upd H p (.tup vs)) ι := Loose.ext (.inl hp)
 exact ⟨e, S.other (.inl hp) (S.fresh hp), Rep.tup (SqT.of ZbX) (r.mono e)⟩
theorem Zx.setl (S : Zx K H ι M) {n : Nat} (l0 : Loose H p) (hn : ι[n]? = some p) {xs : List D} {vs : List V} (r : Zj K H ι xs vs) : Ext K H ι (upd H p (.lst vs)) ι ∧ Zx K (upd H p (.lst vs)) ι (M.set n (.lst xs)) := by
 have e : Ext K H ι (upd H p (.lst vs)) ι := Loose.ext l0
 exact ⟨e, S.put l0 hn ⟨vs, ZbX, r.mono e⟩⟩
end
def ZaW (K : PySem.W.Frag) (H : Hp) (ι : List Addr) (env : Zaa) (σ : St) : Prop :=
 env.length = σ.length ∧ ∀ (i : Nat) d, env[i]? = some (some d) → ∃ v, σ[i]? = some (some v) ∧ Rep K H ι d v
theorem ZaW.mono {K : PySem.W.Frag} {H H' : Hp} {ι ι' : List Addr} {env : Zaa} {σ : St} (r : ZaW K H ι env σ) (e : Ext K H ι H' ι') : ZaW K H' ι' env σ :=
 ⟨r.1, fun i d h => let ⟨v, q, z⟩ := r.2 i d h; ⟨v, q, z.mono e⟩⟩
theorem ZaW.set {K : PySem.W.Frag} {H : Hp} {ι : List Addr} {env : Zaa} {σ : St} {d : D} {v : V} (r : ZaW K H ι env σ) (i : Nat) (h : Rep K H ι d v) : ZaW K H ι (env.set i (some d)) (σ.set i (some v)) := by
 refine ⟨by simp [r.1], fun j e hj => ?_⟩
 by_cases hij : j = i
 ·subst hij
  have hlt : j < env.length := by
   have := (List.getElem?_eq_some_iff.mp hj).1
   simpa using this
  rw [List.getElem?_set_self hlt] at hj
  cases hj
  exact ⟨v, by rw [List.getElem?_set_self (by rw [← r.1]; exact hlt)], h⟩
 ·rw [List.getElem?_set_ne (Ne.symm hij)] at hj
  obtain ⟨w, q, z⟩ := r.2 j e hj
  exact ⟨w, by rw [List.getElem?_set_ne (Ne.symm hij)]; exact q, z⟩
def Zv (K : PySem.W.Frag) (H : Hp) (ι : List Addr) (Q : VK) (r : R3 D) : Prop := match r with
 | .ok d M' => ∀ v H' ι', Ext K H ι H' ι' → Zx K H' ι' M' → Rep K H' ι' d v → Q v H'
 | _ => False
def tOf (K : PySem.W.Frag) (f : E3) : TE := fun σ H Q => ∃ ι M env, Zx K H ι M ∧ ZaW K H ι env σ ∧ Zv K H ι Q (f env M)
def ZdS (K : PySem.W.Frag) (H : Hp) (ι : List Addr) (Q : Bool → Hp → Prop) (r : R3 D) : Prop := match r with
 | .ok (.bl b) M' => ∀ H' ι', Ext K H ι H' ι' → Zx K H' ι' M' → Q b H'
 | _ => False
def tTf (K : PySem.W.Frag) (f : E3) : TT := fun σ H Q => ∃ ι M env, Zx K H ι M ∧ ZaW K H ι env σ ∧ ZdS K H ι Q (f env M)
def ZgF (K : PySem.W.Frag) (H : Hp) (ι : List Addr) (Q : List V → Hp → Prop) (r : R3 (List D)) : Prop := match r with
 | .ok ds M' => ∀ vs H' ι', Ext K H ι H' ι' → Zx K H' ι' M' → Zj K H' ι' ds vs → Q vs H'
 | _ => False
def tAf (K : PySem.W.Frag) (f : EL3) : TA := fun σ H Q => ∃ ι M env, Zx K H ι M ∧ ZaW K H ι env σ ∧ ZgF K H ι Q (f env M)
def ZgY (K : PySem.W.Frag) (H : Hp) (ι : List Addr) (Q : Option Int → Hp → Prop) (r : R3 (Option Int)) : Prop := match r with
 | .ok o M' => ∀ H' ι', Ext K H ι H' ι' → Zx K H' ι' M' → Q o H'
 | _ => False
def tOo (K : PySem.W.Frag) (f : EO3) : TO := fun σ H Q => ∃ ι M env, Zx K H ι M ∧ ZaW K H ι env σ ∧ ZgY K H ι Q (f env M)
def ZeM (K : PySem.W.Frag) (H : Hp) (ι : List Addr) (E : Ends) (r : O3) : Prop := match r with
 | .nx env' M' => ∀ σ' H' ι', Ext K H ι H' ι' → Zx K H' ι' M' → ZaW K H' ι' env' σ' → E.nx σ' H'
 | .bk env' M' => ∀ σ' H' ι', Ext K H ι H' ι' → Zx K H' ι' M' → ZaW K H' ι' env' σ' → E.bk σ' H'
 | .ct env' M' => ∀ σ' H' ι', Ext K H ι H' ι' → Zx K H' ι' M' → ZaW K H' ι' env' σ' → E.ct σ' H'
 | .rt d M' => ∀ v H' ι', Ext K H ι H' ι' → Zx K H' ι' M' → Rep K H' ι' d v → E.rt v H'
 | _ => False
def tSf (K : PySem.W.Frag) (f : S3) : TS := fun E σ H => ∃ ι M env, Zx K H ι M ∧ ZaW K H ι env σ ∧ ZeM K H ι E (f env M)
def C3 (X : Cx) (e : Expr) (f : E3) : Prop := PE X e (tOf X.K f)
def CT (X : Cx) (e : Expr) (f : E3) : Prop := PT X e (tTf X.K f)
def CA (X : Cx) (es : List Expr) (f : EL3) : Prop := PA X es (tAf X.K f)
def CO (X : Cx) (e : Option Expr) (f : EO3) : Prop := PO X e (tOo X.K f)
def CS (X : Cx) (st : Stmt) (f : S3) : Prop := PS X st (tSf X.K f)
def CSs (X : Cx) (st : List Stmt) (f : S3) : Prop := PSs X st (tSf X.K f)
theorem _root_.L2.PE.imp {X : Cx} {e : Expr} {t t' : TE} (h : PE X e t) (i : ∀ σ H Q, t' σ H Q → t σ H Q) : PE X e t' := fun pins s σ H Q I q => h pins s σ H Q I (i σ H Q q)
theorem _root_.L2.PT.imp {X : Cx} {e : Expr} {t t' : TT} (h : PT X e t) (i : ∀ σ H Q, t' σ H Q → t σ H Q) : PT X e t' := fun pins s σ H Q I q => h pins s σ H Q I (i σ H Q q)
theorem _root_.L2.PA.imp {X : Cx} {e : List Expr} {t t' : TA} (h : PA X e t) (i : ∀ σ H Q, t' σ H Q → t σ H Q) : PA X e t' := fun pos pins s σ H Q I q => h pos pins s σ H Q I (i σ H Q q)
theorem _root_.L2.PO.imp {X : Cx} {e : Option Expr} {t t' : TO} (h : PO X e t) (i : ∀ σ H Q, t' σ H Q → t σ H Q) : PO X e t' := fun pins s σ H Q I q => h pins s σ H Q I (i σ H Q q)
theorem _root_.L2.PS.imp {X : Cx} {e : Stmt} {t t' : TS} (h : PS X e t) (i : ∀ D σ H, t' D σ H → t D σ H) : PS X e t' := fun pins s σ H D I q => h pins s σ H D I (i D σ H q)
theorem _root_.L2.PSs.imp {X : Cx} {e : List Stmt} {t t' : TS} (h : PSs X e t) (i : ∀ D σ H, t' D σ H → t D σ H) : PSs X e t' := fun pins s σ H D I q => h pins s σ H D I (i D σ H q)
theorem _root_.L2.OpR.imp {X : Cx} {f : Value → Value → Sem Value} {r r' : R2} (h : OpR X f r) (i : ∀ x y H Q, r' x y H Q → r x y H Q) : OpR X f r' := fun pins s σ H x y v u Q I rx ry q => h pins s σ H x y v u Q I rx ry (i x y H Q q)
theorem _root_.L2.UnR.imp {X : Cx} {f : Value → Sem Value} {r r' : V → Hp → VK → Prop} (h : UnR X f r) (i : ∀ x H Q, r' x H Q → r x H Q) : UnR X f r' := fun pins s σ H x v Q I rx q => h pins s σ H x v Q I rx (i x H Q q)
theorem _root_.L2.Za5.imp {X : Cx} {f : Value} {r r' : List V → Hp → VK → Prop} (h : Za5 X f r) (i : ∀ x H Q, r' x H Q → r x H Q) : Za5 X f r' := fun pins s σ H xs us Q I rx q => h pins s σ H xs us Q I rx (i xs H Q q)
theorem _root_.L2.IxR.imp {X : Cx} {r r' : R2} (h : IxR X r) (i : ∀ x y H Q, r' x y H Q → r x y H Q) : IxR X r' := fun value slice pins s σ H x y v u Q I rx ry q hs => h value slice pins s σ H x y v u Q I rx ry (i x y H Q q) hs
theorem _root_.L2.SlR.imp {X : Cx} {r r' : V → Option Int → Option Int → Hp → VK → Prop} (h : SlR X r) (i : ∀ x lo hi H Q, r' x lo hi H Q → r x lo hi H Q) : SlR X r' := fun pins s σ H x v vl vu lo hi sl Q I rx hs pl pu q => h pins s σ H x v vl vu lo hi sl Q I rx hs pl pu (i x lo hi H Q q)
section
variable {K : PySem.W.Frag} {H H1 : Hp} {ι ι1 : List Addr}
theorem Zv.up {Q : VK} {r : R3 D} (e : Ext K H ι H1 ι1) (h : Zv K H ι Q r) : Zv K H1 ι1 Q r := by
 cases r with
 | ok d M => exact fun v H' ι' e' S r => h v H' ι' (e.trans e') S r
 | exc x M => exact h
 | bad => exact h
theorem ZdS.up {Q : Bool → Hp → Prop} {r : R3 D} (e : Ext K H ι H1 ι1) (h : ZdS K H ι Q r) : ZdS K H1 ι1 Q r := by
 cases r with
 | ok d M => cases d <;> first | exact h | exact fun H' ι' e' S => h H' ι' (e.trans e') S
 | exc x M => exact h
 | bad => exact h
theorem ZeM.up {Q : Ends} {r : O3} (e : Ext K H ι H1 ι1) (h : ZeM K H ι Q r) : ZeM K H1 ι1 Q r := by
 cases r with
 | nx d M => exact fun v H' ι' e' S r => h v H' ι' (e.trans e') S r
 | bk d M => exact fun v H' ι' e' S r => h v H' ι' (e.trans e') S r
 | ct d M => exact fun v H' ι' e' S r => h v H' ι' (e.trans e') S r
 | rt d M => exact fun v H' ι' e' S r => h v H' ι' (e.trans e') S r
 | exc x M => exact h
 | bad => exact h
theorem Zv.ok {Q : VK} {d : D} {M : Store} {v : V} (h : Zv K H ι Q (.ok d M)) (S : Zx K H ι M) (r : Rep K H ι d v) : Q v H := h v H ι Ext.refl S r
theorem Zv.bind {α : Type} {Q : VK} {r : R3 α} {k : α → Store → R3 D} (h : Zv K H ι Q (r.bind k)) : ∃ a M, r = .ok a M ∧ Zv K H ι Q (k a M) := by
 cases r with
 | ok a M => exact ⟨a, M, rfl, h⟩
 | exc x M => exact h.elim
 | bad => exact h.elim
theorem ZgF.bind {α : Type} {Q : List V → Hp → Prop} {r : R3 α} {k : α → Store → R3 (List D)} (h : ZgF K H ι Q (r.bind k)) : ∃ a M, r = .ok a M ∧ ZgF K H ι Q (k a M) := by
 cases r with
 | ok a M => exact ⟨a, M, rfl, h⟩
 | exc x M => exact h.elim
 | bad => exact h.elim
theorem ZgY.bind {α : Type} {Q : Option Int → Hp → Prop} {r : R3 α} {k : α → Store → R3 (Option Int)} (h : ZgY K H ι Q (r.bind k)) : ∃ a M, r = .ok a M ∧ ZgY K H ι Q (k a M) := by
 cases r with
 | ok a M => exact ⟨a, M, rfl, h⟩
 | exc x M => exact h.elim
 | bad => exact h.elim
theorem ZdS.bind {α : Type} {Q : Bool → Hp → Prop} {r : R3 α} {k : α → Store → R3 D} (h : ZdS K H ι Q (r.bind k)) : ∃ a M, r = .ok a M ∧ ZdS K H ι Q (k a M) := by
 cases r with
 | ok a M => exact ⟨a, M, rfl, h⟩
 | exc x M => exact h.elim
 | bad => exact h.elim
end
def r2 (K : PySem.W.Frag) (op : D → D → Store → R3 D) : R2 := fun x y H Q => ∃ ι M a b, Zx K H ι M ∧ Rep K H ι a x ∧ Rep K H ι b y ∧ Zv K H ι Q (op a b M)
def r1 (K : PySem.W.Frag) (op : D → Store → R3 D) : V → Hp → VK → Prop := fun x H Q => ∃ ι M a, Zx K H ι M ∧ Rep K H ι a x ∧ Zv K H ι Q (op a M)
def rB (K : PySem.W.Frag) (b : List D → Store → R3 D) : List V → Hp → VK → Prop := fun xs H Q => ∃ ι M ds, Zx K H ι M ∧ Zj K H ι ds xs ∧ Zv K H ι Q (b ds M)
def rM (K : PySem.W.Frag) (m : D → List D → Store → R3 D) : V → List V → Hp → VK → Prop := fun x xs H Q => ∃ ι M a ds, Zx K H ι M ∧ Rep K H ι a x ∧ Zj K H ι ds xs ∧ Zv K H ι Q (m a ds M)
def rS (K : PySem.W.Frag) : V → Option Int → Option Int → Hp → VK → Prop := fun x lo hi H Q => ∃ ι M a, Zx K H ι M ∧ Rep K H ι a x ∧ Zv K H ι Q (Zfd a lo hi M)
theorem ZeB {K : PySem.W.Frag} {op : D → D → Store → R3 D} {f g : E3} (σ : St) (H : Hp) (Q : VK) (h : tOf K (e2 op f g) σ H Q) : tOp (r2 K op) (tOf K f) (tOf K g) σ H Q := by
 obtain ⟨ι, M, env, S, E, h⟩ := h
 obtain ⟨a, M1, e1, h⟩ := Zv.bind h
 obtain ⟨b, M2, e2, h⟩ := Zv.bind h
 refine ⟨ι, M, env, S, E, ?_⟩
 rw [e1]
 intro v H1 ι1 x1 S1 r1
 refine ⟨ι1, M1, env, S1, E.mono x1, ?_⟩
 rw [e2]
 intro u H2 ι2 x2 S2 r2
 exact ⟨ι2, M2, a, b, S2, r1.mono x2, r2, (h.up x1).up x2⟩
theorem ZjF {K : PySem.W.Frag} {op : D → Store → R3 D} {f : E3} (σ : St) (H : Hp) (Q : VK) (h : tOf K (e1 op f) σ H Q) : tUn (r1 K op) (tOf K f) σ H Q := by
 obtain ⟨ι, M, env, S, E, h⟩ := h
 obtain ⟨a, M1, e1, h⟩ := Zv.bind h
 refine ⟨ι, M, env, S, E, ?_⟩
 rw [e1]
 intro v H1 ι1 x1 S1 r1
 exact ⟨ι1, M1, a, S1, r1, h.up x1⟩
section
variable {X : Cx} {a b c e o : Expr} {es : List Expr} {pos p : Pos} {f g h : E3} {gl : EL3}
theorem Zd (i : Nat) {x : Str} (hN : X.N[i]? = some x := by rfl) (hv : Vis X.env.scope x := by first | exact Or.inl rfl | exact Or.inr (Or.inl rfl) | exact Or.inr (Or.inr rfl)) (hd : (x == ("__debug__" : Str)) = false := by decide)
  (hcd : (x == ("__classdict__" : Str)) = false := by decide) : C3 X (.Name x pos) (Zb i) := (Zi2 hN hv hd hcd).imp fun σ H Q ⟨ι, M, env, S, E, h⟩ => by
 unfold Zb at h
 cases q : env[i]? with
 | none => rw [q] at h; exact h.elim
 | some od =>
  cases od with
  | none => rw [q] at h; exact h.elim
  | some d =>
   rw [q] at h
   obtain ⟨v, e1, r⟩ := E.2 i d q
   exact ⟨v, e1, Zv.ok h S r⟩
theorem Zi {i j} : C3 X (.Constant (.int i) j pos) (eC (.int i)) := ZjM.imp fun σ H Q ⟨ι, M, env, S, E, h⟩ => Zv.ok h S Rep.int
theorem Zgw {i j} : C3 X (.Constant (.bool i) j pos) (eC (.bl i)) := ZkC.imp fun σ H Q ⟨ι, M, env, S, E, h⟩ => Zv.ok h S Rep.bl
theorem ZgW {x : Str} {cs : List Nat} {j} (hx : x = ⟨cs.toArray⟩ := by decide +kernel) : C3 X (.Constant (.str x) j pos) (eC (.str cs)) := ZjP.imp fun σ H Q ⟨ι, M, env, S, E, h⟩ => by
 subst hx
 exact Zv.ok h S Rep.str
theorem Zn {op : Operator} {q : D → D → Store → R3 D} (ho : OpR X (binaryOp op) (r2 X.K q)) (ha : C3 X a f) (hb : C3 X b g) : C3 X (.BinOp a op b pos) (e2 q f g) := (Zkr ho ha hb).imp ZeB
theorem Zkm {op : UnaryOp} {q : D → Store → R3 D} (ho : UnR X (unaryOp op) (r1 X.K q)) (ha : C3 X a f) : C3 X (.UnaryOp op a pos) (e1 q f) := (ZkH ho ha).imp ZjF
theorem Zfa {op : CmpOp} {q : D → D → Store → R3 D} (ho : OpR X (compareOp op) (r2 X.K q)) (ha : C3 X a f) (hb : C3 X b g) (hm : behindInMarks op b = false := by rfl) : C3 X (.Compare a [op] [b] pos) (e2 q f g) := (Zib ho ha hb hm).imp ZeB
theorem Zei {K : PySem.W.Frag} {H : Hp} {ι : List Addr} {Q : Bool → Hp → Prop} {r : R3 D} (h : ZdS K H ι Q r) : Zv K H ι (fun x H' => ∃ k, x = .bl k ∧ Q k H') r := by
 cases r with
 | ok d M =>
  cases d with
  | bl b => exact fun v H' ι' e S r => ⟨b, r.bl_inv, h H' ι' e S⟩
  | _ => exact h.elim
 | exc x M => exact h.elim
 | bad => exact h.elim
theorem ZbY (h : C3 X e f) (he : ∀ whole, isTrue e X.env whole = (do let v ← whole; standAt e.pos; holding [v] (truthy v)) := by intro _; rfl) : CT X e f := (Zjc h he).imp fun σ H Q ⟨ι, M, env, S, E, h⟩ => ⟨ι, M, env, S, E, Zei h⟩
theorem ZaL {op : CmpOp} {q : D → D → Store → R3 D} (ho : OpR X (compareOp op) (r2 X.K q)) (ha : C3 X a f) (hb : C3 X b g) (hm : behindInMarks op b = false := by rfl) : CT X (.Compare a [op] [b] pos) (e2 q f g) :=
 (Zh3 ho ha hb hm).imp fun σ H Q ⟨ι, M, env, S, E, h⟩ => ZeB σ H _ ⟨ι, M, env, S, E, Zei h⟩
end
end L3
namespace L3
open PySem PySem.Spec PyProof.Rows L2
section
variable {X : Cx} {a b c e o : Expr} {es rest : List Expr} {pos p : Pos} {f g h : E3} {gl : EL3}
theorem Zet {op} (h : C3 X a f) : C3 X (.BoolOp op [a] pos) f := ZjC h
theorem Zd0 (ha : C3 X a f) (hb : C3 X (.BoolOp .And (b :: rest) pos) g) : C3 X (.BoolOp .And (a :: b :: rest) pos) (Zch f g) := (Zjn ha hb).imp fun σ H Q ⟨ι, M, env, S, E, h⟩ => by
 obtain ⟨d, M1, e1, h⟩ := Zv.bind h
 refine ⟨ι, M, env, S, E, ?_⟩
 rw [e1]
 intro v H1 ι1 x1 S1 r1
 cases d with
 | bl k =>
  refine ⟨k, r1.bl_inv, ?_⟩
  cases k with
  | true => rw [if_pos rfl]; exact ⟨ι1, M1, env, S1, E.mono x1, h.up x1⟩
  | false => rw [if_neg (by decide)]; exact Zv.ok (h.up x1) S1 Rep.bl
 | _ => exact h.elim
theorem Ziw (ha : C3 X a f) : C3 X (.UnaryOp .Not a pos) (e1 Zcg f) := (ZiY ha).imp fun σ H Q ⟨ι, M, env, S, E, h⟩ => by
 obtain ⟨d, M1, e1, h⟩ := Zv.bind h
 refine ⟨ι, M, env, S, E, ?_⟩
 rw [e1]
 intro v H1 ι1 x1 S1 r1
 cases d with
 | bl k => exact ⟨k, r1.bl_inv, Zv.ok (h.up x1) S1 Rep.bl⟩
 | _ => exact h.elim
def CW (X : Cx) (e : Expr) (f : E3) : Prop := PW X e (tTf X.K f)
theorem CW.ct (h : CW X e f) : CT X e f := PW.pt h
theorem PW.imp {t t' : TT} (h : PW X e t) (i : ∀ σ H Q, t' σ H Q → t σ H Q) : PW X e t' := fun wh pins s σ H Q I q => h wh pins s σ H Q I (i σ H Q q)
theorem Zew (ha : CT X a f) : CW X (.BoolOp .And [a] pos) f := Zij ha
theorem Zdw (ha : CT X a f) : CW X (.BoolOp .Or [a] pos) f := ZiM ha
theorem ZfG (ha : CT X a f) (hb : CW X (.BoolOp .And (b :: rest) pos) g) : CW X (.BoolOp .And (a :: b :: rest) pos) (Zch f g) := PW.imp (Zi9 ha hb) fun σ H Q ⟨ι, M, env, S, E, h⟩ => by
 obtain ⟨d, M1, e1, h⟩ := ZdS.bind h
 refine ⟨ι, M, env, S, E, ?_⟩
 rw [e1]
 cases d with
 | bl k =>
  intro H1 ι1 x1 S1
  cases k with
  | true => rw [if_pos rfl]; exact ⟨ι1, M1, env, S1, E.mono x1, h.up x1⟩
  | false => rw [if_neg (by decide)]; exact h H1 ι1 x1 S1
 | _ => exact h.elim
theorem ZdZ (ha : CT X a f) (hb : CW X (.BoolOp .Or (b :: rest) pos) g) : CW X (.BoolOp .Or (a :: b :: rest) pos) (eOr f g) := PW.imp (Zkh ha hb) fun σ H Q ⟨ι, M, env, S, E, h⟩ => by
 obtain ⟨d, M1, e1, h⟩ := ZdS.bind h
 refine ⟨ι, M, env, S, E, ?_⟩
 rw [e1]
 cases d with
 | bl k =>
  intro H1 ι1 x1 S1
  cases k with
  | false => rw [if_neg (by decide)]; exact ⟨ι1, M1, env, S1, E.mono x1, h.up x1⟩
  | true => rw [if_pos rfl]; exact h H1 ι1 x1 S1
 | _ => exact h.elim
theorem ZcJ (ha : CT X a f) : CT X (.UnaryOp .Not a pos) (e1 Zcg f) := (Zjz ha).imp fun σ H Q ⟨ι, M, env, S, E, h⟩ => by
 obtain ⟨d, M1, e1, h⟩ := ZdS.bind h
 refine ⟨ι, M, env, S, E, ?_⟩
 rw [e1]
 cases d with
 | bl k => exact fun H1 ι1 x1 S1 => h H1 ι1 x1 S1
 | _ => exact h.elim
theorem Zlc (hc : CT X c f) (ha : C3 X a g) (hb : C3 X b h) : C3 X (.IfExp c a b pos) (eIf f g h) := (Zhq hc ha hb).imp fun σ H Q ⟨ι, M, env, S, E, h⟩ => by
 obtain ⟨d, M1, e1, h⟩ := Zv.bind h
 refine ⟨ι, M, env, S, E, ?_⟩
 rw [e1]
 cases d with
 | bl k =>
  intro H1 ι1 x1 S1
  cases k with
  | true => rw [if_pos rfl]; exact ⟨ι1, M1, env, S1, E.mono x1, h.up x1⟩
  | false => rw [if_neg (by decide)]; exact ⟨ι1, M1, env, S1, E.mono x1, h.up x1⟩
 | _ => exact h.elim
theorem Zf : CA X [] Ze := ZeA.imp fun σ H Q ⟨ι, M, env, S, E, h⟩ => h [] H ι Ext.refl S Zj.nil
theorem Zc (ha : C3 X e f) (hr : CA X es gl) (hs : starEach (e :: es) X.env = (false, eval e X.env) :: starEach es X.env := by rfl) : CA X (e :: es) (Za f gl) := (Zct ha hr hs).imp fun σ H Q ⟨ι, M, env, S, E, h⟩ => by
 obtain ⟨d, M1, e1, h⟩ := ZgF.bind h
 obtain ⟨ds, M2, e2, h⟩ := ZgF.bind h
 refine ⟨ι, M, env, S, E, ?_⟩
 rw [e1]
 intro v H1 ι1 x1 S1 r1
 refine ⟨ι1, M1, env, S1, E.mono x1, ?_⟩
 rw [e2]
 intro vs H2 ι2 x2 S2 r2
 exact h (v :: vs) H2 ι2 (x1.trans x2) S2 (Zj.cons (r1.mono x2) r2)
theorem ZfU {x1} (h : CA X es gl) : C3 X (.Tuple es x1 pos) (Zed gl) := (Zhk h).imp fun σ H Q ⟨ι, M, env, S, E, h⟩ => by
 obtain ⟨ds, M1, e1, h⟩ := Zv.bind h
 refine ⟨ι, M, env, S, E, ?_⟩
 rw [e1]
 intro vs H1 ι1 x1 S1 r1
 by_cases hz : ds.length ≤ SZ
 ·rw [if_pos hz] at h
  refine ⟨by rw [r1.length]; exact Nat.le_trans hz ZaK, fun p hp => ?_⟩
  obtain ⟨x2, S2, r2⟩ := S1.tupl hp r1
  exact h _ _ _ (x1.trans x2) S2 r2
 ·rw [if_neg hz] at h; exact h.elim
theorem Zbo (h : CA X es gl) : C3 X (.List es pos) (ZaI gl) := (ZiX h).imp fun σ H Q ⟨ι, M, env, S, E, h⟩ => by
 obtain ⟨ds, M1, e1, h⟩ := Zv.bind h
 refine ⟨ι, M, env, S, E, ?_⟩
 rw [e1]
 intro vs H1 ι1 x1 S1 r1
 by_cases hz : ds.length ≤ SZ
 ·rw [if_pos hz] at h
  refine ⟨by rw [r1.length]; exact Nat.le_trans hz ZaK, fun p hp => ?_⟩
  obtain ⟨x2, S2, r2⟩ := S1.lst hp r1
  exact h _ _ _ (x1.trans x2) S2 r2
 ·rw [if_neg hz] at h; exact h.elim
theorem Zg7 {K : PySem.W.Frag} {q : List D → Store → R3 D} (σ : St) (H : Hp) (Q : VK) (h : tOf K (Zah q gl) σ H Q) : tCB (rB K q) (tAf K gl) σ H Q := by
 obtain ⟨ι, M, env, S, E, h⟩ := h
 obtain ⟨ds, M1, e1, h⟩ := Zv.bind h
 refine ⟨ι, M, env, S, E, ?_⟩
 rw [e1]
 intro vs H1 ι1 x1 S1 r1
 exact ⟨ι1, M1, ds, S1, r1, h.up x1⟩
theorem Za7 {x : Str} {id : String} {q : List D → Store → R3 D} (hc : Za5 X (.builtin id) (rB X.K q)) (hm : X.mg x = none) (hv : bootBuiltins x = some (.builtin id)) (ha : CA X (e :: es) gl) (hg : Gl X x := by rfl) (hn : x ≠ "__name__" := by decide) (hdb : (x == ("__debug__" : Str)) = false := by decide)
  (he : starEach (e :: es) X.env = (false, eval e X.env) :: starEach es X.env := by rfl) (hpl : (backTo pos (starEach es X.env)).any (·.1) = false := by rfl) : C3 X (.Call (.Name x p) (e :: es) [] pos) (Zah q gl) := (Zd8 hc hg hm hv ha hn hdb he hpl).imp Zg7
theorem ZdE {x : Str} {T : String} {q : List D → Store → R3 D} (hc : Za5 X (.type T) (rB X.K q)) (hm : X.mg x = none) (hv : bootBuiltins x = some (.type T)) (ha : CA X (e :: es) gl) (hg : Gl X x := by rfl) (hn : x ≠ "__name__" := by decide) (hdb : (x == ("__debug__" : Str)) = false := by decide)
  (he : starEach (e :: es) X.env = (false, eval e X.env) :: starEach es X.env := by rfl) (hpl : (backTo pos (starEach es X.env)).any (·.1) = false := by rfl) : C3 X (.Call (.Name x p) (e :: es) [] pos) (Zah q gl) := (ZgL hc hg hm hv ha hn hdb he hpl).imp Zg7
theorem Zca (hr : IxR X (r2 X.K Zz)) (ha : C3 X a f) (hb : C3 X b g) (hs : Zf1 b := by exact fun _ _ => rfl) : C3 X (.Subscript a b pos) (e2 Zz f g) := (Zj1 hr ha hb hs).imp ZeB
theorem Zey : CO X none ZcC := ZhL.imp fun σ H Q ⟨ι, M, env, S, E, h⟩ => h H ι Ext.refl S
theorem Zbq (h : C3 X e f) : CO X (some e) (Zaz f) := (Zih h).imp fun σ H Q ⟨ι, M, env, S, E, h⟩ => by
 obtain ⟨d, M1, e1, h⟩ := ZgY.bind h
 refine ⟨ι, M, env, S, E, ?_⟩
 rw [e1]
 intro v H1 ι1 x1 S1 r1
 cases d with
 | int i => exact ⟨i, r1.int_inv, h H1 ι1 x1 S1⟩
 | _ => exact h.elim
theorem ZfC {lo hi : Option Expr} {ol oh : EO3} {p2 : Pos} (hr : SlR X (rS X.K)) (he : C3 X e f) (hl : CO X lo ol) (hu : CO X hi oh) : C3 X (.Subscript e (.Slice lo hi none p2) pos) (eSl f ol oh) := (ZgS hr he hl hu).imp fun σ H Q ⟨ι, M, env, S, E, h⟩ => by
 obtain ⟨d, M1, e1, h⟩ := Zv.bind h
 obtain ⟨l, M2, e2, h⟩ := Zv.bind h
 obtain ⟨u, M3, e3, h⟩ := Zv.bind h
 refine ⟨ι, M, env, S, E, ?_⟩
 rw [e1]
 intro v H1 ι1 x1 S1 r1
 refine ⟨ι1, M1, env, S1, E.mono x1, ?_⟩
 rw [e2]
 intro H2 ι2 x2 S2
 refine ⟨ι2, M2, env, S2, (E.mono x1).mono x2, ?_⟩
 rw [e3]
 intro H3 ι3 x3 S3
 exact ⟨ι3, M3, d, S3, (r1.mono x2).mono x3, ((h.up x1).up x2).up x3⟩
theorem Zao : CSs X [] Zag := ZhK.imp fun D σ H ⟨ι, M, env, S, E, h⟩ => h σ H ι Ext.refl S E
theorem Zm {st : Stmt} {u : S3} (h : CS X st u) : CSs X [st] u := ZhF h
theorem Zg {st : Stmt} {sts : List Stmt} {u w : S3} (h1 : CS X st u) (h2 : CSs X sts w) : CSs X (st :: sts) (Zw u w) := (Zhb h1 h2).imp fun D σ H ⟨ι, M, env, S, E, h⟩ => by
 refine ⟨ι, M, env, S, E, ?_⟩
 have h' : ZeM X.K H ι D (match u env M with | .nx env' M' => w env' M' | o => o) := h
 cases q : u env M with
 | nx env' M' => rw [q] at h'; exact fun σ' H' ι' x S' E' => ⟨ι', M', env', S', E', h'.up x⟩
 | _ => rw [q] at h'; exact h'
theorem Zbh {c1 : Expr} {x y : List Stmt} {u w : S3} (hc : CT X c1 f) (ha : CSs X x u) (hb : CSs X y w) : CS X (.If c1 x y pos) (sIf f u w) := (ZkI hc ha hb).imp fun D σ H ⟨ι, M, env, S, E, h⟩ => by
 refine ⟨ι, M, env, S, E, ?_⟩
 unfold sIf at h
 cases q : f env M with
 | ok d M1 =>
  rw [q] at h
  cases d with
  | bl k =>
   intro H1 ι1 x1 S1
   cases k with
   | true => rw [if_pos rfl]; exact ⟨ι1, M1, env, S1, E.mono x1, h.up x1⟩
   | false => rw [if_neg (by decide)]; exact ⟨ι1, M1, env, S1, E.mono x1, h.up x1⟩
  | _ => exact h.elim
 | exc x M1 => rw [q] at h; exact h.elim
 | bad => rw [q] at h; exact h.elim
theorem Zaj (h : C3 X e f) : CS X (.Return (some e) pos) (ZaG f) := (Zju h).imp fun D σ H ⟨ι, M, env, S, E, h⟩ => by
 refine ⟨ι, M, env, S, E, ?_⟩
 unfold ZaG at h
 cases q : f env M with
 | ok d M1 => rw [q] at h; exact h
 | exc x M1 => rw [q] at h; exact h.elim
 | bad => rw [q] at h; exact h.elim
theorem ZbQ (h : C3 X e f) (hs : swapsWith e none pos.line X.env = pure false := by rfl) : CS X (.Expr e pos) (Zal f) := (Zh9 h hs).imp fun D σ H ⟨ι, M, env, S, E, h⟩ => by
 refine ⟨ι, M, env, S, E, ?_⟩
 unfold Zal at h
 cases q : f env M with
 | ok d M1 => rw [q] at h; exact fun v H1 ι1 x1 S1 r1 => h σ H1 ι1 x1 S1 (E.mono x1)
 | exc x M1 => rw [q] at h; exact h.elim
 | bad => rw [q] at h; exact h.elim
theorem Zak (i : Nat) {x : Str} {pos' : Pos} (hN : X.N.Nodup) (he : C3 X e f) (hi : X.N[i]? = some x := by rfl) (hx : Loc X.env.scope x := by first | exact Or.inl rfl | exact Or.inr rfl) (hs : swapsWith e (some (.Name x pos')) pos.line X.env = pure false := by rfl)
  (hf : X.fn x = true ∨ X.env.scope.names.lookup x = some .local := by first | exact .inl rfl | exact .inr rfl) : CS X (.Assign [.Name x pos'] e pos) (Zat i f) := (ZiH hN hi hx he hs hf).imp fun D σ H ⟨ι, M, env, S, E, h⟩ => by
 refine ⟨ι, M, env, S, E, ?_⟩
 unfold Zat at h
 cases q : f env M with
 | ok d M1 => rw [q] at h; exact fun v H1 ι1 x1 S1 r1 => h _ H1 ι1 x1 S1 ((E.mono x1).set i r1)
 | exc x M1 => rw [q] at h; exact h.elim
 | bad => rw [q] at h; exact h.elim
theorem ZdW {st : Stmt} : CS X st ZdI := fun _ _ _ _ _ _ ⟨_, _, _, _, _, h⟩ => h.elim
end
def sp3 (K : PySem.W.Frag) (n : Nat) (F : F3) : Sp := fun vs H Q _ => ∃ ι M ds, Zx K H ι M ∧ Zj K H ι ds vs ∧ ds.length = n ∧ Zv K H ι Q (F ds M)
section
variable {K : PySem.W.Frag} {H H' : Hp} {ι ι' : List Addr} {M M' : Store}
mutual
theorem Rep.below : ∀ {d : D} {v : V}, Rep K H ι d v → L3.below ι.length d = true
 | .non, _, _ => rfl
 | .bl _, _, _ => rfl
 | .int _, _, _ => rfl
 | .str _, _, _ => rfl
 | .tup ds, _, h => by
  obtain ⟨a, vs, _, _, r⟩ := h.tup_inv
  simp only [L3.below]
  exact Zj.belowL (ds := ds) r
 | .scr ds, _, h => by
  obtain ⟨a, vs, _, _, r⟩ := h.scr_inv
  simp only [L3.below]
  exact Zj.belowL (ds := ds) r
 | .ref n, _, h => by
  obtain ⟨a, q, _⟩ := h.ref_inv
  simp only [L3.below, decide_eq_true_eq]
  exact (List.getElem?_eq_some_iff.mp q).1
theorem Zj.belowL : ∀ {ds : List D} {vs : List V}, Zj K H ι ds vs → L3.belowL ι.length ds = true
 | [], _, _ => rfl
 | d :: ds, _, h => by
  obtain ⟨v, ws, _, r, q⟩ := h.cons_inv
  simp only [L3.belowL, Bool.and_eq_true]
  exact ⟨Rep.below (d := d) r, Zj.belowL (ds := ds) q⟩
end
mutual
theorem Rep.cut {n : Nat} : ∀ {d : D} {v : V}, L3.below n d = true → Rep K H ι d v → Rep K H (ι.take n) d v
 | .non, _, _, h => by simpa [Rep] using h
 | .bl _, _, _, h => by simpa [Rep] using h
 | .int _, _, _, h => by simpa [Rep] using h
 | .str _, _, _, h => by simpa [Rep] using h
 | .tup ds, _, hb, h => by
  obtain ⟨a, vs, rfl, s, r⟩ := h.tup_inv
  exact Rep.tup s (Zj.cut (ds := ds) (by simpa only [L3.below] using hb) r)
 | .scr ds, _, hb, h => by
  obtain ⟨a, vs, rfl, s, r⟩ := h.scr_inv
  simp only [Rep]
  exact ⟨a, vs, rfl, s, Zj.cut (ds := ds) (by simpa only [L3.below] using hb) r⟩
 | .ref k, _, hb, h => by
  obtain ⟨a, q, rfl⟩ := h.ref_inv
  refine Rep.ref ?_
  rw [List.getElem?_take_of_lt (by simpa [L3.below] using hb)]
  exact q
theorem Zj.cut {n : Nat} : ∀ {ds : List D} {vs : List V}, L3.belowL n ds = true → Zj K H ι ds vs → Zj K H (ι.take n) ds vs
 | [], _, _, h => by simpa [Zj] using h
 | d :: ds, _, hb, h => by
  obtain ⟨v, ws, rfl, r, q⟩ := h.cons_inv
  simp only [L3.belowL, Bool.and_eq_true] at hb
  exact Zj.cons (Rep.cut (d := d) hb.1 r) (Zj.cut (ds := ds) hb.2 q)
end
theorem ZcX.below {m : MO} {a : Addr} (h : ZcX K H ι m a) : Zdo ι.length m = true := by
 cases m with
 | lst xs => obtain ⟨vs, _, r⟩ := h; exact r.belowL
 | dct kvs => obtain ⟨ws, _, _, r⟩ := h; exact r.belowL
 | fdct kvs => obtain ⟨ws, _, _, r⟩ := h; exact r.belowL
theorem ZcX.cut {n : Nat} {m : MO} {a : Addr} (hb : Zdo n m = true) (h : ZcX K H ι m a) : ZcX K H (ι.take n) m a := by
 cases m with
 | lst xs => obtain ⟨vs, q, r⟩ := h; exact ⟨vs, q, r.cut hb⟩
 | dct kvs => obtain ⟨ws, q, r1, r2⟩ := h; exact ⟨ws, q, r1, r2.cut hb⟩
 | fdct kvs => obtain ⟨ws, q, r1, r2⟩ := h; exact ⟨ws, q, r1, r2.cut hb⟩
theorem Zx.cut {n : Nat} (S : Zx K H ι M) (h : (M.take n).all (Zdo n) = true) : Zx K H (ι.take n) (M.take n) := by
 refine ⟨by simp [S.len], S.nd.sublist (List.take_sublist _ _), fun k m a h1 h2 => ?_⟩
 have hk : k < n := by
  have := (List.getElem?_eq_some_iff.mp h1).1
  rw [List.length_take] at this
  omega
 have hb : Zdo n m = true := List.all_eq_true.mp h m (List.mem_of_getElem? h1)
 rw [List.getElem?_take_of_lt hk] at h1 h2
 exact (S.obj k m a h1 h2).cut hb
theorem ZfW {Q : VK} {d : D} {v : V} (S : Zx K H ι M) (x : Ext K H ι H' ι') (S' : Zx K H' ι' M') (r : Rep K H' ι' d v) (h : Zv K H ι Q (ZbB M d M')) : Q v H' := by
 unfold ZbB at h
 split at h
 ·rename_i c
  simp only [Bool.and_eq_true, Bool.or_eq_true, decide_eq_true_eq] at c
  have hall : (M'.take M.length).all (Zdo M.length) = true := by
   rcases c.2 with e | e
   ·rw [e, List.all_eq_true]
    intro m hm
    obtain ⟨n, hn⟩ := List.getElem?_of_mem hm
    obtain ⟨a, q, w⟩ := S.at hn
    rw [← S.len]
    exact w.below
   ·exact e
  refine h v H' (ι'.take M.length) ⟨x.tup, x.scr, fun n a q => ?_, x.frz⟩ (S'.cut hall) (r.cut c.1)
  rw [List.getElem?_take_of_lt (by rw [← S.len]; exact (List.getElem?_eq_some_iff.mp q).1)]
  exact x.pre n a q
 ·exact h v H' ι' x S' r
end
theorem ZaW.start {K : PySem.W.Frag} {H : Hp} {ι : List Addr} {ds : List D} {vs : List V} (r : Zj K H ι ds vs) (n : Nat) : ZaW K H ι (ds.map some ++ List.replicate n none) (vs.map some ++ List.replicate n none) := by
 refine ⟨by simp [r.length], fun i d h => ?_⟩
 by_cases hi : i < ds.length
 ·rw [List.getElem?_append_left (by simpa using hi), List.getElem?_map] at h
  cases q : ds[i]? with
  | none => rw [q] at h; simp at h
  | some d' =>
   rw [q] at h
   simp at h
   subst h
   obtain ⟨v, e, z⟩ := r.get q
   refine ⟨v, ?_, z⟩
   rw [List.getElem?_append_left (by simpa [r.length] using hi), List.getElem?_map, e]
   rfl
 ·rw [List.getElem?_append_right (by simpa using hi), List.getElem?_replicate] at h
  split at h <;> simp at h
section
variable {P : Program} {w : World} {K : PySem.W.Frag} {mg : Str → Option Value} {base : Heap}
theorem fn3 {x qual : Str} {st : Stmt} {f : Addr} {fd : FuncData} {N ps : List Str} {k : Nat} {body : S3} (F : Fun K x qual st f fd) (S : Zam N ps (Zh st))
  (hb : ∀ (cdv : Value) (A : Around) (outer : List Env) (s : Shared) (H : Hp) (E : XK), ZbK k (A.deeper (envOfC qual (Zh st) s.heap.objs.size f cdv)) → CSs (Zfi CX0 P w K mg base N qual (Zh st) f cdv A outer s H E).nox (Zac st) body) :
  Zdn P w K mg base CX0 (k + 1) f fd ps (sp3 K ps.length (mkF ps.length N.length body)) := by
 refine F.ok S (fun vs H Q E ⟨ι, M, ds, _, r, l, _⟩ => by rw [r.length, l]) fun cdv A outer s H vs Q E hr ⟨ι, M, ds, SR, r, l, h⟩ => ?_
 refine ⟨_, hb cdv A outer s H E hr, ι, M, ds.map some ++ List.replicate (N.length - ps.length) none, SR, ?_, ?_⟩
 ·have e : L2.start N vs = vs.map some ++ List.replicate (N.length - ps.length) none := by unfold L2.start; rw [r.length, l]
  rw [e]
  exact ZaW.start r _
 ·unfold mkF at h
  rw [if_pos l] at h
  cases q : body (ds.map some ++ List.replicate (N.length - ps.length) none) M with
  | nx env' M' => rw [q] at h; exact fun σ' H' ι' x S' E' => ZfW SR x S' Rep.non h
  | rt d M' => rw [q] at h; exact fun v H' ι' x S' r' => ZfW SR x S' r' h
  | bk _ _ => rw [q] at h; exact h.elim
  | ct _ _ => rw [q] at h; exact h.elim
  | exc _ _ => rw [q] at h; exact h.elim
  | bad => rw [q] at h; exact h.elim
def Fn3 (P : Program) (w : World) (K : PySem.W.Frag) (mg : Str → Option Value) (base : Heap) (k : Nat) (x : Str) (ps : List Str) (F : F3) : Prop :=
 (∀ ds M, ds.length ≠ ps.length → F ds M = .bad) ∧ ∃ f fd, mg x = some (.ref f) ∧ PySem.W.keepIn K (.ref f) = true ∧ Binds K fd ps [] ∧ Zdn P w K mg base CX0 k f fd ps (sp3 K ps.length F)
def ZaB (K : PySem.W.Frag) (mg : Str → Option Value) (x : Str) (st : Stmt) (ps : List Str) : Prop := ∃ f fd, Fun K x x st f fd ∧ mg x = some (.ref f) ∧ Binds K fd ps []
theorem Fn3.mono {j k : Nat} {x : Str} {ps : List Str} {F : F3} (h : Fn3 P w K mg base j x ps F) (l : j ≤ k) : Fn3 P w K mg base k x ps F :=
 let ⟨n, f, fd, a, b, c, d⟩ := h; ⟨n, f, fd, a, b, c, d.mono l⟩
theorem Fn3.of {x : Str} {st : Stmt} {N ps : List Str} {k : Nat} {body : S3} (d : ZaB K mg x st ps) (S : Zam N ps (Zh st))
  (hb : ∀ (f : Addr) (cdv : Value) (A : Around) (outer : List Env) (s : Shared) (H : Hp) (E : XK), ZbK k (A.deeper (envOfC x (Zh st) s.heap.objs.size f cdv)) → CSs (Zfi CX0 P w K mg base N x (Zh st) f cdv A outer s H E).nox (Zac st) body) :
  Fn3 P w K mg base (k + 1) x ps (mkF ps.length N.length body) := by
 obtain ⟨f, fd, F, m, bi⟩ := d
 exact ⟨fun ds M h => if_neg h, f, fd, m, F.kp, bi, fn3 F S (hb f)⟩
end
section
variable {X : Cx} {e : Expr} {es : List Expr} {pos p : Pos} {gl : EL3} {x : Str} {k : Nat} {ps : List Str} {F : F3}
theorem Zad (G : Fn3 X.prog X.w X.K X.mg X.base k x ps F) (hr : ZbK k X.A) (ha : CA X (e :: es) gl) (hg : Gl X x := by rfl) (hdb : (x == ("__debug__" : Str)) = false := by decide)
  (he : starEach (e :: es) X.env = (false, eval e X.env) :: starEach es X.env := by rfl) (hpl : (backTo pos (starEach es X.env)).any (·.1) = false := by rfl) : C3 X (.Call (.Name x p) (e :: es) [] pos) (Zt F gl) := by
 obtain ⟨hn, f, fd, m, kp, bi, ok⟩ := G
 refine (Zh8 ok hr hg m kp bi .nil ZkN ha hdb he hpl).imp fun σ H Q ⟨ι, M, env, S, E, h⟩ => ?_
 obtain ⟨ds, M1, e1, h⟩ := Zv.bind h
 refine ⟨ι, M, env, S, E, ?_⟩
 rw [e1]
 intro vs H1 ι1 x1 S1 r1
 have hl : ds.length = ps.length := by
  refine Decidable.byContradiction fun q => ?_
  rw [hn ds M1 q] at h
  exact h.elim
 exact ⟨ι1, M1, ds, S1, by rw [List.append_nil]; exact r1, hl, h.up x1⟩
end
end L3
namespace L3
open PySem PySem.Spec PyProof.Rows L2
def tGf (K : PySem.W.Frag) (g : G3) : TG := fun v σ H Q => ∃ ι M env d env', Zx K H ι M ∧ ZaW K H ι env σ ∧ Rep K H ι d v ∧ g d env = some env' ∧ ∀ σ', ZaW K H ι env' σ' → Q σ' H
def tGs (K : PySem.W.Frag) (is : List Nat) : TGs := fun vs σ H Q => ∃ ι M env ds env', Zx K H ι M ∧ ZaW K H ι env σ ∧ Zj K H ι ds vs ∧ bindAll is ds env = some env' ∧ ∀ σ', ZaW K H ι env' σ' → Q σ' H
def CG (X : Cx) (tg : Expr) (g : G3) : Prop := PG X tg (tGf X.K g)
def CGs (X : Cx) (tg : List Expr) (is : List Nat) : Prop := PGs X tg (tGs X.K is)
theorem PG.imp {X : Cx} {e : Expr} {t t' : TG} (h : PG X e t) (i : ∀ v σ H Q, t' v σ H Q → t v σ H Q) : PG X e t' := fun pins s σ H v u Q I r q => h pins s σ H v u Q I r (i v σ H Q q)
theorem PGs.imp {X : Cx} {e : List Expr} {t t' : TGs} (h : PGs X e t) (i : ∀ v σ H Q, t' v σ H Q → t v σ H Q) : PGs X e t' := fun pins s σ H v u Q I r q => h pins s σ H v u Q I r (i v σ H Q q)
section
variable {X : Cx} {e : Expr} {es : List Expr} {pos : Pos}
theorem ZbR (i : Nat) {x : Str} (hN : X.N.Nodup) (hi : X.N[i]? = some x := by rfl) (hx : Loc X.env.scope x := by first | exact Or.inl rfl | exact Or.inr rfl)
  (hf : X.fn x = true ∨ X.env.scope.names.lookup x = some .local := by first | exact .inl rfl | exact .inr rfl) : CG X (.Name x pos) (Zb1 i) := PG.imp (Zf9 hN hi hx hf) fun v σ H Q ⟨ι, M, env, d, env', S, E, r, q, h⟩ => by
 cases q
 exact h _ (E.set i r)
theorem Zf8 : CGs X [] [] := PGs.imp ZhZ fun v σ H Q ⟨ι, M, env, ds, env', S, E, r, q, h⟩ => by
 cases ds with
 | nil => cases q; exact ⟨r.nil_inv, h σ E⟩
 | cons d ds => cases q
theorem Zdb (i : Nat) {is : List Nat} {x : Str} (hN : X.N.Nodup) (ht : CGs X es is) (hi : X.N[i]? = some x := by rfl) (hx : Loc X.env.scope x := by first | exact Or.inl rfl | exact Or.inr rfl)
  (hf : X.fn x = true ∨ X.env.scope.names.lookup x = some .local := by first | exact .inl rfl | exact .inr rfl) (hs : (assignEach (.Name x pos :: es) X.env).map (·.2) = assign (.Name x pos) X.env :: (assignEach es X.env).map (·.2) := by rfl) :
  CGs X (.Name x pos :: es) (i :: is) := PGs.imp (ZgZ (Zf9 hN hi hx hf) ht hs) fun v σ H Q ⟨ι, M, env, ds, env', S, E, r, q, h⟩ => by
 cases ds with
 | nil => cases q
 | cons d ds =>
  obtain ⟨v, ws, rfl, r1, r2⟩ := r.cons_inv
  exact ⟨v, ws, rfl, ι, M, env.set i (some d), ds, env', S, E.set i r1, r2, q, h⟩
theorem Zg2 {is : List Nat} {k : Nat} (hc : X.calm = true) (h : CGs X es is) (hl : es.length = is.length := by rfl) (hn : (assignEach es X.env).length = is.length := by rfl) (hst : (assignEach es X.env).findIdx? (·.1) = none := by rfl) : CG X (.Tuple es k pos) (ZeZ is) :=
 PG.imp (ZiT (n := is.length) hc h hn hst) fun v σ H Q ⟨ι, M, env, d, env', S, E, r, q, h⟩ => by
  cases d with
  | tup ds =>
   obtain ⟨a, vs, rfl, s, r⟩ := r.tup_inv
   have hlen : ∀ (is : List Nat) (ds : List D) (env env' : Zaa), bindAll is ds env = some env' → ds.length = is.length := by
    intro is
    induction is with
    | nil => intro ds env env' h; cases ds with | nil => rfl | cons d ds => cases h
    | cons i is ih => intro ds env env' h; cases ds with | nil => cases h | cons d ds => simp [ih ds _ _ h]
   exact ⟨a, vs, rfl, s, by rw [r.length]; exact hlen _ _ _ _ q, ι, M, env, ds, env', S, E, r, q, h⟩
  | _ => cases q
end
def ZgJ (K : PySem.W.Frag) (H : Hp) (ι : List Addr) (it : It3) (J : It) : Prop := ∀ (i : Nat) H2 ι2 M2, Ext K H ι H2 ι2 → Zx K H2 ι2 M2 → locked it M2 = true →
 (∀ d, it.items[i]? = some d → J.go i H2 ∧ ∀ x H3, J.yld i H2 x H3 → H3 = H2 ∧ Rep K H2 ι2 d x) ∧ (i = it.items.length → J.stop i H2)
def Ze4 (K : PySem.W.Frag) (H : Hp) (ι : List Addr) (R : It → Hp → Prop) (r : R3 It3) : Prop := match r with
 | .ok it M' => ∀ J H' ι', Ext K H ι H' ι' → Zx K H' ι' M' → ZgJ K H' ι' it J → R J H'
 | _ => False
def tIf (K : PySem.W.Frag) (g : I3) : TI := fun σ H R => ∃ ι M env, Zx K H ι M ∧ ZaW K H ι env σ ∧ Ze4 K H ι R (g env M)
def CI (X : Cx) (tg e : Expr) (g : I3) : Prop := PI X tg e (tIf X.K g)
theorem PI.imp {X : Cx} {tg e : Expr} {t t' : TI} (h : PI X tg e t) (i : ∀ σ H Q, t' σ H Q → t σ H Q) : PI X tg e t' := fun pins s σ H Q I q => h pins s σ H Q I (i σ H Q q)
theorem PI.or {X : Cx} {tg e : Expr} {t t' : TI} (h : PI X tg e t) (h' : PI X tg e t') : PI X tg e (fun σ H R => t σ H R ∨ t' σ H R) := fun pins s σ H Q I q => q.elim (h pins s σ H Q I) (h' pins s σ H Q I)
theorem Ze4.bind {K : PySem.W.Frag} {H : Hp} {ι : List Addr} {α : Type} {Q : It → Hp → Prop} {r : R3 α} {k : α → Store → R3 It3} (h : Ze4 K H ι Q (r.bind k)) : ∃ a M, r = .ok a M ∧ Ze4 K H ι Q (k a M) := by
 cases r with
 | ok a M => exact ⟨a, M, rfl, h⟩
 | exc x M => exact h.elim
 | bad => exact h.elim
section
variable {K : PySem.W.Frag} {H : Hp} {ι : List Addr}
end
section
variable {X : Cx} {tg e a b : Expr} {pos p : Pos} {f g : E3}
theorem ZjD (h : C3 X e f) (hs : PI X tg e (fun σ H R => tOf X.K f σ H fun x H1 => ∃ z : Str, x = .str z ∧ z.length ≤ SZ ∧ ∀ J, (∀ ι, ZgJ X.K H1 ι ⟨z.cps.toList.map fun c => .str [c], none⟩ J) → R J H1)) : CI X tg e (Zfh f) :=
 PI.imp (PI.or (Zi0 h) (PI.or (Zh4 h) hs)) fun σ H R ⟨ι, M, env, S, E, h⟩ => by
  obtain ⟨d, M1, e1, h⟩ := Ze4.bind h
  cases d with
  | tup ds =>
   refine .inl ⟨ι, M, env, S, E, ?_⟩
   rw [e1]
   intro v H1 ι1 x1 S1 r1
   obtain ⟨a, vs, rfl, s, r⟩ := r1.tup_inv
   refine ⟨a, rfl, ⟨vs, s⟩, h _ H1 ι1 x1 S1 ?_⟩
   intro i H2 ι2 M2 x S2 _
   refine ⟨fun d hd => ?_, fun hl => ⟨vs, x.tup _ _ s, by rw [r.length, hl]; exact Nat.le_refl _⟩⟩
   obtain ⟨v, hv, rv⟩ := r.get hd
   refine ⟨⟨vs, v, x.tup _ _ s, hv⟩, fun y H3 hy => ⟨hy.1, ?_⟩⟩
   have e := hy.2 vs (x.tup _ _ s)
   rw [hv] at e
   cases e
   exact rv.mono x
  | scr ds =>
   refine .inr (.inl ⟨ι, M, env, S, E, ?_⟩)
   rw [e1]
   intro v H1 ι1 x1 S1 r1
   obtain ⟨a, vs, rfl, s, r⟩ := r1.scr_inv
   refine ⟨a, rfl, ⟨vs, s.sq⟩, h _ H1 ι1 x1 S1 ?_⟩
   intro i H2 ι2 M2 x S2 _
   refine ⟨fun d hd => ?_, fun hl => ⟨vs, (x.scr _ _ s).sq, by rw [r.length, hl]; exact Nat.le_refl _⟩⟩
   obtain ⟨v, hv, rv⟩ := r.get hd
   refine ⟨⟨vs, v, (x.scr _ _ s).sq, hv⟩, fun y H3 hy => ⟨hy.1, ?_⟩⟩
   have e := hy.2 vs (x.scr _ _ s).sq
   rw [hv] at e
   cases e
   exact rv.mono x
  | ref n =>
   refine .inr (.inl ⟨ι, M, env, S, E, ?_⟩)
   rw [e1]
   intro v H1 ι1 x1 S1 r1
   cases hm : M1[n]? with
   | none => simp only [hm] at h; exact h.elim
   | some o =>
    cases o with
    | dct kvs => simp only [hm] at h; exact h.elim
    | fdct kvs => simp only [hm] at h; exact h.elim
    | lst ds =>
     simp only [hm] at h
     obtain ⟨a, ha, rfl⟩ := r1.ref_inv
     obtain ⟨vs, q, r⟩ := S1.obj n _ a hm ha
     refine ⟨a, rfl, ⟨vs, SqL.of q⟩, h _ H1 ι1 x1 S1 ?_⟩
     intro i H2 ι2 M2 x S2 lk
     have lk' : M2[n]? = some (.lst ds) := of_decide_eq_true lk
     obtain ⟨vs2, q2, r2⟩ := S2.obj n _ a lk' (x.pre _ _ ha)
     refine ⟨fun d hd => ?_, fun hl => ⟨vs2, SqL.of q2, by rw [r2.length, hl]; exact Nat.le_refl _⟩⟩
     obtain ⟨v, hv, rv⟩ := r2.get hd
     refine ⟨⟨vs2, v, SqL.of q2, hv⟩, fun y H3 hy => ⟨hy.1, ?_⟩⟩
     have e := hy.2 vs2 (SqL.of q2)
     rw [hv] at e
     cases e
     exact rv
  | str z =>
   refine .inr (.inr ⟨ι, M, env, S, E, ?_⟩)
   rw [e1]
   intro v H1 ι1 x1 S1 r1
   have hv := r1.str_inv
   subst hv
   by_cases hz : z.length ≤ SZ
   ·simp only [if_pos hz] at h
    refine ⟨_, rfl, by simpa [Str.length] using hz, fun J hJ => h J H1 ι1 x1 S1 ?_⟩
    simpa using hJ ι1
   ·simp only [if_neg hz] at h; exact h.elim
  | non => exact h.elim
  | bl b => exact h.elim
  | int i => exact h.elim
theorem Zfm {K : PySem.W.Frag} {H : Hp} {ι : List Addr} (lo : Int) (n : Nat) : ZgJ K H ι ⟨Zb2 lo n, none⟩ (Itr lo n) := by
 intro i H2 ι2 M2 x S _
 refine ⟨fun d hd => ?_, fun hl => ?_⟩
 ·unfold Zb2 at hd
  rw [List.getElem?_map] at hd
  cases q : (List.range n)[i]? with
  | none => rw [q] at hd; cases hd
  | some k =>
   rw [q] at hd
   obtain ⟨hi, e⟩ := List.getElem?_eq_some_iff.mp q
   rw [List.getElem_range] at e
   subst e
   have hd' : D.int (lo + (i : Int)) = d := by simpa using hd
   subst hd'
   exact ⟨(by show i < n; simpa using hi), fun y H3 hy => ⟨hy.1, by rw [hy.2]; exact Rep.int⟩⟩
 ·show n ≤ i
  rw [hl]
  simp [Zb2]
theorem Zcj (hm : X.mg "range" = none) (h : C3 X a f) (hg : Gl X "range" := by rfl) (hs : starEach [a] X.env = [(false, eval a X.env)] := by rfl) (hs' : starEach (a :: []) X.env = (false, eval a X.env) :: starEach [] X.env := by rfl) : CI X tg (.Call (.Name "range" p) [a] [] pos) (Za2 f) :=
 PI.imp (ZgG hg hm (Zc h Zf hs') hs) fun σ H R ⟨ι, M, env, S, E, h⟩ => by
  obtain ⟨d, M1, e1, h⟩ := Ze4.bind h
  refine ⟨ι, M, env, S, E, ?_⟩
  have e2 : Za f Ze env M = .ok [d] M1 := by unfold Za; rw [e1]; rfl
  rw [e2]
  intro vs H1 ι1 x1 S1 r1
  obtain ⟨v, ws, rfl, r, q⟩ := r1.cons_inv
  have := q.nil_inv
  subst this
  cases d with
  | int j =>
   have hv := r.int_inv
   subst hv
   by_cases hj : j ≤ 1000000 ∧ -1000000 ≤ j
   ·simp only [if_pos hj] at h
    exact ⟨j, rfl, by omega, by omega, h _ H1 ι1 x1 S1 (Zfm 0 j.toNat)⟩
   ·simp only [if_neg hj] at h; exact h.elim
  | _ => exact h.elim
theorem Zgo (hm : X.mg "range" = none) (h : C3 X a f) (h' : C3 X b g) (hg : Gl X "range" := by rfl) (hs : starEach [a, b] X.env = [(false, eval a X.env), (false, eval b X.env)] := by rfl) (hs2 : starEach [b] X.env = [(false, eval b X.env)] := by rfl)
  (hs' : starEach (b :: []) X.env = (false, eval b X.env) :: starEach [] X.env := by rfl) (hs3 : starEach (a :: [b]) X.env = (false, eval a X.env) :: starEach [b] X.env := by rfl) : CI X tg (.Call (.Name "range" p) [a, b] [] pos) (ZdO f g) :=
 PI.imp (Zgl hg hm (Zc h (Zc h' Zf hs') hs3) hs hs2) fun σ H R ⟨ι, M, env, S, E, h⟩ => by
  obtain ⟨d, M1, e1, h⟩ := Ze4.bind h
  obtain ⟨d', M2, e2, h⟩ := Ze4.bind h
  refine ⟨ι, M, env, S, E, ?_⟩
  have e3 : Za f (Za g Ze) env M = .ok [d, d'] M2 := by
   unfold Za
   rw [e1]
   show ((Za g Ze env M1).bind _) = _
   unfold Za
   rw [e2]
   rfl
  rw [e3]
  intro vs H1 ι1 x1 S1 r1
  obtain ⟨v, ws, rfl, r, q⟩ := r1.cons_inv
  obtain ⟨v', ws', rfl, r', q⟩ := q.cons_inv
  have := q.nil_inv
  subst this
  cases d with
  | int i =>
   cases d' with
   | int j =>
    have hv := r.int_inv
    have hv' := r'.int_inv
    subst hv hv'
    by_cases hj : (j ≤ 1000000 ∧ -1000000 ≤ j) ∧ (i ≤ 1000000 ∧ -1000000 ≤ i)
    ·simp only [if_pos hj] at h
     exact ⟨i, j, rfl, ⟨by omega, by omega, by omega, by omega⟩, h _ H1 ι1 x1 S1 (Zfm i (j - i).toNat)⟩
    ·simp only [if_neg hj] at h; exact h.elim
   | _ => exact h.elim
  | _ => exact h.elim
theorem Zdp {iter : Expr} {body : List Stmt} {i : I3} {g : G3} {u : S3} (hxe : X.xe = fun _ _ => False) (hc : X.calm = true) (hi : CI X tg iter i) (hg : CG X tg g) (hb : CSs X body u) (hs : ∀ x, foldedSetIterable iter X.env x = pure x := by intro _; rfl) :
  CS X (.For tg iter body [] pos) (Zd6 i g u) := (Zjw (by rw [hxe]; exact PassesOwn.never) hc hi hg hb hs).imp fun D σ H ⟨ι, M, env, S, E, h⟩ => by
 unfold Zd6 at h
 cases q : i env M with
 | exc x M1 => rw [q] at h; exact h.elim
 | bad => rw [q] at h; exact h.elim
 | ok it M1 =>
  rw [q] at h
  refine ⟨ι, M, env, S, E, ?_⟩
  rw [q]
  intro J H1 ι1 x1 S1 ok
  refine ⟨fun i m σ2 H2 => m = it.items.length - i ∧ i ≤ it.items.length ∧ ∃ ι2 M2 env2, Ext X.K H1 ι1 H2 ι2 ∧ Zx X.K H2 ι2 M2 ∧ ZaW X.K H2 ι2 env2 σ2 ∧ ZeM X.K H2 ι2 D (ZcE it g u (it.items.drop i) env2 M2),
   ⟨_, rfl, Nat.zero_le _, ι1, M1, env, Ext.refl, S1, E.mono x1, ZeM.up x1 h⟩, ?_⟩
  rintro i m σ2 H2 ⟨rfl, hi, ι2, M2, env2, x2, S2, E2, h2⟩
  by_cases hlt : i < it.items.length
  ·have hd : it.items[i]? = some it.items[i] := by simp [hlt]
   rw [List.drop_eq_getElem_cons hlt] at h2
   unfold ZcE at h2
   by_cases lk : locked it M2 = true
   ·rw [if_pos lk] at h2
    obtain ⟨go, yl⟩ := (ok i H2 ι2 M2 x2 S2 lk).1 _ hd
    cases eg : g it.items[i] env2 with
    | none => rw [eg] at h2; exact h2.elim
    | some env3 =>
     rw [eg] at h2
     refine .inr ⟨go, fun σ' H' => ∃ ι3 M3 env4, Ext X.K H2 ι2 H' ι3 ∧ Zx X.K H' ι3 M3 ∧ ZaW X.K H' ι3 env4 σ' ∧ ZeM X.K H' ι3 D (ZcE it g u (it.items.drop (i + 1)) env4 M3),
      fun σ' H' ⟨ι3, M3, env4, x3, S3, E3, h3⟩ => ⟨it.items.length - (i + 1), by omega, rfl, hlt, ι3, M3, env4, x2.trans x3, S3, E3, h3⟩, fun x H' hy => ?_⟩
     obtain ⟨rfl, rx⟩ := yl x H' hy
     refine ⟨ι2, M2, env2, _, env3, S2, E2, rx, eg, fun σ' E' => ⟨ι2, M2, env3, S2, E', ?_⟩⟩
     cases qu : u env3 M2 with
     | nx e' M' => simp only [qu] at h2; exact fun σ' H' ι' x' S' E' => ⟨ι', M', e', x', S', E', h2.up x'⟩
     | ct e' M' => simp only [qu] at h2; exact fun σ' H' ι' x' S' E' => ⟨ι', M', e', x', S', E', h2.up x'⟩
     | bk e' M' => simp only [qu] at h2; exact h2
     | rt d M' => simp only [qu] at h2; exact h2
     | exc x' M' => simp only [qu] at h2; exact h2.elim
     | bad => simp only [qu] at h2; exact h2.elim
   ·rw [if_neg lk] at h2; exact h2.elim
  ·have e0 : i = it.items.length := by omega
   subst e0
   rw [List.drop_length] at h2
   unfold ZcE at h2
   by_cases lk : locked it M2 = true
   ·rw [if_pos lk] at h2
    exact .inl ⟨(ok _ H2 ι2 M2 x2 S2 lk).2 rfl, h2 σ2 H2 ι2 Ext.refl S2 E2⟩
   ·rw [if_neg lk] at h2; exact h2.elim
end
end L3
namespace L3
open PySem PySem.Spec PyProof.Rows L2
theorem ZcY {x y : List Nat} : decide (V.str ⟨x.toArray⟩ = V.str ⟨y.toArray⟩) = (x == y) := by
 by_cases h : x = y
 ·subst h; simp
 ·rw [decide_eq_false (fun e => h (by injection e with e1; injection e1 with e2; simpa using congrArg Array.toList e2))]
  exact (beq_eq_false_iff_ne.mpr h).symm
section
variable {X : Cx}
theorem Zhc : OpR X (binaryOp .Add) (fun x y H Q => ∃ a b ys, x = .ref a ∧ y = .ref b ∧ SqT X.K H a [] ∧ SqT X.K H b ys ∧ Q (.ref b) H) := by
 intro pins s σ H x y v u Q I rx ry h
 obtain ⟨a, b, ys, rfl, rfl, ha, hb, q⟩ := h
 cases rx
 cases ry
 obtain ⟨its, r1, p1, _⟩ := I.tuple ha
 obtain ⟨its2, r2, p2, _⟩ := I.tuple hb
 cases r1
 obtain ⟨⟨cls, dd, data, sl⟩, ho, hc, n, hd⟩ := id p1
 obtain ⟨⟨cls2, dd2, data2, sl2⟩, ho2, hc2, n2, hd2⟩ := id p2
 simp only at hc hd hc2 hd2
 subst hc hd hc2 hd2
 exact concat_meets ⟨_, ho, rfl⟩ ⟨_, ho2, rfl⟩ noFill_tuple_add seq_tuple_add PySem.F.slot_tuple_add PySem.F.entry_tuple_add (PySem.F.args_tuple_add_2 _ _)
   (tuple_addW0 a b _ its2.toArray n n2 dd dd2 sl sl2 (by simp)) ⟨ho, ho2, ⟨.ref b, H, I, rfl, q⟩⟩
theorem ZhO (x y : List Nat) : (⟨x.toArray⟩ : Str) ++ ⟨y.toArray⟩ = ⟨(x ++ y).toArray⟩ := by
 show Str.append _ _ = _
 unfold Str.append
 simp
theorem Za9 : OpR X (binaryOp .Add) (r2 X.K Zu) := OpR.imp (OpR.or ZjO (OpR.or ZfH (OpR.or ZiQ (OpR.or ZhS Zhc)))) fun x y H Q ⟨ι, M, a, b, S, ra, rb, h⟩ => by
 cases a with
 | int i => cases b with
  | int j => exact .inl ⟨i, j, ra.int_inv, rb.int_inv, Zv.ok h S Rep.int⟩
  | _ => exact h.elim
 | str x => cases b with
  | str y =>
   simp only [Zu] at h
   split at h
   ·rename_i hz
    refine .inr (.inl ⟨_, _, ra.str_inv, rb.str_inv, ?_, ?_⟩)
    ·have := ZaK
     simp only [Str.length, List.size_toArray]
     omega
    ·rw [ZhO]; exact Zv.ok h S Rep.str
   ·exact h.elim
  | _ => exact h.elim
 | tup x => cases b with
  | tup y =>
   simp only [Zu] at h
   split at h
   ·rename_i hz
    obtain ⟨p, vs, rfl, s, r⟩ := ra.tup_inv
    obtain ⟨q, ws, rfl, s', r'⟩ := rb.tup_inv
    by_cases hv : vs = []
    ·subst hv
     have hx : x = [] := by have := r.length; simpa using this.symm
     subst hx
     exact .inr (.inr (.inr (.inr ⟨p, q, ws, rfl, rfl, s, s', Zv.ok h S (Rep.tup s' r')⟩)))
    ·refine .inr (.inr (.inr (.inl ⟨p, q, vs, ws, rfl, rfl, s, s', hv, ?_, fun hw => ?_, fun hw p' hp => ?_⟩)))
     ·have := ZaK
      rw [r.length, r'.length]
      omega
     ·subst hw
      have hy : y = [] := by have := r'.length; simpa using this.symm
      subst hy
      rw [List.append_nil] at h
      exact Zv.ok h S (Rep.tup s r)
     ·obtain ⟨x2, S2, r2⟩ := S.tupl hp (r.append r')
      exact h _ _ _ x2 S2 r2
   ·exact h.elim
  | _ => exact h.elim
 | ref n => cases b with
  | ref m =>
   simp only [Zu] at h
   cases hn : M[n]? with
   | none => simp only [hn] at h; exact h.elim
   | some o =>
    cases o with
    | dct _ => simp only [hn] at h; exact h.elim
    | fdct _ => simp only [hn] at h; exact h.elim
    | lst x =>
     cases hm : M[m]? with
     | none => simp only [hn, hm] at h; exact h.elim
     | some o =>
      cases o with
      | dct _ => simp only [hn, hm] at h; exact h.elim
      | fdct _ => simp only [hn, hm] at h; exact h.elim
      | lst y =>
       simp only [hn, hm] at h
       split at h
       ·rename_i hz
        obtain ⟨p, hp, rfl⟩ := ra.ref_inv
        obtain ⟨q, hq, rfl⟩ := rb.ref_inv
        obtain ⟨vs, e1, r1⟩ := S.obj n _ p hn hp
        obtain ⟨ws, e2, r2⟩ := S.obj m _ q hm hq
        refine .inr (.inr (.inl ⟨p, q, vs, ws, rfl, rfl, e1, e2, ?_, fun p' hp' => ?_⟩))
        ·have := ZaK
         rw [r1.length, r2.length]
         omega
        ·obtain ⟨x2, S2, r3⟩ := S.lst hp' (r1.append r2)
         exact h _ _ _ x2 S2 r3
       ·exact h.elim
  | _ => exact h.elim
 | _ => cases b <;> exact h.elim
theorem ZdB : OpR X (binaryOp .Sub) (r2 X.K ZbL) := OpR.imp Zjy fun x y H Q ⟨ι, M, a, b, S, ra, rb, h⟩ => by
 cases a <;> cases b <;> first | exact h.elim | exact ⟨_, _, ra.int_inv, rb.int_inv, Zv.ok h S Rep.int⟩
theorem Zbv : OpR X (binaryOp .Mod) (r2 X.K Zab) := OpR.imp ZjJ fun x y H Q ⟨ι, M, a, b, S, ra, rb, h⟩ => by
 cases a with
 | int i => cases b with
  | int j =>
   simp only [Zab] at h
   split at h
   ·rename_i hj
    exact ⟨i, j, ra.int_inv, rb.int_inv, hj, Zv.ok h S Rep.int⟩
   ·exact h.elim
  | _ => exact h.elim
 | _ => cases b <;> exact h.elim
theorem ZbU : OpR X (binaryOp .FloorDiv) (r2 X.K Zay) := OpR.imp Zia fun x y H Q ⟨ι, M, a, b, S, ra, rb, h⟩ => by
 cases a with
 | int i => cases b with
  | int j =>
   simp only [Zay] at h
   split at h
   ·rename_i hj
    exact ⟨i, j, ra.int_inv, rb.int_inv, hj, Zv.ok h S Rep.int⟩
   ·exact h.elim
  | _ => exact h.elim
 | _ => cases b <;> exact h.elim
theorem ZiB : OpR X (binaryOp .Pow) (r2 X.K Zgf) := OpR.imp Zjm fun x y H Q ⟨ι, M, a, b, S, ra, rb, h⟩ => by
 cases a with
 | int i => cases b with
  | int j =>
   simp only [Zgf] at h
   split at h
   ·rename_i hj
    exact ⟨i, j, ra.int_inv, rb.int_inv, ⟨hj.1, by omega, by have := hj.2.2; omega⟩, Zv.ok h S Rep.int⟩
   ·exact h.elim
  | _ => exact h.elim
 | _ => cases b <;> exact h.elim
theorem Zit : UnR X (unaryOp .USub) (r1 X.K Zer) := UnR.imp ZjI fun x H Q ⟨ι, M, a, S, ra, h⟩ => by
 cases a with
 | int i => exact ⟨i, ra.int_inv, Zv.ok h S Rep.int⟩
 | _ => exact h.elim
theorem Zkf : OpR X (compareOp .Lt) (r2 X.K Zh5) := OpR.imp Zks fun x y H Q ⟨ι, M, a, b, S, ra, rb, h⟩ => by
 cases a <;> cases b <;> first | exact h.elim | exact ⟨_, _, ra.int_inv, rb.int_inv, Zv.ok h S Rep.bl⟩
theorem ZjH : OpR X (compareOp .Gt) (r2 X.K ZfO) := OpR.imp ZkM fun x y H Q ⟨ι, M, a, b, S, ra, rb, h⟩ => by
 cases a <;> cases b <;> first | exact h.elim | exact ⟨_, _, ra.int_inv, rb.int_inv, Zv.ok h S Rep.bl⟩
end
theorem units_in1 (A : Around) : A.in1.units = A.units + 1 := rfl
section
variable {X : Cx} {pins : List (Addr × Obj)} {σ : St} {H : Hp} {s : Shared} {ι : List Addr}
theorem Zbt {e : Nat → Bool} : ∀ {x y : List D}, x.length = y.length → (∀ (j : Nat) a b, x[j]? = some a → y[j]? = some b → e j = deq a b) → (List.range x.length).all e = Zbx x y := by
 intro x
 induction x generalizing e with
 | nil => intro y h _; cases y with | nil => rfl | cons _ _ => simp at h
 | cons a x ih =>
  intro y h he
  cases y with
  | nil => simp at h
  | cons b y =>
   rw [List.length_cons, List.range_succ_eq_map, List.all_cons, List.all_map, he 0 a b rfl rfl]
   rw [Zbx]
   congr 1
   exact ih (e := e ∘ Nat.succ) (by simpa using h) fun j a' b' h1 h2 => he (j + 1) a' b' (by simpa using h1) (by simpa using h2)
theorem Zcp : ∀ {x y : List D}, Zbx x y = true → x.length = y.length
 | [], [], _ => rfl
 | [], _ :: _, h => by simp [Zbx] at h
 | _ :: _, [], h => by simp [Zbx] at h
 | a :: x, b :: y, h => by
  simp only [Zbx, Bool.and_eq_true] at h
  simp [Zcp h.2]
theorem Rep.fun1 (I : Inv X pins σ H s) : ∀ (n : Nat) (a b : D) (v : V), Zr n a = true → Zr n b = true → Rep X.K H ι a v → Rep X.K H ι b v → deq a b = true := by
 intro n
 induction n with
 | zero =>
  intro a b v ha hb r q
  cases a with
  | non => have := r.non_inv; subst this; cases b <;> simp_all [Zr, Rep, deq]
  | bl x => have := r.bl_inv; subst this; cases b <;> simp_all [Zr, Rep, deq]
  | int x => have := r.int_inv; subst this; cases b <;> simp_all [Zr, Rep, deq]
  | str x => have := r.str_inv; subst this; cases b <;> simp_all [Zr, Rep, deq]
  | _ => simp [Zr] at ha
 | succ n ih =>
  intro a b v ha hb r q
  cases a with
  | non => have := r.non_inv; subst this; cases b <;> simp_all [Zr, Rep, deq]
  | bl x => have := r.bl_inv; subst this; cases b <;> simp_all [Zr, Rep, deq]
  | int x => have := r.int_inv; subst this; cases b <;> simp_all [Zr, Rep, deq]
  | str x => have := r.str_inv; subst this; cases b <;> simp_all [Zr, Rep, deq]
  | tup ds =>
   obtain ⟨p, vs, rfl, s1, r1⟩ := r.tup_inv
   cases b with
   | tup es =>
    obtain ⟨p', ws, e, s2, r2⟩ := q.tup_inv
    cases e
    have e := I.tuple_inj s1 s2
    subst e
    rw [deq]
    have h1 : ds.all (Zr n) = true := ha
    have h2 : es.all (Zr n) = true := hb
    have key : ∀ (ds es : List D) (vs : List V), ds.all (Zr n) = true → es.all (Zr n) = true → Zj X.K H ι ds vs → Zj X.K H ι es vs → Zbx ds es = true := by
     intro ds
     induction ds with
     | nil => intro es vs _ _ r1 r2; have := r1.nil_inv; subst this; cases es with | nil => rfl | cons _ _ => obtain ⟨_, _, e, _⟩ := r2.cons_inv; cases e
     | cons d ds ih2 =>
      intro es vs h1 h2 r1 r2
      obtain ⟨v, ws, rfl, q1, q2⟩ := r1.cons_inv
      cases es with
      | nil => have := r2.nil_inv; cases this
      | cons e es =>
       obtain ⟨v', ws', z, q3, q4⟩ := r2.cons_inv
       cases z
       rw [List.all_cons, Bool.and_eq_true] at h1 h2
       rw [Zbx, ih d e v h1.1 h2.1 q1 q3, ih2 es ws h1.2 h2.2 q2 q4]
       rfl
    exact key ds es vs h1 h2 r1 r2
   | non => have := q.non_inv; cases this
   | bl _ => have := q.bl_inv; cases this
   | int _ => have := q.int_inv; cases this
   | str _ => have := q.str_inv; cases this
   | _ => simp [Zr] at hb
  | _ => simp [Zr] at ha
theorem Zcs (A : Around) (a b : D) (x y : V) (u v : Value) (ha : Zcm a = true) (hb : Zcm b = true) (ra : Rep X.K H ι a x) (rb : Rep X.K H ι b y) (ru : RelV x u) (rv : RelV y v) : SeqAt.EqAt A s u v (deq a b) := by
 cases a with
 | non => have := ra.non_inv; subst this; cases ru; cases b with
  | non => have := rb.non_inv; subst this; cases rv; exact SeqAt.EqAt.same _
  | bl k => have := rb.bl_inv; subst this; cases rv; exact SeqAt.EqAt.none_bool _
  | int k => have := rb.int_inv; subst this; obtain ⟨t, rfl⟩ := rv; exact SeqAt.EqAt.none_int _ _
  | str k => have := rb.str_inv; subst this; obtain ⟨t, rfl⟩ := rv; exact SeqAt.EqAt.none_str _ _
  | _ => simp [Zcm] at hb
 | bl i => have := ra.bl_inv; subst this; cases ru; cases b with
  | non => have := rb.non_inv; subst this; cases rv; exact SeqAt.EqAt.bool_none _
  | bl k => have := rb.bl_inv; subst this; cases rv; exact SeqAt.EqAt.bool_bool _ _
  | int k => have := rb.int_inv; subst this; obtain ⟨t, rfl⟩ := rv; exact SeqAt.EqAt.bool_int _ _ _
  | str k => have := rb.str_inv; subst this; obtain ⟨t, rfl⟩ := rv; exact SeqAt.EqAt.bool_str _ _ _
  | _ => simp [Zcm] at hb
 | int i => have := ra.int_inv; subst this; obtain ⟨t0, rfl⟩ := ru; cases b with
  | non => have := rb.non_inv; subst this; cases rv; exact SeqAt.EqAt.int_none _ _
  | bl k => have := rb.bl_inv; subst this; cases rv; exact SeqAt.EqAt.int_bool _ _ _
  | int k => have := rb.int_inv; subst this; obtain ⟨t, rfl⟩ := rv; exact SeqAt.EqAt.int_int _ _ _ _
  | str k => have := rb.str_inv; subst this; obtain ⟨t, rfl⟩ := rv; exact SeqAt.EqAt.int_str _ _ _ _
  | _ => simp [Zcm] at hb
 | str i => have := ra.str_inv; subst this; obtain ⟨t0, rfl⟩ := ru; cases b with
  | non => have := rb.non_inv; subst this; cases rv; exact SeqAt.EqAt.str_none _ _
  | bl k => have := rb.bl_inv; subst this; cases rv; exact SeqAt.EqAt.str_bool _ _ _
  | int k => have := rb.int_inv; subst this; obtain ⟨t, rfl⟩ := rv; exact SeqAt.EqAt.str_int _ _ _ _
  | str k => have := rb.str_inv; subst this; obtain ⟨t, rfl⟩ := rv; exact (by
    have e : deq (.str i) (.str k) = ((⟨i.toArray⟩ : Str) == ⟨k.toArray⟩) := by
     rw [deq, ← ZcY]
     by_cases h : (⟨i.toArray⟩ : Str) = ⟨k.toArray⟩
     ·simp [h]
     ·simp [h]
    rw [e]
    exact SeqAt.EqAt.str_str _ _ _ _)
  | _ => simp [Zcm] at hb
 | _ => simp [Zcm] at ha
theorem ZeE (I : Inv X pins σ H s) : ∀ (n : Nat) (A : Around) (a b : D) (x y : V) (u v : Value), A.units + n + 1 < cLine → Zr n a = true → Zr n b = true → Rep X.K H ι a x → Rep X.K H ι b y → RelV x u → RelV y v → SeqAt.EqAt A s u v (deq a b) := by
 intro n
 induction n with
 | zero =>
  intro A a b x y u v hu ha hb ra rb ru rv
  have f : ∀ d : D, Zr 0 d = true → Zcm d = true := fun d h => by cases d <;> simp_all [Zr, Zcm]
  exact Zcs A a b x y u v (f a ha) (f b hb) ra rb ru rv
 | succ n ih =>
  intro A a b x y u v hu ha hb ra rb ru rv
  have hu0 : A.units + 0 + 1 < cLine := by omega
  have hu1 : A.units < cLine := by omega
  cases a with
  | tup ds =>
   obtain ⟨p, vs, rfl, s1, r1⟩ := ra.tup_inv
   cases ru
   obtain ⟨its, rvs, ht, _⟩ := I.tuple s1
   have it1 : s.heap.IsTuple p its.toArray := ht
   cases b with
   | tup es =>
    obtain ⟨p', ws, rfl, s2, r2⟩ := rb.tup_inv
    cases rv
    obtain ⟨its2, rws, ht2, _⟩ := I.tuple s2
    have it2 : s.heap.IsTuple p' its2.toArray := ht2
    by_cases hp : p = p'
    ·subst hp
     rw [Rep.fun1 I (n + 1) _ _ _ ha hb ra rb]
     exact SeqAt.EqAt.same _
    ·refine SeqAt.EqAt.of_refs hp ?_
     have e1 : its.length = ds.length := by rw [← rvs.length, r1.length]
     have e2 : its2.length = es.length := by rw [← rws.length, r2.length]
     have key : ((List.range (min its.toArray.size its2.toArray.size)).all (fun j => match ds[j]?, es[j]? with | some a, some b => deq a b | _, _ => false) && its.toArray.size == its2.toArray.size) = deq (.tup ds) (.tup es) := by
      rw [deq, List.size_toArray, List.size_toArray, e1, e2]
      by_cases hl : ds.length = es.length
      ·rw [hl, Nat.min_self, beq_self_eq_true, Bool.and_true, ← hl]
       exact Zbt hl fun j a b h1 h2 => by rw [h1, h2]
      ·have z : Zbx ds es = false := by
        cases q : Zbx ds es with
        | false => rfl
        | true => exact absurd (Zcp q) hl
       rw [z, beq_eq_false_iff_ne.mpr hl, Bool.and_false]
     rw [← key]
     refine SeqAt.RcAt.tuples it1 it2 hu1 fun j h1 h2 => ?_
     have h1' : j < ds.length := by rw [← e1]; simpa using h1
     have h2' : j < es.length := by rw [← e2]; simpa using h2
     have q1 : ds[j]? = some ds[j] := by simp [h1']
     have q2 : es[j]? = some es[j] := by simp [h2']
     rw [q1, q2]
     obtain ⟨v1, g1, z1⟩ := r1.get q1
     obtain ⟨v2, g2, z2⟩ := r2.get q2
     obtain ⟨u1, k1, l1⟩ := rvs.get g1
     obtain ⟨u2, k2, l2⟩ := rws.get g2
     have m1 : its.toArray[j] = u1 := by
      have := List.getElem?_eq_some_iff.mp k1
      simpa using this.2
     have m2 : its2.toArray[j] = u2 := by
      have := List.getElem?_eq_some_iff.mp k2
      simpa using this.2
     rw [m1, m2]
     exact ih A.in1 ds[j] es[j] v1 v2 u1 u2 (by rw [units_in1]; omega) (List.all_eq_true.mp (show ds.all (Zr n) = true from ha) _ (List.getElem_mem h1')) (List.all_eq_true.mp (show es.all (Zr n) = true from hb) _ (List.getElem_mem h2')) z1 z2 l1 l2
   | non => have := rb.non_inv; subst this; cases rv; exact SeqAt.EqAt.tuple_none it1 hu1
   | bl k => have := rb.bl_inv; subst this; cases rv; exact SeqAt.EqAt.tuple_bool _ it1 hu1
   | int k => have := rb.int_inv; subst this; obtain ⟨t, rfl⟩ := rv; exact SeqAt.EqAt.tuple_int _ _ it1 hu1
   | str k => have := rb.str_inv; subst this; obtain ⟨t, rfl⟩ := rv; exact SeqAt.EqAt.tuple_str _ _ it1 hu1
   | _ => simp [Zr] at hb
  | non => cases b with
   | tup es =>
    have := ra.non_inv; subst this; cases ru
    obtain ⟨p', ws, rfl, s2, r2⟩ := rb.tup_inv
    cases rv
    obtain ⟨its2, rws, ht2, _⟩ := I.tuple s2
    exact SeqAt.EqAt.none_tuple (show s.heap.IsTuple p' its2.toArray from ht2) hu1
   | scr _ => simp [Zr] at hb
   | ref _ => simp [Zr] at hb
   | _ => exact Zcs A _ _ x y u v (by rfl) (by rfl) ra rb ru rv
  | bl i => cases b with
   | tup es =>
    have := ra.bl_inv; subst this; cases ru
    obtain ⟨p', ws, rfl, s2, r2⟩ := rb.tup_inv
    cases rv
    obtain ⟨its2, rws, ht2, _⟩ := I.tuple s2
    exact SeqAt.EqAt.bool_tuple _ (show s.heap.IsTuple p' its2.toArray from ht2) hu1
   | scr _ => simp [Zr] at hb
   | ref _ => simp [Zr] at hb
   | _ => exact Zcs A _ _ x y u v (by rfl) (by rfl) ra rb ru rv
  | int i => cases b with
   | tup es =>
    have := ra.int_inv; subst this; obtain ⟨t0, rfl⟩ := ru
    obtain ⟨p', ws, rfl, s2, r2⟩ := rb.tup_inv
    cases rv
    obtain ⟨its2, rws, ht2, _⟩ := I.tuple s2
    exact SeqAt.EqAt.int_tuple _ _ (show s.heap.IsTuple p' its2.toArray from ht2) hu1
   | scr _ => simp [Zr] at hb
   | ref _ => simp [Zr] at hb
   | _ => exact Zcs A _ _ x y u v (by rfl) (by rfl) ra rb ru rv
  | str i => cases b with
   | tup es =>
    have := ra.str_inv; subst this; obtain ⟨t0, rfl⟩ := ru
    obtain ⟨p', ws, rfl, s2, r2⟩ := rb.tup_inv
    cases rv
    obtain ⟨its2, rws, ht2, _⟩ := I.tuple s2
    exact SeqAt.EqAt.str_tuple _ _ (show s.heap.IsTuple p' its2.toArray from ht2) hu1
   | scr _ => simp [Zr] at hb
   | ref _ => simp [Zr] at hb
   | _ => exact Zcs A _ _ x y u v (by rfl) (by rfl) ra rb ru rv
  | _ => simp [Zr] at ha
end
end L3
namespace L3
open PySem PySem.Spec PyProof.Rows L2
section
variable {X : Cx}
theorem ZiC {pins : List (Addr × Obj)} {σ : St} {H : Hp} {s : Shared} {ι : List Addr} {M : Store} {a b : D} {x y : V} {u v : Value} {k : Bool} (hu : X.A.units + 80 < cLine) (I : Inv X pins σ H s) (S : Zx X.K H ι M)
  (ra : Rep X.K H ι a x) (rb : Rep X.K H ι b y) (ru : RelV x u) (rv : RelV y v) (h : eqD a b M = some k) : SeqAt.RcAt X.A s u v k := by
 cases a with
 | ref n =>
  cases b with
  | ref m =>
   simp only [eqD] at h
   cases hn : M[n]? with
   | none => simp [hn] at h
   | some o =>
    cases o with
    | dct _ => simp [hn] at h
    | fdct _ => simp [hn] at h
    | lst ds =>
     cases hm : M[m]? with
     | none => simp [hn, hm] at h
     | some o =>
      cases o with
      | dct _ => simp [hn, hm] at h
      | fdct _ => simp [hn, hm] at h
      | lst es =>
       simp only [hn, hm] at h
       split at h
       ·rename_i hp
        cases h
        rw [Bool.and_eq_true] at hp
        obtain ⟨p, hp1, rfl⟩ := ra.ref_inv
        obtain ⟨q, hq1, rfl⟩ := rb.ref_inv
        cases ru
        cases rv
        obtain ⟨vs, e1, r1⟩ := S.obj n _ p hn hp1
        obtain ⟨ws, e2, r2⟩ := S.obj m _ q hm hq1
        obtain ⟨its, rvs, pl1, _⟩ := I.list (SqL.of e1)
        obtain ⟨its2, rws, pl2, _⟩ := I.list (SqL.of e2)
        have it1 := pl1.isList
        have it2 := pl2.isList
        have l1 : its.length = ds.length := by rw [← rvs.length, r1.length]
        have l2 : its2.length = es.length := by rw [← rws.length, r2.length]
        have hu1 : X.A.units < cLine := by omega
        by_cases hl : ds.length = es.length
        ·have key : (List.range its.toArray.size).all (fun j => match ds[j]?, es[j]? with | some a, some b => deq a b | _, _ => false) = Zbx ds es := by
          rw [List.size_toArray, l1]
          exact Zbt hl fun j a b h1 h2 => by rw [h1, h2]
         rw [← key]
         refine SeqAt.RcAt.lists it1 it2 (by rw [List.size_toArray, List.size_toArray, l1, l2, hl]) hu1 fun j h1 h2 => ?_
         have h1' : j < ds.length := by rw [← l1]; simpa using h1
         have h2' : j < es.length := by rw [← l2]; simpa using h2
         have q1 : ds[j]? = some ds[j] := by simp [h1']
         have q2 : es[j]? = some es[j] := by simp [h2']
         rw [q1, q2]
         obtain ⟨v1, g1, z1⟩ := r1.get q1
         obtain ⟨v2, g2, z2⟩ := r2.get q2
         obtain ⟨u1, k1, w1⟩ := rvs.get g1
         obtain ⟨u2, k2, w2⟩ := rws.get g2
         have m1 : its.toArray[j] = u1 := by
          have := List.getElem?_eq_some_iff.mp k1
          simpa using this.2
         have m2 : its2.toArray[j] = u2 := by
          have := List.getElem?_eq_some_iff.mp k2
          simpa using this.2
         rw [m1, m2]
         exact ZeE I DEEP X.A.in1 ds[j] es[j] v1 v2 u1 u2 (by rw [units_in1]; show X.A.units + 1 + 60 + 1 < cLine; omega) (List.all_eq_true.mp hp.1 _ (List.getElem_mem h1')) (List.all_eq_true.mp hp.2 _ (List.getElem_mem h2')) z1 z2 w1 w2
        ·have z : Zbx ds es = false := by
          cases q : Zbx ds es with
          | false => rfl
          | true => exact absurd (Zcp q) hl
         rw [z]
         exact SeqAt.RcAt.lists_lengths it1 it2 (by rw [List.size_toArray, List.size_toArray, l1, l2]; simpa using hl) hu1
       ·cases h
  | _ => simp [eqD] at h
 | int i => cases b with
  | int j =>
   simp only [eqD] at h
   cases h
   have := ra.int_inv; subst this; have := rb.int_inv; subst this
   obtain ⟨t, rfl⟩ := ru
   obtain ⟨t', rfl⟩ := rv
   rw [← Bool.beq_eq_decide_eq]
   exact SeqAt.RcAt.int_int _ _ _ _
  | _ => simp [eqD] at h
 | str i => cases b with
  | str j =>
   simp only [eqD] at h
   cases h
   have := ra.str_inv; subst this; have := rb.str_inv; subst this
   obtain ⟨t, rfl⟩ := ru
   obtain ⟨t', rfl⟩ := rv
   have e : decide (i = j) = ((⟨i.toArray⟩ : Str) == ⟨j.toArray⟩) := by
    rw [← Bool.beq_eq_decide_eq, ← ZcY]
    by_cases h : (⟨i.toArray⟩ : Str) = ⟨j.toArray⟩
    ·simp [h]
    ·simp [h]
   rw [e]
   exact SeqAt.RcAt.str_str _ _ _ _
  | _ => simp [eqD] at h
 | bl i => cases b with
  | bl j =>
   simp only [eqD] at h
   cases h
   have := ra.bl_inv; subst this; have := rb.bl_inv; subst this
   cases ru
   cases rv
   rw [← Bool.beq_eq_decide_eq]
   exact SeqAt.RcAt.bool_bool _ _
  | _ => simp [eqD] at h
 | tup ds => cases b with
  | tup es =>
   simp only [eqD] at h
   split at h
   ·rename_i hp
    cases h
    rw [Bool.and_eq_true] at hp
    obtain ⟨p, vs, rfl, s1, r1⟩ := ra.tup_inv
    obtain ⟨p', ws, rfl, s2, r2⟩ := rb.tup_inv
    cases ru
    cases rv
    obtain ⟨its, rvs, ht, _⟩ := I.tuple s1
    obtain ⟨its2, rws, ht2, _⟩ := I.tuple s2
    have e1 : its.length = ds.length := by rw [← rvs.length, r1.length]
    have e2 : its2.length = es.length := by rw [← rws.length, r2.length]
    have hu1 : X.A.units < cLine := by omega
    have key : ((List.range (min its.toArray.size its2.toArray.size)).all (fun j => match ds[j]?, es[j]? with | some a, some b => deq a b | _, _ => false) && its.toArray.size == its2.toArray.size) = Zbx ds es := by
     rw [List.size_toArray, List.size_toArray, e1, e2]
     by_cases hl : ds.length = es.length
     ·rw [hl, Nat.min_self, beq_self_eq_true, Bool.and_true, ← hl]
      exact Zbt hl fun j a b h1 h2 => by rw [h1, h2]
     ·have z : Zbx ds es = false := by
       cases q : Zbx ds es with
       | false => rfl
       | true => exact absurd (Zcp q) hl
      rw [z, beq_eq_false_iff_ne.mpr hl, Bool.and_false]
    rw [← key]
    refine SeqAt.RcAt.tuples (show s.heap.IsTuple p its.toArray from ht) (show s.heap.IsTuple p' its2.toArray from ht2) hu1 fun j h1 h2 => ?_
    have h1' : j < ds.length := by rw [← e1]; simpa using h1
    have h2' : j < es.length := by rw [← e2]; simpa using h2
    have q1 : ds[j]? = some ds[j] := by simp [h1']
    have q2 : es[j]? = some es[j] := by simp [h2']
    rw [q1, q2]
    obtain ⟨v1, g1, z1⟩ := r1.get q1
    obtain ⟨v2, g2, z2⟩ := r2.get q2
    obtain ⟨u1, k1, w1⟩ := rvs.get g1
    obtain ⟨u2, k2, w2⟩ := rws.get g2
    have m1 : its.toArray[j] = u1 := by
     have := List.getElem?_eq_some_iff.mp k1
     simpa using this.2
    have m2 : its2.toArray[j] = u2 := by
     have := List.getElem?_eq_some_iff.mp k2
     simpa using this.2
    rw [m1, m2]
    exact ZeE I DEEP X.A.in1 ds[j] es[j] v1 v2 u1 u2 (by rw [units_in1]; show X.A.units + 1 + 60 + 1 < cLine; omega) (List.all_eq_true.mp hp.1 _ (List.getElem_mem h1')) (List.all_eq_true.mp hp.2 _ (List.getElem_mem h2')) z1 z2 w1 w2
   ·cases h
  | _ => simp [eqD] at h
 | _ => cases b <;> simp [eqD] at h
theorem Zc3 (hu : X.A.units + 80 < cLine) : OpR X (compareOp .Eq) (r2 X.K ZaU) := by
 intro pins s σ H x y v u Q I rx ry h
 obtain ⟨ι, M, a, b, S, ra, rb, h⟩ := h
 unfold ZaU at h
 cases q : eqD a b M with
 | none => rw [q] at h; exact h.elim
 | some k =>
  rw [q] at h
  exact ZiC hu I S ra rb rx ry q X.prog X.w X.xe _ ⟨.bl k, H, I, rfl, Zv.ok h S Rep.bl⟩
theorem Zfw {K : PySem.W.Frag} {H : Hp} {ι : List Addr} {ds : List D} {vs : List V} {i : Int} {d : D} (r : Zj K H ι ds vs) (h : Za6 ds i = some d) : ∃ v, atI vs i = some v ∧ Rep K H ι d v := by
 unfold Za6 at h
 unfold atI
 have e : ixN vs.length i = ixD ds.length i := by rw [r.length]; rfl
 rw [e]
 cases q : ixD ds.length i with
 | none => rw [q] at h; cases h
 | some j =>
  rw [q] at h
  exact r.get h
theorem Zb9 : IxR X (r2 X.K Zz) := IxR.imp Zjb fun x y H Q ⟨ι, M, a, b, S, ra, rb, h⟩ => by
 cases a with
 | tup ds => cases b with
  | int i =>
   simp only [Zz] at h
   cases q : Za6 ds i with
   | none => simp only [q] at h; exact h.elim
   | some d =>
    simp only [q] at h
    obtain ⟨p, vs, rfl, s1, r1⟩ := ra.tup_inv
    obtain ⟨v, e, rv⟩ := Zfw r1 q
    exact .inr (.inl ⟨p, vs, i, v, rfl, rb.int_inv, s1, e, Zv.ok h S rv⟩)
  | _ => exact h.elim
 | scr ds => cases b with
  | int i =>
   simp only [Zz] at h
   cases q : Za6 ds i with
   | none => simp only [q] at h; exact h.elim
   | some d =>
    simp only [q] at h
    obtain ⟨p, vs, rfl, s1, r1⟩ := ra.scr_inv
    obtain ⟨v, e, rv⟩ := Zfw r1 q
    exact .inl ⟨p, vs, i, v, rfl, rb.int_inv, s1.sq, e, Zv.ok h S rv⟩
  | _ => exact h.elim
 | str z => cases b with
  | int i =>
   simp only [Zz] at h
   cases q : Za6 z i with
   | none => simp only [q] at h; exact h.elim
   | some c =>
    simp only [q] at h
    split at h
    ·rename_i hz
     refine .inr (.inr ⟨_, i, c, ra.str_inv, rb.int_inv, ?_, ?_, Zv.ok h S Rep.str⟩)
     ·have := ZaK
      simp only [Str.length, List.size_toArray]
      omega
     ·simpa [atI, ixN, Za6, ixD] using q
    ·exact h.elim
  | _ => exact h.elim
 | ref n => cases b with
  | int i =>
   cases hn : M[n]? with
   | none => simp only [Zz, hn] at h; exact h.elim
   | some o =>
    cases o with
    | dct _ => simp only [Zz, hn] at h; exact h.elim
    | fdct _ => simp only [Zz, hn] at h; exact h.elim
    | lst ds =>
     simp only [Zz, hn] at h
     cases q : Za6 ds i with
     | none => simp only [q] at h; exact h.elim
     | some d =>
      simp only [q] at h
      obtain ⟨p, hp, rfl⟩ := ra.ref_inv
      obtain ⟨vs, e1, r1⟩ := S.obj n _ p hn hp
      obtain ⟨v, e, rv⟩ := Zfw r1 q
      exact .inl ⟨p, vs, i, v, rfl, rb.int_inv, SqL.of e1, e, Zv.ok h S rv⟩
  | _ => exact h.elim
 | _ => cases b <;> exact h.elim
theorem Zfz {K : PySem.W.Frag} {H : Hp} {ι : List Addr} {ds : List D} {vs : List V} (r : Zj K H ι ds vs) (lo hi : Option Int) : Zj K H ι (cutD ds lo hi) (ZeV vs lo hi) := by
 have e : ∀ n d o, HT.sIx n d o = sIx n d o := fun n d o => by cases o <;> rfl
 unfold cutD ZeV
 rw [e, e, r.length]
 exact (r.drop _).take _
end
end L3
namespace L3
open PySem PySem.Spec PyProof.Rows L2
def Zar (cells : List (Str × Addr)) : List (Str × NameKind) → List (Str × Addr) → List (Str × Addr)
 | [], cs => cs
 | (n, k) :: r, cs => Zar cells r (if k == .free then (n, (cells.lookup n).getD 0) :: cs else cs)
theorem ZcQ {scope : Scope} {env : Env} (h : ∀ y ∈ scope.names, y.2 = .free → ∃ c, env.cells.lookup y.1 = some c) : closureFor scope env = pure (Zar env.cells scope.names []) := by
 unfold closureFor
 have key : ∀ (names : List (Str × NameKind)) (cs : List (Str × Addr)), (∀ y ∈ names, y.2 = .free → ∃ c, env.cells.lookup y.1 = some c) →
   (forIn names cs fun x r => match x with | (name, kind) => if (kind == NameKind.free) = true then do let c ← cellOf env name; pure (ForInStep.yield ((name, c) :: r)) else pure (ForInStep.yield r) : Sem (List (Str × Addr))) = pure (Zar env.cells names cs) := by
  intro names
  induction names with
  | nil => intro cs _; rfl
  | cons y r ih =>
   intro cs hy
   obtain ⟨n, k⟩ := y
   rw [List.forIn_cons]
   by_cases hk : k = .free
   ·subst hk
    obtain ⟨c, hc⟩ := hy (n, .free) List.mem_cons_self rfl
    have e1 : cellOf env n = pure c := by unfold cellOf; rw [hc]
    simp only [beq_self_eq_true, if_true, e1, pure_bind]
    rw [ih _ fun z hz => hy z (List.mem_cons_of_mem _ hz)]
    simp [Zar, hc]
   ·have hb : (k == NameKind.free) = false := by simpa using hk
    simp only [hb, Bool.false_eq_true, if_false, pure_bind]
    rw [ih _ fun z hz => hy z (List.mem_cons_of_mem _ hz)]
    simp [Zar, hb]
 have := key scope.names [] h
 first
  | exact this
  | (simp only [bind_pure]; exact this)
theorem Zgv {cells : List (Str × Addr)} {x : Str} {c : Addr} : ∀ (names : List (Str × NameKind)) (cs : List (Str × Addr)), (∀ y ∈ names, y.2 = .free → ∃ c, cells.lookup y.1 = some c) → (Zar cells names cs).lookup x = some c → cs.lookup x = some c ∨ cells.lookup x = some c := by
 intro names
 induction names with
 | nil => intro cs _ h; exact .inl h
 | cons y r ih =>
  intro cs hy h
  obtain ⟨n, k⟩ := y
  rw [Zar] at h
  rcases ih _ (fun z hz => hy z (List.mem_cons_of_mem _ hz)) h with q | q
  ·by_cases hk : k = .free
   ·subst hk
    obtain ⟨c0, hc⟩ := hy (n, .free) List.mem_cons_self rfl
    simp only [beq_self_eq_true, if_true, hc, Option.getD_some, List.lookup_cons] at q
    cases hx : x == n with
    | true =>
     simp only [hx] at q
     cases q
     have : x = n := by simpa using hx
     subst this
     exact .inr hc
    | false => simp only [hx] at q; exact .inl q
   ·have hb : (k == NameKind.free) = false := by simpa using hk
    simp only [hb, Bool.false_eq_true, if_false] at q
    exact .inl q
  ·exact .inr q
theorem Zfv {cells : List (Str × Addr)} {x : Str} : ∀ (names : List (Str × NameKind)) (cs : List (Str × Addr)), (cs.lookup x).isSome = true → ((Zar cells names cs).lookup x).isSome = true := by
 intro names
 induction names with
 | nil => intro cs h; exact h
 | cons y r ih =>
  intro cs h
  obtain ⟨n, k⟩ := y
  rw [Zar]
  refine ih _ ?_
  split
  ·rw [List.lookup_cons]
   split
   ·rfl
   ·exact h
  ·exact h
theorem Zem {cells : List (Str × Addr)} {x : Str} : ∀ (names : List (Str × NameKind)) (cs : List (Str × Addr)), (x, NameKind.free) ∈ names → ((Zar cells names cs).lookup x).isSome = true := by
 intro names
 induction names with
 | nil => intro cs h; cases h
 | cons y r ih =>
  intro cs h
  obtain ⟨n, k⟩ := y
  rw [Zar]
  rcases List.mem_cons.mp h with e | h
  ·cases e
   refine Zfv _ _ ?_
   simp
  ·exact ih _ h
def Zaq (X : Cx) (scope : Scope) (N' : List Str) (C : Addr) (cl : List (Str × Addr)) (s : Shared) (H : Hp) (ex : List Addr) : Cx :=
 { X with N := N', s₀ := s, H₀ := H, env := compEnvC scope cl C X.env, outer := X.stack, stack := X.stack, ex := ex, fn := fun _ => false, pn := [], xe := fun _ _ => False }
def Zhs (N N' : List Str) (scope : Scope) : Bool := (List.range N.length).all fun i => match N'[i]? with
 | some x => (scope.names.lookup x).isNone || (decide (N[i]? = some x) && decide (scope.names.lookup x = some .free))
 | none => false
def CTs (X : Cx) (ifs : List Expr) (ts : List E3) : Prop := ∀ (pins : List (Addr × Obj)) (s : Shared) (σ : St) (H : Hp) (Q : Bool → Hp → Prop), Inv X pins σ H s →
 (∃ ι M env, Zx X.K H ι M ∧ ZaW X.K H ι env σ ∧ match Zcv ts env M with | .ok b M' => ∀ H' ι', Ext X.K H ι H' ι' → Zx X.K H' ι' M' → Q b H' | _ => False) →
 wpAny (model X.prog X.w) X.A (forIn ifs true fun c r => if r = true then do let ok ← isTrue c X.env (eval c X.env); pure (ForInStep.yield ok) else pure (ForInStep.yield r)) (TP X pins σ Q) X.xe s
theorem Zdf {X : Cx} : CTs X [] [] := fun pins s σ H Q I ⟨ι, M, env, S, E, h⟩ => wpAny_tests_nil ⟨H, I, h H ι Ext.refl S⟩
section
variable {prog : Program} {w : World} {A : Around} {R : Result → Shared → Prop} {s : Shared}
theorem Zdi {elt target iter : Expr} {ifs : List Expr} {scope : Scope} {pos : Pos} {it acc : Value} {env : Env} (I : Nat → Shared → Prop)
  (turn : ∀ n s, I n s → wpAny (model prog w) A (pyNext it) (fun r s₁ => match r with
   | none => R (.ok .next) s₁
   | some v => wpAny (model prog w) A (letOwnedTupleGo target it v) (fun _ s₁' => wpAny (model prog w) A (assign target env v) (fun _ s₂ =>
     wpAny (model prog w) A (forIn ifs true fun c r => if r = true then do let ok ← isTrue c env (eval c env); pure (ForInStep.yield ok) else pure (ForInStep.yield r)) (fun ok s₃ =>
      if ok = true then wpAny (model prog w) A (eval elt env) (fun x s₄ =>
       wpAny (model prog w) A (call (.builtin "list.append") [acc, x]) (fun _ s₅ => ∃ m, m < n ∧ I m s₅) (fun _ _ => False) s₄) (fun _ _ => False) s₃
      else ∃ m, m < n ∧ I m s₃) (fun _ _ => False) s₂) (fun _ _ => False) s₁') (fun _ _ => False) s₁) (fun _ _ => False) s)
  (n : Nat) (h : I n s) : codeAny (model prog w) A (.compLoop (.ListComp elt [⟨target, iter, ifs, 0⟩] scope pos) 0 it acc env) R s := by
 refine codeAny_loop rfl I (fun n s hI => ?_) n h
 show wpAny _ A ((compTurn (.ListComp elt [⟨target, iter, ifs, 0⟩] scope pos) 0 it acc env).onRaise (fun x => do noteFrame x env; theTreesLotGoes x)) _ _ s
 refine wpAny_noted ?_
 rw [compTurn_list]
 refine wpAny_bind (wpAny_standAt (wpAny_bind (wpAny_mono (turn n s hI) (fun r s₁ h₁ => ?_) fun _ _ h' => False.elim h')))
 cases r with
 | none => exact wpAny_pure h₁
 | some v =>
  refine wpAny_bind (wpAny_mono h₁ (fun _ s₁' h₁' => ?_) fun _ _ h' => False.elim h')
  refine wpAny_bind (wpAny_mono h₁' (fun _ s₂ h₂ => wpAny_bind (wpAny_mono h₂ (fun ok s₃ h₃ => ?_) fun _ _ h' => False.elim h')) fun _ _ h' => False.elim h')
  cases ok with
  | false => exact wpAny_pure ⟨rfl, h₃⟩
  | true =>
   exact wpAny_bind (wpAny_bind (wpAny_mono h₃ (fun x s₄ h₄ => wpAny_bind (wpAny_mono h₄ (fun _ s₅ h₅ => wpAny_pure (wpAny_pure ⟨rfl, h₅⟩)) fun _ _ h' => False.elim h')) fun _ _ h' => False.elim h'))
end
theorem ZbV {env : Env} {x : Str} {k : NameKind} : ∀ {names : List (Str × NameKind)}, (names.map fun (n, k) => if (k == NameKind.free && env.scope.kind == .function && env.kindOf n == some .cell) then (n, NameKind.cell) else (n, k)).lookup x = some k →
  ∃ k0, names.lookup x = some k0 ∧ (k0 = k ∨ (k0 = .free ∧ k = .cell)) := by
 intro names
 induction names with
 | nil => intro h; simp at h
 | cons y r ih =>
  intro h
  obtain ⟨n, k1⟩ := y
  rw [List.map_cons] at h
  cases hx : x == n with
  | true =>
   refine ⟨k1, by simp [List.lookup_cons, hx], ?_⟩
   by_cases hc : (k1 == NameKind.free && env.scope.kind == .function && env.kindOf n == some .cell) = true
   ·simp only [if_pos hc, List.lookup_cons, hx] at h
    cases h
    simp only [Bool.and_eq_true, beq_iff_eq] at hc
    exact .inr ⟨hc.1.1, rfl⟩
   ·simp only [if_neg hc, List.lookup_cons, hx] at h
    cases h
    exact .inl rfl
  | false =>
   have h' : (r.map fun (n, k) => if (k == NameKind.free && env.scope.kind == .function && env.kindOf n == some .cell) then (n, NameKind.cell) else (n, k)).lookup x = some k := by
    by_cases hc : (k1 == NameKind.free && env.scope.kind == .function && env.kindOf n == some .cell) = true
    ·simp only [if_pos hc, List.lookup_cons, hx] at h; exact h
    ·simp only [if_neg hc, List.lookup_cons, hx] at h; exact h
   obtain ⟨k0, e, q⟩ := ih h'
   exact ⟨k0, by simp [List.lookup_cons, hx, e], q⟩
theorem Zez {env : Env} {x : Str} : ∀ {names : List (Str × NameKind)}, names.lookup x = some .free →
  (names.map fun (n, k) => if (k == NameKind.free && env.scope.kind == .function && env.kindOf n == some .cell) then (n, NameKind.cell) else (n, k)).lookup x = some .free ∨
  (names.map fun (n, k) => if (k == NameKind.free && env.scope.kind == .function && env.kindOf n == some .cell) then (n, NameKind.cell) else (n, k)).lookup x = some .cell := by
 intro names
 induction names with
 | nil => intro h; simp at h
 | cons y r ih =>
  intro h
  obtain ⟨n, k1⟩ := y
  rw [List.map_cons]
  cases hx : x == n with
  | true =>
   simp only [List.lookup_cons, hx] at h
   cases h
   by_cases hc : (NameKind.free == NameKind.free && env.scope.kind == .function && env.kindOf n == some .cell) = true
   ·simp only [if_pos hc, List.lookup_cons, hx]; exact .inr trivial
   ·simp only [if_neg hc, List.lookup_cons, hx]; exact .inl trivial
  | false =>
   simp only [List.lookup_cons, hx] at h
   by_cases hc : (k1 == NameKind.free && env.scope.kind == .function && env.kindOf n == some .cell) = true
   ·simp only [if_pos hc, List.lookup_cons, hx]; exact ih h
   ·simp only [if_neg hc, List.lookup_cons, hx]; exact ih h
section
variable {X : Cx} {pins : List (Addr × Obj)} {σ : St} {H : Hp} {s : Shared} {scope : Scope} {N' : List Str} {own : Nat} {fp : List Addr}
theorem Zff (I : Inv X pins σ H s) (hk : scope.kind = .function) (hcell : ∀ y ∈ scope.names, y.2 ≠ .cell) (hfree : ∀ y ∈ scope.names, y.2 = .free → X.env.kindOf y.1 = some .cell ∨ X.env.kindOf y.1 = some .free)
  (hN : N'.length = X.N.length + own) (hv : Zhs X.N N' scope = true) (hfp : ∀ b ∈ fp, ZcF X pins H b) (hlt : ∀ b ∈ fp, b < s.heap.objs.size) {h1 : Heap} {tk : Nat}
  (hns : h1.Ns s.heap.objs.size fun _ => none) (keep : ∀ b o, s.heap.get? b = some o → h1.get? b = some o) :
  Inv (Zaq X scope N' s.heap.objs.size (Zar X.env.cells scope.names []) s H fp) [] (σ ++ List.replicate own none) H { s with heap := h1, toks := tk } := by
 have hc0 : ∀ y ∈ scope.names, y.2 = .free → ∃ c, X.env.cells.lookup y.1 = some c := fun y hy e => I.ok.has y.1 (hfree y hy e)
 have sub : ∀ x c, (Zar X.env.cells scope.names []).lookup x = some c → X.env.cells.lookup x = some c := fun x c h => by
  rcases Zgv scope.names [] hc0 h with q | q
  ·simp at q
  ·exact q
 have cellK : ∀ {c : Addr} {v : Option Value}, s.heap.IsCell c v → h1.IsCell c v := fun ⟨o, ho, hd⟩ => ⟨o, keep _ o ho, hd⟩
 refine ⟨⟨I.ok.mod, hk, I.ok.glob, I.ok.blt, Nat.le_refl _, fun x y c h1 h2 => I.ok.inj x y c (sub x c h1) (sub y c h2), fun x hx => ?_, fun x c h => ?_, I.ok.hd, I.ok.frames, .inl rfl, fun b hb => ⟨Nat.ne_of_lt (hlt b hb), fun x c h => (hfp b hb).2.2.2.2.1 x c (sub x c h)⟩,
   I.bs, Nat.le_trans I.ok.bsz I.sz, fun b o e hb => ?_, fun b hb hz => ?_, I.stack, I.stkFree⟩, rfl, I.bare, Un.kept keep, ⟨_, hns, fun i x v h1 h2 h3 => ?_⟩, fun x c h => ?_, I.hok.fresh (Nat.le_refl _), fun x c h => I.freeC x c (sub x c h),
  fun p hp => absurd (show p ∈ ([] : List (Addr × Obj)) from hp) (by simp), I.hok.kept keep, ?_⟩
 ·have hx' : (relabel scope X.env).names.lookup x = some .cell ∨ (relabel scope X.env).names.lookup x = some .free := hx
  have : scope.names.lookup x = some .free := by
   rcases hx' with hx' | hx'
   ·obtain ⟨k0, e, q⟩ := ZbV (names := scope.names) hx'
    rcases q with q | ⟨q, _⟩
    ·subst q; exact absurd rfl (hcell _ (PySem.mem_of_lookup e))
    ·rw [e, q]
   ·obtain ⟨k0, e, q⟩ := ZbV (names := scope.names) hx'
    rcases q with q | ⟨_, q⟩
    ·rw [e, q]
    ·cases q
  exact Option.isSome_iff_exists.mp (Zem scope.names [] (PySem.mem_of_lookup this))
 ·cases h
 ·obtain ⟨_, _, _, q, _⟩ := hfp b hb
  rcases q with q | q
  ·exact I.ok.noex b o e q
  ·exact absurd (Nat.lt_of_lt_of_le (Heap.lt_size e) (Nat.le_trans I.ok.bsz q)) (Nat.lt_irrefl _)
 ·have hz' : b ∈ frs X.stack := hz
  obtain ⟨_, q1, q2, _⟩ := hfp b hb
  rcases List.mem_cons.mp (I.stkSub b hz') with e | e
  ·exact q1 e
  ·exact q2 e
 ·have hi : i < σ.length := by
   by_cases hi : i < σ.length
   ·exact hi
   ·rw [List.getElem?_append_right (by omega), List.getElem?_replicate] at h2
    split at h2 <;> cases h2
  rw [List.getElem?_append_left hi] at h2
  have hiN : i < X.N.length := by rw [← I.len]; exact hi
  have hN' : N'[i]? = some x := h1
  have vq := List.all_eq_true.mp hv i (List.mem_range.mpr hiN)
  rw [hN'] at vq
  have h3' : (relabel scope X.env).names.lookup x = some .local ∨ (relabel scope X.env).names.lookup x = some .cell ∨ (relabel scope X.env).names.lookup x = some .free := h3
  have some_of : ∃ k0, scope.names.lookup x = some k0 := by
   rcases h3' with q | q | q <;> (obtain ⟨k0, e, _⟩ := ZbV (names := scope.names) q; exact ⟨k0, e⟩)
  obtain ⟨k0, ek⟩ := some_of
  simp only [ek, Option.isNone_some, Bool.false_or, Bool.and_eq_true, decide_eq_true_eq] at vq
  obtain ⟨vq1, vq2⟩ := vq
  cases vq2
  have hkind := hfree (x, .free) (PySem.mem_of_lookup ek) rfl
  obtain ⟨m, hn, hl⟩ := I.loc
  have hVis : Vis X.env.scope x := by
   rcases hkind with q | q
   ·exact .inr (.inl q)
   ·exact .inr (.inr q)
  obtain ⟨u, ru, lk⟩ := hl i x v vq1 h2 hVis
  refine ⟨u, ru, ?_⟩
  rcases lk with ⟨kl, _⟩ | ⟨_, c, ec, ic⟩
  ·rcases hkind with q | q <;> (rw [q] at kl; cases kl)
  ·have hkk : (compEnvC scope (Zar X.env.cells scope.names []) s.heap.objs.size X.env).kindOf x = some .cell ∨ (compEnvC scope (Zar X.env.cells scope.names []) s.heap.objs.size X.env).kindOf x = some .free := by
    rcases Zez (env := X.env) ek with q | q
    ·exact .inr q
    ·exact .inl q
   obtain ⟨c', ec'⟩ := Option.isSome_iff_exists.mp (Zem (cells := X.env.cells) scope.names [] (PySem.mem_of_lookup ek))
   have e2 := sub x c' ec'
   rw [ec] at e2
   cases e2
   exact .inr ⟨hkk, c, ec', cellK ic⟩
 ·obtain ⟨v, ic⟩ := I.cell x c (sub x c h)
  exact ⟨v, cellK ic⟩
 ·show (σ ++ List.replicate own none).length = N'.length
  rw [List.length_append, List.length_replicate, I.len, hN]
theorem ZaW.grow {K : PySem.W.Frag} {H : Hp} {ι : List Addr} {env : Zaa} {σ : St} (E : ZaW K H ι env σ) (n : Nat) : ZaW K H ι (env ++ List.replicate n none) (σ ++ List.replicate n none) := by
 refine ⟨by simp [E.1], fun i d h => ?_⟩
 by_cases hi : i < env.length
 ·rw [List.getElem?_append_left hi] at h
  obtain ⟨v, e, r⟩ := E.2 i d h
  exact ⟨v, by rw [List.getElem?_append_left (by rw [← E.1]; exact hi)]; exact e, r⟩
 ·rw [List.getElem?_append_right (by omega), List.getElem?_replicate] at h
  split at h <;> cases h
end
section
variable {X : Cx} {elt tg iter : Expr} {ifs : List Expr} {scope : Scope} {pos : Pos} {i : I3} {own : Nat} {g : G3} {ts : List E3} {f : E3} {N' : List Str}
structure ZdQ (X : Cx) (scope : Scope) (N' : List Str) (own : Nat) : Prop where
 kind : scope.kind = .function
 cell : ∀ y ∈ scope.names, y.2 ≠ .cell
 free : ∀ y ∈ scope.names, y.2 = .free → X.env.kindOf y.1 = some .cell ∨ X.env.kindOf y.1 = some .free
 names : ∀ y ∈ scope.names, y.2 = .local → scope.names.lookup y.1 = some .local
 len : N'.length = X.N.length + own
 vis : Zhs X.N N' scope = true
theorem ZfQ {pins : List (Addr × Obj)} {σ : St} {s2 : Shared} {H2 : Hp} {ι2 : List Addr} {M2 : Store} {env : Zaa} {it : Addr} {fp : List Addr} {tn : Nat → Heap → Prop} {J : It} {itd : It3} {Q : VK} {E : Value → Shared → Prop} (O : ZdQ X scope N' own) (hc : X.calm = true)
  (hb : ∀ C cl s H ex, CG (Zaq X scope N' C cl s H ex) tg g ∧ CTs (Zaq X scope N' C cl s H ex) ifs ts ∧ C3 (Zaq X scope N' C cl s H ex) elt f)
  (I2 : Inv X pins σ H2 s2) (T : Turn X.prog X.w X.K tg J fp it tn) (st0 : tn 0 s2.heap) (hfp : ∀ b ∈ fp, ZcF X pins H2 b) (S2 : Zx X.K H2 ι2 M2) (E2 : ZaW X.K H2 ι2 env σ) (ok : ZgJ X.K H2 ι2 itd J)
  (h : Zv X.K H2 ι2 Q (Zb6 itd g ts f M2.length itd.items (env ++ List.replicate own none) (M2 ++ [.lst []])))
  (RR : Value → Addr → Result → Shared → Prop)
  (fin : ∀ (acc C : Addr) (s' : Shared) (m : Str → Option Value) (H' : Hp), s'.heap.Ns C m → ZcF X pins H' C → Inv X pins σ H' s' → Q (.ref acc) H' → RR (.ref acc) C (.ok .next) s') :
  wpAny (model X.prog X.w) X.A (newList []) (fun acc s₃ => wpAny (model X.prog X.w) X.A (newFunctionEnv scope X.env.globals (Zar X.env.cells scope.names []) [] X.env.qual none .none (some X.env)) (fun cenv s₄ =>
   codeAny (model X.prog X.w) X.A (.compStart (.ListComp elt [⟨tg, iter, ifs, 0⟩] scope pos) 0 (.ref it) acc { cenv with scope := relabel scope X.env }) (RR acc cenv.locals) s₄) E s₃) E s2 := by
 refine wpAny_newObj_type ?_
 have hD : H2 s2.heap.objs.size = none := I2.hok.fresh (Nat.le_refl _)
 obtain ⟨x3, S3, r3⟩ := S2.lst hD (Zj.nil (K := X.K) (H := H2) (ι := ι2))
 have I3 : Inv X pins σ (upd H2 s2.heap.objs.size (.lst [])) { s2 with heap := s2.heap.push { cls := .type "list", data := .seq ([] : List Value).toArray } } :=
  I2.laid (t' := s2.toks) (fun b u e => Heap.get?_push_of_some _ e) (Nat.le_refl _) ⟨Nat.zero_le _, [], 0, .nil, Heap.get?_push_size _ rfl⟩
 generalize hs3 : ({ s2 with heap := s2.heap.push { cls := .type "list", data := .seq ([] : List Value).toArray } } : Shared) = s3 at I3 ⊢
 have keep23 : ∀ b o, s2.heap.get? b = some o → s3.heap.get? b = some o := fun b o e => by rw [← hs3]; exact Heap.get?_push_of_some _ e
 have hfp3 : ∀ b ∈ fp, ZcF X pins (upd H2 s2.heap.objs.size (.lst [])) b := fun b hb => by
  refine ⟨?_, (hfp b hb).2⟩
  obtain ⟨o, e, _⟩ := T.obj _ _ st0 b hb
  rw [Zas (Nat.ne_of_lt (Heap.lt_size e))]
  exact (hfp b hb).1
 have hlt3 : ∀ b ∈ fp, b < s3.heap.objs.size := fun b hb => by
  obtain ⟨o, e, _⟩ := T.obj _ _ st0 b hb
  exact Heap.lt_size (keep23 b o e)
 have st3 : tn 0 s3.heap := T.keep _ _ _ st0 fun b hb o e => keep23 b o e
 refine wpAny_newFunctionEnv O.cell (by intro y hy; cases hy) (fun h4 hns hsb => ?_) O.kind
 have keep34 : ∀ b o, s3.heap.get? b = some o → h4.get? b = some o := fun b o e => hsb.extBut b o (Nat.ne_of_lt (Heap.lt_size e)) (Heap.get?_push_of_some _ e)
 have I4 := Zff (own := own) (N' := N') (tk := s3.toks + ([] : List (Str × Value)).length) I3 O.kind O.cell O.free O.len O.vis hfp3 hlt3 hns keep34
 have st4 : tn 0 h4 := T.keep _ _ _ st3 fun b hb o e => keep34 b o e
 have hfp4 : ∀ {H' : Hp}, (∀ b ∈ fp, H' b = none) → ∀ b ∈ fp, ZcF (Zaq X scope N' s3.heap.objs.size (Zar X.env.cells scope.names []) s3 (upd H2 s2.heap.objs.size (.lst [])) fp) [] H' b := fun hn b hb => by
  have hc0 : ∀ y ∈ scope.names, y.2 = .free → ∃ c, X.env.cells.lookup y.1 = some c := fun y hy e => I2.ok.has y.1 (O.free y hy e)
  refine ⟨hn b hb, Nat.ne_of_lt (hlt3 b hb), fun hz => I4.ok.exfs b hb hz, .inl hb, fun x c hx => (I4.ok.exf b hb).2 x c hx, fun p hp => absurd (show p ∈ ([] : List (Addr × Obj)) from hp) (by simp)⟩
 obtain ⟨hg, hts, helt⟩ := hb s3.heap.objs.size (Zar X.env.cells scope.names []) s3 (upd H2 s2.heap.objs.size (.lst [])) fp
 have loop : ∀ s₄ : Shared, s₄ = { s3 with heap := h4, toks := s3.toks + ([] : List (Str × Value)).length } →
   codeAny (model X.prog X.w) X.A (.compLoop (.ListComp elt [⟨tg, iter, ifs, 0⟩] scope pos) 0 (.ref it) (.ref s2.heap.objs.size) (compEnvC scope (Zar X.env.cells scope.names []) s3.heap.objs.size X.env)) (RR (.ref s2.heap.objs.size) s3.heap.objs.size) s₄ := by
  rintro s₄ rfl
  refine Zdi (fun n s' => ∃ k σ5 H5 ι5 M5 env5, Inv (Zaq X scope N' s3.heap.objs.size (Zar X.env.cells scope.names []) s3 (upd H2 s2.heap.objs.size (.lst [])) fp) [] σ5 H5 s' ∧ tn k s'.heap ∧ (∀ b ∈ fp, H5 b = none) ∧ n = itd.items.length - k ∧ k ≤ itd.items.length ∧
   Ext X.K H2 ι2 H5 ι5 ∧ Zx X.K H5 ι5 M5 ∧ ZaW X.K H5 ι5 env5 σ5 ∧ ι5[M2.length]? = some s2.heap.objs.size ∧ Zv X.K H5 ι5 Q (Zb6 itd g ts f M2.length (itd.items.drop k) env5 M5)) ?_ itd.items.length
   ⟨0, _, _, _, _, _, I4, st4, fun b hb => (hfp3 b hb).1, rfl, Nat.zero_le _, x3, S3, (E2.mono x3).grow own, ?_, h.up x3⟩
  ·rintro n s5 ⟨k, σ5, H5, ι5, M5, env5, I5, st5, fr5, rfl, hk, x5, S5, E5, hι, h5⟩
   by_cases hlt : k < itd.items.length
   ·have hd : itd.items[k]? = some itd.items[k] := by simp [hlt]
    rw [List.drop_eq_getElem_cons hlt] at h5
    unfold Zb6 at h5
    by_cases lk : locked itd M5 = true
    ·rw [if_pos lk] at h5
     obtain ⟨go, yl⟩ := (ok k H5 ι5 M5 x5 S5 lk).1 _ hd
     cases eg : g itd.items[k] env5 with
     | none => rw [eg] at h5; exact h5.elim
     | some env6 =>
      rw [eg] at h5
      refine thn (T.item (Zaq X scope N' s3.heap.objs.size (Zar X.env.cells scope.names []) s3 (upd H2 s2.heap.objs.size (.lst [])) fp) rfl rfl rfl hc k [] s5 σ5 H5 (fun _ _ => False) I5 (hfp4 fr5) st5 go) fun r s6 ⟨u, hr, h6⟩ => ?_
      subst hr
      refine thn h6 fun _ s7 ⟨x, H7, I7, r7, y7, st7, fr7⟩ => ?_
      obtain ⟨rfl, rx⟩ := yl x H7 y7
      have I7' := I7.pinned (hfp4 fr7) (T.obj _ _ st7)
      refine thn (hg _ s7 σ5 H7 x u (fun σ' H' => H' = H7 ∧ ZaW X.K H7 ι5 env6 σ') I7' r7 ⟨ι5, M5, env5, _, env6, S5, E5, rx, eg, fun σ' E' => ⟨rfl, E'⟩⟩) fun _ s8 ⟨σ8, H8, I8, e8, E8⟩ => ?_
      subst e8
      have back : ∀ {σ' : St} {H' : Hp} {s' : Shared}, Inv (Zaq X scope N' s3.heap.objs.size (Zar X.env.cells scope.names []) s3 (upd H2 s2.heap.objs.size (.lst [])) fp) ([] ++ Zdq fp s7.heap) σ' H' s' →
        Inv (Zaq X scope N' s3.heap.objs.size (Zar X.env.cells scope.names []) s3 (upd H2 s2.heap.objs.size (.lst [])) fp) [] σ' H' s' ∧ tn (k + 1) s'.heap ∧ ∀ b ∈ fp, H' b = none := fun {σ' H' s'} I' => by
       refine ⟨I'.unpinned, T.keep _ _ _ st7 fun b hb o e => (I'.pin (b, o) (List.mem_append_right _ (List.mem_append_right _ (ZbA hb e)))).1, fun b hb => ?_⟩
       obtain ⟨o, e, d⟩ := T.obj _ _ st7 b hb
       exact (I'.pin (b, o) (List.mem_append_right _ (List.mem_append_right _ (ZbA hb e)))).2.1
      obtain ⟨b, M9, e9, h9⟩ := Zv.bind h5
      refine thn (hts _ s8 σ8 H8 (fun b' H' => b' = b ∧ ∃ ι9, Ext X.K H8 ι5 H' ι9 ∧ Zx X.K H' ι9 M9) I8 ⟨ι5, M5, env6, S5, E8, by rw [e9]; exact fun H' ι' x' S' => ⟨rfl, ι', x', S'⟩⟩) fun b' s9 ⟨H9, I9, eb, ι9, x9, S9⟩ => ?_
      subst eb
      cases b' with
      | false =>
       rw [if_neg (by decide)] at h9 ⊢
       obtain ⟨I9', st9, fr9⟩ := back I9
       exact ⟨itd.items.length - (k + 1), by omega, k + 1, σ8, H9, ι9, M9, env6, I9', st9, fr9, rfl, hlt, x5.trans x9, S9, E8.mono x9, x9.pre _ _ hι, h9.up x9⟩
      | true =>
       rw [if_pos rfl] at h9 ⊢
       obtain ⟨d, M10, e10, h10⟩ := Zv.bind h9
       refine thn (helt _ s9 σ8 H9 (fun v H' => ∃ ι10, Ext X.K H9 ι9 H' ι10 ∧ Zx X.K H' ι10 M10 ∧ Rep X.K H' ι10 d v) I9 ⟨ι9, M9, env6, S9, E8.mono x9, by rw [e10]; exact fun v H' ι' x' S' r' => ⟨ι', x', S', r'⟩⟩) fun xv s10 ⟨v, H10, I10, r10, ι10, x10, S10, rd⟩ => ?_
       have hι10 : ι10[M2.length]? = some s2.heap.objs.size := x10.pre _ _ (x9.pre _ _ hι)
       cases hm : M10[M2.length]? with
       | none => rw [hm] at h10; exact h10.elim
       | some o =>
        cases o with
        | dct _ => rw [hm] at h10; exact h10.elim
        | fdct _ => rw [hm] at h10; exact h10.elim
        | lst xs =>
         rw [hm] at h10
         by_cases hz : xs.length < SZ
         ·simp only [if_pos hz] at h10
          obtain ⟨vs, ev, rvs⟩ := S10.obj _ _ _ hm hι10
          obtain ⟨x11, S11⟩ := S10.setl (.inr (.inl ⟨_, ev⟩)) hι10 (rvs.append (Zj.cons rd Zj.nil))
          refine thn (Zdx _ s10 σ8 H10 (.ref s2.heap.objs.size) [v] (.ref s2.heap.objs.size) [xv] (fun _ H' => H' = upd H10 s2.heap.objs.size (.lst (vs ++ [v]))) I10 rfl (.cons r10 .nil) ⟨_, vs, v, rfl, rfl, ev, by rw [rvs.length]; exact Nat.lt_of_lt_of_le hz ZaK, rfl⟩) fun _ s11 ⟨_, H11, I11, _, eH⟩ => ?_
          subst eH
          obtain ⟨I11', st11, fr11⟩ := back I11
          exact ⟨itd.items.length - (k + 1), by omega, k + 1, σ8, _, ι10, _, env6, I11', st11, fr11, rfl, hlt, ((x5.trans x9).trans x10).trans x11, S11, ((E8.mono x9).mono x10).mono x11, hι10, ((h10.up x9).up x10).up x11⟩
         ·simp only [if_neg hz] at h10; exact h10.elim
    ·rw [if_neg lk] at h5; exact h5.elim
   ·have e0 : k = itd.items.length := by omega
    subst e0
    rw [List.drop_length] at h5
    unfold Zb6 at h5
    by_cases lk : locked itd M5 = true
    ·rw [if_pos lk] at h5
     refine thn (T.done (Zaq X scope N' s3.heap.objs.size (Zar X.env.cells scope.names []) s3 (upd H2 s2.heap.objs.size (.lst [])) fp) rfl rfl rfl hc _ [] s5 σ5 H5 (fun _ _ => False) I5 (hfp4 fr5) st5 ((ok _ H5 ι5 M5 x5 S5 lk).2 rfl)) fun r s6 ⟨hr, I6⟩ => ?_
     subst hr
     obtain ⟨m6, hn6, _⟩ := I6.loc
     have I7 : Inv X pins σ H5 s6 := I3.call' (ch := fp) I6.os I6.base I6.hok I6.bare fun b hb => ⟨(hfp3 b hb).2.2.2.1, (hfp3 b hb).2.1, (hfp3 b hb).2.2.2.2.1, (hfp3 b hb).2.2.2.2.2⟩
     exact fin _ _ s6 m6 H5 hn6 (I3.fpOk (Nat.le_refl _) I6.free) I7 (h5 _ H5 ι5 Ext.refl S5 (Rep.ref hι))
    ·rw [if_neg lk] at h5; exact h5.elim
  ·rw [← S2.len]; simp
 exact codeAny_compStart_list (loop _ rfl) (T.self _ 0 _ _ _ st4 (loop _ rfl))
theorem Zi4 (O : ZdQ X scope N' own) (hxe : X.xe = fun _ _ => False) (hc : X.calm = true) (hi : CI X tg iter i)
  (hb : ∀ C cl s H ex, CG (Zaq X scope N' C cl s H ex) tg g ∧ CTs (Zaq X scope N' C cl s H ex) ifs ts ∧ C3 (Zaq X scope N' C cl s H ex) elt f)
  (hs : ∀ x, foldedSetIterable iter X.env x = pure x := by intro _; rfl) : C3 X (.ListComp elt [⟨tg, iter, ifs, 0⟩] scope pos) (eLC i own g ts f) := by
 intro pins s σ H Q I h
 obtain ⟨ι, M, env, S, E, h⟩ := h
 obtain ⟨itd, M1, e1, h⟩ := Zv.bind h
 have hc0 : ∀ y ∈ scope.names, y.2 = .free → ∃ c, X.env.cells.lookup y.1 = some c := fun y hy e => I.ok.has y.1 (O.free y hy e)
 rw [eval_ListComp]
 refine wpAny_comprehension_free (use := none) rfl hs (ZcQ hc0) O.kind O.names ?_
 refine thn (hi pins s σ H (fun J H' => ∃ ι', Ext X.K H ι H' ι' ∧ Zx X.K H' ι' M1 ∧ ZgJ X.K H' ι' itd J) I ⟨ι, M, env, S, E, by rw [e1]; exact fun J H' ι' x S' o => ⟨ι', x, S', o⟩⟩) fun v s1 h1 => thn h1 fun itv s2 h2 => ?_
 obtain ⟨it, fp, tn, J, H2, rfl, I2, T, st2, f2, ι2, x2, S2, ok⟩ := h2
 refine ZfQ (own := own) (g := g) (ts := ts) (f := f) O hc hb I2 T st2 f2 S2 (E.mono x2) ok (h.up x2) (fun acc C => compPost (model X.prog X.w) X.A X.xe none (EP X pins σ Q) acc C) ?_
 intro acc C s' m H' hn hf I' hq
 obtain ⟨f0, f1, f2', f3, f4, f5⟩ := hf
 exact ⟨m, hn, fun h' sb => ⟨.ref acc, H', I'.turned (t' := s'.toks) (fun b o hb e => (sb.2 b hb).trans e) f0 f1 f3 f4 f5, rfl, hq⟩⟩
end
end L3
namespace L3
open PySem PySem.Spec PyProof.Rows L2
theorem Zc2 {k : Nat} {A : Around} (r : ZbK k A) : A.units + 80 < cLine := by have := r.un; omega
def Its (x : Str) : It := ⟨fun i _ => i < x.cps.size, fun i H y H' => H' = H ∧ ∃ c, x.cps[i]? = some c ∧ y = .str ⟨#[c]⟩, fun i _ => i = x.cps.size⟩
theorem Zg6 {P : Program} {w : World} {K : PySem.W.Frag} {tg : Expr} {it : Addr} {x : Str} {t : Tok} {ty : String} (W : ∀ A' : Around, A'.handled = none → Walks P w A' it [it] [it] x.cps.size (SignAt x) (fun i h => h.IsStrIter it ty x t i))
  (hs : ∀ (A : Around) (i : Nat) (s : Shared) (Q : Value → Shared → Prop) (E : Value → Shared → Prop), s.heap.IsStrIter it ty x t i → Q (.ref it) s → wpAny (model P w) A (pyIter (.ref it)) Q E s)
  (hty : ["enumerate", "zip", "dict_itemiterator", "dict_reverseitemiterator", "odict_iterator", "itertools.zip_longest", "itertools.pairwise"].contains ty = false) : Turn P w K tg (Its x) [it] it (fun i h => h.IsStrIter it ty x t i) where
 mem := by simp
 obj := fun i h st b hb => by
  have e : b = it := by simpa using hb
  subst e
  obtain ⟨o, e, c, d⟩ := st
  exact ⟨o, e, fun v z => by rw [d] at z; cases z⟩
 keep := fun i h h' st k => let ⟨o, e, r⟩ := st; ⟨o, k it (by simp) o e, r⟩
 item := by
  intro X hP hw hK hc i pins s σ H E I hf st hg
  subst hP hw hK
  obtain ⟨f0, f1, f2, f3, f4, f5⟩ := hf it (by simp)
  refine (W X.A (I.ok.hd hc)).item i s _ _ hg st fun v h' tk hv st' kk => ?_
  obtain ⟨c, u, hx, rfl⟩ := hv
  have I1 : Inv X pins σ H { s with heap := h', toks := tk } := I.turned (fun b o hb e => kk b o (by simpa using hb) e) f0 f1 f3 f4 f5
  obtain ⟨o, e, cc, d⟩ := id st'
  exact ⟨_, rfl, Zf0 (s := { s with heap := h', toks := tk }) e cc d hty ⟨.str ⟨#[c]⟩, H, I1, ⟨u, rfl⟩, ⟨rfl, c, hx, rfl⟩, st', fun b hb => (hf b hb).1⟩⟩
 done := by
  intro X hP hw hK hc i pins s σ H E I hf st hg
  subst hP hw hK
  obtain ⟨f0, f1, f2, f3, f4, f5⟩ := hf it (by simp)
  have e : i = x.cps.size := hg
  subst e
  exact (W X.A (I.ok.hd hc)).done s _ _ st fun h' tk kk => ⟨rfl, I.turned (fun b o hb e => kk b o (by simpa using hb) e) f0 f1 f3 f4 f5⟩
 self := hs
section
variable {X : Cx} {tg e o : Expr} {es : List Expr} {pos p apos cpos : Pos} {f : E3} {gl : EL3}
theorem ZiK (h : C3 X e f) : PI X tg e (fun σ H R => tOf X.K f σ H fun x H1 => ∃ z : Str, x = .str z ∧ z.length ≤ SZ ∧ ∀ J, (∀ ι, ZgJ X.K H1 ι ⟨z.cps.toList.map fun c => .str [c], none⟩ J) → R J H1) := by
 intro pins s σ H R I hw
 refine thn (h pins s σ H _ I hw) fun v s1 ⟨x, H1, I1, r1, z, ex, hz, q⟩ => ?_
 subst ex
 obtain ⟨t, rfl⟩ := r1
 have key : ∀ (ty : String) (o : Obj), (∀ A' : Around, A'.handled = none → Walks X.prog X.w A' s1.heap.objs.size [s1.heap.objs.size] [s1.heap.objs.size] z.cps.size (SignAt z) (fun i h => h.IsStrIter s1.heap.objs.size ty z t i)) →
   (∀ (A : Around) (i : Nat) (s : Shared) (Q : Value → Shared → Prop) (E : Value → Shared → Prop), s.heap.IsStrIter s1.heap.objs.size ty z t i → Q (.ref s1.heap.objs.size) s → wpAny (model X.prog X.w) A (pyIter (.ref s1.heap.objs.size)) Q E s) →
   ["enumerate", "zip", "dict_itemiterator", "dict_reverseitemiterator", "odict_iterator", "itertools.zip_longest", "itertools.pairwise"].contains ty = false → (s1.heap.push o).IsStrIter s1.heap.objs.size ty z t 0 →
   PIE X pins σ tg R (.ref s1.heap.objs.size) { s1 with heap := s1.heap.push o } := by
  intro ty o W hs hty st
  refine ⟨s1.heap.objs.size, [s1.heap.objs.size], _, _, H1, rfl, I1.kept (t' := s1.toks) fun b o e => Heap.get?_push_of_some _ e, Zg6 W hs hty, st, fun b hb => ?_, q _ fun ι => ?_⟩
  ·have e : b = s1.heap.objs.size := by simpa using hb
   subst e
   exact I1.fpOk (Nat.le_refl _) (I1.hok.fresh (Nat.le_refl _))
  ·intro i H2 ι2 M2 x S _
   refine ⟨fun d hd => ?_, fun hl => ?_⟩
   ·rw [List.getElem?_map] at hd
    cases hq : z.cps.toList[i]? with
    | none => rw [hq] at hd; cases hd
    | some c =>
     rw [hq] at hd
     have hd' : D.str [c] = d := by simpa using hd
     subst hd'
     have hi : i < z.cps.size := by
      have := (List.getElem?_eq_some_iff.mp hq).1
      simpa using this
     refine ⟨hi, fun y H3 hy => ⟨hy.1, ?_⟩⟩
     obtain ⟨_, c', hc', rfl⟩ := hy
     have : c' = c := by
      rw [← Array.getElem?_toList, hq] at hc'
      exact (Option.some.inj hc').symm
     subst this
     exact Rep.str
   ·show i = z.cps.size
    rw [hl]
    simp
 cases ha : z.cps.all (· < 128)
 ·exact wpAny_pyIter_wide ha (key "str_iterator" _ (fun A' hA => Walks.strWide hA _ z t) (fun _ _ _ _ _ st h => wpAny_pyIter_striter_wide st h) (by decide) ⟨_, Heap.get?_push_size _ rfl, rfl, rfl⟩)
 ·exact wpAny_pyIter_ascii ha (key "str_ascii_iterator" _ (fun A' hA => Walks.strAscii hA _ z t) (fun _ _ _ _ _ st h => wpAny_pyIter_striter_ascii st h) (by decide) ⟨_, Heap.get?_push_size _ rfl, rfl, rfl⟩)
theorem Zjd (h : C3 X e f) : CI X tg e (Zfh f) := ZjD h (ZiK h)
theorem ZgU {K : PySem.W.Frag} {T : String} {ty : D → Store → Bool} {m : D → List D → Store → R3 D} (hty : ∀ H ι M a x, Zx K H ι M → Rep K H ι a x → ty a M = true → tyV K T x H) (σ : St) (H : Hp) (Q : VK) (h : tOf K (Zb0 ty m f gl) σ H Q) : tBM K T (rM K m) (tOf K f) (tAf K gl) σ H Q := by
 obtain ⟨ι, M, env, S, E, h⟩ := h
 obtain ⟨a, M1, e1, h⟩ := Zv.bind h
 refine ⟨ι, M, env, S, E, ?_⟩
 rw [e1]
 intro v H1 ι1 x1 S1 r1
 by_cases ht : ty a M1 = true
 ·rw [if_pos ht] at h
  obtain ⟨ds, M2, e2, h⟩ := Zv.bind h
  refine ⟨hty _ _ _ _ _ S1 r1 ht, ι1, M1, env, S1, E.mono x1, ?_⟩
  rw [e2]
  intro vs H2 ι2 x2 S2 r2
  exact ⟨ι2, M2, a, ds, S2, r1.mono x2, r2, (h.up x1).up x2⟩
 ·rw [if_neg ht] at h; exact h.elim
theorem ZfI {K : PySem.W.Frag} (H : Hp) (ι : List Addr) (M : Store) (a : D) (x : V) (S : Zx K H ι M) (r : Rep K H ι a x) (h : tyL a M = true) : tyV K "list" x H := by
 cases a with
 | ref n =>
  simp only [tyL] at h
  cases hn : M[n]? with
  | none => simp [hn] at h
  | some o =>
   cases o with
   | dct _ => simp [hn] at h
   | fdct _ => simp [hn] at h
   | lst xs =>
    obtain ⟨p, hp, rfl⟩ := r.ref_inv
    obtain ⟨vs, e, _⟩ := S.obj n _ p hn hp
    exact .inl ⟨rfl, vs, SqL.of e⟩
 | _ => simp at h
theorem _root_.L2.MtR.imp {id : String} {r r' : V → List V → Hp → VK → Prop} (h : MtR X id r) (i : ∀ x xs H Q, r' x xs H Q → r x xs H Q) : MtR X id r' := fun pins s σ H x xs v us Q I rx rs q => h pins s σ H x xs v us Q I rx rs (i x xs H Q q)
theorem Zhh : MtR X "list.append" (rM X.K Zbc) := MtR.imp (r := Zge) Zdx fun x xs H Q ⟨ι, M, a, ds, S, ra, rd, h⟩ => by
 cases a with
 | ref n =>
  cases ds with
  | nil => exact h.elim
  | cons d ds =>
   cases ds with
   | cons _ _ => exact h.elim
   | nil =>
    simp only [Zbc] at h
    cases hn : M[n]? with
    | none => simp only [hn] at h; exact h.elim
    | some o =>
     cases o with
     | dct _ => simp only [hn] at h; exact h.elim
     | fdct _ => simp only [hn] at h; exact h.elim
     | lst z =>
      simp only [hn] at h
      split at h
      ·rename_i hz
       obtain ⟨p, hp, rfl⟩ := ra.ref_inv
       obtain ⟨v, ws, rfl, r1, r2⟩ := rd.cons_inv
       have := r2.nil_inv
       subst this
       obtain ⟨vs, e, rv⟩ := S.obj n _ p hn hp
       obtain ⟨x2, S2⟩ := S.setl (.inr (.inl ⟨_, e⟩)) hp (rv.append (Zj.cons r1 Zj.nil))
       exact ⟨p, vs, v, rfl, rfl, e, by rw [rv.length]; exact Nat.lt_of_lt_of_le hz ZaK, h _ _ _ x2 S2 Rep.non⟩
      ·exact h.elim
 | _ => exact h.elim
theorem ZbP (ho : C3 X o f) (ha : CA X (e :: es) gl)
  (hbase : attributeBase o "append" X.env (eval o X.env) = eval o X.env := by rfl)
  (hfew : ((backTo cpos (starEach (e :: es) X.env)).all (fun x => !x.1) && (backToKw cpos (keywordEach [] X.env)).all (fun x => x.1.isSome)
   && decide ((e :: es).length + ([] : List Keyword).length + (if ([] : List Keyword).isEmpty then 0 else 1) < 30)) = true := by rfl)
  (hline : (apos.endLine == cpos.line) = true := by rfl) (hs : starEach (e :: es) X.env = (false, eval e X.env) :: starEach es X.env := by rfl) (hplain : (backTo cpos (starEach es X.env)).any (·.1) = false := by rfl) :
  C3 X (.Call (.Attribute o "append" apos) (e :: es) [] cpos) (Zb0 tyL Zbc f gl) :=
 (Ziy PySem.F.plainAttrs_list PySem.F.slot_list_append PySem.F.type_list_append Zhh ho ha hbase hfew hline hs hplain).imp (ZgU ZfI)
end
end L3
namespace L3
open PySem PySem.Spec PyProof.Rows L2
section
variable {X : Cx}
theorem ZiR {pins : List (Addr × Obj)} {σ : St} {H : Hp} {s : Shared} {ι : List Addr} {M : Store} {a b : D} {x y : V} {u v : Value} {k : Bool} (hu : X.A.units + 80 < cLine) (I : Inv X pins σ H s) (S : Zx X.K H ι M)
  (ra : Rep X.K H ι a x) (rb : Rep X.K H ι b y) (ru : RelV x u) (rv : RelV y v) (h : eqD a b M = some k) : SeqAt.RcNeAt X.A s u v (!k) := by
 cases a with
 | ref n =>
  cases b with
  | ref m =>
   simp only [eqD] at h
   cases hn : M[n]? with
   | none => simp [hn] at h
   | some o =>
    cases o with
    | dct _ => simp [hn] at h
    | fdct _ => simp [hn] at h
    | lst ds =>
     cases hm : M[m]? with
     | none => simp [hn, hm] at h
     | some o =>
      cases o with
      | dct _ => simp [hn, hm] at h
      | fdct _ => simp [hn, hm] at h
      | lst es =>
       simp only [hn, hm] at h
       split at h
       ·rename_i hp
        cases h
        rw [Bool.and_eq_true] at hp
        obtain ⟨p, hp1, rfl⟩ := ra.ref_inv
        obtain ⟨q, hq1, rfl⟩ := rb.ref_inv
        cases ru
        cases rv
        obtain ⟨vs, e1, r1⟩ := S.obj n _ p hn hp1
        obtain ⟨ws, e2, r2⟩ := S.obj m _ q hm hq1
        obtain ⟨its, rvs, pl1, _⟩ := I.list (SqL.of e1)
        obtain ⟨its2, rws, pl2, _⟩ := I.list (SqL.of e2)
        have it1 := pl1.isList
        have it2 := pl2.isList
        have l1 : its.length = ds.length := by rw [← rvs.length, r1.length]
        have l2 : its2.length = es.length := by rw [← rws.length, r2.length]
        have hu1 : X.A.units < cLine := by omega
        by_cases hl : ds.length = es.length
        ·have key : (List.range its.toArray.size).all (fun j => match ds[j]?, es[j]? with | some a, some b => deq a b | _, _ => false) = Zbx ds es := by
          rw [List.size_toArray, l1]
          exact Zbt hl fun j a b h1 h2 => by rw [h1, h2]
         rw [← key]
         refine SeqAt.RcNeAt.lists it1 it2 (by rw [List.size_toArray, List.size_toArray, l1, l2, hl]) hu1 fun j h1 h2 => ?_
         have h1' : j < ds.length := by rw [← l1]; simpa using h1
         have h2' : j < es.length := by rw [← l2]; simpa using h2
         have q1 : ds[j]? = some ds[j] := by simp [h1']
         have q2 : es[j]? = some es[j] := by simp [h2']
         rw [q1, q2]
         obtain ⟨v1, g1, z1⟩ := r1.get q1
         obtain ⟨v2, g2, z2⟩ := r2.get q2
         obtain ⟨u1, k1, w1⟩ := rvs.get g1
         obtain ⟨u2, k2, w2⟩ := rws.get g2
         have m1 : its.toArray[j] = u1 := by
          have := List.getElem?_eq_some_iff.mp k1
          simpa using this.2
         have m2 : its2.toArray[j] = u2 := by
          have := List.getElem?_eq_some_iff.mp k2
          simpa using this.2
         rw [m1, m2]
         exact ZeE I DEEP X.A.in1 ds[j] es[j] v1 v2 u1 u2 (by rw [units_in1]; show X.A.units + 1 + 60 + 1 < cLine; omega) (List.all_eq_true.mp hp.1 _ (List.getElem_mem h1')) (List.all_eq_true.mp hp.2 _ (List.getElem_mem h2')) z1 z2 w1 w2
        ·have z : Zbx ds es = false := by
          cases q : Zbx ds es with
          | false => rfl
          | true => exact absurd (Zcp q) hl
         rw [z]
         exact SeqAt.RcNeAt.lists_lengths it1 it2 (by rw [List.size_toArray, List.size_toArray, l1, l2]; simpa using hl) hu1
       ·cases h
  | _ => simp [eqD] at h
 | int i => cases b with
  | int j =>
   simp only [eqD] at h
   cases h
   have := ra.int_inv; subst this; have := rb.int_inv; subst this
   obtain ⟨t, rfl⟩ := ru
   obtain ⟨t', rfl⟩ := rv
   rw [← Bool.beq_eq_decide_eq]
   exact SeqAt.RcNeAt.int_int _ _ _ _
  | _ => simp [eqD] at h
 | str i => cases b with
  | str j =>
   simp only [eqD] at h
   cases h
   have := ra.str_inv; subst this; have := rb.str_inv; subst this
   obtain ⟨t, rfl⟩ := ru
   obtain ⟨t', rfl⟩ := rv
   have e : decide (i = j) = ((⟨i.toArray⟩ : Str) == ⟨j.toArray⟩) := by
    rw [← Bool.beq_eq_decide_eq, ← ZcY]
    by_cases h : (⟨i.toArray⟩ : Str) = ⟨j.toArray⟩
    ·simp [h]
    ·simp [h]
   rw [e]
   exact SeqAt.RcNeAt.str_str _ _ _ _
  | _ => simp [eqD] at h
 | bl i => cases b with
  | bl j =>
   simp only [eqD] at h
   cases h
   have := ra.bl_inv; subst this; have := rb.bl_inv; subst this
   cases ru
   cases rv
   rw [← Bool.beq_eq_decide_eq]
   exact SeqAt.RcNeAt.bool_bool _ _
  | _ => simp [eqD] at h
 | tup ds => cases b with
  | tup es =>
   simp only [eqD] at h
   split at h
   ·rename_i hp
    cases h
    rw [Bool.and_eq_true] at hp
    obtain ⟨p, vs, rfl, s1, r1⟩ := ra.tup_inv
    obtain ⟨p', ws, rfl, s2, r2⟩ := rb.tup_inv
    cases ru
    cases rv
    obtain ⟨its, rvs, ht, _⟩ := I.tuple s1
    obtain ⟨its2, rws, ht2, _⟩ := I.tuple s2
    have e1 : its.length = ds.length := by rw [← rvs.length, r1.length]
    have e2 : its2.length = es.length := by rw [← rws.length, r2.length]
    have hu1 : X.A.units < cLine := by omega
    have key : ((List.range (min its.toArray.size its2.toArray.size)).all (fun j => match ds[j]?, es[j]? with | some a, some b => deq a b | _, _ => false) && its.toArray.size == its2.toArray.size) = Zbx ds es := by
     rw [List.size_toArray, List.size_toArray, e1, e2]
     by_cases hl : ds.length = es.length
     ·rw [hl, Nat.min_self, beq_self_eq_true, Bool.and_true, ← hl]
      exact Zbt hl fun j a b h1 h2 => by rw [h1, h2]
     ·have z : Zbx ds es = false := by
       cases q : Zbx ds es with
       | false => rfl
       | true => exact absurd (Zcp q) hl
      rw [z, beq_eq_false_iff_ne.mpr hl, Bool.and_false]
    rw [← key]
    refine SeqAt.RcNeAt.tuples (show s.heap.IsTuple p its.toArray from ht) (show s.heap.IsTuple p' its2.toArray from ht2) hu1 fun j h1 h2 => ?_
    have h1' : j < ds.length := by rw [← e1]; simpa using h1
    have h2' : j < es.length := by rw [← e2]; simpa using h2
    have q1 : ds[j]? = some ds[j] := by simp [h1']
    have q2 : es[j]? = some es[j] := by simp [h2']
    rw [q1, q2]
    obtain ⟨v1, g1, z1⟩ := r1.get q1
    obtain ⟨v2, g2, z2⟩ := r2.get q2
    obtain ⟨u1, k1, w1⟩ := rvs.get g1
    obtain ⟨u2, k2, w2⟩ := rws.get g2
    have m1 : its.toArray[j] = u1 := by
     have := List.getElem?_eq_some_iff.mp k1
     simpa using this.2
    have m2 : its2.toArray[j] = u2 := by
     have := List.getElem?_eq_some_iff.mp k2
     simpa using this.2
    rw [m1, m2]
    exact ZeE I DEEP X.A.in1 ds[j] es[j] v1 v2 u1 u2 (by rw [units_in1]; show X.A.units + 1 + 60 + 1 < cLine; omega) (List.all_eq_true.mp hp.1 _ (List.getElem_mem h1')) (List.all_eq_true.mp hp.2 _ (List.getElem_mem h2')) z1 z2 w1 w2
   ·cases h
  | _ => simp [eqD] at h
 | _ => cases b <;> simp [eqD] at h
theorem Zhd (hu : X.A.units + 80 < cLine) : OpR X (compareOp .NotEq) (r2 X.K Zds) := by
 intro pins s σ H x y v u Q I rx ry h
 obtain ⟨ι, M, a, b, S, ra, rb, h⟩ := h
 unfold Zds at h
 cases q : eqD a b M with
 | none => rw [q] at h; exact h.elim
 | some k =>
  rw [q] at h
  exact ZiR hu I S ra rb rx ry q X.prog X.w X.xe _ ⟨.bl (!k), H, I, rfl, Zv.ok h S Rep.bl⟩
theorem Zg3 (x : List Nat) (n : Nat) (a : List Nat) : (List.replicate n x.toArray).foldl (· ++ ·) a.toArray = (a ++ (List.replicate n x).flatten).toArray := by
 induction n generalizing a with
 | zero => simp
 | succ n ih =>
  rw [List.replicate_succ, List.foldl_cons, List.replicate_succ, List.flatten_cons]
  have := ih (a ++ x)
  simp only [List.append_toArray] at this ⊢
  rw [this]
  simp
theorem Zjx (x : List Nat) (k : Int) : Txt.mul (⟨x.toArray⟩ : Str) k = ⟨(List.replicate k.toNat x).flatten.toArray⟩ := by
 unfold Txt.mul
 split
 ·rename_i h
  have : k.toNat = 0 := by omega
  rw [this]; rfl
 ·split
  ·rename_i h1 h2
   simp only [Bool.or_eq_true, beq_iff_eq, Str.length, List.size_toArray] at h2
   rcases h2 with h2 | h2
   ·subst h2; simp
   ·have : x = [] := List.eq_nil_of_length_eq_zero h2
    subst this
    simp
  ·have := Zg3 x k.toNat []
   rw [List.nil_append] at this
   exact congrArg Str.mk this
theorem Zj.repl {K : PySem.W.Frag} {H : Hp} {ι : List Addr} {ds : List D} {vs : List V} (r : Zj K H ι ds vs) : ∀ k : Nat, Zj K H ι (List.replicate k ds).flatten (List.replicate k vs).flatten
 | 0 => Zj.nil
 | k + 1 => by rw [List.replicate_succ, List.replicate_succ, List.flatten_cons, List.flatten_cons]; exact r.append (Zj.repl r k)
theorem ZeW : OpR X (binaryOp .Mult) (r2 X.K Zb5) := by
 have hs : OpR X (binaryOp .Mult) (fun x y H Q => ∃ (z : List Nat) (k : Int), x = .str ⟨z.toArray⟩ ∧ y = .int k ∧ z.length * k.toNat ≤ 1000000 ∧ k < 1000000 ∧ -1000000 < k ∧ Q (.str ⟨(List.replicate k.toNat z).flatten.toArray⟩) H) := by
  intro pins s σ H x y v u Q I rx ry h
  obtain ⟨z, k, rfl, rfl, h1, h2, h3, q⟩ := h
  obtain ⟨t, rfl⟩ := rx
  obtain ⟨t', rfl⟩ := ry
  refine SB.mul ⟨?_, fun h4 h5 => ?_, fun h4 h5 => ?_⟩ fun t'' tk => ?_
  ·simp; omega
  ·simp only [Str.length, List.size_toArray]
   simp at h4 h5
   have hk : 2 ≤ k := by
    simp only [Str.length, List.size_toArray] at h5
    omega
   have e : (k.toNat : Int) = k := by omega
   have hm : (z.length : Int) * k ≤ 1000000 := by
    have h1' : ((z.length * k.toNat : Nat) : Int) ≤ 1000000 := Int.ofNat_le.mpr h1
    rw [Int.natCast_mul, e] at h1'
    exact h1'
   have hd : (z.length : Int) ≤ 9223372036854775807 / k := Int.le_ediv_of_mul_le (by omega) (by omega)
   show ¬ ((z.length : Int) > (2 ^ 63 - 1) / k)
   have e3 : ((2 : Int) ^ 63 - 1) = 9223372036854775807 := by decide
   rw [e3]
   omega
  ·unfold Builtin.Str.tooLong
   simp only [Str.length, List.size_toArray, decide_eq_false_iff_not]
   have hsz : (1000000 : Nat) ≤ sizeLine := ZaK
   omega
  ·rw [Zjx]
   exact ⟨.str _, H, I.tok _, ⟨_, rfl⟩, q⟩
 refine OpR.imp (OpR.or Zjr (OpR.or hs ZjB)) fun x y H Q ⟨ι, M, a, b, S, ra, rb, h⟩ => ?_
 cases a with
 | int i => cases b with
  | int j =>
   simp only [Zb5] at h
   split at h
   ·rename_i hm
    refine .inl ⟨i, j, ra.int_inv, rb.int_inv, ?_, Zv.ok h S Rep.int⟩
    simp only [ZbF, Bool.or_eq_true, Bool.and_eq_true, decide_eq_true_eq] at hm
    exact hm
   ·exact h.elim
  | _ => exact h.elim
 | str z => cases b with
  | int k =>
   simp only [Zb5] at h
   split at h
   ·rename_i hz
    exact .inr (.inl ⟨z, k, ra.str_inv, rb.int_inv, hz.1, hz.2.1, hz.2.2, Zv.ok h S Rep.str⟩)
   ·exact h.elim
  | _ => exact h.elim
 | ref n => cases b with
  | int k =>
   simp only [Zb5] at h
   cases hn : M[n]? with
   | none => simp only [hn] at h; exact h.elim
   | some o =>
    cases o with
    | dct _ => simp only [hn] at h; exact h.elim
    | fdct _ => simp only [hn] at h; exact h.elim
    | lst z =>
     simp only [hn] at h
     split at h
     ·rename_i hz
      obtain ⟨p, hp, rfl⟩ := ra.ref_inv
      obtain ⟨vs, e, r⟩ := S.obj n _ p hn hp
      refine .inr (.inr ⟨p, k, vs, rfl, rb.int_inv, e, by omega, by omega, by rw [r.length]; exact Nat.le_trans hz.1 ZaK, fun q hq => ?_⟩)
      obtain ⟨x2, S2, r2⟩ := S.lst hq (Zj.repl r k.toNat)
      exact h _ _ _ x2 S2 r2
     ·exact h.elim
  | _ => exact h.elim
 | _ => cases b <;> exact h.elim
theorem ZfV (n d : Nat) (hd : d ≤ n) (o : Option Int) : (match o with | none => (d : Int) | some i => max 0 (min (if i < 0 then i + (n : Int) else i) (n : Int))) = ((sIx n d o : Nat) : Int) := by
 cases o with
 | none => rfl
 | some v =>
  simp only [sIx]
  split <;> omega
theorem ZdG (lo hi : Option Int) (n : Nat) : Builtin.Str.strSliceIndices lo hi 1 n = (List.range (sIx n n hi - sIx n 0 lo)).map (fun k => sIx n 0 lo + k) := by
 have e1 := ZfV n 0 (Nat.zero_le _) lo
 have e2 := ZfV n n (Nat.le_refl _) hi
 have key : Builtin.Str.strSliceIndices lo hi 1 n = sliceRange ((sIx n 0 lo : Nat) : Int) ((sIx n n hi : Nat) : Int) 1 := by
  rw [← e1, ← e2]
  simp only [Builtin.Str.strSliceIndices, show ((1 : Int) > 0) = True from by simp, if_true]
  cases lo <;> cases hi <;> rfl
 rw [key]
 generalize sIx n 0 lo = a
 generalize sIx n n hi = b
 simp only [sliceRange, show ((1 : Int) > 0) = True from by simp, if_true]
 by_cases hlt : (a : Int) < b
 ·have e3 : (((b : Int) - a + 1 - 1) / 1).toNat = b - a := by first | omega | (simp; done) | (simp; omega)
  simp only [hlt, if_true, e3]
  refine List.map_congr_left fun k _ => ?_
  omega
 ·have : b - a = 0 := by omega
  simp [hlt, this]
theorem ZeD (n d : Nat) (hd : d ≤ n) (o : Option Int) : sIx n d o ≤ n := by
 cases o with
 | none => exact hd
 | some v => simp only [sIx]; split <;> omega
theorem ZfF (z : List Nat) (lo hi : Option Int) (l u : Option (Int × Tok)) (hl : l.map (·.1) = lo) (hu : u.map (·.1) = hi) :
  (if ((1 : Int) == 1 && (slicePicked ⟨z.toArray⟩ l u none).length == (⟨z.toArray⟩ : Str).length) = true then (⟨z.toArray⟩ : Str) else ⟨((slicePicked ⟨z.toArray⟩ l u none).filterMap ((⟨z.toArray⟩ : Str).cps[·]?)).toArray⟩) = ⟨(cutD z lo hi).toArray⟩ := by
 have e0 : slicePicked ⟨z.toArray⟩ l u none = (List.range (sIx z.length z.length hi - sIx z.length 0 lo)).map (fun k => sIx z.length 0 lo + k) := by
  unfold slicePicked
  rw [hl, hu]
  simp only [Str.length, List.size_toArray]
  exact ZdG lo hi z.length
 have hb := ZeD z.length z.length (Nat.le_refl _) hi
 rw [e0]
 have pick : ((List.range (sIx z.length z.length hi - sIx z.length 0 lo)).map (fun k => sIx z.length 0 lo + k)).filterMap ((⟨z.toArray⟩ : Str).cps[·]?) = cutD z lo hi := by
  unfold cutD
  by_cases hab : sIx z.length 0 lo ≤ sIx z.length z.length hi
  ·have h := StrLaws.picks z (sIx z.length z.length hi - sIx z.length 0 lo) (sIx z.length 0 lo) (by omega)
   simpa using h
  ·have : sIx z.length z.length hi - sIx z.length 0 lo = 0 := by omega
   rw [this]
   simp
 rw [pick]
 split
 ·rename_i hc
  simp only [List.length_map, List.length_range, Str.length, List.size_toArray, Bool.and_eq_true, beq_iff_eq] at hc
  have hc2 := hc.2
  have h0 : sIx z.length 0 lo = 0 ∨ z.length = 0 := by omega
  have : cutD z lo hi = z := by
   unfold cutD
   rcases h0 with h0 | h0
   ·rw [h0, List.drop_zero, List.take_of_length_le (by omega)]
   ·have : z = [] := List.eq_nil_of_length_eq_zero h0
    subst this
    simp
  rw [this]
 ·rfl
theorem Zjg : SlR X (fun x lo hi H Q => ∃ z : List Nat, x = .str ⟨z.toArray⟩ ∧ z.length ≤ SZ ∧ Q (.str ⟨(cutD z lo hi).toArray⟩) H) := by
 intro pins s σ H x v vl vu lo hi sl Q I rx hs pl pu h
 obtain ⟨z, rfl, hz, q⟩ := h
 obtain ⟨t, rfl⟩ := rx
 have part : ∀ {v : Value} {o : Option Int}, IsPart v o → ∃ p : Option (Int × Tok), v = partValue p ∧ p.map (·.1) = o := by
  intro v o h
  cases h with
  | none => exact ⟨none, rfl, rfl⟩
  | int i t => exact ⟨some (i, t), rfl, rfl⟩
 obtain ⟨l, rfl, hl⟩ := part pl
 obtain ⟨u, rfl, hu⟩ := part pu
 refine ⟨"str", _, PySem.F.slot_str_getitem.lookup, typeIs_str _ _ _, ?_⟩
 refine wpAny_getItem_str_slice (l := l) (u := u) (st := none) hs rfl ?_
 unfold sliceMade
 refine post_val_or_made (fun _ => ?_) fun t' k => ?_
 ·show ((slicePicked ⟨z.toArray⟩ l u none).filterMap ((⟨z.toArray⟩ : Str).cps[·]?)).toArray.size ≤ sizeLine
  rw [List.size_toArray]
  refine Nat.le_trans (List.length_filterMap_le _ _) ?_
  show (Builtin.Str.strSliceIndices (l.map (·.1)) (u.map (·.1)) 1 (⟨z.toArray⟩ : Str).length).length ≤ sizeLine
  rw [ZdG]
  simp only [List.length_map, List.length_range, Str.length, List.size_toArray]
  have := ZeD z.length z.length (Nat.le_refl _) (u.map (·.1))
  have := ZaK
  omega
 ·have e := ZfF z lo hi l u hl hu
  have e' : (if (((none : Option (Int × Tok)).map (·.1)).getD 1 == 1 && (slicePicked ⟨z.toArray⟩ l u none).length == (⟨z.toArray⟩ : Str).length) = true then (⟨z.toArray⟩ : Str) else ⟨((slicePicked ⟨z.toArray⟩ l u none).filterMap ((⟨z.toArray⟩ : Str).cps[·]?)).toArray⟩) = ⟨(cutD z lo hi).toArray⟩ := e
  rw [e']
  exact ⟨.str _, H, I.tok _, ⟨_, rfl⟩, q⟩
theorem Zc4 {prog : Program} {w : World} {A : Around} {E : Value → Shared → Prop} {s : Shared} {t sl : Addr} {items : Array Value} {vl vu : Value} {lo hi : Option Int} {Q : Value → Shared → Prop} (ht : IsTup s.heap t items) (hs : s.heap.IsSliceOf sl vl vu .none) (pl : IsPart vl lo) (pu : IsPart vu hi)
  (hw : HT.sIx items.size 0 lo = 0 ∧ HT.sIx items.size items.size hi = items.size) (h : Q (.ref t) s) : wpAny (model prog w) A (getItem (.ref t) (.ref sl)) Q E s := by
 obtain ⟨os, hos, hcs, hds⟩ := id hs
 have hTs : s.TypeIs (.ref sl) "slice" := ⟨os, hos, hcs⟩
 unfold getItem
 try with_reducible refine wpAny_holding ?_
 first | refine wpAny_bind (wpAny_pure ?_) | skip
 refine wpAny_bind (wpAny_sequenceKey ht.typeIs (by decide) ?_)
 refine wpAny_bind (wpAny_callSpecial?_slot (name := Str.ofString "__getitem__") ht.typeIs PyProof.Rows.slot_tuple_getitem
  (wpAny_call_entry PyProof.Rows.slot_tuple_getitem ht.typeIs entry_tuple_getitem ?_ (args_tuple_getitem _ _)))
 show wpAny _ _ (Builtin.Tuple.tupleItemsOf (.ref t) >>= _) _ _ s
 refine wpAny_bind (tupleItemsOf_ ht ?_)
 refine wpAny_bind (wpAny_typeOf hTs ?_)
 rw [if_pos (by decide)]
 refine wpAny_bind (HT.sliceApplied_gen hs pl pu ?_)
 have hyes : (((HT.sIx items.size 0 lo : Nat) : Int) == 0 && (1 : Int) == 1 && (HT.sIx items.size items.size hi - HT.sIx items.size 0 lo) == items.size) = true := by
  rw [hw.1, hw.2]; simp
 show wpAny _ _ (if (((HT.sIx items.size 0 lo : Nat) : Int) == 0 && (1 : Int) == 1 && (HT.sIx items.size items.size hi - HT.sIx items.size 0 lo) == items.size) = true then _ else _) _ _ s
 rw [if_pos hyes]
 unfold Builtin.Tuple.tupleIsExact
 refine wpAny_bind (wpAny_bind (wpAny_typeOf ht.typeIs (wpAny_pure ?_)))
 rw [if_pos (by decide)]
 exact wpAny_bind (wpAny_rule (wpAny_pure ⟨_, rfl, wpAny_pure h⟩))
theorem ZhC : SlR X (fun x lo hi H Q => ∃ a xs, x = .ref a ∧ SqT X.K H a xs ∧ (HT.sIx xs.length 0 lo = 0 ∧ HT.sIx xs.length xs.length hi = xs.length) ∧ Q (.ref a) H) := by
 intro pins s σ H x v vl vu lo hi sl Q I rx hs pl pu h
 obtain ⟨a, xs, rfl, hx, hw, q⟩ := h
 cases rx
 obtain ⟨its, r, ht, hz⟩ := I.tuple hx
 have hlen : its.toArray.size = xs.length := by rw [List.size_toArray]; exact r.length.symm
 refine ⟨"tuple", _, PyProof.Rows.slot_tuple_getitem.lookup, ht.typeIs, ?_⟩
 exact Zc4 ht hs pl pu (by rw [hlen]; exact hw) ⟨.ref a, H, I, rfl, q⟩
theorem ZfE : SlR X (rS X.K) := SlR.imp (SlR.or (SlR.or Zjh ZhC) (SlR.or ZhQ Zjg)) fun x lo hi H Q ⟨ι, M, a, S, ra, h⟩ => by
 have ex : ∀ n d o, HT.sIx n d o = sIx n d o := fun n d o => by cases o <;> rfl
 cases a with
 | tup ds =>
  simp only [Zfd] at h
  obtain ⟨p, vs, rfl, s, r⟩ := ra.tup_inv
  by_cases hw : sIx ds.length 0 lo = 0 ∧ sIx ds.length ds.length hi = ds.length
  ·refine .inl (.inr ⟨p, vs, rfl, s, by rw [ex, ex, r.length]; exact hw, ?_⟩)
   have e : cutD ds lo hi = ds := by unfold cutD; rw [hw.1, hw.2]; simp
   rw [e] at h
   exact Zv.ok h S (Rep.tup s r)
  ·refine .inl (.inl ⟨p, vs, rfl, s, by rw [ex, ex, r.length]; exact hw, fun q hq => ?_⟩)
   obtain ⟨x2, S2, r2⟩ := S.tupl hq (Zfz r lo hi)
   exact h _ _ _ x2 S2 r2
 | scr ds =>
  simp only [Zfd] at h
  obtain ⟨p, vs, rfl, s, r⟩ := ra.scr_inv
  refine .inr (.inl ⟨p, vs, rfl, s.sq, fun q hq => ?_⟩)
  obtain ⟨x2, S2, r2⟩ := S.lst hq (Zfz r lo hi)
  exact h _ _ _ x2 S2 r2
 | str z =>
  simp only [Zfd] at h
  split at h
  ·rename_i hz
   exact .inr (.inr ⟨z, ra.str_inv, hz, Zv.ok h S Rep.str⟩)
  ·exact h.elim
 | ref n =>
  simp only [Zfd] at h
  cases hn : M[n]? with
  | none => simp only [hn] at h; exact h.elim
  | some o =>
   cases o with
   | dct _ => simp only [hn] at h; exact h.elim
   | fdct _ => simp only [hn] at h; exact h.elim
   | lst ds =>
    simp only [hn] at h
    obtain ⟨p, hp, rfl⟩ := ra.ref_inv
    obtain ⟨vs, e, r⟩ := S.obj n _ p hn hp
    refine .inr (.inl ⟨p, vs, rfl, SqL.of e, fun q hq => ?_⟩)
    obtain ⟨x2, S2, r2⟩ := S.lst hq (Zfz r lo hi)
    exact h _ _ _ x2 S2 r2
 | _ => exact h.elim
theorem ZdM {K : PySem.W.Frag} {H : Hp} {ι : List Addr} {d : D} {xs : List V} (r : Zj K H ι [d] xs) : ∃ x, xs = [x] ∧ Rep K H ι d x := by
 obtain ⟨v, ws, rfl, r1, r2⟩ := r.cons_inv
 have := r2.nil_inv
 subst this
 exact ⟨v, rfl, r1⟩
theorem Zbw : Za5 X (.builtin "len") (rB X.K ZaC) := Za5.imp Zhr fun xs H Q ⟨ι, M, ds, S, rd, h⟩ => by
 cases ds with
 | nil => exact h.elim
 | cons d ds =>
  cases ds with
  | cons _ _ => cases d <;> exact h.elim
  | nil =>
   obtain ⟨x, rfl, r⟩ := ZdM rd
   cases d with
   | tup z =>
    obtain ⟨p, vs, rfl, s, r'⟩ := r.tup_inv
    exact ⟨_, vs.length, rfl, .inr ⟨vs, s, rfl⟩, by rw [r'.length]; exact Zv.ok h S Rep.int⟩
   | scr z =>
    obtain ⟨p, vs, rfl, s, r'⟩ := r.scr_inv
    exact ⟨_, vs.length, rfl, .inl ⟨vs, s.sq, rfl⟩, by rw [r'.length]; exact Zv.ok h S Rep.int⟩
   | str z =>
    simp only [ZaC] at h
    split at h
    ·rename_i hz
     have := r.str_inv
     subst this
     refine ⟨_, z.length, rfl, ⟨?_, ?_⟩, Zv.ok h S Rep.int⟩
     ·show z.toArray.size ≤ sizeLine
      rw [List.size_toArray]
      exact Nat.le_trans hz ZaK
     ·show z.length = z.toArray.size
      rw [List.size_toArray]
    ·exact h.elim
   | ref n =>
    cases hn : M[n]? with
    | none => simp only [ZaC, hn] at h; exact h.elim
    | some o =>
     cases o with
     | dct _ => simp only [ZaC, hn] at h; exact h.elim
     | fdct _ => simp only [ZaC, hn] at h; exact h.elim
     | lst z =>
      simp only [ZaC, hn] at h
      obtain ⟨p, hp, rfl⟩ := r.ref_inv
      obtain ⟨vs, e, r'⟩ := S.obj n _ p hn hp
      exact ⟨_, vs.length, rfl, .inl ⟨vs, SqL.of e, rfl⟩, by rw [r'.length]; exact Zv.ok h S Rep.int⟩
   | _ => exact h.elim
theorem ZcN : Za5 X (.type "tuple") (rB X.K Zbe) := Za5.imp Zeg fun xs H Q ⟨ι, M, ds, S, rd, h⟩ => by
 cases ds with
 | nil => exact h.elim
 | cons d ds =>
  cases ds with
  | cons _ _ => cases d <;> exact h.elim
  | nil =>
   obtain ⟨x, rfl, r⟩ := ZdM rd
   cases d with
   | tup z =>
    obtain ⟨p, vs, rfl, s, r'⟩ := r.tup_inv
    exact ⟨p, vs, rfl, .inr ⟨s, Zv.ok h S (Rep.tup s r')⟩⟩
   | scr z =>
    obtain ⟨p, vs, rfl, s, r'⟩ := r.scr_inv
    refine ⟨p, vs, rfl, .inl ⟨s.sq, fun q hq => ?_⟩⟩
    obtain ⟨x2, S2, r2⟩ := S.tupl hq r'
    exact h _ _ _ x2 S2 r2
   | ref n =>
    cases hn : M[n]? with
    | none => simp only [Zbe, hn] at h; exact h.elim
    | some o =>
     cases o with
     | dct _ => simp only [Zbe, hn] at h; exact h.elim
     | fdct _ => simp only [Zbe, hn] at h; exact h.elim
     | lst z =>
      simp only [Zbe, hn] at h
      obtain ⟨p, hp, rfl⟩ := r.ref_inv
      obtain ⟨vs, e, r'⟩ := S.obj n _ p hn hp
      refine ⟨p, vs, rfl, .inl ⟨SqL.of e, fun q hq => ?_⟩⟩
      obtain ⟨x2, S2, r2⟩ := S.tupl hq r'
      exact h _ _ _ x2 S2 r2
   | _ => exact h.elim
theorem ZgR : Za5 X (.type "list") (rB X.K Zd9) := Za5.imp ZeI fun xs H Q ⟨ι, M, ds, S, rd, h⟩ => by
 cases ds with
 | nil => exact h.elim
 | cons d ds =>
  cases ds with
  | cons _ _ => cases d <;> exact h.elim
  | nil =>
   obtain ⟨x, rfl, r⟩ := ZdM rd
   cases d with
   | tup z =>
    obtain ⟨p, vs, rfl, s, r'⟩ := r.tup_inv
    refine ⟨p, vs, rfl, .inr s, fun q hq => ?_⟩
    obtain ⟨x2, S2, r2⟩ := S.lst hq r'
    exact h _ _ _ x2 S2 r2
   | scr z =>
    obtain ⟨p, vs, rfl, s, r'⟩ := r.scr_inv
    refine ⟨p, vs, rfl, .inl s.sq, fun q hq => ?_⟩
    obtain ⟨x2, S2, r2⟩ := S.lst hq r'
    exact h _ _ _ x2 S2 r2
   | ref n =>
    cases hn : M[n]? with
    | none => simp only [Zd9, hn] at h; exact h.elim
    | some o =>
     cases o with
     | dct _ => simp only [Zd9, hn] at h; exact h.elim
     | fdct _ => simp only [Zd9, hn] at h; exact h.elim
     | lst z =>
      simp only [Zd9, hn] at h
      obtain ⟨p, hp, rfl⟩ := r.ref_inv
      obtain ⟨vs, e, r'⟩ := S.obj n _ p hn hp
      refine ⟨p, vs, rfl, .inl (SqL.of e), fun q hq => ?_⟩
      obtain ⟨x2, S2, r2⟩ := S.lst hq r'
      exact h _ _ _ x2 S2 r2
   | _ => exact h.elim
end
end L3
namespace L3
open PySem PySem.Spec PyProof.Rows L2
theorem ZaO : bootBuiltins "len" = some (.builtin "len") := by decide +kernel
theorem ZjE : bootBuiltins "all" = some (.builtin "all") := by decide +kernel
theorem ZcP : bootBuiltins "isinstance" = some (.builtin "isinstance") := by decide +kernel
theorem Zf2 : bootBuiltins "list" = some (.type "list") := by decide +kernel
theorem Zcl : bootBuiltins "tuple" = some (.type "tuple") := by decide +kernel
section
variable {X : Cx} {a : Expr} {pos p p2 : Pos} {f : E3}
def tyN : Ty3 → String
 | .int => "int" | .bool => "bool" | .str => "str" | .list => "list" | .tuple => "tuple"
theorem ZcU (K : PySem.W.Frag) (t : String) (T : Ty3) (ht : t ∈ ["NoneType", "bool", "int", "str", "list", "tuple", "dict"]) :
  PySem.W.kitOne K (.type t) (.type (tyN T)) = some (t == tyN T || (t == "bool" && tyN T == "int")) := by
 simp only [List.mem_cons, List.not_mem_nil, or_false] at ht
 rcases ht with rfl | rfl | rfl | rfl | rfl | rfl | rfl <;> cases T <;> kernel_rfl
theorem Zhl (T : Ty3) : bootBuiltins (tyN T) = some (.type (tyN T)) := by cases T <;> decide +kernel
theorem ZhE {pins : List (Addr × Obj)} {σ : St} {H : Hp} {s : Shared} {ι : List Addr} {M : Store} {A : Around} {E : Value → Shared → Prop} {Q : Value → Shared → Prop} {T : Ty3} {d : D} {x : V} {u : Value} {b : Bool} (I : Inv X pins σ H s) (S : Zx X.K H ι M) (r : Rep X.K H ι d x) (ru : RelV x u)
  (e : Zbr T d M = some b) (h : ∀ tk, Q (.bool b) { s with toks := tk }) : wpAny (model X.prog X.w) A (call (.builtin "isinstance") [u, .type (tyN T)]) Q E s := by
 cases d with
 | non =>
  have := r.non_inv; subst this
  have hb : b = false := by simpa [Zbr] using e.symm
  subst hb
  exact ZbS I ru (.non) ((ZcU X.K "NoneType" T (by simp)).trans (by cases T <;> rfl)) h
 | bl c =>
  have := r.bl_inv; subst this
  have hb : b = (T == .bool || T == .int) := by simpa [Zbr] using e.symm
  subst hb
  exact ZbS I ru (.bl c) ((ZcU X.K "bool" T (by simp)).trans (by cases T <;> rfl)) h
 | int i =>
  have := r.int_inv; subst this
  have hb : b = (T == .int) := by simpa [Zbr] using e.symm
  subst hb
  exact ZbS I ru (.int i) ((ZcU X.K "int" T (by simp)).trans (by cases T <;> rfl)) h
 | str z =>
  have := r.str_inv; subst this
  have hb : b = (T == .str) := by simpa [Zbr] using e.symm
  subst hb
  exact ZbS I ru (.str _) ((ZcU X.K "str" T (by simp)).trans (by cases T <;> rfl)) h
 | tup ds =>
  obtain ⟨a, vs, rfl, st, rr⟩ := r.tup_inv
  cases ru
  have hb : b = (T == .tuple) := by simpa [Zbr] using e.symm
  subst hb
  obtain ⟨its, _, pt, _⟩ := I.tuple st
  obtain ⟨o, h1, h2, _⟩ := pt
  exact PySem.W.kia_one PySem.W.kitx_tuple I.kIn ⟨o, h1, h2⟩ ((ZcU X.K "tuple" T (by simp)).trans (by cases T <;> rfl)) (fun z => nomatch z) h
 | scr ds => simp [Zbr] at e
 | ref n =>
  simp only [Zbr] at e
  cases hn : M[n]? with
  | none => simp [hn] at e
  | some o =>
   obtain ⟨a, ha, rfl⟩ := r.ref_inv
   cases o with
   | lst z =>
    have hb : b = (T == .list) := by simpa [hn] using e.symm
    subst hb
    obtain ⟨vs, ev, _⟩ := S.obj n _ a hn ha
    exact ZbS I ru (.lst ev) ((ZcU X.K "list" T (by simp)).trans (by cases T <;> rfl)) h
   | dct z =>
    have hb : b = false := by simpa [hn] using e.symm
    subst hb
    obtain ⟨vs, ev, _⟩ := S.obj n _ a hn ha
    exact ZbS I ru (.dK ev) ((ZcU X.K "dict" T (by simp)).trans (by cases T <;> rfl)) h
   | fdct z => simp [hn] at e
theorem ZbW (T : Ty3) {x : Str} (hm : X.mg "isinstance" = none) (hm2 : X.mg x = none) (h : C3 X a f) (hx : x = (Str.ofString (tyN T)) := by rfl) (hg : Gl X "isinstance" := by rfl) (hg2 : Gl X x := by rfl)
  (hn : x ≠ "__name__" := by decide) (hd : (x == ("__debug__" : Str)) = false := by decide)
  (hs : starEach (a :: [.Name x p2]) X.env = (false, eval a X.env) :: starEach [.Name x p2] X.env := by rfl) (hs2 : starEach (.Name x p2 :: []) X.env = (false, eval (.Name x p2) X.env) :: starEach [] X.env := by rfl)
  (hpl : (backTo pos (starEach [.Name x p2] X.env)).any (·.1) = false := by rfl) : C3 X (.Call (.Name "isinstance" p) [a, .Name x p2] [] pos) (e1 (Zbp T) f) := by
 subst hx
 have hc : Za5 X (.builtin "isinstance") (fun xs H Q => ∃ ι M d x, xs = [x, .ty (tyN T)] ∧ Zx X.K H ι M ∧ Rep X.K H ι d x ∧ Zv X.K H ι Q (Zbp T d M)) := by
  intro pins s σ H xs us Q I r q
  obtain ⟨ι, M, d, x, rfl, S, rd, q⟩ := q
  obtain ⟨u, w', rfl, ru, rw'⟩ := vals2 r
  cases rw'
  unfold Zbp at q
  cases e : Zbr T d M with
  | none => rw [e] at q; exact q.elim
  | some b =>
   rw [e] at q
   exact ZhE I S rd ru e fun tk => ⟨.bl b, H, I.tok _, rfl, Zv.ok q S Rep.bl⟩
 refine (Zd8 hc hg hm ZcP (Zct h (Zct (Zex hg2 hm2 (Zhl T) (v := .ty (tyN T)) rfl hn hd) ZeA hs2) hs) (by decide) (by decide) hs hpl).imp fun σ H Q ⟨ι, M, env, S, E, h⟩ => ?_
 obtain ⟨d, M1, e1, h⟩ := Zv.bind h
 refine ⟨ι, M, env, S, E, ?_⟩
 rw [e1]
 intro v H1 ι1 x1 S1 r1
 exact ⟨ι1, M1, d, v, rfl, S1, r1, h.up x1⟩
theorem ZcR {p : D → Bool} : ∀ {l : List D} {e : Nat → Bool}, (∀ (j : Nat) d, l[j]? = some d → e j = p d) → (List.range l.length).all e = l.all p
 | [], _, _ => rfl
 | d :: l, e, h => by
  rw [List.length_cons, List.range_succ_eq_map, List.all_cons, List.all_map, h 0 d rfl, List.all_cons]
  congr 1
  exact ZcR fun j d' hj => h (j + 1) d' (by simpa using hj)
theorem Zku (hc : X.calm = true) : Za5 X (.builtin "all") (rB X.K Zgn) := by
 intro pins s σ H xs us Q I rs h
 obtain ⟨ι, M, ds, S, rd, h⟩ := h
 cases ds with
 | nil => exact h.elim
 | cons d ds =>
  cases ds with
  | cons _ _ => cases d <;> exact h.elim
  | nil =>
   obtain ⟨x, rfl, r⟩ := ZdM rd
   obtain ⟨u, rfl, ru⟩ := vals1 rs
   cases d with
   | ref n =>
    cases hn : M[n]? with
    | none => simp only [Zgn, hn] at h; exact h.elim
    | some o =>
     cases o with
     | dct _ => simp only [Zgn, hn] at h; exact h.elim
     | fdct _ => simp only [Zgn, hn] at h; exact h.elim
     | lst z =>
      simp only [Zgn, hn] at h
      cases q : allB z with
      | none => rw [q] at h; exact h.elim
      | some b =>
       rw [q] at h
       obtain ⟨a, ha, rfl⟩ := r.ref_inv
       cases ru
       obtain ⟨vs, ev, rv⟩ := S.obj n _ a hn ha
       obtain ⟨its, rr, pl, _⟩ := I.list (SqL.of ev)
       have hz : z.all isB = true ∧ z.all isT = b := by
        unfold allB at q
        split at q
        ·rename_i hz
         exact ⟨hz, Option.some.inj q⟩
        ·cases q
       have hlen : its.toArray.size = z.length := by rw [List.size_toArray, ← rr.length, rv.length]
       have hhd : X.A.in1.handled = none := I.ok.hd hc
       refine call_all_walk (wpAny_pyIter_list pl.isList ⟨s.heap.objs.size, _, _, _, _, _, (fun j => match z[j]? with | some d => isT d | none => true), rfl, Walks.list hhd s.heap.objs.size a (Nat.ne_of_lt (I.hok.lt ev)) its.toArray, ⟨⟨_, Heap.get?_push_size _ rfl, rfl, rfl⟩, pl.isList.at fun o e => Heap.get?_push_of_some _ e⟩, ?_, ?_⟩)
       ·intro j v s' Q' E' hv hq
        have hv' : its[j]? = some v := by simpa using hv
        have hj : j < z.length := by
         have := (List.getElem?_eq_some_iff.mp hv').1
         rw [← List.size_toArray, hlen] at this
         exact this
        have e1 : z[j]? = some z[j] := by simp [hj]
        have hb := List.all_eq_true.mp hz.1 _ (List.getElem_mem hj)
        obtain ⟨w, g1, g2⟩ := rv.get e1
        obtain ⟨u', k1, k2⟩ := rr.get g1
        rw [hv'] at k1
        cases k1
        have hq' : Q' (isT z[j]) s' := by
         have := hq
         simp only [e1] at this
         exact this
        generalize z[j] = dj at hb g2 hq'
        cases dj with
        | bl c =>
         have := g2.bl_inv
         subst this
         cases k2
         exact wpAny_truthy_bool hq'
        | _ => simp [isB] at hb
       ·intro h' tk kk
        rw [hlen, ZcR (p := isT) (fun j d hd => by rw [hd]), hz.2]
        exact ⟨.bl b, H, I.kept (fun c o e => kk c o (by simp; exact Nat.ne_of_lt (Heap.lt_size e)) (Heap.get?_push_of_some _ e)), rfl, Zv.ok h S Rep.bl⟩
   | _ => exact h.elim
end
def Zip (outer : List (Str × NameKind)) (N : List Str) (scope : Scope) (N' : List Str) (own : Nat) : Bool :=
 (scope.names.all fun y => decide (y.2 ≠ .cell) && (decide (y.2 ≠ .free) || decide (outer.lookup y.1 = some .cell) || decide (outer.lookup y.1 = some .free)) && (decide (y.2 ≠ .local) || decide (scope.names.lookup y.1 = some .local))) &&
  decide (N'.length = N.length + own) && Zhs N N' scope
theorem Zcf {X : Cx} {scope : Scope} {N' : List Str} {own : Nat} (hk : scope.kind = .function) (h : Zip X.env.scope.names X.N scope N' own = true) : ZdQ X scope N' own := by
 simp only [Zip, Bool.and_eq_true, decide_eq_true_eq, List.all_eq_true, Bool.or_eq_true] at h
 obtain ⟨⟨h1, h2⟩, h3⟩ := h
 refine ⟨hk, fun y hy => (h1 y hy).1.1, fun y hy e => ?_, fun y hy e => ?_, h2, h3⟩
 ·rcases (h1 y hy).1.2 with (q | q) | q
  ·exact absurd e q
  ·exact .inl q
  ·exact .inr q
 ·rcases (h1 y hy).2 with q | q
  ·exact absurd e q
  ·exact q
theorem ZaH {K : PySem.W.Frag} {h : Heap} {mg : Str → Option Value} (KX : K.In h) (G : h.Ns mainGlobals mg) {x : Str} {st : Stmt} {f : Addr} {oc : Value} {od an : Option Addr} {osl : Array (Option Value)} {dV kV doc pm cdv ct : Value}
  (a : PySem.W.nsIn K mainGlobals x = some (some (.ref f))) (l : K.lookup f = some ⟨oc, od, .func (PySem.W.fnOf x x (Zai st) (Zac st) (Zh st) dV kV doc pm an cdv ct), osl⟩)
  (c : PySem.W.codeIn K cdv x = true) (k : PySem.W.keepIn K (.ref f) = true) {ps : List Str} (b : Binds K (PySem.W.fnOf x x (Zai st) (Zac st) (Zh st) dV kV doc pm an cdv ct) ps []) : ZaB K mg x st ps := ⟨f, _, Zhn l c k, PySem.W.mg_of KX G a, b⟩
theorem Zko {l : PySem.W.OpenLaw} {k : Nat} {q : Program} {loose : List Str} {XP : (Str → Option Value) → Heap → Prop} {YP : World → Heap → Prop} {d : DefRec} {K : Params → PySem.W.Frag} {F : F3} (hn : l.most = some 63) (hdf : d.params.defaults = []) (hr : ZbK k callerA)
  (hY : ∀ (w : World) (h : Heap), YP w h → (K w.params).In h)
  (G : ∀ (w : World) (mg : Str → Option Value) (fa : Addr) (h : Heap), (K w.params).In h → h.Ns mainGlobals mg → mg d.name = some (.ref fa) →
   ∃ fd : FuncData, (∀ (s : Shared) (u : Value), BindsTo s fd ⟨[u], []⟩ [("script", u)]) ∧ ∀ base : Heap, (K w.params).In base → base.Ns mainGlobals mg → Zdn l.prog w (K w.params) mg base CX0 k fa fd ["script"] (sp3 (K w.params) 1 F))
  (hF : ∀ ns : List Int, ns.length ≤ 63 → ∃ M', F [.scr (ns.map D.int)] [] = .ok (.bl true) M') :
  PySem.W.WalkO q loose XP YP l.row.toRowW d [] (fun f vs => PySem.call f vs) :=
 L2.Zga (n := 63) (k := k) (x := "script") (CX := fun _ => CX0) (sp := fun w => sp3 (K w.params) 1 F) hn (by decide) hdf hr hY G (fun w H a ns hl hO hS => by
  obtain ⟨M', e⟩ := hF ns hl
  refine ⟨[], [], [.scr (ns.map D.int)], ⟨rfl, List.nodup_nil, fun n o a h => by simp at h⟩, Zj.cons ?_ Zj.nil, rfl, ?_⟩
  ·simp only [Rep]
   refine ⟨a, ns.map V.int, rfl, ?_, Zj.ints ns⟩
   rcases hS with (h | ⟨o, h⟩) | h
   ·rcases hO a with z | ⟨ob, xs, z⟩
    ·rw [h] at z; cases z
    ·rw [h] at z; cases z
   ·exact .inl ⟨o, h⟩
   ·exact .inr h
  ·rw [e]
   exact fun v H' ι' _ _ r => r.bl_inv) fun _ _ _ _ _ z => z
end L3
namespace L3
open PySem PySem.Spec PyProof.Rows L2
theorem ZfM {a b : Zba} (h : dk a = dk b) : a = b := by
 cases a with
 | inl i => cases b with
  | inl j => simp only [dk, Sum.inl.injEq] at h; rw [h]
  | inr y => simp [dk] at h
 | inr x => cases b with
  | inl j => simp [dk] at h
  | inr y =>
   simp only [dk, Sum.inr.injEq, Str.mk.injEq] at h
   have := congrArg Array.toList h
   simp at this
   rw [this]
section
variable {K : PySem.W.Frag} {H H' : Hp} {ι ι' : List Addr} {M : Store} {p : Addr}
theorem KvR.nil : KvR K H ι [] [] := ⟨rfl, Zj.nil⟩
theorem KvR.cons {k : Zba} {d : D} {v : V} {kvs : List (Zba × D)} {ws : List (Key × V)} (h : Rep K H ι d v) (r : KvR K H ι kvs ws) : KvR K H ι ((k, d) :: kvs) ((dk k, v) :: ws) :=
 ⟨by simp [r.1], Zj.cons h r.2⟩
theorem KvR.cons_inv {q : Zba × D} {kvs : List (Zba × D)} {ws : List (Key × V)} (r : KvR K H ι (q :: kvs) ws) : ∃ v ws', ws = (dk q.1, v) :: ws' ∧ Rep K H ι q.2 v ∧ KvR K H ι kvs ws' := by
 obtain ⟨h1, h2⟩ := r
 cases ws with
 | nil => simp at h1
 | cons w ws =>
  simp only [List.map_cons, List.cons.injEq] at h1
  obtain ⟨v, us, e, r1, r2⟩ := Zj.cons_inv h2
  simp only [List.map_cons, List.cons.injEq] at e
  exact ⟨w.2, ws, by rw [← h1.1], e.1 ▸ r1, h1.2, e.2 ▸ r2⟩
theorem KvR.nil_inv {ws : List (Key × V)} (r : KvR K H ι [] ws) : ws = [] := by simpa using r.1
theorem KvR.mono {kvs : List (Zba × D)} {ws : List (Key × V)} (r : KvR K H ι kvs ws) (e : Ext K H ι H' ι') : KvR K H' ι' kvs ws := ⟨r.1, r.2.mono e⟩
theorem KvR.length {kvs : List (Zba × D)} {ws : List (Key × V)} (r : KvR K H ι kvs ws) : ws.length = kvs.length := by
 have := congrArg List.length r.1
 simpa using this
theorem KvR.val {kvs : List (Zba × D)} (k : Zba) : ∀ {ws : List (Key × V)}, KvR K H ι kvs ws → match ZgE kvs k with | some d => ∃ v, Zc0 ws (dk k) = some v ∧ Rep K H ι d v | none => Zc0 ws (dk k) = none := by
 induction kvs with
 | nil => intro ws r; rw [r.nil_inv]; exact Zhi
 | cons q kvs ih =>
  intro ws r
  obtain ⟨v, ws', rfl, r1, r2⟩ := r.cons_inv
  obtain ⟨k', d⟩ := q
  unfold ZgE
  by_cases e : k' = k
  ·rw [if_pos e]
   exact ⟨v, Zc8 (by rw [e]), r1⟩
  ·rw [if_neg e, Zc9 fun z => e (ZfM z)]
   exact ih r2
theorem KvR.append {k1 k2 : List (Zba × D)} {w1 w2 : List (Key × V)} (a : KvR K H ι k1 w1) (b : KvR K H ι k2 w2) : KvR K H ι (k1 ++ k2) (w1 ++ w2) :=
 ⟨by simp [a.1, b.1], by rw [List.map_append, List.map_append]; exact a.2.append b.2⟩
theorem KvR.any {kvs : List (Zba × D)} (k : Zba) : ∀ {ws : List (Key × V)}, KvR K H ι kvs ws → (ws.any fun kv => decide (kv.1 = dk k)) = (kvs.any fun q => decide (q.1 = k)) := by
 induction kvs with
 | nil => intro ws r; rw [r.nil_inv]; rfl
 | cons q kvs ih =>
  intro ws r
  obtain ⟨v, ws', rfl, r1, r2⟩ := r.cons_inv
  rw [List.any_cons, List.any_cons, ih r2]
  congr 1
  by_cases e : q.1 = k
  ·simp [e]
  ·simp [e]; exact fun z => e (ZfM z)
theorem KvR.put {kvs : List (Zba × D)} {k : Zba} {d : D} {v : V} {ws : List (Key × V)} (r : KvR K H ι kvs ws) (rd : Rep K H ι d v) : KvR K H ι (putD k d kvs) (putK ws (dk k) v) := by
 unfold putD putK
 rw [r.any k]
 by_cases c : (kvs.any fun q => decide (q.1 = k)) = true
 ·rw [if_pos c, if_pos c]
  clear c
  induction kvs generalizing ws with
  | nil => rw [r.nil_inv]; exact KvR.nil
  | cons q kvs ih =>
   obtain ⟨u, ws', rfl, r1, r2⟩ := r.cons_inv
   rw [List.map_cons, List.map_cons]
   by_cases e : q.1 = k
   ·rw [if_pos e, if_pos (by rw [e])]; exact KvR.cons rd (ih r2)
   ·rw [if_neg e, if_neg fun z => e (ZfM z)]; exact KvR.cons r1 (ih r2)
 ·rw [if_neg c, if_neg c]
  exact r.append (KvR.cons rd KvR.nil)
theorem Zx.dct (S : Zx K H ι M) (hp : H p = none) {kvs : List (Zba × D)} {ws : List (Key × V)} (r : KvR K H ι kvs ws) : Ext K H ι (upd H p (.dK ws)) (ι ++ [p]) ∧ Zx K (upd H p (.dK ws)) (ι ++ [p]) (M ++ [.dct kvs]) ∧ Rep K (upd H p (.dK ws)) (ι ++ [p]) (.ref M.length) (.ref p) := by
 have e : Ext K H ι (upd H p (.dK ws)) (ι ++ [p]) := Loose.extA (.inl hp)
 exact ⟨e, S.new hp ⟨ws, ZbX, r.mono e⟩, Rep.ref (by rw [← S.len]; simp)⟩
end
section
variable {X : Cx} {a b c e o : Expr} {es : List Expr} {pos p pos' apos cpos : Pos} {f g h : E3} {gl : EL3}
def ZiG (K : PySem.W.Frag) (H : Hp) (ι : List Addr) (Q : List (V × V) → Hp → Prop) (r : R3 (List (Zba × D))) : Prop := match r with
 | .ok l M' => ∀ ws H' ι', Ext K H ι H' ι' → Zx K H' ι' M' → KvR K H' ι' l ws → Q (ws.map fun kv => (kV kv.1, kv.2)) H'
 | _ => False
theorem ZiG.bind {K : PySem.W.Frag} {H : Hp} {ι : List Addr} {α : Type} {Q : List (V × V) → Hp → Prop} {r : R3 α} {k : α → Store → R3 (List (Zba × D))} (h : ZiG K H ι Q (r.bind k)) : ∃ a M, r = .ok a M ∧ ZiG K H ι Q (k a M) := by
 cases r with
 | ok a M => exact ⟨a, M, rfl, h⟩
 | exc x M => exact h.elim
 | bad => exact h.elim
theorem hu1 (hu : X.A.units + 80 < cLine) : X.A.units + 1 < cLine := by omega
theorem ZhG {K : PySem.W.Frag} {op : D → D → D → Store → R3 D} {H : Hp} {ι : List Addr} {Q : VK} {env : Zaa} {M : Store} (h' : Zv K H ι Q (e3 op f g h env M)) :
  ∃ a M1 b M2 c M3, f env M = .ok a M1 ∧ g env M1 = .ok b M2 ∧ h env M2 = .ok c M3 ∧ Zv K H ι Q (op a b c M3) := by
 obtain ⟨a, M1, e1, h'⟩ := Zv.bind h'
 obtain ⟨b, M2, e2, h'⟩ := Zv.bind h'
 obtain ⟨c, M3, e3, h'⟩ := Zv.bind h'
 exact ⟨a, M1, b, M2, c, M3, e1, e2, e3, h'⟩
theorem Zhg {K : PySem.W.Frag} {H : Hp} {ι : List Addr} {D' : Ends} {env : Zaa} {M : Store} {σ : St} (E : ZaW K H ι env σ) (h' : ZeM K H ι D' (Zal f env M)) : Zv K H ι (fun _ H' => D'.nx σ H') (f env M) := by
 unfold Zal at h'
 cases q : f env M with
 | ok d M1 => rw [q] at h'; exact fun v H1 ι1 x1 S1 r1 => h' σ H1 ι1 x1 S1 (E.mono x1)
 | exc x M1 => rw [q] at h'; exact h'.elim
 | bad => rw [q] at h'; exact h'.elim
theorem ZeR {i : Expr} {spos : Pos} (ho : C3 X o f) (hi : C3 X i g) (hv : C3 X e h)
  (ha : ∀ v, assign (.Subscript o i spos) X.env v = (do
   let ov ← holding [v] (eval o X.env)
   let iv ← holding [v, ov] (eval i X.env)
   standAt spos
   holding [v, ov, iv] (setItem ov iv v)
   release [v, ov, iv] []) := by intro _; rfl)
  (hs : swapsWithSole [.Subscript o i spos] e pos.line X.env = pure false := by rfl) (hw : swappedStores [.Subscript o i spos] e X.env = pure none := by rfl)
  (h1 : (assignEach [.Subscript o i spos] X.env).map (·.2) = [assign (.Subscript o i spos) X.env] := by rfl) : CS X (.Assign [.Subscript o i spos] e pos) (Zcq f g h) := (Zi7 hv (ZiJ ho hi set_list ha) hs hw h1).imp fun D' σ H ⟨ι, M, env, S, E, hh⟩ => by
 obtain ⟨d, M1, b, M2, k, M3, e1, e2, e3, hh⟩ := ZhG (Zhg E hh)
 refine ⟨ι, M, env, S, E, ?_⟩
 rw [e1]
 intro v H1 ι1 x1 S1 r1
 refine ⟨ι1, M1, env, S1, E.mono x1, ?_⟩
 rw [e2]
 intro x H2 ι2 x2 S2 r2
 refine ⟨ι2, M2, env, S2, (E.mono x1).mono x2, ?_⟩
 rw [e3]
 intro y H3 ι3 x3 S3 r3
 cases b with
 | ref n =>
  cases k with
  | int j =>
   simp only [Zhp] at hh
   cases hn : M3[n]? with
   | none => simp only [hn] at hh; exact hh.elim
   | some ob =>
    cases ob with
    | dct _ => simp only [hn] at hh; exact hh.elim
    | fdct _ => simp only [hn] at hh; exact hh.elim
    | lst xs =>
     simp only [hn] at hh
     cases hj : ixD xs.length j with
     | none => simp only [hj] at hh; exact hh.elim
     | some q =>
      simp only [hj] at hh
      obtain ⟨ad, ha, rfl⟩ := (r2.mono x3).ref_inv
      obtain ⟨ws, hw, kr⟩ := S3.obj n _ ad hn ha
      obtain ⟨x4, S4⟩ := S3.setl (.inr (.inl ⟨_, hw⟩)) ha (kr.set q ((r1.mono x2).mono x3))
      exact ⟨ad, ws, j, q, rfl, r3.int_inv, hw, by rw [kr.length]; exact hj, hh .non _ _ (((x1.trans x2).trans x3).trans x4) S4 Rep.non⟩
  | _ => exact hh.elim
 | _ => exact hh.elim
end
end L3
namespace L3
open PySem PySem.W PyProof.Rows
section
variable {lt : Nat → Nat → Bool}
structure ZkE (lt : Nat → Nat → Bool) : Prop where
 asym : ∀ {a b}, lt a b = true → lt b a = false
 tr : ∀ {a b c}, lt b a = false → lt c b = false → lt c a = false
theorem ZkE.rf (o : ZkE lt) (a : Nat) : lt a a = false := by
 cases h : lt a a
 ·rfl
 ·exact h ▸ o.asym h
end
end L3
namespace L3
open PySem PySem.W PyProof.Rows
section
def Zhy {α : Type} (n : Nat) (R : α → Prop) : KasT α → Prop
 | .ret a => R a
 | .ask i j k => i < n ∧ j < n ∧ ∀ b, Zhy n R (k b)
theorem Zhy.bind {α β : Type} {n : Nat} {R : α → Prop} {R' : β → Prop} {f : α → KasT β} (hf : ∀ a, R a → Zhy n R' (f a)) : ∀ {t : KasT α}, Zhy n R t → Zhy n R' (t.bind f)
 | .ret a, h => hf a h
 | .ask _ _ _, ⟨h1, h2, h3⟩ => ⟨h1, h2, fun b => (h3 b).bind hf⟩
variable {n : Nat}
end
section
variable {prog : Program} {w : World} {A : Around} {E : Value → Shared → Prop} {s : Shared}
end
end L3
namespace L3
open PySem PySem.W PySem.Spec PyProof.Rows L2
section
variable {prog : Program} {w : World} {A : Around} {K : PySem.W.Frag} {H : Hp} {ι : List Addr}
end
section
variable {X : Cx}
theorem Zj.pick {K : PySem.W.Frag} {H : Hp} {ι : List Addr} {x : List D} {vs : List V} (r : Zj K H ι x vs) (d0 : D) (v0 : V) : ∀ (p : List Nat), (∀ i ∈ p, i < x.length) → Zj K H ι (p.map fun i => x.getD i d0) (p.map fun i => vs.getD i v0)
 | [], _ => Zj.nil
 | i :: p, h => by
  have hi := h i List.mem_cons_self
  obtain ⟨v, e, q⟩ := r.get (i := i) (d := x[i]) (by simp [hi])
  refine Zj.cons ?_ (Zj.pick r d0 v0 p fun j hj => h j (List.mem_cons_of_mem _ hj))
  dsimp only
  rw [List.getD_eq_getElem?_getD, List.getD_eq_getElem?_getD, e, List.getElem?_eq_getElem hi]; exact q
theorem Vals.pick {vs : List V} {us : List Value} (r : Vals vs us) (v0 : V) : ∀ (p : List Nat), (∀ i ∈ p, i < vs.length) → Vals (p.map fun i => vs.getD i v0) (p.map fun i => us.getD i Value.none)
 | [], _ => .nil
 | i :: p, h => by
  have hi := h i List.mem_cons_self
  obtain ⟨v, e, q⟩ := r.get (i := i) (x := vs[i]) (by simp [hi])
  refine .cons ?_ (Vals.pick r v0 p fun j hj => h j (List.mem_cons_of_mem _ hj))
  dsimp only
  rw [List.getD_eq_getElem?_getD, List.getD_eq_getElem?_getD, e, List.getElem?_eq_getElem hi]; exact q
end
end L3
namespace L3
open PySem PySem.Spec PyProof.Rows L2
section
variable {X : Cx} {a b c e o : Expr} {es : List Expr} {pos p apos cpos : Pos} {f g h : E3} {gl : EL3}
end
section
variable {X : Cx} {pins : List (Addr × Obj)} {σ : St} {H : Hp} {s : Shared} {d : Addr} {ws : List (Key × V)} {ob : Obj}
end
section
variable {X : Cx} {tg e elt : Expr} {ifs : List Expr} {pos : Pos} {f fe : E3} {ts : List E3} {g : G3} {scope : Scope} {N' : List Str} {own : Nat}
end
end L3
namespace L3
open PySem PySem.Spec PyProof.Rows L2
section
variable {prog : Program} {w : World} {A : Around} {E : Value → Shared → Prop} {s : Shared}
end
section
variable {X : Cx}
end
end L3
namespace L3
open PySem PySem.Spec PyProof.Rows L2
theorem ZhI {X : Cx} {sts : List Stmt} : CSs X sts ZdI := fun _ _ _ _ _ _ ⟨_, _, _, _, _, h⟩ => h.elim
end L3
namespace L3
open PySem PySem.Spec PyProof.Rows L2
section
variable {X : Cx} {o e : Expr} {es : List Expr} {apos cpos : Pos} {f : E3} {gl : EL3}
theorem Zj.dropLast {K : PySem.W.Frag} {H : Hp} {ι : List Addr} {ds : List D} {vs : List V} (r : Zj K H ι ds vs) : Zj K H ι ds.dropLast vs.dropLast := by
 rw [List.dropLast_eq_take, List.dropLast_eq_take, r.length]; exact r.take _
end
end L3
namespace L3
open PySem PySem.Spec PyProof.Rows L2
section
variable {X : Cx} {a b c e o : Expr} {es : List Expr} {pos p apos cpos : Pos} {f g h : E3} {gl : EL3}
end
end L3
namespace L3
open PySem PySem.Spec PyProof.Rows L2
section
variable {X : Cx} {a b c e o : Expr} {es : List Expr} {pos p apos cpos : Pos} {f g h : E3} {gl : EL3}
end
end L3
namespace L3
open PySem PySem.Spec PyProof.Rows L2
section
variable {X : Cx} {a b c e o : Expr} {es : List Expr} {pos p p1 p2 p3 pt apos cpos : Pos} {f g h : E3} {gl : EL3}
theorem ZhN (K : PySem.W.Frag) (t : String) (T1 T2 : Ty3) (ht : t ∈ ["NoneType", "bool", "int", "str", "list", "tuple", "dict"]) :
  PySem.W.kitAny K (.type t) [.type (tyN T1), .type (tyN T2)] = some ((t == tyN T1 || (t == "bool" && tyN T1 == "int")) || (t == tyN T2 || (t == "bool" && tyN T2 == "int"))) := by
 simp only [List.mem_cons, List.not_mem_nil, or_false] at ht
 rcases ht with rfl | rfl | rfl | rfl | rfl | rfl | rfl <;> cases T1 <;> cases T2 <;> kernel_rfl
theorem Zig {pins : List (Addr × Obj)} {σ : St} {H : Hp} {s : Shared} {ι : List Addr} {M : Store} {d : D} {x : V} {u : Value} (I : Inv X pins σ H s) (S : Zx X.K H ι M) (r : Rep X.K H ι d x) (ru : RelV x u) (hd : Zbr .int d M ≠ none) :
  ∃ (t : String) (Hc : Heap → Prop), PySem.W.KitX X.K u (.type t) Hc ∧ Hc s.heap ∧ u ≠ .builtin "__main__.__loader__#opaque" ∧ t ∈ ["NoneType", "bool", "int", "str", "list", "tuple", "dict"] ∧ ∀ T b, Zbr T d M = some b → b = (t == tyN T || (t == "bool" && tyN T == "int")) := by
 cases d with
 | non =>
  have := r.non_inv; subst this
  cases (show u = Value.none from ru)
  exact ⟨"NoneType", _, PySem.W.kitx_none, True.intro, (fun z => nomatch z), by simp, fun T b e => by
   have hb : b = false := by simpa [Zbr] using e.symm
   subst hb; cases T <;> rfl⟩
 | bl c =>
  have := r.bl_inv; subst this
  cases (show u = Value.bool c from ru)
  exact ⟨"bool", _, PySem.W.kitx_bool, True.intro, (fun z => nomatch z), by simp, fun T b e => by
   have hb : b = (T == .bool || T == .int) := by simpa [Zbr] using e.symm
   subst hb; cases T <;> rfl⟩
 | int i =>
  have := r.int_inv; subst this
  obtain ⟨t, q⟩ := (show ∃ t, u = Value.int i t from ru); cases q
  exact ⟨"int", _, PySem.W.kitx_int, True.intro, (fun z => nomatch z), by simp, fun T b e => by
   have hb : b = (T == .int) := by simpa [Zbr] using e.symm
   subst hb; cases T <;> rfl⟩
 | str z =>
  have := r.str_inv; subst this
  obtain ⟨t, q⟩ := (show ∃ t, u = Value.str _ t from ru); cases q
  exact ⟨"str", _, PySem.W.kitx_str, True.intro, (fun z => nomatch z), by simp, fun T b e => by
   have hb : b = (T == .str) := by simpa [Zbr] using e.symm
   subst hb; cases T <;> rfl⟩
 | tup ds =>
  obtain ⟨a, vs, rfl, st, rr⟩ := r.tup_inv
  cases ru
  obtain ⟨its, _, pt, _⟩ := I.tuple st
  obtain ⟨o, h1, h2, _⟩ := pt
  exact ⟨"tuple", _, PySem.W.kitx_tuple, ⟨o, h1, h2⟩, (fun z => nomatch z), by simp, fun T b e => by
   have hb : b = (T == .tuple) := by simpa [Zbr] using e.symm
   subst hb; cases T <;> rfl⟩
 | scr ds => exact absurd (by simp [Zbr]) hd
 | ref n =>
  simp only [Zbr] at hd
  cases hn : M[n]? with
  | none => exact absurd (by simp [hn]) hd
  | some o =>
   obtain ⟨a, ha, rfl⟩ := r.ref_inv
   cases o with
   | lst z =>
    obtain ⟨vs, ev, _⟩ := S.obj n _ a hn ha
    cases (show u = Value.ref a from ru)
    obtain ⟨_, _, n', _, h1⟩ := (show ZaV X.prog X.w H s.heap a (.lst vs) from I.hok a _ ev)
    exact ⟨"list", _, PySem.W.kitx_list, ⟨_, h1, rfl⟩, (fun z => nomatch z), by simp, fun T b e => by
     have hb : b = (T == .list) := by simpa [Zbr, hn] using e.symm
     subst hb; cases T <;> rfl⟩
   | dct z => 
    obtain ⟨vs, ev, _⟩ := S.obj n _ a hn ha
    cases (show u = Value.ref a from ru)
    obtain ⟨_, _, vs', _, q⟩ := (show ZaV X.prog X.w H s.heap a (.dK vs) from I.hok a _ ev)
    obtain ⟨o, es, ep, h1, h2, _⟩ := q
    exact ⟨"dict", _, PySem.W.kitx_dict, ⟨o, h1, h2.1⟩, (fun z => nomatch z), by simp, fun T b e => by
     have hb : b = false := by simpa [Zbr, hn] using e.symm
     subst hb; cases T <;> rfl⟩
   | fdct z => exact absurd (by simp [hn]) hd
theorem Zf7 (T1 T2 : Ty3) {x y : Str} {k} (hm : X.mg "isinstance" = none) (hm1 : X.mg x = none) (hm2 : X.mg y = none) (h : C3 X a f) (hx : x = (Str.ofString (tyN T1)) := by rfl) (hy : y = (Str.ofString (tyN T2)) := by rfl) (hg : Gl X "isinstance" := by rfl) (hg1 : Gl X x := by rfl) (hg2 : Gl X y := by rfl)
  (hn : x ≠ "__name__" := by decide) (hd : (x == ("__debug__" : Str)) = false := by decide) (hn' : y ≠ "__name__" := by decide) (hd' : (y == ("__debug__" : Str)) = false := by decide)
  (hs : starEach (a :: [.Tuple [.Name x p1, .Name y p2] k pt]) X.env = (false, eval a X.env) :: starEach [.Tuple [.Name x p1, .Name y p2] k pt] X.env := by rfl) (hs1 : starEach (.Tuple [.Name x p1, .Name y p2] k pt :: []) X.env = (false, eval (.Tuple [.Name x p1, .Name y p2] k pt) X.env) :: starEach [] X.env := by rfl)
  (hs2 : starEach (.Name x p1 :: [.Name y p2]) X.env = (false, eval (.Name x p1) X.env) :: starEach [.Name y p2] X.env := by rfl) (hs3 : starEach (.Name y p2 :: []) X.env = (false, eval (.Name y p2) X.env) :: starEach [] X.env := by rfl)
  (hpl : (backTo pos (starEach [.Tuple [.Name x p1, .Name y p2] k pt] X.env)).any (·.1) = false := by rfl) : C3 X (.Call (.Name "isinstance" p) [a, .Tuple [.Name x p1, .Name y p2] k pt] [] pos) (e1 (Zdm T1 T2) f) := by
 subst hx hy
 have hc : Za5 X (.builtin "isinstance") (fun xs H Q => ∃ ι M d x q, xs = [x, .ref q] ∧ H q = some (.tup [.ty (tyN T1), .ty (tyN T2)]) ∧ Zx X.K H ι M ∧ Rep X.K H ι d x ∧ Zv X.K H ι Q (Zdm T1 T2 d M)) := by
  intro pins s σ H xs us Q I r q
  obtain ⟨ι, M, d, x, tp, rfl, et, S, rd, q⟩ := q
  obtain ⟨u, w', rfl, ru, rw'⟩ := vals2 r
  cases rw'
  unfold Zdm at q
  cases e1 : Zbr T1 d M with
  | none => rw [e1] at q; exact q.elim
  | some b1 =>
   cases e2 : Zbr T2 d M with
   | none => rw [e1, e2] at q; exact q.elim
   | some b2 =>
    rw [e1, e2] at q
    have hd : Zbr .int d M ≠ none := fun z => by
     cases d with
     | ref n =>
      simp only [Zbr] at z e1
      cases hn : M[n]? with
      | none => simp [hn] at e1
      | some o => cases o <;> simp [hn] at z e1
     | scr _ => simp [Zbr] at e1
     | _ => simp [Zbr] at z
    obtain ⟨t, Hc, kx, hh, hl, ht, hb⟩ := Zig I S rd ru hd
    obtain ⟨_, its, rt, pt⟩ := (show ZaV X.prog X.w H s.heap tp (.tup [.ty (tyN T1), .ty (tyN T2)]) from I.hok tp _ et)
    obtain ⟨v1, v2, rfl, q1, q2⟩ := vals2 rt
    cases q1; cases q2
    obtain ⟨ob, g1, ⟨g2, g3⟩, n, g4⟩ := pt
    have ho : ob = { cls := .type "tuple", dict := ob.dict, data := .seq [.type (tyN T1), .type (tyN T2)].toArray n, slots := ob.slots } := by
     cases ob; simp only at g2 g4; subst g2 g4; rfl
    rw [ho] at g1
    refine PySem.W.kia_tup kx I.kIn hh g1 ((ZhN X.K t T1 T2 ht).trans ?_) hl fun tk => ⟨.bl (b1 || b2), H, I.tok _, rfl, Zv.ok q S Rep.bl⟩
    rw [hb T1 b1 e1, hb T2 b2 e2]
 refine (Zd8 hc hg hm ZcP (Zct h (Zct (Zhk (Zct (Zex hg1 hm1 (Zhl T1) (v := .ty (tyN T1)) rfl hn hd) (Zct (Zex hg2 hm2 (Zhl T2) (v := .ty (tyN T2)) rfl hn' hd') ZeA hs3) hs2)) ZeA hs1) hs) (by decide) (by decide) hs hpl).imp fun σ H Q ⟨ι, M, env, S, E, h⟩ => ?_
 obtain ⟨d, M1, e1, h⟩ := Zv.bind h
 refine ⟨ι, M, env, S, E, ?_⟩
 rw [e1]
 intro v H1 ι1 x1 S1 r1
 refine ⟨by simp; exact Nat.le_trans (by decide) ZaK, fun q hq => ?_⟩
 have x2 : Ext X.K H1 ι1 (upd H1 q (.tup [.ty (tyN T1), .ty (tyN T2)])) ι1 := Loose.ext (.inl hq)
 exact ⟨ι1, M1, d, v, q, rfl, ZbX, S1.other (.inl hq) (S1.fresh hq), r1.mono x2, h.up (x1.trans x2)⟩
end
end L3
namespace L3
open PySem PySem.Spec PyProof.Rows L2
section
variable {X : Cx} {tg e : Expr} {pos : Pos} {f : E3} {g : G3}
end
section
variable {X : Cx} {tg e elt : Expr} {ifs : List Expr} {pos : Pos} {f fe : E3} {ts : List E3} {g : G3} {scope : Scope} {N' : List Str} {own : Nat}
end
def Zhj (K : PySem.W.Frag) (H : Hp) (ι : List Addr) (it : ItL) (J : It) : Prop := ∀ (i : Nat) H2 ι2 M2, Ext K H ι H2 ι2 → Zx K H2 ι2 M2 → Zb7 it.lk M2 = true →
 (∀ d, it.items[i]? = some d → J.go i H2 ∧ ∀ x H3, J.yld i H2 x H3 → Ext K H2 ι2 H3 ι2 ∧ Zx K H3 ι2 M2 ∧ Rep K H3 ι2 d x) ∧ (i = it.items.length → J.stop i H2)
def Zev (K : PySem.W.Frag) (H : Hp) (ι : List Addr) (R : It → Hp → Prop) (r : R3 ItL) : Prop := match r with
 | .ok it M' => ∀ J H' ι', Ext K H ι H' ι' → Zx K H' ι' M' → Zhj K H' ι' it J → R J H'
 | _ => False
def tIL (K : PySem.W.Frag) (g : IL3) : TI := fun σ H R => ∃ ι M env, Zx K H ι M ∧ ZaW K H ι env σ ∧ Zev K H ι R (g env M)
def CIL (X : Cx) (tg e : Expr) (g : IL3) : Prop := PI X tg e (tIL X.K g)
theorem Zev.bind {K : PySem.W.Frag} {H : Hp} {ι : List Addr} {α : Type} {Q : It → Hp → Prop} {r : R3 α} {k : α → Store → R3 ItL} (h : Zev K H ι Q (r.bind k)) : ∃ a M, r = .ok a M ∧ Zev K H ι Q (k a M) := by
 cases r with
 | ok a M => exact ⟨a, M, rfl, h⟩
 | exc x M => exact h.elim
 | bad => exact h.elim
section
variable {X : Cx} {tg : Expr} {pos : Pos}
end
theorem _root_.L2.Inv.turnedL {X : Cx} {pins : List (Addr × Obj)} {σ : St} {H : Hp} {s : Shared} {h' : Heap} {t' : Nat} {fp : List Addr} (I : Inv X pins σ H s) (k : ∀ b o, b ∉ fp → s.heap.get? b = some o → h'.get? b = some o) (hf : ∀ b ∈ fp, ZcF X pins H b) :
  Inv X pins σ H { s with heap := h', toks := t' } := by
 have nit : ∀ b u, H b = some u → b ∉ fp := fun b u e z => by rw [(hf b z).1] at e; cases e
 refine I.step (g' := s.gens) (d' := s.drawn) (ch := fp) (fun b hb => ⟨(hf b hb).2.2.2.1, (hf b hb).2.1, (hf b hb).2.2.2.2.1, (hf b hb).2.2.2.2.2⟩) (fun b o _ _ hc e _ => k b o hc e) (fun b o _ _ hc e _ => ⟨o.slots, k b o hc e⟩) (fun _ _ _ _ n => n)
  (fun b o hc e => ⟨o, k b o hc e⟩) (fun _ _ e => e) (fun _ _ _ e => e) (fun b ps e => ⟨#[], by rw [e]; simp⟩) (fun m hm => ?_) (fun b u e => ?_) I.bare
 ·obtain ⟨o, es, ep, ho, r⟩ := hm
  exact ⟨o, es, ep, k _ o (fun z => (hf _ z).2.1 rfl) ho, r⟩
 ·refine (I.hok b u e).stay (fun c v hc q => k c v ?_ q) (fun _ q => q) fun _ _ q => q
  rcases hc with z | z
  ·rw [z]; exact nit b u e
  ·exact nit c _ z
end L3
namespace L3
open PySem PySem.Spec PyProof.Rows L2
open AutoSeq1 (wpAny_loadPart')
set_option maxRecDepth 100000
section
variable {prog : Program} {w : World} {A : Around} {E : Value → Shared → Prop} {s : Shared}
end
section
variable {X : Cx} {es : List Expr} {k : Nat} {a : Expr} {p pos tpos : Pos} {f : E3}
end
end L3
namespace L3
open PySem PySem.Spec PyProof.Rows L2
open AutoSeq1 (wpAny_loadPart')
open PySem.SeqAt MeetsSeq
set_option maxRecDepth 100000
end L3
namespace L3
open PySem PySem.Spec PyProof.Rows L2
section
variable {X : Cx} {o i p j e : Expr} {pos : Pos} {f g h fo fi fp fj : E3}
end
end L3
namespace L3
open PySem PySem.Spec PyProof.Rows L2
section
variable {X : Cx}
theorem Zi8 : bootBuiltins "max" = some (.builtin "max") := by decide +kernel
theorem ZhR {K : PySem.W.Frag} {H : Hp} {ι : List Addr} {i j : Int} {xs : List V} (r : Zj K H ι [.int i, .int j] xs) : xs = [.int i, .int j] := by
 obtain ⟨v1, vs1, rfl, q1, r⟩ := r.cons_inv
 obtain ⟨v2, vs2, rfl, q2, r⟩ := r.cons_inv
 have := r.nil_inv
 subst this
 have e1 := q1.int_inv
 have e2 := q2.int_inv
 subst e1 e2
 rfl
theorem ZjA (hc : X.calm = true) : Za5 X (.builtin "max") (rB X.K ZeY) := Za5.imp (ZgK hc) fun xs H Q ⟨ι, M, ds, S, rd, h⟩ => by
 unfold ZeY at h
 split at h
 ·exact ⟨_, _, ZhR rd, h _ H ι Ext.refl S Rep.int⟩
 ·exact h.elim
end
end L3
namespace L3
open PySem PySem.Spec PyProof.Rows L2
section
variable {prog : Program} {w : World} {A : Around} {E : Value → Shared → Prop} {s : Shared}
end
section
variable {X : Cx} {e : Expr} {es : List Expr} {pos : Pos} {f : E3}
end
end L3
namespace L3
open PySem PySem.Spec PyProof.Rows L2
section
variable {X : Cx} {a b c : Expr} {p p2 pos pos2 : Pos} {f g h : E3}
end
end L3
namespace L3
open PySem PySem.Spec PyProof.Rows L2
open AutoSeq1 (wpAny_loadPart')
set_option maxRecDepth 100000
theorem ZcW (l : Addr) (items : Array Value) (n : Nat) (b : Addr) (items2 : Array Value) (n2 : Nat) (sl : Array (Option Value)) (hl : ¬ (!items.isEmpty && Builtin.List.listTooLong (items.size + items2.size)) = true) (hz : items.size ≤ sizeLine) (hz2 : items.size + items2.size ≤ sizeLine + 1) :
  Meets (Builtin.«list.extend» ⟨[.ref l, .ref b], []⟩) (fun _ R s => s.heap.get? l = some { cls := .type "list", data := .seq items n } ∧ s.heap.get? b = some { cls := .type "tuple", data := .seq items2 n2, slots := sl } ∧
   R (.ok (.ret .none)) { s with heap := s.heap.update l (Obj.mapSeq fun x => x ++ items2) }) :=
 .of_wp fun prog w A R s h => by
  obtain ⟨hp, g, d, tk, os⟩ := s; obtain ⟨h1, h2, h⟩ := h
  wp_walk using wpAny_loadPart' h1, wpAny_loadPart' h2
  rw [show (Obj.mapSeq (fun x => x ++ items2) { cls := Value.type "list", data := Data.seq items n }).data.pastItsLine = none by
   show (if (items ++ items2).size > sizeLine + 1 then some "sequence:memory" else none) = none
   rw [if_neg (by rw [Array.size_append]; omega)]]
  exact wpAny_pure (wpAny_pure ⟨_, rfl, h⟩)
section
variable {X : Cx} {o e : Expr} {es : List Expr} {apos cpos : Pos} {f : E3} {gl : EL3}
def Zfe (K : PySem.W.Frag) : V → List V → Hp → VK → Prop := fun x vs H Q => ∃ l b xs zs, x = .ref l ∧ vs = [.ref b] ∧ H l = some (.lst xs) ∧ SqT K H b zs ∧ xs.length + zs.length ≤ sizeLine ∧ Q .non (upd H l (.lst (xs ++ zs)))
theorem Zfu : MtR X "list.extend" (Zfe X.K) := by
 intro pins s σ H x vs v us Q I rx rv h
 obtain ⟨l, b, xs, zs, rfl, rfl, hH, hB, hz, q⟩ := h
 cases rx
 obtain ⟨u, rfl, ru⟩ := rv.one
 cases ru
 obtain ⟨z, its, n, r, hl, e⟩ := I.lstM hH
 obtain ⟨its2, r2, ⟨⟨c, dc, dt, sl⟩, e2, ⟨hc, hd⟩, n2, hs⟩, z2⟩ := I.tupleN hB
 replace hc : c = .type "tuple" := hc
 replace hd : dc = none := hd
 replace hs : dt = .seq its2.toArray n2 := hs
 subst hc hd hs
 have hl2 := r2.length
 have hsz : its.toArray.size + its2.toArray.size ≤ sizeLine := by rw [List.size_toArray, List.size_toArray]; omega
 have hlong : ¬ (!its.toArray.isEmpty && Builtin.List.listTooLong (its.toArray.size + its2.toArray.size)) = true := by
  rw [Zd1 hsz, Bool.and_false]
  exact Bool.false_ne_true
 refine call_meets F.slot_list_extend ⟨_, e, rfl⟩ F.entry_list_extend (F.args_list_extend_2 _ _)
  (ZcW l its.toArray n b its2.toArray n2 sl hlong (by rw [List.size_toArray]; omega) (by omega)) ⟨e, e2, ?_⟩
 refine ⟨.non, _, I.lset (its' := its ++ its2) hH e (by simp) (r.append r2) ?_, rfl, q⟩
 rw [List.length_append]
 omega
theorem ZgX : MtR X "list.extend" (rM X.K ZaQ) := MtR.imp (r := fun x xs H Q => Zf3 x xs H Q ∨ Zfe X.K x xs H Q) (fun pins s σ H x xs v us Q I rx rs q => q.elim (Zgs pins s σ H x xs v us Q I rx rs) (Zfu pins s σ H x xs v us Q I rx rs)) fun x xs H Q ⟨ι, M, a, ds, S, ra, rd, h⟩ => by
 cases a with
 | ref n =>
  cases ds with
  | nil => exact h.elim
  | cons d ds =>
   cases ds with
   | cons _ _ => cases d <;> exact h.elim
   | nil =>
    obtain ⟨v, ws, rfl, r1, r2⟩ := rd.cons_inv
    have := r2.nil_inv
    subst this
    obtain ⟨p, hp, rfl⟩ := ra.ref_inv
    cases hn : M[n]? with
    | none => cases d <;> simp only [ZaQ, hn] at h <;> exact h.elim
    | some o =>
     cases o with
     | dct _ => cases d <;> simp only [ZaQ, hn] at h <;> exact h.elim
     | fdct _ => cases d <;> simp only [ZaQ, hn] at h <;> exact h.elim
     | lst z =>
      obtain ⟨vs, e, rv⟩ := S.obj n _ p hn hp
      cases d with
      | tup y =>
       simp only [ZaQ, hn] at h
       split at h
       ·rename_i hz
        obtain ⟨b, ys, rfl, sb, ry⟩ := r1.tup_inv
        obtain ⟨x2, S2⟩ := S.setl (.inr (.inl ⟨_, e⟩)) hp (rv.append ry)
        exact .inr ⟨p, b, vs, ys, rfl, rfl, e, sb, by rw [rv.length, ry.length]; exact Nat.le_trans hz (Nat.le_of_lt_succ (Nat.lt_succ_of_le ZaK)), h _ _ _ x2 S2 Rep.non⟩
       ·exact h.elim
      | ref m =>
       simp only [ZaQ, hn] at h
       cases hm : M[m]? with
       | none => simp only [hm] at h; exact h.elim
       | some o2 =>
        cases o2 with
        | dct _ => simp only [hm] at h; exact h.elim
        | fdct _ => simp only [hm] at h; exact h.elim
        | lst y =>
         simp only [hm] at h
         split at h
         ·rename_i hz
          obtain ⟨b, hb, rfl⟩ := r1.ref_inv
          obtain ⟨ys, eb, ry⟩ := S.obj m _ b hm hb
          obtain ⟨x2, S2⟩ := S.setl (.inr (.inl ⟨_, e⟩)) hp (rv.append ry)
          exact .inl ⟨p, b, vs, ys, rfl, rfl, e, eb, by rw [rv.length, ry.length]; exact Nat.le_trans hz.2 (Nat.le_of_lt_succ (Nat.lt_succ_of_le ZaK)), h _ _ _ x2 S2 Rep.non⟩
         ·exact h.elim
      | _ => simp only [ZaQ] at h; exact h.elim
 | _ => cases ds <;> exact h.elim
theorem Zdh (ho : C3 X o f) (ha : CA X (e :: es) gl)
  (hbase : attributeBase o "extend" X.env (eval o X.env) = eval o X.env := by rfl)
  (hfew : ((backTo cpos (starEach (e :: es) X.env)).all (fun x => !x.1) && (backToKw cpos (keywordEach [] X.env)).all (fun x => x.1.isSome)
   && decide ((e :: es).length + ([] : List Keyword).length + (if ([] : List Keyword).isEmpty then 0 else 1) < 30)) = true := by rfl)
  (hline : (apos.endLine == cpos.line) = true := by rfl) (hs : starEach (e :: es) X.env = (false, eval e X.env) :: starEach es X.env := by rfl) (hplain : (backTo cpos (starEach es X.env)).any (·.1) = false := by rfl) :
  C3 X (.Call (.Attribute o "extend" apos) (e :: es) [] cpos) (Zb0 tyL ZaQ f gl) :=
 (Ziy PySem.F.plainAttrs_list PySem.F.slot_list_extend PySem.F.type_list_extend ZgX ho ha hbase hfew hline hs hplain).imp (ZgU ZfI)
def ZeQ : V → List V → Hp → VK → Prop := fun x vs H Q => ∃ l xs, x = .ref l ∧ vs = [] ∧ H l = some (.lst xs) ∧ Q .non (upd H l (.lst []))
theorem Zfc : MtR X "list.clear" ZeQ := by
 intro pins s σ H x vs v us Q I rx rv h
 obtain ⟨l, xs, rfl, rfl, hH, q⟩ := h
 cases rx
 have hus := rv.zero
 subst hus
 obtain ⟨z, its, n, r, hl, e⟩ := I.lstM hH
 refine call_meets F.slot_list_clear ⟨_, e, rfl⟩ F.entry_list_clear (F.args_list_clear_1 _) (AutoSeq1.list_clear_list_0 l its.toArray n (by rw [List.size_toArray]; omega)) ⟨e, ?_⟩
 exact ⟨.non, _, I.lset (its' := []) hH e (by simp) .nil (Nat.zero_le _), rfl, q⟩
theorem Zh6 : MtR X "list.clear" (rM X.K ZcS) := MtR.imp (r := ZeQ) Zfc fun x xs H Q ⟨ι, M, a, ds, S, ra, rd, h⟩ => by
 cases a with
 | ref n =>
  cases ds with
  | cons _ _ => exact h.elim
  | nil =>
   have := rd.nil_inv
   subst this
   obtain ⟨p, hp, rfl⟩ := ra.ref_inv
   cases hn : M[n]? with
   | none => simp only [ZcS, hn] at h; exact h.elim
   | some o =>
    cases o with
    | dct _ => simp only [ZcS, hn] at h; exact h.elim
    | fdct _ => simp only [ZcS, hn] at h; exact h.elim
    | lst z =>
     simp only [ZcS, hn] at h
     obtain ⟨vs, e, rv⟩ := S.obj n _ p hn hp
     obtain ⟨x2, S2⟩ := S.setl (.inr (.inl ⟨_, e⟩)) hp (Zj.nil (K := X.K) (H := H) (ι := ι))
     exact ⟨p, vs, rfl, rfl, e, h _ _ _ x2 S2 Rep.non⟩
 | _ => cases ds <;> exact h.elim
theorem Zh0 {K : PySem.W.Frag} {T : String} {ty : D → Store → Bool} {m : D → List D → Store → R3 D} (hty : ∀ H ι M a x, Zx K H ι M → Rep K H ι a x → ty a M = true → tyV K T x H) (σ : St) (H : Hp) (Q : VK) (h : tOf K (Zb0 ty m f Ze) σ H Q) : Zky K T (rM K m) (tOf K f) σ H Q := by
 obtain ⟨ι, M, env, S, E, h⟩ := h
 obtain ⟨a, M1, e1, h⟩ := Zv.bind h
 refine ⟨ι, M, env, S, E, ?_⟩
 rw [e1]
 intro v H1 ι1 x1 S1 r1
 by_cases ht : ty a M1 = true
 ·rw [if_pos ht] at h
  exact ⟨hty _ _ _ _ _ S1 r1 ht, ι1, M1, a, [], S1, r1, Zj.nil, h.up x1⟩
 ·rw [if_neg ht] at h; exact h.elim
theorem ZeH (ho : C3 X o f) (hbase : attributeBase o "clear" X.env (eval o X.env) = eval o X.env := by rfl) (hline : (apos.endLine == cpos.line) = true := by rfl) : C3 X (.Call (.Attribute o "clear" apos) [] [] cpos) (Zb0 tyL ZcS f Ze) :=
 (Zjj PySem.F.plainAttrs_list PySem.F.slot_list_clear PySem.F.type_list_clear Zh6 ho hbase hline).imp (Zh0 ZfI)
end
end L3
namespace L3
open PySem PySem.Spec PyProof.Rows L2
set_option maxRecDepth 100000
def Itz (S T : Hp → List V → Prop) : It := ⟨fun i H => ∃ xs ys x y, S H xs ∧ T H ys ∧ xs[i]? = some x ∧ ys[i]? = some y, fun i H x H' => ∃ A a b, x = .ref A ∧ H A = none ∧ H' = upd H A (.tup [a, b]) ∧ (∀ xs, S H xs → xs[i]? = some a) ∧ ∀ ys, T H ys → ys[i]? = some b,
 fun i H => ∃ xs ys, S H xs ∧ T H ys ∧ (xs.length ≤ i ∨ ys.length ≤ i)⟩
def Zkb (z TI TO i1 i2 l1 l2 : Addr) (i : Nat) (h : Heap) : Prop := IsZip h z TI TO .none ∧ IsPair h TI (.ref i1) (.ref i2) ∧ (∃ a b, IsPair h TO a b) ∧ h.IsListIter i1 l1 i ∧ h.IsListIter i2 l2 i
theorem Zg1 {X : Cx} {pins : List (Addr × Obj)} {σ : St} {H : Hp} {s : Shared} {h' h'' : Heap} {fp : List Addr} {x y : V} {u v : Value} {tk' : Nat} (I : Inv X pins σ H s) (hf : ∀ b ∈ fp, ZcF X pins H b) (hlt : ∀ b ∈ fp, b < s.heap.objs.size) (ru : RelV x u) (rv : RelV y v)
  (hT : h'.get? s.heap.objs.size = some { cls := .type "tuple", data := .seq #[u, v] }) (hk : ∀ b o, b ∉ fp → s.heap.get? b = some o → h'.get? b = some o) (hs : ∀ b o, b ∉ fp → h'.get? b = some o → h''.get? b = some o) :
  Inv X pins σ (upd H s.heap.objs.size (.tup [x, y])) { s with heap := h'', toks := tk' } ∧ ∀ b ∈ fp, upd H s.heap.objs.size (.tup [x, y]) b = none := by
 have hn : ∀ b ∈ fp, upd H s.heap.objs.size (.tup [x, y]) b = none := fun b hb => by
  rw [Zas (Nat.ne_of_lt (hlt b hb))]; exact (hf b hb).1
 refine ⟨?_, hn⟩
 have I1 : Inv X pins σ (upd H s.heap.objs.size (.tup [x, y])) { s with heap := s.heap.push { cls := .type "tuple", data := .seq ([u, v] : List Value).toArray }, toks := s.toks } :=
  I.laid (t' := s.toks) (fun b o e => Heap.get?_push_of_some _ e) (Nat.le_refl _) (show ZaV X.prog X.w _ _ _ (.tup [x, y]) from ⟨by rw [sizeLine_eq]; show 2 ≤ _; decide, [u, v], .cons ru (.cons rv .nil), Zce.new _ _⟩)
 have nT : s.heap.objs.size ∉ fp := fun z => Nat.lt_irrefl _ (hlt _ z)
 have I3 := I1.turnedL (t' := tk') (h' := h'') (fp := fp) (fun b o hb q => by
  rcases Heap.get?_push_cases q with ⟨rfl, rfl⟩ | q
  ·exact hs _ _ nT hT
  ·exact hs _ _ hb (hk b o hb q)) fun b hb => ⟨hn b hb, (hf b hb).2⟩
 exact I3
theorem Zgz {P : Program} {w : World} {K : PySem.W.Frag} {es : List Expr} {k : Nat} {pos : Pos} (l1 l2 z TI TO i1 i2 : Addr) (Z : ZipApart z TI TO i1 i2 l1 l2) :
  Turn P w K (.Tuple es k pos) (Itz (fun H xs => SqL K H l1 xs) (fun H ys => SqL K H l2 ys)) [z, TI, TO, i1, i2] z (Zkb z TI TO i1 i2 l1 l2) where
 mem := by simp
 obj := fun i h st b hb => by
  obtain ⟨hz, h1, ⟨a, c, h2⟩, ⟨o1, g1, _, d1⟩, ⟨o2, g2, _, d2⟩⟩ := st
  simp only [List.mem_cons, List.not_mem_nil, or_false] at hb
  rcases hb with rfl | rfl | rfl | rfl | rfl
  ·exact ⟨_, hz, fun v z => by cases z⟩
  ·exact ⟨_, h1, fun v z => by cases z⟩
  ·exact ⟨_, h2, fun v z => by cases z⟩
  ·exact ⟨o1, g1, fun v z => by rw [d1] at z; cases z⟩
  ·exact ⟨o2, g2, fun v z => by rw [d2] at z; cases z⟩
 keep := fun i h h' st k => by
  obtain ⟨hz, h1, ⟨a, c, h2⟩, g1, g2⟩ := st
  exact ⟨k z (by simp) _ hz, k TI (by simp) _ h1, ⟨a, c, k TO (by simp) _ h2⟩, g1.at fun o q => k i1 (by simp) o q, g2.at fun o q => k i2 (by simp) o q⟩
 item := by
  intro X hP hw hK hc i pins s σ H E I hf st hg
  subst hP hw hK
  obtain ⟨xs, ys, x, y, hx, hy, gx, gy⟩ := hg
  obtain ⟨its, rv, p, hzz⟩ := I.list hx
  obtain ⟨its2, rv2, p2, hzz2⟩ := I.list hy
  obtain ⟨u, hu, ru⟩ := rv.get gx
  obtain ⟨v, hv, rv'⟩ := rv2.get gy
  have st0 := st
  obtain ⟨hz, h1, ⟨a, c, h2⟩, g1, g2⟩ := st
  have hlt : ∀ b ∈ [z, TI, TO, i1, i2], b < s.heap.objs.size := fun b hb => by
   obtain ⟨o1, q1, _⟩ := id g1
   obtain ⟨o2, q2, _⟩ := id g2
   simp only [List.mem_cons, List.not_mem_nil, or_false] at hb
   rcases hb with rfl | rfl | rfl | rfl | rfl
   ·exact Heap.lt_size hz
   ·exact Heap.lt_size h1
   ·exact Heap.lt_size h2
   ·exact Heap.lt_size q1
   ·exact Heap.lt_size q2
  refine wpAny_pyNext_zip_item Z hz h1 h2 g1 g2 p.isList p2.isList (x := u) (y := v) (by simpa using hu) (by simpa using hv) fun h' hz' hTO hi1 hi2 hT hsz hk => ?_
  refine ⟨_, rfl, wpAny_letOwnedTupleGo_zip (s := { s with heap := h' }) hz' fun h'' hz'' hs'' => ?_⟩
  have hTI' : IsPair h' TI (.ref i1) (.ref i2) := hk TI _ Z.TIz Z.TITO Z.TIi1 Z.TIi2 h1
  obtain ⟨I2, n2⟩ := Zg1 (x := x) (y := y) (tk' := s.toks) (fp := [z, TI, TO, i1, i2]) (h' := h') (h'' := h'') I hf hlt ru rv' hT
   (fun b o hb q => hk b o (fun e => hb (by simp [e])) (fun e => hb (by simp [e])) (fun e => hb (by simp [e])) (fun e => hb (by simp [e])) q)
   (fun b o hb q => (hs''.2 b fun e => hb (by simp [e])).trans q)
  refine ⟨.ref s.heap.objs.size, _, I2, rfl, ⟨_, x, y, rfl, I.hok.fresh (Nat.le_refl _), rfl, fun zs hq => by rw [I.list_inj hq hx]; exact gx, fun zs hq => by rw [I.list_inj hq hy]; exact gy⟩, ?_, n2⟩
  exact ⟨hz'', (hs''.2 _ Z.TIz).trans hTI', ⟨_, _, (hs''.2 _ Z.TOz).trans hTO⟩, hi1.extBut hs''.extBut Z.i1z, hi2.extBut hs''.extBut Z.i2z⟩
 done := by
  intro X hP hw hK hc i pins s σ H E I hf st hg
  subst hP hw hK
  obtain ⟨xs, ys, hx, hy, ho⟩ := hg
  obtain ⟨its, rv, p, hzz⟩ := I.list hx
  obtain ⟨its2, rv2, p2, hzz2⟩ := I.list hy
  have hl1 := rv.length
  have hl2 := rv2.length
  obtain ⟨hz, h1, ⟨a, c, h2⟩, g1, g2⟩ := st
  refine wpAny_pyNext_zip_end (I.ok.hd hc) Z hz h1 h2 g1 g2 p.isList p2.isList ?_ fun h' hk => ⟨rfl, I.turnedL (t' := s.toks) (fun b o hb q => hk b o (fun e => hb (by simp [e])) (fun e => hb (by simp [e])) (fun e => hb (by simp [e])) (fun e => hb (by simp [e])) q) hf⟩
  rcases ho with ho | ho
  ·left; simp; omega
  ·right; simp; omega
 self := fun _ _ _ _ _ st h => wpAny_pyIter_zip st.1 h
section
variable {X : Cx} {es : List Expr} {k : Nat} {a b : Expr} {p pos tpos : Pos} {f g : E3}
def Zj4 (K : PySem.W.Frag) (ta : TA) : TI := fun σ H R => ta σ H fun vs H1 => ∃ l1 l2, vs = [.ref l1, .ref l2] ∧ (∃ xs, SqL K H1 l1 xs) ∧ (∃ ys, SqL K H1 l2 ys) ∧ R (Itz (fun H xs => SqL K H l1 xs) (fun H ys => SqL K H l2 ys)) H1
theorem ZgM : bootBuiltins "zip" = some (.type "zip") := by decide +kernel
theorem Zjf {ta : TA} (hg : Gl X "zip") (hm : X.mg "zip" = none) (ha : PA X [a, b] ta) (hs : starEach [a, b] X.env = [(false, eval a X.env), (false, eval b X.env)] := by rfl) (hs2 : starEach [b] X.env = [(false, eval b X.env)] := by rfl) : PI X (.Tuple es k tpos) (.Call (.Name "zip" p) [a, b] [] pos) (Zj4 X.K ta) := by
 intro pins s σ H R I h
 refine Call_ (Zdz I hg hm ZgM (PyProof.Rows.callWith_type1 (thn (ha pos pins s σ H _ I h) fun us s1 ⟨vs, H1, I1, r1, q1⟩ => ?_) (by rw [hs, hs2]) (by rw [hs2]; rfl)))
 obtain ⟨l1, l2, e, ⟨xs, hx⟩, ⟨ys, hy⟩, q⟩ := q1
 subst e
 cases r1 with
 | cons r rr =>
  cases rr with
  | cons r' rr =>
   cases rr
   cases r
   cases r'
   obtain ⟨its, rv, p1, hz⟩ := I1.list hx
   obtain ⟨its2, rv2, p2, hz2⟩ := I1.list hy
   have lt1 : l1 < s1.heap.objs.size := by obtain ⟨o, ho, _⟩ := p1.isList; exact Heap.lt_size ho
   have lt2 : l2 < s1.heap.objs.size := by obtain ⟨o, ho, _⟩ := p2.isList; exact Heap.lt_size ho
   refine call_zip_2 p1.isList p2.isList fun h' hZ hTI hTO hi1 hi2 hsz hk => ?_
   have I2 : Inv X pins σ H1 { s1 with heap := h' } := I1.kept (t' := s1.toks) hk
   have fp : ∀ c ∈ [s1.heap.objs.size + 4, s1.heap.objs.size + 2, s1.heap.objs.size + 3, s1.heap.objs.size, s1.heap.objs.size + 1], ZcF X pins H1 c := fun c hc => by
    have hc' : s1.heap.objs.size ≤ c := by
     simp only [List.mem_cons, List.not_mem_nil, or_false] at hc
     rcases hc with rfl | rfl | rfl | rfl | rfl <;> omega
    exact I1.fpOk hc' (I1.hok.fresh hc')
   exact wpAny_pyIter_zip (s := { s1 with heap := h' }) hZ ⟨_, _, _, _, H1, rfl, I2, Zgz l1 l2 _ _ _ _ _ (zipApart_new lt1 lt2), ⟨hZ, hTI, ⟨_, _, hTO⟩, hi1, hi2⟩, fp, q⟩
theorem Zha (hm : X.mg "zip" = none) (h1 : C3 X a f) (h2 : C3 X b g) (hg : Gl X "zip" := by rfl) (hs : starEach [a, b] X.env = [(false, eval a X.env), (false, eval b X.env)] := by rfl) (hs2 : starEach [b] X.env = [(false, eval b X.env)] := by rfl)
  (hs' : starEach (a :: [b]) X.env = (false, eval a X.env) :: starEach [b] X.env := by rfl) (hs'' : starEach (b :: []) X.env = (false, eval b X.env) :: starEach [] X.env := by rfl) : CIL X (.Tuple es k tpos) (.Call (.Name "zip" p) [a, b] [] pos) (Zgm f g) :=
 PI.imp (Zjf hg hm (Zc h1 (Zc h2 Zf hs'') hs') hs hs2) fun σ H R ⟨ι, M, env, S, E, h⟩ => by
  obtain ⟨d, M1, e1, h⟩ := Zev.bind h
  obtain ⟨d2, M2, e2, h⟩ := Zev.bind h
  refine ⟨ι, M, env, S, E, ?_⟩
  have e3 : Za f (Za g Ze) env M = .ok [d, d2] M2 := by simp only [Za, Ze, R3.bind, e1, e2]
  rw [e3]
  intro vs H1 ι1 x1 S1 r1
  obtain ⟨v, ws, rfl, r, q⟩ := r1.cons_inv
  obtain ⟨v2, ws2, rfl, r2, q2⟩ := q.cons_inv
  have := q2.nil_inv
  subst this
  cases d with
  | ref n =>
   cases d2 with
   | ref m =>
    cases hn : M2[n]? with
    | none => simp only [hn] at h; exact h.elim
    | some o =>
     cases o with
     | dct _ => simp only [hn] at h; exact h.elim
     | fdct _ => simp only [hn] at h; exact h.elim
     | lst ds =>
      cases hm : M2[m]? with
      | none => simp only [hn, hm] at h; exact h.elim
      | some o2 =>
       cases o2 with
       | dct _ => simp only [hn, hm] at h; exact h.elim
       | fdct _ => simp only [hn, hm] at h; exact h.elim
       | lst ds2 =>
        simp only [hn, hm] at h
        obtain ⟨b1, hb1, rfl⟩ := r.ref_inv
        obtain ⟨b2, hb2, rfl⟩ := r2.ref_inv
        obtain ⟨vs1, o1, rr1⟩ := S1.obj n _ b1 hn hb1
        obtain ⟨vs2, o2, rr2⟩ := S1.obj m _ b2 hm hb2
        refine ⟨b1, b2, rfl, ⟨vs1, SqL.of o1⟩, ⟨vs2, SqL.of o2⟩, h _ H1 ι1 x1 S1 ?_⟩
        intro i H2 ι2 M3 x S2 lk
        have lk' : M3[n]? = some (.lst ds) ∧ M3[m]? = some (.lst ds2) := by simpa [Zb7] using lk
        obtain ⟨ws1, p1, q1⟩ := S2.obj n _ b1 lk'.1 (x.pre _ _ hb1)
        obtain ⟨ws2, p2, q2⟩ := S2.obj m _ b2 lk'.2 (x.pre _ _ hb2)
        refine ⟨fun d hd => ?_, fun hl => ⟨ws1, ws2, SqL.of p1, SqL.of p2, by rw [q1.length, q2.length, hl, Zd2]; omega⟩⟩
        rw [Zdc] at hd
        cases hq : ds[i]? with
        | none => rw [hq] at hd; cases hd
        | some a0 =>
         cases hq2 : ds2[i]? with
         | none => rw [hq, hq2] at hd; cases hd
         | some b0 =>
          rw [hq, hq2] at hd
          cases hd
          obtain ⟨v1, hv1, rv1⟩ := q1.get hq
          obtain ⟨v2, hv2, rv2⟩ := q2.get hq2
          refine ⟨⟨ws1, ws2, v1, v2, SqL.of p1, SqL.of p2, hv1, hv2⟩, fun y H3 hy => ?_⟩
          obtain ⟨T, y1, y2, rfl, hT, rfl, ha1, ha2⟩ := hy
          have e := ha1 ws1 (SqL.of p1)
          rw [hv1] at e
          cases e
          have e := ha2 ws2 (SqL.of p2)
          rw [hv2] at e
          cases e
          exact S2.tupl hT (Zj.cons rv1 (Zj.cons rv2 Zj.nil))
   | _ => exact h.elim
  | _ => cases d2 <;> exact h.elim
end
end L3
namespace L3
open PySem PySem.Spec PyProof.Rows L2
set_option maxRecDepth 100000
section
variable {X : Cx} {elt tg iter : Expr} {ifs : List Expr} {scope : Scope} {pos : Pos} {i : IL3} {own : Nat} {g : G3} {ts : List E3} {f : E3} {N' : List Str}
theorem Ze9 {pins : List (Addr × Obj)} {σ : St} {s2 : Shared} {H2 : Hp} {ι2 : List Addr} {M2 : Store} {env : Zaa} {it : Addr} {fp : List Addr} {tn : Nat → Heap → Prop} {J : It} {itd : ItL} {Q : VK} {E : Value → Shared → Prop} (O : ZdQ X scope N' own) (hc : X.calm = true)
  (hb : ∀ C cl s H ex, CG (Zaq X scope N' C cl s H ex) tg g ∧ CTs (Zaq X scope N' C cl s H ex) ifs ts ∧ C3 (Zaq X scope N' C cl s H ex) elt f)
  (I2 : Inv X pins σ H2 s2) (T : Turn X.prog X.w X.K tg J fp it tn) (st0 : tn 0 s2.heap) (hfp : ∀ b ∈ fp, ZcF X pins H2 b) (S2 : Zx X.K H2 ι2 M2) (E2 : ZaW X.K H2 ι2 env σ) (ok : Zhj X.K H2 ι2 itd J)
  (h : Zv X.K H2 ι2 Q (Zcc itd.lk g ts f M2.length itd.items (env ++ List.replicate own none) (M2 ++ [.lst []])))
  (RR : Value → Addr → Result → Shared → Prop)
  (fin : ∀ (acc C : Addr) (s' : Shared) (m : Str → Option Value) (H' : Hp), s'.heap.Ns C m → ZcF X pins H' C → Inv X pins σ H' s' → Q (.ref acc) H' → RR (.ref acc) C (.ok .next) s') :
  wpAny (model X.prog X.w) X.A (newList []) (fun acc s₃ => wpAny (model X.prog X.w) X.A (newFunctionEnv scope X.env.globals (Zar X.env.cells scope.names []) [] X.env.qual none .none (some X.env)) (fun cenv s₄ =>
   codeAny (model X.prog X.w) X.A (.compStart (.ListComp elt [⟨tg, iter, ifs, 0⟩] scope pos) 0 (.ref it) acc { cenv with scope := relabel scope X.env }) (RR acc cenv.locals) s₄) E s₃) E s2 := by
 refine wpAny_newObj_type ?_
 have hD : H2 s2.heap.objs.size = none := I2.hok.fresh (Nat.le_refl _)
 obtain ⟨x3, S3, r3⟩ := S2.lst hD (Zj.nil (K := X.K) (H := H2) (ι := ι2))
 have I3 : Inv X pins σ (upd H2 s2.heap.objs.size (.lst [])) { s2 with heap := s2.heap.push { cls := .type "list", data := .seq ([] : List Value).toArray } } :=
  I2.laid (t' := s2.toks) (fun b u e => Heap.get?_push_of_some _ e) (Nat.le_refl _) ⟨Nat.zero_le _, [], 0, .nil, Heap.get?_push_size _ rfl⟩
 generalize hs3 : ({ s2 with heap := s2.heap.push { cls := .type "list", data := .seq ([] : List Value).toArray } } : Shared) = s3 at I3 ⊢
 have keep23 : ∀ b o, s2.heap.get? b = some o → s3.heap.get? b = some o := fun b o e => by rw [← hs3]; exact Heap.get?_push_of_some _ e
 have hfp3 : ∀ b ∈ fp, ZcF X pins (upd H2 s2.heap.objs.size (.lst [])) b := fun b hb => by
  refine ⟨?_, (hfp b hb).2⟩
  obtain ⟨o, e, _⟩ := T.obj _ _ st0 b hb
  rw [Zas (Nat.ne_of_lt (Heap.lt_size e))]
  exact (hfp b hb).1
 have hlt3 : ∀ b ∈ fp, b < s3.heap.objs.size := fun b hb => by
  obtain ⟨o, e, _⟩ := T.obj _ _ st0 b hb
  exact Heap.lt_size (keep23 b o e)
 have st3 : tn 0 s3.heap := T.keep _ _ _ st0 fun b hb o e => keep23 b o e
 refine wpAny_newFunctionEnv O.cell (by intro y hy; cases hy) (fun h4 hns hsb => ?_) O.kind
 have keep34 : ∀ b o, s3.heap.get? b = some o → h4.get? b = some o := fun b o e => hsb.extBut b o (Nat.ne_of_lt (Heap.lt_size e)) (Heap.get?_push_of_some _ e)
 have I4 := Zff (own := own) (N' := N') (tk := s3.toks + ([] : List (Str × Value)).length) I3 O.kind O.cell O.free O.len O.vis hfp3 hlt3 hns keep34
 have st4 : tn 0 h4 := T.keep _ _ _ st3 fun b hb o e => keep34 b o e
 have hfp4 : ∀ {H' : Hp}, (∀ b ∈ fp, H' b = none) → ∀ b ∈ fp, ZcF (Zaq X scope N' s3.heap.objs.size (Zar X.env.cells scope.names []) s3 (upd H2 s2.heap.objs.size (.lst [])) fp) [] H' b := fun hn b hb => by
  have hc0 : ∀ y ∈ scope.names, y.2 = .free → ∃ c, X.env.cells.lookup y.1 = some c := fun y hy e => I2.ok.has y.1 (O.free y hy e)
  refine ⟨hn b hb, Nat.ne_of_lt (hlt3 b hb), fun hz => I4.ok.exfs b hb hz, .inl hb, fun x c hx => (I4.ok.exf b hb).2 x c hx, fun p hp => absurd (show p ∈ ([] : List (Addr × Obj)) from hp) (by simp)⟩
 obtain ⟨hg, hts, helt⟩ := hb s3.heap.objs.size (Zar X.env.cells scope.names []) s3 (upd H2 s2.heap.objs.size (.lst [])) fp
 have loop : ∀ s₄ : Shared, s₄ = { s3 with heap := h4, toks := s3.toks + ([] : List (Str × Value)).length } →
   codeAny (model X.prog X.w) X.A (.compLoop (.ListComp elt [⟨tg, iter, ifs, 0⟩] scope pos) 0 (.ref it) (.ref s2.heap.objs.size) (compEnvC scope (Zar X.env.cells scope.names []) s3.heap.objs.size X.env)) (RR (.ref s2.heap.objs.size) s3.heap.objs.size) s₄ := by
  rintro s₄ rfl
  refine Zdi (fun n s' => ∃ k σ5 H5 ι5 M5 env5, Inv (Zaq X scope N' s3.heap.objs.size (Zar X.env.cells scope.names []) s3 (upd H2 s2.heap.objs.size (.lst [])) fp) [] σ5 H5 s' ∧ tn k s'.heap ∧ (∀ b ∈ fp, H5 b = none) ∧ n = itd.items.length - k ∧ k ≤ itd.items.length ∧
   Ext X.K H2 ι2 H5 ι5 ∧ Zx X.K H5 ι5 M5 ∧ ZaW X.K H5 ι5 env5 σ5 ∧ ι5[M2.length]? = some s2.heap.objs.size ∧ Zv X.K H5 ι5 Q (Zcc itd.lk g ts f M2.length (itd.items.drop k) env5 M5)) ?_ itd.items.length
   ⟨0, _, _, _, _, _, I4, st4, fun b hb => (hfp3 b hb).1, rfl, Nat.zero_le _, x3, S3, (E2.mono x3).grow own, ?_, h.up x3⟩
  ·rintro n s5 ⟨k, σ5, H5, ι5, M5, env5, I5, st5, fr5, rfl, hk, x5, S5, E5, hι, h5⟩
   by_cases hlt : k < itd.items.length
   ·have hd : itd.items[k]? = some itd.items[k] := by simp [hlt]
    rw [List.drop_eq_getElem_cons hlt] at h5
    unfold Zcc at h5
    by_cases lk : Zb7 itd.lk M5 = true
    ·rw [if_pos lk] at h5
     obtain ⟨go, yl⟩ := (ok k H5 ι5 M5 x5 S5 lk).1 _ hd
     cases eg : g itd.items[k] env5 with
     | none => rw [eg] at h5; exact h5.elim
     | some env6 =>
      rw [eg] at h5
      refine thn (T.item (Zaq X scope N' s3.heap.objs.size (Zar X.env.cells scope.names []) s3 (upd H2 s2.heap.objs.size (.lst [])) fp) rfl rfl rfl hc k [] s5 σ5 H5 (fun _ _ => False) I5 (hfp4 fr5) st5 go) fun r s6 ⟨u, hr, h6⟩ => ?_
      subst hr
      refine thn h6 fun _ s7 ⟨x, H7, I7, r7, y7, st7, fr7⟩ => ?_
      obtain ⟨y8, S7, rx⟩ := yl x H7 y7
      have I7' := I7.pinned (hfp4 fr7) (T.obj _ _ st7)
      refine thn (hg _ s7 σ5 H7 x u (fun σ' H' => H' = H7 ∧ ZaW X.K H7 ι5 env6 σ') I7' r7 ⟨ι5, M5, env5, _, env6, S7, E5.mono y8, rx, eg, fun σ' E' => ⟨rfl, E'⟩⟩) fun _ s8 ⟨σ8, H8, I8, e8, E8⟩ => ?_
      subst e8
      replace h5 := Zv.up y8 h5
      replace x5 := x5.trans y8
      replace S5 := S7
      have back : ∀ {σ' : St} {H' : Hp} {s' : Shared}, Inv (Zaq X scope N' s3.heap.objs.size (Zar X.env.cells scope.names []) s3 (upd H2 s2.heap.objs.size (.lst [])) fp) ([] ++ Zdq fp s7.heap) σ' H' s' →
        Inv (Zaq X scope N' s3.heap.objs.size (Zar X.env.cells scope.names []) s3 (upd H2 s2.heap.objs.size (.lst [])) fp) [] σ' H' s' ∧ tn (k + 1) s'.heap ∧ ∀ b ∈ fp, H' b = none := fun {σ' H' s'} I' => by
       refine ⟨I'.unpinned, T.keep _ _ _ st7 fun b hb o e => (I'.pin (b, o) (List.mem_append_right _ (List.mem_append_right _ (ZbA hb e)))).1, fun b hb => ?_⟩
       obtain ⟨o, e, d⟩ := T.obj _ _ st7 b hb
       exact (I'.pin (b, o) (List.mem_append_right _ (List.mem_append_right _ (ZbA hb e)))).2.1
      obtain ⟨b, M9, e9, h9⟩ := Zv.bind h5
      refine thn (hts _ s8 σ8 H8 (fun b' H' => b' = b ∧ ∃ ι9, Ext X.K H8 ι5 H' ι9 ∧ Zx X.K H' ι9 M9) I8 ⟨ι5, M5, env6, S5, E8, by rw [e9]; exact fun H' ι' x' S' => ⟨rfl, ι', x', S'⟩⟩) fun b' s9 ⟨H9, I9, eb, ι9, x9, S9⟩ => ?_
      subst eb
      cases b' with
      | false =>
       rw [if_neg (by decide)] at h9 ⊢
       obtain ⟨I9', st9, fr9⟩ := back I9
       exact ⟨itd.items.length - (k + 1), by omega, k + 1, σ8, H9, ι9, M9, env6, I9', st9, fr9, rfl, hlt, x5.trans x9, S9, E8.mono x9, x9.pre _ _ hι, h9.up x9⟩
      | true =>
       rw [if_pos rfl] at h9 ⊢
       obtain ⟨d, M10, e10, h10⟩ := Zv.bind h9
       refine thn (helt _ s9 σ8 H9 (fun v H' => ∃ ι10, Ext X.K H9 ι9 H' ι10 ∧ Zx X.K H' ι10 M10 ∧ Rep X.K H' ι10 d v) I9 ⟨ι9, M9, env6, S9, E8.mono x9, by rw [e10]; exact fun v H' ι' x' S' r' => ⟨ι', x', S', r'⟩⟩) fun xv s10 ⟨v, H10, I10, r10, ι10, x10, S10, rd⟩ => ?_
       have hι10 : ι10[M2.length]? = some s2.heap.objs.size := x10.pre _ _ (x9.pre _ _ hι)
       cases hm : M10[M2.length]? with
       | none => rw [hm] at h10; exact h10.elim
       | some o =>
        cases o with
        | dct _ => rw [hm] at h10; exact h10.elim
        | fdct _ => rw [hm] at h10; exact h10.elim
        | lst xs =>
         rw [hm] at h10
         by_cases hz : xs.length < SZ
         ·simp only [if_pos hz] at h10
          obtain ⟨vs, ev, rvs⟩ := S10.obj _ _ _ hm hι10
          obtain ⟨x11, S11⟩ := S10.setl (.inr (.inl ⟨_, ev⟩)) hι10 (rvs.append (Zj.cons rd Zj.nil))
          refine thn (Zdx _ s10 σ8 H10 (.ref s2.heap.objs.size) [v] (.ref s2.heap.objs.size) [xv] (fun _ H' => H' = upd H10 s2.heap.objs.size (.lst (vs ++ [v]))) I10 rfl (.cons r10 .nil) ⟨_, vs, v, rfl, rfl, ev, by rw [rvs.length]; exact Nat.lt_of_lt_of_le hz ZaK, rfl⟩) fun _ s11 ⟨_, H11, I11, _, eH⟩ => ?_
          subst eH
          obtain ⟨I11', st11, fr11⟩ := back I11
          exact ⟨itd.items.length - (k + 1), by omega, k + 1, σ8, _, ι10, _, env6, I11', st11, fr11, rfl, hlt, ((x5.trans x9).trans x10).trans x11, S11, ((E8.mono x9).mono x10).mono x11, hι10, ((h10.up x9).up x10).up x11⟩
         ·simp only [if_neg hz] at h10; exact h10.elim
    ·rw [if_neg lk] at h5; exact h5.elim
   ·have e0 : k = itd.items.length := by omega
    subst e0
    rw [List.drop_length] at h5
    unfold Zcc at h5
    by_cases lk : Zb7 itd.lk M5 = true
    ·rw [if_pos lk] at h5
     refine thn (T.done (Zaq X scope N' s3.heap.objs.size (Zar X.env.cells scope.names []) s3 (upd H2 s2.heap.objs.size (.lst [])) fp) rfl rfl rfl hc _ [] s5 σ5 H5 (fun _ _ => False) I5 (hfp4 fr5) st5 ((ok _ H5 ι5 M5 x5 S5 lk).2 rfl)) fun r s6 ⟨hr, I6⟩ => ?_
     subst hr
     obtain ⟨m6, hn6, _⟩ := I6.loc
     have I7 : Inv X pins σ H5 s6 := I3.call' (ch := fp) I6.os I6.base I6.hok I6.bare fun b hb => ⟨(hfp3 b hb).2.2.2.1, (hfp3 b hb).2.1, (hfp3 b hb).2.2.2.2.1, (hfp3 b hb).2.2.2.2.2⟩
     exact fin _ _ s6 m6 H5 hn6 (I3.fpOk (Nat.le_refl _) I6.free) I7 (h5 _ H5 ι5 Ext.refl S5 (Rep.ref hι))
    ·rw [if_neg lk] at h5; exact h5.elim
  ·rw [← S2.len]; simp
 exact codeAny_compStart_list (loop _ rfl) (T.self _ 0 _ _ _ st4 (loop _ rfl))
theorem Ziv (O : ZdQ X scope N' own) (hxe : X.xe = fun _ _ => False) (hc : X.calm = true) (hi : CIL X tg iter i)
  (hb : ∀ C cl s H ex, CG (Zaq X scope N' C cl s H ex) tg g ∧ CTs (Zaq X scope N' C cl s H ex) ifs ts ∧ C3 (Zaq X scope N' C cl s H ex) elt f)
  (hs : ∀ x, foldedSetIterable iter X.env x = pure x := by intro _; rfl) : C3 X (.ListComp elt [⟨tg, iter, ifs, 0⟩] scope pos) (Zhf i own g ts f) := by
 intro pins s σ H Q I h
 obtain ⟨ι, M, env, S, E, h⟩ := h
 obtain ⟨itd, M1, e1, h⟩ := Zv.bind h
 have hc0 : ∀ y ∈ scope.names, y.2 = .free → ∃ c, X.env.cells.lookup y.1 = some c := fun y hy e => I.ok.has y.1 (O.free y hy e)
 rw [eval_ListComp]
 refine wpAny_comprehension_free (use := none) rfl hs (ZcQ hc0) O.kind O.names ?_
 refine thn (hi pins s σ H (fun J H' => ∃ ι', Ext X.K H ι H' ι' ∧ Zx X.K H' ι' M1 ∧ Zhj X.K H' ι' itd J) I ⟨ι, M, env, S, E, by rw [e1]; exact fun J H' ι' x S' o => ⟨ι', x, S', o⟩⟩) fun v s1 h1 => thn h1 fun itv s2 h2 => ?_
 obtain ⟨it, fp, tn, J, H2, rfl, I2, T, st2, f2, ι2, x2, S2, ok⟩ := h2
 refine Ze9 (own := own) (g := g) (ts := ts) (f := f) O hc hb I2 T st2 f2 S2 (E.mono x2) ok (h.up x2) (fun acc C => compPost (model X.prog X.w) X.A X.xe none (EP X pins σ Q) acc C) ?_
 intro acc C s' m H' hn hf I' hq
 obtain ⟨f0, f1, f2', f3, f4, f5⟩ := hf
 exact ⟨m, hn, fun h' sb => ⟨.ref acc, H', I'.turned (t' := s'.toks) (fun b o hb e => (sb.2 b hb).trans e) f0 f1 f3 f4 f5, rfl, hq⟩⟩
end
end L3
set_option maxHeartbeats 400000
namespace Law
open PySem L3
noncomputable section
def Zc1 : S3 := ZaG (Zch (e1 (Zbp .int) (Zb 0)) (e1 Zcg (e1 (Zbp .bool) (Zb 0))))
def ZbC : F3 := mkF 1 1 Zc1
def Zb4 : S3 := Zw (sIf (e1 Zcg (e1 (Zbp .list) (Zb 0))) (ZdI) (Zag)) (Zw (Zat 3 (eC (.int 0))) (Zd6 (Zfh (Zb 0)) (Zb1 4) (Zw (sIf (eOr (e1 Zcg (Zt ZbC (Za (Zb 4) (Ze)))) (eOr (e2 Zh5 (Zb 4) (e2 Zu (Zb 3) (Zb 1))) (e2 ZfO (Zb 4) (Zb 2)))) (ZdI) (Zag)) (Zat 3 (Zb 4)))))
def Zan : F3 := mkF 3 5 Zb4
def ZdH : S3 := Zw (Zal (Zt Zan (Za (Zb 1) (Za (eC (.int 1)) (Za (e2 ZbL (Zah ZaC (Za (Zb 0) (Ze))) (eC (.int 2))) (Ze)))))) (ZaG (Zhf (Zgm (e2 Zu (ZaI (Za (eC (.int 0)) (Ze))) (Zb 1)) (e2 Zu (Zb 1) (ZaI (Za (e2 ZbL (Zah ZaC (Za (Zb 0) (Ze))) (eC (.int 1))) (Ze))))) 2 (ZeZ [2, 3]) [] (eSl (Zb 0) (Zaz (Zb 2)) (Zaz (e2 Zu (Zb 3) (eC (.int 1)))))))
def ZbG : F3 := mkF 2 2 ZdH
def ZdU : S3 := Zw (Zal (Zt Zan (Za (Zb 1) (Za (eC (.int 0)) (Za (Zah ZaC (Za (Zb 0) (Ze))) (Ze)))))) (ZaG (Zhf (Zgm (e2 Zu (ZaI (Za (eC (.int 0)) (Ze))) (Zb 1)) (e2 Zu (Zb 1) (ZaI (Za (Zah ZaC (Za (Zb 0) (Ze))) (Ze))))) 2 (ZeZ [2, 3]) [] (eSl (Zb 0) (Zaz (Zb 2)) (Zaz (Zb 3)))))
def ZbZ : F3 := mkF 2 2 ZdU
def ZcI : S3 := Zw (sIf (e2 ZaU (Zah ZaC (Za (Zb 0) (Ze))) (eC (.int 0))) (ZdI) (Zag)) (Zw (Zat 1 (ZaI (Ze))) (Zw (Zd6 (Zfh (Zb 0)) (Zb1 2) (Zw (sIf (e2 ZaU (Zah ZaC (Za (Zb 2) (Ze))) (eC (.int 0))) (ZdI) (Zag)) (Zw (sIf (Zch (e2 ZfO (Zah ZaC (Za (Zb 1) (Ze))) (eC (.int 0))) (e2 Zds (e2 Zz (Zb 2) (eC (.int 0))) (e2 Zz (Zb 1) (e1 Zer (eC (.int 1)))))) (ZdI) (Zag)) (Zal (Zb0 tyL ZaQ (Zb 1) (Za (eIf (e2 ZaU (Zah ZaC (Za (Zb 1) (Ze))) (eC (.int 0))) (Zb 2) (eSl (Zb 2) (Zaz (eC (.int 1))) (ZcC))) (Ze))))))) (ZaG (Zah Zbe (Za (Zb 1) (Ze))))))
def Zbs : F3 := mkF 1 3 ZcI
def Zbg : S3 := Zw (Zat 1 (e2 Zz (Zb 0) (eC (.int 0)))) (Zw (Zat 2 (e2 Zz (Zb 0) (eC (.int 1)))) (Zw (Zcq (Zb 0) (eC (.int 1)) (e2 Zu (Zb 2) (eC (.int 1)))) (Zw (sIf (e2 Zh5 (Zb 2) (Zah ZaC (Za (Zb 1) (Ze)))) (ZaG (e2 Zz (Zb 1) (Zb 2))) (Zag)) (Zw (sIf (e2 ZaU (Zah ZaC (Za (Zb 1) (Ze))) (eC (.int 0))) (ZaG (e2 Zu (e2 Zb5 (e2 Zb5 (Zb 2) (Zb 2)) (eC (.int 3))) (Zb 2))) (Zag)) (ZaG (e2 Zu (e2 Zay (e2 Zz (Zb 1) (e2 Zab (Zb 2) (Zah ZaC (Za (Zb 1) (Ze))))) (eC (.int 2))) (e2 Zb5 (Zb 2) (Zb 2))))))))
def Zk : F3 := mkF 1 3 Zbg
def Zav (rec : F3) : S3 := Zw (sIf (e1 (Zdm .tuple .list) (Zb 1)) (Zw (sIf (eOr (e2 Zds (e1 (Zbp .tuple) (Zb 0)) (e1 (Zbp .tuple) (Zb 1))) (e1 Zcg (e1 (Zdm .tuple .list) (Zb 0)))) (ZaG (eC (.bl false))) (Zag)) (ZaG (Zch (e2 ZaU (Zah ZaC (Za (Zb 0) (Ze))) (Zah ZaC (Za (Zb 1) (Ze)))) (Zah Zgn (Za (eLC (Za2 (Zah ZaC (Za (Zb 1) (Ze)))) 1 (Zb1 2) [] (Zt rec (Za (e2 Zz (Zb 0) (Zb 2)) (Za (e2 Zz (Zb 1) (Zb 2)) (Ze))))) (Ze)))))) (Zag)) (Zw (sIf (e1 (Zbp .str) (Zb 1)) (ZaG (Zch (e1 (Zbp .str) (Zb 0)) (e2 ZaU (Zb 0) (Zb 1)))) (Zag)) (Zw (sIf (e1 (Zbp .bool) (Zb 1)) (ZaG (Zch (e1 (Zbp .bool) (Zb 0)) (e2 ZaU (Zb 0) (Zb 1)))) (Zag)) (ZaG (Zch (e1 (Zbp .int) (Zb 0)) (Zch (e1 Zcg (e1 (Zbp .bool) (Zb 0))) (e2 ZaU (Zb 0) (Zb 1)))))))
def Zae : Nat → F3
 | 0 => mkF 2 2 ZdI
 | n + 1 => mkF 2 2 (Zav (Zae n))
def Zau : F3 := Zae 7
def Za8 : S3 := Zw (sIf (e2 ZaU (e2 Zab (Zb 0) (eC (.int 4))) (eC (.int 0))) (ZaG (e2 Zab (e2 Zay (Zb 0) (eC (.int 4))) (e2 Zgf (eC (.int 10)) (eC (.int 59))))) (Zag)) (Zw (sIf (e2 ZaU (e2 Zab (Zb 0) (eC (.int 4))) (eC (.int 1))) (ZaG (e2 ZbL (e1 Zer (eC (.int 1))) (e2 Zab (e2 Zay (Zb 0) (eC (.int 4))) (e2 Zgf (eC (.int 10)) (eC (.int 59)))))) (Zag)) (ZaG (e2 Zab (e2 Zay (Zb 0) (eC (.int 4))) (eC (.int 5)))))
def Zq : F3 := mkF 1 1 Za8
def Zck : S3 := Zw (Zat 2 (ZaI (Ze))) (Zw (Zd6 (Za2 (Zb 1)) (Zb1 3) (Zw (Zat 4 (Zt Zk (Za (Zb 0) (Ze)))) (Zw (Zat 5 (ZaI (Za (eC (.int 0)) (Za (eC (.int 0)) (Za (eC (.int 0)) (Za (eC (.int 0)) (Za (eC (.int 0)) (Za (eC (.int 0)) (Za (eC (.int 0)) (Za (eC (.int 0)) (Ze))))))))))) (Zw (Zcq (Zb 5) (e2 Zab (e2 Zay (Zb 4) (eC (.int 3))) (eC (.int 8))) (Zt Zq (Za (e2 Zay (Zb 4) (eC (.int 24))) (Ze)))) (Zw (Zcq (Zb 5) (e2 Zab (e2 Zay (Zb 4) (eC (.int 7))) (eC (.int 8))) (e2 Zab (Zb 3) (eC (.int 3)))) (Zal (Zb0 tyL Zbc (Zb 2) (Za (Zed (Za (e2 Zu (e2 ZbL (e2 Zab (Zb 4) (eC (.int 3))) (eC (.int 1))) (e2 Zb5 (e2 Zab (Zb 3) (eC (.int 2))) (e2 Zab (Zb 4) (eC (.int 7))))) (Za (Zah Zbe (Za (Zb 5) (Ze))) (Ze)))) (Ze))))))))) (ZaG (Zb 2)))
def Za4 : F3 := mkF 2 6 Zck
def ZcA : S3 := Zw (Zat 2 (ZaI (Ze))) (Zw (Zd6 (Za2 (Zb 1)) (Zb1 3) (Zw (Zat 4 (Zt Zk (Za (Zb 0) (Ze)))) (Zal (Zb0 tyL Zbc (Zb 2) (Za (Zed (Za (Zt Zq (Za (Zb 4) (Ze))) (Za (e2 ZbL (e2 Zab (Zb 4) (eC (.int 9))) (eC (.int 2))) (Za (e2 Zz (ZaI (Za (eC (.str [103, 101, 116])) (Za (eC (.str [115, 101, 116])) (Za (eC (.str [106, 117, 109, 112])) (Ze))))) (e2 Zab (Zb 4) (eC (.int 3)))) (Za (Zt Zq (Za (e2 Zay (Zb 4) (eC (.int 3))) (Ze))) (Ze)))))) (Ze)))))) (ZaG (Zb 2)))
def Zbd : F3 := mkF 2 5 ZcA
def ZdF : S3 := Zw (Zat 4 (ZaI (Ze))) (Zw (Zd6 (ZdO (Zb 1) (Zb 2)) (Zb1 5) (sIf (eOr (e2 ZaU (Zb 3) (eC (.int 1))) (Zch (e2 ZaU (Zb 3) (eC (.int 2))) (e2 ZaU (e2 Zab (Zt Zk (Za (Zb 0) (Ze))) (eC (.int 4))) (eC (.int 1))))) (Zal (Zb0 tyL Zbc (Zb 4) (Za (Zb 5) (Ze)))) (Zag))) (ZaG (Zb 4)))
def ZbH : F3 := mkF 4 6 ZdF
def Zde : S3 := Zw (Zat 2 (ZaI (Ze))) (Zw (Zd6 (Zfh (Zb 1)) (Zb1 3) (Zal (Zb0 tyL ZaQ (Zb 2) (Za (e2 Zb5 (ZaI (Za (Zb 3) (Ze))) (e2 Zu (eC (.int 1)) (e2 Zab (Zt Zk (Za (Zb 0) (Ze))) (eC (.int 3))))) (Ze))))) (ZaG (Zb 2)))
def ZbN : F3 := mkF 2 4 Zde
def Zco : S3 := Zw (Zat 2 (e2 Zu (e2 Zu (ZaI (Za (eC (.int 0)) (Ze))) (Zb 1)) (ZaI (Za (e2 ZbL (Zah ZaC (Za (Zb 0) (Ze))) (eC (.int 1))) (Ze))))) (ZaG (eLC (Za2 (e2 Zu (Zah ZaC (Za (Zb 1) (Ze))) (eC (.int 1)))) 1 (Zb1 3) [] (Zah Zbe (Za (eSl (Zb 0) (Zaz (e2 Zz (Zb 2) (Zb 3))) (Zaz (e2 Zu (e2 Zz (Zb 2) (e2 Zu (Zb 3) (eC (.int 1)))) (eC (.int 1))))) (Ze)))))
def Za0 : F3 := mkF 2 3 Zco
def ZcB : S3 := Zw (Zat 2 (e2 Zu (e2 Zu (ZaI (Za (eC (.int 0)) (Ze))) (Zb 1)) (ZaI (Za (Zah ZaC (Za (Zb 0) (Ze))) (Ze))))) (ZaG (eLC (Za2 (e2 Zu (Zah ZaC (Za (Zb 1) (Ze))) (eC (.int 1)))) 1 (Zb1 3) [] (Zah Zbe (Za (eSl (Zb 0) (Zaz (e2 Zz (Zb 2) (Zb 3))) (Zaz (e2 Zz (Zb 2) (e2 Zu (Zb 3) (eC (.int 1)))))) (Ze)))))
def ZaR : F3 := mkF 2 3 ZcB
def Zhw : S3 := Zw (Zat 1 (ZaI (Za (eSl (Zb 0) (ZcC) (Zaz (eC (.int 403)))) (Za (eC (.int 0)) (Ze))))) (Zw (Zat 2 (Zt Zk (Za (Zb 1) (Ze)))) (Zw (Zat 3 (e2 Zay (Zah ZeY (Za (eC (.int 0)) (Za (e2 ZbL (Zah ZaC (Za (eSl (Zb 0) (ZcC) (Zaz (eC (.int 403)))) (Ze))) (eC (.int 3))) (Ze)))) (e2 Zz (ZaI (Za (eC (.int 1)) (Za (eC (.int 2)) (Ze)))) (e2 Zab (Zb 2) (eC (.int 2)))))) (Zw (Zat 4 (Zah Zbe (Za (Zt Za4 (Za (Zb 1) (Za (Zb 3) (Ze)))) (Ze)))) (Zw (Zat 5 (Zah Zbe (Za (Zt Zbd (Za (Zb 1) (Za (Zb 3) (Ze)))) (Ze)))) (Zw (Zat 6 (Zt ZbH (Za (Zb 1) (Za (eC (.int 1)) (Za (e2 ZbL (Zb 3) (eC (.int 1))) (Za (e2 Zab (e2 Zay (Zb 2) (eC (.int 2))) (eC (.int 3))) (Ze))))))) (Zw (Zat 7 (Zt Za0 (Za (Zb 4) (Za (Zb 6) (Ze))))) (Zw (sIf (e2 ZaU (Zb 3) (eC (.int 0))) (Zat 7 (ZaI (Za (Zed (Ze)) (Ze)))) (Zag)) (Zw (Zat 8 (Zah Zd9 (Za (Zb 6) (Ze)))) (Zw (Zat 9 (Zt ZbG (Za (Zb 4) (Za (Zb 8) (Ze))))) (Zw (sIf (eOr (e1 Zcg (Zt Zau (Za (Zb 9) (Za (Zb 7) (Ze))))) (e2 Zds (Zb 8) (Zb 6))) (ZaG (eC (.bl false))) (Zag)) (Zw (sIf (Zch (e2 ZfO (Zb 3) (eC (.int 0))) (e1 Zcg (Zt Zau (Za (Zt Zbs (Za (Zb 9) (Ze))) (Za (Zb 4) (Ze)))))) (ZaG (eC (.bl false))) (Zag)) (Zw (sIf (e1 Zcg (Zt Zau (Za (Zb 9) (Za (Zb 7) (Ze))))) (ZaG (eC (.bl false))) (Zag)) (Zw (Zal (Zb0 tyL ZcS (Zb 9) (Ze))) (Zw (sIf (eOr (e2 Zds (Zb 8) (Zb 6)) (e1 Zcg (Zt Zau (Za (Zt ZbG (Za (Zb 4) (Za (Zb 8) (Ze)))) (Za (Zb 7) (Ze)))))) (ZaG (eC (.bl false))) (Zag)) (Zw (Zat 6 (Zt ZbN (Za (Zb 1) (Za (Zt ZbH (Za (Zb 1) (Za (eC (.int 0)) (Za (e2 Zu (Zb 3) (eC (.int 1))) (Za (e2 Zab (e2 Zay (Zb 2) (eC (.int 6))) (eC (.int 3))) (Ze)))))) (Ze))))) (Zw (Zat 8 (Zah Zd9 (Za (Zb 6) (Ze)))) (Zw (Zat 9 (Zt ZbZ (Za (Zb 5) (Za (Zb 8) (Ze))))) (Zw (sIf (eOr (e1 Zcg (Zt Zau (Za (Zb 9) (Za (Zt ZaR (Za (Zb 5) (Za (Zb 6) (Ze)))) (Ze))))) (e2 Zds (Zb 8) (Zb 6))) (ZaG (eC (.bl false))) (Zag)) (Zw (Zal (Zb0 tyL Zbc (Zb 9) (Za (Zed (Ze)) (Ze)))) (ZaG (Zch (e2 ZaU (Zb 8) (Zb 6)) (Zt Zau (Za (Zt ZbZ (Za (Zb 5) (Za (Zb 8) (Ze)))) (Za (Zt ZaR (Za (Zb 5) (Za (Zb 6) (Ze)))) (Ze)))))))))))))))))))))))))
def Zf6 : F3 := mkF 1 10 Zhw
end
end Law
namespace Law
open PySem PySem.Spec PyProof.Rows L2 L3
def top (i : Nat) : Stmt := PySem.Challenge.pw_stepledger_k41_cut_and_joined.main.body.getD i (.Pass ⟨0, 0, 0, 0⟩)
abbrev Zbj : Stmt := top 4
abbrev Zbz : Stmt := top 5
abbrev Zap : Stmt := top 6
abbrev ZbD : Stmt := top 7
abbrev ZaN : Stmt := top 8
abbrev Zbf : Stmt := top 10
abbrev Zbi : Stmt := top 11
abbrev ZaT : Stmt := top 12
abbrev Zax : Stmt := top 13
abbrev ZaE : Stmt := top 14
abbrev Zbk : Stmt := top 15
abbrev ZaZ : Stmt := top 16
abbrev Zaw : Stmt := top 17
abbrev ZaD : Stmt := top 18
abbrev Zdk : Stmt := top 19
structure Txt (K : W.Frag) (mg : Str → Option Value) : Prop where
  kin : True
  m_all : mg "all" = none
  m_bool : mg "bool" = none
  m_int : mg "int" = none
  m_isinstance : mg "isinstance" = none
  m_len : mg "len" = none
  m_list : mg "list" = none
  m_max : mg "max" = none
  m_range : mg "range" = none
  m_str : mg "str" = none
  m_tuple : mg "tuple" = none
  m_zip : mg "zip" = none
section
variable {P : Program} {w : World} {K : W.Frag} {mg : Str → Option Value} {base : Heap}
theorem Ze2 : Zam ["number"] ["number"] (Zh ZbD) := ⟨rfl, rfl, rfl, by decide +kernel, rfl, by decide +kernel, by decide +kernel⟩
theorem Ze6 (A : ZaB K mg "is_whole" ZbD ["number"]) (T : Txt K mg) : Fn3 P w K mg base 1 "is_whole" ["number"] ZbC :=
  Fn3.of (N := ["number"]) (k := 0) A Ze2 fun f cdv A outer s H E hr => by
    have hu := Zc2 hr
    unfold Zc1
    refine Zm ?_
    refine Zaj ?_
    refine Zd0 ?_ ?_
    ·refine ZbW .int ?_ ?_ ?_
     ·exact T.m_isinstance
     ·exact T.m_int
     ·exact Zd 0
    ·refine Zet ?_
     refine Ziw ?_
     refine ZbW .bool ?_ ?_ ?_
     ·exact T.m_isinstance
     ·exact T.m_bool
     ·exact Zd 0
theorem ZaP : Zam ["cuts", "apart", "most", "ahead", "cut"] ["cuts", "apart", "most"] (Zh Zap) := ⟨rfl, rfl, rfl, by decide +kernel, rfl, by decide +kernel, by decide +kernel⟩
theorem ZcZ (A : ZaB K mg "refuse_bad_cuts" Zap ["cuts", "apart", "most"]) (T : Txt K mg) (F_is_whole : Fn3 P w K mg base 1 "is_whole" ["number"] ZbC) : Fn3 P w K mg base 2 "refuse_bad_cuts" ["cuts", "apart", "most"] Zan :=
  Fn3.of (N := ["cuts", "apart", "most", "ahead", "cut"]) (k := 1) A ZaP fun f cdv A outer s H E hr => by
    have hu := Zc2 hr
    unfold Zb4
    refine Zg ?_ ?_
    ·refine Zbh ?_ ?_ ?_
     ·refine ZcJ ?_
      refine ZbY ?_
      refine ZbW .list ?_ ?_ ?_
      ·exact T.m_isinstance
      ·exact T.m_list
      ·exact Zd 0
     ·refine Zm ?_
      exact ZdW
     ·exact Zao
    ·refine Zg ?_ ?_
     ·refine Zak 3 ?_ ?_
      ·exact ZaP.nd
      ·exact Zi
     ·refine Zm ?_
      refine Zdp ?_ ?_ ?_ ?_ ?_
      ·exact rfl
      ·exact rfl
      ·refine Zjd ?_
       exact Zd 0
      ·refine ZbR 4 ?_
       exact ZaP.nd
      ·refine Zg ?_ ?_
       ·refine Zbh ?_ ?_ ?_
        ·refine CW.ct ?_
         refine ZdZ ?_ ?_
         ·refine ZcJ ?_
          refine ZbY ?_
          refine Zad (k := 1) (ps := ["number"]) ?_ ?_ ?_
          ·exact F_is_whole
          ·exact hr.mono (by decide)
          ·refine Zc ?_ ?_
           ·exact Zd 4
           ·exact Zf
         ·refine ZdZ ?_ ?_
          ·refine ZaL ?_ ?_ ?_
           ·exact Zkf
           ·exact Zd 4
           ·refine Zn ?_ ?_ ?_
            ·exact Za9
            ·exact Zd 3
            ·exact Zd 1
          ·refine Zdw ?_
           refine ZaL ?_ ?_ ?_
           ·exact ZjH
           ·exact Zd 4
           ·exact Zd 2
        ·refine Zm ?_
         exact ZdW
        ·exact Zao
       ·refine Zm ?_
        refine Zak 3 ?_ ?_
        ·exact ZaP.nd
        ·exact Zd 4
theorem ZeK : Zam ["steps", "cuts"] ["steps", "cuts"] (Zh Zbj) := ⟨rfl, rfl, rfl, by decide +kernel, rfl, by decide +kernel, by decide +kernel⟩
theorem ZeN (A : ZaB K mg "cut_steps" Zbj ["steps", "cuts"]) (T : Txt K mg) (F_refuse_bad_cuts : Fn3 P w K mg base 2 "refuse_bad_cuts" ["cuts", "apart", "most"] Zan) : Fn3 P w K mg base 3 "cut_steps" ["steps", "cuts"] ZbG :=
  Fn3.of (N := ["steps", "cuts"]) (k := 2) A ZeK fun f cdv A outer s H E hr => by
    have hu := Zc2 hr
    unfold ZdH
    refine Zg ?_ ?_
    ·refine ZbQ ?_
     refine Zad (k := 2) (ps := ["cuts", "apart", "most"]) ?_ ?_ ?_
     ·exact F_refuse_bad_cuts
     ·exact hr.mono (by decide)
     ·refine Zc ?_ ?_
      ·exact Zd 1
      ·refine Zc ?_ ?_
       ·exact Zi
       ·refine Zc ?_ ?_
        ·refine Zn ?_ ?_ ?_
         ·exact ZdB
         ·refine Za7 (id := "len") ?_ ?_ ?_ ?_
          ·exact Zbw
          ·exact T.m_len
          ·exact ZaO
          ·refine Zc ?_ ?_
           ·exact Zd 0
           ·exact Zf
         ·exact Zi
        ·exact Zf
    ·refine Zm ?_
     refine Zaj ?_
     refine Ziv (N' := ["steps", "cuts", "begin", "end"]) ?_ ?_ ?_ ?_ (fun C cl s H ex => ⟨?_, ?_, ?_⟩)
     ·exact Zcf rfl (by kernel_rfl)
     ·exact rfl
     ·exact rfl
     ·refine Zha ?_ ?_ ?_
      ·exact T.m_zip
      ·refine Zn ?_ ?_ ?_
       ·exact Za9
       ·refine Zbo ?_
        refine Zc ?_ ?_
        ·exact Zi
        ·exact Zf
       ·exact Zd 1
      ·refine Zn ?_ ?_ ?_
       ·exact Za9
       ·exact Zd 1
       ·refine Zbo ?_
        refine Zc ?_ ?_
        ·refine Zn ?_ ?_ ?_
         ·exact ZdB
         ·refine Za7 (id := "len") ?_ ?_ ?_ ?_
          ·exact Zbw
          ·exact T.m_len
          ·exact ZaO
          ·refine Zc ?_ ?_
           ·exact Zd 0
           ·exact Zf
         ·exact Zi
        ·exact Zf
     ·refine Zg2 ?_ ?_
      ·exact rfl
      ·refine Zdb 2 ?_ ?_
       ·exact (show List.Nodup (["steps", "cuts", "begin", "end"] : List Str) by decide +kernel)
       ·refine Zdb 3 ?_ ?_
        ·exact (show List.Nodup (["steps", "cuts", "begin", "end"] : List Str) by decide +kernel)
        ·exact Zf8
     ·exact Zdf
     ·refine ZfC ?_ ?_ ?_ ?_
      ·exact ZfE
      ·exact Zd 0
      ·refine Zbq ?_
       exact Zd 2
      ·refine Zbq ?_
       refine Zn ?_ ?_ ?_
       ·exact Za9
       ·exact Zd 3
       ·exact Zi
theorem Zfn : Zam ["uses", "cuts"] ["uses", "cuts"] (Zh Zbz) := ⟨rfl, rfl, rfl, by decide +kernel, rfl, by decide +kernel, by decide +kernel⟩
theorem Zfp (A : ZaB K mg "cut_uses" Zbz ["uses", "cuts"]) (T : Txt K mg) (F_refuse_bad_cuts : Fn3 P w K mg base 2 "refuse_bad_cuts" ["cuts", "apart", "most"] Zan) : Fn3 P w K mg base 3 "cut_uses" ["uses", "cuts"] ZbZ :=
  Fn3.of (N := ["uses", "cuts"]) (k := 2) A Zfn fun f cdv A outer s H E hr => by
    have hu := Zc2 hr
    unfold ZdU
    refine Zg ?_ ?_
    ·refine ZbQ ?_
     refine Zad (k := 2) (ps := ["cuts", "apart", "most"]) ?_ ?_ ?_
     ·exact F_refuse_bad_cuts
     ·exact hr.mono (by decide)
     ·refine Zc ?_ ?_
      ·exact Zd 1
      ·refine Zc ?_ ?_
       ·exact Zi
       ·refine Zc ?_ ?_
        ·refine Za7 (id := "len") ?_ ?_ ?_ ?_
         ·exact Zbw
         ·exact T.m_len
         ·exact ZaO
         ·refine Zc ?_ ?_
          ·exact Zd 0
          ·exact Zf
        ·exact Zf
    ·refine Zm ?_
     refine Zaj ?_
     refine Ziv (N' := ["uses", "cuts", "begin", "end"]) ?_ ?_ ?_ ?_ (fun C cl s H ex => ⟨?_, ?_, ?_⟩)
     ·exact Zcf rfl (by kernel_rfl)
     ·exact rfl
     ·exact rfl
     ·refine Zha ?_ ?_ ?_
      ·exact T.m_zip
      ·refine Zn ?_ ?_ ?_
       ·exact Za9
       ·refine Zbo ?_
        refine Zc ?_ ?_
        ·exact Zi
        ·exact Zf
       ·exact Zd 1
      ·refine Zn ?_ ?_ ?_
       ·exact Za9
       ·exact Zd 1
       ·refine Zbo ?_
        refine Zc ?_ ?_
        ·refine Za7 (id := "len") ?_ ?_ ?_ ?_
         ·exact Zbw
         ·exact T.m_len
         ·exact ZaO
         ·refine Zc ?_ ?_
          ·exact Zd 0
          ·exact Zf
        ·exact Zf
     ·refine Zg2 ?_ ?_
      ·exact rfl
      ·refine Zdb 2 ?_ ?_
       ·exact (show List.Nodup (["uses", "cuts", "begin", "end"] : List Str) by decide +kernel)
       ·refine Zdb 3 ?_ ?_
        ·exact (show List.Nodup (["uses", "cuts", "begin", "end"] : List Str) by decide +kernel)
        ·exact Zf8
     ·exact Zdf
     ·refine ZfC ?_ ?_ ?_ ?_
      ·exact ZfE
      ·exact Zd 0
      ·refine Zbq ?_
       exact Zd 2
      ·refine Zbq ?_
       exact Zd 3
theorem ZbJ : Zam ["pieces", "steps", "piece"] ["pieces"] (Zh ZaN) := ⟨rfl, rfl, rfl, by decide +kernel, rfl, by decide +kernel, by decide +kernel⟩
theorem ZdL (A : ZaB K mg "joined_steps" ZaN ["pieces"]) (T : Txt K mg) : Fn3 P w K mg base 1 "joined_steps" ["pieces"] Zbs :=
  Fn3.of (N := ["pieces", "steps", "piece"]) (k := 0) A ZbJ fun f cdv A outer s H E hr => by
    have hu := Zc2 hr
    unfold ZcI
    refine Zg ?_ ?_
    ·refine Zbh ?_ ?_ ?_
     ·refine ZaL ?_ ?_ ?_
      ·exact (Zc3 hu)
      ·refine Za7 (id := "len") ?_ ?_ ?_ ?_
       ·exact Zbw
       ·exact T.m_len
       ·exact ZaO
       ·refine Zc ?_ ?_
        ·exact Zd 0
        ·exact Zf
      ·exact Zi
     ·refine Zm ?_
      exact ZdW
     ·exact Zao
    ·refine Zg ?_ ?_
     ·refine Zak 1 ?_ ?_
      ·exact ZbJ.nd
      ·refine Zbo ?_
       exact Zf
     ·refine Zg ?_ ?_
      ·refine Zdp ?_ ?_ ?_ ?_ ?_
       ·exact rfl
       ·exact rfl
       ·refine Zjd ?_
        exact Zd 0
       ·refine ZbR 2 ?_
        exact ZbJ.nd
       ·refine Zg ?_ ?_
        ·refine Zbh ?_ ?_ ?_
         ·refine ZaL ?_ ?_ ?_
          ·exact (Zc3 hu)
          ·refine Za7 (id := "len") ?_ ?_ ?_ ?_
           ·exact Zbw
           ·exact T.m_len
           ·exact ZaO
           ·refine Zc ?_ ?_
            ·exact Zd 2
            ·exact Zf
          ·exact Zi
         ·refine Zm ?_
          exact ZdW
         ·exact Zao
        ·refine Zg ?_ ?_
         ·refine Zbh ?_ ?_ ?_
          ·refine CW.ct ?_
           refine ZfG ?_ ?_
           ·refine ZaL ?_ ?_ ?_
            ·exact ZjH
            ·refine Za7 (id := "len") ?_ ?_ ?_ ?_
             ·exact Zbw
             ·exact T.m_len
             ·exact ZaO
             ·refine Zc ?_ ?_
              ·exact Zd 1
              ·exact Zf
            ·exact Zi
           ·refine Zew ?_
            refine ZaL ?_ ?_ ?_
            ·exact (Zhd hu)
            ·refine Zca ?_ ?_ ?_
             ·exact Zb9
             ·exact Zd 2
             ·exact Zi
            ·refine Zca ?_ ?_ ?_
             ·exact Zb9
             ·exact Zd 1
             ·refine Zkm ?_ ?_
              ·exact Zit
              ·exact Zi
          ·refine Zm ?_
           exact ZdW
          ·exact Zao
         ·refine Zm ?_
          refine ZbQ ?_
          refine Zdh ?_ ?_
          ·exact Zd 1
          ·refine Zc ?_ ?_
           ·refine Zlc ?_ ?_ ?_
            ·refine ZaL ?_ ?_ ?_
             ·exact (Zc3 hu)
             ·refine Za7 (id := "len") ?_ ?_ ?_ ?_
              ·exact Zbw
              ·exact T.m_len
              ·exact ZaO
              ·refine Zc ?_ ?_
               ·exact Zd 1
               ·exact Zf
             ·exact Zi
            ·exact Zd 2
            ·refine ZfC ?_ ?_ ?_ ?_
             ·exact ZfE
             ·exact Zd 2
             ·refine Zbq ?_
              exact Zi
             ·exact Zey
           ·exact Zf
      ·refine Zm ?_
       refine Zaj ?_
       refine ZdE (T := "tuple") ?_ ?_ ?_ ?_
       ·exact ZcN
       ·exact T.m_tuple
       ·exact Zcl
       ·refine Zc ?_ ?_
        ·exact Zd 1
        ·exact Zf
theorem Zcw : Zam ["deck", "cells", "at"] ["deck"] (Zh Zbf) := ⟨rfl, rfl, rfl, by decide +kernel, rfl, by decide +kernel, by decide +kernel⟩
theorem ZeL (A : ZaB K mg "_law_next" Zbf ["deck"]) (T : Txt K mg) : Fn3 P w K mg base 1 "_law_next" ["deck"] Zk :=
  Fn3.of (N := ["deck", "cells", "at"]) (k := 0) A Zcw fun f cdv A outer s H E hr => by
    have hu := Zc2 hr
    unfold Zbg
    refine Zg ?_ ?_
    ·refine Zak 1 ?_ ?_
     ·exact Zcw.nd
     ·refine Zca ?_ ?_ ?_
      ·exact Zb9
      ·exact Zd 0
      ·exact Zi
    ·refine Zg ?_ ?_
     ·refine Zak 2 ?_ ?_
      ·exact Zcw.nd
      ·refine Zca ?_ ?_ ?_
       ·exact Zb9
       ·exact Zd 0
       ·exact Zi
     ·refine Zg ?_ ?_
      ·refine ZeR ?_ ?_ ?_
       ·exact Zd 0
       ·exact Zi
       ·refine Zn ?_ ?_ ?_
        ·exact Za9
        ·exact Zd 2
        ·exact Zi
      ·refine Zg ?_ ?_
       ·refine Zbh ?_ ?_ ?_
        ·refine ZaL ?_ ?_ ?_
         ·exact Zkf
         ·exact Zd 2
         ·refine Za7 (id := "len") ?_ ?_ ?_ ?_
          ·exact Zbw
          ·exact T.m_len
          ·exact ZaO
          ·refine Zc ?_ ?_
           ·exact Zd 1
           ·exact Zf
        ·refine Zm ?_
         refine Zaj ?_
         refine Zca ?_ ?_ ?_
         ·exact Zb9
         ·exact Zd 1
         ·exact Zd 2
        ·exact Zao
       ·refine Zg ?_ ?_
        ·refine Zbh ?_ ?_ ?_
         ·refine ZaL ?_ ?_ ?_
          ·exact (Zc3 hu)
          ·refine Za7 (id := "len") ?_ ?_ ?_ ?_
           ·exact Zbw
           ·exact T.m_len
           ·exact ZaO
           ·refine Zc ?_ ?_
            ·exact Zd 1
            ·exact Zf
          ·exact Zi
         ·refine Zm ?_
          refine Zaj ?_
          refine Zn ?_ ?_ ?_
          ·exact Za9
          ·refine Zn ?_ ?_ ?_
           ·exact ZeW
           ·refine Zn ?_ ?_ ?_
            ·exact ZeW
            ·exact Zd 2
            ·exact Zd 2
           ·exact Zi
          ·exact Zd 2
         ·exact Zao
        ·refine Zm ?_
         refine Zaj ?_
         refine Zn ?_ ?_ ?_
         ·exact Za9
         ·refine Zn ?_ ?_ ?_
          ·exact ZbU
          ·refine Zca ?_ ?_ ?_
           ·exact Zb9
           ·exact Zd 1
           ·refine Zn ?_ ?_ ?_
            ·exact Zbv
            ·exact Zd 2
            ·refine Za7 (id := "len") ?_ ?_ ?_ ?_
             ·exact Zbw
             ·exact T.m_len
             ·exact ZaO
             ·refine Zc ?_ ?_
              ·exact Zd 1
              ·exact Zf
          ·exact Zi
         ·refine Zn ?_ ?_ ?_
          ·exact ZeW
          ·exact Zd 2
          ·exact Zd 2
theorem Zdg : Zam ["found", "due"] ["found", "due"] (Zh Zbi) := ⟨rfl, rfl, rfl, by decide +kernel, rfl, by decide +kernel, by decide +kernel⟩
theorem ZeF (A : ZaB K mg "_law_same" Zbi ["found", "due"]) (T : Txt K mg) : Fn3 P w K mg base 8 "_law_same" ["found", "due"] Zau := by
  have all : ∀ n : Nat, Fn3 P w K mg base (n + 1) "_law_same" ["found", "due"] (Zae n) := by
    intro n
    induction n with
    | zero => exact Fn3.of (N := ["found", "due"]) (k := 0) A Zdg fun f cdv A outer s H E hr => ZhI
    | succ n IH =>
      refine (Fn3.of (N := ["found", "due"]) (k := n + 1) A Zdg fun f cdv A outer s H E hr => ?_).mono (by omega)
      have hu := Zc2 hr
      unfold Zav
      refine Zg ?_ ?_
      ·refine Zbh ?_ ?_ ?_
       ·refine ZbY ?_
        refine Zf7 .tuple .list ?_ ?_ ?_ ?_
        ·exact T.m_isinstance
        ·exact T.m_tuple
        ·exact T.m_list
        ·exact Zd 1
       ·refine Zg ?_ ?_
        ·refine Zbh ?_ ?_ ?_
         ·refine CW.ct ?_
          refine ZdZ ?_ ?_
          ·refine ZaL ?_ ?_ ?_
           ·exact (Zhd hu)
           ·refine ZbW .tuple ?_ ?_ ?_
            ·exact T.m_isinstance
            ·exact T.m_tuple
            ·exact Zd 0
           ·refine ZbW .tuple ?_ ?_ ?_
            ·exact T.m_isinstance
            ·exact T.m_tuple
            ·exact Zd 1
          ·refine Zdw ?_
           refine ZcJ ?_
           refine ZbY ?_
           refine Zf7 .tuple .list ?_ ?_ ?_ ?_
           ·exact T.m_isinstance
           ·exact T.m_tuple
           ·exact T.m_list
           ·exact Zd 0
         ·refine Zm ?_
          refine Zaj ?_
          exact Zgw
         ·exact Zao
        ·refine Zm ?_
         refine Zaj ?_
         refine Zd0 ?_ ?_
         ·refine Zfa ?_ ?_ ?_
          ·exact (Zc3 hu)
          ·refine Za7 (id := "len") ?_ ?_ ?_ ?_
           ·exact Zbw
           ·exact T.m_len
           ·exact ZaO
           ·refine Zc ?_ ?_
            ·exact Zd 0
            ·exact Zf
          ·refine Za7 (id := "len") ?_ ?_ ?_ ?_
           ·exact Zbw
           ·exact T.m_len
           ·exact ZaO
           ·refine Zc ?_ ?_
            ·exact Zd 1
            ·exact Zf
         ·refine Zet ?_
          refine Za7 (id := "all") ?_ ?_ ?_ ?_
          ·exact (Zku rfl)
          ·exact T.m_all
          ·exact ZjE
          ·refine Zc ?_ ?_
           ·refine Zi4 (N' := ["found", "due", "k"]) ?_ ?_ ?_ ?_ (fun C cl s H ex => ⟨?_, ?_, ?_⟩)
            ·exact Zcf rfl (by kernel_rfl)
            ·exact rfl
            ·exact rfl
            ·refine Zcj ?_ ?_
             ·exact T.m_range
             ·refine Za7 (id := "len") ?_ ?_ ?_ ?_
              ·exact Zbw
              ·exact T.m_len
              ·exact ZaO
              ·refine Zc ?_ ?_
               ·exact Zd 1
               ·exact Zf
            ·refine ZbR 2 ?_
             exact (show List.Nodup (["found", "due", "k"] : List Str) by decide +kernel)
            ·exact Zdf
            ·refine Zad (k := n + 1) (ps := ["found", "due"]) ?_ ?_ ?_
             ·exact IH
             ·exact hr
             ·refine Zc ?_ ?_
              ·refine Zca ?_ ?_ ?_
               ·exact Zb9
               ·exact Zd 0
               ·exact Zd 2
              ·refine Zc ?_ ?_
               ·refine Zca ?_ ?_ ?_
                ·exact Zb9
                ·exact Zd 1
                ·exact Zd 2
               ·exact Zf
           ·exact Zf
       ·exact Zao
      ·refine Zg ?_ ?_
       ·refine Zbh ?_ ?_ ?_
        ·refine ZbY ?_
         refine ZbW .str ?_ ?_ ?_
         ·exact T.m_isinstance
         ·exact T.m_str
         ·exact Zd 1
        ·refine Zm ?_
         refine Zaj ?_
         refine Zd0 ?_ ?_
         ·refine ZbW .str ?_ ?_ ?_
          ·exact T.m_isinstance
          ·exact T.m_str
          ·exact Zd 0
         ·refine Zet ?_
          refine Zfa ?_ ?_ ?_
          ·exact (Zc3 hu)
          ·exact Zd 0
          ·exact Zd 1
        ·exact Zao
       ·refine Zg ?_ ?_
        ·refine Zbh ?_ ?_ ?_
         ·refine ZbY ?_
          refine ZbW .bool ?_ ?_ ?_
          ·exact T.m_isinstance
          ·exact T.m_bool
          ·exact Zd 1
         ·refine Zm ?_
          refine Zaj ?_
          refine Zd0 ?_ ?_
          ·refine ZbW .bool ?_ ?_ ?_
           ·exact T.m_isinstance
           ·exact T.m_bool
           ·exact Zd 0
          ·refine Zet ?_
           refine Zfa ?_ ?_ ?_
           ·exact (Zc3 hu)
           ·exact Zd 0
           ·exact Zd 1
         ·exact Zao
        ·refine Zm ?_
         refine Zaj ?_
         refine Zd0 ?_ ?_
         ·refine ZbW .int ?_ ?_ ?_
          ·exact T.m_isinstance
          ·exact T.m_int
          ·exact Zd 0
         ·refine Zd0 ?_ ?_
          ·refine Ziw ?_
           refine ZbW .bool ?_ ?_ ?_
           ·exact T.m_isinstance
           ·exact T.m_bool
           ·exact Zd 0
          ·refine Zet ?_
           refine Zfa ?_ ?_ ?_
           ·exact (Zc3 hu)
           ·exact Zd 0
           ·exact Zd 1
  exact all 7
theorem Zd7 : Zam ["cell"] ["cell"] (Zh ZaT) := ⟨rfl, rfl, rfl, by decide +kernel, rfl, by decide +kernel, by decide +kernel⟩
theorem ZdY (A : ZaB K mg "_law_number" ZaT ["cell"]) (T : Txt K mg) : Fn3 P w K mg base 1 "_law_number" ["cell"] Zq :=
  Fn3.of (N := ["cell"]) (k := 0) A Zd7 fun f cdv A outer s H E hr => by
    have hu := Zc2 hr
    unfold Za8
    refine Zg ?_ ?_
    ·refine Zbh ?_ ?_ ?_
     ·refine ZaL ?_ ?_ ?_
      ·exact (Zc3 hu)
      ·refine Zn ?_ ?_ ?_
       ·exact Zbv
       ·exact Zd 0
       ·exact Zi
      ·exact Zi
     ·refine Zm ?_
      refine Zaj ?_
      refine Zn ?_ ?_ ?_
      ·exact Zbv
      ·refine Zn ?_ ?_ ?_
       ·exact ZbU
       ·exact Zd 0
       ·exact Zi
      ·refine Zn ?_ ?_ ?_
       ·exact ZiB
       ·exact Zi
       ·exact Zi
     ·exact Zao
    ·refine Zg ?_ ?_
     ·refine Zbh ?_ ?_ ?_
      ·refine ZaL ?_ ?_ ?_
       ·exact (Zc3 hu)
       ·refine Zn ?_ ?_ ?_
        ·exact Zbv
        ·exact Zd 0
        ·exact Zi
       ·exact Zi
      ·refine Zm ?_
       refine Zaj ?_
       refine Zn ?_ ?_ ?_
       ·exact ZdB
       ·refine Zkm ?_ ?_
        ·exact Zit
        ·exact Zi
       ·refine Zn ?_ ?_ ?_
        ·exact Zbv
        ·refine Zn ?_ ?_ ?_
         ·exact ZbU
         ·exact Zd 0
         ·exact Zi
        ·refine Zn ?_ ?_ ?_
         ·exact ZiB
         ·exact Zi
         ·exact Zi
      ·exact Zao
     ·refine Zm ?_
      refine Zaj ?_
      refine Zn ?_ ?_ ?_
      ·exact Zbv
      ·refine Zn ?_ ?_ ?_
       ·exact ZbU
       ·exact Zd 0
       ·exact Zi
      ·exact Zi
theorem ZaJ : Zam ["deck", "many", "found", "k", "cell", "boxes"] ["deck", "many"] (Zh Zax) := ⟨rfl, rfl, rfl, by decide +kernel, rfl, by decide +kernel, by decide +kernel⟩
theorem Zdl (A : ZaB K mg "_law_any_steps" Zax ["deck", "many"]) (T : Txt K mg) (F__law_next : Fn3 P w K mg base 1 "_law_next" ["deck"] Zk) (F__law_number : Fn3 P w K mg base 1 "_law_number" ["cell"] Zq) : Fn3 P w K mg base 2 "_law_any_steps" ["deck", "many"] Za4 :=
  Fn3.of (N := ["deck", "many", "found", "k", "cell", "boxes"]) (k := 1) A ZaJ fun f cdv A outer s H E hr => by
    have hu := Zc2 hr
    unfold Zck
    refine Zg ?_ ?_
    ·refine Zak 2 ?_ ?_
     ·exact ZaJ.nd
     ·refine Zbo ?_
      exact Zf
    ·refine Zg ?_ ?_
     ·refine Zdp ?_ ?_ ?_ ?_ ?_
      ·exact rfl
      ·exact rfl
      ·refine Zcj ?_ ?_
       ·exact T.m_range
       ·exact Zd 1
      ·refine ZbR 3 ?_
       exact ZaJ.nd
      ·refine Zg ?_ ?_
       ·refine Zak 4 ?_ ?_
        ·exact ZaJ.nd
        ·refine Zad (k := 1) (ps := ["deck"]) ?_ ?_ ?_
         ·exact F__law_next
         ·exact hr.mono (by decide)
         ·refine Zc ?_ ?_
          ·exact Zd 0
          ·exact Zf
       ·refine Zg ?_ ?_
        ·refine Zak 5 ?_ ?_
         ·exact ZaJ.nd
         ·refine Zbo ?_
          refine Zc ?_ ?_
          ·exact Zi
          ·refine Zc ?_ ?_
           ·exact Zi
           ·refine Zc ?_ ?_
            ·exact Zi
            ·refine Zc ?_ ?_
             ·exact Zi
             ·refine Zc ?_ ?_
              ·exact Zi
              ·refine Zc ?_ ?_
               ·exact Zi
               ·refine Zc ?_ ?_
                ·exact Zi
                ·refine Zc ?_ ?_
                 ·exact Zi
                 ·exact Zf
        ·refine Zg ?_ ?_
         ·refine ZeR ?_ ?_ ?_
          ·exact Zd 5
          ·refine Zn ?_ ?_ ?_
           ·exact Zbv
           ·refine Zn ?_ ?_ ?_
            ·exact ZbU
            ·exact Zd 4
            ·exact Zi
           ·exact Zi
          ·refine Zad (k := 1) (ps := ["cell"]) ?_ ?_ ?_
           ·exact F__law_number
           ·exact hr.mono (by decide)
           ·refine Zc ?_ ?_
            ·refine Zn ?_ ?_ ?_
             ·exact ZbU
             ·exact Zd 4
             ·exact Zi
            ·exact Zf
         ·refine Zg ?_ ?_
          ·refine ZeR ?_ ?_ ?_
           ·exact Zd 5
           ·refine Zn ?_ ?_ ?_
            ·exact Zbv
            ·refine Zn ?_ ?_ ?_
             ·exact ZbU
             ·exact Zd 4
             ·exact Zi
            ·exact Zi
           ·refine Zn ?_ ?_ ?_
            ·exact Zbv
            ·exact Zd 3
            ·exact Zi
          ·refine Zm ?_
           refine ZbQ ?_
           refine ZbP ?_ ?_
           ·exact Zd 2
           ·refine Zc ?_ ?_
            ·refine ZfU ?_
             refine Zc ?_ ?_
             ·refine Zn ?_ ?_ ?_
              ·exact Za9
              ·refine Zn ?_ ?_ ?_
               ·exact ZdB
               ·refine Zn ?_ ?_ ?_
                ·exact Zbv
                ·exact Zd 4
                ·exact Zi
               ·exact Zi
              ·refine Zn ?_ ?_ ?_
               ·exact ZeW
               ·refine Zn ?_ ?_ ?_
                ·exact Zbv
                ·exact Zd 3
                ·exact Zi
               ·refine Zn ?_ ?_ ?_
                ·exact Zbv
                ·exact Zd 4
                ·exact Zi
             ·refine Zc ?_ ?_
              ·refine ZdE (T := "tuple") ?_ ?_ ?_ ?_
               ·exact ZcN
               ·exact T.m_tuple
               ·exact Zcl
               ·refine Zc ?_ ?_
                ·exact Zd 5
                ·exact Zf
              ·exact Zf
            ·exact Zf
     ·refine Zm ?_
      refine Zaj ?_
      exact Zd 2
theorem Za1 : Zam ["deck", "many", "found", "k", "cell"] ["deck", "many"] (Zh ZaE) := ⟨rfl, rfl, rfl, by decide +kernel, rfl, by decide +kernel, by decide +kernel⟩
theorem Zdt (A : ZaB K mg "_law_any_uses" ZaE ["deck", "many"]) (T : Txt K mg) (F__law_next : Fn3 P w K mg base 1 "_law_next" ["deck"] Zk) (F__law_number : Fn3 P w K mg base 1 "_law_number" ["cell"] Zq) : Fn3 P w K mg base 2 "_law_any_uses" ["deck", "many"] Zbd :=
  Fn3.of (N := ["deck", "many", "found", "k", "cell"]) (k := 1) A Za1 fun f cdv A outer s H E hr => by
    have hu := Zc2 hr
    unfold ZcA
    refine Zg ?_ ?_
    ·refine Zak 2 ?_ ?_
     ·exact Za1.nd
     ·refine Zbo ?_
      exact Zf
    ·refine Zg ?_ ?_
     ·refine Zdp ?_ ?_ ?_ ?_ ?_
      ·exact rfl
      ·exact rfl
      ·refine Zcj ?_ ?_
       ·exact T.m_range
       ·exact Zd 1
      ·refine ZbR 3 ?_
       exact Za1.nd
      ·refine Zg ?_ ?_
       ·refine Zak 4 ?_ ?_
        ·exact Za1.nd
        ·refine Zad (k := 1) (ps := ["deck"]) ?_ ?_ ?_
         ·exact F__law_next
         ·exact hr.mono (by decide)
         ·refine Zc ?_ ?_
          ·exact Zd 0
          ·exact Zf
       ·refine Zm ?_
        refine ZbQ ?_
        refine ZbP ?_ ?_
        ·exact Zd 2
        ·refine Zc ?_ ?_
         ·refine ZfU ?_
          refine Zc ?_ ?_
          ·refine Zad (k := 1) (ps := ["cell"]) ?_ ?_ ?_
           ·exact F__law_number
           ·exact hr.mono (by decide)
           ·refine Zc ?_ ?_
            ·exact Zd 4
            ·exact Zf
          ·refine Zc ?_ ?_
           ·refine Zn ?_ ?_ ?_
            ·exact ZdB
            ·refine Zn ?_ ?_ ?_
             ·exact Zbv
             ·exact Zd 4
             ·exact Zi
            ·exact Zi
           ·refine Zc ?_ ?_
            ·refine Zca ?_ ?_ ?_
             ·exact Zb9
             ·refine Zbo ?_
              refine Zc ?_ ?_
              ·exact ZgW
              ·refine Zc ?_ ?_
               ·exact ZgW
               ·refine Zc ?_ ?_
                ·exact ZgW
                ·exact Zf
             ·refine Zn ?_ ?_ ?_
              ·exact Zbv
              ·exact Zd 4
              ·exact Zi
            ·refine Zc ?_ ?_
             ·refine Zad (k := 1) (ps := ["cell"]) ?_ ?_ ?_
              ·exact F__law_number
              ·exact hr.mono (by decide)
              ·refine Zc ?_ ?_
               ·refine Zn ?_ ?_ ?_
                ·exact ZbU
                ·exact Zd 4
                ·exact Zi
               ·exact Zf
             ·exact Zf
         ·exact Zf
     ·refine Zm ?_
      refine Zaj ?_
      exact Zd 2
theorem Zcy : Zam ["deck", "low", "high", "way", "found", "place"] ["deck", "low", "high", "way"] (Zh Zbk) := ⟨rfl, rfl, rfl, by decide +kernel, rfl, by decide +kernel, by decide +kernel⟩
theorem ZeC (A : ZaB K mg "_law_cuts" Zbk ["deck", "low", "high", "way"]) (T : Txt K mg) (F__law_next : Fn3 P w K mg base 1 "_law_next" ["deck"] Zk) : Fn3 P w K mg base 2 "_law_cuts" ["deck", "low", "high", "way"] ZbH :=
  Fn3.of (N := ["deck", "low", "high", "way", "found", "place"]) (k := 1) A Zcy fun f cdv A outer s H E hr => by
    have hu := Zc2 hr
    unfold ZdF
    refine Zg ?_ ?_
    ·refine Zak 4 ?_ ?_
     ·exact Zcy.nd
     ·refine Zbo ?_
      exact Zf
    ·refine Zg ?_ ?_
     ·refine Zdp ?_ ?_ ?_ ?_ ?_
      ·exact rfl
      ·exact rfl
      ·refine Zgo ?_ ?_ ?_
       ·exact T.m_range
       ·exact Zd 1
       ·exact Zd 2
      ·refine ZbR 5 ?_
       exact Zcy.nd
      ·refine Zm ?_
       refine Zbh ?_ ?_ ?_
       ·refine CW.ct ?_
        refine ZdZ ?_ ?_
        ·refine ZaL ?_ ?_ ?_
         ·exact (Zc3 hu)
         ·exact Zd 3
         ·exact Zi
        ·refine Zdw ?_
         refine CW.ct ?_
         refine ZfG ?_ ?_
         ·refine ZaL ?_ ?_ ?_
          ·exact (Zc3 hu)
          ·exact Zd 3
          ·exact Zi
         ·refine Zew ?_
          refine ZaL ?_ ?_ ?_
          ·exact (Zc3 hu)
          ·refine Zn ?_ ?_ ?_
           ·exact Zbv
           ·refine Zad (k := 1) (ps := ["deck"]) ?_ ?_ ?_
            ·exact F__law_next
            ·exact hr.mono (by decide)
            ·refine Zc ?_ ?_
             ·exact Zd 0
             ·exact Zf
           ·exact Zi
          ·exact Zi
       ·refine Zm ?_
        refine ZbQ ?_
        refine ZbP ?_ ?_
        ·exact Zd 4
        ·refine Zc ?_ ?_
         ·exact Zd 5
         ·exact Zf
       ·exact Zao
     ·refine Zm ?_
      refine Zaj ?_
      exact Zd 4
theorem Zcb : Zam ["deck", "cuts", "found", "cut"] ["deck", "cuts"] (Zh ZaZ) := ⟨rfl, rfl, rfl, by decide +kernel, rfl, by decide +kernel, by decide +kernel⟩
theorem Zee (A : ZaB K mg "_law_often" ZaZ ["deck", "cuts"]) (T : Txt K mg) (F__law_next : Fn3 P w K mg base 1 "_law_next" ["deck"] Zk) : Fn3 P w K mg base 2 "_law_often" ["deck", "cuts"] ZbN :=
  Fn3.of (N := ["deck", "cuts", "found", "cut"]) (k := 1) A Zcb fun f cdv A outer s H E hr => by
    have hu := Zc2 hr
    unfold Zde
    refine Zg ?_ ?_
    ·refine Zak 2 ?_ ?_
     ·exact Zcb.nd
     ·refine Zbo ?_
      exact Zf
    ·refine Zg ?_ ?_
     ·refine Zdp ?_ ?_ ?_ ?_ ?_
      ·exact rfl
      ·exact rfl
      ·refine Zjd ?_
       exact Zd 1
      ·refine ZbR 3 ?_
       exact Zcb.nd
      ·refine Zm ?_
       refine ZbQ ?_
       refine Zdh ?_ ?_
       ·exact Zd 2
       ·refine Zc ?_ ?_
        ·refine Zn ?_ ?_ ?_
         ·exact ZeW
         ·refine Zbo ?_
          refine Zc ?_ ?_
          ·exact Zd 3
          ·exact Zf
         ·refine Zn ?_ ?_ ?_
          ·exact Za9
          ·exact Zi
          ·refine Zn ?_ ?_ ?_
           ·exact Zbv
           ·refine Zad (k := 1) (ps := ["deck"]) ?_ ?_ ?_
            ·exact F__law_next
            ·exact hr.mono (by decide)
            ·refine Zc ?_ ?_
             ·exact Zd 0
             ·exact Zf
           ·exact Zi
        ·exact Zf
     ·refine Zm ?_
      refine Zaj ?_
      exact Zd 2
theorem Zb3 : Zam ["rows", "cuts", "ends"] ["rows", "cuts"] (Zh Zaw) := ⟨rfl, rfl, rfl, by decide +kernel, rfl, by decide +kernel, by decide +kernel⟩
theorem Zc6 (A : ZaB K mg "_law_steps_cut" Zaw ["rows", "cuts"]) (T : Txt K mg) : Fn3 P w K mg base 1 "_law_steps_cut" ["rows", "cuts"] Za0 :=
  Fn3.of (N := ["rows", "cuts", "ends"]) (k := 0) A Zb3 fun f cdv A outer s H E hr => by
    have hu := Zc2 hr
    unfold Zco
    refine Zg ?_ ?_
    ·refine Zak 2 ?_ ?_
     ·exact Zb3.nd
     ·refine Zn ?_ ?_ ?_
      ·exact Za9
      ·refine Zn ?_ ?_ ?_
       ·exact Za9
       ·refine Zbo ?_
        refine Zc ?_ ?_
        ·exact Zi
        ·exact Zf
       ·exact Zd 1
      ·refine Zbo ?_
       refine Zc ?_ ?_
       ·refine Zn ?_ ?_ ?_
        ·exact ZdB
        ·refine Za7 (id := "len") ?_ ?_ ?_ ?_
         ·exact Zbw
         ·exact T.m_len
         ·exact ZaO
         ·refine Zc ?_ ?_
          ·exact Zd 0
          ·exact Zf
        ·exact Zi
       ·exact Zf
    ·refine Zm ?_
     refine Zaj ?_
     refine Zi4 (N' := ["rows", "cuts", "ends", "k"]) ?_ ?_ ?_ ?_ (fun C cl s H ex => ⟨?_, ?_, ?_⟩)
     ·exact Zcf rfl (by kernel_rfl)
     ·exact rfl
     ·exact rfl
     ·refine Zcj ?_ ?_
      ·exact T.m_range
      ·refine Zn ?_ ?_ ?_
       ·exact Za9
       ·refine Za7 (id := "len") ?_ ?_ ?_ ?_
        ·exact Zbw
        ·exact T.m_len
        ·exact ZaO
        ·refine Zc ?_ ?_
         ·exact Zd 1
         ·exact Zf
       ·exact Zi
     ·refine ZbR 3 ?_
      exact (show List.Nodup (["rows", "cuts", "ends", "k"] : List Str) by decide +kernel)
     ·exact Zdf
     ·refine ZdE (T := "tuple") ?_ ?_ ?_ ?_
      ·exact ZcN
      ·exact T.m_tuple
      ·exact Zcl
      ·refine Zc ?_ ?_
       ·refine ZfC ?_ ?_ ?_ ?_
        ·exact ZfE
        ·exact Zd 0
        ·refine Zbq ?_
         refine Zca ?_ ?_ ?_
         ·exact Zb9
         ·exact Zd 2
         ·exact Zd 3
        ·refine Zbq ?_
         refine Zn ?_ ?_ ?_
         ·exact Za9
         ·refine Zca ?_ ?_ ?_
          ·exact Zb9
          ·exact Zd 2
          ·refine Zn ?_ ?_ ?_
           ·exact Za9
           ·exact Zd 3
           ·exact Zi
         ·exact Zi
       ·exact Zf
theorem Zci : Zam ["rows", "cuts", "ends"] ["rows", "cuts"] (Zh ZaD) := ⟨rfl, rfl, rfl, by decide +kernel, rfl, by decide +kernel, by decide +kernel⟩
theorem Zdy (A : ZaB K mg "_law_uses_cut" ZaD ["rows", "cuts"]) (T : Txt K mg) : Fn3 P w K mg base 1 "_law_uses_cut" ["rows", "cuts"] ZaR :=
  Fn3.of (N := ["rows", "cuts", "ends"]) (k := 0) A Zci fun f cdv A outer s H E hr => by
    have hu := Zc2 hr
    unfold ZcB
    refine Zg ?_ ?_
    ·refine Zak 2 ?_ ?_
     ·exact Zci.nd
     ·refine Zn ?_ ?_ ?_
      ·exact Za9
      ·refine Zn ?_ ?_ ?_
       ·exact Za9
       ·refine Zbo ?_
        refine Zc ?_ ?_
        ·exact Zi
        ·exact Zf
       ·exact Zd 1
      ·refine Zbo ?_
       refine Zc ?_ ?_
       ·refine Za7 (id := "len") ?_ ?_ ?_ ?_
        ·exact Zbw
        ·exact T.m_len
        ·exact ZaO
        ·refine Zc ?_ ?_
         ·exact Zd 0
         ·exact Zf
       ·exact Zf
    ·refine Zm ?_
     refine Zaj ?_
     refine Zi4 (N' := ["rows", "cuts", "ends", "k"]) ?_ ?_ ?_ ?_ (fun C cl s H ex => ⟨?_, ?_, ?_⟩)
     ·exact Zcf rfl (by kernel_rfl)
     ·exact rfl
     ·exact rfl
     ·refine Zcj ?_ ?_
      ·exact T.m_range
      ·refine Zn ?_ ?_ ?_
       ·exact Za9
       ·refine Za7 (id := "len") ?_ ?_ ?_ ?_
        ·exact Zbw
        ·exact T.m_len
        ·exact ZaO
        ·refine Zc ?_ ?_
         ·exact Zd 1
         ·exact Zf
       ·exact Zi
     ·refine ZbR 3 ?_
      exact (show List.Nodup (["rows", "cuts", "ends", "k"] : List Str) by decide +kernel)
     ·exact Zdf
     ·refine ZdE (T := "tuple") ?_ ?_ ?_ ?_
      ·exact ZcN
      ·exact T.m_tuple
      ·exact Zcl
      ·refine Zc ?_ ?_
       ·refine ZfC ?_ ?_ ?_ ?_
        ·exact ZfE
        ·exact Zd 0
        ·refine Zbq ?_
         refine Zca ?_ ?_ ?_
         ·exact Zb9
         ·exact Zd 2
         ·exact Zd 3
        ·refine Zbq ?_
         refine Zca ?_ ?_ ?_
         ·exact Zb9
         ·exact Zd 2
         ·refine Zn ?_ ?_ ?_
          ·exact Za9
          ·exact Zd 3
          ·exact Zi
       ·exact Zf
theorem Zbu : Zam ["script", "deck", "cell", "many", "steps", "uses", "cuts", "due", "handed", "found"] ["script"] (Zh Zdk) := ⟨rfl, rfl, rfl, by decide +kernel, rfl, by decide +kernel, by decide +kernel⟩
theorem ZjG {f : Addr} {fd : FuncData} (F : Fun K "law" "law" Zdk f fd) (T : Txt K mg) (F_cut_steps : Fn3 P w K mg base 3 "cut_steps" ["steps", "cuts"] ZbG) (F_cut_uses : Fn3 P w K mg base 3 "cut_uses" ["uses", "cuts"] ZbZ) (F_joined_steps : Fn3 P w K mg base 1 "joined_steps" ["pieces"] Zbs) (F__law_next : Fn3 P w K mg base 1 "_law_next" ["deck"] Zk) (F__law_same : Fn3 P w K mg base 8 "_law_same" ["found", "due"] Zau) (F__law_any_steps : Fn3 P w K mg base 2 "_law_any_steps" ["deck", "many"] Za4) (F__law_any_uses : Fn3 P w K mg base 2 "_law_any_uses" ["deck", "many"] Zbd) (F__law_cuts : Fn3 P w K mg base 2 "_law_cuts" ["deck", "low", "high", "way"] ZbH) (F__law_often : Fn3 P w K mg base 2 "_law_often" ["deck", "cuts"] ZbN) (F__law_steps_cut : Fn3 P w K mg base 1 "_law_steps_cut" ["rows", "cuts"] Za0) (F__law_uses_cut : Fn3 P w K mg base 1 "_law_uses_cut" ["rows", "cuts"] ZaR) : Zdn P w K mg base CX0 9 f fd ["script"] (sp3 K 1 Zf6) :=
  fn3 (N := ["script", "deck", "cell", "many", "steps", "uses", "cuts", "due", "handed", "found"]) (k := 8) F Zbu fun cdv A outer s H E hr => by
    have hu := Zc2 hr
    unfold Zhw
    refine Zg ?_ ?_
    ·refine Zak 1 ?_ ?_
     ·exact Zbu.nd
     ·refine Zbo ?_
      refine Zc ?_ ?_
      ·refine ZfC ?_ ?_ ?_ ?_
       ·exact ZfE
       ·exact Zd 0
       ·exact Zey
       ·refine Zbq ?_
        exact Zi
      ·refine Zc ?_ ?_
       ·exact Zi
       ·exact Zf
    ·refine Zg ?_ ?_
     ·refine Zak 2 ?_ ?_
      ·exact Zbu.nd
      ·refine Zad (k := 1) (ps := ["deck"]) ?_ ?_ ?_
       ·exact F__law_next
       ·exact hr.mono (by decide)
       ·refine Zc ?_ ?_
        ·exact Zd 1
        ·exact Zf
     ·refine Zg ?_ ?_
      ·refine Zak 3 ?_ ?_
       ·exact Zbu.nd
       ·refine Zn ?_ ?_ ?_
        ·exact ZbU
        ·refine Za7 (id := "max") ?_ ?_ ?_ ?_
         ·exact (ZjA rfl)
         ·exact T.m_max
         ·exact Zi8
         ·refine Zc ?_ ?_
          ·exact Zi
          ·refine Zc ?_ ?_
           ·refine Zn ?_ ?_ ?_
            ·exact ZdB
            ·refine Za7 (id := "len") ?_ ?_ ?_ ?_
             ·exact Zbw
             ·exact T.m_len
             ·exact ZaO
             ·refine Zc ?_ ?_
              ·refine ZfC ?_ ?_ ?_ ?_
               ·exact ZfE
               ·exact Zd 0
               ·exact Zey
               ·refine Zbq ?_
                exact Zi
              ·exact Zf
            ·exact Zi
           ·exact Zf
        ·refine Zca ?_ ?_ ?_
         ·exact Zb9
         ·refine Zbo ?_
          refine Zc ?_ ?_
          ·exact Zi
          ·refine Zc ?_ ?_
           ·exact Zi
           ·exact Zf
         ·refine Zn ?_ ?_ ?_
          ·exact Zbv
          ·exact Zd 2
          ·exact Zi
      ·refine Zg ?_ ?_
       ·refine Zak 4 ?_ ?_
        ·exact Zbu.nd
        ·refine ZdE (T := "tuple") ?_ ?_ ?_ ?_
         ·exact ZcN
         ·exact T.m_tuple
         ·exact Zcl
         ·refine Zc ?_ ?_
          ·refine Zad (k := 2) (ps := ["deck", "many"]) ?_ ?_ ?_
           ·exact F__law_any_steps
           ·exact hr.mono (by decide)
           ·refine Zc ?_ ?_
            ·exact Zd 1
            ·refine Zc ?_ ?_
             ·exact Zd 3
             ·exact Zf
          ·exact Zf
       ·refine Zg ?_ ?_
        ·refine Zak 5 ?_ ?_
         ·exact Zbu.nd
         ·refine ZdE (T := "tuple") ?_ ?_ ?_ ?_
          ·exact ZcN
          ·exact T.m_tuple
          ·exact Zcl
          ·refine Zc ?_ ?_
           ·refine Zad (k := 2) (ps := ["deck", "many"]) ?_ ?_ ?_
            ·exact F__law_any_uses
            ·exact hr.mono (by decide)
            ·refine Zc ?_ ?_
             ·exact Zd 1
             ·refine Zc ?_ ?_
              ·exact Zd 3
              ·exact Zf
           ·exact Zf
        ·refine Zg ?_ ?_
         ·refine Zak 6 ?_ ?_
          ·exact Zbu.nd
          ·refine Zad (k := 2) (ps := ["deck", "low", "high", "way"]) ?_ ?_ ?_
           ·exact F__law_cuts
           ·exact hr.mono (by decide)
           ·refine Zc ?_ ?_
            ·exact Zd 1
            ·refine Zc ?_ ?_
             ·exact Zi
             ·refine Zc ?_ ?_
              ·refine Zn ?_ ?_ ?_
               ·exact ZdB
               ·exact Zd 3
               ·exact Zi
              ·refine Zc ?_ ?_
               ·refine Zn ?_ ?_ ?_
                ·exact Zbv
                ·refine Zn ?_ ?_ ?_
                 ·exact ZbU
                 ·exact Zd 2
                 ·exact Zi
                ·exact Zi
               ·exact Zf
         ·refine Zg ?_ ?_
          ·refine Zak 7 ?_ ?_
           ·exact Zbu.nd
           ·refine Zad (k := 1) (ps := ["rows", "cuts"]) ?_ ?_ ?_
            ·exact F__law_steps_cut
            ·exact hr.mono (by decide)
            ·refine Zc ?_ ?_
             ·exact Zd 4
             ·refine Zc ?_ ?_
              ·exact Zd 6
              ·exact Zf
          ·refine Zg ?_ ?_
           ·refine Zbh ?_ ?_ ?_
            ·refine ZaL ?_ ?_ ?_
             ·exact (Zc3 hu)
             ·exact Zd 3
             ·exact Zi
            ·refine Zm ?_
             refine Zak 7 ?_ ?_
             ·exact Zbu.nd
             ·refine Zbo ?_
              refine Zc ?_ ?_
              ·refine ZfU ?_
               exact Zf
              ·exact Zf
            ·exact Zao
           ·refine Zg ?_ ?_
            ·refine Zak 8 ?_ ?_
             ·exact Zbu.nd
             ·refine ZdE (T := "list") ?_ ?_ ?_ ?_
              ·exact ZgR
              ·exact T.m_list
              ·exact Zf2
              ·refine Zc ?_ ?_
               ·exact Zd 6
               ·exact Zf
            ·refine Zg ?_ ?_
             ·refine Zak 9 ?_ ?_
              ·exact Zbu.nd
              ·refine Zad (k := 3) (ps := ["steps", "cuts"]) ?_ ?_ ?_
               ·exact F_cut_steps
               ·exact hr.mono (by decide)
               ·refine Zc ?_ ?_
                ·exact Zd 4
                ·refine Zc ?_ ?_
                 ·exact Zd 8
                 ·exact Zf
             ·refine Zg ?_ ?_
              ·refine Zbh ?_ ?_ ?_
               ·refine CW.ct ?_
                refine ZdZ ?_ ?_
                ·refine ZcJ ?_
                 refine ZbY ?_
                 refine Zad (k := 8) (ps := ["found", "due"]) ?_ ?_ ?_
                 ·exact F__law_same
                 ·exact hr.mono (by decide)
                 ·refine Zc ?_ ?_
                  ·exact Zd 9
                  ·refine Zc ?_ ?_
                   ·exact Zd 7
                   ·exact Zf
                ·refine Zdw ?_
                 refine ZaL ?_ ?_ ?_
                 ·exact (Zhd hu)
                 ·exact Zd 8
                 ·exact Zd 6
               ·refine Zm ?_
                refine Zaj ?_
                exact Zgw
               ·exact Zao
              ·refine Zg ?_ ?_
               ·refine Zbh ?_ ?_ ?_
                ·refine CW.ct ?_
                 refine ZfG ?_ ?_
                 ·refine ZaL ?_ ?_ ?_
                  ·exact ZjH
                  ·exact Zd 3
                  ·exact Zi
                 ·refine Zew ?_
                  refine ZcJ ?_
                  refine ZbY ?_
                  refine Zad (k := 8) (ps := ["found", "due"]) ?_ ?_ ?_
                  ·exact F__law_same
                  ·exact hr.mono (by decide)
                  ·refine Zc ?_ ?_
                   ·refine Zad (k := 1) (ps := ["pieces"]) ?_ ?_ ?_
                    ·exact F_joined_steps
                    ·exact hr.mono (by decide)
                    ·refine Zc ?_ ?_
                     ·exact Zd 9
                     ·exact Zf
                   ·refine Zc ?_ ?_
                    ·exact Zd 4
                    ·exact Zf
                ·refine Zm ?_
                 refine Zaj ?_
                 exact Zgw
                ·exact Zao
               ·refine Zg ?_ ?_
                ·refine Zbh ?_ ?_ ?_
                 ·refine ZcJ ?_
                  refine ZbY ?_
                  refine Zad (k := 8) (ps := ["found", "due"]) ?_ ?_ ?_
                  ·exact F__law_same
                  ·exact hr.mono (by decide)
                  ·refine Zc ?_ ?_
                   ·exact Zd 9
                   ·refine Zc ?_ ?_
                    ·exact Zd 7
                    ·exact Zf
                 ·refine Zm ?_
                  refine Zaj ?_
                  exact Zgw
                 ·exact Zao
                ·refine Zg ?_ ?_
                 ·refine ZbQ ?_
                  refine ZeH ?_
                  exact Zd 9
                 ·refine Zg ?_ ?_
                  ·refine Zbh ?_ ?_ ?_
                   ·refine CW.ct ?_
                    refine ZdZ ?_ ?_
                    ·refine ZaL ?_ ?_ ?_
                     ·exact (Zhd hu)
                     ·exact Zd 8
                     ·exact Zd 6
                    ·refine Zdw ?_
                     refine ZcJ ?_
                     refine ZbY ?_
                     refine Zad (k := 8) (ps := ["found", "due"]) ?_ ?_ ?_
                     ·exact F__law_same
                     ·exact hr.mono (by decide)
                     ·refine Zc ?_ ?_
                      ·refine Zad (k := 3) (ps := ["steps", "cuts"]) ?_ ?_ ?_
                       ·exact F_cut_steps
                       ·exact hr.mono (by decide)
                       ·refine Zc ?_ ?_
                        ·exact Zd 4
                        ·refine Zc ?_ ?_
                         ·exact Zd 8
                         ·exact Zf
                      ·refine Zc ?_ ?_
                       ·exact Zd 7
                       ·exact Zf
                   ·refine Zm ?_
                    refine Zaj ?_
                    exact Zgw
                   ·exact Zao
                  ·refine Zg ?_ ?_
                   ·refine Zak 6 ?_ ?_
                    ·exact Zbu.nd
                    ·refine Zad (k := 2) (ps := ["deck", "cuts"]) ?_ ?_ ?_
                     ·exact F__law_often
                     ·exact hr.mono (by decide)
                     ·refine Zc ?_ ?_
                      ·exact Zd 1
                      ·refine Zc ?_ ?_
                       ·refine Zad (k := 2) (ps := ["deck", "low", "high", "way"]) ?_ ?_ ?_
                        ·exact F__law_cuts
                        ·exact hr.mono (by decide)
                        ·refine Zc ?_ ?_
                         ·exact Zd 1
                         ·refine Zc ?_ ?_
                          ·exact Zi
                          ·refine Zc ?_ ?_
                           ·refine Zn ?_ ?_ ?_
                            ·exact Za9
                            ·exact Zd 3
                            ·exact Zi
                           ·refine Zc ?_ ?_
                            ·refine Zn ?_ ?_ ?_
                             ·exact Zbv
                             ·refine Zn ?_ ?_ ?_
                              ·exact ZbU
                              ·exact Zd 2
                              ·exact Zi
                             ·exact Zi
                            ·exact Zf
                       ·exact Zf
                   ·refine Zg ?_ ?_
                    ·refine Zak 8 ?_ ?_
                     ·exact Zbu.nd
                     ·refine ZdE (T := "list") ?_ ?_ ?_ ?_
                      ·exact ZgR
                      ·exact T.m_list
                      ·exact Zf2
                      ·refine Zc ?_ ?_
                       ·exact Zd 6
                       ·exact Zf
                    ·refine Zg ?_ ?_
                     ·refine Zak 9 ?_ ?_
                      ·exact Zbu.nd
                      ·refine Zad (k := 3) (ps := ["uses", "cuts"]) ?_ ?_ ?_
                       ·exact F_cut_uses
                       ·exact hr.mono (by decide)
                       ·refine Zc ?_ ?_
                        ·exact Zd 5
                        ·refine Zc ?_ ?_
                         ·exact Zd 8
                         ·exact Zf
                     ·refine Zg ?_ ?_
                      ·refine Zbh ?_ ?_ ?_
                       ·refine CW.ct ?_
                        refine ZdZ ?_ ?_
                        ·refine ZcJ ?_
                         refine ZbY ?_
                         refine Zad (k := 8) (ps := ["found", "due"]) ?_ ?_ ?_
                         ·exact F__law_same
                         ·exact hr.mono (by decide)
                         ·refine Zc ?_ ?_
                          ·exact Zd 9
                          ·refine Zc ?_ ?_
                           ·refine Zad (k := 1) (ps := ["rows", "cuts"]) ?_ ?_ ?_
                            ·exact F__law_uses_cut
                            ·exact hr.mono (by decide)
                            ·refine Zc ?_ ?_
                             ·exact Zd 5
                             ·refine Zc ?_ ?_
                              ·exact Zd 6
                              ·exact Zf
                           ·exact Zf
                        ·refine Zdw ?_
                         refine ZaL ?_ ?_ ?_
                         ·exact (Zhd hu)
                         ·exact Zd 8
                         ·exact Zd 6
                       ·refine Zm ?_
                        refine Zaj ?_
                        exact Zgw
                       ·exact Zao
                      ·refine Zg ?_ ?_
                       ·refine ZbQ ?_
                        refine ZbP ?_ ?_
                        ·exact Zd 9
                        ·refine Zc ?_ ?_
                         ·refine ZfU ?_
                          exact Zf
                         ·exact Zf
                       ·refine Zm ?_
                        refine Zaj ?_
                        refine Zd0 ?_ ?_
                        ·refine Zfa ?_ ?_ ?_
                         ·exact (Zc3 hu)
                         ·exact Zd 8
                         ·exact Zd 6
                        ·refine Zet ?_
                         refine Zad (k := 8) (ps := ["found", "due"]) ?_ ?_ ?_
                         ·exact F__law_same
                         ·exact hr.mono (by decide)
                         ·refine Zc ?_ ?_
                          ·refine Zad (k := 3) (ps := ["uses", "cuts"]) ?_ ?_ ?_
                           ·exact F_cut_uses
                           ·exact hr.mono (by decide)
                           ·refine Zc ?_ ?_
                            ·exact Zd 5
                            ·refine Zc ?_ ?_
                             ·exact Zd 8
                             ·exact Zf
                          ·refine Zc ?_ ?_
                           ·refine Zad (k := 1) (ps := ["rows", "cuts"]) ?_ ?_ ?_
                            ·exact F__law_uses_cut
                            ·exact hr.mono (by decide)
                            ·refine Zc ?_ ?_
                             ·exact Zd 5
                             ·refine Zc ?_ ?_
                              ·exact Zd 6
                              ·exact Zf
                           ·exact Zf
end
end Law
set_option maxHeartbeats 200000
namespace Law
open L3
theorem Ze7 (n d : Nat) : sIx n d none = d := rfl
theorem ZdP (n d k : Nat) : sIx n d (some (k : Int)) = min k n := by
 have h : ¬ ((k : Int) < 0) := by omega
 simp only [sIx, if_neg h, Int.toNat_natCast]
theorem Zhv {α : Type} (w : List α) (k : Nat) : cutD w (some (k : Int)) none = w.drop k := by
 unfold cutD
 rw [ZdP, Ze7]
 by_cases h : k ≤ w.length
 ·rw [Nat.min_eq_left h, List.take_of_length_le (by simp)]
 ·rw [Nat.min_eq_right (by omega), List.drop_eq_nil_of_le (Nat.le_refl _), List.drop_eq_nil_of_le (by omega)]; simp
theorem Zil {i j : Int} (h : -(2 ^ 64) < i ∧ i < 2 ^ 64) : ZbF i j = true := by
 unfold ZbF; rw [Bool.or_eq_true]; left; simp only [Bool.and_eq_true, decide_eq_true_eq]; exact h
theorem mul_r {i j : Int} (h : -(2 ^ 64) < j ∧ j < 2 ^ 64) : ZbF i j = true := by
 unfold ZbF; rw [Bool.or_eq_true]; right; simp only [Bool.and_eq_true, decide_eq_true_eq]; exact h
theorem ZcM (x : Int) (m : Nat) (h : 0 < m) : ∃ a : Nat, x % (m : Int) = a ∧ a < m := by
 have h1 := Int.emod_nonneg x (b := (m : Int)) (by omega)
 have h2 := Int.emod_lt_of_pos x (b := (m : Int)) (by omega)
 exact ⟨(x % (m : Int)).toNat, (Int.toNat_of_nonneg h1).symm, by omega⟩
def ZaM : Nat → D → Bool
 | _, .int _ => true
 | _, .str _ => true
 | n + 1, .tup ds => decide (ds.length ≤ 1000) && ds.all (ZaM n)
 | _, _ => false
theorem Zgh : ∀ (n : Nat) (d : D) (M : Store), ZaM n d = true → Zae (n + 1) [d, d] M = .ok (.bl true) M := by
 intro n
 induction n with
 | zero =>
  intro d M h
  cases d with
  | str x => simp [Zae, Zav, Zw, Zat, ZaG, sIf, Zag, Zal, mkF, ZbB, below, belowL, ZbF]
  | int i => simp [Zae, Zav, Zw, Zat, ZaG, sIf, Zag, Zal, mkF, ZbB, below, belowL, ZbF]
  | _ => simp [ZaM] at h
 | succ n ih =>
  intro d M h
  cases d with
  | str x => simp [Zae, Zav, Zw, Zat, ZaG, sIf, Zag, Zal, mkF, ZbB, below, belowL, ZbF]
  | int i => simp [Zae, Zav, Zw, Zat, ZaG, sIf, Zag, Zal, mkF, ZbB, below, belowL, ZbF]
  | tup ds =>
   simp only [ZaM, Bool.and_eq_true, decide_eq_true_eq, List.all_eq_true] at h
   obtain ⟨hl, hd⟩ := h
   show mkF 2 2 (Zav (Zae (n + 1))) [.tup ds, .tup ds] M = _
   generalize Zae (n + 1) = F at ih
   have lc := Zji (α := Nat) (enc := fun k => D.int (0 + (k : Int))) (h := fun _ => D.bl true) (own := 1) (i := 2) (it := Za2 (Zah ZaC (Za (Zb 1) (Ze)))) (elt := Zt F (Za (e2 Zz (Zb 0) (Zb 2)) (Za (e2 Zz (Zb 1) (Zb 2)) (Ze)))) (env := [some (.tup ds), some (.tup ds)]) (M := M) (M1 := M) (lock := none) (as := List.range ds.length)
    (by
     have : (ds.length : Int) ≤ 1000000 ∧ -1000000 ≤ (ds.length : Int) := by omega
     simp [this, Zb2]) (fun _ h => by cases h)
    (fun k hk M => by
     have hk' : k < ds.length := by simpa using hk
     have hg : ds[k]? = some ds[k] := by simp [hk']
     have := ih ds[k] M (hd _ (List.getElem_mem hk'))
     have gk : Za6 ds (0 + (k : Int)) = some ds[k] := by rw [Int.zero_add, Zcr, hg]
     simp only [Zt, Za, e2, Zb, Ze, List.cons_append, List.nil_append, List.replicate, List.set, List.getElem?_cons_zero, List.getElem?_cons_succ, R3.bind, Zz, gk, this]) (by simp; omega)
   refine Rt.pure (G := [.lst ((List.range ds.length).map fun _ => D.bl true)]) (env := [some (.tup ds), some (.tup ds)]) ?_ rfl
   unfold Zav
   refine ZfZ ((Zfr (M' := M) (by simp)).trans ((Zy (ZaS (M' := M) (by simp))).trans (Zbm ((Zdr (M1 := M) (by simp)).trans (Zek lc ?_)))))
   simp [allB, isB, isT]
  | _ => simp [ZaM] at h
theorem Zfk (n : Nat) (ds : List D) (p q : Nat) (M : Store) (hp : M[p]? = some (.lst ds)) (hq : M[q]? = some (.lst ds)) (h : ∀ d ∈ ds, ZaM n d = true) (hl : ds.length ≤ 10000) : Zae (n + 2) [.ref p, .ref q] M = .ok (.bl true) M := by
 show mkF 2 2 (Zav (Zae (n + 1))) [.ref p, .ref q] M = _
 have ih := Zgh n
 generalize Zae (n + 1) = F at ih
 have b : (ds.length : Int) ≤ 1000000 ∧ -1000000 ≤ (ds.length : Int) := by omega
 have ir : Za2 (Zah ZaC (Za (Zb 1) (Ze))) [some (.ref p), some (.ref q)] M = .ok ⟨(List.range ds.length).map fun (k : Nat) => D.int (0 + (k : Int)), none⟩ M := by simp [hq, b, Zb2]
 obtain ⟨es, le, re, hh⟩ := Zfo (it := ⟨(List.range ds.length).map fun (k : Nat) => D.int (0 + (k : Int)), none⟩) (i := 2) (n := M.length) (elt := Zt F (Za (e2 Zz (Zb 0) (Zb 2)) (Za (e2 Zz (Zb 1) (Zb 2)) (Ze)))) (R := fun _ e => e = .bl true) (env0 := [some (.ref p), some (.ref q), none]) ((List.range ds.length).map fun (k : Nat) => D.int (0 + (k : Int))) [] [some (.ref p), some (.ref q), none] (M ++ [.lst []]) (fun _ => rfl)
  (fun d hd x => by
   obtain ⟨k, hk, rfl⟩ := List.mem_map.mp hd
   have hk' : k < ds.length := by simpa using hk
   have hg : ds[k]? = some ds[k] := by simp [hk']
   have := h _ (List.getElem_mem hk')
   generalize ds[k] = e at hg this
   have gk : Za6 ds (0 + (k : Int)) = some e := by rw [Int.zero_add, Zcr, hg]
   rw [show (M ++ [MO.lst []]).set M.length (.lst x) = M ++ [.lst x] by simp]
   have g1 := Zo hp [.lst x]
   have g2 := Zo hq [.lst x]
   refine ⟨.bl true, ZaY (a := e) (b := e) (M1 := M ++ [.lst x]) (M2 := M ++ [.lst x]) ?_ ?_ (ih e _ this), rfl⟩
   ·simp only [e2, Zb, List.set, List.getElem?_cons_zero, List.getElem?_cons_succ, R3.bind, Zz, g1, gk]
   ·simp only [e2, Zb, List.set, List.getElem?_cons_zero, List.getElem?_cons_succ, R3.bind, Zz, g2, gk])
  (fun _ => rfl) (by simp) (by simp; omega)
 have all : allB es = some true := by
  have : ∀ e ∈ es, e = .bl true := fun e he => by
   obtain ⟨j, hj, ej⟩ := List.mem_iff_getElem.mp he
   exact re j (((List.range ds.length).map fun (k : Nat) => D.int (0 + (k : Int)))[j]'(by rw [← le]; exact hj)) e (List.getElem?_eq_getElem _) (by rw [← ej]; simp)
  unfold allB
  rw [if_pos (List.all_eq_true.mpr fun e he => by rw [this e he]; rfl), List.all_eq_true.mpr fun e he => by rw [this e he]; rfl]
 have lc : (eLC (Za2 (Zah ZaC (Za (Zb 1) (Ze)))) 1 (Zb1 2) [] (Zt F (Za (e2 Zz (Zb 0) (Zb 2)) (Za (e2 Zz (Zb 1) (Zb 2)) (Ze))))) [some (.ref p), some (.ref q)] M = .ok (.ref M.length) (M ++ [.lst es]) := by
  rw [ZfT ir]
  refine Eq.trans hh ?_
  simp
 refine Rt.pure (G := [.lst es]) (env := [some (.ref p), some (.ref q)]) ?_ rfl
 unfold Zav
 refine ZfZ ((Zfr (M' := M) (by simp [hq])).trans ((Zy (ZaS (M' := M) (by simp [hp, hq]))).trans (Zbm ((Zdr (M1 := M) (by simp [hp, hq])).trans (Zek lc ?_)))))
 simp [all]
theorem ZhU (cs : List Int) (c d : Nat) (at_ : Nat) (M : Store) (hd : M[d]? = some (.lst [.ref c, .int (at_ : Int)])) (hc : M[c]? = some (.lst (cs.map D.int))) (ha : at_ < 1000000) (hne : c ≠ d) :
  ∃ v : Int, Zk [.ref d] M = .ok (.int v) (M.set d (.lst [.ref c, .int ((at_ + 1 : Nat) : Int)])) := by
 have hdl := (List.getElem?_eq_some_iff.mp hd).1
 have hc2 : (M.set d (.lst [.ref c, .int ((at_ : Int) + 1)]))[c]? = some (.lst (cs.map D.int)) := by rw [List.getElem?_set_ne (Ne.symm hne)]; exact hc
 have fin : ∀ v : Int, Zbg [some (.ref d), none, none] M = .rt (.int v) (M.set d (.lst [.ref c, .int ((at_ : Int) + 1)])) → ∃ v : Int, Zk [.ref d] M = .ok (.int v) (M.set d (.lst [.ref c, .int ((at_ + 1 : Nat) : Int)])) := fun v h => by
  refine ⟨v, (Zcd h).trans ?_⟩
  unfold ZbB
  rw [List.take_of_length_le (by simp)]
  split <;> simp
 have m1 : ZbF (at_ : Int) (at_ : Int) = true := Zil (by omega)
 have m2 : ZbF ((at_ : Int) * at_) 3 = true := mul_r (by omega)
 by_cases h1 : at_ < cs.length
 ·exact fin cs[at_] (by simp [Zbg, Zw, Zat, ZaG, sIf, Zag, Zal, Zcq, hd, hc2, h1])
 ·by_cases h2 : cs.length = 0
  ·have n0 : ¬ ((at_ : Int) < 0) := by omega
   exact fin ((at_ : Int) * at_ * 3 + at_) (by simp [Zbg, Zw, Zat, ZaG, sIf, Zag, Zal, Zcq, hd, hc2, h2, m1, m2, n0])
  ·obtain ⟨a, ha', la⟩ := ZcM (at_ : Int) cs.length (by omega)
   have p0 : 0 < cs.length := by omega
   exact fin (cs[a] / 2 + (at_ : Int) * at_) (by simp [Zbg, Zw, Zat, ZaG, sIf, Zag, Zal, Zcq, hd, hc2, h1, h2, m1, p0, ha', la])
theorem Zcz (c : Int) : ∃ v : Int, ∀ M, Zq [.int c] M = .ok (.int v) M := by
 by_cases h : c % 4 = 0
 ·exact ⟨_, fun M => by simp [Zq, Za8, Zw, Zat, ZaG, sIf, Zag, Zal, mkF, ZbB, below, belowL, ZbF, h]; rfl⟩
 ·by_cases h' : c % 4 = 1
  ·exact ⟨_, fun M => by simp [Zq, Za8, Zw, Zat, ZaG, sIf, Zag, Zal, mkF, ZbB, below, belowL, ZbF, h, h']; rfl⟩
  ·exact ⟨_, fun M => by simp [Zq, Za8, Zw, Zat, ZaG, sIf, Zag, Zal, mkF, ZbB, below, belowL, ZbF, h, h']; rfl⟩
structure Zbb (cs : List Int) (c d : Nat) (at_ : Nat) (M : Store) : Prop where
 hd : M[d]? = some (.lst [.ref c, .int (at_ : Int)])
 hc : M[c]? = some (.lst (cs.map D.int))
 ne : c ≠ d
theorem Zbb.next {cs : List Int} {c d at_ : Nat} {M : Store} (K : Zbb cs c d at_ M) (ha : at_ < 1000000) : ∃ (v : Int) (M' : Store), Zk [.ref d] M = .ok (.int v) M' ∧ Zbb cs c d (at_ + 1) M' ∧ M'.length = M.length ∧ ∀ j, j ≠ d → M'[j]? = M[j]? := by
 obtain ⟨v, h⟩ := ZhU cs c d at_ M K.hd K.hc ha K.ne
 have hdl := (List.getElem?_eq_some_iff.mp K.hd).1
 exact ⟨v, _, h, ⟨List.getElem?_set_self hdl, by rw [List.getElem?_set_ne (Ne.symm K.ne)]; exact K.hc, K.ne⟩, by simp, fun j hj => List.getElem?_set_ne (Ne.symm hj)⟩
theorem Zbb.number {cs : List Int} {c d at_ : Nat} {M : Store} {env : Zaa} (K : Zbb cs c d at_ M) (ha : at_ < 1000000) (h0 : env[0]? = some (some (.ref d))) : ∃ (v : Int) (M' : Store), (Zt Zq (Za (Zt Zk (Za (Zb 0) (Ze))) (Ze))) env M = .ok (.int v) M' ∧ Zbb cs c d (at_ + 1) M' ∧ M'.length = M.length ∧ ∀ j, j ≠ d → M'[j]? = M[j]? := by
 obtain ⟨v, M', h, K', l, o⟩ := K.next ha
 obtain ⟨w, hw⟩ := Zcz v
 exact ⟨w, M', Zcx (Zcx (a := .ref d) (M1 := M) (by simp [h0]) h) (hw M'), K', l, o⟩
structure Kp (d : Nat) (M M' : Store) : Prop where
 len : M.length ≤ M'.length
 old : ∀ j, j < M.length → j ≠ d → M'[j]? = M[j]?
theorem Kp.trans {d : Nat} {M M1 M2 : Store} (a : Kp d M M1) (b : Kp d M1 M2) : Kp d M M2 := ⟨Nat.le_trans a.len b.len, fun j h1 h2 => (b.old j (Nat.lt_of_lt_of_le h1 a.len) h2).trans (a.old j h1 h2)⟩
theorem Kp.app (d : Nat) (M G : Store) : Kp d M (M ++ G) := ⟨by simp, fun j h _ => List.getElem?_append_left h⟩
theorem Kp.get {d : Nat} {M M' : Store} (k : Kp d M M') {j : Nat} {o : MO} (h : M[j]? = some o) (hj : j ≠ d) : M'[j]? = some o := (k.old j (List.getElem?_eq_some_iff.mp h).1 hj).trans h
theorem Kp.put {d : Nat} {M M' : Store} (k : Kp d M M') {j : Nat} (hj : M.length ≤ j) (o : MO) : Kp d M (M'.set j o) := ⟨by rw [List.length_set]; exact k.len, fun i h1 h2 => by rw [List.getElem?_set_ne (by omega)]; exact k.old i h1 h2⟩
theorem Zbb.app {cs : List Int} {c d at_ : Nat} {M : Store} (K : Zbb cs c d at_ M) (G : Store) : Zbb cs c d at_ (M ++ G) := ⟨Zo K.hd G, Zo K.hc G, K.ne⟩
theorem Zbb.put {cs : List Int} {c d at_ : Nat} {M : Store} (K : Zbb cs c d at_ M) {j : Nat} (h1 : j ≠ d) (h2 : j ≠ c) (o : MO) : Zbb cs c d at_ (M.set j o) := ⟨by rw [List.getElem?_set_ne h1]; exact K.hd, by rw [List.getElem?_set_ne h2]; exact K.hc, K.ne⟩
theorem Zbb.lt {cs : List Int} {c d at_ : Nat} {M : Store} (K : Zbb cs c d at_ M) : c < M.length ∧ d < M.length := ⟨(List.getElem?_eq_some_iff.mp K.hc).1, (List.getElem?_eq_some_iff.mp K.hd).1⟩
theorem Zbb.draw {cs : List Int} {c d at_ : Nat} {M : Store} (K : Zbb cs c d at_ M) (ha : at_ < 1000000) : ∃ (v : Int) (M' : Store), Zk [.ref d] M = .ok (.int v) M' ∧ Zbb cs c d (at_ + 1) M' ∧ Kp d M M' ∧ M'.length = M.length := by
 obtain ⟨v, M', h, K', l, o⟩ := K.next ha
 exact ⟨v, M', h, K', ⟨by omega, fun j _ hj => o j hj⟩, l⟩
def Plain (d : D) : Prop := (∃ ds, d = .tup ds) ∧ ZaM 3 d = true ∧ Zr 3 d = true ∧ ∀ n, below n d = true
theorem ZeO (cs : List Int) (c d many : Nat) (at_ : Nat) (M : Store) (K : Zbb cs c d at_ M) (hm : many ≤ 1000) (ha : at_ + many < 100000) :
  ∃ (rows : List D) (n : Nat) (M' : Store), Za4 [.ref d, .int (many : Int)] M = .ok (.ref n) M' ∧ M'[n]? = some (.lst rows) ∧ M.length ≤ n ∧ rows.length = many ∧ (∀ r ∈ rows, Plain r) ∧ Zbb cs c d (at_ + many) M' ∧ Kp d M M' := by
 obtain ⟨lc, ld⟩ := K.lt
 obtain ⟨e', M', lp, rows, x3, x4, x5, rfl, K', g, lr, pl, kp⟩ := Zcn (it := ⟨Zb2 0 many, none⟩) (g := Zb1 3)
  (body := (Zw (Zat 4 (Zt Zk (Za (Zb 0) (Ze)))) (Zw (Zat 5 (ZaI (Za (eC (.int 0)) (Za (eC (.int 0)) (Za (eC (.int 0)) (Za (eC (.int 0)) (Za (eC (.int 0)) (Za (eC (.int 0)) (Za (eC (.int 0)) (Za (eC (.int 0)) (Ze))))))))))) (Zw (Zcq (Zb 5) (e2 Zab (e2 Zay (Zb 4) (eC (.int 3))) (eC (.int 8))) (Zt Zq (Za (e2 Zay (Zb 4) (eC (.int 24))) (Ze)))) (Zw (Zcq (Zb 5) (e2 Zab (e2 Zay (Zb 4) (eC (.int 7))) (eC (.int 8))) (e2 Zab (Zb 3) (eC (.int 3)))) (Zal (Zb0 tyL Zbc (Zb 2) (Za (Zed (Za (e2 Zu (e2 ZbL (e2 Zab (Zb 4) (eC (.int 3))) (eC (.int 1))) (e2 Zb5 (e2 Zab (Zb 3) (eC (.int 2))) (e2 Zab (Zb 4) (eC (.int 7))))) (Za (Zah Zbe (Za (Zb 5) (Ze))) (Ze)))) (Ze)))))))))
  (P := fun j env M' => ∃ (rows : List D) (x3 x4 x5 : Option D), env = [some (.ref d), some (.int (many : Int)), some (.ref M.length), x3, x4, x5] ∧ Zbb cs c d (at_ + j) M' ∧ M'[M.length]? = some (.lst rows) ∧ rows.length = j ∧ (∀ r ∈ rows, Plain r) ∧ Kp d M M')
  (Zb2 0 many) 0 [some (.ref d), some (.int (many : Int)), some (.ref M.length), none, none, none] (M ++ [.lst []]) ⟨[], none, none, none, rfl, K.app _, ZaA _ _ _, rfl, fun r hr => by simp at hr, Kp.app _ _ _⟩ (fun _ _ _ _ => rfl)
  (fun k dd hd env M' ⟨rows, x3, x4, x5, he, K', g, lr, pl, kp⟩ => by
   obtain ⟨rfl, lk⟩ := Zfq hd
   subst he
   obtain ⟨v, M1, hv, K1, kp1, l1⟩ := K'.draw (by omega)
   obtain ⟨w, hw⟩ := Zcz (v / 24)
   have hl := K'.lt
   have g1 := kp1.get g (by omega)
   have lM : M.length < M1.length := (List.getElem?_eq_some_iff.mp g1).1
   obtain ⟨a, ha1, la⟩ := ZcM (v / 3) 8 (by omega)
   obtain ⟨b, hb1, lb⟩ := ZcM (v / 7) 8 (by omega)
   have ha1' : v / 3 % 8 = (a : Int) := ha1
   have hb1' : v / 7 % 8 = (b : Int) := hb1
   have s4 : (Zt Zk (Za (Zb 0) (Ze))) [some (.ref d), some (.int (many : Int)), some (.ref M.length), some (.int (k : Int)), x4, x5] M' = .ok (.int v) M1 := Zcx rfl hv
   have s5 : (ZaI (Za (eC (.int 0)) (Za (eC (.int 0)) (Za (eC (.int 0)) (Za (eC (.int 0)) (Za (eC (.int 0)) (Za (eC (.int 0)) (Za (eC (.int 0)) (Za (eC (.int 0)) (Ze)))))))))) [some (.ref d), some (.int (many : Int)), some (.ref M.length), some (.int (k : Int)), some (.int v), x5] M1 = .ok (.ref M1.length) (M1 ++ [.lst [.int 0, .int 0, .int 0, .int 0, .int 0, .int 0, .int 0, .int 0]]) := by simp
   generalize hz : ([.int 0, .int 0, .int 0, .int 0, .int 0, .int 0, .int 0, .int 0] : List D) = zs at s5
   have lz : zs.length = 8 := by rw [← hz]; rfl
   have pz : ∀ x ∈ zs, ∃ i, x = D.int i := fun x hx => by rw [← hz] at hx; simp at hx; exact ⟨0, hx⟩
   have p1 : Zcq (Zb 5) (e2 Zab (e2 Zay (Zb 4) (eC (.int 3))) (eC (.int 8))) (Zt Zq (Za (e2 Zay (Zb 4) (eC (.int 24))) (Ze))) [some (.ref d), some (.int (many : Int)), some (.ref M.length), some (.int (k : Int)), some (.int v), some (.ref M1.length)] (M1 ++ [.lst zs]) = .nx [some (.ref d), some (.int (many : Int)), some (.ref M.length), some (.int (k : Int)), some (.int v), some (.ref M1.length)] (M1 ++ [.lst (zs.set a (.int w))]) := by
    simp [Zcq, Zal, hw, ha1', lz, la]
   have p2 : Zcq (Zb 5) (e2 Zab (e2 Zay (Zb 4) (eC (.int 7))) (eC (.int 8))) (e2 Zab (Zb 3) (eC (.int 3))) [some (.ref d), some (.int (many : Int)), some (.ref M.length), some (.int (k : Int)), some (.int v), some (.ref M1.length)] (M1 ++ [.lst (zs.set a (.int w))]) = .nx [some (.ref d), some (.int (many : Int)), some (.ref M.length), some (.int (k : Int)), some (.int v), some (.ref M1.length)] (M1 ++ [.lst ((zs.set a (.int w)).set b (.int ((k : Int) % 3)))]) := by
    simp [Zcq, Zal, hb1', lz, lb]
   have pz2 : ∀ x ∈ (zs.set a (.int w)).set b (.int ((k : Int) % 3)), ∃ i, x = D.int i := fun x hx => by
    rcases List.mem_or_eq_of_mem_set hx with hx | rfl
    ·rcases List.mem_or_eq_of_mem_set hx with hx | rfl
     ·exact pz x hx
     ·exact ⟨_, rfl⟩
    ·exact ⟨_, rfl⟩
   have lz2 : ((zs.set a (.int w)).set b (.int ((k : Int) % 3))).length = 8 := by simp [lz]
   generalize (zs.set a (.int w)).set b (.int ((k : Int) % 3)) = ys at p2 pz2 lz2
   have m1 : ZbF ((k : Int) % 2) (v % 7) = true := Zil (by omega)
   have g2 := Zo g1 [.lst ys]
   have gy : (M1 ++ [MO.lst ys])[M1.length]? = some (.lst ys) := ZaA _ _ _
   have ar : (Zed (Za (e2 Zu (e2 ZbL (e2 Zab (Zb 4) (eC (.int 3))) (eC (.int 1))) (e2 Zb5 (e2 Zab (Zb 3) (eC (.int 2))) (e2 Zab (Zb 4) (eC (.int 7))))) (Za (Zah Zbe (Za (Zb 5) (Ze))) (Ze)))) [some (.ref d), some (.int (many : Int)), some (.ref M.length), some (.int (k : Int)), some (.int v), some (.ref M1.length)] (M1 ++ [.lst ys]) = .ok (.tup [.int (v % 3 - 1 + (k : Int) % 2 * (v % 7)), .tup ys]) (M1 ++ [.lst ys]) := by simp [m1, gy]
   have ap := Zbn (ZcL (o := Zb 2) (n := M.length) rfl g2 ar g2 (by omega))
   have plr : Plain (.tup [.int (v % 3 - 1 + (k : Int) % 2 * (v % 7)), .tup ys]) := by
    refine ⟨⟨_, rfl⟩, ?_, ?_, fun n => ?_⟩
    ·simp only [ZaM, List.all_cons, List.all_nil, List.length_cons, List.length_nil, lz2]
     simp only [Bool.and_true, Bool.and_eq_true, List.all_eq_true]
     refine ⟨rfl, trivial, rfl, fun x hx => ?_⟩
     obtain ⟨i, rfl⟩ := pz2 x hx; rfl
    ·simp only [Zr, List.all_cons, List.all_nil]
     simp only [Bool.and_true, Bool.and_eq_true, List.all_eq_true]
     refine ⟨trivial, fun x hx => ?_⟩
     obtain ⟨i, rfl⟩ := pz2 x hx; exact ZeX _ _
    ·have : ∀ l : List D, (∀ x ∈ l, ∃ i, x = D.int i) → belowL n l = true := fun l => by
      induction l with
      | nil => intro _; rfl
      | cons x l ih => intro h; obtain ⟨i, rfl⟩ := h x List.mem_cons_self; simp only [belowL, below, ih fun y hy => h y (List.mem_cons_of_mem _ hy), Bool.and_self]
     simp only [below, belowL, this ys pz2, Bool.and_self]
   have l3 : M.length < (M1 ++ [MO.lst ys]).length := by simp; omega
   refine ⟨_, _, _, rfl, (Zy (Za3 s4)).trans ((Zy (Za3 s5)).trans ((Zy p1).trans ((Zy p2).trans ap))), rows ++ [_], _, _, _, rfl, (K1.app _).put (by omega) (by omega) _, List.getElem?_set_self l3, by simp [lr], fun r hr => ?_, ((kp.trans kp1).trans (Kp.app _ _ _)).put (Nat.le_refl _) _⟩
   rcases List.mem_append.mp hr with hr | hr
   ·exact pl r hr
   ·rw [List.mem_singleton] at hr; rw [hr]; exact plr)
 rw [ZeJ, Nat.zero_add] at lr K'
 have b : ((many : Int)) ≤ 1000000 ∧ -1000000 ≤ ((many : Int)) := by omega
 have ir : Za2 (Zb 1) [some (.ref d), some (.int (many : Int)), some (.ref M.length), none, none, none] (M ++ [.lst []]) = .ok ⟨Zb2 0 many, none⟩ (M ++ [.lst []]) := by simp [b]
 refine ⟨rows, M.length, M', ?_, g, Nat.le_refl _, lr, pl, K', kp⟩
 refine (Zcd (env := [some (.ref d), some (.int (many : Int)), none, none, none, none]) ((Zy (Za3 (d := .ref M.length) (M' := M ++ [.lst []]) (by simp))).trans ((Zy ((Zcu ir).trans lp)).trans (Zbm rfl)))).trans ?_
 simp [ZbB, below]
theorem Zfg (cs : List Int) (c d many : Nat) (at_ : Nat) (M : Store) (K : Zbb cs c d at_ M) (hm : many ≤ 1000) (ha : at_ + many < 100000) :
  ∃ (rows : List D) (n : Nat) (M' : Store), Zbd [.ref d, .int (many : Int)] M = .ok (.ref n) M' ∧ M'[n]? = some (.lst rows) ∧ M.length ≤ n ∧ rows.length = many ∧ (∀ r ∈ rows, Plain r) ∧ Zbb cs c d (at_ + many) M' ∧ Kp d M M' := by
 obtain ⟨lc, ld⟩ := K.lt
 obtain ⟨e', M', lp, rows, x3, x4, rfl, K', g, lr, pl, kp⟩ := Zcn (it := ⟨Zb2 0 many, none⟩) (g := Zb1 3)
  (body := (Zw (Zat 4 (Zt Zk (Za (Zb 0) (Ze)))) (Zal (Zb0 tyL Zbc (Zb 2) (Za (Zed (Za (Zt Zq (Za (Zb 4) (Ze))) (Za (e2 ZbL (e2 Zab (Zb 4) (eC (.int 9))) (eC (.int 2))) (Za (e2 Zz (ZaI (Za (eC (.str [103, 101, 116])) (Za (eC (.str [115, 101, 116])) (Za (eC (.str [106, 117, 109, 112])) (Ze))))) (e2 Zab (Zb 4) (eC (.int 3)))) (Za (Zt Zq (Za (e2 Zay (Zb 4) (eC (.int 3))) (Ze))) (Ze)))))) (Ze))))))
  (P := fun j env M' => ∃ (rows : List D) (x3 x4 : Option D), env = [some (.ref d), some (.int (many : Int)), some (.ref M.length), x3, x4] ∧ Zbb cs c d (at_ + j) M' ∧ M'[M.length]? = some (.lst rows) ∧ rows.length = j ∧ (∀ r ∈ rows, Plain r) ∧ Kp d M M')
  (Zb2 0 many) 0 [some (.ref d), some (.int (many : Int)), some (.ref M.length), none, none] (M ++ [.lst []]) ⟨[], none, none, rfl, K.app _, ZaA _ _ _, rfl, fun r hr => by simp at hr, Kp.app _ _ _⟩ (fun _ _ _ _ => rfl)
  (fun k dd hd env M' ⟨rows, x3, x4, he, K', g, lr, pl, kp⟩ => by
   obtain ⟨rfl, lk⟩ := Zfq hd
   subst he
   obtain ⟨v, M1, hv, K1, kp1, l1⟩ := K'.draw (by omega)
   obtain ⟨w, hw⟩ := Zcz v
   obtain ⟨w2, hw2⟩ := Zcz (v / 3)
   have g1 := kp1.get g (by omega)
   have lM : M.length < M1.length := (List.getElem?_eq_some_iff.mp g1).1
   obtain ⟨a, ha1, la⟩ := ZcM v 3 (by omega)
   have ha1' : v % 3 = (a : Int) := ha1
   have s4 : (Zt Zk (Za (Zb 0) (Ze))) [some (.ref d), some (.int (many : Int)), some (.ref M.length), some (.int (k : Int)), x4] M' = .ok (.int v) M1 := Zcx rfl hv
   obtain ⟨word, hword⟩ : ∃ word, ([.str [103, 101, 116], .str [115, 101, 116], .str [106, 117, 109, 112]] : List D)[a]? = some (.str word) := by
    have : a = 0 ∨ a = 1 ∨ a = 2 := by omega
    rcases this with rfl | rfl | rfl
    ·exact ⟨_, rfl⟩
    ·exact ⟨_, rfl⟩
    ·exact ⟨_, rfl⟩
   generalize hws : ([.str [103, 101, 116], .str [115, 101, 116], .str [106, 117, 109, 112]] : List D) = ws at hword
   have sl : (ZaI (Za (eC (.str [103, 101, 116])) (Za (eC (.str [115, 101, 116])) (Za (eC (.str [106, 117, 109, 112])) (Ze))))) [some (.ref d), some (.int (many : Int)), some (.ref M.length), some (.int (k : Int)), some (.int v)] M1 = .ok (.ref M1.length) (M1 ++ [.lst ws]) := by rw [← hws]; simp
   have gy : (M1 ++ [MO.lst ws])[M1.length]? = some (.lst ws) := ZaA _ _ _
   have sw : (e2 Zz (ZaI (Za (eC (.str [103, 101, 116])) (Za (eC (.str [115, 101, 116])) (Za (eC (.str [106, 117, 109, 112])) (Ze))))) (e2 Zab (Zb 4) (eC (.int 3)))) [some (.ref d), some (.int (many : Int)), some (.ref M.length), some (.int (k : Int)), some (.int v)] M1 = .ok (.str word) (M1 ++ [.lst ws]) := ZbM sl (b := .int (a : Int)) (M2 := M1 ++ [.lst ws]) (by simp [ha1']) (by simp only [Zz, gy, ZgN, hword])
   generalize (e2 Zz (ZaI (Za (eC (.str [103, 101, 116])) (Za (eC (.str [115, 101, 116])) (Za (eC (.str [106, 117, 109, 112])) (Ze))))) (e2 Zab (Zb 4) (eC (.int 3)))) = E at sw
   have ar : (Zed (Za (Zt Zq (Za (Zb 4) (Ze))) (Za (e2 ZbL (e2 Zab (Zb 4) (eC (.int 9))) (eC (.int 2))) (Za E (Za (Zt Zq (Za (e2 Zay (Zb 4) (eC (.int 3))) (Ze))) (Ze)))))) [some (.ref d), some (.int (many : Int)), some (.ref M.length), some (.int (k : Int)), some (.int v)] M1 = .ok (.tup [.int w, .int (v % 9 - 2), .str word, .int w2]) (M1 ++ [.lst ws]) := by simp [hw, hw2, sw]
   have g2 := Zo g1 [.lst ws]
   have ap := Zbn (ZcL (o := Zb 2) (n := M.length) rfl g1 ar g2 (by omega))
   have plr : Plain (.tup [.int w, .int (v % 9 - 2), .str word, .int w2]) := ⟨⟨_, rfl⟩, by simp [ZaM], by simp [Zr], fun n => rfl⟩
   have l3 : M.length < (M1 ++ [MO.lst ws]).length := by simp; omega
   refine ⟨_, _, _, rfl, (Zy (Za3 s4)).trans ap, rows ++ [_], _, _, rfl, (K1.app _).put (by omega) (by omega) _, List.getElem?_set_self l3, by simp [lr], fun r hr => ?_, ((kp.trans kp1).trans (Kp.app _ _ _)).put (Nat.le_refl _) _⟩
   rcases List.mem_append.mp hr with hr | hr
   ·exact pl r hr
   ·rw [List.mem_singleton] at hr; rw [hr]; exact plr)
 rw [ZeJ, Nat.zero_add] at lr K'
 have b : ((many : Int)) ≤ 1000000 ∧ -1000000 ≤ ((many : Int)) := by omega
 have ir : Za2 (Zb 1) [some (.ref d), some (.int (many : Int)), some (.ref M.length), none, none] (M ++ [.lst []]) = .ok ⟨Zb2 0 many, none⟩ (M ++ [.lst []]) := by simp [b]
 refine ⟨rows, M.length, M', ?_, g, Nat.le_refl _, lr, pl, K', kp⟩
 refine (Zcd (env := [some (.ref d), some (.int (many : Int)), none, none, none]) ((Zy (Za3 (d := .ref M.length) (M' := M ++ [.lst []]) (by simp))).trans ((Zy ((Zcu ir).trans lp)).trans (Zbm rfl)))).trans ?_
 simp [ZbB, below]
theorem Zgc (cs : List Int) (c d : Nat) (lo hi : Int) (way : Int) (at_ : Nat) (M : Store) (K : Zbb cs c d at_ M) (hlo : 0 ≤ lo) (hlo2 : lo ≤ 1000) (hhi : -1 ≤ hi) (hhi2 : hi ≤ 1000) (ha : at_ ≤ 10000) :
  ∃ (ks : List Int) (n a2 : Nat) (M' : Store), ZbH [.ref d, .int lo, .int hi, .int way] M = .ok (.ref n) M' ∧ M'[n]? = some (.lst (ks.map D.int)) ∧ M.length ≤ n ∧ ks.Pairwise (· < ·) ∧ (∀ k ∈ ks, lo ≤ k ∧ k < hi) ∧ ks.length ≤ 1001 ∧ a2 ≤ at_ + 1001 ∧ Zbb cs c d a2 M' ∧ Kp d M M' := by
 obtain ⟨lc, ld⟩ := K.lt
 have nn : (hi - lo).toNat ≤ 1001 := by omega
 obtain ⟨e', M', lp, ks, x5, a2, rfl, K', la, g, lk', pw, bd, kp⟩ := Zcn (it := ⟨Zb2 lo (hi - lo).toNat, none⟩) (g := Zb1 5)
  (body := (sIf (eOr (e2 ZaU (Zb 3) (eC (.int 1))) (Zch (e2 ZaU (Zb 3) (eC (.int 2))) (e2 ZaU (e2 Zab (Zt Zk (Za (Zb 0) (Ze))) (eC (.int 4))) (eC (.int 1))))) (Zal (Zb0 tyL Zbc (Zb 4) (Za (Zb 5) (Ze)))) (Zag)))
  (P := fun j env M' => ∃ (ks : List Int) (x5 : Option D) (a2 : Nat), env = [some (.ref d), some (.int lo), some (.int hi), some (.int way), some (.ref M.length), x5] ∧ Zbb cs c d a2 M' ∧ a2 ≤ at_ + j ∧ M'[M.length]? = some (.lst (ks.map D.int)) ∧ ks.length ≤ j ∧ ks.Pairwise (· < ·) ∧ (∀ k ∈ ks, lo ≤ k ∧ k < lo + j) ∧ Kp d M M')
  (Zb2 lo (hi - lo).toNat) 0 [some (.ref d), some (.int lo), some (.int hi), some (.int way), some (.ref M.length), none] (M ++ [.lst []]) ⟨[], none, at_, rfl, K.app _, Nat.le_refl _, ZaA _ _ _, Nat.le_refl _, List.Pairwise.nil, fun k hk => by simp at hk, Kp.app _ _ _⟩ (fun _ _ _ _ => rfl)
  (fun j dd hd env M' ⟨ks, x5, a2, he, K', la, g, lk, pw, bd, kp⟩ => by
   obtain ⟨rfl, lj⟩ := Zgd hd
   subst he
   have key : ∀ (M1 : Store) (a3 : Nat), Zbb cs c d a3 M1 → a3 ≤ at_ + (j + 1) → M1[M.length]? = some (.lst (ks.map D.int)) → Kp d M M1 →
     ∃ M2, Zal (Zb0 tyL Zbc (Zb 4) (Za (Zb 5) (Ze))) [some (.ref d), some (.int lo), some (.int hi), some (.int way), some (.ref M.length), some (.int (lo + (j : Int)))] M1 = .nx [some (.ref d), some (.int lo), some (.int hi), some (.int way), some (.ref M.length), some (.int (lo + (j : Int)))] M2 ∧
     ∃ (ks : List Int) (x5 : Option D) (a2 : Nat), [some (.ref d), some (.int lo), some (.int hi), some (.int way), some (.ref M.length), some (.int (lo + (j : Int)))] = [some (.ref d), some (.int lo), some (.int hi), some (.int way), some (.ref M.length), x5] ∧ Zbb cs c d a2 M2 ∧ a2 ≤ at_ + (0 + j + 1) ∧ M2[M.length]? = some (.lst (ks.map D.int)) ∧ ks.length ≤ 0 + j + 1 ∧ ks.Pairwise (· < ·) ∧ (∀ k ∈ ks, lo ≤ k ∧ k < lo + ((0 + j + 1 : Nat) : Int)) ∧ Kp d M M2 := fun M1 a3 K1 la3 g1 kp1 => by
    have l3 : M.length < M1.length := (List.getElem?_eq_some_iff.mp g1).1
    refine ⟨_, Zbn (ZcL (o := Zb 4) (arg := Zb 5) (d := .int (lo + (j : Int))) (n := M.length) rfl g1 rfl g1 (by rw [List.length_map]; omega)), ks ++ [lo + (j : Int)], _, a3, rfl, K1.put (by omega) (by omega) _, by omega, by rw [List.getElem?_set_self l3, List.map_append]; rfl, by simp; omega, ?_, fun k hk => ?_, kp1.put (Nat.le_refl _) _⟩
    ·refine List.pairwise_append.mpr ⟨pw, by simp, fun x hx y hy => ?_⟩
     rw [List.mem_singleton] at hy
     have := bd x hx
     omega
    ·rcases List.mem_append.mp hk with hk | hk
     ·have := bd k hk; omega
     ·rw [List.mem_singleton] at hk; omega
   have c1 : ∀ M', (e2 ZaU (Zb 3) (eC (.int 1))) [some (.ref d), some (.int lo), some (.int hi), some (.int way), some (.ref M.length), some (.int (lo + (j : Int)))] M' = .ok (.bl (decide (way = 1))) M' := fun M' => rfl
   have c2 : ∀ M', (e2 ZaU (Zb 3) (eC (.int 2))) [some (.ref d), some (.int lo), some (.int hi), some (.int way), some (.ref M.length), some (.int (lo + (j : Int)))] M' = .ok (.bl (decide (way = 2))) M' := fun M' => rfl
   by_cases w1 : way = 1
   ·obtain ⟨M2, h, r⟩ := key M' a2 K' (by omega) g kp
    exact ⟨_, _, M2, rfl, (Zfr (Zke ((c1 M').trans (by rw [decide_eq_true w1])))).trans h, r⟩
   ·by_cases w2 : way = 2
    ·obtain ⟨v, M1, hv, K1, kp1, l1⟩ := K'.draw (by omega)
     have g1 := kp1.get g (by omega)
     have cc : (eOr (e2 ZaU (Zb 3) (eC (.int 1))) (Zch (e2 ZaU (Zb 3) (eC (.int 2))) (e2 ZaU (e2 Zab (Zt Zk (Za (Zb 0) (Ze))) (eC (.int 4))) (eC (.int 1))))) [some (.ref d), some (.int lo), some (.int hi), some (.int way), some (.ref M.length), some (.int (lo + (j : Int)))] M' = .ok (.bl (decide (v % 4 = 1))) M1 := by
      rw [Zd5 ((c1 M').trans (by rw [decide_eq_false w1])), Zdr ((c2 M').trans (by rw [decide_eq_true w2]))]
      exact ZbM (ZbM (Zcx rfl hv) rfl rfl) rfl rfl
     by_cases v1 : v % 4 = 1
     ·obtain ⟨M2, h, r⟩ := key M1 (a2 + 1) K1 (by omega) g1 (kp.trans kp1)
      exact ⟨_, _, M2, rfl, (Zfr (cc.trans (by rw [decide_eq_true v1]))).trans h, r⟩
     ·exact ⟨_, _, M1, rfl, ZaS (cc.trans (by rw [decide_eq_false v1])), ks, _, a2 + 1, rfl, K1, by omega, g1, by omega, pw, fun k hk => by have := bd k hk; omega, kp.trans kp1⟩
    ·exact ⟨_, _, M', rfl, ZaS (M' := M') ((Zd5 ((c1 M').trans (by rw [decide_eq_false w1]))).trans (Zfx ((c2 M').trans (by rw [decide_eq_false w2])))), ks, _, a2, rfl, K', by omega, g, by omega, pw, fun k hk => by have := bd k hk; omega, kp⟩)
 rw [ZeJ, Nat.zero_add] at lk' la bd
 have ir : ZdO (Zb 1) (Zb 2) [some (.ref d), some (.int lo), some (.int hi), some (.int way), some (.ref M.length), none] (M ++ [.lst []]) = .ok ⟨Zb2 lo (hi - lo).toNat, none⟩ (M ++ [.lst []]) := by
  have b : (hi ≤ 1000000 ∧ -1000000 ≤ hi) ∧ (lo ≤ 1000000 ∧ -1000000 ≤ lo) := by omega
  simp only [ZdO, Zb, List.getElem?_cons_zero, List.getElem?_cons_succ, R3.bind, b, and_self, if_true]
 refine ⟨ks, M.length, a2, M', ?_, g, Nat.le_refl _, pw, fun k hk => by have := bd k hk; omega, by omega, by omega, K', kp⟩
 refine (Zcd (env := [some (.ref d), some (.int lo), some (.int hi), some (.int way), none, none]) ((Zy (Za3 (d := .ref M.length) (M' := M ++ [.lst []]) (by simp))).trans ((Zy ((Zcu ir).trans lp)).trans (Zbm rfl)))).trans ?_
 simp [ZbB, below]
theorem Zg9 (cs : List Int) (c d : Nat) (ks : List Int) (n : Nat) (hi : Int) (at_ : Nat) (M : Store) (K : Zbb cs c d at_ M) (hn : M[n]? = some (.lst (ks.map D.int))) (hnd : n ≠ d) (pk : ks.Pairwise (· < ·)) (bk : ∀ k ∈ ks, 0 ≤ k ∧ k < hi) (lk : ks.length ≤ 1001) (ha : at_ ≤ 20000) :
  ∃ (js : List Int) (m a2 : Nat) (M' : Store), ZbN [.ref d, .ref n] M = .ok (.ref m) M' ∧ M'[m]? = some (.lst (js.map D.int)) ∧ M.length ≤ m ∧ js.Pairwise (· ≤ ·) ∧ (∀ k ∈ js, 0 ≤ k ∧ k < hi) ∧ js.length ≤ 3003 ∧ Zbb cs c d a2 M' ∧ Kp d M M' := by
 obtain ⟨lc, ld⟩ := K.lt
 have hnl := (List.getElem?_eq_some_iff.mp hn).1
 obtain ⟨e', M', lp, js, x3, rfl, K', g, lj, pw, bd, kp⟩ := Zcn (it := ⟨ks.map D.int, some n⟩) (g := Zb1 3)
  (body := (Zal (Zb0 tyL ZaQ (Zb 2) (Za (e2 Zb5 (ZaI (Za (Zb 3) (Ze))) (e2 Zu (eC (.int 1)) (e2 Zab (Zt Zk (Za (Zb 0) (Ze))) (eC (.int 3))))) (Ze)))))
  (P := fun j env M' => ∃ (js : List Int) (x3 : Option D), env = [some (.ref d), some (.ref n), some (.ref M.length), x3] ∧ Zbb cs c d (at_ + j) M' ∧ M'[M.length]? = some (.lst (js.map D.int)) ∧ js.length ≤ 3 * j ∧ js.Pairwise (· ≤ ·) ∧ (∀ x ∈ js, x ∈ ks.take j) ∧ Kp d M M')
  (ks.map D.int) 0 [some (.ref d), some (.ref n), some (.ref M.length), none] (M ++ [.lst []]) ⟨[], none, rfl, K.app _, ZaA _ _ _, Nat.le_refl _, List.Pairwise.nil, fun k hk => by simp at hk, Kp.app _ _ _⟩
  (fun j env M' ⟨_, _, _, _, _, _, _, _, kp⟩ => by simp only [locked, kp.get hn hnd, decide_true])
  (fun j dd hd env M' ⟨js, x3, he, K', g, lj, pw, bd, kp⟩ => by
   subst he
   rw [List.getElem?_map] at hd
   cases hj : ks[j]? with
   | none => rw [hj] at hd; cases hd
   | some k =>
    rw [hj] at hd
    cases hd
    rw [Nat.zero_add] at K' lj bd ⊢
    have jl := (List.getElem?_eq_some_iff.mp hj).1
    have tk : ks.take (j + 1) = ks.take j ++ [k] := by rw [List.take_add_one, hj]; rfl
    have hml := (List.getElem?_eq_some_iff.mp g).1
    have K1 := K'.app [.lst [.int k]]
    obtain ⟨v, M1, hv, K2, kp1, l1⟩ := K1.draw (by omega)
    obtain ⟨a, ha1, la⟩ := ZcM v 3 (by omega)
    have ha1' : v % 3 = (a : Int) := ha1
    have gk : M1[M'.length]? = some (.lst [.int k]) := kp1.get (ZaA _ _ _) (by have := K'.lt; omega)
    have g1 : M1[M.length]? = some (.lst (js.map D.int)) := kp1.get (Zo g _) (by omega)
    have ml : (e2 Zb5 (ZaI (Za (Zb 3) (Ze))) (e2 Zu (eC (.int 1)) (e2 Zab (Zt Zk (Za (Zb 0) (Ze))) (eC (.int 3))))) [some (.ref d), some (.ref n), some (.ref M.length), some (.int k)] M' = .ok (.ref M1.length) (M1 ++ [.lst ((List.replicate (a + 1) k).map D.int)]) := by
     refine ZbM (a := .ref M'.length) (M1 := M' ++ [.lst [.int k]]) (by simp) (b := .int (1 + (a : Int))) (M2 := M1) (ZbM rfl (ZbM (d := .int (a : Int)) (M3 := M1) (Zcx rfl hv) rfl (by simp [ha1'])) rfl) ?_
     have t : (1 + (a : Int)).toNat = a + 1 := by omega
     have bb : [D.int k].length * (1 + (a : Int)).toNat ≤ SZ ∧ (1 + (a : Int)) < 1000000 ∧ -1000000 < (1 + (a : Int)) := by rw [t, SZ]; simp only [List.length_cons, List.length_nil]; omega
     have fl : (List.replicate (a + 1) [D.int k]).flatten = (List.replicate (a + 1) k).map D.int := by
      rw [List.map_replicate]
      generalize a + 1 = m
      induction m with
      | zero => rfl
      | succ m ih => rw [List.replicate_succ, List.flatten_cons, ih]; rfl
     rw [t] at bb
     simp only [Zb5, gk, t, if_pos bb, fl, alloc]
    have g2 := Zo g1 [.lst ((List.replicate (a + 1) k).map D.int)]
    have g3 : (M1 ++ [MO.lst ((List.replicate (a + 1) k).map D.int)])[M1.length]? = some (.lst ((List.replicate (a + 1) k).map D.int)) := ZaA _ _ _
    have l3 : M.length < (M1 ++ [MO.lst ((List.replicate (a + 1) k).map D.int)]).length := (List.getElem?_eq_some_iff.mp g2).1
    have lM1 : M.length < M1.length := (List.getElem?_eq_some_iff.mp g1).1
    refine ⟨[some (.ref d), some (.ref n), some (.ref M.length), some (.int k)], _, (M1 ++ [MO.lst ((List.replicate (a + 1) k).map D.int)]).set M.length (.lst ((js ++ List.replicate (a + 1) k).map D.int)), rfl, Zbn (d := .non) ?_, js ++ List.replicate (a + 1) k, _, rfl, (K2.app _).put (by omega) (by omega) _, by rw [List.getElem?_set_self l3], by simp; omega, ?_, fun x hx => ?_, (kp.trans ((Kp.app d M' _).trans (kp1.trans (Kp.app d M1 _)))).put (Nat.le_refl _) _⟩
    ·have nm : M.length ≠ M1.length ∧ (js.map D.int).length + ((List.replicate (a + 1) k).map D.int).length ≤ SZ := by simp; omega
     have ty : tyL (.ref M.length) M' = true := by simp [g]
     simp only [Zb0, Zb, List.getElem?_cons_succ, List.getElem?_cons_zero, R3.bind, ty, if_true, Za, Ze, ml, ZaQ, g2, g3, if_pos nm, List.map_append]
    ·refine List.pairwise_append.mpr ⟨pw, ?_, fun x hx y hy => ?_⟩
     ·rw [List.pairwise_replicate]; right; exact Int.le_refl _
     ·rw [(List.mem_replicate.mp hy).2]
      have h1 := bd x hx
      have : (ks.take j ++ [k]).Pairwise (· < ·) := by rw [← tk]; exact pk.take
      exact Int.le_of_lt ((List.pairwise_append.mp this).2.2 x h1 k (by simp))
    ·rw [tk]
     rcases List.mem_append.mp hx with hx | hx
     ·exact List.mem_append_left _ (bd x hx)
     ·rw [(List.mem_replicate.mp hx).2]; simp)
 rw [List.length_map, Nat.zero_add] at lj K' bd
 refine ⟨js, M.length, at_ + ks.length, M', ?_, g, Nat.le_refl _, pw, fun k hk => bk k (List.mem_of_mem_take (bd k hk)), by omega, K', kp⟩
 have ir : Zfh (Zb 1) [some (.ref d), some (.ref n), some (.ref M.length), none] (M ++ [.lst []]) = .ok ⟨ks.map D.int, some n⟩ (M ++ [.lst []]) := by
  simp only [Zfh, Zb, List.getElem?_cons_zero, List.getElem?_cons_succ, R3.bind, Zo hn]
 refine (Zcd (env := [some (.ref d), some (.ref n), none, none]) ((Zy (Za3 (d := .ref M.length) (M' := M ++ [.lst []]) (by simp))).trans ((Zy ((Zcu ir).trans lp)).trans (Zbm rfl)))).trans ?_
 simp [ZbB, below]
theorem Zeq {α : Type} {enc h : α → D} {it : It3} {g : G3} {n : Nat} {elt : E3} {I : Zaa → Prop} {M : Store} : ∀ (as : List α) (acc : List D) (env : Zaa), I env →
  (∀ a ∈ as, ∀ env, I env → ∃ env1, g (enc a) env = some env1 ∧ I env1 ∧ ∀ x, elt env1 (M.set n (.lst x)) = .ok (h a) (M.set n (.lst x))) → (∀ x, locked it (M.set n (.lst x)) = true) → n < M.length → acc.length + as.length ≤ SZ →
  Zb6 it g [] elt n (as.map enc) env (M.set n (.lst acc)) = .ok (.ref n) (M.set n (.lst (acc ++ as.map h)))
 | [], acc, env, _, _, hl, _, _ => by
  simp only [List.map_nil, Zb6, hl, if_true, List.append_nil]
 | a :: as, acc, env, hI, hf, hl, hn, hz => by
  obtain ⟨env1, hg, hI1, he⟩ := hf a List.mem_cons_self env hI
  have gt : (M.set n (.lst acc))[n]? = some (.lst acc) := by simp [hn]
  have lt : acc.length < SZ := by simp only [List.length_cons] at hz; omega
  have ih := Zeq as (acc ++ [h a]) env1 hI1 (fun b hb => hf b (List.mem_cons_of_mem _ hb)) hl hn (by simp only [List.length_append, List.length_cons, List.length_nil] at hz ⊢; omega)
  simp only [List.map_cons, Zb6, hl, if_true, hg, Zcv, R3.bind, he, gt, lt, List.set_set]
  rw [ih]
  simp
theorem Zjl {α : Type} {enc h : α → D} {own : Nat} {i : I3} {g : G3} {elt : E3} {env : Zaa} {M M1 : Store} {lock : Option Nat} {as : List α} (I : Zaa → Prop) (hi : i env M = .ok ⟨as.map enc, lock⟩ M1) (hlock : ∀ n, lock = some n → M1[n]? = some (.lst (as.map enc)))
  (hI : I (env ++ List.replicate own none)) (hf : ∀ a ∈ as, ∀ env, I env → ∃ env1, g (enc a) env = some env1 ∧ I env1 ∧ ∀ x, elt env1 (M1 ++ [.lst x]) = .ok (h a) (M1 ++ [.lst x])) (hz : as.length ≤ 100000) :
  eLC i own g [] elt env M = .ok (.ref M1.length) (M1 ++ [.lst (as.map h)]) := by
 have st : ∀ x : List D, (M1 ++ [MO.lst []]).set M1.length (.lst x) = M1 ++ [.lst x] := fun x => by simp
 rw [ZfT hi]
 have := Zeq (enc := enc) (h := h) (it := ⟨as.map enc, lock⟩) (g := g) (n := M1.length) (elt := elt) (I := I) (M := M1 ++ [.lst []]) as [] (env ++ List.replicate own none) hI
  (fun a ha e he => by
   obtain ⟨e1, h1, h2, h3⟩ := hf a ha e he
   exact ⟨e1, h1, h2, fun x => by rw [st]; exact h3 x⟩)
  (fun x => by
   rw [st]
   cases lock with
   | none => rfl
   | some n =>
    simp only [locked, decide_eq_true_eq]
    exact Zo (hlock n rfl) _) (by simp) (by simp; omega)
 rw [st, st] at this
 simpa using this
theorem Ze1 (i : Int) (M : Store) : ZbC [.int i] M = .ok (.bl true) M := by simp [ZbC, Zc1, Zw, Zat, ZaG, sIf, Zag, Zal, mkF, ZbB, below, belowL, ZbF]
theorem refuse_eq (ks : List Int) (n : Nat) (apart most : Int) (M : Store) (hn : M[n]? = some (.lst (ks.map D.int))) (h : (0 :: ks).Pairwise fun a b => a + apart ≤ b) (hm : ∀ k ∈ ks, k ≤ most) : Zan [.ref n, .int apart, .int most] M = .ok .non M := by
 obtain ⟨e', M', lp, x3, x4, rfl, rfl⟩ := Zcn (it := ⟨ks.map D.int, some n⟩) (g := Zb1 4)
  (body := (Zw (sIf (eOr (e1 Zcg (Zt ZbC (Za (Zb 4) (Ze)))) (eOr (e2 Zh5 (Zb 4) (e2 Zu (Zb 3) (Zb 1))) (e2 ZfO (Zb 4) (Zb 2)))) (ZdI) (Zag)) (Zat 3 (Zb 4))))
  (P := fun j env M' => ∃ (x3 x4 : Option D), env = [some (.ref n), some (.int apart), some (.int most), (0 :: ks)[j]?.map D.int, x4] ∧ M' = M)
  (ks.map D.int) 0 [some (.ref n), some (.int apart), some (.int most), some (.int 0), none] M ⟨none, none, rfl, rfl⟩
  (fun j env M' ⟨_, _, _, hm⟩ => by subst hm; simp only [locked, hn, decide_true])
  (fun j dd hd env M' ⟨x3, x4, he, hM⟩ => by
   subst he hM
   rw [List.getElem?_map] at hd
   cases hj : ks[j]? with
   | none => rw [hj] at hd; cases hd
   | some k =>
    rw [hj] at hd
    cases hd
    have jl := (List.getElem?_eq_some_iff.mp hj).1
    have ha : (0 :: ks)[0 + j]? = some ((0 :: ks)[j]'(by simp; omega)) := by rw [Nat.zero_add]; exact List.getElem?_eq_getElem _
    have hb : (0 :: ks)[j + 1]? = some k := by simpa using hj
    have hb' : (0 :: ks)[j + 1]'(by simp; omega) = k := (List.getElem?_eq_some_iff.mp hb).2
    have ord := List.pairwise_iff_getElem.mp h j (j + 1) (by simp; omega) (by simp; omega) (by omega)
    rw [hb'] at ord
    have le := hm k (List.mem_of_getElem? hj)
    rw [ha]
    generalize (0 :: ks)[j]'(by simp; omega) = a at ord
    refine ⟨[some (.ref n), some (.int apart), some (.int most), some (.int a), some (.int k)], _, M', rfl, (Zy (ZaS (M' := M') ?_)).trans (Za3 (f := Zb 4) (d := .int k) (M' := M') rfl), none, some (.int k), by rw [Nat.zero_add, hb]; rfl, rfl⟩
    have w := Ze1 k M'
    rw [Zd5 (M1 := M') (Zel (Zcx rfl w) rfl), Zd5 (M1 := M') (by simp; omega)]
    simp; omega)
 refine (ZjN (env := [some (.ref n), some (.int apart), some (.int most), none, none]) ((Zy (ZaS (M' := M') (by simp [hn]))).trans ((Zy (Za3 (f := eC (.int 0)) (d := .int 0) (M' := M') rfl)).trans ((Zcu (it := ⟨ks.map D.int, some n⟩) (M' := M') (by simp [hn])).trans lp)))).trans ?_
 exact ZgH rfl
def Zaf (rows : List D) (more : Int) (ends : List Int) : List D := (List.range (ends.length - 1)).map fun k => D.tup (cutD rows (some (ends.getD k 0)) (some (ends.getD (k + 1) 0 + more)))
theorem ZdR {lk : List (Nat × List D)} {g : G3} {elt : E3} {n : Nat} {I : Zaa → Prop} {M : Store} {hf : D → D} : ∀ (ds acc : List D) (env : Zaa), I env →
  (∀ a ∈ ds, ∀ env, I env → ∃ env1, g a env = some env1 ∧ I env1 ∧ ∀ x, elt env1 (M ++ [.lst x]) = .ok (hf a) (M ++ [.lst x])) → n = M.length → (∀ x, Zb7 lk (M ++ [.lst x]) = true) → acc.length + ds.length ≤ 10000 →
  Zcc lk g [] elt n ds env (M ++ [.lst acc]) = .ok (.ref n) (M ++ [.lst (acc ++ ds.map hf)])
 | [], acc, env, _, _, hn, hl, _ => by simp only [Zcc, hl, if_true, List.map_nil, List.append_nil]
 | a :: ds, acc, env, hI, hs, hn, hl, hz => by
  obtain ⟨env1, hg, hI1, he⟩ := hs a List.mem_cons_self env hI
  have gt : (M ++ [MO.lst acc])[n]? = some (.lst acc) := by rw [hn]; exact ZaA _ _ _
  have lt : acc.length < SZ := by simp only [List.length_cons, SZ] at hz ⊢; omega
  have st : (M ++ [MO.lst acc]).set n (.lst (acc ++ [hf a])) = M ++ [.lst (acc ++ [hf a])] := by rw [hn]; simp
  have ih := ZdR ds (acc ++ [hf a]) env1 hI1 (fun b hb => hs b (List.mem_cons_of_mem _ hb)) hn hl (by simp only [List.length_append, List.length_cons, List.length_nil] at hz ⊢; omega)
  simp only [Zcc, hl, if_true, hg, Zcv, R3.bind, he, gt, lt, st]
  rw [ih]
  simp
def pieceOf (rows : List D) (more : Int) : D → D
 | .tup [.int a, .int b] => .tup (cutD rows (some a) (some (b + more)))
 | _ => .non
theorem ZfJ (rows : List D) (more e : Int) (ks : List Int) : (Zc7 ((0 :: ks).map D.int) ((ks ++ [e]).map D.int)).map (pieceOf rows more) = Zaf rows more (0 :: ks ++ [e]) := by
 apply List.ext_getElem?
 intro i
 have e1 : ((0 :: ks : List Int) ++ [e]).length - 1 = ks.length + 1 := by simp
 unfold Zaf
 rw [List.getElem?_map, List.getElem?_map, Zdc, e1, List.getElem?_map, List.getElem?_map]
 by_cases h : i < ks.length + 1
 ·have h1 : (0 :: ks)[i]? = some ((0 :: ks)[i]'(by simpa using h)) := List.getElem?_eq_getElem _
  have h2 : (ks ++ [e])[i]? = some ((ks ++ [e])[i]'(by simpa using h)) := List.getElem?_eq_getElem _
  have h3 : ((0 :: ks : List Int) ++ [e]).getD i 0 = (0 :: ks)[i]'(by simpa using h) := by
   rw [List.getD_eq_getElem?_getD, List.getElem?_append_left (by simpa using h), h1]; rfl
  have h4 : ((0 :: ks : List Int) ++ [e]).getD (i + 1) 0 = (ks ++ [e])[i]'(by simpa using h) := by
   rw [List.getD_eq_getElem?_getD, List.cons_append, List.getElem?_cons_succ, h2]; rfl
  have h5 : (List.range (ks.length + 1))[i]? = some i := by simp [h]
  rw [h1, h2, h5]
  simp only [Option.map_some, pieceOf]
  rw [h3, h4]
 ·have h1 : (0 :: ks)[i]? = none := by simp; omega
  have h5 : (List.range (ks.length + 1))[i]? = none := by simp; omega
  rw [h1, h5]
  rfl
theorem ZcT (rows : List D) (more e : Int) (ks : List Int) : (Zaf rows more (0 :: ks ++ [e])).length = ks.length + 1 := by simp [Zaf]
theorem ZfX (rows : List D) (ks : List Int) (n : Nat) (e more : Int) (eE elt : E3) (M : Store) (hn : M[n]? = some (.lst (ks.map D.int))) (he : ∀ M, eE [some (.tup rows), some (.ref n)] M = .ok (.int e) M)
  (hel : ∀ a b M, elt [some (.tup rows), some (.ref n), some (.int a), some (.int b)] M = .ok (.tup (cutD rows (some a) (some (b + more)))) M) (lk : ks.length ≤ 5000) :
  (Zhf (Zgm (e2 Zu (ZaI (Za (eC (.int 0)) (Ze))) (Zb 1)) (e2 Zu (Zb 1) (ZaI (Za eE (Ze))))) 2 (ZeZ [2, 3]) [] elt) [some (.tup rows), some (.ref n)] M = .ok (.ref (M.length + 4)) (M ++ [.lst [.int 0], .lst ((0 :: ks).map D.int), .lst [.int e], .lst ((ks ++ [e]).map D.int), .lst (Zaf rows more (0 :: ks ++ [e]))]) := by
 have hnl := (List.getElem?_eq_some_iff.mp hn).1
 have z1 : ([D.int 0].length + (ks.map D.int).length ≤ SZ) := by simp; omega
 have z2 : ((ks.map D.int).length + [D.int e].length ≤ SZ) := by simp; omega
 have a1 : e2 Zu (ZaI (Za (eC (.int 0)) (Ze))) (Zb 1) [some (.tup rows), some (.ref n)] M = .ok (.ref (M.length + 1)) (M ++ [.lst [.int 0], .lst ((0 :: ks).map D.int)]) := by
  refine ZbM (a := .ref M.length) (b := .ref n) (M1 := M ++ [.lst [.int 0]]) (M2 := M ++ [.lst [.int 0]]) (by simp) rfl ?_
  simp only [Zu, ZaA, Zo hn, if_pos z1, alloc]
  simp
 have hn2 := Zo hn [.lst [.int 0], .lst ((0 :: ks).map D.int)]
 have a2 : e2 Zu (Zb 1) (ZaI (Za eE (Ze))) [some (.tup rows), some (.ref n)] (M ++ [.lst [.int 0], .lst ((0 :: ks).map D.int)]) = .ok (.ref (M.length + 3)) (M ++ [.lst [.int 0], .lst ((0 :: ks).map D.int), .lst [.int e], .lst ((ks ++ [e]).map D.int)]) := by
  refine ZbM (a := .ref n) (b := .ref (M.length + 2)) (M1 := M ++ [.lst [.int 0], .lst ((0 :: ks).map D.int)]) (M2 := M ++ [.lst [.int 0], .lst ((0 :: ks).map D.int), .lst [.int e]]) rfl (by simp [he]) ?_
  have g2 : (M ++ [MO.lst [.int 0], .lst ((0 :: ks).map D.int), .lst [.int e]])[M.length + 2]? = some (.lst [.int e]) := ZbO _ _ 2
  have g3 := Zo hn [.lst [.int 0], .lst ((0 :: ks).map D.int), .lst [.int e]]
  simp only [Zu, g2, g3, if_pos z2, alloc]
  simp
 generalize hM1 : M ++ [MO.lst [.int 0], .lst ((0 :: ks).map D.int), .lst [.int e], .lst ((ks ++ [e]).map D.int)] = M1 at a2
 have l1 : M1.length = M.length + 4 := by rw [← hM1]; simp
 have g1 : M1[M.length + 1]? = some (.lst ((0 :: ks).map D.int)) := by rw [← hM1]; exact ZbO _ _ 1
 have g3 : M1[M.length + 3]? = some (.lst ((ks ++ [e]).map D.int)) := by rw [← hM1]; exact ZbO _ _ 3
 have iz : Zgm (e2 Zu (ZaI (Za (eC (.int 0)) (Ze))) (Zb 1)) (e2 Zu (Zb 1) (ZaI (Za eE (Ze)))) [some (.tup rows), some (.ref n)] M = .ok ⟨Zc7 ((0 :: ks).map D.int) ((ks ++ [e]).map D.int), [(M.length + 1, (0 :: ks).map D.int), (M.length + 3, (ks ++ [e]).map D.int)]⟩ M1 := by
  generalize e2 Zu (ZaI (Za (eC (.int 0)) (Ze))) (Zb 1) = E1 at a1
  generalize e2 Zu (Zb 1) (ZaI (Za eE (Ze))) = E2 at a2
  simp only [Zgm, a1, R3.bind, a2, g1, g3]
 have lp := ZdR (lk := [(M.length + 1, (0 :: ks).map D.int), (M.length + 3, (ks ++ [e]).map D.int)]) (g := ZeZ [2, 3]) (elt := elt) (n := M1.length) (M := M1) (I := fun env => ∃ x2 x3, env = [some (.tup rows), some (.ref n), x2, x3]) (hf := pieceOf rows more)
  (Zc7 ((0 :: ks).map D.int) ((ks ++ [e]).map D.int)) [] [some (.tup rows), some (.ref n), none, none] ⟨none, none, rfl⟩
  (fun d hd env ⟨x2, x3, he'⟩ => by
   subst he'
   obtain ⟨i, hi, ei⟩ := List.mem_iff_getElem.mp hd
   have q := Zdc ((0 :: ks).map D.int) ((ks ++ [e]).map D.int) i
   rw [List.getElem?_eq_getElem hi, ei, List.getElem?_map, List.getElem?_map] at q
   cases h1 : (0 :: ks)[i]? with
   | none => rw [h1] at q; cases q
   | some a =>
    cases h2 : (ks ++ [e])[i]? with
    | none => rw [h1, h2] at q; cases q
    | some b =>
     rw [h1, h2] at q
     simp only [Option.map_some, Option.some.injEq] at q
     subst q
     exact ⟨[some (.tup rows), some (.ref n), some (.int a), some (.int b)], rfl, ⟨_, _, rfl⟩, fun x => hel a b _⟩)
  rfl (fun x => by simp only [Zb7, List.all_cons, List.all_nil, Zo g1, Zo g3, decide_true, Bool.and_self]) (by rw [Zd2]; simp; omega)
 unfold Zhf
 rw [iz]
 simp only [R3.bind]
 refine Eq.trans lp ?_
 rw [ZfJ, ← hM1]
 simp
theorem Zdj (rows : List D) (ks : List Int) (n : Nat) (M : Store) (hn : M[n]? = some (.lst (ks.map D.int))) (h : ks.Pairwise (· < ·)) (hb : ∀ k ∈ ks, 1 ≤ k ∧ k < (rows.length : Int) - 1) (lk : ks.length ≤ 5000) :
  ∃ G, ZbG [.tup rows, .ref n] M = .ok (.ref (M.length + 4)) (M ++ G) ∧ (M ++ G)[M.length + 4]? = some (.lst (Zaf rows 1 (0 :: ks ++ [(rows.length : Int) - 1]))) := by
 have rf := refuse_eq ks n 1 ((rows.length : Int) - 2) M hn (List.pairwise_cons.mpr ⟨fun k hk => by have := hb k hk; omega, h.imp fun h => by omega⟩) (fun k hk => by have := hb k hk; omega)
 have cz := ZfX rows ks n ((rows.length : Int) - 1) 1 (e2 ZbL (Zah ZaC (Za (Zb 0) (Ze))) (eC (.int 1))) (eSl (Zb 0) (Zaz (Zb 2)) (Zaz (e2 Zu (Zb 3) (eC (.int 1))))) M hn (fun M => rfl) (fun a b M => rfl) lk
 refine ⟨[.lst [.int 0], .lst ((0 :: ks).map D.int), .lst [.int ((rows.length : Int) - 1)], .lst ((ks ++ [(rows.length : Int) - 1]).map D.int), .lst (Zaf rows 1 (0 :: ks ++ [(rows.length : Int) - 1]))], ?_, ZbO _ _ 4⟩
 refine (Zcd (env := [some (.tup rows), some (.ref n)]) ((Zy (Zbn (d := .non) (M' := M) (Zg5 rfl rfl (c := .int ((rows.length : Int) - 2)) (M3 := M) rfl rf))).trans (Zbm cz))).trans ?_
 simp [ZbB, below]
theorem ZdC (rows : List D) (ks : List Int) (n : Nat) (M : Store) (hn : M[n]? = some (.lst (ks.map D.int))) (h : ks.Pairwise (· ≤ ·)) (hb : ∀ k ∈ ks, 0 ≤ k ∧ k < (rows.length : Int) + 1) (lk : ks.length ≤ 5000) :
  ∃ G, ZbZ [.tup rows, .ref n] M = .ok (.ref (M.length + 4)) (M ++ G) ∧ (M ++ G)[M.length + 4]? = some (.lst (Zaf rows 0 (0 :: ks ++ [(rows.length : Int)]))) := by
 have rf := refuse_eq ks n 0 (rows.length : Int) M hn (List.pairwise_cons.mpr ⟨fun k hk => by have := hb k hk; omega, h.imp fun h => by omega⟩) (fun k hk => by have := hb k hk; omega)
 have cz := ZfX rows ks n (rows.length : Int) 0 (Zah ZaC (Za (Zb 0) (Ze))) (eSl (Zb 0) (Zaz (Zb 2)) (Zaz (Zb 3))) M hn (fun M => rfl) (fun a b M => by rw [Int.add_zero]; rfl) lk
 refine ⟨[.lst [.int 0], .lst ((0 :: ks).map D.int), .lst [.int (rows.length : Int)], .lst ((ks ++ [(rows.length : Int)]).map D.int), .lst (Zaf rows 0 (0 :: ks ++ [(rows.length : Int)]))], ?_, ZbO _ _ 4⟩
 refine (Zcd (env := [some (.tup rows), some (.ref n)]) ((Zy (Zbn (d := .non) (M' := M) (Zg5 rfl rfl (c := .int (rows.length : Int)) (M3 := M) rfl rf))).trans (Zbm cz))).trans ?_
 simp [ZbB, below]
theorem Zep (rows : List D) (ks : List Int) (n : Nat) (e more : Int) (eE : E3) (hi : EO3) (M : Store) (hn : M[n]? = some (.lst (ks.map D.int))) (he : ∀ M, eE [some (.tup rows), some (.ref n), none] M = .ok (.int e) M)
  (hel : ∀ (k : Nat) (b : Int) M, (e2 Zz (Zb 2) (e2 Zu (Zb 3) (eC (.int 1)))) [some (.tup rows), some (.ref n), some (.ref (M.length + 3)), some (.int (0 + (k : Int)))] M = .ok (.int b) M → True) (lk : ks.length ≤ 5000)
  (hhi : ∀ (m k : Nat) (b : Int) M', (e2 Zz (Zb 2) (e2 Zu (Zb 3) (eC (.int 1)))) [some (.tup rows), some (.ref n), some (.ref m), some (.int (0 + (k : Int)))] M' = .ok (.int b) M' → hi [some (.tup rows), some (.ref n), some (.ref m), some (.int (0 + (k : Int)))] M' = .ok (some (b + more)) M') :
  ∃ G, mkF 2 3 (Zw (Zat 2 (e2 Zu (e2 Zu (ZaI (Za (eC (.int 0)) (Ze))) (Zb 1)) (ZaI (Za eE (Ze))))) (ZaG (eLC (Za2 (e2 Zu (Zah ZaC (Za (Zb 1) (Ze))) (eC (.int 1)))) 1 (Zb1 3) [] (Zah Zbe (Za (eSl (Zb 0) (Zaz (e2 Zz (Zb 2) (Zb 3))) hi) (Ze)))))) [.tup rows, .ref n] M = .ok (.ref (M.length + 4)) (M ++ G) ∧ (M ++ G)[M.length + 4]? = some (.lst (Zaf rows more (0 :: ks ++ [e]))) := by
 have z1 : ([D.int 0].length + (ks.map D.int).length ≤ SZ) := by simp; omega
 have z2 : (((0 :: ks).map D.int).length + [D.int e].length ≤ SZ) := by simp; omega
 have a1 : e2 Zu (ZaI (Za (eC (.int 0)) (Ze))) (Zb 1) [some (.tup rows), some (.ref n), none] M = .ok (.ref (M.length + 1)) (M ++ [.lst [.int 0], .lst ((0 :: ks).map D.int)]) := by
  refine ZbM (a := .ref M.length) (b := .ref n) (M1 := M ++ [.lst [.int 0]]) (M2 := M ++ [.lst [.int 0]]) (by simp) rfl ?_
  simp only [Zu, ZaA, Zo hn, if_pos z1, alloc]
  simp
 have a2 : e2 Zu (e2 Zu (ZaI (Za (eC (.int 0)) (Ze))) (Zb 1)) (ZaI (Za eE (Ze))) [some (.tup rows), some (.ref n), none] M = .ok (.ref (M.length + 3)) (M ++ [.lst [.int 0], .lst ((0 :: ks).map D.int), .lst [.int e], .lst ((0 :: ks ++ [e]).map D.int)]) := by
  refine ZbM a1 (b := .ref (M.length + 2)) (M2 := M ++ [.lst [.int 0], .lst ((0 :: ks).map D.int), .lst [.int e]]) (by simp [he]) ?_
  have g1 : (M ++ [MO.lst [.int 0], .lst ((0 :: ks).map D.int), .lst [.int e]])[M.length + 1]? = some (.lst ((0 :: ks).map D.int)) := ZbO _ _ 1
  have g2 : (M ++ [MO.lst [.int 0], .lst ((0 :: ks).map D.int), .lst [.int e]])[M.length + 2]? = some (.lst [.int e]) := ZbO _ _ 2
  simp only [Zu, g1, g2, if_pos z2, alloc]
  simp
 generalize hM1 : M ++ [MO.lst [.int 0], .lst ((0 :: ks).map D.int), .lst [.int e], .lst ((0 :: ks ++ [e]).map D.int)] = M1 at a2
 have l1 : M1.length = M.length + 4 := by rw [← hM1]; simp
 have hn1 : M1[n]? = some (.lst (ks.map D.int)) := by rw [← hM1]; exact Zo hn _
 have g3 : M1[M.length + 3]? = some (.lst ((0 :: ks ++ [e]).map D.int)) := by rw [← hM1]; exact ZbO _ _ 3
 have b : ((ks.length : Int) + 1) ≤ 1000000 ∧ -1000000 ≤ ((ks.length : Int) + 1) := by omega
 have ir : Za2 (e2 Zu (Zah ZaC (Za (Zb 1) (Ze))) (eC (.int 1))) [some (.tup rows), some (.ref n), some (.ref (M.length + 3))] M1 = .ok ⟨(List.range (ks.length + 1)).map fun (k : Nat) => D.int (0 + (k : Int)), none⟩ M1 := by
  have t : ((ks.length : Int) + 1).toNat = ks.length + 1 := by omega
  simp [hn1, b, t, Zb2]
 have lc := Zjl (α := Nat) (enc := fun (k : Nat) => D.int (0 + (k : Int))) (h := fun k => D.tup (cutD rows (some ((0 :: ks ++ [e]).getD k 0)) (some ((0 :: ks ++ [e]).getD (k + 1) 0 + more)))) (own := 1) (g := Zb1 3) (elt := (Zah Zbe (Za (eSl (Zb 0) (Zaz (e2 Zz (Zb 2) (Zb 3))) hi) (Ze)))) (as := List.range (ks.length + 1)) (fun env => ∃ x3, env = [some (.tup rows), some (.ref n), some (.ref (M.length + 3)), x3]) ir (fun m h => by cases h) ⟨none, rfl⟩
  (fun k hk env ⟨x3, he'⟩ => by
   subst he'
   refine ⟨_, rfl, ⟨_, rfl⟩, fun x => ?_⟩
   have lk' : k < ks.length + 1 := by simpa using hk
   have g4 := Zo g3 [.lst x]
   have h1 : ((0 :: ks ++ [e]).map D.int)[k]? = some (.int ((0 :: ks ++ [e]).getD k 0)) := by
    rw [List.getElem?_map, List.getD_eq_getElem?_getD, List.getElem?_eq_getElem (by simp; omega)]; rfl
   have h2 : ((0 :: ks ++ [e]).map D.int)[k + 1]? = some (.int ((0 :: ks ++ [e]).getD (k + 1) 0)) := by
    rw [List.getElem?_map, List.getD_eq_getElem?_getD, List.getElem?_eq_getElem (by simp; omega)]; rfl
   have q1 : Za6 ((0 :: ks ++ [e]).map D.int) (0 + (k : Int)) = some (.int ((0 :: ks ++ [e]).getD k 0)) := by rw [Int.zero_add, Zcr, h1]
   have q2 : Za6 ((0 :: ks ++ [e]).map D.int) (0 + (k : Int) + 1) = some (.int ((0 :: ks ++ [e]).getD (k + 1) 0)) := by
    rw [Int.zero_add, show ((k : Int) + 1) = ((k + 1 : Nat) : Int) by omega, Zcr, h2]
   have q3 := hhi (M.length + 3) k ((0 :: ks ++ [e]).getD (k + 1) 0) (M1 ++ [.lst x]) (by simp only [e2, Zb, eC, List.getElem?_cons_zero, List.getElem?_cons_succ, R3.bind, Zu, Zz, g4, q2])
   refine Zek (a := .tup (cutD rows (some ((0 :: ks ++ [e]).getD k 0)) (some ((0 :: ks ++ [e]).getD (k + 1) 0 + more)))) (M1 := M1 ++ [.lst x]) ?_ rfl
   show eSl _ _ _ [some (.tup rows), some (.ref n), some (.ref (M.length + 3)), some (.int (0 + (k : Int)))] _ = _
   simp only [eSl, Zb, Zaz, e2, List.getElem?_cons_zero, List.getElem?_cons_succ, R3.bind, Zz, g4, q1, q3, Zfd])
  (by simp; omega)
 refine ⟨[.lst [.int 0], .lst ((0 :: ks).map D.int), .lst [.int e], .lst ((0 :: ks ++ [e]).map D.int), .lst (Zaf rows more (0 :: ks ++ [e]))], ?_, ZbO _ _ 4⟩
 refine (Zcd (env := [some (.tup rows), some (.ref n), none]) ((Zy (Za3 a2)).trans (Zbm lc))).trans ?_
 have pe : ((List.range (ks.length + 1)).map fun k => D.tup (cutD rows (some ((0 :: ks ++ [e]).getD k 0)) (some ((0 :: ks ++ [e]).getD (k + 1) 0 + more)))) = Zaf rows more (0 :: ks ++ [e]) := by
  unfold Zaf
  rw [show ((0 :: ks : List Int) ++ [e]).length - 1 = ks.length + 1 by simp]
 rw [pe, l1, ← hM1]
 simp [ZbB, below]
theorem ZdA (rows : List D) (ks : List Int) (n : Nat) (M : Store) (hn : M[n]? = some (.lst (ks.map D.int))) (lk : ks.length ≤ 5000) : ∃ G, Za0 [.tup rows, .ref n] M = .ok (.ref (M.length + 4)) (M ++ G) ∧ (M ++ G)[M.length + 4]? = some (.lst (Zaf rows 1 (0 :: ks ++ [(rows.length : Int) - 1]))) :=
 Zep rows ks n ((rows.length : Int) - 1) 1 _ (Zaz (e2 Zu (e2 Zz (Zb 2) (e2 Zu (Zb 3) (eC (.int 1)))) (eC (.int 1)))) M hn (fun M => rfl) (fun _ _ _ _ => trivial) lk (fun m k b M' h => by
  generalize (e2 Zz (Zb 2) (e2 Zu (Zb 3) (eC (.int 1)))) = E at h
  simp only [Zaz, e2, h, R3.bind, eC, Zu])
theorem ZcD (rows : List D) (ks : List Int) (n : Nat) (M : Store) (hn : M[n]? = some (.lst (ks.map D.int))) (lk : ks.length ≤ 5000) : ∃ G, ZaR [.tup rows, .ref n] M = .ok (.ref (M.length + 4)) (M ++ G) ∧ (M ++ G)[M.length + 4]? = some (.lst (Zaf rows 0 (0 :: ks ++ [(rows.length : Int)]))) :=
 Zep rows ks n (rows.length : Int) 0 _ (Zaz (e2 Zz (Zb 2) (e2 Zu (Zb 3) (eC (.int 1))))) M hn (fun M => rfl) (fun _ _ _ _ => trivial) lk (fun m k b M' h => by
  rw [Int.add_zero]
  generalize (e2 Zz (Zb 2) (e2 Zu (Zb 3) (eC (.int 1)))) = E at h
  simp only [Zaz, h, R3.bind])
theorem ZhJ {α : Type} (xs : List α) (a b : Nat) (hb : b ≤ xs.length) (ha : a ≤ b) : cutD xs (some (a : Int)) (some (b : Int)) = (xs.drop a).take (b - a) := by
 unfold cutD
 rw [ZdP, ZdP, Nat.min_eq_left hb, Nat.min_eq_left (Nat.le_trans ha hb)]
theorem Zif (d : D) (h : Zr 3 d = true) (ht : ∃ ds, d = .tup ds) (M : Store) : Zds d d M = .ok (.bl false) M := by
 obtain ⟨ds, rfl⟩ := ht
 have p : ds.all (Zr DEEP) = true := by
  simp only [Zr, List.all_eq_true] at h
  rw [List.all_eq_true]
  intro x hx
  have up : ∀ (n m : Nat) (d : D), n ≤ m → Zr n d = true → Zr m d = true := fun n => by
   induction n with
   | zero =>
    intro m d _ h
    cases d with
    | tup _ => simp [Zr] at h
    | scr _ => simp [Zr] at h
    | ref _ => simp [Zr] at h
    | _ => cases m <;> rfl
   | succ n ih =>
    intro m d hm h
    cases m with
    | zero => omega
    | succ m =>
     cases d with
     | tup ds =>
      simp only [Zr, List.all_eq_true] at h ⊢
      exact fun x hx => ih m x (by omega) (h x hx)
     | scr _ => simp [Zr] at h
     | ref _ => simp [Zr] at h
     | _ => rfl
  exact up 2 DEEP x (by decide) (h x hx)
 simp only [Zds, eqD, p, Bool.and_self, if_true, Zdu p, Bool.not_true]
theorem Zgp (rows : List D) (ks : List Int) (p : Nat) (M : Store) (hr : 0 < rows.length) (hl : rows.length ≤ 1000) (pl : ∀ r ∈ rows, Plain r) (h : ks.Pairwise (· < ·)) (hb : ∀ k ∈ ks, 1 ≤ k ∧ k < (rows.length : Int) - 1) (hp : M[p]? = some (.lst (Zaf rows 1 (0 :: ks ++ [(rows.length : Int) - 1])))) :
  Zbs [.ref p] M = .ok (.tup rows) M := by
 have lks : ks.length ≤ 1000 := by
  have : ∀ (l : List Int) (a : Int), 0 ≤ a → l.Pairwise (· < ·) → (∀ k ∈ l, a ≤ k ∧ k < (rows.length : Int)) → (l.length : Int) ≤ (rows.length : Int) - a ∨ l = [] := fun l => by
   induction l with
   | nil => intro a _ _ _; exact .inr rfl
   | cons x l ih =>
    intro a ha hp hb
    left
    have hx := hb x List.mem_cons_self
    have hp' := List.pairwise_cons.mp hp
    rcases ih (x + 1) (by omega) hp'.2 (fun k hk => ⟨by have := hp'.1 k hk; omega, (hb k (List.mem_cons_of_mem _ hk)).2⟩) with q | q
    ·simp only [List.length_cons]; omega
    ·subst q; simp; omega
  rcases this ks 0 (by omega) h (fun k hk => by have := hb k hk; omega) with q | q
  ·omega
  ·subst q; simp
 have ends : ∀ j : Nat, j ≤ ks.length + 1 → ∃ a : Nat, (0 :: ks ++ [(rows.length : Int) - 1]).getD j 0 = (a : Int) ∧ a ≤ rows.length - 1 ∧ (j = 0 → a = 0) ∧ (j = ks.length + 1 → a = rows.length - 1) ∧ (0 < j → j < ks.length + 1 → a < rows.length - 1) := fun j hj => by
  cases j with
  | zero => exact ⟨0, rfl, by omega, fun _ => rfl, fun h => by omega, fun h => by omega⟩
  | succ j =>
   have e0 : (0 :: ks ++ [(rows.length : Int) - 1]).getD (j + 1) 0 = (ks ++ [(rows.length : Int) - 1]).getD j 0 := by
    rw [List.getD_eq_getElem?_getD, List.getD_eq_getElem?_getD, List.cons_append, List.getElem?_cons_succ]
   rw [e0]
   by_cases c : j < ks.length
   ·have hg : (ks ++ [(rows.length : Int) - 1]).getD j 0 = ks[j] := by
     rw [List.getD_eq_getElem?_getD, List.getElem?_append_left c, List.getElem?_eq_getElem c]; rfl
    have := hb _ (List.getElem_mem c)
    rw [hg]
    generalize ks[j] = k at this
    exact ⟨k.toNat, by omega, by omega, fun h => by omega, fun h => by omega, fun _ _ => by omega⟩
   ·have hj' : j = ks.length := by omega
    subst hj'
    have hg : (ks ++ [(rows.length : Int) - 1]).getD ks.length 0 = (rows.length : Int) - 1 := by
     rw [List.getD_eq_getElem?_getD]; simp
    rw [hg]
    exact ⟨rows.length - 1, by omega, Nat.le_refl _, fun h => by omega, fun _ => rfl, fun _ h => by omega⟩
 have mono : ∀ (j a b : Nat), j ≤ ks.length → (0 :: ks ++ [(rows.length : Int) - 1]).getD j 0 = (a : Int) → (0 :: ks ++ [(rows.length : Int) - 1]).getD (j + 1) 0 = (b : Int) → a ≤ b := fun j a b hj ha hb' => by
  obtain ⟨a', ea, la, z0, _, _⟩ := ends j (by omega)
  obtain ⟨b', eb, lb, _, zl, zm⟩ := ends (j + 1) (by omega)
  have : a = a' := by rw [ha] at ea; omega
  subst this
  have : b = b' := by rw [hb'] at eb; omega
  subst this
  by_cases c0 : j = 0
  ·have := z0 c0; omega
  ·by_cases c1 : j = ks.length
   ·have := zl (by omega); omega
   ·obtain ⟨i, rfl⟩ : ∃ i, j = i + 1 := ⟨j - 1, by omega⟩
    have g1 : (0 :: ks ++ [(rows.length : Int) - 1]).getD (i + 1) 0 = ks[i] := by
     rw [List.getD_eq_getElem?_getD, List.cons_append, List.getElem?_cons_succ, List.getElem?_append_left (by omega), List.getElem?_eq_getElem (by omega)]; rfl
    have g2 : (0 :: ks ++ [(rows.length : Int) - 1]).getD (i + 1 + 1) 0 = ks[i + 1] := by
     rw [List.getD_eq_getElem?_getD, List.cons_append, List.getElem?_cons_succ, List.getElem?_append_left (by omega), List.getElem?_eq_getElem (by omega)]; rfl
    have := List.pairwise_iff_getElem.mp h i (i + 1) (by omega) (by omega) (by omega)
    rw [g1] at ha
    rw [g2] at hb'
    omega
 have pl0 := ZcT rows 1 ((rows.length : Int) - 1) ks
 obtain ⟨e', M', lp, x2, a, ha, rfl, rfl⟩ := Zcn (it := ⟨Zaf rows 1 (0 :: ks ++ [(rows.length : Int) - 1]), some p⟩) (g := Zb1 2)
  (body := (Zw (sIf (e2 ZaU (Zah ZaC (Za (Zb 2) (Ze))) (eC (.int 0))) (ZdI) (Zag)) (Zw (sIf (Zch (e2 ZfO (Zah ZaC (Za (Zb 1) (Ze))) (eC (.int 0))) (e2 Zds (e2 Zz (Zb 2) (eC (.int 0))) (e2 Zz (Zb 1) (e1 Zer (eC (.int 1)))))) (ZdI) (Zag)) (Zal (Zb0 tyL ZaQ (Zb 1) (Za (eIf (e2 ZaU (Zah ZaC (Za (Zb 1) (Ze))) (eC (.int 0))) (Zb 2) (eSl (Zb 2) (Zaz (eC (.int 1))) (ZcC))) (Ze)))))))
  (P := fun j env M' => ∃ (x2 : Option D) (a : Nat), (0 :: ks ++ [(rows.length : Int) - 1]).getD j 0 = (a : Int) ∧ env = [some (.ref p), some (.ref M.length), x2] ∧ M' = M ++ [.lst (rows.take (if j = 0 then 0 else a + 1))])
  (Zaf rows 1 (0 :: ks ++ [(rows.length : Int) - 1])) 0 [some (.ref p), some (.ref M.length), none] (M ++ [.lst []]) ⟨none, 0, rfl, rfl, by simp⟩
  (fun j env M' ⟨_, _, _, _, hm⟩ => by subst hm; simp only [locked, Zo hp, decide_true])
  (fun j dd hd env M' ⟨x2, a, ha, he, hm⟩ => by
   subst he hm
   rw [Nat.zero_add] at ha ⊢
   have jl : j < ks.length + 1 := by have := (List.getElem?_eq_some_iff.mp hd).1; omega
   obtain ⟨a', ea, la, z0, zl, zm⟩ := ends j (by omega)
   have : a = a' := by rw [ha] at ea; omega
   subst this
   obtain ⟨b, eb, lb, y0, yl, ym⟩ := ends (j + 1) (by omega)
   have ab := mono j a b (by omega) ha eb
   have hdd : dd = .tup ((rows.drop a).take (b + 1 - a)) := by
    unfold Zaf at hd
    rw [List.getElem?_map, show ((0 :: ks : List Int) ++ [(rows.length : Int) - 1]).length - 1 = ks.length + 1 by simp, List.getElem?_range jl] at hd
    simp only [Option.map_some, Option.some.injEq] at hd
    rw [← hd, ha, eb, show ((b : Int) + 1) = ((b + 1 : Nat) : Int) by omega, ZhJ rows a (b + 1) (by omega) (by omega)]
   subst hdd
   have lp : ((rows.drop a).take (b + 1 - a)).length = b + 1 - a := by rw [List.length_take, List.length_drop]; omega
   have p0 : ((rows.drop a).take (b + 1 - a))[0]? = rows[a]? := by rw [List.getElem?_take_of_lt (by omega), List.getElem?_drop, Nat.add_zero]
   have ra : rows[a]? = some rows[a] := by simp
   have pa := pl _ (List.getElem_mem (show a < rows.length by omega))
   generalize rows[a] = r at ra pa
   rw [ra] at p0
   have c1 : ¬ ((((rows.drop a).take (b + 1 - a)).length : Int) = 0) := by omega
   have dr : cutD ((rows.drop a).take (b + 1 - a)) (some 1) none = (rows.drop (a + 1)).take (b - a) := by
    rw [show (1 : Int) = ((1 : Nat) : Int) from rfl, Zhv, List.drop_take, List.drop_drop, show b + 1 - a - 1 = b - a by omega]
   have eSk : (sIf (e2 ZaU (Zah ZaC (Za (Zb 2) (Ze))) (eC (.int 0))) (ZdI) (Zag)) [some (.ref p), some (.ref M.length), some (.tup ((rows.drop a).take (b + 1 - a)))] (M ++ [.lst (rows.take (if j = 0 then 0 else a + 1))]) = .nx [some (.ref p), some (.ref M.length), some (.tup ((rows.drop a).take (b + 1 - a)))] (M ++ [.lst (rows.take (if j = 0 then 0 else a + 1))]) := ZaS (by
    generalize (rows.drop a).take (b + 1 - a) = pc at c1
    simp only [e2, Zah, Za, Ze, Zb, eC, List.getElem?_cons_zero, List.getElem?_cons_succ, R3.bind, ZaC, ZaU, eqD, c1, decide_false])
   have g0 : ∀ xs : List D, (M ++ [MO.lst xs])[M.length]? = some (.lst xs) := fun xs => ZaA _ _ _
   by_cases c0 : j = 0
   ·have za := z0 c0
    subst za
    rw [if_pos c0] at eSk ⊢
    refine ⟨[some (.ref p), some (.ref M.length), some (.tup ((rows.drop 0).take (b + 1 - 0)))], _, M ++ [.lst (rows.take (b + 1))], rfl, (Zy eSk).trans ((Zy (ZaS (M' := M ++ [.lst (rows.take 0)]) (Zfx (by simp)))).trans (Zbn (d := .non) ?_)), _, b, eb, rfl, by simp⟩
    have z : ([] : List D).length + (rows.take (b + 1)).length ≤ SZ := by simp; omega
    simp only [Nat.sub_zero, List.drop_zero, List.take_zero]
    have ei : (eIf (e2 ZaU (Zah ZaC (Za (Zb 1) (Ze))) (eC (.int 0))) (Zb 2) (eSl (Zb 2) (Zaz (eC (.int 1))) (ZcC))) [some (.ref p), some (.ref M.length), some (.tup (rows.take (b + 1)))] (M ++ [.lst []]) = .ok (.tup (rows.take (b + 1))) (M ++ [.lst []]) := Zj0 (by simp)
    generalize (eIf (e2 ZaU (Zah ZaC (Za (Zb 1) (Ze))) (eC (.int 0))) (Zb 2) (eSl (Zb 2) (Zaz (eC (.int 1))) (ZcC))) = E at ei
    simp only [Zb0, Zb, List.getElem?_cons_succ, List.getElem?_cons_zero, R3.bind, tyL, g0, if_true, Za, Ze, ei, ZaQ, if_pos z]
    simp
   ·rw [if_neg c0] at eSk ⊢
    have ls : (rows.take (a + 1)).length = a + 1 := by rw [List.length_take]; omega
    have lst : (rows.take (a + 1)).getLast? = some r := by
     rw [List.getLast?_eq_getElem?, ls, List.getElem?_take_of_lt (by omega), show a + 1 - 1 = a by omega, ra]
    have tt : rows.take (a + 1) ++ (rows.drop (a + 1)).take (b - a) = rows.take (b + 1) := by
     rw [show b + 1 = (a + 1) + (b - a) by omega]
     exact List.take_add.symm
    generalize (rows.drop a).take (b + 1 - a) = pc at *
    generalize (rows.drop (a + 1)).take (b - a) = qc at *
    generalize rows.take (a + 1) = sc at *
    have ne := Zif r pa.2.2.1 pa.1 (M ++ [.lst sc])
    have sk : (Zch (e2 ZfO (Zah ZaC (Za (Zb 1) (Ze))) (eC (.int 0))) (e2 Zds (e2 Zz (Zb 2) (eC (.int 0))) (e2 Zz (Zb 1) (e1 Zer (eC (.int 1)))))) [some (.ref p), some (.ref M.length), some (.tup pc)] (M ++ [.lst sc]) = .ok (.bl false) (M ++ [.lst sc]) := by
     rw [Zdr (M1 := M ++ [.lst sc]) (by simp [ls])]
     refine ZbM (a := r) (b := r) (M1 := M ++ [.lst sc]) (M2 := M ++ [.lst sc]) (by simp [p0]) ?_ ne
     have n1 : Za6 sc (-1) = some r := by rw [Zgj]; exact lst
     simp only [e2, e1, Zb, eC, Zer, List.getElem?_cons_succ, List.getElem?_cons_zero, R3.bind, Zz, g0, n1]
    refine ⟨[some (.ref p), some (.ref M.length), some (.tup pc)], _, M ++ [.lst (rows.take (b + 1))], rfl, (Zy eSk).trans ((Zy (ZaS sk)).trans (Zbn (d := .non) ?_)), _, b, eb, rfl, by simp⟩
    have z : sc.length + qc.length ≤ SZ := by
     have := congrArg List.length tt
     rw [List.length_append, List.length_take] at this
     rw [SZ]; omega
    have ei : (eIf (e2 ZaU (Zah ZaC (Za (Zb 1) (Ze))) (eC (.int 0))) (Zb 2) (eSl (Zb 2) (Zaz (eC (.int 1))) (ZcC))) [some (.ref p), some (.ref M.length), some (.tup pc)] (M ++ [.lst sc]) = .ok (.tup qc) (M ++ [.lst sc]) := (ZkB (M1 := M ++ [.lst sc]) (by simp [ls]; omega)).trans (by simp only [eSl, Zb, Zaz, ZcC, eC, List.getElem?_cons_succ, List.getElem?_cons_zero, R3.bind, Zfd, dr])
    generalize (eIf (e2 ZaU (Zah ZaC (Za (Zb 1) (Ze))) (eC (.int 0))) (Zb 2) (eSl (Zb 2) (Zaz (eC (.int 1))) (ZcC))) = E at ei
    simp only [Zb0, Zb, List.getElem?_cons_succ, List.getElem?_cons_zero, R3.bind, tyL, g0, if_true, Za, Ze, ei, ZaQ, if_pos z, tt]
    simp)
 rw [Nat.zero_add, pl0] at ha lp
 rw [if_neg (by omega)] at lp
 obtain ⟨a', ea, _, _, zl, _⟩ := ends (ks.length + 1) (Nat.le_refl _)
 have : a = rows.length - 1 := by rw [ha] at ea; have := zl rfl; omega
 subst this
 rw [List.take_of_length_le (show rows.length ≤ rows.length - 1 + 1 by omega)] at lp
 have bl : below M.length (.tup rows) = true := by
  have : ∀ l : List D, (∀ r ∈ l, Plain r) → belowL M.length l = true := fun l => by
   induction l with
   | nil => intro _; rfl
   | cons x l ih => intro h; simp only [belowL, (h x List.mem_cons_self).2.2.2 M.length, ih fun y hy => h y (List.mem_cons_of_mem _ hy), Bool.and_self]
  simp only [below, this rows pl]
 refine Rt.pure (G := [.lst rows]) (env := [some (.ref p), none, none]) ?_ bl
 refine (Zy (ZaS (M' := M) ?_)).trans ((Zy (Za3 (d := .ref M.length) (M' := M ++ [.lst []]) (by simp))).trans ((Zy ((Zcu (it := ⟨Zaf rows 1 (0 :: ks ++ [(rows.length : Int) - 1]), some p⟩) (M' := M ++ [.lst []]) (by simp only [Zfh, Zb, List.getElem?_cons_zero, R3.bind, Zo hp])).trans lp)).trans (Zbm (Zek (a := .ref M.length) (M1 := M ++ [.lst rows]) rfl (by simp)))))
 have n0 : ¬ (((ks.length + 1 : Nat) : Int) = 0) := by omega
 simp only [e2, Zah, Za, Ze, Zb, eC, List.getElem?_cons_zero, R3.bind, ZaC, hp, ZaU, eqD, pl0, n0, decide_false]
theorem ZdX : ∀ (n : Nat) (d : D), ZaM n d = true → ZaM (n + 1) d = true := fun n => by
 induction n with
 | zero =>
  intro d h
  cases d <;> simp [ZaM] at h ⊢
 | succ n ih =>
  intro d h
  cases d with
  | tup ds =>
   simp only [ZaM, Bool.and_eq_true, List.all_eq_true] at h ⊢
   exact ⟨h.1, fun x hx => ih x (h.2 x hx)⟩
  | int _ => rfl
  | str _ => rfl
  | _ => simp [ZaM] at h
theorem Zdd {rows : List D} (hl : rows.length ≤ 1000) (pl : ∀ r ∈ rows, Plain r) (more : Int) (ends : List Int) : ∀ d ∈ Zaf rows more ends, ZaM 5 d = true := fun d hd => by
 obtain ⟨k, _, rfl⟩ := List.mem_map.mp hd
 refine ZdX 4 _ ?_
 have lc : ∀ (a b : Option Int), (cutD rows a b).length ≤ 1000 := fun a b => by
  unfold cutD
  simp only [List.length_take, List.length_drop]; omega
 simp only [ZaM, Bool.and_eq_true, decide_eq_true_eq, List.all_eq_true]
 refine ⟨lc _ _, fun x hx => (pl x ?_).2.1⟩
 unfold cutD at hx
 exact List.mem_of_mem_drop (List.mem_of_mem_take hx)
theorem ZfB {rows : List D} (hl : rows.length ≤ 1000) (pl : ∀ r ∈ rows, Plain r) : ZaM 6 (.tup rows) = true := by
 refine ZdX 5 _ (ZdX 4 _ ?_)
 simp only [ZaM, Bool.and_eq_true, decide_eq_true_eq, List.all_eq_true]
 exact ⟨hl, fun x hx => (pl x hx).2.1⟩
theorem Zh1 (ns : List Int) (hns : ns.length ≤ 63) (v : Int) (env : Zaa) (h0 : env[0]? = some (some (.scr (ns.map D.int)))) (h2 : env[2]? = some (some (.int v))) (M : Store) : ∃ (many : Nat) (G : Store), many ≤ 60 ∧
  (e2 Zay (Zah ZeY (Za (eC (.int 0)) (Za (e2 ZbL (Zah ZaC (Za (eSl (Zb 0) (ZcC) (Zaz (eC (.int 403)))) (Ze))) (eC (.int 3))) (Ze)))) (e2 Zz (ZaI (Za (eC (.int 1)) (Za (eC (.int 2)) (Ze)))) (e2 Zab (Zb 2) (eC (.int 2))))) env M = .ok (.int (many : Int)) (M ++ G) := by
 have ca : cutD (ns.map D.int) none (some 403) = ns.map D.int := by
  have := Zgi (ns.map D.int) 403 (by rw [List.length_map]; omega)
  exact this
 have e1 : (Zah ZeY (Za (eC (.int 0)) (Za (e2 ZbL (Zah ZaC (Za (eSl (Zb 0) (ZcC) (Zaz (eC (.int 403)))) (Ze))) (eC (.int 3))) (Ze)))) env M = .ok (.int ((ns.length - 3 : Nat) : Int)) (M ++ [.lst (ns.map D.int)]) := by
  simp [h0, ca]
  split <;> omega
 obtain ⟨a, ha, la⟩ := ZcM v 2 (by omega)
 have ha' : v % 2 = (a : Int) := ha
 have e2' : (e2 Zz (ZaI (Za (eC (.int 1)) (Za (eC (.int 2)) (Ze)))) (e2 Zab (Zb 2) (eC (.int 2)))) env (M ++ [.lst (ns.map D.int)]) = .ok (.int ((a : Int) + 1)) (M ++ [.lst (ns.map D.int), .lst [.int 1, .int 2]]) := by
  have : a = 0 ∨ a = 1 := by omega
  rcases this with rfl | rfl
  ·simp [h2, ha']
  ·simp [h2, ha']
 refine ⟨(ns.length - 3) / (a + 1), [.lst (ns.map D.int), .lst [.int 1, .int 2]], Nat.le_trans (Nat.div_le_self _ _) (by omega), ZbM e1 e2' ?_⟩
 have b : (0 : Int) < (a : Int) + 1 ∧ (a : Int) + 1 < 1073741824 := by omega
 simp only [Zay, if_pos b]
 rw [Int.natCast_ediv]
 rfl
theorem law_holds : ∀ ns : List Int, ns.length ≤ 63 → ∃ M', Zf6 [.scr (ns.map D.int)] [] = .ok (.bl true) M' := by
 intro ns hns
 have ca : cutD (ns.map D.int) none (some 403) = ns.map D.int := Zgi (ns.map D.int) 403 (by rw [List.length_map]; omega)
 refine Rt.law (env := [some (.scr (ns.map D.int)), none, none, none, none, none, none, none, none, none]) ?_
 unfold Zhw
 have K0 : Zbb ns 0 1 0 [.lst (ns.map D.int), .lst [.ref 0, .int 0]] := ⟨rfl, rfl, by decide⟩
 refine Rt.set (d := .ref 1) (M' := [.lst (ns.map D.int), .lst [.ref 0, .int 0]]) (by simp [ca]) ?_
 obtain ⟨v, M1, hv, K1, kp1, l1⟩ := K0.draw (by omega)
 refine Rt.set (d := .int v) (M' := M1) (Zcx rfl hv) ?_
 obtain ⟨many, G1, lm, hm⟩ := Zh1 ns hns v [some (.scr (ns.map D.int)), some (.ref 1), some (.int v), none, none, none, none, none, none, none] rfl rfl M1
 refine Rt.set hm ?_
 have K2 := K1.app G1
 generalize M1 ++ G1 = M2 at K2
 obtain ⟨rows, n4, M3, h4, g4, lg4, lr, pl, K3, kp3⟩ := ZeO ns 0 1 many 1 M2 K2 (by omega) (by omega)
 refine Rt.set (d := .tup rows) (M' := M3) (Zek (ZaY rfl rfl h4) (by simp [g4])) ?_
 obtain ⟨urows, n5, M4, h5, g5, lg5, lu, pu, K4, kp4⟩ := Zfg ns 0 1 many (1 + many) M3 K3 (by omega) (by omega)
 refine Rt.set (d := .tup urows) (M' := M4) (Zek (ZaY rfl rfl h5) (by simp [g5])) ?_
 obtain ⟨ks, n6, a6, M5, h6, g6, lg6, pk, bk, lk, la6, K5, kp5⟩ := Zgc ns 0 1 1 ((many : Int) - 1) (v / 2 % 3) (1 + many + many) M4 K4 (by omega) (by omega) (by omega) (by omega) (by omega)
 refine Rt.set (d := .ref n6) (M' := M5) (Zhe (b := .int 1) (c := .int ((many : Int) - 1)) (d := .int (v / 2 % 3)) rfl rfl rfl (by simp) h6) ?_
 have n6d : n6 ≠ 1 := by have := K4.lt; omega
 have n6c : n6 ≠ 0 := by have := K4.lt; omega
 obtain ⟨G7, h7, g7⟩ := ZdA rows ks n6 M5 g6 (by omega)
 refine Rt.set (d := .ref (M5.length + 4)) (M' := M5 ++ G7) (ZaY rfl rfl h7) ?_
 generalize hP : Zaf rows 1 (0 :: ks ++ [(rows.length : Int) - 1]) = P at g7
 have pP : ∀ d ∈ P, ZaM 5 d = true := by rw [← hP]; exact Zdd (by omega) pl _ _
 have lP : P.length ≤ 10000 := by rw [← hP, ZcT]; omega
 have K6 := K5.app G7
 have g6' := Zo g6 G7
 have l6 : n6 < M5.length := (List.getElem?_eq_some_iff.mp g6).1
 have lK := K5.lt
 have st8 : ∃ (n7 : Nat) (G8 : Store), (sIf (e2 ZaU (Zb 3) (eC (.int 0))) (Zat 7 (ZaI (Za (Zed (Ze)) (Ze)))) (Zag)) [some (.scr (ns.map D.int)), some (.ref 1), some (.int v), some (.int (many : Int)), some (.tup rows), some (.tup urows), some (.ref n6), some (.ref (M5.length + 4)), none, none] (M5 ++ G7) = .nx [some (.scr (ns.map D.int)), some (.ref 1), some (.int v), some (.int (many : Int)), some (.tup rows), some (.tup urows), some (.ref n6), some (.ref n7), none, none] (M5 ++ G7 ++ G8) ∧ (M5 ++ G7 ++ G8)[n7]? = some (.lst P) ∧ M5.length ≤ n7 := by
  by_cases c : many = 0
  ·have hr : rows = [] := List.length_eq_zero_iff.mp (by omega)
   have hk : ks = [] := by
    cases ks with
    | nil => rfl
    | cons k ks => have := bk k List.mem_cons_self; omega
   refine ⟨(M5 ++ G7).length, [.lst [.tup []]], (Zfr (M' := M5 ++ G7) (by simp [c])).trans (Za3 (d := .ref (M5 ++ G7).length) (by simp)), ?_, by simp⟩
   rw [ZaA, ← hP, hr, hk]
   simp [Zaf, cutD, sIx]
  ·exact ⟨M5.length + 4, [], (ZaS (M' := M5 ++ G7) (by simp [c])).trans (by simp), by rw [List.append_nil]; exact g7, by omega⟩
 obtain ⟨n7, G8, h8, g8, ln7⟩ := st8
 refine Rt.step h8 ?_
 have K7 := K6.app G8
 have g6'' := Zo g6' G8
 generalize M5 ++ G7 ++ G8 = M6 at g8 K7 g6''
 refine Rt.set (d := .ref M6.length) (M' := M6 ++ [.lst (ks.map D.int)]) (by simp [g6'']) ?_
 have K8 := K7.app [.lst (ks.map D.int)]
 have q6 := Zo g6'' [.lst (ks.map D.int)]
 have q7 := Zo g8 [.lst (ks.map D.int)]
 have q8 : (M6 ++ [MO.lst (ks.map D.int)])[M6.length]? = some (.lst (ks.map D.int)) := ZaA _ _ _
 have ln8 : n6 < M6.length := (List.getElem?_eq_some_iff.mp g6'').1
 have ln7' : n7 < M6.length := (List.getElem?_eq_some_iff.mp g8).1
 have n8d : M6.length ≠ 1 ∧ M6.length ≠ 0 := by have := K7.lt; omega
 generalize M6.length = n8 at *
 generalize M6 ++ [MO.lst (ks.map D.int)] = M7 at *
 have bk' : ∀ k ∈ ks, 1 ≤ k ∧ k < (rows.length : Int) - 1 := fun k hk => by have := bk k hk; omega
 obtain ⟨G9, h9, g9⟩ := Zdj rows ks n8 M7 q8 pk bk' (by omega)
 rw [hP] at g9
 refine Rt.set (d := .ref (M7.length + 4)) (M' := M7 ++ G9) (ZaY rfl rfl h9) ?_
 have l6' : n6 < M7.length := (List.getElem?_eq_some_iff.mp q6).1
 have l7' : n7 < M7.length := (List.getElem?_eq_some_iff.mp q7).1
 have l8' : n8 < M7.length := (List.getElem?_eq_some_iff.mp q8).1
 have K9 := K8.app G9
 have q6 := Zo q6 G9
 have q7 := Zo q7 G9
 have q8 := Zo q8 G9
 have lM : (M7 ++ G9).length > M7.length + 4 := (List.getElem?_eq_some_iff.mp g9).1
 have n9d : M7.length + 4 ≠ 1 ∧ M7.length + 4 ≠ 0 := by omega
 generalize hn9 : M7.length + 4 = n9 at *
 have ne6 : n9 ≠ n6 := by omega
 have ne7 : n9 ≠ n7 := by omega
 have ne8 : n9 ≠ n8 := by omega
 generalize M7 ++ G9 = M8 at *
 have pi := Zej ks
 have sm : ∀ (M : Store) (a b : Nat), M[a]? = some (.lst P) → M[b]? = some (.lst P) → Zau [.ref a, .ref b] M = .ok (.bl true) M := fun M a b h1 h2 => Zfk 5 P a b M h1 h2 pP lP
 refine Rt.skip (M' := M8) ?_ ?_
 ·rw [Zd5 (M1 := M8) (Zel (ZaY rfl rfl (sm M8 _ _ g9 q7)) rfl)]
  exact ZbM rfl rfl (ZeS q8 q6 pi)
 refine Rt.skip (M' := M8) ?_ ?_
 ·by_cases c : 0 < many
  ·have jo := Zgp rows ks n9 M8 (by omega) (by omega) pl pk bk' (by rw [hP]; exact g9)
   rw [Zdr (M1 := M8) (by simp [c])]
   exact Zel (ZaY (Zcx rfl jo) rfl (Zgh 6 _ M8 (ZfB (by omega) pl))) rfl
  ·exact Zfx (by simp [c])
 refine Rt.skip (M' := M8) (Zel (ZaY rfl rfl (sm M8 _ _ g9 q7)) rfl) ?_
 refine Rt.expr (d := .non) (M' := M8.set n9 (.lst [])) (by simp [g9]) ?_
 have K10 := K9.put n9d.1 n9d.2 (.lst [])
 have r6 : (M8.set n9 (.lst []))[n6]? = some (.lst (ks.map D.int)) := by rw [List.getElem?_set_ne ne6]; exact q6
 have r7 : (M8.set n9 (.lst []))[n7]? = some (.lst P) := by rw [List.getElem?_set_ne ne7]; exact q7
 have r8 : (M8.set n9 (.lst []))[n8]? = some (.lst (ks.map D.int)) := by rw [List.getElem?_set_ne ne8]; exact q8
 generalize M8.set n9 (.lst []) = M9 at *
 obtain ⟨G10, h10, g10⟩ := Zdj rows ks n8 M9 r8 pk bk' (by omega)
 rw [hP] at g10
 refine Rt.skip (M' := M9 ++ G10) ?_ ?_
 ·rw [Zd5 (M1 := M9) (ZbM rfl rfl (ZeS r8 r6 pi))]
  exact Zel (ZaY (ZaY rfl rfl h10) rfl (sm _ _ _ g10 (Zo r7 _))) rfl
 have K11 := K10.app G10
 generalize M9 ++ G10 = M10 at K11
 obtain ⟨cs2, n11, a11, M11, h11, g11, lg11, pk2, bk2, lk2, la11, K12, kp11⟩ := Zgc ns 0 1 0 ((many : Int) + 1) (v / 6 % 3) a6 M10 K11 (by omega) (by omega) (by omega) (by omega) (by omega)
 obtain ⟨js, n12, a12, M12, h12, g12, lg12, pj, bj, lj, K13, kp12⟩ := Zg9 ns 0 1 cs2 n11 ((many : Int) + 1) a11 M11 K12 g11 (by have := K11.lt; omega) pk2 bk2 lk2 (by omega)
 refine Rt.set (d := .ref n12) (M' := M12) (ZaY (a := .ref 1) (M1 := M10) rfl (Zhe (b := .int 0) (c := .int ((many : Int) + 1)) (d := .int (v / 6 % 3)) rfl rfl rfl (by simp) h11) h12) ?_
 refine Rt.set (d := .ref M12.length) (M' := M12 ++ [.lst (js.map D.int)]) (by simp [g12]) ?_
 have s6 := Zo g12 [.lst (js.map D.int)]
 have s8 : (M12 ++ [MO.lst (js.map D.int)])[M12.length]? = some (.lst (js.map D.int)) := ZaA _ _ _
 generalize M12.length = m8 at *
 generalize M12 ++ [MO.lst (js.map D.int)] = M13 at *
 have bj' : ∀ k ∈ js, 0 ≤ k ∧ k < (urows.length : Int) + 1 := fun k hk => by have := bj k hk; omega
 obtain ⟨G14, h14, g14⟩ := ZdC urows js m8 M13 s8 pj bj' (by omega)
 refine Rt.set (d := .ref (M13.length + 4)) (M' := M13 ++ G14) (ZaY rfl rfl h14) ?_
 have lt6 : n12 < M13.length := (List.getElem?_eq_some_iff.mp s6).1
 have lt8 : m8 < M13.length := (List.getElem?_eq_some_iff.mp s8).1
 have s6 := Zo s6 G14
 have s8 := Zo s8 G14
 have lM2 : (M13 ++ G14).length > M13.length + 4 := (List.getElem?_eq_some_iff.mp g14).1
 generalize hm9 : M13.length + 4 = m9 at *
 have ne6' : m9 ≠ n12 := by omega
 have ne8' : m9 ≠ m8 := by omega
 generalize M13 ++ G14 = M14 at *
 generalize hQ : Zaf urows 0 (0 :: js ++ [(urows.length : Int)]) = Q at g14
 have pQ : ∀ d ∈ Q, ZaM 5 d = true := by rw [← hQ]; exact Zdd (by omega) pu _ _
 have lQ : Q.length ≤ 10000 := by rw [← hQ, ZcT]; omega
 have sm : ∀ (M : Store) (a b : Nat), M[a]? = some (.lst Q) → M[b]? = some (.lst Q) → Zau [.ref a, .ref b] M = .ok (.bl true) M := fun M a b h1 h2 => Zfk 5 Q a b M h1 h2 pQ lQ
 obtain ⟨G15, h15, g15⟩ := ZcD urows js n12 M14 s6 (by omega)
 rw [hQ] at g15
 have pj' := Zej js
 refine Rt.skip (M' := M14 ++ G15) ?_ ?_
 ·rw [Zd5 (M1 := M14 ++ G15) (Zel (ZaY rfl (ZaY rfl rfl h15) (sm _ _ _ (Zo g14 _) g15)) rfl)]
  exact ZbM rfl rfl (ZeS (Zo s8 _) (Zo s6 _) pj')
 have t6 := Zo s6 G15
 have t8 := Zo s8 G15
 have t9 := Zo g14 G15
 generalize M14 ++ G15 = M15 at *
 refine Rt.expr (ZcL (o := Zb 9) (n := m9) (d := .tup []) (M2 := M15) rfl t9 (by simp) t9 (by omega)) ?_
 have u6 : (M15.set m9 (.lst (Q ++ [.tup []])))[n12]? = some (.lst (js.map D.int)) := by rw [List.getElem?_set_ne ne6']; exact t6
 have u8 : (M15.set m9 (.lst (Q ++ [.tup []])))[m8]? = some (.lst (js.map D.int)) := by rw [List.getElem?_set_ne ne8']; exact t8
 generalize M15.set m9 (.lst (Q ++ [.tup []])) = M16 at u6 u8
 obtain ⟨G17, h17, g17⟩ := ZdC urows js m8 M16 u8 pj bj' (by omega)
 rw [hQ] at g17
 obtain ⟨G18, h18, g18⟩ := ZcD urows js n12 (M16 ++ G17) (Zo u6 _) (by omega)
 rw [hQ] at g18
 refine Rt.ret (M' := M16 ++ G17 ++ G18) ((Zdr (ZbM rfl rfl (ZhX u8 u6 pj'))).trans (ZaY (ZaY rfl rfl h17) (ZaY rfl rfl h18) (sm _ _ _ (Zo g17 _) g18)))
end Law
set_option maxHeartbeats 400000
namespace Law
open PySem PySem.Spec PyProof.Rows L2 L3
theorem ZiF {l : PySem.W.OpenLaw} {w : World} {K : W.Frag} {h : Heap} {mg : Str → Option Value} {fa f0 f1 f2 f3 f4 f5 f6 f7 f8 f9 f10 f11 f12 f13 f14 : Addr} (X : K.In h) (G : h.Ns mainGlobals mg) (hfa : mg "law" = some (.ref fa))
  {od0 an0 od1 an1 od2 an2 od3 an3 od4 an4 od5 an5 od6 an6 od7 an7 od8 an8 od9 an9 od10 an10 od11 an11 od12 an12 od13 an13 od14 an14 : Option Addr} {sl0 sl1 sl2 sl3 sl4 sl5 sl6 sl7 sl8 sl9 sl10 sl11 sl12 sl13 sl14 : Array (Option Value)} {oc0 kV0 dc0 pm0 cd0 ct0 oc1 kV1 dc1 pm1 cd1 ct1 oc2 kV2 dc2 pm2 cd2 ct2 oc3 kV3 dc3 pm3 cd3 ct3 oc4 kV4 dc4 pm4 cd4 ct4 oc5 kV5 dc5 pm5 cd5 ct5 oc6 kV6 dc6 pm6 cd6 ct6 oc7 kV7 dc7 pm7 cd7 ct7 oc8 kV8 dc8 pm8 cd8 ct8 oc9 kV9 dc9 pm9 cd9 ct9 oc10 kV10 dc10 pm10 cd10 ct10 oc11 kV11 dc11 pm11 cd11 ct11 oc12 kV12 dc12 pm12 cd12 ct12 oc13 kV13 dc13 pm13 cd13 ct13 oc14 kV14 dc14 pm14 cd14 ct14 : Value}
  (a0 : W.nsIn K mainGlobals "is_whole" = some (some (.ref f0))) (l0 : K.lookup f0 = some ⟨oc0, od0, .func (W.fnOf "is_whole" "is_whole" (Zai ZbD) (Zac ZbD) (Zh ZbD) .none kV0 dc0 pm0 an0 cd0 ct0), sl0⟩) (c0 : W.codeIn K cd0 "is_whole" = true) (k0 : W.keepIn K (.ref f0) = true)
  (a1 : W.nsIn K mainGlobals "refuse_bad_cuts" = some (some (.ref f1))) (l1 : K.lookup f1 = some ⟨oc1, od1, .func (W.fnOf "refuse_bad_cuts" "refuse_bad_cuts" (Zai Zap) (Zac Zap) (Zh Zap) .none kV1 dc1 pm1 an1 cd1 ct1), sl1⟩) (c1 : W.codeIn K cd1 "refuse_bad_cuts" = true) (k1 : W.keepIn K (.ref f1) = true)
  (a2 : W.nsIn K mainGlobals "cut_steps" = some (some (.ref f2))) (l2 : K.lookup f2 = some ⟨oc2, od2, .func (W.fnOf "cut_steps" "cut_steps" (Zai Zbj) (Zac Zbj) (Zh Zbj) .none kV2 dc2 pm2 an2 cd2 ct2), sl2⟩) (c2 : W.codeIn K cd2 "cut_steps" = true) (k2 : W.keepIn K (.ref f2) = true)
  (a3 : W.nsIn K mainGlobals "cut_uses" = some (some (.ref f3))) (l3 : K.lookup f3 = some ⟨oc3, od3, .func (W.fnOf "cut_uses" "cut_uses" (Zai Zbz) (Zac Zbz) (Zh Zbz) .none kV3 dc3 pm3 an3 cd3 ct3), sl3⟩) (c3 : W.codeIn K cd3 "cut_uses" = true) (k3 : W.keepIn K (.ref f3) = true)
  (a4 : W.nsIn K mainGlobals "joined_steps" = some (some (.ref f4))) (l4 : K.lookup f4 = some ⟨oc4, od4, .func (W.fnOf "joined_steps" "joined_steps" (Zai ZaN) (Zac ZaN) (Zh ZaN) .none kV4 dc4 pm4 an4 cd4 ct4), sl4⟩) (c4 : W.codeIn K cd4 "joined_steps" = true) (k4 : W.keepIn K (.ref f4) = true)
  (a5 : W.nsIn K mainGlobals "_law_next" = some (some (.ref f5))) (l5 : K.lookup f5 = some ⟨oc5, od5, .func (W.fnOf "_law_next" "_law_next" (Zai Zbf) (Zac Zbf) (Zh Zbf) .none kV5 dc5 pm5 an5 cd5 ct5), sl5⟩) (c5 : W.codeIn K cd5 "_law_next" = true) (k5 : W.keepIn K (.ref f5) = true)
  (a6 : W.nsIn K mainGlobals "_law_same" = some (some (.ref f6))) (l6 : K.lookup f6 = some ⟨oc6, od6, .func (W.fnOf "_law_same" "_law_same" (Zai Zbi) (Zac Zbi) (Zh Zbi) .none kV6 dc6 pm6 an6 cd6 ct6), sl6⟩) (c6 : W.codeIn K cd6 "_law_same" = true) (k6 : W.keepIn K (.ref f6) = true)
  (a7 : W.nsIn K mainGlobals "_law_number" = some (some (.ref f7))) (l7 : K.lookup f7 = some ⟨oc7, od7, .func (W.fnOf "_law_number" "_law_number" (Zai ZaT) (Zac ZaT) (Zh ZaT) .none kV7 dc7 pm7 an7 cd7 ct7), sl7⟩) (c7 : W.codeIn K cd7 "_law_number" = true) (k7 : W.keepIn K (.ref f7) = true)
  (a8 : W.nsIn K mainGlobals "_law_any_steps" = some (some (.ref f8))) (l8 : K.lookup f8 = some ⟨oc8, od8, .func (W.fnOf "_law_any_steps" "_law_any_steps" (Zai Zax) (Zac Zax) (Zh Zax) .none kV8 dc8 pm8 an8 cd8 ct8), sl8⟩) (c8 : W.codeIn K cd8 "_law_any_steps" = true) (k8 : W.keepIn K (.ref f8) = true)
  (a9 : W.nsIn K mainGlobals "_law_any_uses" = some (some (.ref f9))) (l9 : K.lookup f9 = some ⟨oc9, od9, .func (W.fnOf "_law_any_uses" "_law_any_uses" (Zai ZaE) (Zac ZaE) (Zh ZaE) .none kV9 dc9 pm9 an9 cd9 ct9), sl9⟩) (c9 : W.codeIn K cd9 "_law_any_uses" = true) (k9 : W.keepIn K (.ref f9) = true)
  (a10 : W.nsIn K mainGlobals "_law_cuts" = some (some (.ref f10))) (l10 : K.lookup f10 = some ⟨oc10, od10, .func (W.fnOf "_law_cuts" "_law_cuts" (Zai Zbk) (Zac Zbk) (Zh Zbk) .none kV10 dc10 pm10 an10 cd10 ct10), sl10⟩) (c10 : W.codeIn K cd10 "_law_cuts" = true) (k10 : W.keepIn K (.ref f10) = true)
  (a11 : W.nsIn K mainGlobals "_law_often" = some (some (.ref f11))) (l11 : K.lookup f11 = some ⟨oc11, od11, .func (W.fnOf "_law_often" "_law_often" (Zai ZaZ) (Zac ZaZ) (Zh ZaZ) .none kV11 dc11 pm11 an11 cd11 ct11), sl11⟩) (c11 : W.codeIn K cd11 "_law_often" = true) (k11 : W.keepIn K (.ref f11) = true)
  (a12 : W.nsIn K mainGlobals "_law_steps_cut" = some (some (.ref f12))) (l12 : K.lookup f12 = some ⟨oc12, od12, .func (W.fnOf "_law_steps_cut" "_law_steps_cut" (Zai Zaw) (Zac Zaw) (Zh Zaw) .none kV12 dc12 pm12 an12 cd12 ct12), sl12⟩) (c12 : W.codeIn K cd12 "_law_steps_cut" = true) (k12 : W.keepIn K (.ref f12) = true)
  (a13 : W.nsIn K mainGlobals "_law_uses_cut" = some (some (.ref f13))) (l13 : K.lookup f13 = some ⟨oc13, od13, .func (W.fnOf "_law_uses_cut" "_law_uses_cut" (Zai ZaD) (Zac ZaD) (Zh ZaD) .none kV13 dc13 pm13 an13 cd13 ct13), sl13⟩) (c13 : W.codeIn K cd13 "_law_uses_cut" = true) (k13 : W.keepIn K (.ref f13) = true)
  (a14 : W.nsIn K mainGlobals "law" = some (some (.ref f14))) (l14 : K.lookup f14 = some ⟨oc14, od14, .func (W.fnOf "law" "law" (Zai Zdk) (Zac Zdk) (Zh Zdk) .none kV14 dc14 pm14 an14 cd14 ct14), sl14⟩) (c14 : W.codeIn K cd14 "law" = true) (k14 : W.keepIn K (.ref f14) = true)
  (z_all : W.nsIn K mainGlobals "all" = some none)
  (z_bool : W.nsIn K mainGlobals "bool" = some none)
  (z_int : W.nsIn K mainGlobals "int" = some none)
  (z_isinstance : W.nsIn K mainGlobals "isinstance" = some none)
  (z_len : W.nsIn K mainGlobals "len" = some none)
  (z_list : W.nsIn K mainGlobals "list" = some none)
  (z_max : W.nsIn K mainGlobals "max" = some none)
  (z_range : W.nsIn K mainGlobals "range" = some none)
  (z_str : W.nsIn K mainGlobals "str" = some none)
  (z_tuple : W.nsIn K mainGlobals "tuple" = some none)
  (z_zip : W.nsIn K mainGlobals "zip" = some none) :
  ∃ fd : FuncData, (∀ (s : Shared) (v : Value), BindsTo s fd ⟨[v], []⟩ [("script", v)]) ∧ ∀ base : Heap, K.In base → base.Ns mainGlobals mg → Zdn l.prog w K mg base CX0 9 fa fd ["script"] (sp3 K 1 Zf6) := by
 have e := hfa.symm.trans (W.mg_of X G a14)
 cases e
 have T : Txt K mg := ⟨trivial, W.mg_none_of X G z_all, W.mg_none_of X G z_bool, W.mg_none_of X G z_int, W.mg_none_of X G z_isinstance, W.mg_none_of X G z_len, W.mg_none_of X G z_list, W.mg_none_of X G z_max, W.mg_none_of X G z_range, W.mg_none_of X G z_str, W.mg_none_of X G z_tuple, W.mg_none_of X G z_zip⟩
 have D_is_whole : ZaB K mg "is_whole" ZbD ["number"] := ZaH X G a0 l0 c0 k0 (Binds.all fun us hl => match us, hl with | [_], _ => rfl)
 have D_refuse_bad_cuts : ZaB K mg "refuse_bad_cuts" Zap ["cuts", "apart", "most"] := ZaH X G a1 l1 c1 k1 (Binds.all fun us hl => match us, hl with | [_, _, _], _ => rfl)
 have D_cut_steps : ZaB K mg "cut_steps" Zbj ["steps", "cuts"] := ZaH X G a2 l2 c2 k2 (Binds.all fun us hl => match us, hl with | [_, _], _ => rfl)
 have D_cut_uses : ZaB K mg "cut_uses" Zbz ["uses", "cuts"] := ZaH X G a3 l3 c3 k3 (Binds.all fun us hl => match us, hl with | [_, _], _ => rfl)
 have D_joined_steps : ZaB K mg "joined_steps" ZaN ["pieces"] := ZaH X G a4 l4 c4 k4 (Binds.all fun us hl => match us, hl with | [_], _ => rfl)
 have D__law_next : ZaB K mg "_law_next" Zbf ["deck"] := ZaH X G a5 l5 c5 k5 (Binds.all fun us hl => match us, hl with | [_], _ => rfl)
 have D__law_same : ZaB K mg "_law_same" Zbi ["found", "due"] := ZaH X G a6 l6 c6 k6 (Binds.all fun us hl => match us, hl with | [_, _], _ => rfl)
 have D__law_number : ZaB K mg "_law_number" ZaT ["cell"] := ZaH X G a7 l7 c7 k7 (Binds.all fun us hl => match us, hl with | [_], _ => rfl)
 have D__law_any_steps : ZaB K mg "_law_any_steps" Zax ["deck", "many"] := ZaH X G a8 l8 c8 k8 (Binds.all fun us hl => match us, hl with | [_, _], _ => rfl)
 have D__law_any_uses : ZaB K mg "_law_any_uses" ZaE ["deck", "many"] := ZaH X G a9 l9 c9 k9 (Binds.all fun us hl => match us, hl with | [_, _], _ => rfl)
 have D__law_cuts : ZaB K mg "_law_cuts" Zbk ["deck", "low", "high", "way"] := ZaH X G a10 l10 c10 k10 (Binds.all fun us hl => match us, hl with | [_, _, _, _], _ => rfl)
 have D__law_often : ZaB K mg "_law_often" ZaZ ["deck", "cuts"] := ZaH X G a11 l11 c11 k11 (Binds.all fun us hl => match us, hl with | [_, _], _ => rfl)
 have D__law_steps_cut : ZaB K mg "_law_steps_cut" Zaw ["rows", "cuts"] := ZaH X G a12 l12 c12 k12 (Binds.all fun us hl => match us, hl with | [_, _], _ => rfl)
 have D__law_uses_cut : ZaB K mg "_law_uses_cut" ZaD ["rows", "cuts"] := ZaH X G a13 l13 c13 k13 (Binds.all fun us hl => match us, hl with | [_, _], _ => rfl)
 refine ⟨W.fnOf "law" "law" (Zai Zdk) (Zac Zdk) (Zh Zdk) .none kV14 dc14 pm14 an14 cd14 ct14, fun s v => .of_eq rfl, fun base _ _ => ?_⟩
 have F_is_whole := Ze6 (P := l.prog) (w := w) (base := base) D_is_whole T
 have F_refuse_bad_cuts := ZcZ (P := l.prog) (w := w) (base := base) D_refuse_bad_cuts T F_is_whole
 have F_cut_steps := ZeN (P := l.prog) (w := w) (base := base) D_cut_steps T F_refuse_bad_cuts
 have F_cut_uses := Zfp (P := l.prog) (w := w) (base := base) D_cut_uses T F_refuse_bad_cuts
 have F_joined_steps := ZdL (P := l.prog) (w := w) (base := base) D_joined_steps T
 have F__law_next := ZeL (P := l.prog) (w := w) (base := base) D__law_next T
 have F__law_same := ZeF (P := l.prog) (w := w) (base := base) D__law_same T
 have F__law_number := ZdY (P := l.prog) (w := w) (base := base) D__law_number T
 have F__law_any_steps := Zdl (P := l.prog) (w := w) (base := base) D__law_any_steps T F__law_next F__law_number
 have F__law_any_uses := Zdt (P := l.prog) (w := w) (base := base) D__law_any_uses T F__law_next F__law_number
 have F__law_cuts := ZeC (P := l.prog) (w := w) (base := base) D__law_cuts T F__law_next
 have F__law_often := Zee (P := l.prog) (w := w) (base := base) D__law_often T F__law_next
 have F__law_steps_cut := Zc6 (P := l.prog) (w := w) (base := base) D__law_steps_cut T
 have F__law_uses_cut := Zdy (P := l.prog) (w := w) (base := base) D__law_uses_cut T
 exact ZjG (Zhn (st := Zdk) l14 c14 k14) T F_cut_steps F_cut_uses F_joined_steps F__law_next F__law_same F__law_any_steps F__law_any_uses F__law_cuts F__law_often F__law_steps_cut F__law_uses_cut
end Law
open PySem PySem.W PyProof.Rows
set_option maxRecDepth 100000 in
set_option maxHeartbeats 0 in
theorem PySem.Challenge.cw_stepledger_k41_cut_and_joined_holds : PySem.Challenge.rw_stepledger_k41_cut_and_joined.Holds := by
 w_on; o_law; k_head; (case hw => w_witness2)
 k_fill
 refine L3.Zko (l := PySem.Challenge.rw_stepledger_k41_cut_and_joined) (k := 9) (F := Law.Zf6) rfl rfl ⟨rfl, by decide, by decide⟩ (fun w h Y => W.kIn_of Y) ?G Law.law_holds
 case G =>
  intro w mg fa h KX G hmg
  refine' Law.ZiF KX G hmg ?a0 ?l0 ?c0 ?k0 ?a1 ?l1 ?c1 ?k1 ?a2 ?l2 ?c2 ?k2 ?a3 ?l3 ?c3 ?k3 ?a4 ?l4 ?c4 ?k4 ?a5 ?l5 ?c5 ?k5 ?a6 ?l6 ?c6 ?k6 ?a7 ?l7 ?c7 ?k7 ?a8 ?l8 ?c8 ?k8 ?a9 ?l9 ?c9 ?k9 ?a10 ?l10 ?c10 ?k10 ?a11 ?l11 ?c11 ?k11 ?a12 ?l12 ?c12 ?k12 ?a13 ?l13 ?c13 ?k13 ?a14 ?l14 ?c14 ?k14 ?z_all ?z_bool ?z_int ?z_isinstance ?z_len ?z_list ?z_max ?z_range ?z_str ?z_tuple ?z_zip
  (case a0 => k_is)
  (case l0 => k_is)
  (case c0 => k_is)
  (case k0 => k_is)
  (case a1 => k_is)
  (case l1 => k_is)
  (case c1 => k_is)
  (case k1 => k_is)
  (case a2 => k_is)
  (case l2 => k_is)
  (case c2 => k_is)
  (case k2 => k_is)
  (case a3 => k_is)
  (case l3 => k_is)
  (case c3 => k_is)
  (case k3 => k_is)
  (case a4 => k_is)
  (case l4 => k_is)
  (case c4 => k_is)
  (case k4 => k_is)
  (case a5 => k_is)
  (case l5 => k_is)
  (case c5 => k_is)
  (case k5 => k_is)
  (case a6 => k_is)
  (case l6 => k_is)
  (case c6 => k_is)
  (case k6 => k_is)
  (case a7 => k_is)
  (case l7 => k_is)
  (case c7 => k_is)
  (case k7 => k_is)
  (case a8 => k_is)
  (case l8 => k_is)
  (case c8 => k_is)
  (case k8 => k_is)
  (case a9 => k_is)
  (case l9 => k_is)
  (case c9 => k_is)
  (case k9 => k_is)
  (case a10 => k_is)
  (case l10 => k_is)
  (case c10 => k_is)
  (case k10 => k_is)
  (case a11 => k_is)
  (case l11 => k_is)
  (case c11 => k_is)
  (case k11 => k_is)
  (case a12 => k_is)
  (case l12 => k_is)
  (case c12 => k_is)
  (case k12 => k_is)
  (case a13 => k_is)
  (case l13 => k_is)
  (case c13 => k_is)
  (case k13 => k_is)
  (case a14 => k_is)
  (case l14 => k_is)
  (case c14 => k_is)
  (case k14 => k_is)
  (case z_all => k_is)
  (case z_bool => k_is)
  (case z_int => k_is)
  (case z_isinstance => k_is)
  (case z_len => k_is)
  (case z_list => k_is)
  (case z_max => k_is)
  (case z_range => k_is)
  (case z_str => k_is)
  (case z_tuple => k_is)
  (case z_zip => k_is)
