import PyProof.Rows.All
import Wide.All
import OpenK.AllK
import Wide.FinOn
import Lean
import PyProof.EqAt
import PyProof.EqKinds
import PyProof.TupleCall
import PySem.Challenge.RW_stepledger_k23_whole_uses_tell_cells
set_option Elab.async false
set_option linter.all false
set_option maxRecDepth 100000
namespace L2
open PySem PySem.Spec PyProof.Rows
abbrev Key := Sum Int Str
def Ze4 : Key → Value → Bool
 | .inl k, v => Value.isInt k v
 | .inr x, v => Value.isStrOf x v
def Zoa (w : World) : Key → Int
 | .inl k => hashInt k
 | .inr x => hashStr w x
theorem ZaF : ∀ {k : Key} {v : Value}, Ze4 k v = true → (∃ i t, k = Sum.inl i ∧ v = Value.int i t) ∨ (∃ x t, k = Sum.inr x ∧ v = Value.str x t)
 | .inl i, v, h => by
  obtain ⟨t, e⟩ := Value.isInt_shape (k := i) (v := v) h
  exact .inl ⟨i, t, rfl, e⟩
 | .inr x, v, h => by
  obtain ⟨t, e⟩ := Value.isStrOf_shape (x := x) (v := v) h
  exact .inr ⟨x, t, rfl, e⟩
theorem ZiZ (i : Int) (t : Tok) : Ze4 (.inl i) (.int i t) = true := by simp [Ze4, Value.isInt]
theorem ZiQ (x : Str) (t : Tok) : Ze4 (.inr x) (.str x t) = true := by simp [Ze4, Value.isStrOf]
theorem Zmi (a b : Int) : decide ((Sum.inl a : Key) = Sum.inl b) = (a == b) := by
 by_cases e : a = b
 ·subst e; simp
 ·have h : ¬ (Sum.inl a : Key) = Sum.inl b := fun q => e (Sum.inl.inj q)
  rw [decide_eq_false h]
  exact (beq_eq_false_iff_ne.mpr e).symm
theorem ZmN (a b : Str) : decide ((Sum.inr a : Key) = Sum.inr b) = decide (a = b) := by
 by_cases e : a = b
 ·subst e; simp
 ·have h : ¬ (Sum.inr a : Key) = Sum.inr b := fun q => e (Sum.inr.inj q)
  rw [decide_eq_false h, decide_eq_false e]
theorem ZlL (a : Int) (b : Str) : decide ((Sum.inl a : Key) = Sum.inr b) = false := decide_eq_false (fun q => nomatch q)
theorem Zmu (a : Str) (b : Int) : decide ((Sum.inr a : Key) = Sum.inl b) = false := decide_eq_false (fun q => nomatch q)
def Zaq (prog : Program) (w : World) : PySem.KeyKind prog w Key where
 is := Ze4
 hash := Zoa w
 inj := fun v a b ha hb => by
  rcases ZaF ha with ⟨i, t, rfl, rfl⟩ | ⟨x, t, rfl, rfl⟩
  ·rcases ZaF hb with ⟨j, u, rfl, e⟩ | ⟨y, u, rfl, e⟩
   ·injection e with e1 _; rw [e1]
   ·exact nomatch e
  ·rcases ZaF hb with ⟨j, u, rfl, e⟩ | ⟨y, u, rfl, e⟩
   ·exact nomatch e
   ·injection e with e1 _; rw [e1]
 byValue := fun k v h => by
  rcases ZaF h with ⟨i, t, rfl, rfl⟩ | ⟨x, t, rfl, rfl⟩ <;> rfl
 pyHash := fun hv h => by
  rcases ZaF hv with ⟨i, t, rfl, rfl⟩ | ⟨x, t, rfl, rfl⟩
  ·exact wpAny_pyHash_int h
  ·exact wpAny_pyHash_str h
 eqBool := fun hu hv h => by
  rcases ZaF hu with ⟨i, t, rfl, rfl⟩ | ⟨x, t, rfl, rfl⟩
  ·rcases ZaF hv with ⟨j, u, rfl, rfl⟩ | ⟨y, u, rfl, rfl⟩
   ·rw [Zmi] at h; exact wpAny_eqBool_int h
   ·rw [ZlL] at h; exact SeqAt.EqAt.int_str i t y u _ _ _ _ h
  ·rcases ZaF hv with ⟨j, u, rfl, rfl⟩ | ⟨y, u, rfl, rfl⟩
   ·rw [Zmu] at h; exact SeqAt.EqAt.str_int x t j u _ _ _ _ h
   ·rw [ZmN] at h; exact wpAny_eqBool_str h
 «strs» := fun k x t v h => by
  rcases ZaF h with ⟨i, u, rfl, e⟩ | ⟨y, u, rfl, e⟩
  ·exact nomatch e
  ·injection e with e1 _
   subst e1
   cases v <;> rfl
theorem ZhD (prog : Program) (w : World) (k : Key) (v : Value) : (Zaq prog w).is k v = Ze4 k v := rfl
theorem ZgQ (prog : Program) (w : World) (i : Int) (t : Tok) : (Zaq prog w).is (.inl i) (.int i t) = true := ZiZ i t
theorem ZgW (prog : Program) (w : World) (x : Str) (t : Tok) : (Zaq prog w).is (.inr x) (.str x t) = true := ZiQ x t
end L2
namespace L2
open PySem PySem.Spec PyProof.Rows
inductive V where
 | non | bl (b : Bool) | int (i : Int) | str (x : Str) | byt (b : Array UInt8) | flt (b : UInt64) | ref (a : Addr) | ty (n : String)
 deriving DecidableEq
def RelV : V → Value → Prop
 | .non, u => u = Value.none
 | .bl b, u => u = Value.bool b
 | .int i, u => ∃ t, u = Value.int i t
 | .str x, u => ∃ t, u = Value.str x t
 | .byt b, u => ∃ t, u = Value.bytes b t
 | .flt b, u => ∃ t, u = Value.float b t
 | .ref a, u => u = Value.ref a
 | .ty n, u => u = Value.type n
abbrev Vals : List V → List Value → Prop := Paired RelV
theorem Vals.length {xs : List V} {us : List Value} (r : Vals xs us) : xs.length = us.length := Paired.length r
theorem Vals.get : ∀ {xs : List V} {us : List Value} {i : Nat} {x : V}, Vals xs us → xs[i]? = some x → ∃ u, us[i]? = some u ∧ RelV x u
 | _, _, _, _, .nil, e => by simp at e
 | _, _, 0, _, .cons r _, e => by simp at e; subst e; exact ⟨_, rfl, r⟩
 | _, _, i + 1, x, .cons _ t, e => by
  obtain ⟨u, h1, h2⟩ := Vals.get (i := i) (x := x) t (by simpa using e)
  exact ⟨u, by simpa using h1, h2⟩
theorem Vals.set {x : V} {u : Value} (r : RelV x u) : ∀ {xs : List V} {us : List Value} (i : Nat), Vals xs us → Vals (xs.set i x) (us.set i u)
 | _, _, _, .nil => .nil
 | _, _, 0, .cons _ t => .cons r t
 | _, _, i + 1, .cons q t => .cons q (Vals.set r i t)
theorem Vals.append : ∀ {xs ys : List V} {us ws : List Value}, Vals xs us → Vals ys ws → Vals (xs ++ ys) (us ++ ws)
 | _, _, _, _, .nil, s => s
 | _, _, _, _, .cons r t, s => .cons r (Vals.append t s)
theorem Vals.take : ∀ {xs : List V} {us : List Value} (n : Nat), Vals xs us → Vals (xs.take n) (us.take n)
 | _, _, 0, _ => .nil
 | _, _, _ + 1, .nil => .nil
 | _, _, n + 1, .cons r t => .cons r (Vals.take n t)
theorem Vals.drop : ∀ {xs : List V} {us : List Value} (n : Nat), Vals xs us → Vals (xs.drop n) (us.drop n)
 | _, _, 0, r => r
 | _, _, _ + 1, .nil => .nil
 | _, _, n + 1, .cons _ t => Vals.drop n t
def Zer : Option V → Option Value → Prop
 | some v, some u => RelV v u
 | none, none => True
 | _, _ => False
def KV {κ : Type} : List (κ × V) → List (κ × Value) → Prop := Paired fun (p : κ × V) (q : κ × Value) => p.1 = q.1 ∧ RelV p.2 q.2
def kV : Key → V
 | .inl i => .int i
 | .inr x => .str x
inductive HO where
 /-- a list -/
 | lst (xs : List V)
 /-- a tuple (never changes) -/
 | tup (xs : List V)
 /-- a dict whose keys are ints and texts; one whose keys are tuples of ints and texts (the empty one is both) -/
 | dK (kvs : List (Key × V)) | dT (kvs : List (List Key × V))
 /-- a set of ints: its members, its size -/
 | set (S : Int → Bool) (n : Nat)
 /-- an instance of the class at C, its dict at dx, its attributes -/
 | ins (C dx : Addr) (fs : List (Str × V))
 /-- the dict of the instance at x -/
 | own (x : Addr)
 /-- the dict of an exception -/
 | xd (fs : List (Str × V))
 /-- a bound method, f of x -/
 | met (f x : Addr)
 /-- a range object lo, lo + 1, .. below hi -/
 | rng (lo hi : Int)
 /-- a thing that is known to the object (the script; a dict while a loop walks it): read, never written while it is so -/
 | frz (o : Obj) (u : HO)
 /-- a code object's table -/
 | tbl (ps : Array Value)
 /-- any other thing, by what is true of its one object (a def of one's own: SetO a S n := HO.ext fun h => ..) -/
 | ext (φ : Heap → Prop)
abbrev Hp := Addr → Option HO
def upd (H : Hp) (a : Addr) (o : HO) : Hp := fun b => if b = a then some o else H b
theorem ZaT {H : Hp} {a : Addr} {o : HO} : upd H a o a = some o := by unfold upd; rw [if_pos rfl]
theorem Zt {H : Hp} {a b : Addr} {o : HO} (h : b ≠ a) : upd H a o b = H b := by unfold upd; rw [if_neg h]
theorem Zfs {H : Hp} {a b : Addr} {o u : HO} (h : H a = some o) (h' : H b = some u) (d : o ≠ u) : a ≠ b := by
 intro e; subst e; rw [h] at h'; exact d (Option.some.inj h')
theorem Zcg {H : Hp} {a b : Addr} {o : HO} (h : H a = some o) (h' : H b = none) : a ≠ b := by
 intro e; subst e; rw [h] at h'; cases h'
section
variable (P : Program) (w : World)
def Zcm (h : Heap) (a : Addr) (items : Array Value) : Prop := ∃ o, h.get? a = some o ∧ (o.cls = .type "tuple" ∧ o.dict = none) ∧ ∃ n, o.data = .seq items n
theorem Zcm.tup {h : Heap} {a : Addr} {items : Array Value} (x : Zcm h a items) : IsTup h a items := let ⟨o, e, c, d⟩ := x; ⟨o, e, c.1, d⟩
theorem Zcm.new (h : Heap) (items : Array Value) : Zcm (h.push { cls := .type "tuple", data := .seq items }) h.objs.size items := ⟨_, Heap.get?_push_size _ rfl, ⟨rfl, rfl⟩, 0, rfl⟩
def ZaS (H : Hp) (h : Heap) (a : Addr) : HO → Prop
 | .lst xs => xs.length ≤ sizeLine ∧ ∃ (its : List Value) (n : Nat), Vals xs its ∧ h.get? a = some { cls := .type "list", data := .seq its.toArray n }
 | .tup xs => xs.length ≤ sizeLine ∧ ∃ its : List Value, Vals xs its ∧ Zcm h a its.toArray
 | .dK kvs => kvs.length ≤ sizeLine ∧ (a == sysModules) = false ∧ ∃ vs, KV kvs vs ∧ h.DictOf (Zaq P w) a vs
 | .dT kvs => kvs.length ≤ sizeLine ∧ (a == sysModules) = false ∧ ∃ xs : List (List Key × Addr × Value),
   Paired (fun (p : List Key × V) (q : List Key × Addr × Value) => p.1 = q.1 ∧ H q.2.1 = some (.tup (p.1.map kV)) ∧ RelV p.2 q.2.2) kvs xs ∧
   ∃ o es ep, h.get? a = some o ∧ o.ExactDict ∧ o.data = .dict es ep ∧ es.toList = xs.map (entryOfKey (tupleKind (Zaq P w))) ∧ (xs.map (·.1)).Nodup
 | .set S n => h.SetOf (intKind P w) a S n
 | .ins C dx fs => H dx = some (.own a) ∧ fs.length ≤ 1000 ∧ dx ≠ a ∧ h.get? a = some (PySem.W.instObj C dx) ∧
   ∃ mA, h.Ns1 dx mA ∧ (∀ f, Zer (fs.lookup f) (mA f)) ∧ PySem.Within mA (fs.map (·.1))
 | .own _ => ∃ o, h.get? a = some o
 | .xd fs => ∃ mA, h.Ns1 a mA ∧ ∀ f, Zer (fs.lookup f) (mA f)
 | .rng lo hi => ∃ t u v, h.get? a = some { cls := .type "range", data := .fields #[.int lo t, .int hi u, .int 1 v] }
 | .frz o u => h.get? a = some o ∧ ZaS H h a u
 | .tbl ps => h.get? a = some { cls := .none, data := .fields ps }
 | .met f x => h.get? a = some (PySem.W.methodObj (.ref f) (.ref x))
 | .ext φ => φ h ∧ (∃ o, h.get? a = some o) ∧ ∀ h1 h2 : Heap, φ h1 → (∀ o, h1.get? a = some o → h2.get? a = some o) → φ h2
def HOk (H : Hp) (h : Heap) : Prop := ∀ a o, H a = some o → ZaS P w H h a o
end
section
variable {P : Program} {w : World} {H H' : Hp} {h h' : Heap} {a : Addr} {o : HO}
theorem ZaS.lt (x : ZaS P w H h a o) : a < h.objs.size := by
 cases o with
 | lst xs => obtain ⟨_, _, _, _, e⟩ := x; exact Heap.lt_size e
 | tup xs => obtain ⟨_, _, _, p⟩ := x; exact p.tup.lt
 | dK kvs => obtain ⟨_, _, _, _, o, _, _, e, _⟩ := x; exact Heap.lt_size e
 | dT kvs => obtain ⟨_, _, _, _, o, _, _, e, _⟩ := x; exact Heap.lt_size e
 | set S n => obtain ⟨o, _, _, _, e, _⟩ := x; exact Heap.lt_size e
 | ins C dx fs => obtain ⟨_, _, _, e, _⟩ := x; exact Heap.lt_size e
 | own y => obtain ⟨_, e⟩ := x; exact Heap.lt_size e
 | xd fs => obtain ⟨_, ⟨_, _, _, e, _⟩, _⟩ := x; exact Heap.lt_size e
 | rng lo hi => obtain ⟨_, _, _, e⟩ := x; exact Heap.lt_size e
 | frz ob u => obtain ⟨e, _⟩ := x; exact Heap.lt_size e
 | tbl ps => exact Heap.lt_size (show h.get? a = some _ from x)
 | met f y => exact Heap.lt_size (show h.get? a = some _ from x)
 | ext φ => obtain ⟨_, ⟨_, e⟩, _⟩ := x; exact Heap.lt_size e
theorem Paired.mapP {α β : Type} {F G : α → β → Prop} : ∀ {l₁ : List α} {l₂ : List β}, Paired F l₁ l₂ → (∀ a b, F a b → G a b) → Paired G l₁ l₂
 | _, _, .nil, _ => .nil
 | _, _, .cons r t, f => .cons (f _ _ r) (Paired.mapP t f)
theorem ZaS.stay (x : ZaS P w H h a o) (k : ∀ b u, (b = a ∨ H b = some (.own a)) → h.get? b = some u → h'.get? b = some u)
  (ho : ∀ b, H b = some (.own a) → H' b = some (.own a)) (ht : ∀ b xs, H b = some (.tup xs) → H' b = some (.tup xs)) : ZaS P w H' h' a o := by
 induction o with
 | lst xs => obtain ⟨z, its, n, r, e⟩ := x; exact ⟨z, its, n, r, k _ _ (.inl rfl) e⟩
 | tup xs => obtain ⟨z, its, r, ob, e, c⟩ := x; exact ⟨z, its, r, ob, k _ _ (.inl rfl) e, c⟩
 | dK kvs => obtain ⟨z, y, vs, r, ob, es, ep, e, c⟩ := x; exact ⟨z, y, vs, r, ob, es, ep, k _ _ (.inl rfl) e, c⟩
 | dT kvs =>
  obtain ⟨z, y, xs, r, ob, es, ep, e, c⟩ := x
  exact ⟨z, y, xs, Paired.mapP r fun p q z => ⟨z.1, ht _ _ z.2.1, z.2.2⟩, ob, es, ep, k _ _ (.inl rfl) e, c⟩
 | set S n => obtain ⟨ob, es, ep, t, e, c⟩ := x; exact ⟨ob, es, ep, t, k _ _ (.inl rfl) e, c⟩
 | ins C dx fs =>
  obtain ⟨d, z, ne, e, mA, ⟨od, es, ep, e2, c⟩, r⟩ := x
  exact ⟨ho _ d, z, ne, k _ _ (.inl rfl) e, mA, ⟨od, es, ep, k _ _ (.inr d) e2, c⟩, r⟩
 | own y => obtain ⟨ob, e⟩ := x; exact ⟨ob, k _ _ (.inl rfl) e⟩
 | xd fs => obtain ⟨mA, ⟨od, es, ep, e, c⟩, r⟩ := x; exact ⟨mA, ⟨od, es, ep, k _ _ (.inl rfl) e, c⟩, r⟩
 | rng lo hi => obtain ⟨t, u, v, e⟩ := x; exact ⟨t, u, v, k _ _ (.inl rfl) e⟩
 | frz ob u ih => obtain ⟨e, q⟩ := x; exact ⟨k _ _ (.inl rfl) e, ih q⟩
 | tbl ps =>
  have e : h.get? a = some { cls := .none, data := .fields ps } := x
  show h'.get? a = some { cls := .none, data := .fields ps }
  exact k a _ (.inl rfl) e
 | met f y =>
  have e : h.get? a = some (PySem.W.methodObj (.ref f) (.ref y)) := x
  show h'.get? a = some (PySem.W.methodObj (.ref f) (.ref y))
  exact k a _ (.inl rfl) e
 | ext φ => obtain ⟨p, ⟨o, e⟩, st⟩ := x; exact ⟨st _ _ p fun o q => k _ _ (.inl rfl) q, ⟨o, k _ _ (.inl rfl) e⟩, st⟩
theorem HOk.lt (x : HOk P w H h) (e : H a = some o) : a < h.objs.size := (x a o e).lt
theorem HOk.fresh (x : HOk P w H h) (e : h.objs.size ≤ a) : H a = none := by
 cases q : H a with
 | none => rfl
 | some u => exact absurd (Nat.lt_of_lt_of_le (x.lt q) e) (Nat.lt_irrefl _)
theorem HOk.kept (x : HOk P w H h) (k : ∀ b u, h.get? b = some u → h'.get? b = some u) : HOk P w H h' := fun a o e =>
 (x a o e).stay (fun b u _ q => k b u q) (fun _ q => q) fun _ _ q => q
theorem HOk.laid (x : HOk P w H h) (k : ∀ b u, h.get? b = some u → h'.get? b = some u) (hp : h.objs.size ≤ a) (new : ZaS P w (upd H a o) h' a o) : HOk P w (upd H a o) h' := fun b u e => by
 have hn := x.fresh hp
 by_cases hb : b = a
 ·subst hb; rw [ZaT] at e; cases e; exact new
 ·rw [Zt hb] at e
  exact (x b u e).stay (fun c v _ q => k c v q) (fun c q => by rw [Zt (Zcg q hn)]; exact q) fun c xs q => by rw [Zt (Zcg q hn)]; exact q
end
def Rd (H : Hp) (a : Addr) (u : HO) : Prop := H a = some u ∨ ∃ o, H a = some (.frz o u)
theorem Rd.ok {P : Program} {w : World} {H : Hp} {h : Heap} {a : Addr} {u : HO} (r : Rd H a u) (x : HOk P w H h) : ZaS P w H h a u := by
 rcases r with r | ⟨o, r⟩
 ·exact x a u r
 ·obtain ⟨_, q⟩ := x a _ r
  exact q
def Mut : Option HO → Prop
 | some (.lst _) => True
 | some (.dK _) => True
 | some (.dT _) => True
 | some (.set _ _) => True
 | some (.ins _ _ _) => True
 | some (.ext _) => True
 | _ => False
section
variable {P : Program} {w : World} {H : Hp} {h h' : Heap} {x e : Addr} {o' : HO}
theorem HOk.write (ok : HOk P w H h) (mu : Mut (H x)) (he : e = x ∨ H e = some (.own x)) (k : ∀ b u, b ≠ e → h.get? b = some u → h'.get? b = some u) (heo : ∃ u, h'.get? e = some u)
  (new : ZaS P w (upd H x o') h' x o') : HOk P w (upd H x o') h' := fun b u q => by
 have nown : ∀ c y, H c = some (.own y) → c ≠ x := fun c y r z => by subst z; rw [r] at mu; exact mu
 have ntup : ∀ c xs, H c = some (.tup xs) → c ≠ x := fun c xs r z => by subst z; rw [r] at mu; exact mu
 by_cases hb : b = x
 ·subst hb; rw [ZaT] at q; cases q; exact new
 ·rw [Zt hb] at q
  by_cases hbe : b = e
  ·have q' : H b = some (.own x) := by
    rcases he with z | z
    ·exact absurd (hbe.trans z) hb
    ·rw [hbe]; exact z
   rw [q] at q'; cases q'
   obtain ⟨v, hv⟩ := heo
   exact ⟨v, by rw [hbe]; exact hv⟩
  ·refine (ok b u q).stay (fun c v hc r => k c v ?_ r) (fun c r => by rw [Zt (nown c b r)]; exact r) fun c xs r => by rw [Zt (ntup c xs r)]; exact r
   rcases hc with rfl | hc
   ·exact hbe
   ·rintro rfl
    rcases he with z | z
    ·exact nown c b hc z
    ·rw [hc] at z; cases z; exact hb rfl
end
structure Un (fs ex : List Addr) (H H' : Hp) (h h' : Heap) : Prop where
 keep : ∀ b o, h.get? b = some o → H b = none → b ∉ fs → b ∉ ex → h'.get? b = some o
 slot : ∀ b o, h.get? b = some o → H b = none → b ∈ fs → b ∉ ex → ∃ sl, h'.get? b = some { o with slots := sl }
 free : ∀ b o, h.get? b = some o → H b = none → b ∉ ex → H' b = none
 there : ∀ b o, h.get? b = some o → b ∉ ex → ∃ o', h'.get? b = some o'
 tups : ∀ b xs, H b = some (.tup xs) → H' b = some (.tup xs)
 frzs : ∀ b o u, H b = some (.frz o u) → H' b = some (.frz o u)
 tbls : ∀ b ps, H b = some (.tbl ps) → ∃ more, H' b = some (.tbl (ps ++ more))
section
variable {fs fs' ex ex' : List Addr} {H H1 H2 : Hp} {h h1 h2 h' : Heap} {a x e : Addr} {o : HO}
theorem Un.any (u : Un fs ex H H1 h h1) {b : Addr} {ob : Obj} (q : h.get? b = some ob) (n : H b = none) (hx : b ∉ ex) : ∃ sl, h1.get? b = some { ob with slots := sl } := by
 by_cases hb : b ∈ fs
 ·exact u.slot b ob q n hb hx
 ·exact ⟨ob.slots, u.keep b ob q n hb hx⟩
theorem Un.kept (k : ∀ b u, h.get? b = some u → h'.get? b = some u) : Un fs ex H H h h' :=
 ⟨fun b ob q _ _ _ => k b ob q, fun b ob q _ _ _ => ⟨ob.slots, k b ob q⟩, fun _ _ _ n _ => n, fun b ob q _ => ⟨ob, k b ob q⟩, fun _ _ q => q, fun _ _ _ q => q, fun _ ps q => ⟨#[], by rw [q]; simp⟩⟩
theorem Un.refl : Un fs ex H H h h := Un.kept fun _ _ q => q
theorem Un.laid (k : ∀ b u, h.get? b = some u → h'.get? b = some u) (hp : h.objs.size ≤ a) (hn : H a = none) : Un fs ex H (upd H a o) h h' where
 keep := fun b u q _ _ _ => k b u q
 slot := fun b u q _ _ _ => ⟨u.slots, k b u q⟩
 free := fun b u q n _ => by rw [Zt (Nat.ne_of_lt (Nat.lt_of_lt_of_le (Heap.lt_size q) hp))]; exact n
 there := fun b u q _ => ⟨u, k b u q⟩
 tups := fun b xs q => by rw [Zt (Zcg q hn)]; exact q
 frzs := fun b u xs q => by rw [Zt (Zcg q hn)]; exact q
 tbls := fun b ps q => ⟨#[], by rw [Zt (Zcg q hn), q]; simp⟩
theorem Un.write (mu : Mut (H x)) (he : e = x ∨ H e = some (.own x)) (k : ∀ b u, b ≠ e → h.get? b = some u → h'.get? b = some u) (heo : ∃ u, h'.get? e = some u) : Un fs ex H (upd H x o) h h' := by
 have hx : ∀ b, H b = none → b ≠ x := fun b n z => by subst z; rw [n] at mu; exact mu
 have hb : ∀ b, H b = none → b ≠ e := fun b n z => by
  subst z
  rcases he with r | r
  ·exact hx b n r
  ·rw [n] at r; cases r
 have hm : ∀ b u, H b = some u → ¬ Mut (some u) → b ≠ x := fun b u q nm z => by subst z; rw [q] at mu; exact nm mu
 refine ⟨fun b u q n _ _ => k b u (hb b n) q, fun b u q n _ _ => ⟨u.slots, k b u (hb b n) q⟩, fun b u q n _ => by rw [Zt (hx b n)]; exact n, fun b u q _ => ?_,
  fun b xs q => by rw [Zt (hm b _ q fun z => z)]; exact q, fun b u xs q => by rw [Zt (hm b _ q fun z => z)]; exact q, fun b ps q => ⟨#[], by rw [Zt (hm b _ q fun z => z), q]; simp⟩⟩
 by_cases hbe : b = e
 ·subst hbe; exact heo
 ·exact ⟨u, k b u hbe q⟩
end
def trk (h : Heap) (H : Hp) : List Addr := (List.range h.objs.size).filter fun a => (H a).isSome
def Zge (h : Heap) (H : Hp) : Heap := PySem.W.hideAll h (trk h H)
theorem ZiT (h : Heap) (H : Hp) : (Zge h H).objs.size = h.objs.size := PySem.W.hideAll_size _ _
theorem Zkj {h : Heap} {H : Hp} {b : Addr} {o : Obj} (e : h.get? b = some o) (n : H b = none) : (Zge h H).get? b = some o :=
 PySem.W.hideAll_get _ e fun hm => by
  have q : (H b).isSome = true := (List.mem_filter.mp hm).2
  rw [n] at q; simp at q
theorem ZkT {h : Heap} {H : Hp} {b : Addr} {o : Obj} (e : (Zge h H).get? b = some o) : h.get? b = some o ∧ H b = none := by
 have e' : h.get? b = some o := PySem.W.of_hideAll (trk h H) e
 refine ⟨e', ?_⟩
 cases q : H b with
 | none => rfl
 | some x =>
  have hm : b ∈ trk h H := List.mem_filter.mpr ⟨List.mem_range.mpr (Heap.lt_size e'), by simp [q]⟩
  have z : (Zge h H).get? b = none := PySem.W.hideAll_none (trk h H) hm
  rw [z] at e; cases e
def Zk1 (g h : Heap) (L : Addr) : List (Addr × Obj) := (List.range h.objs.size).filterMap fun a => if a = L ∨ (g.get? a).isSome = true then none else (h.get? a).map fun o => (a, o)
def rest (g h : Heap) (L d : Addr) : List (Addr × Obj) := (Zk1 g h L).filter fun p => decide (p.1 ≠ d)
end L2
namespace L2
open PySem PySem.Spec PyProof.Rows
structure Mod (K : PySem.W.Frag) (mg : Str → Option Value) (base : Heap) : Prop where
 kin : K.In base
 glob : base.Ns mainGlobals mg
 blt : ∃ mb, base.Ns builtinsNs mb ∧ ∀ x : Str, x ≠ "__name__" → mb x = bootBuiltins x
 nolimit : base.NoLimit
/-- the context: a def's body (or a comprehension's block) running. base: fixed through the whole law; s₀, H₀: the entry; outer: the frames whose slots others may change (a def's callers); stack: all frames that run;
  ex: iterators that were made ahead of the entry and are walked here (a comprehension's); fn: the names whose cells were made at the entry (a def: all; a comprehension's block: its own); calm: not within an except suite; pn: pins that every state bears; xe: what is wanted of an exception that leaves the code -/
structure Cx where
 prog : Program
 w : World
 K : PySem.W.Frag
 mg : Str → Option Value
 base : Heap
 A : Around
 N : List Str
 s₀ : Shared
 H₀ : Hp
 env : Env
 outer : List Env
 stack : List Env
 ex : List Addr
 fn : Str → Bool
 calm : Bool
 pn : List (Addr × Obj)
 xe : Value → Shared → Prop
def frs (l : List Env) : List Addr := l.filterMap (·.frame)
abbrev Cx.fs (X : Cx) : List Addr := frs X.outer
def Vis (sc : Scope) (x : Str) : Prop := sc.names.lookup x = some .local ∨ sc.names.lookup x = some .cell ∨ sc.names.lookup x = some .free
def Loc (sc : Scope) (x : Str) : Prop := sc.names.lookup x = some .local ∨ sc.names.lookup x = some .cell
def Look (env : Env) (h : Heap) (m : Str → Option Value) (x : Str) (u : Value) : Prop :=
 (env.kindOf x = some .local ∧ m x = some u) ∨ ((env.kindOf x = some .cell ∨ env.kindOf x = some .free) ∧ ∃ c, env.cells.lookup x = some c ∧ h.IsCell c (some u))
structure Cx.Ok (X : Cx) : Prop where
 mod : Mod X.K X.mg X.base
 kind : X.env.scope.kind = .function
 glob : X.env.globals = mainGlobals
 blt : X.env.builtins = builtinsNs
 above : X.s₀.heap.objs.size ≤ X.env.locals
 inj : ∀ x y c, X.env.cells.lookup x = some c → X.env.cells.lookup y = some c → x = y
 has : ∀ x, (X.env.kindOf x = some .cell ∨ X.env.kindOf x = some .free) → ∃ c, X.env.cells.lookup x = some c
 cab : ∀ x c, X.fn x = true → X.env.cells.lookup x = some c → X.s₀.heap.objs.size ≤ c
 hd : X.calm = true → X.A.handled = none
 frames : X.A.frames = some X.stack
 stk : X.stack = X.outer ∨ (X.stack = X.env :: X.outer ∧ X.env.frame = some X.env.locals)
 exf : ∀ b ∈ X.ex, b ≠ X.env.locals ∧ ∀ x c, X.env.cells.lookup x = some c → c ≠ b
 bs : ∀ b o, X.base.get? b = some o → X.s₀.heap.get? b = some o ∧ X.H₀ b = none
 bsz : X.base.objs.size ≤ X.s₀.heap.objs.size
 noex : ∀ b o, X.base.get? b = some o → b ∉ X.ex
 exfs : ∀ b ∈ X.ex, b ∉ X.fs
 funs : X.s₀.heap.FunFrames X.base X.outer
 frf : ∀ b ∈ X.fs, X.H₀ b = none
structure Inv (X : Cx) (pins : List (Addr × Obj)) (σ : List (Option V)) (H : Hp) (s : Shared) : Prop where
 ok : X.Ok
 os : s.os = X.s₀.os
 bare : AllBare s.gens
 base : Un X.fs X.ex X.H₀ H X.s₀.heap s.heap
 loc : ∃ m, s.heap.Ns X.env.locals m ∧ ∀ (i : Nat) (x : Str) (v : V), X.N[i]? = some x → σ[i]? = some (some v) → Vis X.env.scope x → ∃ u, RelV v u ∧ Look X.env s.heap m x u
 cell : ∀ x c, X.env.cells.lookup x = some c → ∃ v, s.heap.IsCell c v
 free : H X.env.locals = none
 freeC : ∀ x c, X.env.cells.lookup x = some c → H c = none
 pin : ∀ p ∈ X.pn ++ pins, s.heap.get? p.1 = some p.2 ∧ H p.1 = none ∧ p.1 ≠ X.env.locals ∧ p.1 ∉ X.fs ∧ ∀ v, p.2.data ≠ .cell v
 hok : HOk X.prog X.w H s.heap
 len : σ.length = X.N.length
section
variable {X : Cx} {pins : List (Addr × Obj)} {σ : List (Option V)} {H H' : Hp} {s : Shared} {h' : Heap}
theorem Cx.Ok.nofr (ok : X.Ok) {b : Addr} {o : Obj} (e : X.base.get? b = some o) : b ∉ X.fs := fun hb => by
 have := (ok.funs.mem hb).1
 rw [e] at this; cases this
theorem Inv.bs (I : Inv X pins σ H s) : ∀ b o, X.base.get? b = some o → s.heap.get? b = some o ∧ H b = none := fun b o e =>
 ⟨I.base.keep b o (I.ok.bs b o e).1 (I.ok.bs b o e).2 (I.ok.nofr e) (I.ok.noex b o e), I.base.free b o (I.ok.bs b o e).1 (I.ok.bs b o e).2 (I.ok.noex b o e)⟩
theorem Inv.bk (I : Inv X pins σ H s) : ∀ b o, X.base.get? b = some o → s.heap.get? b = some o := fun b o e => (I.bs b o e).1
theorem Inv.mod (I : Inv X pins σ H s) : Mod X.K X.mg X.base := I.ok.mod
theorem Inv.kIn (I : Inv X pins σ H s) : X.K.In s.heap := I.ok.mod.kin.keeps I.bk
theorem Inv.nolimit (I : Inv X pins σ H s) : s.heap.NoLimit := I.ok.mod.nolimit.keeps I.bk
theorem Inv.lt (I : Inv X pins σ H s) : X.env.locals < s.heap.objs.size := let ⟨_, hn, _⟩ := I.loc; hn.lt
theorem Inv.sz (I : Inv X pins σ H s) : X.s₀.heap.objs.size ≤ s.heap.objs.size := Nat.le_trans I.ok.above (Nat.le_of_lt I.lt)
theorem Inv.nofs (I : Inv X pins σ H s) {a : Addr} (h : s.heap.objs.size ≤ a) : a ∉ X.fs := fun hb => by
 obtain ⟨_, o, ho, _⟩ := I.ok.funs.mem hb
 exact absurd (Nat.lt_of_lt_of_le (Heap.lt_size ho) (Nat.le_trans I.sz h)) (Nat.lt_irrefl _)
theorem Inv.cne (I : Inv X pins σ H s) : ∀ x c, X.env.cells.lookup x = some c → c ≠ X.env.locals := fun x c e z => by
 obtain ⟨v, o, ho, hd⟩ := I.cell x c e
 obtain ⟨m, ⟨o', es, ep, ho', hd', _⟩, _⟩ := I.loc
 rw [z, ho'] at ho; cases ho; rw [hd'] at hd; cases hd
theorem Inv.funs (I : Inv X pins σ H s) : s.heap.FunFrames X.base X.outer := by
 have all : ∀ (l : List Env), (∀ b ∈ frs l, b ∈ X.fs) → X.s₀.heap.FunFrames X.base l → s.heap.FunFrames X.base l := by
  intro l
  induction l with
  | nil => intro _ _; trivial
  | cons env r ih =>
   intro hs hl
   obtain ⟨hk, ⟨L, o, hf, hn, ho, hd⟩, hr⟩ := hl
   have hL : L ∈ X.fs := hs L (by unfold frs; rw [List.filterMap_cons, hf]; exact List.mem_cons_self)
   obtain ⟨sl, e⟩ := I.base.slot L o ho (I.ok.frf L hL) hL fun z => I.ok.exfs L z hL
   exact ⟨hk, ⟨L, _, hf, hn, e, hd⟩, ih (fun b hb => hs b (by unfold frs; rw [List.filterMap_cons, hf]; exact List.mem_cons_of_mem _ hb)) hr⟩
 exact all X.outer (fun _ hb => hb) I.ok.funs
theorem Inv.stack (I : Inv X pins σ H s) : s.heap.FunFrames X.base X.stack := by
 rcases I.ok.stk with e | ⟨e, hf⟩
 ·rw [e]; exact I.funs
 ·rw [e]
  obtain ⟨m, hn, _⟩ := I.loc
  refine .cons (by rw [I.ok.kind]; decide) hf hn ?_ I.funs
  exact Heap.get?_none_of_le (Nat.le_trans I.ok.bsz I.ok.above)
theorem Inv.stkSub (I : Inv X pins σ H s) : ∀ b ∈ frs X.stack, b ∈ X.env.locals :: X.fs := fun b hb => by
 rcases I.ok.stk with e | ⟨e, hf⟩
 ·rw [e] at hb; exact List.mem_cons_of_mem _ hb
 ·rw [e] at hb
  unfold frs at hb
  rw [List.filterMap_cons, hf] at hb
  exact hb
theorem Inv.stkFree (I : Inv X pins σ H s) : ∀ b ∈ frs X.stack, H b = none := fun b hb => by
 rcases List.mem_cons.mp (I.stkSub b hb) with e | hb
 ·rw [e]; exact I.free
 ·obtain ⟨_, o, ho, _⟩ := I.ok.funs.mem hb
  exact I.base.free b o ho (I.ok.frf b hb) fun z => I.ok.exfs b z hb
theorem Inv.step {g' : Array GenState} {t' : Nat} {d' : Drawn} {ch : List Addr} (I : Inv X pins σ H s)
  (hch : ∀ b ∈ ch, (b ∈ X.ex ∨ X.s₀.heap.objs.size ≤ b) ∧ b ≠ X.env.locals ∧ (∀ x c, X.env.cells.lookup x = some c → c ≠ b) ∧ ∀ p ∈ X.pn ++ pins, p.1 ≠ b)
  (keep : ∀ b o, b ≠ X.env.locals → b ∉ X.fs → b ∉ ch → s.heap.get? b = some o → H b = none → h'.get? b = some o)
  (slot : ∀ b o, b ≠ X.env.locals → b ∈ X.fs → b ∉ ch → s.heap.get? b = some o → H b = none → ∃ sl, h'.get? b = some { o with slots := sl }) (free : ∀ b o, b ∉ ch → s.heap.get? b = some o → H b = none → H' b = none)
  (there : ∀ b o, b ∉ ch → s.heap.get? b = some o → ∃ o', h'.get? b = some o')
  (tups : ∀ b xs, H b = some (.tup xs) → H' b = some (.tup xs)) (frzs : ∀ b o u, H b = some (.frz o u) → H' b = some (.frz o u)) (tbls : ∀ b ps, H b = some (.tbl ps) → ∃ more, H' b = some (.tbl (ps ++ more)))
  (ns : ∀ m, s.heap.Ns X.env.locals m → h'.Ns X.env.locals m) (hok : HOk X.prog X.w H' h') (hg : AllBare g') :
  Inv X pins σ H' { s with heap := h', gens := g', drawn := d', toks := t' } := by
 have neL : ∀ b o, X.s₀.heap.get? b = some o → b ≠ X.env.locals := fun b o e => Nat.ne_of_lt (Nat.lt_of_lt_of_le (Heap.lt_size e) I.ok.above)
 have neC : ∀ b o, X.s₀.heap.get? b = some o → b ∉ X.ex → b ∉ ch := fun b o e hx hb => by
  rcases (hch b hb).1 with z | z
  ·exact hx z
  ·exact absurd (Nat.lt_of_lt_of_le (Heap.lt_size e) z) (Nat.lt_irrefl _)
 have cellK : ∀ x c, X.env.cells.lookup x = some c → ∀ v, s.heap.IsCell c v → h'.IsCell c v := fun x c e v ⟨o, ho, hd⟩ => by
  have nch : c ∉ ch := fun z => (hch c z).2.2.1 x c e rfl
  by_cases hc : c ∈ X.fs
  ·obtain ⟨sl, q⟩ := slot c o (I.cne x c e) hc nch ho (I.freeC x c e)
   exact ⟨_, q, hd⟩
  ·exact ⟨o, keep c o (I.cne x c e) hc nch ho (I.freeC x c e), hd⟩
 refine ⟨I.ok, I.os, hg, ⟨fun b o e n hb hx => ?_, fun b o e n hb hx => ?_, fun b o e n hx => ?_, fun b o e hx => ?_, fun b xs e => tups b xs (I.base.tups b xs e), fun b o xs e => frzs b o xs (I.base.frzs b o xs e), fun b ps e => ?_⟩, ?_, fun x c e => ?_, ?_, fun x c e => ?_, fun p hp => ?_, hok, I.len⟩
 ·exact keep b o (neL b o e) hb (neC b o e hx) (I.base.keep b o e n hb hx) (I.base.free b o e n hx)
 ·obtain ⟨sl, e1⟩ := I.base.slot b o e n hb hx
  obtain ⟨sl', e2⟩ := slot b _ (neL b o e) hb (neC b o e hx) e1 (I.base.free b o e n hx)
  exact ⟨sl', e2⟩
 ·obtain ⟨o', e1⟩ := I.base.there b o e hx
  exact free b o' (neC b o e hx) e1 (I.base.free b o e n hx)
 ·obtain ⟨o', e1⟩ := I.base.there b o e hx
  exact there b o' (neC b o e hx) e1
 ·obtain ⟨m1, e1⟩ := I.base.tbls b ps e
  obtain ⟨m2, e2⟩ := tbls b _ e1
  exact ⟨m1 ++ m2, by rw [e2, Array.append_assoc]⟩
 ·obtain ⟨m, hn, hl⟩ := I.loc
  refine ⟨m, ns m hn, fun i x v e1 e2 e3 => ?_⟩
  obtain ⟨u, r, l⟩ := hl i x v e1 e2 e3
  refine ⟨u, r, ?_⟩
  rcases l with l | ⟨k, c, e, z⟩
  ·exact .inl l
  ·exact .inr ⟨k, c, e, cellK x c e _ z⟩
 ·obtain ⟨v, z⟩ := I.cell x c e
  exact ⟨v, cellK x c e v z⟩
 ·obtain ⟨m, ⟨o, _, _, ho, _⟩, _⟩ := I.loc
  exact free _ o (fun z => (hch _ z).2.1 rfl) ho I.free
 ·obtain ⟨v, o, ho, hd⟩ := I.cell x c e
  exact free c o (fun z => (hch c z).2.2.1 x c e rfl) ho (I.freeC x c e)
 ·obtain ⟨e, n, ne, nf, d⟩ := I.pin p hp
  have nch : p.1 ∉ ch := fun z => (hch p.1 z).2.2.2 p hp rfl
  exact ⟨keep p.1 p.2 ne nf nch e n, free p.1 p.2 nch e n, ne, nf, d⟩
theorem Inv.un {t' : Nat} (I : Inv X pins σ H s) (u : Un X.fs [] H H' s.heap h') (hok : HOk X.prog X.w H' h') : Inv X pins σ H' { s with heap := h', toks := t' } := by
 obtain ⟨m, ⟨o, es, ep, ho, r⟩, _⟩ := id I.loc
 obtain ⟨sl, hL⟩ := u.any ho I.free (by simp)
 exact I.step (g' := s.gens) (d' := s.drawn) (ch := []) (fun _ z => nomatch z) (fun b o _ hb _ e n => u.keep b o e n hb (by simp)) (fun b o _ hb _ e n => u.slot b o e n hb (by simp)) (fun b o _ e n => u.free b o e n (by simp)) (fun b o _ e => u.there b o e (by simp)) u.tups u.frzs u.tbls (fun m' hm => by
  obtain ⟨o', es', ep', ho', r'⟩ := hm
  rw [ho] at ho'; cases ho'
  exact ⟨_, es', ep', hL, r'⟩) hok I.bare
theorem Inv.call {g' : Array GenState} {t' : Nat} {d' : Drawn} {ch : List Addr} (I : Inv X pins σ H s) (u : Un (frs X.stack) ch H H' s.heap h') (hok : HOk X.prog X.w H' h') (hg : AllBare g')
  (hch : ∀ b ∈ ch, (b ∈ X.ex ∨ X.s₀.heap.objs.size ≤ b) ∧ b ≠ X.env.locals ∧ (∀ x c, X.env.cells.lookup x = some c → c ≠ b) ∧ ∀ p ∈ X.pn ++ pins, p.1 ≠ b) :
  Inv X pins σ H' { s with heap := h', gens := g', drawn := d', toks := t' } := by
 obtain ⟨m, ⟨o, es, ep, ho, r⟩, _⟩ := id I.loc
 obtain ⟨sl, hL⟩ := u.any ho I.free fun z => (hch _ z).2.1 rfl
 exact I.step (ch := ch) hch (fun b o hL hb hc e n => u.keep b o e n (fun z => (List.mem_cons.mp (I.stkSub b z)).elim hL hb) hc) (fun b o _ _ hc e n => u.any e n hc) (fun b o hc e n => u.free b o e n hc) (fun b o hc e => u.there b o e hc) u.tups u.frzs u.tbls (fun m' hm => by
  obtain ⟨o', es', ep', ho', r'⟩ := hm
  rw [ho] at ho'; cases ho'
  exact ⟨_, es', ep', hL, r'⟩) hok hg
theorem Inv.turned {t' : Nat} {it : Addr} (I : Inv X pins σ H s) (k : ∀ b o, b ≠ it → s.heap.get? b = some o → h'.get? b = some o) (hn : H it = none) (hL : it ≠ X.env.locals)
  (h1 : it ∈ X.ex ∨ X.s₀.heap.objs.size ≤ it) (h2 : ∀ x c, X.env.cells.lookup x = some c → c ≠ it) (h3 : ∀ p ∈ X.pn ++ pins, p.1 ≠ it) : Inv X pins σ H { s with heap := h', toks := t' } := by
 have nit : ∀ b u, H b = some u → b ≠ it := fun b u e z => by rw [z, hn] at e; cases e
 refine I.step (g' := s.gens) (d' := s.drawn) (ch := [it]) (fun b hb => ?_) (fun b o _ _ hc e _ => k b o (fun z => hc (by simp [z])) e) (fun b o _ _ hc e _ => ⟨o.slots, k b o (fun z => hc (by simp [z])) e⟩) (fun _ _ _ _ n => n)
  (fun b o hc e => ⟨o, k b o (fun z => hc (by simp [z])) e⟩) (fun _ _ e => e) (fun _ _ _ e => e) (fun b ps e => ⟨#[], by rw [e]; simp⟩) (fun m hm => ?_) (fun b u e => ?_) I.bare
 ·have e : b = it := by simpa using hb
  subst e
  exact ⟨h1, hL, h2, h3⟩
 ·obtain ⟨o, es, ep, ho, r⟩ := hm
  exact ⟨o, es, ep, k _ o (Ne.symm hL) ho, r⟩
 ·refine (I.hok b u e).stay (fun c v hc q => k c v ?_ q) (fun _ q => q) fun _ _ q => q
  rcases hc with z | z
  ·rw [z]; exact nit b u e
  ·exact nit c _ z
theorem Inv.tok (I : Inv X pins σ H s) (t : Nat) : Inv X pins σ H { s with toks := t } := I.un (h' := s.heap) (t' := t) Un.refl I.hok
theorem Inv.kept {t' : Nat} (I : Inv X pins σ H s) (k : ∀ b u, s.heap.get? b = some u → h'.get? b = some u) : Inv X pins σ H { s with heap := h', toks := t' } := I.un (Un.kept k) (I.hok.kept k)
theorem Inv.laid {a : Addr} {o : HO} {t' : Nat} (I : Inv X pins σ H s) (k : ∀ b u, s.heap.get? b = some u → h'.get? b = some u) (hp : s.heap.objs.size ≤ a) (new : ZaS X.prog X.w (upd H a o) h' a o) :
  Inv X pins σ (upd H a o) { s with heap := h', toks := t' } := I.un (Un.laid k hp (I.hok.fresh hp)) (I.hok.laid k hp new)
theorem Inv.write {x e : Addr} {o : HO} {t' : Nat} (I : Inv X pins σ H s) (mu : Mut (H x)) (he : e = x ∨ H e = some (.own x)) (k : ∀ b u, b ≠ e → s.heap.get? b = some u → h'.get? b = some u) (heo : ∃ u, h'.get? e = some u)
  (new : ZaS X.prog X.w (upd H x o) h' x o) : Inv X pins σ (upd H x o) { s with heap := h', toks := t' } := I.un (Un.write mu he k heo) (I.hok.write mu he k heo new)
theorem Inv.pins_of {pins' : List (Addr × Obj)} (I : Inv X pins σ H s) (h : ∀ p ∈ pins', s.heap.get? p.1 = some p.2 ∧ H p.1 = none ∧ p.1 ≠ X.env.locals ∧ p.1 ∉ X.fs ∧ ∀ v, p.2.data ≠ .cell v) : Inv X pins' σ H s :=
 ⟨I.ok, I.os, I.bare, I.base, I.loc, I.cell, I.free, I.freeC, fun p hp => (List.mem_append.mp hp).elim (fun z => I.pin p (List.mem_append_left _ z)) (h p), I.hok, I.len⟩
theorem Zg9 {N : List Str} (hN : N.Nodup) {i j : Nat} {x : Str} (a : N[i]? = some x) (b : N[j]? = some x) : i = j := by
 obtain ⟨h1, e1⟩ := List.getElem?_eq_some_iff.mp a
 obtain ⟨h2, e2⟩ := List.getElem?_eq_some_iff.mp b
 exact (List.getElem_inj hN).mp (e1.trans e2.symm)
theorem Zfy {M : Model} {A : Around} {E : Value → Shared → Prop} {i : Nat} {x : Str} {v : V} {u : Value} {Q : Unit → Shared → Prop} (I : Inv X pins σ H s) (hN : X.N.Nodup) (hi : X.N[i]? = some x) (hx : Loc X.env.scope x) (r : RelV v u)
  (h : ∀ s', Inv X pins (σ.set i (some v)) H s' → (∃ a, Heap.SameBut a s.heap s'.heap ∧ (a = X.env.locals ∨ X.env.cells.lookup x = some a)) → Q () s') (hf : X.fn x = true ∨ X.env.scope.names.lookup x = some .local := by first | exact .inl rfl | exact .inr rfl | assumption) : wpAny M A (storeName X.env x u) Q E s := by
 obtain ⟨m, hn, hl⟩ := id I.loc
 have hcls : (X.env.scope.kind == .class || (X.env.scope.kind == .module && X.env.locals != X.env.globals)) = false := by rw [I.ok.kind]; rfl
 have hiσ : i < σ.length := by rw [I.len]; exact (List.getElem?_eq_some_iff.mp hi).1
 have cne := I.cne
 have tracked : ∀ {a : Addr} {h' : Heap}, (∃ o, s.heap.get? a = some o ∧ H a = none) → Heap.SameBut a s.heap h' → HOk X.prog X.w H h' := fun {a h'} ha hs b ob e => by
  obtain ⟨_, _, hfree⟩ := ha
  refine (I.hok b ob e).stay (fun c w' hc q => (hs.2 c ?_).trans q) (fun _ q => q) fun _ _ q => q
  rintro rfl
  rcases hc with rfl | hc
  ·rw [hfree] at e; cases e
  ·rw [hfree] at hc; cases hc
 rcases hx with hk | hk
 ·refine wpAny_storeName_local hk hn (fun h' hn' hs => ?_) hcls
  obtain ⟨oL, _, _, hoL, _⟩ := id hn
  refine h _ ⟨I.ok, I.os, I.bare, ⟨fun b o e n hb hx => ?_, fun b o e n hb hx => ?_, I.base.free, fun b o e hx => ?_, I.base.tups, I.base.frzs, I.base.tbls⟩, ⟨_, hn', fun j y v' e1 e2 e3 => ?_⟩, fun y c e => ?_, I.free, I.freeC, fun p hp => ?_, tracked ⟨oL, hoL, I.free⟩ hs, by simpa using I.len⟩ ⟨_, hs, .inl rfl⟩
  ·exact (hs.2 b (Nat.ne_of_lt (Nat.lt_of_lt_of_le (Heap.lt_size e) I.ok.above))).trans (I.base.keep b o e n hb hx)
  ·obtain ⟨sl, e1⟩ := I.base.slot b o e n hb hx
   exact ⟨sl, (hs.2 b (Nat.ne_of_lt (Nat.lt_of_lt_of_le (Heap.lt_size e) I.ok.above))).trans e1⟩
  ·obtain ⟨o', e1⟩ := I.base.there b o e hx
   exact ⟨o', (hs.2 b (Nat.ne_of_lt (Nat.lt_of_lt_of_le (Heap.lt_size e) I.ok.above))).trans e1⟩
  ·by_cases hj : j = i
   ·subst hj
    rw [hi] at e1; cases e1
    rw [List.getElem?_set_self hiσ] at e2
    cases e2
    exact ⟨u, r, .inl ⟨hk, by simp⟩⟩
   ·rw [List.getElem?_set_ne (Ne.symm hj)] at e2
    obtain ⟨u', r', q⟩ := hl j y v' e1 e2 e3
    refine ⟨u', r', ?_⟩
    rcases q with ⟨k, e⟩ | ⟨k, c, e, z⟩
    ·refine .inl ⟨k, ?_⟩
     have : y ≠ x := fun e => hj (Zg9 hN e1 (e ▸ hi))
     simp [this, e]
    ·exact .inr ⟨k, c, e, z.sameBut hs (cne y c e)⟩
  ·obtain ⟨w', z⟩ := I.cell y c e
   exact ⟨w', z.sameBut hs (cne y c e)⟩
  ·obtain ⟨e, n, ne, nf, d⟩ := I.pin p hp
   exact ⟨(hs.2 p.1 ne).trans e, n, ne, nf, d⟩
 ·have hfn : X.fn x = true := by
   rcases hf with z | z
   ·exact z
   ·rw [z] at hk; cases hk
  obtain ⟨c, hc⟩ := I.ok.has x (.inl hk)
  obtain ⟨w', z⟩ := I.cell x c hc
  refine wpAny_storeName_cell I.ok.kind hk hc z (fun h' hc' hs => ?_)
  obtain ⟨oc, hoc, hocd⟩ := id z
  refine h { s with heap := h' } ⟨I.ok, I.os, I.bare, ⟨fun b o e n hb hx => ?_, fun b o e n hb hx => ?_, I.base.free, fun b o e hx => ?_, I.base.tups, I.base.frzs, I.base.tbls⟩, ⟨m, hn.sameBut hs (Ne.symm (cne x c hc)), fun j y v' e1 e2 e3 => ?_⟩, fun y c' e => ?_, I.free, I.freeC, fun p hp => ?_, tracked ⟨oc, hoc, I.freeC x c hc⟩ hs, by simpa using I.len⟩ ⟨c, hs, .inr hc⟩
  ·exact (hs.2 b (Nat.ne_of_lt (Nat.lt_of_lt_of_le (Heap.lt_size e) (I.ok.cab x c hfn hc)))).trans (I.base.keep b o e n hb hx)
  ·obtain ⟨sl, e1⟩ := I.base.slot b o e n hb hx
   exact ⟨sl, (hs.2 b (Nat.ne_of_lt (Nat.lt_of_lt_of_le (Heap.lt_size e) (I.ok.cab x c hfn hc)))).trans e1⟩
  ·obtain ⟨o', e1⟩ := I.base.there b o e hx
   exact ⟨o', (hs.2 b (Nat.ne_of_lt (Nat.lt_of_lt_of_le (Heap.lt_size e) (I.ok.cab x c hfn hc)))).trans e1⟩
  ·by_cases hj : j = i
   ·subst hj
    rw [hi] at e1; cases e1
    rw [List.getElem?_set_self hiσ] at e2
    cases e2
    exact ⟨u, r, .inr ⟨.inl hk, c, hc, hc'⟩⟩
   ·rw [List.getElem?_set_ne (Ne.symm hj)] at e2
    obtain ⟨u', r', q⟩ := hl j y v' e1 e2 e3
    refine ⟨u', r', ?_⟩
    rcases q with q | ⟨k, c', e, z'⟩
    ·exact .inl q
    ·refine .inr ⟨k, c', e, z'.sameBut hs ?_⟩
     rintro rfl
     exact hj (Zg9 hN e1 (I.ok.inj _ _ _ e hc ▸ hi))
  ·by_cases hcc : c' = c
   ·subst hcc; exact ⟨_, hc'⟩
   ·obtain ⟨w2, z2⟩ := I.cell y c' e
    exact ⟨w2, z2.sameBut hs hcc⟩
  ·obtain ⟨e, n, ne, nf, d⟩ := I.pin p hp
   refine ⟨(hs.2 p.1 ?_).trans e, n, ne, nf, d⟩
   intro q
   rw [q, hoc] at e
   have q' : oc = p.2 := Option.some.inj e
   exact d w' (by rw [← q']; exact hocd)
theorem Zhc {M : Model} {A : Around} {E : Value → Shared → Prop} {i : Nat} {x : Str} {v : V} {u : Value} {Q : Unit → Shared → Prop} (I : Inv X pins σ H s) (hN : X.N.Nodup) (hi : X.N[i]? = some x) (hx : Loc X.env.scope x) (r : RelV v u)
  (h : ∀ s', Inv X pins (σ.set i (some v)) H s' → Q () s') (hf : X.fn x = true ∨ X.env.scope.names.lookup x = some .local := by first | exact .inl rfl | exact .inr rfl | assumption) : wpAny M A (storeName X.env x u) Q E s :=
 Zfy I hN hi hx r (fun s' I' _ => h s' I') hf
theorem Inv.call' {s' : Shared} {ch : List Addr} (I : Inv X pins σ H s) (ho : s'.os = s.os) (u : Un (frs X.stack) ch H H' s.heap s'.heap) (hok : HOk X.prog X.w H' s'.heap) (hg : AllBare s'.gens)
  (hch : ∀ b ∈ ch, (b ∈ X.ex ∨ X.s₀.heap.objs.size ≤ b) ∧ b ≠ X.env.locals ∧ (∀ x c, X.env.cells.lookup x = some c → c ≠ b) ∧ ∀ p ∈ X.pn ++ pins, p.1 ≠ b) : Inv X pins σ H' s' := by
 obtain ⟨h', g', d', t', o'⟩ := s'
 have e : o' = s.os := ho
 subst e
 exact I.call (g' := g') (t' := t') (d' := d') u hok hg hch
end
abbrev XK := Value → Option Addr → Hp → Prop
abbrev St := List (Option V)
abbrev VK := V → Hp → Prop
abbrev TE := St → Hp → VK → Prop
abbrev TT := St → Hp → (Bool → Hp → Prop) → Prop
abbrev TA := St → Hp → (List V → Hp → Prop) → Prop
structure Ends where
 nx : St → Hp → Prop
 rt : VK
 bk : St → Hp → Prop := fun _ _ => False
 ct : St → Hp → Prop := fun _ _ => False
abbrev TS := Ends → St → Hp → Prop
def EP (X : Cx) (pins : List (Addr × Obj)) (σ : St) (Q : VK) (u : Value) (s' : Shared) : Prop := ∃ v H', Inv X pins σ H' s' ∧ RelV v u ∧ Q v H'
def TP (X : Cx) (pins : List (Addr × Obj)) (σ : St) (Q : Bool → Hp → Prop) (b : Bool) (s' : Shared) : Prop := ∃ H', Inv X pins σ H' s' ∧ Q b H'
def AP (X : Cx) (pins : List (Addr × Obj)) (σ : St) (Q : List V → Hp → Prop) (us : List Value) (s' : Shared) : Prop := ∃ vs H', Inv X pins σ H' s' ∧ Vals vs us ∧ Q vs H'
def SP (X : Cx) (pins : List (Addr × Obj)) (D : Ends) (f : Flow) (s' : Shared) : Prop :=
 match f with
 | .next => ∃ σ' H', Inv X pins σ' H' s' ∧ D.nx σ' H'
 | .brk => ∃ σ' H', Inv X pins σ' H' s' ∧ D.bk σ' H'
 | .cont => ∃ σ' H', Inv X pins σ' H' s' ∧ D.ct σ' H'
 | .ret u => ∃ v σ' H', Inv X pins σ' H' s' ∧ RelV v u ∧ D.rt v H'
def PE (X : Cx) (e : Expr) (t : TE) : Prop :=
 ∀ (pins : List (Addr × Obj)) (s : Shared) (σ : St) (H : Hp) (Q : VK), Inv X pins σ H s → t σ H Q → wpAny (model X.prog X.w) X.A (eval e X.env) (EP X pins σ Q) X.xe s
def PT (X : Cx) (e : Expr) (t : TT) : Prop :=
 ∀ (pins : List (Addr × Obj)) (s : Shared) (σ : St) (H : Hp) (Q : Bool → Hp → Prop), Inv X pins σ H s → t σ H Q → wpAny (model X.prog X.w) X.A (isTrue e X.env (eval e X.env)) (TP X pins σ Q) X.xe s
def PW (X : Cx) (e : Expr) (t : TT) : Prop :=
 ∀ (whole : Sem Value) (pins : List (Addr × Obj)) (s : Shared) (σ : St) (H : Hp) (Q : Bool → Hp → Prop), Inv X pins σ H s → t σ H Q → wpAny (model X.prog X.w) X.A (isTrue e X.env whole) (TP X pins σ Q) X.xe s
theorem PW.pt {X : Cx} {e : Expr} {t : TT} (h : PW X e t) : PT X e t := h _
def PA (X : Cx) (es : List Expr) (t : TA) : Prop :=
 ∀ (pos : Pos) (pins : List (Addr × Obj)) (s : Shared) (σ : St) (H : Hp) (Q : List V → Hp → Prop), Inv X pins σ H s → t σ H Q → wpAny (model X.prog X.w) X.A (spliced (backTo pos (starEach es X.env))) (AP X pins σ Q) X.xe s
def PS (X : Cx) (st : Stmt) (t : TS) : Prop :=
 ∀ (pins : List (Addr × Obj)) (s : Shared) (σ : St) (H : Hp) (D : Ends), Inv X pins σ H s → t D σ H → wpAny (model X.prog X.w) X.A (exec st X.env) (SP X pins D) X.xe s
def PSs (X : Cx) (st : List Stmt) (t : TS) : Prop :=
 ∀ (pins : List (Addr × Obj)) (s : Shared) (σ : St) (H : Hp) (D : Ends), Inv X pins σ H s → t D σ H → wpAny (model X.prog X.w) X.A (execs st X.env) (SP X pins D) X.xe s
theorem thn {α : Type} {t : Sem α} {Q Q' : α → Shared → Prop} {M : Model} {A : Around} {E : Value → Shared → Prop} {s : Shared} (h : wpAny M A t Q E s) (hQ : ∀ a s, Q a s → Q' a s) : wpAny M A t Q' E s := wpAny_mono h hQ fun _ _ x => x
end L2
namespace L2
open PySem PySem.Spec PyProof.Rows
section
variable {X : Cx}
def Zop (i : Nat) : TE := fun σ H Q => ∃ v, σ[i]? = some (some v) ∧ Q v H
def tC (v : V) : TE := fun _ H Q => Q v H
theorem ZmB {i : Nat} {x : Str} {pos : Pos} (hN : X.N[i]? = some x) (hv : Vis X.env.scope x) (hd : (x == ("__debug__" : Str)) = false := by decide) (hcd : (x == ("__classdict__" : Str)) = false := by decide) : PE X (.Name x pos) (Zop i) := by
 intro pins s σ H Q I h
 obtain ⟨v, e, h⟩ := h
 obtain ⟨m, hn, hl⟩ := I.loc
 obtain ⟨u, r, l⟩ := hl i x v hN e hv
 have fin : EP X pins σ Q u s := ⟨v, H, I, r, h⟩
 rcases l with ⟨hk, hm⟩ | ⟨hk, c, hc, hcell⟩
 ·exact wpAny_Name (wpAny_loadName_local I.ok.kind hk hn hm fin) hd
 ·rcases hk with hk | hk
  ·exact wpAny_Name (wpAny_loadName_cell I.ok.kind hk hc hcell fin) hd
  ·exact wpAny_Name (wpAny_loadName_free I.ok.kind hk hc hcell fin hcd) hd
theorem Zl9 {i j pos} : PE X (.Constant (.int i) j pos) (tC (.int i)) := fun _ _ _ H _ I h => wpAny_Constant_int ⟨.int i, H, I.tok _, ⟨_, rfl⟩, h⟩
theorem Zm8 {b j pos} : PE X (.Constant (.bool b) j pos) (tC (.bl b)) := fun _ _ _ H _ I h => Constant_bool ⟨.bl b, H, I, rfl, h⟩
theorem Zmk {x j pos} : PE X (.Constant (.str x) j pos) (tC (.str x)) := fun _ _ _ H _ I h => Calls.Constant_str ⟨.str x, H, I.tok _, ⟨_, rfl⟩, h⟩
def Gl (X : Cx) (x : Str) : Prop := X.env.kindOf x = some .globalImplicit
theorem Zk5 {E : Value → Shared → Prop} {pins : List (Addr × Obj)} {s : Shared} {σ : St} {H : Hp} {x : Str} {u : Value} {pos : Pos} {Q : Value → Shared → Prop} (I : Inv X pins σ H s) (hg : Gl X x) (hm : X.mg x = some u) (h : Q u s)
  (hd : (x == ("__debug__" : Str)) = false := by decide) : wpAny (model X.prog X.w) X.A (eval (.Name x pos) X.env) Q E s :=
 Calls.Name_function_global I.ok.kind hg (Calls.loadGlobal_global (by rw [I.ok.glob]; exact I.mod.glob.keeps I.bk) hm h) hd
theorem Zgp {E : Value → Shared → Prop} {pins : List (Addr × Obj)} {s : Shared} {σ : St} {H : Hp} {x : Str} {u : Value} {pos : Pos} {Q : Value → Shared → Prop} (I : Inv X pins σ H s) (hg : Gl X x) (hm : X.mg x = none) (hv : bootBuiltins x = some u) (h : Q u s)
  (hn : x ≠ "__name__" := by decide) (hd : (x == ("__debug__" : Str)) = false := by decide) : wpAny (model X.prog X.w) X.A (eval (.Name x pos) X.env) Q E s := by
 obtain ⟨mb, h1, h2⟩ := I.mod.blt
 exact Calls.Name_function_global I.ok.kind hg (Calls.loadGlobal_builtin (by rw [I.ok.glob]; exact I.mod.glob.keeps I.bk) hm (by rw [I.ok.blt]; exact h1.keeps I.bk) ((h2 x hn).trans hv) h) hd
variable {a b : Expr} {ta tb : TE} {pos : Pos}
def tB (t : TE) : TT := fun σ H Q => t σ H fun x H1 => ∃ c, x = .bl c ∧ Q c H1
theorem Zms {e : Expr} {t : TE} (h : PE X e t) (he : ∀ whole, isTrue e X.env whole = (do let v ← whole; standAt e.pos; holding [v] (truthy v)) := by intro _; rfl) : PT X e (tB t) := by
 intro pins s σ H Q I hw
 refine isTrue_plain (thn (h pins s σ H _ I hw) fun v s1 ⟨x, H1, I1, r1, q1⟩ => ?_) (he _)
 obtain ⟨d, rfl, q⟩ := q1
 cases r1
 exact wpAny_truthy_bool ⟨H1, I1, q⟩
variable {tA tB' : TT} {rest : List Expr}
def Zok (t u : TT) : TT := fun σ H Q => t σ H fun c H1 => if c = true then u σ H1 Q else Q false H1
def tOr (t u : TT) : TT := fun σ H Q => t σ H fun c H1 => if c = true then Q true H1 else u σ H1 Q
theorem ZkL (ha : PT X a tA) : PW X (.BoolOp .And [a] pos) tA := by
 intro wh pins s σ H Q I h
 refine isTrue_and (thn (ha pins s σ H Q I h) fun c s1 e => ?_)
 cases c with
 | true => exact isTrue_and_nil e
 | false => exact e
theorem ZmK (ha : PT X a tA) : PW X (.BoolOp .Or [a] pos) tA := by
 intro wh pins s σ H Q I h
 refine isTrue_or (thn (ha pins s σ H Q I h) fun c s1 e => ?_)
 cases c with
 | false => exact isTrue_or_nil e
 | true => exact e
theorem ZmL (ha : PT X a tA) (hb : PW X (.BoolOp .And (b :: rest) pos) tB') : PW X (.BoolOp .And (a :: b :: rest) pos) (Zok tA tB') := by
 intro wh pins s σ H Q I h
 refine isTrue_and (thn (ha pins s σ H _ I h) fun c s1 ⟨H1, I1, q1⟩ => ?_)
 cases c with
 | true => exact hb wh pins s1 σ H1 Q I1 q1
 | false => exact ⟨H1, I1, q1⟩
theorem Znx (ha : PT X a tA) (hb : PW X (.BoolOp .Or (b :: rest) pos) tB') : PW X (.BoolOp .Or (a :: b :: rest) pos) (tOr tA tB') := by
 intro wh pins s σ H Q I h
 refine isTrue_or (thn (ha pins s σ H _ I h) fun c s1 ⟨H1, I1, q1⟩ => ?_)
 cases c with
 | true => exact ⟨H1, I1, q1⟩
 | false => exact hb wh pins s1 σ H1 Q I1 q1
def tIf (t : TT) (ta tb : TE) : TE := fun σ H Q => t σ H fun c H1 => if c = true then ta σ H1 Q else tb σ H1 Q
theorem ZjT {c : Expr} (hc : PT X c tA) (ha : PE X a ta) (hb : PE X b tb) : PE X (.IfExp c a b pos) (tIf tA ta tb) := by
 intro pins s σ H Q I h
 refine wpAny_IfExp (thn (hc pins s σ H _ I h) fun d s1 ⟨H1, I1, q1⟩ => ?_)
 cases d with
 | true => exact ha pins s1 σ H1 Q I1 q1
 | false => exact hb pins s1 σ H1 Q I1 q1
end
end L2
namespace L2
open PySem PySem.Spec PyProof.Rows
def SqL (K : PySem.W.Frag) (H : Hp) (a : Addr) (xs : List V) : Prop :=
 Rd H a (.lst xs) ∨
  ∃ (o : Obj) (its : Array Value) (n : Nat), K.lookup a = some o ∧ o.cls = .type "list" ∧ o.dict = none ∧ o.data = .seq its n ∧ its.size ≤ sizeLine ∧ Vals xs its.toList
def SqT (K : PySem.W.Frag) (H : Hp) (a : Addr) (xs : List V) : Prop :=
 Rd H a (.tup xs) ∨
  ∃ (o : Obj) (its : Array Value) (n : Nat), K.lookup a = some o ∧ (o.cls = .type "tuple" ∧ o.dict = none) ∧ o.data = .seq its n ∧ its.size ≤ sizeLine ∧ Vals xs its.toList
def Zof : Value → Option V
 | .none => some .non
 | .bool b => some (.bl b)
 | .int i _ => some (.int i)
 | .str x _ => some (.str x)
 | .bytes b _ => some (.byt b)
 | .float b _ => some (.flt b)
 | .ref a => some (.ref a)
 | .type n => some (.ty n)
 | _ => none
theorem RelV.abs {x : V} {u : Value} (r : RelV x u) : Zof u = some x := by
 cases x with
 | non => cases r; rfl
 | bl _ => cases r; rfl
 | int _ => obtain ⟨t, rfl⟩ := r; rfl
 | str _ => obtain ⟨t, rfl⟩ := r; rfl
 | byt _ => obtain ⟨t, rfl⟩ := r; rfl
 | flt _ => obtain ⟨t, rfl⟩ := r; rfl
 | ref _ => cases r; rfl
 | ty _ => cases r; rfl
theorem RelV.inj {x y : V} {u : Value} (r : RelV x u) (q : RelV y u) : x = y := Option.some.inj (r.abs.symm.trans q.abs)
theorem Vals.inj : ∀ {xs ys : List V} {us : List Value}, Vals xs us → Vals ys us → xs = ys
 | _, _, _, .nil, .nil => rfl
 | _, _, _, .cons r t, .cons r' t' => by rw [r.inj r', Vals.inj t t']
section
variable {X : Cx} {pins : List (Addr × Obj)} {σ : St} {H : Hp} {s : Shared} {a : Addr} {xs ys : List V}
theorem SqL.of {K : PySem.W.Frag} (h : H a = some (.lst xs)) : SqL K H a xs := .inl (.inl h)
theorem SqT.of {K : PySem.W.Frag} (h : H a = some (.tup xs)) : SqT K H a xs := .inl (.inl h)
theorem Inv.list (I : Inv X pins σ H s) (h : SqL X.K H a xs) : ∃ its : List Value, Vals xs its ∧ PlainL s.heap a its.toArray ∧ xs.length ≤ sizeLine := by
 rcases h with h | ⟨o, its, n, hk, hc, hd, hs, hz, r⟩
 ·obtain ⟨z, its, n, r, e⟩ := h.ok I.hok
  exact ⟨its, r, ⟨_, n, e, rfl, rfl, rfl⟩, z⟩
 ·refine ⟨its.toList, r, ⟨o, n, I.kIn a o hk, hc, hd, by simpa using hs⟩, ?_⟩
  have e := r.length
  simp only [Array.length_toList] at e
  omega
theorem Inv.tuple (I : Inv X pins σ H s) (h : SqT X.K H a xs) : ∃ its : List Value, Vals xs its ∧ IsTup s.heap a its.toArray ∧ xs.length ≤ sizeLine := by
 rcases h with h | ⟨o, its, n, hk, hc, hs, hz, r⟩
 ·obtain ⟨z, its, r, p⟩ := h.ok I.hok
  exact ⟨its, r, p.tup, z⟩
 ·refine ⟨its.toList, r, ⟨o, I.kIn a o hk, hc.1, n, by simpa using hs⟩, ?_⟩
  have e := r.length
  simp only [Array.length_toList] at e
  omega
theorem Inv.list_inj (I : Inv X pins σ H s) (h : SqL X.K H a xs) (h' : SqL X.K H a ys) : xs = ys := by
 obtain ⟨its, r, ⟨o, n, e, _, _, d⟩, _⟩ := I.list h
 obtain ⟨its', r', ⟨o', n', e', _, _, d'⟩, _⟩ := I.list h'
 rw [e] at e'; cases e'
 rw [d] at d'
 injection d' with d1 _
 have : its = its' := by simpa using congrArg Array.toList d1
 subst this
 exact r.inj r'
theorem Inv.tupleN (I : Inv X pins σ H s) (h : SqT X.K H a xs) : ∃ its : List Value, Vals xs its ∧ Zcm s.heap a its.toArray ∧ xs.length ≤ sizeLine := by
 rcases h with h | ⟨o, its, n, hk, hc, hs, hz, r⟩
 ·obtain ⟨z, its, r, p⟩ := h.ok I.hok; exact ⟨its, r, p, z⟩
 ·refine ⟨its.toList, r, ⟨o, I.kIn a o hk, hc, n, by simpa using hs⟩, ?_⟩; have e := r.length; simp only [Array.length_toList] at e; omega
theorem Inv.tuple_inj (I : Inv X pins σ H s) (h : SqT X.K H a xs) (h' : SqT X.K H a ys) : xs = ys := by
 obtain ⟨its, r, ⟨o, e, _, n, d⟩, _⟩ := I.tuple h
 obtain ⟨its', r', ⟨o', e', _, n', d'⟩, _⟩ := I.tuple h'
 rw [e] at e'; cases e'
 rw [d] at d'
 injection d' with d1 _
 have : its = its' := by simpa using congrArg Array.toList d1
 subst this
 exact r.inj r'
end
abbrev Cx.wish (X : Cx) (E : Value → Shared → Prop) : Cx := { X with xe := E }
abbrev Cx.nox (X : Cx) : Cx := X.wish fun _ _ => False
theorem Cx.Ok.wish {X : Cx} (ok : X.Ok) (E : Value → Shared → Prop) : (X.wish E).Ok :=
 ⟨ok.mod, ok.kind, ok.glob, ok.blt, ok.above, ok.inj, ok.has, ok.cab, ok.hd, ok.frames, ok.stk, ok.exf, ok.bs, ok.bsz, ok.noex, ok.exfs, ok.funs, ok.frf⟩
theorem Cx.Ok.unwish {X : Cx} {E : Value → Shared → Prop} (ok : (X.wish E).Ok) : X.Ok :=
 ⟨ok.mod, ok.kind, ok.glob, ok.blt, ok.above, ok.inj, ok.has, ok.cab, ok.hd, ok.frames, ok.stk, ok.exf, ok.bs, ok.bsz, ok.noex, ok.exfs, ok.funs, ok.frf⟩
section
variable {X : Cx} {pins : List (Addr × Obj)} {σ : St} {H : Hp} {s : Shared} {E : Value → Shared → Prop}
theorem Inv.wish (I : Inv X pins σ H s) (E : Value → Shared → Prop) : Inv (X.wish E) pins σ H s := ⟨I.ok.wish E, I.os, I.bare, I.base, I.loc, I.cell, I.free, I.freeC, I.pin, I.hok, I.len⟩
theorem Inv.unwish (I : Inv (X.wish E) pins σ H s) : Inv X pins σ H s := ⟨I.ok.unwish, I.os, I.bare, I.base, I.loc, I.cell, I.free, I.freeC, I.pin, I.hok, I.len⟩
theorem SP.unwish {D : Ends} {f : Flow} {s' : Shared} (h : SP (X.wish E) pins D f s') : SP X pins D f s' := by
 cases f with
 | next => obtain ⟨σ', H', I, q⟩ := h; exact ⟨σ', H', I.unwish, q⟩
 | brk => obtain ⟨σ', H', I, q⟩ := h; exact ⟨σ', H', I.unwish, q⟩
 | cont => obtain ⟨σ', H', I, q⟩ := h; exact ⟨σ', H', I.unwish, q⟩
 | ret u => obtain ⟨v, σ', H', I, r, q⟩ := h; exact ⟨v, σ', H', I.unwish, r, q⟩
theorem PSs.nox {st : List Stmt} {t : TS} (h : PSs X.nox st t) : PSs X st t := fun pins s σ H D I hw =>
 wpAny_mono (h pins s σ H D (I.wish _) hw) (fun _ _ q => q.unwish) fun _ _ z => False.elim z
end
section
variable {X : Cx} {st : Stmt} {rest : List Stmt} {t u : TS} {e : Expr} {te : TE} {pos : Pos}
def ZnE : TS := fun D σ H => D.nx σ H
def Zn5 (t u : TS) : TS := fun D σ H => t { D with nx := u D } σ H
theorem ZkH : PSs X [] ZnE := fun _ _ σ H _ I h => wpAny_execs_nil ⟨σ, H, I, h⟩
theorem ZjM (h1 : PS X st t) (h2 : PSs X rest u) : PSs X (st :: rest) (Zn5 t u) := by
 intro pins s σ H D I h
 refine wpAny_execs_cons (thn (h1 pins s σ H { D with nx := u D } I h) fun f s1 q => ?_)
 cases f with
 | next =>
  obtain ⟨σ', H', I', q⟩ := q
  exact h2 pins s1 σ' H' D I' q
 | ret v => exact q
 | brk => exact q
 | cont => exact q
theorem ZkZ (h1 : PS X st t) : PSs X [st] t := by
 intro pins s σ H D I h
 refine wpAny_execs_cons (thn (h1 pins s σ H D I h) fun f s1 q => ?_)
 cases f with
 | next => exact wpAny_execs_nil q
 | ret v => exact q
 | brk => exact q
 | cont => exact q
theorem Inv.quiet {pins : List (Addr × Obj)} {σ : St} {H : Hp} {s : Shared} (I : Inv X pins σ H s) : interactive X.env = false := by simp [interactive, I.ok.kind]
def Znl (te : TE) : TS := fun D σ H => te σ H fun _ H1 => D.nx σ H1
theorem ZkF (he : PE X e te) (hs : swapsWith e none pos.line X.env = pure false := by rfl) : PS X (.Expr e pos) (Znl te) := by
 intro pins s σ H D I h
 exact wpAny_Expr_any (thn (he pins s σ H _ I h) fun v s1 ⟨x, H1, I1, r1, q1⟩ => ⟨σ, H1, I1, q1⟩) I.quiet hs
def Zoh (te : TE) : TS := fun D σ H => te σ H D.rt
theorem Zmv (he : PE X e te) : PS X (.Return (some e) pos) (Zoh te) := by
 intro pins s σ H D I h
 exact wpAny_Return_some (thn (he pins s σ H _ I h) fun v s1 ⟨x, H1, I1, r1, q1⟩ => ⟨x, σ, H1, I1, r1, q1⟩)
def Zn3 (c : TT) (t u : TS) : TS := fun D σ H => c σ H fun b H1 => if b = true then t D σ H1 else u D σ H1
theorem Znc {c : Expr} {a b : List Stmt} {tc : TT} (hc : PT X c tc) (ha : PSs X a t) (hb : PSs X b u) : PS X (.If c a b pos) (Zn3 tc t u) := by
 intro pins s σ H D I h
 refine wpAny_If (thn (hc pins s σ H _ I h) fun d s1 ⟨H1, I1, q1⟩ => ?_)
 cases d with
 | true => exact ha pins s1 σ H1 D I1 q1
 | false => exact hb pins s1 σ H1 D I1 q1
end
abbrev TG := V → St → Hp → (St → Hp → Prop) → Prop
abbrev TGs := List V → St → Hp → (St → Hp → Prop) → Prop
def PG (X : Cx) (target : Expr) (t : TG) : Prop :=
 ∀ (pins : List (Addr × Obj)) (s : Shared) (σ : St) (H : Hp) (v : V) (u : Value) (Q : St → Hp → Prop), Inv X pins σ H s → RelV v u → t v σ H Q →
  wpAny (model X.prog X.w) X.A (assign target X.env u) (fun _ s' => ∃ σ' H', Inv X pins σ' H' s' ∧ Q σ' H') X.xe s
def PGs (X : Cx) (ts : List Expr) (t : TGs) : Prop :=
 ∀ (pins : List (Addr × Obj)) (s : Shared) (σ : St) (H : Hp) (vs : List V) (us : List Value) (Q : St → Hp → Prop), Inv X pins σ H s → Vals vs us → t vs σ H Q →
  wpAny (model X.prog X.w) X.A (assignInOrder ((assignEach ts X.env).map (·.2)) us) (fun _ s' => ∃ σ' H', Inv X pins σ' H' s' ∧ Q σ' H') X.xe s
abbrev ZlS := V → V → V → Hp → (Hp → Prop) → Prop
def ZnH (X : Cx) (t : ZlS) : Prop :=
 ∀ (pins : List (Addr × Obj)) (s : Shared) (σ : St) (H : Hp) (o i v : V) (ov iv u : Value) (Q : Hp → Prop), Inv X pins σ H s → RelV o ov → RelV i iv → RelV v u → t o i v H Q →
  wpAny (model X.prog X.w) X.A (setItem ov iv u) (fun _ s' => ∃ H', Inv X pins σ H' s' ∧ Q H') X.xe s
section
variable {X : Cx} {pos : Pos}
def Zlm (i : Nat) : TG := fun v σ H Q => Q (σ.set i (some v)) H
theorem Zip {i : Nat} {x : Str} (hN : X.N.Nodup) (hi : X.N[i]? = some x) (hx : Loc X.env.scope x) (hf : X.fn x = true ∨ X.env.scope.names.lookup x = some .local := by first | exact .inl rfl | exact .inr rfl | assumption) : PG X (.Name x pos) (Zlm i) := by
 intro pins s σ H v u Q I r h
 exact wpAny_assign_Name (Zhc I hN hi hx r (fun s' I' => ⟨_, H, I', h⟩) hf)
def Zos : TGs := fun vs σ H Q => vs = [] ∧ Q σ H
def Zm2 (t : TG) (u : TGs) : TGs := fun vs σ H Q => ∃ v r, vs = v :: r ∧ t v σ H fun σ' H' => u r σ' H' Q
theorem ZkM : PGs X [] Zos := by
 intro pins s σ H vs us Q I r h
 obtain ⟨e, h⟩ := h
 subst e
 cases r
 exact assignInOrder_nil ⟨σ, H, I, h⟩
theorem Zjx {e : Expr} {es : List Expr} {t : TG} {u : TGs} (h1 : PG X e t) (h2 : PGs X es u)
  (hs : (assignEach (e :: es) X.env).map (·.2) = assign e X.env :: (assignEach es X.env).map (·.2) := by rfl) : PGs X (e :: es) (Zm2 t u) := by
 intro pins s σ H vs us Q I r h
 obtain ⟨v, vr, e1, h⟩ := h
 subst e1
 cases r with
 | cons r rr =>
  rw [hs]
  refine assignInOrder_cons (thn (h1 pins s σ H _ _ _ I r h) fun _ s1 ⟨σ1, H1, I1, q1⟩ => ?_)
  exact h2 pins s1 σ1 H1 _ _ Q I1 rr q1
def Zn9 (K : PySem.W.Frag) (n : Nat) (t : TGs) : TG := fun v σ H Q => ∃ a xs, v = .ref a ∧ SqT K H a xs ∧ xs.length = n ∧ t xs σ H Q
theorem Zme {es : List Expr} {k : Nat} {t : TGs} {n : Nat} (hc : X.calm = true) (h : PGs X es t)
  (hn : (assignEach es X.env).length = n := by rfl) (hst : (assignEach es X.env).findIdx? (·.1) = none := by rfl) : PG X (.Tuple es k pos) (Zn9 X.K n t) := by
 intro pins s σ H v u Q I r hw
 obtain ⟨a, xs, e1, hq, hl, hw⟩ := hw
 subst e1
 cases r
 obtain ⟨its, rv, ht, hz⟩ := I.tuple hq
 refine assign_Tuple_tuple (I.ok.hd hc) ht (by simp [hn, ← hl, rv.length]) hst fun h' hx => ?_
 have I1 : Inv X pins σ H { s with heap := h' } := I.kept (t' := s.toks) fun b o e => hx b o (Nat.ne_of_lt (Heap.lt_size e)) e
 exact h pins _ σ H xs _ Q I1 (by simpa using rv) hw
def Zod (to ti : TE) (t : ZlS) : TG := fun v σ H Q => to σ H fun o H1 => ti σ H1 fun i H2 => t o i v H2 fun H3 => Q σ H3
theorem Zml {o i : Expr} {to ti : TE} {t : ZlS} (ho : PE X o to) (hi : PE X i ti) (hs : ZnH X t)
  (ha : ∀ v, assign (.Subscript o i pos) X.env v = (do
   let ov ← holding [v] (eval o X.env)
   let iv ← holding [v, ov] (eval i X.env)
   standAt pos
   holding [v, ov, iv] (setItem ov iv v)
   release [v, ov, iv] []) := by intro _; rfl) : PG X (.Subscript o i pos) (Zod to ti t) := by
 intro pins s σ H v u Q I r h
 rw [ha]
 refine wpAny_bind (wpAny_holding (thn (ho pins s σ H _ I h) fun ov s1 ⟨x, H1, I1, r1, q1⟩ => ?_))
 refine wpAny_bind (wpAny_holding (thn (hi pins s1 σ H1 _ I1 q1) fun iv s2 ⟨y, H2, I2, r2, q2⟩ => ?_))
 refine wpAny_bind (wpAny_standAt (wpAny_bind (wpAny_holding (thn (hs pins s2 σ H2 x y v ov iv u _ I2 r1 r2 r q2) fun _ s3 ⟨H3, I3, q3⟩ => ?_))))
 exact wpAny_release ⟨σ, H3, I3, q3⟩
def Znw (te : TE) (g : TG) : TS := fun D σ H => te σ H fun x H1 => g x σ H1 D.nx
theorem Zl3 {tg e : Expr} {te : TE} {g : TG} (he : PE X e te) (hg : PG X tg g) (hs : swapsWithSole [tg] e pos.line X.env = pure false := by rfl) (hw : swappedStores [tg] e X.env = pure none := by rfl)
  (h1 : (assignEach [tg] X.env).map (·.2) = [assign tg X.env] := by rfl) : PS X (.Assign [tg] e pos) (Znw te g) := by
 intro pins s σ H D I h
 refine wpAny_Assign_stores (thn (he pins s σ H _ I h) fun v s1 ⟨x, H1, I1, r1, q1⟩ => ?_) hs hw
 rw [h1]
 exact thn (hg pins s1 σ H1 x v _ I1 r1 q1) fun _ s2 q => q
theorem ZmF {i : Nat} {x : Str} {e : Expr} {te : TE} {pos' : Pos} (hN : X.N.Nodup) (hi : X.N[i]? = some x) (hx : Loc X.env.scope x) (he : PE X e te) (hs : swapsWith e (some (.Name x pos')) pos.line X.env = pure false := by rfl) (hf : X.fn x = true ∨ X.env.scope.names.lookup x = some .local := by first | exact .inl rfl | exact .inr rfl | assumption) :
  PS X (.Assign [.Name x pos'] e pos) (Znw te (Zlm i)) := by
 intro pins s σ H D I h
 refine wpAny_Assign_Name (thn (he pins s σ H _ I h) fun v s1 ⟨y, H1, I1, r1, q1⟩ => ?_) hs
 exact Zhc I1 hN hi hx r1 (fun s2 I2 => ⟨_, H1, I2, q1⟩) hf
end
section
variable {X : Cx} {pos : Pos}
def Zmz (c : TT) (tb : TS) : TS := fun D σ H => ∃ W : Nat → St → Hp → Prop, (∃ m, W m σ H) ∧ ∀ m σ H, W m σ H →
 c σ H fun b H1 => if b = true then ∃ N : St → Hp → Prop, (∀ σ' H', N σ' H' → ∃ m', m' < m ∧ W m' σ' H') ∧ tb { D with nx := N, ct := N, bk := D.nx } σ H1 else D.nx σ H1
theorem ZjZ {c : Expr} {body : List Stmt} {tc : TT} {tb : TS} (hp : PassesOwn (model X.prog X.w) X.A X.env X.xe) (hc : PT X c tc) (hb : PSs X body tb) : PS X (.While c body [] pos) (Zmz tc tb) := by
 intro pins s σ H D I h
 obtain ⟨W, ⟨m0, w0⟩, turn⟩ := h
 refine wpAny_While (codeAny_whileLoop (fun n s' => ∃ σ' H', Inv X pins σ' H' s' ∧ W n σ' H') ?_ m0 ⟨σ, H, I, w0⟩)
 rintro n s1 ⟨σ1, H1, I1, w1⟩
 refine wpAny_passesOwn hp (thn (hc pins s1 σ1 H1 _ I1 (turn n σ1 H1 w1)) fun b s2 ⟨H2, I2, q2⟩ => ?_)
 cases b with
 | true =>
  obtain ⟨N, hN, q2⟩ := q2
  rw [if_pos rfl]
  refine wpAny_passesOwn hp (thn (hb pins s2 σ1 H2 _ I2 q2) fun f s3 q3 => ?_)
  cases f with
  | next =>
   obtain ⟨σ3, H3, I3, n3⟩ := q3
   obtain ⟨m', hm, w3⟩ := hN σ3 H3 n3
   exact ⟨m', hm, σ3, H3, I3, w3⟩
  | cont =>
   obtain ⟨σ3, H3, I3, n3⟩ := q3
   obtain ⟨m', hm, w3⟩ := hN σ3 H3 n3
   exact ⟨m', hm, σ3, H3, I3, w3⟩
  | brk => exact q3
  | ret v => exact q3
 | false =>
  rw [if_neg Bool.false_ne_true]
  exact wpAny_execs_nil ⟨σ1, H2, I2, q2⟩
end
structure It where
 go : Nat → Hp → Prop
 yld : Nat → Hp → V → Hp → Prop
 stop : Nat → Hp → Prop
def ZdI (X : Cx) (pins : List (Addr × Obj)) (H : Hp) (b : Addr) : Prop :=
 H b = none ∧ b ≠ X.env.locals ∧ b ∉ X.fs ∧ (b ∈ X.ex ∨ X.s₀.heap.objs.size ≤ b) ∧ (∀ x c, X.env.cells.lookup x = some c → c ≠ b) ∧ ∀ p ∈ X.pn ++ pins, p.1 ≠ b
theorem Inv.fpOk {X : Cx} {pins : List (Addr × Obj)} {σ : St} {H H' : Hp} {s : Shared} {b : Addr} (I : Inv X pins σ H s) (hb : s.heap.objs.size ≤ b) (hn : H' b = none) : ZdI X pins H' b := by
 refine ⟨hn, Nat.ne_of_gt (Nat.lt_of_lt_of_le I.lt hb), I.nofs hb, .inr (Nat.le_trans I.sz hb), fun x c e z => ?_, fun p hp z => ?_⟩
 ·obtain ⟨v, q⟩ := I.cell x c e
  exact absurd (Nat.lt_of_lt_of_le q.lt (by rw [z]; exact hb)) (Nat.lt_irrefl _)
 ·exact absurd (Nat.lt_of_lt_of_le (Heap.lt_size (I.pin p hp).1) (by rw [z]; exact hb)) (Nat.lt_irrefl _)
structure Turn (P : Program) (w : World) (K : PySem.W.Frag) (tg : Expr) (J : It) (fp : List Addr) (it : Addr) (tn : Nat → Heap → Prop) : Prop where
 mem : it ∈ fp
 obj : ∀ i h, tn i h → ∀ b ∈ fp, ∃ o, h.get? b = some o ∧ ∀ v, o.data ≠ .cell v
 keep : ∀ i h h', tn i h → (∀ b ∈ fp, ∀ o, h.get? b = some o → h'.get? b = some o) → tn i h'
 item : ∀ (X : Cx), X.prog = P → X.w = w → X.K = K → X.calm = true → ∀ (i : Nat) (pins : List (Addr × Obj)) (s : Shared) (σ : St) (H : Hp) (E : Value → Shared → Prop), Inv X pins σ H s → (∀ b ∈ fp, ZdI X pins H b) → tn i s.heap → J.go i H →
  wpAny (model P w) X.A (pyNext (.ref it)) (fun r s1 => ∃ u, r = some u ∧
   wpAny (model P w) X.A (letOwnedTupleGo tg (.ref it) u) (fun _ s2 => ∃ x H', Inv X pins σ H' s2 ∧ RelV x u ∧ J.yld i H x H' ∧ tn (i + 1) s2.heap ∧ ∀ b ∈ fp, H' b = none) E s1) E s
 done : ∀ (X : Cx), X.prog = P → X.w = w → X.K = K → X.calm = true → ∀ (i : Nat) (pins : List (Addr × Obj)) (s : Shared) (σ : St) (H : Hp) (E : Value → Shared → Prop), Inv X pins σ H s → (∀ b ∈ fp, ZdI X pins H b) → tn i s.heap → J.stop i H →
  wpAny (model P w) X.A (pyNext (.ref it)) (fun r s1 => r = none ∧ Inv X pins σ H s1) E s
 self : ∀ (A : Around) (i : Nat) (s : Shared) (Q : Value → Shared → Prop) (E : Value → Shared → Prop), tn i s.heap → Q (.ref it) s → wpAny (model P w) A (pyIter (.ref it)) Q E s
abbrev TI := St → Hp → (It → Hp → Prop) → Prop
def PIE (X : Cx) (pins : List (Addr × Obj)) (σ : St) (tg : Expr) (R : It → Hp → Prop) (itv : Value) (s2 : Shared) : Prop :=
 ∃ (it : Addr) (fp : List Addr) (tn : Nat → Heap → Prop) (J : It) (H' : Hp), itv = .ref it ∧ Inv X pins σ H' s2 ∧ Turn X.prog X.w X.K tg J fp it tn ∧ tn 0 s2.heap ∧ (∀ b ∈ fp, ZdI X pins H' b) ∧ R J H'
def PI (X : Cx) (tg iter : Expr) (wi : TI) : Prop :=
 ∀ (pins : List (Addr × Obj)) (s : Shared) (σ : St) (H : Hp) (R : It → Hp → Prop), Inv X pins σ H s → wi σ H R →
  wpAny (model X.prog X.w) X.A (eval iter X.env) (fun v s1 => wpAny (model X.prog X.w) X.A (pyIter v) (PIE X pins σ tg R) X.xe s1) X.xe s
theorem ZgP {M : Model} {A : Around} {E : Value → Shared → Prop} {s : Shared} {tg : Expr} {it : Addr} {u : Value} {o : Obj} {n : String} {vs : Array Value} {Q : Unit → Shared → Prop} (ho : s.heap.get? it = some o) (hc : o.cls = .type n) (hd : o.data = .fields vs)
  (hn : ["enumerate", "zip", "dict_itemiterator", "dict_reverseitemiterator", "odict_iterator", "itertools.zip_longest", "itertools.pairwise"].contains n = false) (hQ : Q () s) : wpAny M A (letOwnedTupleGo tg (.ref it) u) Q E s := by
 unfold letOwnedTupleGo
 cases tg <;> first
  | exact wpAny_pure hQ
  | (cases u <;> first
    | exact wpAny_pure hQ
    | (refine wpAny_bind (wpAny_load ho ?_)
       rw [hc, hd]
       show wpAny M A (if (["enumerate", "zip", "dict_itemiterator", "dict_reverseitemiterator", "odict_iterator", "itertools.zip_longest", "itertools.pairwise"].contains n && vs[0]? == some (rawInt _)) = true then _ else _) Q E s
       rw [if_neg (by intro h; rw [hn, Bool.false_and] at h; cases h)]
       exact wpAny_pure hQ))
def Itl (K : PySem.W.Frag) (a : Addr) : It :=
 ⟨fun i H => ∃ xs x, SqL K H a xs ∧ xs[i]? = some x, fun i H x H' => H' = H ∧ ∀ xs, SqL K H a xs → xs[i]? = some x, fun i H => ∃ xs, SqL K H a xs ∧ xs.length ≤ i⟩
def Itt (K : PySem.W.Frag) (a : Addr) : It :=
 ⟨fun i H => ∃ xs x, SqT K H a xs ∧ xs[i]? = some x, fun i H x H' => H' = H ∧ ∀ xs, SqT K H a xs → xs[i]? = some x, fun i H => ∃ xs, SqT K H a xs ∧ xs.length ≤ i⟩
def Itr (lo : Int) (n : Nat) : It := ⟨fun i _ => i < n, fun i H x H' => H' = H ∧ x = .int (lo + i), fun i _ => n ≤ i⟩
theorem Zi8 {P : Program} {w : World} {K : PySem.W.Frag} {tg : Expr} (a it : Addr) : Turn P w K tg (Itl K a) [it] it (fun i h => h.IsListIter it a i) where
 mem := by simp
 obj := fun i h st b hb => by
  have e : b = it := by simpa using hb
  subst e
  obtain ⟨o, e, c, d⟩ := st
  exact ⟨o, e, fun v z => by rw [d] at z; cases z⟩
 keep := fun i h h' st k => st.at fun o e => k it (by simp) o e
 item := by
  intro X hP hw hK hc i pins s σ H E I hf st hg
  subst hP hw hK
  obtain ⟨xs, x, hq, hx⟩ := hg
  obtain ⟨its, rv, p, hz⟩ := I.list hq
  obtain ⟨u, hu, ru⟩ := rv.get hx
  obtain ⟨f0, f1, f2, f3, f4, f5⟩ := hf it (by simp)
  refine wpAny_pyNext_list_item st p.isList (x := u) (by simpa using hu) fun h' st' sb => ?_
  have I1 : Inv X pins σ H { s with heap := h' } := I.turned (t' := s.toks) (fun b o hb e => (sb.2 b hb).trans e) f0 f1 f3 f4 f5
  obtain ⟨o, e, c, d⟩ := id st'
  exact ⟨u, rfl, ZgP (s := { s with heap := h' }) e c d (by decide) ⟨x, H, I1, ru, ⟨rfl, fun ys hy => by rw [I.list_inj hy hq]; exact hx⟩, st', fun b hb => (hf b hb).1⟩⟩
 done := by
  intro X hP hw hK hc i pins s σ H E I hf st hg
  subst hP hw hK
  obtain ⟨xs, hq, hx⟩ := hg
  obtain ⟨its, rv, p, hz⟩ := I.list hq
  obtain ⟨f0, f1, f2, f3, f4, f5⟩ := hf it (by simp)
  have hl := rv.length
  exact wpAny_pyNext_list_end (I.ok.hd hc) st p.isList (by simp; omega) fun h' eb => ⟨rfl, I.turned (t' := s.toks) (fun b o hb e => eb b o hb e) f0 f1 f3 f4 f5⟩
 self := fun _ _ _ _ _ st h => wpAny_pyIter_listiter st h
theorem ZhJ {P : Program} {w : World} {K : PySem.W.Frag} {tg : Expr} (a it : Addr) : Turn P w K tg (Itt K a) [it] it (fun i h => h.IsTupleIter it a i) where
 mem := by simp
 obj := fun i h st b hb => by
  have e : b = it := by simpa using hb
  subst e
  obtain ⟨o, e, c, d⟩ := st
  exact ⟨o, e, fun v z => by rw [d] at z; cases z⟩
 keep := fun i h h' st k => st.at fun o e => k it (by simp) o e
 item := by
  intro X hP hw hK hc i pins s σ H E I hf st hg
  subst hP hw hK
  obtain ⟨xs, x, hq, hx⟩ := hg
  obtain ⟨its, rv, p, hz⟩ := I.tuple hq
  obtain ⟨u, hu, ru⟩ := rv.get hx
  obtain ⟨f0, f1, f2, f3, f4, f5⟩ := hf it (by simp)
  refine wpAny_pyNext_tuple_item st (show s.heap.IsTuple a its.toArray from p) (x := u) (by simpa using hu) fun h' st' sb => ?_
  have I1 : Inv X pins σ H { s with heap := h' } := I.turned (t' := s.toks) (fun b o hb e => (sb.2 b hb).trans e) f0 f1 f3 f4 f5
  obtain ⟨o, e, c, d⟩ := id st'
  exact ⟨u, rfl, ZgP (s := { s with heap := h' }) e c d (by decide) ⟨x, H, I1, ru, ⟨rfl, fun ys hy => by rw [I.tuple_inj hy hq]; exact hx⟩, st', fun b hb => (hf b hb).1⟩⟩
 done := by
  intro X hP hw hK hc i pins s σ H E I hf st hg
  subst hP hw hK
  obtain ⟨xs, hq, hx⟩ := hg
  obtain ⟨its, rv, p, hz⟩ := I.tuple hq
  obtain ⟨f0, f1, f2, f3, f4, f5⟩ := hf it (by simp)
  have hl := rv.length
  exact wpAny_pyNext_tuple_end (I.ok.hd hc) st (show s.heap.IsTuple a its.toArray from p) (by simp; omega) fun h' eb => ⟨rfl, I.turned (t' := s.toks) (fun b o hb e => eb b o hb e) f0 f1 f3 f4 f5⟩
 self := fun _ _ _ _ _ st h => wpAny_pyIter_tupleiter st h
theorem ZhC {P : Program} {w : World} {K : PySem.W.Frag} {tg : Expr} (it : Addr) (lo : Int) (n : Nat) : Turn P w K tg (Itr lo n) [it] it (fun i h => IsRangeIter h it (lo + (i : Nat) * 1) ((n : Int) - (i : Nat)) 1) where
 mem := by simp
 obj := fun i h st b hb => by
  have e : b = it := by simpa using hb
  subst e
  exact ⟨_, st, fun v z => by
   have z' : Data.fields _ = Data.cell v := z
   cases z'⟩
 keep := fun i h h' st k => k it (by simp) _ st
 item := by
  intro X hP hw hK hc i pins s σ H E I hf st hg
  subst hP hw hK
  obtain ⟨f0, f1, f2, f3, f4, f5⟩ := hf it (by simp)
  have W := Walks.range (prog := X.prog) (w := X.w) (I.ok.hd hc) it lo 1 n
  refine W.item i s _ _ hg st fun v h' tk hv st' kk => ?_
  obtain ⟨t, rfl⟩ := hv
  have I1 : Inv X pins σ H { s with heap := h', toks := tk } := I.turned (fun b o hb e => kk b o (by simpa using hb) e) f0 f1 f3 f4 f5
  refine ⟨_, rfl, ZgP (s := { s with heap := h', toks := tk }) (n := "range_iterator") st' rfl rfl (by decide) ⟨.int (lo + i), H, I1, ⟨t, ?_⟩, ⟨rfl, rfl⟩, st', fun b hb => (hf b hb).1⟩⟩
  rw [Int.mul_one]
 done := by
  intro X hP hw hK hc i pins s σ H E I hf st hg
  subst hP hw hK
  obtain ⟨f0, f1, f2, f3, f4, f5⟩ := hf it (by simp)
  exact wpAny_pyNext_range_end (I.ok.hd hc) st (by have : n ≤ i := hg; omega) fun h' eb => ⟨rfl, I.turned (t' := s.toks) (fun b o hb e => eb b o hb e) f0 f1 f3 f4 f5⟩
 self := fun _ _ _ _ _ st h => wpAny_pyIter_rangeiter st h
end L2
namespace L2
open PySem PySem.Spec PyProof.Rows
section
variable {X : Cx} {tg : Expr}
def ZmZ (K : PySem.W.Frag) (tl : TE) : TI := fun σ H R => tl σ H fun x H1 => ∃ a, x = .ref a ∧ (∃ xs, SqL K H1 a xs) ∧ R (Itl K a) H1
def Zn4 (K : PySem.W.Frag) (tl : TE) : TI := fun σ H R => tl σ H fun x H1 => ∃ a, x = .ref a ∧ (∃ xs, SqT K H1 a xs) ∧ R (Itt K a) H1
theorem Zlb {l : Expr} {tl : TE} (hl : PE X l tl) : PI X tg l (ZmZ X.K tl) := by
 intro pins s σ H R I h
 refine thn (hl pins s σ H _ I h) fun v s1 ⟨x, H1, I1, r1, q1⟩ => ?_
 obtain ⟨a, e, ⟨xs, hq⟩, q⟩ := q1
 subst e
 cases r1
 obtain ⟨its, rv, p, hz⟩ := I1.list hq
 refine wpAny_pyIter_list p.isList ?_
 refine ⟨s1.heap.objs.size, [s1.heap.objs.size], _, _, H1, rfl, I1.kept (t' := s1.toks) fun b o e => Heap.get?_push_of_some _ e, Zi8 a _, ⟨_, Heap.get?_push_size _ rfl, rfl, rfl⟩, fun b hb => ?_, q⟩
 have e : b = s1.heap.objs.size := by simpa using hb
 subst e
 exact I1.fpOk (Nat.le_refl _) (I1.hok.fresh (Nat.le_refl _))
theorem Zl2 {l : Expr} {tl : TE} (hl : PE X l tl) : PI X tg l (Zn4 X.K tl) := by
 intro pins s σ H R I h
 refine thn (hl pins s σ H _ I h) fun v s1 ⟨x, H1, I1, r1, q1⟩ => ?_
 obtain ⟨a, e, ⟨xs, hq⟩, q⟩ := q1
 subst e
 cases r1
 obtain ⟨its, rv, p, hz⟩ := I1.tuple hq
 refine wpAny_pyIter_tuple (show s1.heap.IsTuple a its.toArray from p) ?_
 refine ⟨s1.heap.objs.size, [s1.heap.objs.size], _, _, H1, rfl, I1.kept (t' := s1.toks) fun b o e => Heap.get?_push_of_some _ e, ZhJ a _, ⟨_, Heap.get?_push_size _ rfl, rfl, rfl⟩, fun b hb => ?_, q⟩
 have e : b = s1.heap.objs.size := by simpa using hb
 subst e
 exact I1.fpOk (Nat.le_refl _) (I1.hok.fresh (Nat.le_refl _))
theorem Zjs {pins : List (Addr × Obj)} {σ : St} {H : Hp} {s : Shared} {R : It → Hp → Prop} {E : Value → Shared → Prop} {lo hi : Int} {t u v : Tok} {tk : Nat} (I : Inv X pins σ H s) (h1 : -(2 ^ 62) ≤ lo) (h2 : lo < 2 ^ 62) (h3 : -(2 ^ 62) ≤ hi) (h4 : hi < 2 ^ 62)
  (q : R (Itr lo (hi - lo).toNat) H) : wpAny (model X.prog X.w) X.A (pyIter (.ref s.heap.objs.size)) (PIE X pins σ tg R) E { s with heap := s.heap.push { cls := .type "range", data := .fields #[.int lo t, .int hi u, .int 1 v] }, toks := tk } := by
 refine wpAny_pyIter_range (IsRange.new ..) (small_one h1 h2 h3 h4) ?_
 have I1 : Inv X pins σ H { s with heap := s.heap.push { cls := .type "range", data := .fields #[.int lo t, .int hi u, .int 1 v] }, toks := tk } := I.kept fun b o e => Heap.get?_push_of_some _ e
 refine ⟨(s.heap.push { cls := .type "range", data := .fields #[.int lo t, .int hi u, .int 1 v] }).objs.size, [(s.heap.push { cls := .type "range", data := .fields #[.int lo t, .int hi u, .int 1 v] }).objs.size], _, _, H, rfl,
  I1.kept (t' := tk) fun b o e => Heap.get?_push_of_some _ e, ZhC _ lo (hi - lo).toNat, ?_, fun b hb => ?_, q⟩
 ·have e1 : lo + ((0 : Nat) : Int) * 1 = lo := by simp
  have e2 : (((hi - lo).toNat : Nat) : Int) - ((0 : Nat) : Int) = Builtin.Range.rangeSize lo hi 1 := by rw [rangeSize_one]; split <;> omega
  show IsRangeIter _ _ (lo + ((0 : Nat) : Int) * 1) ((((hi - lo).toNat : Nat) : Int) - ((0 : Nat) : Int)) 1
  rw [e1, e2]
  exact Heap.get?_push_size _ rfl
 ·have e : b = (s.heap.push { cls := .type "range", data := .fields #[.int lo t, .int hi u, .int 1 v] }).objs.size := by simpa using hb
  subst e
  exact I1.fpOk (Nat.le_refl _) (I1.hok.fresh (Nat.le_refl _))
def Znp (ta : TA) : TI := fun σ H R => ta σ H fun vs H1 => ∃ j : Int, vs = [.int j] ∧ -(2 ^ 62) ≤ j ∧ j < 2 ^ 62 ∧ R (Itr 0 j.toNat) H1
theorem Zi7 {a : Expr} {ta : TA} {p pos : Pos} (hg : Gl X "range") (hm : X.mg "range" = none) (ha : PA X [a] ta) (hs : starEach [a] X.env = [(false, eval a X.env)] := by rfl) : PI X tg (.Call (.Name "range" p) [a] [] pos) (Znp ta) := by
 intro pins s σ H R I h
 refine Call_ (Zgp I hg hm boot_range (PyProof.Rows.callWith_type1 (thn (ha pos pins s σ H _ I h) fun us s1 ⟨vs, H1, I1, r1, q1⟩ => ?_) hs rfl))
 obtain ⟨j, e, q1, q2, q⟩ := q1
 subst e
 cases r1 with
 | cons r rr =>
  cases rr
  obtain ⟨t, rfl⟩ := r
  exact call_range_1 (Zjs I1 (by omega) (by omega) q1 q2 (by simpa using q))
def Zn8 (wi : TI) (g : TG) (tb : TS) : TS := fun D σ H => wi σ H fun J H1 => ∃ W : Nat → Nat → St → Hp → Prop, (∃ m, W 0 m σ H1) ∧ ∀ i m σ H, W i m σ H →
 (J.stop i H ∧ D.nx σ H) ∨ (J.go i H ∧ ∃ N : St → Hp → Prop, (∀ σ' H', N σ' H' → ∃ m', m' < m ∧ W (i + 1) m' σ' H') ∧ ∀ x H', J.yld i H x H' → g x σ H' fun σ2 H2 => tb { D with nx := N, ct := N, bk := D.nx } σ2 H2)
def ZeR (fp : List Addr) (h : Heap) : List (Addr × Obj) := fp.filterMap fun b => (h.get? b).map fun o => (b, o)
theorem ZcY {fp : List Addr} {h : Heap} {b : Addr} {o : Obj} (hb : b ∈ fp) (e : h.get? b = some o) : (b, o) ∈ ZeR fp h := List.mem_filterMap.mpr ⟨b, hb, by rw [e]; rfl⟩
theorem Zi2 {fp : List Addr} {h : Heap} {p : Addr × Obj} (hp : p ∈ ZeR fp h) : p.1 ∈ fp ∧ h.get? p.1 = some p.2 := by
 obtain ⟨b, hb, e⟩ := List.mem_filterMap.mp hp
 cases q : h.get? b with
 | none => rw [q] at e; cases e
 | some o =>
  rw [q] at e
  have e' : (b, o) = p := Option.some.inj e
  subst e'
  exact ⟨hb, q⟩
theorem Inv.pinned {pins : List (Addr × Obj)} {σ : St} {H : Hp} {s : Shared} {fp : List Addr} (I : Inv X pins σ H s) (hf : ∀ b ∈ fp, ZdI X pins H b) (ho : ∀ b ∈ fp, ∃ o, s.heap.get? b = some o ∧ ∀ v, o.data ≠ .cell v) : Inv X (pins ++ ZeR fp s.heap) σ H s :=
 I.pins_of fun p hp => (List.mem_append.mp hp).elim (fun z => I.pin p (List.mem_append_right _ z)) fun z => by
  obtain ⟨hb, e⟩ := Zi2 z
  obtain ⟨f0, f1, f2, _⟩ := hf p.1 hb
  obtain ⟨o, e', d⟩ := ho p.1 hb
  rw [e] at e'; cases e'
  exact ⟨e, f0, f1, f2, d⟩
theorem Inv.unpinned {pins pl : List (Addr × Obj)} {σ : St} {H : Hp} {s : Shared} (I : Inv X (pins ++ pl) σ H s) : Inv X pins σ H s := I.pins_of fun p hp => I.pin p (List.mem_append_right _ (List.mem_append_left _ hp))
theorem Zjn {iter : Expr} {body : List Stmt} {wi : TI} {g : TG} {tb : TS} {pos : Pos} (hp : PassesOwn (model X.prog X.w) X.A X.env X.xe) (hc : X.calm = true) (hi : PI X tg iter wi) (hg : PG X tg g) (hb : PSs X body tb)
  (hs : ∀ x, foldedSetIterable iter X.env x = pure x := by intro _; rfl) : PS X (.For tg iter body [] pos) (Zn8 wi g tb) := by
 intro pins s σ H D I h
 refine wpAny_For (thn (hi pins s σ H _ I h) fun v s1 h1 => thn h1 fun itv s2 h2 => ?_) hs
 obtain ⟨it, fp, tn, J, H2, e, I2, T, st2, f2, W, ⟨m0, w0⟩, turn⟩ := h2
 subst e
 have stat : ∀ {H' : Hp}, (∀ b ∈ fp, H' b = none) → ∀ b ∈ fp, ZdI X pins H' b := fun hn b hb => ⟨hn b hb, (f2 b hb).2⟩
 refine codeAny_forLoop_any (fun n s' => ∃ i σ' H', Inv X pins σ' H' s' ∧ tn i s'.heap ∧ (∀ b ∈ fp, H' b = none) ∧ W i n σ' H') ?_ m0 ⟨0, σ, H2, I2, st2, fun b hb => (f2 b hb).1, w0⟩
 rintro n s3 ⟨i, σ3, H3, I3, st3, fr3, w3⟩
 rcases turn i n σ3 H3 w3 with ⟨stop, qn⟩ | ⟨go, N, hN, step⟩
 ·refine wpAny_passesOwn hp (thn (T.done X rfl rfl rfl hc i pins s3 σ3 H3 X.xe I3 (stat fr3) st3 stop) fun r s4 ⟨hr, I4⟩ => ?_)
  subst hr
  exact wpAny_execs_nil ⟨σ3, H3, I4, qn⟩
 ·refine wpAny_passesOwn hp (thn (T.item X rfl rfl rfl hc i pins s3 σ3 H3 X.xe I3 (stat fr3) st3 go) fun r s4 ⟨u, hr, h4⟩ => ?_)
  subst hr
  refine wpAny_passesOwn hp (thn h4 fun _ s5 ⟨x, H5, I5, r5, y5, st5, fr5⟩ => ?_)
  have I5' := I5.pinned (stat fr5) (T.obj _ _ st5)
  refine wpAny_passesOwn hp (thn (hg _ s5 σ3 H5 x u _ I5' r5 (step x H5 y5)) fun _ s6 ⟨σ6, H6, I6, q6⟩ => ?_)
  refine wpAny_passesOwn hp (thn (hb _ s6 σ6 H6 _ I6 q6) fun f s7 q7 => ?_)
  have again : ∀ {σ7 : St} {H7 : Hp}, Inv X (pins ++ ZeR fp s5.heap) σ7 H7 s7 → N σ7 H7 → ∃ m, m < n ∧ ∃ i σ' H', Inv X pins σ' H' s7 ∧ tn i s7.heap ∧ (∀ b ∈ fp, H' b = none) ∧ W i m σ' H' := fun {σ7 H7} I7 n7 => by
   obtain ⟨m', hm, w7⟩ := hN σ7 H7 n7
   refine ⟨m', hm, i + 1, σ7, H7, I7.unpinned, T.keep _ _ _ st5 fun b hb o e => (I7.pin (b, o) (List.mem_append_right _ (List.mem_append_right _ (ZcY hb e)))).1, fun b hb => ?_, w7⟩
   obtain ⟨o, e, d⟩ := T.obj _ _ st5 b hb
   exact (I7.pin (b, o) (List.mem_append_right _ (List.mem_append_right _ (ZcY hb e)))).2.1
  cases f with
  | next => obtain ⟨σ7, H7, I7, n7⟩ := q7; exact again I7 n7
  | cont => obtain ⟨σ7, H7, I7, n7⟩ := q7; exact again I7 n7
  | brk => obtain ⟨σ7, H7, I7, q7⟩ := q7; exact ⟨σ7, H7, I7.unpinned, q7⟩
  | ret v => obtain ⟨x7, σ7, H7, I7, r7, q7⟩ := q7; exact ⟨x7, σ7, H7, I7.unpinned, r7, q7⟩
end
end L2
namespace L2
open PySem PySem.Spec PyProof.Rows
abbrev R2 := V → V → Hp → VK → Prop
def OpR (X : Cx) (f : Value → Value → Sem Value) (r : R2) : Prop :=
 ∀ (pins : List (Addr × Obj)) (s : Shared) (σ : St) (H : Hp) (x y : V) (v u : Value) (Q : VK), Inv X pins σ H s → RelV x v → RelV y u → r x y H Q →
  wpAny (model X.prog X.w) X.A (f v u) (EP X pins σ Q) X.xe s
def UnR (X : Cx) (f : Value → Sem Value) (r : V → Hp → VK → Prop) : Prop :=
 ∀ (pins : List (Addr × Obj)) (s : Shared) (σ : St) (H : Hp) (x : V) (v : Value) (Q : VK), Inv X pins σ H s → RelV x v → r x H Q →
  wpAny (model X.prog X.w) X.A (f v) (EP X pins σ Q) X.xe s
def ZaN (X : Cx) (f : Value) (r : List V → Hp → VK → Prop) : Prop :=
 ∀ (pins : List (Addr × Obj)) (s : Shared) (σ : St) (H : Hp) (xs : List V) (us : List Value) (Q : VK), Inv X pins σ H s → Vals xs us → r xs H Q →
  wpAny (model X.prog X.w) X.A (call f us) (EP X pins σ Q) X.xe s
def tOp (r : R2) (ta tb : TE) : TE := fun σ H Q => ta σ H fun x H1 => tb σ H1 fun y H2 => r x y H2 Q
def tUn (r : V → Hp → VK → Prop) (ta : TE) : TE := fun σ H Q => ta σ H fun x H1 => r x H1 Q
def rI (C : Int → Int → Prop) (g : Int → Int → V) : R2 := fun x y H Q => ∃ i j, x = .int i ∧ y = .int j ∧ C i j ∧ Q (g i j) H
def rI0 (g : Int → Int → V) : R2 := fun x y H Q => ∃ i j, x = .int i ∧ y = .int j ∧ Q (g i j) H
def rU (g : Int → V) : V → Hp → VK → Prop := fun x H Q => ∃ i, x = .int i ∧ Q (g i) H
section
variable {X : Cx} {a b c : Expr} {ta tb tc : TE} {pos : Pos}
theorem Zl8 (ha : PE X a ta) (hb : PE X b tb) {pins : List (Addr × Obj)} {s : Shared} {σ : St} {H : Hp} {R : V → V → Hp → Prop} (I : Inv X pins σ H s)
  (h : ta σ H fun x H1 => tb σ H1 fun y H2 => R x y H2) {Q : Value → Shared → Prop} {f : Value → Value → Sem Value}
  (hf : ∀ v u s2 x y H2, Inv X pins σ H2 s2 → RelV x v → RelV y u → R x y H2 → wpAny (model X.prog X.w) X.A (f v u) Q X.xe s2) :
  wpAny (model X.prog X.w) X.A (eval a X.env) (fun v s₁ => wpAny (model X.prog X.w) X.A (eval b X.env) (fun u s₂ => wpAny (model X.prog X.w) X.A (f v u) Q X.xe s₂) X.xe s₁) X.xe s := by
 refine thn (ha pins s σ H _ I h) fun v s1 ⟨x, H1, I1, r1, q1⟩ => ?_
 refine thn (hb pins s1 σ H1 _ I1 q1) fun u s2 ⟨y, H2, I2, r2, q2⟩ => ?_
 exact hf v u s2 x y H2 I2 r1 r2 q2
theorem Zne {op : Operator} {r : R2} (ho : OpR X (binaryOp op) r) (ha : PE X a ta) (hb : PE X b tb) : PE X (.BinOp a op b pos) (tOp r ta tb) := by
 intro pins s σ H Q I h
 exact wpAny_BinOp (Zl8 ha hb I h fun v u s2 x y H2 I2 rx ry q => ho pins s2 σ H2 x y v u Q I2 rx ry q)
theorem Zm0 {op : UnaryOp} {r : V → Hp → VK → Prop} (ho : UnR X (unaryOp op) r) (ha : PE X a ta) : PE X (.UnaryOp op a pos) (tUn r ta) := by
 intro pins s σ H Q I h
 exact UnaryOp_ (thn (ha pins s σ H _ I h) fun v s1 ⟨x, H1, I1, r1, q1⟩ => ho pins s1 σ H1 x v Q I1 r1 q1)
theorem opI {f : Value → Value → Sem Value} {C : Int → Int → Prop} {g : Int → Int → Int}
  (rule : ∀ (i j : Int) (t u : Tok) (s : Shared) (Q : Value → Shared → Prop) (E : Value → Shared → Prop), C i j → Q (.int (g i j) s.toks) { s with toks := s.toks + 1 } → wpAny (model X.prog X.w) X.A (f (.int i t) (.int j u)) Q E s) :
  OpR X f (rI C fun i j => .int (g i j)) := by
 intro pins s σ H x y v u Q I rx ry h
 obtain ⟨i, j, rfl, rfl, hc, q⟩ := h
 obtain ⟨t, rfl⟩ := rx
 obtain ⟨t', rfl⟩ := ry
 exact rule i j t t' s _ _ hc ⟨.int (g i j), H, I.tok _, ⟨_, rfl⟩, q⟩
theorem ZnI {f : Value → Value → Sem Value} {g : Int → Int → Int}
  (rule : ∀ (i j : Int) (t u : Tok) (s : Shared) (Q : Value → Shared → Prop) (E : Value → Shared → Prop), Q (.int (g i j) s.toks) { s with toks := s.toks + 1 } → wpAny (model X.prog X.w) X.A (f (.int i t) (.int j u)) Q E s) :
  OpR X f (rI0 fun i j => .int (g i j)) := by
 intro pins s σ H x y v u Q I rx ry h
 obtain ⟨i, j, rfl, rfl, q⟩ := h
 obtain ⟨t, rfl⟩ := rx
 obtain ⟨t', rfl⟩ := ry
 exact rule i j t t' s _ _ ⟨.int (g i j), H, I.tok _, ⟨_, rfl⟩, q⟩
theorem Zkt {f : Value → Value → Sem Value} {g : Int → Int → Bool}
  (rule : ∀ (i j : Int) (t u : Tok) (s : Shared) (Q : Value → Shared → Prop) (E : Value → Shared → Prop), Q (.bool (g i j)) s → wpAny (model X.prog X.w) X.A (f (.int i t) (.int j u)) Q E s) :
  OpR X f (rI0 fun i j => .bl (g i j)) := by
 intro pins s σ H x y v u Q I rx ry h
 obtain ⟨i, j, rfl, rfl, q⟩ := h
 obtain ⟨t, rfl⟩ := rx
 obtain ⟨t', rfl⟩ := ry
 exact rule i j t t' s _ _ ⟨.bl (g i j), H, I, rfl, q⟩
def Zn6 (i j : Int) : Prop := 0 < j ∧ j < 1073741824
def Zon (i j : Int) : Prop := 0 ≤ j ∧ j ≤ 1000000 ∧ i.natAbs < 2 ^ 64
def Zmy (i j : Int) : Prop := (-(2 ^ 64) < i ∧ i < 2 ^ 64) ∨ (-(2 ^ 64) < j ∧ j < 2 ^ 64)
theorem Zmy.ok {i j : Int} (h : Zmy i j) : IntMulOk i j := by
 rcases h with ⟨h1, h2⟩ | ⟨h1, h2⟩
 ·exact .of_left (intBits_le_64 h1 h2)
 ·exact .of_right (intBits_le_64 h1 h2)
theorem ZlX : OpR X (binaryOp .Add) (rI0 fun i j => .int (i + j)) := ZnI fun _ _ _ _ _ _ _ q => add_int q
theorem ZlB : OpR X (binaryOp .Sub) (rI0 fun i j => .int (i - j)) := ZnI fun _ _ _ _ _ _ _ q => sub_int q
theorem ZlE : OpR X (binaryOp .Mult) (rI Zmy fun i j => .int (i * j)) := opI fun _ _ _ _ _ _ _ hc q => mul_int q hc.ok
theorem Zkp : OpR X (binaryOp .FloorDiv) (rI Zn6 fun i j => .int (i / j)) := opI fun i j _ _ _ _ _ hc q => by
 have h1 : (0 : Int) < j := hc.1
 have h2 : j < 1073741824 := hc.2
 exact floordiv_int (by omega) (by rw [Int.fdiv_eq_ediv_of_nonneg i (by omega)]; exact q) (.inl (PyProof.noPylong_small (by omega)))
theorem ZlC : OpR X (binaryOp .Mod) (rI (fun _ j => 0 < j) fun i j => .int (i % j)) := opI fun i j _ _ _ _ _ hc q => by
 have h1 : (0 : Int) < j := hc
 exact mod_int' (by omega) (by rw [Int.fmod_eq_emod_of_nonneg i (by omega)]; exact q)
theorem Zmn : OpR X (binaryOp .Pow) (rI Zon fun i j => .int (i ^ j.toNat)) := opI fun _ _ _ _ _ _ _ hc q => pow_int_small hc.1 hc.2.1 hc.2.2 q
theorem unI {f : Value → Sem Value} {g : Int → Int}
  (rule : ∀ (i : Int) (t : Tok) (s : Shared) (Q : Value → Shared → Prop) (E : Value → Shared → Prop), Q (.int (g i) s.toks) { s with toks := s.toks + 1 } → wpAny (model X.prog X.w) X.A (f (.int i t)) Q E s) :
  UnR X f (rU fun i => .int (g i)) := by
 intro pins s σ H x v Q I rx h
 obtain ⟨i, rfl, q⟩ := h
 obtain ⟨t, rfl⟩ := rx
 exact rule i t s _ _ ⟨.int (g i), H, I.tok _, ⟨_, rfl⟩, q⟩
theorem Zlx : UnR X (unaryOp .USub) (rU fun i => .int (-i)) := unI fun _ _ _ _ _ q => neg_int q
end
section
variable {X : Cx} {a b c : Expr} {ta tb tc : TE} {pos : Pos}
theorem Zlt {pins : List (Addr × Obj)} {σ : St} {H : Hp} {s : Shared} {Q : VK} {k k' : Bool} (I : Inv X pins σ H s) (q : Q (.bl k) H) (e : k = k') : EP X pins σ Q (.bool k') s := by
 subst e
 exact ⟨.bl k, H, I, rfl, q⟩
theorem Zno : OpR X (compareOp .Lt) (rI0 fun i j => .bl (decide (i < j))) := Zkt fun _ _ _ _ _ _ _ q => lt_int q
theorem ZmY : OpR X (compareOp .LtE) (rI0 fun i j => .bl (decide (i ≤ j))) := Zkt fun _ _ _ _ _ _ _ q => le_int q
theorem ZnC : OpR X (compareOp .Gt) (rI0 fun i j => .bl (decide (j < i))) := Zkt fun _ _ _ _ _ _ _ q => gt_int q
theorem Znh : OpR X (compareOp .GtE) (rI0 fun i j => .bl (decide (j ≤ i))) := Zkt fun _ _ _ _ _ _ _ q => ge_int q
theorem Zi6 : OpR X (compareOp .In) (fun x y H Q => ∃ i j, x = .str i ∧ y = .str j ∧ Q (.bl (!(Builtin.Str.occurrences j i 0 j.length 1).isEmpty)) H) := by
 intro pins s σ H x y v u Q I rx ry h
 obtain ⟨i, j, rfl, rfl, q⟩ := h
 obtain ⟨t, rfl⟩ := rx
 obtain ⟨t', rfl⟩ := ry
 exact in_str (Zlt I q rfl)
theorem OpR.or {f : Value → Value → Sem Value} {r r' : R2} (h : OpR X f r) (h' : OpR X f r') : OpR X f (fun x y H Q => r x y H Q ∨ r' x y H Q) := by
 intro pins s σ H x y v u Q I rx ry q
 rcases q with q | q
 ·exact h pins s σ H x y v u Q I rx ry q
 ·exact h' pins s σ H x y v u Q I rx ry q
theorem Zks {op : CmpOp} {r : R2} (ho : OpR X (compareOp op) r) (ha : PE X a ta) (hb : PE X b tb) (hm : behindInMarks op b = false) : PE X (.Compare a [op] [b] pos) (tOp r ta tb) := by
 intro pins s σ H Q I h
 exact wpAny_Compare1 (Zl8 ha hb I h fun v u s2 x y H2 I2 rx ry q => ho pins s2 σ H2 x y v u Q I2 rx ry q) hm
def Zm7 (t : TE) : TT := fun σ H Q => t σ H fun x H' => ∃ k, x = .bl k ∧ Q k H'
theorem Zk9 {op : CmpOp} {r : R2} (ho : OpR X (compareOp op) r) (ha : PE X a ta) (hb : PE X b tb) (hm : behindInMarks op b = false) : PT X (.Compare a [op] [b] pos) (Zm7 (tOp r ta tb)) := by
 intro pins s σ H Q I h
 refine wpAny_isTrue_Compare1 (thn (ha pins s σ H _ I h) fun v s1 ⟨x, H1, I1, r1, q1⟩ => thn (hb pins s1 σ H1 _ I1 q1) fun u s2 ⟨y, H2, I2, r2, q2⟩ =>
  thn (ho pins s2 σ H2 x y v u _ I2 r1 r2 q2) fun c s3 ⟨z, H3, I3, r3, k, e, q3⟩ => ?_) hm
 subst e
 cases r3
 exact wpAny_truthy_bool ⟨H3, I3, q3⟩
theorem Ze2 : (sizeLine : Nat) < 2 ^ 63 := by rw [sizeLine_eq]; decide
theorem Zh4 : OpR X (binaryOp .Add) (fun x y H Q => ∃ i j, x = .str i ∧ y = .str j ∧ i.length + j.length ≤ sizeLine ∧ Q (.str (i ++ j)) H) := by
 intro pins s σ H x y v u Q I rx ry h
 obtain ⟨i, j, rfl, rfl, hz, q⟩ := h
 obtain ⟨t, rfl⟩ := rx
 obtain ⟨t', rfl⟩ := ry
 exact add_str (fun t' tk => ⟨.str (i ++ j), H, I.tok _, ⟨_, rfl⟩, q⟩) hz
theorem vals1 {x : V} {us : List Value} (r : Vals [x] us) : ∃ u, us = [u] ∧ RelV x u := by
 cases r with
 | cons r1 r2 => cases r2; exact ⟨_, rfl, r1⟩
theorem Zjc : ZaN X (.type "int") (fun xs H Q => (∃ i, xs = [.int i] ∧ Q (.int i) H) ∨ ∃ k, xs = [.bl k] ∧ Q (.int (if k then 1 else 0)) H) := by
 intro pins s σ H xs us Q I r h
 rcases h with ⟨i, rfl, q⟩ | ⟨k, rfl, q⟩
 ·obtain ⟨u, rfl, t, rfl⟩ := vals1 r
  exact call_int_int ⟨.int i, H, I, ⟨_, rfl⟩, q⟩
 ·obtain ⟨u, rfl, r1⟩ := vals1 r
  cases r1
  exact call_int_bool ⟨.int (if k then 1 else 0), H, I.tok _, ⟨_, rfl⟩, q⟩
def Zoi (K : PySem.W.Frag) (x : V) (H : Hp) (n : Nat) : Prop :=
 match x with
 | .str y => y.length ≤ sizeLine ∧ n = y.length
 | .byt y => y.size ≤ sizeLine ∧ n = y.size
 | .ref p => (∃ xs, SqL K H p xs ∧ n = xs.length) ∨ ∃ xs, SqT K H p xs ∧ n = xs.length
 | _ => False
theorem Zj9 : ZaN X (.builtin "len") (fun xs H Q => ∃ x n, xs = [x] ∧ Zoi X.K x H n ∧ Q (.int n) H) := by
 intro pins s σ H xs us Q I r h
 obtain ⟨x, n, rfl, e, q⟩ := h
 obtain ⟨u, rfl, rx⟩ := vals1 r
 have hl := Ze2
 have hs : sizeLine = 16777216 := sizeLine_eq
 cases x with
 | str y =>
  obtain ⟨t, rfl⟩ := rx
  obtain ⟨hy, e'⟩ : y.length ≤ sizeLine ∧ n = y.length := e
  subst e'
  exact len_str (by omega) ⟨.int _, H, I.tok _, ⟨_, rfl⟩, q⟩
 | byt y =>
  obtain ⟨t, rfl⟩ := rx
  obtain ⟨hy, e'⟩ : y.size ≤ sizeLine ∧ n = y.size := e
  subst e'
  exact PySem.W.len_bytes (by omega) ⟨.int _, H, I.tok _, ⟨_, rfl⟩, q⟩
 | ref p =>
  cases rx
  have e' : (∃ xs, SqL X.K H p xs ∧ n = xs.length) ∨ ∃ xs, SqT X.K H p xs ∧ n = xs.length := e
  rcases e' with ⟨xs, hx, e'⟩ | ⟨xs, hx, e'⟩
  ·subst e'
   obtain ⟨its, r', pl, hz⟩ := I.list hx
   have hlen := r'.length
   exact Calls.call_len_list pl.isList (by simp only [List.size_toArray]; omega) ⟨.int xs.length, H, I.tok _, ⟨_, by simp only [List.size_toArray]; rw [hlen]⟩, q⟩
  ·subst e'
   obtain ⟨its, r', pl, hz⟩ := I.tuple hx
   have hlen := r'.length
   exact len_tuple pl (by simp only [List.size_toArray]; omega) ⟨.int xs.length, H, I.tok _, ⟨_, by simp only [List.size_toArray]; rw [hlen]⟩, q⟩
 | _ => exact (show False from e).elim
end
end L2
namespace L2
open PySem PySem.Spec PyProof.Rows
structure Zpa (h : Heap) (x dx C : Addr) (mA : Str → Option Value) : Prop where
 obj : h.get? x = some (PySem.W.instObj C dx)
 ns : h.Ns1 dx mA
 ne : dx ≠ x
section
variable {prog : Program} {w : World} {A : Around} {E : Value → Shared → Prop} {s : Shared} {K : PySem.W.Frag} {x dx C f : Addr} {mA : Str → Option Value} {name : Str} {v : Value}
end
theorem Zer.some_of {v : V} {o : Option Value} (r : Zer (some v) o) : ∃ u, o = some u ∧ RelV v u := by
 cases o with
 | none => exact (show False from r).elim
 | some u => exact ⟨u, rfl, r⟩
section
variable {P : Program} {w : World} {H H' : Hp} {h h' : Heap} {a C dx : Addr} {fs fs' : List (Str × V)}
end
structure Cls (K : PySem.W.Frag) (C : Addr) : Prop where
 pg : PySem.W.plainGet K C Str.empty = true
 hd : PySem.W.hasDictIn K C = true
 po : PySem.W.plainOver K C = true
 sa : PySem.W.findIn K (.ref C) "__setattr__" = some (some (.builtin "object.__setattr__"))
structure Con (K : PySem.W.Frag) (C : Addr) (f : Str) (v : V) (u : Value) : Prop where
 at_ : PySem.W.findIn K (.ref C) f = some (some u)
 rel : RelV v u
 get : PySem.W.specialIn K u "__get__" = some none
 cp : PySem.W.copiedNames.contains f = false
structure Meth (K : PySem.W.Frag) (C : Addr) (m : Str) (f : Addr) : Prop where
 at_ : PySem.W.findIn K (.ref C) m = some (some (.ref f))
 fn : PySem.W.isFn K (.ref f) = true
 kp : PySem.W.keepIn K (.ref f) = true
section
variable {X : Cx} {pins : List (Addr × Obj)} {σ : St} {H : Hp} {s : Shared} {a C dx : Addr} {fs : List (Str × V)} {f : Str} {v : V} {A : Around} {E : Value → Shared → Prop}
end
section
variable {X : Cx} {o e value : Expr} {f : Str} {pos pos' tpos : Pos} {ta tv : TE}
end
section
variable {X : Cx} {pins : List (Addr × Obj)} {σ : St} {H : Hp} {s : Shared} {A : Around} {E : Value → Shared → Prop} {Q : Value → Shared → Prop} {c : Value} {b : Bool}
inductive ZeU (K : PySem.W.Frag) (H : Hp) : V → Value → Prop where
 | non : ZeU K H .non (.type "NoneType")
 | bl (x : Bool) : ZeU K H (.bl x) (.type "bool")
 | int (i : Int) : ZeU K H (.int i) (.type "int")
 | str (x : Str) : ZeU K H (.str x) (.type "str")
 | flt (x : UInt64) : ZeU K H (.flt x) (.type "float")
 | lst {a : Addr} {xs : List V} (e : H a = some (.lst xs)) : ZeU K H (.ref a) (.type "list")
 | frz {a : Addr} {o : Obj} {xs : List V} (e : H a = some (.frz o (.lst xs))) : ZeU K H (.ref a) (.type "list")
 | tup {a : Addr} {xs : List V} (e : H a = some (.tup xs)) : ZeU K H (.ref a) (.type "tuple")
 | dK {a : Addr} {kvs : List (Key × V)} (e : H a = some (.dK kvs)) : ZeU K H (.ref a) (.type "dict")
 | dT {a : Addr} {kvs : List (List Key × V)} (e : H a = some (.dT kvs)) : ZeU K H (.ref a) (.type "dict")
 | ins {a C dx : Addr} {fs : List (Str × V)} (e : H a = some (.ins C dx fs)) (cl : Cls K C) (ha : PySem.W.findIn K (.ref C) "__class__" = some (some (.builtin "object.__class__")))
   (hn : PySem.W.specialIn K (.builtin "object.__class__") "__get__" = some (some (.builtin "getset_descriptor.__get__"))) (htk : PySem.W.takesIn K (.builtin "object.__class__") = some true)
   (hm : PySem.W.mroIn K C (.type "object") = some true) : ZeU K H (.ref a) (.ref C)
end
end L2
namespace L2
open PySem PySem.Spec PyProof.Rows
structure Zb3 (k : Nat) (A : Around) : Prop where
 hd : A.handled = none
 dp : A.depth + 3 * k + 5 < recursionLimit
 un : A.units + 16 * k + 200 < cLine
theorem Zb3.mono {j k : Nat} {A : Around} (r : Zb3 k A) (h : j ≤ k) : Zb3 j A := ⟨r.hd, by have := r.dp; omega, by have := r.un; omega⟩
theorem Zb3.deeper {k : Nat} {A : Around} (r : Zb3 (k + 1) A) (env : Env) : Zb3 k (A.deeper env) :=
 ⟨r.hd, by have := r.dp; show A.depth + 1 + 3 * k + 5 < _; omega, by have := r.un; show A.units + 3 + 16 * k + 200 < _; omega⟩
theorem Zb3.in1 {k : Nat} {A : Around} (r : Zb3 (k + 1) A) : Zb3 k A.in1 :=
 ⟨r.hd, by have := r.dp; show A.depth + 3 * k + 5 < _; omega, by have := r.un; show A.units + 1 + 16 * k + 200 < _; omega⟩
theorem Zb3.depth {k : Nat} {A : Around} (r : Zb3 k A) : A.depth < recursionLimit := by have := r.dp; omega
theorem Zb3.units {k : Nat} {A : Around} (r : Zb3 k A) : A.units + 64 < cLine := by have := r.un; omega
def Zou : TA := fun _ H Q => Q [] H
def Zm5 (ta : TE) (tr : TA) : TA := fun σ H Q => ta σ H fun x H1 => tr σ H1 fun xs H2 => Q (x :: xs) H2
section
variable {X : Cx} {e : Expr} {es : List Expr} {te : TE} {t : TA} {pos : Pos}
theorem ZmD : PA X [] Zou := fun _ _ _ _ H Q I h => Calls.spliced_nil ⟨[], H, I, .nil, h⟩
theorem Zky (ha : PE X e te) (hr : PA X es t) (hs : starEach (e :: es) X.env = (false, eval e X.env) :: starEach es X.env := by rfl) : PA X (e :: es) (Zm5 te t) := by
 intro pos pins s σ H Q I h
 rw [hs]
 show wpAny _ _ (spliced ((false, eval e X.env) :: backTo pos (starEach es X.env))) _ _ s
 refine Calls.spliced_cons (thn (ha pins s σ H _ I h) fun u s1 ⟨x, H1, I1, r1, q1⟩ => ?_)
 exact thn (hr pos pins s1 σ H1 _ I1 q1) fun us s2 ⟨xs, H2, I2, r2, q2⟩ => ⟨x :: xs, H2, I2, .cons r1 r2, q2⟩
def Zoq (t : TA) : TE := fun σ H Q => t σ H fun xs H1 => xs.length ≤ sizeLine ∧ ∀ p, H1 p = none → Q (.ref p) (upd H1 p (.tup xs))
def Zot (t : TA) : TE := fun σ H Q => t σ H fun xs H1 => xs.length ≤ sizeLine ∧ ∀ p, H1 p = none → Q (.ref p) (upd H1 p (.lst xs))
theorem ZmH {x1} (h : PA X es t) : PE X (.Tuple es x1 pos) (Zoq t) := by
 intro pins s σ H Q I hq
 refine wpAny_Tuple_spliced (thn (h pos pins s σ H _ I hq) fun us s1 ⟨xs, H1, I1, r, z, q⟩ => ⟨by rw [← r.length]; exact z, ?_⟩)
 have hf : H1 s1.heap.objs.size = none := I1.hok.fresh (Nat.le_refl _)
 refine ⟨.ref s1.heap.objs.size, upd H1 s1.heap.objs.size (.tup xs), I1.laid (t' := s1.toks) (fun b u e => Heap.get?_push_of_some _ e) (Nat.le_refl _) ?_, rfl, q _ hf⟩
 exact ⟨z, us, r, ⟨_, Heap.get?_push_size _ rfl, ⟨rfl, rfl⟩, _, rfl⟩⟩
theorem Zmj (h : PA X es t) : PE X (.List es pos) (Zot t) := by
 intro pins s σ H Q I hq
 refine wpAny_List_spliced (thn (h pos pins s σ H _ I hq) fun us s1 ⟨xs, H1, I1, r, z, q⟩ => ⟨by rw [← r.length]; exact z, ?_⟩)
 have hf : H1 s1.heap.objs.size = none := I1.hok.fresh (Nat.le_refl _)
 refine ⟨.ref s1.heap.objs.size, upd H1 s1.heap.objs.size (.lst xs), I1.laid (t' := s1.toks) (fun b u e => Heap.get?_push_of_some _ e) (Nat.le_refl _) ?_, rfl, q _ hf⟩
 exact ⟨z, us, 0, r, Heap.get?_push_size _ rfl⟩
end
abbrev Sp := List V → Hp → VK → XK → Prop
abbrev CXT := List Env → Hp → Shared → XK → Value → Shared → Prop
structure Zhn (P : Program) (w : World) (K : PySem.W.Frag) (mg : Str → Option Value) (base : Heap) (A : Around) (outer : List Env) (s : Shared) (H : Hp) : Prop where
 frames : A.frames = some outer
 mod : Mod K mg base
 bs : ∀ b o, base.get? b = some o → s.heap.get? b = some o ∧ H b = none
 bsz : base.objs.size ≤ s.heap.objs.size
 funs : s.heap.FunFrames base outer
 frf : ∀ b ∈ frs outer, H b = none
 hok : HOk P w H s.heap
 bare : AllBare s.gens
def CE (outer : List Env) (P : Program) (w : World) (H : Hp) (s : Shared) (Q : VK) (u : Value) (s' : Shared) : Prop :=
 ∃ v H', s'.os = s.os ∧ AllBare s'.gens ∧ Un (frs outer) [] H H' s.heap s'.heap ∧ HOk P w H' s'.heap ∧ RelV v u ∧ Q v H'
def CR (CX : CXT) (outer : List Env) (P : Program) (w : World) (H : Hp) (s : Shared) (Q : VK) (E : XK) (r : Result) (s' : Shared) : Prop :=
 match r with
 | .ok (.ret u) => CE outer P w H s Q u s'
 | .ok _ => False
 | .error e => CX outer H s E e s'
structure ZeD (P : Program) (w : World) (K : PySem.W.Frag) (mg : Str → Option Value) (base : Heap) (CX : CXT) (k : Nat) (f : Addr) (fd : FuncData) (ps : List Str) (sp : Sp) : Prop where
 len : ∀ vs H Q E, sp vs H Q E → vs.length = ps.length
 run : ∀ (A : Around) (outer : List Env) (s : Shared) (H : Hp) (args : Args) (us : List Value) (vs : List V) (Q : VK) (E : XK), Zb3 k A → Zhn P w K mg base A outer s H → BindsTo s fd args (ps.zip us) → Vals vs us → sp vs H Q E →
  codeAny (model P w) A (.call (.ref f) args) (CR CX outer P w H s Q E) s
theorem Zhn.in1 {P : Program} {w : World} {K : PySem.W.Frag} {mg : Str → Option Value} {base : Heap} {A : Around} {outer : List Env} {s : Shared} {H : Hp} (e : Zhn P w K mg base A outer s H) :
  Zhn P w K mg base A.in1 outer s H := ⟨e.frames, e.mod, e.bs, e.bsz, e.funs, e.frf, e.hok, e.bare⟩
section
variable {X : Cx} {pins : List (Addr × Obj)} {σ : St} {H : Hp} {s s' : Shared}
theorem Inv.env0 (I : Inv X pins σ H s) : Zhn X.prog X.w X.K X.mg X.base X.A X.stack s H :=
 ⟨I.ok.frames, I.ok.mod, I.bs, Nat.le_trans I.ok.bsz I.sz, I.stack, I.stkFree, I.hok, I.bare⟩
theorem Inv.after {Q : VK} {u : Value} (I : Inv X pins σ H s) (h : CE X.stack X.prog X.w H s Q u s') : EP X pins σ Q u s' := by
 obtain ⟨v, H', os, bare, un, hok, r, q⟩ := h
 obtain ⟨hh, g, d, t, os'⟩ := s'
 obtain rfl : os' = s.os := os
 exact ⟨v, H', I.call (h' := hh) (g' := g) (d' := d) (t' := t) (ch := []) un hok bare (fun b z => absurd z (by simp)), r, q⟩
end
def Znz (sp : Sp) (dvs : List V) (E : XK) (t : TA) : TE := fun σ H Q => t σ H fun vs H1 => sp (vs ++ dvs) H1 Q E
def Binds (K : PySem.W.Frag) (fd : FuncData) (ps : List Str) (ds : List Value) : Prop :=
 ∀ (s : Shared) (us : List Value), K.In s.heap → (us ++ ds).length = ps.length → BindsTo s fd ⟨us, []⟩ (ps.zip (us ++ ds))
theorem Binds.all {K : PySem.W.Frag} {fd : FuncData} {ps : List Str} (h : ∀ us : List Value, us.length = ps.length → bindArgs fd ⟨us, []⟩ = pure (ps.zip us)) : Binds K fd ps [] := fun s us _ hl => by
 rw [List.append_nil] at hl ⊢
 exact .of_eq (h us hl)
def ZhK (CX : CXT) (X : Cx) (E : XK) : Prop := ∀ (pins : List (Addr × Obj)) (σ : St) (H : Hp) (s : Shared) (e : Value) (s' : Shared), Inv X pins σ H s → CX X.stack H s E e s' → X.xe e s'
section
variable {X : Cx} {CX : CXT} {k : Nat} {f C : Addr} {fd : FuncData} {ps : List Str} {sp : Sp} {dvs : List V} {ds : List Value} {E : XK} {x m : Str} {p pos apos : Pos} {e o : Expr} {es : List Expr} {ta : TE} {t : TA}
theorem ZlQ {pins : List (Addr × Obj)} {σ : St} {H : Hp} {s : Shared} {Q : VK} {us : List Value} {vs : List V} (F : ZeD X.prog X.w X.K X.mg X.base CX k f fd ps sp) (hr : Zb3 k X.A) (hb : Binds X.K fd ps ds) (hd : Vals dvs ds) (hx : ZhK CX X E)
  (I : Inv X pins σ H s) (r : Vals vs us) (h : sp (vs ++ dvs) H Q E) : wpAny (model X.prog X.w) X.A (call (.ref f) us) (EP X pins σ Q) X.xe s := by
 have r2 : Vals (vs ++ dvs) (us ++ ds) := r.append hd
 have hl : (us ++ ds).length = ps.length := by rw [← r2.length]; exact F.len _ _ _ _ h
 refine wpAny_call (codeAny_mono (F.run X.A X.stack s H ⟨us, []⟩ (us ++ ds) (vs ++ dvs) Q E hr I.env0 (hb s us I.kIn hl) r2 h) fun r s' hq => ?_)
 cases r with
 | error e => exact hx pins σ H s e s' I hq
 | ok fl =>
  cases fl with
  | ret u => exact I.after hq
  | next => exact False.elim hq
  | brk => exact False.elim hq
  | cont => exact False.elim hq
theorem Zla (F : ZeD X.prog X.w X.K X.mg X.base CX k f fd ps sp) (hr : Zb3 k X.A) (hg : Gl X x) (hm : X.mg x = some (.ref f)) (hk : PySem.W.keepIn X.K (.ref f) = true) (hb : Binds X.K fd ps ds) (hd : Vals dvs ds) (hx : ZhK CX X E)
  (ha : PA X (e :: es) t) (hdb : (x == ("__debug__" : Str)) = false := by decide) (he : starEach (e :: es) X.env = (false, eval e X.env) :: starEach es X.env := by rfl) (hpl : (backTo pos (starEach es X.env)).any (·.1) = false := by rfl) :
  PE X (.Call (.Name x p) (e :: es) [] pos) (Znz sp dvs E t) := by
 intro pins s σ H Q I h
 refine wpAny_Call_Name_kw (Zk5 I hg hm ?_ hdb)
 refine PySem.W.callWith_K (h₀ := X.base) I.ok.mod.kin hk (thn (ha pos pins s σ H _ I h) fun us s1 ⟨vs, H1, I1, r, q⟩ => ⟨I1.kIn, ?_⟩) he hpl
 exact ZlQ F hr hb hd hx I1 r q
structure Mk (K : PySem.W.Frag) (C f : Addr) : Prop where
 makes : PySem.W.makesIn K C = true
 init : PySem.W.findIn K (.ref C) "__init__" = some (some (.ref f))
 fn : PySem.W.isFn K (.ref f) = true
 kp : PySem.W.keepIn K (.ref C) = true
end
section
variable {X : Cx} {CX : CXT} {k : Nat} {f C : Addr} {fd : FuncData} {ps ks : List Str} {sp : Sp} {E : XK} {x m : Str} {p pos apos kpos : Pos} {e o : Expr} {es : List Expr} {kws : List Keyword} {te ta : TE} {t tk : TA} {nm : Option Str}
structure Zoj (K : PySem.W.Frag) (fd : FuncData) (ps ks : List Str) (g : List Value → List Value → List Value) (gV : List V → List V → List V) : Prop where
 to : ∀ (s : Shared) (us ws : List Value), K.In s.heap → (g us ws).length = ps.length → BindsTo s fd ⟨us, ks.zip ws⟩ (ps.zip (g us ws))
 rel : ∀ {vs : List V} {us : List Value} {zs : List V} {ws : List Value}, Vals vs us → Vals zs ws → Vals (gV vs zs) (g us ws)
variable {g : List Value → List Value → List Value} {gV : List V → List V → List V}
end
structure ZaE (N P : List Str) (sc : Scope) : Prop where
 kind : sc.kind = .function
 co : sc.isCoroutine = false
 gen : sc.isGenerator = false
 nd : N.Nodup
 pre : N.take P.length = P
 par : ∀ x ∈ P, sc.names.lookup x = some .local ∨ sc.names.lookup x = some .cell
 nofree : ∀ y ∈ sc.names, y.2 ≠ .free
theorem Zfn {kindOf : Str → Option NameKind} {x : Str} : ∀ {binds : List (Str × Value)} {m : Str → Option Value}, (∀ v, (x, v) ∉ binds) → bindL kindOf binds m x = m x
 | [], _, _ => rfl
 | (n, v) :: r, m, h => by
  unfold bindL
  rw [Zfn fun w hw => h w (List.mem_cons_of_mem _ hw)]
  split
  ·have : x ≠ n := by rintro rfl; exact h v List.mem_cons_self
   simp [this]
  ·rfl
theorem Zfz {kindOf : Str → Option NameKind} {x : Str} : ∀ {binds : List (Str × Value)} {m : Str → Option Value}, (∀ v, (x, v) ∉ binds) → bindC kindOf binds m x = m x
 | [], _, _ => rfl
 | (n, v) :: r, m, h => by
  unfold bindC
  rw [Zfz fun w hw => h w (List.mem_cons_of_mem _ hw)]
  split
  ·rfl
  ·have : x ≠ n := by rintro rfl; exact h v List.mem_cons_self
   simp [this]
theorem Zfl {kindOf : Str → Option NameKind} {x : Str} {v : Value} : ∀ {P : List Str} {vs : List Value} {i : Nat} {m : Str → Option Value}, P.Nodup → P[i]? = some x → vs[i]? = some v → kindOf x = some .local →
  bindL kindOf (P.zip vs) m x = some v
 | [], _, _, _, _, h, _, _ => by simp at h
 | _ :: _, [], _, _, _, _, h, _ => by simp at h
 | p :: P, w :: vs, 0, m, nd, h1, h2, hk => by
  simp at h1 h2; subst h1; subst h2
  show bindL kindOf ((p, w) :: P.zip vs) m p = _
  unfold bindL
  rw [Zfn fun v hv => (List.nodup_cons.mp nd).1 (List.of_mem_zip hv).1, if_pos hk]
  simp
 | p :: P, w :: vs, i + 1, m, nd, h1, h2, hk => by
  show bindL kindOf ((p, w) :: P.zip vs) m x = _
  unfold bindL
  exact Zfl (i := i) (List.nodup_cons.mp nd).2 (by simpa using h1) (by simpa using h2) hk
theorem Zft {kindOf : Str → Option NameKind} {x : Str} {v : Value} : ∀ {P : List Str} {vs : List Value} {i : Nat} {m : Str → Option Value}, P.Nodup → P[i]? = some x → vs[i]? = some v → kindOf x ≠ some .local →
  bindC kindOf (P.zip vs) m x = some v
 | [], _, _, _, _, h, _, _ => by simp at h
 | _ :: _, [], _, _, _, _, h, _ => by simp at h
 | p :: P, w :: vs, 0, m, nd, h1, h2, hk => by
  simp at h1 h2; subst h1; subst h2
  show bindC kindOf ((p, w) :: P.zip vs) m p = _
  unfold bindC
  rw [Zfz fun v hv => (List.nodup_cons.mp nd).1 (List.of_mem_zip hv).1, if_neg hk]
  simp
 | p :: P, w :: vs, i + 1, m, nd, h1, h2, hk => by
  show bindC kindOf ((p, w) :: P.zip vs) m x = _
  unfold bindC
  exact Zft (i := i) (List.nodup_cons.mp nd).2 (by simpa using h1) (by simpa using h2) hk
def start (N : List Str) (vs : List V) : St := vs.map some ++ List.replicate (N.length - vs.length) none
def ZgY (CX : CXT) (P : Program) (w : World) (K : PySem.W.Frag) (mg : Str → Option Value) (base : Heap) (N : List Str) (qual : Str) (scope : Scope) (f : Addr) (cd : Value) (A : Around) (outer : List Env) (s : Shared) (H : Hp) (E : XK) : Cx where
 prog := P
 w := w
 K := K
 mg := mg
 base := base
 A := A.deeper (envOfC qual scope s.heap.objs.size f cd)
 N := N
 s₀ := s
 H₀ := H
 env := envOfC qual scope s.heap.objs.size f cd
 outer := outer
 stack := envOfC qual scope s.heap.objs.size f cd :: outer
 ex := []
 calm := true
 fn := fun _ => true
 pn := []
 xe := fun e s' => wpAny (model P w) (A.deeper (envOfC qual scope s.heap.objs.size f cd)) (leaving (envOfC qual scope s.heap.objs.size f cd) e) (fun _ s'' => CX outer H s E e s'') (fun e' s'' => CX outer H s E e' s'') s'
theorem ZgH {sc : Scope} {n : Nat} {x : Str} (h : sc.names.lookup x = some .cell) : ∃ c, (cellsFrom n sc.names []).lookup x = some c := by
 have q := PySem.W.cellsFrom_some sc.names n [] (.inl h)
 exact Option.isSome_iff_exists.mp q
theorem ZiA {CX : CXT} {P : Program} {w : World} {K : PySem.W.Frag} {mg : Str → Option Value} {base : Heap} {N ps : List Str} {qual : Str} {scope : Scope} {f : Addr} {cd : Value} {A : Around} {outer : List Env} {s s1 : Shared} {H : Hp} {E : XK} {us : List Value} {vs : List V}
  (S : ZaE N ps scope) (hd : A.handled = none) (e0 : Zhn P w K mg base A outer s H) (hl : vs.length = ps.length) (r : Vals vs us)
  (x : InCallC s s.heap.objs.size (bindL (envOfC qual scope s.heap.objs.size f cd).kindOf (ps.zip us) fun _ => none) (cellsFrom (s.heap.objs.size + 1) scope.names []) (bindC (envOfC qual scope s.heap.objs.size f cd).kindOf (ps.zip us) fun _ => none) s1) :
  Inv (ZgY CX P w K mg base N qual scope f cd A outer s H E) [] (start N vs) H s1 := by
 have hpl : ps.length ≤ N.length := by have := congrArg List.length S.pre; rw [List.length_take] at this; omega
 obtain ⟨h1, tk, rfl, hk⟩ := x.done
 have noA : ∀ b : Addr, b ∉ (ZgY CX P w K mg base N qual scope f cd A outer s H E).ex := fun b z => absurd (show b ∈ ([] : List Addr) from z) (by simp)
 refine ⟨⟨e0.mod, S.kind, rfl, rfl, Nat.le_refl _, fun y z c h1 h2 => ?_, fun y hy => ?_, fun y c _ h => ?_, fun _ => hd, Around.frames_deeper e0.frames, .inr ⟨rfl, rfl⟩, fun b z => absurd z (noA b), e0.bs, e0.bsz, fun b _ _ => noA b, fun b z => absurd z (noA b), e0.funs, e0.frf⟩,
  rfl, e0.bare, Un.kept hk, ⟨_, x.toInCall.ns, fun i y v h1 h2 h3 => ?_⟩, fun y c h => ⟨_, x.cell y c h⟩, e0.hok.fresh (Nat.le_refl _), fun y c h => ?_, fun p hp => absurd (show p ∈ ([] : List (Addr × Obj)) from hp) (by simp), e0.hok.kept hk, ?_⟩
 ·exact name_of_addr x.apart (PySem.mem_of_lookup h1) (PySem.mem_of_lookup h2)
 ·have hy : scope.names.lookup y = some .cell ∨ scope.names.lookup y = some .free := hy
  rcases hy with hy | hy
  ·exact ZgH hy
  ·exact absurd rfl (S.nofree _ (PySem.mem_of_lookup hy))
 ·exact Nat.le_of_lt (x.above y c (PySem.mem_of_lookup h))
 ·have hi : i < vs.length := by
   unfold start at h2
   by_cases hi : i < vs.length
   ·exact hi
   ·rw [List.getElem?_append_right (by simpa using hi)] at h2
    rw [List.getElem?_replicate] at h2
    split at h2 <;> cases h2
  have ha : vs[i]? = some v := by
   unfold start at h2
   rw [List.getElem?_append_left (by simpa using hi), List.getElem?_map] at h2
   cases e : vs[i]? with
   | none => rw [e] at h2; cases h2
   | some a => rw [e] at h2; cases h2; rfl
  obtain ⟨u, hu, rv⟩ := r.get ha
  have hp : ps[i]? = some y := by
   rw [← S.pre, List.getElem?_take_of_lt (by omega)]; exact h1
  have ndP : ps.Nodup := by rw [← S.pre]; exact S.nd.sublist (List.take_sublist _ _)
  refine ⟨u, rv, ?_⟩
  rcases S.par y (List.mem_of_getElem? hp) with k | k
  ·exact .inl ⟨k, Zfl ndP hp hu k⟩
  ·obtain ⟨c, e⟩ := ZgH (n := s.heap.objs.size + 1) k
   refine .inr ⟨.inl k, c, e, ?_⟩
   have q := x.cell y c e
   rw [Zft ndP hp hu (by show scope.names.lookup y ≠ _; rw [k]; decide)] at q
   exact q
 ·exact e0.hok.fresh (Nat.le_of_lt (x.above y c (PySem.mem_of_lookup h)))
 ·unfold start
  show _ = N.length
  rw [List.length_append, List.length_map, List.length_replicate]
  omega
theorem ZnL {CX : CXT} {P : Program} {w : World} {K : PySem.W.Frag} {mg : Str → Option Value} {base : Heap} {k : Nat} {f : Addr} {name qual : Str} {params : Arguments} {body : List Stmt} {scope : Scope} {dV kV doc pm cdv ct oc : Value} {an od : Option Addr}
  {osl : Array (Option Value)} {N ps : List Str} {sp : Sp} (lk : K.lookup f = some ⟨oc, od, .func (PySem.W.fnOf name qual params body scope dV kV doc pm an cdv ct), osl⟩) (hcd : PySem.W.codeIn K cdv qual = true) (S : ZaE N ps scope)
  (len : ∀ vs H Q E, sp vs H Q E → vs.length = ps.length)
  (hbody : ∀ (A : Around) (outer : List Env) (s : Shared) (H : Hp) (vs : List V) (Q : VK) (E : XK), Zb3 k (A.deeper (envOfC qual scope s.heap.objs.size f cdv)) → sp vs H Q E →
   ∃ t, PSs (ZgY CX P w K mg base N qual scope f cdv A outer s H E) body t ∧ t { nx := fun _ H' => Q .non H', rt := Q } (start N vs) H) :
  ZeD P w K mg base CX (k + 1) f (PySem.W.fnOf name qual params body scope dV kV doc pm an cdv ct) ps sp := by
 refine ⟨len, fun A outer s H args us vs Q E hr e0 hb r hsp => ?_⟩
 have hl := len _ _ _ _ hsp
 have KX : K.In s.heap := e0.mod.kin.keeps fun b o e => (e0.bs b o e).1
 have lim : s.heap.NoLimit := e0.mod.nolimit.keeps fun b o e => (e0.bs b o e).1
 have hkind : ∀ y ∈ ps.zip us, scope.names.lookup y.1 = some .local ∨ (scope.names.lookup y.1 = some .cell ∧ ((cellsFrom (s.heap.objs.size + 1) scope.names []).lookup y.1).isSome = true) := fun ⟨n, v⟩ hy => by
  rcases S.par n (List.of_mem_zip hy).1 with q | q
  ·exact .inl q
  ·exact .inr ⟨q, PySem.W.cellsFrom_some _ _ _ (.inl q)⟩
 refine codeAny_call_function hr.depth (KX _ _ lk) rfl S.co S.gen rfl (PySem.W.codeRec_of KX hcd) (hb _ _ _ _ ?_)
 refine wpAny_newFunctionEnv_cells S.kind hkind fun env he s1 x => ?_
 subst he
 refine ⟨lim.keeps x.toInCall.keep, codeAny_func ?_⟩
 obtain ⟨t, ht, hq⟩ := hbody A outer s H vs Q E (hr.deeper _) hsp
 have I : Inv (ZgY CX P w K mg base N qual scope f cdv A outer s H E) [] (start N vs) H s1 := ZiA S hr.hd e0 hl r x
 refine wpAny_mono (ht [] s1 (start N vs) H _ I hq) (fun fl s' hs => ?_) fun e s' hs => hs
 have fin : ∀ {σ' : St} {H' : Hp} {v : V} {u : Value}, Inv (ZgY CX P w K mg base N qual scope f cdv A outer s H E) [] σ' H' s' → RelV v u → Q v H' → CE outer P w H s Q u s' :=
  fun {σ' H' v u} J rv q => ⟨v, H', J.os, J.bare, J.base, J.hok, rv, q⟩
 cases fl with
 | ret u =>
  obtain ⟨v, σ', H', J, rv, q⟩ := hs
  exact fin J rv q
 | next =>
  obtain ⟨σ', H', J, q⟩ := hs
  exact fin (v := V.non) (u := Value.none) J rfl q
 | brk =>
  obtain ⟨_, _, _, q⟩ := hs
  exact False.elim q
 | cont =>
  obtain ⟨_, _, _, q⟩ := hs
  exact False.elim q
end L2
namespace L2
open PySem PySem.Spec PyProof.Rows
section
variable {X : Cx} {x : Str} {p pos : Pos} {e : Expr} {es : List Expr} {t : TA} {id T : String} {r : List V → Hp → VK → Prop}
def tCB (r : List V → Hp → VK → Prop) (t : TA) : TE := fun σ H Q => t σ H fun vs H1 => r vs H1 Q
theorem ZjL (hc : ZaN X (.builtin id) r) (hg : Gl X x) (hm : X.mg x = none) (hv : bootBuiltins x = some (.builtin id)) (ha : PA X (e :: es) t) (hn : x ≠ "__name__" := by decide) (hdb : (x == ("__debug__" : Str)) = false := by decide)
  (he : starEach (e :: es) X.env = (false, eval e X.env) :: starEach es X.env := by rfl) (hpl : (backTo pos (starEach es X.env)).any (·.1) = false := by rfl) : PE X (.Call (.Name x p) (e :: es) [] pos) (tCB r t) := by
 intro pins s σ H Q I h
 refine wpAny_Call_Name_kw (Zgp I hg hm hv ?_ hn hdb)
 exact PyProof.Rows.callWith_builtin1 (thn (ha pos pins s σ H _ I h) fun us s1 ⟨vs, H1, I1, r1, q1⟩ => hc pins s1 σ H1 vs us Q I1 r1 q1) he hpl
theorem ZiV (hc : ZaN X (.type T) r) (hg : Gl X x) (hm : X.mg x = none) (hv : bootBuiltins x = some (.type T)) (ha : PA X (e :: es) t) (hn : x ≠ "__name__" := by decide) (hdb : (x == ("__debug__" : Str)) = false := by decide)
  (he : starEach (e :: es) X.env = (false, eval e X.env) :: starEach es X.env := by rfl) (hpl : (backTo pos (starEach es X.env)).any (·.1) = false := by rfl) : PE X (.Call (.Name x p) (e :: es) [] pos) (tCB r t) := by
 intro pins s σ H Q I h
 refine wpAny_Call_Name_kw (Zgp I hg hm hv ?_ hn hdb)
 exact PyProof.Rows.callWith_type1 (thn (ha pos pins s σ H _ I h) fun us s1 ⟨vs, H1, I1, r1, q1⟩ => hc pins s1 σ H1 vs us Q I1 r1 q1) he hpl
end
end L2
namespace HT
open PySem PyProof.Rows
section
open PySem.SeqAt
open PySem.AutoSeq1 (wpAny_loadPart')
open PySem.MeetsSeq PySem.MeetsSeq2 PySem.MeetsSeq3
end
section
variable {prog : Program} {w : World} {A : Around} {E : Value → Shared → Prop} {s : Shared}
theorem cat_tup {t b : Addr} {vs ws : List Value} {Q : Value → Shared → Prop} (ht : IsTup s.heap t vs.toArray) (hb : IsTup s.heap b ws.toArray) (hv : vs ≠ [])
  (h1 : ws = [] → Q (.ref t) s) (h2 : ws ≠ [] → Q (.ref s.heap.objs.size) { s with heap := s.heap.push { cls := .type "tuple", data := .seq (vs ++ ws).toArray } })
  (hsz : vs.length + ws.length ≤ sizeLine) : wpAny (model prog w) A (binaryOp .Add (.ref t) (.ref b)) Q E s := by
 obtain ⟨⟨cls, dd, data, sl⟩, ho, hc, n, hd⟩ := id ht
 obtain ⟨⟨cls2, dd2, data2, sl2⟩, ho2, hc2, n2, hd2⟩ := id hb
 simp only at hc hd hc2 hd2
 subst hc hd hc2 hd2
 have e : vs.toArray ++ ws.toArray = (vs ++ ws).toArray := by simp
 by_cases hw : ws = []
 ·exact concat_meets ⟨_, ho, rfl⟩ ⟨_, ho2, rfl⟩ noFill_tuple_add seq_tuple_add PySem.F.slot_tuple_add PySem.F.entry_tuple_add (PySem.F.args_tuple_add_2 _ _)
   (tuple_addW1 t b vs.toArray ws.toArray n n2 dd dd2 sl sl2 (by simpa using hv) (by simp [hw])) ⟨ho, ho2, h1 hw⟩
 ·refine concat_meets ⟨_, ho, rfl⟩ ⟨_, ho2, rfl⟩ noFill_tuple_add seq_tuple_add PySem.F.slot_tuple_add PySem.F.entry_tuple_add (PySem.F.args_tuple_add_2 _ _)
   (tuple_addW2 t b vs.toArray ws.toArray n n2 dd dd2 sl sl2 (by simpa using hv) (by simpa using hw) (by rw [List.size_toArray, List.size_toArray]; exact hsz)) ⟨ho, ho2, ?_⟩
  rw [e]
  exact h2 hw
def sIx (n d : Nat) : Option Int → Nat
 | none => d
 | some v => if v < 0 then (v + (n : Int)).toNat else min v.toNat n
theorem ZgZ (n d : Nat) : sIx n d none = d := rfl
theorem Zia (n d k : Nat) : sIx n d (some (k : Int)) = min k n := by
 show (if (k : Int) < 0 then ((k : Int) + (n : Int)).toNat else min (k : Int).toNat n) = min k n
 rw [if_neg (by omega), Int.toNat_natCast]
theorem Zgr (n d : Nat) (hd : d ≤ n) (o : Option Int) : sIx n d o ≤ n := by
 cases o with
 | none => exact hd
 | some v =>
  show (if v < 0 then (v + (n : Int)).toNat else min v.toNat n) ≤ n
  by_cases hv : v < 0
  ·rw [if_pos hv]; omega
  ·rw [if_neg hv]; exact Nat.min_le_right _ _
theorem Zih (v : Int) (n d : Nat) : (if v < 0 then max (v + (n : Int)) 0 else min v (n : Int)) = ((sIx n d (some v) : Nat) : Int) := by
 show (if v < 0 then max (v + (n : Int)) 0 else min v (n : Int)) = (((if v < 0 then (v + (n : Int)).toNat else min v.toNat n) : Nat) : Int)
 by_cases hv : v < 0
 ·simp only [if_pos hv]; omega
 ·simp only [if_neg hv]; omega
theorem ZhR (lo hi : Option Int) (n : Nat) : Builtin.Slice.sliceAdjust lo hi 1 (n : Int) = (((sIx n 0 lo : Nat) : Int), ((sIx n n hi : Nat) : Int)) := by
 have h1 : ¬ ((1 : Int) < 0) := by omega
 unfold Builtin.Slice.sliceAdjust
 simp only [h1, if_false]
 refine Prod.ext ?_ ?_
 ·cases lo with
  | none => rfl
  | some v => exact Zih v n 0
 ·cases hi with
  | none => rfl
  | some v => exact Zih v n n
theorem Zh0 (i j : Nat) : Builtin.Slice.slicePlaces (i : Int) (j : Int) 1 = j - i := by
 unfold Builtin.Slice.slicePlaces
 have h1 : (1 : Int) > 0 := by omega
 simp only [h1, if_true, Int.ediv_one]
 split <;> omega
theorem Ze9 {v : Value} {o : Option Int} {Q : Option Int → Shared → Prop} (p : IsPart v o) (h : Q o s) : wpAny (model prog w) A (Builtin.Slice.slicePartIndex v) Q E s := by
 cases p with
 | none => exact slicePart_none h
 | int i t => exact slicePart_int h
theorem sliceApplied_gen {sl : Addr} {vl vu : Value} {lo hi : Option Int} {n : Nat} {Q : Int × Int × Nat → Shared → Prop} (hs : s.heap.IsSliceOf sl vl vu .none) (pl : IsPart vl lo) (pu : IsPart vu hi)
  (h : Q (((sIx n 0 lo : Nat) : Int), 1, sIx n n hi - sIx n 0 lo) s) : wpAny (model prog w) A (Builtin.Slice.sliceApplied (.ref sl) (pure (n : Int))) Q E s := by
 obtain ⟨os, hos, hcs, hds⟩ := id hs
 unfold Builtin.Slice.sliceApplied Builtin.Slice.sliceFields
 refine wpAny_bind (wpAny_bind (wpAny_field hos hds (x := vl) rfl (wpAny_bind (wpAny_field hos hds (x := vu) rfl (wpAny_bind (wpAny_field hos hds (x := .none) rfl (wpAny_pure ?_)))))))
 refine wpAny_bind (slicePart_none ?_)
 show wpAny _ _ (if ((1 : Int) == 0) = true then _ else _) _ _ s
 rw [if_neg (by decide)]
 refine wpAny_bind (Ze9 pl (wpAny_bind (Ze9 pu (wpAny_bind (wpAny_pure ?_)))))
 show wpAny _ _ (match Builtin.Slice.sliceAdjust lo hi 1 (n : Int) with | (lo, hi) => pure (lo, (1 : Int), Builtin.Slice.slicePlaces lo hi 1)) _ _ s
 rw [ZhR lo hi n]
 show wpAny _ _ (pure (((sIx n 0 lo : Nat) : Int), (1 : Int), Builtin.Slice.slicePlaces ((sIx n 0 lo : Nat) : Int) ((sIx n n hi : Nat) : Int) 1)) _ _ s
 rw [Zh0]
 exact wpAny_pure h
theorem Zj5 (xs : Array Value) (i k : Nat) : ((List.range k).filterMap fun (m : Nat) => xs[((i : Int) + (m : Int) * 1).toNat]?).toArray = ((xs.toList.drop i).take k).toArray := by
 have e : (fun (m : Nat) => xs[((i : Int) + (m : Int) * 1).toNat]?) = fun m => xs[i + m]? := by
  funext m
  have : ((i : Int) + (m : Int) * 1).toNat = i + m := by omega
  rw [this]
 rw [e]
 have := pick_run xs i k
 rw [List.filterMap_map] at this
 have e2 : ((fun x => xs[x]?) ∘ fun x => i + x) = fun m => xs[i + m]? := rfl
 rw [e2] at this
 rw [this]
theorem getItem_tuple_cut {t sl : Addr} {items : Array Value} {vl vu : Value} {lo hi : Option Int} {Q : Value → Shared → Prop} (ht : IsTup s.heap t items) (hs : s.heap.IsSliceOf sl vl vu .none) (pl : IsPart vl lo) (pu : IsPart vu hi)
  (hw : ¬ (sIx items.size 0 lo = 0 ∧ sIx items.size items.size hi = items.size))
  (h : Q (.ref s.heap.objs.size) { s with heap := s.heap.push { cls := .type "tuple", data := .seq ((items.toList.drop (sIx items.size 0 lo)).take (sIx items.size items.size hi - sIx items.size 0 lo)).toArray } })
  (hsz : items.size ≤ sizeLine) : wpAny (model prog w) A (getItem (.ref t) (.ref sl)) Q E s := by
 have htake : sizeOk (.seq ((items.toList.drop (sIx items.size 0 lo)).take (sIx items.size items.size hi - sIx items.size 0 lo)).toArray) := by
  show ((items.toList.drop (sIx items.size 0 lo)).take (sIx items.size items.size hi - sIx items.size 0 lo)).toArray.size ≤ sizeLine
  rw [List.size_toArray, List.length_take, List.length_drop, Array.length_toList]
  omega
 have hj : sIx items.size items.size hi ≤ items.size := Zgr _ _ (Nat.le_refl _) hi
 obtain ⟨os, hos, hcs, hds⟩ := id hs
 have hTs : s.TypeIs (.ref sl) "slice" := ⟨os, hos, hcs⟩
 unfold getItem
 try with_reducible refine wpAny_holding ?_
 first | refine wpAny_bind (wpAny_pure ?_) | skip
 refine wpAny_bind (wpAny_sequenceKey ht.typeIs (by decide) ?_)
 refine wpAny_bind (wpAny_callSpecial?_slot (name := Str.ofString "__getitem__") ht.typeIs PyProof.Rows.slot_tuple_getitem
  (wpAny_call_entry PyProof.Rows.slot_tuple_getitem ht.typeIs entry_tuple_getitem ?_ (args_tuple_getitem _ _)))
 show wpAny _ _ (Builtin.Tuple.tupleItemsOf (.ref t) >>= _) _ _ s
 refine wpAny_bind (tupleItemsOf_ ht ?_)
 refine wpAny_bind (wpAny_typeOf hTs ?_)
 rw [if_pos (by decide)]
 refine wpAny_bind (sliceApplied_gen hs pl pu ?_)
 have hno : ¬ ((((sIx items.size 0 lo : Nat) : Int) == 0 && (1 : Int) == 1 && (sIx items.size items.size hi - sIx items.size 0 lo) == items.size) = true) := by
  intro q
  rw [Bool.and_eq_true, Bool.and_eq_true] at q
  have q1 : ((sIx items.size 0 lo : Nat) : Int) = 0 := eq_of_beq q.1.1
  have q2 : sIx items.size items.size hi - sIx items.size 0 lo = items.size := eq_of_beq q.2
  exact hw ⟨by omega, by omega⟩
 show wpAny _ _ (if (((sIx items.size 0 lo : Nat) : Int) == 0 && (1 : Int) == 1 && (sIx items.size items.size hi - sIx items.size 0 lo) == items.size) = true then _ else _) _ _ s
 rw [if_neg hno, Zj5]
 first
  | exact wpAny_bind (m := Builtin.Tuple.tupleExact _) (wpAny_newObj_type (wpAny_pure ⟨_, rfl, wpAny_pure h⟩) htake)
  | exact wpAny_bind (m := Builtin.Tuple.tupleExact _) (wpAny_newObj_type (wpAny_bind (wpAny_pure (wpAny_pure ⟨_, rfl, wpAny_pure h⟩))) htake)
  | exact wpAny_bind (wpAny_bind (m := Builtin.Tuple.tupleExact _) (wpAny_newObj_type (wpAny_pure (wpAny_pure ⟨_, rfl, wpAny_pure h⟩)) htake))
  | exact wpAny_bind (wpAny_bind (m := Builtin.Tuple.tupleExact _) (wpAny_newObj_type (wpAny_pure ⟨_, rfl, wpAny_pure h⟩) htake))
end
end HT
namespace L2
open PySem PySem.Spec PyProof.Rows
abbrev TO := St → Hp → (Option Int → Hp → Prop) → Prop
def PO (X : Cx) (e : Option Expr) (t : TO) : Prop :=
 ∀ (pins : List (Addr × Obj)) (s : Shared) (σ : St) (H : Hp) (Q : Option Int → Hp → Prop), Inv X pins σ H s → t σ H Q →
  wpAny (model X.prog X.w) X.A (evalPart e X.env) (fun u s' => ∃ o H', Inv X pins σ H' s' ∧ IsPart u o ∧ Q o H') X.xe s
def ZkQ : TO := fun _ H Q => Q none H
def Znu (t : TE) : TO := fun σ H Q => t σ H fun x H1 => ∃ i, x = .int i ∧ Q (some i) H1
section
variable {X : Cx} {e : Expr} {te : TE} {lo hi : Option Expr} {tl th : TO} {pos p2 : Pos}
theorem ZkB : PO X none ZkQ := by
 intro pins s σ H Q I h
 rw [evalPart_none]
 exact wpAny_pure ⟨none, H, I, .none, h⟩
theorem Zk0 (h : PE X e te) : PO X (some e) (Znu te) := by
 intro pins s σ H Q I hw
 rw [evalPart_some]
 refine thn (h pins s σ H _ I hw) fun u s1 ⟨x, H1, I1, r1, q1⟩ => ?_
 obtain ⟨i, rfl, q⟩ := q1
 obtain ⟨t, rfl⟩ := r1
 exact ⟨some i, H1, I1, .int i t, q⟩
def SlR (X : Cx) (r : V → Option Int → Option Int → Hp → VK → Prop) : Prop :=
 ∀ (pins : List (Addr × Obj)) (s : Shared) (σ : St) (H : Hp) (x : V) (v vl vu : Value) (lo hi : Option Int) (sl : Addr) (Q : VK), Inv X pins σ H s → RelV x v → s.heap.IsSliceOf sl vl vu .none → IsPart vl lo → IsPart vu hi → r x lo hi H Q →
  ∃ T id, typeLookup (.type T) "__getitem__" = pure (some (.builtin id)) ∧ s.TypeIs v T ∧ wpAny (model X.prog X.w) X.A (getItem v (.ref sl)) (EP X pins σ Q) X.xe s
theorem SlR.or {r r' : V → Option Int → Option Int → Hp → VK → Prop} (h : SlR X r) (h' : SlR X r') : SlR X (fun x lo hi H Q => r x lo hi H Q ∨ r' x lo hi H Q) := by
 intro pins s σ H x v vl vu lo hi sl Q I rx hs pl pu q
 rcases q with q | q
 ·exact h pins s σ H x v vl vu lo hi sl Q I rx hs pl pu q
 ·exact h' pins s σ H x v vl vu lo hi sl Q I rx hs pl pu q
def tSl (r : V → Option Int → Option Int → Hp → VK → Prop) (te : TE) (tl th : TO) : TE := fun σ H Q => te σ H fun x H1 => tl σ H1 fun l H2 => th σ H2 fun u H3 => r x l u H3 Q
theorem ZjC {r : V → Option Int → Option Int → Hp → VK → Prop} (hr : SlR X r) (he : PE X e te) (hl : PO X lo tl) (hu : PO X hi th) : PE X (.Subscript e (.Slice lo hi none p2) pos) (tSl r te tl th) := by
 intro pins s σ H Q I h
 refine Subscript_ (thn (he pins s σ H _ I h) fun v s1 ⟨x, H1, I1, r1, q1⟩ => ?_)
 refine wpAny_Slice (thn (hl pins s1 σ H1 _ I1 q1) fun vl s2 ⟨l, H2, I2, pl, q2⟩ => thn (hu pins s2 σ H2 _ I2 q2) fun vu s3 ⟨u, H3, I3, pu, q3⟩ => ?_)
 rw [evalPart_none]
 refine wpAny_pure ?_
 have I4 : Inv X pins σ H3 { s3 with heap := s3.heap.push { cls := .type "slice", data := .fields #[vl, vu, .none] } } := I3.kept (t' := s3.toks) fun b ob q => Heap.get?_push_of_some _ q
 obtain ⟨T, id, hT, ht, hg⟩ := hr pins { s3 with heap := s3.heap.push { cls := .type "slice", data := .fields #[vl, vu, .none] } } σ H3 x v vl vu l u s3.heap.objs.size Q I4 r1 (Heap.IsSliceOf.new ..) pl pu q3
 show wpAny (model X.prog X.w) X.A (subscriptTail e (.Slice lo hi none p2) v (.ref s3.heap.objs.size)) (EP X pins σ Q) X.xe { s3 with heap := s3.heap.push { cls := .type "slice", data := .fields #[vl, vu, .none] } }
 exact tail_any (ops := [.ref s3.heap.objs.size, v]) ht hT hg (by with_unfolding_all rfl)
def ZgR (xs : List V) (lo hi : Option Int) : List V := (xs.drop (HT.sIx xs.length 0 lo)).take (HT.sIx xs.length xs.length hi - HT.sIx xs.length 0 lo)
theorem Zel (xs : List V) (lo hi : Option Int) : (ZgR xs lo hi).length ≤ xs.length := by
 unfold ZgR
 rw [List.length_take, List.length_drop]
 omega
def Zow (K : PySem.W.Frag) : V → Option Int → Option Int → Hp → VK → Prop := fun x lo hi H Q => ∃ a xs, x = .ref a ∧ SqT K H a xs ∧
 ¬ (HT.sIx xs.length 0 lo = 0 ∧ HT.sIx xs.length xs.length hi = xs.length) ∧ ∀ p, H p = none → Q (.ref p) (upd H p (.tup (ZgR xs lo hi)))
theorem Zly : SlR X (Zow X.K) := by
 intro pins s σ H x v vl vu lo hi sl Q I rx hs pl pu h
 obtain ⟨a, xs, rfl, hx, hw, q⟩ := h
 cases rx
 obtain ⟨its, r, ht, hz⟩ := I.tuple hx
 have hlen : its.toArray.size = xs.length := by rw [List.size_toArray]; exact r.length.symm
 refine ⟨"tuple", _, PyProof.Rows.slot_tuple_getitem.lookup, ht.typeIs, ?_⟩
 refine HT.getItem_tuple_cut ht hs pl pu (by rw [hlen]; exact hw) ?_ (by rw [hlen]; exact hz)
 rw [hlen]
 refine ⟨.ref s.heap.objs.size, _, I.laid (t' := s.toks) (o := .tup (ZgR xs lo hi)) (fun b ob q => Heap.get?_push_of_some _ q) (Nat.le_refl _) ?_, rfl, q _ (I.hok.fresh (Nat.le_refl _))⟩
 exact ⟨Nat.le_trans (Zel xs lo hi) hz, _, (r.drop (HT.sIx xs.length 0 lo)).take (HT.sIx xs.length xs.length hi - HT.sIx xs.length 0 lo), Zcm.new _ _⟩
def Znk (K : PySem.W.Frag) : R2 := fun x y H Q => ∃ a b xs ys, x = .ref a ∧ y = .ref b ∧ SqT K H a xs ∧ SqT K H b ys ∧ xs ≠ [] ∧ xs.length + ys.length ≤ sizeLine ∧
 (ys = [] → Q (.ref a) H) ∧ (ys ≠ [] → ∀ p, H p = none → Q (.ref p) (upd H p (.tup (xs ++ ys))))
theorem Vals.nil_iff {xs : List V} {us : List Value} (r : Vals xs us) : us = [] ↔ xs = [] := by
 cases r with
 | nil => simp
 | cons _ _ => simp
theorem ZkD : OpR X (binaryOp .Add) (Znk X.K) := by
 intro pins s σ H x y v u Q I rx ry h
 obtain ⟨a, b, xs, ys, rfl, rfl, ha, hb, hx, hz, q1, q2⟩ := h
 cases rx
 cases ry
 obtain ⟨its, r1, p1, _⟩ := I.tuple ha
 obtain ⟨its2, r2, p2, _⟩ := I.tuple hb
 refine HT.cat_tup p1 p2 (fun z => hx (r1.nil_iff.mp z)) (fun z => ⟨.ref a, H, I, rfl, q1 (r2.nil_iff.mp z)⟩) (fun z => ?_) (by rw [← r1.length, ← r2.length]; exact hz)
 refine ⟨.ref s.heap.objs.size, _, I.laid (t' := s.toks) (o := .tup (xs ++ ys)) (fun b ob q => Heap.get?_push_of_some _ q) (Nat.le_refl _) ?_, rfl, q2 (fun w => z (r2.nil_iff.mpr w)) _ (I.hok.fresh (Nat.le_refl _))⟩
 exact ⟨by rw [List.length_append]; exact hz, _, r1.append r2, Zcm.new _ _⟩
end
end L2
namespace L2
open PySem PySem.Spec PyProof.Rows
def ixN (n : Nat) (i : Int) : Option Nat := if 0 ≤ i then (if i < n then some i.toNat else none) else if -(n : Int) ≤ i then some (i + n).toNat else none
def atI {α : Type} (xs : List α) (i : Int) : Option α := (ixN xs.length i).bind fun j => xs[j]?
theorem Zif {n : Nat} {i : Int} {j : Nat} (h : ixN n i = some j) : seqIndex? i n = some j ∧ j < n ∧ -(n : Int) ≤ i ∧ i < n := by
 unfold ixN at h
 by_cases h0 : 0 ≤ i
 ·rw [if_pos h0] at h
  by_cases h1 : i < n
  ·rw [if_pos h1] at h
   have e : i.toNat = j := Option.some.inj h
   exact ⟨by rw [seqIndex_of h0 h1, e], by omega, by omega, h1⟩
  ·rw [if_neg h1] at h; cases h
 ·rw [if_neg h0] at h
  by_cases h1 : -(n : Int) ≤ i
  ·rw [if_pos h1] at h
   have e : (i + n).toNat = j := Option.some.inj h
   exact ⟨by rw [seqIndex_neg (by omega) h1, e], by omega, h1, by omega⟩
  ·rw [if_neg h1] at h; cases h
theorem Zgj {α : Type} {xs : List α} {i : Int} {v : α} (h : atI xs i = some v) : ∃ j, seqIndex? i xs.length = some j ∧ xs[j]? = some v ∧ j < xs.length ∧ -(xs.length : Int) ≤ i ∧ i < xs.length := by
 unfold atI at h
 cases e : ixN xs.length i with
 | none => rw [e] at h; cases h
 | some j =>
  rw [e] at h
  obtain ⟨h1, h2, h3, h4⟩ := Zif e
  exact ⟨j, h1, h, h2, h3, h4⟩
def Zie (b : Expr) : Prop := ∀ o i, subscripted b false o i = operate [o, i] (getItem o i)
def IxR (X : Cx) (r : R2) : Prop :=
 ∀ (value slice : Expr) (pins : List (Addr × Obj)) (s : Shared) (σ : St) (H : Hp) (x y : V) (v u : Value) (Q : VK), Inv X pins σ H s → RelV x v → RelV y u → r x y H Q →
  subscripted slice false v u = operate [v, u] (getItem v u) → wpAny (model X.prog X.w) X.A (subscriptTail value slice v u) (EP X pins σ Q) X.xe s
def MtR (X : Cx) (id : String) (r : V → List V → Hp → VK → Prop) : Prop :=
 ∀ (pins : List (Addr × Obj)) (s : Shared) (σ : St) (H : Hp) (x : V) (xs : List V) (v : Value) (us : List Value) (Q : VK), Inv X pins σ H s → RelV x v → Vals xs us → r x xs H Q →
  wpAny (model X.prog X.w) X.A (call (.builtin id) (v :: us)) (EP X pins σ Q) X.xe s
section
variable {X : Cx} {a b : Expr} {ta tb : TE} {pos : Pos}
theorem IxR.or {r r' : R2} (h : IxR X r) (h' : IxR X r') : IxR X (fun x y H Q => r x y H Q ∨ r' x y H Q) := by
 intro value slice pins s σ H x y v u Q I rx ry q hs
 rcases q with q | q
 ·exact h value slice pins s σ H x y v u Q I rx ry q hs
 ·exact h' value slice pins s σ H x y v u Q I rx ry q hs
theorem Zni {r : R2} (hr : IxR X r) (ha : PE X a ta) (hb : PE X b tb) (hs : Zie b) : PE X (.Subscript a b pos) (tOp r ta tb) := by
 intro pins s σ H Q I h
 exact Subscript_ (Zl8 ha hb I h fun v u s2 x y H2 I2 rx ry q => hr a b pins s2 σ H2 x y v u Q I2 rx ry q (hs _ _))
def Znr (K : PySem.W.Frag) : R2 := fun x y H Q => ∃ p xs i v, x = .ref p ∧ y = .int i ∧ SqL K H p xs ∧ atI xs i = some v ∧ Q v H
def Zm1 (K : PySem.W.Frag) : R2 := fun x y H Q => ∃ p xs i v, x = .ref p ∧ y = .int i ∧ SqT K H p xs ∧ atI xs i = some v ∧ Q v H
def Znm : R2 := fun x y H Q => ∃ z i c, x = .str z ∧ y = .int i ∧ z.length ≤ sizeLine ∧ atI z.cps.toList i = some c ∧ Q (.str ⟨#[c]⟩) H
theorem Zk8 : IxR X (Znr X.K) := by
 intro value slice pins s σ H x y v u Q I rx ry h hs
 obtain ⟨p, xs, i, z, rfl, rfl, hq, he, q⟩ := h
 cases rx
 obtain ⟨t, rfl⟩ := ry
 obtain ⟨its, r, pl, hz⟩ := I.list hq
 obtain ⟨j, h1, h2, h3, h4, h5⟩ := Zgj he
 obtain ⟨w, ew, rw'⟩ := r.get h2
 have hl := r.length
 have hn := Ze2
 have fin : EP X pins σ Q w s := ⟨z, H, I, rw', q⟩
 by_cases h0 : 0 ≤ i
 ·have hj : i.toNat = j := by
   rw [seqIndex_of h0 h5] at h1
   exact Option.some.inj h1
  exact item_listR pl.isList h0 (by omega) (by rw [hj]; simpa using ew) fin hs
 ·have hj : (i + (its.toArray.size : Int)).toNat = j := by
   rw [seqIndex_neg (by omega) h4] at h1
   rw [List.size_toArray, ← hl]
   exact Option.some.inj h1
  exact subscriptTail_builtinR (x := w) pl.isList.typeIs slot_list_getitem.lookup
   (wpAny_getItem_list_neg (Q := fun r s' => r = w ∧ EP X pins σ Q r s') pl.isList (by omega) (by rw [List.size_toArray] <;> omega) (by omega) (by rw [hj]; simpa using ew) ⟨rfl, fin⟩) hs
theorem ZlF : IxR X (Zm1 X.K) := by
 intro value slice pins s σ H x y v u Q I rx ry h hs
 obtain ⟨p, xs, i, z, rfl, rfl, hq, he, q⟩ := h
 cases rx
 obtain ⟨t, rfl⟩ := ry
 obtain ⟨its, r, pl, hz⟩ := I.tuple hq
 obtain ⟨j, h1, h2, h3, h4, h5⟩ := Zgj he
 obtain ⟨w, ew, rw'⟩ := r.get h2
 have hl := r.length
 have hn := Ze2
 have fin : EP X pins σ Q w s := ⟨z, H, I, rw', q⟩
 exact subscriptTail_builtinR (x := w) pl.typeIs slot_tuple_getitem.lookup
  (getItem_tuple (j := j) (Q := fun r s' => r = w ∧ EP X pins σ Q r s') pl (by omega) (by omega) (by rw [List.size_toArray, ← hl]; exact h1) (by simpa using ew) ⟨rfl, fin⟩) hs
theorem ZmA : IxR X Znm := by
 intro value slice pins s σ H x y v u Q I rx ry h hs
 obtain ⟨z, i, c, rfl, rfl, hz, he, q⟩ := h
 obtain ⟨t, rfl⟩ := rx
 obtain ⟨t', rfl⟩ := ry
 obtain ⟨j, h1, h2, h3, h4, h5⟩ := Zgj he
 have hl : z.cps.toList.length = z.length := by simp [Str.length]
 rw [hl] at h1 h4 h5
 have hn := Ze2
 exact tail_any (typeIs_str s z t) slot_str_getitem.lookup (getItem_str (c := c) (by
  have e1 : decide (i < -(2 ^ 63 : Int)) = false := decide_eq_false (by omega)
  have e2 : decide (i ≥ 2 ^ 63) = false := decide_eq_false (by omega)
  rw [e1, e2, Bool.or_false]) (by rw [h1]; simpa using h2) ⟨.str ⟨#[c]⟩, H, I.tok _, ⟨_, rfl⟩, q⟩) hs
def rIx (K : PySem.W.Frag) : R2 := fun x y H Q => Znr K x y H Q ∨ Zm1 K x y H Q ∨ Znm x y H Q
theorem ZmC : IxR X (rIx X.K) := Zk8.or (ZlF.or ZmA)
theorem Zhr (its : List Value) (n j : Nat) (u : Value) : Obj.mapSeq (·.setIfInBounds j u) { cls := .type "list", data := .seq its.toArray n } = { cls := .type "list", data := .seq (its.set j u).toArray n } := by
 simp [Obj.mapSeq]
theorem Inv.lst {pins : List (Addr × Obj)} {σ : St} {H : Hp} {s : Shared} {p : Addr} {xs : List V} (I : Inv X pins σ H s) (h : H p = some (.lst xs)) :
  ∃ (its : List Value) (n : Nat), Vals xs its ∧ s.heap.get? p = some { cls := .type "list", data := .seq its.toArray n } ∧ xs.length ≤ sizeLine := by
 obtain ⟨z, its, n, r, e⟩ := I.hok p _ h
 exact ⟨its, n, r, e, z⟩
theorem Inv.lstUpd {pins : List (Addr × Obj)} {σ : St} {H : Hp} {s : Shared} {p : Addr} {xs ys : List V} {its its' : List Value} {n n' : Nat} {f : Obj → Obj} (I : Inv X pins σ H s) (h : H p = some (.lst xs))
  (ho : s.heap.get? p = some { cls := .type "list", data := .seq its.toArray n }) (hf : f { cls := .type "list", data := .seq its.toArray n } = { cls := .type "list", data := .seq its'.toArray n' }) (r : Vals ys its') (hz : ys.length ≤ sizeLine) (t : Nat) :
  Inv X pins σ (upd H p (.lst ys)) { s with heap := s.heap.update p f, toks := t } := by
 have e : (s.heap.update p f).get? p = some { cls := .type "list", data := .seq its'.toArray n' } := by
  rw [Heap.get?_update_self f ho (by rw [hf] <;> rfl), hf]
 refine I.write (x := p) (e := p) (by rw [h]; trivial) (.inl rfl) (fun b u hb q => (Heap.get?_update_other _ _ (Ne.symm hb)).trans q) ⟨_, e⟩ ?_
 exact ⟨hz, its', n', r, e⟩
def Zny : V → V → V → Hp → (Hp → Prop) → Prop := fun o i v H Q => ∃ p xs k j, o = .ref p ∧ i = .int k ∧ H p = some (.lst xs) ∧ ixN xs.length k = some j ∧ Q (upd H p (.lst (xs.set j v)))
theorem set_list : ZnH X Zny := by
 intro pins s σ H o i v ov iv u Q I ro ri rv h
 obtain ⟨p, xs, k, j, rfl, rfl, hp, hj, q⟩ := h
 cases ro
 obtain ⟨t, rfl⟩ := ri
 obtain ⟨its, n, r, ho, hz⟩ := I.lst hp
 obtain ⟨h1, h2, h3, h4⟩ := Zif hj
 have hl := r.length
 have hn := Ze2
 have I' : Inv X pins σ (upd H p (.lst (xs.set j v))) { s with heap := s.heap.update p (Obj.mapSeq (·.setIfInBounds j u)) } :=
  I.lstUpd hp ho (Zhr its n j u) (r.set rv j) (by rw [List.length_set]; exact hz) s.toks
 by_cases h0 : 0 ≤ k
 ·have hk : k.toNat = j := by
   rw [seqIndex_of h0 h4] at h1
   exact Option.some.inj h1
  exact PySem.W.ki_setAt ho h0 (by omega) (by rw [List.size_toArray, ← hl]; exact h4) (by rw [hk]; exact ⟨_, I', q⟩)
 ·have hk : (k + (its.toArray.size : Int)).toNat = j := by
   rw [seqIndex_neg (by omega) h3] at h1
   rw [List.size_toArray, ← hl]
   exact Option.some.inj h1
  exact PySem.W.ki_setBack ho (by omega) (by rw [List.size_toArray, ← hl]; exact h3) (by omega) (by rw [hk]; exact ⟨_, I', q⟩)
theorem Zga (lo hi : Option Int) (n : Nat) : (sliceBounds lo hi none n).1 = ((HT.sIx n 0 lo : Nat) : Int) ∧ (sliceBounds lo hi none n).2.1 = ((HT.sIx n n hi : Nat) : Int) ∧ (sliceBounds lo hi none n).2.2 = 1 := by
 refine ⟨?_, ?_, rfl⟩
 ·cases lo with
  | none => simp [sliceBounds, HT.sIx]
  | some i =>
   simp only [sliceBounds, HT.sIx, Option.getD_none, show (1 : Int) > 0 by decide, if_true]
   by_cases h : i < 0
   ·simp only [h, if_true] <;> omega
   ·simp only [h, if_false] <;> omega
 ·cases hi with
  | none => simp [sliceBounds, HT.sIx]
  | some i =>
   simp only [sliceBounds, HT.sIx, Option.getD_none, show (1 : Int) > 0 by decide, if_true]
   by_cases h : i < 0
   ·simp only [h, if_true] <;> omega
   ·simp only [h, if_false] <;> omega
theorem Zfd (its : List Value) (lo hi : Option Int) : slicePick its.toArray lo hi none = ((its.drop (HT.sIx its.length 0 lo)).take (HT.sIx its.length its.length hi - HT.sIx its.length 0 lo)).toArray := by
 obtain ⟨h1, h2, h3⟩ := Zga lo hi its.toArray.size
 unfold slicePick
 rw [h1, h2, h3]
 simp only [sliceRange_one, pick_run, List.size_toArray] <;> rfl
def Zoe (K : PySem.W.Frag) : V → Option Int → Option Int → Hp → VK → Prop := fun x lo hi H Q => ∃ a xs, x = .ref a ∧ SqL K H a xs ∧ ∀ p, H p = none → Q (.ref p) (upd H p (.lst (ZgR xs lo hi)))
theorem ZkG : SlR X (Zoe X.K) := by
 intro pins s σ H x v vl vu lo hi sl Q I rx hs pl pu h
 obtain ⟨a, xs, rfl, hx, q⟩ := h
 cases rx
 obtain ⟨its, r, ht, hz⟩ := I.list hx
 have hlen := r.length
 refine ⟨"list", _, slot_list_getitem.lookup, ht.isList.typeIs, ?_⟩
 refine wpAny_getItem_list_slice ht.isList hs pl pu .none (by simp) ?_ (by rw [List.size_toArray] <;> omega)
 rw [Zfd, ← hlen]
 refine ⟨.ref s.heap.objs.size, _, I.laid (t' := s.toks) (o := .lst (ZgR xs lo hi)) (fun b ob q => Heap.get?_push_of_some _ q) (Nat.le_refl _) ?_, rfl, q _ (I.hok.fresh (Nat.le_refl _))⟩
 exact ⟨Nat.le_trans (Zel xs lo hi) hz, _, 0, (r.drop (HT.sIx xs.length 0 lo)).take (HT.sIx xs.length xs.length hi - HT.sIx xs.length 0 lo), Heap.get?_push_size _ rfl⟩
def Zdw : V → Bool
 | .non => true
 | .bl _ => true
 | .int _ => true
 | .str _ => true
 | _ => false
def eqV : V → V → Bool
 | .non, .non => true
 | .bl a, .bl b => a == b
 | .bl a, .int b => (if a then 1 else 0) == b
 | .int a, .bl b => a == (if b then 1 else 0)
 | .int a, .int b => a == b
 | .str a, .str b => a == b
 | _, _ => false
theorem Zmd {A : Around} {s : Shared} {y x : V} {u v : Value} (ry : RelV y u) (rx : RelV x v) (fy : Zdw y = true) (fx : Zdw x = true) : SeqAt.EqAt A s u v (eqV y x) := by
 cases y with
 | non =>
  cases ry
  cases x with
  | non => cases rx; exact SeqAt.EqAt.same _
  | bl b => cases rx; exact SeqAt.EqAt.none_bool b
  | int b => obtain ⟨t, rfl⟩ := rx; exact SeqAt.EqAt.none_int b t
  | str b => obtain ⟨t, rfl⟩ := rx; exact SeqAt.EqAt.none_str b t
  | _ => exact absurd (show false = true from fx) Bool.false_ne_true
 | bl a =>
  cases ry
  cases x with
  | non => cases rx; exact SeqAt.EqAt.bool_none a
  | bl b => cases rx; exact SeqAt.EqAt.bool_bool a b
  | int b => obtain ⟨t, rfl⟩ := rx; exact SeqAt.EqAt.bool_int a b t
  | str b => obtain ⟨t, rfl⟩ := rx; exact SeqAt.EqAt.bool_str a b t
  | _ => exact absurd (show false = true from fx) Bool.false_ne_true
 | int a =>
  obtain ⟨t', rfl⟩ := ry
  cases x with
  | non => cases rx; exact SeqAt.EqAt.int_none a t'
  | bl b => cases rx; exact SeqAt.EqAt.int_bool a t' b
  | int b => obtain ⟨t, rfl⟩ := rx; exact SeqAt.EqAt.int_int a t' b t
  | str b => obtain ⟨t, rfl⟩ := rx; exact SeqAt.EqAt.int_str a t' b t
  | _ => exact absurd (show false = true from fx) Bool.false_ne_true
 | str a =>
  obtain ⟨t', rfl⟩ := ry
  cases x with
  | non => cases rx; exact SeqAt.EqAt.str_none a t'
  | bl b => cases rx; exact SeqAt.EqAt.str_bool a t' b
  | int b => obtain ⟨t, rfl⟩ := rx; exact SeqAt.EqAt.str_int a t' b t
  | str b => obtain ⟨t, rfl⟩ := rx; exact SeqAt.EqAt.str_str a t' b t
  | _ => exact absurd (show false = true from fx) Bool.false_ne_true
 | _ => exact absurd (show false = true from fy) Bool.false_ne_true
def eqU (x : V) (u : Value) : Bool := match u with
 | .none => eqV .non x
 | .bool b => eqV (.bl b) x
 | .int i _ => eqV (.int i) x
 | .str z _ => eqV (.str z) x
 | _ => false
theorem ZjK {x y : V} {u : Value} (r : RelV y u) (f : Zdw y = true) : eqU x u = eqV y x := by
 cases y with
 | non => cases r; rfl
 | bl b => cases r; rfl
 | int i => obtain ⟨t, rfl⟩ := r; rfl
 | str z => obtain ⟨t, rfl⟩ := r; rfl
 | _ => exact absurd (show false = true from f) Bool.false_ne_true
theorem ZfX {x : V} : ∀ {xs : List V} {us : List Value}, Vals xs us → xs.all Zdw = true → us.any (eqU x) = xs.any fun y => eqV y x
 | _, _, .nil, _ => rfl
 | y :: xs, u :: us, .cons r t, f => by
  rw [List.all_cons, Bool.and_eq_true] at f
  rw [List.any_cons, List.any_cons, ZjK r f.1, ZfX t f.2]
theorem Ze3 {A : Around} {s : Shared} {x : V} {v : Value} (rx : RelV x v) (fx : Zdw x = true) : ∀ {xs : List V} {us : List Value}, Vals xs us → xs.all Zdw = true → ∀ u ∈ us, SeqAt.EqAt A s u v (eqU x u)
 | _, _, .nil, _ => fun u hu => by cases hu
 | y :: xs, u :: us, .cons r t, f => fun u' hu => by
  rw [List.all_cons, Bool.and_eq_true] at f
  rcases List.mem_cons.mp hu with rfl | hu
  ·rw [ZjK r f.1]; exact Zmd r rx f.1 fx
  ·exact Ze3 rx fx t f.2 u' hu
def inV (x : V) (xs : List V) : Bool := xs.any fun y => eqV y x
def rIn (K : PySem.W.Frag) (neg : Bool) : R2 := fun x y H Q => ∃ p xs, y = .ref p ∧ (SqL K H p xs ∨ SqT K H p xs) ∧ Zdw x = true ∧ xs.all Zdw = true ∧ Q (.bl (if neg then !inV x xs else inV x xs)) H
theorem ZiD : OpR X (compareOp .In) (rIn X.K false) := by
 intro pins s σ H x y v u Q I rx ry h
 obtain ⟨p, xs, rfl, hq, fx, fs, q⟩ := h
 cases ry
 rcases hq with hq | hq
 ·obtain ⟨its, r, pl, hz⟩ := I.list hq
  refine SeqAt.in_listAt (eqU x) pl.isList (fun w hw => Ze3 rx fx r fs w (by simpa using hw)) ⟨.bl _, H, I, rfl, ?_⟩
  rw [show its.toArray.any (eqU x) = its.any (eqU x) by simp, ZfX r fs]
  exact q
 ·obtain ⟨its, r, pl, hz⟩ := I.tuple hq
  refine SeqAt.in_tupleAt (eqU x) pl (fun w hw => Ze3 rx fx r fs w (by simpa using hw)) ⟨.bl _, H, I, rfl, ?_⟩
  rw [show its.toArray.any (eqU x) = its.any (eqU x) by simp, ZfX r fs]
  exact q
theorem ZaN.or {f : Value} {r r' : List V → Hp → VK → Prop} (h : ZaN X f r) (h' : ZaN X f r') : ZaN X f (fun xs H Q => r xs H Q ∨ r' xs H Q) := by
 intro pins s σ H xs us Q I rs q
 rcases q with q | q
 ·exact h pins s σ H xs us Q I rs q
 ·exact h' pins s σ H xs us Q I rs q
theorem Zgl : ZaN X (.type "list") (fun xs H Q => ∃ p ys, xs = [.ref p] ∧ (SqL X.K H p ys ∨ SqT X.K H p ys) ∧ ∀ l, H l = none → Q (.ref l) (upd H l (.lst ys))) := by
 intro pins s σ H xs us Q I r h
 obtain ⟨p, ys, rfl, hq, q⟩ := h
 obtain ⟨u, rfl, rx⟩ := vals1 r
 cases rx
 have fin : ∀ (its : List Value), Vals ys its → ys.length ≤ sizeLine → ∀ (h' : Heap) (c' : Nat), (∀ b o', s.heap.get? b = some o' → h'.get? b = some o') →
   h'.get? s.heap.objs.size = some { cls := .type "list", dict := none, data := .seq its.toArray c', slots := #[] } → EP X pins σ Q (.ref s.heap.objs.size) { s with heap := h' } := fun its r' hz h' c' kp e =>
  ⟨.ref s.heap.objs.size, _, I.laid (t' := s.toks) kp (Nat.le_refl _) (show ZaS X.prog X.w _ h' _ (.lst ys) from ⟨hz, its, c', r', e⟩), rfl, q _ (I.hok.fresh (Nat.le_refl _))⟩
 rcases hq with hq | hq
 ·obtain ⟨its, r', pl, hz⟩ := I.list hq
  have hlen := r'.length
  obtain ⟨o, ho, hc, n, hd⟩ := pl.isList
  exact call_list_seq p (.inl rfl) ho hc hd (fun h' c' kp e => fin its r' hz h' c' kp e) (by simp only [List.size_toArray] <;> omega)
 ·obtain ⟨its, r', pl, hz⟩ := I.tuple hq
  have hlen := r'.length
  obtain ⟨o, ho, hc, n, hd⟩ := pl
  exact call_list_seq p (.inr rfl) ho hc hd (fun h' c' kp e => fin its r' hz h' c' kp e) (by simp only [List.size_toArray] <;> omega)
theorem Zfe : ZaN X (.type "tuple") (fun xs H Q => ∃ p ys, xs = [.ref p] ∧ ((SqL X.K H p ys ∧ ∀ l, H l = none → Q (.ref l) (upd H l (.tup ys))) ∨ (SqT X.K H p ys ∧ Q (.ref p) H))) := by
 intro pins s σ H xs us Q I r h
 obtain ⟨p, ys, rfl, h⟩ := h
 obtain ⟨u, rfl, rx⟩ := vals1 r
 cases rx
 rcases h with ⟨hq, q⟩ | ⟨hq, q⟩
 ·obtain ⟨its, r', pl, hz⟩ := I.list hq
  have hlen := r'.length
  refine call_tuple_list pl.isList (fun h' kp => ?_) (by simp only [List.size_toArray] <;> omega)
  have I1 : Inv X pins σ H { s with heap := h' } := I.kept (t' := s.toks) kp
  have I2 : Inv X pins σ (upd H h'.objs.size (.tup ys)) { s with heap := h'.push { cls := .type "tuple", data := .seq its.toArray } } :=
   I1.laid (t' := s.toks) (fun b o e => Heap.get?_push_of_some _ e) (Nat.le_refl _) (show ZaS X.prog X.w _ _ _ (.tup ys) from ⟨hz, its, r', Zcm.new _ _⟩)
  exact ⟨.ref h'.objs.size, _, I2, rfl, q _ (I1.hok.fresh (Nat.le_refl _))⟩
 ·obtain ⟨its, r', pl, hz⟩ := I.tuple hq
  exact call_tuple_same pl ⟨.ref p, H, I, rfl, q⟩
def tyV (K : PySem.W.Frag) (T : String) (x : V) (H : Hp) : Prop := match x with
 | .str _ => T = "str"
 | .int _ => T = "int"
 | .ref p => (T = "list" ∧ ∃ xs, SqL K H p xs) ∨ (T = "tuple" ∧ ∃ o, K.lookup p = some o ∧ o.cls = .type "tuple" ∧ o.dict = none) ∨
   (T = "dict" ∧ ((∃ kvs, H p = some (.dK kvs)) ∨ ∃ kvs, H p = some (.dT kvs))) ∨ (T = "set" ∧ ∃ S n, H p = some (.set S n))
 | _ => False
theorem Zl0 {pins : List (Addr × Obj)} {σ : St} {H : Hp} {s : Shared} {T : String} {x : V} {v : Value} (I : Inv X pins σ H s) (r : RelV x v) (ty : tyV X.K T x H) :
  s.TypeIs v T ∧ ∀ a, v = .ref a → ∃ ob, s.heap.get? a = some ob ∧ ob.dict = none := by
 cases x with
 | str z =>
  obtain ⟨t, rfl⟩ := r
  cases (show T = "str" from ty)
  exact ⟨typeIs_str s z t, fun _ e => nomatch e⟩
 | int i =>
  obtain ⟨t, rfl⟩ := r
  cases (show T = "int" from ty)
  exact ⟨typeIs_int s i t, fun _ e => nomatch e⟩
 | ref p =>
  cases r
  rcases ty with ⟨rfl, xs, hq⟩ | ⟨rfl, o, hk, hc, hd⟩ | ⟨rfl, hk⟩ | ⟨rfl, S, n, hk⟩
  ·obtain ⟨its, _, pl, _⟩ := I.list hq
   refine ⟨pl.isList.typeIs, fun a e => ?_⟩
   cases e
   obtain ⟨o, n, e, c, hd, _⟩ := pl
   exact ⟨o, e, hd⟩
  ·refine ⟨⟨o, I.kIn p o hk, hc⟩, fun a e => ?_⟩
   cases e
   exact ⟨o, I.kIn _ o hk, hd⟩
  ·have z : ∃ o, s.heap.get? p = some o ∧ o.ExactDict := by
    rcases hk with ⟨kvs, hk⟩ | ⟨kvs, hk⟩
    ·obtain ⟨_, _, _, _, o, _, _, e, ex, _⟩ := I.hok p _ hk
     exact ⟨o, e, ex⟩
    ·obtain ⟨_, _, _, _, o, _, _, e, ex, _⟩ := I.hok p _ hk
     exact ⟨o, e, ex⟩
   obtain ⟨o, e, ex⟩ := z
   refine ⟨⟨o, e, ex.1⟩, fun a e2 => ?_⟩
   cases e2
   exact ⟨o, e, ex.2.1⟩
  ·obtain ⟨o, _, _, _, e, ex, _⟩ := I.hok p _ hk
   refine ⟨⟨o, e, ex.1⟩, fun a e2 => ?_⟩
   cases e2
   exact ⟨o, e, ex.2.1⟩
 | _ => exact False.elim ty
def tBM (K : PySem.W.Frag) (T : String) (r : V → List V → Hp → VK → Prop) (to : TE) (t : TA) : TE := fun σ H Q => to σ H fun x H1 => tyV K T x H1 ∧ t σ H1 fun xs H2 => r x xs H2 Q
variable {o e : Expr} {es : List Expr} {to : TE} {t : TA} {name : Str} {apos cpos : Pos} {T id : String} {r : V → List V → Hp → VK → Prop}
theorem Zm9 (pa : PlainAttrs T) (slot : Slot T name id) (hty : typeOf (.builtin id) = pure (.type "method_descriptor")) (hm : MtR X id r) (ho : PE X o to) (ha : PA X (e :: es) t)
  (hbase : attributeBase o name X.env (eval o X.env) = eval o X.env := by rfl)
  (hfew : ((backTo cpos (starEach (e :: es) X.env)).all (fun x => !x.1) && (backToKw cpos (keywordEach [] X.env)).all (fun x => x.1.isSome)
   && decide ((e :: es).length + ([] : List Keyword).length + (if ([] : List Keyword).isEmpty then 0 else 1) < 30)) = true := by rfl)
  (hline : (apos.endLine == cpos.line) = true := by rfl) (hs : starEach (e :: es) X.env = (false, eval e X.env) :: starEach es X.env := by rfl) (hplain : (backTo cpos (starEach es X.env)).any (·.1) = false := by rfl) :
  PE X (.Call (.Attribute o name apos) (e :: es) [] cpos) (tBM X.K T r to t) := by
 intro pins s σ H Q I h
 refine wpAny_Call_method_late hbase hfew hline rfl (thn (ho pins s σ H _ I h) fun v s1 ⟨x, H1, I1, r1, ty, q1⟩ => ?_)
 obtain ⟨h1, h2⟩ := Zl0 I1 r1 ty
 refine ⟨T, id, pa, slot, hty, h1, h2, ?_⟩
 have hA := ha cpos pins s1 σ H1 _ I1 q1
 rw [hs] at hA ⊢
 refine Calls.callWith_builtin (by show (false || (backTo cpos (starEach es X.env)).any (·.1)) = false; rw [hplain] <;> rfl) (Calls.evalArgs_plain ?_)
 exact thn hA fun us s2 ⟨vs, H2, I2, r2, q2⟩ => hm pins s2 σ H2 x vs v us Q I2 r1 r2 q2
/- xs.append(e), list.index on a module's tuple .. are MtR facts of 06m -/
end
end L2
namespace L2
open PySem PySem.Spec PyProof.Rows
def MtM (X : Cx) (id : String) (r : V → List V → Hp → VK → Prop) : Prop :=
 ∀ (pins : List (Addr × Obj)) (s : Shared) (σ : St) (H : Hp) (x : V) (xs : List V) (v : Value) (us : List Value) (Q : VK), Inv X pins σ H s → RelV x v → Vals xs us → r x xs H Q →
  wpAny (model X.prog X.w) X.A (call (.builtin id) (v :: us)) (EP X pins σ Q) X.xe s
theorem Vals.one : ∀ {x : V} {us : List Value}, Vals [x] us → ∃ u, us = [u] ∧ RelV x u
 | _, _, .cons r .nil => ⟨_, rfl, r⟩
theorem Vals.zero : ∀ {us : List Value}, Vals [] us → us = []
 | _, .nil => rfl
theorem Vals.dropLast {xs : List V} {us : List Value} (h : Vals xs us) : Vals xs.dropLast us.dropLast := by
 induction h with
 | nil => exact .nil
 | cons r t ih =>
  cases t with
  | nil => exact .nil
  | cons q t' => exact .cons r ih
theorem Vals.eraseIdx : ∀ {xs : List V} {us : List Value} (i : Nat), Vals xs us → Vals (xs.eraseIdx i) (us.eraseIdx i)
 | _, _, _, .nil => .nil
 | _, _, 0, .cons _ t => t
 | _, _, i + 1, .cons r t => .cons r (Vals.eraseIdx i t)
theorem Vals.rep {xs : List V} {us : List Value} (h : Vals xs us) : ∀ k : Nat, Vals (List.replicate k xs).flatten (List.replicate k us).flatten
 | 0 => .nil
 | k + 1 => by
  rw [List.replicate_succ, List.replicate_succ, List.flatten_cons, List.flatten_cons]
  exact Vals.append h (Vals.rep h k)
theorem foldl_rep (its : List Value) : ∀ (k : Nat) (acc : List Value),
  List.foldl (fun x1 x2 => x1 ++ x2) acc.toArray (List.replicate k its.toArray) = (acc ++ (List.replicate k its).flatten).toArray
 | 0, acc => by simp
 | k + 1, acc => by
  have e : acc.toArray ++ its.toArray = (acc ++ its).toArray := by simp
  have e2 : (acc ++ its) ++ (List.replicate k its).flatten = acc ++ (List.replicate (k + 1) its).flatten := by
   rw [List.replicate_succ, List.flatten_cons, List.append_assoc]
  rw [← e2, ← foldl_rep its k (acc ++ its), ← e, List.replicate_succ, List.foldl_cons]
section
variable {X : Cx} {pins : List (Addr × Obj)} {σ : St} {H : Hp} {s : Shared} {l b : Addr} {xs ys zs : List V}
theorem Inv.lset {its its' : List Value} {n : Nat} {f : Array Value → Array Value} {t' : Nat} (I : Inv X pins σ H s) (hH : H l = some (.lst xs))
  (e : s.heap.get? l = some { cls := .type "list", data := .seq its.toArray n }) (hf : f its.toArray = its'.toArray) (hv : Vals ys its') (hz : ys.length ≤ sizeLine) :
  Inv X pins σ (upd H l (.lst ys)) { s with heap := s.heap.update l (Obj.mapSeq f), toks := t' } := by
 have q := PySem.IsL.update e f
 rw [hf] at q
 refine I.write (x := l) (e := l) (by rw [hH]; exact trivial) (.inl rfl) (fun b' u hb hu => (Heap.get?_update_other s.heap (Obj.mapSeq f) (Ne.symm hb)).trans hu) ⟨_, q⟩ ?_
 exact ⟨hz, its', _, hv, q⟩
theorem Inv.lnew {its : List Value} {t' : Nat} (I : Inv X pins σ H s) (hv : Vals ys its) (hz : ys.length ≤ sizeLine) :
  Inv X pins σ (upd H s.heap.objs.size (.lst ys)) { s with heap := s.heap.push { cls := .type "list", data := .seq its.toArray }, toks := t' } :=
 I.laid (fun _ _ q => Heap.get?_push_of_some _ q) (Nat.le_refl _) ⟨hz, its, 0, hv, Heap.get?_push_size _ rfl⟩
theorem Inv.fresh (I : Inv X pins σ H s) : H s.heap.objs.size = none := I.hok.fresh (Nat.le_refl _)
theorem Inv.lstM (I : Inv X pins σ H s) (hH : H l = some (.lst xs)) : xs.length ≤ sizeLine ∧ ∃ (its : List Value) (n : Nat), Vals xs its ∧ xs.length = its.length ∧ s.heap.get? l = some { cls := .type "list", data := .seq its.toArray n } := by
 obtain ⟨z, its, n, r, e⟩ := I.hok l _ hH
 exact ⟨z, its, n, r, r.length, e⟩
theorem Zj1 {n : Nat} (h : n ≤ sizeLine) : Builtin.List.listTooLong n = false := by
 unfold Builtin.List.listTooLong
 exact decide_eq_false (by omega)
end
section
variable {X : Cx}
def Zib : V → List V → Hp → VK → Prop := fun x vs H Q => ∃ l xs y, x = .ref l ∧ vs = [y] ∧ H l = some (.lst xs) ∧ xs.length < sizeLine ∧ Q .non (upd H l (.lst (xs ++ [y])))
theorem Zfv : MtM X "list.append" Zib := by
 intro pins s σ H x vs v us Q I rx rv h
 obtain ⟨l, xs, y, rfl, rfl, hH, hz, q⟩ := h
 cases rx
 obtain ⟨u, rfl, ru⟩ := rv.one
 obtain ⟨z, its, n, r, hl, e⟩ := I.lstM hH
 refine call_meets F.slot_list_append ⟨_, e, rfl⟩ F.entry_list_append (F.args_list_append_2 _ _) (PySem.list_append l its.toArray n u (by rw [List.size_toArray]; omega)) ⟨e, ?_⟩
 refine ⟨.non, _, I.lset (its' := its ++ [u]) hH e (by simp) (r.append (.cons ru .nil)) ?_, rfl, q⟩
 rw [List.length_append, List.length_singleton]
 omega
def Zov : R2 := fun x y H Q => ∃ l b xs zs, x = .ref l ∧ y = .ref b ∧ H l = some (.lst xs) ∧ H b = some (.lst zs) ∧ xs.length + zs.length ≤ sizeLine ∧ ∀ p, H p = none → Q (.ref p) (upd H p (.lst (xs ++ zs)))
theorem Zmm : OpR X (binaryOp .Add) Zov := by
 intro pins s σ H x y v u Q I rx ry h
 obtain ⟨l, b, xs, zs, rfl, rfl, hH, hB, hz, q⟩ := h
 cases rx
 cases ry
 obtain ⟨z, its, n, r, hl, e⟩ := I.lstM hH
 obtain ⟨z2, its2, n2, r2, hl2, e2⟩ := I.lstM hB
 refine PySem.P.add_list e e2 ?_ (by rw [List.size_toArray, List.size_toArray]; omega)
 have ea : its.toArray ++ its2.toArray = (its ++ its2).toArray := by simp
 rw [ea]
 exact ⟨.ref _, _, I.lnew (t' := s.toks) (r.append r2) (by rw [List.length_append]; omega), rfl, q _ I.fresh⟩
def Zom : R2 := fun x y H Q => ∃ l k xs, x = .ref l ∧ y = .int k ∧ H l = some (.lst xs) ∧ -(2 ^ 63) ≤ k ∧ k < 2 ^ 63 ∧ xs.length * k.toNat ≤ sizeLine ∧
 ∀ p, H p = none → Q (.ref p) (upd H p (.lst (List.replicate k.toNat xs).flatten))
theorem len_rep {α : Type} (xs : List α) (k : Nat) : (List.replicate k xs).flatten.length = k * xs.length := by
 induction k with
 | zero => simp
 | succ k ih => rw [List.replicate_succ, List.flatten_cons, List.length_append, ih, Nat.succ_mul, Nat.add_comm]
theorem Zmo : OpR X (binaryOp .Mult) Zom := by
 intro pins s σ H x y v u Q I rx ry h
 obtain ⟨l, k, xs, rfl, rfl, hH, h1, h2, hz, q⟩ := h
 cases rx
 obtain ⟨t, rfl⟩ := ry
 obtain ⟨z, its, n, r, hl, e⟩ := I.lstM hH
 have hlen : its.toArray.size * k.toNat ≤ sizeLine := by rw [List.size_toArray, ← hl]; exact hz
 have hcap : ¬ its.toArray.size * k.toNat > (2 ^ 63 - 1) / 8 := by
  have : (sizeLine : Nat) ≤ (2 ^ 63 - 1) / 8 := by decide
  omega
 have hfit : ¬ (!Builtin.List.listFitsIndex k) = true := by
  rw [fitsIndex_both h1 h2]
  exact Bool.false_ne_true
 have hlong : ¬ Builtin.List.listTooLong (its.toArray.size * k.toNat) = true := by
  rw [Zj1 hlen]
  exact Bool.false_ne_true
 have hnew : List.foldl (fun x1 x2 => x1 ++ x2) #[] (List.replicate (if its.toArray.isEmpty = true then 0 else k.toNat) its.toArray) = (List.replicate k.toNat its).flatten.toArray := by
  have f0 : ∀ m : Nat, List.foldl (fun x1 x2 => x1 ++ x2) #[] (List.replicate m its.toArray) = (List.replicate m its).flatten.toArray := fun m => by
   have := foldl_rep its m []
   rw [List.nil_append] at this
   exact this
  rw [f0]
  cases its with
  | nil => simp
  | cons a r' => rw [if_neg (by simp)]
 refine wpAny_binaryOp_repeat_ref (T := "list") (U := "int") (by decide) ⟨_, e, rfl⟩ (fun s' => typeIs_int s' k t) noFill_list_mul F.fills_int_mul F.slot_int_rmul repeat_list F.slot_int_index.lookup
  (call_meets F.slot_int_rmul (typeIs_int s k t) F.entry_int_rmul (F.args_int_rmul_2 _ _) (int___rmul___int_list k t l its.toArray n)
   ⟨e, rfl, ⟨_, e, rfl⟩, call_meets F.slot_list_mul ⟨_, e, rfl⟩ F.entry_list_mul (F.args_list_mul_2 _ _) (AutoListH.list___mul___list_int_3 l its.toArray n k t hfit hcap hlong) ⟨e, ?_⟩⟩)
 rw [hnew]
 exact ⟨.ref _, _, I.lnew (t' := s.toks) (r.rep k.toNat) (by rw [len_rep, Nat.mul_comm]; exact hz), rfl, q _ I.fresh⟩
end
section
variable {prog : Program} {w : World} {A : Around} {E : Value → Shared → Prop} {s : Shared}
end
section
variable {X : Cx}
end
end L2
namespace Att
open PySem PySem.W PySem.Calls PyProof.Rows
theorem Zep {P : Params} {h : Heap} : ∀ (ns : List Int) (vs : List Value), WellAll P h vs (ns.map WData.int) → IntsAre vs ns := by
 intro ns
 induction ns with
 | nil =>
  intro vs w
  rw [List.map_nil] at w
  cases w
  exact .nil
 | cons n ns ih =>
  intro vs w
  rw [List.map_cons] at w
  cases w with
  | cons a b =>
   cases a
   exact .cons _ _ (ih _ b)
theorem ZiH {l : OpenLaw} {n : Nat} (hn : l.most = some n) {P : Params} {h : Heap} {args : List WData} {vals : List Value}
  (hpre : l.row.toRowW.claim.pre args = true) (hwl : WellAll P h vals args) :
  ∃ a vs ns, vals = [Value.ref a] ∧ args = [WData.list (ns.map WData.int)] ∧ h.get? a = some { cls := .type "list", data := .seq vs.toArray } ∧ IntsAre vs ns ∧ ns.length ≤ n := by
 have hsh : WShape.hasAll [] args [.list .int] = true := (pre_splitW hpre).1
 have hc : l.pre.holds [] { args := args } = true := (pre_splitW hpre).2
 obtain ⟨d, r, rfl, h1, h2⟩ := hasAllW_cons hsh
 obtain rfl := hasAllW_nil h2
 obtain ⟨xs, rfl, h3⟩ := hasW_list h1
 obtain ⟨ns, rfl⟩ := items_int h3
 have hlen : ns.length ≤ n := by
  unfold OpenLaw.pre at hc
  have h4 : (WTm.not (.lt (.lit (.int (n : Int))) (.len (.arg 0)))).holds [] { args := [.list (ns.map .int)] } = true := by
   have h4 := (holds_andW hc).1
   rw [hn] at h4
   exact h4
  have h5 := condW_of h4 (w_not (w_lt w_lit (w_len_list (w_arg rfl))))
  rw [List.length_map] at h5
  refine Nat.le_of_not_lt fun q => ?_
  have q' : (n : Int) < ((ns.length : Nat) : Int) := by omega
  first
   | (rw [decide_eq_true q'] at h5; exact absurd h5 (by decide))
   | (simp at h5; omega)
 cases hwl with
 | cons w1 w2 =>
  cases w2
  cases w1 with
  | list ho hall => exact ⟨_, _, ns, rfl, rfl, ho, Zep ns _ hall, hlen⟩
theorem Zi0 (l : OpenLaw) (args : List WData) : l.row.toRowW.claim.post args (.bool true) args = true :=
 postW_of (r := l.row.toRowW) (X := (true == true))
  (show WShape.has [] (.bool true) .bool = true by first | rfl | decide | simp [WShape.has, WShape.arms, WShape.armsAll])
  (show (WTm.eq .res (.lit (.bool true))).value [] { args := args, res := some (.bool true), after := args } = some (.bool (true == true)) from w_eq_bool (w_res rfl) w_lit) rfl
theorem attach_call {l : OpenLaw} {n : Nat} {q : Program} {loose : List Str} {XP : (Str → Option Value) → Heap → Prop} {YP : World → Heap → Prop} {d : DefRec}
  (hn : l.most = some n) (hdf : d.params.defaults = [])
  (call : ∀ (w : World) (s₀ s₁ : Shared) (mg mb : Str → Option Value) (fa : Addr) (o : Obj) (pm cd doc : Value) (a : Addr) (vs : List Value) (ns : List Int),
   Ground q loose [] XP w s₀ mg mb s₁.heap → YP w s₁.heap →
   s₁.heap.get? fa = some o → o.data = .func (docDef d.name d.params d.body d.scope pm cd doc) → s₁.heap.CodeRec cd d.name → mg d.name = some (.ref fa) →
   s₁.heap.get? a = some { cls := .type "list", data := .seq vs.toArray } → IntsAre vs ns → ns.length ≤ n → s₁.gens = #[] →
   codeAny (model l.prog w) callerA (.call (.ref fa) ⟨[.ref a], []⟩) (fun r s' => r = .ok (.ret (.bool true)) ∧ OldK s₁.heap s'.heap ∧ s'.os = s₁.os ∧ AllBare s'.gens) s₁) :
  WalkO q loose XP YP l.row.toRowW d [] (fun f vs => PySem.call f vs) := by
 intro w s₀ s₁ mg mb G Y fa o pm cd doc dV kV ho hd hcd hD hmg hg args vals as hpre hlay hrd hwl hlo
 obtain rfl : dV = .none := Dflts.none hD hdf
 obtain rfl : kV = .none := Dflts.noKw hD
 obtain ⟨a, vs, ns, rfl, rfl, hobj, hints, hlen⟩ := ZiH hn hpre hwl
 refine enter_call (codeAny_mono (call w s₀ s₁ mg mb fa o pm cd doc a vs ns G Y ho (fd_plain hd) hcd hmg hobj hints hlen hg) fun r s' hq => ?_)
 obtain ⟨rfl, h2, h3, h4⟩ := hq
 exact ⟨.inl ⟨.bool true, .bool true, [], rfl, fun _ => rfl, .bool true, Zi0 l _, fun _ => ⟨List.Pairwise.nil, fun _ hm => (nomatch hm)⟩⟩, h2, h3, h4⟩
section
variable {prog : Program} {w : World} {A : Around} {E : Value → Shared → Prop} {s : Shared} {K : Frag}
end
end Att
namespace L2
open PySem PySem.Spec PyProof.Rows
theorem ZfP : ∀ {vs : List Value} {ns : List Int}, IntsAre vs ns → Vals (ns.map V.int) vs
 | _, _, .nil => .nil
 | _, _, .cons n t h => .cons ⟨t, rfl⟩ (ZfP h)
def Only (H : Hp) : Prop := ∀ b, H b = none ∨ ∃ o xs, H b = some (.frz o (.lst xs))
theorem Zj6 {P : Program} {w : World} {K : PySem.W.Frag} {mg mb : Str → Option Value} {CX : CXT} {k : Nat} {fa a : Addr} {fd : FuncData} {x : Str} {sp : Sp} {s₁ : Shared} {vs : List Value} {ns : List Int}
  (KX : K.In s₁.heap) (hns : s₁.heap.Ns mainGlobals mg) (hb : s₁.heap.Ns builtinsNs mb) (hbb : ∀ x : Str, x ≠ "__name__" → mb x = bootBuiltins x) (hlim : s₁.heap.NoLimit) (hg : s₁.gens = #[])
  (ha : s₁.heap.get? a = some { cls := .type "list", data := .seq vs.toArray }) (hi : IntsAre vs ns) (hl : ns.length ≤ sizeLine) (hr : Zb3 k callerA)
  (F : ∀ base : Heap, K.In base → base.Ns mainGlobals mg → ZeD P w K mg base CX k fa fd [x] sp) (hbind : ∀ (s : Shared) (u : Value), BindsTo s fd ⟨[u], []⟩ [(x, u)])
  (hsp : ∀ H : Hp, Only H → SqL K H a (ns.map V.int) → sp [.ref a] H (fun v _ => v = .bl true) fun _ _ _ => False)
  (hCX : ∀ H e s', CX [] H s₁ (fun _ _ _ => False) e s' → False) :
  codeAny (model P w) callerA (.call (.ref fa) ⟨[.ref a], []⟩) (fun r s' => r = .ok (.ret (.bool true)) ∧ OldK s₁.heap s'.heap ∧ s'.os = s₁.os ∧ AllBare s'.gens) s₁ := by
 have rv := ZfP hi
 have lenV := hi.length
 have core : ∀ H : Hp, Only H → SqL K H a (ns.map V.int) → HOk P w H s₁.heap → (∀ b, H b ≠ none → b = a) → (H a ≠ none → K.lookup a = none) →
   codeAny (model P w) callerA (.call (.ref fa) ⟨[.ref a], []⟩) (fun r s' => r = .ok (.ret (.bool true)) ∧ OldK s₁.heap s'.heap ∧ s'.os = s₁.os ∧ AllBare s'.gens) s₁ := by
  intro H hO hS hok hA hK
  have base_of : ∀ {b : Addr} {o : Obj}, s₁.heap.get? b = some o → H b = none → (Zge s₁.heap H).get? b = some o := fun e n => Zkj e n
  have noA : ∀ {b : Addr} {o : Obj} {es : Array DictEntry} {ep : Nat}, s₁.heap.get? b = some o → o.data = .dict es ep → H b = none := fun {b o es ep} e d => by
   cases q : H b with
   | none => rfl
   | some u =>
    have e' : b = a := hA b (by rw [q]; simp)
    subst e'
    rw [ha] at e; cases e
    have d' : Data.seq vs.toArray _ = Data.dict es ep := d
    cases d'
  have nsK : ∀ {b : Addr} {m : Str → Option Value}, s₁.heap.Ns b m → (Zge s₁.heap H).Ns b m := fun {b m} ⟨o, es, ep, e, d, r⟩ => ⟨o, es, ep, base_of e (noA e d), d, r⟩
  have hKb : K.In (Zge s₁.heap H) := fun b o e => base_of (KX b o e) (by
   cases q : H b with
   | none => rfl
   | some u =>
    have e' : b = a := hA b (by rw [q]; simp)
    subst e'
    rw [hK (by rw [q]; simp)] at e; cases e)
  have hM : Mod K mg (Zge s₁.heap H) := ⟨hKb, nsK hns, ⟨mb, nsK hb, hbb⟩, let ⟨mc, h1, h2⟩ := hlim; ⟨mc, nsK h1, h2⟩⟩
  have e0 : Zhn P w K mg (Zge s₁.heap H) callerA [] s₁ H := ⟨rfl, hM, fun b o e => ZkT e, Nat.le_of_eq (ZiT _ _), trivial, fun b hb => absurd (show b ∈ ([] : List Addr) from hb) (by simp), hok, .of_eq hg⟩
  refine codeAny_mono ((F _ hKb (nsK hns)).run callerA [] s₁ H ⟨[.ref a], []⟩ [.ref a] [.ref a] _ _ hr e0 (hbind s₁ (.ref a)) (.cons rfl .nil) (hsp H hO hS)) fun r s' h => ?_
  cases r with
  | error e => exact (hCX H e s' h).elim
  | ok fl =>
   cases fl with
   | next => exact False.elim h
   | brk => exact False.elim h
   | cont => exact False.elim h
   | ret u =>
    obtain ⟨v, H', os, bare, un, hok', r', q⟩ := h
    have q' : v = .bl true := q
    subst q'
    obtain rfl : u = Value.bool true := r'
    refine ⟨rfl, OldK.of_keep fun b o e => ?_, os, bare⟩
    cases q : H b with
    | none => exact un.keep b o e q (by intro z; exact absurd (show b ∈ ([] : List Addr) from z) (by simp)) (by simp)
    | some u =>
     rcases hO b with z | ⟨ob, xs, z⟩
     ·rw [q] at z; cases z
     ·have z2 := un.frzs b ob _ z
      obtain ⟨e1, _⟩ := hok b _ z
      obtain ⟨e2, _⟩ := hok' b _ z2
      rw [e] at e1; cases e1
      exact e2
 cases hk : K.lookup a with
 | some o =>
  have e := KX a o hk
  rw [ha] at e
  cases e
  refine core (fun _ => none) (fun _ => .inl rfl) (.inr ⟨_, vs.toArray, _, hk, rfl, rfl, rfl, by rw [List.size_toArray, lenV]; exact hl, by simpa using rv⟩) (fun b u z => by have z' : (none : Option HO) = some u := z; cases z') (fun b z => absurd rfl z) fun z => absurd rfl z
 | none =>
  refine core (fun b => if b = a then some (.frz { cls := .type "list", data := .seq vs.toArray } (.lst (ns.map V.int))) else none) (fun b => ?_) (.inl (.inr ⟨{ cls := .type "list", data := .seq vs.toArray }, if_pos rfl⟩)) (fun b u z => ?_) (fun b z => ?_) fun _ => hk
  ·by_cases hb : b = a
   ·exact .inr ⟨_, _, if_pos hb⟩
   ·exact .inl (if_neg hb)
  ·by_cases hb : b = a
   ·have z' := (if_pos hb).symm.trans z
    cases z'
    subst hb
    exact ⟨ha, by rw [List.length_map]; exact hl, vs, _, rv, ha⟩
   ·have z' := (if_neg hb).symm.trans z
    cases z'
  ·by_cases hb : b = a
   ·exact hb
   ·exact absurd (if_neg hb) z
end L2
namespace L2
open PySem PySem.Spec PyProof.Rows
theorem Zio {l : PySem.W.OpenLaw} {n k : Nat} {q : Program} {loose : List Str} {XP : (Str → Option Value) → Heap → Prop} {YP : World → Heap → Prop} {d : DefRec} {K : Params → PySem.W.Frag} {CX : World → CXT} {sp : World → Sp} {x : Str}
  (hn : l.most = some n) (hn2 : n ≤ sizeLine) (hdf : d.params.defaults = []) (hr : Zb3 k callerA)
  (hY : ∀ (w : World) (h : Heap), YP w h → (K w.params).In h)
  (F : ∀ (w : World) (mg : Str → Option Value) (fa : Addr) (h : Heap), (K w.params).In h → h.Ns mainGlobals mg → mg d.name = some (.ref fa) →
   ∃ fd : FuncData, (∀ (s : Shared) (u : Value), BindsTo s fd ⟨[u], []⟩ [(x, u)]) ∧
    ∀ base : Heap, (K w.params).In base → base.Ns mainGlobals mg → ZeD l.prog w (K w.params) mg base (CX w) k fa fd [x] (sp w))
  (hsp : ∀ (w : World) (H : Hp) (a : Addr) (ns : List Int), ns.length ≤ n → Only H → SqL (K w.params) H a (ns.map V.int) → sp w [.ref a] H (fun v _ => v = .bl true) fun _ _ _ => False)
  (hCX : ∀ (w : World) (H : Hp) (s : Shared) (e : Value) (s' : Shared), CX w [] H s (fun _ _ _ => False) e s' → False) :
  PySem.W.WalkO q loose XP YP l.row.toRowW d [] (fun f vs => PySem.call f vs) := by
 refine Att.attach_call hn hdf fun w s₀ s₁ mg mb fa o pm cd doc a vs ns G Y ho hd hcd hmg hobj hints hlen hg => ?_
 have KX := hY w _ Y
 obtain ⟨fd, hb, hF⟩ := F w mg fa _ KX G.T.g hmg
 exact Zj6 KX G.T.g G.T.b G.T.builtins G.T.nolimit hg hobj hints (Nat.le_trans hlen hn2) hr hF hb (fun H hO hS => hsp w H a ns hlen hO hS) fun H e s' => hCX w H s₁ e s'
end L2
/- THE LAST THEOREM (shape; LID, My.* are yours):
  My.Adr: a structure of the addresses that your layer names (classes, functions); My.Txt K t: a structure (Prop) of the equations over K;
  My.txt_mk : {K} {implicit addresses ..} (e1 : nsIn K mainGlobals "law" = some (some (.ref f))) (e2 : K.lookup f = some ⟨oc, od, .func (fnOf "law" "law" params body scope dV kV doc pm an cdv ct), sl⟩) (e3 : codeIn K cdv "law" = true) .. : ∃ t, My.Txt K t
set_option maxRecDepth 100000 in
set_option maxHeartbeats 0 in
theorem PySem.Challenge.cw_LID_holds : PySem.Challenge.rw_LID.Holds := by
 w_on; o_law; k_head; (case hw => w_witness2)
 k_fill
 refine L2.Zio (l := PySem.Challenge.rw_LID) (n := 63) (k := 40) (x := "script") (CX := fun w => ..) (sp := fun _ => My.sp_law) rfl (by decide) rfl ⟨rfl, by decide, by decide⟩ (fun w h Y => PySem.W.kIn_of Y) ?F ?S ?C
 case F =>
  intro w mg fa h KX G hmg
  have T : ∃ t, My.Txt (L2.KOf KX) t := by
   dsimp only [L2.KOf]                          -- K must stand as «<heap const> w.params» for k_is
   refine' My.txt_mk ?e1 ?e2 ?e3 ..
   (case e1 => PySem.W.k_is)                    -- in the order: a name -> its address -> its object -> its parts
   (case e2 => PySem.W.k_is)
   ..
  obtain ⟨t, T⟩ := T
  have e0 := hmg.symm.trans (PySem.W.mg_of KX G T.law)
  cases e0                                       -- fa is the law's own address
  exact ⟨_, fun s u => .of_eq rfl, fun base kb nb => My.law_fn T kb nb⟩     -- if «.of_eq rfl» comes too early: refine' ⟨_, ?b, fun base kb nb => My.law_fn T kb nb⟩; exact fun s u => .of_eq rfl
 case S => exact fun w H a ns hl hO hS => ..
 case C => exact ..
(the tactic k_is has no namespace: write k_is) -/
namespace L2
open PySem PySem.Spec PyProof.Rows
def Zay (s : Stmt) : Arguments := match s with
 | .FunctionDef _ a _ _ _ _ _ _ _ _ => a
 | _ => { posonlyargs := [], args := [], vararg := none, kwonlyargs := [], kw_defaults := [], kwarg := none, defaults := [] }
def Zat (s : Stmt) : List Stmt := match s with
 | .FunctionDef _ _ b _ _ _ _ _ _ _ => b
 | _ => []
def Zq (s : Stmt) : Scope := match s with
 | .FunctionDef _ _ _ _ _ _ sc _ _ _ => sc
 | _ => { kind := .function, names := [], isGenerator := false, isCoroutine := false }
abbrev CX0 : CXT := fun _ _ _ _ _ _ => False
abbrev E0 : XK := fun _ _ _ => False
theorem Znb {X : Cx} : ZhK CX0 X E0 := fun _ _ _ _ _ _ _ h => h.elim
structure Fun (K : PySem.W.Frag) (x qual : Str) (st : Stmt) (f : Addr) (fd : FuncData) : Prop where
 ex : ∃ (oc : Value) (od : Option Addr) (dV kV doc pm : Value) (an : Option Addr) (cdv ct : Value) (osl : Array (Option Value)),
  fd = PySem.W.fnOf x qual (Zay st) (Zat st) (Zq st) dV kV doc pm an cdv ct ∧ K.lookup f = some ⟨oc, od, .func fd, osl⟩ ∧ PySem.W.codeIn K cdv qual = true
 kp : PySem.W.keepIn K (.ref f) = true
section
variable {P : Program} {w : World} {K : PySem.W.Frag} {mg : Str → Option Value} {base : Heap}
theorem Fun.ok {x qual : Str} {st : Stmt} {f : Addr} {fd : FuncData} {N ps : List Str} {k : Nat} {sp : Sp} (F : Fun K x qual st f fd) (S : ZaE N ps (Zq st)) (len : ∀ vs H Q E, sp vs H Q E → vs.length = ps.length)
  (hbody : ∀ (cdv : Value) (A : Around) (outer : List Env) (s : Shared) (H : Hp) (vs : List V) (Q : VK) (E : XK), Zb3 k (A.deeper (envOfC qual (Zq st) s.heap.objs.size f cdv)) → sp vs H Q E →
   ∃ t, PSs (ZgY CX0 P w K mg base N qual (Zq st) f cdv A outer s H E).nox (Zat st) t ∧ t { nx := fun _ H' => Q .non H', rt := Q } (start N vs) H) : ZeD P w K mg base CX0 (k + 1) f fd ps sp := by
 obtain ⟨oc, od, dV, kV, doc, pm, an, cdv, ct, osl, rfl, lk, hcd⟩ := F.ex
 refine ZnL lk hcd S len fun A outer s H vs Q E hr hsp => ?_
 obtain ⟨t, h, q⟩ := hbody cdv A outer s H vs Q E hr hsp
 exact ⟨t, h.nox, q⟩
theorem Fun.binds {x qual : Str} {st : Stmt} {f : Addr} {fd : FuncData} {ps : List Str} (F : Fun K x qual st f fd)
  (h : ∀ (dV kV doc pm : Value) (an : Option Addr) (cdv ct : Value) (us : List Value), us.length = ps.length → bindArgs (PySem.W.fnOf x qual (Zay st) (Zat st) (Zq st) dV kV doc pm an cdv ct) ⟨us, []⟩ = pure (ps.zip us)) : Binds K fd ps [] := by
 obtain ⟨oc, od, dV, kV, doc, pm, an, cdv, ct, osl, rfl, lk, hcd⟩ := F.ex
 exact .all (h dV kV doc pm an cdv ct)
theorem Zj4 {x qual : Str} {st : Stmt} {f : Addr} {oc : Value} {od an : Option Addr} {osl : Array (Option Value)} {dV kV doc pm cdv ct : Value} (l : K.lookup f = some ⟨oc, od, .func (PySem.W.fnOf x qual (Zay st) (Zat st) (Zq st) dV kV doc pm an cdv ct), osl⟩)
  (c : PySem.W.codeIn K cdv qual = true) (k : PySem.W.keepIn K (.ref f) = true) : Fun K x qual st f (PySem.W.fnOf x qual (Zay st) (Zat st) (Zq st) dV kV doc pm an cdv ct) := ⟨⟨oc, od, dV, kV, doc, pm, an, cdv, ct, osl, rfl, l, c⟩, k⟩
end
section
variable {X : Cx}
end
def ZkR (H H' : Hp) : Prop := ∀ b o, H b = some o → H' b = some o
theorem ZkR.free {H H' : Hp} (e : ZkR H H') {l : Addr} (h : H' l = Option.none) : H l = Option.none := by
 cases q : H l with
 | none => rfl
 | some o =>
  rw [e l o q] at h
  cases h
theorem ZkR.seq {K : PySem.W.Frag} {H H' : Hp} {a : Addr} {xs : List V} (e : ZkR H H') (h : SqL K H a xs) : SqL K H' a xs := by
 rcases h with (h | ⟨o, h⟩) | h
 ·exact .inl (.inl (e _ _ h))
 ·exact .inl (.inr ⟨o, e _ _ h⟩)
 ·exact .inr h
end L2
namespace L2
open PySem PySem.Spec PyProof.Rows
section
variable {κ : Type} [DecidableEq κ]
def Zds (kvs : List (κ × V)) (k : κ) : Option V := (kvs.find? fun kv => decide (kv.1 = k)).map (·.2)
def putK (kvs : List (κ × V)) (k : κ) (v : V) : List (κ × V) :=
 if (kvs.any fun kv => decide (kv.1 = k)) = true then kvs.map (fun kv => if kv.1 = k then (kv.1, v) else kv) else kvs ++ [(k, v)]
theorem Zjw {k : κ} : Zds ([] : List (κ × V)) k = none := rfl
theorem ZdQ {p : κ × V} {r : List (κ × V)} {k : κ} (e : p.1 = k) : Zds (p :: r) k = some p.2 := by simp [Zds, List.find?_cons, e]
theorem Zd5 {p : κ × V} {r : List (κ × V)} {k : κ} (e : ¬ p.1 = k) : Zds (p :: r) k = Zds r k := by simp [Zds, List.find?_cons, e]
theorem Zg1 (k : κ) : ∀ kvs : List (κ × V), (kvs.any fun kv => decide (kv.1 = k)) = (Zds kvs k).isSome
 | [] => rfl
 | p :: r => by
  rw [List.any_cons]
  by_cases e : p.1 = k
  ·simp only [ZdQ e, decide_eq_true e, Bool.true_or, Option.isSome_some]
  ·rw [Zd5 e, decide_eq_false e, Bool.false_or]; exact Zg1 k r
theorem Zc5 (kvs : List (κ × V)) (k : κ) (v : V) : (putK kvs k v).length ≤ kvs.length + 1 := by
 unfold putK
 split
 ·rw [List.length_map]; omega
 ·rw [List.length_append, List.length_cons, List.length_nil]; omega
theorem Zer.isSome_eq {o : Option V} {u : Option Value} (r : Zer o u) : o.isSome = u.isSome := by
 cases o with
 | none => cases u with
  | none => rfl
  | some _ => exact (show False from r).elim
 | some _ => cases u with
  | none => exact (show False from r).elim
  | some _ => rfl
theorem Zer.getD {o : Option V} {u : Option Value} {d : V} {d' : Value} (r : Zer o u) (rd : RelV d d') : RelV (o.getD d) (u.getD d') := by
 cases o with
 | none => cases u with
  | none => exact rd
  | some _ => exact (show False from r).elim
 | some _ => cases u with
  | none => exact (show False from r).elim
  | some _ => exact r
theorem KV.val {kvs : List (κ × V)} {vs : List (κ × Value)} (r : KV kvs vs) (k : κ) : Zer (Zds kvs k) (valueAt vs k) := by
 unfold KV at r
 induction r with
 | nil => exact True.intro
 | @cons p q ps qs h t ih =>
  obtain ⟨h1, h2⟩ := h
  by_cases e : p.1 = k
  ·have e' : q.1 = k := h1.symm.trans e
   have b : valueAt (q :: qs) k = some q.2 := by simp [valueAt, List.find?_cons, e']
   rw [ZdQ e, b]; exact h2
  ·have e' : ¬ q.1 = k := fun z => e (h1.trans z)
   have b : valueAt (q :: qs) k = valueAt qs k := by simp [valueAt, List.find?_cons, e']
   rw [Zd5 e, b]; exact ih
theorem KV.any {kvs : List (κ × V)} {vs : List (κ × Value)} (r : KV kvs vs) (k : κ) : (kvs.any fun kv => decide (kv.1 = k)) = vs.any fun kv => decide (kv.1 = k) := by
 unfold KV at r
 induction r with
 | nil => rfl
 | cons h t ih => rw [List.any_cons, List.any_cons, ih, h.1]
theorem KV.repl {kvs : List (κ × V)} {vs : List (κ × Value)} (r : KV kvs vs) (k : κ) {y : V} {u : Value} (ry : RelV y u) :
  KV (kvs.map fun kv => if kv.1 = k then (kv.1, y) else kv) (vs.map fun kv => if kv.1 = k then (kv.1, u) else kv) := by
 unfold KV at r ⊢
 induction r with
 | nil => exact .nil
 | @cons p q ps qs h t ih =>
  rw [List.map_cons, List.map_cons]
  refine .cons ?_ ih
  obtain ⟨h1, h2⟩ := h
  by_cases e : p.1 = k
  ·rw [if_pos e, if_pos (h1.symm.trans e)]; exact ⟨h1, ry⟩
  ·rw [if_neg e, if_neg (fun z => e (h1.trans z))]; exact ⟨h1, h2⟩
theorem KV.put {kvs : List (κ × V)} {vs : List (κ × Value)} (r : KV kvs vs) (k : κ) {y : V} {u : Value} (ry : RelV y u) : KV (putK kvs k y) (stored vs k u) := by
 unfold putK stored
 rw [r.any k]
 by_cases e : (vs.any fun kv => decide (kv.1 = k)) = true
 ·rw [if_pos e, if_pos e]; exact r.repl k ry
 ·rw [if_neg e, if_neg e]; exact Paired.snoc r ⟨rfl, ry⟩
theorem KV.keys {kvs : List (κ × V)} {vs : List (κ × Value)} (r : KV kvs vs) : kvs.map (·.1) = vs.map (·.1) := by
 unfold KV at r
 induction r with
 | nil => rfl
 | cons h t ih => rw [List.map_cons, List.map_cons, ih, h.1]
theorem KV.length {kvs : List (κ × V)} {vs : List (κ × Value)} (r : KV kvs vs) : kvs.length = vs.length := Paired.length r
end
theorem ZgJ {P : Program} {w : World} {k : Key} {u : Value} (r : RelV (kV k) u) : (Zaq P w).is k u = true := by
 cases k with
 | inl i => obtain ⟨t, e⟩ := (show ∃ t, u = Value.int i t from r); subst e; exact ZgQ P w i t
 | inr x => obtain ⟨t, e⟩ := (show ∃ t, u = Value.str x t from r); subst e; exact ZgW P w x t
theorem ZfF {P : Program} {w : World} : ∀ {ks : List Key} {us : List Value}, Vals (ks.map kV) us → ItemsAre (Zaq P w) ks us
 | [], _, r => by rw [List.map_nil] at r; cases r; exact .nil
 | k :: ks, _, r => by
  rw [List.map_cons] at r
  cases r with
  | cons h t => exact .cons (ZgJ h) (ZfF t)
abbrev KT (H : Hp) : List (List Key × V) → List (List Key × Addr × Value) → Prop := Paired fun p q => p.1 = q.1 ∧ H q.2.1 = some (.tup (p.1.map kV)) ∧ RelV p.2 q.2.2
theorem KT.val {H : Hp} {kvs : List (List Key × V)} {xs : List (List Key × Addr × Value)} (r : KT H kvs xs) (k : List Key) : Zer (Zds kvs k) ((atKey xs k).map (·.2)) := by
 induction r with
 | nil => exact True.intro
 | @cons p q ps qs h t ih =>
  obtain ⟨h1, _, h2⟩ := h
  by_cases e : p.1 = k
  ·have e' : q.1 = k := h1.symm.trans e
   have b : atKey (q :: qs) k = some q.2 := by simp [atKey, List.find?_cons, e']
   rw [ZdQ e, b]; exact h2
  ·have e' : ¬ q.1 = k := fun z => e (h1.trans z)
   have b : atKey (q :: qs) k = atKey qs k := by simp [atKey, List.find?_cons, e']
   rw [Zd5 e, b]; exact ih
theorem KT.repl {H : Hp} {kvs : List (List Key × V)} {xs : List (List Key × Addr × Value)} (r : KT H kvs xs) (k : List Key) {y : V} {u : Value} (ry : RelV y u) :
  KT H (kvs.map fun kv => if kv.1 = k then (kv.1, y) else kv) (xs.map (putAt k u)) := by
 induction r with
 | nil => exact .nil
 | @cons p q ps qs h t ih =>
  rw [List.map_cons, List.map_cons]
  refine .cons ?_ ih
  obtain ⟨h1, h2, h3⟩ := h
  unfold putAt
  by_cases e : p.1 = k
  ·rw [if_pos e, if_pos (h1.symm.trans e)]; exact ⟨h1, h2, ry⟩
  ·rw [if_neg e, if_neg (fun z => e (h1.trans z))]; exact ⟨h1, h2, h3⟩
theorem KT.put {H : Hp} {kvs : List (List Key × V)} {xs : List (List Key × Addr × Value)} (r : KT H kvs xs) (k : List Key) {b : Addr} {y : V} {u : Value} (hb : H b = some (.tup (k.map kV))) (ry : RelV y u) :
  KT H (putK kvs k y) (storedH xs k b u) := by
 have e : (kvs.any fun kv => decide (kv.1 = k)) = (atKey xs k).isSome := by
  rw [Zg1, (r.val k).isSome_eq, Option.isSome_map]
 unfold putK storedH
 rw [e]
 by_cases q : (atKey xs k).isSome = true
 ·rw [if_pos q, if_pos q]; exact r.repl k ry
 ·rw [if_neg q, if_neg q]; exact Paired.snoc r ⟨rfl, hb, ry⟩
theorem KT.keeps {H H' : Hp} {kvs : List (List Key × V)} {xs : List (List Key × Addr × Value)} (r : KT H kvs xs) (ht : ∀ b ys, H b = some (.tup ys) → H' b = some (.tup ys)) : KT H' kvs xs :=
 Paired.mapP r fun _ _ z => ⟨z.1, ht _ _ z.2.1, z.2.2⟩
section
variable {P : Program} {w : World} {H : Hp} {h : Heap} {a : Addr}
theorem Zlh {u : HO} (ok : HOk P w H h) (e : Rd H a u) : ZaS P w H h a u := e.ok ok
theorem ZfL {kvs : List (Key × V)} (ok : HOk P w H h) (e : Rd H a (.dK kvs)) : kvs.length ≤ sizeLine ∧ (a == sysModules) = false ∧ ∃ vs, KV kvs vs ∧ h.DictOf (Zaq P w) a vs :=
 show ZaS P w H h a (.dK kvs) from Zlh ok e
theorem Zli {kvs : List (Key × V)} (ok : HOk P w H h) (e : H a = some (.dK kvs)) : kvs.length ≤ sizeLine ∧ (a == sysModules) = false ∧ ∃ vs, KV kvs vs ∧ h.DictOf (Zaq P w) a vs := ZfL ok (.inl e)
theorem Zgm {ks : List Key} (ok : HOk P w H h) (e : H a = some (.tup (ks.map kV))) : (tupleKind (Zaq P w)).is h ks a := by
 obtain ⟨_, its, r, o, h1, h2, n, h3⟩ := (show ZaS P w H h a (.tup (ks.map kV)) from ok a _ e)
 exact ⟨o, its.toArray, n, h1, h2.1, h3, by simpa using ZfF r⟩
theorem Zgz {kvs : List (List Key × V)} (ok : HOk P w H h) (e : Rd H a (.dT kvs)) : kvs.length ≤ sizeLine ∧ (a == sysModules) = false ∧
  ∃ xs, KT H kvs xs ∧ h.DictOfH (tupleKind (Zaq P w)) a xs := by
 obtain ⟨z, y, xs, r, o, es, ep, h1, h2, h3, h4, h5⟩ := (show ZaS P w H h a (.dT kvs) from Zlh ok e)
 refine ⟨z, y, xs, r, o, es, ep, h1, h2, h3, h4, fun x hx => ?_, h5⟩
 have all : ∀ {l : List (List Key × V)} {m : List (List Key × Addr × Value)}, KT H l m → ∀ x ∈ m, (tupleKind (Zaq P w)).is h x.1 x.2.1 := by
  intro l m q
  induction q with
  | nil => intro x hx; exact nomatch hx
  | @cons p q ps qs hq t ih =>
   intro x hx
   rcases List.mem_cons.mp hx with e | hx
   ·subst e
    exact Zgm ok (by rw [← hq.1]; exact hq.2.1)
   ·exact ih x hx
 exact all r x hx
theorem Znf {kvs : List (List Key × V)} (ok : HOk P w H h) (e : H a = some (.dT kvs)) : kvs.length ≤ sizeLine ∧ (a == sysModules) = false ∧
  ∃ xs, KT H kvs xs ∧ h.DictOfH (tupleKind (Zaq P w)) a xs := Zgz ok (.inl e)
end
def ZhU (H : Hp) (a : Addr) (y : V) (r : Option V) : Prop :=
 (∃ kvs k, Rd H a (.dK kvs) ∧ y = kV k ∧ r = Zds kvs k) ∨ ∃ kvs k b, Rd H a (.dT kvs) ∧ y = .ref b ∧ H b = some (.tup (k.map kV)) ∧ r = Zds kvs k
def ZhS (H : Hp) (a : Addr) (y v : V) (H' : Hp) : Prop :=
 (∃ kvs k, H a = some (.dK kvs) ∧ y = kV k ∧ kvs.length < sizeLine ∧ H' = upd H a (.dK (putK kvs k v))) ∨
 ∃ kvs k b, H a = some (.dT kvs) ∧ y = .ref b ∧ H b = some (.tup (k.map kV)) ∧ kvs.length < sizeLine ∧ H' = upd H a (.dT (putK kvs k v))
theorem ZhU.t {H : Hp} {a b : Addr} {kvs : List (List Key × V)} {k : List Key} (e : H a = some (.dT kvs)) (eb : H b = some (.tup (k.map kV))) : ZhU H a (.ref b) (Zds kvs k) := .inr ⟨kvs, k, b, .inl e, rfl, eb, rfl⟩
theorem ZhS.k {H : Hp} {a : Addr} {kvs : List (Key × V)} {k : Key} {v : V} (e : H a = some (.dK kvs)) (hl : kvs.length < sizeLine) : ZhS H a (kV k) v (upd H a (.dK (putK kvs k v))) := .inl ⟨kvs, k, e, rfl, hl, rfl⟩
theorem ZhS.t {H : Hp} {a b : Addr} {kvs : List (List Key × V)} {k : List Key} {v : V} (e : H a = some (.dT kvs)) (eb : H b = some (.tup (k.map kV))) (hl : kvs.length < sizeLine) :
  ZhS H a (.ref b) v (upd H a (.dT (putK kvs k v))) := .inr ⟨kvs, k, b, e, rfl, eb, hl, rfl⟩
section
variable {X : Cx} {pins : List (Addr × Obj)} {σ : St} {H : Hp} {s : Shared} {a : Addr} {y v : V} {u r : Value} {o : Option V} {A : Around} {E : Value → Shared → Prop}
theorem Inv.big (I : Inv X pins σ H s) : sysModules < s.heap.objs.size := by
 have h : mainGlobals < s.heap.objs.size := (I.mod.glob.keeps I.bk).lt
 exact Nat.lt_trans (by decide) h
theorem ZiC {Q : Value → Shared → Prop} (hu : A.units + 1 < cLine) (I : Inv X pins σ H s) (g : ZhU H a y (some v)) (ry : RelV y u) (h : ∀ w' s', Inv X pins σ H s' → RelV v w' → Q w' s') :
  wpAny (model X.prog X.w) A (getItem (.ref a) u) Q E s := by
 rcases g with ⟨kvs, k, e, ey, l⟩ | ⟨kvs, k, b, e, ey, eb, l⟩
 ·subst ey
  obtain ⟨z, hd, vs, rel, dd⟩ := ZfL I.hok e
  obtain ⟨w', hw, rw'⟩ := Zer.some_of (v := v) (o := valueAt vs k) (by rw [l]; exact rel.val k)
  exact wpAny_getItem_of (ZgJ ry) dd.mapOf hw (h w' _ (I.tok _) rw')
 ·subst ey
  cases (show u = Value.ref b from ry)
  obtain ⟨z, hd, xs, rel, dd⟩ := Zgz I.hok e
  obtain ⟨w', hw, rw'⟩ := Zer.some_of (v := v) (o := (atKey xs k).map (·.2)) (by rw [l]; exact rel.val k)
  obtain ⟨p, hp, hp2⟩ := Option.map_eq_some_iff.mp hw
  refine wpAny_getItem_heap (tupleKind_room_in1 hu) (Zgm I.hok eb) dd hp ?_
  rw [hp2]
  exact h w' _ (I.tok _) rw'
theorem Zix {h' : Heap} {t' : Nat} {ob : HO} (I : Inv X pins σ H s) (mu : Mut (H a)) (hs : Heap.SameBut a s.heap h') (he : ∃ q, h'.get? a = some q) (new : ZaS X.prog X.w (upd H a ob) h' a ob) :
  Inv X pins σ (upd H a ob) { s with heap := h', toks := t' } :=
 I.write (x := a) (e := a) mu (.inl rfl) (fun b q hb z => (hs.2 b hb).trans z) he new
theorem Zhx {P : Program} {w : World} {H' : Hp} {h' : Heap} {kvs : List (Key × V)} {vs : List (Key × Value)} (z : kvs.length ≤ sizeLine) (hd : (a == sysModules) = false) (rel : KV kvs vs) (dd : h'.DictOf (Zaq P w) a vs) :
  ZaS P w H' h' a (.dK kvs) := ⟨z, hd, vs, rel, dd⟩
theorem Zja {H' : Hp} {Q : Unit → Shared → Prop} (hu : A.units + 1 < cLine) (I : Inv X pins σ H s) (g : ZhS H a y v H') (ry : RelV y u) (rv : RelV v r) (h : ∀ s', Inv X pins σ H' s' → Q () s') :
  wpAny (model X.prog X.w) A (setItem (.ref a) u r) Q E s := by
 rcases g with ⟨kvs, k, e, ey, l, eH⟩ | ⟨kvs, k, b, e, ey, eb, l, eH⟩
 ·subst ey eH
  obtain ⟨z, hd, vs, rel, dd⟩ := Zli I.hok e
  have hz : vs.length ≤ sizeLine := by rw [← rel.length]; exact z
  have hl : (putK kvs k v).length ≤ sizeLine := by have := Zc5 kvs k v; omega
  refine wpAny_setItem_pairs (hsz := hz) (ZgJ ry) dd fun h' dd' hs => h _ ?_
  have he : ∃ q, h'.get? a = some q := let ⟨q, _, _, hq, _⟩ := dd'; ⟨q, hq⟩
  exact Zix I (by rw [e]; exact True.intro) hs he (Zhx hl hd (rel.put k rv) dd')
 ·subst ey eH
  cases (show u = Value.ref b from ry)
  obtain ⟨z, hd, xs, rel, dd⟩ := Znf I.hok e
  have hz : xs.length ≤ sizeLine := by rw [← Paired.length rel]; exact z
  have hl : (putK kvs k v).length ≤ sizeLine := by have := Zc5 kvs k v; omega
  refine wpAny_setItem_heap (hsz := hz) (tupleKind_room_in1 hu) (Zgm I.hok eb) dd fun h' dd' hs => h _ ?_
  obtain ⟨q, es, ep, hq, h2, h3, h4, _, h5⟩ := dd'
  refine Zix I (by rw [e]; exact True.intro) hs ⟨q, hq⟩ ⟨hl, hd, _, (rel.put k eb rv).keeps fun c ys ec => ?_, q, es, ep, hq, h2, h3, h4, h5⟩
  rw [Zt (Zfs ec e (fun z => nomatch z))]
  exact ec
end
section
variable {X : Cx} {pins : List (Addr × Obj)} {σ : St} {H : Hp} {s : Shared} {a : Addr} {kvs : List (Key × V)} {k : Key} {u : Value} {A : Around} {E : Value → Shared → Prop}
end
def ZmE (i : Expr) : Prop := ∀ ov iv, subscripted i false ov iv = operate [ov, iv] (getItem ov iv)
theorem ZkU {prog : Program} {w : World} {A : Around} {E : Value → Shared → Prop} {s : Shared} {env : Env} {value slice : Expr} {pos : Pos} {T id : String} {Q : Value → Shared → Prop}
  (hl : typeLookup (.type T) "__getitem__" = pure (some (.builtin id))) (hs : ZmE slice)
  (h : wpAny (model prog w) A (eval value env) (fun o s₁ => wpAny (model prog w) A (eval slice env) (fun i s₂ => s₂.TypeIs o T ∧ wpAny (model prog w) A (getItem o i) Q E s₂) E s₁) E s) :
  wpAny (model prog w) A (eval (.Subscript value slice pos) env) Q E s := by
 refine Subscript_ (wpAny_mono h (fun o s₁ h₁ => wpAny_mono h₁ (fun i s₂ h₂ => ?_) fun _ _ x => x) fun _ _ x => x)
 obtain ⟨hT, h₂⟩ := h₂
 unfold subscriptTail
 refine wpAny_bind ?_
 rw [getitemInPython_of_ne hT.not_modules]
 refine wpAny_bind (wpAny_specialOf hT hl ?_)
 have fin : wpAny (model prog w) A (subscripted slice false o i) (fun r s₃ => wpAny (model prog w) A (letTemporaryGo value o r >>= fun _ => pure r) Q E s₃) E s₂ := by
  rw [hs o i]
  exact wpAny_operating (wpAny_mono h₂ (fun r s₃ h₃ => wpAny_bind (wpAny_letTemporaryGo (wpAny_pure h₃))) fun _ _ x => x)
 first
  | exact wpAny_pure (wpAny_bind fin)
  | exact wpAny_bind (wpAny_pure (wpAny_bind fin))
  | exact wpAny_bind fin
theorem Zg0 {X : Cx} {pins : List (Addr × Obj)} {σ : St} {H : Hp} {s : Shared} {a : Addr} {y : V} {o : Option V} (I : Inv X pins σ H s) (g : ZhU H a y o) : s.TypeIs (.ref a) "dict" := by
 rcases g with ⟨kvs, k, e, _, _⟩ | ⟨kvs, k, b, e, _, _, _⟩
 ·obtain ⟨_, _, vs, _, dd⟩ := ZfL I.hok e
  exact dd.typeIs
 ·obtain ⟨_, _, xs, _, dd⟩ := Zgz I.hok e
  exact dd.typeIs
def Zns (td ty : TE) : TE := fun σ H Q => td σ H fun x H1 => ty σ H1 fun y H2 => ∃ a v, x = .ref a ∧ ZhU H2 a y (some v) ∧ Q v H2
def ZnG (td ty tv : TE) : TS := fun D σ H => tv σ H fun v H1 => td σ H1 fun x H2 => ty σ H2 fun y H3 => ∃ a H4, x = .ref a ∧ ZhS H3 a y v H4 ∧ D.nx σ H4
section
variable {X : Cx} {o i e value : Expr} {pos pos' tpos : Pos} {td ty tv : TE}
theorem Zku (hu : X.A.units + 1 < cLine) (ho : PE X o td) (hi : PE X i ty) (hs : ZmE i) : PE X (.Subscript o i pos) (Zns td ty) := by
 intro pins s σ H Q I h
 refine ZkU PySem.F.slot_dict_getitem.lookup hs (thn (ho pins s σ H _ I h) fun u s1 ⟨x, H1, I1, rx, q1⟩ => thn (hi pins s1 σ H1 _ I1 q1) fun iv s2 ⟨y, H2, I2, ry, a, v, ex, g, q2⟩ => ?_)
 subst ex
 obtain rfl : u = Value.ref a := rx
 exact ⟨Zg0 I2 g, ZiC hu I2 g ry fun w' s3 I3 rw' => ⟨v, H2, I3, rw', q2⟩⟩
theorem ZkN (hu : X.A.units + 1 < cLine) (ho : PE X o td) (hi : PE X i ty) (hv : PE X value tv) (hs : swapsWith value (some (.Subscript o i pos')) pos.line X.env = pure false) :
  PS X (.Assign [.Subscript o i pos'] value pos) (ZnG td ty tv) := by
 intro pins s σ H D I h
 refine wpAny_Assign_Subscript (thn (hv pins s σ H _ I h) fun r s1 ⟨v, H1, I1, rv, q1⟩ => thn (ho pins s1 σ H1 _ I1 q1) fun u s2 ⟨x, H2, I2, rx, q2⟩ => thn (hi pins s2 σ H2 _ I2 q2) fun iv s3 ⟨y, H3, I3, ry, a, H4, ex, g, q3⟩ => ?_) hs
 subst ex
 obtain rfl : u = Value.ref a := rx
 exact Zja hu I3 g ry rv fun s4 I4 => ⟨σ, H4, I4, q3⟩
end
theorem Zkd {P : Program} {w : World} {H : Hp} (h : Heap) (hb : sysModules < h.objs.size) : ZaS P w H (h.push { cls := .type "dict", data := .dict #[] }) h.objs.size (.dK []) :=
 ⟨Nat.zero_le _, beq_eq_false_iff_ne.mpr (Ne.symm (Nat.ne_of_lt hb)), [], .nil, Heap.DictOf.new h⟩
def ZlG : TE := fun _ H Q => ∀ p, H p = none → Q (.ref p) (upd H p (.dK []))
section
variable {X : Cx} {pos : Pos}
theorem ZjV : PE X (.Dict [] [] pos) ZlG := fun pins s σ H Q I h =>
 wpAny_Dict_empty ⟨.ref s.heap.objs.size, _, I.laid (a := s.heap.objs.size) (o := .dK []) (t' := s.toks) (fun _ _ q => Heap.get?_push_of_some _ q) (Nat.le_refl _) (Zkd s.heap I.big), rfl, h _ (I.hok.fresh (Nat.le_refl _))⟩
end
def ZeO (kvs more : List (Key × V)) : List (Key × V) := more.foldl (fun acc kv => putK acc kv.1 kv.2) kvs
theorem KV.merge : ∀ {more : List (Key × V)} {rs : List (Key × Value)} {kvs : List (Key × V)} {vs : List (Key × Value)}, KV more rs → KV kvs vs → KV (ZeO kvs more) (merged vs rs) := by
 intro more rs kvs vs r
 unfold KV at r
 induction r generalizing kvs vs with
 | nil => intro q; exact q
 | @cons p q ps qs h t ih =>
  intro r0
  have e : KV (putK kvs p.1 p.2) (stored vs q.1 q.2) := by
   have := r0.put p.1 h.2
   rw [← h.1]; exact this
  exact ih e
theorem Zdx : ∀ (more kvs : List (Key × V)), (ZeO kvs more).length ≤ kvs.length + more.length
 | [], kvs => by show kvs.length ≤ kvs.length + 0; omega
 | p :: r, kvs => by
  have h1 := Zdx r (putK kvs p.1 p.2)
  have h2 := Zc5 kvs p.1 p.2
  show (ZeO (putK kvs p.1 p.2) r).length ≤ _
  rw [List.length_cons]; omega
structure M1 (X : Cx) (o : Expr) (m : Str) (apos : Pos) (e : Expr) (cpos : Pos) : Prop where
 base : attributeBase o m X.env (eval o X.env) = eval o X.env
 few : ((backTo cpos (starEach [e] X.env)).all (fun x => !x.1) && (backToKw cpos (keywordEach [] X.env)).all (fun x => x.1.isSome)
  && decide (([e] : List Expr).length + ([] : List Keyword).length + (if ([] : List Keyword).isEmpty then 0 else 1) < 30)) = true
 line : (apos.endLine == cpos.line) = true
 trees : backTo cpos (starEach [e] X.env) = [(false, eval e X.env)]
structure M2 (X : Cx) (o : Expr) (m : Str) (apos : Pos) (e f : Expr) (cpos : Pos) : Prop where
 base : attributeBase o m X.env (eval o X.env) = eval o X.env
 few : ((backTo cpos (starEach [e, f] X.env)).all (fun x => !x.1) && (backToKw cpos (keywordEach [] X.env)).all (fun x => x.1.isSome)
  && decide (([e, f] : List Expr).length + ([] : List Keyword).length + (if ([] : List Keyword).isEmpty then 0 else 1) < 30)) = true
 line : (apos.endLine == cpos.line) = true
 trees : backTo cpos (starEach [e, f] X.env) = [(false, eval e X.env), (false, eval f X.env)]
def IsD (H : Hp) (a : Addr) : Prop := (∃ kvs, Rd H a (.dK kvs)) ∨ ∃ kvs, Rd H a (.dT kvs)
theorem Zlv {X : Cx} {pins : List (Addr × Obj)} {σ : St} {H : Hp} {s : Shared} {a : Addr} (I : Inv X pins σ H s) (d : IsD H a) :
  s.TypeIs (.ref a) "dict" ∧ (∀ b, Value.ref a = .ref b → ∃ ob, s.heap.get? b = some ob ∧ ob.dict = none) ∧ (a == sysModules) = false := by
 rcases d with ⟨kvs, e⟩ | ⟨kvs, e⟩
 ·obtain ⟨_, hd, vs, _, dd⟩ := ZfL I.hok e
  refine ⟨dd.typeIs, fun b q => ?_, hd⟩
  cases q
  obtain ⟨ob, _, _, h1, h2, _⟩ := dd
  exact ⟨ob, h1, h2.2.1⟩
 ·obtain ⟨_, hd, xs, _, dd⟩ := Zgz I.hok e
  refine ⟨dd.typeIs, fun b q => ?_, hd⟩
  cases q
  obtain ⟨ob, _, _, h1, h2, _⟩ := dd
  exact ⟨ob, h1, h2.2.1⟩
section
variable {X : Cx} {pins : List (Addr × Obj)} {σ : St} {H : Hp} {s : Shared} {a : Addr} {y d : V} {u r : Value} {o : Option V} {A : Around} {E : Value → Shared → Prop}
theorem ZmM {Q : Value → Shared → Prop} (hu : A.units + 1 < cLine) (I : Inv X pins σ H s) (g : ZhU H a y o) (ry : RelV y u) (rd : RelV d r) (h : ∀ w' s', Inv X pins σ H s' → RelV (o.getD d) w' → Q w' s') :
  wpAny (model X.prog X.w) A (call (.builtin "dict.get") [.ref a, u, r]) Q E s := by
 rcases g with ⟨kvs, k, e, ey, l⟩ | ⟨kvs, k, b, e, ey, eb, l⟩
 ·subst ey
  obtain ⟨z, hd, vs, rel, dd⟩ := ZfL I.hok e
  refine call_meetsIn PySem.F.slot_dict_get dd.typeIs PySem.F.entry_dict_get (PySem.F.args_dict_get_3 _ _ _) (meets_dict_get_default (Zaq X.prog X.w) a (ZgJ ry) hd r) ⟨_, dd.mapOf, h _ _ (I.tok _) ?_⟩
  rw [l]
  exact (rel.val k).getD rd
 ·subst ey
  cases (show u = Value.ref b from ry)
  obtain ⟨z, hd, xs, rel, dd⟩ := Zgz I.hok e
  refine call_meetsIn PySem.F.slot_dict_get dd.typeIs PySem.F.entry_dict_get (PySem.F.args_dict_get_3 _ _ _) (meetsH_dict_get_default (tupleKind (Zaq X.prog X.w)) a b hd r) ⟨tupleKind_room_in1 hu, k, xs, Zgm I.hok eb, dd, h _ _ (I.tok _) ?_⟩
  rw [l]
  exact (rel.val k).getD rd
end
def Zmr (td ty tx : TE) : TE := fun σ H Q => td σ H fun x H1 => ∃ a, x = .ref a ∧ IsD H1 a ∧ ty σ H1 fun y H2 => tx σ H2 fun z H3 => ∃ o, ZhU H3 a y o ∧ Q (o.getD z) H3
section
variable {X : Cx} {o e f : Expr} {apos cpos : Pos} {td ty tx : TE}
theorem ZjX (hu : X.A.units + 1 < cLine) (ho : PE X o td) (he : PE X e ty) (hf : PE X f tx) (m : M2 X o "get" apos e f cpos) : PE X (.Call (.Attribute o "get" apos) [e, f] [] cpos) (Zmr td ty tx) := by
 intro pins s σ H Q I h
 refine wpAny_Call_method m.base m.few m.line PySem.F.plainAttrs_dict PySem.F.slot_dict_get PySem.F.type_dict_get (thn (ho pins s σ H _ I h) fun u s1 ⟨x, H1, I1, rx, a, ex, d, q1⟩ => ?_)
 subst ex
 obtain rfl : u = Value.ref a := rx
 obtain ⟨t1, t2, _⟩ := Zlv I1 d
 refine ⟨t1, t2, ?_⟩
 rw [m.trees]
 refine Calls.callWith_builtin rfl (Calls.evalArgs_plain (Calls.spliced_cons (thn (he pins s1 σ H1 _ I1 q1) fun iv s2 ⟨y, H2, I2, ry, q2⟩ =>
  Calls.spliced_cons (thn (hf pins s2 σ H2 _ I2 q2) fun fv s3 ⟨z, H3, I3, rz, ov, g, q3⟩ => Calls.spliced_nil ?_))))
 exact ZmM hu I3 g ry rz fun w' s4 I4 rw' => ⟨_, H3, I4, rw', q3⟩
end
section
variable {X : Cx} {pins : List (Addr × Obj)} {σ : St} {H : Hp} {s : Shared} {a : Addr} {kvs : List (Key × V)} {A : Around} {E : Value → Shared → Prop}
theorem ZjA {Q : Value → Shared → Prop} (I : Inv X pins σ H s) (e : Rd H a (.dK kvs)) (h : ∀ p s', H p = none → Inv X pins σ (upd H p (.dK kvs)) s' → Q (.ref p) s') : wpAny (model X.prog X.w) A (call (.type "dict") [.ref a]) Q E s := by
 obtain ⟨z, hd, vs, rel, dd⟩ := ZfL I.hok e
 refine kt_call_dict hd dd (by rw [← rel.length]; exact z) fun h' dd' hs => ?_
 refine h _ _ (I.hok.fresh (Nat.le_refl _)) (I.laid (a := s.heap.objs.size) (o := .dK kvs) (t' := s.toks) (fun b q hq => ?_) (Nat.le_refl _) (Zhx z (beq_eq_false_iff_ne.mpr (Ne.symm (Nat.ne_of_lt I.big))) rel dd'))
 exact (hs.2 b (Nat.ne_of_lt (Heap.lt_size hq))).trans (Heap.get?_push_of_some _ hq)
end
section
variable {X : Cx} {pins : List (Addr × Obj)} {σ : St} {H : Hp} {s : Shared} {a : Addr} {y : V} {u : Value} {A : Around} {E : Value → Shared → Prop}
end
end L2
namespace L3
open PySem
noncomputable section
inductive D where
 | non | bl (b : Bool) | int (i : Int) | str (x : List Nat) | tup (ds : List D) | scr (ds : List D) | ref (n : Nat)
 deriving Inhabited
abbrev ZaC := Sum Int (List Nat)
inductive MO where
 | lst (xs : List D) | dct (kvs : List (ZaC × D)) | fdct (kvs : List (ZaC × D))
 deriving Inhabited
abbrev Store := List MO
structure X3 where
 cls : List Nat
 arg : D
inductive R3 (α : Type) where
 | ok (a : α) (M : Store) | exc (x : X3) (M : Store) | bad
@[simp] def R3.bind {α β : Type} (r : R3 α) (k : α → Store → R3 β) : R3 β := match r with
 | .ok a M => k a M
 | .exc x M => .exc x M
 | .bad => .bad
theorem R3.bind_ok {α β : Type} (a : α) (M : Store) (k : α → Store → R3 β) : (R3.ok a M).bind k = k a M := rfl
def Zag : Nat → D → Bool
 | _, .non => true | _, .bl _ => true | _, .int _ => true | _, .str _ => true
 | n + 1, .tup ds => ds.all (Zag n)
 | _, _ => false
abbrev DEEP : Nat := 60
mutual
def deq : D → D → Bool
 | .non, .non => true
 | .bl a, .bl b => a == b
 | .int a, .int b => a == b
 | .str a, .str b => a == b
 | .tup a, .tup b => ZbG a b
 | .bl a, .int b => (if a then 1 else 0) == b
 | .int a, .bl b => a == (if b then 1 else 0)
 | _, _ => false
def ZbG : List D → List D → Bool
 | [], [] => true
 | a :: x, b :: y => deq a b && ZbG x y
 | _, _ => false
end
mutual
def below (n : Nat) : D → Bool
 | .tup ds => belowL n ds
 | .scr ds => belowL n ds
 | .ref k => k < n
 | .non => true | .bl _ => true | .int _ => true | .str _ => true
def belowL (n : Nat) : List D → Bool
 | [] => true
 | d :: ds => below n d && belowL n ds
end
mutual
def same : D → D → Bool
 | .non, .non => true
 | .bl a, .bl b => a == b
 | .int a, .int b => a == b
 | .str a, .str b => a == b
 | .tup a, .tup b => ZeG a b
 | .scr a, .scr b => ZeG a b
 | .ref a, .ref b => a == b
 | _, _ => false
def ZeG : List D → List D → Bool
 | [], [] => true
 | a :: x, b :: y => same a b && ZeG x y
 | _, _ => false
end
mutual
theorem same_iff : ∀ {a b : D}, same a b = true ↔ a = b
 | .non, b => by cases b <;> simp [same]
 | .bl a, b => by cases b <;> simp [same]
 | .int a, b => by cases b <;> simp [same]
 | .str a, b => by cases b <;> simp [same]
 | .tup a, b => by cases b <;> simp [same, Zef (x := a)]
 | .scr a, b => by cases b <;> simp [same, Zef (x := a)]
 | .ref a, b => by cases b <;> simp [same]
theorem Zef : ∀ {x y : List D}, ZeG x y = true ↔ x = y
 | [], y => by cases y <;> simp [ZeG]
 | a :: x, y => by
  cases y with
  | nil => simp [ZeG]
  | cons b y => simp [ZeG, same_iff (a := a), Zef (x := x)]
end
instance : DecidableEq D := fun a b => decidable_of_iff (same a b = true) same_iff
instance : DecidableEq MO := fun a b => match a, b with
 | .lst x, .lst y => if h : x = y then isTrue (by rw [h]) else isFalse (by intro e; cases e; exact h rfl)
 | .dct x, .dct y => if h : x = y then isTrue (by rw [h]) else isFalse (by intro e; cases e; exact h rfl)
 | .fdct x, .fdct y => if h : x = y then isTrue (by rw [h]) else isFalse (by intro e; cases e; exact h rfl)
 | .lst _, .dct _ => isFalse (by intro e; cases e)
 | .lst _, .fdct _ => isFalse (by intro e; cases e)
 | .dct _, .lst _ => isFalse (by intro e; cases e)
 | .dct _, .fdct _ => isFalse (by intro e; cases e)
 | .fdct _, .lst _ => isFalse (by intro e; cases e)
 | .fdct _, .dct _ => isFalse (by intro e; cases e)
@[simp] abbrev SZ : Nat := 1000000
abbrev Zal := List (Option D)
abbrev E3 := Zal → Store → R3 D
abbrev EL3 := Zal → Store → R3 (List D)
abbrev F3 := List D → Store → R3 D
inductive O3 where
 | nx (env : Zal) (M : Store) | rt (d : D) (M : Store) | bk (env : Zal) (M : Store) | ct (env : Zal) (M : Store) | exc (x : X3) (M : Store) | bad
abbrev S3 := Zal → Store → O3
@[simp] def Zb (i : Nat) : E3 := fun env M => match env[i]? with
 | some (some d) => .ok d M
 | _ => .bad
@[simp] def eC (d : D) : E3 := fun _ M => .ok d M
@[simp] def e1 (op : D → Store → R3 D) (f : E3) : E3 := fun env M => (f env M).bind op
@[simp] def e2 (op : D → D → Store → R3 D) (f g : E3) : E3 := fun env M => (f env M).bind fun a M1 => (g env M1).bind fun b M2 => op a b M2
@[simp] def Ze : EL3 := fun _ M => .ok [] M
@[simp] def Za (f : E3) (g : EL3) : EL3 := fun env M => (f env M).bind fun a M1 => (g env M1).bind fun b M2 => .ok (a :: b) M2
@[simp] def alloc (o : MO) (M : Store) : R3 D := .ok (.ref M.length) (M ++ [o])
section
local instance (priority := 100000) clP1 (p : Prop) : Decidable p := Classical.propDecidable p
@[simp] def ZaU (g : EL3) : E3 := fun env M => (g env M).bind fun ds M1 => if ds.length ≤ SZ then .ok (.tup ds) M1 else .bad
end
section
local instance (priority := 100000) clP2 (p : Prop) : Decidable p := Classical.propDecidable p
@[simp] def Zgk (g : EL3) : E3 := fun env M => (g env M).bind fun ds M1 => if ds.length ≤ SZ then alloc (.lst ds) M1 else .bad
end
@[simp] def ZdC (f g : E3) : E3 := fun env M => (f env M).bind fun a M1 => match a with
 | .bl true => g env M1
 | .bl false => .ok (.bl false) M1
 | _ => .bad
@[simp] def eOr (f g : E3) : E3 := fun env M => (f env M).bind fun a M1 => match a with
 | .bl false => g env M1
 | .bl true => .ok (.bl true) M1
 | _ => .bad
@[simp] def ZoG (a : D) (M : Store) : R3 D := match a with
 | .bl b => .ok (.bl (!b)) M
 | _ => .bad
@[simp] def eIf (c f g : E3) : E3 := fun env M => (c env M).bind fun a M1 => match a with
 | .bl true => f env M1
 | .bl false => g env M1
 | _ => .bad
@[simp] def Zam (F : F3) (g : EL3) : E3 := fun env M => (g env M).bind fun ds M1 => F ds M1
section
local instance (priority := 100000) clP3 (p : Prop) : Decidable p := Classical.propDecidable p
@[simp] def Za1 (a b : D) (M : Store) : R3 D := match a, b with
 | .int i, .int j => .ok (.int (i + j)) M
 | .str x, .str y => if x.length + y.length ≤ SZ then .ok (.str (x ++ y)) M else .bad
 | .tup x, .tup y => if x.length + y.length ≤ SZ then .ok (.tup (x ++ y)) M else .bad
 | .ref n, .ref m => match M[n]?, M[m]? with
  | some (.lst x), some (.lst y) => if x.length + y.length ≤ SZ then alloc (.lst (x ++ y)) M else .bad
  | _, _ => .bad
 | _, _ => .bad
end
@[simp] def Zeg (a b : D) (M : Store) : R3 D := match a, b with
 | .int i, .int j => .ok (.int (i - j)) M
 | _, _ => .bad
section
local instance (priority := 100000) clP4 (p : Prop) : Decidable p := Classical.propDecidable p
def ZaI (i j : Int) : Bool := (decide (-(2 ^ 64) < i) && decide (i < 2 ^ 64)) || (decide (-(2 ^ 64) < j) && decide (j < 2 ^ 64))
end
section
local instance (priority := 100000) clP5 (p : Prop) : Decidable p := Classical.propDecidable p
@[simp] def Zdf (a b : D) (M : Store) : R3 D := match a, b with
 | .int i, .int j => if ZaI i j then .ok (.int (i * j)) M else .bad
 | .str x, .int k => if x.length * k.toNat ≤ SZ ∧ k < 1000000 ∧ -1000000 < k then .ok (.str (List.replicate k.toNat x).flatten) M else .bad
 | .ref n, .int k => match M[n]? with
  | some (.lst x) => if x.length * k.toNat ≤ SZ ∧ k < 1000000 ∧ -1000000 < k then alloc (.lst (List.replicate k.toNat x).flatten) M else .bad
  | _ => .bad
 | _, _ => .bad
end
@[simp] def ZaK (a b : D) (M : Store) : R3 D := match a, b with
 | .int i, .int j => if 0 < j then .ok (.int (i % j)) M else .bad
 | _, _ => .bad
section
local instance (priority := 100000) clP6 (p : Prop) : Decidable p := Classical.propDecidable p
@[simp] def ZaO (a b : D) (M : Store) : R3 D := match a, b with
 | .int i, .int j => if 0 < j ∧ j < 1073741824 then .ok (.int (i / j)) M else .bad
 | _, _ => .bad
end
@[simp] def ZfO (a b : D) (M : Store) : R3 D := match a, b with
 | .int i, .int j => if 0 ≤ j ∧ j ≤ 1000 ∧ i.natAbs < 1000 then .ok (.int (i ^ j.toNat)) M else .bad
 | _, _ => .bad
@[simp] def Zez (a : D) (M : Store) : R3 D := match a with
 | .int i => .ok (.int (-i)) M
 | _ => .bad
@[simp] def ZjN (a b : D) (M : Store) : R3 D := match a, b with
 | .int i, .int j => .ok (.bl (decide (i < j))) M
 | _, _ => .bad
@[simp] def ZhQ (a b : D) (M : Store) : R3 D := match a, b with
 | .int i, .int j => .ok (.bl (decide (i ≤ j))) M
 | _, _ => .bad
@[simp] def ZhL (a b : D) (M : Store) : R3 D := match a, b with
 | .int i, .int j => .ok (.bl (decide (j < i))) M
 | _, _ => .bad
@[simp] def ZnA (a b : D) (M : Store) : R3 D := match a, b with
 | .int i, .int j => .ok (.bl (decide (j ≤ i))) M
 | _, _ => .bad
@[simp] def eqD (a b : D) (M : Store) : Option Bool := match a, b with
 | .ref n, .ref m => match M[n]?, M[m]? with
  | some (.lst x), some (.lst y) => if x.all (Zag DEEP) && y.all (Zag DEEP) then some (ZbG x y) else none
  | _, _ => none
 | .int i, .int j => some (decide (i = j))
 | .str x, .str y => some (decide (x = y))
 | .bl x, .bl y => some (decide (x = y))
 | .tup x, .tup y => if x.all (Zag DEEP) && y.all (Zag DEEP) then some (ZbG x y) else none
 | _, _ => none
@[simp] def Zba (a b : D) (M : Store) : R3 D := match eqD a b M with
 | some r => .ok (.bl r) M
 | none => .bad
@[simp] def Zc9 (a b : D) (M : Store) : R3 D := match eqD a b M with
 | some r => .ok (.bl (!r)) M
 | none => .bad
@[simp] def ZoT (a b : D) (M : Store) : R3 D := match b with
 | .non => .ok (.bl (decide (a = .non))) M
 | _ => .bad
@[simp] def ZnY (a b : D) (M : Store) : R3 D := match b with
 | .non => .ok (.bl (!decide (a = .non))) M
 | _ => .bad
def Zas : D → Bool
 | .non => true | .bl _ => true | .int _ => true | .str _ => true | _ => false
@[simp] def inD (a b : D) : Option Bool := match a, b with
 | .str [c], .str y => some (decide (c ∈ y))
 | x, .tup ys => if Zas x && ys.all Zas then some (ys.any fun y => deq y x) else none
 | _, _ => none
@[simp] def ZgU (a b : D) (M : Store) : R3 D := match inD a b with
 | some r => .ok (.bl r) M
 | none => .bad
@[simp] def ZnS (a b : D) (M : Store) : R3 D := match inD a b with
 | some r => .ok (.bl (!r)) M
 | none => .bad
def ixD (n : Nat) (i : Int) : Option Nat := if 0 ≤ i then (if i < n then some i.toNat else none) else if -(n : Int) ≤ i then some (i + n).toNat else none
def Zby {α : Type} (xs : List α) (i : Int) : Option α := (ixD xs.length i).bind fun j => xs[j]?
@[simp] def Zdu : D → Option ZaC
 | .int i => some (.inl i)
 | .str x => some (.inr x)
 | _ => none
def Zbt : List (ZaC × D) → ZaC → Option D
 | [], _ => none
 | (k, v) :: r, x => if k = x then some v else Zbt r x
section
local instance (priority := 100000) clP7 (p : Prop) : Decidable p := Classical.propDecidable p
@[simp] def Zg (a b : D) (M : Store) : R3 D := match a, b with
 | .tup ds, .int i => match Zby ds i with
  | some d => .ok d M
  | none => .bad
 | .scr ds, .int i => match Zby ds i with
  | some d => .ok d M
  | none => .bad
 | .str x, .int i => match Zby x i with
  | some c => if x.length ≤ SZ then .ok (.str [c]) M else .bad
  | none => .bad
 | .ref n, .int i => match M[n]? with
  | some (.lst ds) => match Zby ds i with
   | some d => .ok d M
   | none => .bad
  | _ => .bad
 | _, _ => .bad
end
@[simp] def ZbN : Option MO → Option (List (ZaC × D))
 | some (.dct kvs) => some kvs
 | some (.fdct kvs) => some kvs
 | _ => none
@[simp] def ZaY (a b : D) (M : Store) : R3 D := match a with
 | .ref n => match ZbN M[n]?, Zdu b with
  | some kvs, some x => match Zbt kvs x with
   | some d => .ok d M
   | none => .bad
  | _, _ => .bad
 | _ => .bad
def sIx (n d : Nat) : Option Int → Nat
 | none => d
 | some v => if v < 0 then (v + (n : Int)).toNat else min v.toNat n
def cutD {α : Type} (xs : List α) (lo hi : Option Int) : List α := (xs.drop (sIx xs.length 0 lo)).take (sIx xs.length xs.length hi - sIx xs.length 0 lo)
abbrev EO3 := Zal → Store → R3 (Option Int)
@[simp] def ZeA : EO3 := fun _ M => .ok none M
@[simp] def ZeY (f : E3) : EO3 := fun env M => (f env M).bind fun a M1 => match a with
 | .int i => .ok (some i) M1
 | _ => .bad
section
local instance (priority := 100000) clP8 (p : Prop) : Decidable p := Classical.propDecidable p
@[simp] def Zh9 (a : D) (lo hi : Option Int) (M : Store) : R3 D := match a with
 | .tup ds => .ok (.tup (cutD ds lo hi)) M
 | .scr ds => alloc (.lst (cutD ds lo hi)) M
 | .str x => if x.length ≤ SZ then .ok (.str (cutD x lo hi)) M else .bad
 | .ref n => match M[n]? with
  | some (.lst ds) => alloc (.lst (cutD ds lo hi)) M
  | _ => .bad
 | _ => .bad
end
@[simp] def eSl (f : E3) (lo hi : EO3) : E3 := fun env M => (f env M).bind fun a M1 => (lo env M1).bind fun l M2 => (hi env M2).bind fun h M3 => Zh9 a l h M3
section
local instance (priority := 100000) clP9 (p : Prop) : Decidable p := Classical.propDecidable p
@[simp] def Zbr (ds : List D) (M : Store) : R3 D := match ds with
 | [.tup x] => .ok (.int x.length) M
 | [.scr x] => .ok (.int x.length) M
 | [.str x] => if x.length ≤ SZ then .ok (.int x.length) M else .bad
 | [.ref n] => match M[n]? with
  | some (.lst x) => .ok (.int x.length) M
  | _ => .bad
 | _ => .bad
end
@[simp] def ZaD (ds : List D) (M : Store) : R3 D := match ds with
 | [.tup x] => .ok (.tup x) M
 | [.scr x] => .ok (.tup x) M
 | [.ref n] => match M[n]? with
  | some (.lst x) => .ok (.tup x) M
  | _ => .bad
 | _ => .bad
@[simp] def ZfC (ds : List D) (M : Store) : R3 D := match ds with
 | [.tup x] => alloc (.lst x) M
 | [.scr x] => alloc (.lst x) M
 | [.ref n] => match M[n]? with
  | some (.lst x) => alloc (.lst x) M
  | _ => .bad
 | _ => .bad
inductive Ty3 where
 | int | bool | str | list | tuple
 deriving DecidableEq
@[simp] def Zmt (T : Ty3) (d : D) (M : Store) : Option Bool := match d with
 | .non => some false
 | .bl _ => some (T == .bool || T == .int)
 | .int _ => some (T == .int)
 | .str _ => some (T == .str)
 | .tup _ => some (T == .tuple)
 | .scr _ => none
 | .ref n => match M[n]? with
  | some (.lst _) => some (T == .list)
  | some (.dct _) => some false
  | some (.fdct _) => none
  | none => none
@[simp] def Zol (T : Ty3) (d : D) (M : Store) : R3 D := match Zmt T d M with
 | some b => .ok (.bl b) M
 | none => .bad
def isB : D → Bool
 | .bl _ => true
 | _ => false
def isT : D → Bool
 | .bl b => b
 | _ => false
def allB (l : List D) : Option Bool := if l.all isB then some (l.all isT) else none
@[simp] def Zo7 (ds : List D) (M : Store) : R3 D := match ds with
 | [.ref n] => match M[n]? with
  | some (.lst x) => match allB x with
   | some b => .ok (.bl b) M
   | none => .bad
  | _ => .bad
 | _ => .bad
@[simp] def Zlg (o : D) (ds : List D) (M : Store) : R3 D := match o, ds with
 | .str x, [.str y] => if x.length ≤ SZ ∧ y.length ≤ SZ then .ok (.bl (y.isPrefixOf x)) M else .bad
 | _, _ => .bad
section
local instance (priority := 100000) clP11 (p : Prop) : Decidable p := Classical.propDecidable p
@[simp] def Zbv (o : D) (ds : List D) (M : Store) : R3 D := match o, ds with
 | .ref n, [d] => match M[n]? with
  | some (.lst x) => if x.length < SZ then .ok .non (M.set n (.lst (x ++ [d]))) else .bad
  | _ => .bad
 | _, _ => .bad
end
section
local instance (priority := 100000) clPp (p : Prop) : Decidable p := Classical.propDecidable p
@[simp] def Zpc (o : D) (ds : List D) (M : Store) : R3 D := match o, ds with
 | .ref n, [.int i] => match M[n]? with
  | some (.lst x) => if -1000000 ≤ i ∧ i ≤ 1000000 then match ixD x.length i with
   | some k => match x[k]? with
    | some d => .ok d (M.set n (.lst (x.eraseIdx k)))
    | none => .bad
   | none => .bad
   else .bad
  | _ => .bad
 | .ref n, [] => match M[n]? with
  | some (.lst x) => match x[x.length - 1]? with
   | some d => .ok d (M.set n (.lst x.dropLast))
   | none => .bad
  | _ => .bad
 | _, _ => .bad
end
@[simp] def tyS (a : D) (_ : Store) : Bool := match a with
 | .str _ => true
 | _ => false
@[simp] def tyL (a : D) (M : Store) : Bool := match a with
 | .ref n => match M[n]? with
  | some (.lst _) => true
  | _ => false
 | _ => false
@[simp] def Zd1 (a : D) (M : Store) : Bool := match a with
 | .ref n => (ZbN M[n]?).isSome
 | _ => false
@[simp] def Zcq (ty : D → Store → Bool) (m : D → List D → Store → R3 D) (o : E3) (g : EL3) : E3 := fun env M => (o env M).bind fun a M1 => if ty a M1 then (g env M1).bind fun ds M2 => m a ds M2 else .bad
@[simp] def Zan (b : List D → Store → R3 D) (g : EL3) : E3 := fun env M => (g env M).bind fun ds M1 => b ds M1
def putD (k : ZaC) (v : D) (kvs : List (ZaC × D)) : List (ZaC × D) :=
 if (kvs.any fun p => decide (p.1 = k)) = true then kvs.map (fun p => if p.1 = k then (p.1, v) else p) else kvs ++ [(k, v)]
abbrev EP3 := Zal → Store → R3 (List (ZaC × D))
@[simp] def Zo9 : EP3 := fun _ M => .ok [] M
@[simp] def ZoD (f g : E3) (r : EP3) : EP3 := fun env M => (f env M).bind fun a M1 => (g env M1).bind fun b M2 => match Zdu a with
 | some k => (r env M2).bind fun l M3 => .ok ((k, b) :: l) M3
 | none => .bad
def dictOf (l : List (ZaC × D)) : List (ZaC × D) := l.foldl (fun acc p => putD p.1 p.2 acc) []
@[simp] def Zo6 (r : EP3) : E3 := fun env M => (r env (M ++ [.dct []])).bind fun l M1 => match M1[M.length]? with
 | some (.dct []) => if l.length ≤ 15 then .ok (.ref M.length) (M1.set M.length (.dct (dictOf l))) else .bad
 | _ => .bad
@[simp] def Zin : E3 := fun _ M => alloc (.dct []) M
@[simp] def e3 (op : D → D → D → Store → R3 D) (f g h : E3) : E3 := fun env M => (f env M).bind fun a M1 => (g env M1).bind fun b M2 => (h env M2).bind fun c M3 => op a b c M3
section
local instance (priority := 100000) clP12 (p : Prop) : Decidable p := Classical.propDecidable p
@[simp] def Zjm (v a b : D) (M : Store) : R3 D := match a with
 | .ref n => match M[n]?, Zdu b with
  | some (.dct kvs), some k => if kvs.length < SZ then .ok .non (M.set n (.dct (putD k v kvs))) else .bad
  | _, _ => .bad
 | _ => .bad
end
@[simp] def ZjQ (v a b : D) (M : Store) : R3 D := match a, b with
 | .ref n, .int i => match M[n]? with
  | some (.lst xs) => match ixD xs.length i with
   | some j => .ok .non (M.set n (.lst (xs.set j v)))
   | none => .bad
  | _ => .bad
 | _, _ => .bad
@[simp] def Zd9 (o : D) (ds : List D) (M : Store) : R3 D := match o, ds with
 | .ref n, [b] => match ZbN M[n]?, Zdu b with
  | some kvs, some k => .ok ((Zbt kvs k).getD .non) M
  | _, _ => .bad
 | .ref n, [b, d] => match ZbN M[n]?, Zdu b with
  | some kvs, some k => .ok ((Zbt kvs k).getD d) M
  | _, _ => .bad
 | _, _ => .bad
def ZbQ : List D → Option (List (ZaC × D))
 | [] => some []
 | .tup [a, b] :: r => match Zdu a with
  | some k => (ZbQ r).map fun l => (k, b) :: l
  | none => none
 | _ :: _ => none
section
local instance (priority := 100000) clP13 (p : Prop) : Decidable p := Classical.propDecidable p
@[simp] def Zeh (ds : List D) (M : Store) : R3 D := match ds with
 | [.ref n] => match ZbN M[n]? with
  | some kvs => alloc (.dct kvs) M
  | none => .bad
 | [.tup x] => match ZbQ x with
  | some l => if l.length ≤ 100000 then alloc (.dct (dictOf l)) M else .bad
  | none => .bad
 | _ => .bad
end
@[simp] def Zng (ds : List D) (M : Store) : R3 D := match ds with
 | [.int i] => .ok (.int i) M
 | [.bl b] => .ok (.int (if b then 1 else 0)) M
 | _ => .bad
def ltT : List D → List D → Option Bool
 | [], [] => some false
 | [], _ :: _ => some true
 | _ :: _, [] => some false
 | .int i :: x, .int j :: y => if i = j then ltT x y else some (decide (i < j))
 | .str a :: x, .str b :: y => if a = b then ltT x y else some (decide (a < b))
 | _ :: _, _ :: _ => none
def ltD : D → D → Option Bool
 | .tup a, .tup b => ltT a b
 | .int i, .int j => some (decide (i < j))
 | _, _ => none
def leD (a b : D) : Prop := ltD b a = some false
def ZeK (x y : List D) : Prop := y.Perm x ∧ y.Pairwise leD
def ZbX : D → Bool
 | .tup (.int _ :: _) => true
 | _ => false
def Zdb : D → Bool
 | .int _ => true
 | _ => false
structure Zgh (x : List D) : Prop where
 len : x.length < 64
 kind : x.all ZbX = true ∨ x.all Zdb = true
 cmp : ∀ a ∈ x, ∀ b ∈ x, (ltD a b).isSome = true
section
local instance (priority := 100000) clPs (p : Prop) : Decidable p := Classical.propDecidable p
def Zfk (x : List D) : List D := if h : ∃ y, ZeK x y then h.choose else x
@[simp] def ZaB (ds : List D) (M : Store) : R3 D := match ds with
 | [.ref n] => match M[n]? with
  | some (.lst x) => if Zgh x then alloc (.lst (Zfk x)) M else .bad
  | _ => .bad
 | _ => .bad
end
def Zjg : List D → Option (List Int)
 | [] => some []
 | .int i :: r => (Zjg r).map (i :: ·)
 | _ :: _ => none
@[simp] def Zpe (ds : List D) (M : Store) : R3 D := match ds with
 | [.ref n] => match M[n]? with
  | some (.lst x) => match Zjg x with
   | some ns => .ok (.int ns.sum) M
   | none => .bad
  | _ => .bad
 | [.scr x] => match Zjg x with
  | some ns => .ok (.int ns.sum) M
  | none => .bad
 | _ => .bad
def Zv : S3 := fun env M => .nx env M
def Zu (f g : S3) : S3 := fun env M => match f env M with
 | .nx env' M' => g env' M'
 | o => o
def sIf (c : E3) (f g : S3) : S3 := fun env M => match c env M with
 | .ok (.bl true) M1 => f env M1
 | .ok (.bl false) M1 => g env M1
 | .exc x M1 => .exc x M1
 | _ => .bad
def Zah (f : E3) : S3 := fun env M => match f env M with
 | .ok d M1 => .rt d M1
 | .exc x M1 => .exc x M1
 | .bad => .bad
def Zav (f : E3) : S3 := fun env M => match f env M with
 | .ok _ M1 => .nx env M1
 | .exc x M1 => .exc x M1
 | .bad => .bad
def Zae (i : Nat) (f : E3) : S3 := fun env M => match f env M with
 | .ok d M1 => .nx (env.set i (some d)) M1
 | .exc x M1 => .exc x M1
 | .bad => .bad
def Zei (o i f : E3) : S3 := Zav (e3 Zjm f o i)
def Zcv (o i f : E3) : S3 := Zav (e3 ZjQ f o i)
abbrev G3 := D → Zal → Option Zal
@[simp] def Zck (i : Nat) : G3 := fun d env => some (env.set i (some d))
@[simp] def bindAll : List Nat → List D → Zal → Option Zal
 | [], [], env => some env
 | i :: is, d :: ds, env => bindAll is ds (env.set i (some d))
 | _, _, _ => none
@[simp] def ZdM (is : List Nat) : G3 := fun d env => match d with
 | .tup ds => bindAll is ds env
 | _ => none
structure It3 where
 items : List D
 lock : Option Nat
abbrev I3 := Zal → Store → R3 It3
section
local instance (priority := 100000) clP14 (p : Prop) : Decidable p := Classical.propDecidable p
@[simp] def Zhw (f : E3) : I3 := fun env M => (f env M).bind fun a M1 => match a with
 | .tup ds => .ok ⟨ds, none⟩ M1
 | .scr ds => .ok ⟨ds, none⟩ M1
 | .str x => if x.length ≤ SZ then .ok ⟨x.map fun c => .str [c], none⟩ M1 else .bad
 | .ref n => match M1[n]? with
  | some (.lst ds) => .ok ⟨ds, some n⟩ M1
  | _ => .bad
 | _ => .bad
end
def Zb8 (lo : Int) (n : Nat) : List D := (List.range n).map fun (k : Nat) => D.int (lo + (k : Int))
section
local instance (priority := 100000) clP15 (p : Prop) : Decidable p := Classical.propDecidable p
@[simp] def ZbV (f : E3) : I3 := fun env M => (f env M).bind fun a M1 => match a with
 | .int j => if j ≤ 1000000 ∧ -1000000 ≤ j then .ok ⟨Zb8 0 j.toNat, none⟩ M1 else .bad
 | _ => .bad
end
section
local instance (priority := 100000) clP16 (p : Prop) : Decidable p := Classical.propDecidable p
@[simp] def ZnN (f g : E3) : I3 := fun env M => (f env M).bind fun a M1 => (g env M1).bind fun b M2 => match a, b with
 | .int i, .int j => if (j ≤ 1000000 ∧ -1000000 ≤ j) ∧ (i ≤ 1000000 ∧ -1000000 ≤ i) then .ok ⟨Zb8 i (j - i).toNat, none⟩ M2 else .bad
 | _, _ => .bad
end
def locked (it : It3) (M : Store) : Bool := match it.lock with
 | none => true
 | some n => decide (M[n]? = some (.lst it.items))
def ZcE (it : It3) (g : G3) (body : S3) : List D → Zal → Store → O3
 | [], env, M => if locked it M then .nx env M else .bad
 | d :: ds, env, M => if locked it M then match g d env with
  | none => .bad
  | some env1 => match body env1 M with
   | .nx e M' => ZcE it g body ds e M'
   | .ct e M' => ZcE it g body ds e M'
   | .bk e M' => .nx e M'
   | o => o
  else .bad
def Zgq (i : I3) (g : G3) (body : S3) : S3 := fun env M => match i env M with
 | .ok it M1 => ZcE it g body it.items env M1
 | .exc x M1 => .exc x M1
 | .bad => .bad
def Zcx (c : E3) (body : S3) : Nat → Zal → Store → O3
 | 0, _, _ => .bad
 | n + 1, env, M => match c env M with
  | .ok (.bl true) M1 => match body env M1 with
   | .nx e M' => Zcx c body n e M'
   | .ct e M' => Zcx c body n e M'
   | .bk e M' => .nx e M'
   | o => o
  | .ok (.bl false) M1 => .nx env M1
  | .exc x M1 => .exc x M1
  | _ => .bad
def Zhk (c : E3) (body : S3) : S3 := Zcx c body 1000000
def ZcO : List E3 → Zal → Store → R3 Bool
 | [], _, M => .ok true M
 | c :: cs, env, M => (c env M).bind fun a M1 => match a with
  | .bl true => ZcO cs env M1
  | .bl false => .ok false M1
  | _ => .bad
section
local instance (priority := 100000) clP17 (p : Prop) : Decidable p := Classical.propDecidable p
def ZbO (it : It3) (g : G3) (ifs : List E3) (elt : E3) (n : Nat) : List D → Zal → Store → R3 D
 | [], _, M => if locked it M then .ok (.ref n) M else .bad
 | d :: ds, env, M => if locked it M then match g d env with
  | none => .bad
  | some env1 => (ZcO ifs env1 M).bind fun b M1 => if b then (elt env1 M1).bind fun e M2 => match M2[n]? with
    | some (.lst x) => if x.length < SZ then ZbO it g ifs elt n ds env1 (M2.set n (.lst (x ++ [e]))) else .bad
    | _ => .bad
   else ZbO it g ifs elt n ds env1 M1
  else .bad
end
def eLC (i : I3) (own : Nat) (g : G3) (ifs : List E3) (elt : E3) : E3 := fun env M => (i env M).bind fun it M1 =>
 ZbO it g ifs elt M1.length it.items (env ++ List.replicate own none) (M1 ++ [.lst []])
def keyV : ZaC → D
 | .inl i => .int i
 | .inr x => .str x
def Zgf (f : E3) (own : Nat) (g : G3) (ifs : List E3) (elt : E3) : E3 := fun env M => (f env M).bind fun a M1 => match a with
 | .ref n => match M1[n]? with
  | some (.dct kvs) => (ZbO ⟨kvs.map fun q => keyV q.1, none⟩ g ifs elt M1.length (kvs.map fun q => keyV q.1) (env ++ List.replicate own none) (M1.set n (.fdct kvs) ++ [.lst []])).bind fun v M2 => match M2[n]? with
   | some (.fdct kvs') => .ok v (M2.set n (.dct kvs'))
   | _ => .bad
  | _ => .bad
 | _ => .bad
def Zec (n : Nat) : MO → Bool
 | .lst xs => belowL n xs
 | .dct kvs => belowL n (kvs.map (·.2))
 | .fdct kvs => belowL n (kvs.map (·.2))
def Zbn (M : Store) (d : D) (M' : Store) : R3 D :=
 if below M.length d && (decide (M'.take M.length = M) || (M'.take M.length).all (Zec M.length)) then .ok d (M'.take M.length) else .ok d M'
def mkF (ps n : Nat) (body : S3) : F3 := fun ds M => if ds.length = ps then match body (ds.map some ++ List.replicate (n - ps) none) M with
  | .nx _ M' => Zbn M .non M'
  | .rt d M' => Zbn M d M'
  | .exc x M' => .exc x M'
  | _ => .bad
 else .bad
end
theorem Zew : ∀ (a b : List D), ltT a b = some true → ltT b a = some false
 | [], [], h => by simp [ltT] at h
 | [], _ :: _, _ => by simp [ltT]
 | _ :: _, [], h => by simp [ltT] at h
 | .int i :: x, .int j :: y, h => by
  simp only [ltT] at h ⊢
  by_cases e : i = j
  ·subst e; simp only [if_true] at h ⊢; exact Zew x y h
  ·rw [if_neg e] at h
   rw [if_neg (Ne.symm e)]
   simp only [Option.some.injEq, decide_eq_true_eq, decide_eq_false_iff_not] at h ⊢
   omega
 | .str p :: x, .str q :: y, h => by
  simp only [ltT] at h ⊢
  by_cases e : p = q
  ·subst e; simp only [if_true] at h ⊢; exact Zew x y h
  ·rw [if_neg e] at h
   rw [if_neg (Ne.symm e)]
   simp only [Option.some.injEq, decide_eq_true_eq, decide_eq_false_iff_not] at h ⊢
   exact fun z => List.lt_irrefl _ (List.lt_trans h z)
 | .non :: _, _ :: _, h => by simp [ltT] at h
 | .bl _ :: _, _ :: _, h => by simp [ltT] at h
 | .tup _ :: _, _ :: _, h => by simp [ltT] at h
 | .scr _ :: _, _ :: _, h => by simp [ltT] at h
 | .ref _ :: _, _ :: _, h => by simp [ltT] at h
 | .int _ :: _, .non :: _, h => by simp [ltT] at h
 | .int _ :: _, .bl _ :: _, h => by simp [ltT] at h
 | .int _ :: _, .str _ :: _, h => by simp [ltT] at h
 | .int _ :: _, .tup _ :: _, h => by simp [ltT] at h
 | .int _ :: _, .scr _ :: _, h => by simp [ltT] at h
 | .int _ :: _, .ref _ :: _, h => by simp [ltT] at h
 | .str _ :: _, .non :: _, h => by simp [ltT] at h
 | .str _ :: _, .bl _ :: _, h => by simp [ltT] at h
 | .str _ :: _, .int _ :: _, h => by simp [ltT] at h
 | .str _ :: _, .tup _ :: _, h => by simp [ltT] at h
 | .str _ :: _, .scr _ :: _, h => by simp [ltT] at h
 | .str _ :: _, .ref _ :: _, h => by simp [ltT] at h
theorem ZcG {d e : D} {x y : List D} {r : Bool} (h : ltT (d :: x) (e :: y) = some r) : (∃ i j, d = .int i ∧ e = .int j) ∨ ∃ i j, d = .str i ∧ e = .str j := by
 cases d <;> cases e <;> simp [ltT] at h ⊢
theorem ZhY : ∀ (a b c : List D), ltT b a = some false → ltT c b = some false → ltT c a = some false
 | [], b, c, h1, h2 => by cases c <;> simp [ltT]
 | _ :: _, [], c, h1, h2 => by simp [ltT] at h1
 | _ :: _, _ :: _, [], h1, h2 => by simp [ltT] at h2
 | d :: x, e :: y, f :: z, h1, h2 => by
  rcases ZcG h1 with ⟨j, i, rfl, rfl⟩ | ⟨j, i, rfl, rfl⟩
  ·rcases ZcG h2 with ⟨k, j', rfl, e⟩ | ⟨k, j', rfl, e⟩
   ·cases e
    simp only [ltT] at h1 h2 ⊢
    by_cases e1 : j = i
    ·subst e1
     simp only [if_true] at h1
     by_cases e2 : k = j
     ·subst e2; simp only [if_true] at h2 ⊢; exact ZhY x y z h1 h2
     ·rw [if_neg e2] at h2 ⊢; exact h2
    ·rw [if_neg e1] at h1
     by_cases e2 : k = j
     ·subst e2; rw [if_neg e1]; exact h1
     ·rw [if_neg e2] at h2
      simp only [Option.some.injEq, decide_eq_false_iff_not] at h1 h2
      rw [if_neg (by omega)]
      simp only [Option.some.injEq, decide_eq_false_iff_not]; omega
   ·cases e
  ·rcases ZcG h2 with ⟨k, j', rfl, e⟩ | ⟨k, j', rfl, e⟩
   ·cases e
   ·cases e
    simp only [ltT] at h1 h2 ⊢
    by_cases e1 : j = i
    ·subst e1
     simp only [if_true] at h1
     by_cases e2 : k = j
     ·subst e2; simp only [if_true] at h2 ⊢; exact ZhY x y z h1 h2
     ·rw [if_neg e2] at h2 ⊢; exact h2
    ·rw [if_neg e1] at h1
     by_cases e2 : k = j
     ·subst e2; rw [if_neg e1]; exact h1
     ·rw [if_neg e2] at h2
      simp only [Option.some.injEq, decide_eq_false_iff_not, List.not_lt] at h1 h2
      have h3 : i ≤ k := List.le_trans h1 h2
      have ne : k ≠ i := fun z => by subst z; exact e1 (List.le_antisymm h2 h1)
      rw [if_neg ne]
      simp only [Option.some.injEq, decide_eq_false_iff_not, List.not_lt]; exact h3
theorem ZeF : ∀ (a b : List D), ltT a b = some false → ltT b a = some false → a = b
 | [], [], _, _ => rfl
 | [], _ :: _, h, _ => by simp [ltT] at h
 | _ :: _, [], _, h => by simp [ltT] at h
 | d :: x, e :: y, h1, h2 => by
  rcases ZcG h1 with ⟨i, j, rfl, rfl⟩ | ⟨i, j, rfl, rfl⟩
  ·simp only [ltT] at h1 h2
   by_cases e1 : i = j
   ·subst e1; simp only [if_true] at h1 h2; rw [ZeF x y h1 h2]
   ·rw [if_neg e1] at h1
    rw [if_neg (Ne.symm e1)] at h2
    simp only [Option.some.injEq, decide_eq_false_iff_not] at h1 h2
    omega
  ·simp only [ltT] at h1 h2
   by_cases e1 : i = j
   ·subst e1; simp only [if_true] at h1 h2; rw [ZeF x y h1 h2]
   ·rw [if_neg e1] at h1
    rw [if_neg (Ne.symm e1)] at h2
    simp only [Option.some.injEq, decide_eq_false_iff_not, List.not_lt] at h1 h2
    exact absurd (List.le_antisymm h2 h1) e1
theorem Ze8 {a b : D} (h : ltD a b = some true) : ltD b a = some false := by
 cases a <;> cases b <;> simp only [ltD, reduceCtorEq] at h ⊢
 ·simp only [Option.some.injEq, decide_eq_true_eq, decide_eq_false_iff_not] at h ⊢; omega
 ·exact Zew _ _ h
theorem Zjr {a b c : D} (h1 : ltD b a = some false) (h2 : ltD c b = some false) : ltD c a = some false := by
 cases a <;> cases b <;> cases c <;> simp only [ltD, reduceCtorEq] at h1 h2 ⊢
 ·simp only [Option.some.injEq, decide_eq_false_iff_not] at h1 h2 ⊢; omega
 ·exact ZhY _ _ _ h1 h2
theorem Zji {a b : D} (h1 : ltD a b = some false) (h2 : ltD b a = some false) : a = b := by
 cases a <;> cases b <;> simp only [ltD, reduceCtorEq] at h1 h2
 ·simp only [Option.some.injEq, decide_eq_false_iff_not] at h1 h2; rename_i i j; rw [show i = j by omega]
 ·rw [ZeF _ _ h1 h2]
theorem ZfS : ∀ {x y : List D}, y.Perm x → x.Pairwise leD → y.Pairwise leD → y = x
 | [], y, p, _, _ => p.eq_nil
 | a :: x, y, p, hx, hy => by
  cases y with
  | nil => exact (p.symm.eq_nil).symm ▸ rfl
  | cons b y =>
   have hx' := List.pairwise_cons.mp hx
   have hy' := List.pairwise_cons.mp hy
   have e : b = a := by
    rcases List.mem_cons.mp (p.mem_iff.mp List.mem_cons_self) with h | h
    ·exact h
    ·rcases List.mem_cons.mp (p.mem_iff.mpr (List.mem_cons_self (a := a) (l := x))) with h' | h'
     ·exact h'.symm
     ·exact Zji (hx'.1 b h) (hy'.1 a h')
   subst e
   rw [ZfS (List.Perm.cons_inv p) hx'.2 hy'.2]
theorem ZdY {x y : List D} (h : ZeK x y) : Zfk x = y := by
 unfold Zfk
 rw [dif_pos ⟨y, h⟩]
 have hc := Exists.choose_spec (⟨y, h⟩ : ∃ y, ZeK x y)
 exact ZfS (hc.1.trans h.1.symm) h.2 hc.2
end L3
namespace L3
theorem ZgE {it : It3} {i n : Nat} {elt : E3} {R : D → D → Prop} {env0 : Zal} : ∀ (ds : List D) (acc : List D) (env : Zal) (M : Store), (∀ d, env.set i (some d) = env0.set i (some d)) →
  (∀ d ∈ ds, ∀ x, ∃ e, elt (env0.set i (some d)) (M.set n (.lst x)) = .ok e (M.set n (.lst x)) ∧ R d e) → (∀ x, locked it (M.set n (.lst x)) = true) → M[n]? = some (.lst acc) → acc.length + ds.length ≤ SZ →
  ∃ es, es.length = ds.length ∧ (∀ (j : Nat) d e, ds[j]? = some d → es[j]? = some e → R d e) ∧ ZbO it (Zck i) [] elt n ds env M = .ok (.ref n) (M.set n (.lst (acc ++ es))) := by
 intro ds
 induction ds with
 | nil =>
  intro acc env M _ _ hl hM _
  have e : M.set n (.lst acc) = M := by
   apply List.ext_getElem?
   intro j
   by_cases hj : j = n
   ·subst hj
    rw [List.getElem?_set_self (List.getElem?_eq_some_iff.mp hM).1, hM]
   ·rw [List.getElem?_set_ne (Ne.symm hj)]
  have hl' := hl acc
  rw [e] at hl'
  exact ⟨[], rfl, fun j d e h => by simp at h, by simp only [ZbO, hl', if_true, List.append_nil, e]⟩
 | cons d ds ih =>
  intro acc env M he hf hl hM hz
  have hn : n < M.length := (List.getElem?_eq_some_iff.mp hM).1
  have e : M.set n (.lst acc) = M := by
   apply List.ext_getElem?
   intro j
   by_cases hj : j = n
   ·subst hj
    rw [List.getElem?_set_self hn, hM]
   ·rw [List.getElem?_set_ne (Ne.symm hj)]
  have hl' := hl acc
  rw [e] at hl'
  obtain ⟨v, hf', hR⟩ := hf d List.mem_cons_self acc
  rw [e] at hf'
  have hz' : acc.length < SZ := by simp at hz ⊢; omega
  obtain ⟨es, le, re, h⟩ := ih (acc ++ [v]) (env0.set i (some d)) (M.set n (.lst (acc ++ [v]))) (fun d' => by rw [List.set_set]) (fun d' hd' x => by rw [List.set_set]; exact hf d' (List.mem_cons_of_mem _ hd') x) (fun x => by rw [List.set_set]; exact hl x) (by rw [List.getElem?_set_self hn]) (by simp at hz ⊢; omega)
  refine ⟨v :: es, by simp [le], fun j d' e' h1 h2 => ?_, ?_⟩
  ·cases j with
   | zero => simp at h1 h2; subst h1 h2; exact hR
   | succ j => exact re j d' e' (by simpa using h1) (by simpa using h2)
  ·simp only [ZbO, hl', if_true, Zck, he d, ZcO, R3.bind_ok, hf', hM, hz']
   rw [h, List.set_set]
   simp
theorem ZdL {it : It3} {g : G3} {body : S3} {P : Nat → Zal → Store → Prop} : ∀ (ds : List D) (j : Nat) (env : Zal) (M : Store), P j env M → (∀ j env M, P j env M → locked it M = true) →
  (∀ (k : Nat) d, ds[k]? = some d → ∀ env M, P (j + k) env M → ∃ env1 e' M', g d env = some env1 ∧ body env1 M = .nx e' M' ∧ P (j + k + 1) e' M') → ∃ e' M', ZcE it g body ds env M = .nx e' M' ∧ P (j + ds.length) e' M' := by
 intro ds
 induction ds with
 | nil => intro j env M p hl _; exact ⟨env, M, by simp only [ZcE, hl j env M p, if_true], p⟩
 | cons d ds ih =>
  intro j env M p hl hs
  obtain ⟨env1, e', M', h1, h2, p'⟩ := hs 0 d rfl env M p
  obtain ⟨e2, M2, h3, p2⟩ := ih (j + 1) e' M' p' hl fun k d' hd' env M p => by
   have := hs (k + 1) d' (by simpa using hd') env M (by rw [show j + (k + 1) = j + 1 + k by omega]; exact p)
   rw [show j + (k + 1) + 1 = j + 1 + k + 1 by omega] at this
   exact this
  exact ⟨e2, M2, by simp only [ZcE, hl j env M p, if_true, h1, h2, h3], by rw [List.length_cons, show j + (ds.length + 1) = j + 1 + ds.length by omega]; exact p2⟩
theorem Zw {f g : S3} {env env' : Zal} {M M' : Store} (h : f env M = .nx env' M') : Zu f g env M = g env' M' := by rw [Zu, h]
theorem Zkx {f g : S3} {env : Zal} {M M' : Store} {d : D} (h : f env M = .rt d M') : Zu f g env M = .rt d M' := by rw [Zu, h]
theorem Zir {c : E3} {f g : S3} {env : Zal} {M M' : Store} (h : c env M = .ok (.bl true) M') : sIf c f g env M = f env M' := by rw [sIf, h]
theorem Zcs {f : E3} {env : Zal} {M M' : Store} {d : D} (h : f env M = .ok d M') : Zah f env M = .rt d M' := by rw [Zah, h]
theorem Zai {f : E3} {i : Nat} {env env' : Zal} {M M' : Store} {d : D} (h : f env M = .ok d M') (he : env.set i (some d) = env' := by first | (dsimp only [List.set_cons_succ, List.set_cons_zero] <;> exact rfl) | exact rfl) : Zae i f env M = .nx env' M' := by rw [Zae, h]; simp only [he]
theorem ZbF {c : E3} {f : S3} {env : Zal} {M M' : Store} (h : c env M = .ok (.bl false) M') : sIf c f Zv env M = .nx env M' := by rw [sIf, h]; rfl
theorem Zde {f : E3} {env : Zal} {M M' : Store} {d : D} (h : f env M = .ok d M') : Zav f env M = .nx env M' := by rw [Zav, h]
theorem Zgo {i : I3} {g : G3} {u : S3} {env : Zal} {M M' : Store} {it : It3} (h : i env M = .ok it M') : Zgq i g u env M = ZcE it g u it.items env M' := by rw [Zgq, h]
theorem Zh6 {i : I3} {own : Nat} {g : G3} {ts : List E3} {f : E3} {env : Zal} {M M' : Store} {it : It3} (h : i env M = .ok it M') : eLC i own g ts f env M = ZbO it g ts f M'.length it.items (env ++ List.replicate own none) (M' ++ [.lst []]) := by rw [eLC, h]; rfl
theorem Zee {ps n : Nat} {body : S3} {ds : List D} {env : Zal} {M M' : Store} {d : D} (h : body env M = .rt d M') (hl : ds.length = ps := by rfl) (he : ds.map some ++ List.replicate (n - ps) none = env := by rfl) : mkF ps n body ds M = Zbn M d M' := by rw [mkF, if_pos hl, he, h]
theorem Ze0 {M G : Store} {d : D} (h : below M.length d = true) : Zbn M d (M ++ G) = .ok d M := by
 simp [Zbn, h]
end L3
namespace L3
theorem ZaM {α : Type} (M : List α) (x : α) (xs : List α) : (M ++ x :: xs)[M.length]? = some x := by simp
theorem ZbW {α : Type} (M xs : List α) (k : Nat) : (M ++ xs)[M.length + k]? = xs[k]? := by
 rw [List.getElem?_append_right (by omega)]; congr 1; omega
theorem ZdJ {α : Type} (M xs : List α) (k : Nat) (o : α) : (M ++ xs).set (M.length + k) o = M ++ xs.set k o := by
 rw [List.set_append_right _ _ (by omega)]; congr 2; omega
theorem ZcS {α : Type} {M : List α} {n : Nat} {o : α} (h : M[n]? = some o) (xs : List α) : (M ++ xs)[n]? = some o := by
 rw [List.getElem?_append_left (List.getElem?_eq_some_iff.mp h).1, h]
theorem ZeV {α : Type} (xs : List α) (k : Nat) : Zby xs (k : Int) = xs[k]? := by
 unfold Zby ixD
 rw [if_pos (Int.natCast_nonneg k)]
 by_cases h : k < xs.length
 ·rw [if_pos (by omega)]; simp
 ·rw [if_neg (by omega)]; simp at h ⊢; omega
@[simp] theorem Za4 {α : Type} (xs : List α) (k : Nat) : Zby xs (k : Int) = xs[k]? := ZeV xs k
@[simp] theorem ZjJ {α : Type} (xs : List α) (n : Nat) : Zby xs (no_index (OfNat.ofNat n : Int)) = xs[(OfNat.ofNat n : Nat)]? := ZeV xs n
@[simp] theorem ZmQ {α : Type} (xs : List α) : Zby xs (-1) = xs.getLast? := by
 unfold Zby ixD
 rw [if_neg (by decide), List.getLast?_eq_getElem?]
 by_cases h : 0 < xs.length
 ·rw [if_pos (by omega)]
  simp only [Option.bind_some]
  congr 1; omega
 ·have : xs = [] := by simpa using h
  subst this; rfl
theorem Ziw (n k : Nat) : ixD n (k : Int) = if k < n then some k else none := by
 unfold ixD
 rw [if_pos (Int.natCast_nonneg k)]
 by_cases h : k < n
 ·rw [if_pos (by omega), if_pos h]; simp
 ·rw [if_neg (by omega), if_neg h]
@[simp] theorem Znv (n k : Nat) : ixD n (k : Int) = if k < n then some k else none := Ziw n k
@[simp] theorem ZnV (m n : Nat) : ixD m (no_index (OfNat.ofNat n : Int)) = if (OfNat.ofNat n : Nat) < m then some (OfNat.ofNat n : Nat) else none := Ziw m n
theorem ZjB {α : Type} (xs : List α) : cutD xs none (some (-1)) = xs.dropLast := by
 unfold cutD sIx
 simp only [List.drop_zero]
 rw [if_pos (by decide), List.dropLast_eq_take]
 congr 1
 omega
inductive Row where
 | put (a : Nat) (n : Int) | add (a b c : Nat) | sub (a b c : Nat) | more (a b c : Nat) | get (a b : Nat) | set (a b : Nat) | jump (k : Nat) | when (a k : Nat) | tell (a : Nat) | halt
 deriving Inhabited
def Zj : Row → D
 | .put a n => .tup [.str [112, 117, 116], .int a, .int n]
 | .add a b c => .tup [.str [97, 100, 100], .int a, .int b, .int c]
 | .sub a b c => .tup [.str [115, 117, 98], .int a, .int b, .int c]
 | .more a b c => .tup [.str [109, 111, 114, 101], .int a, .int b, .int c]
 | .get a b => .tup [.str [103, 101, 116], .int a, .int b]
 | .set a b => .tup [.str [115, 101, 116], .int a, .int b]
 | .jump k => .tup [.str [106, 117, 109, 112], .int k]
 | .when a k => .tup [.str [119, 104, 101, 110], .int a, .int k]
 | .tell a => .tup [.str [116, 101, 108, 108], .int a]
 | .halt => .tup [.str [104, 97, 108, 116]]
def Row.ok (many : Nat) : Row → Prop
 | .put a _ => a < 8
 | .add a b c => a < 8 ∧ b < 8 ∧ c < 8
 | .sub a b c => a < 8 ∧ b < 8 ∧ c < 8
 | .more a b c => a < 8 ∧ b < 8 ∧ c < 8
 | .get a b => a < 8 ∧ b < 8
 | .set a b => a < 8 ∧ b < 8
 | .jump k => k < many
 | .when a k => a < 8 ∧ k < many
 | .tell a => a < 8
 | .halt => True
abbrev Za9 := List Row
def Zn (r : Za9) : D := .tup (r.map Zj)
structure ZcU (r : Za9) : Prop where
 rows : ∀ x ∈ r, x.ok r.length
 last : ∃ q x, r = q ++ [x] ∧ (x = .halt ∨ ∃ k, x = .jump k)
structure Stt where
 place : Nat
 boxes : List Int
 cells : List (Int × Int)
 deriving Inhabited, DecidableEq
def Zaw (bs : List Int) : D := .tup (bs.map D.int)
def Zz (c : Int × Int) : D := .tup [.int c.1, .int c.2]
def ZaA (cs : List (Int × Int)) : D := .tup (cs.map Zz)
def Zf (s : Stt) : D := .tup [.int s.place, Zaw s.boxes, ZaA s.cells]
def Row.tells (bs : List Int) : Row → Option Int
 | .tell a => bs[a]?
 | _ => none
def Row.isHalt : Row → Bool
 | .halt => true
 | _ => false
@[simp] theorem ZmS {a : Nat} {n : Int} {bs : List Int} : (Row.put a n).tells bs = none := rfl
@[simp] theorem Zmc {a : Nat} {n : Int} : (Row.put a n).isHalt = false := rfl
@[simp] theorem ZmP {a : Nat} {b : Nat} {c : Nat} {bs : List Int} : (Row.add a b c).tells bs = none := rfl
@[simp] theorem ZlY {a : Nat} {b : Nat} {c : Nat} : (Row.add a b c).isHalt = false := rfl
@[simp] theorem ZmV {a : Nat} {b : Nat} {c : Nat} {bs : List Int} : (Row.sub a b c).tells bs = none := rfl
@[simp] theorem ZlT {a : Nat} {b : Nat} {c : Nat} : (Row.sub a b c).isHalt = false := rfl
@[simp] theorem ZlN {a : Nat} {b : Nat} {c : Nat} {bs : List Int} : (Row.more a b c).tells bs = none := rfl
@[simp] theorem Zlq {a : Nat} {b : Nat} {c : Nat} : (Row.more a b c).isHalt = false := rfl
@[simp] theorem ZmT {a : Nat} {b : Nat} {bs : List Int} : (Row.get a b).tells bs = none := rfl
@[simp] theorem ZlI {a : Nat} {b : Nat} : (Row.get a b).isHalt = false := rfl
@[simp] theorem ZmU {a : Nat} {b : Nat} {bs : List Int} : (Row.set a b).tells bs = none := rfl
@[simp] theorem Zl7 {a : Nat} {b : Nat} : (Row.set a b).isHalt = false := rfl
@[simp] theorem Zmp {k : Nat} {bs : List Int} : (Row.jump k).tells bs = none := rfl
@[simp] theorem Zlc {k : Nat} : (Row.jump k).isHalt = false := rfl
@[simp] theorem Zls {a : Nat} {k : Nat} {bs : List Int} : (Row.when a k).tells bs = none := rfl
@[simp] theorem Zlf {a : Nat} {k : Nat} : (Row.when a k).isHalt = false := rfl
@[simp] theorem Zmw {a : Nat} {bs : List Int} : (Row.tell a).tells bs = bs[a]? := rfl
@[simp] theorem Zlj {a : Nat} : (Row.tell a).isHalt = false := rfl
@[simp] theorem Zmb  {bs : List Int} : (Row.halt).tells bs = none := rfl
@[simp] theorem Zlo  : (Row.halt).isHalt = true := rfl
theorem ZgG (n : Nat) (i : Int) : Zag n (.int i) = true := by cases n <;> rfl
mutual
theorem ZiU : ∀ (n : Nat) (d : D), Zag n d = true → deq d d = true
 | _, .non, _ => rfl
 | _, .bl _, _ => by simp [deq]
 | _, .int _, _ => by simp [deq]
 | _, .str _, _ => by simp [deq]
 | 0, .tup _, h => by simp [Zag] at h
 | n + 1, .tup ds, h => by simp only [deq]; exact ZdG n ds (by simpa [Zag] using h)
 | _, .scr _, h => by simp [Zag] at h
 | _, .ref _, h => by simp [Zag] at h
theorem ZdG : ∀ (n : Nat) (ds : List D), (∀ d ∈ ds, Zag n d = true) → ZbG ds ds = true
 | _, [], _ => rfl
 | n, d :: ds, h => by
  simp only [ZbG, Bool.and_eq_true]
  exact ⟨ZiU n d (h d List.mem_cons_self), ZdG n ds fun x hx => h x (List.mem_cons_of_mem _ hx)⟩
end
theorem ZfI {ds : List D} (h : ds.all (Zag DEEP) = true) : ZbG ds ds = true := ZdG DEEP ds (by simpa using h)
end L3
namespace L3
def Rt (o : O3) (d : D) : Prop := ∃ M', o = .rt d M'
theorem Rt.set {i : Nat} {f : E3} {g : S3} {env env' : Zal} {M M' : Store} {d r : D} (h : f env M = .ok d M') (k : Rt (g env' M') r) (he : env.set i (some d) = env' := by first | (dsimp only [List.set_cons_succ, List.set_cons_zero] <;> exact rfl) | exact rfl) : Rt (Zu (Zae i f) g env M) r := by
 rw [Rt, Zw (Zai h he)]; exact k
theorem Rt.skip {c : E3} {u g : S3} {env : Zal} {M M' : Store} {r : D} (h : c env M = .ok (.bl false) M') (k : Rt (g env M') r) : Rt (Zu (sIf c u Zv) g env M) r := by
 rw [Rt, Zw (ZbF h)]; exact k
theorem Rt.loop {i : I3} {t : G3} {u g : S3} {env env' : Zal} {M M' M1 : Store} {it : It3} {r : D} (h : i env M = .ok it M1) (hl : ZcE it t u it.items env M1 = .nx env' M') (k : Rt (g env' M') r) : Rt (Zu (Zgq i t u) g env M) r := by
 rw [Rt, Zw ((Zgo h).trans hl)]; exact k
theorem Rt.ret {f : E3} {env : Zal} {M M' : Store} {d : D} (h : f env M = .ok d M') : Rt (Zah f env M) d := ⟨M', Zcs h⟩
theorem Rt.law {ps n : Nat} {body : S3} {ds : List D} {env : Zal} {b : Bool} (h : Rt (body env []) (.bl b)) (hl : ds.length = ps := by rfl) (he : ds.map some ++ List.replicate (n - ps) none = env := by rfl) : ∃ M', mkF ps n body ds [] = .ok (.bl b) M' := by
 obtain ⟨M', h⟩ := h
 exact ⟨_, (Zee h hl he).trans (by rw [Zbn, if_pos (by simp [below])])⟩
theorem Rt.pure {ps n : Nat} {body : S3} {ds : List D} {env : Zal} {M G : Store} {d : D} (h : body env M = .rt d (M ++ G)) (hd : below M.length d = true) (hl : ds.length = ps := by rfl) (he : ds.map some ++ List.replicate (n - ps) none = env := by rfl) : mkF ps n body ds M = .ok d M :=
 (Zee h hl he).trans (Ze0 hd)
theorem Zgv {α : Type} {enc : α → D} {P : Nat → α → Prop} : ∀ (es : List D), (∀ (j : Nat) e, es[j]? = some e → ∃ a, e = enc a ∧ P j a) → ∃ as : List α, es = as.map enc ∧ ∀ (j : Nat) a, as[j]? = some a → P j a
 | [], _ => ⟨[], rfl, fun j a h => by simp at h⟩
 | e :: es, h => by
  obtain ⟨a, rfl, pa⟩ := h 0 e rfl
  obtain ⟨as, rfl, ps⟩ := Zgv (enc := enc) (P := fun j => P (j + 1)) es fun j e he => h (j + 1) e (by simpa using he)
  refine ⟨a :: as, rfl, fun j b hb => ?_⟩
  cases j with
  | zero => simp at hb; subst hb; exact pa
  | succ j => exact ps j b (by simpa using hb)
theorem Zkr {n : Nat} {lo : Int} {j : Nat} {d : D} (h : (Zb8 lo n)[j]? = some d) : d = .int (lo + j) ∧ j < n := by
 unfold Zb8 at h
 rw [List.getElem?_map] at h
 cases q : (List.range n)[j]? with
 | none => rw [q] at h; cases h
 | some k =>
  rw [q] at h
  obtain ⟨hi, e⟩ := List.getElem?_eq_some_iff.mp q
  rw [List.getElem_range] at e
  subst e
  simp at h hi
  exact ⟨h.symm, hi⟩
theorem ZeP {n : Nat} {j : Nat} {d : D} (h : (Zb8 0 n)[j]? = some d) : d = .int (j : Int) ∧ j < n := by
 obtain ⟨e, l⟩ := Zkr h
 exact ⟨by rw [e, Int.zero_add], l⟩
theorem ZfV (lo : Int) (n : Nat) : (Zb8 lo n).length = n := by simp [Zb8]
end L3
namespace L3
theorem ZfJ {o arg : E3} {env : Zal} {M M2 : Store} {n : Nat} {xs ys : List D} {d : D} (ho : o env M = .ok (.ref n) M) (hM : M[n]? = some (.lst xs)) (ha : arg env M = .ok d M2) (hM2 : M2[n]? = some (.lst ys)) (hz : ys.length < 1000000) :
  Zcq tyL Zbv o (Za arg Ze) env M = .ok .non (M2.set n (.lst (ys ++ [d]))) := by
 simp [ho, hM, ha, hM2, hz]
theorem Zk2 {M : Store} {n m : Nat} {xs : List D} (h1 : M[n]? = some (.lst xs)) (h2 : M[m]? = some (.lst xs)) (hp : xs.all (Zag DEEP) = true) : Zba (.ref n) (.ref m) M = .ok (.bl true) M := by
 simp only [Zba, eqD, h1, h2, hp, Bool.and_self, if_true, ZfI hp]
theorem ZbE {op : D → D → Store → R3 D} {f g : E3} {env : Zal} {M M1 M2 M3 : Store} {a b d : D} (h1 : f env M = .ok a M1) (h2 : g env M1 = .ok b M2) (h3 : op a b M2 = .ok d M3) : e2 op f g env M = .ok d M3 := by
 simp only [e2, h1, h2, h3, R3.bind]
theorem ZhG {F : F3} {f : E3} {env : Zal} {M M1 M2 : Store} {a d : D} (h1 : f env M = .ok a M1) (h2 : F [a] M1 = .ok d M2) : Zam F (Za f Ze) env M = .ok d M2 := by
 simp only [Zam, Za, Ze, h1, h2, R3.bind]
theorem ZeW {F : F3} {f g : E3} {env : Zal} {M M1 M2 M3 : Store} {a b d : D} (h1 : f env M = .ok a M1) (h2 : g env M1 = .ok b M2) (h3 : F [a, b] M2 = .ok d M3) : Zam F (Za f (Za g Ze)) env M = .ok d M3 := by
 simp only [Zam, Za, Ze, h1, h2, h3, R3.bind]
theorem ZhO {F : F3} {f g h : E3} {env : Zal} {M M1 M2 M3 M4 : Store} {a b c d : D} (h1 : f env M = .ok a M1) (h2 : g env M1 = .ok b M2) (h3 : h env M2 = .ok c M3) (h4 : F [a, b, c] M3 = .ok d M4) : Zam F (Za f (Za g (Za h Ze))) env M = .ok d M4 := by
 simp only [Zam, Za, Ze, h1, h2, h3, h4, R3.bind]
@[simp] theorem Zoc (a b : Ty3) : (a == b) = decide (a = b) := by cases a <;> cases b <;> rfl
theorem ZlV {F : F3} {f g h k : E3} {env : Zal} {M M1 M2 M3 M4 M5 : Store} {a b c d e : D} (h1 : f env M = .ok a M1) (h2 : g env M1 = .ok b M2) (h3 : h env M2 = .ok c M3) (h4 : k env M3 = .ok d M4) (h5 : F [a, b, c, d] M4 = .ok e M5) : Zam F (Za f (Za g (Za h (Za k Ze)))) env M = .ok e M5 := by
 simp only [Zam, Za, Ze, h1, h2, h3, h4, h5, R3.bind]
theorem ZeS {b : List D → Store → R3 D} {f : E3} {env : Zal} {M M1 M2 : Store} {a d : D} (h1 : f env M = .ok a M1) (h2 : b [a] M1 = .ok d M2) : Zan b (Za f Ze) env M = .ok d M2 := by
 simp only [Zan, Za, Ze, h1, h2, R3.bind]
theorem ZhV {f g : E3} {env : Zal} {M M1 : Store} (h1 : f env M = .ok (.bl true) M1) : ZdC f g env M = g env M1 := by simp only [ZdC, h1, R3.bind]
theorem ZhW {f g : E3} {env : Zal} {M M1 : Store} (h1 : f env M = .ok (.bl false) M1) : ZdC f g env M = .ok (.bl false) M1 := by simp only [ZdC, h1, R3.bind]
theorem Zl6 {α : Type} {enc : α → D} {h : α → D} {own : Nat} {i : Nat} {it : I3} {elt : E3} {env : Zal} {M M1 : Store} {lock : Option Nat} {as : List α} (hi : it env M = .ok ⟨as.map enc, lock⟩ M1) (hlock : ∀ n, lock = some n → M1[n]? = some (.lst (as.map enc)))
  (he : ∀ a ∈ as, ∀ M, elt ((env ++ List.replicate own none).set i (some (enc a))) M = .ok (h a) M) (hz : as.length ≤ 100000) : eLC it own (Zck i) [] elt env M = .ok (.ref M1.length) (M1 ++ [.lst (as.map h)]) := by
 rw [Zh6 hi]
 obtain ⟨es, le, re, hh⟩ := ZgE (it := ⟨as.map enc, lock⟩) (i := i) (n := M1.length) (elt := elt) (R := fun d e => ∀ a ∈ as, d = enc a → e = h a) (env0 := env ++ List.replicate own none) (as.map enc) [] (env ++ List.replicate own none) (M1 ++ [.lst []]) (fun _ => rfl)
  (fun d hd x => by
   obtain ⟨a, ha, rfl⟩ := List.mem_map.mp hd
   refine ⟨h a, he a ha _, fun b hb e => ?_⟩
   have h1 := he a ha []
   have h2 := he b hb []
   rw [e, h2] at h1
   injection h1 with h1 _
   exact h1.symm)
  (fun x => by
   cases lock with
   | none => rfl
   | some n =>
    have hn := hlock n rfl
    have hlt := (List.getElem?_eq_some_iff.mp hn).1
    simp only [locked, decide_eq_true_eq]
    rw [List.getElem?_set_ne (by omega), List.getElem?_append_left hlt, hn]) (by simp) (by simp; omega)
 rw [show (⟨as.map enc, lock⟩ : It3).items = as.map enc from rfl, hh]
 have : es = as.map h := by
  apply List.ext_getElem?
  intro j
  rw [List.getElem?_map]
  cases ha : as[j]? with
  | none =>
   have : as.length ≤ j := by simpa using ha
   simp [le]; exact this
  | some a =>
   have hj : j < es.length := by
    have := (List.getElem?_eq_some_iff.mp ha).1
    simpa [le] using this
   have h2 := re j (enc a) es[j] (by simp [ha]) (by simp [hj]) a (List.mem_of_getElem? ha) rfl
   rw [List.getElem?_eq_getElem hj, h2]; rfl
 rw [this]
 simp
end L3
namespace L3
def ZcJ (t : List (Int × Int)) (n v : Int) : List (Int × Int) := if t.any (fun p => decide (p.1 = n)) = true then t.map (fun p => if p.1 = n then (p.1, v) else p) else t ++ [(n, v)]
def Zaa (t : List (Int × Int)) : List (ZaC × D) := t.map fun p => (.inl p.1, .int p.2)
def keysOk (t : List (Int × Int)) : Prop := (t.map (·.1)).Nodup
def Zbc : List (Int × Int) → Int → Int
 | [], _ => 0
 | (k, v) :: r, n => if k = n then v else Zbc r n
theorem ZdV (t : List (Int × Int)) (n v : Int) : putD (.inl n) (.int v) (Zaa t) = Zaa (ZcJ t n v) := by
 have ha : ((Zaa t).any fun p => decide (p.1 = (.inl n : ZaC))) = t.any fun p => decide (p.1 = n) := by
  simp [Zaa, List.any_map, Function.comp_def]
 unfold putD ZcJ
 rw [ha]
 by_cases c : (t.any fun p => decide (p.1 = n)) = true
 ·rw [if_pos c, if_pos c]
  simp only [Zaa, List.map_map]
  apply List.map_congr_left
  intro p _
  by_cases e : p.1 = n
  ·simp [e]
  ·simp [e]
 ·rw [if_neg c, if_neg c]
  simp [Zaa]
theorem ZgI (t : List (Int × Int)) (n : Int) : Zbt (Zaa t) (.inl n) = (if t.any (fun p => decide (p.1 = n)) = true then some (D.int (Zbc t n)) else none) := by
 induction t with
 | nil => rfl
 | cons p t ih =>
  obtain ⟨k, v⟩ := p
  show (if (Sum.inl k : ZaC) = Sum.inl n then some (D.int v) else Zbt (Zaa t) (.inl n)) = _
  by_cases e : k = n
  ·simp [e, Zbc]
  ·rw [if_neg (by simp [e]), ih]
   simp only [List.any_cons, Zbc, if_neg e, decide_eq_false e, Bool.false_or]
theorem Zbx {t : List (Int × Int)} {n : Int} (h : ¬ t.any (fun p => decide (p.1 = n)) = true) : Zbc t n = 0 := by
 induction t with
 | nil => rfl
 | cons p t ih =>
  obtain ⟨k, v⟩ := p
  simp only [List.any_cons, Bool.or_eq_true, decide_eq_true_eq, not_or] at h
  simp only [Zbc, if_neg h.1]
  exact ih (by simpa using h.2)
theorem Zda (t : List (Int × Int)) (n : Int) : (Zbt (Zaa t) (.inl n)).getD (.int 0) = .int (Zbc t n) := by
 rw [ZgI]
 by_cases c : (t.any fun p => decide (p.1 = n)) = true
 ·rw [if_pos c]; rfl
 ·rw [if_neg c, Zbx c]; rfl
theorem Zdq {t : List (Int × Int)} (n v : Int) (h : keysOk t) : keysOk (ZcJ t n v) := by
 unfold keysOk ZcJ at *
 by_cases c : (t.any fun p => decide (p.1 = n)) = true
 ·rw [if_pos c, List.map_map]
  have : (t.map ((fun x => x.1) ∘ fun p => if p.1 = n then (p.1, v) else p)) = t.map (·.1) := by
   apply List.map_congr_left
   intro p _
   by_cases e : p.1 = n <;> simp [e]
  rw [this]; exact h
 ·rw [if_neg c, List.map_append]
  refine List.nodup_append.mpr ⟨h, by simp, fun x hx y hy => ?_⟩
  simp at hy
  subst hy
  rintro rfl
  obtain ⟨p, hp, e⟩ := List.mem_map.mp hx
  exact c (List.any_eq_true.mpr ⟨p, hp, by simp [e]⟩)
theorem Zjy {t : List (Int × Int)} {n v : Int} (q : Int × Int) : q ∈ ZcJ t n v ↔ (q = (n, v)) ∨ (q.1 ≠ n ∧ q ∈ t) := by
 obtain ⟨a, b⟩ := q
 unfold ZcJ
 by_cases c : (t.any fun p => decide (p.1 = n)) = true
 ·rw [if_pos c, List.mem_map]
  constructor
  ·rintro ⟨p, hp, e⟩
   by_cases ep : p.1 = n
   ·rw [if_pos ep] at e
    left; rw [← e, ep]
   ·rw [if_neg ep] at e
    right; rw [← e]; exact ⟨ep, hp⟩
  ·rintro (e | ⟨h1, h2⟩)
   ·obtain ⟨p, hp, ep⟩ := List.any_eq_true.mp c
    have ep : p.1 = n := by simpa using ep
    exact ⟨p, hp, by rw [if_pos ep, e, ep]⟩
   ·exact ⟨(a, b), h2, by rw [if_neg h1]⟩
 ·rw [if_neg c, List.mem_append, List.mem_singleton]
  constructor
  ·rintro (h | h)
   ·right
    refine ⟨fun z => c (List.any_eq_true.mpr ⟨(a, b), h, by simpa using z⟩), h⟩
   ·left; exact h
  ·rintro (h | ⟨_, h⟩)
   ·right; exact h
   ·left; exact h
theorem Zbs {t : List (Int × Int)} (h : keysOk t) {k v : Int} (hm : (k, v) ∈ t) : Zbc t k = v := by
 induction t with
 | nil => simp at hm
 | cons p t ih =>
  obtain ⟨a, b⟩ := p
  unfold keysOk at h
  simp only [List.map_cons, List.nodup_cons] at h
  rcases List.mem_cons.mp hm with e | e
  ·cases e; simp [Zbc]
  ·have : a ≠ k := fun z => h.1 (List.mem_map.mpr ⟨(k, v), e, z.symm⟩)
   simp only [Zbc, if_neg this]
   exact ih h.2 e
def Zce (cs : List (Int × Int)) : Prop := cs.Pairwise fun a b => a.1 < b.1
theorem Zce.keys {cs : List (Int × Int)} (h : Zce cs) : keysOk cs := by
 unfold keysOk Zce at *
 rw [List.Nodup, List.pairwise_map]
 exact h.imp fun h => by omega
theorem Zex : ∀ {x y : List (Int × Int)}, Zce x → Zce y → (∀ q, q ∈ x ↔ q ∈ y) → x = y
 | [], [], _, _, _ => rfl
 | [], b :: y, _, _, h => by have := (h b).mpr List.mem_cons_self; simp at this
 | a :: x, [], _, _, h => by have := (h a).mp List.mem_cons_self; simp at this
 | a :: x, b :: y, hx, hy, h => by
  have hx' := List.pairwise_cons.mp hx
  have hy' := List.pairwise_cons.mp hy
  have e : a = b := by
   rcases List.mem_cons.mp ((h a).mp List.mem_cons_self) with e | e
   ·exact e
   ·rcases List.mem_cons.mp ((h b).mpr List.mem_cons_self) with e' | e'
    ·exact e'.symm
    ·have h1 := hy'.1 a e
     have h2 := hx'.1 b e'
     omega
  subst e
  congr 1
  refine Zex hx'.2 hy'.2 fun q => ?_
  constructor
  ·intro hq
   rcases List.mem_cons.mp ((h q).mp (List.mem_cons_of_mem _ hq)) with e | e
   ·subst e; have := hx'.1 q hq; omega
   ·exact e
  ·intro hq
   rcases List.mem_cons.mp ((h q).mpr (List.mem_cons_of_mem _ hq)) with e | e
   ·subst e; have := hy'.1 q hq; omega
   ·exact e
def Zhv (p : Int × Int) : List (Int × Int) → List (Int × Int)
 | [] => [p]
 | q :: r => if p.1 < q.1 then p :: q :: r else q :: Zhv p r
theorem Zea (p : Int × Int) : ∀ r, (Zhv p r).Perm (p :: r)
 | [] => .refl _
 | q :: r => by
  unfold Zhv
  split
  ·exact .refl _
  ·exact ((Zea p r).cons q).trans (.swap p q r)
theorem Zfr {p : Int × Int} : ∀ {r : List (Int × Int)}, Zce r → (∀ q ∈ r, q.1 ≠ p.1) → Zce (Zhv p r)
 | [], _, _ => by simp [Zhv, Zce]
 | q :: r, h, hn => by
  have h' := List.pairwise_cons.mp h
  unfold Zhv
  split
  ·rename_i c
   refine List.pairwise_cons.mpr ⟨fun x hx => ?_, h⟩
   rcases List.mem_cons.mp hx with e | e
   ·subst e; exact c
   ·have := h'.1 x e; omega
  ·rename_i c
   refine List.pairwise_cons.mpr ⟨fun x hx => ?_, Zfr h'.2 fun x hx => hn x (List.mem_cons_of_mem _ hx)⟩
   rcases List.mem_cons.mp ((Zea p r).mem_iff.mp hx) with e | e
   ·subst e; have := hn q List.mem_cons_self; omega
   ·exact h'.1 x e
def Zak : List (Int × Int) → List (Int × Int)
 | [] => []
 | p :: t => if p.2 ≠ 0 then Zhv p (Zak t) else Zak t
theorem ZcX : ∀ t : List (Int × Int), (Zak t).Perm (t.filter fun p => decide (p.2 ≠ 0))
 | [] => .refl _
 | p :: t => by
  unfold Zak
  by_cases c : p.2 ≠ 0
  ·rw [if_pos c, List.filter_cons_of_pos (by simpa using c)]
   exact (Zea p _).trans ((ZcX t).cons p)
  ·rw [if_neg c, List.filter_cons_of_neg (by simpa using c)]
   exact ZcX t
theorem ZbC {t : List (Int × Int)} {q : Int × Int} : q ∈ Zak t ↔ q ∈ t ∧ q.2 ≠ 0 := by
 rw [(ZcX t).mem_iff, List.mem_filter]; simp
theorem Zbw : ∀ {t : List (Int × Int)}, keysOk t → Zce (Zak t)
 | [], _ => by simp [Zak, Zce]
 | p :: t, h => by
  unfold keysOk at h
  simp only [List.map_cons, List.nodup_cons] at h
  unfold Zak
  split
  ·refine Zfr (Zbw h.2) fun q hq => ?_
   intro e
   exact h.1 (List.mem_map.mpr ⟨q, (ZbC.mp hq).1, e⟩)
  ·exact Zbw h.2
def Zb4 (cs : List (Int × Int)) (n v : Int) : List (Int × Int) := cs.filter (fun c => decide (c.1 < n)) ++ (if v ≠ 0 then [(n, v)] else []) ++ cs.filter (fun c => decide (n < c.1))
theorem ZbB {cs : List (Int × Int)} {n v : Int} {q : Int × Int} : q ∈ Zb4 cs n v ↔ (q = (n, v) ∧ v ≠ 0) ∨ (q.1 ≠ n ∧ q ∈ cs) := by
 unfold Zb4
 simp only [List.mem_append, List.mem_filter, decide_eq_true_eq]
 have hm : q ∈ (if v ≠ 0 then [(n, v)] else []) ↔ (q = (n, v) ∧ v ≠ 0) := by
  by_cases c : v ≠ 0
  ·rw [if_pos c]; simp [c]
  ·rw [if_neg c]; simp [c]
 rw [hm]
 constructor
 ·rintro ((⟨h1, h2⟩ | h) | ⟨h1, h2⟩)
  ·right; exact ⟨by omega, h1⟩
  ·left; exact h
  ·right; exact ⟨by omega, h1⟩
 ·rintro (h | ⟨h1, h2⟩)
  ·left; right; exact h
  ·rcases Int.lt_or_gt_of_ne h1 with c | c
   ·left; left; exact ⟨h2, c⟩
   ·right; exact ⟨h2, c⟩
theorem ZcW {cs : List (Int × Int)} {n v : Int} (h : Zce cs) : Zce (Zb4 cs n v) := by
 unfold Zb4 Zce at *
 have hm : ∀ q ∈ (if v ≠ 0 then [(n, v)] else []), q.1 = n := fun q hq => by
  by_cases c : v ≠ 0
  ·rw [if_pos c] at hq; simp at hq; rw [hq]
  ·rw [if_neg c] at hq; simp at hq
 refine List.pairwise_append.mpr ⟨List.pairwise_append.mpr ⟨h.filter _, ?_, fun a ha b hb => ?_⟩, h.filter _, fun a ha b hb => ?_⟩
 ·by_cases c : v ≠ 0
  ·rw [if_pos c]; simp
  ·rw [if_neg c]; simp
 ·have h1 := (List.mem_filter.mp ha).2
  rw [hm b hb]; simpa using h1
 ·have h2 : n < b.1 := by simpa using (List.mem_filter.mp hb).2
  rcases List.mem_append.mp ha with ha | ha
  ·have : a.1 < n := by simpa using (List.mem_filter.mp ha).2
   omega
  ·rw [hm a ha]; exact h2
theorem ZiG {t : List (Int × Int)} (h : keysOk t) (n v : Int) : Zak (ZcJ t n v) = Zb4 (Zak t) n v := by
 refine Zex (Zbw (Zdq n v h)) (ZcW (Zbw h)) fun q => ?_
 rw [ZbC, ZbB, Zjy, ZbC]
 constructor
 ·rintro ⟨h1 | ⟨h1, h2⟩, h3⟩
  ·left; refine ⟨h1, ?_⟩; rw [h1] at h3; exact h3
  ·right; exact ⟨h1, h2, h3⟩
 ·rintro (⟨h1, h2⟩ | ⟨h1, h2, h3⟩)
  ·exact ⟨.inl h1, by rw [h1]; exact h2⟩
  ·exact ⟨.inr ⟨h1, h2⟩, h3⟩
theorem ZfH {t : List (Int × Int)} (h : keysOk t) (n : Int) : Zbc (Zak t) n = Zbc t n := by
 by_cases c : (t.any fun p => decide (p.1 = n)) = true
 ·obtain ⟨p, hp, e⟩ := List.any_eq_true.mp c
  have e : p.1 = n := by simpa using e
  obtain ⟨a, b⟩ := p
  simp only at e
  subst e
  rw [Zbs h hp]
  by_cases z : b = 0
  ·subst z
   rw [Zbx]
   intro q
   obtain ⟨p', hp', e'⟩ := List.any_eq_true.mp q
   have e' : p'.1 = a := by simpa using e'
   obtain ⟨a', b'⟩ := p'
   simp only at e'
   subst e'
   have h1 := (ZbC.mp hp').1
   have h2 := (ZbC.mp hp').2
   have := Zbs h h1
   rw [Zbs h hp] at this
   exact h2 this.symm
  ·exact Zbs (Zbw h).keys (ZbC.mpr ⟨hp, z⟩)
 ·rw [Zbx c, Zbx]
  intro q
  obtain ⟨p', hp', e'⟩ := List.any_eq_true.mp q
  exact c (List.any_eq_true.mpr ⟨p', (ZbC.mp hp').1, e'⟩)
def Row.place (bs : List Int) (p : Nat) : Row → Nat
 | .jump k => k
 | .when a k => if 0 < bs.getD a 0 then k else p + 1
 | _ => p + 1
def Row.boxes (bs : List Int) (cs : List (Int × Int)) : Row → List Int
 | .put a n => bs.set a n
 | .add a b c => bs.set a (bs.getD b 0 + bs.getD c 0)
 | .sub a b c => bs.set a (bs.getD b 0 - bs.getD c 0)
 | .more a b c => bs.set a (if bs.getD c 0 < bs.getD b 0 then 1 else 0)
 | .get a b => bs.set a (Zbc cs (bs.getD b 0))
 | _ => bs
def Row.cells (bs : List Int) (cs : List (Int × Int)) : Row → List (Int × Int)
 | .set a b => Zb4 cs (bs.getD a 0) (bs.getD b 0)
 | _ => cs
def Zfm (s : Stt) (r : Row) : Option Stt := if r.isHalt then none else some ⟨r.place s.boxes s.place, r.boxes s.boxes s.cells, r.cells s.boxes s.cells⟩
def Zct (roll : Za9) (s : Stt) : Option Stt := (roll[s.place]?).bind (Zfm s)
def ZoZ : Option Stt → D
 | none => .non
 | some s => Zf s
theorem Zhs (cs : List (Int × Int)) : ZbQ (cs.map Zz) = some (Zaa cs) := by
 induction cs with
 | nil => rfl
 | cons p cs ih => simp only [List.map_cons, Zz, ZbQ, Zdu, ih, Option.map_some, Zaa]
theorem ZgN (kvs : List (ZaC × D)) (k j : ZaC) (v : D) : Zbt (putD k v kvs) j = if j = k then some v else Zbt kvs j := by
 have mp : ∀ l : List (ZaC × D), Zbt (l.map fun p => if p.1 = k then (p.1, v) else p) j = if j = k then (if l.any (fun p => decide (p.1 = k)) then some v else none) else Zbt l j := by
  intro l
  induction l with
  | nil => simp [Zbt]
  | cons p l ih =>
   obtain ⟨a, b⟩ := p
   rw [List.map_cons]
   by_cases e : a = k
   ·subst e
    simp only [if_true, Zbt]
    by_cases ej : a = j
    ·subst ej; simp
    ·rw [if_neg ej, ih, if_neg (Ne.symm ej), if_neg (Ne.symm ej), if_neg ej]
   ·simp only [if_neg e, Zbt]
    by_cases ej : a = j
    ·subst ej; simp [e]
    ·rw [if_neg ej, ih, if_neg ej]; simp only [List.any_cons, decide_eq_false e, Bool.false_or]
 have ap : ∀ l : List (ZaC × D), ¬ l.any (fun p => decide (p.1 = k)) = true → Zbt (l ++ [(k, v)]) j = if j = k then some v else Zbt l j := by
  intro l
  induction l with
  | nil => intro _; simp only [List.nil_append, Zbt]; by_cases e : k = j <;> simp [e, Ne.symm, eq_comm]
  | cons p l ih =>
   intro h
   obtain ⟨a, b⟩ := p
   simp only [List.any_cons, Bool.or_eq_true, decide_eq_true_eq, not_or] at h
   simp only [List.cons_append, Zbt]
   by_cases ej : a = j
   ·subst ej; rw [if_pos rfl, if_neg h.1, if_pos rfl]
   ·rw [if_neg ej, if_neg ej]; exact ih (by simpa using h.2)
 unfold putD
 by_cases c : (kvs.any fun p => decide (p.1 = k)) = true
 ·rw [if_pos c, mp, c]; simp
 ·rw [if_neg c]; exact ap kvs c
theorem Zfq : ∀ (l acc : List (ZaC × D)) (j : ZaC), (l.map (·.1)).Nodup → Zbt (l.foldl (fun a p => putD p.1 p.2 a) acc) j = (match Zbt l j with | some v => some v | none => Zbt acc j)
 | [], acc, j, _ => rfl
 | p :: l, acc, j, h => by
  obtain ⟨k, v⟩ := p
  simp only [List.map_cons, List.nodup_cons] at h
  rw [List.foldl_cons, Zfq l _ j h.2, ZgN]
  simp only [Zbt]
  by_cases e : k = j
  ·subst e
   have : Zbt l k = none := by
    have hn := h.1
    clear h
    induction l with
    | nil => rfl
    | cons q l ih =>
     simp only [List.map_cons, List.mem_cons, not_or] at hn
     simp only [Zbt]
     rw [if_neg (Ne.symm hn.1)]; exact ih hn.2
   rw [this]; simp
  ·rw [if_neg e, if_neg (Ne.symm e)]
theorem ZiB {t : List (Int × Int)} (h : keysOk t) : ((Zaa t).map (·.1)).Nodup := by
 unfold keysOk at h
 simp only [Zaa, List.map_map]
 rw [List.Nodup, List.pairwise_map] at *
 exact h.imp fun h e => h (by simpa using e)
theorem Zi1 {t : List (Int × Int)} (h : keysOk t) (n : Int) : (Zbt (dictOf (Zaa t)) (.inl n)).getD (.int 0) = .int (Zbc t n) := by
 unfold dictOf
 rw [Zfq _ _ _ (ZiB h), ← Zda]
 cases Zbt (Zaa t) (.inl n) <;> rfl
theorem ZdK {α : Type} {enc h : α → D} {p : α → Bool} {it : It3} {i n : Nat} {c elt : E3} {env0 : Zal} : ∀ (as : List α) (acc : List D) (env : Zal) (M : Store), (∀ d, env.set i (some d) = env0.set i (some d)) →
  (∀ a ∈ as, ∀ x, c (env0.set i (some (enc a))) (M.set n (.lst x)) = .ok (.bl (p a)) (M.set n (.lst x))) → (∀ a ∈ as, p a = true → ∀ x, elt (env0.set i (some (enc a))) (M.set n (.lst x)) = .ok (h a) (M.set n (.lst x))) →
  (∀ x, locked it (M.set n (.lst x)) = true) → M[n]? = some (.lst acc) → acc.length + as.length ≤ SZ →
  ZbO it (Zck i) [c] elt n (as.map enc) env M = .ok (.ref n) (M.set n (.lst (acc ++ (as.filter p).map h))) := by
 intro as
 induction as with
 | nil =>
  intro acc env M _ _ _ hl hM _
  have e : M.set n (.lst acc) = M := by
   apply List.ext_getElem?
   intro j
   by_cases hj : j = n
   ·subst hj; rw [List.getElem?_set_self (List.getElem?_eq_some_iff.mp hM).1, hM]
   ·rw [List.getElem?_set_ne (Ne.symm hj)]
  have hl' := hl acc
  rw [e] at hl'
  simp only [List.map_nil, ZbO, hl', if_true, List.filter_nil, List.append_nil, e]
 | cons a as ih =>
  intro acc env M he hc hf hl hM hz
  have hn : n < M.length := (List.getElem?_eq_some_iff.mp hM).1
  have e : M.set n (.lst acc) = M := by
   apply List.ext_getElem?
   intro j
   by_cases hj : j = n
   ·subst hj; rw [List.getElem?_set_self hn, hM]
   ·rw [List.getElem?_set_ne (Ne.symm hj)]
  have hl' := hl acc
  rw [e] at hl'
  have hc' := hc a List.mem_cons_self acc
  rw [e] at hc'
  rw [List.map_cons]
  cases hp : p a with
  | false =>
   rw [hp] at hc'
   simp only [ZbO, hl', if_true, Zck, he (enc a), ZcO, hc', R3.bind, Bool.false_eq_true, if_false]
   rw [ih acc (env0.set i (some (enc a))) M (fun d' => by rw [List.set_set]) (fun b hb x => hc b (List.mem_cons_of_mem _ hb) x) (fun b hb => hf b (List.mem_cons_of_mem _ hb)) hl hM (by simp at hz ⊢; omega), List.filter_cons_of_neg (by simp [hp])]
  | true =>
   rw [hp] at hc'
   have hf' := hf a List.mem_cons_self hp acc
   rw [e] at hf'
   have hz' : acc.length < SZ := by simp at hz ⊢; omega
   simp only [ZbO, hl', if_true, Zck, he (enc a), ZcO, hc', R3.bind, hf', hM, hz']
   rw [ih (acc ++ [h a]) (env0.set i (some (enc a))) (M.set n (.lst (acc ++ [h a]))) (fun d' => by rw [List.set_set]) (fun b hb x => by rw [List.set_set]; exact hc b (List.mem_cons_of_mem _ hb) x) (fun b hb hpb x => by rw [List.set_set]; exact hf b (List.mem_cons_of_mem _ hb) hpb x) (fun x => by rw [List.set_set]; exact hl x) (by rw [List.getElem?_set_self hn]) (by simp at hz ⊢; omega), List.filter_cons_of_pos hp, List.set_set]
   simp
theorem ZhI {x y : List (Int × Int)} (hp : y.Perm x) (hr : Zce y) : ZeK (x.map Zz) (y.map Zz) := by
 refine ⟨hp.map _, ?_⟩
 rw [List.pairwise_map]
 refine hr.imp fun {a b} h => ?_
 show (if b.1 = a.1 then _ else _) = _
 rw [if_neg (by omega), decide_eq_false (by omega)]
theorem Zf2 {x : List (Int × Int)} (h : x.length < 64) : Zgh (x.map Zz) := by
 refine ⟨by simpa using h, .inl (by simp [Zz, ZbX]), fun a ha b hb => ?_⟩
 obtain ⟨p, _, rfl⟩ := List.mem_map.mp ha
 obtain ⟨q, _, rfl⟩ := List.mem_map.mp hb
 simp only [ltD, Zz, ltT]
 split
 ·split
  ·rfl
  ·rfl
 ·rfl
end L3
namespace L3
theorem ZhZ {cs : List (Int × Int)} (h : Zce cs) (n v : Int) : (Zb4 cs n v).length ≤ cs.length + 1 := by
 unfold Zb4
 have f : (cs.filter (fun c => decide (c.1 < n))).length + (cs.filter (fun c => decide (n < c.1))).length ≤ cs.length := by
  clear h
  induction cs with
  | nil => simp
  | cons c cs ih =>
   simp only [List.filter_cons]
   by_cases h1 : c.1 < n
   ·have h2 : ¬ n < c.1 := by omega
    simp only [h1, h2, decide_true, decide_false, if_true, Bool.false_eq_true, if_false, List.length_cons]; omega
   ·by_cases h2 : n < c.1
    ·simp only [h1, h2, decide_true, decide_false, if_true, Bool.false_eq_true, if_false, List.length_cons]; omega
    ·simp only [h1, h2, decide_false, Bool.false_eq_true, if_false, List.length_cons]; omega
 rw [List.length_append, List.length_append]
 split <;> simp only [List.length_cons, List.length_nil] <;> omega
end L3
namespace L3
def ZbD (roll : Za9) : Nat → Stt → List Stt
 | 0, s => [s]
 | k + 1, s => match Zct roll s with
  | none => [s]
  | some s' => s :: ZbD roll k s'
theorem ZiP {roll : Za9} {s s' : Stt} (k : Nat) (h : Zct roll s = some s') : ZbD roll (k + 1) s = s :: ZbD roll k s' := by
 show (match Zct roll s with | none => [s] | some s' => s :: ZbD roll k s') = _
 rw [h]
theorem ZiN {roll : Za9} {s : Stt} (k : Nat) (h : Zct roll s = none) : ZbD roll (k + 1) s = [s] := by
 show (match Zct roll s with | none => [s] | some s' => s :: ZbD roll k s') = _
 rw [h]
structure Good (roll : Za9) (s : Stt) : Prop where
 pl : s.place < roll.length
 bx : s.boxes.length = 8
 rs : Zce s.cells
theorem Zi4 (r : Row) (bs : List Int) (cs : List (Int × Int)) : (r.boxes bs cs).length = bs.length := by cases r <;> simp [Row.boxes]
theorem Zd8 {roll : Za9} (R : ZcU roll) {s s' : Stt} (g : Good roll s) (h : Zct roll s = some s') : Good roll s' ∧ s'.cells.length ≤ s.cells.length + 1 := by
 obtain ⟨hp, hb, hc⟩ := g
 have hr : roll[s.place]? = some roll[s.place] := by simp [hp]
 have ro := R.rows _ (List.getElem_mem hp)
 unfold Zct at h
 rw [hr] at h
 have h' : Zfm s roll[s.place] = some s' := h
 unfold Zfm at h'
 split at h'
 ·cases h'
 ·rename_i nh
  cases h'
  have nl : roll[s.place] ≠ .halt → (∀ k, roll[s.place] ≠ .jump k) → s.place + 1 < roll.length := fun n1 n2 => by
   obtain ⟨q, x, e, hx⟩ := R.last
   have hl : roll.length = q.length + 1 := by rw [e]; simp
   by_cases c : s.place = q.length
   ·have : roll[s.place] = x := by
     have := hr
     simp only [e, c] at this
     simp at this
     simp [c, e]
    rw [this] at n1 n2
    rcases hx with hx | ⟨k, hx⟩
    ·exact absurd hx n1
    ·exact absurd hx (n2 k)
   ·omega
  have nh' : roll[s.place] ≠ .halt := fun z => by rw [z] at nh; simp at nh
  refine ⟨⟨?_, by rw [Zi4]; exact hb, ?_⟩, ?_⟩
  ·generalize roll[s.place] = r at ro nl nh'
   cases r with
   | jump k => exact ro
   | when a k =>
    show (if 0 < s.boxes.getD a 0 then k else s.place + 1) < _
    split
    ·exact ro.2
    ·exact nl nh' (fun _ z => by cases z)
   | halt => exact absurd rfl nh'
   | _ => exact nl nh' (fun _ z => by cases z)
  ·generalize roll[s.place] = r
   cases r with
   | set a b => exact ZcW hc
   | _ => exact hc
  ·generalize roll[s.place] = r
   cases r with
   | set a b => exact ZhZ hc _ _
   | _ => exact Nat.le_succ _
theorem Zha (roll : Za9) : ∀ k s, (ZbD roll k s).length ≤ k + 1
 | 0, s => by simp [ZbD]
 | k + 1, s => by
  unfold ZbD
  split
  ·simp
  ·have := Zha roll k ‹_›; simp; omega
theorem Zk3 (roll : Za9) (k : Nat) (s : Stt) : ZbD roll k s ≠ [] := by
 cases k with
 | zero => simp [ZbD]
 | succ k => unfold ZbD; split <;> simp
theorem Zfp {roll : Za9} (R : ZcU roll) : ∀ k s, Good roll s → ∀ x ∈ ZbD roll k s, Good roll x
 | 0, s, g, x, hx => by simp [ZbD] at hx; subst hx; exact g
 | k + 1, s, g, x, hx => by
  unfold ZbD at hx
  split at hx
  ·simp at hx; subst hx; exact g
  ·rename_i s' h
   rcases List.mem_cons.mp hx with e | e
   ·subst e; exact g
   ·exact Zfp R k s' (Zd8 R g h).1 x e
end L3
namespace L3
def ZkX (i : Int) : List Nat := (PySem.Str.ofString (toString i)).cps.toList
noncomputable section
local instance (priority := 100000) clQ1 (p : Prop) : Decidable p := Classical.propDecidable p
@[simp] def ZoU (ds : List D) (M : Store) : R3 D := match ds with
 | [.int i] => if i.natAbs.log2 < 1920 then .ok (.str (ZkX i)) M else .bad
 | [.str x] => .ok (.str x) M
 | _ => .bad
def Zll : List D → Option (List (List Nat))
 | [] => some []
 | .str x :: ds => (Zll ds).map (x :: ·)
 | _ => none
def glue (sep : List Nat) : List (List Nat) → List Nat
 | [] => []
 | [x] => x
 | x :: y :: xs => x ++ sep ++ glue sep (y :: xs)
def ZkV (sep : List Nat) (ts : List (List Nat)) : Nat := (ts.map fun t => t.length + sep.length).sum
@[simp] def ZoP (o : D) (ds : List D) (M : Store) : R3 D := match o, ds with
 | .str sep, [.ref n] => match M[n]? with
  | some (.lst x) => match Zll x with
   | some ts => if ZkV sep ts ≤ SZ then .ok (.str (glue sep ts)) M else .bad
   | none => .bad
  | _ => .bad
 | _, _ => .bad
def Zmh (x y : List Nat) : List (List Nat) := (PySem.Txt.split ⟨x.toArray⟩ ⟨y.toArray⟩).map fun t => t.cps.toList
@[simp] def Zog (o : D) (ds : List D) (M : Store) : R3 D := match o, ds with
 | .str x, [.str y] => if 0 < y.length ∧ x.length + 2 ≤ SZ then alloc (.lst ((Zmh x y).map D.str)) M else .bad
 | _, _ => .bad
@[simp] def Zg7 (ds : List D) (M : Store) : R3 D := match ds with
 | [.str x] => match PySem.intText? ⟨x.toArray⟩ with
  | some n => if x.length ≤ 640 then .ok (.int n) M else .bad
  | none => .bad
 | ds => Zng ds M
@[simp] def ZnX (T1 T2 : Ty3) (d : D) (M : Store) : R3 D := match Zmt T1 d M, Zmt T2 d M with
 | some a, some b => .ok (.bl (a || b)) M
 | _, _ => .bad
end
end L3
namespace L3
noncomputable section
structure ItL where
 items : List D
 lk : List (Nat × List D)
def Zcu (lk : List (Nat × List D)) (M : Store) : Bool := lk.all fun q => decide (M[q.1]? = some (.lst q.2))
def ZcZ (lk : List (Nat × List D)) (g : G3) (body : S3) : List D → Zal → Store → O3
 | [], env, M => if Zcu lk M then .nx env M else .bad
 | d :: ds, env, M => if Zcu lk M then match g d env with
  | none => .bad
  | some env1 => match body env1 M with
   | .nx e M' => ZcZ lk g body ds e M'
   | .ct e M' => ZcZ lk g body ds e M'
   | .bk e M' => .nx e M'
   | o => o
  else .bad
abbrev IL3 := Zal → Store → R3 ItL
def Zg2 (i : IL3) (g : G3) (body : S3) : S3 := fun env M => match i env M with
 | .ok it M1 => ZcZ it.lk g body it.items env M1
 | .exc x M1 => .exc x M1
 | .bad => .bad
def Zc7 : Nat → List D → List D
 | _, [] => []
 | k, d :: ds => .tup [.int k, d] :: Zc7 (k + 1) ds
@[simp] def Ziv (f : E3) : IL3 := fun env M => (f env M).bind fun a M1 => match a with
 | .tup ds => .ok ⟨Zc7 0 ds, []⟩ M1
 | .ref n => match M1[n]? with
  | some (.lst ds) => .ok ⟨Zc7 0 ds, [(n, ds)]⟩ M1
  | _ => .bad
 | _ => .bad
@[simp] def ZoH (a b : D) (M : Store) : R3 D := match a, b with
 | .tup [.int i, .int j], .tup [.int k, .int l] => .ok (.bl (decide (i < k) || (decide (i = k) && decide (j ≤ l)))) M
 | _, _ => .bad
@[simp] def ZoQ (ds : List D) (M : Store) : R3 D := match ds with
 | [.int i, .int j] => .ok (.int (if j > i then j else i)) M
 | _ => .bad
@[simp] def ZoC (ds : List D) (M : Store) : R3 D := match ds with
 | [.int i, .int j] => .ok (.int (if j < i then j else i)) M
 | _ => .bad
def Zob (a c : Int) (n : Nat) : List D := (List.range n).map fun (k : Nat) => D.int (a + (k : Int) * c)
def Zoo (a b c : Int) : Nat := if a < b then ((b - a - 1) / c + 1).toNat else 0
@[simp] def ZoS (f g h : E3) : E3 := fun env M => (f env M).bind fun x M1 => (g env M1).bind fun y M2 => (h env M2).bind fun z M3 => match x, y, z with
 | .int a, .int b, .int c => if 0 < c ∧ c ≤ 1000 ∧ -1000000 ≤ a ∧ a ≤ 1000000 ∧ -1000000 ≤ b ∧ b ≤ 1000000 then alloc (.lst (Zob a c (Zoo a b c))) M3 else .bad
 | _, _, _ => .bad
@[simp] def ZoN (a b : D) (M : Store) : R3 D := match a, b with
 | .bl x, .bl y => .ok (.bl (decide (x = y))) M
 | _, _ => .bad
@[simp] def ZoA (a b : D) (M : Store) : R3 D := match b with
 | .ref n => match M[n]? with
  | some (.lst ys) => if Zas a && ys.all Zas then .ok (.bl (ys.any fun y => deq y a)) M else .bad
  | _ => .bad
 | _ => .bad
theorem Zdl : ∀ (k : Nat) (ds : List D) (i : Nat), (Zc7 k ds)[i]? = (ds[i]?).map fun d => .tup [.int ((k + i : Nat) : Int), d]
 | _, [], _ => by simp [Zc7]
 | k, d :: ds, 0 => by simp [Zc7]
 | k, d :: ds, i + 1 => by
  simp only [Zc7, List.getElem?_cons_succ, Zdl (k + 1) ds i]
  rw [show k + 1 + i = k + (i + 1) by omega]
theorem Zdk : ∀ (k : Nat) (ds : List D), (Zc7 k ds).length = ds.length
 | _, [] => rfl
 | k, d :: ds => by simp [Zc7, Zdk (k + 1) ds]
theorem ZgL {lk : List (Nat × List D)} {g : G3} {body : S3} {P : Nat → Zal → Store → Prop} : ∀ (ds : List D) (j : Nat) (env : Zal) (M : Store), P j env M → (∀ j env M, P j env M → Zcu lk M = true) →
  (∀ (i : Nat) d env M, ds[i]? = some d → P (j + i) env M → ∃ env1, g d env = some env1 ∧ ((∃ e' M', body env1 M = .nx e' M' ∧ P (j + i + 1) e' M') ∨ ∃ e' M', body env1 M = .ct e' M' ∧ P (j + i + 1) e' M')) →
  ∃ e' M', ZcZ lk g body ds env M = .nx e' M' ∧ P (j + ds.length) e' M'
 | [], j, env, M, p, hl, _ => ⟨env, M, by simp [ZcZ, hl _ _ _ p], by simpa using p⟩
 | d :: ds, j, env, M, p, hl, hs => by
  obtain ⟨env1, hg, hb⟩ := hs 0 d env M (by simp) (by simpa using p)
  have go : ∀ e' M', P (j + 1) e' M' → ∃ e'' M'', ZcZ lk g body ds e' M' = .nx e'' M'' ∧ P (j + (d :: ds).length) e'' M'' := fun e' M' p' => by
   obtain ⟨e'', M'', h, p''⟩ := ZgL ds (j + 1) e' M' p' hl fun i d env M hd p => by
    have := hs (i + 1) d env M (by simpa using hd) (by rw [show j + (i + 1) = j + 1 + i by omega]; exact p)
    rw [show j + (i + 1) + 1 = j + 1 + i + 1 by omega] at this
    exact this
   exact ⟨e'', M'', h, by rw [show j + (d :: ds).length = j + 1 + ds.length by simp; omega]; exact p''⟩
  simp only [Nat.add_zero] at hb
  rcases hb with ⟨e', M', hb, p'⟩ | ⟨e', M', hb, p'⟩
  ·obtain ⟨e'', M'', h, p''⟩ := go e' M' p'
   exact ⟨e'', M'', by simp [ZcZ, hl _ _ _ p, hg, hb, h], p''⟩
  ·obtain ⟨e'', M'', h, p''⟩ := go e' M' p'
   exact ⟨e'', M'', by simp [ZcZ, hl _ _ _ p, hg, hb, h], p''⟩
end
end L3
namespace L3
open PySem PySem.Spec PyProof.Rows L2
abbrev St := L2.St
theorem Zbe : SZ ≤ sizeLine := by rw [sizeLine_eq]; decide
def SqF (K : PySem.W.Frag) (H : Hp) (a : Addr) (xs : List V) : Prop :=
 (∃ o, H a = some (.frz o (.lst xs))) ∨
  ∃ (o : Obj) (its : Array Value) (n : Nat), K.lookup a = some o ∧ o.cls = .type "list" ∧ o.dict = none ∧ o.data = .seq its n ∧ its.size ≤ sizeLine ∧ Vals xs its.toList
theorem SqF.sq {K : PySem.W.Frag} {H : Hp} {a : Addr} {xs : List V} (h : SqF K H a xs) : SqL K H a xs := by
 rcases h with ⟨o, h⟩ | h
 ·exact .inl (.inr ⟨o, h⟩)
 ·exact .inr h
mutual
def Rep (K : PySem.W.Frag) (H : Hp) (ι : List Addr) : D → V → Prop
 | .non, v => v = .non
 | .bl b, v => v = .bl b
 | .int i, v => v = .int i
 | .str x, v => v = .str ⟨x.toArray⟩
 | .tup ds, v => ∃ a vs, v = .ref a ∧ SqT K H a vs ∧ Zm K H ι ds vs
 | .scr ds, v => ∃ a vs, v = .ref a ∧ SqF K H a vs ∧ Zm K H ι ds vs
 | .ref n, v => ∃ a, ι[n]? = some a ∧ v = .ref a
def Zm (K : PySem.W.Frag) (H : Hp) (ι : List Addr) : List D → List V → Prop
 | [], vs => vs = []
 | d :: ds, vs => ∃ v ws, vs = v :: ws ∧ Rep K H ι d v ∧ Zm K H ι ds ws
end
structure Ext (K : PySem.W.Frag) (H : Hp) (ι : List Addr) (H' : Hp) (ι' : List Addr) : Prop where
 tup : ∀ a xs, SqT K H a xs → SqT K H' a xs
 scr : ∀ a xs, SqF K H a xs → SqF K H' a xs
 pre : ∀ (n : Nat) (a : Addr), ι[n]? = some a → ι'[n]? = some a
 frz : ∀ a o u, H a = some (.frz o u) → H' a = some (.frz o u)
section
variable {K : PySem.W.Frag} {H H' H1 H2 : Hp} {ι ι' ι1 ι2 : List Addr}
theorem Ext.refl : Ext K H ι H ι := ⟨fun _ _ h => h, fun _ _ h => h, fun _ _ h => h, fun _ _ _ h => h⟩
theorem Ext.trans (a : Ext K H ι H1 ι1) (b : Ext K H1 ι1 H2 ι2) : Ext K H ι H2 ι2 :=
 ⟨fun x xs h => b.tup x xs (a.tup x xs h), fun x xs h => b.scr x xs (a.scr x xs h), fun n x h => b.pre n x (a.pre n x h), fun x o u h => b.frz x o u (a.frz x o u h)⟩
mutual
theorem Rep.mono (e : Ext K H ι H' ι') : ∀ {d : D} {v : V}, Rep K H ι d v → Rep K H' ι' d v
 | .non, _, h => by simpa [Rep] using h
 | .bl _, _, h => by simpa [Rep] using h
 | .int _, _, h => by simpa [Rep] using h
 | .str _, _, h => by simpa [Rep] using h
 | .tup ds, _, h => by
  simp only [Rep] at h ⊢
  obtain ⟨a, vs, rfl, s, r⟩ := h
  exact ⟨a, vs, rfl, e.tup _ _ s, Zm.mono e (ds := ds) r⟩
 | .scr ds, _, h => by
  simp only [Rep] at h ⊢
  obtain ⟨a, vs, rfl, s, r⟩ := h
  exact ⟨a, vs, rfl, e.scr _ _ s, Zm.mono e (ds := ds) r⟩
 | .ref n, _, h => by
  simp only [Rep] at h ⊢
  obtain ⟨a, s, rfl⟩ := h
  exact ⟨a, e.pre _ _ s, rfl⟩
theorem Zm.mono (e : Ext K H ι H' ι') : ∀ {ds : List D} {vs : List V}, Zm K H ι ds vs → Zm K H' ι' ds vs
 | [], _, h => by simpa [Zm] using h
 | d :: ds, _, h => by
  simp only [Zm] at h ⊢
  obtain ⟨v, ws, rfl, r, q⟩ := h
  exact ⟨v, ws, rfl, Rep.mono e (d := d) r, Zm.mono e (ds := ds) q⟩
end
mutual
theorem Rep.keep (ht : ∀ a xs, SqT K H a xs → SqT K H' a xs) (hs : ∀ a xs, SqF K H a xs → SqF K H' a xs) : ∀ {d : D} {v : V}, Rep K H ι d v → Rep K H' ι d v
 | .non, _, h => by simpa [Rep] using h
 | .bl _, _, h => by simpa [Rep] using h
 | .int _, _, h => by simpa [Rep] using h
 | .str _, _, h => by simpa [Rep] using h
 | .tup ds, _, h => by
  simp only [Rep] at h ⊢
  obtain ⟨a, vs, rfl, s, r⟩ := h
  exact ⟨a, vs, rfl, ht _ _ s, Zm.keep ht hs (ds := ds) r⟩
 | .scr ds, _, h => by
  simp only [Rep] at h ⊢
  obtain ⟨a, vs, rfl, s, r⟩ := h
  exact ⟨a, vs, rfl, hs _ _ s, Zm.keep ht hs (ds := ds) r⟩
 | .ref n, _, h => by simpa [Rep] using h
theorem Zm.keep (ht : ∀ a xs, SqT K H a xs → SqT K H' a xs) (hs : ∀ a xs, SqF K H a xs → SqF K H' a xs) : ∀ {ds : List D} {vs : List V}, Zm K H ι ds vs → Zm K H' ι ds vs
 | [], _, h => by simpa [Zm] using h
 | d :: ds, _, h => by
  simp only [Zm] at h ⊢
  obtain ⟨v, ws, rfl, r, q⟩ := h
  exact ⟨v, ws, rfl, Rep.keep ht hs (d := d) r, Zm.keep ht hs (ds := ds) q⟩
end
theorem Zm.nil : Zm K H ι [] [] := by simp [Zm]
theorem Zm.cons {d : D} {ds : List D} {v : V} {vs : List V} (h : Rep K H ι d v) (t : Zm K H ι ds vs) : Zm K H ι (d :: ds) (v :: vs) := by
 simp only [Zm]
 exact ⟨v, vs, rfl, h, t⟩
theorem Zm.nil_inv {vs : List V} (h : Zm K H ι [] vs) : vs = [] := by simpa [Zm] using h
theorem Zm.cons_inv {d : D} {ds : List D} {vs : List V} (h : Zm K H ι (d :: ds) vs) : ∃ v ws, vs = v :: ws ∧ Rep K H ι d v ∧ Zm K H ι ds ws := by simpa [Zm] using h
theorem Zm.length : ∀ {ds : List D} {vs : List V}, Zm K H ι ds vs → vs.length = ds.length
 | [], _, h => by rw [h.nil_inv]; rfl
 | d :: ds, _, h => by
  obtain ⟨v, ws, rfl, _, q⟩ := h.cons_inv
  simp [q.length]
theorem Zm.append : ∀ {ds es : List D} {vs ws : List V}, Zm K H ι ds vs → Zm K H ι es ws → Zm K H ι (ds ++ es) (vs ++ ws)
 | [], _, _, _, h, q => by rw [h.nil_inv]; exact q
 | d :: ds, _, _, _, h, q => by
  obtain ⟨v, us, rfl, r, t⟩ := h.cons_inv
  exact Zm.cons r (t.append q)
theorem Zm.drop : ∀ {ds : List D} {vs : List V} (n : Nat), Zm K H ι ds vs → Zm K H ι (ds.drop n) (vs.drop n)
 | _, _, 0, h => h
 | [], _, n + 1, h => by rw [h.nil_inv]; exact Zm.nil
 | d :: ds, _, n + 1, h => by
  obtain ⟨v, us, rfl, r, t⟩ := h.cons_inv
  exact t.drop n
theorem Zm.take : ∀ {ds : List D} {vs : List V} (n : Nat), Zm K H ι ds vs → Zm K H ι (ds.take n) (vs.take n)
 | _, _, 0, h => Zm.nil
 | [], _, n + 1, h => by rw [h.nil_inv]; exact Zm.nil
 | d :: ds, _, n + 1, h => by
  obtain ⟨v, us, rfl, r, t⟩ := h.cons_inv
  exact Zm.cons r (t.take n)
theorem Zm.get : ∀ {ds : List D} {vs : List V} {i : Nat} {d : D}, Zm K H ι ds vs → ds[i]? = some d → ∃ v, vs[i]? = some v ∧ Rep K H ι d v
 | [], _, _, _, _, e => by simp at e
 | d :: ds, _, 0, _, h, e => by
  obtain ⟨v, us, rfl, r, t⟩ := h.cons_inv
  simp at e; subst e
  exact ⟨v, rfl, r⟩
 | d :: ds, _, i + 1, _, h, e => by
  obtain ⟨v, us, rfl, r, t⟩ := h.cons_inv
  obtain ⟨w, q, z⟩ := t.get (i := i) (by simpa using e)
  exact ⟨w, by simpa using q, z⟩
theorem Zm.set : ∀ {ds : List D} {vs : List V} {d : D} {v : V} (i : Nat), Zm K H ι ds vs → Rep K H ι d v → Zm K H ι (ds.set i d) (vs.set i v)
 | [], _, _, _, _, h, _ => by rw [h.nil_inv]; exact Zm.nil
 | d :: ds, _, _, _, 0, h, q => by
  obtain ⟨v, us, rfl, r, t⟩ := h.cons_inv
  exact Zm.cons q t
 | d :: ds, _, _, _, i + 1, h, q => by
  obtain ⟨v, us, rfl, r, t⟩ := h.cons_inv
  exact Zm.cons r (t.set i q)
theorem Zm.ints : ∀ (ns : List Int), Zm K H ι (ns.map D.int) (ns.map V.int)
 | [] => Zm.nil
 | n :: ns => Zm.cons (by simp [Rep]) (Zm.ints ns)
theorem Rep.non_inv {v : V} (h : Rep K H ι .non v) : v = .non := by simpa [Rep] using h
theorem Rep.bl_inv {v : V} {b : Bool} (h : Rep K H ι (.bl b) v) : v = .bl b := by simpa [Rep] using h
theorem Rep.int_inv {v : V} {i : Int} (h : Rep K H ι (.int i) v) : v = .int i := by simpa [Rep] using h
theorem Rep.str_inv {v : V} {x : List Nat} (h : Rep K H ι (.str x) v) : v = .str ⟨x.toArray⟩ := by simpa [Rep] using h
theorem Rep.tup_inv {v : V} {ds : List D} (h : Rep K H ι (.tup ds) v) : ∃ a vs, v = .ref a ∧ SqT K H a vs ∧ Zm K H ι ds vs := by simpa [Rep] using h
theorem Rep.scr_inv {v : V} {ds : List D} (h : Rep K H ι (.scr ds) v) : ∃ a vs, v = .ref a ∧ SqF K H a vs ∧ Zm K H ι ds vs := by simpa [Rep] using h
theorem Rep.ref_inv {v : V} {n : Nat} (h : Rep K H ι (.ref n) v) : ∃ a, ι[n]? = some a ∧ v = .ref a := by simpa [Rep] using h
theorem Rep.non : Rep K H ι .non .non := by simp [Rep]
theorem Rep.bl {b : Bool} : Rep K H ι (.bl b) (.bl b) := by simp [Rep]
theorem Rep.int {i : Int} : Rep K H ι (.int i) (.int i) := by simp [Rep]
theorem Rep.str {x : List Nat} : Rep K H ι (.str x) (.str ⟨x.toArray⟩) := by simp [Rep]
theorem Rep.tup {a : Addr} {vs : List V} {ds : List D} (s : SqT K H a vs) (r : Zm K H ι ds vs) : Rep K H ι (.tup ds) (.ref a) := by
 simp only [Rep]; exact ⟨a, vs, rfl, s, r⟩
theorem Rep.ref {a : Addr} {n : Nat} (s : ι[n]? = some a) : Rep K H ι (.ref n) (.ref a) := by
 simp only [Rep]; exact ⟨a, s, rfl⟩
end
def dk : ZaC → Key
 | .inl i => .inl i
 | .inr x => .inr ⟨x.toArray⟩
def KvR (K : PySem.W.Frag) (H : Hp) (ι : List Addr) (kvs : List (ZaC × D)) (ws : List (Key × V)) : Prop :=
 ws.map (·.1) = kvs.map (fun p => dk p.1) ∧ Zm K H ι (kvs.map (·.2)) (ws.map (·.2))
def Zdc (K : PySem.W.Frag) (H : Hp) (ι : List Addr) : MO → Addr → Prop
 | .lst xs, a => ∃ vs, H a = some (.lst vs) ∧ Zm K H ι xs vs
 | .dct kvs, a => ∃ ws, H a = some (.dK ws) ∧ KvR K H ι kvs ws
 | .fdct kvs, a => ∃ ws, (∃ o, H a = some (.frz o (.dK ws))) ∧ KvR K H ι kvs ws
structure Zx (K : PySem.W.Frag) (H : Hp) (ι : List Addr) (M : Store) : Prop where
 len : ι.length = M.length
 nd : ι.Nodup
 obj : ∀ (n : Nat) o a, M[n]? = some o → ι[n]? = some a → Zdc K H ι o a
def Loose (H : Hp) (p : Addr) : Prop := H p = none ∨ (∃ vs, H p = some (.lst vs)) ∨ ∃ ws, H p = some (.dK ws)
section
variable {K : PySem.W.Frag} {H H' : Hp} {ι ι' : List Addr} {M : Store} {p : Addr} {o : HO}
theorem Loose.ne {a : Addr} {u : HO} (l : Loose H p) (h : H a = some u) (h1 : ∀ vs, u ≠ .lst vs) (h2 : ∀ ws, u ≠ .dK ws) : a ≠ p := by
 rintro rfl
 rcases l with l | ⟨vs, l⟩ | ⟨ws, l⟩
 ·rw [h] at l; cases l
 ·rw [h] at l; exact h1 vs (Option.some.inj l)
 ·rw [h] at l; exact h2 ws (Option.some.inj l)
theorem Loose.tup (l : Loose H p) {a : Addr} {xs : List V} (h : SqT K H a xs) : SqT K (upd H p o) a xs := by
 rcases h with (h | ⟨ob, h⟩) | h
 ·exact .inl (.inl (by rw [Zt (l.ne h (fun _ z => nomatch z) (fun _ z => nomatch z))]; exact h))
 ·exact .inl (.inr ⟨ob, by rw [Zt (l.ne h (fun _ z => nomatch z) (fun _ z => nomatch z))]; exact h⟩)
 ·exact .inr h
theorem Loose.scr (l : Loose H p) {a : Addr} {xs : List V} (h : SqF K H a xs) : SqF K (upd H p o) a xs := by
 rcases h with ⟨ob, h⟩ | h
 ·exact .inl ⟨ob, by rw [Zt (l.ne h (fun _ z => nomatch z) (fun _ z => nomatch z))]; exact h⟩
 ·exact .inr h
theorem Loose.frz (l : Loose H p) {a : Addr} {ob : Obj} {u : HO} (h : H a = some (.frz ob u)) : upd H p o a = some (.frz ob u) := by
 rw [Zt (l.ne h (fun _ z => nomatch z) (fun _ z => nomatch z))]; exact h
theorem Loose.ext (l : Loose H p) : Ext K H ι (upd H p o) ι := ⟨fun _ _ h => l.tup h, fun _ _ h => l.scr h, fun _ _ h => h, fun _ _ _ h => l.frz h⟩
theorem Loose.extA (l : Loose H p) : Ext K H ι (upd H p o) (ι ++ [p]) := ⟨fun _ _ h => l.tup h, fun _ _ h => l.scr h, fun n a h => by
 rw [List.getElem?_append_left (List.getElem?_eq_some_iff.mp h).1]; exact h, fun _ _ _ h => l.frz h⟩
theorem Zdc.mono {m : MO} {a : Addr} (e : Ext K H ι H' ι') (h : Zdc K H ι m a) (k : H' a = H a) : Zdc K H' ι' m a := by
 cases m with
 | lst xs => obtain ⟨vs, q, r⟩ := h; exact ⟨vs, k.trans q, r.mono e⟩
 | dct kvs => obtain ⟨ws, q, r1, r2⟩ := h; exact ⟨ws, k.trans q, r1, r2.mono e⟩
 | fdct kvs => obtain ⟨ws, ⟨o, q⟩, r1, r2⟩ := h; exact ⟨ws, ⟨o, k.trans q⟩, r1, r2.mono e⟩
theorem Zdc.ne {m : MO} {a : Addr} (h : Zdc K H ι m a) : H a ≠ none := by
 cases m with
 | lst xs => obtain ⟨vs, q, r⟩ := h; rw [q]; simp
 | dct kvs => obtain ⟨ws, q, r⟩ := h; rw [q]; simp
 | fdct kvs => obtain ⟨ws, ⟨o, q⟩, r⟩ := h; rw [q]; simp
theorem Zx.at (S : Zx K H ι M) {n : Nat} {m : MO} (h : M[n]? = some m) : ∃ a, ι[n]? = some a ∧ Zdc K H ι m a := by
 have hn : n < ι.length := by rw [S.len]; exact (List.getElem?_eq_some_iff.mp h).1
 exact ⟨ι[n], by simp [hn], S.obj n m _ h (by simp [hn])⟩
theorem Zx.there (S : Zx K H ι M) {n : Nat} {a : Addr} (h : ι[n]? = some a) : ∃ m, M[n]? = some m ∧ Zdc K H ι m a := by
 have hn : n < M.length := by rw [← S.len]; exact (List.getElem?_eq_some_iff.mp h).1
 exact ⟨M[n], by simp [hn], S.obj n _ _ (by simp [hn]) h⟩
theorem Zx.fresh (S : Zx K H ι M) (hp : H p = none) : p ∉ ι := fun h => by
 obtain ⟨n, hn⟩ := List.getElem?_of_mem h
 obtain ⟨m, _, q⟩ := S.there hn
 exact q.ne hp
theorem Zx.other (S : Zx K H ι M) (l : Loose H p) (hp : p ∉ ι) : Zx K (upd H p o) ι M :=
 ⟨S.len, S.nd, fun n m a h1 h2 => (S.obj n m a h1 h2).mono l.ext (by
  rw [Zt]; rintro rfl; exact hp (List.mem_of_getElem? h2))⟩
theorem Zx.new (S : Zx K H ι M) (hp : H p = none) {m : MO} (h : Zdc K (upd H p o) (ι ++ [p]) m p) : Zx K (upd H p o) (ι ++ [p]) (M ++ [m]) := by
 have hf := S.fresh hp
 refine ⟨by simp [S.len], ?_, fun n m' a h1 h2 => ?_⟩
 ·exact List.nodup_append.mpr ⟨S.nd, by simp, fun x hx y hy => by
   have e : y = p := by simpa using hy
   subst e
   rintro rfl
   exact hf hx⟩
 ·by_cases hn : n < ι.length
  ·rw [List.getElem?_append_left hn] at h2
   rw [List.getElem?_append_left (by rw [← S.len]; exact hn)] at h1
   refine (S.obj n m' a h1 h2).mono (Loose.extA (.inl hp)) ?_
   rw [Zt]
   rintro rfl
   exact hf (List.mem_of_getElem? h2)
  ·rw [List.getElem?_append_right (by omega)] at h2
   rw [List.getElem?_append_right (by rw [← S.len]; omega)] at h1
   have hlt : n - ι.length < 1 := by
    have := (List.getElem?_eq_some_iff.mp h2).1
    simpa using this
   have e0 : n - ι.length = 0 := by omega
   rw [e0] at h2
   rw [← S.len, e0] at h1
   simp at h1 h2
   subst h1 h2
   exact h
theorem Zx.put (S : Zx K H ι M) {n : Nat} (l0 : Loose H p) (hn : ι[n]? = some p) {m : MO} (h : Zdc K (upd H p o) ι m p) : Zx K (upd H p o) ι (M.set n m) := by
 obtain ⟨m0, hm0, q0⟩ := S.there hn
 refine ⟨by simp [S.len], S.nd, fun k m' a h1 h2 => ?_⟩
 by_cases hk : k = n
 ·subst hk
  rw [hn] at h2
  cases h2
  have hlt : k < M.length := (List.getElem?_eq_some_iff.mp hm0).1
  rw [List.getElem?_set_self hlt] at h1
  cases h1
  exact h
 ·rw [List.getElem?_set_ne (Ne.symm hk)] at h1
  refine (S.obj k m' a h1 h2).mono (Loose.ext l0) ?_
  rw [Zt]
  rintro rfl
  have hlt1 := (List.getElem?_eq_some_iff.mp h2)
  have hlt2 := (List.getElem?_eq_some_iff.mp hn)
  exact hk ((List.getElem_inj S.nd).mp (hlt1.2.trans hlt2.2.symm))
theorem Zx.lst (S : Zx K H ι M) (hp : H p = none) {xs : List D} {vs : List V} (r : Zm K H ι xs vs) : Ext K H ι (upd H p (.lst vs)) (ι ++ [p]) ∧ Zx K (upd H p (.lst vs)) (ι ++ [p]) (M ++ [.lst xs]) ∧ Rep K (upd H p (.lst vs)) (ι ++ [p]) (.ref M.length) (.ref p) := by
 have e : Ext K H ι (upd H p (.lst vs)) (ι ++ [p]) := Loose.extA (.inl hp)
 refine ⟨e, S.new hp ⟨vs, ZaT, r.mono e⟩, Rep.ref ?_⟩
 rw [← S.len]; simp
theorem Zx.tupl (S : Zx K H ι M) (hp : H p = none) {xs : List D} {vs : List V} (r : Zm K H ι xs vs) : Ext K H ι (upd H p (.tup vs)) ι ∧ Zx K (upd H p (.tup vs)) ι M ∧ Rep K (upd H p (.tup vs)) ι (.tup xs) (.ref p) := by
 have e : Ext K H ι (upd H p (.tup vs)) ι := Loose.ext (.inl hp)
 exact ⟨e, S.other (.inl hp) (S.fresh hp), Rep.tup (SqT.of ZaT) (r.mono e)⟩
theorem Zx.setl (S : Zx K H ι M) {n : Nat} (l0 : Loose H p) (hn : ι[n]? = some p) {xs : List D} {vs : List V} (r : Zm K H ι xs vs) : Ext K H ι (upd H p (.lst vs)) ι ∧ Zx K (upd H p (.lst vs)) ι (M.set n (.lst xs)) := by
 have e : Ext K H ι (upd H p (.lst vs)) ι := Loose.ext l0
 exact ⟨e, S.put l0 hn ⟨vs, ZaT, r.mono e⟩⟩
end
def Za0 (K : PySem.W.Frag) (H : Hp) (ι : List Addr) (env : Zal) (σ : St) : Prop :=
 env.length = σ.length ∧ ∀ (i : Nat) d, env[i]? = some (some d) → ∃ v, σ[i]? = some (some v) ∧ Rep K H ι d v
theorem Za0.mono {K : PySem.W.Frag} {H H' : Hp} {ι ι' : List Addr} {env : Zal} {σ : St} (r : Za0 K H ι env σ) (e : Ext K H ι H' ι') : Za0 K H' ι' env σ :=
 ⟨r.1, fun i d h => let ⟨v, q, z⟩ := r.2 i d h; ⟨v, q, z.mono e⟩⟩
theorem Za0.set {K : PySem.W.Frag} {H : Hp} {ι : List Addr} {env : Zal} {σ : St} {d : D} {v : V} (r : Za0 K H ι env σ) (i : Nat) (h : Rep K H ι d v) : Za0 K H ι (env.set i (some d)) (σ.set i (some v)) := by
 refine ⟨by simp [r.1], fun j e hj => ?_⟩
 by_cases hij : j = i
 ·subst hij
  have hlt : j < env.length := by
   have := (List.getElem?_eq_some_iff.mp hj).1
   simpa using this
  rw [List.getElem?_set_self hlt] at hj
  cases hj
  exact ⟨v, by rw [List.getElem?_set_self (by rw [← r.1]; exact hlt)], h⟩
 ·rw [List.getElem?_set_ne (Ne.symm hij)] at hj
  obtain ⟨w, q, z⟩ := r.2 j e hj
  exact ⟨w, by rw [List.getElem?_set_ne (Ne.symm hij)]; exact q, z⟩
def Zab (K : PySem.W.Frag) (H : Hp) (ι : List Addr) (Q : VK) (r : R3 D) : Prop := match r with
 | .ok d M' => ∀ v H' ι', Ext K H ι H' ι' → Zx K H' ι' M' → Rep K H' ι' d v → Q v H'
 | _ => False
def tOf (K : PySem.W.Frag) (f : E3) : TE := fun σ H Q => ∃ ι M env, Zx K H ι M ∧ Za0 K H ι env σ ∧ Zab K H ι Q (f env M)
def Zfc (K : PySem.W.Frag) (H : Hp) (ι : List Addr) (Q : Bool → Hp → Prop) (r : R3 D) : Prop := match r with
 | .ok (.bl b) M' => ∀ H' ι', Ext K H ι H' ι' → Zx K H' ι' M' → Q b H'
 | _ => False
def tTf (K : PySem.W.Frag) (f : E3) : TT := fun σ H Q => ∃ ι M env, Zx K H ι M ∧ Za0 K H ι env σ ∧ Zfc K H ι Q (f env M)
def ZiE (K : PySem.W.Frag) (H : Hp) (ι : List Addr) (Q : List V → Hp → Prop) (r : R3 (List D)) : Prop := match r with
 | .ok ds M' => ∀ vs H' ι', Ext K H ι H' ι' → Zx K H' ι' M' → Zm K H' ι' ds vs → Q vs H'
 | _ => False
def tAf (K : PySem.W.Frag) (f : EL3) : TA := fun σ H Q => ∃ ι M env, Zx K H ι M ∧ Za0 K H ι env σ ∧ ZiE K H ι Q (f env M)
def Zkb (K : PySem.W.Frag) (H : Hp) (ι : List Addr) (Q : Option Int → Hp → Prop) (r : R3 (Option Int)) : Prop := match r with
 | .ok o M' => ∀ H' ι', Ext K H ι H' ι' → Zx K H' ι' M' → Q o H'
 | _ => False
def tOo (K : PySem.W.Frag) (f : EO3) : TO := fun σ H Q => ∃ ι M env, Zx K H ι M ∧ Za0 K H ι env σ ∧ Zkb K H ι Q (f env M)
def Zdt (K : PySem.W.Frag) (H : Hp) (ι : List Addr) (E : Ends) (r : O3) : Prop := match r with
 | .nx env' M' => ∀ σ' H' ι', Ext K H ι H' ι' → Zx K H' ι' M' → Za0 K H' ι' env' σ' → E.nx σ' H'
 | .bk env' M' => ∀ σ' H' ι', Ext K H ι H' ι' → Zx K H' ι' M' → Za0 K H' ι' env' σ' → E.bk σ' H'
 | .ct env' M' => ∀ σ' H' ι', Ext K H ι H' ι' → Zx K H' ι' M' → Za0 K H' ι' env' σ' → E.ct σ' H'
 | .rt d M' => ∀ v H' ι', Ext K H ι H' ι' → Zx K H' ι' M' → Rep K H' ι' d v → E.rt v H'
 | _ => False
def tSf (K : PySem.W.Frag) (f : S3) : TS := fun E σ H => ∃ ι M env, Zx K H ι M ∧ Za0 K H ι env σ ∧ Zdt K H ι E (f env M)
def C3 (X : Cx) (e : Expr) (f : E3) : Prop := PE X e (tOf X.K f)
def CT (X : Cx) (e : Expr) (f : E3) : Prop := PT X e (tTf X.K f)
def CA (X : Cx) (es : List Expr) (f : EL3) : Prop := PA X es (tAf X.K f)
def CO (X : Cx) (e : Option Expr) (f : EO3) : Prop := PO X e (tOo X.K f)
def CS (X : Cx) (st : Stmt) (f : S3) : Prop := PS X st (tSf X.K f)
def CSs (X : Cx) (st : List Stmt) (f : S3) : Prop := PSs X st (tSf X.K f)
theorem _root_.L2.PE.imp {X : Cx} {e : Expr} {t t' : TE} (h : PE X e t) (i : ∀ σ H Q, t' σ H Q → t σ H Q) : PE X e t' := fun pins s σ H Q I q => h pins s σ H Q I (i σ H Q q)
theorem _root_.L2.PT.imp {X : Cx} {e : Expr} {t t' : TT} (h : PT X e t) (i : ∀ σ H Q, t' σ H Q → t σ H Q) : PT X e t' := fun pins s σ H Q I q => h pins s σ H Q I (i σ H Q q)
theorem _root_.L2.PA.imp {X : Cx} {e : List Expr} {t t' : TA} (h : PA X e t) (i : ∀ σ H Q, t' σ H Q → t σ H Q) : PA X e t' := fun pos pins s σ H Q I q => h pos pins s σ H Q I (i σ H Q q)
theorem _root_.L2.PO.imp {X : Cx} {e : Option Expr} {t t' : TO} (h : PO X e t) (i : ∀ σ H Q, t' σ H Q → t σ H Q) : PO X e t' := fun pins s σ H Q I q => h pins s σ H Q I (i σ H Q q)
theorem _root_.L2.PS.imp {X : Cx} {e : Stmt} {t t' : TS} (h : PS X e t) (i : ∀ D σ H, t' D σ H → t D σ H) : PS X e t' := fun pins s σ H D I q => h pins s σ H D I (i D σ H q)
theorem _root_.L2.PSs.imp {X : Cx} {e : List Stmt} {t t' : TS} (h : PSs X e t) (i : ∀ D σ H, t' D σ H → t D σ H) : PSs X e t' := fun pins s σ H D I q => h pins s σ H D I (i D σ H q)
theorem _root_.L2.OpR.imp {X : Cx} {f : Value → Value → Sem Value} {r r' : R2} (h : OpR X f r) (i : ∀ x y H Q, r' x y H Q → r x y H Q) : OpR X f r' := fun pins s σ H x y v u Q I rx ry q => h pins s σ H x y v u Q I rx ry (i x y H Q q)
theorem _root_.L2.UnR.imp {X : Cx} {f : Value → Sem Value} {r r' : V → Hp → VK → Prop} (h : UnR X f r) (i : ∀ x H Q, r' x H Q → r x H Q) : UnR X f r' := fun pins s σ H x v Q I rx q => h pins s σ H x v Q I rx (i x H Q q)
theorem _root_.L2.ZaN.imp {X : Cx} {f : Value} {r r' : List V → Hp → VK → Prop} (h : ZaN X f r) (i : ∀ x H Q, r' x H Q → r x H Q) : ZaN X f r' := fun pins s σ H xs us Q I rx q => h pins s σ H xs us Q I rx (i xs H Q q)
theorem _root_.L2.IxR.imp {X : Cx} {r r' : R2} (h : IxR X r) (i : ∀ x y H Q, r' x y H Q → r x y H Q) : IxR X r' := fun value slice pins s σ H x y v u Q I rx ry q hs => h value slice pins s σ H x y v u Q I rx ry (i x y H Q q) hs
theorem _root_.L2.SlR.imp {X : Cx} {r r' : V → Option Int → Option Int → Hp → VK → Prop} (h : SlR X r) (i : ∀ x lo hi H Q, r' x lo hi H Q → r x lo hi H Q) : SlR X r' := fun pins s σ H x v vl vu lo hi sl Q I rx hs pl pu q => h pins s σ H x v vl vu lo hi sl Q I rx hs pl pu (i x lo hi H Q q)
section
variable {K : PySem.W.Frag} {H H1 : Hp} {ι ι1 : List Addr}
theorem Zab.up {Q : VK} {r : R3 D} (e : Ext K H ι H1 ι1) (h : Zab K H ι Q r) : Zab K H1 ι1 Q r := by
 cases r with
 | ok d M => exact fun v H' ι' e' S r => h v H' ι' (e.trans e') S r
 | exc x M => exact h
 | bad => exact h
theorem Zfc.up {Q : Bool → Hp → Prop} {r : R3 D} (e : Ext K H ι H1 ι1) (h : Zfc K H ι Q r) : Zfc K H1 ι1 Q r := by
 cases r with
 | ok d M => cases d <;> first | exact h | exact fun H' ι' e' S => h H' ι' (e.trans e') S
 | exc x M => exact h
 | bad => exact h
theorem Zdt.up {Q : Ends} {r : O3} (e : Ext K H ι H1 ι1) (h : Zdt K H ι Q r) : Zdt K H1 ι1 Q r := by
 cases r with
 | nx d M => exact fun v H' ι' e' S r => h v H' ι' (e.trans e') S r
 | bk d M => exact fun v H' ι' e' S r => h v H' ι' (e.trans e') S r
 | ct d M => exact fun v H' ι' e' S r => h v H' ι' (e.trans e') S r
 | rt d M => exact fun v H' ι' e' S r => h v H' ι' (e.trans e') S r
 | exc x M => exact h
 | bad => exact h
theorem Zab.ok {Q : VK} {d : D} {M : Store} {v : V} (h : Zab K H ι Q (.ok d M)) (S : Zx K H ι M) (r : Rep K H ι d v) : Q v H := h v H ι Ext.refl S r
theorem Zab.bind {α : Type} {Q : VK} {r : R3 α} {k : α → Store → R3 D} (h : Zab K H ι Q (r.bind k)) : ∃ a M, r = .ok a M ∧ Zab K H ι Q (k a M) := by
 cases r with
 | ok a M => exact ⟨a, M, rfl, h⟩
 | exc x M => exact h.elim
 | bad => exact h.elim
theorem ZiE.bind {α : Type} {Q : List V → Hp → Prop} {r : R3 α} {k : α → Store → R3 (List D)} (h : ZiE K H ι Q (r.bind k)) : ∃ a M, r = .ok a M ∧ ZiE K H ι Q (k a M) := by
 cases r with
 | ok a M => exact ⟨a, M, rfl, h⟩
 | exc x M => exact h.elim
 | bad => exact h.elim
theorem Zkb.bind {α : Type} {Q : Option Int → Hp → Prop} {r : R3 α} {k : α → Store → R3 (Option Int)} (h : Zkb K H ι Q (r.bind k)) : ∃ a M, r = .ok a M ∧ Zkb K H ι Q (k a M) := by
 cases r with
 | ok a M => exact ⟨a, M, rfl, h⟩
 | exc x M => exact h.elim
 | bad => exact h.elim
theorem Zfc.bind {α : Type} {Q : Bool → Hp → Prop} {r : R3 α} {k : α → Store → R3 D} (h : Zfc K H ι Q (r.bind k)) : ∃ a M, r = .ok a M ∧ Zfc K H ι Q (k a M) := by
 cases r with
 | ok a M => exact ⟨a, M, rfl, h⟩
 | exc x M => exact h.elim
 | bad => exact h.elim
end
def r2 (K : PySem.W.Frag) (op : D → D → Store → R3 D) : R2 := fun x y H Q => ∃ ι M a b, Zx K H ι M ∧ Rep K H ι a x ∧ Rep K H ι b y ∧ Zab K H ι Q (op a b M)
def r1 (K : PySem.W.Frag) (op : D → Store → R3 D) : V → Hp → VK → Prop := fun x H Q => ∃ ι M a, Zx K H ι M ∧ Rep K H ι a x ∧ Zab K H ι Q (op a M)
def rB (K : PySem.W.Frag) (b : List D → Store → R3 D) : List V → Hp → VK → Prop := fun xs H Q => ∃ ι M ds, Zx K H ι M ∧ Zm K H ι ds xs ∧ Zab K H ι Q (b ds M)
def rM (K : PySem.W.Frag) (m : D → List D → Store → R3 D) : V → List V → Hp → VK → Prop := fun x xs H Q => ∃ ι M a ds, Zx K H ι M ∧ Rep K H ι a x ∧ Zm K H ι ds xs ∧ Zab K H ι Q (m a ds M)
def rS (K : PySem.W.Frag) : V → Option Int → Option Int → Hp → VK → Prop := fun x lo hi H Q => ∃ ι M a, Zx K H ι M ∧ Rep K H ι a x ∧ Zab K H ι Q (Zh9 a lo hi M)
theorem Zgb {K : PySem.W.Frag} {op : D → D → Store → R3 D} {f g : E3} (σ : St) (H : Hp) (Q : VK) (h : tOf K (e2 op f g) σ H Q) : tOp (r2 K op) (tOf K f) (tOf K g) σ H Q := by
 obtain ⟨ι, M, env, S, E, h⟩ := h
 obtain ⟨a, M1, e1, h⟩ := Zab.bind h
 obtain ⟨b, M2, e2, h⟩ := Zab.bind h
 refine ⟨ι, M, env, S, E, ?_⟩
 rw [e1]
 intro v H1 ι1 x1 S1 r1
 refine ⟨ι1, M1, env, S1, E.mono x1, ?_⟩
 rw [e2]
 intro u H2 ι2 x2 S2 r2
 exact ⟨ι2, M2, a, b, S2, r1.mono x2, r2, (h.up x1).up x2⟩
theorem Zl1 {K : PySem.W.Frag} {op : D → Store → R3 D} {f : E3} (σ : St) (H : Hp) (Q : VK) (h : tOf K (e1 op f) σ H Q) : tUn (r1 K op) (tOf K f) σ H Q := by
 obtain ⟨ι, M, env, S, E, h⟩ := h
 obtain ⟨a, M1, e1, h⟩ := Zab.bind h
 refine ⟨ι, M, env, S, E, ?_⟩
 rw [e1]
 intro v H1 ι1 x1 S1 r1
 exact ⟨ι1, M1, a, S1, r1, h.up x1⟩
section
variable {X : Cx} {a b c e o : Expr} {es : List Expr} {pos p : Pos} {f g h : E3} {gl : EL3}
theorem Zd (i : Nat) {x : Str} (hN : X.N[i]? = some x := by rfl) (hv : Vis X.env.scope x := by first | exact Or.inl rfl | exact Or.inr (Or.inl rfl) | exact Or.inr (Or.inr rfl)) (hd : (x == ("__debug__" : Str)) = false := by decide)
  (hcd : (x == ("__classdict__" : Str)) = false := by decide) : C3 X (.Name x pos) (Zb i) := (ZmB hN hv hd hcd).imp fun σ H Q ⟨ι, M, env, S, E, h⟩ => by
 unfold Zb at h
 cases q : env[i]? with
 | none => rw [q] at h; exact h.elim
 | some od =>
  cases od with
  | none => rw [q] at h; exact h.elim
  | some d =>
   rw [q] at h
   obtain ⟨v, e1, r⟩ := E.2 i d q
   exact ⟨v, e1, Zab.ok h S r⟩
theorem Zi {i j} : C3 X (.Constant (.int i) j pos) (eC (.int i)) := Zl9.imp fun σ H Q ⟨ι, M, env, S, E, h⟩ => Zab.ok h S Rep.int
theorem Zm6 {i j} : C3 X (.Constant (.bool i) j pos) (eC (.bl i)) := Zm8.imp fun σ H Q ⟨ι, M, env, S, E, h⟩ => Zab.ok h S Rep.bl
theorem Zar {x : Str} {cs : List Nat} {j} (hx : x = ⟨cs.toArray⟩ := by decide +kernel) : C3 X (.Constant (.str x) j pos) (eC (.str cs)) := Zmk.imp fun σ H Q ⟨ι, M, env, S, E, h⟩ => by
 subst hx
 exact Zab.ok h S Rep.str
theorem Zy {op : Operator} {q : D → D → Store → R3 D} (ho : OpR X (binaryOp op) (r2 X.K q)) (ha : C3 X a f) (hb : C3 X b g) : C3 X (.BinOp a op b pos) (e2 q f g) := (Zne ho ha hb).imp Zgb
theorem ZkW {op : UnaryOp} {q : D → Store → R3 D} (ho : UnR X (unaryOp op) (r1 X.K q)) (ha : C3 X a f) : C3 X (.UnaryOp op a pos) (e1 q f) := (Zm0 ho ha).imp Zl1
theorem Zid {op : CmpOp} {q : D → D → Store → R3 D} (ho : OpR X (compareOp op) (r2 X.K q)) (ha : C3 X a f) (hb : C3 X b g) (hm : behindInMarks op b = false := by rfl) : C3 X (.Compare a [op] [b] pos) (e2 q f g) := (Zks ho ha hb hm).imp Zgb
theorem Zfo {K : PySem.W.Frag} {H : Hp} {ι : List Addr} {Q : Bool → Hp → Prop} {r : R3 D} (h : Zfc K H ι Q r) : Zab K H ι (fun x H' => ∃ k, x = .bl k ∧ Q k H') r := by
 cases r with
 | ok d M =>
  cases d with
  | bl b => exact fun v H' ι' e S r => ⟨b, r.bl_inv, h H' ι' e S⟩
  | _ => exact h.elim
 | exc x M => exact h.elim
 | bad => exact h.elim
theorem ZlR (h : C3 X e f) (he : ∀ whole, isTrue e X.env whole = (do let v ← whole; standAt e.pos; holding [v] (truthy v)) := by intro _; rfl) : CT X e f := (Zms h he).imp fun σ H Q ⟨ι, M, env, S, E, h⟩ => ⟨ι, M, env, S, E, Zfo h⟩
theorem Zao {op : CmpOp} {q : D → D → Store → R3 D} (ho : OpR X (compareOp op) (r2 X.K q)) (ha : C3 X a f) (hb : C3 X b g) (hm : behindInMarks op b = false := by rfl) : CT X (.Compare a [op] [b] pos) (e2 q f g) :=
 (Zk9 ho ha hb hm).imp fun σ H Q ⟨ι, M, env, S, E, h⟩ => Zgb σ H _ ⟨ι, M, env, S, E, Zfo h⟩
end
end L3
namespace L3
open PySem PySem.Spec PyProof.Rows L2
section
variable {X : Cx} {a b c e o : Expr} {es rest : List Expr} {pos p : Pos} {f g h : E3} {gl : EL3}
def CW (X : Cx) (e : Expr) (f : E3) : Prop := PW X e (tTf X.K f)
theorem CW.ct (h : CW X e f) : CT X e f := PW.pt h
theorem PW.imp {t t' : TT} (h : PW X e t) (i : ∀ σ H Q, t' σ H Q → t σ H Q) : PW X e t' := fun wh pins s σ H Q I q => h wh pins s σ H Q I (i σ H Q q)
theorem Zev (ha : CT X a f) : CW X (.BoolOp .And [a] pos) f := ZkL ha
theorem Zju (ha : CT X a f) : CW X (.BoolOp .Or [a] pos) f := ZmK ha
theorem Zf1 (ha : CT X a f) (hb : CW X (.BoolOp .And (b :: rest) pos) g) : CW X (.BoolOp .And (a :: b :: rest) pos) (ZdC f g) := PW.imp (ZmL ha hb) fun σ H Q ⟨ι, M, env, S, E, h⟩ => by
 obtain ⟨d, M1, e1, h⟩ := Zfc.bind h
 refine ⟨ι, M, env, S, E, ?_⟩
 rw [e1]
 cases d with
 | bl k =>
  intro H1 ι1 x1 S1
  cases k with
  | true => rw [if_pos rfl]; exact ⟨ι1, M1, env, S1, E.mono x1, h.up x1⟩
  | false => rw [if_neg (by decide)]; exact h H1 ι1 x1 S1
 | _ => exact h.elim
theorem Zlr (ha : CT X a f) (hb : CW X (.BoolOp .Or (b :: rest) pos) g) : CW X (.BoolOp .Or (a :: b :: rest) pos) (eOr f g) := PW.imp (Znx ha hb) fun σ H Q ⟨ι, M, env, S, E, h⟩ => by
 obtain ⟨d, M1, e1, h⟩ := Zfc.bind h
 refine ⟨ι, M, env, S, E, ?_⟩
 rw [e1]
 cases d with
 | bl k =>
  intro H1 ι1 x1 S1
  cases k with
  | false => rw [if_neg (by decide)]; exact ⟨ι1, M1, env, S1, E.mono x1, h.up x1⟩
  | true => rw [if_pos rfl]; exact h H1 ι1 x1 S1
 | _ => exact h.elim
theorem Zoz (hc : CT X c f) (ha : C3 X a g) (hb : C3 X b h) : C3 X (.IfExp c a b pos) (eIf f g h) := (ZjT hc ha hb).imp fun σ H Q ⟨ι, M, env, S, E, h⟩ => by
 obtain ⟨d, M1, e1, h⟩ := Zab.bind h
 refine ⟨ι, M, env, S, E, ?_⟩
 rw [e1]
 cases d with
 | bl k =>
  intro H1 ι1 x1 S1
  cases k with
  | true => rw [if_pos rfl]; exact ⟨ι1, M1, env, S1, E.mono x1, h.up x1⟩
  | false => rw [if_neg (by decide)]; exact ⟨ι1, M1, env, S1, E.mono x1, h.up x1⟩
 | _ => exact h.elim
theorem Zk : CA X [] Ze := ZmD.imp fun σ H Q ⟨ι, M, env, S, E, h⟩ => h [] H ι Ext.refl S Zm.nil
theorem Zc (ha : C3 X e f) (hr : CA X es gl) (hs : starEach (e :: es) X.env = (false, eval e X.env) :: starEach es X.env := by rfl) : CA X (e :: es) (Za f gl) := (Zky ha hr hs).imp fun σ H Q ⟨ι, M, env, S, E, h⟩ => by
 obtain ⟨d, M1, e1, h⟩ := ZiE.bind h
 obtain ⟨ds, M2, e2, h⟩ := ZiE.bind h
 refine ⟨ι, M, env, S, E, ?_⟩
 rw [e1]
 intro v H1 ι1 x1 S1 r1
 refine ⟨ι1, M1, env, S1, E.mono x1, ?_⟩
 rw [e2]
 intro vs H2 ι2 x2 S2 r2
 exact h (v :: vs) H2 ι2 (x1.trans x2) S2 (Zm.cons (r1.mono x2) r2)
theorem ZbI {x1} (h : CA X es gl) : C3 X (.Tuple es x1 pos) (ZaU gl) := (ZmH h).imp fun σ H Q ⟨ι, M, env, S, E, h⟩ => by
 obtain ⟨ds, M1, e1, h⟩ := Zab.bind h
 refine ⟨ι, M, env, S, E, ?_⟩
 rw [e1]
 intro vs H1 ι1 x1 S1 r1
 by_cases hz : ds.length ≤ SZ
 ·rw [if_pos hz] at h
  refine ⟨by rw [r1.length]; exact Nat.le_trans hz Zbe, fun p hp => ?_⟩
  obtain ⟨x2, S2, r2⟩ := S1.tupl hp r1
  exact h _ _ _ (x1.trans x2) S2 r2
 ·rw [if_neg hz] at h; exact h.elim
theorem Ze6 (h : CA X es gl) : C3 X (.List es pos) (Zgk gl) := (Zmj h).imp fun σ H Q ⟨ι, M, env, S, E, h⟩ => by
 obtain ⟨ds, M1, e1, h⟩ := Zab.bind h
 refine ⟨ι, M, env, S, E, ?_⟩
 rw [e1]
 intro vs H1 ι1 x1 S1 r1
 by_cases hz : ds.length ≤ SZ
 ·rw [if_pos hz] at h
  refine ⟨by rw [r1.length]; exact Nat.le_trans hz Zbe, fun p hp => ?_⟩
  obtain ⟨x2, S2, r2⟩ := S1.lst hp r1
  exact h _ _ _ (x1.trans x2) S2 r2
 ·rw [if_neg hz] at h; exact h.elim
theorem Zj8 {K : PySem.W.Frag} {q : List D → Store → R3 D} (σ : St) (H : Hp) (Q : VK) (h : tOf K (Zan q gl) σ H Q) : tCB (rB K q) (tAf K gl) σ H Q := by
 obtain ⟨ι, M, env, S, E, h⟩ := h
 obtain ⟨ds, M1, e1, h⟩ := Zab.bind h
 refine ⟨ι, M, env, S, E, ?_⟩
 rw [e1]
 intro vs H1 ι1 x1 S1 r1
 exact ⟨ι1, M1, ds, S1, r1, h.up x1⟩
theorem Zcw {x : Str} {id : String} {q : List D → Store → R3 D} (hc : ZaN X (.builtin id) (rB X.K q)) (hm : X.mg x = none) (hv : bootBuiltins x = some (.builtin id)) (ha : CA X (e :: es) gl) (hg : Gl X x := by rfl) (hn : x ≠ "__name__" := by decide) (hdb : (x == ("__debug__" : Str)) = false := by decide)
  (he : starEach (e :: es) X.env = (false, eval e X.env) :: starEach es X.env := by rfl) (hpl : (backTo pos (starEach es X.env)).any (·.1) = false := by rfl) : C3 X (.Call (.Name x p) (e :: es) [] pos) (Zan q gl) := (ZjL hc hg hm hv ha hn hdb he hpl).imp Zj8
theorem Zdd {x : Str} {T : String} {q : List D → Store → R3 D} (hc : ZaN X (.type T) (rB X.K q)) (hm : X.mg x = none) (hv : bootBuiltins x = some (.type T)) (ha : CA X (e :: es) gl) (hg : Gl X x := by rfl) (hn : x ≠ "__name__" := by decide) (hdb : (x == ("__debug__" : Str)) = false := by decide)
  (he : starEach (e :: es) X.env = (false, eval e X.env) :: starEach es X.env := by rfl) (hpl : (backTo pos (starEach es X.env)).any (·.1) = false := by rfl) : C3 X (.Call (.Name x p) (e :: es) [] pos) (Zan q gl) := (ZiV hc hg hm hv ha hn hdb he hpl).imp Zj8
theorem Zad (hr : IxR X (r2 X.K Zg)) (ha : C3 X a f) (hb : C3 X b g) (hs : Zie b := by exact fun _ _ => rfl) : C3 X (.Subscript a b pos) (e2 Zg f g) := (Zni hr ha hb hs).imp Zgb
theorem Zim : CO X none ZeA := ZkB.imp fun σ H Q ⟨ι, M, env, S, E, h⟩ => h H ι Ext.refl S
theorem Zit (h : C3 X e f) : CO X (some e) (ZeY f) := (Zk0 h).imp fun σ H Q ⟨ι, M, env, S, E, h⟩ => by
 obtain ⟨d, M1, e1, h⟩ := Zkb.bind h
 refine ⟨ι, M, env, S, E, ?_⟩
 rw [e1]
 intro v H1 ι1 x1 S1 r1
 cases d with
 | int i => exact ⟨i, r1.int_inv, h H1 ι1 x1 S1⟩
 | _ => exact h.elim
theorem ZnJ {lo hi : Option Expr} {ol oh : EO3} {p2 : Pos} (hr : SlR X (rS X.K)) (he : C3 X e f) (hl : CO X lo ol) (hu : CO X hi oh) : C3 X (.Subscript e (.Slice lo hi none p2) pos) (eSl f ol oh) := (ZjC hr he hl hu).imp fun σ H Q ⟨ι, M, env, S, E, h⟩ => by
 obtain ⟨d, M1, e1, h⟩ := Zab.bind h
 obtain ⟨l, M2, e2, h⟩ := Zab.bind h
 obtain ⟨u, M3, e3, h⟩ := Zab.bind h
 refine ⟨ι, M, env, S, E, ?_⟩
 rw [e1]
 intro v H1 ι1 x1 S1 r1
 refine ⟨ι1, M1, env, S1, E.mono x1, ?_⟩
 rw [e2]
 intro H2 ι2 x2 S2
 refine ⟨ι2, M2, env, S2, (E.mono x1).mono x2, ?_⟩
 rw [e3]
 intro H3 ι3 x3 S3
 exact ⟨ι3, M3, d, S3, (r1.mono x2).mono x3, ((h.up x1).up x2).up x3⟩
theorem ZaL : CSs X [] Zv := ZkH.imp fun D σ H ⟨ι, M, env, S, E, h⟩ => h σ H ι Ext.refl S E
theorem Zr {st : Stmt} {u : S3} (h : CS X st u) : CSs X [st] u := ZkZ h
theorem Zh {st : Stmt} {sts : List Stmt} {u w : S3} (h1 : CS X st u) (h2 : CSs X sts w) : CSs X (st :: sts) (Zu u w) := (ZjM h1 h2).imp fun D σ H ⟨ι, M, env, S, E, h⟩ => by
 refine ⟨ι, M, env, S, E, ?_⟩
 have h' : Zdt X.K H ι D (match u env M with | .nx env' M' => w env' M' | o => o) := h
 cases q : u env M with
 | nx env' M' => rw [q] at h'; exact fun σ' H' ι' x S' E' => ⟨ι', M', env', S', E', h'.up x⟩
 | _ => rw [q] at h'; exact h'
theorem Zbd {c1 : Expr} {x y : List Stmt} {u w : S3} (hc : CT X c1 f) (ha : CSs X x u) (hb : CSs X y w) : CS X (.If c1 x y pos) (sIf f u w) := (Znc hc ha hb).imp fun D σ H ⟨ι, M, env, S, E, h⟩ => by
 refine ⟨ι, M, env, S, E, ?_⟩
 unfold sIf at h
 cases q : f env M with
 | ok d M1 =>
  rw [q] at h
  cases d with
  | bl k =>
   intro H1 ι1 x1 S1
   cases k with
   | true => rw [if_pos rfl]; exact ⟨ι1, M1, env, S1, E.mono x1, h.up x1⟩
   | false => rw [if_neg (by decide)]; exact ⟨ι1, M1, env, S1, E.mono x1, h.up x1⟩
  | _ => exact h.elim
 | exc x M1 => rw [q] at h; exact h.elim
 | bad => rw [q] at h; exact h.elim
theorem Zaz (h : C3 X e f) : CS X (.Return (some e) pos) (Zah f) := (Zmv h).imp fun D σ H ⟨ι, M, env, S, E, h⟩ => by
 refine ⟨ι, M, env, S, E, ?_⟩
 unfold Zah at h
 cases q : f env M with
 | ok d M1 => rw [q] at h; exact h
 | exc x M1 => rw [q] at h; exact h.elim
 | bad => rw [q] at h; exact h.elim
theorem Zf9 (h : C3 X e f) (hs : swapsWith e none pos.line X.env = pure false := by rfl) : CS X (.Expr e pos) (Zav f) := (ZkF h hs).imp fun D σ H ⟨ι, M, env, S, E, h⟩ => by
 refine ⟨ι, M, env, S, E, ?_⟩
 unfold Zav at h
 cases q : f env M with
 | ok d M1 => rw [q] at h; exact fun v H1 ι1 x1 S1 r1 => h σ H1 ι1 x1 S1 (E.mono x1)
 | exc x M1 => rw [q] at h; exact h.elim
 | bad => rw [q] at h; exact h.elim
theorem Zap (i : Nat) {x : Str} {pos' : Pos} (hN : X.N.Nodup) (he : C3 X e f) (hi : X.N[i]? = some x := by rfl) (hx : Loc X.env.scope x := by first | exact Or.inl rfl | exact Or.inr rfl) (hs : swapsWith e (some (.Name x pos')) pos.line X.env = pure false := by rfl)
  (hf : X.fn x = true ∨ X.env.scope.names.lookup x = some .local := by first | exact .inl rfl | exact .inr rfl) : CS X (.Assign [.Name x pos'] e pos) (Zae i f) := (ZmF hN hi hx he hs hf).imp fun D σ H ⟨ι, M, env, S, E, h⟩ => by
 refine ⟨ι, M, env, S, E, ?_⟩
 unfold Zae at h
 cases q : f env M with
 | ok d M1 => rw [q] at h; exact fun v H1 ι1 x1 S1 r1 => h _ H1 ι1 x1 S1 ((E.mono x1).set i r1)
 | exc x M1 => rw [q] at h; exact h.elim
 | bad => rw [q] at h; exact h.elim
end
def sp3 (K : PySem.W.Frag) (n : Nat) (F : F3) : Sp := fun vs H Q _ => ∃ ι M ds, Zx K H ι M ∧ Zm K H ι ds vs ∧ ds.length = n ∧ Zab K H ι Q (F ds M)
section
variable {K : PySem.W.Frag} {H H' : Hp} {ι ι' : List Addr} {M M' : Store}
mutual
theorem Rep.below : ∀ {d : D} {v : V}, Rep K H ι d v → L3.below ι.length d = true
 | .non, _, _ => rfl
 | .bl _, _, _ => rfl
 | .int _, _, _ => rfl
 | .str _, _, _ => rfl
 | .tup ds, _, h => by
  obtain ⟨a, vs, _, _, r⟩ := h.tup_inv
  simp only [L3.below]
  exact Zm.belowL (ds := ds) r
 | .scr ds, _, h => by
  obtain ⟨a, vs, _, _, r⟩ := h.scr_inv
  simp only [L3.below]
  exact Zm.belowL (ds := ds) r
 | .ref n, _, h => by
  obtain ⟨a, q, _⟩ := h.ref_inv
  simp only [L3.below, decide_eq_true_eq]
  exact (List.getElem?_eq_some_iff.mp q).1
theorem Zm.belowL : ∀ {ds : List D} {vs : List V}, Zm K H ι ds vs → L3.belowL ι.length ds = true
 | [], _, _ => rfl
 | d :: ds, _, h => by
  obtain ⟨v, ws, _, r, q⟩ := h.cons_inv
  simp only [L3.belowL, Bool.and_eq_true]
  exact ⟨Rep.below (d := d) r, Zm.belowL (ds := ds) q⟩
end
mutual
theorem Rep.cut {n : Nat} : ∀ {d : D} {v : V}, L3.below n d = true → Rep K H ι d v → Rep K H (ι.take n) d v
 | .non, _, _, h => by simpa [Rep] using h
 | .bl _, _, _, h => by simpa [Rep] using h
 | .int _, _, _, h => by simpa [Rep] using h
 | .str _, _, _, h => by simpa [Rep] using h
 | .tup ds, _, hb, h => by
  obtain ⟨a, vs, rfl, s, r⟩ := h.tup_inv
  exact Rep.tup s (Zm.cut (ds := ds) (by simpa only [L3.below] using hb) r)
 | .scr ds, _, hb, h => by
  obtain ⟨a, vs, rfl, s, r⟩ := h.scr_inv
  simp only [Rep]
  exact ⟨a, vs, rfl, s, Zm.cut (ds := ds) (by simpa only [L3.below] using hb) r⟩
 | .ref k, _, hb, h => by
  obtain ⟨a, q, rfl⟩ := h.ref_inv
  refine Rep.ref ?_
  rw [List.getElem?_take_of_lt (by simpa [L3.below] using hb)]
  exact q
theorem Zm.cut {n : Nat} : ∀ {ds : List D} {vs : List V}, L3.belowL n ds = true → Zm K H ι ds vs → Zm K H (ι.take n) ds vs
 | [], _, _, h => by simpa [Zm] using h
 | d :: ds, _, hb, h => by
  obtain ⟨v, ws, rfl, r, q⟩ := h.cons_inv
  simp only [L3.belowL, Bool.and_eq_true] at hb
  exact Zm.cons (Rep.cut (d := d) hb.1 r) (Zm.cut (ds := ds) hb.2 q)
end
theorem Zdc.below {m : MO} {a : Addr} (h : Zdc K H ι m a) : Zec ι.length m = true := by
 cases m with
 | lst xs => obtain ⟨vs, _, r⟩ := h; exact r.belowL
 | dct kvs => obtain ⟨ws, _, _, r⟩ := h; exact r.belowL
 | fdct kvs => obtain ⟨ws, _, _, r⟩ := h; exact r.belowL
theorem Zdc.cut {n : Nat} {m : MO} {a : Addr} (hb : Zec n m = true) (h : Zdc K H ι m a) : Zdc K H (ι.take n) m a := by
 cases m with
 | lst xs => obtain ⟨vs, q, r⟩ := h; exact ⟨vs, q, r.cut hb⟩
 | dct kvs => obtain ⟨ws, q, r1, r2⟩ := h; exact ⟨ws, q, r1, r2.cut hb⟩
 | fdct kvs => obtain ⟨ws, q, r1, r2⟩ := h; exact ⟨ws, q, r1, r2.cut hb⟩
theorem Zx.cut {n : Nat} (S : Zx K H ι M) (h : (M.take n).all (Zec n) = true) : Zx K H (ι.take n) (M.take n) := by
 refine ⟨by simp [S.len], S.nd.sublist (List.take_sublist _ _), fun k m a h1 h2 => ?_⟩
 have hk : k < n := by
  have := (List.getElem?_eq_some_iff.mp h1).1
  rw [List.length_take] at this
  omega
 have hb : Zec n m = true := List.all_eq_true.mp h m (List.mem_of_getElem? h1)
 rw [List.getElem?_take_of_lt hk] at h1 h2
 exact (S.obj k m a h1 h2).cut hb
theorem Zic {Q : VK} {d : D} {v : V} (S : Zx K H ι M) (x : Ext K H ι H' ι') (S' : Zx K H' ι' M') (r : Rep K H' ι' d v) (h : Zab K H ι Q (Zbn M d M')) : Q v H' := by
 unfold Zbn at h
 split at h
 ·rename_i c
  simp only [Bool.and_eq_true, Bool.or_eq_true, decide_eq_true_eq] at c
  have hall : (M'.take M.length).all (Zec M.length) = true := by
   rcases c.2 with e | e
   ·rw [e, List.all_eq_true]
    intro m hm
    obtain ⟨n, hn⟩ := List.getElem?_of_mem hm
    obtain ⟨a, q, w⟩ := S.at hn
    rw [← S.len]
    exact w.below
   ·exact e
  refine h v H' (ι'.take M.length) ⟨x.tup, x.scr, fun n a q => ?_, x.frz⟩ (S'.cut hall) (r.cut c.1)
  rw [List.getElem?_take_of_lt (by rw [← S.len]; exact (List.getElem?_eq_some_iff.mp q).1)]
  exact x.pre n a q
 ·exact h v H' ι' x S' r
end
theorem Za0.start {K : PySem.W.Frag} {H : Hp} {ι : List Addr} {ds : List D} {vs : List V} (r : Zm K H ι ds vs) (n : Nat) : Za0 K H ι (ds.map some ++ List.replicate n none) (vs.map some ++ List.replicate n none) := by
 refine ⟨by simp [r.length], fun i d h => ?_⟩
 by_cases hi : i < ds.length
 ·rw [List.getElem?_append_left (by simpa using hi), List.getElem?_map] at h
  cases q : ds[i]? with
  | none => rw [q] at h; simp at h
  | some d' =>
   rw [q] at h
   simp at h
   subst h
   obtain ⟨v, e, z⟩ := r.get q
   refine ⟨v, ?_, z⟩
   rw [List.getElem?_append_left (by simpa [r.length] using hi), List.getElem?_map, e]
   rfl
 ·rw [List.getElem?_append_right (by simpa using hi), List.getElem?_replicate] at h
  split at h <;> simp at h
section
variable {P : Program} {w : World} {K : PySem.W.Frag} {mg : Str → Option Value} {base : Heap}
theorem fn3 {x qual : Str} {st : Stmt} {f : Addr} {fd : FuncData} {N ps : List Str} {k : Nat} {body : S3} (F : Fun K x qual st f fd) (S : ZaE N ps (Zq st))
  (hb : ∀ (cdv : Value) (A : Around) (outer : List Env) (s : Shared) (H : Hp) (E : XK), Zb3 k (A.deeper (envOfC qual (Zq st) s.heap.objs.size f cdv)) → CSs (ZgY CX0 P w K mg base N qual (Zq st) f cdv A outer s H E).nox (Zat st) body) :
  ZeD P w K mg base CX0 (k + 1) f fd ps (sp3 K ps.length (mkF ps.length N.length body)) := by
 refine F.ok S (fun vs H Q E ⟨ι, M, ds, _, r, l, _⟩ => by rw [r.length, l]) fun cdv A outer s H vs Q E hr ⟨ι, M, ds, SR, r, l, h⟩ => ?_
 refine ⟨_, hb cdv A outer s H E hr, ι, M, ds.map some ++ List.replicate (N.length - ps.length) none, SR, ?_, ?_⟩
 ·have e : L2.start N vs = vs.map some ++ List.replicate (N.length - ps.length) none := by unfold L2.start; rw [r.length, l]
  rw [e]
  exact Za0.start r _
 ·unfold mkF at h
  rw [if_pos l] at h
  cases q : body (ds.map some ++ List.replicate (N.length - ps.length) none) M with
  | nx env' M' => rw [q] at h; exact fun σ' H' ι' x S' E' => Zic SR x S' Rep.non h
  | rt d M' => rw [q] at h; exact fun v H' ι' x S' r' => Zic SR x S' r' h
  | bk _ _ => rw [q] at h; exact h.elim
  | ct _ _ => rw [q] at h; exact h.elim
  | exc _ _ => rw [q] at h; exact h.elim
  | bad => rw [q] at h; exact h.elim
def Fn3 (P : Program) (w : World) (K : PySem.W.Frag) (mg : Str → Option Value) (base : Heap) (k : Nat) (x : Str) (ps : List Str) (F : F3) : Prop :=
 (∀ ds M, ds.length ≠ ps.length → F ds M = .bad) ∧ ∃ f fd, mg x = some (.ref f) ∧ PySem.W.keepIn K (.ref f) = true ∧ Binds K fd ps [] ∧ ZeD P w K mg base CX0 k f fd ps (sp3 K ps.length F)
def ZaR (K : PySem.W.Frag) (mg : Str → Option Value) (x : Str) (st : Stmt) (ps : List Str) : Prop := ∃ f fd, Fun K x x st f fd ∧ mg x = some (.ref f) ∧ Binds K fd ps []
theorem Fn3.of {x : Str} {st : Stmt} {N ps : List Str} {k : Nat} {body : S3} (d : ZaR K mg x st ps) (S : ZaE N ps (Zq st))
  (hb : ∀ (f : Addr) (cdv : Value) (A : Around) (outer : List Env) (s : Shared) (H : Hp) (E : XK), Zb3 k (A.deeper (envOfC x (Zq st) s.heap.objs.size f cdv)) → CSs (ZgY CX0 P w K mg base N x (Zq st) f cdv A outer s H E).nox (Zat st) body) :
  Fn3 P w K mg base (k + 1) x ps (mkF ps.length N.length body) := by
 obtain ⟨f, fd, F, m, bi⟩ := d
 exact ⟨fun ds M h => if_neg h, f, fd, m, F.kp, bi, fn3 F S (hb f)⟩
end
section
variable {X : Cx} {e : Expr} {es : List Expr} {pos p : Pos} {gl : EL3} {x : Str} {k : Nat} {ps : List Str} {F : F3}
theorem Zbl (G : Fn3 X.prog X.w X.K X.mg X.base k x ps F) (hr : Zb3 k X.A) (ha : CA X (e :: es) gl) (hg : Gl X x := by rfl) (hdb : (x == ("__debug__" : Str)) = false := by decide)
  (he : starEach (e :: es) X.env = (false, eval e X.env) :: starEach es X.env := by rfl) (hpl : (backTo pos (starEach es X.env)).any (·.1) = false := by rfl) : C3 X (.Call (.Name x p) (e :: es) [] pos) (Zam F gl) := by
 obtain ⟨hn, f, fd, m, kp, bi, ok⟩ := G
 refine (Zla ok hr hg m kp bi .nil Znb ha hdb he hpl).imp fun σ H Q ⟨ι, M, env, S, E, h⟩ => ?_
 obtain ⟨ds, M1, e1, h⟩ := Zab.bind h
 refine ⟨ι, M, env, S, E, ?_⟩
 rw [e1]
 intro vs H1 ι1 x1 S1 r1
 have hl : ds.length = ps.length := by
  refine Decidable.byContradiction fun q => ?_
  rw [hn ds M1 q] at h
  exact h.elim
 exact ⟨ι1, M1, ds, S1, by rw [List.append_nil]; exact r1, hl, h.up x1⟩
end
end L3
namespace L3
open PySem PySem.Spec PyProof.Rows L2
def tGf (K : PySem.W.Frag) (g : G3) : TG := fun v σ H Q => ∃ ι M env d env', Zx K H ι M ∧ Za0 K H ι env σ ∧ Rep K H ι d v ∧ g d env = some env' ∧ ∀ σ', Za0 K H ι env' σ' → Q σ' H
def tGs (K : PySem.W.Frag) (is : List Nat) : TGs := fun vs σ H Q => ∃ ι M env ds env', Zx K H ι M ∧ Za0 K H ι env σ ∧ Zm K H ι ds vs ∧ bindAll is ds env = some env' ∧ ∀ σ', Za0 K H ι env' σ' → Q σ' H
def CG (X : Cx) (tg : Expr) (g : G3) : Prop := PG X tg (tGf X.K g)
def CGs (X : Cx) (tg : List Expr) (is : List Nat) : Prop := PGs X tg (tGs X.K is)
theorem PG.imp {X : Cx} {e : Expr} {t t' : TG} (h : PG X e t) (i : ∀ v σ H Q, t' v σ H Q → t v σ H Q) : PG X e t' := fun pins s σ H v u Q I r q => h pins s σ H v u Q I r (i v σ H Q q)
theorem PGs.imp {X : Cx} {e : List Expr} {t t' : TGs} (h : PGs X e t) (i : ∀ v σ H Q, t' v σ H Q → t v σ H Q) : PGs X e t' := fun pins s σ H v u Q I r q => h pins s σ H v u Q I r (i v σ H Q q)
section
variable {X : Cx} {e : Expr} {es : List Expr} {pos : Pos}
theorem ZcR (i : Nat) {x : Str} (hN : X.N.Nodup) (hi : X.N[i]? = some x := by rfl) (hx : Loc X.env.scope x := by first | exact Or.inl rfl | exact Or.inr rfl)
  (hf : X.fn x = true ∨ X.env.scope.names.lookup x = some .local := by first | exact .inl rfl | exact .inr rfl) : CG X (.Name x pos) (Zck i) := PG.imp (Zip hN hi hx hf) fun v σ H Q ⟨ι, M, env, d, env', S, E, r, q, h⟩ => by
 cases q
 exact h _ (E.set i r)
theorem Zf7 : CGs X [] [] := PGs.imp ZkM fun v σ H Q ⟨ι, M, env, ds, env', S, E, r, q, h⟩ => by
 cases ds with
 | nil => cases q; exact ⟨r.nil_inv, h σ E⟩
 | cons d ds => cases q
theorem Zbu (i : Nat) {is : List Nat} {x : Str} (hN : X.N.Nodup) (ht : CGs X es is) (hi : X.N[i]? = some x := by rfl) (hx : Loc X.env.scope x := by first | exact Or.inl rfl | exact Or.inr rfl)
  (hf : X.fn x = true ∨ X.env.scope.names.lookup x = some .local := by first | exact .inl rfl | exact .inr rfl) (hs : (assignEach (.Name x pos :: es) X.env).map (·.2) = assign (.Name x pos) X.env :: (assignEach es X.env).map (·.2) := by rfl) :
  CGs X (.Name x pos :: es) (i :: is) := PGs.imp (Zjx (Zip hN hi hx hf) ht hs) fun v σ H Q ⟨ι, M, env, ds, env', S, E, r, q, h⟩ => by
 cases ds with
 | nil => cases q
 | cons d ds =>
  obtain ⟨v, ws, rfl, r1, r2⟩ := r.cons_inv
  exact ⟨v, ws, rfl, ι, M, env.set i (some d), ds, env', S, E.set i r1, r2, q, h⟩
theorem ZhB {is : List Nat} {k : Nat} (hc : X.calm = true) (h : CGs X es is) (hl : es.length = is.length := by rfl) (hn : (assignEach es X.env).length = is.length := by rfl) (hst : (assignEach es X.env).findIdx? (·.1) = none := by rfl) : CG X (.Tuple es k pos) (ZdM is) :=
 PG.imp (Zme (n := is.length) hc h hn hst) fun v σ H Q ⟨ι, M, env, d, env', S, E, r, q, h⟩ => by
  cases d with
  | tup ds =>
   obtain ⟨a, vs, rfl, s, r⟩ := r.tup_inv
   have hlen : ∀ (is : List Nat) (ds : List D) (env env' : Zal), bindAll is ds env = some env' → ds.length = is.length := by
    intro is
    induction is with
    | nil => intro ds env env' h; cases ds with | nil => rfl | cons d ds => cases h
    | cons i is ih => intro ds env env' h; cases ds with | nil => cases h | cons d ds => simp [ih ds _ _ h]
   exact ⟨a, vs, rfl, s, by rw [r.length]; exact hlen _ _ _ _ q, ι, M, env, ds, env', S, E, r, q, h⟩
  | _ => cases q
end
def ZhT (K : PySem.W.Frag) (H : Hp) (ι : List Addr) (it : It3) (J : It) : Prop := ∀ (i : Nat) H2 ι2 M2, Ext K H ι H2 ι2 → Zx K H2 ι2 M2 → locked it M2 = true →
 (∀ d, it.items[i]? = some d → J.go i H2 ∧ ∀ x H3, J.yld i H2 x H3 → H3 = H2 ∧ Rep K H2 ι2 d x) ∧ (i = it.items.length → J.stop i H2)
def Zhj (K : PySem.W.Frag) (H : Hp) (ι : List Addr) (R : It → Hp → Prop) (r : R3 It3) : Prop := match r with
 | .ok it M' => ∀ J H' ι', Ext K H ι H' ι' → Zx K H' ι' M' → ZhT K H' ι' it J → R J H'
 | _ => False
def tIf (K : PySem.W.Frag) (g : I3) : TI := fun σ H R => ∃ ι M env, Zx K H ι M ∧ Za0 K H ι env σ ∧ Zhj K H ι R (g env M)
def CI (X : Cx) (tg e : Expr) (g : I3) : Prop := PI X tg e (tIf X.K g)
theorem PI.imp {X : Cx} {tg e : Expr} {t t' : TI} (h : PI X tg e t) (i : ∀ σ H Q, t' σ H Q → t σ H Q) : PI X tg e t' := fun pins s σ H Q I q => h pins s σ H Q I (i σ H Q q)
theorem PI.or {X : Cx} {tg e : Expr} {t t' : TI} (h : PI X tg e t) (h' : PI X tg e t') : PI X tg e (fun σ H R => t σ H R ∨ t' σ H R) := fun pins s σ H Q I q => q.elim (h pins s σ H Q I) (h' pins s σ H Q I)
theorem Zhj.bind {K : PySem.W.Frag} {H : Hp} {ι : List Addr} {α : Type} {Q : It → Hp → Prop} {r : R3 α} {k : α → Store → R3 It3} (h : Zhj K H ι Q (r.bind k)) : ∃ a M, r = .ok a M ∧ Zhj K H ι Q (k a M) := by
 cases r with
 | ok a M => exact ⟨a, M, rfl, h⟩
 | exc x M => exact h.elim
 | bad => exact h.elim
section
variable {K : PySem.W.Frag} {H : Hp} {ι : List Addr}
end
section
variable {X : Cx} {tg e a b : Expr} {pos p : Pos} {f g : E3}
theorem Zlw (h : C3 X e f) (hs : PI X tg e (fun σ H R => tOf X.K f σ H fun x H1 => ∃ z : Str, x = .str z ∧ z.length ≤ SZ ∧ ∀ J, (∀ ι, ZhT X.K H1 ι ⟨z.cps.toList.map fun c => .str [c], none⟩ J) → R J H1)) : CI X tg e (Zhw f) :=
 PI.imp (PI.or (Zl2 h) (PI.or (Zlb h) hs)) fun σ H R ⟨ι, M, env, S, E, h⟩ => by
  obtain ⟨d, M1, e1, h⟩ := Zhj.bind h
  cases d with
  | tup ds =>
   refine .inl ⟨ι, M, env, S, E, ?_⟩
   rw [e1]
   intro v H1 ι1 x1 S1 r1
   obtain ⟨a, vs, rfl, s, r⟩ := r1.tup_inv
   refine ⟨a, rfl, ⟨vs, s⟩, h _ H1 ι1 x1 S1 ?_⟩
   intro i H2 ι2 M2 x S2 _
   refine ⟨fun d hd => ?_, fun hl => ⟨vs, x.tup _ _ s, by rw [r.length, hl]; exact Nat.le_refl _⟩⟩
   obtain ⟨v, hv, rv⟩ := r.get hd
   refine ⟨⟨vs, v, x.tup _ _ s, hv⟩, fun y H3 hy => ⟨hy.1, ?_⟩⟩
   have e := hy.2 vs (x.tup _ _ s)
   rw [hv] at e
   cases e
   exact rv.mono x
  | scr ds =>
   refine .inr (.inl ⟨ι, M, env, S, E, ?_⟩)
   rw [e1]
   intro v H1 ι1 x1 S1 r1
   obtain ⟨a, vs, rfl, s, r⟩ := r1.scr_inv
   refine ⟨a, rfl, ⟨vs, s.sq⟩, h _ H1 ι1 x1 S1 ?_⟩
   intro i H2 ι2 M2 x S2 _
   refine ⟨fun d hd => ?_, fun hl => ⟨vs, (x.scr _ _ s).sq, by rw [r.length, hl]; exact Nat.le_refl _⟩⟩
   obtain ⟨v, hv, rv⟩ := r.get hd
   refine ⟨⟨vs, v, (x.scr _ _ s).sq, hv⟩, fun y H3 hy => ⟨hy.1, ?_⟩⟩
   have e := hy.2 vs (x.scr _ _ s).sq
   rw [hv] at e
   cases e
   exact rv.mono x
  | ref n =>
   refine .inr (.inl ⟨ι, M, env, S, E, ?_⟩)
   rw [e1]
   intro v H1 ι1 x1 S1 r1
   cases hm : M1[n]? with
   | none => simp only [hm] at h; exact h.elim
   | some o =>
    cases o with
    | dct kvs => simp only [hm] at h; exact h.elim
    | fdct kvs => simp only [hm] at h; exact h.elim
    | lst ds =>
     simp only [hm] at h
     obtain ⟨a, ha, rfl⟩ := r1.ref_inv
     obtain ⟨vs, q, r⟩ := S1.obj n _ a hm ha
     refine ⟨a, rfl, ⟨vs, SqL.of q⟩, h _ H1 ι1 x1 S1 ?_⟩
     intro i H2 ι2 M2 x S2 lk
     have lk' : M2[n]? = some (.lst ds) := of_decide_eq_true lk
     obtain ⟨vs2, q2, r2⟩ := S2.obj n _ a lk' (x.pre _ _ ha)
     refine ⟨fun d hd => ?_, fun hl => ⟨vs2, SqL.of q2, by rw [r2.length, hl]; exact Nat.le_refl _⟩⟩
     obtain ⟨v, hv, rv⟩ := r2.get hd
     refine ⟨⟨vs2, v, SqL.of q2, hv⟩, fun y H3 hy => ⟨hy.1, ?_⟩⟩
     have e := hy.2 vs2 (SqL.of q2)
     rw [hv] at e
     cases e
     exact rv
  | str z =>
   refine .inr (.inr ⟨ι, M, env, S, E, ?_⟩)
   rw [e1]
   intro v H1 ι1 x1 S1 r1
   have hv := r1.str_inv
   subst hv
   by_cases hz : z.length ≤ SZ
   ·simp only [if_pos hz] at h
    refine ⟨_, rfl, by simpa [Str.length] using hz, fun J hJ => h J H1 ι1 x1 S1 ?_⟩
    simpa using hJ ι1
   ·simp only [if_neg hz] at h; exact h.elim
  | non => exact h.elim
  | bl b => exact h.elim
  | int i => exact h.elim
theorem ZjR {K : PySem.W.Frag} {H : Hp} {ι : List Addr} (lo : Int) (n : Nat) : ZhT K H ι ⟨Zb8 lo n, none⟩ (Itr lo n) := by
 intro i H2 ι2 M2 x S _
 refine ⟨fun d hd => ?_, fun hl => ?_⟩
 ·unfold Zb8 at hd
  rw [List.getElem?_map] at hd
  cases q : (List.range n)[i]? with
  | none => rw [q] at hd; cases hd
  | some k =>
   rw [q] at hd
   obtain ⟨hi, e⟩ := List.getElem?_eq_some_iff.mp q
   rw [List.getElem_range] at e
   subst e
   have hd' : D.int (lo + (i : Int)) = d := by simpa using hd
   subst hd'
   exact ⟨(by show i < n; simpa using hi), fun y H3 hy => ⟨hy.1, by rw [hy.2]; exact Rep.int⟩⟩
 ·show n ≤ i
  rw [hl]
  simp [Zb8]
theorem Zdh (hm : X.mg "range" = none) (h : C3 X a f) (hg : Gl X "range" := by rfl) (hs : starEach [a] X.env = [(false, eval a X.env)] := by rfl) (hs' : starEach (a :: []) X.env = (false, eval a X.env) :: starEach [] X.env := by rfl) : CI X tg (.Call (.Name "range" p) [a] [] pos) (ZbV f) :=
 PI.imp (Zi7 hg hm (Zc h Zk hs') hs) fun σ H R ⟨ι, M, env, S, E, h⟩ => by
  obtain ⟨d, M1, e1, h⟩ := Zhj.bind h
  refine ⟨ι, M, env, S, E, ?_⟩
  have e2 : Za f Ze env M = .ok [d] M1 := by unfold Za; rw [e1]; rfl
  rw [e2]
  intro vs H1 ι1 x1 S1 r1
  obtain ⟨v, ws, rfl, r, q⟩ := r1.cons_inv
  have := q.nil_inv
  subst this
  cases d with
  | int j =>
   have hv := r.int_inv
   subst hv
   by_cases hj : j ≤ 1000000 ∧ -1000000 ≤ j
   ·simp only [if_pos hj] at h
    exact ⟨j, rfl, by omega, by omega, h _ H1 ι1 x1 S1 (ZjR 0 j.toNat)⟩
   ·simp only [if_neg hj] at h; exact h.elim
  | _ => exact h.elim
theorem Zf4 {iter : Expr} {body : List Stmt} {i : I3} {g : G3} {u : S3} (hxe : X.xe = fun _ _ => False) (hc : X.calm = true) (hi : CI X tg iter i) (hg : CG X tg g) (hb : CSs X body u) (hs : ∀ x, foldedSetIterable iter X.env x = pure x := by intro _; rfl) :
  CS X (.For tg iter body [] pos) (Zgq i g u) := (Zjn (by rw [hxe]; exact PassesOwn.never) hc hi hg hb hs).imp fun D σ H ⟨ι, M, env, S, E, h⟩ => by
 unfold Zgq at h
 cases q : i env M with
 | exc x M1 => rw [q] at h; exact h.elim
 | bad => rw [q] at h; exact h.elim
 | ok it M1 =>
  rw [q] at h
  refine ⟨ι, M, env, S, E, ?_⟩
  rw [q]
  intro J H1 ι1 x1 S1 ok
  refine ⟨fun i m σ2 H2 => m = it.items.length - i ∧ i ≤ it.items.length ∧ ∃ ι2 M2 env2, Ext X.K H1 ι1 H2 ι2 ∧ Zx X.K H2 ι2 M2 ∧ Za0 X.K H2 ι2 env2 σ2 ∧ Zdt X.K H2 ι2 D (ZcE it g u (it.items.drop i) env2 M2),
   ⟨_, rfl, Nat.zero_le _, ι1, M1, env, Ext.refl, S1, E.mono x1, Zdt.up x1 h⟩, ?_⟩
  rintro i m σ2 H2 ⟨rfl, hi, ι2, M2, env2, x2, S2, E2, h2⟩
  by_cases hlt : i < it.items.length
  ·have hd : it.items[i]? = some it.items[i] := by simp [hlt]
   rw [List.drop_eq_getElem_cons hlt] at h2
   unfold ZcE at h2
   by_cases lk : locked it M2 = true
   ·rw [if_pos lk] at h2
    obtain ⟨go, yl⟩ := (ok i H2 ι2 M2 x2 S2 lk).1 _ hd
    cases eg : g it.items[i] env2 with
    | none => rw [eg] at h2; exact h2.elim
    | some env3 =>
     rw [eg] at h2
     refine .inr ⟨go, fun σ' H' => ∃ ι3 M3 env4, Ext X.K H2 ι2 H' ι3 ∧ Zx X.K H' ι3 M3 ∧ Za0 X.K H' ι3 env4 σ' ∧ Zdt X.K H' ι3 D (ZcE it g u (it.items.drop (i + 1)) env4 M3),
      fun σ' H' ⟨ι3, M3, env4, x3, S3, E3, h3⟩ => ⟨it.items.length - (i + 1), by omega, rfl, hlt, ι3, M3, env4, x2.trans x3, S3, E3, h3⟩, fun x H' hy => ?_⟩
     obtain ⟨rfl, rx⟩ := yl x H' hy
     refine ⟨ι2, M2, env2, _, env3, S2, E2, rx, eg, fun σ' E' => ⟨ι2, M2, env3, S2, E', ?_⟩⟩
     cases qu : u env3 M2 with
     | nx e' M' => simp only [qu] at h2; exact fun σ' H' ι' x' S' E' => ⟨ι', M', e', x', S', E', h2.up x'⟩
     | ct e' M' => simp only [qu] at h2; exact fun σ' H' ι' x' S' E' => ⟨ι', M', e', x', S', E', h2.up x'⟩
     | bk e' M' => simp only [qu] at h2; exact h2
     | rt d M' => simp only [qu] at h2; exact h2
     | exc x' M' => simp only [qu] at h2; exact h2.elim
     | bad => simp only [qu] at h2; exact h2.elim
   ·rw [if_neg lk] at h2; exact h2.elim
  ·have e0 : i = it.items.length := by omega
   subst e0
   rw [List.drop_length] at h2
   unfold ZcE at h2
   by_cases lk : locked it M2 = true
   ·rw [if_pos lk] at h2
    exact .inl ⟨(ok _ H2 ι2 M2 x2 S2 lk).2 rfl, h2 σ2 H2 ι2 Ext.refl S2 E2⟩
   ·rw [if_neg lk] at h2; exact h2.elim
theorem Zki {c1 : Expr} {body : List Stmt} {u : S3} (hxe : X.xe = fun _ _ => False) (hc : CT X c1 f) (hb : CSs X body u) : CS X (.While c1 body [] pos) (Zhk f u) := (ZjZ (by rw [hxe]; exact PassesOwn.never) hc hb).imp fun D σ H ⟨ι, M, env, S, E, h⟩ => by
 refine ⟨fun m σ2 H2 => ∃ ι2 M2 env2, Zx X.K H2 ι2 M2 ∧ Za0 X.K H2 ι2 env2 σ2 ∧ Zdt X.K H2 ι2 D (Zcx f u m env2 M2), ⟨1000000, ι, M, env, S, E, h⟩, ?_⟩
 rintro m σ2 H2 ⟨ι2, M2, env2, S2, E2, h2⟩
 cases m with
 | zero => exact h2.elim
 | succ m =>
  refine ⟨ι2, M2, env2, S2, E2, ?_⟩
  unfold Zcx at h2
  cases q : f env2 M2 with
  | exc x M1 => rw [q] at h2; exact h2.elim
  | bad => rw [q] at h2; exact h2.elim
  | ok d M1 =>
   rw [q] at h2
   cases d with
   | bl k =>
    cases k with
    | false =>
     intro H3 ι3 x3 S3
     rw [if_neg (by decide)]
     exact h2 σ2 H3 ι3 x3 S3 (E2.mono x3)
    | true =>
     intro H3 ι3 x3 S3
     rw [if_pos rfl]
     refine ⟨fun σ' H' => ∃ ι4 M4 env4, Zx X.K H' ι4 M4 ∧ Za0 X.K H' ι4 env4 σ' ∧ Zdt X.K H' ι4 D (Zcx f u m env4 M4), fun σ' H' q => ⟨m, Nat.lt_succ_self _, q⟩, ι3, M1, env2, S3, E2.mono x3, ?_⟩
     have h3 := Zdt.up x3 h2
     cases qu : u env2 M1 with
     | nx e' M' => simp only [qu] at h3; exact fun σ' H' ι' x' S' E' => ⟨ι', M', e', S', E', h3.up x'⟩
     | ct e' M' => simp only [qu] at h3; exact fun σ' H' ι' x' S' E' => ⟨ι', M', e', S', E', h3.up x'⟩
     | bk e' M' => simp only [qu] at h3; exact h3
     | rt d M' => simp only [qu] at h3; exact h3
     | exc x' M' => simp only [qu] at h3; exact h3.elim
     | bad => simp only [qu] at h3; exact h3.elim
   | _ => exact h2.elim
end
end L3
namespace L3
open PySem PySem.Spec PyProof.Rows L2
theorem ZdD {x y : List Nat} : decide (V.str ⟨x.toArray⟩ = V.str ⟨y.toArray⟩) = (x == y) := by
 by_cases h : x = y
 ·subst h; simp
 ·rw [decide_eq_false (fun e => h (by injection e with e1; injection e1 with e2; simpa using congrArg Array.toList e2))]
  exact (beq_eq_false_iff_ne.mpr h).symm
section
variable {X : Cx}
theorem ZjF : OpR X (binaryOp .Add) (fun x y H Q => ∃ a b ys, x = .ref a ∧ y = .ref b ∧ SqT X.K H a [] ∧ SqT X.K H b ys ∧ Q (.ref b) H) := by
 intro pins s σ H x y v u Q I rx ry h
 obtain ⟨a, b, ys, rfl, rfl, ha, hb, q⟩ := h
 cases rx
 cases ry
 obtain ⟨its, r1, p1, _⟩ := I.tuple ha
 obtain ⟨its2, r2, p2, _⟩ := I.tuple hb
 cases r1
 obtain ⟨⟨cls, dd, data, sl⟩, ho, hc, n, hd⟩ := id p1
 obtain ⟨⟨cls2, dd2, data2, sl2⟩, ho2, hc2, n2, hd2⟩ := id p2
 simp only at hc hd hc2 hd2
 subst hc hd hc2 hd2
 exact concat_meets ⟨_, ho, rfl⟩ ⟨_, ho2, rfl⟩ noFill_tuple_add seq_tuple_add PySem.F.slot_tuple_add PySem.F.entry_tuple_add (PySem.F.args_tuple_add_2 _ _)
   (tuple_addW0 a b _ its2.toArray n n2 dd dd2 sl sl2 (by simp)) ⟨ho, ho2, ⟨.ref b, H, I, rfl, q⟩⟩
theorem Zkl (x y : List Nat) : (⟨x.toArray⟩ : Str) ++ ⟨y.toArray⟩ = ⟨(x ++ y).toArray⟩ := by
 show Str.append _ _ = _
 unfold Str.append
 simp
theorem Zca : OpR X (binaryOp .Add) (r2 X.K Za1) := OpR.imp (OpR.or ZlX (OpR.or Zh4 (OpR.or Zmm (OpR.or ZkD ZjF)))) fun x y H Q ⟨ι, M, a, b, S, ra, rb, h⟩ => by
 cases a with
 | int i => cases b with
  | int j => exact .inl ⟨i, j, ra.int_inv, rb.int_inv, Zab.ok h S Rep.int⟩
  | _ => exact h.elim
 | str x => cases b with
  | str y =>
   simp only [Za1] at h
   split at h
   ·rename_i hz
    refine .inr (.inl ⟨_, _, ra.str_inv, rb.str_inv, ?_, ?_⟩)
    ·have := Zbe
     simp only [Str.length, List.size_toArray]
     omega
    ·rw [Zkl]; exact Zab.ok h S Rep.str
   ·exact h.elim
  | _ => exact h.elim
 | tup x => cases b with
  | tup y =>
   simp only [Za1] at h
   split at h
   ·rename_i hz
    obtain ⟨p, vs, rfl, s, r⟩ := ra.tup_inv
    obtain ⟨q, ws, rfl, s', r'⟩ := rb.tup_inv
    by_cases hv : vs = []
    ·subst hv
     have hx : x = [] := by have := r.length; simpa using this.symm
     subst hx
     exact .inr (.inr (.inr (.inr ⟨p, q, ws, rfl, rfl, s, s', Zab.ok h S (Rep.tup s' r')⟩)))
    ·refine .inr (.inr (.inr (.inl ⟨p, q, vs, ws, rfl, rfl, s, s', hv, ?_, fun hw => ?_, fun hw p' hp => ?_⟩)))
     ·have := Zbe
      rw [r.length, r'.length]
      omega
     ·subst hw
      have hy : y = [] := by have := r'.length; simpa using this.symm
      subst hy
      rw [List.append_nil] at h
      exact Zab.ok h S (Rep.tup s r)
     ·obtain ⟨x2, S2, r2⟩ := S.tupl hp (r.append r')
      exact h _ _ _ x2 S2 r2
   ·exact h.elim
  | _ => exact h.elim
 | ref n => cases b with
  | ref m =>
   simp only [Za1] at h
   cases hn : M[n]? with
   | none => simp only [hn] at h; exact h.elim
   | some o =>
    cases o with
    | dct _ => simp only [hn] at h; exact h.elim
    | fdct _ => simp only [hn] at h; exact h.elim
    | lst x =>
     cases hm : M[m]? with
     | none => simp only [hn, hm] at h; exact h.elim
     | some o =>
      cases o with
      | dct _ => simp only [hn, hm] at h; exact h.elim
      | fdct _ => simp only [hn, hm] at h; exact h.elim
      | lst y =>
       simp only [hn, hm] at h
       split at h
       ·rename_i hz
        obtain ⟨p, hp, rfl⟩ := ra.ref_inv
        obtain ⟨q, hq, rfl⟩ := rb.ref_inv
        obtain ⟨vs, e1, r1⟩ := S.obj n _ p hn hp
        obtain ⟨ws, e2, r2⟩ := S.obj m _ q hm hq
        refine .inr (.inr (.inl ⟨p, q, vs, ws, rfl, rfl, e1, e2, ?_, fun p' hp' => ?_⟩))
        ·have := Zbe
         rw [r1.length, r2.length]
         omega
        ·obtain ⟨x2, S2, r3⟩ := S.lst hp' (r1.append r2)
         exact h _ _ _ x2 S2 r3
       ·exact h.elim
  | _ => exact h.elim
 | _ => cases b <;> exact h.elim
theorem Zig : OpR X (binaryOp .Sub) (r2 X.K Zeg) := OpR.imp ZlB fun x y H Q ⟨ι, M, a, b, S, ra, rb, h⟩ => by
 cases a <;> cases b <;> first | exact h.elim | exact ⟨_, _, ra.int_inv, rb.int_inv, Zab.ok h S Rep.int⟩
theorem ZbM : OpR X (binaryOp .Mod) (r2 X.K ZaK) := OpR.imp ZlC fun x y H Q ⟨ι, M, a, b, S, ra, rb, h⟩ => by
 cases a with
 | int i => cases b with
  | int j =>
   simp only [ZaK] at h
   split at h
   ·rename_i hj
    exact ⟨i, j, ra.int_inv, rb.int_inv, hj, Zab.ok h S Rep.int⟩
   ·exact h.elim
  | _ => exact h.elim
 | _ => cases b <;> exact h.elim
theorem ZbR : OpR X (binaryOp .FloorDiv) (r2 X.K ZaO) := OpR.imp Zkp fun x y H Q ⟨ι, M, a, b, S, ra, rb, h⟩ => by
 cases a with
 | int i => cases b with
  | int j =>
   simp only [ZaO] at h
   split at h
   ·rename_i hj
    exact ⟨i, j, ra.int_inv, rb.int_inv, hj, Zab.ok h S Rep.int⟩
   ·exact h.elim
  | _ => exact h.elim
 | _ => cases b <;> exact h.elim
theorem Zij : OpR X (binaryOp .Pow) (r2 X.K ZfO) := OpR.imp Zmn fun x y H Q ⟨ι, M, a, b, S, ra, rb, h⟩ => by
 cases a with
 | int i => cases b with
  | int j =>
   simp only [ZfO] at h
   split at h
   ·rename_i hj
    exact ⟨i, j, ra.int_inv, rb.int_inv, ⟨hj.1, by omega, by have := hj.2.2; omega⟩, Zab.ok h S Rep.int⟩
   ·exact h.elim
  | _ => exact h.elim
 | _ => cases b <;> exact h.elim
theorem Zik : UnR X (unaryOp .USub) (r1 X.K Zez) := UnR.imp Zlx fun x H Q ⟨ι, M, a, S, ra, h⟩ => by
 cases a with
 | int i => exact ⟨i, ra.int_inv, Zab.ok h S Rep.int⟩
 | _ => exact h.elim
theorem Znt : OpR X (compareOp .Lt) (r2 X.K ZjN) := OpR.imp Zno fun x y H Q ⟨ι, M, a, b, S, ra, rb, h⟩ => by
 cases a <;> cases b <;> first | exact h.elim | exact ⟨_, _, ra.int_inv, rb.int_inv, Zab.ok h S Rep.bl⟩
theorem Zna : OpR X (compareOp .LtE) (r2 X.K ZhQ) := OpR.imp ZmY fun x y H Q ⟨ι, M, a, b, S, ra, rb, h⟩ => by
 cases a <;> cases b <;> first | exact h.elim | exact ⟨_, _, ra.int_inv, rb.int_inv, Zab.ok h S Rep.bl⟩
theorem ZkJ : OpR X (compareOp .Gt) (r2 X.K ZhL) := OpR.imp ZnC fun x y H Q ⟨ι, M, a, b, S, ra, rb, h⟩ => by
 cases a <;> cases b <;> first | exact h.elim | exact ⟨_, _, ra.int_inv, rb.int_inv, Zab.ok h S Rep.bl⟩
theorem Zn7 : OpR X (compareOp .GtE) (r2 X.K ZnA) := OpR.imp Znh fun x y H Q ⟨ι, M, a, b, S, ra, rb, h⟩ => by
 cases a <;> cases b <;> first | exact h.elim | exact ⟨_, _, ra.int_inv, rb.int_inv, Zab.ok h S Rep.bl⟩
end
theorem units_in1 (A : Around) : A.in1.units = A.units + 1 := rfl
section
variable {X : Cx} {pins : List (Addr × Obj)} {σ : St} {H : Hp} {s : Shared} {ι : List Addr}
theorem ZbH {e : Nat → Bool} : ∀ {x y : List D}, x.length = y.length → (∀ (j : Nat) a b, x[j]? = some a → y[j]? = some b → e j = deq a b) → (List.range x.length).all e = ZbG x y := by
 intro x
 induction x generalizing e with
 | nil => intro y h _; cases y with | nil => rfl | cons _ _ => simp at h
 | cons a x ih =>
  intro y h he
  cases y with
  | nil => simp at h
  | cons b y =>
   rw [List.length_cons, List.range_succ_eq_map, List.all_cons, List.all_map, he 0 a b rfl rfl]
   rw [ZbG]
   congr 1
   exact ih (e := e ∘ Nat.succ) (by simpa using h) fun j a' b' h1 h2 => he (j + 1) a' b' (by simpa using h1) (by simpa using h2)
theorem ZcK : ∀ {x y : List D}, ZbG x y = true → x.length = y.length
 | [], [], _ => rfl
 | [], _ :: _, h => by simp [ZbG] at h
 | _ :: _, [], h => by simp [ZbG] at h
 | a :: x, b :: y, h => by
  simp only [ZbG, Bool.and_eq_true] at h
  simp [ZcK h.2]
theorem Rep.fun1 (I : Inv X pins σ H s) : ∀ (n : Nat) (a b : D) (v : V), Zag n a = true → Zag n b = true → Rep X.K H ι a v → Rep X.K H ι b v → deq a b = true := by
 intro n
 induction n with
 | zero =>
  intro a b v ha hb r q
  cases a with
  | non => have := r.non_inv; subst this; cases b <;> simp_all [Zag, Rep, deq]
  | bl x => have := r.bl_inv; subst this; cases b <;> simp_all [Zag, Rep, deq]
  | int x => have := r.int_inv; subst this; cases b <;> simp_all [Zag, Rep, deq]
  | str x => have := r.str_inv; subst this; cases b <;> simp_all [Zag, Rep, deq]
  | _ => simp [Zag] at ha
 | succ n ih =>
  intro a b v ha hb r q
  cases a with
  | non => have := r.non_inv; subst this; cases b <;> simp_all [Zag, Rep, deq]
  | bl x => have := r.bl_inv; subst this; cases b <;> simp_all [Zag, Rep, deq]
  | int x => have := r.int_inv; subst this; cases b <;> simp_all [Zag, Rep, deq]
  | str x => have := r.str_inv; subst this; cases b <;> simp_all [Zag, Rep, deq]
  | tup ds =>
   obtain ⟨p, vs, rfl, s1, r1⟩ := r.tup_inv
   cases b with
   | tup es =>
    obtain ⟨p', ws, e, s2, r2⟩ := q.tup_inv
    cases e
    have e := I.tuple_inj s1 s2
    subst e
    rw [deq]
    have h1 : ds.all (Zag n) = true := ha
    have h2 : es.all (Zag n) = true := hb
    have key : ∀ (ds es : List D) (vs : List V), ds.all (Zag n) = true → es.all (Zag n) = true → Zm X.K H ι ds vs → Zm X.K H ι es vs → ZbG ds es = true := by
     intro ds
     induction ds with
     | nil => intro es vs _ _ r1 r2; have := r1.nil_inv; subst this; cases es with | nil => rfl | cons _ _ => obtain ⟨_, _, e, _⟩ := r2.cons_inv; cases e
     | cons d ds ih2 =>
      intro es vs h1 h2 r1 r2
      obtain ⟨v, ws, rfl, q1, q2⟩ := r1.cons_inv
      cases es with
      | nil => have := r2.nil_inv; cases this
      | cons e es =>
       obtain ⟨v', ws', z, q3, q4⟩ := r2.cons_inv
       cases z
       rw [List.all_cons, Bool.and_eq_true] at h1 h2
       rw [ZbG, ih d e v h1.1 h2.1 q1 q3, ih2 es ws h1.2 h2.2 q2 q4]
       rfl
    exact key ds es vs h1 h2 r1 r2
   | non => have := q.non_inv; cases this
   | bl _ => have := q.bl_inv; cases this
   | int _ => have := q.int_inv; cases this
   | str _ => have := q.str_inv; cases this
   | _ => simp [Zag] at hb
  | _ => simp [Zag] at ha
theorem ZcM (A : Around) (a b : D) (x y : V) (u v : Value) (ha : Zas a = true) (hb : Zas b = true) (ra : Rep X.K H ι a x) (rb : Rep X.K H ι b y) (ru : RelV x u) (rv : RelV y v) : SeqAt.EqAt A s u v (deq a b) := by
 cases a with
 | non => have := ra.non_inv; subst this; cases ru; cases b with
  | non => have := rb.non_inv; subst this; cases rv; exact SeqAt.EqAt.same _
  | bl k => have := rb.bl_inv; subst this; cases rv; exact SeqAt.EqAt.none_bool _
  | int k => have := rb.int_inv; subst this; obtain ⟨t, rfl⟩ := rv; exact SeqAt.EqAt.none_int _ _
  | str k => have := rb.str_inv; subst this; obtain ⟨t, rfl⟩ := rv; exact SeqAt.EqAt.none_str _ _
  | _ => simp [Zas] at hb
 | bl i => have := ra.bl_inv; subst this; cases ru; cases b with
  | non => have := rb.non_inv; subst this; cases rv; exact SeqAt.EqAt.bool_none _
  | bl k => have := rb.bl_inv; subst this; cases rv; exact SeqAt.EqAt.bool_bool _ _
  | int k => have := rb.int_inv; subst this; obtain ⟨t, rfl⟩ := rv; exact SeqAt.EqAt.bool_int _ _ _
  | str k => have := rb.str_inv; subst this; obtain ⟨t, rfl⟩ := rv; exact SeqAt.EqAt.bool_str _ _ _
  | _ => simp [Zas] at hb
 | int i => have := ra.int_inv; subst this; obtain ⟨t0, rfl⟩ := ru; cases b with
  | non => have := rb.non_inv; subst this; cases rv; exact SeqAt.EqAt.int_none _ _
  | bl k => have := rb.bl_inv; subst this; cases rv; exact SeqAt.EqAt.int_bool _ _ _
  | int k => have := rb.int_inv; subst this; obtain ⟨t, rfl⟩ := rv; exact SeqAt.EqAt.int_int _ _ _ _
  | str k => have := rb.str_inv; subst this; obtain ⟨t, rfl⟩ := rv; exact SeqAt.EqAt.int_str _ _ _ _
  | _ => simp [Zas] at hb
 | str i => have := ra.str_inv; subst this; obtain ⟨t0, rfl⟩ := ru; cases b with
  | non => have := rb.non_inv; subst this; cases rv; exact SeqAt.EqAt.str_none _ _
  | bl k => have := rb.bl_inv; subst this; cases rv; exact SeqAt.EqAt.str_bool _ _ _
  | int k => have := rb.int_inv; subst this; obtain ⟨t, rfl⟩ := rv; exact SeqAt.EqAt.str_int _ _ _ _
  | str k => have := rb.str_inv; subst this; obtain ⟨t, rfl⟩ := rv; exact (by
    have e : deq (.str i) (.str k) = ((⟨i.toArray⟩ : Str) == ⟨k.toArray⟩) := by
     rw [deq, ← ZdD]
     by_cases h : (⟨i.toArray⟩ : Str) = ⟨k.toArray⟩
     ·simp [h]
     ·simp [h]
    rw [e]
    exact SeqAt.EqAt.str_str _ _ _ _)
  | _ => simp [Zas] at hb
 | _ => simp [Zas] at ha
theorem ZfZ (I : Inv X pins σ H s) : ∀ (n : Nat) (A : Around) (a b : D) (x y : V) (u v : Value), A.units + n + 1 < cLine → Zag n a = true → Zag n b = true → Rep X.K H ι a x → Rep X.K H ι b y → RelV x u → RelV y v → SeqAt.EqAt A s u v (deq a b) := by
 intro n
 induction n with
 | zero =>
  intro A a b x y u v hu ha hb ra rb ru rv
  have f : ∀ d : D, Zag 0 d = true → Zas d = true := fun d h => by cases d <;> simp_all [Zag, Zas]
  exact ZcM A a b x y u v (f a ha) (f b hb) ra rb ru rv
 | succ n ih =>
  intro A a b x y u v hu ha hb ra rb ru rv
  have hu0 : A.units + 0 + 1 < cLine := by omega
  have hu1 : A.units < cLine := by omega
  cases a with
  | tup ds =>
   obtain ⟨p, vs, rfl, s1, r1⟩ := ra.tup_inv
   cases ru
   obtain ⟨its, rvs, ht, _⟩ := I.tuple s1
   have it1 : s.heap.IsTuple p its.toArray := ht
   cases b with
   | tup es =>
    obtain ⟨p', ws, rfl, s2, r2⟩ := rb.tup_inv
    cases rv
    obtain ⟨its2, rws, ht2, _⟩ := I.tuple s2
    have it2 : s.heap.IsTuple p' its2.toArray := ht2
    by_cases hp : p = p'
    ·subst hp
     rw [Rep.fun1 I (n + 1) _ _ _ ha hb ra rb]
     exact SeqAt.EqAt.same _
    ·refine SeqAt.EqAt.of_refs hp ?_
     have e1 : its.length = ds.length := by rw [← rvs.length, r1.length]
     have e2 : its2.length = es.length := by rw [← rws.length, r2.length]
     have key : ((List.range (min its.toArray.size its2.toArray.size)).all (fun j => match ds[j]?, es[j]? with | some a, some b => deq a b | _, _ => false) && its.toArray.size == its2.toArray.size) = deq (.tup ds) (.tup es) := by
      rw [deq, List.size_toArray, List.size_toArray, e1, e2]
      by_cases hl : ds.length = es.length
      ·rw [hl, Nat.min_self, beq_self_eq_true, Bool.and_true, ← hl]
       exact ZbH hl fun j a b h1 h2 => by rw [h1, h2]
      ·have z : ZbG ds es = false := by
        cases q : ZbG ds es with
        | false => rfl
        | true => exact absurd (ZcK q) hl
       rw [z, beq_eq_false_iff_ne.mpr hl, Bool.and_false]
     rw [← key]
     refine SeqAt.RcAt.tuples it1 it2 hu1 fun j h1 h2 => ?_
     have h1' : j < ds.length := by rw [← e1]; simpa using h1
     have h2' : j < es.length := by rw [← e2]; simpa using h2
     have q1 : ds[j]? = some ds[j] := by simp [h1']
     have q2 : es[j]? = some es[j] := by simp [h2']
     rw [q1, q2]
     obtain ⟨v1, g1, z1⟩ := r1.get q1
     obtain ⟨v2, g2, z2⟩ := r2.get q2
     obtain ⟨u1, k1, l1⟩ := rvs.get g1
     obtain ⟨u2, k2, l2⟩ := rws.get g2
     have m1 : its.toArray[j] = u1 := by
      have := List.getElem?_eq_some_iff.mp k1
      simpa using this.2
     have m2 : its2.toArray[j] = u2 := by
      have := List.getElem?_eq_some_iff.mp k2
      simpa using this.2
     rw [m1, m2]
     exact ih A.in1 ds[j] es[j] v1 v2 u1 u2 (by rw [units_in1]; omega) (List.all_eq_true.mp (show ds.all (Zag n) = true from ha) _ (List.getElem_mem h1')) (List.all_eq_true.mp (show es.all (Zag n) = true from hb) _ (List.getElem_mem h2')) z1 z2 l1 l2
   | non => have := rb.non_inv; subst this; cases rv; exact SeqAt.EqAt.tuple_none it1 hu1
   | bl k => have := rb.bl_inv; subst this; cases rv; exact SeqAt.EqAt.tuple_bool _ it1 hu1
   | int k => have := rb.int_inv; subst this; obtain ⟨t, rfl⟩ := rv; exact SeqAt.EqAt.tuple_int _ _ it1 hu1
   | str k => have := rb.str_inv; subst this; obtain ⟨t, rfl⟩ := rv; exact SeqAt.EqAt.tuple_str _ _ it1 hu1
   | _ => simp [Zag] at hb
  | non => cases b with
   | tup es =>
    have := ra.non_inv; subst this; cases ru
    obtain ⟨p', ws, rfl, s2, r2⟩ := rb.tup_inv
    cases rv
    obtain ⟨its2, rws, ht2, _⟩ := I.tuple s2
    exact SeqAt.EqAt.none_tuple (show s.heap.IsTuple p' its2.toArray from ht2) hu1
   | scr _ => simp [Zag] at hb
   | ref _ => simp [Zag] at hb
   | _ => exact ZcM A _ _ x y u v (by rfl) (by rfl) ra rb ru rv
  | bl i => cases b with
   | tup es =>
    have := ra.bl_inv; subst this; cases ru
    obtain ⟨p', ws, rfl, s2, r2⟩ := rb.tup_inv
    cases rv
    obtain ⟨its2, rws, ht2, _⟩ := I.tuple s2
    exact SeqAt.EqAt.bool_tuple _ (show s.heap.IsTuple p' its2.toArray from ht2) hu1
   | scr _ => simp [Zag] at hb
   | ref _ => simp [Zag] at hb
   | _ => exact ZcM A _ _ x y u v (by rfl) (by rfl) ra rb ru rv
  | int i => cases b with
   | tup es =>
    have := ra.int_inv; subst this; obtain ⟨t0, rfl⟩ := ru
    obtain ⟨p', ws, rfl, s2, r2⟩ := rb.tup_inv
    cases rv
    obtain ⟨its2, rws, ht2, _⟩ := I.tuple s2
    exact SeqAt.EqAt.int_tuple _ _ (show s.heap.IsTuple p' its2.toArray from ht2) hu1
   | scr _ => simp [Zag] at hb
   | ref _ => simp [Zag] at hb
   | _ => exact ZcM A _ _ x y u v (by rfl) (by rfl) ra rb ru rv
  | str i => cases b with
   | tup es =>
    have := ra.str_inv; subst this; obtain ⟨t0, rfl⟩ := ru
    obtain ⟨p', ws, rfl, s2, r2⟩ := rb.tup_inv
    cases rv
    obtain ⟨its2, rws, ht2, _⟩ := I.tuple s2
    exact SeqAt.EqAt.str_tuple _ _ (show s.heap.IsTuple p' its2.toArray from ht2) hu1
   | scr _ => simp [Zag] at hb
   | ref _ => simp [Zag] at hb
   | _ => exact ZcM A _ _ x y u v (by rfl) (by rfl) ra rb ru rv
  | _ => simp [Zag] at ha
end
end L3
namespace L3
open PySem PySem.Spec PyProof.Rows L2
section
variable {X : Cx}
theorem ZlO {pins : List (Addr × Obj)} {σ : St} {H : Hp} {s : Shared} {ι : List Addr} {M : Store} {a b : D} {x y : V} {u v : Value} {k : Bool} (hu : X.A.units + 80 < cLine) (I : Inv X pins σ H s) (S : Zx X.K H ι M)
  (ra : Rep X.K H ι a x) (rb : Rep X.K H ι b y) (ru : RelV x u) (rv : RelV y v) (h : eqD a b M = some k) : SeqAt.RcAt X.A s u v k := by
 cases a with
 | ref n =>
  cases b with
  | ref m =>
   simp only [eqD] at h
   cases hn : M[n]? with
   | none => simp [hn] at h
   | some o =>
    cases o with
    | dct _ => simp [hn] at h
    | fdct _ => simp [hn] at h
    | lst ds =>
     cases hm : M[m]? with
     | none => simp [hn, hm] at h
     | some o =>
      cases o with
      | dct _ => simp [hn, hm] at h
      | fdct _ => simp [hn, hm] at h
      | lst es =>
       simp only [hn, hm] at h
       split at h
       ·rename_i hp
        cases h
        rw [Bool.and_eq_true] at hp
        obtain ⟨p, hp1, rfl⟩ := ra.ref_inv
        obtain ⟨q, hq1, rfl⟩ := rb.ref_inv
        cases ru
        cases rv
        obtain ⟨vs, e1, r1⟩ := S.obj n _ p hn hp1
        obtain ⟨ws, e2, r2⟩ := S.obj m _ q hm hq1
        obtain ⟨its, rvs, pl1, _⟩ := I.list (SqL.of e1)
        obtain ⟨its2, rws, pl2, _⟩ := I.list (SqL.of e2)
        have it1 := pl1.isList
        have it2 := pl2.isList
        have l1 : its.length = ds.length := by rw [← rvs.length, r1.length]
        have l2 : its2.length = es.length := by rw [← rws.length, r2.length]
        have hu1 : X.A.units < cLine := by omega
        by_cases hl : ds.length = es.length
        ·have key : (List.range its.toArray.size).all (fun j => match ds[j]?, es[j]? with | some a, some b => deq a b | _, _ => false) = ZbG ds es := by
          rw [List.size_toArray, l1]
          exact ZbH hl fun j a b h1 h2 => by rw [h1, h2]
         rw [← key]
         refine SeqAt.RcAt.lists it1 it2 (by rw [List.size_toArray, List.size_toArray, l1, l2, hl]) hu1 fun j h1 h2 => ?_
         have h1' : j < ds.length := by rw [← l1]; simpa using h1
         have h2' : j < es.length := by rw [← l2]; simpa using h2
         have q1 : ds[j]? = some ds[j] := by simp [h1']
         have q2 : es[j]? = some es[j] := by simp [h2']
         rw [q1, q2]
         obtain ⟨v1, g1, z1⟩ := r1.get q1
         obtain ⟨v2, g2, z2⟩ := r2.get q2
         obtain ⟨u1, k1, w1⟩ := rvs.get g1
         obtain ⟨u2, k2, w2⟩ := rws.get g2
         have m1 : its.toArray[j] = u1 := by
          have := List.getElem?_eq_some_iff.mp k1
          simpa using this.2
         have m2 : its2.toArray[j] = u2 := by
          have := List.getElem?_eq_some_iff.mp k2
          simpa using this.2
         rw [m1, m2]
         exact ZfZ I DEEP X.A.in1 ds[j] es[j] v1 v2 u1 u2 (by rw [units_in1]; show X.A.units + 1 + 60 + 1 < cLine; omega) (List.all_eq_true.mp hp.1 _ (List.getElem_mem h1')) (List.all_eq_true.mp hp.2 _ (List.getElem_mem h2')) z1 z2 w1 w2
        ·have z : ZbG ds es = false := by
          cases q : ZbG ds es with
          | false => rfl
          | true => exact absurd (ZcK q) hl
         rw [z]
         exact SeqAt.RcAt.lists_lengths it1 it2 (by rw [List.size_toArray, List.size_toArray, l1, l2]; simpa using hl) hu1
       ·cases h
  | _ => simp [eqD] at h
 | int i => cases b with
  | int j =>
   simp only [eqD] at h
   cases h
   have := ra.int_inv; subst this; have := rb.int_inv; subst this
   obtain ⟨t, rfl⟩ := ru
   obtain ⟨t', rfl⟩ := rv
   rw [← Bool.beq_eq_decide_eq]
   exact SeqAt.RcAt.int_int _ _ _ _
  | _ => simp [eqD] at h
 | str i => cases b with
  | str j =>
   simp only [eqD] at h
   cases h
   have := ra.str_inv; subst this; have := rb.str_inv; subst this
   obtain ⟨t, rfl⟩ := ru
   obtain ⟨t', rfl⟩ := rv
   have e : decide (i = j) = ((⟨i.toArray⟩ : Str) == ⟨j.toArray⟩) := by
    rw [← Bool.beq_eq_decide_eq, ← ZdD]
    by_cases h : (⟨i.toArray⟩ : Str) = ⟨j.toArray⟩
    ·simp [h]
    ·simp [h]
   rw [e]
   exact SeqAt.RcAt.str_str _ _ _ _
  | _ => simp [eqD] at h
 | bl i => cases b with
  | bl j =>
   simp only [eqD] at h
   cases h
   have := ra.bl_inv; subst this; have := rb.bl_inv; subst this
   cases ru
   cases rv
   rw [← Bool.beq_eq_decide_eq]
   exact SeqAt.RcAt.bool_bool _ _
  | _ => simp [eqD] at h
 | tup ds => cases b with
  | tup es =>
   simp only [eqD] at h
   split at h
   ·rename_i hp
    cases h
    rw [Bool.and_eq_true] at hp
    obtain ⟨p, vs, rfl, s1, r1⟩ := ra.tup_inv
    obtain ⟨p', ws, rfl, s2, r2⟩ := rb.tup_inv
    cases ru
    cases rv
    obtain ⟨its, rvs, ht, _⟩ := I.tuple s1
    obtain ⟨its2, rws, ht2, _⟩ := I.tuple s2
    have e1 : its.length = ds.length := by rw [← rvs.length, r1.length]
    have e2 : its2.length = es.length := by rw [← rws.length, r2.length]
    have hu1 : X.A.units < cLine := by omega
    have key : ((List.range (min its.toArray.size its2.toArray.size)).all (fun j => match ds[j]?, es[j]? with | some a, some b => deq a b | _, _ => false) && its.toArray.size == its2.toArray.size) = ZbG ds es := by
     rw [List.size_toArray, List.size_toArray, e1, e2]
     by_cases hl : ds.length = es.length
     ·rw [hl, Nat.min_self, beq_self_eq_true, Bool.and_true, ← hl]
      exact ZbH hl fun j a b h1 h2 => by rw [h1, h2]
     ·have z : ZbG ds es = false := by
       cases q : ZbG ds es with
       | false => rfl
       | true => exact absurd (ZcK q) hl
      rw [z, beq_eq_false_iff_ne.mpr hl, Bool.and_false]
    rw [← key]
    refine SeqAt.RcAt.tuples (show s.heap.IsTuple p its.toArray from ht) (show s.heap.IsTuple p' its2.toArray from ht2) hu1 fun j h1 h2 => ?_
    have h1' : j < ds.length := by rw [← e1]; simpa using h1
    have h2' : j < es.length := by rw [← e2]; simpa using h2
    have q1 : ds[j]? = some ds[j] := by simp [h1']
    have q2 : es[j]? = some es[j] := by simp [h2']
    rw [q1, q2]
    obtain ⟨v1, g1, z1⟩ := r1.get q1
    obtain ⟨v2, g2, z2⟩ := r2.get q2
    obtain ⟨u1, k1, w1⟩ := rvs.get g1
    obtain ⟨u2, k2, w2⟩ := rws.get g2
    have m1 : its.toArray[j] = u1 := by
     have := List.getElem?_eq_some_iff.mp k1
     simpa using this.2
    have m2 : its2.toArray[j] = u2 := by
     have := List.getElem?_eq_some_iff.mp k2
     simpa using this.2
    rw [m1, m2]
    exact ZfZ I DEEP X.A.in1 ds[j] es[j] v1 v2 u1 u2 (by rw [units_in1]; show X.A.units + 1 + 60 + 1 < cLine; omega) (List.all_eq_true.mp hp.1 _ (List.getElem_mem h1')) (List.all_eq_true.mp hp.2 _ (List.getElem_mem h2')) z1 z2 w1 w2
   ·cases h
  | _ => simp [eqD] at h
 | _ => cases b <;> simp [eqD] at h
theorem ZcI (hu : X.A.units + 80 < cLine) : OpR X (compareOp .Eq) (r2 X.K Zba) := by
 intro pins s σ H x y v u Q I rx ry h
 obtain ⟨ι, M, a, b, S, ra, rb, h⟩ := h
 unfold Zba at h
 cases q : eqD a b M with
 | none => rw [q] at h; exact h.elim
 | some k =>
  rw [q] at h
  exact ZlO hu I S ra rb rx ry q X.prog X.w X.xe _ ⟨.bl k, H, I, rfl, Zab.ok h S Rep.bl⟩
theorem Zh2 {K : PySem.W.Frag} {H : Hp} {ι : List Addr} {ds : List D} {vs : List V} {i : Int} {d : D} (r : Zm K H ι ds vs) (h : Zby ds i = some d) : ∃ v, atI vs i = some v ∧ Rep K H ι d v := by
 unfold Zby at h
 unfold atI
 have e : ixN vs.length i = ixD ds.length i := by rw [r.length]; rfl
 rw [e]
 cases q : ixD ds.length i with
 | none => rw [q] at h; cases h
 | some j =>
  rw [q] at h
  exact r.get h
theorem Zac : IxR X (r2 X.K Zg) := IxR.imp ZmC fun x y H Q ⟨ι, M, a, b, S, ra, rb, h⟩ => by
 cases a with
 | tup ds => cases b with
  | int i =>
   simp only [Zg] at h
   cases q : Zby ds i with
   | none => simp only [q] at h; exact h.elim
   | some d =>
    simp only [q] at h
    obtain ⟨p, vs, rfl, s1, r1⟩ := ra.tup_inv
    obtain ⟨v, e, rv⟩ := Zh2 r1 q
    exact .inr (.inl ⟨p, vs, i, v, rfl, rb.int_inv, s1, e, Zab.ok h S rv⟩)
  | _ => exact h.elim
 | scr ds => cases b with
  | int i =>
   simp only [Zg] at h
   cases q : Zby ds i with
   | none => simp only [q] at h; exact h.elim
   | some d =>
    simp only [q] at h
    obtain ⟨p, vs, rfl, s1, r1⟩ := ra.scr_inv
    obtain ⟨v, e, rv⟩ := Zh2 r1 q
    exact .inl ⟨p, vs, i, v, rfl, rb.int_inv, s1.sq, e, Zab.ok h S rv⟩
  | _ => exact h.elim
 | str z => cases b with
  | int i =>
   simp only [Zg] at h
   cases q : Zby z i with
   | none => simp only [q] at h; exact h.elim
   | some c =>
    simp only [q] at h
    split at h
    ·rename_i hz
     refine .inr (.inr ⟨_, i, c, ra.str_inv, rb.int_inv, ?_, ?_, Zab.ok h S Rep.str⟩)
     ·have := Zbe
      simp only [Str.length, List.size_toArray]
      omega
     ·simpa [atI, ixN, Zby, ixD] using q
    ·exact h.elim
  | _ => exact h.elim
 | ref n => cases b with
  | int i =>
   cases hn : M[n]? with
   | none => simp only [Zg, hn] at h; exact h.elim
   | some o =>
    cases o with
    | dct _ => simp only [Zg, hn] at h; exact h.elim
    | fdct _ => simp only [Zg, hn] at h; exact h.elim
    | lst ds =>
     simp only [Zg, hn] at h
     cases q : Zby ds i with
     | none => simp only [q] at h; exact h.elim
     | some d =>
      simp only [q] at h
      obtain ⟨p, hp, rfl⟩ := ra.ref_inv
      obtain ⟨vs, e1, r1⟩ := S.obj n _ p hn hp
      obtain ⟨v, e, rv⟩ := Zh2 r1 q
      exact .inl ⟨p, vs, i, v, rfl, rb.int_inv, SqL.of e1, e, Zab.ok h S rv⟩
  | _ => exact h.elim
 | _ => cases b <;> exact h.elim
theorem ZhA {K : PySem.W.Frag} {H : Hp} {ι : List Addr} {ds : List D} {vs : List V} (r : Zm K H ι ds vs) (lo hi : Option Int) : Zm K H ι (cutD ds lo hi) (ZgR vs lo hi) := by
 have e : ∀ n d o, HT.sIx n d o = sIx n d o := fun n d o => by cases o <;> rfl
 unfold cutD ZgR
 rw [e, e, r.length]
 exact (r.drop _).take _
end
end L3
namespace L3
open PySem PySem.Spec PyProof.Rows L2
def Za8 (cells : List (Str × Addr)) : List (Str × NameKind) → List (Str × Addr) → List (Str × Addr)
 | [], cs => cs
 | (n, k) :: r, cs => Za8 cells r (if k == .free then (n, (cells.lookup n).getD 0) :: cs else cs)
theorem ZdA {scope : Scope} {env : Env} (h : ∀ y ∈ scope.names, y.2 = .free → ∃ c, env.cells.lookup y.1 = some c) : closureFor scope env = pure (Za8 env.cells scope.names []) := by
 unfold closureFor
 have key : ∀ (names : List (Str × NameKind)) (cs : List (Str × Addr)), (∀ y ∈ names, y.2 = .free → ∃ c, env.cells.lookup y.1 = some c) →
   (forIn names cs fun x r => match x with | (name, kind) => if (kind == NameKind.free) = true then do let c ← cellOf env name; pure (ForInStep.yield ((name, c) :: r)) else pure (ForInStep.yield r) : Sem (List (Str × Addr))) = pure (Za8 env.cells names cs) := by
  intro names
  induction names with
  | nil => intro cs _; rfl
  | cons y r ih =>
   intro cs hy
   obtain ⟨n, k⟩ := y
   rw [List.forIn_cons]
   by_cases hk : k = .free
   ·subst hk
    obtain ⟨c, hc⟩ := hy (n, .free) List.mem_cons_self rfl
    have e1 : cellOf env n = pure c := by unfold cellOf; rw [hc]
    simp only [beq_self_eq_true, if_true, e1, pure_bind]
    rw [ih _ fun z hz => hy z (List.mem_cons_of_mem _ hz)]
    simp [Za8, hc]
   ·have hb : (k == NameKind.free) = false := by simpa using hk
    simp only [hb, Bool.false_eq_true, if_false, pure_bind]
    rw [ih _ fun z hz => hy z (List.mem_cons_of_mem _ hz)]
    simp [Za8, hb]
 have := key scope.names [] h
 first
  | exact this
  | (simp only [bind_pure]; exact this)
theorem ZiO {cells : List (Str × Addr)} {x : Str} {c : Addr} : ∀ (names : List (Str × NameKind)) (cs : List (Str × Addr)), (∀ y ∈ names, y.2 = .free → ∃ c, cells.lookup y.1 = some c) → (Za8 cells names cs).lookup x = some c → cs.lookup x = some c ∨ cells.lookup x = some c := by
 intro names
 induction names with
 | nil => intro cs _ h; exact .inl h
 | cons y r ih =>
  intro cs hy h
  obtain ⟨n, k⟩ := y
  rw [Za8] at h
  rcases ih _ (fun z hz => hy z (List.mem_cons_of_mem _ hz)) h with q | q
  ·by_cases hk : k = .free
   ·subst hk
    obtain ⟨c0, hc⟩ := hy (n, .free) List.mem_cons_self rfl
    simp only [beq_self_eq_true, if_true, hc, Option.getD_some, List.lookup_cons] at q
    cases hx : x == n with
    | true =>
     simp only [hx] at q
     cases q
     have : x = n := by simpa using hx
     subst this
     exact .inr hc
    | false => simp only [hx] at q; exact .inl q
   ·have hb : (k == NameKind.free) = false := by simpa using hk
    simp only [hb, Bool.false_eq_true, if_false] at q
    exact .inl q
  ·exact .inr q
theorem ZhF {cells : List (Str × Addr)} {x : Str} : ∀ (names : List (Str × NameKind)) (cs : List (Str × Addr)), (cs.lookup x).isSome = true → ((Za8 cells names cs).lookup x).isSome = true := by
 intro names
 induction names with
 | nil => intro cs h; exact h
 | cons y r ih =>
  intro cs h
  obtain ⟨n, k⟩ := y
  rw [Za8]
  refine ih _ ?_
  split
  ·rw [List.lookup_cons]
   split
   ·rfl
   ·exact h
  ·exact h
theorem ZfG {cells : List (Str × Addr)} {x : Str} : ∀ (names : List (Str × NameKind)) (cs : List (Str × Addr)), (x, NameKind.free) ∈ names → ((Za8 cells names cs).lookup x).isSome = true := by
 intro names
 induction names with
 | nil => intro cs h; cases h
 | cons y r ih =>
  intro cs h
  obtain ⟨n, k⟩ := y
  rw [Za8]
  rcases List.mem_cons.mp h with e | h
  ·cases e
   refine ZhF _ _ ?_
   simp
  ·exact ih _ h
def ZaJ (X : Cx) (scope : Scope) (N' : List Str) (C : Addr) (cl : List (Str × Addr)) (s : Shared) (H : Hp) (ex : List Addr) : Cx :=
 { X with N := N', s₀ := s, H₀ := H, env := compEnvC scope cl C X.env, outer := X.stack, stack := X.stack, ex := ex, fn := fun _ => false, pn := [], xe := fun _ _ => False }
def Zj3 (N N' : List Str) (scope : Scope) : Bool := (List.range N.length).all fun i => match N'[i]? with
 | some x => (scope.names.lookup x).isNone || (decide (N[i]? = some x) && decide (scope.names.lookup x = some .free))
 | none => false
def CTs (X : Cx) (ifs : List Expr) (ts : List E3) : Prop := ∀ (pins : List (Addr × Obj)) (s : Shared) (σ : St) (H : Hp) (Q : Bool → Hp → Prop), Inv X pins σ H s →
 (∃ ι M env, Zx X.K H ι M ∧ Za0 X.K H ι env σ ∧ match ZcO ts env M with | .ok b M' => ∀ H' ι', Ext X.K H ι H' ι' → Zx X.K H' ι' M' → Q b H' | _ => False) →
 wpAny (model X.prog X.w) X.A (forIn ifs true fun c r => if r = true then do let ok ← isTrue c X.env (eval c X.env); pure (ForInStep.yield ok) else pure (ForInStep.yield r)) (TP X pins σ Q) X.xe s
theorem Zis {X : Cx} : CTs X [] [] := fun pins s σ H Q I ⟨ι, M, env, S, E, h⟩ => wpAny_tests_nil ⟨H, I, h H ι Ext.refl S⟩
theorem ZfW {X : Cx} {c : Expr} {f : E3} (hc : CT X c f) : CTs X [c] [f] := fun pins s σ H Q I ⟨ι, M, env, S, E, h⟩ => by
 refine wpAny_tests_one (hc pins s σ H Q I ⟨ι, M, env, S, E, ?_⟩)
 unfold ZcO at h
 cases q : f env M with
 | ok d M1 =>
  rw [q] at h
  cases d with
  | bl b => cases b with
   | true => exact h
   | false => exact h
  | _ => exact h.elim
 | exc x M1 => rw [q] at h; exact h.elim
 | bad => rw [q] at h; exact h.elim
section
variable {prog : Program} {w : World} {A : Around} {R : Result → Shared → Prop} {s : Shared}
theorem Zf5 {elt target iter : Expr} {ifs : List Expr} {scope : Scope} {pos : Pos} {it acc : Value} {env : Env} (I : Nat → Shared → Prop)
  (turn : ∀ n s, I n s → wpAny (model prog w) A (pyNext it) (fun r s₁ => match r with
   | none => R (.ok .next) s₁
   | some v => wpAny (model prog w) A (letOwnedTupleGo target it v) (fun _ s₁' => wpAny (model prog w) A (assign target env v) (fun _ s₂ =>
     wpAny (model prog w) A (forIn ifs true fun c r => if r = true then do let ok ← isTrue c env (eval c env); pure (ForInStep.yield ok) else pure (ForInStep.yield r)) (fun ok s₃ =>
      if ok = true then wpAny (model prog w) A (eval elt env) (fun x s₄ =>
       wpAny (model prog w) A (call (.builtin "list.append") [acc, x]) (fun _ s₅ => ∃ m, m < n ∧ I m s₅) (fun _ _ => False) s₄) (fun _ _ => False) s₃
      else ∃ m, m < n ∧ I m s₃) (fun _ _ => False) s₂) (fun _ _ => False) s₁') (fun _ _ => False) s₁) (fun _ _ => False) s)
  (n : Nat) (h : I n s) : codeAny (model prog w) A (.compLoop (.ListComp elt [⟨target, iter, ifs, 0⟩] scope pos) 0 it acc env) R s := by
 refine codeAny_loop rfl I (fun n s hI => ?_) n h
 show wpAny _ A ((compTurn (.ListComp elt [⟨target, iter, ifs, 0⟩] scope pos) 0 it acc env).onRaise (fun x => do noteFrame x env; theTreesLotGoes x)) _ _ s
 refine wpAny_noted ?_
 rw [compTurn_list]
 refine wpAny_bind (wpAny_standAt (wpAny_bind (wpAny_mono (turn n s hI) (fun r s₁ h₁ => ?_) fun _ _ h' => False.elim h')))
 cases r with
 | none => exact wpAny_pure h₁
 | some v =>
  refine wpAny_bind (wpAny_mono h₁ (fun _ s₁' h₁' => ?_) fun _ _ h' => False.elim h')
  refine wpAny_bind (wpAny_mono h₁' (fun _ s₂ h₂ => wpAny_bind (wpAny_mono h₂ (fun ok s₃ h₃ => ?_) fun _ _ h' => False.elim h')) fun _ _ h' => False.elim h')
  cases ok with
  | false => exact wpAny_pure ⟨rfl, h₃⟩
  | true =>
   exact wpAny_bind (wpAny_bind (wpAny_mono h₃ (fun x s₄ h₄ => wpAny_bind (wpAny_mono h₄ (fun _ s₅ h₅ => wpAny_pure (wpAny_pure ⟨rfl, h₅⟩)) fun _ _ h' => False.elim h')) fun _ _ h' => False.elim h'))
end
theorem Zch {env : Env} {x : Str} {k : NameKind} : ∀ {names : List (Str × NameKind)}, (names.map fun (n, k) => if (k == NameKind.free && env.scope.kind == .function && env.kindOf n == some .cell) then (n, NameKind.cell) else (n, k)).lookup x = some k →
  ∃ k0, names.lookup x = some k0 ∧ (k0 = k ∨ (k0 = .free ∧ k = .cell)) := by
 intro names
 induction names with
 | nil => intro h; simp at h
 | cons y r ih =>
  intro h
  obtain ⟨n, k1⟩ := y
  rw [List.map_cons] at h
  cases hx : x == n with
  | true =>
   refine ⟨k1, by simp [List.lookup_cons, hx], ?_⟩
   by_cases hc : (k1 == NameKind.free && env.scope.kind == .function && env.kindOf n == some .cell) = true
   ·simp only [if_pos hc, List.lookup_cons, hx] at h
    cases h
    simp only [Bool.and_eq_true, beq_iff_eq] at hc
    exact .inr ⟨hc.1.1, rfl⟩
   ·simp only [if_neg hc, List.lookup_cons, hx] at h
    cases h
    exact .inl rfl
  | false =>
   have h' : (r.map fun (n, k) => if (k == NameKind.free && env.scope.kind == .function && env.kindOf n == some .cell) then (n, NameKind.cell) else (n, k)).lookup x = some k := by
    by_cases hc : (k1 == NameKind.free && env.scope.kind == .function && env.kindOf n == some .cell) = true
    ·simp only [if_pos hc, List.lookup_cons, hx] at h; exact h
    ·simp only [if_neg hc, List.lookup_cons, hx] at h; exact h
   obtain ⟨k0, e, q⟩ := ih h'
   exact ⟨k0, by simp [List.lookup_cons, hx, e], q⟩
theorem Zgc {env : Env} {x : Str} : ∀ {names : List (Str × NameKind)}, names.lookup x = some .free →
  (names.map fun (n, k) => if (k == NameKind.free && env.scope.kind == .function && env.kindOf n == some .cell) then (n, NameKind.cell) else (n, k)).lookup x = some .free ∨
  (names.map fun (n, k) => if (k == NameKind.free && env.scope.kind == .function && env.kindOf n == some .cell) then (n, NameKind.cell) else (n, k)).lookup x = some .cell := by
 intro names
 induction names with
 | nil => intro h; simp at h
 | cons y r ih =>
  intro h
  obtain ⟨n, k1⟩ := y
  rw [List.map_cons]
  cases hx : x == n with
  | true =>
   simp only [List.lookup_cons, hx] at h
   cases h
   by_cases hc : (NameKind.free == NameKind.free && env.scope.kind == .function && env.kindOf n == some .cell) = true
   ·simp only [if_pos hc, List.lookup_cons, hx]; exact .inr trivial
   ·simp only [if_neg hc, List.lookup_cons, hx]; exact .inl trivial
  | false =>
   simp only [List.lookup_cons, hx] at h
   by_cases hc : (k1 == NameKind.free && env.scope.kind == .function && env.kindOf n == some .cell) = true
   ·simp only [if_pos hc, List.lookup_cons, hx]; exact ih h
   ·simp only [if_neg hc, List.lookup_cons, hx]; exact ih h
section
variable {X : Cx} {pins : List (Addr × Obj)} {σ : St} {H : Hp} {s : Shared} {scope : Scope} {N' : List Str} {own : Nat} {fp : List Addr}
theorem ZjS (I : Inv X pins σ H s) (hk : scope.kind = .function) (hcell : ∀ y ∈ scope.names, y.2 ≠ .cell) (hfree : ∀ y ∈ scope.names, y.2 = .free → X.env.kindOf y.1 = some .cell ∨ X.env.kindOf y.1 = some .free)
  (hN : N'.length = X.N.length + own) (hv : Zj3 X.N N' scope = true) (hfp : ∀ b ∈ fp, ZdI X pins H b) (hlt : ∀ b ∈ fp, b < s.heap.objs.size) {h1 : Heap} {tk : Nat}
  (hns : h1.Ns s.heap.objs.size fun _ => none) (keep : ∀ b o, s.heap.get? b = some o → h1.get? b = some o) :
  Inv (ZaJ X scope N' s.heap.objs.size (Za8 X.env.cells scope.names []) s H fp) [] (σ ++ List.replicate own none) H { s with heap := h1, toks := tk } := by
 have hc0 : ∀ y ∈ scope.names, y.2 = .free → ∃ c, X.env.cells.lookup y.1 = some c := fun y hy e => I.ok.has y.1 (hfree y hy e)
 have sub : ∀ x c, (Za8 X.env.cells scope.names []).lookup x = some c → X.env.cells.lookup x = some c := fun x c h => by
  rcases ZiO scope.names [] hc0 h with q | q
  ·simp at q
  ·exact q
 have cellK : ∀ {c : Addr} {v : Option Value}, s.heap.IsCell c v → h1.IsCell c v := fun ⟨o, ho, hd⟩ => ⟨o, keep _ o ho, hd⟩
 refine ⟨⟨I.ok.mod, hk, I.ok.glob, I.ok.blt, Nat.le_refl _, fun x y c h1 h2 => I.ok.inj x y c (sub x c h1) (sub y c h2), fun x hx => ?_, fun x c h => ?_, I.ok.hd, I.ok.frames, .inl rfl, fun b hb => ⟨Nat.ne_of_lt (hlt b hb), fun x c h => (hfp b hb).2.2.2.2.1 x c (sub x c h)⟩,
   I.bs, Nat.le_trans I.ok.bsz I.sz, fun b o e hb => ?_, fun b hb hz => ?_, I.stack, I.stkFree⟩, rfl, I.bare, Un.kept keep, ⟨_, hns, fun i x v h1 h2 h3 => ?_⟩, fun x c h => ?_, I.hok.fresh (Nat.le_refl _), fun x c h => I.freeC x c (sub x c h),
  fun p hp => absurd (show p ∈ ([] : List (Addr × Obj)) from hp) (by simp), I.hok.kept keep, ?_⟩
 ·have hx' : (relabel scope X.env).names.lookup x = some .cell ∨ (relabel scope X.env).names.lookup x = some .free := hx
  have : scope.names.lookup x = some .free := by
   rcases hx' with hx' | hx'
   ·obtain ⟨k0, e, q⟩ := Zch (names := scope.names) hx'
    rcases q with q | ⟨q, _⟩
    ·subst q; exact absurd rfl (hcell _ (PySem.mem_of_lookup e))
    ·rw [e, q]
   ·obtain ⟨k0, e, q⟩ := Zch (names := scope.names) hx'
    rcases q with q | ⟨_, q⟩
    ·rw [e, q]
    ·cases q
  exact Option.isSome_iff_exists.mp (ZfG scope.names [] (PySem.mem_of_lookup this))
 ·cases h
 ·obtain ⟨_, _, _, q, _⟩ := hfp b hb
  rcases q with q | q
  ·exact I.ok.noex b o e q
  ·exact absurd (Nat.lt_of_lt_of_le (Heap.lt_size e) (Nat.le_trans I.ok.bsz q)) (Nat.lt_irrefl _)
 ·have hz' : b ∈ frs X.stack := hz
  obtain ⟨_, q1, q2, _⟩ := hfp b hb
  rcases List.mem_cons.mp (I.stkSub b hz') with e | e
  ·exact q1 e
  ·exact q2 e
 ·have hi : i < σ.length := by
   by_cases hi : i < σ.length
   ·exact hi
   ·rw [List.getElem?_append_right (by omega), List.getElem?_replicate] at h2
    split at h2 <;> cases h2
  rw [List.getElem?_append_left hi] at h2
  have hiN : i < X.N.length := by rw [← I.len]; exact hi
  have hN' : N'[i]? = some x := h1
  have vq := List.all_eq_true.mp hv i (List.mem_range.mpr hiN)
  rw [hN'] at vq
  have h3' : (relabel scope X.env).names.lookup x = some .local ∨ (relabel scope X.env).names.lookup x = some .cell ∨ (relabel scope X.env).names.lookup x = some .free := h3
  have some_of : ∃ k0, scope.names.lookup x = some k0 := by
   rcases h3' with q | q | q <;> (obtain ⟨k0, e, _⟩ := Zch (names := scope.names) q; exact ⟨k0, e⟩)
  obtain ⟨k0, ek⟩ := some_of
  simp only [ek, Option.isNone_some, Bool.false_or, Bool.and_eq_true, decide_eq_true_eq] at vq
  obtain ⟨vq1, vq2⟩ := vq
  cases vq2
  have hkind := hfree (x, .free) (PySem.mem_of_lookup ek) rfl
  obtain ⟨m, hn, hl⟩ := I.loc
  have hVis : Vis X.env.scope x := by
   rcases hkind with q | q
   ·exact .inr (.inl q)
   ·exact .inr (.inr q)
  obtain ⟨u, ru, lk⟩ := hl i x v vq1 h2 hVis
  refine ⟨u, ru, ?_⟩
  rcases lk with ⟨kl, _⟩ | ⟨_, c, ec, ic⟩
  ·rcases hkind with q | q <;> (rw [q] at kl; cases kl)
  ·have hkk : (compEnvC scope (Za8 X.env.cells scope.names []) s.heap.objs.size X.env).kindOf x = some .cell ∨ (compEnvC scope (Za8 X.env.cells scope.names []) s.heap.objs.size X.env).kindOf x = some .free := by
    rcases Zgc (env := X.env) ek with q | q
    ·exact .inr q
    ·exact .inl q
   obtain ⟨c', ec'⟩ := Option.isSome_iff_exists.mp (ZfG (cells := X.env.cells) scope.names [] (PySem.mem_of_lookup ek))
   have e2 := sub x c' ec'
   rw [ec] at e2
   cases e2
   exact .inr ⟨hkk, c, ec', cellK ic⟩
 ·obtain ⟨v, ic⟩ := I.cell x c (sub x c h)
  exact ⟨v, cellK ic⟩
 ·show (σ ++ List.replicate own none).length = N'.length
  rw [List.length_append, List.length_replicate, I.len, hN]
theorem Za0.grow {K : PySem.W.Frag} {H : Hp} {ι : List Addr} {env : Zal} {σ : St} (E : Za0 K H ι env σ) (n : Nat) : Za0 K H ι (env ++ List.replicate n none) (σ ++ List.replicate n none) := by
 refine ⟨by simp [E.1], fun i d h => ?_⟩
 by_cases hi : i < env.length
 ·rw [List.getElem?_append_left hi] at h
  obtain ⟨v, e, r⟩ := E.2 i d h
  exact ⟨v, by rw [List.getElem?_append_left (by rw [← E.1]; exact hi)]; exact e, r⟩
 ·rw [List.getElem?_append_right (by omega), List.getElem?_replicate] at h
  split at h <;> cases h
end
section
variable {X : Cx} {elt tg iter : Expr} {ifs : List Expr} {scope : Scope} {pos : Pos} {i : I3} {own : Nat} {g : G3} {ts : List E3} {f : E3} {N' : List Str}
structure Zeb (X : Cx) (scope : Scope) (N' : List Str) (own : Nat) : Prop where
 kind : scope.kind = .function
 cell : ∀ y ∈ scope.names, y.2 ≠ .cell
 free : ∀ y ∈ scope.names, y.2 = .free → X.env.kindOf y.1 = some .cell ∨ X.env.kindOf y.1 = some .free
 names : ∀ y ∈ scope.names, y.2 = .local → scope.names.lookup y.1 = some .local
 len : N'.length = X.N.length + own
 vis : Zj3 X.N N' scope = true
theorem ZeM {pins : List (Addr × Obj)} {σ : St} {s2 : Shared} {H2 : Hp} {ι2 : List Addr} {M2 : Store} {env : Zal} {it : Addr} {fp : List Addr} {tn : Nat → Heap → Prop} {J : It} {itd : It3} {Q : VK} {E : Value → Shared → Prop} (O : Zeb X scope N' own) (hc : X.calm = true)
  (hb : ∀ C cl s H ex, CG (ZaJ X scope N' C cl s H ex) tg g ∧ CTs (ZaJ X scope N' C cl s H ex) ifs ts ∧ C3 (ZaJ X scope N' C cl s H ex) elt f)
  (I2 : Inv X pins σ H2 s2) (T : Turn X.prog X.w X.K tg J fp it tn) (st0 : tn 0 s2.heap) (hfp : ∀ b ∈ fp, ZdI X pins H2 b) (S2 : Zx X.K H2 ι2 M2) (E2 : Za0 X.K H2 ι2 env σ) (ok : ZhT X.K H2 ι2 itd J)
  (h : Zab X.K H2 ι2 Q (ZbO itd g ts f M2.length itd.items (env ++ List.replicate own none) (M2 ++ [.lst []])))
  (RR : Value → Addr → Result → Shared → Prop)
  (fin : ∀ (acc C : Addr) (s' : Shared) (m : Str → Option Value) (H' : Hp), s'.heap.Ns C m → ZdI X pins H' C → Inv X pins σ H' s' → Q (.ref acc) H' → RR (.ref acc) C (.ok .next) s') :
  wpAny (model X.prog X.w) X.A (newList []) (fun acc s₃ => wpAny (model X.prog X.w) X.A (newFunctionEnv scope X.env.globals (Za8 X.env.cells scope.names []) [] X.env.qual none .none (some X.env)) (fun cenv s₄ =>
   codeAny (model X.prog X.w) X.A (.compStart (.ListComp elt [⟨tg, iter, ifs, 0⟩] scope pos) 0 (.ref it) acc { cenv with scope := relabel scope X.env }) (RR acc cenv.locals) s₄) E s₃) E s2 := by
 refine wpAny_newObj_type ?_
 have hD : H2 s2.heap.objs.size = none := I2.hok.fresh (Nat.le_refl _)
 obtain ⟨x3, S3, r3⟩ := S2.lst hD (Zm.nil (K := X.K) (H := H2) (ι := ι2))
 have I3 : Inv X pins σ (upd H2 s2.heap.objs.size (.lst [])) { s2 with heap := s2.heap.push { cls := .type "list", data := .seq ([] : List Value).toArray } } :=
  I2.laid (t' := s2.toks) (fun b u e => Heap.get?_push_of_some _ e) (Nat.le_refl _) ⟨Nat.zero_le _, [], 0, .nil, Heap.get?_push_size _ rfl⟩
 generalize hs3 : ({ s2 with heap := s2.heap.push { cls := .type "list", data := .seq ([] : List Value).toArray } } : Shared) = s3 at I3 ⊢
 have keep23 : ∀ b o, s2.heap.get? b = some o → s3.heap.get? b = some o := fun b o e => by rw [← hs3]; exact Heap.get?_push_of_some _ e
 have hfp3 : ∀ b ∈ fp, ZdI X pins (upd H2 s2.heap.objs.size (.lst [])) b := fun b hb => by
  refine ⟨?_, (hfp b hb).2⟩
  obtain ⟨o, e, _⟩ := T.obj _ _ st0 b hb
  rw [Zt (Nat.ne_of_lt (Heap.lt_size e))]
  exact (hfp b hb).1
 have hlt3 : ∀ b ∈ fp, b < s3.heap.objs.size := fun b hb => by
  obtain ⟨o, e, _⟩ := T.obj _ _ st0 b hb
  exact Heap.lt_size (keep23 b o e)
 have st3 : tn 0 s3.heap := T.keep _ _ _ st0 fun b hb o e => keep23 b o e
 refine wpAny_newFunctionEnv O.cell (by intro y hy; cases hy) (fun h4 hns hsb => ?_) O.kind
 have keep34 : ∀ b o, s3.heap.get? b = some o → h4.get? b = some o := fun b o e => hsb.extBut b o (Nat.ne_of_lt (Heap.lt_size e)) (Heap.get?_push_of_some _ e)
 have I4 := ZjS (own := own) (N' := N') (tk := s3.toks + ([] : List (Str × Value)).length) I3 O.kind O.cell O.free O.len O.vis hfp3 hlt3 hns keep34
 have st4 : tn 0 h4 := T.keep _ _ _ st3 fun b hb o e => keep34 b o e
 have hfp4 : ∀ {H' : Hp}, (∀ b ∈ fp, H' b = none) → ∀ b ∈ fp, ZdI (ZaJ X scope N' s3.heap.objs.size (Za8 X.env.cells scope.names []) s3 (upd H2 s2.heap.objs.size (.lst [])) fp) [] H' b := fun hn b hb => by
  have hc0 : ∀ y ∈ scope.names, y.2 = .free → ∃ c, X.env.cells.lookup y.1 = some c := fun y hy e => I2.ok.has y.1 (O.free y hy e)
  refine ⟨hn b hb, Nat.ne_of_lt (hlt3 b hb), fun hz => I4.ok.exfs b hb hz, .inl hb, fun x c hx => (I4.ok.exf b hb).2 x c hx, fun p hp => absurd (show p ∈ ([] : List (Addr × Obj)) from hp) (by simp)⟩
 obtain ⟨hg, hts, helt⟩ := hb s3.heap.objs.size (Za8 X.env.cells scope.names []) s3 (upd H2 s2.heap.objs.size (.lst [])) fp
 have loop : ∀ s₄ : Shared, s₄ = { s3 with heap := h4, toks := s3.toks + ([] : List (Str × Value)).length } →
   codeAny (model X.prog X.w) X.A (.compLoop (.ListComp elt [⟨tg, iter, ifs, 0⟩] scope pos) 0 (.ref it) (.ref s2.heap.objs.size) (compEnvC scope (Za8 X.env.cells scope.names []) s3.heap.objs.size X.env)) (RR (.ref s2.heap.objs.size) s3.heap.objs.size) s₄ := by
  rintro s₄ rfl
  refine Zf5 (fun n s' => ∃ k σ5 H5 ι5 M5 env5, Inv (ZaJ X scope N' s3.heap.objs.size (Za8 X.env.cells scope.names []) s3 (upd H2 s2.heap.objs.size (.lst [])) fp) [] σ5 H5 s' ∧ tn k s'.heap ∧ (∀ b ∈ fp, H5 b = none) ∧ n = itd.items.length - k ∧ k ≤ itd.items.length ∧
   Ext X.K H2 ι2 H5 ι5 ∧ Zx X.K H5 ι5 M5 ∧ Za0 X.K H5 ι5 env5 σ5 ∧ ι5[M2.length]? = some s2.heap.objs.size ∧ Zab X.K H5 ι5 Q (ZbO itd g ts f M2.length (itd.items.drop k) env5 M5)) ?_ itd.items.length
   ⟨0, _, _, _, _, _, I4, st4, fun b hb => (hfp3 b hb).1, rfl, Nat.zero_le _, x3, S3, (E2.mono x3).grow own, ?_, h.up x3⟩
  ·rintro n s5 ⟨k, σ5, H5, ι5, M5, env5, I5, st5, fr5, rfl, hk, x5, S5, E5, hι, h5⟩
   by_cases hlt : k < itd.items.length
   ·have hd : itd.items[k]? = some itd.items[k] := by simp [hlt]
    rw [List.drop_eq_getElem_cons hlt] at h5
    unfold ZbO at h5
    by_cases lk : locked itd M5 = true
    ·rw [if_pos lk] at h5
     obtain ⟨go, yl⟩ := (ok k H5 ι5 M5 x5 S5 lk).1 _ hd
     cases eg : g itd.items[k] env5 with
     | none => rw [eg] at h5; exact h5.elim
     | some env6 =>
      rw [eg] at h5
      refine thn (T.item (ZaJ X scope N' s3.heap.objs.size (Za8 X.env.cells scope.names []) s3 (upd H2 s2.heap.objs.size (.lst [])) fp) rfl rfl rfl hc k [] s5 σ5 H5 (fun _ _ => False) I5 (hfp4 fr5) st5 go) fun r s6 ⟨u, hr, h6⟩ => ?_
      subst hr
      refine thn h6 fun _ s7 ⟨x, H7, I7, r7, y7, st7, fr7⟩ => ?_
      obtain ⟨rfl, rx⟩ := yl x H7 y7
      have I7' := I7.pinned (hfp4 fr7) (T.obj _ _ st7)
      refine thn (hg _ s7 σ5 H7 x u (fun σ' H' => H' = H7 ∧ Za0 X.K H7 ι5 env6 σ') I7' r7 ⟨ι5, M5, env5, _, env6, S5, E5, rx, eg, fun σ' E' => ⟨rfl, E'⟩⟩) fun _ s8 ⟨σ8, H8, I8, e8, E8⟩ => ?_
      subst e8
      have back : ∀ {σ' : St} {H' : Hp} {s' : Shared}, Inv (ZaJ X scope N' s3.heap.objs.size (Za8 X.env.cells scope.names []) s3 (upd H2 s2.heap.objs.size (.lst [])) fp) ([] ++ ZeR fp s7.heap) σ' H' s' →
        Inv (ZaJ X scope N' s3.heap.objs.size (Za8 X.env.cells scope.names []) s3 (upd H2 s2.heap.objs.size (.lst [])) fp) [] σ' H' s' ∧ tn (k + 1) s'.heap ∧ ∀ b ∈ fp, H' b = none := fun {σ' H' s'} I' => by
       refine ⟨I'.unpinned, T.keep _ _ _ st7 fun b hb o e => (I'.pin (b, o) (List.mem_append_right _ (List.mem_append_right _ (ZcY hb e)))).1, fun b hb => ?_⟩
       obtain ⟨o, e, d⟩ := T.obj _ _ st7 b hb
       exact (I'.pin (b, o) (List.mem_append_right _ (List.mem_append_right _ (ZcY hb e)))).2.1
      obtain ⟨b, M9, e9, h9⟩ := Zab.bind h5
      refine thn (hts _ s8 σ8 H8 (fun b' H' => b' = b ∧ ∃ ι9, Ext X.K H8 ι5 H' ι9 ∧ Zx X.K H' ι9 M9) I8 ⟨ι5, M5, env6, S5, E8, by rw [e9]; exact fun H' ι' x' S' => ⟨rfl, ι', x', S'⟩⟩) fun b' s9 ⟨H9, I9, eb, ι9, x9, S9⟩ => ?_
      subst eb
      cases b' with
      | false =>
       rw [if_neg (by decide)] at h9 ⊢
       obtain ⟨I9', st9, fr9⟩ := back I9
       exact ⟨itd.items.length - (k + 1), by omega, k + 1, σ8, H9, ι9, M9, env6, I9', st9, fr9, rfl, hlt, x5.trans x9, S9, E8.mono x9, x9.pre _ _ hι, h9.up x9⟩
      | true =>
       rw [if_pos rfl] at h9 ⊢
       obtain ⟨d, M10, e10, h10⟩ := Zab.bind h9
       refine thn (helt _ s9 σ8 H9 (fun v H' => ∃ ι10, Ext X.K H9 ι9 H' ι10 ∧ Zx X.K H' ι10 M10 ∧ Rep X.K H' ι10 d v) I9 ⟨ι9, M9, env6, S9, E8.mono x9, by rw [e10]; exact fun v H' ι' x' S' r' => ⟨ι', x', S', r'⟩⟩) fun xv s10 ⟨v, H10, I10, r10, ι10, x10, S10, rd⟩ => ?_
       have hι10 : ι10[M2.length]? = some s2.heap.objs.size := x10.pre _ _ (x9.pre _ _ hι)
       cases hm : M10[M2.length]? with
       | none => rw [hm] at h10; exact h10.elim
       | some o =>
        cases o with
        | dct _ => rw [hm] at h10; exact h10.elim
        | fdct _ => rw [hm] at h10; exact h10.elim
        | lst xs =>
         rw [hm] at h10
         by_cases hz : xs.length < SZ
         ·simp only [if_pos hz] at h10
          obtain ⟨vs, ev, rvs⟩ := S10.obj _ _ _ hm hι10
          obtain ⟨x11, S11⟩ := S10.setl (.inr (.inl ⟨_, ev⟩)) hι10 (rvs.append (Zm.cons rd Zm.nil))
          refine thn (Zfv _ s10 σ8 H10 (.ref s2.heap.objs.size) [v] (.ref s2.heap.objs.size) [xv] (fun _ H' => H' = upd H10 s2.heap.objs.size (.lst (vs ++ [v]))) I10 rfl (.cons r10 .nil) ⟨_, vs, v, rfl, rfl, ev, by rw [rvs.length]; exact Nat.lt_of_lt_of_le hz Zbe, rfl⟩) fun _ s11 ⟨_, H11, I11, _, eH⟩ => ?_
          subst eH
          obtain ⟨I11', st11, fr11⟩ := back I11
          exact ⟨itd.items.length - (k + 1), by omega, k + 1, σ8, _, ι10, _, env6, I11', st11, fr11, rfl, hlt, ((x5.trans x9).trans x10).trans x11, S11, ((E8.mono x9).mono x10).mono x11, hι10, ((h10.up x9).up x10).up x11⟩
         ·simp only [if_neg hz] at h10; exact h10.elim
    ·rw [if_neg lk] at h5; exact h5.elim
   ·have e0 : k = itd.items.length := by omega
    subst e0
    rw [List.drop_length] at h5
    unfold ZbO at h5
    by_cases lk : locked itd M5 = true
    ·rw [if_pos lk] at h5
     refine thn (T.done (ZaJ X scope N' s3.heap.objs.size (Za8 X.env.cells scope.names []) s3 (upd H2 s2.heap.objs.size (.lst [])) fp) rfl rfl rfl hc _ [] s5 σ5 H5 (fun _ _ => False) I5 (hfp4 fr5) st5 ((ok _ H5 ι5 M5 x5 S5 lk).2 rfl)) fun r s6 ⟨hr, I6⟩ => ?_
     subst hr
     obtain ⟨m6, hn6, _⟩ := I6.loc
     have I7 : Inv X pins σ H5 s6 := I3.call' (ch := fp) I6.os I6.base I6.hok I6.bare fun b hb => ⟨(hfp3 b hb).2.2.2.1, (hfp3 b hb).2.1, (hfp3 b hb).2.2.2.2.1, (hfp3 b hb).2.2.2.2.2⟩
     exact fin _ _ s6 m6 H5 hn6 (I3.fpOk (Nat.le_refl _) I6.free) I7 (h5 _ H5 ι5 Ext.refl S5 (Rep.ref hι))
    ·rw [if_neg lk] at h5; exact h5.elim
  ·rw [← S2.len]; simp
 exact codeAny_compStart_list (loop _ rfl) (T.self _ 0 _ _ _ st4 (loop _ rfl))
theorem Znj (O : Zeb X scope N' own) (hxe : X.xe = fun _ _ => False) (hc : X.calm = true) (hi : CI X tg iter i)
  (hb : ∀ C cl s H ex, CG (ZaJ X scope N' C cl s H ex) tg g ∧ CTs (ZaJ X scope N' C cl s H ex) ifs ts ∧ C3 (ZaJ X scope N' C cl s H ex) elt f)
  (hs : ∀ x, foldedSetIterable iter X.env x = pure x := by intro _; rfl) : C3 X (.ListComp elt [⟨tg, iter, ifs, 0⟩] scope pos) (eLC i own g ts f) := by
 intro pins s σ H Q I h
 obtain ⟨ι, M, env, S, E, h⟩ := h
 obtain ⟨itd, M1, e1, h⟩ := Zab.bind h
 have hc0 : ∀ y ∈ scope.names, y.2 = .free → ∃ c, X.env.cells.lookup y.1 = some c := fun y hy e => I.ok.has y.1 (O.free y hy e)
 rw [eval_ListComp]
 refine wpAny_comprehension_free (use := none) rfl hs (ZdA hc0) O.kind O.names ?_
 refine thn (hi pins s σ H (fun J H' => ∃ ι', Ext X.K H ι H' ι' ∧ Zx X.K H' ι' M1 ∧ ZhT X.K H' ι' itd J) I ⟨ι, M, env, S, E, by rw [e1]; exact fun J H' ι' x S' o => ⟨ι', x, S', o⟩⟩) fun v s1 h1 => thn h1 fun itv s2 h2 => ?_
 obtain ⟨it, fp, tn, J, H2, rfl, I2, T, st2, f2, ι2, x2, S2, ok⟩ := h2
 refine ZeM (own := own) (g := g) (ts := ts) (f := f) O hc hb I2 T st2 f2 S2 (E.mono x2) ok (h.up x2) (fun acc C => compPost (model X.prog X.w) X.A X.xe none (EP X pins σ Q) acc C) ?_
 intro acc C s' m H' hn hf I' hq
 obtain ⟨f0, f1, f2', f3, f4, f5⟩ := hf
 exact ⟨m, hn, fun h' sb => ⟨.ref acc, H', I'.turned (t' := s'.toks) (fun b o hb e => (sb.2 b hb).trans e) f0 f1 f3 f4 f5, rfl, hq⟩⟩
theorem Ze7 (j : Nat) {x : Str} {pos' spos : Pos} (O : Zeb X scope N' own) (hxe : X.xe = fun _ _ => False) (hc : X.calm = true) (hN : X.N.Nodup) (hi : CI X tg iter i)
  (hb : ∀ C cl s H ex, CG (ZaJ X scope N' C cl s H ex) tg g ∧ CTs (ZaJ X scope N' C cl s H ex) ifs ts ∧ C3 (ZaJ X scope N' C cl s H ex) elt f)
  (hj : X.N[j]? = some x := by rfl) (hx : Loc X.env.scope x := by first | exact Or.inl rfl | exact Or.inr rfl)
  (hf : X.fn x = true ∨ X.env.scope.names.lookup x = some .local := by first | exact .inl rfl | exact .inr rfl)
  (hsw : swapsWith (.ListComp elt [⟨tg, iter, ifs, 0⟩] scope pos) (some (.Name x pos')) spos.line X.env = pure true := by rfl)
  (hs : ∀ x, foldedSetIterable iter X.env x = pure x := by intro _; rfl) : CS X (.Assign [.Name x pos'] (.ListComp elt [⟨tg, iter, ifs, 0⟩] scope pos) spos) (Zae j (eLC i own g ts f)) := by
 intro pins s σ H D I h
 obtain ⟨ι, M, env, S, E, h⟩ := h
 have h0 : Zab X.K H ι (fun v H' => D.nx (σ.set j (some v)) H') (eLC i own g ts f env M) := by
  unfold Zae at h
  cases q : eLC i own g ts f env M with
  | ok d M1 => rw [q] at h; exact fun v H1 ι1 x1 S1 r1 => h _ H1 ι1 x1 S1 ((E.mono x1).set j r1)
  | exc _ _ => rw [q] at h; exact h.elim
  | bad => rw [q] at h; exact h.elim
 obtain ⟨itd, M1, e1, h1⟩ := Zab.bind h0
 have hc0 : ∀ y ∈ scope.names, y.2 = .free → ∃ c, X.env.cells.lookup y.1 = some c := fun y hy e => I.ok.has y.1 (O.free y hy e)
 rw [exec_Assign_Name_used _ _ _ _ hsw]
 refine wpAny_bind (wpAny_standAt (wpAny_bind ?_))
 show wpAny _ X.A (do let _ ← comprehension (.ListComp elt [⟨tg, iter, ifs, 0⟩] scope pos) scope X.env _ (newList []) false (eval iter X.env) (some (assign (.Name x pos') X.env))) _ _ s
 refine wpAny_bind (wpAny_mono (wpAny_comprehension_free (use := some (assign (.Name x pos') X.env)) (Q := fun _ s' => SP X pins D .next s') rfl hs (ZdA hc0) O.kind O.names ?_) (fun _ s' hq => wpAny_pure (wpAny_pure hq)) fun _ _ e => e)
 refine thn (hi pins s σ H (fun J H' => ∃ ι', Ext X.K H ι H' ι' ∧ Zx X.K H' ι' M1 ∧ ZhT X.K H' ι' itd J) I ⟨ι, M, env, S, E, by rw [e1]; exact fun J H' ι' x S' o => ⟨ι', x, S', o⟩⟩) fun v s1 h1' => thn h1' fun itv s2 h2 => ?_
 obtain ⟨it, fp, tn, J, H2, rfl, I2, T, st2, f2, ι2, x2, S2, ok⟩ := h2
 refine ZeM (own := own) (g := g) (ts := ts) (f := f) O hc hb I2 T st2 f2 S2 (E.mono x2) ok (h1.up x2) (fun acc C => compPost (model X.prog X.w) X.A X.xe (some (assign (.Name x pos') X.env)) (fun _ s' => SP X pins D .next s') acc C) ?_
 intro acc C s' m H' hn hfC I' hq
 obtain ⟨f0, f1, f2', f3, f4, f5⟩ := hfC
 show wpAny _ X.A (assign (.Name x pos') X.env (.ref acc)) _ _ s'
 refine wpAny_assign_Name (Zfy I' hN hj hx (show RelV (.ref acc) (.ref acc) from rfl) (fun s'' I'' ⟨a, sb, ha⟩ => ?_) hf)
 have hCa : C ≠ a := by
  rcases ha with rfl | ha
  ·exact f1
  ·exact Ne.symm (f4 x a ha)
 exact ⟨m, hn.sameBut sb hCa, fun h' sb' => ⟨_, H', I''.turned (t' := s''.toks) (fun b o hb e => (sb'.2 b hb).trans e) f0 f1 f3 f4 f5, hq⟩⟩
end
end L3
namespace L3
open PySem PySem.Spec PyProof.Rows L2
theorem ZdR {k : Nat} {A : Around} (r : Zb3 k A) : A.units + 80 < cLine := by have := r.un; omega
def Its (x : Str) : It := ⟨fun i _ => i < x.cps.size, fun i H y H' => H' = H ∧ ∃ c, x.cps[i]? = some c ∧ y = .str ⟨#[c]⟩, fun i _ => i = x.cps.size⟩
theorem Zke {P : Program} {w : World} {K : PySem.W.Frag} {tg : Expr} {it : Addr} {x : Str} {t : Tok} {ty : String} (W : ∀ A' : Around, A'.handled = none → Walks P w A' it [it] [it] x.cps.size (SignAt x) (fun i h => h.IsStrIter it ty x t i))
  (hs : ∀ (A : Around) (i : Nat) (s : Shared) (Q : Value → Shared → Prop) (E : Value → Shared → Prop), s.heap.IsStrIter it ty x t i → Q (.ref it) s → wpAny (model P w) A (pyIter (.ref it)) Q E s)
  (hty : ["enumerate", "zip", "dict_itemiterator", "dict_reverseitemiterator", "odict_iterator", "itertools.zip_longest", "itertools.pairwise"].contains ty = false) : Turn P w K tg (Its x) [it] it (fun i h => h.IsStrIter it ty x t i) where
 mem := by simp
 obj := fun i h st b hb => by
  have e : b = it := by simpa using hb
  subst e
  obtain ⟨o, e, c, d⟩ := st
  exact ⟨o, e, fun v z => by rw [d] at z; cases z⟩
 keep := fun i h h' st k => let ⟨o, e, r⟩ := st; ⟨o, k it (by simp) o e, r⟩
 item := by
  intro X hP hw hK hc i pins s σ H E I hf st hg
  subst hP hw hK
  obtain ⟨f0, f1, f2, f3, f4, f5⟩ := hf it (by simp)
  refine (W X.A (I.ok.hd hc)).item i s _ _ hg st fun v h' tk hv st' kk => ?_
  obtain ⟨c, u, hx, rfl⟩ := hv
  have I1 : Inv X pins σ H { s with heap := h', toks := tk } := I.turned (fun b o hb e => kk b o (by simpa using hb) e) f0 f1 f3 f4 f5
  obtain ⟨o, e, cc, d⟩ := id st'
  exact ⟨_, rfl, ZgP (s := { s with heap := h', toks := tk }) e cc d hty ⟨.str ⟨#[c]⟩, H, I1, ⟨u, rfl⟩, ⟨rfl, c, hx, rfl⟩, st', fun b hb => (hf b hb).1⟩⟩
 done := by
  intro X hP hw hK hc i pins s σ H E I hf st hg
  subst hP hw hK
  obtain ⟨f0, f1, f2, f3, f4, f5⟩ := hf it (by simp)
  have e : i = x.cps.size := hg
  subst e
  exact (W X.A (I.ok.hd hc)).done s _ _ st fun h' tk kk => ⟨rfl, I.turned (fun b o hb e => kk b o (by simpa using hb) e) f0 f1 f3 f4 f5⟩
 self := hs
section
variable {X : Cx} {tg e o : Expr} {es : List Expr} {pos p apos cpos : Pos} {f : E3} {gl : EL3}
theorem Zlz (h : C3 X e f) : PI X tg e (fun σ H R => tOf X.K f σ H fun x H1 => ∃ z : Str, x = .str z ∧ z.length ≤ SZ ∧ ∀ J, (∀ ι, ZhT X.K H1 ι ⟨z.cps.toList.map fun c => .str [c], none⟩ J) → R J H1) := by
 intro pins s σ H R I hw
 refine thn (h pins s σ H _ I hw) fun v s1 ⟨x, H1, I1, r1, z, ex, hz, q⟩ => ?_
 subst ex
 obtain ⟨t, rfl⟩ := r1
 have key : ∀ (ty : String) (o : Obj), (∀ A' : Around, A'.handled = none → Walks X.prog X.w A' s1.heap.objs.size [s1.heap.objs.size] [s1.heap.objs.size] z.cps.size (SignAt z) (fun i h => h.IsStrIter s1.heap.objs.size ty z t i)) →
   (∀ (A : Around) (i : Nat) (s : Shared) (Q : Value → Shared → Prop) (E : Value → Shared → Prop), s.heap.IsStrIter s1.heap.objs.size ty z t i → Q (.ref s1.heap.objs.size) s → wpAny (model X.prog X.w) A (pyIter (.ref s1.heap.objs.size)) Q E s) →
   ["enumerate", "zip", "dict_itemiterator", "dict_reverseitemiterator", "odict_iterator", "itertools.zip_longest", "itertools.pairwise"].contains ty = false → (s1.heap.push o).IsStrIter s1.heap.objs.size ty z t 0 →
   PIE X pins σ tg R (.ref s1.heap.objs.size) { s1 with heap := s1.heap.push o } := by
  intro ty o W hs hty st
  refine ⟨s1.heap.objs.size, [s1.heap.objs.size], _, _, H1, rfl, I1.kept (t' := s1.toks) fun b o e => Heap.get?_push_of_some _ e, Zke W hs hty, st, fun b hb => ?_, q _ fun ι => ?_⟩
  ·have e : b = s1.heap.objs.size := by simpa using hb
   subst e
   exact I1.fpOk (Nat.le_refl _) (I1.hok.fresh (Nat.le_refl _))
  ·intro i H2 ι2 M2 x S _
   refine ⟨fun d hd => ?_, fun hl => ?_⟩
   ·rw [List.getElem?_map] at hd
    cases hq : z.cps.toList[i]? with
    | none => rw [hq] at hd; cases hd
    | some c =>
     rw [hq] at hd
     have hd' : D.str [c] = d := by simpa using hd
     subst hd'
     have hi : i < z.cps.size := by
      have := (List.getElem?_eq_some_iff.mp hq).1
      simpa using this
     refine ⟨hi, fun y H3 hy => ⟨hy.1, ?_⟩⟩
     obtain ⟨_, c', hc', rfl⟩ := hy
     have : c' = c := by
      rw [← Array.getElem?_toList, hq] at hc'
      exact (Option.some.inj hc').symm
     subst this
     exact Rep.str
   ·show i = z.cps.size
    rw [hl]
    simp
 cases ha : z.cps.all (· < 128)
 ·exact wpAny_pyIter_wide ha (key "str_iterator" _ (fun A' hA => Walks.strWide hA _ z t) (fun _ _ _ _ _ st h => wpAny_pyIter_striter_wide st h) (by decide) ⟨_, Heap.get?_push_size _ rfl, rfl, rfl⟩)
 ·exact wpAny_pyIter_ascii ha (key "str_ascii_iterator" _ (fun A' hA => Walks.strAscii hA _ z t) (fun _ _ _ _ _ st h => wpAny_pyIter_striter_ascii st h) (by decide) ⟨_, Heap.get?_push_size _ rfl, rfl, rfl⟩)
theorem ZlW (h : C3 X e f) : CI X tg e (Zhw f) := Zlw h (Zlz h)
theorem ZlA {K : PySem.W.Frag} {T : String} {ty : D → Store → Bool} {m : D → List D → Store → R3 D} (hty : ∀ H ι M a x, Zx K H ι M → Rep K H ι a x → ty a M = true → tyV K T x H) (σ : St) (H : Hp) (Q : VK) (h : tOf K (Zcq ty m f gl) σ H Q) : tBM K T (rM K m) (tOf K f) (tAf K gl) σ H Q := by
 obtain ⟨ι, M, env, S, E, h⟩ := h
 obtain ⟨a, M1, e1, h⟩ := Zab.bind h
 refine ⟨ι, M, env, S, E, ?_⟩
 rw [e1]
 intro v H1 ι1 x1 S1 r1
 by_cases ht : ty a M1 = true
 ·rw [if_pos ht] at h
  obtain ⟨ds, M2, e2, h⟩ := Zab.bind h
  refine ⟨hty _ _ _ _ _ S1 r1 ht, ι1, M1, env, S1, E.mono x1, ?_⟩
  rw [e2]
  intro vs H2 ι2 x2 S2 r2
  exact ⟨ι2, M2, a, ds, S2, r1.mono x2, r2, (h.up x1).up x2⟩
 ·rw [if_neg ht] at h; exact h.elim
theorem ZlU {K : PySem.W.Frag} (H : Hp) (ι : List Addr) (M : Store) (a : D) (x : V) (S : Zx K H ι M) (r : Rep K H ι a x) (h : tyL a M = true) : tyV K "list" x H := by
 cases a with
 | ref n =>
  simp only [tyL] at h
  cases hn : M[n]? with
  | none => simp [hn] at h
  | some o =>
   cases o with
   | dct _ => simp [hn] at h
   | fdct _ => simp [hn] at h
   | lst xs =>
    obtain ⟨p, hp, rfl⟩ := r.ref_inv
    obtain ⟨vs, e, _⟩ := S.obj n _ p hn hp
    exact .inl ⟨rfl, vs, SqL.of e⟩
 | _ => simp at h
theorem _root_.L2.MtR.imp {id : String} {r r' : V → List V → Hp → VK → Prop} (h : MtR X id r) (i : ∀ x xs H Q, r' x xs H Q → r x xs H Q) : MtR X id r' := fun pins s σ H x xs v us Q I rx rs q => h pins s σ H x xs v us Q I rx rs (i x xs H Q q)
theorem Zjk : MtR X "list.append" (rM X.K Zbv) := MtR.imp (r := Zib) Zfv fun x xs H Q ⟨ι, M, a, ds, S, ra, rd, h⟩ => by
 cases a with
 | ref n =>
  cases ds with
  | nil => exact h.elim
  | cons d ds =>
   cases ds with
   | cons _ _ => exact h.elim
   | nil =>
    simp only [Zbv] at h
    cases hn : M[n]? with
    | none => simp only [hn] at h; exact h.elim
    | some o =>
     cases o with
     | dct _ => simp only [hn] at h; exact h.elim
     | fdct _ => simp only [hn] at h; exact h.elim
     | lst z =>
      simp only [hn] at h
      split at h
      ·rename_i hz
       obtain ⟨p, hp, rfl⟩ := ra.ref_inv
       obtain ⟨v, ws, rfl, r1, r2⟩ := rd.cons_inv
       have := r2.nil_inv
       subst this
       obtain ⟨vs, e, rv⟩ := S.obj n _ p hn hp
       obtain ⟨x2, S2⟩ := S.setl (.inr (.inl ⟨_, e⟩)) hp (rv.append (Zm.cons r1 Zm.nil))
       exact ⟨p, vs, v, rfl, rfl, e, by rw [rv.length]; exact Nat.lt_of_lt_of_le hz Zbe, h _ _ _ x2 S2 Rep.non⟩
      ·exact h.elim
 | _ => exact h.elim
theorem ZcN (ho : C3 X o f) (ha : CA X (e :: es) gl)
  (hbase : attributeBase o "append" X.env (eval o X.env) = eval o X.env := by rfl)
  (hfew : ((backTo cpos (starEach (e :: es) X.env)).all (fun x => !x.1) && (backToKw cpos (keywordEach [] X.env)).all (fun x => x.1.isSome)
   && decide ((e :: es).length + ([] : List Keyword).length + (if ([] : List Keyword).isEmpty then 0 else 1) < 30)) = true := by rfl)
  (hline : (apos.endLine == cpos.line) = true := by rfl) (hs : starEach (e :: es) X.env = (false, eval e X.env) :: starEach es X.env := by rfl) (hplain : (backTo cpos (starEach es X.env)).any (·.1) = false := by rfl) :
  C3 X (.Call (.Attribute o "append" apos) (e :: es) [] cpos) (Zcq tyL Zbv f gl) :=
 (Zm9 PySem.F.plainAttrs_list PySem.F.slot_list_append PySem.F.type_list_append Zjk ho ha hbase hfew hline hs hplain).imp (ZlA ZlU)
theorem Zm3 : OpR X (compareOp .In) (r2 X.K fun a b M => match a, b with | .str [c], .str y => .ok (.bl (decide (c ∈ y))) M | _, _ => .bad) := OpR.imp Zi6 fun x y H Q ⟨ι, M, a, b, S, ra, rb, h⟩ => by
 cases a with
 | str z =>
  cases z with
  | nil => cases b <;> exact h.elim
  | cons c z =>
   cases z with
   | cons _ _ => cases b <;> exact h.elim
   | nil =>
    cases b with
    | str y =>
     refine ⟨_, _, ra.str_inv, rb.str_inv, ?_⟩
     have e := StrLaws.found_one (⟨y.toArray⟩ : Str) c
     rw [show (⟨[c].toArray⟩ : Str) = ⟨#[c]⟩ from rfl, e]
     exact Zab.ok h S Rep.bl
    | _ => exact h.elim
 | _ => cases b <;> exact h.elim
end
end L3
namespace L3
open PySem PySem.Spec PyProof.Rows L2
section
variable {X : Cx}
theorem ZlK {pins : List (Addr × Obj)} {σ : St} {H : Hp} {s : Shared} {ι : List Addr} {M : Store} {a b : D} {x y : V} {u v : Value} {k : Bool} (hu : X.A.units + 80 < cLine) (I : Inv X pins σ H s) (S : Zx X.K H ι M)
  (ra : Rep X.K H ι a x) (rb : Rep X.K H ι b y) (ru : RelV x u) (rv : RelV y v) (h : eqD a b M = some k) : SeqAt.RcNeAt X.A s u v (!k) := by
 cases a with
 | ref n =>
  cases b with
  | ref m =>
   simp only [eqD] at h
   cases hn : M[n]? with
   | none => simp [hn] at h
   | some o =>
    cases o with
    | dct _ => simp [hn] at h
    | fdct _ => simp [hn] at h
    | lst ds =>
     cases hm : M[m]? with
     | none => simp [hn, hm] at h
     | some o =>
      cases o with
      | dct _ => simp [hn, hm] at h
      | fdct _ => simp [hn, hm] at h
      | lst es =>
       simp only [hn, hm] at h
       split at h
       ·rename_i hp
        cases h
        rw [Bool.and_eq_true] at hp
        obtain ⟨p, hp1, rfl⟩ := ra.ref_inv
        obtain ⟨q, hq1, rfl⟩ := rb.ref_inv
        cases ru
        cases rv
        obtain ⟨vs, e1, r1⟩ := S.obj n _ p hn hp1
        obtain ⟨ws, e2, r2⟩ := S.obj m _ q hm hq1
        obtain ⟨its, rvs, pl1, _⟩ := I.list (SqL.of e1)
        obtain ⟨its2, rws, pl2, _⟩ := I.list (SqL.of e2)
        have it1 := pl1.isList
        have it2 := pl2.isList
        have l1 : its.length = ds.length := by rw [← rvs.length, r1.length]
        have l2 : its2.length = es.length := by rw [← rws.length, r2.length]
        have hu1 : X.A.units < cLine := by omega
        by_cases hl : ds.length = es.length
        ·have key : (List.range its.toArray.size).all (fun j => match ds[j]?, es[j]? with | some a, some b => deq a b | _, _ => false) = ZbG ds es := by
          rw [List.size_toArray, l1]
          exact ZbH hl fun j a b h1 h2 => by rw [h1, h2]
         rw [← key]
         refine SeqAt.RcNeAt.lists it1 it2 (by rw [List.size_toArray, List.size_toArray, l1, l2, hl]) hu1 fun j h1 h2 => ?_
         have h1' : j < ds.length := by rw [← l1]; simpa using h1
         have h2' : j < es.length := by rw [← l2]; simpa using h2
         have q1 : ds[j]? = some ds[j] := by simp [h1']
         have q2 : es[j]? = some es[j] := by simp [h2']
         rw [q1, q2]
         obtain ⟨v1, g1, z1⟩ := r1.get q1
         obtain ⟨v2, g2, z2⟩ := r2.get q2
         obtain ⟨u1, k1, w1⟩ := rvs.get g1
         obtain ⟨u2, k2, w2⟩ := rws.get g2
         have m1 : its.toArray[j] = u1 := by
          have := List.getElem?_eq_some_iff.mp k1
          simpa using this.2
         have m2 : its2.toArray[j] = u2 := by
          have := List.getElem?_eq_some_iff.mp k2
          simpa using this.2
         rw [m1, m2]
         exact ZfZ I DEEP X.A.in1 ds[j] es[j] v1 v2 u1 u2 (by rw [units_in1]; show X.A.units + 1 + 60 + 1 < cLine; omega) (List.all_eq_true.mp hp.1 _ (List.getElem_mem h1')) (List.all_eq_true.mp hp.2 _ (List.getElem_mem h2')) z1 z2 w1 w2
        ·have z : ZbG ds es = false := by
          cases q : ZbG ds es with
          | false => rfl
          | true => exact absurd (ZcK q) hl
         rw [z]
         exact SeqAt.RcNeAt.lists_lengths it1 it2 (by rw [List.size_toArray, List.size_toArray, l1, l2]; simpa using hl) hu1
       ·cases h
  | _ => simp [eqD] at h
 | int i => cases b with
  | int j =>
   simp only [eqD] at h
   cases h
   have := ra.int_inv; subst this; have := rb.int_inv; subst this
   obtain ⟨t, rfl⟩ := ru
   obtain ⟨t', rfl⟩ := rv
   rw [← Bool.beq_eq_decide_eq]
   exact SeqAt.RcNeAt.int_int _ _ _ _
  | _ => simp [eqD] at h
 | str i => cases b with
  | str j =>
   simp only [eqD] at h
   cases h
   have := ra.str_inv; subst this; have := rb.str_inv; subst this
   obtain ⟨t, rfl⟩ := ru
   obtain ⟨t', rfl⟩ := rv
   have e : decide (i = j) = ((⟨i.toArray⟩ : Str) == ⟨j.toArray⟩) := by
    rw [← Bool.beq_eq_decide_eq, ← ZdD]
    by_cases h : (⟨i.toArray⟩ : Str) = ⟨j.toArray⟩
    ·simp [h]
    ·simp [h]
   rw [e]
   exact SeqAt.RcNeAt.str_str _ _ _ _
  | _ => simp [eqD] at h
 | bl i => cases b with
  | bl j =>
   simp only [eqD] at h
   cases h
   have := ra.bl_inv; subst this; have := rb.bl_inv; subst this
   cases ru
   cases rv
   rw [← Bool.beq_eq_decide_eq]
   exact SeqAt.RcNeAt.bool_bool _ _
  | _ => simp [eqD] at h
 | tup ds => cases b with
  | tup es =>
   simp only [eqD] at h
   split at h
   ·rename_i hp
    cases h
    rw [Bool.and_eq_true] at hp
    obtain ⟨p, vs, rfl, s1, r1⟩ := ra.tup_inv
    obtain ⟨p', ws, rfl, s2, r2⟩ := rb.tup_inv
    cases ru
    cases rv
    obtain ⟨its, rvs, ht, _⟩ := I.tuple s1
    obtain ⟨its2, rws, ht2, _⟩ := I.tuple s2
    have e1 : its.length = ds.length := by rw [← rvs.length, r1.length]
    have e2 : its2.length = es.length := by rw [← rws.length, r2.length]
    have hu1 : X.A.units < cLine := by omega
    have key : ((List.range (min its.toArray.size its2.toArray.size)).all (fun j => match ds[j]?, es[j]? with | some a, some b => deq a b | _, _ => false) && its.toArray.size == its2.toArray.size) = ZbG ds es := by
     rw [List.size_toArray, List.size_toArray, e1, e2]
     by_cases hl : ds.length = es.length
     ·rw [hl, Nat.min_self, beq_self_eq_true, Bool.and_true, ← hl]
      exact ZbH hl fun j a b h1 h2 => by rw [h1, h2]
     ·have z : ZbG ds es = false := by
       cases q : ZbG ds es with
       | false => rfl
       | true => exact absurd (ZcK q) hl
      rw [z, beq_eq_false_iff_ne.mpr hl, Bool.and_false]
    rw [← key]
    refine SeqAt.RcNeAt.tuples (show s.heap.IsTuple p its.toArray from ht) (show s.heap.IsTuple p' its2.toArray from ht2) hu1 fun j h1 h2 => ?_
    have h1' : j < ds.length := by rw [← e1]; simpa using h1
    have h2' : j < es.length := by rw [← e2]; simpa using h2
    have q1 : ds[j]? = some ds[j] := by simp [h1']
    have q2 : es[j]? = some es[j] := by simp [h2']
    rw [q1, q2]
    obtain ⟨v1, g1, z1⟩ := r1.get q1
    obtain ⟨v2, g2, z2⟩ := r2.get q2
    obtain ⟨u1, k1, w1⟩ := rvs.get g1
    obtain ⟨u2, k2, w2⟩ := rws.get g2
    have m1 : its.toArray[j] = u1 := by
     have := List.getElem?_eq_some_iff.mp k1
     simpa using this.2
    have m2 : its2.toArray[j] = u2 := by
     have := List.getElem?_eq_some_iff.mp k2
     simpa using this.2
    rw [m1, m2]
    exact ZfZ I DEEP X.A.in1 ds[j] es[j] v1 v2 u1 u2 (by rw [units_in1]; show X.A.units + 1 + 60 + 1 < cLine; omega) (List.all_eq_true.mp hp.1 _ (List.getElem_mem h1')) (List.all_eq_true.mp hp.2 _ (List.getElem_mem h2')) z1 z2 w1 w2
   ·cases h
  | _ => simp [eqD] at h
 | _ => cases b <;> simp [eqD] at h
theorem Zjv (hu : X.A.units + 80 < cLine) : OpR X (compareOp .NotEq) (r2 X.K Zc9) := by
 intro pins s σ H x y v u Q I rx ry h
 obtain ⟨ι, M, a, b, S, ra, rb, h⟩ := h
 unfold Zc9 at h
 cases q : eqD a b M with
 | none => rw [q] at h; exact h.elim
 | some k =>
  rw [q] at h
  exact ZlK hu I S ra rb rx ry q X.prog X.w X.xe _ ⟨.bl (!k), H, I, rfl, Zab.ok h S Rep.bl⟩
theorem ZgK {K : PySem.W.Frag} {H : Hp} {ι : List Addr} {d : D} {v : V} (r : Rep K H ι d v) (h : Zas d = true) : Zdw v = true := by
 cases d with
 | non => rw [r.non_inv]; rfl
 | bl b => rw [r.bl_inv]; rfl
 | int i => rw [r.int_inv]; rfl
 | str x => rw [r.str_inv]; rfl
 | _ => simp [Zas] at h
theorem ZkI (x y : List Nat) : ((⟨x.toArray⟩ : Str) == ⟨y.toArray⟩) = (x == y) := by
 rw [Bool.eq_iff_iff]
 simp
theorem ZkP {K : PySem.W.Frag} {H : Hp} {ι : List Addr} {d e : D} {v w : V} (r : Rep K H ι d v) (q : Rep K H ι e w) (h : Zas d = true) (h' : Zas e = true) : eqV v w = deq d e := by
 cases d with
 | non => have := r.non_inv; subst this; cases e with
  | non => have := q.non_inv; subst this; rfl
  | bl _ => have := q.bl_inv; subst this; rfl
  | int _ => have := q.int_inv; subst this; rfl
  | str _ => have := q.str_inv; subst this; rfl
  | _ => simp [Zas] at h'
 | bl _ => have := r.bl_inv; subst this; cases e with
  | non => have := q.non_inv; subst this; rfl
  | bl _ => have := q.bl_inv; subst this; rfl
  | int _ => have := q.int_inv; subst this; rfl
  | str _ => have := q.str_inv; subst this; rfl
  | _ => simp [Zas] at h'
 | int _ => have := r.int_inv; subst this; cases e with
  | non => have := q.non_inv; subst this; rfl
  | bl _ => have := q.bl_inv; subst this; rfl
  | int _ => have := q.int_inv; subst this; rfl
  | str _ => have := q.str_inv; subst this; rfl
  | _ => simp [Zas] at h'
 | str _ => have := r.str_inv; subst this; cases e with
  | non => have := q.non_inv; subst this; rfl
  | bl _ => have := q.bl_inv; subst this; rfl
  | int _ => have := q.int_inv; subst this; rfl
  | str _ => have := q.str_inv; subst this; exact ZkI _ _
  | _ => simp [Zas] at h'
 | _ => simp [Zas] at h
theorem Ziq {K : PySem.W.Frag} {H : Hp} {ι : List Addr} {d : D} {v : V} (r : Rep K H ι d v) (h : Zas d = true) : ∀ {ds : List D} {vs : List V}, Zm K H ι ds vs → ds.all Zas = true → vs.all Zdw = true ∧ inV v vs = ds.any fun y => deq y d
 | [], _, q, _ => by rw [q.nil_inv]; exact ⟨rfl, rfl⟩
 | e :: ds, _, q, hd => by
  obtain ⟨w, ws, rfl, r1, r2⟩ := q.cons_inv
  rw [List.all_cons, Bool.and_eq_true] at hd
  obtain ⟨h1, h2⟩ := Ziq r h r2 hd.2
  refine ⟨by rw [List.all_cons, ZgK r1 hd.1, h1]; rfl, ?_⟩
  unfold inV at h2 ⊢
  rw [List.any_cons, List.any_cons, h2, ZkP r1 r hd.1 h]
theorem ZlM (hu : X.A.units + 80 < cLine) : OpR X (compareOp .In) (r2 X.K ZgU) := OpR.imp (OpR.or Zm3 ZiD) fun x y H Q ⟨ι, M, a, b, S, ra, rb, h⟩ => by
 have seq : ∀ (d : D) (ys : List D), b = .tup ys → (Zas d && ys.all Zas) = true → a = d → Q (.bl (ys.any fun y => deq y d)) H → rIn X.K false x y H Q := by
  rintro d ys rfl hf rfl q
  rw [Bool.and_eq_true] at hf
  obtain ⟨p, vs, rfl, s, r⟩ := rb.tup_inv
  obtain ⟨h1, h2⟩ := Ziq ra hf.1 r hf.2
  exact ⟨p, vs, rfl, .inr s, ZgK ra hf.1, h1, by rw [if_neg (by decide), h2]; exact q⟩
 cases b with
 | tup ys =>
  have h' : Zab X.K H ι Q (match (if Zas a && ys.all Zas then some (ys.any fun y => deq y a) else none) with | some r => .ok (.bl r) M | none => .bad) := by
   cases a with
   | str z => cases z with
    | nil => exact h
    | cons c z => cases z <;> exact h
   | _ => exact h
  by_cases hf : (Zas a && ys.all Zas) = true
  ·rw [if_pos hf] at h'
   exact .inr (seq a ys rfl hf rfl (Zab.ok h' S Rep.bl))
  ·rw [if_neg hf] at h'; exact h'.elim
 | str y => cases a with
  | str z => cases z with
   | nil => exact h.elim
   | cons c z => cases z with
    | nil => exact .inl ⟨ι, M, _, _, S, ra, rb, h⟩
    | cons _ _ => exact h.elim
  | _ => exact h.elim
 | _ => cases a with
  | str z => cases z with
   | nil => exact h.elim
   | cons c z => cases z <;> exact h.elim
  | _ => exact h.elim
theorem Zka (x : List Nat) (n : Nat) (a : List Nat) : (List.replicate n x.toArray).foldl (· ++ ·) a.toArray = (a ++ (List.replicate n x).flatten).toArray := by
 induction n generalizing a with
 | zero => simp
 | succ n ih =>
  rw [List.replicate_succ, List.foldl_cons, List.replicate_succ, List.flatten_cons]
  have := ih (a ++ x)
  simp only [List.append_toArray] at this ⊢
  rw [this]
  simp
theorem Zmg (x : List Nat) (k : Int) : Txt.mul (⟨x.toArray⟩ : Str) k = ⟨(List.replicate k.toNat x).flatten.toArray⟩ := by
 unfold Txt.mul
 split
 ·rename_i h
  have : k.toNat = 0 := by omega
  rw [this]; rfl
 ·split
  ·rename_i h1 h2
   simp only [Bool.or_eq_true, beq_iff_eq, Str.length, List.size_toArray] at h2
   rcases h2 with h2 | h2
   ·subst h2; simp
   ·have : x = [] := List.eq_nil_of_length_eq_zero h2
    subst this
    simp
  ·have := Zka x k.toNat []
   rw [List.nil_append] at this
   exact congrArg Str.mk this
theorem Zm.repl {K : PySem.W.Frag} {H : Hp} {ι : List Addr} {ds : List D} {vs : List V} (r : Zm K H ι ds vs) : ∀ k : Nat, Zm K H ι (List.replicate k ds).flatten (List.replicate k vs).flatten
 | 0 => Zm.nil
 | k + 1 => by rw [List.replicate_succ, List.replicate_succ, List.flatten_cons, List.flatten_cons]; exact r.append (Zm.repl r k)
theorem ZfR : OpR X (binaryOp .Mult) (r2 X.K Zdf) := by
 have hs : OpR X (binaryOp .Mult) (fun x y H Q => ∃ (z : List Nat) (k : Int), x = .str ⟨z.toArray⟩ ∧ y = .int k ∧ z.length * k.toNat ≤ 1000000 ∧ k < 1000000 ∧ -1000000 < k ∧ Q (.str ⟨(List.replicate k.toNat z).flatten.toArray⟩) H) := by
  intro pins s σ H x y v u Q I rx ry h
  obtain ⟨z, k, rfl, rfl, h1, h2, h3, q⟩ := h
  obtain ⟨t, rfl⟩ := rx
  obtain ⟨t', rfl⟩ := ry
  refine SB.mul ⟨?_, fun h4 h5 => ?_, fun h4 h5 => ?_⟩ fun t'' tk => ?_
  ·simp; omega
  ·simp only [Str.length, List.size_toArray]
   simp at h4 h5
   have hk : 2 ≤ k := by
    simp only [Str.length, List.size_toArray] at h5
    omega
   have e : (k.toNat : Int) = k := by omega
   have hm : (z.length : Int) * k ≤ 1000000 := by
    have h1' : ((z.length * k.toNat : Nat) : Int) ≤ 1000000 := Int.ofNat_le.mpr h1
    rw [Int.natCast_mul, e] at h1'
    exact h1'
   have hd : (z.length : Int) ≤ 9223372036854775807 / k := Int.le_ediv_of_mul_le (by omega) (by omega)
   show ¬ ((z.length : Int) > (2 ^ 63 - 1) / k)
   have e3 : ((2 : Int) ^ 63 - 1) = 9223372036854775807 := by decide
   rw [e3]
   omega
  ·unfold Builtin.Str.tooLong
   simp only [Str.length, List.size_toArray, decide_eq_false_iff_not]
   have hsz : (1000000 : Nat) ≤ sizeLine := Zbe
   omega
  ·rw [Zmg]
   exact ⟨.str _, H, I.tok _, ⟨_, rfl⟩, q⟩
 refine OpR.imp (OpR.or ZlE (OpR.or hs Zmo)) fun x y H Q ⟨ι, M, a, b, S, ra, rb, h⟩ => ?_
 cases a with
 | int i => cases b with
  | int j =>
   simp only [Zdf] at h
   split at h
   ·rename_i hm
    refine .inl ⟨i, j, ra.int_inv, rb.int_inv, ?_, Zab.ok h S Rep.int⟩
    simp only [ZaI, Bool.or_eq_true, Bool.and_eq_true, decide_eq_true_eq] at hm
    exact hm
   ·exact h.elim
  | _ => exact h.elim
 | str z => cases b with
  | int k =>
   simp only [Zdf] at h
   split at h
   ·rename_i hz
    exact .inr (.inl ⟨z, k, ra.str_inv, rb.int_inv, hz.1, hz.2.1, hz.2.2, Zab.ok h S Rep.str⟩)
   ·exact h.elim
  | _ => exact h.elim
 | ref n => cases b with
  | int k =>
   simp only [Zdf] at h
   cases hn : M[n]? with
   | none => simp only [hn] at h; exact h.elim
   | some o =>
    cases o with
    | dct _ => simp only [hn] at h; exact h.elim
    | fdct _ => simp only [hn] at h; exact h.elim
    | lst z =>
     simp only [hn] at h
     split at h
     ·rename_i hz
      obtain ⟨p, hp, rfl⟩ := ra.ref_inv
      obtain ⟨vs, e, r⟩ := S.obj n _ p hn hp
      refine .inr (.inr ⟨p, k, vs, rfl, rb.int_inv, e, by omega, by omega, by rw [r.length]; exact Nat.le_trans hz.1 Zbe, fun q hq => ?_⟩)
      obtain ⟨x2, S2, r2⟩ := S.lst hq (Zm.repl r k.toNat)
      exact h _ _ _ x2 S2 r2
     ·exact h.elim
  | _ => exact h.elim
 | _ => cases b <;> exact h.elim
theorem Ziu (n d : Nat) (hd : d ≤ n) (o : Option Int) : (match o with | none => (d : Int) | some i => max 0 (min (if i < 0 then i + (n : Int) else i) (n : Int))) = ((sIx n d o : Nat) : Int) := by
 cases o with
 | none => rfl
 | some v =>
  simp only [sIx]
  split <;> omega
theorem Zem (lo hi : Option Int) (n : Nat) : Builtin.Str.strSliceIndices lo hi 1 n = (List.range (sIx n n hi - sIx n 0 lo)).map (fun k => sIx n 0 lo + k) := by
 have e1 := Ziu n 0 (Nat.zero_le _) lo
 have e2 := Ziu n n (Nat.le_refl _) hi
 have key : Builtin.Str.strSliceIndices lo hi 1 n = sliceRange ((sIx n 0 lo : Nat) : Int) ((sIx n n hi : Nat) : Int) 1 := by
  rw [← e1, ← e2]
  simp only [Builtin.Str.strSliceIndices, show ((1 : Int) > 0) = True from by simp, if_true]
  cases lo <;> cases hi <;> rfl
 rw [key]
 generalize sIx n 0 lo = a
 generalize sIx n n hi = b
 simp only [sliceRange, show ((1 : Int) > 0) = True from by simp, if_true]
 by_cases hlt : (a : Int) < b
 ·have e3 : (((b : Int) - a + 1 - 1) / 1).toNat = b - a := by first | omega | (simp; done) | (simp; omega)
  simp only [hlt, if_true, e3]
  refine List.map_congr_left fun k _ => ?_
  omega
 ·have : b - a = 0 := by omega
  simp [hlt, this]
theorem Zgr (n d : Nat) (hd : d ≤ n) (o : Option Int) : sIx n d o ≤ n := by
 cases o with
 | none => exact hd
 | some v => simp only [sIx]; split <;> omega
theorem Zh7 (z : List Nat) (lo hi : Option Int) (l u : Option (Int × Tok)) (hl : l.map (·.1) = lo) (hu : u.map (·.1) = hi) :
  (if ((1 : Int) == 1 && (slicePicked ⟨z.toArray⟩ l u none).length == (⟨z.toArray⟩ : Str).length) = true then (⟨z.toArray⟩ : Str) else ⟨((slicePicked ⟨z.toArray⟩ l u none).filterMap ((⟨z.toArray⟩ : Str).cps[·]?)).toArray⟩) = ⟨(cutD z lo hi).toArray⟩ := by
 have e0 : slicePicked ⟨z.toArray⟩ l u none = (List.range (sIx z.length z.length hi - sIx z.length 0 lo)).map (fun k => sIx z.length 0 lo + k) := by
  unfold slicePicked
  rw [hl, hu]
  simp only [Str.length, List.size_toArray]
  exact Zem lo hi z.length
 have hb := Zgr z.length z.length (Nat.le_refl _) hi
 rw [e0]
 have pick : ((List.range (sIx z.length z.length hi - sIx z.length 0 lo)).map (fun k => sIx z.length 0 lo + k)).filterMap ((⟨z.toArray⟩ : Str).cps[·]?) = cutD z lo hi := by
  unfold cutD
  by_cases hab : sIx z.length 0 lo ≤ sIx z.length z.length hi
  ·have h := StrLaws.picks z (sIx z.length z.length hi - sIx z.length 0 lo) (sIx z.length 0 lo) (by omega)
   simpa using h
  ·have : sIx z.length z.length hi - sIx z.length 0 lo = 0 := by omega
   rw [this]
   simp
 rw [pick]
 split
 ·rename_i hc
  simp only [List.length_map, List.length_range, Str.length, List.size_toArray, Bool.and_eq_true, beq_iff_eq] at hc
  have hc2 := hc.2
  have h0 : sIx z.length 0 lo = 0 ∨ z.length = 0 := by omega
  have : cutD z lo hi = z := by
   unfold cutD
   rcases h0 with h0 | h0
   ·rw [h0, List.drop_zero, List.take_of_length_le (by omega)]
   ·have : z = [] := List.eq_nil_of_length_eq_zero h0
    subst this
    simp
  rw [this]
 ·rfl
theorem Zl5 : SlR X (fun x lo hi H Q => ∃ z : List Nat, x = .str ⟨z.toArray⟩ ∧ z.length ≤ SZ ∧ Q (.str ⟨(cutD z lo hi).toArray⟩) H) := by
 intro pins s σ H x v vl vu lo hi sl Q I rx hs pl pu h
 obtain ⟨z, rfl, hz, q⟩ := h
 obtain ⟨t, rfl⟩ := rx
 have part : ∀ {v : Value} {o : Option Int}, IsPart v o → ∃ p : Option (Int × Tok), v = partValue p ∧ p.map (·.1) = o := by
  intro v o h
  cases h with
  | none => exact ⟨none, rfl, rfl⟩
  | int i t => exact ⟨some (i, t), rfl, rfl⟩
 obtain ⟨l, rfl, hl⟩ := part pl
 obtain ⟨u, rfl, hu⟩ := part pu
 refine ⟨"str", _, PySem.F.slot_str_getitem.lookup, typeIs_str _ _ _, ?_⟩
 refine wpAny_getItem_str_slice (l := l) (u := u) (st := none) hs rfl ?_
 unfold sliceMade
 refine post_val_or_made (fun _ => ?_) fun t' k => ?_
 ·show ((slicePicked ⟨z.toArray⟩ l u none).filterMap ((⟨z.toArray⟩ : Str).cps[·]?)).toArray.size ≤ sizeLine
  rw [List.size_toArray]
  refine Nat.le_trans (List.length_filterMap_le _ _) ?_
  show (Builtin.Str.strSliceIndices (l.map (·.1)) (u.map (·.1)) 1 (⟨z.toArray⟩ : Str).length).length ≤ sizeLine
  rw [Zem]
  simp only [List.length_map, List.length_range, Str.length, List.size_toArray]
  have := Zgr z.length z.length (Nat.le_refl _) (u.map (·.1))
  have := Zbe
  omega
 ·have e := Zh7 z lo hi l u hl hu
  have e' : (if (((none : Option (Int × Tok)).map (·.1)).getD 1 == 1 && (slicePicked ⟨z.toArray⟩ l u none).length == (⟨z.toArray⟩ : Str).length) = true then (⟨z.toArray⟩ : Str) else ⟨((slicePicked ⟨z.toArray⟩ l u none).filterMap ((⟨z.toArray⟩ : Str).cps[·]?)).toArray⟩) = ⟨(cutD z lo hi).toArray⟩ := e
  rw [e']
  exact ⟨.str _, H, I.tok _, ⟨_, rfl⟩, q⟩
theorem ZdE {prog : Program} {w : World} {A : Around} {E : Value → Shared → Prop} {s : Shared} {t sl : Addr} {items : Array Value} {vl vu : Value} {lo hi : Option Int} {Q : Value → Shared → Prop} (ht : IsTup s.heap t items) (hs : s.heap.IsSliceOf sl vl vu .none) (pl : IsPart vl lo) (pu : IsPart vu hi)
  (hw : HT.sIx items.size 0 lo = 0 ∧ HT.sIx items.size items.size hi = items.size) (h : Q (.ref t) s) : wpAny (model prog w) A (getItem (.ref t) (.ref sl)) Q E s := by
 obtain ⟨os, hos, hcs, hds⟩ := id hs
 have hTs : s.TypeIs (.ref sl) "slice" := ⟨os, hos, hcs⟩
 unfold getItem
 try with_reducible refine wpAny_holding ?_
 first | refine wpAny_bind (wpAny_pure ?_) | skip
 refine wpAny_bind (wpAny_sequenceKey ht.typeIs (by decide) ?_)
 refine wpAny_bind (wpAny_callSpecial?_slot (name := Str.ofString "__getitem__") ht.typeIs PyProof.Rows.slot_tuple_getitem
  (wpAny_call_entry PyProof.Rows.slot_tuple_getitem ht.typeIs entry_tuple_getitem ?_ (args_tuple_getitem _ _)))
 show wpAny _ _ (Builtin.Tuple.tupleItemsOf (.ref t) >>= _) _ _ s
 refine wpAny_bind (tupleItemsOf_ ht ?_)
 refine wpAny_bind (wpAny_typeOf hTs ?_)
 rw [if_pos (by decide)]
 refine wpAny_bind (HT.sliceApplied_gen hs pl pu ?_)
 have hyes : (((HT.sIx items.size 0 lo : Nat) : Int) == 0 && (1 : Int) == 1 && (HT.sIx items.size items.size hi - HT.sIx items.size 0 lo) == items.size) = true := by
  rw [hw.1, hw.2]; simp
 show wpAny _ _ (if (((HT.sIx items.size 0 lo : Nat) : Int) == 0 && (1 : Int) == 1 && (HT.sIx items.size items.size hi - HT.sIx items.size 0 lo) == items.size) = true then _ else _) _ _ s
 rw [if_pos hyes]
 unfold Builtin.Tuple.tupleIsExact
 refine wpAny_bind (wpAny_bind (wpAny_typeOf ht.typeIs (wpAny_pure ?_)))
 rw [if_pos (by decide)]
 exact wpAny_bind (wpAny_rule (wpAny_pure ⟨_, rfl, wpAny_pure h⟩))
theorem Zkz : SlR X (fun x lo hi H Q => ∃ a xs, x = .ref a ∧ SqT X.K H a xs ∧ (HT.sIx xs.length 0 lo = 0 ∧ HT.sIx xs.length xs.length hi = xs.length) ∧ Q (.ref a) H) := by
 intro pins s σ H x v vl vu lo hi sl Q I rx hs pl pu h
 obtain ⟨a, xs, rfl, hx, hw, q⟩ := h
 cases rx
 obtain ⟨its, r, ht, hz⟩ := I.tuple hx
 have hlen : its.toArray.size = xs.length := by rw [List.size_toArray]; exact r.length.symm
 refine ⟨"tuple", _, PyProof.Rows.slot_tuple_getitem.lookup, ht.typeIs, ?_⟩
 exact ZdE ht hs pl pu (by rw [hlen]; exact hw) ⟨.ref a, H, I, rfl, q⟩
theorem ZnB : SlR X (rS X.K) := SlR.imp (SlR.or (SlR.or Zly Zkz) (SlR.or ZkG Zl5)) fun x lo hi H Q ⟨ι, M, a, S, ra, h⟩ => by
 have ex : ∀ n d o, HT.sIx n d o = sIx n d o := fun n d o => by cases o <;> rfl
 cases a with
 | tup ds =>
  simp only [Zh9] at h
  obtain ⟨p, vs, rfl, s, r⟩ := ra.tup_inv
  by_cases hw : sIx ds.length 0 lo = 0 ∧ sIx ds.length ds.length hi = ds.length
  ·refine .inl (.inr ⟨p, vs, rfl, s, by rw [ex, ex, r.length]; exact hw, ?_⟩)
   have e : cutD ds lo hi = ds := by unfold cutD; rw [hw.1, hw.2]; simp
   rw [e] at h
   exact Zab.ok h S (Rep.tup s r)
  ·refine .inl (.inl ⟨p, vs, rfl, s, by rw [ex, ex, r.length]; exact hw, fun q hq => ?_⟩)
   obtain ⟨x2, S2, r2⟩ := S.tupl hq (ZhA r lo hi)
   exact h _ _ _ x2 S2 r2
 | scr ds =>
  simp only [Zh9] at h
  obtain ⟨p, vs, rfl, s, r⟩ := ra.scr_inv
  refine .inr (.inl ⟨p, vs, rfl, s.sq, fun q hq => ?_⟩)
  obtain ⟨x2, S2, r2⟩ := S.lst hq (ZhA r lo hi)
  exact h _ _ _ x2 S2 r2
 | str z =>
  simp only [Zh9] at h
  split at h
  ·rename_i hz
   exact .inr (.inr ⟨z, ra.str_inv, hz, Zab.ok h S Rep.str⟩)
  ·exact h.elim
 | ref n =>
  simp only [Zh9] at h
  cases hn : M[n]? with
  | none => simp only [hn] at h; exact h.elim
  | some o =>
   cases o with
   | dct _ => simp only [hn] at h; exact h.elim
   | fdct _ => simp only [hn] at h; exact h.elim
   | lst ds =>
    simp only [hn] at h
    obtain ⟨p, hp, rfl⟩ := ra.ref_inv
    obtain ⟨vs, e, r⟩ := S.obj n _ p hn hp
    refine .inr (.inl ⟨p, vs, rfl, SqL.of e, fun q hq => ?_⟩)
    obtain ⟨x2, S2, r2⟩ := S.lst hq (ZhA r lo hi)
    exact h _ _ _ x2 S2 r2
 | _ => exact h.elim
theorem ZcP {K : PySem.W.Frag} {H : Hp} {ι : List Addr} {d : D} {xs : List V} (r : Zm K H ι [d] xs) : ∃ x, xs = [x] ∧ Rep K H ι d x := by
 obtain ⟨v, ws, rfl, r1, r2⟩ := r.cons_inv
 have := r2.nil_inv
 subst this
 exact ⟨v, rfl, r1⟩
theorem Zdz : ZaN X (.builtin "len") (rB X.K Zbr) := ZaN.imp Zj9 fun xs H Q ⟨ι, M, ds, S, rd, h⟩ => by
 cases ds with
 | nil => exact h.elim
 | cons d ds =>
  cases ds with
  | cons _ _ => cases d <;> exact h.elim
  | nil =>
   obtain ⟨x, rfl, r⟩ := ZcP rd
   cases d with
   | tup z =>
    obtain ⟨p, vs, rfl, s, r'⟩ := r.tup_inv
    exact ⟨_, vs.length, rfl, .inr ⟨vs, s, rfl⟩, by rw [r'.length]; exact Zab.ok h S Rep.int⟩
   | scr z =>
    obtain ⟨p, vs, rfl, s, r'⟩ := r.scr_inv
    exact ⟨_, vs.length, rfl, .inl ⟨vs, s.sq, rfl⟩, by rw [r'.length]; exact Zab.ok h S Rep.int⟩
   | str z =>
    simp only [Zbr] at h
    split at h
    ·rename_i hz
     have := r.str_inv
     subst this
     refine ⟨_, z.length, rfl, ⟨?_, ?_⟩, Zab.ok h S Rep.int⟩
     ·show z.toArray.size ≤ sizeLine
      rw [List.size_toArray]
      exact Nat.le_trans hz Zbe
     ·show z.length = z.toArray.size
      rw [List.size_toArray]
    ·exact h.elim
   | ref n =>
    cases hn : M[n]? with
    | none => simp only [Zbr, hn] at h; exact h.elim
    | some o =>
     cases o with
     | dct _ => simp only [Zbr, hn] at h; exact h.elim
     | fdct _ => simp only [Zbr, hn] at h; exact h.elim
     | lst z =>
      simp only [Zbr, hn] at h
      obtain ⟨p, hp, rfl⟩ := r.ref_inv
      obtain ⟨vs, e, r'⟩ := S.obj n _ p hn hp
      exact ⟨_, vs.length, rfl, .inl ⟨vs, SqL.of e, rfl⟩, by rw [r'.length]; exact Zab.ok h S Rep.int⟩
   | _ => exact h.elim
theorem ZcV : ZaN X (.type "tuple") (rB X.K ZaD) := ZaN.imp Zfe fun xs H Q ⟨ι, M, ds, S, rd, h⟩ => by
 cases ds with
 | nil => exact h.elim
 | cons d ds =>
  cases ds with
  | cons _ _ => cases d <;> exact h.elim
  | nil =>
   obtain ⟨x, rfl, r⟩ := ZcP rd
   cases d with
   | tup z =>
    obtain ⟨p, vs, rfl, s, r'⟩ := r.tup_inv
    exact ⟨p, vs, rfl, .inr ⟨s, Zab.ok h S (Rep.tup s r')⟩⟩
   | scr z =>
    obtain ⟨p, vs, rfl, s, r'⟩ := r.scr_inv
    refine ⟨p, vs, rfl, .inl ⟨s.sq, fun q hq => ?_⟩⟩
    obtain ⟨x2, S2, r2⟩ := S.tupl hq r'
    exact h _ _ _ x2 S2 r2
   | ref n =>
    cases hn : M[n]? with
    | none => simp only [ZaD, hn] at h; exact h.elim
    | some o =>
     cases o with
     | dct _ => simp only [ZaD, hn] at h; exact h.elim
     | fdct _ => simp only [ZaD, hn] at h; exact h.elim
     | lst z =>
      simp only [ZaD, hn] at h
      obtain ⟨p, hp, rfl⟩ := r.ref_inv
      obtain ⟨vs, e, r'⟩ := S.obj n _ p hn hp
      refine ⟨p, vs, rfl, .inl ⟨SqL.of e, fun q hq => ?_⟩⟩
      obtain ⟨x2, S2, r2⟩ := S.tupl hq r'
      exact h _ _ _ x2 S2 r2
   | _ => exact h.elim
theorem ZlJ : ZaN X (.type "list") (rB X.K ZfC) := ZaN.imp Zgl fun xs H Q ⟨ι, M, ds, S, rd, h⟩ => by
 cases ds with
 | nil => exact h.elim
 | cons d ds =>
  cases ds with
  | cons _ _ => cases d <;> exact h.elim
  | nil =>
   obtain ⟨x, rfl, r⟩ := ZcP rd
   cases d with
   | tup z =>
    obtain ⟨p, vs, rfl, s, r'⟩ := r.tup_inv
    refine ⟨p, vs, rfl, .inr s, fun q hq => ?_⟩
    obtain ⟨x2, S2, r2⟩ := S.lst hq r'
    exact h _ _ _ x2 S2 r2
   | scr z =>
    obtain ⟨p, vs, rfl, s, r'⟩ := r.scr_inv
    refine ⟨p, vs, rfl, .inl s.sq, fun q hq => ?_⟩
    obtain ⟨x2, S2, r2⟩ := S.lst hq r'
    exact h _ _ _ x2 S2 r2
   | ref n =>
    cases hn : M[n]? with
    | none => simp only [ZfC, hn] at h; exact h.elim
    | some o =>
     cases o with
     | dct _ => simp only [ZfC, hn] at h; exact h.elim
     | fdct _ => simp only [ZfC, hn] at h; exact h.elim
     | lst z =>
      simp only [ZfC, hn] at h
      obtain ⟨p, hp, rfl⟩ := r.ref_inv
      obtain ⟨vs, e, r'⟩ := S.obj n _ p hn hp
      refine ⟨p, vs, rfl, .inl (SqL.of e), fun q hq => ?_⟩
      obtain ⟨x2, S2, r2⟩ := S.lst hq r'
      exact h _ _ _ x2 S2 r2
   | _ => exact h.elim
end
end L3
namespace L3
open PySem PySem.Spec PyProof.Rows L2
theorem Zcy : bootBuiltins "len" = some (.builtin "len") := by decide +kernel
theorem Zdi : bootBuiltins "sorted" = some (.builtin "sorted") := by decide +kernel
theorem Zjf : bootBuiltins "int" = some (.type "int") := by decide +kernel
theorem Zk6 : bootBuiltins "list" = some (.type "list") := by decide +kernel
theorem Zcb : bootBuiltins "tuple" = some (.type "tuple") := by decide +kernel
theorem Zkq : bootBuiltins "dict" = some (.type "dict") := by decide +kernel
section
variable {X : Cx} {a : Expr} {pos p p2 : Pos} {f : E3}
end
def Zle (outer : List (Str × NameKind)) (N : List Str) (scope : Scope) (N' : List Str) (own : Nat) : Bool :=
 (scope.names.all fun y => decide (y.2 ≠ .cell) && (decide (y.2 ≠ .free) || decide (outer.lookup y.1 = some .cell) || decide (outer.lookup y.1 = some .free)) && (decide (y.2 ≠ .local) || decide (scope.names.lookup y.1 = some .local))) &&
  decide (N'.length = N.length + own) && Zj3 N N' scope
theorem ZcB {X : Cx} {scope : Scope} {N' : List Str} {own : Nat} (hk : scope.kind = .function) (h : Zle X.env.scope.names X.N scope N' own = true) : Zeb X scope N' own := by
 simp only [Zle, Bool.and_eq_true, decide_eq_true_eq, List.all_eq_true, Bool.or_eq_true] at h
 obtain ⟨⟨h1, h2⟩, h3⟩ := h
 refine ⟨hk, fun y hy => (h1 y hy).1.1, fun y hy e => ?_, fun y hy e => ?_, h2, h3⟩
 ·rcases (h1 y hy).1.2 with (q | q) | q
  ·exact absurd e q
  ·exact .inl q
  ·exact .inr q
 ·rcases (h1 y hy).2 with q | q
  ·exact absurd e q
  ·exact q
theorem ZaV {K : PySem.W.Frag} {h : Heap} {mg : Str → Option Value} (KX : K.In h) (G : h.Ns mainGlobals mg) {x : Str} {st : Stmt} {f : Addr} {oc : Value} {od an : Option Addr} {osl : Array (Option Value)} {dV kV doc pm cdv ct : Value}
  (a : PySem.W.nsIn K mainGlobals x = some (some (.ref f))) (l : K.lookup f = some ⟨oc, od, .func (PySem.W.fnOf x x (Zay st) (Zat st) (Zq st) dV kV doc pm an cdv ct), osl⟩)
  (c : PySem.W.codeIn K cdv x = true) (k : PySem.W.keepIn K (.ref f) = true) {ps : List Str} (b : Binds K (PySem.W.fnOf x x (Zay st) (Zat st) (Zq st) dV kV doc pm an cdv ct) ps []) : ZaR K mg x st ps := ⟨f, _, Zj4 l c k, PySem.W.mg_of KX G a, b⟩
theorem Znn {l : PySem.W.OpenLaw} {k : Nat} {q : Program} {loose : List Str} {XP : (Str → Option Value) → Heap → Prop} {YP : World → Heap → Prop} {d : DefRec} {K : Params → PySem.W.Frag} {F : F3} (hn : l.most = some 63) (hdf : d.params.defaults = []) (hr : Zb3 k callerA)
  (hY : ∀ (w : World) (h : Heap), YP w h → (K w.params).In h)
  (G : ∀ (w : World) (mg : Str → Option Value) (fa : Addr) (h : Heap), (K w.params).In h → h.Ns mainGlobals mg → mg d.name = some (.ref fa) →
   ∃ fd : FuncData, (∀ (s : Shared) (u : Value), BindsTo s fd ⟨[u], []⟩ [("script", u)]) ∧ ∀ base : Heap, (K w.params).In base → base.Ns mainGlobals mg → ZeD l.prog w (K w.params) mg base CX0 k fa fd ["script"] (sp3 (K w.params) 1 F))
  (hF : ∀ ns : List Int, ns.length ≤ 63 → ∃ M', F [.scr (ns.map D.int)] [] = .ok (.bl true) M') :
  PySem.W.WalkO q loose XP YP l.row.toRowW d [] (fun f vs => PySem.call f vs) :=
 L2.Zio (n := 63) (k := k) (x := "script") (CX := fun _ => CX0) (sp := fun w => sp3 (K w.params) 1 F) hn (by decide) hdf hr hY G (fun w H a ns hl hO hS => by
  obtain ⟨M', e⟩ := hF ns hl
  refine ⟨[], [], [.scr (ns.map D.int)], ⟨rfl, List.nodup_nil, fun n o a h => by simp at h⟩, Zm.cons ?_ Zm.nil, rfl, ?_⟩
  ·simp only [Rep]
   refine ⟨a, ns.map V.int, rfl, ?_, Zm.ints ns⟩
   rcases hS with (h | ⟨o, h⟩) | h
   ·rcases hO a with z | ⟨ob, xs, z⟩
    ·rw [h] at z; cases z
    ·rw [h] at z; cases z
   ·exact .inl ⟨o, h⟩
   ·exact .inr h
  ·rw [e]
   exact fun v H' ι' _ _ r => r.bl_inv) fun _ _ _ _ _ z => z
end L3
namespace L3
open PySem PySem.Spec PyProof.Rows L2
theorem Zhy {a b : ZaC} (h : dk a = dk b) : a = b := by
 cases a with
 | inl i => cases b with
  | inl j => simp only [dk, Sum.inl.injEq] at h; rw [h]
  | inr y => simp [dk] at h
 | inr x => cases b with
  | inl j => simp [dk] at h
  | inr y =>
   simp only [dk, Sum.inr.injEq, Str.mk.injEq] at h
   have := congrArg Array.toList h
   simp at this
   rw [this]
theorem Zet {K : PySem.W.Frag} {H : Hp} {ι : List Addr} {b : D} {y : V} {k : ZaC} (h : Zdu b = some k) (r : Rep K H ι b y) : y = kV (dk k) := by
 cases b with
 | int i => cases h; exact r.int_inv
 | str x => cases h; exact r.str_inv
 | _ => simp [Zdu] at h
section
variable {K : PySem.W.Frag} {H H' : Hp} {ι ι' : List Addr} {M : Store} {p : Addr}
theorem KvR.nil : KvR K H ι [] [] := ⟨rfl, Zm.nil⟩
theorem KvR.cons {k : ZaC} {d : D} {v : V} {kvs : List (ZaC × D)} {ws : List (Key × V)} (h : Rep K H ι d v) (r : KvR K H ι kvs ws) : KvR K H ι ((k, d) :: kvs) ((dk k, v) :: ws) :=
 ⟨by simp [r.1], Zm.cons h r.2⟩
theorem KvR.cons_inv {q : ZaC × D} {kvs : List (ZaC × D)} {ws : List (Key × V)} (r : KvR K H ι (q :: kvs) ws) : ∃ v ws', ws = (dk q.1, v) :: ws' ∧ Rep K H ι q.2 v ∧ KvR K H ι kvs ws' := by
 obtain ⟨h1, h2⟩ := r
 cases ws with
 | nil => simp at h1
 | cons w ws =>
  simp only [List.map_cons, List.cons.injEq] at h1
  obtain ⟨v, us, e, r1, r2⟩ := Zm.cons_inv h2
  simp only [List.map_cons, List.cons.injEq] at e
  exact ⟨w.2, ws, by rw [← h1.1], e.1 ▸ r1, h1.2, e.2 ▸ r2⟩
theorem KvR.nil_inv {ws : List (Key × V)} (r : KvR K H ι [] ws) : ws = [] := by simpa using r.1
theorem KvR.mono {kvs : List (ZaC × D)} {ws : List (Key × V)} (r : KvR K H ι kvs ws) (e : Ext K H ι H' ι') : KvR K H' ι' kvs ws := ⟨r.1, r.2.mono e⟩
theorem KvR.length {kvs : List (ZaC × D)} {ws : List (Key × V)} (r : KvR K H ι kvs ws) : ws.length = kvs.length := by
 have := congrArg List.length r.1
 simpa using this
theorem KvR.val {kvs : List (ZaC × D)} (k : ZaC) : ∀ {ws : List (Key × V)}, KvR K H ι kvs ws → match Zbt kvs k with | some d => ∃ v, Zds ws (dk k) = some v ∧ Rep K H ι d v | none => Zds ws (dk k) = none := by
 induction kvs with
 | nil => intro ws r; rw [r.nil_inv]; exact Zjw
 | cons q kvs ih =>
  intro ws r
  obtain ⟨v, ws', rfl, r1, r2⟩ := r.cons_inv
  obtain ⟨k', d⟩ := q
  unfold Zbt
  by_cases e : k' = k
  ·rw [if_pos e]
   exact ⟨v, ZdQ (by rw [e]), r1⟩
  ·rw [if_neg e, Zd5 fun z => e (Zhy z)]
   exact ih r2
theorem KvR.append {k1 k2 : List (ZaC × D)} {w1 w2 : List (Key × V)} (a : KvR K H ι k1 w1) (b : KvR K H ι k2 w2) : KvR K H ι (k1 ++ k2) (w1 ++ w2) :=
 ⟨by simp [a.1, b.1], by rw [List.map_append, List.map_append]; exact a.2.append b.2⟩
theorem KvR.any {kvs : List (ZaC × D)} (k : ZaC) : ∀ {ws : List (Key × V)}, KvR K H ι kvs ws → (ws.any fun kv => decide (kv.1 = dk k)) = (kvs.any fun q => decide (q.1 = k)) := by
 induction kvs with
 | nil => intro ws r; rw [r.nil_inv]; rfl
 | cons q kvs ih =>
  intro ws r
  obtain ⟨v, ws', rfl, r1, r2⟩ := r.cons_inv
  rw [List.any_cons, List.any_cons, ih r2]
  congr 1
  by_cases e : q.1 = k
  ·simp [e]
  ·simp [e]; exact fun z => e (Zhy z)
theorem KvR.put {kvs : List (ZaC × D)} {k : ZaC} {d : D} {v : V} {ws : List (Key × V)} (r : KvR K H ι kvs ws) (rd : Rep K H ι d v) : KvR K H ι (putD k d kvs) (putK ws (dk k) v) := by
 unfold putD putK
 rw [r.any k]
 by_cases c : (kvs.any fun q => decide (q.1 = k)) = true
 ·rw [if_pos c, if_pos c]
  clear c
  induction kvs generalizing ws with
  | nil => rw [r.nil_inv]; exact KvR.nil
  | cons q kvs ih =>
   obtain ⟨u, ws', rfl, r1, r2⟩ := r.cons_inv
   rw [List.map_cons, List.map_cons]
   by_cases e : q.1 = k
   ·rw [if_pos e, if_pos (by rw [e])]; exact KvR.cons rd (ih r2)
   ·rw [if_neg e, if_neg fun z => e (Zhy z)]; exact KvR.cons r1 (ih r2)
 ·rw [if_neg c, if_neg c]
  exact r.append (KvR.cons rd KvR.nil)
theorem KvR.merge {l : List (ZaC × D)} : ∀ {kvs : List (ZaC × D)} {ws us : List (Key × V)}, KvR K H ι l us → KvR K H ι kvs ws → KvR K H ι (l.foldl (fun acc p => putD p.1 p.2 acc) kvs) (ZeO ws us) := by
 induction l with
 | nil => intro kvs ws us r r0; rw [r.nil_inv]; exact r0
 | cons q l ih =>
  intro kvs ws us r r0
  obtain ⟨v, us', rfl, r1, r2⟩ := r.cons_inv
  exact ih (ws := putK ws (dk q.1) v) (us := us') r2 (r0.put r1)
theorem Zx.dct (S : Zx K H ι M) (hp : H p = none) {kvs : List (ZaC × D)} {ws : List (Key × V)} (r : KvR K H ι kvs ws) : Ext K H ι (upd H p (.dK ws)) (ι ++ [p]) ∧ Zx K (upd H p (.dK ws)) (ι ++ [p]) (M ++ [.dct kvs]) ∧ Rep K (upd H p (.dK ws)) (ι ++ [p]) (.ref M.length) (.ref p) := by
 have e : Ext K H ι (upd H p (.dK ws)) (ι ++ [p]) := Loose.extA (.inl hp)
 exact ⟨e, S.new hp ⟨ws, ZaT, r.mono e⟩, Rep.ref (by rw [← S.len]; simp)⟩
theorem Zx.setd (S : Zx K H ι M) {n : Nat} (l0 : Loose H p) (hn : ι[n]? = some p) {kvs : List (ZaC × D)} {ws : List (Key × V)} (r : KvR K H ι kvs ws) : Ext K H ι (upd H p (.dK ws)) ι ∧ Zx K (upd H p (.dK ws)) ι (M.set n (.dct kvs)) := by
 have e : Ext K H ι (upd H p (.dK ws)) ι := Loose.ext l0
 exact ⟨e, S.put l0 hn ⟨ws, ZaT, r.mono e⟩⟩
end
section
variable {X : Cx} {a b c e o : Expr} {es : List Expr} {pos p pos' apos cpos : Pos} {f g h : E3} {gl : EL3}
theorem Zhm : C3 X (.Dict [] [] pos) Zin := ZjV.imp fun σ H Q ⟨ι, M, env, S, E, h⟩ p hp => by
 obtain ⟨x1, S1, r1⟩ := S.dct hp KvR.nil
 exact h _ _ _ x1 S1 r1
theorem hu1 (hu : X.A.units + 80 < cLine) : X.A.units + 1 < cLine := by omega
theorem Zgg {K : PySem.W.Frag} {H : Hp} {ι : List Addr} {M : Store} (S : Zx K H ι M) {n : Nat} {kvs : List (ZaC × D)} {a : Addr} (h : ZbN M[n]? = some kvs) (ha : ι[n]? = some a) : ∃ ws, Rd H a (.dK ws) ∧ KvR K H ι kvs ws := by
 cases hn : M[n]? with
 | none => simp [hn] at h
 | some ob =>
  cases ob with
  | lst _ => simp [hn] at h
  | dct k =>
   have e : k = kvs := by simpa [hn] using h
   subst e
   obtain ⟨ws, hw, kr⟩ := S.obj n _ a hn ha
   exact ⟨ws, .inl hw, kr⟩
  | fdct k =>
   have e : k = kvs := by simpa [hn] using h
   subst e
   obtain ⟨ws, ⟨o, hw⟩, kr⟩ := S.obj n _ a hn ha
   exact ⟨ws, .inr ⟨o, hw⟩, kr⟩
theorem Zf3 (hu : X.A.units + 80 < cLine) (ha : C3 X a f) (hb : C3 X b g) (hs : ZmE b := by exact fun _ _ => rfl) : C3 X (.Subscript a b pos) (e2 ZaY f g) := (Zku (hu1 hu) ha hb hs).imp fun σ H Q ⟨ι, M, env, S, E, h⟩ => by
 obtain ⟨d, M1, e1, h⟩ := Zab.bind h
 obtain ⟨k, M2, e2, h⟩ := Zab.bind h
 refine ⟨ι, M, env, S, E, ?_⟩
 rw [e1]
 intro x H1 ι1 x1 S1 r1
 refine ⟨ι1, M1, env, S1, E.mono x1, ?_⟩
 rw [e2]
 intro y H2 ι2 x2 S2 r2
 cases d with
 | ref n =>
  simp only [ZaY] at h
  cases hn : ZbN M2[n]? with
  | none => simp only [hn] at h; exact h.elim
  | some kvs =>
   cases hk : Zdu k with
   | none => simp only [hn, hk] at h; exact h.elim
   | some kk =>
    simp only [hn, hk] at h
    cases hv : Zbt kvs kk with
    | none => simp only [hv] at h; exact h.elim
    | some w =>
     simp only [hv] at h
     obtain ⟨ad, ha, rfl⟩ := (r1.mono x2).ref_inv
     obtain ⟨ws, hw, kr⟩ := Zgg S2 hn ha
     have hv' := kr.val kk
     rw [hv] at hv'
     obtain ⟨v, ev, rv⟩ := hv'
     refine ⟨ad, v, rfl, ?_, h v H2 ι2 (x1.trans x2) S2 rv⟩
     rw [Zet hk r2, ← ev]
     exact .inl ⟨ws, dk kk, hw, rfl, rfl⟩
 | _ => exact h.elim
theorem Ziy {K : PySem.W.Frag} {op : D → D → D → Store → R3 D} {H : Hp} {ι : List Addr} {Q : VK} {env : Zal} {M : Store} (h' : Zab K H ι Q (e3 op f g h env M)) :
  ∃ a M1 b M2 c M3, f env M = .ok a M1 ∧ g env M1 = .ok b M2 ∧ h env M2 = .ok c M3 ∧ Zab K H ι Q (op a b c M3) := by
 obtain ⟨a, M1, e1, h'⟩ := Zab.bind h'
 obtain ⟨b, M2, e2, h'⟩ := Zab.bind h'
 obtain ⟨c, M3, e3, h'⟩ := Zab.bind h'
 exact ⟨a, M1, b, M2, c, M3, e1, e2, e3, h'⟩
theorem Zgy {K : PySem.W.Frag} {H : Hp} {ι : List Addr} {D' : Ends} {env : Zal} {M : Store} {σ : St} (E : Za0 K H ι env σ) (h' : Zdt K H ι D' (Zav f env M)) : Zab K H ι (fun _ H' => D'.nx σ H') (f env M) := by
 unfold Zav at h'
 cases q : f env M with
 | ok d M1 => rw [q] at h'; exact fun v H1 ι1 x1 S1 r1 => h' σ H1 ι1 x1 S1 (E.mono x1)
 | exc x M1 => rw [q] at h'; exact h'.elim
 | bad => rw [q] at h'; exact h'.elim
theorem Zgi {i : Expr} (hu : X.A.units + 80 < cLine) (ho : C3 X o f) (hi : C3 X i g) (hv : C3 X e h) (hs : swapsWith e (some (.Subscript o i pos')) pos.line X.env = pure false := by rfl) : CS X (.Assign [.Subscript o i pos'] e pos) (Zei f g h) := (ZkN (hu1 hu) ho hi hv hs).imp fun D' σ H ⟨ι, M, env, S, E, hh⟩ => by
 obtain ⟨d, M1, b, M2, k, M3, e1, e2, e3, hh⟩ := Ziy (Zgy E hh)
 refine ⟨ι, M, env, S, E, ?_⟩
 rw [e1]
 intro v H1 ι1 x1 S1 r1
 refine ⟨ι1, M1, env, S1, E.mono x1, ?_⟩
 rw [e2]
 intro x H2 ι2 x2 S2 r2
 refine ⟨ι2, M2, env, S2, (E.mono x1).mono x2, ?_⟩
 rw [e3]
 intro y H3 ι3 x3 S3 r3
 cases b with
 | ref n =>
  simp only [Zjm] at hh
  cases hn : M3[n]? with
  | none => simp only [hn] at hh; exact hh.elim
  | some ob =>
   cases ob with
   | lst _ => simp only [hn] at hh; exact hh.elim
   | fdct _ => simp only [hn] at hh; exact hh.elim
   | dct kvs =>
    cases hk : Zdu k with
    | none => simp only [hn, hk] at hh; exact hh.elim
    | some kk =>
     simp only [hn, hk] at hh
     split at hh
     ·rename_i hz
      obtain ⟨ad, ha, rfl⟩ := (r2.mono x3).ref_inv
      obtain ⟨ws, hw, kr⟩ := S3.obj n _ ad hn ha
      obtain ⟨x4, S4⟩ := S3.setd (.inr (.inr ⟨_, hw⟩)) ha (kr.put (k := kk) ((r1.mono x2).mono x3))
      refine ⟨ad, _, rfl, ?_, hh .non _ _ (((x1.trans x2).trans x3).trans x4) S4 Rep.non⟩
      rw [Zet hk r3]
      exact ZhS.k hw (by rw [kr.length]; exact Nat.lt_of_lt_of_le hz Zbe)
     ·exact hh.elim
 | _ => exact hh.elim
theorem Zdp {i : Expr} {spos : Pos} (ho : C3 X o f) (hi : C3 X i g) (hv : C3 X e h)
  (ha : ∀ v, assign (.Subscript o i spos) X.env v = (do
   let ov ← holding [v] (eval o X.env)
   let iv ← holding [v, ov] (eval i X.env)
   standAt spos
   holding [v, ov, iv] (setItem ov iv v)
   release [v, ov, iv] []) := by intro _; rfl)
  (hs : swapsWithSole [.Subscript o i spos] e pos.line X.env = pure false := by rfl) (hw : swappedStores [.Subscript o i spos] e X.env = pure none := by rfl)
  (h1 : (assignEach [.Subscript o i spos] X.env).map (·.2) = [assign (.Subscript o i spos) X.env] := by rfl) : CS X (.Assign [.Subscript o i spos] e pos) (Zcv f g h) := (Zl3 hv (Zml ho hi set_list ha) hs hw h1).imp fun D' σ H ⟨ι, M, env, S, E, hh⟩ => by
 obtain ⟨d, M1, b, M2, k, M3, e1, e2, e3, hh⟩ := Ziy (Zgy E hh)
 refine ⟨ι, M, env, S, E, ?_⟩
 rw [e1]
 intro v H1 ι1 x1 S1 r1
 refine ⟨ι1, M1, env, S1, E.mono x1, ?_⟩
 rw [e2]
 intro x H2 ι2 x2 S2 r2
 refine ⟨ι2, M2, env, S2, (E.mono x1).mono x2, ?_⟩
 rw [e3]
 intro y H3 ι3 x3 S3 r3
 cases b with
 | ref n =>
  cases k with
  | int j =>
   simp only [ZjQ] at hh
   cases hn : M3[n]? with
   | none => simp only [hn] at hh; exact hh.elim
   | some ob =>
    cases ob with
    | dct _ => simp only [hn] at hh; exact hh.elim
    | fdct _ => simp only [hn] at hh; exact hh.elim
    | lst xs =>
     simp only [hn] at hh
     cases hj : ixD xs.length j with
     | none => simp only [hj] at hh; exact hh.elim
     | some q =>
      simp only [hj] at hh
      obtain ⟨ad, ha, rfl⟩ := (r2.mono x3).ref_inv
      obtain ⟨ws, hw, kr⟩ := S3.obj n _ ad hn ha
      obtain ⟨x4, S4⟩ := S3.setl (.inr (.inl ⟨_, hw⟩)) ha (kr.set q ((r1.mono x2).mono x3))
      exact ⟨ad, ws, j, q, rfl, r3.int_inv, hw, by rw [kr.length]; exact hj, hh .non _ _ (((x1.trans x2).trans x3).trans x4) S4 Rep.non⟩
  | _ => exact hh.elim
 | _ => exact hh.elim
end
end L3
namespace L3
open PySem PySem.W PyProof.Rows
section
def kev {α : Type} (lt : Nat → Nat → Bool) : KasT α → α
 | .ret a => a
 | .ask i j k => kev lt (k (lt i j))
theorem ZcF {α β : Type} (lt : Nat → Nat → Bool) (f : α → KasT β) : ∀ t : KasT α, kev lt (t.bind f) = kev lt (f (kev lt t))
 | .ret _ => rfl
 | .ask i j k => ZcF lt f (k (lt i j))
variable {lt : Nat → Nat → Bool}
structure Zdr (lt : Nat → Nat → Bool) : Prop where
 asym : ∀ {a b}, lt a b = true → lt b a = false
 tr : ∀ {a b c}, lt b a = false → lt c b = false → lt c a = false
theorem Zdr.rf (o : Zdr lt) (a : Nat) : lt a a = false := by
 cases h : lt a a
 ·rfl
 ·exact h ▸ o.asym h
abbrev at' (p : Array Nat) (i : Nat) : Nat := p.getD i 0
theorem ZgV {p q : Array Nat} {i j : Nat} (h : p[i]? = q[j]?) : at' p i = at' q j := by
 simp only [at', Array.getD_eq_getD_getElem?, h]
def Up (lt : Nat → Nat → Bool) (p : Array Nat) (n : Nat) : Prop := ∀ i j, i ≤ j → j < n → lt (at' p j) (at' p i) = false
def Zfi (lt : Nat → Nat → Bool) (p : Array Nat) (n : Nat) : Prop := ∀ i j, i ≤ j → j < n → lt (at' p i) (at' p j) = false
theorem Zkm (o : Zdr lt) {p : Array Nat} {n : Nat} (h1 : 1 ≤ n) (u : Up lt p n) (h : lt (at' p n) (at' p (n - 1)) = false) : Up lt p (n + 1) := by
 intro i j hij hj
 by_cases e : j = n
 ·subst e
  by_cases e' : i = j
  ·subst e'; exact o.rf _
  ·exact o.tr (u i (j - 1) (by omega) (by omega)) h
 ·exact u i j hij (by omega)
theorem Zdo (o : Zdr lt) {p : Array Nat} {n : Nat} (h1 : 1 ≤ n) (u : Zfi lt p n) (h : lt (at' p (n - 1)) (at' p n) = false) : Zfi lt p (n + 1) := by
 intro i j hij hj
 by_cases e : j = n
 ·subst e
  by_cases e' : i = j
  ·subst e'; exact o.rf _
  ·exact o.tr h (u i (j - 1) (by omega) (by omega))
 ·exact u i j hij (by omega)
theorem ZhH (o : Zdr lt) {p : Array Nat} : ∀ (f n : Nat), 1 ≤ n → Up lt p n → n ≤ kev lt (kas_asc p f n) ∧ kev lt (kas_asc p f n) ≤ n + f ∧ Up lt p (kev lt (kas_asc p f n)) ∧
  (kev lt (kas_asc p f n) = n + f ∨ lt (at' p (kev lt (kas_asc p f n))) (at' p (kev lt (kas_asc p f n) - 1)) = true)
 | 0, n, h1, u => ⟨Nat.le_refl _, Nat.le_refl _, u, .inl rfl⟩
 | f + 1, n, h1, u => by
  have e : kev lt (kas_asc p (f + 1) n) = kev lt (if lt (at' p n) (at' p (n - 1)) = true then KasT.ret n else kas_asc p f (n + 1)) := rfl
  rw [e]
  cases c : lt (at' p n) (at' p (n - 1)) with
  | true => exact ⟨Nat.le_refl _, by simp only [if_true, kev]; omega, u, .inr c⟩
  | false =>
   simp only [Bool.false_eq_true, if_false]
   obtain ⟨a, b, d, e⟩ := ZhH o f (n + 1) (by omega) (Zkm o h1 u c)
   exact ⟨by omega, by omega, d, e.elim (fun z => .inl (by omega)) .inr⟩
theorem Zc3 {p : Array Nat} {i j : Nat} (hj : j ≤ p.size) (k : Nat) : at' (kas_rev p i j) k = if i ≤ k ∧ k < j then at' p (i + j - 1 - k) else at' p k := by
 have e := getElem?_mirror_all (xs := p) (i := i) hj k
 unfold kas_rev
 split
 ·rename_i h; rw [if_pos h] at e; exact ZgV e
 ·rename_i h; rw [if_neg h] at e; exact ZgV e
theorem ZbK (p : Array Nat) (i j : Nat) : (kas_rev p i j).Perm p := mirror_perm _ _ _ _
theorem Zcc (p : Array Nat) (i j : Nat) : (kas_rev p i j).size = p.size := mirror_size _ _ _ _
def Alike (lt : Nat → Nat → Bool) (p : Array Nat) (n q : Nat) : Prop := ∀ i j, n - (q + 1) ≤ i → i < n → n - (q + 1) ≤ j → j < n → lt (at' p i) (at' p j) = false
theorem ZfK (o : Zdr lt) {p : Array Nat} {n q : Nat} (hn : n ≤ p.size) (hq : q + 1 ≤ n) (d : Zfi lt p n) (a : Alike lt p n q) : Zfi lt (kas_rev p (n - (q + 1)) n) n := by
 intro i j hij hj
 rw [Zc3 hn, Zc3 hn]
 by_cases h1 : n - (q + 1) ≤ i
 ·rw [if_pos ⟨h1, by omega⟩, if_pos ⟨by omega, hj⟩]
  exact a _ _ (by omega) (by omega) (by omega) (by omega)
 ·rw [if_neg (by omega)]
  by_cases h2 : n - (q + 1) ≤ j
  ·rw [if_pos ⟨h2, hj⟩]; exact d _ _ (by omega) (by omega)
  ·rw [if_neg (by omega)]; exact d _ _ hij hj
theorem Zes (o : Zdr lt) : ∀ (f : Nat) (p : Array Nat) (n q : Nat), q + 1 ≤ n → n + f ≤ p.size → Zfi lt p n → Alike lt p n q →
  let r := kev lt (kas_desc f p n q); r.1.Perm p ∧ r.1.size = p.size ∧ n ≤ r.2.1 ∧ r.2.1 ≤ n + f ∧ r.2.2 + 1 ≤ r.2.1 ∧ Zfi lt r.1 r.2.1 ∧ Alike lt r.1 r.2.1 r.2.2
 | 0, p, n, q, hq, hs, d, a => ⟨Array.Perm.refl _, rfl, Nat.le_refl _, Nat.le_refl _, hq, d, a⟩
 | f + 1, p, n, q, hq, hs, d, a => by
  have one : ∀ (p' : Array Nat), Alike lt p' (n + 1) 0 := fun p' i j h1 h2 h3 h4 => by
   have : i = j := by omega
   subst this; exact o.rf _
  unfold kas_desc
  simp only [kev]
  cases c : lt (p.getD n 0) (p.getD (n - 1) 0) with
  | true =>
   simp only [if_true]
   by_cases hq0 : q > 0
   ·rw [if_pos hq0]
    have hl : lt (at' (kas_rev p (n - (q + 1)) n) (n - 1)) (at' (kas_rev p (n - (q + 1)) n) n) = false := by
     rw [Zc3 (by omega), Zc3 (by omega), if_pos ⟨by omega, by omega⟩, if_neg (by omega)]
     exact o.tr (o.asym c) (a _ _ (by omega) (by omega) (by omega) (by omega))
    obtain ⟨h1, h2, h3, h4, h5, h6, h7⟩ := Zes o f (kas_rev p (n - (q + 1)) n) (n + 1) 0 (by omega) (by rw [Zcc]; omega) (Zdo o (by omega) (ZfK o (by omega) hq d a) hl) (one _)
    exact ⟨h1.trans (ZbK _ _ _), h2.trans (Zcc _ _ _), by omega, by omega, h5, h6, h7⟩
   ·rw [if_neg hq0]
    obtain ⟨h1, h2, h3, h4, h5, h6, h7⟩ := Zes o f p (n + 1) 0 (by omega) (by omega) (Zdo o (by omega) d (o.asym c)) (one _)
    exact ⟨h1, h2, by omega, by omega, h5, h6, h7⟩
  | false =>
   simp only [Bool.false_eq_true, if_false, kev]
   cases c2 : lt (p.getD (n - 1) 0) (p.getD n 0) with
   | true => exact ⟨Array.Perm.refl _, rfl, Nat.le_refl _, by simp only [if_true, kev]; omega, hq, d, a⟩
   | false =>
    simp only [Bool.false_eq_true, if_false]
    have al : Alike lt p (n + 1) (q + 1) := fun i j h1 h2 h3 h4 => by
     have z : ∀ k, n + 1 - (q + 1 + 1) ≤ k → k < n + 1 → lt (at' p k) (at' p n) = false ∧ lt (at' p n) (at' p k) = false := fun k k1 k2 => by
      by_cases e : k = n
      ·subst e; exact ⟨o.rf _, o.rf _⟩
      ·exact ⟨o.tr c2 (a k (n - 1) (by omega) (by omega) (by omega) (by omega)), o.tr (a (n - 1) k (by omega) (by omega) (by omega) (by omega)) c⟩
     exact o.tr (z j h3 h4).2 (z i h1 h2).1
    obtain ⟨h1, h2, h3, h4, h5, h6, h7⟩ := Zes o f p (n + 1) (q + 1) (by omega) (by omega) (Zdo o (by omega) d c2) al
    exact ⟨h1, h2, by omega, by omega, h5, h6, h7⟩
theorem Zho {p : Array Nat} {n : Nat} (hn : n ≤ p.size) (d : Zfi lt p n) : Up lt (kas_rev p 0 n) n := by
 intro i j hij hj
 rw [Zc3 hn, Zc3 hn, if_pos ⟨by omega, hj⟩, if_pos ⟨by omega, by omega⟩]
 exact d _ _ (by omega) (by omega)
theorem Zgw (o : Zdr lt) {p : Array Nat} {n nrem : Nat} (h1 : 1 ≤ n) (hn : n ≤ nrem) (hs : nrem ≤ p.size) (d : Zfi lt p n) :
  let r := kev lt (kas_tail3 n nrem p); r.2.Perm p ∧ r.2.size = p.size ∧ 1 ≤ r.1 ∧ r.1 ≤ nrem ∧ Up lt r.2 r.1 := by
 unfold kas_tail3
 rw [ZcF]
 obtain ⟨a, b, c, _⟩ := ZhH o (p := kas_rev p 0 n) (nrem - n) n h1 (Zho (by omega) d)
 exact ⟨ZbK _ _ _, Zcc _ _ _, Nat.le_trans h1 a, Nat.le_trans b (by omega), c⟩
theorem Zej (o : Zdr lt) {p : Array Nat} {n nrem : Nat} (h1 : 1 ≤ n) (hn : n + 1 ≤ nrem) (hs : nrem ≤ p.size) (d : Zfi lt p (n + 1)) :
  let r := kev lt (kas_descPart n nrem p); r.2.Perm p ∧ r.2.size = p.size ∧ 1 ≤ r.1 ∧ r.1 ≤ nrem ∧ Up lt r.2 r.1 := by
 unfold kas_descPart
 rw [ZcF]
 have one : Alike lt p (n + 1) 0 := fun i j h1 h2 h3 h4 => by
  have : i = j := by omega
  subst this; exact o.rf _
 obtain ⟨a1, a2, a3, a4, a5, a6, a7⟩ := Zes o (nrem - (n + 1)) p (n + 1) 0 (by omega) (by omega) d one
 generalize kev lt (kas_desc (nrem - (n + 1)) p (n + 1) 0) = r at *
 dsimp only
 by_cases hq : r.2.2 > 0
 ·rw [if_pos hq]
  obtain ⟨b1, b2, b3, b4, b5⟩ := Zgw o (p := kas_rev r.1 (r.2.1 - (r.2.2 + 1)) r.2.1) (n := r.2.1) (nrem := nrem) (by omega) (by omega) (by rw [Zcc]; omega) (ZfK o (by omega) a5 a6 a7)
  exact ⟨(b1.trans (ZbK _ _ _)).trans a1, (b2.trans (Zcc _ _ _)).trans a2, b3, b4, b5⟩
 ·rw [if_neg hq]
  obtain ⟨b1, b2, b3, b4, b5⟩ := Zgw o (p := r.1) (n := r.2.1) (nrem := nrem) (by omega) (by omega) (by omega) a6
  exact ⟨b1.trans a1, b2.trans a2, b3, b4, b5⟩
theorem Zjl (o : Zdr lt) {p : Array Nat} {nrem : Nat} (h1 : 1 ≤ nrem) (hs : nrem ≤ p.size) : let r := kev lt (kas_count nrem p); r.2.Perm p ∧ r.2.size = p.size ∧ 1 ≤ r.1 ∧ r.1 ≤ nrem ∧ Up lt r.2 r.1 := by
 unfold kas_count
 rw [ZcF]
 have u1 : Up lt p 1 := fun i j hij hj => by
  have : i = j := by omega
  subst this; exact o.rf _
 obtain ⟨a, b, c, d⟩ := ZhH o (p := p) (nrem - 1) 1 (by omega) u1
 generalize kev lt (kas_asc p (nrem - 1) 1) = n at *
 dsimp only
 by_cases e : (n == nrem) = true
 ·rw [if_pos e]; exact ⟨Array.Perm.refl _, rfl, a, by show n ≤ nrem; omega, c⟩
 ·rw [if_neg e]
  have hne : n ≠ nrem := by simpa using e
  have hlt : lt (at' p n) (at' p (n - 1)) = true := d.resolve_left (by omega)
  by_cases hn : n > 1
  ·rw [if_pos hn]
   simp only [kev]
   cases c0 : lt (p.getD 0 0) (p.getD (n - 1) 0) with
   | true => exact ⟨Array.Perm.refl _, rfl, a, by show n ≤ nrem; omega, c⟩
   | false =>
    simp only [Bool.false_eq_true, if_false]
    have dn : Zfi lt (kas_rev p 0 n) (n + 1) := by
     have al : ∀ i j, i < n → j < n → lt (at' p i) (at' p j) = false := fun i j hi hj =>
      o.tr (o.tr (c j (n - 1) (by omega) (by omega)) c0) (c 0 i (by omega) (by omega))
     intro i j hij hj
     rw [Zc3 (by omega), Zc3 (by omega)]
     by_cases ej : j < n
     ·rw [if_pos ⟨by omega, by omega⟩, if_pos ⟨by omega, ej⟩]; exact al _ _ (by omega) (by omega)
     ·have : j = n := by omega
      subst this
      by_cases ei : i < j
      ·rw [if_pos ⟨by omega, ei⟩, if_neg (by omega)]
       exact o.tr (o.asym hlt) (al _ _ (by omega) (by omega))
      ·have : i = j := by omega
       subst this; rw [if_neg (by omega)]; exact o.rf _
    obtain ⟨b1, b2, b3, b4, b5⟩ := Zej o (p := kas_rev p 0 n) (n := n) (nrem := nrem) a (by omega) (by rw [Zcc]; omega) dn
    exact ⟨b1.trans (ZbK _ _ _), b2.trans (Zcc _ _ _), b3, b4, b5⟩
  ·rw [if_neg hn]
   have : n = 1 := by omega
   subst this
   exact Zej o (by omega) (by omega) hs (Zdo o (by omega) (fun i j hij hj => by
    have : i = j := by omega
    subst this; exact o.rf _) (o.asym hlt))
theorem Ze5 (o : Zdr lt) {p : Array Nat} {k : Nat} (u : Up lt p k) : ∀ (f l r : Nat), l ≤ r → r ≤ k → r ≤ l + f → (∀ i, i < l → lt (at' p k) (at' p i) = false) → (∀ i, r ≤ i → i < k → lt (at' p k) (at' p i) = true) →
  let m := kev lt (kas_place p k f l r); m ≤ k ∧ (∀ i, i < m → lt (at' p k) (at' p i) = false) ∧ (∀ i, m ≤ i → i < k → lt (at' p k) (at' p i) = true)
 | 0, l, r, h1, h2, h3, hl, hr => ⟨by show l ≤ k; omega, hl, fun i hi hk => hr i (by have : l ≤ i := hi; omega) hk⟩
 | f + 1, l, r, h1, h2, h3, hl, hr => by
  unfold kas_place
  by_cases c : l ≥ r
  ·rw [if_pos c]; exact ⟨by show l ≤ k; omega, hl, fun i hi hk => hr i (by have : l ≤ i := hi; omega) hk⟩
  ·rw [if_neg c]
   simp only [kev]
   cases q : lt (p.getD k 0) (p.getD ((l + r) / 2) 0) with
   | true =>
    simp only [if_true]
    refine Ze5 o u f l ((l + r) / 2) (by omega) (by omega) (by omega) hl fun i hi hk => ?_
    cases z : lt (at' p k) (at' p i) with
    | true => rfl
    | false =>
     have := o.tr (u ((l + r) / 2) i hi hk) z
     rw [q] at this; cases this
   | false =>
    simp only [Bool.false_eq_true, if_false]
    exact Ze5 o u f ((l + r) / 2 + 1) r (by omega) h2 (by omega) (fun i hi => o.tr (u i ((l + r) / 2) (by omega) (by omega)) q) hr
theorem ZfM {p : Array Nat} {k d : Nat} (hk : k < p.size) (hd : d ≤ k) (i : Nat) : at' (bubble p k d) i = if i = k - d then at' p k else if k - d < i ∧ i ≤ k then at' p (i - 1) else at' p i := by
 have e := getElem?_bubble (xs := p) hk d hd i
 by_cases h1 : i = k - d
 ·rw [if_pos h1] at e ⊢; exact ZgV e
 ·rw [if_neg h1] at e ⊢
  by_cases h2 : k - d < i ∧ i ≤ k
  ·rw [if_pos h2] at e ⊢; exact ZgV e
  ·rw [if_neg h2] at e ⊢; exact ZgV e
theorem ZjO (o : Zdr lt) : ∀ (f : Nat) (p : Array Nat) (k : Nat), k + f = p.size → Up lt p k → (kev lt (kas_bin f p k)).Perm p ∧ Up lt (kev lt (kas_bin f p k)) p.size
 | 0, p, k, h, u => ⟨Array.Perm.refl _, by rw [← h]; exact u⟩
 | f + 1, p, k, h, u => by
  unfold kas_bin
  rw [ZcF]
  obtain ⟨a, b, c⟩ := Ze5 o u k 0 k (by omega) (Nat.le_refl _) (by omega) (fun i hi => by omega) (fun i h1 h2 => by omega)
  generalize kev lt (kas_place p k k 0 k) = m at *
  have sz := bubble_size p k (k - m)
  have up : Up lt (bubble p k (k - m)) (k + 1) := by
   intro i j hij hj
   have e : k - (k - m) = m := by omega
   rw [ZfM (by omega) (by omega), ZfM (by omega) (by omega), e]
   by_cases e1 : i = m
   ·rw [if_pos e1]
    by_cases e2 : j = m
    ·rw [if_pos e2]; exact o.rf _
    ·rw [if_neg e2, if_pos ⟨by omega, by omega⟩]; exact o.asym (c _ (by omega) (by omega))
   ·rw [if_neg e1]
    by_cases e2 : j = m
    ·rw [if_pos e2, if_neg (by omega)]; exact b _ (by omega)
    ·rw [if_neg e2]
     by_cases e3 : m < i
     ·rw [if_pos (show m < i ∧ i ≤ k from ⟨e3, by omega⟩), if_pos (show m < j ∧ j ≤ k from ⟨by omega, by omega⟩)]; exact u _ _ (by omega) (by omega)
     ·rw [if_neg (show ¬ (m < i ∧ i ≤ k) from fun z => e3 z.1)]
      by_cases e4 : m < j
      ·rw [if_pos (show m < j ∧ j ≤ k from ⟨e4, by omega⟩)]; exact u _ _ (by omega) (by omega)
      ·rw [if_neg (show ¬ (m < j ∧ j ≤ k) from fun z => e4 z.1)]; exact u _ _ (by omega) (by omega)
  obtain ⟨h1, h2⟩ := ZjO o f (bubble p k (k - m)) (k + 1) (by rw [sz]; omega) up
  exact ⟨h1.trans (bubble_perm _ _ _), by rw [sz] at h2; exact h2⟩
theorem ZkA (o : Zdr lt) {n : Nat} (h1 : 1 ≤ n) : (kev lt (kas_sort n)).Perm (List.toArray (List.range n)) ∧ Up lt (kev lt (kas_sort n)) n := by
 unfold kas_sort
 rw [ZcF]
 obtain ⟨a1, a2, a3, a4, a5⟩ := Zjl o (p := List.toArray (List.range n)) h1 (by simp)
 generalize kev lt (kas_count n (List.toArray (List.range n))) = r at *
 have sz : r.2.size = n := by rw [a2]; simp
 by_cases c : r.1 < n
 ·rw [if_pos c]
  have hm : max r.1 1 = r.1 := by omega
  rw [hm]
  obtain ⟨b1, b2⟩ := ZjO o (n - r.1) r.2 r.1 (by omega) a5
  exact ⟨b1.trans a1, by rw [sz] at b2; exact b2⟩
 ·rw [if_neg c]
  have : r.1 = n := by omega
  exact ⟨a1, by rw [← this]; exact a5⟩
end
end L3
namespace L3
open PySem PySem.W PyProof.Rows
section
def ZcQ {α : Type} (n : Nat) (R : α → Prop) : KasT α → Prop
 | .ret a => R a
 | .ask i j k => i < n ∧ j < n ∧ ∀ b, ZcQ n R (k b)
theorem ZcQ.bind {α β : Type} {n : Nat} {R : α → Prop} {R' : β → Prop} {f : α → KasT β} (hf : ∀ a, R a → ZcQ n R' (f a)) : ∀ {t : KasT α}, ZcQ n R t → ZcQ n R' (t.bind f)
 | .ret a, h => hf a h
 | .ask _ _ _, ⟨h1, h2, h3⟩ => ⟨h1, h2, fun b => (h3 b).bind hf⟩
theorem Zhg {α : Type} {n : Nat} {lt : Nat → Nat → Bool} {cmp : Nat → Nat → (Bool → Shared → Prop) → Shared → Prop} {G : Shared → Prop} {R : α → Prop} (hc : ∀ i j (C : Bool → Shared → Prop) s, i < n → j < n → G s → (∀ s', G s' → C (lt i j) s') → cmp i j C s) {Q : α → Shared → Prop} :
  ∀ (t : KasT α), ZcQ n R t → ∀ (s : Shared), G s → (∀ s', G s' → Q (kev lt t) s') → t.kasWp cmp Q s
 | .ret _, _, s, g, h => h s g
 | .ask i j k, ⟨h1, h2, h3⟩, s, g, h => hc i j _ s h1 h2 g fun s' g' => Zhg hc (k (lt i j)) (h3 _) s' g' h
variable {n : Nat}
def Low (n : Nat) (p : Array Nat) : Prop := ∀ i, at' p i < n
theorem Low.perm {p q : Array Nat} (h0 : 0 < n) (l : Low n p) (e : q.Perm p) : Low n q := by
 intro i
 unfold at'
 rw [Array.getD_eq_getD_getElem?]
 cases h : q[i]? with
 | none => simpa using h0
 | some x =>
  have hx : x ∈ p := e.mem_iff.mp (Array.mem_of_getElem? h)
  obtain ⟨j, hj, e2⟩ := Array.mem_iff_getElem.mp hx
  have := l j
  unfold at' at this
  rw [Array.getD_eq_getD_getElem?, Array.getElem?_eq_getElem hj, e2] at this
  simpa using this
theorem Zgd {p : Array Nat} (l : Low n p) : ∀ (f m : Nat), ZcQ n (fun _ => True) (kas_asc p f m)
 | 0, _ => trivial
 | f + 1, m => ⟨l _, l _, fun b => by
  cases b with
  | true => exact trivial
  | false => exact Zgd l f (m + 1)⟩
theorem Zd0 (h0 : 0 < n) : ∀ (f : Nat) (p : Array Nat) (m q : Nat), Low n p → ZcQ n (fun r => Low n r.1) (kas_desc f p m q)
 | 0, p, _, _, l => l
 | f + 1, p, m, q, l => by
  unfold kas_desc
  refine ⟨l _, l _, fun b => ?_⟩
  cases b with
  | true =>
   simp only [if_true]
   split
   ·exact Zd0 h0 f _ _ _ (l.perm h0 (ZbK _ _ _))
   ·exact Zd0 h0 f _ _ _ l
  | false =>
   simp only [Bool.false_eq_true, if_false]
   refine ⟨l _, l _, fun c => ?_⟩
   cases c with
   | true => exact l
   | false => exact Zd0 h0 f _ _ _ l
theorem ZfA (h0 : 0 < n) {p : Array Nat} {m nrem : Nat} (l : Low n p) : ZcQ n (fun r => Low n r.2) (kas_tail3 m nrem p) :=
 ZcQ.bind (R := fun _ => True) (R' := fun r => Low n r.2) (f := fun m' => KasT.ret (m', kas_rev p 0 m)) (fun _ _ => l.perm h0 (ZbK p 0 m)) (Zgd (l.perm h0 (ZbK _ _ _)) _ _)
theorem ZdZ (h0 : 0 < n) {p : Array Nat} {m nrem : Nat} (l : Low n p) : ZcQ n (fun r => Low n r.2) (kas_descPart m nrem p) := by
 refine ZcQ.bind (fun r hr => ?_) (Zd0 h0 _ _ _ _ l)
 split
 ·exact ZfA h0 (Low.perm h0 hr (ZbK _ _ _))
 ·exact ZfA h0 hr
theorem Zi9 (h0 : 0 < n) {p : Array Nat} {nrem : Nat} (l : Low n p) : ZcQ n (fun r => Low n r.2) (kas_count nrem p) := by
 refine ZcQ.bind (fun m _ => ?_) (Zgd l _ _)
 split
 ·exact l
 ·split
  ·refine ⟨l _, l _, fun b => ?_⟩
   cases b with
   | true => exact l
   | false => exact ZdZ h0 (l.perm h0 (ZbK _ _ _))
  ·exact ZdZ h0 l
theorem Zd6 {p : Array Nat} {k : Nat} (l : Low n p) : ∀ (f a b : Nat), ZcQ n (fun _ => True) (kas_place p k f a b)
 | 0, _, _ => trivial
 | f + 1, a, b => by
  unfold kas_place
  split
  ·exact trivial
  ·refine ⟨l _, l _, fun c => ?_⟩
   cases c with
   | true => exact Zd6 l f _ _
   | false => exact Zd6 l f _ _
theorem Zii (h0 : 0 < n) : ∀ (f : Nat) (p : Array Nat) (k : Nat), Low n p → ZcQ n (fun _ => True) (kas_bin f p k)
 | 0, _, _, _ => trivial
 | f + 1, p, k, l => ZcQ.bind (fun _ _ => Zii h0 f _ _ (l.perm h0 (bubble_perm _ _ _))) (Zd6 l _ _ _)
theorem Zjj (h0 : 0 < n) : ZcQ n (fun _ => True) (kas_sort n) := by
 have l : Low n (List.toArray (List.range n)) := fun i => by
  unfold at'
  rw [Array.getD_eq_getD_getElem?]
  cases h : (List.toArray (List.range n))[i]? with
  | none => simpa using h0
  | some x =>
   have := Array.mem_of_getElem? h
   simpa using this
 refine ZcQ.bind (fun r hr => ?_) (Zi9 h0 l)
 split
 ·exact Zii h0 _ _ _ hr
 ·exact trivial
end
section
variable {prog : Program} {w : World} {A : Around} {E : Value → Shared → Prop} {s : Shared}
def Zeq (h : Heap) (a : Addr) (vs : List Value) : Heap := ((h.update a (Obj.mapSeq fun _ => #[])).push (seqObj "tuple" vs.toArray 0)).push (seqObj "list" #[] 0)
def Zdy (s s' : Shared) : Prop := ∃ t, s' = { s with toks := t }
theorem ZjD {h : Heap} {a b : Addr} {vs : List Value} (hb : b ≠ a) (hlt : b < h.objs.size) : (Zeq h a vs).get? b = h.get? b := by
 unfold Zeq
 rw [Heap.get?_push_ne _ _ _ (by rw [size_push', Heap.size_update]; exact Nat.ne_of_lt (Nat.lt_succ_of_lt hlt)), Heap.get?_push_ne _ _ _ (by rw [Heap.size_update]; exact Nat.ne_of_lt hlt), Heap.get?_update_ne _ _ _ _ hb]
theorem Zj0 {a : Addr} {vs : List Value} {n : Nat} {lt : Nat → Nat → Bool} {κ : SortKind} {P : PySem.Fin → Shared → Prop} (o : Zdr lt) (ho : s.heap.get? a = some (seqObj "list" vs.toArray n)) (h64 : vs.length < 64)
  (hk : 2 ≤ vs.length → ∀ (Q : SortKind → Shared → Prop) s', Zdy { s with heap := Zeq s.heap a vs } s' → (∀ s'', Zdy { s with heap := Zeq s.heap a vs } s'' → Q κ s'') → wpAny (model prog w) A (keyKind' vs.toArray) Q E s')
  (hc : 2 ≤ vs.length → ∀ i j (C : Bool → Shared → Prop) s', i < vs.length → j < vs.length → Zdy { s with heap := Zeq s.heap a vs } s' → (∀ s'', Zdy { s with heap := Zeq s.heap a vs } s'' → C (lt i j) s'') → kas_ask prog w A κ vs i j C s')
  (h : ∀ (out : List Value) (p : List Nat) t, p.Perm (List.range vs.length) → (∀ (i j x y : Nat), i ≤ j → p[i]? = some x → p[j]? = some y → lt y x = false) → out = p.map (fun i => vs.getD i Value.none) → P (.done (.ret .none)) { s with heap := sortedHeap s.heap a vs out.toArray, toks := t }) :
  wpAny (model prog w) A (Builtin.«list.sort» ⟨[.ref a], []⟩) P E s := by
 have ha : a < s.heap.objs.size := Heap.lt_size ho
 obtain ⟨e1, g1⟩ : ∃ e1, (s.heap.update a (Obj.mapSeq fun _ => (#[] : Array Value))).get? a = some (seqObj "list" #[] e1) := ⟨_, get?_update_seq ho _⟩
 have g6 : (Zeq s.heap a vs).get? a = some (seqObj "list" #[] e1) := by
  unfold Zeq; rw [Heap.get?_push_ne _ _ _ (by rw [size_push', Heap.size_update]; exact Nat.ne_of_lt (Nat.lt_succ_of_lt ha)), Heap.get?_push_ne _ _ _ (by rw [Heap.size_update]; exact Nat.ne_of_lt ha)]; exact g1
 rw [list_sort_plain]; refine wpAny_bind (listItems_at ho rfl (wpAny_bind (listUpdate_at ho rfl ?_ (by rw [List.size_toArray, sizeLine_eq]; omega) (Nat.zero_le _))))
 refine wpAny_bind (seqEpoch_at g1 rfl (wpAny_bind (wpAny_newTuple ?_ (by show vs.length ≤ _; rw [sizeLine_eq]; omega)))); refine wpAny_bind (wpAny_newList ?_ (Nat.zero_le _))
 refine wpAny_holding ?_
 show wpAny (model prog w) A _ P E { s with heap := Zeq s.heap a vs }
 dsimp only
 by_cases h2 : vs.length < 2
 ·have q2 : vs.toArray.size < 2 := by rw [List.size_toArray]; exact h2
  rw [if_pos q2, if_pos q2]; refine wpAny_bind (wpAny_pure ?_)
  rw [StateT.run_pure]; refine wpAny_bind (wpAny_pure ?_)
  dsimp only; refine wpAny_bind (seqEpoch_at g6 rfl (wpAny_bind (listUpdate_at g6 rfl ?_ (Nat.zero_le _) ?_)))
  ·have es : (arrOf (SortSt.mk' general' (vs.toArray.zip vs.toArray) #[] 7 none)).map (·.2) = vs.toArray := by
    show (vs.toArray.zip vs.toArray).map (·.2) = _
    apply Array.toList_inj.mp; simp [List.map_snd_zip]
   rw [es]; simp only [bne_self_eq_false, Bool.false_eq_true, if_false]
   refine wpAny_pure (h vs (List.range vs.length) s.toks (List.Perm.refl _) (fun i j x y hij hx hy => ?_) ?_)
   ·have := (List.getElem?_eq_some_iff.mp hx).1
    have := (List.getElem?_eq_some_iff.mp hy).1
    simp only [List.length_range] at *
    have : i = j := by omega
    subst this; rw [hx] at hy; cases hy; exact o.rf _
   ·apply List.ext_getElem?
    intro i
    rw [List.getElem?_map]
    by_cases hi : i < vs.length
    ·simp [hi]
    ·simp [hi]
  ·refine Nat.le_trans (Nat.le_of_eq (Array.size_map ..)) ?_
   show (vs.toArray.zip vs.toArray).size ≤ _
   rw [Array.size_zip, List.size_toArray, sizeLine_eq]; omega
 ·have q2 : ¬ vs.toArray.size < 2 := by rw [List.size_toArray]; exact h2
  have h2' : 2 ≤ vs.length := by omega
  rw [if_neg q2, if_neg q2]
  refine wpAny_bind (hk h2' _ _ ⟨s.toks, rfl⟩ fun s' hs' => ?_)
  refine wpAny_bind (wpAny_mono (kat_run (Q := fun st' s'' => Zdy { s with heap := Zeq s.heap a vs } s'' ∧ failedOf st' = none ∧ arrOf st' = (kev lt (kas_sort vs.length)).map (kas_item (vs.toArray.zip vs.toArray))) (G := fun p s'' => Zdy { s with heap := Zeq s.heap a vs } s'' ∧ p = kev lt (kas_sort vs.length)) rfl h2' h64
   (fun p st' s'' _ a2 a3 ⟨a4, a5⟩ => ⟨a4, a3, by rw [a2, a5]⟩) (Zhg (n := vs.length) (hc h2') _ (Zjj (by omega)) s' hs' fun s'' g => ⟨g, rfl⟩)) ?_ fun _ _ e => e)
  rintro ⟨⟨⟩, st'⟩ s'' ⟨⟨t, rfl⟩, hf, har⟩
  dsimp only
  obtain ⟨pp, pu⟩ := ZkA o (n := vs.length) (by omega)
  generalize kev lt (kas_sort vs.length) = p at pp pu har
  have hout := kat_snds (vs := vs) (ks := vs) rfl har
  rw [hout]
  have hlen : p.toList.length = vs.length := by have := pp.size_eq; simpa using this
  refine wpAny_bind (seqEpoch_at g6 rfl (wpAny_bind (listUpdate_at g6 rfl ?_ (Nat.zero_le _) (by rw [List.size_toArray, List.length_map, hlen, sizeLine_eq]; omega))))
  rw [hf]; simp only [bne_self_eq_false, Bool.false_eq_true, if_false]
  refine wpAny_pure (h _ p.toList t ?_ (fun i j x y hij hx hy => ?_) rfl)
  ·have := Array.perm_iff_toList_perm.mp pp; simpa using this
  ·have hj := (List.getElem?_eq_some_iff.mp hy).1
   have u := pu i j hij (by rw [hlen] at hj; exact hj)
   have cv : ∀ (k z : Nat), p.toList[k]? = some z → at' p k = z := fun k z hz => by
    rw [at', Array.getD_eq_getD_getElem?, ← Array.getElem?_toList, hz]; rfl
   rw [cv i x hx, cv j y hy] at u; exact u
theorem ZgM {l : Addr} {vs : List Value} {lt : Nat → Nat → Bool} {κ : SortKind} {Q : Value → Shared → Prop} (o : Zdr lt) (hl : s.heap.IsList l vs.toArray) (h64 : vs.length < 64)
  (hk : 2 ≤ vs.length → ∀ (h' : Heap) (Q : SortKind → Shared → Prop) s', (∀ b u, s.heap.get? b = some u → h'.get? b = some u) → Zdy { s with heap := h' } s' → (∀ s'', Zdy { s with heap := h' } s'' → Q κ s'') → wpAny (model prog w) A.in1.in1 (keyKind' vs.toArray) Q (fun _ _ => False) s')
  (hc : 2 ≤ vs.length → ∀ (h' : Heap) i j (C : Bool → Shared → Prop) s', (∀ b u, s.heap.get? b = some u → h'.get? b = some u) → i < vs.length → j < vs.length → Zdy { s with heap := h' } s' → (∀ s'', Zdy { s with heap := h' } s'' → C (lt i j) s'') → kas_ask prog w A.in1.in1 κ vs i j C s')
  (h : ∀ (out : List Value) (p : List Nat) t h' a, p.Perm (List.range vs.length) → (∀ (i j x y : Nat), i ≤ j → p[i]? = some x → p[j]? = some y → lt y x = false) → out = p.map (fun i => vs.getD i Value.none) →
   (∀ b u, s.heap.get? b = some u → h'.get? b = some u) → s.heap.objs.size ≤ a → (∃ e, h'.get? a = some (seqObj "list" out.toArray e)) → Q (.ref a) { s with heap := h', toks := t }) :
  wpAny (model prog w) A (call (.builtin "sorted") [.ref l]) Q E s := by
 refine Calls.call_function_entry kind_sorted plain_sorted entry_sorted (args_sorted1 _) ?_; unfold Builtin.«sorted»
 refine wpAny_bind (m := checkCount "sorted" 1 1 _) (wpAny_pure (wpAny_bind (collect_list hl ?_ (by rw [sizeLine_eq]; omega)))); refine wpAny_bind (wpAny_newList ?_ (by rw [sizeLine_eq]; omega))
 have hsz : ((s.heap.push (seqObj "list" #[] 0)).update s.heap.objs.size (Obj.mapSeq (· ++ vs.toArray))).objs.size = s.heap.objs.size + 1 := (Heap.size_update ..).trans (size_push' ..)
 obtain ⟨h3, e3⟩ : ∃ h3, ((s.heap.push (seqObj "list" #[] 0)).update s.heap.objs.size (Obj.mapSeq (· ++ vs.toArray))).push (seqObj "list" vs.toArray 0) = h3 := ⟨_, rfl⟩
 have g3 : h3.get? (s.heap.objs.size + 1) = some (seqObj "list" vs.toArray 0) := by rw [← e3, ← hsz]; exact Heap.get?_push_size _ rfl
 have k3 : ∀ b u, s.heap.get? b = some u → h3.get? b = some u := fun b u q => by
  have hlt : b < s.heap.objs.size := Heap.lt_size q
  rw [← e3, Heap.get?_push_ne _ _ _ (by rw [hsz]; exact Nat.ne_of_lt (Nat.lt_succ_of_lt hlt)), Heap.get?_update_ne _ _ _ _ (Nat.ne_of_lt hlt), Heap.get?_push_ne _ _ _ (Nat.ne_of_lt hlt)]; exact q
 have z3 : h3.objs.size = s.heap.objs.size + 2 := by rw [← e3, size_push', hsz]
 show wpAny _ _ _ _ _ { s with heap := ((s.heap.push (seqObj "list" #[] 0)).update s.heap.objs.size (Obj.mapSeq (· ++ vs.toArray))).push (seqObj "list" vs.toArray 0) }
 rw [hsz, e3]
 have km : ∀ b u, s.heap.get? b = some u → (Zeq h3 (s.heap.objs.size + 1) vs).get? b = some u := fun b u q => by
  have hlt : b < s.heap.objs.size := Heap.lt_size q
  rw [ZjD (Nat.ne_of_lt (Nat.lt_succ_of_lt hlt)) (by rw [z3]; exact Nat.lt_succ_of_lt (Nat.lt_succ_of_lt hlt))]; exact k3 b u q
 refine wpAny_bind (wpAny_holding (wpAny_call_entry slot_list_sort ⟨_, g3, rfl⟩ entry_list_sort ?body (args_list_sort _)))
 case body =>
  refine Zj0 (s := { s with heap := h3 }) (κ := κ) o g3 h64 (fun h2 Q' s' hs' hq => wpAny_mono (hk h2 _ Q' s' km hs' hq) (fun _ _ q => q) fun _ _ z => z.elim) (fun h2 i j C s' hi hj hs' hq => hc h2 _ i j C s' km hi hj hs' hq) fun out p t hp hu ho => ⟨_, rfl, wpAny_pure ⟨_, rfl, ?_⟩⟩
  refine h out p t (sortedHeap h3 (s.heap.objs.size + 1) vs out.toArray) (s.heap.objs.size + 1) hp hu ho (fun b u q => ?_) (by omega) ?_
  ·have hlt : b < s.heap.objs.size := Heap.lt_size q
   rw [sortedHeap_old (Nat.ne_of_lt (Nat.lt_succ_of_lt hlt)) (by rw [z3]; exact Nat.lt_succ_of_lt (Nat.lt_succ_of_lt hlt))]; exact k3 b u q
  ·exact sortedHeap_at g3
end
end L3
namespace L3
open PySem PySem.W PySem.Spec PyProof.Rows L2
section
variable {prog : Program} {w : World} {A : Around} {K : PySem.W.Frag} {H : Hp} {ι : List Addr}
theorem Zkf {s : Shared} {C : Bool → Shared → Prop} {r : Bool} (hC : C r s) : ∀ (x y : List D) (xs ys : List V) (us ws : List Value) (k : Nat) (fin : Bool), Zm K H ι x xs → Zm K H ι y ys → Vals xs us → Vals ys ws → fin = decide (x.length < y.length) →
  (k = 0 → (∀ d, x.head? = some d → Zdb d = true)) → ltT x y = some r → KatLex prog w A true fin C (us.zip ws) k s
 | [], [], xs, ys, us, ws, k, fin, rx, ry, vx, vy, hf, _, h => by
  have e1 := rx.nil_inv; have e2 := ry.nil_inv; subst e1 e2; cases vx; cases vy
  refine kat_nil ?_
  simp [ltT] at h; subst hf; simpa [h] using hC
 | [], d :: y, xs, ys, us, ws, k, fin, rx, ry, vx, vy, hf, _, h => by
  have e1 := rx.nil_inv; subst e1; cases vx
  refine kat_nil ?_
  simp [ltT] at h; subst hf; simpa [h] using hC
 | d :: x, [], xs, ys, us, ws, k, fin, rx, ry, vx, vy, hf, _, h => by
  have e1 := ry.nil_inv; subst e1; cases vy
  rw [List.zip_nil_right]
  refine kat_nil ?_
  simp [ltT] at h; subst hf; simpa [h] using hC
 | d :: x, e :: y, xs, ys, us, ws, k, fin, rx, ry, vx, vy, hf, h0, h => by
  obtain ⟨v, xs', rfl, r1, r2⟩ := rx.cons_inv
  obtain ⟨v', ys', rfl, r1', r2'⟩ := ry.cons_inv
  cases vx with
  | @cons _ u _ us' ru rus =>
  cases vy with
  | @cons _ u' _ ws' ru' rus' =>
  rw [List.zip_cons_cons]
  have hfin : fin = decide (x.length < y.length) := by rw [hf]; simp
  rcases ZcG h with ⟨i, j, rfl, rfl⟩ | ⟨i, j, rfl, rfl⟩
  ·have ev := r1.int_inv; have ev' := r1'.int_inv
   subst ev ev'
   obtain ⟨t, rfl⟩ := ru
   obtain ⟨t', rfl⟩ := ru'
   refine kat_cons (wpAny_eqBool_int ?_)
   simp only [ltT] at h
   by_cases e : i = j
   ·subst e
    rw [if_pos rfl] at h
    rw [beq_self_eq_true]
    exact kat_yes (Zkf hC x y xs' ys' us' ws' (k + 1) fin r2 r2' rus rus' hfin (fun z => by omega) h)
   ·rw [if_neg e] at h
    have hb : (i == j) = false := by simpa using e
    rw [hb]
    refine kat_no ?_
    have hr : decide (i < j) = r := by simpa using h
    cases hk : (true && k == 0) with
    | true => exact oneLt_int (by rw [hr]; exact hC)
    | false => exact kat_one _ _ (lt_int (by show C _ s; rw [hr]; exact hC))
  ·have ev := r1.str_inv; have ev' := r1'.str_inv
   subst ev ev'
   obtain ⟨t, rfl⟩ := ru
   obtain ⟨t', rfl⟩ := ru'
   refine kat_cons (wpAny_eqBool_str ?_)
   simp only [ltT] at h
   by_cases e : i = j
   ·subst e
    rw [if_pos rfl] at h
    rw [decide_eq_true rfl]
    exact kat_yes (Zkf hC x y xs' ys' us' ws' (k + 1) fin r2 r2' rus rus' hfin (fun z => by omega) h)
   ·rw [if_neg e] at h
    have hb : decide ((⟨i.toArray⟩ : Str) = ⟨j.toArray⟩) = false := by
     rw [decide_eq_false_iff_not]; intro z; injection z with z; exact e (by simpa using congrArg Array.toList z)
    rw [hb]
    refine kat_no ?_
    have hr : decide (i < j) = r := by simpa using h
    have hk0 : k ≠ 0 := fun z => by have := h0 z _ rfl; simp [Zdb] at this
    have hk : (true && k == 0) = false := by simp [hk0]
    rw [hk]
    exact kat_one _ _ (lt_str (by show C _ s; rw [show decide ((⟨i.toArray⟩ : Str).cps.toList < (⟨j.toArray⟩ : Str).cps.toList) = r from hr]; exact hC))
end
section
variable {X : Cx}
theorem ZcH {x : List D} {vs : List V} {its : List Value} {K : PySem.W.Frag} {H : Hp} {ι : List Addr} (r : Zm K H ι x vs) (v : Vals vs its) {i : Nat} {d : D} (h : x[i]? = some d) : ∃ u, RelV u (its.getD i Value.none) ∧ Rep K H ι d u ∧ vs[i]? = some u := by
 obtain ⟨u, e1, r1⟩ := r.get h
 obtain ⟨z, e2, r2⟩ := v.get e1
 refine ⟨u, ?_, r1, e1⟩
 rw [List.getD_eq_getElem?_getD, e2]; exact r2
theorem Zek {pins : List (Addr × Obj)} {σ : St} {H : Hp} {s : Shared} {ι : List Addr} (I : Inv X pins σ H s) {h' : Heap} (k : ∀ b u, s.heap.get? b = some u → h'.get? b = some u) : ∀ (x : List D) (vs : List V) (its : List Value), Zm X.K H ι x vs → Vals vs its → x.all ZbX = true →
  ∃ fs : List Value, KatTups h' its fs ∧ fs.length = x.length ∧ ∀ f ∈ fs, ∃ i t, f = .int i t
 | [], vs, its, r, v, _ => by have e := r.nil_inv; subst e; cases v; exact ⟨[], .nil, rfl, fun f h => by simp at h⟩
 | d :: x, vs, its, r, v, h => by
  obtain ⟨u, vs', rfl, r1, r2⟩ := r.cons_inv
  cases v with
  | @cons _ z _ its' rz rzs =>
  simp only [List.all_cons, Bool.and_eq_true] at h
  obtain ⟨fs, t, l, hf⟩ := Zek I k x vs' its' r2 rzs h.2
  have hd := h.1
  cases d with
  | tup ds =>
   cases ds with
   | nil => simp [ZbX] at hd
   | cons e ds =>
    cases e with
    | int i =>
     obtain ⟨a, ws, rfl, sq, rr⟩ := r1.tup_inv
     cases (show z = Value.ref a from rz)
     obtain ⟨its2, rv, ⟨o, ho, hc, n, hdat⟩, _⟩ := I.tuple sq
     obtain ⟨u0, ws', rfl, q1, q2⟩ := rr.cons_inv
     have e0 := q1.int_inv
     subst e0
     cases rv with
     | @cons _ y0 _ ys ry0 _ =>
     obtain ⟨tk, rfl⟩ := ry0
     refine ⟨.int i tk :: fs, KatTups.cons (k a o ho) hc hdat (by simp) t, by simp [l], fun f hm => ?_⟩
     rcases List.mem_cons.mp hm with rfl | hm
     ·exact ⟨i, tk, rfl⟩
     ·exact hf f hm
    | _ => simp [ZbX] at hd
  | _ => simp [ZbX] at hd
theorem Zm.pick {K : PySem.W.Frag} {H : Hp} {ι : List Addr} {x : List D} {vs : List V} (r : Zm K H ι x vs) (d0 : D) (v0 : V) : ∀ (p : List Nat), (∀ i ∈ p, i < x.length) → Zm K H ι (p.map fun i => x.getD i d0) (p.map fun i => vs.getD i v0)
 | [], _ => Zm.nil
 | i :: p, h => by
  have hi := h i List.mem_cons_self
  obtain ⟨v, e, q⟩ := r.get (i := i) (d := x[i]) (by simp [hi])
  refine Zm.cons ?_ (Zm.pick r d0 v0 p fun j hj => h j (List.mem_cons_of_mem _ hj))
  dsimp only
  rw [List.getD_eq_getElem?_getD, List.getD_eq_getElem?_getD, e, List.getElem?_eq_getElem hi]; exact q
theorem Vals.pick {vs : List V} {us : List Value} (r : Vals vs us) (v0 : V) : ∀ (p : List Nat), (∀ i ∈ p, i < vs.length) → Vals (p.map fun i => vs.getD i v0) (p.map fun i => us.getD i Value.none)
 | [], _ => .nil
 | i :: p, h => by
  have hi := h i List.mem_cons_self
  obtain ⟨v, e, q⟩ := r.get (i := i) (x := vs[i]) (by simp [hi])
  refine .cons ?_ (Vals.pick r v0 p fun j hj => h j (List.mem_cons_of_mem _ hj))
  dsimp only
  rw [List.getD_eq_getElem?_getD, List.getD_eq_getElem?_getD, e, List.getElem?_eq_getElem hi]; exact q
theorem Zjb {x : List D} (d0 : D) {p : List Nat} (h : p.Perm (List.range x.length)) : (p.map fun i => x.getD i d0).Perm x := by
 have h1 := h.map (fun i => x.getD i d0)
 have h2 : (List.range x.length).map (fun i => x.getD i d0) = x := by
  apply List.ext_getElem?
  intro i
  rw [List.getElem?_map]
  by_cases hi : i < x.length
  ·simp [hi]
  ·simp [hi]
 rwa [h2] at h1
theorem ZdU : ZaN X (.builtin "sorted") (rB X.K ZaB) := by
 intro pins s σ H xs us Q I rs ⟨ι, M, ds, S, rd, h⟩
 cases ds with
 | nil => exact h.elim
 | cons d ds =>
  cases ds with
  | cons _ _ => cases d <;> exact h.elim
  | nil =>
   obtain ⟨x0, rfl, r⟩ := ZcP rd
   obtain ⟨u, rfl, ru⟩ := vals1 rs
   cases d with
   | ref n =>
    cases hn : M[n]? with
    | none => simp only [ZaB, hn] at h; exact h.elim
    | some ob =>
     cases ob with
     | dct _ => simp only [ZaB, hn] at h; exact h.elim
     | fdct _ => simp only [ZaB, hn] at h; exact h.elim
     | lst x =>
      simp only [ZaB, hn] at h
      split at h
      ·rename_i ok
       obtain ⟨a, ha, rfl⟩ := r.ref_inv
       cases ru
       obtain ⟨vs, ev, rv⟩ := S.obj n _ a hn ha
       obtain ⟨its, rr, pl, zl⟩ := I.list (SqL.of ev)
       have lx : its.length = x.length := by rw [← rr.length, rv.length]
       obtain ⟨d0, hd0⟩ : ∃ d0 : D, ∀ e, x = e :: x.tail → d0 ∈ x := by
        cases x with
        | nil => exact ⟨.non, fun e h => by cases h⟩
        | cons e y => exact ⟨e, fun _ _ => List.mem_cons_self⟩
       have mem : ∀ (i : Nat), x ≠ [] → x.getD i d0 ∈ x := fun i hx => by
        rw [List.getD_eq_getElem?_getD]
        cases q : x[i]? with
        | some e => exact List.mem_of_getElem? q
        | none =>
         cases x with
         | nil => exact absurd rfl hx
         | cons e y => exact hd0 e rfl
       have ltok : Zdr fun i j => decide (ltD (x.getD i d0) (x.getD j d0) = some true) := by
        by_cases hx : x = []
        ·subst hx
         have z : ∀ (i j : Nat), ltD (([] : List D).getD i d0) (([] : List D).getD j d0) = some true → False := fun i j hz => by
          simp only [List.getD_nil] at hz
          have := Ze8 hz; rw [hz] at this; cases this
         exact ⟨fun h => (z _ _ (of_decide_eq_true h)).elim, fun {i j k} _ _ => decide_eq_false fun h => z _ _ h⟩
        ·refine ⟨fun {i j} h => decide_eq_false fun h' => ?_, fun {i j k} h1 h2 => decide_eq_false fun h3 => ?_⟩
         ·rw [Ze8 (of_decide_eq_true h)] at h'; cases h'
         ·have c1 := ok.cmp _ (mem j hx) _ (mem i hx)
          have c2 := ok.cmp _ (mem k hx) _ (mem j hx)
          have e1 : ltD (x.getD j d0) (x.getD i d0) = some false := by
           cases q : ltD (x.getD j d0) (x.getD i d0) with
           | none => rw [q] at c1; cases c1
           | some b => cases b with
            | true => exact absurd q (of_decide_eq_false h1)
            | false => rfl
          have e2 : ltD (x.getD k d0) (x.getD j d0) = some false := by
           cases q : ltD (x.getD k d0) (x.getD j d0) with
           | none => rw [q] at c2; cases c2
           | some b => cases b with
            | true => exact absurd q (of_decide_eq_false h2)
            | false => rfl
          rw [Zjr e1 e2] at h3; cases h3
       have fin : ∀ (out : List Value) (p : List Nat) t h' a', p.Perm (List.range its.length) → (∀ (i j x' y' : Nat), i ≤ j → p[i]? = some x' → p[j]? = some y' → decide (ltD (x.getD y' d0) (x.getD x' d0) = some true) = false) → out = p.map (fun i => its.getD i Value.none) →
         (∀ b u, s.heap.get? b = some u → h'.get? b = some u) → s.heap.objs.size ≤ a' → (∃ e, h'.get? a' = some (seqObj "list" out.toArray e)) → ∃ v H', Inv X pins σ H' { s with heap := h', toks := t } ∧ RelV v (.ref a') ∧ Q v H' := by
        intro out p t h' a' hp hu ho hk ha' ⟨e, he⟩
        have hlt : ∀ i ∈ p, i < x.length := fun i hi => by have := hp.mem_iff.mp hi; rw [lx] at this; simpa using this
        have plen : p.length = x.length := by have := hp.length_eq; simpa [lx] using this
        have sq : ZeK x (p.map fun i => x.getD i d0) := by
         refine ⟨Zjb d0 (by rw [← lx]; exact hp), ?_⟩
         rw [List.pairwise_map, List.pairwise_iff_getElem]
         intro i j hi hj hij
         have hd := hu i j p[i] p[j] (Nat.le_of_lt hij) (by simp) (by simp)
         by_cases hx : x = []
         ·subst hx; simp at plen; subst plen; simp at hi
         ·have c1 := ok.cmp _ (mem p[j] hx) _ (mem p[i] hx)
          unfold leD
          cases q : ltD (x.getD p[j] d0) (x.getD p[i] d0) with
          | none => rw [q] at c1; cases c1
          | some b => cases b with
           | true => exact absurd q (of_decide_eq_false hd)
           | false => rfl
        rw [ZdY sq] at h
        have hn0 := I.hok.fresh ha'
        obtain ⟨x2, S2, r2⟩ := S.lst hn0 (rv.pick d0 .non p hlt)
        refine ⟨.ref a', _, I.laid (o := .lst (p.map fun i => vs.getD i .non)) hk ha' ⟨?_, out, e, ?_, he⟩, rfl, h _ _ _ x2 S2 r2⟩
        ·rw [List.length_map, plen, sizeLine_eq]; have := ok.len; omega
        ·rw [ho]; exact Vals.pick rr .non p fun i hi => by rw [rv.length]; exact hlt i hi
       rcases ok.kind with kd | kd
       ·refine ZgM (κ := tuples' (Value.type "int" != Value.type "tuple")) ltok pl.isList (by rw [lx]; exact ok.len) (fun h2 h' Q' s' hk hs' hq => ?_) (fun h2 h' i j C s' hk hi hj hs' hC => ?_) fun out p t h' a' hp hu ho hk ha' he => fin out p t h' a' hp hu ho hk ha' he
        ·obtain ⟨fs, kt, lf, hf⟩ := Zek I hk x vs its rv rr kd
         obtain ⟨t, rfl⟩ := hs'
         refine kat_kind (T := .type "int") kt (by rw [lf, ← lx]; omega) (fun v hv => ?_) (by decide) (hq _ ⟨t, rfl⟩)
         obtain ⟨i, tk, rfl⟩ := hf v hv
         exact Looks.now
        ·obtain ⟨t, rfl⟩ := hs'
         have hxi : x[i]? = some x[i] := by rw [List.getElem?_eq_getElem]
         have hxj : x[j]? = some x[j] := by rw [List.getElem?_eq_getElem]
         obtain ⟨vi, ri, qi, _⟩ := ZcH rv rr hxi
         obtain ⟨vj, rj, qj, _⟩ := ZcH rv rr hxj
         have ki := List.all_eq_true.mp kd _ (List.getElem_mem (show i < x.length by omega))
         have kj := List.all_eq_true.mp kd _ (List.getElem_mem (show j < x.length by omega))
         have cm := ok.cmp _ (List.getElem_mem (show i < x.length by omega)) _ (List.getElem_mem (show j < x.length by omega))
         have gi : x.getD i d0 = x[i] := by simp [show i < x.length by omega]
         have gj : x.getD j d0 = x[j] := by simp [show j < x.length by omega]
         simp only [gi, gj] at hC
         generalize x[i] = di at *
         generalize x[j] = dj at *
         cases di with
         | tup di =>
          cases dj with
          | tup dj =>
           obtain ⟨a1, w1, rfl, s1, e1⟩ := qi.tup_inv
           obtain ⟨a2, w2, rfl, s2, e2⟩ := qj.tup_inv
           obtain ⟨i1, v1, ⟨o1, g1, _, n1, d1⟩, _⟩ := I.tuple s1
           obtain ⟨i2, v2, ⟨o2, g2, _, n2, d2⟩, _⟩ := I.tuple s2
           unfold kas_ask
           rw [show its.getD i Value.none = .ref a1 from ri, show its.getD j Value.none = .ref a2 from rj]
           cases q : ltT di dj with
           | none => simp only [ltD, q] at cm; cases cm
           | some b =>
            refine kat_lt (hk _ _ g1) d1 (hk _ _ g2) d2 (Zkf (r := b) ?_ di dj w1 w2 i1 i2 0 _ e1 e2 v1 v2 ?_ (fun _ d hd => ?_) q)
            ·have := hC _ ⟨t, rfl⟩
             simp only [ltD, q] at this
             cases b <;> simpa using this
            ·rw [List.size_toArray, List.size_toArray, ← v1.length, ← v2.length, e1.length, e2.length]
            ·cases di with
             | nil => cases hd
             | cons d' r' => cases hd; cases d <;> simp [ZbX, Zdb] at ki ⊢
          | _ => simp [ZbX] at kj
         | _ => simp [ZbX] at ki
       ·refine ZgM (κ := oneType') ltok pl.isList (by rw [lx]; exact ok.len) (fun h2 h' Q' s' hk hs' hq => ?_) (fun h2 h' i j C s' hk hi hj hs' hC => ?_) fun out p t h' a' hp hu ho hk ha' he => fin out p t h' a' hp hu ho hk ha' he
        ·obtain ⟨t, rfl⟩ := hs'
         refine kas_kind (T := .type "int") h2 (fun v hv => ?_) (by decide) (by decide) (hq _ ⟨t, rfl⟩)
         obtain ⟨i, hi, rfl⟩ := List.getElem_of_mem hv
         have hxi : x[i]? = some x[i] := by rw [List.getElem?_eq_getElem]
         obtain ⟨vi, ri, qi, _⟩ := ZcH rv rr hxi
         have ki := List.all_eq_true.mp kd _ (List.getElem_mem (show i < x.length by omega))
         have gi : its.getD i Value.none = its[i] := by simp [hi]
         rw [gi] at ri
         generalize x[i] = di at *
         cases di with
         | int k =>
          have := qi.int_inv
          subst this
          obtain ⟨tk, e⟩ := ri
          rw [e]
          exact Looks.now
         | _ => simp [Zdb] at ki
        ·obtain ⟨t, rfl⟩ := hs'
         have hxi : x[i]? = some x[i] := by rw [List.getElem?_eq_getElem]
         have hxj : x[j]? = some x[j] := by rw [List.getElem?_eq_getElem]
         obtain ⟨vi, ri, qi, _⟩ := ZcH rv rr hxi
         obtain ⟨vj, rj, qj, _⟩ := ZcH rv rr hxj
         have ki := List.all_eq_true.mp kd _ (List.getElem_mem (show i < x.length by omega))
         have kj := List.all_eq_true.mp kd _ (List.getElem_mem (show j < x.length by omega))
         have gi : x.getD i d0 = x[i] := by simp [show i < x.length by omega]
         have gj : x.getD j d0 = x[j] := by simp [show j < x.length by omega]
         simp only [gi, gj] at hC
         generalize x[i] = di at *
         generalize x[j] = dj at *
         cases di with
         | int p =>
          cases dj with
          | int q =>
           have := qi.int_inv; subst this
           have := qj.int_inv; subst this
           obtain ⟨t1, e1⟩ := ri
           obtain ⟨t2, e2⟩ := rj
           unfold kas_ask
           rw [e1, e2, keyLt'_oneType]
           refine oneLt_int ?_
           have := hC _ ⟨t, rfl⟩
           simpa [ltD] using this
          | _ => simp [Zdb] at kj
         | _ => simp [Zdb] at ki
      ·exact h.elim
   | _ => exact h.elim
end
end L3
namespace L3
open PySem PySem.Spec PyProof.Rows L2
section
variable {X : Cx} {a b c e o : Expr} {es : List Expr} {pos p apos cpos : Pos} {f g h : E3} {gl : EL3}
theorem Znd : ZaN X (.type "int") (rB X.K Zng) := ZaN.imp Zjc fun xs H Q ⟨ι, M, ds, S, rd, h⟩ => by
 cases ds with
 | nil => exact h.elim
 | cons d ds =>
  cases ds with
  | cons _ _ => cases d <;> exact h.elim
  | nil =>
   obtain ⟨x, rfl, r⟩ := ZcP rd
   cases d with
   | int i => exact .inl ⟨i, by rw [r.int_inv], Zab.ok h S Rep.int⟩
   | bl k => exact .inr ⟨k, by rw [r.bl_inv], Zab.ok h S Rep.int⟩
   | _ => exact h.elim
theorem ZmI {K : PySem.W.Frag} {H : Hp} {ι : List Addr} {M : Store} (S : Zx K H ι M) {n : Nat} {a : Addr} (h : (ZbN M[n]?).isSome = true) (ha : ι[n]? = some a) : IsD H a := by
 cases hn : ZbN M[n]? with
 | none => rw [hn] at h; cases h
 | some kvs =>
  obtain ⟨ws, hw, _⟩ := Zgg S hn ha
  exact .inl ⟨ws, hw⟩
theorem ZjI {K : PySem.W.Frag} {H : Hp} {ι : List Addr} {kvs : List (ZaC × D)} {ws : List (Key × V)} {d : D} {z : V} (kr : KvR K H ι kvs ws) (k : ZaC) (rd : Rep K H ι d z) : Rep K H ι ((Zbt kvs k).getD d) ((Zds ws (dk k)).getD z) := by
 have hv := kr.val k
 cases q : Zbt kvs k with
 | none => rw [q] at hv; rw [hv]; exact rd
 | some w =>
  rw [q] at hv
  obtain ⟨v, ev, rv⟩ := hv
  rw [ev]; exact rv
theorem Zhz {e' : Expr} (hu : X.A.units + 80 < cLine) (ho : C3 X o f) (he : C3 X e g) (he' : C3 X e' h) (m : M2 X o "get" apos e e' cpos := by exact ⟨rfl, rfl, rfl, rfl⟩) : C3 X (.Call (.Attribute o "get" apos) [e, e'] [] cpos) (Zcq Zd1 Zd9 f (Za g (Za h Ze))) := (ZjX (hu1 hu) ho he he' m).imp fun σ H Q ⟨ι, M, env, S, E, hh⟩ => by
 obtain ⟨d, M1, e1, hh⟩ := Zab.bind hh
 refine ⟨ι, M, env, S, E, ?_⟩
 rw [e1]
 intro x H1 ι1 x1 S1 r1
 cases d with
 | ref n =>
  by_cases hD : (ZbN M1[n]?).isSome = true
  ·simp only [Zd1, hD, if_true] at hh
   obtain ⟨ad, ha, rfl⟩ := r1.ref_inv
   obtain ⟨ds, M2, e2, hh⟩ := Zab.bind hh
   refine ⟨ad, rfl, ZmI S1 hD ha, ι1, M1, env, S1, E.mono x1, ?_⟩
   cases q : g env M1 with
   | bad => simp [q] at e2
   | exc x' M' => simp [q] at e2
   | ok b M2' =>
    cases q' : h env M2' with
    | bad => simp [q, q'] at e2
    | exc x' M' => simp [q, q'] at e2
    | ok b' M3' =>
     simp only [Za, q, q', R3.bind, Ze] at e2
     cases e2
     intro y H2 ι2 x2 S2 r2
     refine ⟨ι2, M2', env, S2, (E.mono x1).mono x2, ?_⟩
     rw [q']
     intro z H3 ι3 x3 S3 r3
     simp only [Zd9] at hh
     cases hn : ZbN M2[n]? with
     | none => simp only [hn] at hh; exact hh.elim
     | some kvs =>
      cases hk : Zdu b with
      | none => simp only [hn, hk] at hh; exact hh.elim
      | some kk =>
       simp only [hn, hk] at hh
       obtain ⟨ws, hw, kr⟩ := Zgg S3 hn (x3.pre _ _ (x2.pre _ _ ha))
       refine ⟨Zds ws (dk kk), .inl ⟨ws, dk kk, hw, Zet hk r2, rfl⟩, hh _ H3 ι3 ((x1.trans x2).trans x3) S3 (ZjI kr kk r3)⟩
  ·simp only [Zd1, hD] at hh; exact hh.elim
 | _ => exact hh.elim
end
section
variable {X : Cx} {pins : List (Addr × Obj)} {σ : St} {H : Hp} {s : Shared} {d : Addr} {ws : List (Key × V)} {ob : Obj}
theorem ZiL (hk : HOk X.prog X.w H s.heap) (h : H d = some (.dK ws)) (ho : s.heap.get? d = some ob) : HOk X.prog X.w (upd H d (.frz ob (.dK ws))) s.heap := fun b u e => by
 have stay : ∀ {b u}, H b = some u → ZaS X.prog X.w (upd H d (.frz ob (.dK ws))) s.heap b u := fun {b u} e => (hk b u e).stay (fun _ _ _ q => q) (fun c q => by rw [Zt (Zfs q h (by intro z; cases z))]; exact q) fun c xs q => by rw [Zt (Zfs q h (by intro z; cases z))]; exact q
 by_cases eb : b = d
 ·subst eb
  rw [ZaT] at e
  cases e
  exact ⟨ho, stay h⟩
 ·rw [Zt eb] at e
  exact stay e
theorem _root_.L2.Inv.still (I : Inv X pins σ H s) (h : H d = some (.dK ws)) (ho : s.heap.get? d = some ob) : Inv X pins σ (upd H d (.frz ob (.dK ws))) s := by
 have nd : ∀ b, H b = none → b ≠ d := fun b n z => by rw [z, h] at n; cases n
 exact I.step (h' := s.heap) (g' := s.gens) (t' := s.toks) (d' := s.drawn) (ch := []) (fun _ z => nomatch z) (fun b o _ _ _ e _ => e) (fun b o _ _ _ e _ => ⟨o.slots, e⟩) (fun b o _ _ n => by rw [Zt (nd b n)]; exact n) (fun b o _ e => ⟨o, e⟩)
  (fun b xs q => by rw [Zt (Zfs q h (by intro z; cases z))]; exact q) (fun b o u q => by rw [Zt (Zfs q h (by intro z; cases z))]; exact q) (fun b ps q => ⟨#[], by rw [Zt (Zfs q h (by intro z; cases z)), q]; simp⟩) (fun _ hm => hm) (ZiL I.hok h ho) I.bare
theorem _root_.L2.Inv.thaw (I : Inv X pins σ H s) (h : H d = some (.frz ob (.dK ws))) (h0 : ∀ o u, X.H₀ d ≠ some (.frz o u)) : Inv X pins σ (upd H d (.dK ws)) s := by
 have nd : ∀ b, H b = none → b ≠ d := fun b n z => by rw [z, h] at n; cases n
 have nt : ∀ {b u}, H b = some u → (∀ o v, u ≠ .frz o v) → b ≠ d := fun q nz z => by rw [z, h] at q; cases q; exact nz _ _ rfl
 have stay : ∀ {b u}, H b = some u → ZaS X.prog X.w (upd H d (.dK ws)) s.heap b u := fun {b u} e => (I.hok b u e).stay (fun _ _ _ q => q) (fun c q => by rw [Zt (nt q fun _ _ z => nomatch z)]; exact q) fun c xs q => by rw [Zt (nt q fun _ _ z => nomatch z)]; exact q
 refine ⟨I.ok, I.os, I.bare, ⟨I.base.keep, I.base.slot, fun b o e n hx => ?_, I.base.there, fun b xs e => ?_, fun b o u e => ?_, fun b ps e => ?_⟩, I.loc, I.cell, ?_, fun x c e => ?_, fun p hp => ?_, fun b u e => ?_, I.len⟩
 ·have := I.base.free b o e n hx
  rw [Zt (nd b this)]; exact this
 ·have := I.base.tups b xs e
  rw [Zt (nt this fun _ _ z => nomatch z)]; exact this
 ·have hb : b ≠ d := fun z => by subst z; exact h0 o u e
  rw [Zt hb]; exact I.base.frzs b o u e
 ·obtain ⟨more, q⟩ := I.base.tbls b ps e
  exact ⟨more, by rw [Zt (nt q fun _ _ z => nomatch z)]; exact q⟩
 ·rw [Zt (nd _ I.free)]; exact I.free
 ·rw [Zt (nd _ (I.freeC x c e))]; exact I.freeC x c e
 ·obtain ⟨e, n, r⟩ := I.pin p hp
  exact ⟨e, by rw [Zt (nd _ n)]; exact n, r⟩
 ·by_cases eb : b = d
  ·subst eb
   rw [ZaT] at e
   cases e
   obtain ⟨_, q⟩ := (show ZaS X.prog X.w H s.heap b (.frz ob (.dK ws)) from I.hok b _ h)
   exact q.stay (fun _ _ _ q => q) (fun c q => by rw [Zt (nt q fun _ _ z => nomatch z)]; exact q) fun c xs q => by rw [Zt (nt q fun _ _ z => nomatch z)]; exact q
  ·rw [Zt eb] at e
   exact stay e
end
def Itd (d : Addr) (ob : Obj) (ws : List (Key × V)) : It :=
 ⟨fun i H => H d = some (.frz ob (.dK ws)) ∧ i < ws.length, fun i H x H' => H' = H ∧ ∃ q, ws[i]? = some q ∧ x = kV q.1, fun i H => H d = some (.frz ob (.dK ws)) ∧ i = ws.length⟩
theorem ZnK {P : Program} {w : World} {k : Key} {v : Value} (h : (Zaq P w).is k v = true) : RelV (kV k) v := by
 rw [ZhD] at h
 rcases ZaF h with ⟨i, t, rfl, rfl⟩ | ⟨x, t, rfl, rfl⟩
 ·exact ⟨t, rfl⟩
 ·exact ⟨t, rfl⟩
theorem ZiS {P : Program} {w : World} {K : PySem.W.Frag} {tg : Expr} {it d : Addr} {ob : Obj} {ws : List (Key × V)} {vs : List (Key × Value)} {ep : Nat} (hne : d ≠ it) (hD : ∀ h : Heap, h.get? d = some ob → h.DictAt (Zaq P w) d vs ep) (kv : KV ws vs) :
  Turn P w K tg (Itd d ob ws) [it] it (fun i h => h.IsKeyIter it d i vs.length ep) where
 mem := by simp
 obj := fun i h st b hb => by
  have e : b = it := by simpa using hb
  subst e
  obtain ⟨o, e, c, d⟩ := st
  exact ⟨o, e, fun v z => by rw [d] at z; cases z⟩
 keep := fun i h h' st k => st.at fun o e => k it (by simp) o e
 item := by
  intro X hP hw hK hc i pins s σ H E I hf st hg
  subst hP hw hK
  obtain ⟨f0, f1, f2, f3, f4, f5⟩ := hf it (by simp)
  have hob := (show ZaS X.prog X.w H s.heap d (.frz ob (.dK ws)) from I.hok d _ hg.1).1
  refine (Walks.dictKeys (I.ok.hd hc) it d hne vs ep).item i s _ _ (by rw [← kv.length]; exact hg.2) ⟨st, hD _ hob⟩ fun v h' tk hv st' kk => ?_
  obtain ⟨k, x, hx, hk⟩ := hv
  have I1 : Inv X pins σ H { s with heap := h', toks := tk } := I.turned (fun b o hb e => kk b o (by simpa using hb) e) f0 f1 f3 f4 f5
  obtain ⟨o, e, cc, dd⟩ := id st'.1
  have hil : i < ws.length := hg.2
  have hq : ws[i]? = some ws[i] := by simp [hil]
  have ek : ws[i].1 = k := by
   have := congrArg (fun l => l[i]?) kv.keys
   simp only [List.getElem?_map, hq, hx, Option.map_some, Option.some.injEq] at this
   exact this
  exact ⟨_, rfl, ZgP (s := { s with heap := h', toks := tk }) e cc dd (by decide) ⟨kV k, H, I1, ZnK hk, ⟨rfl, ws[i], hq, by rw [ek]⟩, st'.1, fun b hb => (hf b hb).1⟩⟩
 done := by
  intro X hP hw hK hc i pins s σ H E I hf st hg
  subst hP hw hK
  obtain ⟨f0, f1, f2, f3, f4, f5⟩ := hf it (by simp)
  have hob := (show ZaS X.prog X.w H s.heap d (.frz ob (.dK ws)) from I.hok d _ hg.1).1
  have ei : i = vs.length := by rw [hg.2, kv.length]
  subst ei
  exact (Walks.dictKeys (I.ok.hd hc) it d hne vs ep).done s _ _ ⟨st, hD _ hob⟩ fun h' tk kk => ⟨rfl, I.turned (fun b o hb e => kk b o (by simpa using hb) e) f0 f1 f3 f4 f5⟩
 self := fun _ _ _ _ _ st h => wpAny_pyIter_keyiter st h
def ZdF (f : E3) : I3 := fun env M => (f env M).bind fun a M1 => match a with
 | .ref n => match M1[n]? with
  | some (.dct kvs) => .ok ⟨kvs.map fun q => keyV q.1, none⟩ (M1.set n (.fdct kvs))
  | _ => .bad
 | _ => .bad
theorem Zjq {K : PySem.W.Frag} {H : Hp} {ι : List Addr} (k : ZaC) : Rep K H ι (keyV k) (kV (dk k)) := by
 cases k with
 | inl i => exact Rep.int
 | inr x => exact Rep.str
section
variable {X : Cx} {tg e elt : Expr} {ifs : List Expr} {pos : Pos} {f fe : E3} {ts : List E3} {g : G3} {scope : Scope} {N' : List Str} {own : Nat}
theorem ZgO (h : C3 X e f) : CI X tg e (ZdF f) := by
 intro pins s σ H R I ⟨ι, M, env, S, E, hw⟩
 obtain ⟨d, M1, e1, hw⟩ := Zhj.bind hw
 refine thn (h pins s σ H (fun v H' => ∃ ι', Ext X.K H ι H' ι' ∧ Zx X.K H' ι' M1 ∧ Rep X.K H' ι' d v) I ⟨ι, M, env, S, E, by rw [e1]; exact fun v H' ι' x S' r => ⟨ι', x, S', r⟩⟩) fun v s1 ⟨x, H1, I1, r1, ι1, x1, S1, rd⟩ => ?_
 cases d with
 | ref n =>
  cases hn : M1[n]? with
  | none => simp only [hn] at hw; exact hw.elim
  | some ob =>
   cases ob with
   | lst _ => simp only [hn] at hw; exact hw.elim
   | fdct _ => simp only [hn] at hw; exact hw.elim
   | dct kvs =>
    simp only [hn] at hw
    obtain ⟨a, ha, rfl⟩ := rd.ref_inv
    cases r1
    obtain ⟨ws, hws, kr⟩ := S1.obj n _ a hn ha
    obtain ⟨zl, hsys, vs, kv, o, es, ep, ho, hrest⟩ := Zli I1.hok hws
    have hlt : a < s1.heap.objs.size := Heap.lt_size ho
    refine wpAny_pyIter_dict (kvs := vs) (ep := ep) hsys ⟨o, es, ho, hrest⟩ ?_
    have I2 : Inv X pins σ H1 { s1 with heap := s1.heap.push { cls := .type "dict_keyiterator", data := .fields #[.ref a, .int 0 0, .int vs.length 0, .int ep 0] } } := I1.kept (t' := s1.toks) fun b u q => Heap.get?_push_of_some _ q
    have I3 := I2.still hws (Heap.get?_push_of_some _ ho)
    have l0 : Loose H1 a := .inr (.inr ⟨ws, hws⟩)
    have x2 : Ext X.K H1 ι1 (upd H1 a (.frz o (.dK ws))) ι1 := l0.ext
    have S2 : Zx X.K (upd H1 a (.frz o (.dK ws))) ι1 (M1.set n (.fdct kvs)) := S1.put l0 ha ⟨ws, ⟨o, ZaT⟩, kr.mono x2⟩
    refine ⟨s1.heap.objs.size, [s1.heap.objs.size], _, Itd a o ws, _, rfl, I3, ZiS (vs := vs) (ep := ep) (Nat.ne_of_lt hlt) (fun h' hh => ⟨o, es, hh, hrest⟩) kv, ⟨_, Heap.get?_push_size _ rfl, rfl, rfl⟩, fun b hb => ?_, hw _ _ ι1 (x1.trans x2) S2 ?_⟩
    ·have eb : b = s1.heap.objs.size := by simpa using hb
     subst eb
     exact I1.fpOk (Nat.le_refl _) (by rw [Zt (Nat.ne_of_gt hlt)]; exact I1.hok.fresh (Nat.le_refl _))
    ·intro i H2 ι2 M2 x S3 _
     have hz := x.frz a o _ ZaT
     refine ⟨fun dd hd => ?_, fun hl => ⟨hz, by rw [hl, List.length_map, kr.length]⟩⟩
     rw [List.getElem?_map] at hd
     cases hq : kvs[i]? with
     | none => rw [hq] at hd; cases hd
     | some q =>
      rw [hq] at hd
      have hd' : keyV q.1 = dd := by simpa using hd
      subst hd'
      have hi : i < ws.length := by rw [kr.length]; exact (List.getElem?_eq_some_iff.mp hq).1
      refine ⟨⟨hz, hi⟩, fun y H3 hy => ⟨hy.1, ?_⟩⟩
      obtain ⟨_, w', hw', rfl⟩ := hy
      have ek : w'.1 = dk q.1 := by
       have := congrArg (fun l => l[i]?) kr.1
       simp only [List.getElem?_map, hw', hq, Option.map_some, Option.some.injEq] at this
       exact this
      rw [ek]
      exact Zjq q.1
 | _ => exact hw.elim
theorem ZnD {x : Str} {pos2 : Pos} (i : Nat) (O : Zeb X scope N' own) (hxe : X.xe = fun _ _ => False) (hc : X.calm = true) (hi : C3 X (.Name x pos2) (Zb i))
  (hb : ∀ C cl s H ex, CG (ZaJ X scope N' C cl s H ex) tg g ∧ CTs (ZaJ X scope N' C cl s H ex) ifs ts ∧ C3 (ZaJ X scope N' C cl s H ex) elt fe)
  (hs : ∀ y, foldedSetIterable (.Name x pos2) X.env y = pure y := by intro _; rfl) : C3 X (.ListComp elt [⟨tg, .Name x pos2, ifs, 0⟩] scope pos) (Zgf (Zb i) own g ts fe) := by
 intro pins s σ H Q I ⟨ι, M, env, S, E, h⟩
 obtain ⟨d, M1, e1, h⟩ := Zab.bind h
 have eM : M1 = M := by
  simp only [Zb] at e1
  split at e1
  ·cases e1; rfl
  ·cases e1
 subst eM
 cases d with
 | ref n =>
  cases hn : M1[n]? with
  | none => simp only [hn] at h; exact h.elim
  | some ob =>
   cases ob with
   | lst _ => simp only [hn] at h; exact h.elim
   | fdct _ => simp only [hn] at h; exact h.elim
   | dct kvs =>
    simp only [hn] at h
    obtain ⟨v, M2, e2, h⟩ := Zab.bind h
    have ha : ∃ a, ι[n]? = some a ∧ Zdc X.K H ι (.dct kvs) a := S.at hn
    obtain ⟨a, ha, ws0, hw0, _⟩ := ha
    have eL : eLC (ZdF (Zb i)) own g ts fe env M1 = .ok v M2 := by
     unfold eLC ZdF
     rw [e1]
     simp only [R3.bind, hn]
     rw [List.length_set]
     exact e2
    refine thn (Znj (i := ZdF (Zb i)) O hxe hc (ZgO hi) hb hs pins s σ H (fun v' H' => ∃ ι', Ext X.K H ι H' ι' ∧ Zx X.K H' ι' M2 ∧ Rep X.K H' ι' v v') I ⟨ι, M1, env, S, E, by rw [eL]; exact fun v' H' ι' x S' r => ⟨ι', x, S', r⟩⟩) fun v' s' ⟨x', H', I', rx, ι', xx, S', rv⟩ => ?_
    cases hm : M2[n]? with
    | none => simp only [hm] at h; exact h.elim
    | some ob2 =>
     cases ob2 with
     | lst _ => simp only [hm] at h; exact h.elim
     | dct _ => simp only [hm] at h; exact h.elim
     | fdct kvs' =>
      simp only [hm] at h
      have ha' := xx.pre _ _ ha
      obtain ⟨ws, ⟨o, hw⟩, kr⟩ := S'.obj n _ a hm ha'
      have I2 := I'.thaw hw fun o u z => by
       have := I.base.frzs a o u z
       rw [hw0] at this; cases this
      have nz : ∀ {b u}, H' b = some u → (∀ o v, u ≠ .frz o v) → upd H' a (.dK ws) b = some u := fun {b u} q nf => by
       rw [Zt]; · exact q
       ·rintro rfl; rw [hw] at q; cases q; exact nf _ _ rfl
      have tp : ∀ b xs, SqT X.K H' b xs → SqT X.K (upd H' a (.dK ws)) b xs := fun b xs q => by
       rcases q with (q | ⟨o', q⟩) | q
       ·exact .inl (.inl (nz q fun _ _ z => nomatch z))
       ·refine .inl (.inr ⟨o', ?_⟩)
        rw [Zt]; · exact q
        ·rintro rfl; rw [hw] at q; cases q
       ·exact .inr q
      have sc : ∀ b xs, SqF X.K H' b xs → SqF X.K (upd H' a (.dK ws)) b xs := fun b xs q => by
       rcases q with ⟨o', q⟩ | q
       ·refine .inl ⟨o', ?_⟩
        rw [Zt]; · exact q
        ·rintro rfl; rw [hw] at q; cases q
       ·exact .inr q
      have mono : ∀ {d' : D} {u : V}, Rep X.K H' ι' d' u → Rep X.K (upd H' a (.dK ws)) ι' d' u := fun {d' u} r => by
       exact Rep.keep tp sc r
      have monoL : ∀ {ds : List D} {us : List V}, Zm X.K H' ι' ds us → Zm X.K (upd H' a (.dK ws)) ι' ds us := fun {ds us} r => Zm.keep tp sc r
      have S2 : Zx X.K (upd H' a (.dK ws)) ι' (M2.set n (.dct kvs')) := by
       refine ⟨by simp [S'.len], S'.nd, fun k m b h1 h2 => ?_⟩
       by_cases hk : k = n
       ·subst hk
        rw [ha'] at h2; cases h2
        rw [List.getElem?_set_self (List.getElem?_eq_some_iff.mp hm).1] at h1
        cases h1
        exact ⟨ws, ZaT, kr.1, monoL kr.2⟩
       ·rw [List.getElem?_set_ne (Ne.symm hk)] at h1
        have hb' : b ≠ a := by
         rintro rfl
         have q1 := List.getElem?_eq_some_iff.mp h2
         have q2 := List.getElem?_eq_some_iff.mp ha'
         exact hk ((List.getElem_inj S'.nd).mp (q1.2.trans q2.2.symm))
        have := S'.obj k m b h1 h2
        cases m with
        | lst xs => obtain ⟨vs, q, r⟩ := this; exact ⟨vs, by rw [Zt hb']; exact q, monoL r⟩
        | dct xs => obtain ⟨vs, q, r⟩ := this; exact ⟨vs, by rw [Zt hb']; exact q, r.1, monoL r.2⟩
        | fdct xs => obtain ⟨vs, ⟨o', q⟩, r⟩ := this; exact ⟨vs, ⟨o', by rw [Zt hb']; exact q⟩, r.1, monoL r.2⟩
      refine ⟨x', _, I2, rx, h x' _ ι' ⟨fun b xs q => tp b xs (xx.tup b xs q), fun b xs q => sc b xs (xx.scr b xs q), xx.pre, fun b o' u q => ?_⟩ S2 (mono rv)⟩
      have hb' : b ≠ a := by rintro rfl; rw [hw0] at q; cases q
      rw [Zt hb']
      exact xx.frz b o' u q
 | _ => exact h.elim
end
end L3
namespace L3
open PySem PySem.Spec PyProof.Rows L2
section
variable {prog : Program} {w : World} {A : Around} {E : Value → Shared → Prop} {s : Shared}
theorem ZiJ : typeLookup (.type "tuple") (Str.ofString "keys") = pure none := by rw [typeLookup_type, builtinLookup_eq_fast]; kernel_rfl
set_option maxRecDepth 8000 in
theorem Zgx {a : Addr} {o : Obj} {xs : Array Value} {k : Nat} {Q : Option Value → Shared → Prop} (hx : s.heap.get? a = some o) (hc : o.cls = .type "tuple") (hdat : o.data = .seq xs k) (hd : o.dict = none) (hA : A.handled = none)
  (h : ∀ h' tk, (∀ b u, s.heap.get? b = some u → h'.get? b = some u) → Q none { s with heap := h', toks := tk }) : wpAny (model prog w) A (getAttr? (.ref a) (Str.ofString "keys")) Q E s := by
 obtain ⟨c, dct, dat, sl⟩ := o
 simp only at hc hdat hd
 subst hc hdat hd
 obtain ⟨hp, g, d, tk, os⟩ := s
 have hT : ∀ tk', (⟨hp, g, d, tk', os⟩ : Shared).TypeIs (.ref a) "tuple" := fun _ => ⟨_, hx, rfl⟩
 have f1 := sub_AttributeError; have f3 := F.slot_tuple_getattribute.lookup; have f4 := F.slot_tuple_getattribute.bind (.ref a); have f5 := am_tuple_getattr_none
 unfold getAttr? getAttrBy? getAttrBy
 repeat (any_goals (first | assumption | exact hT _ | ((with_reducible show wpAny _ _ (call (Value.builtin "tuple.__getattribute__") _ _) _ _ _); refine call_meets F.slot_tuple_getattribute (hT _) am_entry_tuple_getattribute (F.args_tuple_getattribute_2 _ _) (meets_getattribute_miss_tuple a xs k sl _ _ ZiJ (by decide) (by rw [sizeLine_eq]; decide)) ⟨hx, hA, fun h' tk' e hx' => ?_⟩) | wp_step))
 obtain ⟨t', u', he⟩ := hx'.there
 show wpAny _ _ (getattributeRaised _ _ _ _ _ _ _) _ _ _
 unfold getattributeRaised
 repeat (any_goals (first | assumption | wp_step))
 all_goals exact h _ _ hx'.of.keeps
theorem Zc6 : entryFor table "dict.update.loop" = some Builtin.«dict.update.loop» := entryFor_of_tree (by kernel_rfl)
theorem ZbJ : plainId "dict.update.loop" = true := by decide +kernel
def Zhq (prog : Program) (w : World) (h : Heap) (v : Value) (q : Key × Value) : Prop := ∃ a o key n, v = .ref a ∧ h.get? a = some o ∧ o.cls = .type "tuple" ∧ o.data = .seq #[key, q.2] n ∧ (Zaq prog w).is q.1 key = true
theorem ZjG {d I ax : Addr} {items : Array Value} {ps : List (Key × Value)} {res : Value} (hh : A.in1.handled = none) (hne : ax ≠ I) (hdI : d ≠ I) (hda : d ≠ ax) (hl : ps.length = items.size) (hz : ps.length ≤ 100000) :
  ∀ (k i : Nat) (s : Shared) (kvs : List (Key × Value)) {R : Result → Shared → Prop}, items.size - i = k → i ≤ items.size → s.heap.IsTupleIter I ax i → s.heap.IsTuple ax items → s.heap.DictOf (Zaq prog w) d kvs → kvs.length ≤ i →
   (∀ (j : Nat) v q, items[j]? = some v → ps[j]? = some q → Zhq prog w s.heap v q ∧ v ≠ .ref d ∧ v ≠ .ref I) →
   (∀ h' tk, h'.DictOf (Zaq prog w) d (merged kvs (ps.drop i)) → (∀ b o, b ≠ d → b ≠ I → s.heap.get? b = some o → h'.get? b = some o) → R (.ok (.ret res)) { s with heap := h', toks := tk }) →
   codeAny (model prog w) A (.builtin "dict.update.loop" ⟨[.ref d, .ref I, rawInt i, res], []⟩) R s := by
 have W := Walks.tuple (prog := prog) (w := w) hh I ax hne items
 intro k
 induction k with
 | zero =>
  intro i s kvs R hk hi st tup dd hkl hp hR
  have hin : i = items.size := by omega
  subst hin
  refine codeAny_builtin Zc6 ?_
  rw [Around.under_plainId ZbJ _]
  show wpAny _ A.in1 (pyNext (.ref I) >>= _) _ _ s
  refine wpAny_bind (W.done s _ _ ⟨st, tup⟩ fun h' tk kk => ?_)
  show wpAny _ A.in1 (Builtin.Dict.addKeywords d [] >>= _) _ _ _
  refine wpAny_bind (wpAny_pure (wpAny_pure (hR h' tk ?_ fun b o hb hI e => kk b o (by simpa using hI) e)))
  rw [List.drop_of_length_le (by omega)]
  obtain ⟨o, es, ep, ho, r⟩ := dd
  exact ⟨o, es, ep, kk d o (by simpa using hdI) ho, r⟩
 | succ k ih =>
  intro i s kvs R hk hi st tup dd hkl hp hR
  have hlt : i < items.size := by omega
  have hv : items[i]? = some items[i] := by simp [hlt]
  have hq : ps[i]? = some (ps[i]'(by omega)) := by simp [show i < ps.length by omega]
  refine codeAny_builtin Zc6 ?_
  rw [Around.under_plainId ZbJ _]
  show wpAny _ A.in1 (pyNext (.ref I) >>= _) _ _ s
  refine wpAny_bind (W.item i s _ _ hlt ⟨st, tup⟩ fun v h1 tk1 hP st1 kk1 => ?_)
  rw [hv] at hP
  cases hP
  obtain ⟨⟨a, o, key, n, ev, ho, hc, hd, hkey⟩, nd, nI⟩ := hp i _ _ hv hq
  have haI : a ≠ I := fun z => nI (by rw [ev, z])
  have had : a ≠ d := fun z => nd (by rw [ev, z])
  have ho1 : h1.get? a = some o := kk1 a o (by simpa using haI) ho
  have dd1 : h1.DictOf (Zaq prog w) d kvs := by
   obtain ⟨o', es, ep, ho', r⟩ := dd
   exact ⟨o', es, ep, kk1 d o' (by simpa using hdI) ho', r⟩
  rw [ev]
  generalize ps[i]'(by omega) = q at hq hkey hd
  dsimp only
  refine wpAny_bind (wpAny_holding (wpAny_bind (wpAny_tryCatch ?_)))
  unfold Builtin.Dict.pairItems
  refine wpAny_bind (wpAny_typeOf (T := "tuple") ⟨o, ho1, hc⟩ ?_)
  rw [if_pos (by decide)]
  refine wpAny_bind ?_
  unfold seqItems?
  refine wpAny_bind (wpAny_load ho1 ?_)
  rw [hd]
  refine wpAny_pure (wpAny_pure ?_)
  show wpAny _ A.in1 (holding [key, q.2] (dictSet d key q.2)) _ _ _
  refine wpAny_holding (wpAny_dictSet_pairs hkey dd1 (fun h2 dd2 sb => ?_) (by rw [sizeLine_eq]; omega))
  refine wpAny_pure ⟨plainId_quiet ZbJ _, ?_⟩
  show codeAny (model prog w) A (.builtin "dict.update.loop" ⟨[.ref d, .ref I, rawInt ((i : Int) + 1), res], []⟩) R _
  have e1 : ((i : Int) + 1) = ((i + 1 : Nat) : Int) := by omega
  rw [e1]
  have k2 : ∀ b u, b ≠ d → b ≠ I → s.heap.get? b = some u → h2.get? b = some u := fun b u hb hI e => (sb.2 b hb).trans (kk1 b u (by simpa using hI) e)
  refine ih (i + 1) _ (stored kvs q.1 q.2) (by omega) hlt ?_ ?_ dd2 ?_ ?_ ?_
  ·obtain ⟨o', e', r⟩ := st1.1
   exact ⟨o', (sb.2 I (Ne.symm hdI)).trans e', r⟩
  ·obtain ⟨o', e', r⟩ := st1.2
   exact ⟨o', (sb.2 ax (Ne.symm hda)).trans e', r⟩
  ·have := (show (stored kvs q.1 q.2).length ≤ kvs.length + 1 from by unfold stored; split <;> simp)
   omega
  ·intro j v q' hj hq'
   obtain ⟨⟨a', o', key', n', ev', ho', r⟩, nd', nI'⟩ := hp j v q' hj hq'
   exact ⟨⟨a', o', key', n', ev', k2 a' o' (fun z => nd' (by rw [ev', z])) (fun z => nI' (by rw [ev', z])) ho', r⟩, nd', nI'⟩
  ·intro h' tk dd' kk'
   refine hR h' tk ?_ fun b u hb hI e => kk' b u hb hI (k2 b u hb hI e)
   have hq2 : ps.drop i = q :: ps.drop (i + 1) := by rw [List.drop_eq_getElem_cons (by omega)]; congr 1; rw [List.getElem?_eq_getElem (by omega)] at hq; exact Option.some.inj hq
   rw [hq2]
   exact dd'
theorem ZhX {ax : Addr} {items : Array Value} {ps : List (Key × Value)} {Q : Value → Shared → Prop} (hA : A.handled = none) (ht : Zcm s.heap ax items) (hl : ps.length = items.size) (hz : ps.length ≤ 100000)
  (hp : ∀ (j : Nat) v q, items[j]? = some v → ps[j]? = some q → Zhq prog w s.heap v q)
  (h : ∀ h' tk, h'.DictOf (Zaq prog w) s.heap.objs.size (merged [] ps) → (∀ b o, s.heap.get? b = some o → h'.get? b = some o) → Q (.ref s.heap.objs.size) { s with heap := h', toks := tk }) :
  wpAny (model prog w) A (call (.type "dict") [.ref ax]) Q E s := by
 obtain ⟨o, ho, ⟨hc, hdn⟩, n, hdat⟩ := id ht
 have hlt : ax < s.heap.objs.size := Heap.lt_size ho
 refine callType_codes (Q₁ := fun obj s₁ => obj = .ref s.heap.objs.size ∧ s₁ = { s with heap := s.heap.push { cls := .type "dict", data := .dict #[] } }) F.kt_called_dict (F.kt_typeCall_dict_1 _) F.entry_dict_init (kt_code_dict_new _ ⟨rfl, rfl⟩) ?_
 rintro obj s₁ ⟨rfl, rfl⟩
 have hnew : (s.heap.push { cls := .type "dict", data := .dict #[] }).DictOf (Zaq prog w) s.heap.objs.size [] := Heap.DictOf.new s.heap
 have hk1 : ∀ b u, s.heap.get? b = some u → (s.heap.push { cls := .type "dict", data := .dict #[] }).get? b = some u := fun b u q => Heap.get?_push_of_some _ q
 refine ⟨hnew.typeIs, F.args_dict_init_2 _ _, ?_⟩
 unfold Builtin.«dict.__init__»
 refine wpAny_bind ?_; unfold Builtin.Dict.selfAndRest
 refine wpAny_bind (wpAny_notOrdered_dict hnew.typeIs ?_); show wpAny _ _ (pure (s.heap.objs.size, [Value.ref ax])) _ _ _
 refine wpAny_pure ?_; show wpAny _ _ (Builtin.Dict.updateFrom "dict.__init__" s.heap.objs.size (.ref ax) [] .none) _ _ _
 unfold Builtin.Dict.updateFrom
 refine wpAny_bind (wpAny_typeOf (T := "tuple") ⟨o, hk1 _ _ ho, hc⟩ ?_)
 rw [if_pos (by decide)]
 refine wpAny_bind (Zgx (hk1 _ _ ho) hc hdat hdn hA fun h2 tk2 k2 => ?_)
 simp only [Option.isNone_none, if_true]
 refine wpAny_bind (wpAny_rule ?_)
 have d2 : h2.DictOf (Zaq prog w) s.heap.objs.size [] := by
  obtain ⟨o', es, ep, ho', r⟩ := hnew
  exact ⟨o', es, ep, k2 _ _ ho', r⟩
 have t2 : h2.IsTuple ax items := ⟨o, k2 _ _ (hk1 _ _ ho), hc, n, hdat⟩
 have l2 : s.heap.objs.size < h2.objs.size := by obtain ⟨o', _, _, ho', _⟩ := d2; exact Heap.lt_size ho'
 refine wpAny_bind (wpAny_pyIter_tuple t2 ?_)
 have k3 : ∀ b u, h2.get? b = some u → (h2.push { cls := .type "tuple_iterator", data := .fields #[.ref ax, .int 0 0] }).get? b = some u := fun b u q => Heap.get?_push_of_some _ q
 have t3 : (h2.push { cls := .type "tuple_iterator", data := .fields #[.ref ax, .int 0 0] }).IsTuple ax items := by obtain ⟨o', e', r⟩ := t2; exact ⟨o', k3 _ _ e', r⟩
 have d3 : (h2.push { cls := .type "tuple_iterator", data := .fields #[.ref ax, .int 0 0] }).DictOf (Zaq prog w) s.heap.objs.size [] := by obtain ⟨o', es, ep, ho', r⟩ := d2; exact ⟨o', es, ep, k3 _ _ ho', r⟩
 refine wpAny_pure ⟨plainId_quiet ZbJ _, ZjG (prog := prog) (w := w) (A := A.in1) (ax := ax) (items := items) (ps := ps) hA (Nat.ne_of_lt (Nat.lt_trans hlt l2)) (Nat.ne_of_lt l2) (Nat.ne_of_gt hlt) hl hz items.size 0 _ [] (by omega) (Nat.zero_le _) ⟨_, Heap.get?_push_size _ rfl, rfl, rfl⟩ t3 d3 (Nat.zero_le _) (fun j v q hj hq => ?_) fun h' tk dd' kk' => ?_⟩
 ·obtain ⟨a, o', key, n', ev, ho', r⟩ := hp j v q hj hq
  have hla : a < s.heap.objs.size := Heap.lt_size ho'
  refine ⟨⟨a, o', key, n', ev, k3 _ _ (k2 _ _ (hk1 _ _ ho')), r⟩, fun z => ?_, fun z => ?_⟩
  ·rw [ev] at z; injection z with z; exact absurd hla (by rw [z]; exact Nat.lt_irrefl _)
  ·rw [ev] at z; injection z with z; exact absurd (Nat.lt_trans hla l2) (by rw [z]; exact Nat.lt_irrefl _)
 ·refine ⟨rfl, h h' tk dd' fun b u q => kk' b u (Nat.ne_of_lt (Heap.lt_size q)) (Nat.ne_of_lt (Nat.lt_trans (Heap.lt_size q) l2)) (k3 _ _ (k2 _ _ (hk1 _ _ q)))⟩
end
section
variable {X : Cx}
theorem pairs_at {pins : List (Addr × Obj)} {σ : St} {H : Hp} {s : Shared} {ι : List Addr} (I : Inv X pins σ H s) : ∀ {x : List D} {l : List (ZaC × D)} {vs : List V} {us : List Value}, ZbQ x = some l → Zm X.K H ι x vs → Vals vs us →
  ∃ (ws : List (Key × V)) (ps : List (Key × Value)), KvR X.K H ι l ws ∧ KV ws ps ∧ ps.length = us.length ∧ ∀ (j : Nat) v q, us[j]? = some v → ps[j]? = some q → Zhq X.prog X.w s.heap v q
 | [], l, vs, us, h, r, v => by
  have e := r.nil_inv; subst e; cases v
  have : l = [] := by simpa [ZbQ] using h.symm
  subst this
  exact ⟨[], [], KvR.nil, .nil, rfl, fun j v q h => by simp at h⟩
 | d :: x, l, vs, us, h, r, v => by
  obtain ⟨u, vs', rfl, r1, r2⟩ := r.cons_inv
  cases v with
  | @cons _ z _ us' rz rzs =>
  cases d with
  | tup ds =>
   match ds, h, r1 with
   | [a, b], h, r1 =>
    simp only [ZbQ] at h
    cases hk : Zdu a with
    | none => simp only [hk] at h; cases h
    | some kk =>
     simp only [hk] at h
     cases hx : ZbQ x with
     | none => rw [hx] at h; cases h
     | some l' =>
      rw [hx] at h
      have : l = (kk, b) :: l' := by simpa using h.symm
      subst this
      obtain ⟨ws, ps, kr, kv, lp, hp⟩ := pairs_at I hx r2 rzs
      obtain ⟨ad, xs, rfl, sq, rr⟩ := r1.tup_inv
      cases (show z = Value.ref ad from rz)
      obtain ⟨ya, ys, rfl, ra, rr⟩ := rr.cons_inv
      obtain ⟨yb, ys, rfl, rb, rr⟩ := rr.cons_inv
      have e := rr.nil_inv; subst e
      obtain ⟨its, rv, ⟨o, ho, hc, n, hd⟩, _⟩ := I.tuple sq
      cases rv with
      | @cons _ u1 _ _ q1 rv =>
      cases rv with
      | @cons _ u2 _ _ q2 rv =>
      cases rv
      refine ⟨(dk kk, yb) :: ws, (dk kk, u2) :: ps, KvR.cons rb kr, .cons ⟨rfl, q2⟩ kv, by simp [lp], fun j v q hj hq => ?_⟩
      cases j with
      | zero =>
       simp at hj hq
       subst hj hq
       exact ⟨ad, o, u1, n, rfl, ho, hc, hd, ZgJ (by rw [← Zet hk ra]; exact q1)⟩
      | succ j => exact hp j v q (by simpa using hj) (by simpa using hq)
   | [], h, _ => simp [ZbQ] at h
   | [_], h, _ => simp [ZbQ] at h
   | _ :: _ :: _ :: _, h, _ => simp [ZbQ] at h
  | _ => simp [ZbQ] at h
theorem ZmG (hc : X.calm = true) : ZaN X (.type "dict") (rB X.K Zeh) := by
 intro pins s σ H xs us Q I rs ⟨ι, M, ds, S, rd, h⟩
 cases ds with
 | nil => exact h.elim
 | cons d ds =>
  cases ds with
  | cons _ _ => cases d <;> exact h.elim
  | nil =>
   obtain ⟨x, rfl, r⟩ := ZcP rd
   obtain ⟨u, rfl, ru⟩ := vals1 rs
   cases d with
   | ref n =>
    cases hn : ZbN M[n]? with
    | none => simp only [Zeh, hn] at h; exact h.elim
    | some kvs =>
     simp only [Zeh, hn] at h
     obtain ⟨a, ha, rfl⟩ := r.ref_inv
     cases ru
     obtain ⟨ws, hw, kr⟩ := Zgg S hn ha
     refine ZjA I hw fun p s' hp I' => ⟨.ref p, _, I', rfl, ?_⟩
     obtain ⟨x2, S2, r2⟩ := S.dct hp kr
     exact h _ _ _ x2 S2 r2
   | tup z =>
    simp only [Zeh] at h
    cases hp : ZbQ z with
    | none => rw [hp] at h; exact h.elim
    | some l =>
     rw [hp] at h
     dsimp only at h
     split at h
     ·rename_i hz
      obtain ⟨a, vs, rfl, sq, rr⟩ := r.tup_inv
      cases ru
      obtain ⟨its, rv, ht, _⟩ := I.tupleN sq
      obtain ⟨ws, ps, kr, kv, lp, hpp⟩ := pairs_at I hp rr rv
      have hl : ps.length = l.length := by rw [← kv.length, kr.length]
      refine ZhX (ps := ps) (I.ok.hd hc) ht (by simpa using lp) (by rw [hl]; exact hz) (fun j v q hj hq => hpp j v q (by simpa using hj) hq) fun h' tk dd kk => ⟨.ref s.heap.objs.size, upd H s.heap.objs.size (.dK (ZeO [] ws)), ?_, rfl, ?_⟩
      ·have hm := kv.merge (kvs := []) (vs := []) .nil
       refine I.laid kk (Nat.le_refl _) (Zhx ?_ (beq_eq_false_iff_ne.mpr (Ne.symm (Nat.ne_of_lt I.big))) hm dd)
       have h1 := Zdx ws []
       rw [List.length_nil] at h1
       rw [sizeLine_eq]
       have := kr.length
       omega
      ·obtain ⟨x2, S2, r2⟩ := S.dct (I.hok.fresh (Nat.le_refl _)) (KvR.merge (kvs := []) (ws := []) kr KvR.nil)
       exact h _ _ _ x2 S2 r2
     ·exact h.elim
   | _ => exact h.elim
end
end L3
namespace L3
open PySem PySem.Spec PyProof.Rows L2
end L3
namespace L3
open PySem PySem.Spec PyProof.Rows L2
section
variable {X : Cx} {o e : Expr} {es : List Expr} {apos cpos : Pos} {f : E3} {gl : EL3}
theorem Zm.dropLast {K : PySem.W.Frag} {H : Hp} {ι : List Addr} {ds : List D} {vs : List V} (r : Zm K H ι ds vs) : Zm K H ι ds.dropLast vs.dropLast := by
 rw [List.dropLast_eq_take, List.dropLast_eq_take, r.length]; exact r.take _
end
end L3
namespace L3
open PySem PySem.Spec PyProof.Rows L2
section
variable {X : Cx} {a b c e o : Expr} {es : List Expr} {pos p apos cpos : Pos} {f g h : E3} {gl : EL3}
end
end L3
namespace L3
open PySem PySem.Spec PyProof.Rows L2
section
variable {X : Cx} {a b c e o : Expr} {es : List Expr} {pos p apos cpos : Pos} {f g h : E3} {gl : EL3}
theorem Zfb : ZaN X (.type "int") (fun xs H Q => ∃ x n, xs = [.str x] ∧ intText? x = some n ∧ x.length ≤ 640 ∧ Q (.int n) H) := by
 intro pins s σ H xs us Q I r h
 obtain ⟨x, n, rfl, hn, hz, q⟩ := h
 obtain ⟨u, rfl, t, rfl⟩ := vals1 r
 exact PySem.W.KIN.call_text hn hz ⟨.int n, H, I.tok _, ⟨_, rfl⟩, q⟩
theorem Zkh : ZaN X (.type "int") (rB X.K Zg7) := ZaN.imp (ZaN.or Znd Zfb) fun xs H Q ⟨ι, M, ds, S, rd, h⟩ => by
 match ds, rd, h with
 | [.str x], rd, h =>
  obtain ⟨v, rfl, r⟩ := ZcP rd
  simp only [Zg7] at h
  cases hn : PySem.intText? ⟨x.toArray⟩ with
  | none => rw [hn] at h; exact h.elim
  | some n =>
   rw [hn] at h
   dsimp only at h
   split at h
   ·rename_i hz
    exact .inr ⟨_, n, by rw [r.str_inv], hn, by simpa [Str.length] using hz, Zab.ok h S Rep.int⟩
   ·exact h.elim
 | [], rd, h => exact h.elim
 | [.int i], rd, h => exact .inl ⟨ι, M, _, S, rd, h⟩
 | [.bl i], rd, h => exact .inl ⟨ι, M, _, S, rd, h⟩
 | [.non], rd, h => exact h.elim
 | [.tup _], rd, h => exact h.elim
 | [.scr _], rd, h => exact h.elim
 | [.ref _], rd, h => exact h.elim
 | .str _ :: _ :: _, rd, h => exact h.elim
 | .int _ :: _ :: _, rd, h => exact h.elim
 | .bl _ :: _ :: _, rd, h => exact h.elim
 | .non :: _ :: _, rd, h => exact h.elim
 | .tup _ :: _ :: _, rd, h => exact h.elim
 | .scr _ :: _ :: _, rd, h => exact h.elim
 | .ref _ :: _ :: _, rd, h => exact h.elim
end
end L3
namespace L3
open PySem PySem.Spec PyProof.Rows L2
section
variable {X : Cx} {a b c e o : Expr} {es : List Expr} {pos p p1 p2 p3 pt apos cpos : Pos} {f g h : E3} {gl : EL3}
end
end L3
namespace L3
open PySem PySem.Spec PyProof.Rows L2
section
variable {X : Cx} {tg e : Expr} {pos : Pos} {f : E3} {g : G3}
end
section
variable {X : Cx} {tg e elt : Expr} {ifs : List Expr} {pos : Pos} {f fe : E3} {ts : List E3} {g : G3} {scope : Scope} {N' : List Str} {own : Nat}
theorem Zma {pins : List (Addr × Obj)} {σ σ' : St} {H H' : Hp} {s s' : Shared} {ι ι' : List Addr} {M2 : Store} {n : Nat} {a : Addr} {ws0 : List (Key × V)} {kvs' : List (ZaC × D)} (I : Inv X pins σ H s) (ha : ι[n]? = some a) (hw0 : H a = some (.dK ws0)) (I' : Inv X pins σ' H' s')
  (xx : Ext X.K H ι H' ι') (S' : Zx X.K H' ι' M2) (hm : M2[n]? = some (.fdct kvs')) :
  ∃ H2, Inv X pins σ' H2 s' ∧ Ext X.K H ι H2 ι' ∧ Zx X.K H2 ι' (M2.set n (.dct kvs')) ∧ ∀ d v, Rep X.K H' ι' d v → Rep X.K H2 ι' d v := by
 have ha' := xx.pre _ _ ha
 obtain ⟨ws, ⟨o, hw⟩, kr⟩ := S'.obj n _ a hm ha'
 have I2 := I'.thaw hw fun o u z => by
  have := I.base.frzs a o u z
  rw [hw0] at this; cases this
 have nz : ∀ {b u}, H' b = some u → (∀ o v, u ≠ .frz o v) → upd H' a (.dK ws) b = some u := fun {b u} q nf => by
  rw [Zt]; · exact q
  ·rintro rfl; rw [hw] at q; cases q; exact nf _ _ rfl
 have tp : ∀ b xs, SqT X.K H' b xs → SqT X.K (upd H' a (.dK ws)) b xs := fun b xs q => by
  rcases q with (q | ⟨o', q⟩) | q
  ·exact .inl (.inl (nz q fun _ _ z => nomatch z))
  ·refine .inl (.inr ⟨o', ?_⟩)
   rw [Zt]; · exact q
   ·rintro rfl; rw [hw] at q; cases q
  ·exact .inr q
 have sc : ∀ b xs, SqF X.K H' b xs → SqF X.K (upd H' a (.dK ws)) b xs := fun b xs q => by
  rcases q with ⟨o', q⟩ | q
  ·refine .inl ⟨o', ?_⟩
   rw [Zt]; · exact q
   ·rintro rfl; rw [hw] at q; cases q
  ·exact .inr q
 have mono : ∀ {d' : D} {u : V}, Rep X.K H' ι' d' u → Rep X.K (upd H' a (.dK ws)) ι' d' u := fun {d' u} r => Rep.keep tp sc r
 have monoL : ∀ {ds : List D} {us : List V}, Zm X.K H' ι' ds us → Zm X.K (upd H' a (.dK ws)) ι' ds us := fun {ds us} r => Zm.keep tp sc r
 have S2 : Zx X.K (upd H' a (.dK ws)) ι' (M2.set n (.dct kvs')) := by
  refine ⟨by simp [S'.len], S'.nd, fun k m b h1 h2 => ?_⟩
  by_cases hk : k = n
  ·subst hk
   rw [ha'] at h2; cases h2
   rw [List.getElem?_set_self (List.getElem?_eq_some_iff.mp hm).1] at h1
   cases h1
   exact ⟨ws, ZaT, kr.1, monoL kr.2⟩
  ·rw [List.getElem?_set_ne (Ne.symm hk)] at h1
   have hb' : b ≠ a := by
    rintro rfl
    have q1 := List.getElem?_eq_some_iff.mp h2
    have q2 := List.getElem?_eq_some_iff.mp ha'
    exact hk ((List.getElem_inj S'.nd).mp (q1.2.trans q2.2.symm))
   have := S'.obj k m b h1 h2
   cases m with
   | lst xs => obtain ⟨vs, q, r⟩ := this; exact ⟨vs, by rw [Zt hb']; exact q, monoL r⟩
   | dct xs => obtain ⟨vs, q, r⟩ := this; exact ⟨vs, by rw [Zt hb']; exact q, r.1, monoL r.2⟩
   | fdct xs => obtain ⟨vs, ⟨o', q⟩, r⟩ := this; exact ⟨vs, ⟨o', by rw [Zt hb']; exact q⟩, r.1, monoL r.2⟩
 refine ⟨_, I2, ⟨fun b xs q => tp b xs (xx.tup b xs q), fun b xs q => sc b xs (xx.scr b xs q), xx.pre, fun b o' u q => ?_⟩, S2, fun d v r => mono r⟩
 have hb' : b ≠ a := by rintro rfl; rw [hw0] at q; cases q
 rw [Zt hb']
 exact xx.frz b o' u q
theorem ZiI {x y : Str} {pos' pos2 spos : Pos} (j i : Nat) (O : Zeb X scope N' own) (hxe : X.xe = fun _ _ => False) (hc : X.calm = true) (hN : X.N.Nodup) (hi : C3 X (.Name x pos2) (Zb i))
  (hb : ∀ C cl s H ex, CG (ZaJ X scope N' C cl s H ex) tg g ∧ CTs (ZaJ X scope N' C cl s H ex) ifs ts ∧ C3 (ZaJ X scope N' C cl s H ex) elt fe)
  (hj : X.N[j]? = some y := by rfl) (hx : Loc X.env.scope y := by first | exact Or.inl rfl | exact Or.inr rfl)
  (hf : X.fn y = true ∨ X.env.scope.names.lookup y = some .local := by first | exact .inl rfl | exact .inr rfl)
  (hsw : swapsWith (.ListComp elt [⟨tg, .Name x pos2, ifs, 0⟩] scope pos) (some (.Name y pos')) spos.line X.env = pure true := by rfl)
  (hs : ∀ z, foldedSetIterable (.Name x pos2) X.env z = pure z := by intro _; rfl) : CS X (.Assign [.Name y pos'] (.ListComp elt [⟨tg, .Name x pos2, ifs, 0⟩] scope pos) spos) (Zae j (Zgf (Zb i) own g ts fe)) := by
 intro pins s σ H D I ⟨ι, M, env, S, E, h⟩
 unfold Zae at h
 cases q : Zgf (Zb i) own g ts fe env M with
 | exc _ _ => rw [q] at h; exact h.elim
 | bad => rw [q] at h; exact h.elim
 | ok v M3 =>
  rw [q] at h
  unfold Zgf at q
  cases e1 : Zb i env M with
  | exc _ _ => rw [e1] at q; cases q
  | bad => rw [e1] at q; cases q
  | ok d M1 =>
   have eM : M1 = M := by
    simp only [Zb] at e1
    split at e1
    ·cases e1; rfl
    ·cases e1
   subst eM
   rw [e1] at q
   cases d with
   | ref n =>
    simp only [R3.bind] at q
    cases hn : M1[n]? with
    | none => simp only [hn] at q; cases q
    | some ob =>
     cases ob with
     | lst _ => simp only [hn] at q; cases q
     | fdct _ => simp only [hn] at q; cases q
     | dct kvs =>
      simp only [hn] at q
      cases e2 : ZbO ⟨kvs.map fun q => keyV q.1, none⟩ g ts fe M1.length (kvs.map fun q => keyV q.1) (env ++ List.replicate own none) (M1.set n (.fdct kvs) ++ [.lst []]) with
      | exc _ _ => rw [e2] at q; cases q
      | bad => rw [e2] at q; cases q
      | ok v' M2 =>
       rw [e2] at q
       simp only at q
       cases hm : M2[n]? with
       | none => simp only [hm] at q; cases q
       | some ob2 =>
        cases ob2 with
        | lst _ => simp only [hm] at q; cases q
        | dct _ => simp only [hm] at q; cases q
        | fdct kvs' =>
         simp only [hm] at q
         cases q
         obtain ⟨a, ha, ws0, hw0, _⟩ : ∃ a, ι[n]? = some a ∧ Zdc X.K H ι (.dct kvs) a := S.at hn
         have eL : eLC (ZdF (Zb i)) own g ts fe env M1 = .ok v M2 := by
          unfold eLC ZdF
          rw [e1]
          simp only [R3.bind, hn]
          rw [List.length_set]
          exact e2
         refine thn (Ze7 j (i := ZdF (Zb i)) O hxe hc hN (ZgO hi) hb hj hx hf hsw hs pins s σ H { nx := fun σ' H' => ∃ ι', Ext X.K H ι H' ι' ∧ Zx X.K H' ι' M2 ∧ Za0 X.K H' ι' (env.set j (some v)) σ', rt := fun _ _ => False } I
          ⟨ι, M1, env, S, E, by unfold Zae; rw [eL]; exact fun σ' H' ι' x S' E' => ⟨ι', x, S', E'⟩⟩) fun fl s' hq => ?_
         cases fl with
         | next =>
          obtain ⟨σ', H', I', ι', xx, S', E'⟩ := hq
          obtain ⟨H2, I2, x2, S2, mono⟩ := Zma I ha hw0 I' xx S' hm
          exact ⟨σ', H2, I2, h σ' H2 ι' x2 S2 ⟨E'.1, fun i d hd => let ⟨v, e, r⟩ := E'.2 i d hd; ⟨v, e, mono _ _ r⟩⟩⟩
         | brk => obtain ⟨_, _, _, z⟩ := hq; exact z.elim
         | cont => obtain ⟨_, _, _, z⟩ := hq; exact z.elim
         | ret _ => obtain ⟨_, _, _, _, _, z⟩ := hq; exact z.elim
   | _ => simp only [R3.bind] at q; cases q
end
def Znq (K : PySem.W.Frag) (H : Hp) (ι : List Addr) (it : ItL) (J : It) : Prop := ∀ (i : Nat) H2 ι2 M2, Ext K H ι H2 ι2 → Zx K H2 ι2 M2 → Zcu it.lk M2 = true →
 (∀ d, it.items[i]? = some d → J.go i H2 ∧ ∀ x H3, J.yld i H2 x H3 → Ext K H2 ι2 H3 ι2 ∧ Zx K H3 ι2 M2 ∧ Rep K H3 ι2 d x) ∧ (i = it.items.length → J.stop i H2)
def ZgB (K : PySem.W.Frag) (H : Hp) (ι : List Addr) (R : It → Hp → Prop) (r : R3 ItL) : Prop := match r with
 | .ok it M' => ∀ J H' ι', Ext K H ι H' ι' → Zx K H' ι' M' → Znq K H' ι' it J → R J H'
 | _ => False
def tIL (K : PySem.W.Frag) (g : IL3) : TI := fun σ H R => ∃ ι M env, Zx K H ι M ∧ Za0 K H ι env σ ∧ ZgB K H ι R (g env M)
def CIL (X : Cx) (tg e : Expr) (g : IL3) : Prop := PI X tg e (tIL X.K g)
theorem ZgB.bind {K : PySem.W.Frag} {H : Hp} {ι : List Addr} {α : Type} {Q : It → Hp → Prop} {r : R3 α} {k : α → Store → R3 ItL} (h : ZgB K H ι Q (r.bind k)) : ∃ a M, r = .ok a M ∧ ZgB K H ι Q (k a M) := by
 cases r with
 | ok a M => exact ⟨a, M, rfl, h⟩
 | exc x M => exact h.elim
 | bad => exact h.elim
section
variable {X : Cx} {tg : Expr} {pos : Pos}
theorem Zk4 {iter : Expr} {body : List Stmt} {i : IL3} {g : G3} {u : S3} (hxe : X.xe = fun _ _ => False) (hc : X.calm = true) (hi : CIL X tg iter i) (hg : CG X tg g) (hb : CSs X body u) (hs : ∀ x, foldedSetIterable iter X.env x = pure x := by intro _; rfl) :
  CS X (.For tg iter body [] pos) (Zg2 i g u) := (Zjn (by rw [hxe]; exact PassesOwn.never) hc hi hg hb hs).imp fun D σ H ⟨ι, M, env, S, E, h⟩ => by
 unfold Zg2 at h
 cases q : i env M with
 | exc x M1 => rw [q] at h; exact h.elim
 | bad => rw [q] at h; exact h.elim
 | ok it M1 =>
  rw [q] at h
  refine ⟨ι, M, env, S, E, ?_⟩
  rw [q]
  intro J H1 ι1 x1 S1 ok
  refine ⟨fun i m σ2 H2 => m = it.items.length - i ∧ i ≤ it.items.length ∧ ∃ ι2 M2 env2, Ext X.K H1 ι1 H2 ι2 ∧ Zx X.K H2 ι2 M2 ∧ Za0 X.K H2 ι2 env2 σ2 ∧ Zdt X.K H2 ι2 D (ZcZ it.lk g u (it.items.drop i) env2 M2),
   ⟨_, rfl, Nat.zero_le _, ι1, M1, env, Ext.refl, S1, E.mono x1, Zdt.up x1 h⟩, ?_⟩
  rintro i m σ2 H2 ⟨rfl, hi, ι2, M2, env2, x2, S2, E2, h2⟩
  by_cases hlt : i < it.items.length
  ·have hd : it.items[i]? = some it.items[i] := by simp [hlt]
   rw [List.drop_eq_getElem_cons hlt] at h2
   unfold ZcZ at h2
   by_cases lk : Zcu it.lk M2 = true
   ·rw [if_pos lk] at h2
    obtain ⟨go, yl⟩ := (ok i H2 ι2 M2 x2 S2 lk).1 _ hd
    cases eg : g it.items[i] env2 with
    | none => rw [eg] at h2; exact h2.elim
    | some env3 =>
     rw [eg] at h2
     refine .inr ⟨go, fun σ' H' => ∃ ι3 M3 env4, Ext X.K H2 ι2 H' ι3 ∧ Zx X.K H' ι3 M3 ∧ Za0 X.K H' ι3 env4 σ' ∧ Zdt X.K H' ι3 D (ZcZ it.lk g u (it.items.drop (i + 1)) env4 M3),
      fun σ' H' ⟨ι3, M3, env4, x3, S3, E3, h3⟩ => ⟨it.items.length - (i + 1), by omega, rfl, hlt, ι3, M3, env4, x2.trans x3, S3, E3, h3⟩, fun x H' hy => ?_⟩
     obtain ⟨x7, S7, rx⟩ := yl x H' hy
     refine ⟨ι2, M2, env2, _, env3, S7, E2.mono x7, rx, eg, fun σ' E' => ⟨ι2, M2, env3, S7, E', ?_⟩⟩
     have h2' := Zdt.up x7 h2
     cases qu : u env3 M2 with
     | nx e' M' => simp only [qu] at h2'; exact fun σ' H' ι' x' S' E' => ⟨ι', M', e', x7.trans x', S', E', h2'.up x'⟩
     | ct e' M' => simp only [qu] at h2'; exact fun σ' H' ι' x' S' E' => ⟨ι', M', e', x7.trans x', S', E', h2'.up x'⟩
     | bk e' M' => simp only [qu] at h2'; exact h2'
     | rt d M' => simp only [qu] at h2'; exact h2'
     | exc x' M' => simp only [qu] at h2'; exact h2'.elim
     | bad => simp only [qu] at h2'; exact h2'.elim
   ·rw [if_neg lk] at h2; exact h2.elim
  ·have e0 : i = it.items.length := by omega
   subst e0
   rw [List.drop_length] at h2
   unfold ZcZ at h2
   by_cases lk : Zcu it.lk M2 = true
   ·rw [if_pos lk] at h2
    exact .inl ⟨(ok _ H2 ι2 M2 x2 S2 lk).2 rfl, h2 σ2 H2 ι2 Ext.refl S2 E2⟩
   ·rw [if_neg lk] at h2; exact h2.elim
end
theorem _root_.L2.Inv.turnedL {X : Cx} {pins : List (Addr × Obj)} {σ : St} {H : Hp} {s : Shared} {h' : Heap} {t' : Nat} {fp : List Addr} (I : Inv X pins σ H s) (k : ∀ b o, b ∉ fp → s.heap.get? b = some o → h'.get? b = some o) (hf : ∀ b ∈ fp, ZdI X pins H b) :
  Inv X pins σ H { s with heap := h', toks := t' } := by
 have nit : ∀ b u, H b = some u → b ∉ fp := fun b u e z => by rw [(hf b z).1] at e; cases e
 refine I.step (g' := s.gens) (d' := s.drawn) (ch := fp) (fun b hb => ⟨(hf b hb).2.2.2.1, (hf b hb).2.1, (hf b hb).2.2.2.2.1, (hf b hb).2.2.2.2.2⟩) (fun b o _ _ hc e _ => k b o hc e) (fun b o _ _ hc e _ => ⟨o.slots, k b o hc e⟩) (fun _ _ _ _ n => n)
  (fun b o hc e => ⟨o, k b o hc e⟩) (fun _ _ e => e) (fun _ _ _ e => e) (fun b ps e => ⟨#[], by rw [e]; simp⟩) (fun m hm => ?_) (fun b u e => ?_) I.bare
 ·obtain ⟨o, es, ep, ho, r⟩ := hm
  exact ⟨o, es, ep, k _ o (fun z => (hf _ z).2.1 rfl) ho, r⟩
 ·refine (I.hok b u e).stay (fun c v hc q => k c v ?_ q) (fun _ q => q) fun _ _ q => q
  rcases hc with z | z
  ·rw [z]; exact nit b u e
  ·exact nit c _ z
def Ite (S : Hp → List V → Prop) : It := ⟨fun i H => ∃ xs x, S H xs ∧ xs[i]? = some x, fun i H x H' => ∃ T y, x = .ref T ∧ H T = none ∧ H' = upd H T (.tup [.int i, y]) ∧ ∀ xs, S H xs → xs[i]? = some y, fun i H => ∃ xs, S H xs ∧ xs.length ≤ i⟩
theorem Zfx {X : Cx} {pins : List (Addr × Obj)} {σ : St} {H : Hp} {s : Shared} {h' h'' : Heap} {e it : Addr} {i : Nat} {x : V} {u : Value} {tk tk' : Nat} (I : Inv X pins σ H s) (hf : ∀ b ∈ [e, it], ZdI X pins H b) (he : e < s.heap.objs.size) (hi : it < s.heap.objs.size) (ru : RelV x u)
  (hT : h'.get? s.heap.objs.size = some { cls := .type "tuple", data := .seq #[.int i tk, u] }) (hk : ∀ b o, b ≠ e → b ≠ it → s.heap.get? b = some o → h'.get? b = some o) (hs : Heap.SameBut e h' h'') :
  Inv X pins σ (upd H s.heap.objs.size (.tup [.int i, x])) { s with heap := h'', toks := tk' } ∧ ∀ b ∈ [e, it], upd H s.heap.objs.size (.tup [.int i, x]) b = none := by
 have hn : ∀ b ∈ [e, it], upd H s.heap.objs.size (.tup [.int i, x]) b = none := fun b hb => by
  have : b ≠ s.heap.objs.size := by
   simp only [List.mem_cons, List.not_mem_nil, or_false] at hb
   rcases hb with rfl | rfl
   ·exact Nat.ne_of_lt he
   ·exact Nat.ne_of_lt hi
  rw [Zt this]; exact (hf b hb).1
 refine ⟨?_, hn⟩
 have I1 : Inv X pins σ (upd H s.heap.objs.size (.tup [.int i, x])) { s with heap := s.heap.push { cls := .type "tuple", data := .seq ([.int i tk, u] : List Value).toArray }, toks := s.toks } :=
  I.laid (t' := s.toks) (fun b o e => Heap.get?_push_of_some _ e) (Nat.le_refl _) (show ZaS X.prog X.w _ _ _ (.tup [.int i, x]) from ⟨by rw [sizeLine_eq]; show 2 ≤ _; decide, [.int i tk, u], .cons ⟨tk, rfl⟩ (.cons ru .nil), Zcm.new _ _⟩)
 have I3 := I1.turnedL (t' := tk') (h' := h'') (fp := [e, it]) (fun b o hb q => by
  have hbe : b ≠ e := fun z => hb (by simp [z])
  have hbi : b ≠ it := fun z => hb (by simp [z])
  rcases Heap.get?_push_cases q with ⟨rfl, rfl⟩ | q
  ·exact (hs.2 _ (Nat.ne_of_gt he)).trans hT
  ·exact (hs.2 _ hbe).trans (hk b o hbe hbi q)) fun b hb => ⟨hn b hb, (hf b hb).2⟩
 exact I3
theorem Zh5 {P : Program} {w : World} {K : PySem.W.Frag} {es : List Expr} {k : Nat} {pos : Pos} (a e it : Addr) (hne : e ≠ it) :
  Turn P w K (.Tuple es k pos) (Ite fun H xs => SqL K H a xs) [e, it] e (fun i h => (∃ old, IsEnum h e it i old) ∧ h.IsListIter it a i) where
 mem := by simp
 obj := fun i h st b hb => by
  obtain ⟨⟨old, he⟩, o, ho, c, d⟩ := st
  simp only [List.mem_cons, List.not_mem_nil, or_false] at hb
  rcases hb with rfl | rfl
  ·exact ⟨_, he, fun v z => by cases z⟩
  ·exact ⟨o, ho, fun v z => by rw [d] at z; cases z⟩
 keep := fun i h h' st k => by
  obtain ⟨⟨old, he⟩, hit⟩ := st
  exact ⟨⟨old, k e (by simp) _ he⟩, hit.at fun o q => k it (by simp) o q⟩
 item := by
  intro X hP hw hK hc i pins s σ H E I hf st hg
  subst hP hw hK
  obtain ⟨xs, x, hq, hx⟩ := hg
  obtain ⟨its, rv, p, hz⟩ := I.list hq
  obtain ⟨u, hu, ru⟩ := rv.get hx
  obtain ⟨⟨old, he⟩, hit⟩ := st
  have hel := Heap.lt_size he
  have hil : it < s.heap.objs.size := by obtain ⟨o, ho, _⟩ := id hit; exact Heap.lt_size ho
  refine wpAny_pyNext_enum_item he hit p.isList (x := u) (by simpa using hu) hne fun h' ho hit' hT hsz hk => ?_
  refine ⟨_, rfl, wpAny_letOwnedTupleGo_enum (s := { s with heap := h', toks := s.toks + 1 }) ho fun h'' he'' hs'' => ?_⟩
  obtain ⟨I2, n2⟩ := Zfx (x := x) (tk' := s.toks + 1) I hf hel hil ru hT hk hs''
  exact ⟨.ref s.heap.objs.size, _, I2, rfl, ⟨_, x, rfl, I.hok.fresh (Nat.le_refl _), rfl, fun ys hy => by rw [I.list_inj hy hq]; exact hx⟩, ⟨⟨_, by simpa using he''⟩, hit'.extBut hs''.extBut (Ne.symm hne)⟩, n2⟩
 done := by
  intro X hP hw hK hc i pins s σ H E I hf st hg
  subst hP hw hK
  obtain ⟨xs, hq, hx⟩ := hg
  obtain ⟨its, rv, p, hz⟩ := I.list hq
  obtain ⟨⟨old, he⟩, hit⟩ := st
  have hl := rv.length
  exact wpAny_pyNext_enum_end (I.ok.hd hc) he hit p.isList (by simp; omega) fun h' eb => ⟨rfl, I.turnedL (t' := s.toks) (fun b o hb q => eb b o (fun z => hb (by simp [z])) q) hf⟩
 self := fun _ _ _ _ _ st h => by
  obtain ⟨⟨old, he⟩, _⟩ := st
  exact wpAny_pyIter_enum he h
theorem boot_enumerate : bootBuiltins "enumerate" = some (.type "enumerate") := by decide +kernel
end L3
namespace L3
open PySem PySem.Spec PyProof.Rows L2
open AutoSeq1 (wpAny_loadPart')
set_option maxRecDepth 100000
section
variable {prog : Program} {w : World} {A : Around} {E : Value → Shared → Prop} {s : Shared}
theorem Zd3 {it t : Addr} {i : Nat} {items : Array Value} {x : Value} {Q : Value → Shared → Prop} (hit : s.heap.IsTupleIter it t i) (ht : s.heap.IsTuple t items) (hx : items[i]? = some x)
  (hQ : ∀ h', h'.IsTupleIter it t (i + 1) → Heap.SameBut it s.heap h' → Q x { s with heap := h' }) : wpAny (model prog w) A (Builtin.SmallTypes.nextOf (.ref it)) Q E s := by
 obtain ⟨o, ho, hc, hd⟩ := id hit
 obtain ⟨ol, hol, _, nl, hdl⟩ := ht
 unfold Builtin.SmallTypes.nextOf
 refine wpAny_bind (wpAny_callSpecial?_slot (name := Str.ofString "__next__") hit.typeIs slot_tupleiter_next
  (wpAny_call_entry slot_tupleiter_next hit.typeIs entry_tupleiter_next ?_ (args_tupleiter_next _)))
 show wpAny _ _ (field (.ref it) 0 >>= _) _ _ s
 refine wpAny_bind (wpAny_field ho hd (x := .ref t) rfl ?_)
 show wpAny _ _ (if (Value.ref t == Value.none) = true then _ else _) _ _ s
 rw [if_neg (show ¬ ((Value.ref t == Value.none) = true) from Bool.false_ne_true)]
 show wpAny _ _ (field (.ref it) 1 >>= _) _ _ s
 refine wpAny_bind (wpAny_field ho hd (x := .int i 0) rfl ?_)
 show wpAny _ _ (seqItems? (.ref t) >>= _) _ _ s
 refine wpAny_bind (wpAny_seqItems hol hdl ?_)
 simp only [Int.toNat_natCast, hx]
 refine wpAny_bind (wpAny_setField ho hd (by simp) (wpAny_pure ⟨x, rfl, wpAny_pure (hQ _ ?_ (Heap.SameBut.update ..))⟩))
 exact ⟨_, Heap.get?_update_self _ ho (Obj.isFreed_of_fields (Obj.data_mapFields hd _)), (Obj.cls_mapFields ..).trans hc, by
  rw [Obj.data_mapFields hd]; simp [rawInt]⟩
theorem ZcC {it t : Addr} {i : Nat} {items : Array Value} {Q : Value → Shared → Prop} (hh : A.handled = none) (hit : s.heap.IsTupleIter it t i) (ht : s.heap.IsTuple t items) (hx : items[i]? = none)
  (hE : ∀ h' e, Heap.ExtBut it s.heap h' → (∃ o, h'.get? e = some o ∧ o.cls = .type "StopIteration") → E (.ref e) { s with heap := h' }) : wpAny (model prog w) A (Builtin.SmallTypes.nextOf (.ref it)) Q E s := by
 obtain ⟨o, ho, hc, hd⟩ := id hit
 obtain ⟨ol, hol, _, nl, hdl⟩ := ht
 unfold Builtin.SmallTypes.nextOf
 refine wpAny_bind (wpAny_callSpecial?_slot (name := Str.ofString "__next__") hit.typeIs slot_tupleiter_next
  (wpAny_call_entry slot_tupleiter_next hit.typeIs entry_tupleiter_next ?_ (args_tupleiter_next _)))
 show wpAny _ _ (field (.ref it) 0 >>= _) _ _ s
 refine wpAny_bind (wpAny_field ho hd (x := .ref t) rfl ?_)
 show wpAny _ _ (if (Value.ref t == Value.none) = true then _ else _) _ _ s
 rw [if_neg (show ¬ ((Value.ref t == Value.none) = true) from Bool.false_ne_true)]
 show wpAny _ _ (field (.ref it) 1 >>= _) _ _ s
 refine wpAny_bind (wpAny_field ho hd (x := .int i 0) rfl ?_)
 show wpAny _ _ (seqItems? (.ref t) >>= _) _ _ s
 refine wpAny_bind (wpAny_seqItems hol hdl ?_)
 simp only [Int.toNat_natCast, hx]
 refine wpAny_bind (wpAny_rule (wpAny_bind (wpAny_setField ho hd (by simp) ?_)))
 show wpAny _ _ (newExc (.type "StopIteration") [] >>= _) _ _ _
 refine wpAny_bind ?_
 simp only [newExc, newTuple]
 refine wpAny_bind (wpAny_newObj_type ?_ (by size_fits))
 refine wpAny_bind (m := firstArgMember _ _) (wpAny_of_eq (a := Value.none) (by first | rfl | (simp only [firstArgMember]; rfl)) ?_)
 refine wpAny_newObj_type ?_ (by size_fits)
 simp only [raiseNew]
 refine wpAny_bind (wpAny_handled ?_)
 first | rw [show A.in1.handled = none from hh] | rw [hh]
 refine wpAny_bind (wpAny_pure (wpAny_throw ?_))
 exact hE _ _ (((Heap.SameBut.update ..).extBut.push _).push _) ⟨_, Heap.get?_push_size _ rfl, rfl⟩
end
theorem Zhe {prog : Program} {w : World} {A : Around} (hh : A.handled = none) (it l : Addr) (hne : l ≠ it) (items : Array Value) :
  Draws prog w A it [it, l] items.size (fun i v => items[i]? = some v) (fun i h => h.IsTupleIter it l i ∧ h.IsTuple l items) where
 live := fun _ _ st => let ⟨o, ho, _⟩ := st.1; ⟨o, ho⟩
 frame := fun _ _ _ st hk => ⟨st.1.at fun o e => hk it (by simp) o e, st.2.at fun o e => hk l (by simp) o e⟩
 item := fun i s Q E hi st hQ => by
  refine Zd3 st.1 st.2 (x := items[i]) (by simp [hi]) fun h' hit' hs' => ?_
  exact hQ _ h' s.toks (by simp [hi]) ⟨hit', st.2.extBut hs'.extBut hne⟩ hs'
 done := fun s Q E st hE => ZcC hh st.1 st.2 (by simp) hE
theorem Zc1 (l : Addr) (items : Array Value) (n : Nat) (dct : Option Addr) (sl : Array (Option Value)) :
  Meets (Builtin.«enumerate.__new__» ⟨[.type "enumerate", .ref l], []⟩) (fun _ R s => s.heap.get? l = some { cls := .type "tuple", dict := dct, data := .seq items n, slots := sl } ∧
   R (.ok (.ret (.ref (s.heap.push { cls := .type "tuple_iterator", data := .fields #[.ref l, .int 0 0] }).objs.size)))
    { s with heap := (s.heap.push { cls := .type "tuple_iterator", data := .fields #[.ref l, .int 0 0] }).push { cls := .type "enumerate", data := .fields #[.none, .bool false, .ref s.heap.objs.size, rawInt 0, .none, .none] } }) :=
 .of_wp fun prog w A R s h => by
  obtain ⟨hp, g, d, tk, os⟩ := s; obtain ⟨hl, h⟩ := h
  have hsub := sub_enumerate
  have hL : Heap.IsTuple (Shared.heap ⟨hp, g, d, tk, os⟩) l items := ⟨_, hl, rfl, n, rfl⟩
  wp_walk using wpAny_loadPart' hl
  refine wpAny_stack_any fun st => wpAny_pure ?_
  split
  ·rename_i c _ _ _ _ _
   cases (c == Value.type "enumerate")
   ·wp_walk using wpAny_loadPart' hl, wpAny_pyIter_tuple hL
    exact ⟨_, rfl, h⟩
   ·wp_walk using wpAny_loadPart' hl, wpAny_pyIter_tuple hL
    exact ⟨_, rfl, h⟩
  ·wp_walk using wpAny_loadPart' hl, wpAny_pyIter_tuple hL
   exact ⟨_, rfl, h⟩
theorem Zc2 {prog : Program} {w : World} {A : Around} {E : Value → Shared → Prop} {s : Shared} {l : Addr} {items : Array Value} {Q : Value → Shared → Prop} (hL : s.heap.IsTuple l items)
  (h : ∀ h', IsEnum h' (s.heap.objs.size + 1) s.heap.objs.size 0 .none → h'.IsTupleIter s.heap.objs.size l 0 → h'.objs.size = s.heap.objs.size + 2 →
   (∀ b o, s.heap.get? b = some o → h'.get? b = some o) → Q (.ref (s.heap.objs.size + 1)) { s with heap := h' }) :
  wpAny (model prog w) A (call (.type "enumerate") [.ref l]) Q E s := by
 obtain ⟨⟨c, dct, dt, sl⟩, hl, hc, n, hd⟩ := hL
 replace hc : c = .type "tuple" := hc
 replace hd : dt = .seq items n := hd
 subst hc hd
 refine callType_new F.called_enumerate (by decide) (F.typeCall_enumerate_1 _) (F.newCall_enumerate_1 _) (fun obj => F.args_object_init_2 obj _) F.entry_enumerate_new
  (Zc1 l items n dct sl) ⟨hl, ?_⟩
 have hz : (s.heap.push { cls := .type "tuple_iterator", data := .fields #[.ref l, .int 0 0] }).objs.size = s.heap.objs.size + 1 := Heap.size_push ..
 show _ ∧ _
 rw [hz]
 have he : IsEnum ((s.heap.push { cls := .type "tuple_iterator", data := .fields #[.ref l, .int 0 0] }).push
   { cls := .type "enumerate", data := .fields #[.none, .bool false, .ref s.heap.objs.size, rawInt 0, .none, .none] }) (s.heap.objs.size + 1) s.heap.objs.size 0 .none := by
  have := Heap.get?_push_size (s.heap.push { cls := .type "tuple_iterator", data := .fields #[.ref l, .int 0 0] })
   (o := { cls := .type "enumerate", data := .fields #[.none, .bool false, .ref s.heap.objs.size, rawInt 0, .none, .none] }) rfl
  rw [hz] at this; exact this
 refine ⟨⟨_, he, rfl⟩, h _ he ⟨_, Heap.get?_push_of_some _ (Heap.get?_push_size _ rfl), rfl, rfl⟩ (by rw [Heap.size_push, hz]) fun b o x => Heap.get?_push_of_some _ (Heap.get?_push_of_some _ x)⟩
theorem ZhN {P : Program} {w : World} {K : PySem.W.Frag} {es : List Expr} {k : Nat} {pos : Pos} (a e it : Addr) (hne : e ≠ it) :
  Turn P w K (.Tuple es k pos) (Ite fun H xs => SqT K H a xs) [e, it] e (fun i h => (∃ old, IsEnum h e it i old) ∧ h.IsTupleIter it a i) where
 mem := by simp
 obj := fun i h st b hb => by
  obtain ⟨⟨old, he⟩, o, ho, c, d⟩ := st
  simp only [List.mem_cons, List.not_mem_nil, or_false] at hb
  rcases hb with rfl | rfl
  ·exact ⟨_, he, fun v z => by cases z⟩
  ·exact ⟨o, ho, fun v z => by rw [d] at z; cases z⟩
 keep := fun i h h' st k => by
  obtain ⟨⟨old, he⟩, hit⟩ := st
  exact ⟨⟨old, k e (by simp) _ he⟩, hit.at fun o q => k it (by simp) o q⟩
 item := by
  intro X hP hw hK hc i pins s σ H E I hf st hg
  subst hP hw hK
  obtain ⟨xs, x, hq, hx⟩ := hg
  obtain ⟨its, rv, p, hz⟩ := I.tuple hq
  obtain ⟨u, hu, ru⟩ := rv.get hx
  obtain ⟨⟨old, he⟩, hit⟩ := st
  have hel := Heap.lt_size he
  have hil : it < s.heap.objs.size := by obtain ⟨o, ho, _⟩ := id hit; exact Heap.lt_size ho
  have pt : s.heap.IsTuple a its.toArray := p
  have hae : e ≠ a := by
   rintro rfl
   obtain ⟨o, ho, hc, _⟩ := pt
   rw [he] at ho; cases ho
   exact absurd hc (by simp)
  have hai : a ≠ it := by
   rintro rfl
   obtain ⟨o, ho, hc, _⟩ := pt
   obtain ⟨o', ho', hc', _⟩ := hit
   rw [ho'] at ho; cases ho
   rw [hc'] at hc
   exact absurd hc (by simp)
  have D := Zhe (prog := X.prog) (w := X.w) (A := X.A.in1) (I.ok.hd hc) it a hai its.toArray
  refine wpAny_pyNext_enum_itemD D he ⟨hit, pt⟩ (by simpa using (List.getElem?_eq_some_iff.mp hu).1) hne (by simp [hne, hae]) fun y h' tk hy ho hst hT hsz hk => ?_
  have ey : y = u := by
   have : its.toArray[i]? = some u := by simpa using hu
   rw [this] at hy; cases hy; rfl
  subst ey
  refine ⟨_, rfl, wpAny_letOwnedTupleGo_enum (s := { s with heap := h', toks := tk + 1 }) ho fun h'' he'' hs'' => ?_⟩
  obtain ⟨I2, n2⟩ := Zfx (x := x) (tk' := tk + 1) I hf hel hil ru hT hk hs''
  exact ⟨.ref s.heap.objs.size, _, I2, rfl, ⟨_, x, rfl, I.hok.fresh (Nat.le_refl _), rfl, fun ys hy => by rw [I.tuple_inj hy hq]; exact hx⟩, ⟨⟨_, by simpa using he''⟩, hst.1.extBut hs''.extBut (Ne.symm hne)⟩, n2⟩
 done := by
  intro X hP hw hK hc i pins s σ H E I hf st hg
  subst hP hw hK
  obtain ⟨xs, hq, hx⟩ := hg
  obtain ⟨its, rv, p, hz⟩ := I.tuple hq
  obtain ⟨⟨old, he⟩, hit⟩ := st
  have hl := rv.length
  have pt : s.heap.IsTuple a its.toArray := p
  have hT : s.TypeIs (.ref e) "enumerate" := ⟨_, he, rfl⟩
  unfold pyNext
  refine wpAny_bind (wpAny_attempt (wpAny_callSpecial?_slot (name := Str.ofString "__next__") hT F.slot_enumerate_next
   (wpAny_call_entry F.slot_enumerate_next hT F.entry_enumerate_next ?_ (F.args_enumerate_next_1 _))))
  show wpAny _ _ (field (.ref e) 2 >>= _) _ _ _
  refine wpAny_bind (wpAny_field he rfl (x := .ref it) rfl ?_)
  refine wpAny_bind (ZcC (I.ok.hd hc) hit pt (by simp; omega) fun h' x he' hx' => ?_)
  obtain ⟨o, ho, hc⟩ := hx'
  refine wpAny_bind (wpAny_isInstance (T := "StopIteration") (b := true) ⟨o, ho, hc⟩ isSubtype_stop ?_)
  exact wpAny_pure ⟨rfl, I.turnedL (t' := s.toks) (fun b o hb q => he' b o (fun z => hb (by simp [z])) q) hf⟩
 self := fun _ _ _ _ _ st h => by
  obtain ⟨⟨old, he⟩, _⟩ := st
  exact wpAny_pyIter_enum he h
section
variable {X : Cx} {es : List Expr} {k : Nat} {a : Expr} {p pos tpos : Pos} {f : E3}
def Zl4 (K : PySem.W.Frag) (ta : TA) : TI := fun σ H R => ta σ H fun vs H1 => ∃ b, vs = [.ref b] ∧ ((∃ xs, SqL K H1 b xs ∧ R (Ite fun H xs => SqL K H b xs) H1) ∨ ∃ xs, SqT K H1 b xs ∧ R (Ite fun H xs => SqT K H b xs) H1)
theorem ZkE {ta : TA} (hg : Gl X "enumerate") (hm : X.mg "enumerate" = none) (ha : PA X [a] ta) (hs : starEach [a] X.env = [(false, eval a X.env)] := by rfl) : PI X (.Tuple es k tpos) (.Call (.Name "enumerate" p) [a] [] pos) (Zl4 X.K ta) := by
 intro pins s σ H R I h
 refine Call_ (Zgp I hg hm boot_enumerate (PyProof.Rows.callWith_type1 (thn (ha pos pins s σ H _ I h) fun us s1 ⟨vs, H1, I1, r1, q1⟩ => ?_) hs rfl))
 obtain ⟨b, e, q⟩ := q1
 subst e
 cases r1 with
 | cons r rr =>
  cases rr
  cases r
  have fp : ∀ {h' : Heap} {s2 : Shared}, ∀ c ∈ [s1.heap.objs.size + 1, s1.heap.objs.size], ZdI X pins H1 c := fun {h' s2} c hc => by
   have hc' : s1.heap.objs.size ≤ c := by
    simp only [List.mem_cons, List.not_mem_nil, or_false] at hc
    rcases hc with rfl | rfl <;> omega
   exact I1.fpOk hc' (I1.hok.fresh hc')
  rcases q with ⟨xs, hq, q⟩ | ⟨xs, hq, q⟩
  ·obtain ⟨its, rv, pl, hz⟩ := I1.list hq
   refine call_enumerate_list pl.isList fun h' hE hI hsz hk => ?_
   have I2 : Inv X pins σ H1 { s1 with heap := h' } := I1.kept (t' := s1.toks) hk
   exact wpAny_pyIter_enum (s := { s1 with heap := h' }) hE ⟨_, [s1.heap.objs.size + 1, s1.heap.objs.size], _, _, H1, rfl, I2, Zh5 b _ _ (Nat.succ_ne_self _), ⟨⟨_, hE⟩, hI⟩, fp (h' := h') (s2 := s1), q⟩
  ·obtain ⟨its, rv, pl, hz⟩ := I1.tuple hq
   refine Zc2 (show s1.heap.IsTuple b its.toArray from pl) fun h' hE hI hsz hk => ?_
   have I2 : Inv X pins σ H1 { s1 with heap := h' } := I1.kept (t' := s1.toks) hk
   exact wpAny_pyIter_enum (s := { s1 with heap := h' }) hE ⟨_, [s1.heap.objs.size + 1, s1.heap.objs.size], _, _, H1, rfl, I2, ZhN b _ _ (Nat.succ_ne_self _), ⟨⟨_, hE⟩, hI⟩, fp (h' := h') (s2 := s1), q⟩
theorem Zkv (hm : X.mg "enumerate" = none) (h : C3 X a f) (hg : Gl X "enumerate" := by rfl) (hs : starEach [a] X.env = [(false, eval a X.env)] := by rfl) (hs' : starEach (a :: []) X.env = (false, eval a X.env) :: starEach [] X.env := by rfl) : CIL X (.Tuple es k tpos) (.Call (.Name "enumerate" p) [a] [] pos) (Ziv f) :=
 PI.imp (ZkE hg hm (Zc h Zk hs') hs) fun σ H R ⟨ι, M, env, S, E, h⟩ => by
  obtain ⟨d, M1, e1, h⟩ := ZgB.bind h
  refine ⟨ι, M, env, S, E, ?_⟩
  have e2 : Za f Ze env M = .ok [d] M1 := by unfold Za; rw [e1]; rfl
  rw [e2]
  intro vs H1 ι1 x1 S1 r1
  obtain ⟨v, ws, rfl, r, q⟩ := r1.cons_inv
  have := q.nil_inv
  subst this
  cases d with
  | tup ds =>
   obtain ⟨b, vs, rfl, s, r⟩ := r.tup_inv
   refine ⟨b, rfl, .inr ⟨vs, s, h _ H1 ι1 x1 S1 ?_⟩⟩
   intro i H2 ι2 M2 x S2 _
   refine ⟨fun d hd => ?_, fun hl => ⟨vs, x.tup _ _ s, by rw [r.length, hl, Zdk]; exact Nat.le_refl _⟩⟩
   rw [Zdl] at hd
   cases hq : ds[i]? with
   | none => rw [hq] at hd; cases hd
   | some d0 =>
    rw [hq] at hd
    simp only [Option.map_some, Nat.zero_add, Option.some.injEq] at hd
    subst hd
    obtain ⟨v, hv, rv⟩ := r.get hq
    refine ⟨⟨vs, v, x.tup _ _ s, hv⟩, fun y H3 hy => ?_⟩
    obtain ⟨T, y', rfl, hT, rfl, hall⟩ := hy
    have e := hall vs (x.tup _ _ s)
    rw [hv] at e
    cases e
    exact S2.tupl hT (Zm.cons Rep.int (Zm.cons (rv.mono x) Zm.nil))
  | ref n =>
   cases hm : M1[n]? with
   | none => simp only [hm] at h; exact h.elim
   | some o =>
    cases o with
    | dct kvs => simp only [hm] at h; exact h.elim
    | fdct kvs => simp only [hm] at h; exact h.elim
    | lst ds =>
     simp only [hm] at h
     obtain ⟨b, ha, rfl⟩ := r.ref_inv
     obtain ⟨vs, q, r⟩ := S1.obj n _ b hm ha
     refine ⟨b, rfl, .inl ⟨vs, SqL.of q, h _ H1 ι1 x1 S1 ?_⟩⟩
     intro i H2 ι2 M2 x S2 lk
     have lk' : M2[n]? = some (.lst ds) := by simpa [Zcu] using lk
     obtain ⟨vs2, q2, r2⟩ := S2.obj n _ b lk' (x.pre _ _ ha)
     refine ⟨fun d hd => ?_, fun hl => ⟨vs2, SqL.of q2, by rw [r2.length, hl, Zdk]; exact Nat.le_refl _⟩⟩
     rw [Zdl] at hd
     cases hq : ds[i]? with
     | none => rw [hq] at hd; cases hd
     | some d0 =>
      rw [hq] at hd
      simp only [Option.map_some, Nat.zero_add, Option.some.injEq] at hd
      subst hd
      obtain ⟨v, hv, rv⟩ := r2.get hq
      refine ⟨⟨vs2, v, SqL.of q2, hv⟩, fun y H3 hy => ?_⟩
      obtain ⟨T, y', rfl, hT, rfl, hall⟩ := hy
      have e := hall vs2 (SqL.of q2)
      rw [hv] at e
      cases e
      exact S2.tupl hT (Zm.cons Rep.int (Zm.cons rv Zm.nil))
  | _ => exact h.elim
end
end L3
namespace L3
open PySem PySem.Spec PyProof.Rows L2
open AutoSeq1 (wpAny_loadPart')
open PySem.SeqAt MeetsSeq
set_option maxRecDepth 100000
end L3
namespace L3
open PySem PySem.Spec PyProof.Rows L2
section
variable {X : Cx} {o i p j e : Expr} {pos : Pos} {f g h fo fi fp fj : E3}
end
end L3
namespace L3
open PySem PySem.Spec PyProof.Rows L2
section
variable {X : Cx}
end
end L3
namespace L3
open PySem PySem.Spec PyProof.Rows L2
section
variable {prog : Program} {w : World} {A : Around} {E : Value → Shared → Prop} {s : Shared}
end
section
variable {X : Cx} {e : Expr} {es : List Expr} {pos : Pos} {f : E3}
end
end L3
namespace L3
open PySem PySem.Spec PyProof.Rows L2
section
variable {X : Cx} {a b c : Expr} {p p2 pos pos2 : Pos} {f g h : E3}
end
end L3
set_option maxHeartbeats 400000
namespace Law
open PySem L3
noncomputable section
def Zd2 : S3 := Zah (Zcq Zd1 Zd9 (Zan Zeh (Za (Zb 0) (Ze))) (Za (Zb 1) (Za (eC (.int 0)) (Ze))))
def Zbh : F3 := mkF 2 2 Zd2
def ZeC : S3 := Zah (e2 ZgU (e2 Zg (Zb 0) (eC (.int 0))) (ZaU (Za (eC (.str [103, 101, 116])) (Za (eC (.str [115, 101, 116])) (Ze)))))
def Zb0 : F3 := mkF 1 1 ZeC
def ZbU : S3 := Zah (eIf (e2 Zba (e2 Zg (Zb 0) (eC (.int 0))) (eC (.str [103, 101, 116]))) (e2 Zg (Zb 1) (e2 Zg (Zb 0) (eC (.int 2)))) (e2 Zg (Zb 1) (e2 Zg (Zb 0) (eC (.int 1)))))
def ZaP : F3 := mkF 2 2 ZbU
def Zg8 : S3 := Zu (Zae 3 (e2 Zg (Zb 2) (eC (.int 1)))) (Zu (Zae 4 (Zam ZaP (Za (Zb 0) (Za (Zb 3) (Ze))))) (Zu (sIf (e2 Zba (e2 Zg (Zb 0) (eC (.int 0))) (eC (.str [103, 101, 116]))) (Zah (ZaU (Za (Zb 4) (Za (Zb 1) (Za (eC (.str [103, 101, 116])) (Za (Zam Zbh (Za (e2 Zg (Zb 2) (eC (.int 2))) (Za (Zb 4) (Ze)))) (Ze))))))) (Zv)) (Zah (ZaU (Za (Zb 4) (Za (Zb 1) (Za (eC (.str [115, 101, 116])) (Za (e2 Zg (Zb 3) (e2 Zg (Zb 0) (eC (.int 2)))) (Ze)))))))))
def Zci : F3 := mkF 3 5 Zg8
def ZfE : S3 := Zu (Zae 2 (Zgk (Ze))) (Zu (Zg2 (Ziv (eSl (Zb 1) (ZeA) (ZeY (e1 Zez (eC (.int 1)))))) (ZdM [3, 4]) (Zu (Zae 5 (e2 Zg (Zb 0) (e2 Zg (Zb 4) (eC (.int 0))))) (sIf (Zam Zb0 (Za (Zb 5) (Ze))) (Zav (Zcq tyL Zbv (Zb 2) (Za (Zam Zci (Za (Zb 5) (Za (Zb 3) (Za (Zb 4) (Ze))))) (Ze)))) (Zv)))) (Zah (Zan ZaD (Za (Zan ZaB (Za (Zb 2) (Ze))) (Ze)))))
def Zdj : F3 := mkF 2 6 ZfE
def Zb7 : S3 := Zu (sIf (eOr (e2 ZhQ (Zb 0) (e1 Zez (e2 ZfO (eC (.int 10)) (eC (.int 6))))) (e2 ZnA (Zb 0) (e2 ZfO (eC (.int 10)) (eC (.int 6))))) (Zah (Zb 0)) (Zv)) (Zu (Zae 2 (e2 Za1 (e2 Za1 (e2 Za1 (e2 Zdf (eC (.int 31)) (Zb 0)) (e2 Zdf (Zb 1) (Zb 1))) (e2 Zdf (eC (.int 17)) (Zb 1))) (eC (.int 2000033)))) (Zu (Zae 2 (e2 ZaK (e2 Zdf (e2 Za1 (Zb 0) (eC (.int 1000003))) (Zb 2)) (eC (.int 2147483629)))) (Zah (e2 Za1 (e2 Zdf (Zb 2) (Zb 2)) (e2 ZaO (Zb 2) (eC (.int 7)))))))
def Zau : F3 := mkF 2 3 Zb7
def Zbq : S3 := Zu (sIf (e2 ZjN (e2 ZaK (Zb 0) (eC (.int 3))) (eC (.int 2))) (Zah (e2 Zeg (e2 ZaK (e2 ZaO (Zb 0) (eC (.int 3))) (eC (.int 7))) (eC (.int 3)))) (Zv)) (Zu (sIf (e2 Zba (e2 ZaK (e2 ZaO (Zb 0) (eC (.int 3))) (eC (.int 2))) (eC (.int 0))) (Zah (e2 ZaK (e2 ZaO (Zb 0) (eC (.int 6))) (e2 ZfO (eC (.int 10)) (eC (.int 30))))) (Zv)) (Zah (e1 Zez (e2 ZaK (e2 ZaO (Zb 0) (eC (.int 6))) (e2 ZfO (eC (.int 10)) (eC (.int 30)))))))
def Zaf : F3 := mkF 1 1 Zbq
def ZcT : S3 := Zu (Zae 3 (Zam Zau (Za (Zb 0) (Za (Zb 1) (Ze))))) (Zu (Zae 4 (Zgk (Za (eC (.str [112, 117, 116])) (Za (eC (.str [112, 117, 116])) (Za (eC (.str [97, 100, 100])) (Za (eC (.str [115, 117, 98])) (Za (eC (.str [109, 111, 114, 101])) (Za (eC (.str [103, 101, 116])) (Za (eC (.str [103, 101, 116])) (Za (eC (.str [103, 101, 116])) (Za (eC (.str [115, 101, 116])) (Za (eC (.str [115, 101, 116])) (Za (eC (.str [115, 101, 116])) (Za (eC (.str [115, 101, 116])) (Ze))))))))))))))) (Zu (Zae 5 (e2 Zg (e2 Za1 (Zb 4) (Zgk (Za (eC (.str [106, 117, 109, 112])) (Za (eC (.str [119, 104, 101, 110])) (Za (eC (.str [119, 104, 101, 110])) (Za (eC (.str [116, 101, 108, 108])) (Ze))))))) (e2 ZaK (Zb 3) (eC (.int 16))))) (Zu (Zae 3 (e2 ZaO (Zb 3) (eC (.int 16)))) (Zu (sIf (e2 Zba (e2 ZaK (Zb 3) (eC (.int 41))) (eC (.int 7))) (Zah (ZaU (Za (eC (.str [104, 97, 108, 116])) (Ze)))) (Zv)) (Zu (Zae 6 (e2 ZaK (Zb 3) (eC (.int 8)))) (Zu (Zae 7 (e2 ZaK (e2 ZaO (Zb 3) (eC (.int 8))) (eC (.int 8)))) (Zu (Zae 8 (e2 ZaK (e2 ZaO (Zb 3) (eC (.int 64))) (eC (.int 8)))) (Zu (Zae 9 (e2 Za1 (e2 Za1 (Zb 1) (eC (.int 1))) (e2 ZaK (e2 ZaO (Zb 3) (eC (.int 32))) (e2 Zeg (Zb 2) (Zb 1))))) (Zu (sIf (e2 Zba (e2 ZaK (e2 ZaO (Zb 3) (eC (.int 8))) (eC (.int 4))) (eC (.int 0))) (Zae 9 (e2 ZaK (e2 ZaO (Zb 3) (eC (.int 32))) (e2 Za1 (Zb 2) (eC (.int 1))))) (Zv)) (Zu (sIf (e2 Zba (Zb 5) (eC (.str [112, 117, 116]))) (Zah (ZaU (Za (Zb 5) (Za (Zb 6) (Za (Zam Zaf (Za (e2 ZaO (Zb 3) (eC (.int 8))) (Ze))) (Ze)))))) (Zv)) (Zu (sIf (e2 ZgU (Zb 5) (ZaU (Za (eC (.str [97, 100, 100])) (Za (eC (.str [115, 117, 98])) (Za (eC (.str [109, 111, 114, 101])) (Ze)))))) (Zah (ZaU (Za (Zb 5) (Za (Zb 6) (Za (Zb 7) (Za (Zb 8) (Ze))))))) (Zv)) (Zu (sIf (e2 Zba (Zb 5) (eC (.str [106, 117, 109, 112]))) (Zah (ZaU (Za (Zb 5) (Za (Zb 9) (Ze))))) (Zv)) (Zu (sIf (e2 Zba (Zb 5) (eC (.str [119, 104, 101, 110]))) (Zah (ZaU (Za (Zb 5) (Za (Zb 6) (Za (Zb 9) (Ze)))))) (Zv)) (Zah (e2 Zg (Zgk (Za (ZaU (Za (Zb 5) (Za (Zb 6) (Za (Zb 7) (Ze))))) (Za (ZaU (Za (Zb 5) (Za (Zb 6) (Ze)))) (Ze)))) (Zan Zg7 (Za (e2 Zba (Zb 5) (eC (.str [116, 101, 108, 108]))) (Ze))))))))))))))))))
def ZaX : F3 := mkF 3 10 ZcT
def Zb1 : S3 := Zu (Zae 1 (eSl (Zb 0) (ZeA) (ZeY (eC (.int 60))))) (Zu (Zae 2 (eLC (ZbV (Zan Zbr (Za (Zb 1) (Ze)))) 1 (Zck 5) [] (Zam ZaX (Za (e2 Zg (Zb 1) (Zb 5)) (Za (Zb 5) (Za (Zan Zbr (Za (Zb 1) (Ze))) (Ze))))))) (Zu (Zae 3 (ZaU (Za (eC (.str [104, 97, 108, 116])) (Ze)))) (Zu (sIf (ZdC (e2 ZhL (Zan Zbr (Za (Zb 1) (Ze))) (eC (.int 0))) (e2 Zba (e2 ZaK (e2 Zg (Zb 1) (eC (.int 0))) (eC (.int 4))) (eC (.int 1)))) (Zu (Zae 4 (Zam Zau (Za (e2 Zg (Zb 1) (eC (.int 0))) (Za (eC (.int 61)) (Ze))))) (Zu (Zcv (Zb 2) (e2 ZaK (Zb 4) (Zan Zbr (Za (Zb 2) (Ze)))) (Zb 3)) (Zae 3 (ZaU (Za (eC (.str [106, 117, 109, 112])) (Za (e2 ZaK (e2 ZaO (Zb 4) (eC (.int 64))) (e2 Za1 (Zan Zbr (Za (Zb 2) (Ze))) (eC (.int 1)))) (Ze))))))) (Zv)) (Zah (Zan ZaD (Za (e2 Za1 (Zb 2) (Zgk (Za (Zb 3) (Ze)))) (Ze)))))))
def ZbZ : F3 := mkF 1 5 Zb1
def ZdT : S3 := Zu (Zae 1 (Zgk (Ze))) (Zu (Zgq (ZbV (eC (.int 8))) (Zck 2) (Zu (Zae 3 (eC (.int 0))) (Zu (sIf (e2 ZhL (Zan Zbr (Za (Zb 0) (Ze))) (eC (.int 0))) (Zae 3 (e2 Zg (Zb 0) (e2 ZaK (e2 Za1 (e2 Zdf (eC (.int 5)) (Zb 2)) (eC (.int 3))) (Zan Zbr (Za (Zb 0) (Ze)))))) (Zv)) (Zav (Zcq tyL Zbv (Zb 1) (Za (Zam Zaf (Za (Zam Zau (Za (Zb 3) (Za (e2 Za1 (eC (.int 100)) (Zb 2)) (Ze)))) (Ze))) (Ze))))))) (Zah (Zan ZaD (Za (Zb 1) (Ze)))))
def Zb5 : F3 := mkF 1 4 ZdT
def Zaj : S3 := Zu (Zae 4 (e2 Zg (Zb 0) (eC (.int 0)))) (Zu (sIf (e2 Zba (Zb 4) (eC (.str [112, 117, 116]))) (Zcv (Zb 2) (e2 Zg (Zb 0) (eC (.int 1))) (e2 Zg (Zb 0) (eC (.int 2)))) (sIf (e2 Zba (Zb 4) (eC (.str [97, 100, 100]))) (Zcv (Zb 2) (e2 Zg (Zb 0) (eC (.int 1))) (e2 Za1 (e2 Zg (Zb 2) (e2 Zg (Zb 0) (eC (.int 2)))) (e2 Zg (Zb 2) (e2 Zg (Zb 0) (eC (.int 3)))))) (sIf (e2 Zba (Zb 4) (eC (.str [115, 117, 98]))) (Zcv (Zb 2) (e2 Zg (Zb 0) (eC (.int 1))) (e2 Zeg (e2 Zg (Zb 2) (e2 Zg (Zb 0) (eC (.int 2)))) (e2 Zg (Zb 2) (e2 Zg (Zb 0) (eC (.int 3)))))) (sIf (e2 Zba (Zb 4) (eC (.str [109, 111, 114, 101]))) (Zcv (Zb 2) (e2 Zg (Zb 0) (eC (.int 1))) (Zan Zg7 (Za (e2 ZhL (e2 Zg (Zb 2) (e2 Zg (Zb 0) (eC (.int 2)))) (e2 Zg (Zb 2) (e2 Zg (Zb 0) (eC (.int 3))))) (Ze)))) (sIf (e2 Zba (Zb 4) (eC (.str [103, 101, 116]))) (Zcv (Zb 2) (e2 Zg (Zb 0) (eC (.int 1))) (Zcq Zd1 Zd9 (Zb 3) (Za (e2 Zg (Zb 2) (e2 Zg (Zb 0) (eC (.int 2)))) (Za (eC (.int 0)) (Ze))))) (sIf (e2 Zba (Zb 4) (eC (.str [115, 101, 116]))) (Zei (Zb 3) (e2 Zg (Zb 2) (e2 Zg (Zb 0) (eC (.int 1)))) (e2 Zg (Zb 2) (e2 Zg (Zb 0) (eC (.int 2))))) (sIf (eOr (e2 Zba (Zb 4) (eC (.str [106, 117, 109, 112]))) (ZdC (e2 Zba (Zb 4) (eC (.str [119, 104, 101, 110]))) (e2 ZhL (e2 Zg (Zb 2) (e2 Zg (Zb 0) (eC (.int 1)))) (eC (.int 0))))) (Zah (e2 Zg (Zb 0) (e1 Zez (eC (.int 1))))) (Zv)))))))) (Zah (e2 Za1 (Zb 1) (eC (.int 1)))))
def ZaW : F3 := mkF 4 5 Zaj
def Zdv : S3 := Zu (Zae 3 (eC (.int 0))) (Zu (Zae 4 (Zan ZfC (Za (Zb 1) (Ze)))) (Zu (Zae 5 (Zin)) (Zu (Zae 6 (Zgk (Za (ZaU (Za (eC (.int 0)) (Za (Zan ZaD (Za (Zb 1) (Ze))) (Za (ZaU (Ze)) (Ze))))) (Ze)))) (Zu (Zhk (ZdC (e2 Zc9 (e2 Zg (e2 Zg (Zb 0) (Zb 3)) (eC (.int 0))) (eC (.str [104, 97, 108, 116]))) (e2 ZhQ (Zan Zbr (Za (Zb 6) (Ze))) (Zb 2))) (Zu (Zae 3 (Zam ZaW (Za (e2 Zg (Zb 0) (Zb 3)) (Za (Zb 3) (Za (Zb 4) (Za (Zb 5) (Ze))))))) (Zu (Zae 7 (Zgf (Zb 5) 1 (Zck 8) [e2 Zc9 (e2 ZaY (Zb 5) (Zb 8)) (eC (.int 0))] (ZaU (Za (Zb 8) (Za (e2 ZaY (Zb 5) (Zb 8)) (Ze)))))) (Zav (Zcq tyL Zbv (Zb 6) (Za (ZaU (Za (Zb 3) (Za (Zan ZaD (Za (Zb 4) (Ze))) (Za (Zan ZaD (Za (Zan ZaB (Za (Zb 7) (Ze))) (Ze))) (Ze))))) (Ze))))))) (Zah (Zb 6))))))
def Zbp : F3 := mkF 3 8 Zdv
def ZdX : S3 := Zu (Zae 2 (Zin)) (Zu (Zgq (Zhw (Zb 0)) (ZdM [3, 4, 5, 6]) (sIf (e2 ZjN (Zb 4) (Zb 1)) (Zei (Zb 2) (Zb 3) (Zb 6)) (Zv))) (Zah (Zan ZaD (Za (Zan ZaB (Za (Zgf (Zb 2) 1 (Zck 7) [e2 Zc9 (e2 ZaY (Zb 2) (Zb 7)) (eC (.int 0))] (ZaU (Za (Zb 7) (Za (e2 ZaY (Zb 2) (Zb 7)) (Ze))))) (Ze))) (Ze)))))
def ZbL : F3 := mkF 2 7 ZdX
def Zjt : S3 := Zu (Zae 1 (Zam ZbZ (Za (Zb 0) (Ze)))) (Zu (Zae 2 (Zam Zbp (Za (Zb 1) (Za (Zam Zb5 (Za (Zb 0) (Ze))) (Za (eC (.int 60)) (Ze)))))) (Zu (Zae 3 (Zam Zdj (Za (Zb 1) (Za (Zb 2) (Ze))))) (Zu (Zgq (ZbV (Zan Zbr (Za (Zb 2) (Ze)))) (Zck 4) (sIf (e2 Zc9 (Zam ZbL (Za (Zb 3) (Za (Zb 4) (Ze)))) (e2 Zg (e2 Zg (Zb 2) (Zb 4)) (eC (.int 2)))) (Zah (eC (.bl false))) (Zv))) (Zu (Zae 5 (Zin)) (Zu (Zgq (Zhw (Zb 3)) (ZdM [6, 7, 8, 9]) (Zu (sIf (ZdC (e2 Zba (Zb 8) (eC (.str [103, 101, 116]))) (e2 Zc9 (Zb 9) (Zcq Zd1 Zd9 (Zb 5) (Za (Zb 6) (Za (eC (.int 0)) (Ze)))))) (Zah (eC (.bl false))) (Zv)) (Zei (Zb 5) (Zb 6) (Zb 9)))) (Zu (Zae 10 (eLC (ZbV (e2 Zeg (Zan Zbr (Za (Zb 2) (Ze))) (eC (.int 1)))) 1 (Zck 11) [e2 ZgU (e2 Zg (e2 Zg (Zb 1) (e2 Zg (e2 Zg (Zb 2) (Zb 11)) (eC (.int 0)))) (eC (.int 0))) (ZaU (Za (eC (.str [103, 101, 116])) (Za (eC (.str [115, 101, 116])) (Ze))))] (Zb 11))) (Zah (e2 Zba (Zan ZaB (Za (eLC (Zhw (Zb 3)) 1 (Zck 11) [] (e2 Zg (Zb 11) (eC (.int 1)))) (Ze))) (Zb 10)))))))))
def Zil : F3 := mkF 1 11 Zjt
end
end Law
namespace Law
open PySem PySem.Spec PyProof.Rows L2 L3
def top (i : Nat) : Stmt := PySem.Challenge.pw_stepledger_k23_whole_uses_tell_cells.main.body.getD i (.Pass ⟨0, 0, 0, 0⟩)
abbrev Zbg : Stmt := top 1
abbrev Zb6 : Stmt := top 3
abbrev ZcL : Stmt := top 4
abbrev ZcD : Stmt := top 5
abbrev Za6 : Stmt := top 6
abbrev ZbS : Stmt := top 8
abbrev Za2 : Stmt := top 9
abbrev ZbT : Stmt := top 10
abbrev ZbA : Stmt := top 11
abbrev Zbj : Stmt := top 12
abbrev Zbz : Stmt := top 13
abbrev Za3 : Stmt := top 14
abbrev Zbi : Stmt := top 15
abbrev ZdW : Stmt := top 16
structure Txt (K : W.Frag) (mg : Str → Option Value) : Prop where
  kin : True
  m_dict : mg "dict" = none
  m_enumerate : mg "enumerate" = none
  m_int : mg "int" = none
  m_len : mg "len" = none
  m_list : mg "list" = none
  m_range : mg "range" = none
  m_sorted : mg "sorted" = none
  m_tuple : mg "tuple" = none
section
variable {P : Program} {w : World} {K : W.Frag} {mg : Str → Option Value} {base : Heap}
theorem Zfh : ZaE ["cells", "number"] ["cells", "number"] (Zq Zbg) := ⟨rfl, rfl, rfl, by decide +kernel, rfl, by decide +kernel, by decide +kernel⟩
theorem Zfg (A : ZaR K mg "cell_value" Zbg ["cells", "number"]) (T : Txt K mg) : Fn3 P w K mg base 1 "cell_value" ["cells", "number"] Zbh :=
  Fn3.of (N := ["cells", "number"]) (k := 0) A Zfh fun f cdv A outer s H E hr => by
    have hu := ZdR hr
    unfold Zd2
    refine Zr ?_
    refine Zaz ?_
    refine Zhz ?_ ?_ ?_ ?_
    ·exact hu
    ·refine Zdd (T := "dict") ?_ ?_ ?_ ?_
     ·exact (ZmG rfl)
     ·exact T.m_dict
     ·exact Zkq
     ·refine Zc ?_ ?_
      ·exact Zd 0
      ·exact Zk
    ·exact Zd 1
    ·exact Zi
theorem Zi5 : ZaE ["row"] ["row"] (Zq ZcL) := ⟨rfl, rfl, rfl, by decide +kernel, rfl, by decide +kernel, by decide +kernel⟩
theorem ZiW (A : ZaR K mg "is_use" ZcL ["row"]) (T : Txt K mg) : Fn3 P w K mg base 1 "is_use" ["row"] Zb0 :=
  Fn3.of (N := ["row"]) (k := 0) A Zi5 fun f cdv A outer s H E hr => by
    have hu := ZdR hr
    unfold ZeC
    refine Zr ?_
    refine Zaz ?_
    refine Zid ?_ ?_ ?_
    ·exact (ZlM hu)
    ·refine Zad ?_ ?_ ?_
     ·exact Zac
     ·exact Zd 0
     ·exact Zi
    ·refine ZbI ?_
     refine Zc ?_ ?_
     ·exact Zar
     ·refine Zc ?_ ?_
      ·exact Zar
      ·exact Zk
theorem ZeT : ZaE ["row", "boxes"] ["row", "boxes"] (Zq Za6) := ⟨rfl, rfl, rfl, by decide +kernel, rfl, by decide +kernel, by decide +kernel⟩
theorem ZeB (A : ZaR K mg "cell_number" Za6 ["row", "boxes"]) (T : Txt K mg) : Fn3 P w K mg base 1 "cell_number" ["row", "boxes"] ZaP :=
  Fn3.of (N := ["row", "boxes"]) (k := 0) A ZeT fun f cdv A outer s H E hr => by
    have hu := ZdR hr
    unfold ZbU
    refine Zr ?_
    refine Zaz ?_
    refine Zoz ?_ ?_ ?_
    ·refine Zao ?_ ?_ ?_
     ·exact (ZcI hu)
     ·refine Zad ?_ ?_ ?_
      ·exact Zac
      ·exact Zd 0
      ·exact Zi
     ·exact Zar
    ·refine Zad ?_ ?_ ?_
     ·exact Zac
     ·exact Zd 1
     ·refine Zad ?_ ?_ ?_
      ·exact Zac
      ·exact Zd 0
      ·exact Zi
    ·refine Zad ?_ ?_ ?_
     ·exact Zac
     ·exact Zd 1
     ·refine Zad ?_ ?_ ?_
      ·exact Zac
      ·exact Zd 0
      ·exact Zi
theorem Zd7 : ZaE ["row", "time", "state", "boxes", "number"] ["row", "time", "state"] (Zq ZcD) := ⟨rfl, rfl, rfl, by decide +kernel, rfl, by decide +kernel, by decide +kernel⟩
theorem Zi3 (A : ZaR K mg "use_of" ZcD ["row", "time", "state"]) (T : Txt K mg) (F_cell_value : Fn3 P w K mg base 1 "cell_value" ["cells", "number"] Zbh) (F_cell_number : Fn3 P w K mg base 1 "cell_number" ["row", "boxes"] ZaP) : Fn3 P w K mg base 2 "use_of" ["row", "time", "state"] Zci :=
  Fn3.of (N := ["row", "time", "state", "boxes", "number"]) (k := 1) A Zd7 fun f cdv A outer s H E hr => by
    have hu := ZdR hr
    unfold Zg8
    refine Zh ?_ ?_
    ·refine Zap 3 ?_ ?_
     ·exact Zd7.nd
     ·refine Zad ?_ ?_ ?_
      ·exact Zac
      ·exact Zd 2
      ·exact Zi
    ·refine Zh ?_ ?_
     ·refine Zap 4 ?_ ?_
      ·exact Zd7.nd
      ·refine Zbl (k := 1) (ps := ["row", "boxes"]) ?_ ?_ ?_
       ·exact F_cell_number
       ·exact hr.mono (by decide)
       ·refine Zc ?_ ?_
        ·exact Zd 0
        ·refine Zc ?_ ?_
         ·exact Zd 3
         ·exact Zk
     ·refine Zh ?_ ?_
      ·refine Zbd ?_ ?_ ?_
       ·refine Zao ?_ ?_ ?_
        ·exact (ZcI hu)
        ·refine Zad ?_ ?_ ?_
         ·exact Zac
         ·exact Zd 0
         ·exact Zi
        ·exact Zar
       ·refine Zr ?_
        refine Zaz ?_
        refine ZbI ?_
        refine Zc ?_ ?_
        ·exact Zd 4
        ·refine Zc ?_ ?_
         ·exact Zd 1
         ·refine Zc ?_ ?_
          ·exact Zar
          ·refine Zc ?_ ?_
           ·refine Zbl (k := 1) (ps := ["cells", "number"]) ?_ ?_ ?_
            ·exact F_cell_value
            ·exact hr.mono (by decide)
            ·refine Zc ?_ ?_
             ·refine Zad ?_ ?_ ?_
              ·exact Zac
              ·exact Zd 2
              ·exact Zi
             ·refine Zc ?_ ?_
              ·exact Zd 4
              ·exact Zk
           ·exact Zk
       ·exact ZaL
      ·refine Zr ?_
       refine Zaz ?_
       refine ZbI ?_
       refine Zc ?_ ?_
       ·exact Zd 4
       ·refine Zc ?_ ?_
        ·exact Zd 1
        ·refine Zc ?_ ?_
         ·exact Zar
         ·refine Zc ?_ ?_
          ·refine Zad ?_ ?_ ?_
           ·exact Zac
           ·exact Zd 3
           ·refine Zad ?_ ?_ ?_
            ·exact Zac
            ·exact Zd 0
            ·exact Zi
          ·exact Zk
theorem Zcj : ZaE ["roll", "states", "uses", "time", "state", "row"] ["roll", "states"] (Zq Zb6) := ⟨rfl, rfl, rfl, by decide +kernel, rfl, by decide +kernel, by decide +kernel⟩
theorem Zh3 (A : ZaR K mg "uses_of" Zb6 ["roll", "states"]) (T : Txt K mg) (F_is_use : Fn3 P w K mg base 1 "is_use" ["row"] Zb0) (F_use_of : Fn3 P w K mg base 2 "use_of" ["row", "time", "state"] Zci) : Fn3 P w K mg base 3 "uses_of" ["roll", "states"] Zdj :=
  Fn3.of (N := ["roll", "states", "uses", "time", "state", "row"]) (k := 2) A Zcj fun f cdv A outer s H E hr => by
    have hu := ZdR hr
    unfold ZfE
    refine Zh ?_ ?_
    ·refine Zap 2 ?_ ?_
     ·exact Zcj.nd
     ·refine Ze6 ?_
      exact Zk
    ·refine Zh ?_ ?_
     ·refine Zk4 ?_ ?_ ?_ ?_ ?_
      ·exact rfl
      ·exact rfl
      ·refine Zkv ?_ ?_
       ·exact T.m_enumerate
       ·refine ZnJ ?_ ?_ ?_ ?_
        ·exact ZnB
        ·exact Zd 1
        ·exact Zim
        ·refine Zit ?_
         refine ZkW ?_ ?_
         ·exact Zik
         ·exact Zi
      ·refine ZhB ?_ ?_
       ·exact rfl
       ·refine Zbu 3 ?_ ?_
        ·exact Zcj.nd
        ·refine Zbu 4 ?_ ?_
         ·exact Zcj.nd
         ·exact Zf7
      ·refine Zh ?_ ?_
       ·refine Zap 5 ?_ ?_
        ·exact Zcj.nd
        ·refine Zad ?_ ?_ ?_
         ·exact Zac
         ·exact Zd 0
         ·refine Zad ?_ ?_ ?_
          ·exact Zac
          ·exact Zd 4
          ·exact Zi
       ·refine Zr ?_
        refine Zbd ?_ ?_ ?_
        ·refine ZlR ?_
         refine Zbl (k := 1) (ps := ["row"]) ?_ ?_ ?_
         ·exact F_is_use
         ·exact hr.mono (by decide)
         ·refine Zc ?_ ?_
          ·exact Zd 5
          ·exact Zk
        ·refine Zr ?_
         refine Zf9 ?_
         refine ZcN ?_ ?_
         ·exact Zd 2
         ·refine Zc ?_ ?_
          ·refine Zbl (k := 2) (ps := ["row", "time", "state"]) ?_ ?_ ?_
           ·exact F_use_of
           ·exact hr.mono (by decide)
           ·refine Zc ?_ ?_
            ·exact Zd 5
            ·refine Zc ?_ ?_
             ·exact Zd 3
             ·refine Zc ?_ ?_
              ·exact Zd 4
              ·exact Zk
          ·exact Zk
        ·exact ZaL
     ·refine Zr ?_
      refine Zaz ?_
      refine Zdd (T := "tuple") ?_ ?_ ?_ ?_
      ·exact ZcV
      ·exact T.m_tuple
      ·exact Zcb
      ·refine Zc ?_ ?_
       ·refine Zcw (id := "sorted") ?_ ?_ ?_ ?_
        ·exact ZdU
        ·exact T.m_sorted
        ·exact Zdi
        ·refine Zc ?_ ?_
         ·exact Zd 2
         ·exact Zk
       ·exact Zk
theorem Zc8 : ZaE ["cell", "k", "number"] ["cell", "k"] (Zq ZbS) := ⟨rfl, rfl, rfl, by decide +kernel, rfl, by decide +kernel, by decide +kernel⟩
theorem Zg6 (A : ZaR K mg "_law_mix" ZbS ["cell", "k"]) (T : Txt K mg) : Fn3 P w K mg base 1 "_law_mix" ["cell", "k"] Zau :=
  Fn3.of (N := ["cell", "k", "number"]) (k := 0) A Zc8 fun f cdv A outer s H E hr => by
    have hu := ZdR hr
    unfold Zb7
    refine Zh ?_ ?_
    ·refine Zbd ?_ ?_ ?_
     ·refine CW.ct ?_
      refine Zlr ?_ ?_
      ·refine Zao ?_ ?_ ?_
       ·exact Zna
       ·exact Zd 0
       ·refine ZkW ?_ ?_
        ·exact Zik
        ·refine Zy ?_ ?_ ?_
         ·exact Zij
         ·exact Zi
         ·exact Zi
      ·refine Zju ?_
       refine Zao ?_ ?_ ?_
       ·exact Zn7
       ·exact Zd 0
       ·refine Zy ?_ ?_ ?_
        ·exact Zij
        ·exact Zi
        ·exact Zi
     ·refine Zr ?_
      refine Zaz ?_
      exact Zd 0
     ·exact ZaL
    ·refine Zh ?_ ?_
     ·refine Zap 2 ?_ ?_
      ·exact Zc8.nd
      ·refine Zy ?_ ?_ ?_
       ·exact Zca
       ·refine Zy ?_ ?_ ?_
        ·exact Zca
        ·refine Zy ?_ ?_ ?_
         ·exact Zca
         ·refine Zy ?_ ?_ ?_
          ·exact ZfR
          ·exact Zi
          ·exact Zd 0
         ·refine Zy ?_ ?_ ?_
          ·exact ZfR
          ·exact Zd 1
          ·exact Zd 1
        ·refine Zy ?_ ?_ ?_
         ·exact ZfR
         ·exact Zi
         ·exact Zd 1
       ·exact Zi
     ·refine Zh ?_ ?_
      ·refine Zap 2 ?_ ?_
       ·exact Zc8.nd
       ·refine Zy ?_ ?_ ?_
        ·exact ZbM
        ·refine Zy ?_ ?_ ?_
         ·exact ZfR
         ·refine Zy ?_ ?_ ?_
          ·exact Zca
          ·exact Zd 0
          ·exact Zi
         ·exact Zd 2
        ·exact Zi
      ·refine Zr ?_
       refine Zaz ?_
       refine Zy ?_ ?_ ?_
       ·exact Zca
       ·refine Zy ?_ ?_ ?_
        ·exact ZfR
        ·exact Zd 2
        ·exact Zd 2
       ·refine Zy ?_ ?_ ?_
        ·exact ZbR
        ·exact Zd 2
        ·exact Zi
theorem Zey : ZaE ["number"] ["number"] (Zq Za2) := ⟨rfl, rfl, rfl, by decide +kernel, rfl, by decide +kernel, by decide +kernel⟩
theorem ZeI (A : ZaR K mg "_law_number" Za2 ["number"]) (T : Txt K mg) : Fn3 P w K mg base 1 "_law_number" ["number"] Zaf :=
  Fn3.of (N := ["number"]) (k := 0) A Zey fun f cdv A outer s H E hr => by
    have hu := ZdR hr
    unfold Zbq
    refine Zh ?_ ?_
    ·refine Zbd ?_ ?_ ?_
     ·refine Zao ?_ ?_ ?_
      ·exact Znt
      ·refine Zy ?_ ?_ ?_
       ·exact ZbM
       ·exact Zd 0
       ·exact Zi
      ·exact Zi
     ·refine Zr ?_
      refine Zaz ?_
      refine Zy ?_ ?_ ?_
      ·exact Zig
      ·refine Zy ?_ ?_ ?_
       ·exact ZbM
       ·refine Zy ?_ ?_ ?_
        ·exact ZbR
        ·exact Zd 0
        ·exact Zi
       ·exact Zi
      ·exact Zi
     ·exact ZaL
    ·refine Zh ?_ ?_
     ·refine Zbd ?_ ?_ ?_
      ·refine Zao ?_ ?_ ?_
       ·exact (ZcI hu)
       ·refine Zy ?_ ?_ ?_
        ·exact ZbM
        ·refine Zy ?_ ?_ ?_
         ·exact ZbR
         ·exact Zd 0
         ·exact Zi
        ·exact Zi
       ·exact Zi
      ·refine Zr ?_
       refine Zaz ?_
       refine Zy ?_ ?_ ?_
       ·exact ZbM
       ·refine Zy ?_ ?_ ?_
        ·exact ZbR
        ·exact Zd 0
        ·exact Zi
       ·refine Zy ?_ ?_ ?_
        ·exact Zij
        ·exact Zi
        ·exact Zi
      ·exact ZaL
     ·refine Zr ?_
      refine Zaz ?_
      refine ZkW ?_ ?_
      ·exact Zik
      ·refine Zy ?_ ?_ ?_
       ·exact ZbM
       ·refine Zy ?_ ?_ ?_
        ·exact ZbR
        ·exact Zd 0
        ·exact Zi
       ·refine Zy ?_ ?_ ?_
        ·exact Zij
        ·exact Zi
        ·exact Zi
theorem ZaG : ZaE ["cell", "k", "size", "number", "words", "word", "a", "b", "c", "to"] ["cell", "k", "size"] (Zq ZbT) := ⟨rfl, rfl, rfl, by decide +kernel, rfl, by decide +kernel, by decide +kernel⟩
theorem Zg5 (A : ZaR K mg "_law_row" ZbT ["cell", "k", "size"]) (T : Txt K mg) (F__law_mix : Fn3 P w K mg base 1 "_law_mix" ["cell", "k"] Zau) (F__law_number : Fn3 P w K mg base 1 "_law_number" ["number"] Zaf) : Fn3 P w K mg base 2 "_law_row" ["cell", "k", "size"] ZaX :=
  Fn3.of (N := ["cell", "k", "size", "number", "words", "word", "a", "b", "c", "to"]) (k := 1) A ZaG fun f cdv A outer s H E hr => by
    have hu := ZdR hr
    unfold ZcT
    refine Zh ?_ ?_
    ·refine Zap 3 ?_ ?_
     ·exact ZaG.nd
     ·refine Zbl (k := 1) (ps := ["cell", "k"]) ?_ ?_ ?_
      ·exact F__law_mix
      ·exact hr.mono (by decide)
      ·refine Zc ?_ ?_
       ·exact Zd 0
       ·refine Zc ?_ ?_
        ·exact Zd 1
        ·exact Zk
    ·refine Zh ?_ ?_
     ·refine Zap 4 ?_ ?_
      ·exact ZaG.nd
      ·refine Ze6 ?_
       refine Zc ?_ ?_
       ·exact Zar
       ·refine Zc ?_ ?_
        ·exact Zar
        ·refine Zc ?_ ?_
         ·exact Zar
         ·refine Zc ?_ ?_
          ·exact Zar
          ·refine Zc ?_ ?_
           ·exact Zar
           ·refine Zc ?_ ?_
            ·exact Zar
            ·refine Zc ?_ ?_
             ·exact Zar
             ·refine Zc ?_ ?_
              ·exact Zar
              ·refine Zc ?_ ?_
               ·exact Zar
               ·refine Zc ?_ ?_
                ·exact Zar
                ·refine Zc ?_ ?_
                 ·exact Zar
                 ·refine Zc ?_ ?_
                  ·exact Zar
                  ·exact Zk
     ·refine Zh ?_ ?_
      ·refine Zap 5 ?_ ?_
       ·exact ZaG.nd
       ·refine Zad ?_ ?_ ?_
        ·exact Zac
        ·refine Zy ?_ ?_ ?_
         ·exact Zca
         ·exact Zd 4
         ·refine Ze6 ?_
          refine Zc ?_ ?_
          ·exact Zar
          ·refine Zc ?_ ?_
           ·exact Zar
           ·refine Zc ?_ ?_
            ·exact Zar
            ·refine Zc ?_ ?_
             ·exact Zar
             ·exact Zk
        ·refine Zy ?_ ?_ ?_
         ·exact ZbM
         ·exact Zd 3
         ·exact Zi
      ·refine Zh ?_ ?_
       ·refine Zap 3 ?_ ?_
        ·exact ZaG.nd
        ·refine Zy ?_ ?_ ?_
         ·exact ZbR
         ·exact Zd 3
         ·exact Zi
       ·refine Zh ?_ ?_
        ·refine Zbd ?_ ?_ ?_
         ·refine Zao ?_ ?_ ?_
          ·exact (ZcI hu)
          ·refine Zy ?_ ?_ ?_
           ·exact ZbM
           ·exact Zd 3
           ·exact Zi
          ·exact Zi
         ·refine Zr ?_
          refine Zaz ?_
          refine ZbI ?_
          refine Zc ?_ ?_
          ·exact Zar
          ·exact Zk
         ·exact ZaL
        ·refine Zh ?_ ?_
         ·refine Zap 6 ?_ ?_
          ·exact ZaG.nd
          ·refine Zy ?_ ?_ ?_
           ·exact ZbM
           ·exact Zd 3
           ·exact Zi
         ·refine Zh ?_ ?_
          ·refine Zap 7 ?_ ?_
           ·exact ZaG.nd
           ·refine Zy ?_ ?_ ?_
            ·exact ZbM
            ·refine Zy ?_ ?_ ?_
             ·exact ZbR
             ·exact Zd 3
             ·exact Zi
            ·exact Zi
          ·refine Zh ?_ ?_
           ·refine Zap 8 ?_ ?_
            ·exact ZaG.nd
            ·refine Zy ?_ ?_ ?_
             ·exact ZbM
             ·refine Zy ?_ ?_ ?_
              ·exact ZbR
              ·exact Zd 3
              ·exact Zi
             ·exact Zi
           ·refine Zh ?_ ?_
            ·refine Zap 9 ?_ ?_
             ·exact ZaG.nd
             ·refine Zy ?_ ?_ ?_
              ·exact Zca
              ·refine Zy ?_ ?_ ?_
               ·exact Zca
               ·exact Zd 1
               ·exact Zi
              ·refine Zy ?_ ?_ ?_
               ·exact ZbM
               ·refine Zy ?_ ?_ ?_
                ·exact ZbR
                ·exact Zd 3
                ·exact Zi
               ·refine Zy ?_ ?_ ?_
                ·exact Zig
                ·exact Zd 2
                ·exact Zd 1
            ·refine Zh ?_ ?_
             ·refine Zbd ?_ ?_ ?_
              ·refine Zao ?_ ?_ ?_
               ·exact (ZcI hu)
               ·refine Zy ?_ ?_ ?_
                ·exact ZbM
                ·refine Zy ?_ ?_ ?_
                 ·exact ZbR
                 ·exact Zd 3
                 ·exact Zi
                ·exact Zi
               ·exact Zi
              ·refine Zr ?_
               refine Zap 9 ?_ ?_
               ·exact ZaG.nd
               ·refine Zy ?_ ?_ ?_
                ·exact ZbM
                ·refine Zy ?_ ?_ ?_
                 ·exact ZbR
                 ·exact Zd 3
                 ·exact Zi
                ·refine Zy ?_ ?_ ?_
                 ·exact Zca
                 ·exact Zd 2
                 ·exact Zi
              ·exact ZaL
             ·refine Zh ?_ ?_
              ·refine Zbd ?_ ?_ ?_
               ·refine Zao ?_ ?_ ?_
                ·exact (ZcI hu)
                ·exact Zd 5
                ·exact Zar
               ·refine Zr ?_
                refine Zaz ?_
                refine ZbI ?_
                refine Zc ?_ ?_
                ·exact Zd 5
                ·refine Zc ?_ ?_
                 ·exact Zd 6
                 ·refine Zc ?_ ?_
                  ·refine Zbl (k := 1) (ps := ["number"]) ?_ ?_ ?_
                   ·exact F__law_number
                   ·exact hr.mono (by decide)
                   ·refine Zc ?_ ?_
                    ·refine Zy ?_ ?_ ?_
                     ·exact ZbR
                     ·exact Zd 3
                     ·exact Zi
                    ·exact Zk
                  ·exact Zk
               ·exact ZaL
              ·refine Zh ?_ ?_
               ·refine Zbd ?_ ?_ ?_
                ·refine Zao ?_ ?_ ?_
                 ·exact (ZlM hu)
                 ·exact Zd 5
                 ·refine ZbI ?_
                  refine Zc ?_ ?_
                  ·exact Zar
                  ·refine Zc ?_ ?_
                   ·exact Zar
                   ·refine Zc ?_ ?_
                    ·exact Zar
                    ·exact Zk
                ·refine Zr ?_
                 refine Zaz ?_
                 refine ZbI ?_
                 refine Zc ?_ ?_
                 ·exact Zd 5
                 ·refine Zc ?_ ?_
                  ·exact Zd 6
                  ·refine Zc ?_ ?_
                   ·exact Zd 7
                   ·refine Zc ?_ ?_
                    ·exact Zd 8
                    ·exact Zk
                ·exact ZaL
               ·refine Zh ?_ ?_
                ·refine Zbd ?_ ?_ ?_
                 ·refine Zao ?_ ?_ ?_
                  ·exact (ZcI hu)
                  ·exact Zd 5
                  ·exact Zar
                 ·refine Zr ?_
                  refine Zaz ?_
                  refine ZbI ?_
                  refine Zc ?_ ?_
                  ·exact Zd 5
                  ·refine Zc ?_ ?_
                   ·exact Zd 9
                   ·exact Zk
                 ·exact ZaL
                ·refine Zh ?_ ?_
                 ·refine Zbd ?_ ?_ ?_
                  ·refine Zao ?_ ?_ ?_
                   ·exact (ZcI hu)
                   ·exact Zd 5
                   ·exact Zar
                  ·refine Zr ?_
                   refine Zaz ?_
                   refine ZbI ?_
                   refine Zc ?_ ?_
                   ·exact Zd 5
                   ·refine Zc ?_ ?_
                    ·exact Zd 6
                    ·refine Zc ?_ ?_
                     ·exact Zd 9
                     ·exact Zk
                  ·exact ZaL
                 ·refine Zr ?_
                  refine Zaz ?_
                  refine Zad ?_ ?_ ?_
                  ·exact Zac
                  ·refine Ze6 ?_
                   refine Zc ?_ ?_
                   ·refine ZbI ?_
                    refine Zc ?_ ?_
                    ·exact Zd 5
                    ·refine Zc ?_ ?_
                     ·exact Zd 6
                     ·refine Zc ?_ ?_
                      ·exact Zd 7
                      ·exact Zk
                   ·refine Zc ?_ ?_
                    ·refine ZbI ?_
                     refine Zc ?_ ?_
                     ·exact Zd 5
                     ·refine Zc ?_ ?_
                      ·exact Zd 6
                      ·exact Zk
                    ·exact Zk
                  ·refine Zdd (T := "int") ?_ ?_ ?_ ?_
                   ·exact Zkh
                   ·exact T.m_int
                   ·exact Zjf
                   ·refine Zc ?_ ?_
                    ·refine Zid ?_ ?_ ?_
                     ·exact (ZcI hu)
                     ·exact Zd 5
                     ·exact Zar
                    ·exact Zk
theorem Zbf : ZaE ["script", "cells", "rows", "last", "number"] ["script"] (Zq ZbA) := ⟨rfl, rfl, rfl, by decide +kernel, rfl, by decide +kernel, by decide +kernel⟩
theorem Zf8 (A : ZaR K mg "_law_roll" ZbA ["script"]) (T : Txt K mg) (F__law_mix : Fn3 P w K mg base 1 "_law_mix" ["cell", "k"] Zau) (F__law_row : Fn3 P w K mg base 2 "_law_row" ["cell", "k", "size"] ZaX) : Fn3 P w K mg base 3 "_law_roll" ["script"] ZbZ :=
  Fn3.of (N := ["script", "cells", "rows", "last", "number"]) (k := 2) A Zbf fun f cdv A outer s H E hr => by
    have hu := ZdR hr
    unfold Zb1
    refine Zh ?_ ?_
    ·refine Zap 1 ?_ ?_
     ·exact Zbf.nd
     ·refine ZnJ ?_ ?_ ?_ ?_
      ·exact ZnB
      ·exact Zd 0
      ·exact Zim
      ·refine Zit ?_
       exact Zi
    ·refine Zh ?_ ?_
     ·refine Ze7 (N' := ["script", "cells", "rows", "last", "number", "k"]) 2 ?_ ?_ ?_ ?_ ?_ (fun C cl s H ex => ⟨?_, ?_, ?_⟩)
      ·exact ZcB rfl (by kernel_rfl)
      ·exact rfl
      ·exact rfl
      ·exact Zbf.nd
      ·refine Zdh ?_ ?_
       ·exact T.m_range
       ·refine Zcw (id := "len") ?_ ?_ ?_ ?_
        ·exact Zdz
        ·exact T.m_len
        ·exact Zcy
        ·refine Zc ?_ ?_
         ·exact Zd 1
         ·exact Zk
      ·refine ZcR 5 ?_
       exact (show List.Nodup (["script", "cells", "rows", "last", "number", "k"] : List Str) by decide +kernel)
      ·exact Zis
      ·refine Zbl (k := 2) (ps := ["cell", "k", "size"]) ?_ ?_ ?_
       ·exact F__law_row
       ·exact hr.mono (by decide)
       ·refine Zc ?_ ?_
        ·refine Zad ?_ ?_ ?_
         ·exact Zac
         ·exact Zd 1
         ·exact Zd 5
        ·refine Zc ?_ ?_
         ·exact Zd 5
         ·refine Zc ?_ ?_
          ·refine Zcw (id := "len") ?_ ?_ ?_ ?_
           ·exact Zdz
           ·exact T.m_len
           ·exact Zcy
           ·refine Zc ?_ ?_
            ·exact Zd 1
            ·exact Zk
          ·exact Zk
     ·refine Zh ?_ ?_
      ·refine Zap 3 ?_ ?_
       ·exact Zbf.nd
       ·refine ZbI ?_
        refine Zc ?_ ?_
        ·exact Zar
        ·exact Zk
      ·refine Zh ?_ ?_
       ·refine Zbd ?_ ?_ ?_
        ·refine CW.ct ?_
         refine Zf1 ?_ ?_
         ·refine Zao ?_ ?_ ?_
          ·exact ZkJ
          ·refine Zcw (id := "len") ?_ ?_ ?_ ?_
           ·exact Zdz
           ·exact T.m_len
           ·exact Zcy
           ·refine Zc ?_ ?_
            ·exact Zd 1
            ·exact Zk
          ·exact Zi
         ·refine Zev ?_
          refine Zao ?_ ?_ ?_
          ·exact (ZcI hu)
          ·refine Zy ?_ ?_ ?_
           ·exact ZbM
           ·refine Zad ?_ ?_ ?_
            ·exact Zac
            ·exact Zd 1
            ·exact Zi
           ·exact Zi
          ·exact Zi
        ·refine Zh ?_ ?_
         ·refine Zap 4 ?_ ?_
          ·exact Zbf.nd
          ·refine Zbl (k := 1) (ps := ["cell", "k"]) ?_ ?_ ?_
           ·exact F__law_mix
           ·exact hr.mono (by decide)
           ·refine Zc ?_ ?_
            ·refine Zad ?_ ?_ ?_
             ·exact Zac
             ·exact Zd 1
             ·exact Zi
            ·refine Zc ?_ ?_
             ·exact Zi
             ·exact Zk
         ·refine Zh ?_ ?_
          ·refine Zdp ?_ ?_ ?_
           ·exact Zd 2
           ·refine Zy ?_ ?_ ?_
            ·exact ZbM
            ·exact Zd 4
            ·refine Zcw (id := "len") ?_ ?_ ?_ ?_
             ·exact Zdz
             ·exact T.m_len
             ·exact Zcy
             ·refine Zc ?_ ?_
              ·exact Zd 2
              ·exact Zk
           ·exact Zd 3
          ·refine Zr ?_
           refine Zap 3 ?_ ?_
           ·exact Zbf.nd
           ·refine ZbI ?_
            refine Zc ?_ ?_
            ·exact Zar
            ·refine Zc ?_ ?_
             ·refine Zy ?_ ?_ ?_
              ·exact ZbM
              ·refine Zy ?_ ?_ ?_
               ·exact ZbR
               ·exact Zd 4
               ·exact Zi
              ·refine Zy ?_ ?_ ?_
               ·exact Zca
               ·refine Zcw (id := "len") ?_ ?_ ?_ ?_
                ·exact Zdz
                ·exact T.m_len
                ·exact Zcy
                ·refine Zc ?_ ?_
                 ·exact Zd 2
                 ·exact Zk
               ·exact Zi
             ·exact Zk
        ·exact ZaL
       ·refine Zr ?_
        refine Zaz ?_
        refine Zdd (T := "tuple") ?_ ?_ ?_ ?_
        ·exact ZcV
        ·exact T.m_tuple
        ·exact Zcb
        ·refine Zc ?_ ?_
         ·refine Zy ?_ ?_ ?_
          ·exact Zca
          ·exact Zd 2
          ·refine Ze6 ?_
           refine Zc ?_ ?_
           ·exact Zd 3
           ·exact Zk
         ·exact Zk
theorem Zbo : ZaE ["script", "found", "k", "cell"] ["script"] (Zq Zbj) := ⟨rfl, rfl, rfl, by decide +kernel, rfl, by decide +kernel, by decide +kernel⟩
theorem Zfa (A : ZaR K mg "_law_boxes" Zbj ["script"]) (T : Txt K mg) (F__law_mix : Fn3 P w K mg base 1 "_law_mix" ["cell", "k"] Zau) (F__law_number : Fn3 P w K mg base 1 "_law_number" ["number"] Zaf) : Fn3 P w K mg base 2 "_law_boxes" ["script"] Zb5 :=
  Fn3.of (N := ["script", "found", "k", "cell"]) (k := 1) A Zbo fun f cdv A outer s H E hr => by
    have hu := ZdR hr
    unfold ZdT
    refine Zh ?_ ?_
    ·refine Zap 1 ?_ ?_
     ·exact Zbo.nd
     ·refine Ze6 ?_
      exact Zk
    ·refine Zh ?_ ?_
     ·refine Zf4 ?_ ?_ ?_ ?_ ?_
      ·exact rfl
      ·exact rfl
      ·refine Zdh ?_ ?_
       ·exact T.m_range
       ·exact Zi
      ·refine ZcR 2 ?_
       exact Zbo.nd
      ·refine Zh ?_ ?_
       ·refine Zap 3 ?_ ?_
        ·exact Zbo.nd
        ·exact Zi
       ·refine Zh ?_ ?_
        ·refine Zbd ?_ ?_ ?_
         ·refine Zao ?_ ?_ ?_
          ·exact ZkJ
          ·refine Zcw (id := "len") ?_ ?_ ?_ ?_
           ·exact Zdz
           ·exact T.m_len
           ·exact Zcy
           ·refine Zc ?_ ?_
            ·exact Zd 0
            ·exact Zk
          ·exact Zi
         ·refine Zr ?_
          refine Zap 3 ?_ ?_
          ·exact Zbo.nd
          ·refine Zad ?_ ?_ ?_
           ·exact Zac
           ·exact Zd 0
           ·refine Zy ?_ ?_ ?_
            ·exact ZbM
            ·refine Zy ?_ ?_ ?_
             ·exact Zca
             ·refine Zy ?_ ?_ ?_
              ·exact ZfR
              ·exact Zi
              ·exact Zd 2
             ·exact Zi
            ·refine Zcw (id := "len") ?_ ?_ ?_ ?_
             ·exact Zdz
             ·exact T.m_len
             ·exact Zcy
             ·refine Zc ?_ ?_
              ·exact Zd 0
              ·exact Zk
         ·exact ZaL
        ·refine Zr ?_
         refine Zf9 ?_
         refine ZcN ?_ ?_
         ·exact Zd 1
         ·refine Zc ?_ ?_
          ·refine Zbl (k := 1) (ps := ["number"]) ?_ ?_ ?_
           ·exact F__law_number
           ·exact hr.mono (by decide)
           ·refine Zc ?_ ?_
            ·refine Zbl (k := 1) (ps := ["cell", "k"]) ?_ ?_ ?_
             ·exact F__law_mix
             ·exact hr.mono (by decide)
             ·refine Zc ?_ ?_
              ·exact Zd 3
              ·refine Zc ?_ ?_
               ·refine Zy ?_ ?_ ?_
                ·exact Zca
                ·exact Zi
                ·exact Zd 2
               ·exact Zk
            ·exact Zk
          ·exact Zk
     ·refine Zr ?_
      refine Zaz ?_
      refine Zdd (T := "tuple") ?_ ?_ ?_ ?_
      ·exact ZcV
      ·exact T.m_tuple
      ·exact Zcb
      ·refine Zc ?_ ?_
       ·exact Zd 1
       ·exact Zk
theorem ZdO : ZaE ["row", "place", "boxes", "cells", "word"] ["row", "place", "boxes", "cells"] (Zq Zbz) := ⟨rfl, rfl, rfl, by decide +kernel, rfl, by decide +kernel, by decide +kernel⟩
theorem Zf0 (A : ZaR K mg "_law_goes" Zbz ["row", "place", "boxes", "cells"]) (T : Txt K mg) : Fn3 P w K mg base 1 "_law_goes" ["row", "place", "boxes", "cells"] ZaW :=
  Fn3.of (N := ["row", "place", "boxes", "cells", "word"]) (k := 0) A ZdO fun f cdv A outer s H E hr => by
    have hu := ZdR hr
    unfold Zaj
    refine Zh ?_ ?_
    ·refine Zap 4 ?_ ?_
     ·exact ZdO.nd
     ·refine Zad ?_ ?_ ?_
      ·exact Zac
      ·exact Zd 0
      ·exact Zi
    ·refine Zh ?_ ?_
     ·refine Zbd ?_ ?_ ?_
      ·refine Zao ?_ ?_ ?_
       ·exact (ZcI hu)
       ·exact Zd 4
       ·exact Zar
      ·refine Zr ?_
       refine Zdp ?_ ?_ ?_
       ·exact Zd 2
       ·refine Zad ?_ ?_ ?_
        ·exact Zac
        ·exact Zd 0
        ·exact Zi
       ·refine Zad ?_ ?_ ?_
        ·exact Zac
        ·exact Zd 0
        ·exact Zi
      ·refine Zr ?_
       refine Zbd ?_ ?_ ?_
       ·refine Zao ?_ ?_ ?_
        ·exact (ZcI hu)
        ·exact Zd 4
        ·exact Zar
       ·refine Zr ?_
        refine Zdp ?_ ?_ ?_
        ·exact Zd 2
        ·refine Zad ?_ ?_ ?_
         ·exact Zac
         ·exact Zd 0
         ·exact Zi
        ·refine Zy ?_ ?_ ?_
         ·exact Zca
         ·refine Zad ?_ ?_ ?_
          ·exact Zac
          ·exact Zd 2
          ·refine Zad ?_ ?_ ?_
           ·exact Zac
           ·exact Zd 0
           ·exact Zi
         ·refine Zad ?_ ?_ ?_
          ·exact Zac
          ·exact Zd 2
          ·refine Zad ?_ ?_ ?_
           ·exact Zac
           ·exact Zd 0
           ·exact Zi
       ·refine Zr ?_
        refine Zbd ?_ ?_ ?_
        ·refine Zao ?_ ?_ ?_
         ·exact (ZcI hu)
         ·exact Zd 4
         ·exact Zar
        ·refine Zr ?_
         refine Zdp ?_ ?_ ?_
         ·exact Zd 2
         ·refine Zad ?_ ?_ ?_
          ·exact Zac
          ·exact Zd 0
          ·exact Zi
         ·refine Zy ?_ ?_ ?_
          ·exact Zig
          ·refine Zad ?_ ?_ ?_
           ·exact Zac
           ·exact Zd 2
           ·refine Zad ?_ ?_ ?_
            ·exact Zac
            ·exact Zd 0
            ·exact Zi
          ·refine Zad ?_ ?_ ?_
           ·exact Zac
           ·exact Zd 2
           ·refine Zad ?_ ?_ ?_
            ·exact Zac
            ·exact Zd 0
            ·exact Zi
        ·refine Zr ?_
         refine Zbd ?_ ?_ ?_
         ·refine Zao ?_ ?_ ?_
          ·exact (ZcI hu)
          ·exact Zd 4
          ·exact Zar
         ·refine Zr ?_
          refine Zdp ?_ ?_ ?_
          ·exact Zd 2
          ·refine Zad ?_ ?_ ?_
           ·exact Zac
           ·exact Zd 0
           ·exact Zi
          ·refine Zdd (T := "int") ?_ ?_ ?_ ?_
           ·exact Zkh
           ·exact T.m_int
           ·exact Zjf
           ·refine Zc ?_ ?_
            ·refine Zid ?_ ?_ ?_
             ·exact ZkJ
             ·refine Zad ?_ ?_ ?_
              ·exact Zac
              ·exact Zd 2
              ·refine Zad ?_ ?_ ?_
               ·exact Zac
               ·exact Zd 0
               ·exact Zi
             ·refine Zad ?_ ?_ ?_
              ·exact Zac
              ·exact Zd 2
              ·refine Zad ?_ ?_ ?_
               ·exact Zac
               ·exact Zd 0
               ·exact Zi
            ·exact Zk
         ·refine Zr ?_
          refine Zbd ?_ ?_ ?_
          ·refine Zao ?_ ?_ ?_
           ·exact (ZcI hu)
           ·exact Zd 4
           ·exact Zar
          ·refine Zr ?_
           refine Zdp ?_ ?_ ?_
           ·exact Zd 2
           ·refine Zad ?_ ?_ ?_
            ·exact Zac
            ·exact Zd 0
            ·exact Zi
           ·refine Zhz ?_ ?_ ?_ ?_
            ·exact hu
            ·exact Zd 3
            ·refine Zad ?_ ?_ ?_
             ·exact Zac
             ·exact Zd 2
             ·refine Zad ?_ ?_ ?_
              ·exact Zac
              ·exact Zd 0
              ·exact Zi
            ·exact Zi
          ·refine Zr ?_
           refine Zbd ?_ ?_ ?_
           ·refine Zao ?_ ?_ ?_
            ·exact (ZcI hu)
            ·exact Zd 4
            ·exact Zar
           ·refine Zr ?_
            refine Zgi ?_ ?_ ?_ ?_
            ·exact hu
            ·exact Zd 3
            ·refine Zad ?_ ?_ ?_
             ·exact Zac
             ·exact Zd 2
             ·refine Zad ?_ ?_ ?_
              ·exact Zac
              ·exact Zd 0
              ·exact Zi
            ·refine Zad ?_ ?_ ?_
             ·exact Zac
             ·exact Zd 2
             ·refine Zad ?_ ?_ ?_
              ·exact Zac
              ·exact Zd 0
              ·exact Zi
           ·refine Zr ?_
            refine Zbd ?_ ?_ ?_
            ·refine CW.ct ?_
             refine Zlr ?_ ?_
             ·refine Zao ?_ ?_ ?_
              ·exact (ZcI hu)
              ·exact Zd 4
              ·exact Zar
             ·refine Zju ?_
              refine CW.ct ?_
              refine Zf1 ?_ ?_
              ·refine Zao ?_ ?_ ?_
               ·exact (ZcI hu)
               ·exact Zd 4
               ·exact Zar
              ·refine Zev ?_
               refine Zao ?_ ?_ ?_
               ·exact ZkJ
               ·refine Zad ?_ ?_ ?_
                ·exact Zac
                ·exact Zd 2
                ·refine Zad ?_ ?_ ?_
                 ·exact Zac
                 ·exact Zd 0
                 ·exact Zi
               ·exact Zi
            ·refine Zr ?_
             refine Zaz ?_
             refine Zad ?_ ?_ ?_
             ·exact Zac
             ·exact Zd 0
             ·refine ZkW ?_ ?_
              ·exact Zik
              ·exact Zi
            ·exact ZaL
     ·refine Zr ?_
      refine Zaz ?_
      refine Zy ?_ ?_ ?_
      ·exact Zca
      ·exact Zd 1
      ·exact Zi
theorem ZaH : ZaE ["roll", "first", "most", "place", "boxes", "cells", "states", "kept"] ["roll", "first", "most"] (Zq Za3) := ⟨rfl, rfl, rfl, by decide +kernel, rfl, by decide +kernel, by decide +kernel⟩
theorem ZeL (A : ZaR K mg "_law_states" Za3 ["roll", "first", "most"]) (T : Txt K mg) (F__law_goes : Fn3 P w K mg base 1 "_law_goes" ["row", "place", "boxes", "cells"] ZaW) : Fn3 P w K mg base 2 "_law_states" ["roll", "first", "most"] Zbp :=
  Fn3.of (N := ["roll", "first", "most", "place", "boxes", "cells", "states", "kept"]) (k := 1) A ZaH fun f cdv A outer s H E hr => by
    have hu := ZdR hr
    unfold Zdv
    refine Zh ?_ ?_
    ·refine Zap 3 ?_ ?_
     ·exact ZaH.nd
     ·exact Zi
    ·refine Zh ?_ ?_
     ·refine Zap 4 ?_ ?_
      ·exact ZaH.nd
      ·refine Zdd (T := "list") ?_ ?_ ?_ ?_
       ·exact ZlJ
       ·exact T.m_list
       ·exact Zk6
       ·refine Zc ?_ ?_
        ·exact Zd 1
        ·exact Zk
     ·refine Zh ?_ ?_
      ·refine Zap 5 ?_ ?_
       ·exact ZaH.nd
       ·exact Zhm
      ·refine Zh ?_ ?_
       ·refine Zap 6 ?_ ?_
        ·exact ZaH.nd
        ·refine Ze6 ?_
         refine Zc ?_ ?_
         ·refine ZbI ?_
          refine Zc ?_ ?_
          ·exact Zi
          ·refine Zc ?_ ?_
           ·refine Zdd (T := "tuple") ?_ ?_ ?_ ?_
            ·exact ZcV
            ·exact T.m_tuple
            ·exact Zcb
            ·refine Zc ?_ ?_
             ·exact Zd 1
             ·exact Zk
           ·refine Zc ?_ ?_
            ·refine ZbI ?_
             exact Zk
            ·exact Zk
         ·exact Zk
       ·refine Zh ?_ ?_
        ·refine Zki ?_ ?_ ?_
         ·exact rfl
         ·refine CW.ct ?_
          refine Zf1 ?_ ?_
          ·refine Zao ?_ ?_ ?_
           ·exact (Zjv hu)
           ·refine Zad ?_ ?_ ?_
            ·exact Zac
            ·refine Zad ?_ ?_ ?_
             ·exact Zac
             ·exact Zd 0
             ·exact Zd 3
            ·exact Zi
           ·exact Zar
          ·refine Zev ?_
           refine Zao ?_ ?_ ?_
           ·exact Zna
           ·refine Zcw (id := "len") ?_ ?_ ?_ ?_
            ·exact Zdz
            ·exact T.m_len
            ·exact Zcy
            ·refine Zc ?_ ?_
             ·exact Zd 6
             ·exact Zk
           ·exact Zd 2
         ·refine Zh ?_ ?_
          ·refine Zap 3 ?_ ?_
           ·exact ZaH.nd
           ·refine Zbl (k := 1) (ps := ["row", "place", "boxes", "cells"]) ?_ ?_ ?_
            ·exact F__law_goes
            ·exact hr.mono (by decide)
            ·refine Zc ?_ ?_
             ·refine Zad ?_ ?_ ?_
              ·exact Zac
              ·exact Zd 0
              ·exact Zd 3
             ·refine Zc ?_ ?_
              ·exact Zd 3
              ·refine Zc ?_ ?_
               ·exact Zd 4
               ·refine Zc ?_ ?_
                ·exact Zd 5
                ·exact Zk
          ·refine Zh ?_ ?_
           ·refine ZiI (N' := ["roll", "first", "most", "place", "boxes", "cells", "states", "kept", "number"]) 7 5 ?_ ?_ ?_ ?_ ?_ (fun C cl s H ex => ⟨?_, ?_, ?_⟩)
            ·exact ZcB rfl (by kernel_rfl)
            ·exact rfl
            ·exact rfl
            ·exact ZaH.nd
            ·exact Zd 5
            ·refine ZcR 8 ?_
             exact (show List.Nodup (["roll", "first", "most", "place", "boxes", "cells", "states", "kept", "number"] : List Str) by decide +kernel)
            ·refine ZfW ?_
             refine Zao ?_ ?_ ?_
             ·exact (Zjv hu)
             ·refine Zf3 ?_ ?_ ?_
              ·exact hu
              ·exact Zd 5
              ·exact Zd 8
             ·exact Zi
            ·refine ZbI ?_
             refine Zc ?_ ?_
             ·exact Zd 8
             ·refine Zc ?_ ?_
              ·refine Zf3 ?_ ?_ ?_
               ·exact hu
               ·exact Zd 5
               ·exact Zd 8
              ·exact Zk
           ·refine Zr ?_
            refine Zf9 ?_
            refine ZcN ?_ ?_
            ·exact Zd 6
            ·refine Zc ?_ ?_
             ·refine ZbI ?_
              refine Zc ?_ ?_
              ·exact Zd 3
              ·refine Zc ?_ ?_
               ·refine Zdd (T := "tuple") ?_ ?_ ?_ ?_
                ·exact ZcV
                ·exact T.m_tuple
                ·exact Zcb
                ·refine Zc ?_ ?_
                 ·exact Zd 4
                 ·exact Zk
               ·refine Zc ?_ ?_
                ·refine Zdd (T := "tuple") ?_ ?_ ?_ ?_
                 ·exact ZcV
                 ·exact T.m_tuple
                 ·exact Zcb
                 ·refine Zc ?_ ?_
                  ·refine Zcw (id := "sorted") ?_ ?_ ?_ ?_
                   ·exact ZdU
                   ·exact T.m_sorted
                   ·exact Zdi
                   ·refine Zc ?_ ?_
                    ·exact Zd 7
                    ·exact Zk
                  ·exact Zk
                ·exact Zk
             ·exact Zk
        ·refine Zr ?_
         refine Zaz ?_
         exact Zd 6
theorem Za5 : ZaE ["uses", "time", "held", "number", "at", "word", "value"] ["uses", "time"] (Zq Zbi) := ⟨rfl, rfl, rfl, by decide +kernel, rfl, by decide +kernel, by decide +kernel⟩
theorem Zff (A : ZaR K mg "_law_cells" Zbi ["uses", "time"]) (T : Txt K mg) : Fn3 P w K mg base 1 "_law_cells" ["uses", "time"] ZbL :=
  Fn3.of (N := ["uses", "time", "held", "number", "at", "word", "value"]) (k := 0) A Za5 fun f cdv A outer s H E hr => by
    have hu := ZdR hr
    unfold ZdX
    refine Zh ?_ ?_
    ·refine Zap 2 ?_ ?_
     ·exact Za5.nd
     ·exact Zhm
    ·refine Zh ?_ ?_
     ·refine Zf4 ?_ ?_ ?_ ?_ ?_
      ·exact rfl
      ·exact rfl
      ·refine ZlW ?_
       exact Zd 0
      ·refine ZhB ?_ ?_
       ·exact rfl
       ·refine Zbu 3 ?_ ?_
        ·exact Za5.nd
        ·refine Zbu 4 ?_ ?_
         ·exact Za5.nd
         ·refine Zbu 5 ?_ ?_
          ·exact Za5.nd
          ·refine Zbu 6 ?_ ?_
           ·exact Za5.nd
           ·exact Zf7
      ·refine Zr ?_
       refine Zbd ?_ ?_ ?_
       ·refine Zao ?_ ?_ ?_
        ·exact Znt
        ·exact Zd 4
        ·exact Zd 1
       ·refine Zr ?_
        refine Zgi ?_ ?_ ?_ ?_
        ·exact hu
        ·exact Zd 2
        ·exact Zd 3
        ·exact Zd 6
       ·exact ZaL
     ·refine Zr ?_
      refine Zaz ?_
      refine Zdd (T := "tuple") ?_ ?_ ?_ ?_
      ·exact ZcV
      ·exact T.m_tuple
      ·exact Zcb
      ·refine Zc ?_ ?_
       ·refine Zcw (id := "sorted") ?_ ?_ ?_ ?_
        ·exact ZdU
        ·exact T.m_sorted
        ·exact Zdi
        ·refine Zc ?_ ?_
         ·refine ZnD (N' := ["uses", "time", "held", ".number", "at", "word", "value", "number"]) 2 ?_ ?_ ?_ ?_ (fun C cl s H ex => ⟨?_, ?_, ?_⟩)
          ·exact ZcB rfl (by kernel_rfl)
          ·exact rfl
          ·exact rfl
          ·exact Zd 2
          ·refine ZcR 7 ?_
           exact (show List.Nodup (["uses", "time", "held", ".number", "at", "word", "value", "number"] : List Str) by decide +kernel)
          ·refine ZfW ?_
           refine Zao ?_ ?_ ?_
           ·exact (Zjv hu)
           ·refine Zf3 ?_ ?_ ?_
            ·exact hu
            ·exact Zd 2
            ·exact Zd 7
           ·exact Zi
          ·refine ZbI ?_
           refine Zc ?_ ?_
           ·exact Zd 7
           ·refine Zc ?_ ?_
            ·refine Zf3 ?_ ?_ ?_
             ·exact hu
             ·exact Zd 2
             ·exact Zd 7
            ·exact Zk
         ·exact Zk
       ·exact Zk
theorem Zcd : ZaE ["script", "roll", "states", "uses", "time", "held", "number", "at", "word", "value", "due"] ["script"] (Zq ZdW) := ⟨rfl, rfl, rfl, by decide +kernel, rfl, by decide +kernel, by decide +kernel⟩
theorem Zlu {f : Addr} {fd : FuncData} (F : Fun K "law" "law" ZdW f fd) (T : Txt K mg) (F_uses_of : Fn3 P w K mg base 3 "uses_of" ["roll", "states"] Zdj) (F__law_roll : Fn3 P w K mg base 3 "_law_roll" ["script"] ZbZ) (F__law_boxes : Fn3 P w K mg base 2 "_law_boxes" ["script"] Zb5) (F__law_states : Fn3 P w K mg base 2 "_law_states" ["roll", "first", "most"] Zbp) (F__law_cells : Fn3 P w K mg base 1 "_law_cells" ["uses", "time"] ZbL) : ZeD P w K mg base CX0 4 f fd ["script"] (sp3 K 1 Zil) :=
  fn3 (N := ["script", "roll", "states", "uses", "time", "held", "number", "at", "word", "value", "due"]) (k := 3) F Zcd fun cdv A outer s H E hr => by
    have hu := ZdR hr
    unfold Zjt
    refine Zh ?_ ?_
    ·refine Zap 1 ?_ ?_
     ·exact Zcd.nd
     ·refine Zbl (k := 3) (ps := ["script"]) ?_ ?_ ?_
      ·exact F__law_roll
      ·exact hr.mono (by decide)
      ·refine Zc ?_ ?_
       ·exact Zd 0
       ·exact Zk
    ·refine Zh ?_ ?_
     ·refine Zap 2 ?_ ?_
      ·exact Zcd.nd
      ·refine Zbl (k := 2) (ps := ["roll", "first", "most"]) ?_ ?_ ?_
       ·exact F__law_states
       ·exact hr.mono (by decide)
       ·refine Zc ?_ ?_
        ·exact Zd 1
        ·refine Zc ?_ ?_
         ·refine Zbl (k := 2) (ps := ["script"]) ?_ ?_ ?_
          ·exact F__law_boxes
          ·exact hr.mono (by decide)
          ·refine Zc ?_ ?_
           ·exact Zd 0
           ·exact Zk
         ·refine Zc ?_ ?_
          ·exact Zi
          ·exact Zk
     ·refine Zh ?_ ?_
      ·refine Zap 3 ?_ ?_
       ·exact Zcd.nd
       ·refine Zbl (k := 3) (ps := ["roll", "states"]) ?_ ?_ ?_
        ·exact F_uses_of
        ·exact hr.mono (by decide)
        ·refine Zc ?_ ?_
         ·exact Zd 1
         ·refine Zc ?_ ?_
          ·exact Zd 2
          ·exact Zk
      ·refine Zh ?_ ?_
       ·refine Zf4 ?_ ?_ ?_ ?_ ?_
        ·exact rfl
        ·exact rfl
        ·refine Zdh ?_ ?_
         ·exact T.m_range
         ·refine Zcw (id := "len") ?_ ?_ ?_ ?_
          ·exact Zdz
          ·exact T.m_len
          ·exact Zcy
          ·refine Zc ?_ ?_
           ·exact Zd 2
           ·exact Zk
        ·refine ZcR 4 ?_
         exact Zcd.nd
        ·refine Zr ?_
         refine Zbd ?_ ?_ ?_
         ·refine Zao ?_ ?_ ?_
          ·exact (Zjv hu)
          ·refine Zbl (k := 1) (ps := ["uses", "time"]) ?_ ?_ ?_
           ·exact F__law_cells
           ·exact hr.mono (by decide)
           ·refine Zc ?_ ?_
            ·exact Zd 3
            ·refine Zc ?_ ?_
             ·exact Zd 4
             ·exact Zk
          ·refine Zad ?_ ?_ ?_
           ·exact Zac
           ·refine Zad ?_ ?_ ?_
            ·exact Zac
            ·exact Zd 2
            ·exact Zd 4
           ·exact Zi
         ·refine Zr ?_
          refine Zaz ?_
          exact Zm6
         ·exact ZaL
       ·refine Zh ?_ ?_
        ·refine Zap 5 ?_ ?_
         ·exact Zcd.nd
         ·exact Zhm
        ·refine Zh ?_ ?_
         ·refine Zf4 ?_ ?_ ?_ ?_ ?_
          ·exact rfl
          ·exact rfl
          ·refine ZlW ?_
           exact Zd 3
          ·refine ZhB ?_ ?_
           ·exact rfl
           ·refine Zbu 6 ?_ ?_
            ·exact Zcd.nd
            ·refine Zbu 7 ?_ ?_
             ·exact Zcd.nd
             ·refine Zbu 8 ?_ ?_
              ·exact Zcd.nd
              ·refine Zbu 9 ?_ ?_
               ·exact Zcd.nd
               ·exact Zf7
          ·refine Zh ?_ ?_
           ·refine Zbd ?_ ?_ ?_
            ·refine CW.ct ?_
             refine Zf1 ?_ ?_
             ·refine Zao ?_ ?_ ?_
              ·exact (ZcI hu)
              ·exact Zd 8
              ·exact Zar
             ·refine Zev ?_
              refine Zao ?_ ?_ ?_
              ·exact (Zjv hu)
              ·exact Zd 9
              ·refine Zhz ?_ ?_ ?_ ?_
               ·exact hu
               ·exact Zd 5
               ·exact Zd 6
               ·exact Zi
            ·refine Zr ?_
             refine Zaz ?_
             exact Zm6
            ·exact ZaL
           ·refine Zr ?_
            refine Zgi ?_ ?_ ?_ ?_
            ·exact hu
            ·exact Zd 5
            ·exact Zd 6
            ·exact Zd 9
         ·refine Zh ?_ ?_
          ·refine Ze7 (N' := ["script", "roll", "states", "uses", ".time", "held", "number", "at", "word", "value", "due", "time"]) 10 ?_ ?_ ?_ ?_ ?_ (fun C cl s H ex => ⟨?_, ?_, ?_⟩)
           ·exact ZcB rfl (by kernel_rfl)
           ·exact rfl
           ·exact rfl
           ·exact Zcd.nd
           ·refine Zdh ?_ ?_
            ·exact T.m_range
            ·refine Zy ?_ ?_ ?_
             ·exact Zig
             ·refine Zcw (id := "len") ?_ ?_ ?_ ?_
              ·exact Zdz
              ·exact T.m_len
              ·exact Zcy
              ·refine Zc ?_ ?_
               ·exact Zd 2
               ·exact Zk
             ·exact Zi
           ·refine ZcR 11 ?_
            exact (show List.Nodup (["script", "roll", "states", "uses", ".time", "held", "number", "at", "word", "value", "due", "time"] : List Str) by decide +kernel)
           ·refine ZfW ?_
            refine Zao ?_ ?_ ?_
            ·exact (ZlM hu)
            ·refine Zad ?_ ?_ ?_
             ·exact Zac
             ·refine Zad ?_ ?_ ?_
              ·exact Zac
              ·exact Zd 1
              ·refine Zad ?_ ?_ ?_
               ·exact Zac
               ·refine Zad ?_ ?_ ?_
                ·exact Zac
                ·exact Zd 2
                ·exact Zd 11
               ·exact Zi
             ·exact Zi
            ·refine ZbI ?_
             refine Zc ?_ ?_
             ·exact Zar
             ·refine Zc ?_ ?_
              ·exact Zar
              ·exact Zk
           ·exact Zd 11
          ·refine Zr ?_
           refine Zaz ?_
           refine Zid ?_ ?_ ?_
           ·exact (ZcI hu)
           ·refine Zcw (id := "sorted") ?_ ?_ ?_ ?_
            ·exact ZdU
            ·exact T.m_sorted
            ·exact Zdi
            ·refine Zc ?_ ?_
             ·refine Znj (N' := ["script", "roll", "states", "uses", "time", "held", "number", "at", "word", "value", "due", "row"]) ?_ ?_ ?_ ?_ (fun C cl s H ex => ⟨?_, ?_, ?_⟩)
              ·exact ZcB rfl (by kernel_rfl)
              ·exact rfl
              ·exact rfl
              ·refine ZlW ?_
               exact Zd 3
              ·refine ZcR 11 ?_
               exact (show List.Nodup (["script", "roll", "states", "uses", "time", "held", "number", "at", "word", "value", "due", "row"] : List Str) by decide +kernel)
              ·exact Zis
              ·refine Zad ?_ ?_ ?_
               ·exact Zac
               ·exact Zd 11
               ·exact Zi
             ·exact Zk
           ·exact Zd 10
end
end Law
set_option maxHeartbeats 200000
namespace Law
open L3
theorem ZgZ (n d : Nat) : sIx n d none = d := rfl
theorem Zia (n d k : Nat) : sIx n d (some (k : Int)) = min k n := by
 have h : ¬ ((k : Int) < 0) := by omega
 simp only [sIx, if_neg h, Int.toNat_natCast]
theorem ZlP {α : Type} (w : List α) (k : Nat) : cutD w none (some (k : Int)) = w.take k := by
 unfold cutD
 rw [Zia, ZgZ]
 by_cases h : k ≤ w.length
 ·rw [Nat.min_eq_left h]; simp
 ·rw [Nat.min_eq_right (by omega), Nat.sub_zero, List.drop_zero, List.take_of_length_le (Nat.le_refl _), List.take_of_length_le (by omega)]
theorem Zh8 (n : Nat) (bs : List Int) : below n (Zaw bs) = true := by
 unfold Zaw below
 induction bs with
 | nil => rfl
 | cons b bs ih => simp only [List.map_cons, belowL, below, ih, Bool.and_self]
theorem ZgD (n : Nat) (cs : List (Int × Int)) : below n (ZaA cs) = true := by
 unfold ZaA below
 induction cs with
 | nil => rfl
 | cons b bs ih => simp only [List.map_cons, belowL, ih, Zz, below, Bool.and_self]
theorem Zm4 {bs : List Int} (h : bs.length = 8) {a : Nat} (ha : a < 8) : bs[a]? = some (bs.getD a 0) := by
 rw [List.getD_eq_getElem?_getD, List.getElem?_eq_getElem (by omega)]; rfl
theorem Zgn {bs : List Int} (h : bs.length = 8) {a : Nat} (ha : a < 8) : ∃ x, bs.getD a 0 = x ∧ Zby (bs.map D.int) (a : Int) = some (.int x) := ⟨bs.getD a 0, rfl, by rw [ZeV, List.getElem?_map, Zm4 h ha]; rfl⟩
theorem Zfu {i j : Int} (h : -(2 ^ 64) < i ∧ i < 2 ^ 64) : ZaI i j = true := by
 unfold ZaI; rw [Bool.or_eq_true]; left; simp only [Bool.and_eq_true, decide_eq_true_eq]; exact h
theorem ZfT (x : Int) (m : Nat) (h : 0 < m) : ∃ a : Nat, x % (m : Int) = a ∧ a < m := by
 have h1 := Int.emod_nonneg x (b := (m : Int)) (by omega)
 have h2 := Int.emod_lt_of_pos x (b := (m : Int)) (by omega)
 exact ⟨(x % (m : Int)).toNat, (Int.toNat_of_nonneg h1).symm, by omega⟩
theorem Zkg {M : Store} {n : Nat} {o : MO} (h : M[n]? = some o) : M.set n o = M := by
 apply List.ext_getElem?
 intro j
 by_cases hj : j = n
 ·subst hj; rw [List.getElem?_set_self (List.getElem?_eq_some_iff.mp h).1, h]
 ·rw [List.getElem?_set_ne (Ne.symm hj)]
theorem ZeZ {i : Nat} {env : Zal} {t : List (Int × Int)} {n own : Nat} {M : Store} {c elt : E3} (hi : env[i]? = some (some (.ref n))) (hM : M[n]? = some (.dct (Zaa t))) (hz : t.length ≤ 100000)
  (hc : ∀ p ∈ t, ∀ M, ZbN M[n]? = some (Zaa t) → c ((env ++ List.replicate own none).set env.length (some (.int p.1))) M = .ok (.bl (decide (p.2 ≠ 0))) M)
  (he : ∀ p ∈ t, ∀ M, ZbN M[n]? = some (Zaa t) → elt ((env ++ List.replicate own none).set env.length (some (.int p.1))) M = .ok (Zz p) M) :
  Zgf (Zb i) own (Zck env.length) [c] elt env M = .ok (.ref M.length) (M ++ [.lst ((t.filter fun p => decide (p.2 ≠ 0)).map Zz)]) := by
 have hlt := (List.getElem?_eq_some_iff.mp hM).1
 have e0 : Zb i env M = .ok (.ref n) M := by simp only [Zb, hi]
 have ek : ((Zaa t).map fun q => keyV q.1) = t.map fun p => D.int p.1 := by
  simp [Zaa, keyV, Function.comp_def]
 have rd : ∀ x, ZbN ((M.set n (.fdct (Zaa t)) ++ [MO.lst []]).set M.length (MO.lst x))[n]? = some (Zaa t) := fun x => by
  rw [List.getElem?_set_ne (by omega), List.getElem?_append_left (by simpa using hlt), List.getElem?_set_self hlt]; rfl
 have lp := ZdK (α := Int × Int) (enc := fun p => D.int p.1) (h := Zz) (p := fun p => decide (p.2 ≠ 0)) (it := ⟨(Zaa t).map fun q => keyV q.1, none⟩) (i := env.length) (n := M.length) (c := c) (elt := elt) (env0 := env ++ List.replicate own none) t [] (env ++ List.replicate own none) (M.set n (.fdct (Zaa t)) ++ [.lst []]) (fun _ => rfl)
  (fun p hp x => hc p hp _ (rd x)) (fun p hp _ x => he p hp _ (rd x)) (fun _ => rfl) (by rw [List.getElem?_append_right (by simp)]; simp) (by simp; omega)
 unfold Zgf
 rw [e0]
 simp only [R3.bind, hM]
 rw [show (List.map (fun q => keyV q.fst) (Zaa t)) = t.map (fun p => D.int p.1) from ek] at lp ⊢
 rw [lp]
 have e1 : (M.set n (.fdct (Zaa t)) ++ [MO.lst []]).set M.length (MO.lst ([] ++ (t.filter fun p => decide (p.2 ≠ 0)).map Zz)) = M.set n (.fdct (Zaa t)) ++ [MO.lst ((t.filter fun p => decide (p.2 ≠ 0)).map Zz)] := by
  rw [List.set_append_right _ _ (by simp)]; simp
 rw [e1]
 have e2 : (M.set n (.fdct (Zaa t)) ++ [MO.lst ((t.filter fun p => decide (p.2 ≠ 0)).map Zz)])[n]? = some (.fdct (Zaa t)) := by
  rw [List.getElem?_append_left (by simpa using hlt), List.getElem?_set_self hlt]
 simp only [e2]
 rw [List.set_append_left _ _ (by simpa using hlt), List.set_set, Zkg hM]
theorem Zeu {n : Nat} {t : List (Int × Int)} (hk : keysOk t) {p : Int × Int} (hp : p ∈ t) {M : Store} (h : ZbN M[n]? = some (Zaa t)) : ZaY (.ref n) (.int p.1) M = .ok (.int p.2) M := by
 have hv : Zbt (Zaa t) (.inl p.1) = some (.int p.2) := by
  rw [ZgI, if_pos (List.any_eq_true.mpr ⟨p, hp, by simp⟩), Zbs hk (k := p.1) (v := p.2) hp]
 simp only [ZaY, h, Zdu, hv]
theorem Zg3 {t : List (Int × Int)} (h : t.length < 64) : (t.filter fun p => decide (p.2 ≠ 0)).length < 64 := Nat.lt_of_le_of_lt (List.length_filter_le _ _) h
theorem ZeN {e : E3} {env : Zal} {M M1 : Store} {t : List (Int × Int)} {n : Nat} (hk : keysOk t) (hl : t.length < 64) (h : e env M = .ok (.ref n) M1) (hn : M1[n]? = some (.lst ((t.filter fun p => decide (p.2 ≠ 0)).map Zz))) :
  Zan ZaB (Za e Ze) env M = .ok (.ref M1.length) (M1 ++ [.lst ((Zak t).map Zz)]) := by
 refine ZeS h ?_
 simp only [ZaB, hn]
 rw [if_pos (Zf2 (Zg3 hl)), ZdY (ZhI (ZcX t) (Zbw hk))]
 rfl
theorem ZhM (c k : Int) (h0 : 0 ≤ k) (h1 : k ≤ 5000) : ∃ v : Int, ∀ M, Zau [.int c, .int k] M = .ok (.int v) M := by
 by_cases h : c ≤ -1000000
 ·exact ⟨c, fun M => by simp [Zau, Zb7, Zu, Zae, Zah, sIf, Zv, Zav, mkF, Zbn, below, belowL, ZaI, h]⟩
 ·by_cases h' : (1000000 : Int) ≤ c
  ·exact ⟨c, fun M => by simp [Zau, Zb7, Zu, Zae, Zah, sIf, Zv, Zav, mkF, Zbn, below, belowL, ZaI, h, h']⟩
  ·have m1 : ZaI 31 c = true := Zfu (by omega)
   have m2 : ZaI k k = true := Zfu (by omega)
   have m3 : ZaI 17 k = true := Zfu (by omega)
   have m4 : ∀ x, ZaI (c + 1000003) x = true := fun x => Zfu (by omega)
   have q := Int.emod_nonneg ((c + 1000003) * (31 * c + k * k + 17 * k + 2000033)) (b := 2147483629) (by omega)
   have q' := Int.emod_lt_of_pos ((c + 1000003) * (31 * c + k * k + 17 * k + 2000033)) (b := 2147483629) (by omega)
   generalize hn : (c + 1000003) * (31 * c + k * k + 17 * k + 2000033) % 2147483629 = n at q q'
   have m5 : ZaI n n = true := Zfu (by omega)
   exact ⟨n * n + n / 7, fun M => by simp [Zau, Zb7, Zu, Zae, Zah, sIf, Zv, Zav, mkF, Zbn, below, belowL, h, h', m1, m2, m3, m4, hn, m5]⟩
theorem ZfD (c : Int) : ∃ v : Int, ∀ M, Zaf [.int c] M = .ok (.int v) M := by
 by_cases h : c % 3 < 2
 ·exact ⟨_, fun M => by simp [Zaf, Zbq, Zu, Zae, Zah, sIf, Zv, Zav, mkF, Zbn, below, belowL, ZaI, h]; rfl⟩
 ·by_cases h' : c / 3 % 2 = 0
  ·exact ⟨_, fun M => by simp [Zaf, Zbq, Zu, Zae, Zah, sIf, Zv, Zav, mkF, Zbn, below, belowL, ZaI, h, h']; rfl⟩
  ·exact ⟨_, fun M => by simp [Zaf, Zbq, Zu, Zae, Zah, sIf, Zv, Zav, mkF, Zbn, below, belowL, ZaI, h, h']; rfl⟩
theorem Zh1 {α : Type} {enc : α → D} {P : D → α → Prop} {it : It3} {i n : Nat} {elt : E3} {env0 env : Zal} {ds acc : List D} {M : Store} (he : ∀ d, env.set i (some d) = env0.set i (some d))
  (hf : ∀ d ∈ ds, ∃ a, P d a ∧ ∀ x, elt (env0.set i (some d)) (M.set n (.lst x)) = .ok (enc a) (M.set n (.lst x))) (hl : ∀ x, locked it (M.set n (.lst x)) = true) (hM : M[n]? = some (.lst acc)) (hz : acc.length + ds.length ≤ SZ) :
  ∃ as : List α, as.length = ds.length ∧ (∀ (j : Nat) d a, ds[j]? = some d → as[j]? = some a → P d a) ∧ ZbO it (Zck i) [] elt n ds env M = .ok (.ref n) (M.set n (.lst (acc ++ as.map enc))) := by
 obtain ⟨es, le, re, h⟩ := ZgE (it := it) (i := i) (n := n) (elt := elt) (R := fun d e => ∃ a, e = enc a ∧ P d a) (env0 := env0) ds acc env M he (fun d hd x => by
  obtain ⟨a, pa, ha⟩ := hf d hd
  exact ⟨enc a, ha _, a, rfl, pa⟩) hl hM hz
 obtain ⟨as, rfl, ps⟩ := Zgv (enc := enc) (P := fun j a => ∀ d, ds[j]? = some d → P d a) es fun j e hj => by
  have hlt : j < ds.length := by rw [← le]; exact (List.getElem?_eq_some_iff.mp hj).1
  obtain ⟨a, ea, pa⟩ := re j ds[j] e (by simp [hlt]) hj
  refine ⟨a, ea, fun d hd => ?_⟩
  rw [List.getElem?_eq_getElem hlt] at hd
  cases hd
  exact pa
 exact ⟨as, by simpa using le, fun j d a hd ha => ps j a ha d hd, h⟩
theorem ZhE (n : Nat) (r : Za9) : below n (Zn r) = true := by
 unfold Zn below
 induction r with
 | nil => rfl
 | cons x r ih =>
  simp only [List.map_cons, belowL, ih, Bool.and_true]
  cases x <;> rfl
theorem ZjU {M M' : Store} {d : D} (h : M'.length = M.length) : Zbn M d M' = .ok d M' := by
 unfold Zbn
 rw [List.take_of_length_le (by omega)]
 split <;> rfl
noncomputable def ZjH : S3 := (Zu (sIf (e2 Zba (Zb 5) (eC (.str [112, 117, 116]))) (Zah (ZaU (Za (Zb 5) (Za (Zb 6) (Za (Zam Zaf (Za (e2 ZaO (Zb 3) (eC (.int 8))) (Ze))) (Ze)))))) (Zv)) (Zu (sIf (e2 ZgU (Zb 5) (ZaU (Za (eC (.str [97, 100, 100])) (Za (eC (.str [115, 117, 98])) (Za (eC (.str [109, 111, 114, 101])) (Ze)))))) (Zah (ZaU (Za (Zb 5) (Za (Zb 6) (Za (Zb 7) (Za (Zb 8) (Ze))))))) (Zv)) (Zu (sIf (e2 Zba (Zb 5) (eC (.str [106, 117, 109, 112]))) (Zah (ZaU (Za (Zb 5) (Za (Zb 9) (Ze))))) (Zv)) (Zu (sIf (e2 Zba (Zb 5) (eC (.str [119, 104, 101, 110]))) (Zah (ZaU (Za (Zb 5) (Za (Zb 6) (Za (Zb 9) (Ze)))))) (Zv)) (Zah (e2 Zg (Zgk (Za (ZaU (Za (Zb 5) (Za (Zb 6) (Za (Zb 7) (Ze))))) (Za (ZaU (Za (Zb 5) (Za (Zb 6) (Ze)))) (Ze)))) (Zan Zg7 (Za (e2 Zba (Zb 5) (eC (.str [116, 101, 108, 108]))) (Ze)))))))))
theorem Zjp (cell A m p v : Int) (a b d q many : Nat) (kd : List Nat) (hv : ∀ M, Zaf [.int (p / 8)] M = .ok (.int v) M) (la : a < 8) (lb : b < 8) (ld : d < 8) (lq : q < many) (hk : kd = [112, 117, 116] ∨ kd = [97, 100, 100] ∨ kd = [115, 117, 98] ∨ kd = [109, 111, 114, 101] ∨ kd = [103, 101, 116] ∨ kd = [115, 101, 116] ∨ kd = [106, 117, 109, 112] ∨ kd = [119, 104, 101, 110] ∨ kd = [116, 101, 108, 108]) :
  ∃ r : Row, r.ok many ∧ ∀ (x4 : Option D) (M : Store), ∃ G, ZjH [some (.int cell), some (.int A), some (.int m), some (.int p), x4, some (.str kd), some (.int a), some (.int b), some (.int d), some (.int q)] M = .rt (Zj r) (M ++ G) := by
 unfold ZjH
 rcases hk with h | h | h | h | h | h | h | h | h <;> subst h
 ·exact ⟨.put a v, la, fun x4 M => ⟨[], by simp [Zu, sIf, Zah, Zv, Zas, deq, Zj, hv]⟩⟩
 ·exact ⟨.add a b d, ⟨la, lb, ld⟩, fun x4 M => ⟨[], by simp [Zu, sIf, Zah, Zv, Zas, deq, Zj, hv]⟩⟩
 ·exact ⟨.sub a b d, ⟨la, lb, ld⟩, fun x4 M => ⟨[], by simp [Zu, sIf, Zah, Zv, Zas, deq, Zj, hv]⟩⟩
 ·exact ⟨.more a b d, ⟨la, lb, ld⟩, fun x4 M => ⟨[], by simp [Zu, sIf, Zah, Zv, Zas, deq, Zj, hv]⟩⟩
 ·exact ⟨.get a b, ⟨la, lb⟩, fun x4 M => ⟨[.lst [.tup [.str [103, 101, 116], .int a, .int b], .tup [.str [103, 101, 116], .int a]]], by simp [Zu, sIf, Zah, Zv, Zas, deq, Zj, hv]⟩⟩
 ·exact ⟨.set a b, ⟨la, lb⟩, fun x4 M => ⟨[.lst [.tup [.str [115, 101, 116], .int a, .int b], .tup [.str [115, 101, 116], .int a]]], by simp [Zu, sIf, Zah, Zv, Zas, deq, Zj, hv]⟩⟩
 ·exact ⟨.jump q, lq, fun x4 M => ⟨[], by simp [Zu, sIf, Zah, Zv, Zas, deq, Zj, hv]⟩⟩
 ·exact ⟨.when a q, ⟨la, lq⟩, fun x4 M => ⟨[], by simp [Zu, sIf, Zah, Zv, Zas, deq, Zj, hv]⟩⟩
 ·exact ⟨.tell a, la, fun x4 M => ⟨[.lst [.tup [.str [116, 101, 108, 108], .int a, .int b], .tup [.str [116, 101, 108, 108], .int a]]], by simp [Zu, sIf, Zah, Zv, Zas, deq, Zj, hv]⟩⟩
theorem ZkO (cell c A m : Int) (many : Nat) (hmix : ∀ M, Zau [.int cell, .int A] M = .ok (.int c) M) (h0 : 0 ≤ A) (h1 : A < m) (hm : m = many) : ∃ r : Row, r.ok (many + 1) ∧ ∀ M, ZaX [.int cell, .int A, .int m] M = .ok (Zj r) M := by
 obtain ⟨a, ha, la⟩ : ∃ a : Nat, c / 16 % 8 = a ∧ a < 8 := ⟨(c / 16 % 8).toNat, by omega, by omega⟩
 obtain ⟨b, hb, lb⟩ : ∃ a : Nat, c / 16 / 8 % 8 = a ∧ a < 8 := ⟨(c / 16 / 8 % 8).toNat, by omega, by omega⟩
 obtain ⟨d, hd, ld⟩ : ∃ a : Nat, c / 16 / 64 % 8 = a ∧ a < 8 := ⟨(c / 16 / 64 % 8).toNat, by omega, by omega⟩
 obtain ⟨v, hv⟩ := ZfD (c / 16 / 8)
 have p1 : 0 < m - A := by omega
 have p2 : 0 < m + 1 := by omega
 have b1 := Int.emod_nonneg (c / 16 / 32) (b := m - A) (by omega)
 have b2 := Int.emod_lt_of_pos (c / 16 / 32) p1
 have b3 := Int.emod_nonneg (c / 16 / 32) (b := m + 1) (by omega)
 have b4 := Int.emod_lt_of_pos (c / 16 / 32) p2
 obtain ⟨q, hq, lq⟩ : ∃ q : Nat, (if c / 16 / 8 % 4 = 0 then c / 16 / 32 % (m + 1) else A + 1 + c / 16 / 32 % (m - A)) = (q : Int) ∧ q < many + 1 := by
  split
  ·exact ⟨(c / 16 / 32 % (m + 1)).toNat, by omega, by omega⟩
  ·exact ⟨(A + 1 + c / 16 / 32 % (m - A)).toNat, by omega, by omega⟩
 clear b1 b2 b3 b4 hm
 obtain ⟨kd, hkd, hk⟩ : ∃ kd : List Nat, Zby ([D.str [112, 117, 116], D.str [112, 117, 116], D.str [97, 100, 100], D.str [115, 117, 98], D.str [109, 111, 114, 101], D.str [103, 101, 116], D.str [103, 101, 116], D.str [103, 101, 116], D.str [115, 101, 116], D.str [115, 101, 116], D.str [115, 101, 116], D.str [115, 101, 116], D.str [106, 117, 109, 112], D.str [119, 104, 101, 110], D.str [119, 104, 101, 110], D.str [116, 101, 108, 108]]) (c % 16) = some (D.str kd) ∧ (kd = [112, 117, 116] ∨ kd = [97, 100, 100] ∨ kd = [115, 117, 98] ∨ kd = [109, 111, 114, 101] ∨ kd = [103, 101, 116] ∨ kd = [115, 101, 116] ∨ kd = [106, 117, 109, 112] ∨ kd = [119, 104, 101, 110] ∨ kd = [116, 101, 108, 108]) := by
  have h : c % 16 = 0 ∨ c % 16 = 1 ∨ c % 16 = 2 ∨ c % 16 = 3 ∨ c % 16 = 4 ∨ c % 16 = 5 ∨ c % 16 = 6 ∨ c % 16 = 7 ∨ c % 16 = 8 ∨ c % 16 = 9 ∨ c % 16 = 10 ∨ c % 16 = 11 ∨ c % 16 = 12 ∨ c % 16 = 13 ∨ c % 16 = 14 ∨ c % 16 = 15 := by omega
  rcases h with h | h | h | h | h | h | h | h | h | h | h | h | h | h | h | h <;> rw [h] <;> exact ⟨_, rfl, by decide⟩
 have head : ∀ M, ZcT [some (.int cell), some (.int A), some (.int m), none, none, none, none, none, none, none] M = (Zu (sIf (e2 Zba (e2 ZaK (Zb 3) (eC (.int 41))) (eC (.int 7))) (Zah (ZaU (Za (eC (.str [104, 97, 108, 116])) (Ze)))) (Zv)) (Zu (Zae 6 (e2 ZaK (Zb 3) (eC (.int 8)))) (Zu (Zae 7 (e2 ZaK (e2 ZaO (Zb 3) (eC (.int 8))) (eC (.int 8)))) (Zu (Zae 8 (e2 ZaK (e2 ZaO (Zb 3) (eC (.int 64))) (eC (.int 8)))) (Zu (Zae 9 (e2 Za1 (e2 Za1 (Zb 1) (eC (.int 1))) (e2 ZaK (e2 ZaO (Zb 3) (eC (.int 32))) (e2 Zeg (Zb 2) (Zb 1))))) (Zu (sIf (e2 Zba (e2 ZaK (e2 ZaO (Zb 3) (eC (.int 8))) (eC (.int 4))) (eC (.int 0))) (Zae 9 (e2 ZaK (e2 ZaO (Zb 3) (eC (.int 32))) (e2 Za1 (Zb 2) (eC (.int 1))))) (Zv)) ZjH)))))) [some (.int cell), some (.int A), some (.int m), some (.int (c / 16)), some (.ref M.length), some (.str kd), none, none, none, none] (M ++ [.lst [D.str [112, 117, 116], D.str [112, 117, 116], D.str [97, 100, 100], D.str [115, 117, 98], D.str [109, 111, 114, 101], D.str [103, 101, 116], D.str [103, 101, 116], D.str [103, 101, 116], D.str [115, 101, 116], D.str [115, 101, 116], D.str [115, 101, 116], D.str [115, 101, 116]], .lst [D.str [106, 117, 109, 112], D.str [119, 104, 101, 110], D.str [119, 104, 101, 110], D.str [116, 101, 108, 108]], .lst ([D.str [112, 117, 116], D.str [112, 117, 116], D.str [97, 100, 100], D.str [115, 117, 98], D.str [109, 111, 114, 101], D.str [103, 101, 116], D.str [103, 101, 116], D.str [103, 101, 116], D.str [115, 101, 116], D.str [115, 101, 116], D.str [115, 101, 116], D.str [115, 101, 116], D.str [106, 117, 109, 112], D.str [119, 104, 101, 110], D.str [119, 104, 101, 110], D.str [116, 101, 108, 108]])]) := fun M => by
  unfold ZcT
  rw [Zw (Zai (M' := M) (d := .int c) (by simp [hmix]))]
  rw [Zw (Zai (M' := M ++ [.lst [D.str [112, 117, 116], D.str [112, 117, 116], D.str [97, 100, 100], D.str [115, 117, 98], D.str [109, 111, 114, 101], D.str [103, 101, 116], D.str [103, 101, 116], D.str [103, 101, 116], D.str [115, 101, 116], D.str [115, 101, 116], D.str [115, 101, 116], D.str [115, 101, 116]]]) (d := .ref M.length) (by simp))]
  rw [Zw (Zai (M' := M ++ [.lst [D.str [112, 117, 116], D.str [112, 117, 116], D.str [97, 100, 100], D.str [115, 117, 98], D.str [109, 111, 114, 101], D.str [103, 101, 116], D.str [103, 101, 116], D.str [103, 101, 116], D.str [115, 101, 116], D.str [115, 101, 116], D.str [115, 101, 116], D.str [115, 101, 116]], .lst [D.str [106, 117, 109, 112], D.str [119, 104, 101, 110], D.str [119, 104, 101, 110], D.str [116, 101, 108, 108]], .lst ([D.str [112, 117, 116], D.str [112, 117, 116], D.str [97, 100, 100], D.str [115, 117, 98], D.str [109, 111, 114, 101], D.str [103, 101, 116], D.str [103, 101, 116], D.str [103, 101, 116], D.str [115, 101, 116], D.str [115, 101, 116], D.str [115, 101, 116], D.str [115, 101, 116], D.str [106, 117, 109, 112], D.str [119, 104, 101, 110], D.str [119, 104, 101, 110], D.str [116, 101, 108, 108]])]) (d := .str kd) (by simp [hkd]))]
  rw [Zw (Zai (M' := M ++ [.lst [D.str [112, 117, 116], D.str [112, 117, 116], D.str [97, 100, 100], D.str [115, 117, 98], D.str [109, 111, 114, 101], D.str [103, 101, 116], D.str [103, 101, 116], D.str [103, 101, 116], D.str [115, 101, 116], D.str [115, 101, 116], D.str [115, 101, 116], D.str [115, 101, 116]], .lst [D.str [106, 117, 109, 112], D.str [119, 104, 101, 110], D.str [119, 104, 101, 110], D.str [116, 101, 108, 108]], .lst ([D.str [112, 117, 116], D.str [112, 117, 116], D.str [97, 100, 100], D.str [115, 117, 98], D.str [109, 111, 114, 101], D.str [103, 101, 116], D.str [103, 101, 116], D.str [103, 101, 116], D.str [115, 101, 116], D.str [115, 101, 116], D.str [115, 101, 116], D.str [115, 101, 116], D.str [106, 117, 109, 112], D.str [119, 104, 101, 110], D.str [119, 104, 101, 110], D.str [116, 101, 108, 108]])]) (d := .int (c / 16)) (by simp))]
  rfl
 by_cases hh : c / 16 % 41 = 7
 ·refine ⟨.halt, trivial, fun M => ?_⟩
  exact (Zee (M' := M ++ [.lst [D.str [112, 117, 116], D.str [112, 117, 116], D.str [97, 100, 100], D.str [115, 117, 98], D.str [109, 111, 114, 101], D.str [103, 101, 116], D.str [103, 101, 116], D.str [103, 101, 116], D.str [115, 101, 116], D.str [115, 101, 116], D.str [115, 101, 116], D.str [115, 101, 116]], .lst [D.str [106, 117, 109, 112], D.str [119, 104, 101, 110], D.str [119, 104, 101, 110], D.str [116, 101, 108, 108]], .lst ([D.str [112, 117, 116], D.str [112, 117, 116], D.str [97, 100, 100], D.str [115, 117, 98], D.str [109, 111, 114, 101], D.str [103, 101, 116], D.str [103, 101, 116], D.str [103, 101, 116], D.str [115, 101, 116], D.str [115, 101, 116], D.str [115, 101, 116], D.str [115, 101, 116], D.str [106, 117, 109, 112], D.str [119, 104, 101, 110], D.str [119, 104, 101, 110], D.str [116, 101, 108, 108]])]) (d := Zj .halt) ((head M).trans (by simp [Zu, sIf, Zah, hh, Zj]))).trans (Ze0 rfl)
 ·obtain ⟨r, ok, hr⟩ := Zjp cell A m (c / 16) v a b d q (many + 1) kd hv la lb ld lq hk
  refine ⟨r, ok, fun M => ?_⟩
  obtain ⟨M3, hM3⟩ : ∃ M3 : Store, M3 = [.lst [D.str [112, 117, 116], D.str [112, 117, 116], D.str [97, 100, 100], D.str [115, 117, 98], D.str [109, 111, 114, 101], D.str [103, 101, 116], D.str [103, 101, 116], D.str [103, 101, 116], D.str [115, 101, 116], D.str [115, 101, 116], D.str [115, 101, 116], D.str [115, 101, 116]], .lst [D.str [106, 117, 109, 112], D.str [119, 104, 101, 110], D.str [119, 104, 101, 110], D.str [116, 101, 108, 108]], .lst ([D.str [112, 117, 116], D.str [112, 117, 116], D.str [97, 100, 100], D.str [115, 117, 98], D.str [109, 111, 114, 101], D.str [103, 101, 116], D.str [103, 101, 116], D.str [103, 101, 116], D.str [115, 101, 116], D.str [115, 101, 116], D.str [115, 101, 116], D.str [115, 101, 116], D.str [106, 117, 109, 112], D.str [119, 104, 101, 110], D.str [119, 104, 101, 110], D.str [116, 101, 108, 108]])] := ⟨_, rfl⟩
  have hd' := head M
  rw [← hM3] at hd'
  obtain ⟨G, hG⟩ := hr (some (.ref M.length)) (M ++ M3)
  refine (Zee (M' := M ++ (M3 ++ G)) (d := Zj r) (hd'.trans ?_)).trans (Ze0 (by cases r <;> rfl))
  rw [Zw (ZbF (M' := M ++ M3) (by simp [hh]))]
  rw [Zw (Zai (M' := M ++ M3) (d := .int a) (by simp [ha]))]
  rw [Zw (Zai (M' := M ++ M3) (d := .int b) (by simp [hb]))]
  rw [Zw (Zai (M' := M ++ M3) (d := .int d) (by simp [hd]))]
  rw [Zw (Zai (M' := M ++ M3) (d := .int (A + 1 + c / 16 / 32 % (m - A))) (by simp [h1]))]
  rw [← List.append_assoc, ← hG]
  refine Zw ?_
  by_cases z : c / 16 / 8 % 4 = 0
  ·rw [if_pos z] at hq
   rw [Zir (M' := M ++ M3) (by simp [z])]
   exact Zai (d := .int q) (by simp [p2, hq])
  ·rw [if_neg z] at hq
   rw [ZbF (M' := M ++ M3) (by simp [z]), hq]
theorem ZlH (cell : Int) (j many : Nat) (hat : j < many) (hm : many ≤ 64) : ∃ r : Row, r.ok (many + 1) ∧ ∀ M, ZaX [.int cell, .int j, .int many] M = .ok (Zj r) M := by
 obtain ⟨c, hc⟩ := ZhM cell j (by omega) (by omega)
 exact ZkO cell c j many many hc (by omega) (by omega) rfl
theorem Zk7 (ns : List Int) (M : Store) : ∃ roll : Za9, roll.length ≤ 61 ∧ ZcU roll ∧ ZbZ [.scr (ns.map D.int)] M = .ok (Zn roll) M := by
 have ecs : cutD (ns.map D.int) none (some 60) = (ns.take 60).map D.int := by
  have := ZlP (ns.map D.int) 60
  rw [← List.map_take] at this
  exact this
 generalize hcs : ns.take 60 = cs at ecs
 have lcs : cs.length ≤ 60 := by rw [← hcs]; simp; omega
 obtain ⟨rows, lr, hr, h4⟩ := Zh1 (α := Row) (enc := Zj) (P := fun _ r => r.ok (cs.length + 1)) (it := ⟨Zb8 0 cs.length, none⟩) (i := 5) (n := M.length + 1) (elt := (Zam ZaX (Za (e2 Zg (Zb 1) (Zb 5)) (Za (Zb 5) (Za (Zan Zbr (Za (Zb 1) (Ze))) (Ze))))))
  (env0 := [some (.scr (ns.map D.int)), some (.ref M.length), none, none, none, none]) (env := [some (.scr (ns.map D.int)), some (.ref M.length), none, none, none, none]) (ds := Zb8 0 cs.length) (acc := []) (M := M ++ [.lst (cs.map D.int), .lst []]) (fun _ => rfl)
  (fun d hd => by
   obtain ⟨j, hj⟩ := List.getElem?_of_mem hd
   obtain ⟨rfl, lj⟩ := ZeP hj
   obtain ⟨r, ok, h⟩ := ZlH cs[j] j cs.length lj (by omega)
   exact ⟨r, ok, fun x => by
    have hM2 : ((M ++ [MO.lst (cs.map D.int), MO.lst []]).set (M.length + 1) (.lst x))[M.length]? = some (.lst (cs.map D.int)) := by
     rw [ZdJ]; simp
    generalize (M ++ [MO.lst (cs.map D.int), MO.lst []]).set (M.length + 1) (.lst x) = M2 at hM2
    have e1 : (e2 Zg (Zb 1) (Zb 5)) [some (.scr (ns.map D.int)), some (.ref M.length), none, none, none, some (.int (j : Int))] M2 = .ok (.int cs[j]) M2 := by simp [lj, hM2]
    have e2 : (Zan Zbr (Za (Zb 1) (Ze))) [some (.scr (ns.map D.int)), some (.ref M.length), none, none, none, some (.int (j : Int))] M2 = .ok (.int (cs.length : Int)) M2 := by simp [hM2]
    show Zam ZaX _ [some (.scr (ns.map D.int)), some (.ref M.length), none, none, none, some (.int (j : Int))] M2 = _
    exact ZhO e1 rfl e2 (h M2)⟩)
  (fun x => rfl) (by rw [ZbW]; rfl) (by simp [ZfV]; omega)
 have lrows : rows.length = cs.length := by rw [ZfV] at lr; exact lr
 have hrows : ∀ x ∈ rows, x.ok (cs.length + 1) := fun x hx => by
  obtain ⟨j, hj⟩ := List.getElem?_of_mem hx
  have : j < (Zb8 0 cs.length).length := by rw [← lr]; exact (List.getElem?_eq_some_iff.mp hj).1
  exact hr j (Zb8 0 cs.length)[j] x (by simp [this]) hj
 have s1 : (eSl (Zb 0) (ZeA) (ZeY (eC (.int 60)))) [some (.scr (ns.map D.int)), none, none, none, none] M = .ok (.ref M.length) (M ++ [.lst (cs.map D.int)]) := by simp [ecs]
 have s2 : (eLC (ZbV (Zan Zbr (Za (Zb 1) (Ze)))) 1 (Zck 5) [] (Zam ZaX (Za (e2 Zg (Zb 1) (Zb 5)) (Za (Zb 5) (Za (Zan Zbr (Za (Zb 1) (Ze))) (Ze)))))) [some (.scr (ns.map D.int)), some (.ref M.length), none, none, none] (M ++ [.lst (cs.map D.int)]) = .ok (.ref (M.length + 1)) (M ++ [.lst (cs.map D.int), .lst (rows.map Zj)]) := by
  rw [Zh6 (it := ⟨Zb8 0 cs.length, none⟩) (M' := M ++ [.lst (cs.map D.int)]) (by
   have : ((cs.length : Int)) ≤ 1000000 ∧ -1000000 ≤ (cs.length : Int) := by omega
   simp [this])]
  have e : (M ++ [MO.lst (cs.map D.int)]).length = M.length + 1 := by simp
  rw [e, List.append_assoc]
  refine Eq.trans h4 ?_
  rw [ZdJ]; rfl
 have fin : ∀ (rows' : List Row) (last : Row), rows'.length = cs.length → (∀ x ∈ rows', x.ok (cs.length + 1)) → last.ok (cs.length + 1) → (last = .halt ∨ ∃ k, last = .jump k) → (∃ G, Zb1 [some (.scr (ns.map D.int)), none, none, none, none] M = .rt (Zn (rows' ++ [last])) (M ++ G)) →
   ∃ roll : Za9, roll.length ≤ 61 ∧ ZcU roll ∧ ZbZ [.scr (ns.map D.int)] M = .ok (Zn roll) M := fun rows' last l' ro lo ll ⟨G, h⟩ => by
  refine ⟨rows' ++ [last], by simp [l']; omega, ⟨fun x hx => ?_, rows', last, rfl, ll⟩, Rt.pure h (ZhE _ _)⟩
  rw [List.length_append, List.length_singleton, l']
  rcases List.mem_append.mp hx with hx | hx
  ·exact ro x hx
  ·rw [List.mem_singleton.mp hx]; exact lo
 have pre : ∀ {k : S3}, Zb1 = Zu (Zae 1 (eSl (Zb 0) (ZeA) (ZeY (eC (.int 60))))) (Zu (Zae 2 (eLC (ZbV (Zan Zbr (Za (Zb 1) (Ze)))) 1 (Zck 5) [] (Zam ZaX (Za (e2 Zg (Zb 1) (Zb 5)) (Za (Zb 5) (Za (Zan Zbr (Za (Zb 1) (Ze))) (Ze))))))) k) →
   Zb1 [some (.scr (ns.map D.int)), none, none, none, none] M = k [some (.scr (ns.map D.int)), some (.ref M.length), some (.ref (M.length + 1)), none, none] (M ++ [.lst (cs.map D.int), .lst (rows.map Zj)]) := fun {k} e => by
  rw [e, Zw (Zai s1), Zw (Zai s2)]
 have pre' := pre rfl
 rw [pre'] at fin
 clear pre pre' s1 s2 h4
 have g0 : (M ++ [MO.lst (cs.map D.int), .lst (rows.map Zj)])[M.length]? = some (.lst (cs.map D.int)) := ZaM _ _ _
 have g1 : (M ++ [MO.lst (cs.map D.int), .lst (rows.map Zj)])[M.length + 1]? = some (.lst (rows.map Zj)) := ZbW _ _ 1
 by_cases hq : ∃ p0 : 0 < cs.length, cs[0] % 4 = 1
 ·obtain ⟨p0, q1⟩ := hq
  obtain ⟨n, hn⟩ := ZhM cs[0] 61 (by omega) (by omega)
  obtain ⟨a, ha, la⟩ := ZfT n cs.length p0
  obtain ⟨k, hk, lk⟩ := ZfT (n / 64) (cs.length + 1) (by omega)
  have hk' : n / 64 % ((cs.length : Int) + 1) = k := by rw [← hk]; rfl
  refine fin (rows.set a .halt) (.jump k) (by simp [lrows]) (fun x hx => ?_) lk (.inr ⟨k, rfl⟩) ⟨[.lst (cs.map D.int), .lst ((rows.set a .halt).map Zj), .lst [Zj (.jump k)], .lst ((rows.set a .halt ++ [Row.jump k]).map Zj)], ?_⟩
  ·rcases List.mem_or_eq_of_mem_set hx with h | h
   ·exact hrows x h
   ·rw [h]; trivial
  ·have p0' : (0 : Int) < cs.length := by omega
   have p1' : (0 : Int) < (cs.length : Int) + 1 := by omega
   have z : cs.length + 1 ≤ 1000000 := by omega
   simp [Zu, Zae, Zah, sIf, Zv, Zav, Zcv, g0, g1, p0', p1', q1, hn, lrows, ha, la, hk', z, Zj, Zn, List.map_set, p0]
 ·have c1 : (ZdC (e2 ZhL (Zan Zbr (Za (Zb 1) (Ze))) (eC (.int 0))) (e2 Zba (e2 ZaK (e2 Zg (Zb 1) (eC (.int 0))) (eC (.int 4))) (eC (.int 1)))) [some (.scr (ns.map D.int)), some (.ref M.length), some (.ref (M.length + 1)), some (Zj .halt), none] (M ++ [.lst (cs.map D.int), .lst (rows.map Zj)]) = .ok (.bl false) (M ++ [.lst (cs.map D.int), .lst (rows.map Zj)]) := by
   by_cases p0 : 0 < cs.length
   ·have p0' : (0 : Int) < cs.length := by omega
    have q1 : ¬ cs[0] % 4 = 1 := fun h => hq ⟨p0, h⟩
    simp [g0, p0', p0, q1]
   ·have p0' : ¬ (0 : Int) < cs.length := by omega
    simp [g0, p0', p0]
  refine fin rows .halt lrows hrows trivial (.inl rfl) ⟨[.lst (cs.map D.int), .lst (rows.map Zj), .lst [Zj .halt], .lst ((rows ++ [Row.halt]).map Zj)], ?_⟩
  refine (Zw (Zai (d := Zj .halt) (M' := M ++ [.lst (cs.map D.int), .lst (rows.map Zj)]) (by simp [Zj]))).trans ((Zw (ZbF c1)).trans ?_)
  have z : cs.length + 1 ≤ 1000000 := by omega
  simp [Zah, g1, lrows, z, Zj, Zn]
def Zb2 (r : Row) (bs : List Int) (t : List (Int × Int)) : List (Int × Int) := match r with
 | .set a b => ZcJ t (bs.getD a 0) (bs.getD b 0)
 | _ => t
theorem set_same {M : Store} {n : Nat} {o : MO} (h : M[n]? = some o) : M.set n o = M := by
 apply List.ext_getElem?
 intro j
 by_cases hj : j = n
 ·subst hj; rw [List.getElem?_set_self (List.getElem?_eq_some_iff.mp h).1, h]
 ·rw [List.getElem?_set_ne (Ne.symm hj)]
theorem Zkc (r : Row) (p nb nt : Nat) (bs : List Int) (t : List (Int × Int)) (M : Store) (many : Nat) (g0 : M[nb]? = some (.lst (bs.map D.int))) (g1 : M[nt]? = some (.dct (Zaa t))) (hne : nb ≠ nt) (hb : bs.length = 8) (hr : r.ok many) (hl : t.length < 100000) :
  ZaW [Zj r, .int p, .ref nb, .ref nt] M = .ok (.int (r.place bs p)) ((M.set nb (.lst ((r.boxes bs t).map D.int))).set nt (.dct (Zaa (Zb2 r bs t)))) := by
 have rdx : ∀ {b : Nat}, b < 8 → ∃ x, bs[b]?.getD 0 = x ∧ Zby (bs.map D.int) (b : Int) = some (.int x) := fun hb' => by
  obtain ⟨x, h, g⟩ := Zgn hb hb'
  exact ⟨x, by rw [← h]; simp, g⟩
 have z : (Zaa t).length < 1000000 := by simp [Zaa]; omega
 have fin : ∀ {d : D} {M' : Store}, Zaj [some (Zj r), some (.int (p : Int)), some (.ref nb), some (.ref nt), none] M = .rt d M' → M'.length = M.length →
   ZaW [Zj r, .int p, .ref nb, .ref nt] M = .ok d M' := fun {d M'} h hl => (Zee h).trans (ZjU hl)
 have sb : M.set nb (.lst (bs.map D.int)) = M := set_same g0
 have st : M.set nt (.dct (Zaa t)) = M := set_same g1
 have sx : ∀ x, (M.set nb x).set nt (.dct (Zaa t)) = M.set nb x := fun x => set_same (by rw [List.getElem?_set_ne hne]; exact g1)
 cases r with
 | put a n => exact fin (by simp [Zaj, Zu, Zae, Zah, sIf, Zv, Zav, mkF, Zbn, below, belowL, ZaI, Zcv, Zj, g0, g1, hb, show a < 8 from hr, Row.boxes, Row.place, Zb2, List.map_set, sx]) (by simp)
 | add a b c =>
  obtain ⟨x, hx, gx⟩ := rdx hr.2.1; obtain ⟨y, hy, gy⟩ := rdx hr.2.2
  exact fin (by simp [Zaj, Zu, Zae, Zah, sIf, Zv, Zav, mkF, Zbn, below, belowL, ZaI, Zcv, Zj, g0, g1, hb, hr.1, Row.boxes, Row.place, Zb2, List.map_set, -Za4, gx, gy, hx, hy, sx]) (by simp)
 | sub a b c =>
  obtain ⟨x, hx, gx⟩ := rdx hr.2.1; obtain ⟨y, hy, gy⟩ := rdx hr.2.2
  exact fin (by simp [Zaj, Zu, Zae, Zah, sIf, Zv, Zav, mkF, Zbn, below, belowL, ZaI, Zcv, Zj, g0, g1, hb, hr.1, Row.boxes, Row.place, Zb2, List.map_set, -Za4, gx, gy, hx, hy, sx]) (by simp)
 | more a b c =>
  obtain ⟨x, hx, gx⟩ := rdx hr.2.1; obtain ⟨y, hy, gy⟩ := rdx hr.2.2
  by_cases q : y < x
  ·exact fin (by simp [Zaj, Zu, Zae, Zah, sIf, Zv, Zav, mkF, Zbn, below, belowL, ZaI, Zcv, Zj, g0, g1, hb, hr.1, Row.boxes, Row.place, Zb2, List.map_set, -Za4, gx, gy, hx, hy, q, sx]) (by simp)
  ·exact fin (by simp [Zaj, Zu, Zae, Zah, sIf, Zv, Zav, mkF, Zbn, below, belowL, ZaI, Zcv, Zj, g0, g1, hb, hr.1, Row.boxes, Row.place, Zb2, List.map_set, -Za4, gx, gy, hx, hy, q, sx]) (by simp)
 | get a b =>
  obtain ⟨x, hx, gx⟩ := rdx hr.2
  have hv := Zda t x
  exact fin (by simp [Zaj, Zu, Zae, Zah, sIf, Zv, Zav, mkF, Zbn, below, belowL, ZaI, Zcv, Zj, g0, g1, hb, hr.1, Row.boxes, Row.place, Zb2, List.map_set, -Za4, gx, hx, hv, Zd1, Zd9, sx]) (by simp)
 | set a b =>
  obtain ⟨x, hx, gx⟩ := rdx hr.1; obtain ⟨y, hy, gy⟩ := rdx hr.2
  exact fin (by simp [Zaj, Zu, Zae, Zah, sIf, Zv, Zav, mkF, Zbn, below, belowL, ZaI, Zei, Zj, g0, g1, hb, Row.boxes, Row.place, Zb2, -Za4, gx, gy, hx, hy, z, ZdV, sb]) (by simp)
 | jump k => exact fin (by simp [Zaj, Zu, Zae, Zah, sIf, Zv, Zav, mkF, Zbn, below, belowL, ZaI, Zj, Row.boxes, Row.place, Zb2, sb, st]) (by simp)
 | when a k =>
  obtain ⟨x, hx, gx⟩ := rdx hr.1
  by_cases q : 0 < x
  ·exact fin (by simp [Zaj, Zu, Zae, Zah, sIf, Zv, Zav, mkF, Zbn, below, belowL, ZaI, Zj, g0, Row.boxes, Row.place, Zb2, -Za4, gx, hx, q, sb, st]) (by simp)
  ·exact fin (by simp [Zaj, Zu, Zae, Zah, sIf, Zv, Zav, mkF, Zbn, below, belowL, ZaI, Zj, g0, Row.boxes, Row.place, Zb2, -Za4, gx, hx, q, sb, st]) (by simp)
 | tell a => exact fin (by simp [Zaj, Zu, Zae, Zah, sIf, Zv, Zav, mkF, Zbn, below, belowL, ZaI, Zj, Row.boxes, Row.place, Zb2, sb, st]) (by simp)
 | halt => exact fin (by simp [Zaj, Zu, Zae, Zah, sIf, Zv, Zav, mkF, Zbn, below, belowL, ZaI, Zj, Row.boxes, Row.place, Zb2, sb, st]) (by simp)
theorem Zjh (ns : List Int) (M : Store) : ∃ bs : List Int, bs.length = 8 ∧ Zb5 [.scr (ns.map D.int)] M = .ok (Zaw bs) M := by
 obtain ⟨e', M', hl, bs, x, y, lb, rfl, rfl⟩ := ZdL (it := ⟨Zb8 0 8, none⟩) (g := Zck 2)
  (body := (Zu (Zae 3 (eC (.int 0))) (Zu (sIf (e2 ZhL (Zan Zbr (Za (Zb 0) (Ze))) (eC (.int 0))) (Zae 3 (e2 Zg (Zb 0) (e2 ZaK (e2 Za1 (e2 Zdf (eC (.int 5)) (Zb 2)) (eC (.int 3))) (Zan Zbr (Za (Zb 0) (Ze)))))) (Zv)) (Zav (Zcq tyL Zbv (Zb 1) (Za (Zam Zaf (Za (Zam Zau (Za (Zb 3) (Za (e2 Za1 (eC (.int 100)) (Zb 2)) (Ze)))) (Ze))) (Ze)))))))
  (P := fun j env M' => ∃ (bs : List Int) (x y : Option D), bs.length = j ∧ env = [some (.scr (ns.map D.int)), some (.ref M.length), x, y] ∧ M' = M ++ [.lst (bs.map D.int)])
  (Zb8 0 8) 0 [some (.scr (ns.map D.int)), some (.ref M.length), none, none] (M ++ [.lst []]) ⟨[], none, none, rfl, rfl, rfl⟩ (fun _ _ _ _ => rfl)
  (fun k d hd env M' ⟨bs, x, y, lb, he, hm⟩ => by
   obtain ⟨rfl, lk⟩ := ZeP hd
   subst he hm
   have key : ∀ c : Int, ∃ e' M', Zav (Zcq tyL Zbv (Zb 1) (Za (Zam Zaf (Za (Zam Zau (Za (Zb 3) (Za (e2 Za1 (eC (.int 100)) (Zb 2)) (Ze)))) (Ze))) (Ze))) [some (.scr (ns.map D.int)), some (.ref M.length), some (.int (k : Int)), some (.int c)] (M ++ [.lst (bs.map D.int)]) = .nx e' M' ∧
     ∃ (bs : List Int) (x y : Option D), bs.length = 0 + k + 1 ∧ e' = [some (.scr (ns.map D.int)), some (.ref M.length), x, y] ∧ M' = M ++ [.lst (bs.map D.int)] := fun c => by
    obtain ⟨v, hv⟩ := ZhM c (100 + k) (by omega) (by omega)
    obtain ⟨w, hw⟩ := ZfD v
    refine ⟨_, M ++ [.lst ((bs ++ [w]).map D.int)], Zde (d := .non) ?_, bs ++ [w], _, _, by simp [lb], rfl, rfl⟩
    have : (bs.length : Nat) < 1000000 := by omega
    simp [hv, hw, this]
   have m5 : ZaI 5 (k : Int) = true := Zfu (by omega)
   by_cases p0 : 0 < ns.length
   ·obtain ⟨a, ha, la⟩ := ZfT (5 * (k : Int) + 3) ns.length p0
    obtain ⟨e', M', h, hP⟩ := key ns[a]
    refine ⟨_, e', M', rfl, ?_, hP⟩
    rw [← h]
    simp [Zu, Zae, sIf, p0, m5, ha, la]
   ·obtain ⟨e', M', h, hP⟩ := key 0
    refine ⟨_, e', M', rfl, ?_, hP⟩
    rw [← h]
    simp [Zu, Zae, sIf, p0, Zv])
 rw [ZfV] at lb
 refine ⟨bs, lb, Rt.pure (env := [some (.scr (ns.map D.int)), none, none, none]) (G := [.lst (bs.map D.int)]) ?_ (Zh8 _ _)⟩
 refine (Zw (Zai (d := .ref M.length) (M' := M ++ [.lst []]) (by simp))).trans ((Zw ((Zgo (it := ⟨Zb8 0 8, none⟩) (M' := M ++ [.lst []]) (by simp)).trans hl)).trans (Zcs ?_))
 simp [Zaw]
theorem ZkS (r : Row) (p : Nat) (bs : List Int) (t : List (Int × Int)) (A G : Store) (many : Nat) (hb : bs.length = 8) (hr : r.ok many) (hl : t.length < 100000) :
  ZaW [Zj r, .int p, .ref A.length, .ref (A.length + 1)] (A ++ .lst (bs.map D.int) :: .dct (Zaa t) :: G) = .ok (.int (r.place bs p)) (A ++ .lst ((r.boxes bs t).map D.int) :: .dct (Zaa (Zb2 r bs t)) :: G) := by
 rw [Zkc r p A.length (A.length + 1) bs t _ many (ZaM _ _ _) (ZbW _ _ 1) (by omega) hb hr hl]
 rw [show (A ++ MO.lst (bs.map D.int) :: .dct (Zaa t) :: G).set A.length (.lst ((r.boxes bs t).map D.int)) = A ++ .lst ((r.boxes bs t).map D.int) :: .dct (Zaa t) :: G from ZdJ A _ 0 _, ZdJ A _ 1 _]
 rfl
theorem ZgA {r : Row} {bs : List Int} {t : List (Int × Int)} (hk : keysOk t) : r.boxes bs (Zak t) = r.boxes bs t := by cases r <;> simp [Row.boxes, ZfH hk]
theorem Zgu {r : Row} {bs : List Int} {t : List (Int × Int)} (hk : keysOk t) : r.cells bs (Zak t) = Zak (Zb2 r bs t) := by
 cases r <;> simp only [Row.cells, Zb2]
 rw [ZiG hk]
theorem ZjW {r : Row} {bs : List Int} {t : List (Int × Int)} (hk : keysOk t) : keysOk (Zb2 r bs t) := by
 cases r <;> simp only [Zb2] <;> first | exact hk | exact Zdq _ _ hk
theorem ZgF (t : List (Int × Int)) (n v : Int) : (ZcJ t n v).length ≤ t.length + 1 := by
 unfold ZcJ; split <;> simp
theorem ZkY (r : Row) (bs : List Int) (t : List (Int × Int)) : (Zb2 r bs t).length ≤ t.length + 1 := by
 cases r <;> simp only [Zb2] <;> first | omega | exact ZgF _ _ _
def Ze1 : Row → List Nat
 | .put .. => [112, 117, 116] | .add .. => [97, 100, 100] | .sub .. => [115, 117, 98] | .more .. => [109, 111, 114, 101] | .get .. => [103, 101, 116] | .set .. => [115, 101, 116] | .jump .. => [106, 117, 109, 112] | .when .. => [119, 104, 101, 110] | .tell .. => [116, 101, 108, 108] | .halt => [104, 97, 108, 116]
theorem ZeX (r : Row) (M : Store) : Zg (Zj r) (.int 0) M = .ok (.str (Ze1 r)) M := by cases r <;> simp [Zj, Ze1]
theorem ZiR (r : Row) : r.isHalt = decide ((Ze1 r) = [104, 97, 108, 116]) := by cases r <;> rfl
theorem Zjz {c : E3} {body : S3} {n : Nat} {env e : Zal} {M M1 M' : Store} (h : c env M = .ok (.bl true) M1) (h' : body env M1 = .nx e M') : Zcx c body (n + 1) env M = Zcx c body n e M' := by
 show (match c env M with | .ok (.bl true) M1 => _ | .ok (.bl false) M1 => _ | .exc x M1 => _ | _ => _) = _
 rw [h]; simp only [h']
theorem ZeH {c : E3} {body : S3} {n : Nat} {env : Zal} {M M1 : Store} (h : c env M = .ok (.bl false) M1) : Zcx c body (n + 1) env M = .nx env M1 := by
 show (match c env M with | .ok (.bl true) M1 => _ | .ok (.bl false) M1 => _ | .exc x M1 => _ | _ => _) = _
 rw [h]
theorem ZgC (r : Row) : ∃ nm, (r.isHalt = decide (nm = [104, 97, 108, 116])) ∧ ∀ M, Zg (Zj r) (.int 0) M = .ok (.str nm) M := ⟨_, ZiR r, ZeX r⟩
theorem ZgX (roll : Za9) (R : ZcU roll) (d1 : D) (most : Nat) (A : Store) (hm : most ≤ 2001) (J : Nat → Stt → List (Int × Int) → Prop) (hJ : ∀ k s t, J k s t → t.length < 64)
  (hS : ∀ k s t r, J k s t → roll[s.place]? = some r → r.isHalt = false → k < most → J (k + 1) ⟨r.place s.boxes s.place, r.boxes s.boxes t, Zak (Zb2 r s.boxes t)⟩ (Zb2 r s.boxes t)) :
  ∀ (k : Nat) (pre : List Stt) (s : Stt) (t : List (Int × Int)) (fuel : Nat) (G : Store) (y : Option D), pre.length + k = most → k < fuel → Good roll s → keysOk t → s.cells = Zak t → J pre.length s t →
  ∃ (p' : Nat) (bs' : List Int) (t' : List (Int × Int)) (G' : Store) (y' : Option D), Zcx (ZdC (e2 Zc9 (e2 Zg (e2 Zg (Zb 0) (Zb 3)) (eC (.int 0))) (eC (.str [104, 97, 108, 116]))) (e2 ZhQ (Zan Zbr (Za (Zb 6) (Ze))) (Zb 2))) (Zu (Zae 3 (Zam ZaW (Za (e2 Zg (Zb 0) (Zb 3)) (Za (Zb 3) (Za (Zb 4) (Za (Zb 5) (Ze))))))) (Zu (Zae 7 (Zgf (Zb 5) 1 (Zck 8) [e2 Zc9 (e2 ZaY (Zb 5) (Zb 8)) (eC (.int 0))] (ZaU (Za (Zb 8) (Za (e2 ZaY (Zb 5) (Zb 8)) (Ze)))))) (Zav (Zcq tyL Zbv (Zb 6) (Za (ZaU (Za (Zb 3) (Za (Zan ZaD (Za (Zb 4) (Ze))) (Za (Zan ZaD (Za (Zan ZaB (Za (Zb 7) (Ze))) (Ze))) (Ze))))) (Ze)))))) fuel
   [some (Zn roll), some d1, some (.int (most : Int)), some (.int (s.place : Int)), some (.ref A.length), some (.ref (A.length + 1)), some (.ref (A.length + 2)), y] (A ++ .lst (s.boxes.map D.int) :: .dct (Zaa t) :: .lst ((pre ++ [s]).map Zf) :: G) =
   .nx [some (Zn roll), some d1, some (.int (most : Int)), some (.int (p' : Int)), some (.ref A.length), some (.ref (A.length + 1)), some (.ref (A.length + 2)), y'] (A ++ .lst (bs'.map D.int) :: .dct (Zaa t') :: .lst ((pre ++ ZbD roll k s).map Zf) :: G') := by
 intro k
 induction k with
 | zero =>
  intro pre s t fuel G y hk hf g kt es hj
  cases fuel with
  | zero => omega
  | succ fuel =>
   refine ⟨s.place, s.boxes, t, G, y, ?_⟩
   have gp := g.pl
   have hr : roll[s.place]? = some roll[s.place] := by simp [g.pl]
   obtain ⟨nm, hn, hi⟩ := ZgC roll[s.place]
   generalize hM : A ++ MO.lst (s.boxes.map D.int) :: .dct (Zaa t) :: .lst ((pre ++ [s]).map Zf) :: G = M
   have g2 : M[A.length + 2]? = some (.lst ((pre ++ [s]).map Zf)) := by rw [← hM]; exact ZbW _ _ 2
   have c0 : (e2 Zg (e2 Zg (Zb 0) (Zb 3)) (eC (.int 0))) [some (Zn roll), some d1, some (.int (most : Int)), some (.int (s.place : Int)), some (.ref A.length), some (.ref (A.length + 1)), some (.ref (A.length + 2)), y] M = .ok (.str nm) M := by
    refine ZbE (a := Zj roll[s.place]) (M1 := M) ?_ rfl (hi M)
    simp [Zn, hr]
   by_cases hq : nm = [104, 97, 108, 116]
   ·rw [ZeH (ZhW (M1 := M) (ZbE c0 rfl (by simp [hq])))]; exact congrArg _ hM.symm
   ·have c2 : (e2 ZhQ (Zan Zbr (Za (Zb 6) (Ze))) (Zb 2)) [some (Zn roll), some d1, some (.int (most : Int)), some (.int (s.place : Int)), some (.ref A.length), some (.ref (A.length + 1)), some (.ref (A.length + 2)), y] M = .ok (.bl false) M := by
     have : ¬ ((pre.length : Int) + 1 ≤ (most : Int)) := by omega
     simp [g2, this]
    rw [ZeH ((ZhV (M1 := M) (ZbE c0 rfl (by simp [hq]))).trans c2)]; exact congrArg _ hM.symm
 | succ k ih =>
  intro pre s t fuel G y hk hf g kt es hj
  cases fuel with
  | zero => omega
  | succ fuel =>
   have gp := g.pl
   have hr : roll[s.place]? = some roll[s.place] := by simp [g.pl]
   have ro := R.rows _ (List.getElem_mem g.pl)
   obtain ⟨nm, hn, hi⟩ := ZgC roll[s.place]
   generalize hrr : roll[s.place] = r at hr ro hn hi
   have tl := hJ _ _ _ hj
   generalize hM : A ++ MO.lst (s.boxes.map D.int) :: .dct (Zaa t) :: .lst ((pre ++ [s]).map Zf) :: G = M
   have g2 : M[A.length + 2]? = some (.lst ((pre ++ [s]).map Zf)) := by rw [← hM]; exact ZbW _ _ 2
   have ci : ∀ M, (e2 Zg (Zb 0) (Zb 3)) [some (Zn roll), some d1, some (.int (most : Int)), some (.int (s.place : Int)), some (.ref A.length), some (.ref (A.length + 1)), some (.ref (A.length + 2)), y] M = .ok (Zj r) M := fun M => by simp [Zn, hr]
   have c0 : (e2 Zg (e2 Zg (Zb 0) (Zb 3)) (eC (.int 0))) [some (Zn roll), some d1, some (.int (most : Int)), some (.int (s.place : Int)), some (.ref A.length), some (.ref (A.length + 1)), some (.ref (A.length + 2)), y] M = .ok (.str nm) M := ZbE (ci M) rfl (hi M)
   by_cases hq : nm = [104, 97, 108, 116]
   ·refine ⟨s.place, s.boxes, t, G, y, ?_⟩
    rw [ZeH (ZhW (M1 := M) (ZbE c0 rfl (by simp [hq])))]
    have : Zct roll s = none := by simp [Zct, hr, Zfm, hn, hq]
    rw [ZiN k this, hM]
   ·have c2 : (e2 ZhQ (Zan Zbr (Za (Zb 6) (Ze))) (Zb 2)) [some (Zn roll), some d1, some (.int (most : Int)), some (.int (s.place : Int)), some (.ref A.length), some (.ref (A.length + 1)), some (.ref (A.length + 2)), y] M = .ok (.bl true) M := by
     have : ((pre.length : Int) + 1 ≤ (most : Int)) := by omega
     simp [g2, this]
    have cc : (ZdC (e2 Zc9 (e2 Zg (e2 Zg (Zb 0) (Zb 3)) (eC (.int 0))) (eC (.str [104, 97, 108, 116]))) (e2 ZhQ (Zan Zbr (Za (Zb 6) (Ze))) (Zb 2))) [some (Zn roll), some d1, some (.int (most : Int)), some (.int (s.place : Int)), some (.ref A.length), some (.ref (A.length + 1)), some (.ref (A.length + 2)), y] M = .ok (.bl true) M := (ZhV (M1 := M) (ZbE c0 rfl (by simp [hq]))).trans c2
    have nh : r.isHalt = false := by rw [hn]; simp [hq]
    have st : Zct roll s = some ⟨r.place s.boxes s.place, r.boxes s.boxes t, Zak (Zb2 r s.boxes t)⟩ := by
     simp only [Zct, hr, Option.bind_some, Zfm, nh, es, ZgA kt, Zgu kt]; rfl
    have j' := hS _ _ _ r hj hr nh (by omega)
    have kt' := ZjW (r := r) (bs := s.boxes) kt
    have tl' := hJ _ _ _ j'
    have go := ZkS r s.place s.boxes t A (.lst ((pre ++ [s]).map Zf) :: G) roll.length g.bx ro (by omega)
    rw [hM] at go
    have gd := (Zd8 R g st).1
    generalize r.place s.boxes s.place = p2 at *
    generalize r.boxes s.boxes t = bs2 at *
    generalize Zb2 r s.boxes t = t2 at *
    generalize hM2 : A ++ MO.lst (bs2.map D.int) :: .dct (Zaa t2) :: .lst ((pre ++ [s]).map Zf) :: G = M2 at go
    have k0 : M2[A.length]? = some (.lst (bs2.map D.int)) := by rw [← hM2]; exact ZaM _ _ _
    have k1 : M2[A.length + 1]? = some (.dct (Zaa t2)) := by rw [← hM2]; exact ZbW _ _ 1
    have k2 : M2[A.length + 2]? = some (.lst ((pre ++ [s]).map Zf)) := by rw [← hM2]; exact ZbW _ _ 2
    have b1 : (Zam ZaW (Za (e2 Zg (Zb 0) (Zb 3)) (Za (Zb 3) (Za (Zb 4) (Za (Zb 5) (Ze)))))) [some (Zn roll), some d1, some (.int (most : Int)), some (.int (s.place : Int)), some (.ref A.length), some (.ref (A.length + 1)), some (.ref (A.length + 2)), y] M = .ok (.int (p2 : Int)) M2 :=
     ZlV (ci M) rfl rfl rfl go
    have b2 := ZeZ (i := 5) (env := [some (Zn roll), some d1, some (.int (most : Int)), some (.int (p2 : Int)), some (.ref A.length), some (.ref (A.length + 1)), some (.ref (A.length + 2)), y]) (t := t2) (n := A.length + 1) (own := 1) (M := M2) (c := e2 Zc9 (e2 ZaY (Zb 5) (Zb 8)) (eC (.int 0))) (elt := ZaU (Za (Zb 8) (Za (e2 ZaY (Zb 5) (Zb 8)) (Ze)))) rfl k1 (by omega)
     (fun p hp M hM => by
      have := Zeu kt' hp hM
      have e : (e2 ZaY (Zb 5) (Zb 8)) ([some (Zn roll), some d1, some (.int (most : Int)), some (.int (p2 : Int)), some (.ref A.length), some (.ref (A.length + 1)), some (.ref (A.length + 2)), y, some (.int p.1)]) M = .ok (.int p.2) M := ZbE rfl rfl this
      exact (ZbE e rfl (by simp)))
     (fun p hp M hM => by
      have := Zeu kt' hp hM
      have e : (e2 ZaY (Zb 5) (Zb 8)) ([some (Zn roll), some d1, some (.int (most : Int)), some (.int (p2 : Int)), some (.ref A.length), some (.ref (A.length + 1)), some (.ref (A.length + 2)), y, some (.int p.1)]) M = .ok (.int p.2) M := ZbE rfl rfl this
      generalize (e2 ZaY (Zb 5) (Zb 8)) = E at e
      show ZaU (Za (Zb 8) (Za E Ze)) [some (Zn roll), some d1, some (.int (most : Int)), some (.int (p2 : Int)), some (.ref A.length), some (.ref (A.length + 1)), some (.ref (A.length + 2)), y, some (.int p.1)] M = _
      simp [e, Zz])
    have g9 : (M2 ++ [MO.lst ((t2.filter fun p => decide (p.2 ≠ 0)).map Zz)])[M2.length]? = some (.lst ((t2.filter fun p => decide (p.2 ≠ 0)).map Zz)) := ZaM _ _ _
    have so := ZeN (e := Zb 7) (env := [some (Zn roll), some d1, some (.int (most : Int)), some (.int (p2 : Int)), some (.ref A.length), some (.ref (A.length + 1)), some (.ref (A.length + 2)), some (.ref M2.length)]) (M := M2 ++ [MO.lst ((t2.filter fun p => decide (p.2 ≠ 0)).map Zz)]) (n := M2.length) kt' tl' rfl g9
    generalize hM3 : M2 ++ [MO.lst ((t2.filter fun p => decide (p.2 ≠ 0)).map Zz)] = M3 at b2 g9 so
    have k0' : M3[A.length]? = some (.lst (bs2.map D.int)) := by rw [← hM3]; exact ZcS k0 _
    have k2' : M3[A.length + 2]? = some (.lst ((pre ++ [s]).map Zf)) := by rw [← hM3]; exact ZcS k2 _
    have ar : (ZaU (Za (Zb 3) (Za (Zan ZaD (Za (Zb 4) (Ze))) (Za (Zan ZaD (Za (Zan ZaB (Za (Zb 7) (Ze))) (Ze))) (Ze))))) [some (Zn roll), some d1, some (.int (most : Int)), some (.int (p2 : Int)), some (.ref A.length), some (.ref (A.length + 1)), some (.ref (A.length + 2)), some (.ref M2.length)] M3 = .ok (Zf ⟨p2, bs2, Zak t2⟩) (M3 ++ [.lst ((Zak t2).map Zz)]) := by
     have t1 : Zan ZaD (Za (Zb 4) (Ze)) [some (Zn roll), some d1, some (.int (most : Int)), some (.int (p2 : Int)), some (.ref A.length), some (.ref (A.length + 1)), some (.ref (A.length + 2)), some (.ref M2.length)] M3 = .ok (Zaw bs2) M3 := by simp [k0', Zaw]
     have t2' : Zan ZaD (Za (Zan ZaB (Za (Zb 7) (Ze))) (Ze)) [some (Zn roll), some d1, some (.int (most : Int)), some (.int (p2 : Int)), some (.ref A.length), some (.ref (A.length + 1)), some (.ref (A.length + 2)), some (.ref M2.length)] M3 = .ok (ZaA (Zak t2)) (M3 ++ [.lst ((Zak t2).map Zz)]) := by
      refine ZeS so ?_
      simp [ZaA]
     generalize Zan ZaD (Za (Zb 4) (Ze)) = E1 at t1
     generalize Zan ZaD (Za (Zan ZaB (Za (Zb 7) (Ze))) (Ze)) = E2 at t2'
     simp [t1, t2', Zf]
    have bd := Zde (ZfJ (o := Zb 6) (arg := (ZaU (Za (Zb 3) (Za (Zan ZaD (Za (Zb 4) (Ze))) (Za (Zan ZaD (Za (Zan ZaB (Za (Zb 7) (Ze))) (Ze))) (Ze)))))) (env := [some (Zn roll), some d1, some (.int (most : Int)), some (.int (p2 : Int)), some (.ref A.length), some (.ref (A.length + 1)), some (.ref (A.length + 2)), some (.ref M2.length)]) (M := M3) (M2 := M3 ++ [.lst ((Zak t2).map Zz)]) (n := A.length + 2) (xs := (pre ++ [s]).map Zf) (ys := (pre ++ [s]).map Zf) (d := Zf ⟨p2, bs2, Zak t2⟩) rfl k2' ar (ZcS k2' _) (by simp; omega))
    obtain ⟨p', bs', t', G', y', h'⟩ := ih (pre ++ [s]) ⟨p2, bs2, Zak t2⟩ t2 fuel (G ++ [MO.lst ((t2.filter fun p => decide (p.2 ≠ 0)).map Zz), .lst ((Zak t2).map Zz)]) (some (.ref M2.length)) (by simp; omega) (by omega) gd kt' rfl (by simpa using j')
    have e1 : (M3 ++ [MO.lst ((Zak t2).map Zz)]).set (A.length + 2) (.lst ((pre ++ [s]).map Zf ++ [Zf ⟨p2, bs2, Zak t2⟩])) = A ++ .lst (bs2.map D.int) :: .dct (Zaa t2) :: .lst ((pre ++ [s] ++ [(⟨p2, bs2, Zak t2⟩ : Stt)]).map Zf) :: (G ++ [MO.lst ((t2.filter fun p => decide (p.2 ≠ 0)).map Zz), .lst ((Zak t2).map Zz)]) := by
     rw [← hM3, ← hM2, List.append_assoc, List.append_assoc, ZdJ]
     simp
    refine ⟨p', bs', t', G', y', (Zjz cc ((Zw (Zai (i := 3) b1)).trans ((Zw (Zai (i := 7) b2)).trans bd))).trans ?_⟩
    rw [e1]
    refine h'.trans ?_
    rw [ZiP k st]
    simp
theorem Zhu (roll : Za9) (R : ZcU roll) (bs : List Int) (most : Nat) (M : Store) (hm : most ≤ 2001) (hb : bs.length = 8) (J : Nat → Stt → List (Int × Int) → Prop) (hJ : ∀ k s t, J k s t → t.length < 64)
  (hS : ∀ k s t r, J k s t → roll[s.place]? = some r → r.isHalt = false → k < most → J (k + 1) ⟨r.place s.boxes s.place, r.boxes s.boxes t, Zak (Zb2 r s.boxes t)⟩ (Zb2 r s.boxes t)) (h0 : J 0 ⟨0, bs, []⟩ []) :
  ∃ n G, M.length ≤ n ∧ Zbp [Zn roll, Zaw bs, .int (most : Int)] M = .ok (.ref n) (M ++ G) ∧ (M ++ G)[n]? = some (.lst ((ZbD roll most ⟨0, bs, []⟩).map Zf)) := by
 have pos : 0 < roll.length := by obtain ⟨q, x, e, _⟩ := R.last; rw [e]; simp
 obtain ⟨p', bs', t', G', y', lp⟩ := ZgX roll R (Zaw bs) most M hm J hJ hS most [] ⟨0, bs, []⟩ [] 1000000 [] none (by simp) (by omega) ⟨pos, hb, by simp [Zce]⟩ (by simp [keysOk]) rfl h0
 refine ⟨M.length + 2, .lst (bs'.map D.int) :: .dct (Zaa t') :: .lst (([] ++ ZbD roll most ⟨0, bs, []⟩).map Zf) :: G', by omega, ?_, by rw [ZbW]; rfl⟩
 refine (Zee (env := [some (Zn roll), some (Zaw bs), some (.int (most : Int)), none, none, none, none, none]) (d := .ref (M.length + 2)) (M' := M ++ .lst (bs'.map D.int) :: .dct (Zaa t') :: .lst (([] ++ ZbD roll most ⟨0, bs, []⟩).map Zf) :: G') ?_).trans (by simp [Zbn, below])
 refine (Zw (Zai (d := .int 0) (M' := M) rfl)).trans ((Zw (Zai (d := .ref M.length) (M' := M ++ [.lst (bs.map D.int)]) (by simp [Zaw]))).trans ((Zw (Zai (d := .ref (M.length + 1)) (M' := M ++ [.lst (bs.map D.int), .dct (Zaa [])]) (by simp [Zaa]))).trans ((Zw (Zai (d := .ref (M.length + 2)) (M' := M ++ [.lst (bs.map D.int), .dct (Zaa []), .lst (([] ++ [(⟨0, bs, []⟩ : Stt)]).map Zf)]) (by simp [Zf, Zaw, ZaA]))).trans ((Zw (f := Zhk _ _) lp).trans (Zcs rfl)))))
theorem ZiY (roll : Za9) (R : ZcU roll) (bs : List Int) (most : Nat) (M : Store) (hm : most ≤ 63) (hb : bs.length = 8) :
  ∃ n G, M.length ≤ n ∧ Zbp [Zn roll, Zaw bs, .int (most : Int)] M = .ok (.ref n) (M ++ G) ∧ (M ++ G)[n]? = some (.lst ((ZbD roll most ⟨0, bs, []⟩).map Zf)) :=
 Zhu roll R bs most M (by omega) hb (fun k _ t => t.length ≤ k ∧ k ≤ most) (fun k s t h => by omega) (fun k s t r h _ _ hk => ⟨by have := ZkY r s.boxes t; omega, by omega⟩) ⟨Nat.le_refl _, by omega⟩
structure Use where
 num : Int
 time : Int
 word : List Nat
 val : Int
abbrev GET : List Nat := [103, 101, 116]
abbrev SET : List Nat := [115, 101, 116]
def Zo (u : Use) : D := .tup [.int u.num, .int u.time, .str u.word, .int u.val]
theorem Ziz (n : Nat) (u : Use) : below n (Zo u) = true := rfl
theorem Zen {us : List Use} (h : us.length < 64) : Zgh (us.map Zo) := by
 refine ⟨by simpa using h, .inl (by simp [Zo, ZbX]), fun a ha b hb => ?_⟩
 obtain ⟨p, _, rfl⟩ := List.mem_map.mp ha
 obtain ⟨q, _, rfl⟩ := List.mem_map.mp hb
 simp only [ltD, Zo, ltT]
 split
 ·split
  ·split
   ·split
    ·rfl
    ·rfl
   ·rfl
  ·rfl
 ·rfl
def Zc0 (r : Row) (t : Nat) (s : Stt) : Option Use := match r with
 | .get _ b => some ⟨s.boxes.getD b 0, (t : Int), GET, Zbc s.cells (s.boxes.getD b 0)⟩
 | .set a b => some ⟨s.boxes.getD a 0, (t : Int), SET, s.boxes.getD b 0⟩
 | _ => none
def Za7 (roll : Za9) (ss : List Stt) (t : Nat) : Option Use := (ss[t]?).bind fun s => (roll[s.place]?).bind fun r => Zc0 r t s
def Zax (roll : Za9) (ss : List Stt) (m : Nat) : List Use := (List.range m).filterMap (Za7 roll ss)
theorem Zb9 (roll : Za9) (ss : List Stt) (m : Nat) : Zax roll ss (m + 1) = Zax roll ss m ++ (Za7 roll ss m).toList := by
 unfold Zax
 rw [List.range_succ, List.filterMap_append]
 cases h : Za7 roll ss m <;> simp [h]
theorem ZiK {r : Row} {t : Nat} {s : Stt} {u : Use} (h : Zc0 r t s = some u) : u.time = t := by
 cases r <;> simp [Zc0] at h <;> rw [← h]
theorem ZbP {roll : Za9} {ss : List Stt} {t : Nat} {u : Use} (h : Za7 roll ss t = some u) : u.time = t := by
 unfold Za7 at h
 cases h1 : ss[t]? with
 | none => rw [h1] at h; cases h
 | some s =>
  rw [h1] at h
  simp only [Option.bind_some] at h
  cases h2 : roll[s.place]? with
  | none => rw [h2] at h; cases h
  | some r => rw [h2] at h; exact ZiK h
theorem Zdm (roll : Za9) (ss : List Stt) (m : Nat) : (Zax roll ss m).length ≤ m := by
 unfold Zax
 exact Nat.le_trans (List.length_filterMap_le _ _) (by simp)
theorem ZeQ {roll : Za9} {ss : List Stt} : ∀ {m : Nat} {u : Use}, u ∈ Zax roll ss m → ∃ t, t < m ∧ Za7 roll ss t = some u := fun {m u} h => by
 unfold Zax at h
 obtain ⟨t, ht, e⟩ := List.mem_filterMap.mp h
 exact ⟨t, List.mem_range.mp ht, e⟩
theorem Zcl (roll : Za9) (ss : List Stt) : ∀ m, (Zax roll ss m).Pairwise fun a b => a.time < b.time
 | 0 => by simp [Zax]
 | m + 1 => by
  rw [Zb9]
  refine List.pairwise_append.mpr ⟨Zcl roll ss m, by cases Za7 roll ss m <;> simp, fun a ha b hb => ?_⟩
  obtain ⟨t, ht, e⟩ := ZeQ ha
  have e' : Za7 roll ss m = some b := by
   cases h : Za7 roll ss m with
   | none => rw [h] at hb; cases hb
   | some c => rw [h] at hb; simp at hb; rw [hb]
  have h1 := ZbP e
  have h2 := ZbP e'
  omega
theorem Zd4 (roll : Za9) (ss : List Stt) (t : Nat) : ∀ m, t ≤ m → (Zax roll ss m).filter (fun u => decide (u.time < (t : Int))) = Zax roll ss t
 | m, h => by
  induction m with
  | zero =>
   have : t = 0 := by omega
   subst this; rfl
  | succ m ih =>
   by_cases c : t = m + 1
   ·subst c
    rw [List.filter_eq_self]
    intro u hu
    obtain ⟨k, hk, e⟩ := ZeQ hu
    have := ZbP e
    exact decide_eq_true (by omega)
   ·rw [Zb9, List.filter_append, ih (by omega)]
    cases h : Za7 roll ss m with
    | none => simp
    | some u =>
     have := ZbP h
     have n : ¬ u.time < (t : Int) := by omega
     simp [n]
def ZaQ (t : List (Int × Int)) (us : List Use) : List (Int × Int) := us.foldl (fun t u => ZcJ t u.num u.val) t
theorem Zdn : ∀ (us : List Use) (t : List (Int × Int)), keysOk t → keysOk (ZaQ t us)
 | [], t, h => h
 | u :: us, t, h => Zdn us _ (Zdq u.num u.val h)
theorem ZdS : ∀ (us : List Use) (t : List (Int × Int)), (ZaQ t us).length ≤ t.length + us.length
 | [], t => by simp [ZaQ]
 | u :: us, t => by
  have := ZdS us (ZcJ t u.num u.val)
  have h2 := ZgF t u.num u.val
  simp only [ZaQ, List.foldl_cons, List.length_cons] at this ⊢
  omega
theorem ZeJ {t : List (Int × Int)} (h : keysOk t) (n v m : Int) : Zbc (ZcJ t n v) m = if m = n then v else Zbc t m := by
 have e := Zda (ZcJ t n v) m
 rw [← ZdV, ZgN] at e
 by_cases c : m = n
 ·rw [if_pos (by rw [c])] at e
  rw [if_pos c]
  simpa using e.symm
 ·rw [if_neg (by simp [c]), Zda] at e
  rw [if_neg c]
  simpa using e.symm
def Zlp (d : Int) : List Use → Int
 | [] => d
 | u :: us => Zlp u.val us
theorem Zc4 (n : Int) : ∀ (us : List Use) (t : List (Int × Int)), keysOk t → Zbc (ZaQ t us) n = Zlp (Zbc t n) (us.filter fun u => decide (u.num = n))
 | [], t, _ => rfl
 | u :: us, t, h => by
  have ih := Zc4 n us (ZcJ t u.num u.val) (Zdq _ _ h)
  rw [ZeJ h] at ih
  show Zbc (ZaQ (ZcJ t u.num u.val) us) n = _
  by_cases c : u.num = n
  ·rw [ih, if_pos c.symm, List.filter_cons_of_pos (by simpa using c)]; rfl
  ·rw [ih, if_neg (fun z => c z.symm), List.filter_cons_of_neg (by simpa using c)]
theorem ZfB : ∀ {x y : List Use}, x.Perm y → x.Pairwise (fun a b => a.time < b.time) → y.Pairwise (fun a b => a.time ≤ b.time) → x = y
 | [], y, p, _, _ => (List.nil_perm.mp p).symm
 | a :: x, [], p, _, _ => absurd p.length_eq (by simp)
 | a :: x, b :: y, p, hx, hy => by
  have hx' := List.pairwise_cons.mp hx
  have hy' := List.pairwise_cons.mp hy
  have e : a = b := by
   rcases List.mem_cons.mp (p.mem_iff.mp List.mem_cons_self) with e | e
   ·exact e
   ·rcases List.mem_cons.mp (p.mem_iff.mpr List.mem_cons_self) with e' | e'
    ·exact e'.symm
    ·have h1 := hy'.1 a e
     have h2 := hx'.1 b e'
     omega
  subst e
  rw [ZfB (List.Perm.cons_inv p) hx'.2 hy'.2]
structure ZdP (us us2 : List Use) : Prop where
 perm : us2.Perm us
 ord : us2.Pairwise fun a b => a.num < b.num ∨ (a.num = b.num ∧ a.time ≤ b.time)
theorem ZdP.filt {us us2 : List Use} (S : ZdP us us2) (h : us.Pairwise fun a b => a.time < b.time) (n : Int) : us2.filter (fun u => decide (u.num = n)) = us.filter fun u => decide (u.num = n) := by
 refine (ZfB ((S.perm.filter _).symm) (h.filter _) ?_).symm
 have h2 := S.ord.filter (fun u => decide (u.num = n))
 refine List.Pairwise.imp_of_mem ?_ h2
 intro a b ha hb hab
 have e1 : a.num = n := by simpa using (List.mem_filter.mp ha).2
 have e2 : b.num = n := by simpa using (List.mem_filter.mp hb).2
 omega
theorem ZhP (us : List Use) (hl : us.length < 64) : ∃ us2 : List Use, ZdP us us2 ∧ Zfk (us.map Zo) = us2.map Zo := by
 have ins : ∀ (u : Use) (l : List Use), ∃ l' : List Use, l'.Perm (u :: l) ∧ ((l.map Zo).Pairwise leD → (l'.map Zo).Pairwise leD) := fun u l => by
  have tot : ∀ a b : Use, ltD (Zo a) (Zo b) = some false ∨ ltD (Zo b) (Zo a) = some false := fun a b => by
   have : (ltD (Zo a) (Zo b)).isSome = true := (Zen (us := [a, b]) (by simp)).cmp _ (by simp) _ (by simp)
   cases h : ltD (Zo a) (Zo b) with
   | none => rw [h] at this; cases this
   | some c => cases c with
    | false => exact .inl rfl
    | true => exact .inr (Ze8 h)
  induction l with
  | nil => exact ⟨[u], .refl _, fun _ => by simp⟩
  | cons v l ih =>
   obtain ⟨l', p, h⟩ := ih
   rcases tot v u with c | c
   ·refine ⟨u :: v :: l, .refl _, fun hp => ?_⟩
    rw [List.map_cons]
    refine List.pairwise_cons.mpr ⟨fun d hd => ?_, hp⟩
    rw [List.map_cons] at hd hp
    rcases List.mem_cons.mp hd with e | e
    ·subst e; exact c
    ·exact Zjr c ((List.pairwise_cons.mp hp).1 d e)
   ·refine ⟨v :: l', (p.cons v).trans (.swap u v l), fun hp => ?_⟩
    rw [List.map_cons] at hp
    have hp' := List.pairwise_cons.mp hp
    rw [List.map_cons]
    refine List.pairwise_cons.mpr ⟨fun d hd => ?_, h hp'.2⟩
    have : d ∈ (u :: l).map Zo := (p.map Zo).mem_iff.mp hd
    rw [List.map_cons] at this
    rcases List.mem_cons.mp this with e | e
    ·subst e; exact c
    ·exact hp'.1 d e
 have ex : ∀ l : List Use, ∃ l' : List Use, l'.Perm l ∧ (l'.map Zo).Pairwise leD := fun l => by
  induction l with
  | nil => exact ⟨[], .refl _, by simp⟩
  | cons u l ih =>
   obtain ⟨l', p, h⟩ := ih
   obtain ⟨l2, p2, h2⟩ := ins u l'
   exact ⟨l2, p2.trans (p.cons u), h2 h⟩
 obtain ⟨us2, p, h⟩ := ex us
 refine ⟨us2, ⟨p, ?_⟩, ZdY ⟨p.map _, h⟩⟩
 rw [List.pairwise_map] at h
 refine h.imp fun {a b} h => ?_
 have h' : ltT [.int b.num, .int b.time, .str b.word, .int b.val] [.int a.num, .int a.time, .str a.word, .int a.val] = some false := h
 simp only [ltT] at h'
 by_cases c : b.num = a.num
 ·rw [if_pos c] at h'
  right
  refine ⟨c.symm, ?_⟩
  by_cases c2 : b.time = a.time
  ·omega
  ·rw [if_neg c2] at h'
   simp at h'
   exact h'
 ·rw [if_neg c] at h'
  simp at h'
  left; omega
def Chain (roll : Za9) (ss : List Stt) : Prop := ∀ (i : Nat) s s', ss[i]? = some s → ss[i + 1]? = some s' → Zct roll s = some s'
theorem ZfN (roll : Za9) (k : Nat) (s : Stt) : (ZbD roll k s)[0]? = some s := by
 cases k with
 | zero => rfl
 | succ k => unfold ZbD; split <;> rfl
theorem ZeE (roll : Za9) : ∀ (k : Nat) (s : Stt), Chain roll (ZbD roll k s)
 | 0, s, i, a, b, h1, h2 => by simp [ZbD] at h2
 | k + 1, s, i, a, b, h1, h2 => by
  unfold ZbD at h1 h2
  split at h1
  ·rename_i q; rw [q] at h2; simp at h2
  ·rename_i s' q
   rw [q] at h2
   simp only [List.getElem?_cons_succ] at h2
   cases i with
   | zero =>
    simp at h1; subst h1
    rw [ZfN] at h2
    cases h2; exact q
   | succ i => exact ZeE roll k s' i a b (by simpa using h1) h2
theorem ZfY {cs : List (Int × Int)} (h : Zce cs) (n v m : Int) : Zbc (Zb4 cs n v) m = if m = n then v else Zbc cs m := by
 have K := (ZcW (n := n) (v := v) h).keys
 by_cases c : m = n
 ·subst c
  rw [if_pos rfl]
  by_cases z : v = 0
  ·subst z
   refine Zbx fun q => ?_
   obtain ⟨p, hp, e⟩ := List.any_eq_true.mp q
   have e : p.1 = m := by simpa using e
   rcases ZbB.mp hp with ⟨_, h2⟩ | ⟨h1, _⟩
   ·exact h2 rfl
   ·exact h1 e
  ·exact Zbs K (ZbB.mpr (.inl ⟨rfl, z⟩))
 ·rw [if_neg c]
  by_cases a : (cs.any fun p => decide (p.1 = m)) = true
  ·obtain ⟨p, hp, e⟩ := List.any_eq_true.mp a
   have e : p.1 = m := by simpa using e
   obtain ⟨x, y⟩ := p
   simp only at e
   subst e
   rw [Zbs h.keys hp]
   exact Zbs K (ZbB.mpr (.inr ⟨c, hp⟩))
  ·rw [Zbx a]
   refine Zbx fun q => ?_
   obtain ⟨p, hp, e⟩ := List.any_eq_true.mp q
   have e : p.1 = m := by simpa using e
   rcases ZbB.mp hp with ⟨h1, _⟩ | ⟨_, h2⟩
   ·rw [h1] at e; exact c e.symm
   ·exact a (List.any_eq_true.mpr ⟨p, h2, by simpa using e⟩)
def ZkC (cs : List (Int × Int)) : Prop := ∀ p ∈ cs, p.2 ≠ 0
theorem ZjP {x y : List (Int × Int)} (hx : Zce x) (hy : Zce y) (nx : ZkC x) (ny : ZkC y) (h : ∀ n, Zbc x n = Zbc y n) : x = y := by
 have half : ∀ {x y : List (Int × Int)}, Zce x → Zce y → ZkC x → (∀ n, Zbc x n = Zbc y n) → ∀ q, q ∈ x → q ∈ y := fun {x y} hx hy nx h q hq => by
  obtain ⟨k, v⟩ := q
  have h1 := Zbs hx.keys hq
  rw [h k] at h1
  have n0 : v ≠ 0 := nx _ hq
  by_cases a : (y.any fun p => decide (p.1 = k)) = true
  ·obtain ⟨p, hp, e⟩ := List.any_eq_true.mp a
   have e : p.1 = k := by simpa using e
   obtain ⟨k', v'⟩ := p
   simp only at e
   subst e
   rw [Zbs hy.keys hp] at h1
   rw [← h1]; exact hp
  ·rw [Zbx a] at h1
   exact absurd h1.symm n0
 exact Zex hx hy fun q => ⟨half hx hy nx h q, half hy hx ny (fun n => (h n).symm) q⟩
theorem ZgT {roll : Za9} {s s' : Stt} {r : Row} (hr : roll[s.place]? = some r) (h : Zct roll s = some s') : s'.cells = r.cells s.boxes s.cells := by
 unfold Zct at h
 rw [hr] at h
 simp only [Option.bind_some, Zfm] at h
 split at h
 ·cases h
 ·cases h; rfl
theorem Zed {roll : Za9} {ss : List Stt} (C : Chain roll ss) (G : ∀ s ∈ ss, Good roll s) (h0 : ∀ s, ss[0]? = some s → s.cells = []) : ∀ (t : Nat) (s : Stt), ss[t]? = some s → ZkC s.cells ∧ ∀ n, Zbc s.cells n = Zbc (ZaQ [] (Zax roll ss t)) n
 | 0, s, h => by
  rw [h0 s h]
  exact ⟨fun p hp => (by cases hp), fun n => rfl⟩
 | t + 1, s', h' => by
  have ht : t < ss.length := by have := (List.getElem?_eq_some_iff.mp h').1; omega
  have h : ss[t]? = some ss[t] := by simp [ht]
  have g := G _ (List.getElem_mem ht)
  generalize ss[t] = s at h g
  obtain ⟨nz, ih⟩ := Zed C G h0 t s h
  have gp := g.pl
  have hr : roll[s.place]? = some roll[s.place] := by simp [gp]
  generalize roll[s.place] = r at hr
  have ec := ZgT hr (C t s s' h h')
  have ea : Za7 roll ss t = Zc0 r t s := by simp [Za7, h, hr]
  have kk : keysOk (ZaQ [] (Zax roll ss t)) := Zdn _ _ (by simp [keysOk])
  have add : ∀ u : Use, ea = ea → ZaQ [] (Zax roll ss t ++ [u]) = ZcJ (ZaQ [] (Zax roll ss t)) u.num u.val := fun u _ => by simp [ZaQ]
  rw [ec, Zb9, ea]
  cases r with
  | get a b =>
   refine ⟨nz, fun n => ?_⟩
   simp only [Row.cells, Zc0, Option.toList_some]
   rw [add _ rfl, ZeJ kk]
   by_cases c : n = s.boxes.getD b 0
   ·rw [if_pos c, c]
   ·rw [if_neg c]; exact ih n
  | set a b =>
   simp only [Row.cells, Zc0, Option.toList_some]
   refine ⟨fun p hp => ?_, fun n => ?_⟩
   ·rcases ZbB.mp hp with ⟨h1, h2⟩ | ⟨_, h2⟩
    ·rw [h1]; exact h2
    ·exact nz p h2
   ·rw [add _ rfl, ZeJ kk, ZfY g.rs]
    by_cases c : n = s.boxes.getD a 0
    ·rw [if_pos c, if_pos c]
    ·rw [if_neg c, if_neg c]; exact ih n
  | _ =>
   simp only [Row.cells, Zc0, Option.toList_none, List.append_nil]
   exact ⟨nz, ih⟩
theorem Zg4 {roll : Za9} {ss : List Stt} (C : Chain roll ss) (G : ∀ s ∈ ss, Good roll s) (h0 : ∀ s, ss[0]? = some s → s.cells = []) {us2 : List Use} (S : ZdP (Zax roll ss (ss.length - 1)) us2) {t : Nat} {s : Stt} (h : ss[t]? = some s) :
  Zak (ZaQ [] (us2.filter fun u => decide (u.time < (t : Int)))) = s.cells := by
 obtain ⟨nz, e⟩ := Zed C G h0 t s h
 have ht := (List.getElem?_eq_some_iff.mp h).1
 have k0 : keysOk ([] : List (Int × Int)) := by simp [keysOk]
 have kk := Zdn (us2.filter fun u => decide (u.time < (t : Int))) [] k0
 refine ZjP (Zbw kk) (G s (List.mem_of_getElem? h)).rs (fun p hp => (ZbC.mp hp).2) nz fun n => ?_
 rw [ZfH kk, e n, Zc4 n _ _ k0, Zc4 n _ _ k0]
 congr 1
 rw [List.filter_filter, ← Zd4 roll ss t (ss.length - 1) (by omega), List.filter_filter]
 have := congrArg (List.filter fun u : Use => decide (u.time < (t : Int))) (S.filt (Zcl roll ss _) n)
 rw [List.filter_filter, List.filter_filter] at this
 rw [show (fun a : Use => decide (a.num = n) && decide (a.time < (t : Int))) = fun a => decide (a.time < (t : Int)) && decide (a.num = n) from funext fun a => Bool.and_comm _ _]
 exact this
theorem Zjo : ∀ (p q : List Use) (u : Use), (p ++ u :: q).Pairwise (fun a b => a.time < b.time) → (p ++ u :: q).filter (fun v => decide (v.time < u.time)) = p := fun p q u h => by
 obtain ⟨h1, h2, h3⟩ := List.pairwise_append.mp h
 rw [List.filter_append, List.filter_eq_self.mpr (fun v hv => decide_eq_true (h3 v hv u List.mem_cons_self)), List.filter_eq_nil_iff.mpr, List.append_nil]
 intro v hv
 rcases List.mem_cons.mp hv with e | e
 ·subst e; simp
 ·have := (List.pairwise_cons.mp h2).1 v e
  simp; omega
theorem Zj7 {roll : Za9} {ss : List Stt} (C : Chain roll ss) (G : ∀ s ∈ ss, Good roll s) (h0 : ∀ s, ss[0]? = some s → s.cells = []) {us2 : List Use} (S : ZdP (Zax roll ss (ss.length - 1)) us2) {p q : List Use} {u : Use} (e : us2 = p ++ u :: q) (hw : u.word = GET) : u.val = Zbc (ZaQ [] p) u.num := by
 have k0 : keysOk ([] : List (Int × Int)) := by simp [keysOk]
 have hu : u ∈ Zax roll ss (ss.length - 1) := S.perm.mem_iff.mp (by rw [e]; simp)
 obtain ⟨t, ht, ea⟩ := ZeQ hu
 have tm := ZbP ea
 have h : ss[t]? = some ss[t] := by simp
 obtain ⟨_, el⟩ := Zed C G h0 t _ h
 have F := S.filt (Zcl roll ss _) u.num
 have P := (Zcl roll ss (ss.length - 1)).filter fun v => decide (v.num = u.num)
 rw [← F] at P
 have F2 : us2.filter (fun v => decide (v.num = u.num)) = p.filter (fun v => decide (v.num = u.num)) ++ u :: q.filter fun v => decide (v.num = u.num) := by
  rw [e, List.filter_append, List.filter_cons_of_pos (by simp)]
 rw [F2] at P
 have cut := Zjo _ _ u P
 rw [← F2, F, List.filter_filter] at cut
 rw [Zc4 _ _ _ k0, ← cut]
 have e2 := el u.num
 rw [Zc4 _ _ _ k0, ← Zd4 roll ss t (ss.length - 1) (by omega), List.filter_filter, ← tm] at e2
 rw [show (fun a : Use => decide (a.time < u.time) && decide (a.num = u.num)) = fun a => decide (a.num = u.num) && decide (a.time < u.time) from funext fun a => Bool.and_comm _ _]
 rw [← e2]
 unfold Za7 at ea
 rw [h] at ea
 simp only [Option.bind_some] at ea
 cases h2 : roll[ss[t].place]? with
 | none => rw [h2] at ea; cases ea
 | some r =>
  rw [h2] at ea
  simp only [Option.bind_some] at ea
  cases r <;> simp only [Zc0, reduceCtorEq, Option.some.injEq] at ea
  ·exact (congrArg Use.val ea).symm.trans (congrArg (Zbc _) (congrArg Use.num ea))
  ·rw [← ea] at hw; simp at hw
theorem Zeo (roll : Za9) (ss : List Stt) : ∀ m, (Zax roll ss m).map (·.time) = ((List.range m).filter fun t => (Za7 roll ss t).isSome).map fun (t : Nat) => (t : Int)
 | 0 => rfl
 | m + 1 => by
  rw [Zb9, List.range_succ, List.map_append, List.filter_append, List.map_append, Zeo roll ss m]
  cases h : Za7 roll ss m with
  | none => simp [h]
  | some u => simp [h, ZbP h]
theorem Zfj (cs : List (Int × Int)) (n : Int) (M : Store) (h : keysOk cs) (hl : cs.length ≤ 5000) : Zbh [ZaA cs, .int n] M = .ok (.int (Zbc cs n)) M := by
 have h1 : (Zcq Zd1 Zd9 (Zan Zeh (Za (Zb 0) (Ze))) (Za (Zb 1) (Za (eC (.int 0)) (Ze)))) [some (ZaA cs), some (.int n)] M = .ok (.int (Zbc cs n)) (M ++ [.dct (dictOf (Zaa cs))]) := by
  have hz : (Zaa cs).length ≤ 100000 := by simp [Zaa]; omega
  have b1 : Zan Zeh (Za (Zb 0) (Ze)) [some (ZaA cs), some (.int n)] M = .ok (.ref M.length) (M ++ [.dct (dictOf (Zaa cs))]) := by
   refine ZeS (a := ZaA cs) (M1 := M) rfl ?_
   simp only [ZaA, Zeh, Zhs]
   rw [if_pos hz]; rfl
  simp only [Zcq, b1, R3.bind, Zd1, Za, Zb, eC, Ze, List.getElem?_cons_zero, List.getElem?_cons_succ]
  simp only [ZaM, ZbN, Option.isSome_some, if_true, Zd9, Zdu]
  rw [Zi1 h]
 exact Rt.pure (env := [some (ZaA cs), some (.int n)]) (Zcs h1) rfl
theorem Zhb (r : Row) (t : Nat) (s : Stt) (M : Store) : Zb0 [Zj r] M = .ok (.bl (Zc0 r t s).isSome) M := by
 cases r <;> simp [Zb0, ZeC, Zu, Zae, Zah, sIf, Zv, Zav, mkF, Zbn, below, belowL, ZaI, Zj, Zas, deq, Zc0]
theorem ZiX {roll : Za9} {r : Row} {t : Nat} {s : Stt} {u : Use} {many : Nat} (M : Store) (hr : r.ok many) (g : Good roll s) (hc : s.cells.length ≤ 5000) (h : Zc0 r t s = some u) : Zci [Zj r, .int (t : Int), Zf s] M = .ok (Zo u) M := by
 have s3 : ∀ r : Row, (e2 Zg (Zb 2) (eC (.int 1))) [some (Zj r), some (.int (t : Int)), some (Zf s), none, none] M = .ok (Zaw s.boxes) M := fun r => by simp [Zf]
 have cn : ∀ (r : Row) (x4 : Option D) (w : List Nat), (e2 Zba (e2 Zg (Zb 0) (eC (.int 0))) (eC (.str w))) [some (Zj r), some (.int (t : Int)), some (Zf s), some (Zaw s.boxes), x4] M = .ok (.bl (decide (Ze1 r = w))) M := fun r x4 w => ZbE (ZbE rfl rfl (ZeX r M)) rfl rfl
 cases r <;> simp only [Zc0, reduceCtorEq, Option.some.injEq] at h
 ·rename_i a b
  obtain ⟨x, hx, gx⟩ := Zgn g.bx hr.2
  rw [hx] at h
  have c4 : ZaP [Zj (.get a b), Zaw s.boxes] M = .ok (.int x) M := by
   simp [ZaP, ZbU, Zu, Zae, Zah, sIf, Zv, Zav, mkF, Zbn, below, belowL, ZaI, Zj, Zaw, -Za4, gx]
  have cv := Zfj s.cells x M g.rs.keys hc
  subst h
  refine Rt.pure (G := []) (env := [some (Zj (.get a b)), some (.int (t : Int)), some (Zf s), none, none]) ?_ rfl
  rw [List.append_nil]
  refine (Zw (Zai (s3 _))).trans ((Zw (Zai (ZeW rfl rfl c4))).trans (Zkx ((Zir ((cn _ _ _).trans (by rw [decide_eq_true (by rfl)]))).trans (Zcs ?_))))
  have cl : (Zam Zbh (Za (e2 Zg (Zb 2) (eC (.int 2))) (Za (Zb 4) (Ze)))) [some (Zj (.get a b)), some (.int (t : Int)), some (Zf s), some (Zaw s.boxes), some (.int x)] M = .ok (.int (Zbc s.cells x)) M := ZeW (a := ZaA s.cells) (M1 := M) (by simp [Zf]) rfl cv
  generalize (Zam Zbh (Za (e2 Zg (Zb 2) (eC (.int 2))) (Za (Zb 4) (Ze)))) = E at cl
  simp only [ZaU, Za, Ze, Zb, eC, R3.bind, cl, List.getElem?_cons_zero, List.getElem?_cons_succ]
  simp [Zo]
 ·rename_i a b
  obtain ⟨x, hx, gx⟩ := Zgn g.bx hr.1
  obtain ⟨y, hy, gy⟩ := Zgn g.bx hr.2
  rw [hx, hy] at h
  have c4 : ZaP [Zj (.set a b), Zaw s.boxes] M = .ok (.int x) M := by
   simp [ZaP, ZbU, Zu, Zae, Zah, sIf, Zv, Zav, mkF, Zbn, below, belowL, ZaI, Zj, Zaw, -Za4, gx]
  subst h
  refine Rt.pure (G := []) (env := [some (Zj (.set a b)), some (.int (t : Int)), some (Zf s), none, none]) ?_ rfl
  rw [List.append_nil]
  refine (Zw (Zai (s3 _))).trans ((Zw (Zai (ZeW rfl rfl c4))).trans ((Zw (ZbF ((cn _ _ _).trans (by rw [decide_eq_false (by simp [Ze1])])))).trans (Zcs ?_)))
  simp only [ZaU, Za, Ze, e2, Zb, eC, R3.bind, List.getElem?_cons_zero, List.getElem?_cons_succ, Zj, Zaw, Zg, ZjJ, gy]
  simp [Zo]
theorem ZgS (n : Nat) (us : List Use) : below n (.tup (us.map Zo)) = true := by
 unfold below
 induction us with
 | nil => rfl
 | cons u us ih => simp only [List.map_cons, belowL, ih, Ziz, Bool.and_self]
theorem Zht (roll : Za9) (R : ZcU roll) (ss : List Stt) (n : Nat) (M : Store) (hM : M[n]? = some (.lst (ss.map Zf))) (hg : ∀ s ∈ ss, Good roll s) (hc : ∀ s ∈ ss, s.cells.length ≤ 5000) (hz : ss.length ≤ 64) {us2 : List Use} (hs : Zfk ((Zax roll ss (ss.length - 1)).map Zo) = us2.map Zo) :
  Zdj [Zn roll, .ref n] M = .ok (.tup (us2.map Zo)) M := by
 have hnl := (List.getElem?_eq_some_iff.mp hM).1
 have lz : (Zax roll ss (ss.length - 1)).length < 64 := by have := Zdm roll ss (ss.length - 1); omega
 obtain ⟨e', M', lp, x3, x4, x5, rfl, rfl⟩ := ZgL (lk := [(M.length + 1, ss.dropLast.map Zf)]) (g := ZdM [3, 4])
  (body := (Zu (Zae 5 (e2 Zg (Zb 0) (e2 Zg (Zb 4) (eC (.int 0))))) (sIf (Zam Zb0 (Za (Zb 5) (Ze))) (Zav (Zcq tyL Zbv (Zb 2) (Za (Zam Zci (Za (Zb 5) (Za (Zb 3) (Za (Zb 4) (Ze))))) (Ze)))) (Zv))))
  (P := fun j env M' => ∃ x3 x4 x5, env = [some (Zn roll), some (.ref n), some (.ref M.length), x3, x4, x5] ∧ M' = M ++ [.lst ((Zax roll ss j).map Zo), .lst (ss.dropLast.map Zf)])
  (Zc7 0 (ss.dropLast.map Zf)) 0 [some (Zn roll), some (.ref n), some (.ref M.length), none, none, none] (M ++ [.lst [], .lst (ss.dropLast.map Zf)]) ⟨none, none, none, rfl, rfl⟩
  (fun j env M' ⟨_, _, _, _, h⟩ => by subst h; simp [Zcu])
  (fun i d env M' hd ⟨x3, x4, x5, he, hm⟩ => by
   subst he hm
   rw [Zdl, List.getElem?_map] at hd
   cases hi : ss.dropLast[i]? with
   | none => rw [hi] at hd; cases hd
   | some s =>
    rw [hi] at hd
    simp only [Option.map_some, Option.some.injEq] at hd
    subst hd
    have il : i < ss.length - 1 := by have := (List.getElem?_eq_some_iff.mp hi).1; simpa using this
    have hi' : ss[i]? = some s := by rw [← hi, List.getElem?_dropLast, if_pos il]
    have hm := List.mem_of_getElem? hi'
    have g := hg s hm
    have gp := g.pl
    have hr : roll[s.place]? = some roll[s.place] := by simp [gp]
    have ro := R.rows _ (List.getElem_mem gp)
    generalize roll[s.place] = r at hr ro
    have ea : Za7 roll ss i = Zc0 r i s := by simp [Za7, hi', hr]
    simp only [Nat.zero_add]
    have hus : (Zax roll ss i).length < 1000000 := by have := Zdm roll ss i; omega
    generalize hMM : M ++ [MO.lst ((Zax roll ss i).map Zo), .lst (ss.dropLast.map Zf)] = MM
    have g2 : MM[M.length]? = some (.lst ((Zax roll ss i).map Zo)) := by rw [← hMM]; exact ZaM _ _ _
    have s5 : (e2 Zg (Zb 0) (e2 Zg (Zb 4) (eC (.int 0)))) [some (Zn roll), some (.ref n), some (.ref M.length), some (.int (i : Int)), some (Zf s), x5] MM = .ok (Zj r) MM := by simp [Zf, Zn, hr]
    refine ⟨[some (Zn roll), some (.ref n), some (.ref M.length), some (.int (i : Int)), some (Zf s), x5], rfl, .inl ?_⟩
    have ci : (Zam Zb0 (Za (Zb 5) (Ze))) [some (Zn roll), some (.ref n), some (.ref M.length), some (.int (i : Int)), some (Zf s), some (Zj r)] MM = .ok (.bl (Zc0 r i s).isSome) MM := ZhG rfl (Zhb r i s MM)
    rw [Zb9, ea]
    cases hu : Zc0 r i s with
    | none =>
     rw [hu] at ci
     exact ⟨_, _, (Zw (Zai s5)).trans (ZbF ci), _, _, _, rfl, by simp [← hMM]⟩
    | some u =>
     rw [hu] at ci
     have uo := ZiX (roll := roll) MM ro g (hc s hm) hu
     have ap := Zde (ZfJ (o := Zb 2) (arg := Zam Zci (Za (Zb 5) (Za (Zb 3) (Za (Zb 4) (Ze))))) (env := [some (Zn roll), some (.ref n), some (.ref M.length), some (.int (i : Int)), some (Zf s), some (Zj r)]) (M := MM) (n := M.length) (xs := (Zax roll ss i).map Zo) (ys := (Zax roll ss i).map Zo) rfl g2 (ZhO rfl rfl rfl uo) g2 (by simpa using hus))
     exact ⟨_, _, (Zw (Zai s5)).trans ((Zir ci).trans ap), _, _, _, rfl, by simp [← hMM]⟩)
 have el : (Zc7 0 (ss.dropLast.map Zf)).length = ss.length - 1 := by rw [Zdk]; simp
 rw [Nat.zero_add, el] at lp
 refine Rt.pure (G := [.lst ((Zax roll ss (ss.length - 1)).map Zo), .lst (ss.dropLast.map Zf), .lst (us2.map Zo)]) (env := [some (Zn roll), some (.ref n), none, none, none, none]) ?_ (ZgS _ _)
 have lp' : (Zg2 (Ziv (eSl (Zb 1) (ZeA) (ZeY (e1 Zez (eC (.int 1)))))) (ZdM [3, 4]) (Zu (Zae 5 (e2 Zg (Zb 0) (e2 Zg (Zb 4) (eC (.int 0))))) (sIf (Zam Zb0 (Za (Zb 5) (Ze))) (Zav (Zcq tyL Zbv (Zb 2) (Za (Zam Zci (Za (Zb 5) (Za (Zb 3) (Za (Zb 4) (Ze))))) (Ze)))) (Zv)))) [some (Zn roll), some (.ref n), some (.ref M.length), none, none, none] (M ++ [.lst []]) = _ := Eq.trans (by
  have c1 : cutD (ss.map Zf) none (some (-1)) = ss.dropLast.map Zf := by rw [ZjB, List.map_dropLast]
  have g1 := ZcS hM [.lst []]
  have g2 : (M ++ [MO.lst []] ++ [.lst (ss.dropLast.map Zf)])[(M ++ [MO.lst []]).length]? = some (.lst (ss.dropLast.map Zf)) := ZaM _ _ _
  rw [Zg2]
  simp only [Ziv, eSl, Zb, ZeA, ZeY, e1, eC, Zez, R3.bind, List.getElem?_cons_zero, List.getElem?_cons_succ, Zh9, g1, c1, alloc, g2]
  simp) lp
 refine (Zw (Zai (d := .ref M.length) (M' := M ++ [.lst []]) (by simp))).trans ((Zw lp').trans (Zcs ?_))
 have so := Zen lz
 have bsr : Zan ZaB (Za (Zb 2) (Ze)) [some (Zn roll), some (.ref n), some (.ref M.length), x3, x4, x5] (M ++ [.lst ((Zax roll ss (ss.length - 1)).map Zo), .lst (ss.dropLast.map Zf)]) = .ok (.ref (M.length + 2)) (M ++ [.lst ((Zax roll ss (ss.length - 1)).map Zo), .lst (ss.dropLast.map Zf), .lst (us2.map Zo)]) := by
  refine ZeS (a := .ref M.length) (M1 := M ++ [.lst ((Zax roll ss (ss.length - 1)).map Zo), .lst (ss.dropLast.map Zf)]) rfl ?_
  simp only [ZaB, ZaM, if_pos so, hs, alloc]
  simp
 refine ZeS bsr ?_
 simp only [ZaD, ZbW]
 rfl
theorem ZfU (us2 : List Use) (t : Nat) (M : Store) (hz : us2.length < 64) : ZbL [.tup (us2.map Zo), .int (t : Int)] M = .ok (ZaA (Zak (ZaQ [] (us2.filter fun u => decide (u.time < (t : Int)))))) M := by
 obtain ⟨e', M', lp, x3, x4, x5, x6, rfl, rfl⟩ := ZdL (it := ⟨us2.map Zo, none⟩) (g := ZdM [3, 4, 5, 6])
  (body := (sIf (e2 ZjN (Zb 4) (Zb 1)) (Zei (Zb 2) (Zb 3) (Zb 6)) (Zv)))
  (P := fun j env M' => ∃ x3 x4 x5 x6, env = [some (.tup (us2.map Zo)), some (.int (t : Int)), some (.ref M.length), x3, x4, x5, x6] ∧ M' = M ++ [.dct (Zaa (ZaQ [] ((us2.take j).filter fun u => decide (u.time < (t : Int)))))])
  (us2.map Zo) 0 [some (.tup (us2.map Zo)), some (.int (t : Int)), some (.ref M.length), none, none, none, none] (M ++ [.dct (Zaa [])]) ⟨none, none, none, none, rfl, rfl⟩ (fun _ _ _ _ => rfl)
  (fun k d hd env M' ⟨x3, x4, x5, x6, he, hm⟩ => by
   subst he hm
   rw [List.getElem?_map] at hd
   cases hk : us2[k]? with
   | none => rw [hk] at hd; cases hd
   | some u =>
    rw [hk] at hd
    cases hd
    have hl := (List.getElem?_eq_some_iff.mp hk).1
    have tk : us2.take (k + 1) = us2.take k ++ [u] := by rw [List.take_add_one, hk]; rfl
    rw [Nat.zero_add, tk, List.filter_append]
    generalize hh : ZaQ [] ((us2.take k).filter fun u => decide (u.time < (t : Int))) = hd'
    have lh : hd'.length < 1000000 := by
     have h1 := ZdS ((us2.take k).filter fun u => decide (u.time < (t : Int))) []
     have h2 := List.length_filter_le (fun u : Use => decide (u.time < (t : Int))) (us2.take k)
     rw [hh] at h1
     simp at h1 h2; omega
    have cc : (e2 ZjN (Zb 4) (Zb 1)) [some (.tup (us2.map Zo)), some (.int (t : Int)), some (.ref M.length), some (.int u.num), some (.int u.time), some (.str u.word), some (.int u.val)] (M ++ [.dct (Zaa hd')]) = .ok (.bl (decide (u.time < (t : Int)))) (M ++ [.dct (Zaa hd')]) := rfl
    refine ⟨[some (.tup (us2.map Zo)), some (.int (t : Int)), some (.ref M.length), some (.int u.num), some (.int u.time), some (.str u.word), some (.int u.val)], ?_⟩
    by_cases c : u.time < (t : Int)
    ·refine ⟨_, M ++ [.dct (Zaa (ZcJ hd' u.num u.val))], rfl, (Zir (cc.trans (by rw [decide_eq_true c]))).trans (Zde (d := .non) ?_), _, _, _, _, rfl, ?_⟩
     ·have le : (Zaa hd').length < 1000000 := by simpa [Zaa] using lh
      simp [le, ZdV]
     ·rw [List.filter_cons_of_pos (by simpa using c)]
      simp only [ZaQ, List.foldl_append, List.filter_nil, List.foldl_cons, List.foldl_nil] at hh ⊢
      rw [hh]
    ·refine ⟨_, M ++ [.dct (Zaa hd')], rfl, ZbF (cc.trans (by rw [decide_eq_false c])), _, _, _, _, rfl, ?_⟩
     rw [List.filter_cons_of_neg (by simpa using c), List.filter_nil, List.append_nil, hh])
 rw [Nat.zero_add, List.length_map, List.take_of_length_le (Nat.le_refl _)] at lp
 have kk := Zdn (us2.filter fun u => decide (u.time < (t : Int))) [] (by simp [keysOk])
 have lh : (ZaQ [] (us2.filter fun u => decide (u.time < (t : Int)))).length < 64 := by
  have h1 := ZdS (us2.filter fun u => decide (u.time < (t : Int))) []
  have h2 := List.length_filter_le (fun u : Use => decide (u.time < (t : Int))) us2
  simp at h1 h2; omega
 generalize ZaQ [] (us2.filter fun u => decide (u.time < (t : Int))) = T at lp kk lh
 have nz := ZeZ (i := 2) (env := [some (.tup (us2.map Zo)), some (.int (t : Int)), some (.ref M.length), x3, x4, x5, x6]) (t := T) (n := M.length) (own := 1) (M := M ++ [.dct (Zaa T)]) (c := e2 Zc9 (e2 ZaY (Zb 2) (Zb 7)) (eC (.int 0))) (elt := ZaU (Za (Zb 7) (Za (e2 ZaY (Zb 2) (Zb 7)) (Ze)))) rfl (ZaM _ _ _) (by omega)
  (fun p hp M' h => by
   refine ZbE (ZbE rfl rfl (Zeu kk hp h)) rfl ?_
   simp)
  (fun p hp M' h => by
   have := ZbE (f := Zb 2) (g := Zb 7) (env := [some (.tup (us2.map Zo)), some (.int (t : Int)), some (.ref M.length), x3, x4, x5, x6, some (.int p.1)]) rfl rfl (Zeu kk hp h)
   show ZaU (Za (Zb 7) (Za (e2 ZaY (Zb 2) (Zb 7)) Ze)) [some (.tup (us2.map Zo)), some (.int (t : Int)), some (.ref M.length), x3, x4, x5, x6, some (.int p.1)] _ = _
   generalize e2 ZaY (Zb 2) (Zb 7) = E at this ⊢
   simp only [ZaU, Za, Ze, Zb, R3.bind, this, List.getElem?_cons_zero, List.getElem?_cons_succ]
   simp [Zz])
 have st := ZeN kk lh nz (ZaM _ _ _)
 refine Rt.pure (G := [.dct (Zaa T), .lst ((T.filter fun p => decide (p.2 ≠ 0)).map Zz), .lst ((Zak T).map Zz)]) (env := [some (.tup (us2.map Zo)), some (.int (t : Int)), none, none, none, none, none]) ?_ (ZgD _ _)
 refine (Zw (Zai (d := .ref M.length) (M' := M ++ [.dct (Zaa [])]) (by simp [Zaa]))).trans ((Zw ((Zgo (it := ⟨us2.map Zo, none⟩) (M' := M ++ [.dct (Zaa [])]) rfl).trans lp)).trans (Zcs (ZeS st ?_)))
 simp only [ZaD, ZaM, ZaA]
 simp
theorem Zfw {roll : Za9} (R : ZcU roll) {ss : List Stt} (C : Chain roll ss) (G : ∀ s ∈ ss, Good roll s) (h0 : ∀ s, ss[0]? = some s → s.cells = []) : ∀ (t : Nat) (s : Stt), ss[t]? = some s → s.cells.length ≤ t
 | 0, s, h => by rw [h0 s h]; simp
 | t + 1, s', h' => by
  have ht : t < ss.length := by have := (List.getElem?_eq_some_iff.mp h').1; omega
  have h : ss[t]? = some ss[t] := by simp [ht]
  have ih := Zfw R C G h0 t _ h
  have := (Zd8 R (G _ (List.getElem_mem ht)) (C t _ s' h h')).2
  omega
theorem Zhl {us us2 : List Use} (p : us2.Perm us) (h : us.Pairwise fun a b => a.time < b.time) : Zfk (us2.map fun u => D.int u.time) = us.map fun u => D.int u.time := by
 refine ZdY ⟨(p.map _).symm, ?_⟩
 rw [List.pairwise_map]
 refine h.imp fun {a b} h => ?_
 show some (decide (b.time < a.time)) = some false
 rw [decide_eq_false (by omega)]
theorem Zf6 {us : List Use} (h : us.length < 64) : Zgh (us.map fun u => D.int u.time) := by
 refine ⟨by simpa using h, .inr (by simp [Zdb]), fun a ha b hb => ?_⟩
 obtain ⟨p, _, rfl⟩ := List.mem_map.mp ha
 obtain ⟨q, _, rfl⟩ := List.mem_map.mp hb
 rfl
theorem ZiF (E : Zal) (us2 : List Use) (M : Store) (n : Nat) (hn : n = M.length) (hz : us2.length < 64) (h : ∀ p u q, us2 = p ++ u :: q → u.word = GET → u.val = Zbc (ZaQ [] p) u.num) (e1 e2' e3 e4 e5 e10 : Option D) :
  ∃ y6 y7 y8 y9, ZcE ⟨us2.map Zo, none⟩ (ZdM [6, 7, 8, 9]) (Zu (sIf (ZdC (e2 Zba (Zb 8) (eC (.str [103, 101, 116]))) (e2 Zc9 (Zb 9) (Zcq Zd1 Zd9 (Zb 5) (Za (Zb 6) (Za (eC (.int 0)) (Ze)))))) (Zah (eC (.bl false))) (Zv)) (Zei (Zb 5) (Zb 6) (Zb 9))) (us2.map Zo) [e1, e2', e3, e4, e5, some (.ref n), none, none, none, none, e10] (M ++ [.dct (Zaa [])]) =
   .nx [e1, e2', e3, e4, e5, some (.ref n), y6, y7, y8, y9, e10] (M ++ [.dct (Zaa (ZaQ [] us2))]) := by
 subst hn
 obtain ⟨e', M', lp, x6, x7, x8, x9, rfl, rfl⟩ := ZdL (it := ⟨us2.map Zo, none⟩) (g := ZdM [6, 7, 8, 9])
  (body := (Zu (sIf (ZdC (e2 Zba (Zb 8) (eC (.str [103, 101, 116]))) (e2 Zc9 (Zb 9) (Zcq Zd1 Zd9 (Zb 5) (Za (Zb 6) (Za (eC (.int 0)) (Ze)))))) (Zah (eC (.bl false))) (Zv)) (Zei (Zb 5) (Zb 6) (Zb 9))))
  (P := fun j env M' => ∃ x6 x7 x8 x9, env = [e1, e2', e3, e4, e5, some (.ref M.length), x6, x7, x8, x9, e10] ∧ M' = M ++ [.dct (Zaa (ZaQ [] (us2.take j)))])
  (us2.map Zo) 0 [e1, e2', e3, e4, e5, some (.ref M.length), none, none, none, none, e10] (M ++ [.dct (Zaa [])]) ⟨none, none, none, none, rfl, rfl⟩ (fun _ _ _ _ => rfl)
  (fun k d hd env M' ⟨x6, x7, x8, x9, he, hm⟩ => by
   subst he hm
   rw [List.getElem?_map] at hd
   cases hk : us2[k]? with
   | none => rw [hk] at hd; cases hd
   | some u =>
    rw [hk] at hd
    cases hd
    obtain ⟨hl, hu⟩ := List.getElem?_eq_some_iff.mp hk
    have tk : us2.take (k + 1) = us2.take k ++ [u] := by rw [List.take_add_one, hk]; rfl
    have sp : us2 = us2.take k ++ u :: us2.drop (k + 1) := by
     rw [← hu, List.getElem_cons_drop, List.take_append_drop]
    have hv := h _ u _ sp
    rw [Nat.zero_add, tk]
    have lh := ZdS (us2.take k) []
    have ld : ZaQ [] (us2.take k ++ [u]) = ZcJ (ZaQ [] (us2.take k)) u.num u.val := by simp [ZaQ]
    rw [ld]
    generalize ZaQ [] (us2.take k) = T at hv lh
    have le : (Zaa T).length < 1000000 := by
     simp only [List.length_nil, List.length_take] at lh
     simp only [Zaa, List.length_map]; omega
    have gm : (Zcq Zd1 Zd9 (Zb 5) (Za (Zb 6) (Za (eC (.int 0)) (Ze)))) [e1, e2', e3, e4, e5, some (.ref M.length), some (.int u.num), some (.int u.time), some (.str u.word), some (.int u.val), e10] (M ++ [.dct (Zaa T)]) = .ok (.int (Zbc T u.num)) (M ++ [.dct (Zaa T)]) := by
     simp only [Zcq, Zb, Za, eC, Ze, R3.bind, List.getElem?_cons_zero, List.getElem?_cons_succ, Zd1, ZaM, ZbN, Option.isSome_some, if_true, Zd9, Zdu, Zda]
    have c8 : (e2 Zba (Zb 8) (eC (.str [103, 101, 116]))) [e1, e2', e3, e4, e5, some (.ref M.length), some (.int u.num), some (.int u.time), some (.str u.word), some (.int u.val), e10] (M ++ [.dct (Zaa T)]) = .ok (.bl (decide (u.word = GET))) (M ++ [.dct (Zaa T)]) := rfl
    have cc : (ZdC (e2 Zba (Zb 8) (eC (.str [103, 101, 116]))) (e2 Zc9 (Zb 9) (Zcq Zd1 Zd9 (Zb 5) (Za (Zb 6) (Za (eC (.int 0)) (Ze)))))) [e1, e2', e3, e4, e5, some (.ref M.length), some (.int u.num), some (.int u.time), some (.str u.word), some (.int u.val), e10] (M ++ [.dct (Zaa T)]) = .ok (.bl false) (M ++ [.dct (Zaa T)]) := by
     by_cases c : u.word = GET
     ·rw [ZhV (c8.trans (by rw [decide_eq_true c]))]
      refine ZbE (a := .int u.val) rfl gm ?_
      simp [← hv c]
     ·exact ZhW (c8.trans (by rw [decide_eq_false c]))
    refine ⟨_, _, M ++ [.dct (Zaa (ZcJ T u.num u.val))], rfl, (Zw (ZbF cc)).trans (Zde (d := .non) ?_), _, _, _, _, rfl, rfl⟩
    simp [le, ZdV])
 rw [Nat.zero_add, List.length_map, List.take_of_length_le (Nat.le_refl _)] at lp
 exact ⟨_, _, _, _, lp⟩
theorem law_holds : ∀ ns : List Int, ns.length ≤ 63 → ∃ M', Zil [.scr (ns.map D.int)] [] = .ok (.bl true) M' := by
 intro ns hns
 obtain ⟨roll, lroll, R, h1⟩ := Zk7 ns []
 obtain ⟨bs, lb, h2⟩ := Zjh ns []
 obtain ⟨n, G, hn, h3, g0⟩ := ZiY roll R bs 60 [] (by omega) lb
 have pos : 0 < roll.length := by obtain ⟨q, x, e, _⟩ := R.last; rw [e]; simp
 have hl : (ZbD roll 60 ⟨0, bs, []⟩).length ≤ 61 := Zha roll 60 _
 have hgood : ∀ s ∈ ZbD roll 60 ⟨0, bs, []⟩, Good roll s := fun s hs => Zfp R 60 ⟨0, bs, []⟩ ⟨pos, lb, by simp [Zce]⟩ s hs
 have hl0 : 0 < (ZbD roll 60 ⟨0, bs, []⟩).length := List.length_pos_iff.mpr (Zk3 roll 60 ⟨0, bs, []⟩)
 have C := ZeE roll 60 ⟨0, bs, []⟩
 have hh : ∀ s, (ZbD roll 60 ⟨0, bs, []⟩)[0]? = some s → s.cells = [] := fun s h => by rw [ZfN] at h; cases h; rfl
 simp only [List.nil_append] at h3 g0
 generalize ZbD roll 60 ⟨0, bs, []⟩ = ss at *
 have clen := Zfw R C hgood hh
 obtain ⟨us2, S, hsort⟩ := ZhP (Zax roll ss (ss.length - 1)) (by have := Zdm roll ss (ss.length - 1); omega)
 have lu : us2.length < 64 := by have := Zdm roll ss (ss.length - 1); have := S.perm.length_eq; omega
 have h4 := Zht roll R ss n G g0 hgood (fun s hs => by
  obtain ⟨i, hi, e⟩ := List.mem_iff_getElem.mp hs
  have := clen i s (by rw [← e]; simp)
  omega) (by omega) hsort
 refine Rt.law (env := [some (.scr (ns.map D.int)), none, none, none, none, none, none, none, none, none, none]) ?_
 unfold Zjt
 refine Rt.set (d := Zn roll) (M' := []) (ZhG rfl h1) ?_
 refine Rt.set (d := .ref n) (M' := G) (ZhO (M1 := []) (M2 := []) (M3 := []) (a := Zn roll) (b := Zaw bs) (c := .int 60) rfl (ZhG rfl h2) rfl h3) ?_
 refine Rt.set (d := .tup (us2.map Zo)) (M' := G) (ZeW rfl rfl h4) ?_
 have ir : ∀ (E : Zal), E[2]? = some (some (.ref n)) → ZbV (Zan Zbr (Za (Zb 2) (Ze))) E G = .ok ⟨Zb8 0 ss.length, none⟩ G := fun E hE => by
  have b : ((ss.length : Int)) ≤ 1000000 ∧ -1000000 ≤ ((ss.length : Int)) := by omega
  simp [hE, g0, b]
 obtain ⟨e', M', lp, x4, rfl, rfl⟩ := ZdL (it := ⟨Zb8 0 ss.length, none⟩) (g := Zck 4)
  (body := (sIf (e2 Zc9 (Zam ZbL (Za (Zb 3) (Za (Zb 4) (Ze)))) (e2 Zg (e2 Zg (Zb 2) (Zb 4)) (eC (.int 2)))) (Zah (eC (.bl false))) (Zv)))
  (P := fun _ env M' => ∃ x4, env = [some (.scr (ns.map D.int)), some (Zn roll), some (.ref n), some (.tup (us2.map Zo)), x4, none, none, none, none, none, none] ∧ M' = G)
  (Zb8 0 ss.length) 0 [some (.scr (ns.map D.int)), some (Zn roll), some (.ref n), some (.tup (us2.map Zo)), none, none, none, none, none, none, none] G ⟨none, rfl, rfl⟩ (fun _ _ _ _ => rfl)
  (fun k d hd env M' ⟨x4, he, hm⟩ => by
   obtain ⟨rfl, lk⟩ := ZeP hd
   subst he hm
   have hs : ss[k]? = some ss[k] := by simp [lk]
   have st := Zg4 C hgood hh S hs
   have ce := ZfU us2 k M' lu
   rw [st] at ce
   generalize ss[k] = s at hs ce
   refine ⟨[some (.scr (ns.map D.int)), some (Zn roll), some (.ref n), some (.tup (us2.map Zo)), some (.int (k : Int)), none, none, none, none, none, none], _, _, rfl, ZbF (M' := M') ?_, _, rfl, rfl⟩
   refine ZbE (ZeW rfl rfl ce) (b := ZaA s.cells) (M2 := M') (by simp [g0, hs, Zf]) ?_
   have pu : (s.cells.map Zz).all (Zag DEEP) = true := by simp [Zz, Zag, ZgG]
   simp only [ZaA, Zc9, eqD, pu, Bool.and_self, if_true, ZfI pu, Bool.not_true])
 refine Rt.loop (ir _ rfl) lp ?_
 refine Rt.set (d := .ref M'.length) (M' := M' ++ [.dct (Zaa [])]) (by simp [Zaa]) ?_
 obtain ⟨y6, y7, y8, y9, lp2⟩ := ZiF [] us2 M' M'.length rfl lu (fun p u q e hw => Zj7 C hgood hh S e hw) (some (.scr (ns.map D.int))) (some (Zn roll)) (some (.ref n)) (some (.tup (us2.map Zo))) x4 none
 refine Rt.loop (it := ⟨us2.map Zo, none⟩) (M1 := M' ++ [.dct (Zaa [])]) rfl lp2 ?_
 have g1 := ZcS g0 [.dct (Zaa (ZaQ [] us2))]
 generalize M' ++ [MO.dct (Zaa (ZaQ [] us2))] = M2 at g1
 have iu : ∀ (r : Row) (t : Nat) (s : Stt) (M : Store), ZgU (.str (Ze1 r)) (.tup [.str [103, 101, 116], .str [115, 101, 116]]) M = .ok (.bl (Zc0 r t s).isSome) M := fun r t s M => by
  cases r <;> simp [Ze1, Zc0, Zas, deq]
 have lc : (eLC (ZbV (e2 Zeg (Zan Zbr (Za (Zb 2) (Ze))) (eC (.int 1)))) 1 (Zck 11) [e2 ZgU (e2 Zg (e2 Zg (Zb 1) (e2 Zg (e2 Zg (Zb 2) (Zb 11)) (eC (.int 0)))) (eC (.int 0))) (ZaU (Za (eC (.str [103, 101, 116])) (Za (eC (.str [115, 101, 116])) (Ze))))] (Zb 11)) [some (.scr (ns.map D.int)), some (Zn roll), some (.ref n), some (.tup (us2.map Zo)), x4, some (.ref M'.length), y6, y7, y8, y9, none] M2 = .ok (.ref M2.length) (M2 ++ [.lst (((List.range (ss.length - 1)).filter fun t => (Za7 roll ss t).isSome).map fun (t : Nat) => D.int (0 + (t : Int)))]) := by
  have ir2 : ZbV (e2 Zeg (Zan Zbr (Za (Zb 2) (Ze))) (eC (.int 1))) [some (.scr (ns.map D.int)), some (Zn roll), some (.ref n), some (.tup (us2.map Zo)), x4, some (.ref M'.length), y6, y7, y8, y9, none] M2 = .ok ⟨Zb8 0 (ss.length - 1), none⟩ M2 := by
   have b : ((ss.length : Int) - 1) ≤ 1000000 ∧ -1000000 ≤ ((ss.length : Int) - 1) := by omega
   have e : ((ss.length : Int) - 1).toNat = ss.length - 1 := by omega
   simp [g1, b, e]
  rw [Zh6 ir2]
  have st : ∀ x : List D, (M2 ++ [MO.lst []]).set M2.length (.lst x) = M2 ++ [.lst x] := fun x => by simp
  have := ZdK (α := Nat) (enc := fun (t : Nat) => D.int (0 + (t : Int))) (h := fun (t : Nat) => D.int (0 + (t : Int))) (p := fun t => (Za7 roll ss t).isSome) (it := ⟨Zb8 0 (ss.length - 1), none⟩) (i := 11) (n := M2.length) (c := e2 ZgU (e2 Zg (e2 Zg (Zb 1) (e2 Zg (e2 Zg (Zb 2) (Zb 11)) (eC (.int 0)))) (eC (.int 0))) (ZaU (Za (eC (.str [103, 101, 116])) (Za (eC (.str [115, 101, 116])) (Ze))))) (elt := Zb 11)
   (env0 := [some (.scr (ns.map D.int)), some (Zn roll), some (.ref n), some (.tup (us2.map Zo)), x4, some (.ref M'.length), y6, y7, y8, y9, none, none]) (List.range (ss.length - 1)) [] [some (.scr (ns.map D.int)), some (Zn roll), some (.ref n), some (.tup (us2.map Zo)), x4, some (.ref M'.length), y6, y7, y8, y9, none, none] (M2 ++ [.lst []]) (fun _ => rfl)
   (fun t ht x => by
    have lt := List.mem_range.mp ht
    rw [st]
    have hs : ss[t]? = some ss[t] := by simp
    have g := hgood _ (List.getElem_mem (show t < ss.length by omega))
    generalize ss[t] = s at hs g
    have gp := g.pl
    have hr : roll[s.place]? = some roll[s.place] := by simp [gp]
    generalize roll[s.place] = r at hr
    have ea : Za7 roll ss t = Zc0 r t s := by simp [Za7, hs, hr]
    rw [ea]
    have g2 := ZcS g1 [.lst x]
    generalize M2 ++ [MO.lst x] = M3 at g2
    refine ZbE (ZbE (a := Zj r) (M1 := M3) ?_ rfl (ZeX r M3)) (b := .tup [.str [103, 101, 116], .str [115, 101, 116]]) (M2 := M3) (by simp) (iu r t s M3)
    simp [g2, hs, Zf, Zn, hr])
   (fun t ht _ x => rfl) (fun _ => rfl) (by simp) (by simp; omega)
  rw [st] at this
  exact this
 refine Rt.set lc ?_
 have g10 : (M2 ++ [MO.lst (((List.range (ss.length - 1)).filter fun t => (Za7 roll ss t).isSome).map fun (t : Nat) => D.int (0 + (t : Int)))])[M2.length]? = some (.lst (((List.range (ss.length - 1)).filter fun t => (Za7 roll ss t).isSome).map fun (t : Nat) => D.int (0 + (t : Int)))) := ZaM _ _ _
 have due : (((List.range (ss.length - 1)).filter fun t => (Za7 roll ss t).isSome).map fun (t : Nat) => D.int (0 + (t : Int))) = (Zax roll ss (ss.length - 1)).map fun u => D.int u.time := by
  have := congrArg (List.map D.int) (Zeo roll ss (ss.length - 1))
  rw [List.map_map, List.map_map] at this
  simp only [Int.zero_add]
  exact this.symm
 rw [due] at g10 ⊢
 generalize M2 ++ [MO.lst ((Zax roll ss (ss.length - 1)).map fun u => D.int u.time)] = M3 at g10
 have lm := Zl6 (enc := Zo) (h := fun u => D.int u.time) (own := 1) (i := 11) (it := Zhw (Zb 3)) (elt := e2 Zg (Zb 11) (eC (.int 1))) (env := [some (.scr (ns.map D.int)), some (Zn roll), some (.ref n), some (.tup (us2.map Zo)), x4, some (.ref M'.length), y6, y7, y8, y9, some (.ref M2.length)]) (M := M3) (M1 := M3) (lock := none) (as := us2) rfl (fun n h => by cases h) (fun u hu M => by simp [Zo]) (by omega)
 have so := Zf6 lu
 have sr : Zan ZaB (Za (eLC (Zhw (Zb 3)) 1 (Zck 11) [] (e2 Zg (Zb 11) (eC (.int 1)))) (Ze)) [some (.scr (ns.map D.int)), some (Zn roll), some (.ref n), some (.tup (us2.map Zo)), x4, some (.ref M'.length), y6, y7, y8, y9, some (.ref M2.length)] M3 = .ok (.ref (M3.length + 1)) (M3 ++ [.lst (us2.map fun u => D.int u.time), .lst ((Zax roll ss (ss.length - 1)).map fun u => D.int u.time)]) := by
  refine ZeS lm ?_
  simp only [ZaB, ZaM, if_pos so, Zhl S.perm (Zcl roll ss _), alloc]
  simp
 refine Rt.ret (M' := M3 ++ [.lst (us2.map fun u => D.int u.time), .lst ((Zax roll ss (ss.length - 1)).map fun u => D.int u.time)]) (ZbE sr rfl (Zk2 (ZbW _ _ 1) (ZcS g10 _) ?_))
 simp [ZgG]
end Law
set_option maxHeartbeats 400000
namespace Law
open PySem PySem.Spec PyProof.Rows L2 L3
theorem ZlZ {l : PySem.W.OpenLaw} {w : World} {K : W.Frag} {h : Heap} {mg : Str → Option Value} {fa f0 f1 f2 f3 f4 f5 f6 f7 f8 f9 f10 f11 f12 f13 : Addr} (X : K.In h) (G : h.Ns mainGlobals mg) (hfa : mg "law" = some (.ref fa))
  {od0 an0 od1 an1 od2 an2 od3 an3 od4 an4 od5 an5 od6 an6 od7 an7 od8 an8 od9 an9 od10 an10 od11 an11 od12 an12 od13 an13 : Option Addr} {sl0 sl1 sl2 sl3 sl4 sl5 sl6 sl7 sl8 sl9 sl10 sl11 sl12 sl13 : Array (Option Value)} {oc0 kV0 dc0 pm0 cd0 ct0 oc1 kV1 dc1 pm1 cd1 ct1 oc2 kV2 dc2 pm2 cd2 ct2 oc3 kV3 dc3 pm3 cd3 ct3 oc4 kV4 dc4 pm4 cd4 ct4 oc5 kV5 dc5 pm5 cd5 ct5 oc6 kV6 dc6 pm6 cd6 ct6 oc7 kV7 dc7 pm7 cd7 ct7 oc8 kV8 dc8 pm8 cd8 ct8 oc9 kV9 dc9 pm9 cd9 ct9 oc10 kV10 dc10 pm10 cd10 ct10 oc11 kV11 dc11 pm11 cd11 ct11 oc12 kV12 dc12 pm12 cd12 ct12 oc13 kV13 dc13 pm13 cd13 ct13 : Value}
  (a0 : W.nsIn K mainGlobals "cell_value" = some (some (.ref f0))) (l0 : K.lookup f0 = some ⟨oc0, od0, .func (W.fnOf "cell_value" "cell_value" (Zay Zbg) (Zat Zbg) (Zq Zbg) .none kV0 dc0 pm0 an0 cd0 ct0), sl0⟩) (c0 : W.codeIn K cd0 "cell_value" = true) (k0 : W.keepIn K (.ref f0) = true)
  (a1 : W.nsIn K mainGlobals "is_use" = some (some (.ref f1))) (l1 : K.lookup f1 = some ⟨oc1, od1, .func (W.fnOf "is_use" "is_use" (Zay ZcL) (Zat ZcL) (Zq ZcL) .none kV1 dc1 pm1 an1 cd1 ct1), sl1⟩) (c1 : W.codeIn K cd1 "is_use" = true) (k1 : W.keepIn K (.ref f1) = true)
  (a2 : W.nsIn K mainGlobals "cell_number" = some (some (.ref f2))) (l2 : K.lookup f2 = some ⟨oc2, od2, .func (W.fnOf "cell_number" "cell_number" (Zay Za6) (Zat Za6) (Zq Za6) .none kV2 dc2 pm2 an2 cd2 ct2), sl2⟩) (c2 : W.codeIn K cd2 "cell_number" = true) (k2 : W.keepIn K (.ref f2) = true)
  (a3 : W.nsIn K mainGlobals "use_of" = some (some (.ref f3))) (l3 : K.lookup f3 = some ⟨oc3, od3, .func (W.fnOf "use_of" "use_of" (Zay ZcD) (Zat ZcD) (Zq ZcD) .none kV3 dc3 pm3 an3 cd3 ct3), sl3⟩) (c3 : W.codeIn K cd3 "use_of" = true) (k3 : W.keepIn K (.ref f3) = true)
  (a4 : W.nsIn K mainGlobals "uses_of" = some (some (.ref f4))) (l4 : K.lookup f4 = some ⟨oc4, od4, .func (W.fnOf "uses_of" "uses_of" (Zay Zb6) (Zat Zb6) (Zq Zb6) .none kV4 dc4 pm4 an4 cd4 ct4), sl4⟩) (c4 : W.codeIn K cd4 "uses_of" = true) (k4 : W.keepIn K (.ref f4) = true)
  (a5 : W.nsIn K mainGlobals "_law_mix" = some (some (.ref f5))) (l5 : K.lookup f5 = some ⟨oc5, od5, .func (W.fnOf "_law_mix" "_law_mix" (Zay ZbS) (Zat ZbS) (Zq ZbS) .none kV5 dc5 pm5 an5 cd5 ct5), sl5⟩) (c5 : W.codeIn K cd5 "_law_mix" = true) (k5 : W.keepIn K (.ref f5) = true)
  (a6 : W.nsIn K mainGlobals "_law_number" = some (some (.ref f6))) (l6 : K.lookup f6 = some ⟨oc6, od6, .func (W.fnOf "_law_number" "_law_number" (Zay Za2) (Zat Za2) (Zq Za2) .none kV6 dc6 pm6 an6 cd6 ct6), sl6⟩) (c6 : W.codeIn K cd6 "_law_number" = true) (k6 : W.keepIn K (.ref f6) = true)
  (a7 : W.nsIn K mainGlobals "_law_row" = some (some (.ref f7))) (l7 : K.lookup f7 = some ⟨oc7, od7, .func (W.fnOf "_law_row" "_law_row" (Zay ZbT) (Zat ZbT) (Zq ZbT) .none kV7 dc7 pm7 an7 cd7 ct7), sl7⟩) (c7 : W.codeIn K cd7 "_law_row" = true) (k7 : W.keepIn K (.ref f7) = true)
  (a8 : W.nsIn K mainGlobals "_law_roll" = some (some (.ref f8))) (l8 : K.lookup f8 = some ⟨oc8, od8, .func (W.fnOf "_law_roll" "_law_roll" (Zay ZbA) (Zat ZbA) (Zq ZbA) .none kV8 dc8 pm8 an8 cd8 ct8), sl8⟩) (c8 : W.codeIn K cd8 "_law_roll" = true) (k8 : W.keepIn K (.ref f8) = true)
  (a9 : W.nsIn K mainGlobals "_law_boxes" = some (some (.ref f9))) (l9 : K.lookup f9 = some ⟨oc9, od9, .func (W.fnOf "_law_boxes" "_law_boxes" (Zay Zbj) (Zat Zbj) (Zq Zbj) .none kV9 dc9 pm9 an9 cd9 ct9), sl9⟩) (c9 : W.codeIn K cd9 "_law_boxes" = true) (k9 : W.keepIn K (.ref f9) = true)
  (a10 : W.nsIn K mainGlobals "_law_goes" = some (some (.ref f10))) (l10 : K.lookup f10 = some ⟨oc10, od10, .func (W.fnOf "_law_goes" "_law_goes" (Zay Zbz) (Zat Zbz) (Zq Zbz) .none kV10 dc10 pm10 an10 cd10 ct10), sl10⟩) (c10 : W.codeIn K cd10 "_law_goes" = true) (k10 : W.keepIn K (.ref f10) = true)
  (a11 : W.nsIn K mainGlobals "_law_states" = some (some (.ref f11))) (l11 : K.lookup f11 = some ⟨oc11, od11, .func (W.fnOf "_law_states" "_law_states" (Zay Za3) (Zat Za3) (Zq Za3) .none kV11 dc11 pm11 an11 cd11 ct11), sl11⟩) (c11 : W.codeIn K cd11 "_law_states" = true) (k11 : W.keepIn K (.ref f11) = true)
  (a12 : W.nsIn K mainGlobals "_law_cells" = some (some (.ref f12))) (l12 : K.lookup f12 = some ⟨oc12, od12, .func (W.fnOf "_law_cells" "_law_cells" (Zay Zbi) (Zat Zbi) (Zq Zbi) .none kV12 dc12 pm12 an12 cd12 ct12), sl12⟩) (c12 : W.codeIn K cd12 "_law_cells" = true) (k12 : W.keepIn K (.ref f12) = true)
  (a13 : W.nsIn K mainGlobals "law" = some (some (.ref f13))) (l13 : K.lookup f13 = some ⟨oc13, od13, .func (W.fnOf "law" "law" (Zay ZdW) (Zat ZdW) (Zq ZdW) .none kV13 dc13 pm13 an13 cd13 ct13), sl13⟩) (c13 : W.codeIn K cd13 "law" = true) (k13 : W.keepIn K (.ref f13) = true)
  (z_dict : W.nsIn K mainGlobals "dict" = some none)
  (z_enumerate : W.nsIn K mainGlobals "enumerate" = some none)
  (z_int : W.nsIn K mainGlobals "int" = some none)
  (z_len : W.nsIn K mainGlobals "len" = some none)
  (z_list : W.nsIn K mainGlobals "list" = some none)
  (z_range : W.nsIn K mainGlobals "range" = some none)
  (z_sorted : W.nsIn K mainGlobals "sorted" = some none)
  (z_tuple : W.nsIn K mainGlobals "tuple" = some none) :
  ∃ fd : FuncData, (∀ (s : Shared) (v : Value), BindsTo s fd ⟨[v], []⟩ [("script", v)]) ∧ ∀ base : Heap, K.In base → base.Ns mainGlobals mg → ZeD l.prog w K mg base CX0 4 fa fd ["script"] (sp3 K 1 Zil) := by
 have e := hfa.symm.trans (W.mg_of X G a13)
 cases e
 have T : Txt K mg := ⟨trivial, W.mg_none_of X G z_dict, W.mg_none_of X G z_enumerate, W.mg_none_of X G z_int, W.mg_none_of X G z_len, W.mg_none_of X G z_list, W.mg_none_of X G z_range, W.mg_none_of X G z_sorted, W.mg_none_of X G z_tuple⟩
 have D_cell_value : ZaR K mg "cell_value" Zbg ["cells", "number"] := ZaV X G a0 l0 c0 k0 (Binds.all fun us hl => match us, hl with | [_, _], _ => rfl)
 have D_is_use : ZaR K mg "is_use" ZcL ["row"] := ZaV X G a1 l1 c1 k1 (Binds.all fun us hl => match us, hl with | [_], _ => rfl)
 have D_cell_number : ZaR K mg "cell_number" Za6 ["row", "boxes"] := ZaV X G a2 l2 c2 k2 (Binds.all fun us hl => match us, hl with | [_, _], _ => rfl)
 have D_use_of : ZaR K mg "use_of" ZcD ["row", "time", "state"] := ZaV X G a3 l3 c3 k3 (Binds.all fun us hl => match us, hl with | [_, _, _], _ => rfl)
 have D_uses_of : ZaR K mg "uses_of" Zb6 ["roll", "states"] := ZaV X G a4 l4 c4 k4 (Binds.all fun us hl => match us, hl with | [_, _], _ => rfl)
 have D__law_mix : ZaR K mg "_law_mix" ZbS ["cell", "k"] := ZaV X G a5 l5 c5 k5 (Binds.all fun us hl => match us, hl with | [_, _], _ => rfl)
 have D__law_number : ZaR K mg "_law_number" Za2 ["number"] := ZaV X G a6 l6 c6 k6 (Binds.all fun us hl => match us, hl with | [_], _ => rfl)
 have D__law_row : ZaR K mg "_law_row" ZbT ["cell", "k", "size"] := ZaV X G a7 l7 c7 k7 (Binds.all fun us hl => match us, hl with | [_, _, _], _ => rfl)
 have D__law_roll : ZaR K mg "_law_roll" ZbA ["script"] := ZaV X G a8 l8 c8 k8 (Binds.all fun us hl => match us, hl with | [_], _ => rfl)
 have D__law_boxes : ZaR K mg "_law_boxes" Zbj ["script"] := ZaV X G a9 l9 c9 k9 (Binds.all fun us hl => match us, hl with | [_], _ => rfl)
 have D__law_goes : ZaR K mg "_law_goes" Zbz ["row", "place", "boxes", "cells"] := ZaV X G a10 l10 c10 k10 (Binds.all fun us hl => match us, hl with | [_, _, _, _], _ => rfl)
 have D__law_states : ZaR K mg "_law_states" Za3 ["roll", "first", "most"] := ZaV X G a11 l11 c11 k11 (Binds.all fun us hl => match us, hl with | [_, _, _], _ => rfl)
 have D__law_cells : ZaR K mg "_law_cells" Zbi ["uses", "time"] := ZaV X G a12 l12 c12 k12 (Binds.all fun us hl => match us, hl with | [_, _], _ => rfl)
 refine ⟨W.fnOf "law" "law" (Zay ZdW) (Zat ZdW) (Zq ZdW) .none kV13 dc13 pm13 an13 cd13 ct13, fun s v => .of_eq rfl, fun base _ _ => ?_⟩
 have F_cell_value := Zfg (P := l.prog) (w := w) (base := base) D_cell_value T
 have F_is_use := ZiW (P := l.prog) (w := w) (base := base) D_is_use T
 have F_cell_number := ZeB (P := l.prog) (w := w) (base := base) D_cell_number T
 have F_use_of := Zi3 (P := l.prog) (w := w) (base := base) D_use_of T F_cell_value F_cell_number
 have F_uses_of := Zh3 (P := l.prog) (w := w) (base := base) D_uses_of T F_is_use F_use_of
 have F__law_mix := Zg6 (P := l.prog) (w := w) (base := base) D__law_mix T
 have F__law_number := ZeI (P := l.prog) (w := w) (base := base) D__law_number T
 have F__law_row := Zg5 (P := l.prog) (w := w) (base := base) D__law_row T F__law_mix F__law_number
 have F__law_roll := Zf8 (P := l.prog) (w := w) (base := base) D__law_roll T F__law_mix F__law_row
 have F__law_boxes := Zfa (P := l.prog) (w := w) (base := base) D__law_boxes T F__law_mix F__law_number
 have F__law_goes := Zf0 (P := l.prog) (w := w) (base := base) D__law_goes T
 have F__law_states := ZeL (P := l.prog) (w := w) (base := base) D__law_states T F__law_goes
 have F__law_cells := Zff (P := l.prog) (w := w) (base := base) D__law_cells T
 exact Zlu (Zj4 (st := ZdW) l13 c13 k13) T F_uses_of F__law_roll F__law_boxes F__law_states F__law_cells
end Law
open PySem PySem.W PyProof.Rows
set_option maxRecDepth 100000 in
set_option maxHeartbeats 0 in
theorem PySem.Challenge.cw_stepledger_k23_whole_uses_tell_cells_holds : PySem.Challenge.rw_stepledger_k23_whole_uses_tell_cells.Holds := by
 w_on; o_law; k_head; (case hw => w_witness2)
 k_fill
 refine L3.Znn (l := PySem.Challenge.rw_stepledger_k23_whole_uses_tell_cells) (k := 4) (F := Law.Zil) rfl rfl ⟨rfl, by decide, by decide⟩ (fun w h Y => W.kIn_of Y) ?G Law.law_holds
 case G =>
  intro w mg fa h KX G hmg
  refine' Law.ZlZ KX G hmg ?a0 ?l0 ?c0 ?k0 ?a1 ?l1 ?c1 ?k1 ?a2 ?l2 ?c2 ?k2 ?a3 ?l3 ?c3 ?k3 ?a4 ?l4 ?c4 ?k4 ?a5 ?l5 ?c5 ?k5 ?a6 ?l6 ?c6 ?k6 ?a7 ?l7 ?c7 ?k7 ?a8 ?l8 ?c8 ?k8 ?a9 ?l9 ?c9 ?k9 ?a10 ?l10 ?c10 ?k10 ?a11 ?l11 ?c11 ?k11 ?a12 ?l12 ?c12 ?k12 ?a13 ?l13 ?c13 ?k13 ?z_dict ?z_enumerate ?z_int ?z_len ?z_list ?z_range ?z_sorted ?z_tuple
  (case a0 => k_is)
  (case l0 => k_is)
  (case c0 => k_is)
  (case k0 => k_is)
  (case a1 => k_is)
  (case l1 => k_is)
  (case c1 => k_is)
  (case k1 => k_is)
  (case a2 => k_is)
  (case l2 => k_is)
  (case c2 => k_is)
  (case k2 => k_is)
  (case a3 => k_is)
  (case l3 => k_is)
  (case c3 => k_is)
  (case k3 => k_is)
  (case a4 => k_is)
  (case l4 => k_is)
  (case c4 => k_is)
  (case k4 => k_is)
  (case a5 => k_is)
  (case l5 => k_is)
  (case c5 => k_is)
  (case k5 => k_is)
  (case a6 => k_is)
  (case l6 => k_is)
  (case c6 => k_is)
  (case k6 => k_is)
  (case a7 => k_is)
  (case l7 => k_is)
  (case c7 => k_is)
  (case k7 => k_is)
  (case a8 => k_is)
  (case l8 => k_is)
  (case c8 => k_is)
  (case k8 => k_is)
  (case a9 => k_is)
  (case l9 => k_is)
  (case c9 => k_is)
  (case k9 => k_is)
  (case a10 => k_is)
  (case l10 => k_is)
  (case c10 => k_is)
  (case k10 => k_is)
  (case a11 => k_is)
  (case l11 => k_is)
  (case c11 => k_is)
  (case k11 => k_is)
  (case a12 => k_is)
  (case l12 => k_is)
  (case c12 => k_is)
  (case k12 => k_is)
  (case a13 => k_is)
  (case l13 => k_is)
  (case c13 => k_is)
  (case k13 => k_is)
  (case z_dict => k_is)
  (case z_enumerate => k_is)
  (case z_int => k_is)
  (case z_len => k_is)
  (case z_list => k_is)
  (case z_range => k_is)
  (case z_sorted => k_is)
  (case z_tuple => k_is)
