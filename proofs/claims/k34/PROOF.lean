import PyProof.Rows.All
import Wide.All
import OpenK.AllK
import Wide.FinOn
import Lean
import PyProof.EqAt
import PyProof.EqKinds
import PyProof.TupleCall
import PySem.Challenge.RW_stepledger_k34_fault_is_the_first
set_option Elab.async false
set_option linter.all false
set_option maxRecDepth 100000
namespace L2
open PySem PySem.Spec PyProof.Rows
abbrev Key := Sum Int Str
def Zh0 : Key → Value → Bool
 | .inl k, v => Value.isInt k v
 | .inr x, v => Value.isStrOf x v
def Zsl (w : World) : Key → Int
 | .inl k => hashInt k
 | .inr x => hashStr w x
theorem ZbO : ∀ {k : Key} {v : Value}, Zh0 k v = true → (∃ i t, k = Sum.inl i ∧ v = Value.int i t) ∨ (∃ x t, k = Sum.inr x ∧ v = Value.str x t)
 | .inl i, v, h => by
  obtain ⟨t, e⟩ := Value.isInt_shape (k := i) (v := v) h
  exact .inl ⟨i, t, rfl, e⟩
 | .inr x, v, h => by
  obtain ⟨t, e⟩ := Value.isStrOf_shape (x := x) (v := v) h
  exact .inr ⟨x, t, rfl, e⟩
theorem Zmm (i : Int) (t : Tok) : Zh0 (.inl i) (.int i t) = true := by simp [Zh0, Value.isInt]
theorem Zmh (x : Str) (t : Tok) : Zh0 (.inr x) (.str x t) = true := by simp [Zh0, Value.isStrOf]
theorem ZpV (a b : Int) : decide ((Sum.inl a : Key) = Sum.inl b) = (a == b) := by
 by_cases e : a = b
 ·subst e; simp
 ·have h : ¬ (Sum.inl a : Key) = Sum.inl b := fun q => e (Sum.inl.inj q)
  rw [decide_eq_false h]
  exact (beq_eq_false_iff_ne.mpr e).symm
theorem Zqv (a b : Str) : decide ((Sum.inr a : Key) = Sum.inr b) = decide (a = b) := by
 by_cases e : a = b
 ·subst e; simp
 ·have h : ¬ (Sum.inr a : Key) = Sum.inr b := fun q => e (Sum.inr.inj q)
  rw [decide_eq_false h, decide_eq_false e]
theorem ZpA (a : Int) (b : Str) : decide ((Sum.inl a : Key) = Sum.inr b) = false := decide_eq_false (fun q => nomatch q)
theorem Zqs (a : Str) (b : Int) : decide ((Sum.inr a : Key) = Sum.inl b) = false := decide_eq_false (fun q => nomatch q)
def Zbd (prog : Program) (w : World) : PySem.KeyKind prog w Key where
 is := Zh0
 hash := Zsl w
 inj := fun v a b ha hb => by
  rcases ZbO ha with ⟨i, t, rfl, rfl⟩ | ⟨x, t, rfl, rfl⟩
  ·rcases ZbO hb with ⟨j, u, rfl, e⟩ | ⟨y, u, rfl, e⟩
   ·injection e with e1 _; rw [e1]
   ·exact nomatch e
  ·rcases ZbO hb with ⟨j, u, rfl, e⟩ | ⟨y, u, rfl, e⟩
   ·exact nomatch e
   ·injection e with e1 _; rw [e1]
 byValue := fun k v h => by
  rcases ZbO h with ⟨i, t, rfl, rfl⟩ | ⟨x, t, rfl, rfl⟩ <;> rfl
 pyHash := fun hv h => by
  rcases ZbO hv with ⟨i, t, rfl, rfl⟩ | ⟨x, t, rfl, rfl⟩
  ·exact wpAny_pyHash_int h
  ·exact wpAny_pyHash_str h
 eqBool := fun hu hv h => by
  rcases ZbO hu with ⟨i, t, rfl, rfl⟩ | ⟨x, t, rfl, rfl⟩
  ·rcases ZbO hv with ⟨j, u, rfl, rfl⟩ | ⟨y, u, rfl, rfl⟩
   ·rw [ZpV] at h; exact wpAny_eqBool_int h
   ·rw [ZpA] at h; exact SeqAt.EqAt.int_str i t y u _ _ _ _ h
  ·rcases ZbO hv with ⟨j, u, rfl, rfl⟩ | ⟨y, u, rfl, rfl⟩
   ·rw [Zqs] at h; exact SeqAt.EqAt.str_int x t j u _ _ _ _ h
   ·rw [Zqv] at h; exact wpAny_eqBool_str h
 «strs» := fun k x t v h => by
  rcases ZbO h with ⟨i, u, rfl, e⟩ | ⟨y, u, rfl, e⟩
  ·exact nomatch e
  ·injection e with e1 _
   subst e1
   cases v <;> rfl
theorem Zln (prog : Program) (w : World) (k : Key) (v : Value) : (Zbd prog w).is k v = Zh0 k v := rfl
theorem Zko (prog : Program) (w : World) (i : Int) (t : Tok) : (Zbd prog w).is (.inl i) (.int i t) = true := Zmm i t
theorem ZkO (prog : Program) (w : World) (x : Str) (t : Tok) : (Zbd prog w).is (.inr x) (.str x t) = true := Zmh x t
end L2
namespace L2
open PySem PySem.Spec PyProof.Rows
inductive V where
 | non | bl (b : Bool) | int (i : Int) | str (x : Str) | byt (b : Array UInt8) | flt (b : UInt64) | ref (a : Addr) | ty (n : String)
 deriving DecidableEq
def RelV : V → Value → Prop
 | .non, u => u = Value.none
 | .bl b, u => u = Value.bool b
 | .int i, u => ∃ t, u = Value.int i t
 | .str x, u => ∃ t, u = Value.str x t
 | .byt b, u => ∃ t, u = Value.bytes b t
 | .flt b, u => ∃ t, u = Value.float b t
 | .ref a, u => u = Value.ref a
 | .ty n, u => u = Value.type n
abbrev Vals : List V → List Value → Prop := Paired RelV
theorem Vals.length {xs : List V} {us : List Value} (r : Vals xs us) : xs.length = us.length := Paired.length r
theorem Vals.get : ∀ {xs : List V} {us : List Value} {i : Nat} {x : V}, Vals xs us → xs[i]? = some x → ∃ u, us[i]? = some u ∧ RelV x u
 | _, _, _, _, .nil, e => by simp at e
 | _, _, 0, _, .cons r _, e => by simp at e; subst e; exact ⟨_, rfl, r⟩
 | _, _, i + 1, x, .cons _ t, e => by
  obtain ⟨u, h1, h2⟩ := Vals.get (i := i) (x := x) t (by simpa using e)
  exact ⟨u, by simpa using h1, h2⟩
theorem Vals.set {x : V} {u : Value} (r : RelV x u) : ∀ {xs : List V} {us : List Value} (i : Nat), Vals xs us → Vals (xs.set i x) (us.set i u)
 | _, _, _, .nil => .nil
 | _, _, 0, .cons _ t => .cons r t
 | _, _, i + 1, .cons q t => .cons q (Vals.set r i t)
theorem Vals.append : ∀ {xs ys : List V} {us ws : List Value}, Vals xs us → Vals ys ws → Vals (xs ++ ys) (us ++ ws)
 | _, _, _, _, .nil, s => s
 | _, _, _, _, .cons r t, s => .cons r (Vals.append t s)
theorem Vals.take : ∀ {xs : List V} {us : List Value} (n : Nat), Vals xs us → Vals (xs.take n) (us.take n)
 | _, _, 0, _ => .nil
 | _, _, _ + 1, .nil => .nil
 | _, _, n + 1, .cons r t => .cons r (Vals.take n t)
theorem Vals.drop : ∀ {xs : List V} {us : List Value} (n : Nat), Vals xs us → Vals (xs.drop n) (us.drop n)
 | _, _, 0, r => r
 | _, _, _ + 1, .nil => .nil
 | _, _, n + 1, .cons _ t => Vals.drop n t
def ZgY : Option V → Option Value → Prop
 | some v, some u => RelV v u
 | none, none => True
 | _, _ => False
def KV {κ : Type} : List (κ × V) → List (κ × Value) → Prop := Paired fun (p : κ × V) (q : κ × Value) => p.1 = q.1 ∧ RelV p.2 q.2
def kV : Key → V
 | .inl i => .int i
 | .inr x => .str x
inductive HO where
 /-- a list -/
 | lst (xs : List V)
 /-- a tuple (never changes) -/
 | tup (xs : List V)
 /-- a dict whose keys are ints and texts; one whose keys are tuples of ints and texts (the empty one is both) -/
 | dK (kvs : List (Key × V)) | dT (kvs : List (List Key × V))
 /-- a set of ints: its members, its size -/
 | set (S : Int → Bool) (n : Nat)
 /-- an instance of the class at C, its dict at dx, its attributes -/
 | ins (C dx : Addr) (fs : List (Str × V))
 /-- the dict of the instance at x -/
 | own (x : Addr)
 /-- the dict of an exception -/
 | xd (fs : List (Str × V))
 /-- a bound method, f of x -/
 | met (f x : Addr)
 /-- a range object lo, lo + 1, .. below hi -/
 | rng (lo hi : Int)
 /-- a thing that is known to the object (the script; a dict while a loop walks it): read, never written while it is so -/
 | frz (o : Obj) (u : HO)
 /-- a code object's table -/
 | tbl (ps : Array Value)
 /-- any other thing, by what is true of its one object (a def of one's own: SetO a S n := HO.ext fun h => ..) -/
 | ext (φ : Heap → Prop)
abbrev Hp := Addr → Option HO
def upd (H : Hp) (a : Addr) (o : HO) : Hp := fun b => if b = a then some o else H b
theorem Zct {H : Hp} {a : Addr} {o : HO} : upd H a o a = some o := by unfold upd; rw [if_pos rfl]
theorem ZaB {H : Hp} {a b : Addr} {o : HO} (h : b ≠ a) : upd H a o b = H b := by unfold upd; rw [if_neg h]
theorem ZiO {H : Hp} {a b : Addr} {o u : HO} (h : H a = some o) (h' : H b = some u) (d : o ≠ u) : a ≠ b := by
 intro e; subst e; rw [h] at h'; exact d (Option.some.inj h')
theorem Zet {H : Hp} {a b : Addr} {o : HO} (h : H a = some o) (h' : H b = none) : a ≠ b := by
 intro e; subst e; rw [h] at h'; cases h'
section
variable (P : Program) (w : World)
def Zeq (h : Heap) (a : Addr) (items : Array Value) : Prop := ∃ o, h.get? a = some o ∧ (o.cls = .type "tuple" ∧ o.dict = none) ∧ ∃ n, o.data = .seq items n
theorem Zeq.tup {h : Heap} {a : Addr} {items : Array Value} (x : Zeq h a items) : IsTup h a items := let ⟨o, e, c, d⟩ := x; ⟨o, e, c.1, d⟩
theorem Zeq.new (h : Heap) (items : Array Value) : Zeq (h.push { cls := .type "tuple", data := .seq items }) h.objs.size items := ⟨_, Heap.get?_push_size _ rfl, ⟨rfl, rfl⟩, 0, rfl⟩
def ZbG (H : Hp) (h : Heap) (a : Addr) : HO → Prop
 | .lst xs => xs.length ≤ sizeLine ∧ ∃ (its : List Value) (n : Nat), Vals xs its ∧ h.get? a = some { cls := .type "list", data := .seq its.toArray n }
 | .tup xs => xs.length ≤ sizeLine ∧ ∃ its : List Value, Vals xs its ∧ Zeq h a its.toArray
 | .dK kvs => kvs.length ≤ sizeLine ∧ (a == sysModules) = false ∧ ∃ vs, KV kvs vs ∧ h.DictOf (Zbd P w) a vs
 | .dT kvs => kvs.length ≤ sizeLine ∧ (a == sysModules) = false ∧ ∃ xs : List (List Key × Addr × Value),
   Paired (fun (p : List Key × V) (q : List Key × Addr × Value) => p.1 = q.1 ∧ H q.2.1 = some (.tup (p.1.map kV)) ∧ RelV p.2 q.2.2) kvs xs ∧
   ∃ o es ep, h.get? a = some o ∧ o.ExactDict ∧ o.data = .dict es ep ∧ es.toList = xs.map (entryOfKey (tupleKind (Zbd P w))) ∧ (xs.map (·.1)).Nodup
 | .set S n => h.SetOf (intKind P w) a S n
 | .ins C dx fs => H dx = some (.own a) ∧ fs.length ≤ 1000 ∧ dx ≠ a ∧ h.get? a = some (PySem.W.instObj C dx) ∧
   ∃ mA, h.Ns1 dx mA ∧ (∀ f, ZgY (fs.lookup f) (mA f)) ∧ PySem.Within mA (fs.map (·.1))
 | .own _ => ∃ o, h.get? a = some o
 | .xd fs => ∃ mA, h.Ns1 a mA ∧ ∀ f, ZgY (fs.lookup f) (mA f)
 | .rng lo hi => ∃ t u v, h.get? a = some { cls := .type "range", data := .fields #[.int lo t, .int hi u, .int 1 v] }
 | .frz o u => h.get? a = some o ∧ ZbG H h a u
 | .tbl ps => h.get? a = some { cls := .none, data := .fields ps }
 | .met f x => h.get? a = some (PySem.W.methodObj (.ref f) (.ref x))
 | .ext φ => φ h ∧ (∃ o, h.get? a = some o) ∧ ∀ h1 h2 : Heap, φ h1 → (∀ o, h1.get? a = some o → h2.get? a = some o) → φ h2
def HOk (H : Hp) (h : Heap) : Prop := ∀ a o, H a = some o → ZbG P w H h a o
end
section
variable {P : Program} {w : World} {H H' : Hp} {h h' : Heap} {a : Addr} {o : HO}
theorem ZbG.lt (x : ZbG P w H h a o) : a < h.objs.size := by
 cases o with
 | lst xs => obtain ⟨_, _, _, _, e⟩ := x; exact Heap.lt_size e
 | tup xs => obtain ⟨_, _, _, p⟩ := x; exact p.tup.lt
 | dK kvs => obtain ⟨_, _, _, _, o, _, _, e, _⟩ := x; exact Heap.lt_size e
 | dT kvs => obtain ⟨_, _, _, _, o, _, _, e, _⟩ := x; exact Heap.lt_size e
 | set S n => obtain ⟨o, _, _, _, e, _⟩ := x; exact Heap.lt_size e
 | ins C dx fs => obtain ⟨_, _, _, e, _⟩ := x; exact Heap.lt_size e
 | own y => obtain ⟨_, e⟩ := x; exact Heap.lt_size e
 | xd fs => obtain ⟨_, ⟨_, _, _, e, _⟩, _⟩ := x; exact Heap.lt_size e
 | rng lo hi => obtain ⟨_, _, _, e⟩ := x; exact Heap.lt_size e
 | frz ob u => obtain ⟨e, _⟩ := x; exact Heap.lt_size e
 | tbl ps => exact Heap.lt_size (show h.get? a = some _ from x)
 | met f y => exact Heap.lt_size (show h.get? a = some _ from x)
 | ext φ => obtain ⟨_, ⟨_, e⟩, _⟩ := x; exact Heap.lt_size e
theorem Paired.mapP {α β : Type} {F G : α → β → Prop} : ∀ {l₁ : List α} {l₂ : List β}, Paired F l₁ l₂ → (∀ a b, F a b → G a b) → Paired G l₁ l₂
 | _, _, .nil, _ => .nil
 | _, _, .cons r t, f => .cons (f _ _ r) (Paired.mapP t f)
theorem ZbG.stay (x : ZbG P w H h a o) (k : ∀ b u, (b = a ∨ H b = some (.own a)) → h.get? b = some u → h'.get? b = some u)
  (ho : ∀ b, H b = some (.own a) → H' b = some (.own a)) (ht : ∀ b xs, H b = some (.tup xs) → H' b = some (.tup xs)) : ZbG P w H' h' a o := by
 induction o with
 | lst xs => obtain ⟨z, its, n, r, e⟩ := x; exact ⟨z, its, n, r, k _ _ (.inl rfl) e⟩
 | tup xs => obtain ⟨z, its, r, ob, e, c⟩ := x; exact ⟨z, its, r, ob, k _ _ (.inl rfl) e, c⟩
 | dK kvs => obtain ⟨z, y, vs, r, ob, es, ep, e, c⟩ := x; exact ⟨z, y, vs, r, ob, es, ep, k _ _ (.inl rfl) e, c⟩
 | dT kvs =>
  obtain ⟨z, y, xs, r, ob, es, ep, e, c⟩ := x
  exact ⟨z, y, xs, Paired.mapP r fun p q z => ⟨z.1, ht _ _ z.2.1, z.2.2⟩, ob, es, ep, k _ _ (.inl rfl) e, c⟩
 | set S n => obtain ⟨ob, es, ep, t, e, c⟩ := x; exact ⟨ob, es, ep, t, k _ _ (.inl rfl) e, c⟩
 | ins C dx fs =>
  obtain ⟨d, z, ne, e, mA, ⟨od, es, ep, e2, c⟩, r⟩ := x
  exact ⟨ho _ d, z, ne, k _ _ (.inl rfl) e, mA, ⟨od, es, ep, k _ _ (.inr d) e2, c⟩, r⟩
 | own y => obtain ⟨ob, e⟩ := x; exact ⟨ob, k _ _ (.inl rfl) e⟩
 | xd fs => obtain ⟨mA, ⟨od, es, ep, e, c⟩, r⟩ := x; exact ⟨mA, ⟨od, es, ep, k _ _ (.inl rfl) e, c⟩, r⟩
 | rng lo hi => obtain ⟨t, u, v, e⟩ := x; exact ⟨t, u, v, k _ _ (.inl rfl) e⟩
 | frz ob u ih => obtain ⟨e, q⟩ := x; exact ⟨k _ _ (.inl rfl) e, ih q⟩
 | tbl ps =>
  have e : h.get? a = some { cls := .none, data := .fields ps } := x
  show h'.get? a = some { cls := .none, data := .fields ps }
  exact k a _ (.inl rfl) e
 | met f y =>
  have e : h.get? a = some (PySem.W.methodObj (.ref f) (.ref y)) := x
  show h'.get? a = some (PySem.W.methodObj (.ref f) (.ref y))
  exact k a _ (.inl rfl) e
 | ext φ => obtain ⟨p, ⟨o, e⟩, st⟩ := x; exact ⟨st _ _ p fun o q => k _ _ (.inl rfl) q, ⟨o, k _ _ (.inl rfl) e⟩, st⟩
theorem HOk.lt (x : HOk P w H h) (e : H a = some o) : a < h.objs.size := (x a o e).lt
theorem HOk.fresh (x : HOk P w H h) (e : h.objs.size ≤ a) : H a = none := by
 cases q : H a with
 | none => rfl
 | some u => exact absurd (Nat.lt_of_lt_of_le (x.lt q) e) (Nat.lt_irrefl _)
theorem HOk.kept (x : HOk P w H h) (k : ∀ b u, h.get? b = some u → h'.get? b = some u) : HOk P w H h' := fun a o e =>
 (x a o e).stay (fun b u _ q => k b u q) (fun _ q => q) fun _ _ q => q
theorem HOk.laid (x : HOk P w H h) (k : ∀ b u, h.get? b = some u → h'.get? b = some u) (hp : h.objs.size ≤ a) (new : ZbG P w (upd H a o) h' a o) : HOk P w (upd H a o) h' := fun b u e => by
 have hn := x.fresh hp
 by_cases hb : b = a
 ·subst hb; rw [Zct] at e; cases e; exact new
 ·rw [ZaB hb] at e
  exact (x b u e).stay (fun c v _ q => k c v q) (fun c q => by rw [ZaB (Zet q hn)]; exact q) fun c xs q => by rw [ZaB (Zet q hn)]; exact q
end
def Rd (H : Hp) (a : Addr) (u : HO) : Prop := H a = some u ∨ ∃ o, H a = some (.frz o u)
theorem Rd.ok {P : Program} {w : World} {H : Hp} {h : Heap} {a : Addr} {u : HO} (r : Rd H a u) (x : HOk P w H h) : ZbG P w H h a u := by
 rcases r with r | ⟨o, r⟩
 ·exact x a u r
 ·obtain ⟨_, q⟩ := x a _ r
  exact q
def Mut : Option HO → Prop
 | some (.lst _) => True
 | some (.dK _) => True
 | some (.dT _) => True
 | some (.set _ _) => True
 | some (.ins _ _ _) => True
 | some (.ext _) => True
 | _ => False
section
variable {P : Program} {w : World} {H : Hp} {h h' : Heap} {x e : Addr} {o' : HO}
theorem HOk.write (ok : HOk P w H h) (mu : Mut (H x)) (he : e = x ∨ H e = some (.own x)) (k : ∀ b u, b ≠ e → h.get? b = some u → h'.get? b = some u) (heo : ∃ u, h'.get? e = some u)
  (new : ZbG P w (upd H x o') h' x o') : HOk P w (upd H x o') h' := fun b u q => by
 have nown : ∀ c y, H c = some (.own y) → c ≠ x := fun c y r z => by subst z; rw [r] at mu; exact mu
 have ntup : ∀ c xs, H c = some (.tup xs) → c ≠ x := fun c xs r z => by subst z; rw [r] at mu; exact mu
 by_cases hb : b = x
 ·subst hb; rw [Zct] at q; cases q; exact new
 ·rw [ZaB hb] at q
  by_cases hbe : b = e
  ·have q' : H b = some (.own x) := by
    rcases he with z | z
    ·exact absurd (hbe.trans z) hb
    ·rw [hbe]; exact z
   rw [q] at q'; cases q'
   obtain ⟨v, hv⟩ := heo
   exact ⟨v, by rw [hbe]; exact hv⟩
  ·refine (ok b u q).stay (fun c v hc r => k c v ?_ r) (fun c r => by rw [ZaB (nown c b r)]; exact r) fun c xs r => by rw [ZaB (ntup c xs r)]; exact r
   rcases hc with rfl | hc
   ·exact hbe
   ·rintro rfl
    rcases he with z | z
    ·exact nown c b hc z
    ·rw [hc] at z; cases z; exact hb rfl
end
structure Un (fs ex : List Addr) (H H' : Hp) (h h' : Heap) : Prop where
 keep : ∀ b o, h.get? b = some o → H b = none → b ∉ fs → b ∉ ex → h'.get? b = some o
 slot : ∀ b o, h.get? b = some o → H b = none → b ∈ fs → b ∉ ex → ∃ sl, h'.get? b = some { o with slots := sl }
 free : ∀ b o, h.get? b = some o → H b = none → b ∉ ex → H' b = none
 there : ∀ b o, h.get? b = some o → b ∉ ex → ∃ o', h'.get? b = some o'
 tups : ∀ b xs, H b = some (.tup xs) → H' b = some (.tup xs)
 frzs : ∀ b o u, H b = some (.frz o u) → H' b = some (.frz o u)
 tbls : ∀ b ps, H b = some (.tbl ps) → ∃ more, H' b = some (.tbl (ps ++ more))
section
variable {fs fs' ex ex' : List Addr} {H H1 H2 : Hp} {h h1 h2 h' : Heap} {a x e : Addr} {o : HO}
theorem Un.any (u : Un fs ex H H1 h h1) {b : Addr} {ob : Obj} (q : h.get? b = some ob) (n : H b = none) (hx : b ∉ ex) : ∃ sl, h1.get? b = some { ob with slots := sl } := by
 by_cases hb : b ∈ fs
 ·exact u.slot b ob q n hb hx
 ·exact ⟨ob.slots, u.keep b ob q n hb hx⟩
theorem Un.kept (k : ∀ b u, h.get? b = some u → h'.get? b = some u) : Un fs ex H H h h' :=
 ⟨fun b ob q _ _ _ => k b ob q, fun b ob q _ _ _ => ⟨ob.slots, k b ob q⟩, fun _ _ _ n _ => n, fun b ob q _ => ⟨ob, k b ob q⟩, fun _ _ q => q, fun _ _ _ q => q, fun _ ps q => ⟨#[], by rw [q]; simp⟩⟩
theorem Un.refl : Un fs ex H H h h := Un.kept fun _ _ q => q
theorem Un.laid (k : ∀ b u, h.get? b = some u → h'.get? b = some u) (hp : h.objs.size ≤ a) (hn : H a = none) : Un fs ex H (upd H a o) h h' where
 keep := fun b u q _ _ _ => k b u q
 slot := fun b u q _ _ _ => ⟨u.slots, k b u q⟩
 free := fun b u q n _ => by rw [ZaB (Nat.ne_of_lt (Nat.lt_of_lt_of_le (Heap.lt_size q) hp))]; exact n
 there := fun b u q _ => ⟨u, k b u q⟩
 tups := fun b xs q => by rw [ZaB (Zet q hn)]; exact q
 frzs := fun b u xs q => by rw [ZaB (Zet q hn)]; exact q
 tbls := fun b ps q => ⟨#[], by rw [ZaB (Zet q hn), q]; simp⟩
theorem Un.write (mu : Mut (H x)) (he : e = x ∨ H e = some (.own x)) (k : ∀ b u, b ≠ e → h.get? b = some u → h'.get? b = some u) (heo : ∃ u, h'.get? e = some u) : Un fs ex H (upd H x o) h h' := by
 have hx : ∀ b, H b = none → b ≠ x := fun b n z => by subst z; rw [n] at mu; exact mu
 have hb : ∀ b, H b = none → b ≠ e := fun b n z => by
  subst z
  rcases he with r | r
  ·exact hx b n r
  ·rw [n] at r; cases r
 have hm : ∀ b u, H b = some u → ¬ Mut (some u) → b ≠ x := fun b u q nm z => by subst z; rw [q] at mu; exact nm mu
 refine ⟨fun b u q n _ _ => k b u (hb b n) q, fun b u q n _ _ => ⟨u.slots, k b u (hb b n) q⟩, fun b u q n _ => by rw [ZaB (hx b n)]; exact n, fun b u q _ => ?_,
  fun b xs q => by rw [ZaB (hm b _ q fun z => z)]; exact q, fun b u xs q => by rw [ZaB (hm b _ q fun z => z)]; exact q, fun b ps q => ⟨#[], by rw [ZaB (hm b _ q fun z => z), q]; simp⟩⟩
 by_cases hbe : b = e
 ·subst hbe; exact heo
 ·exact ⟨u, k b u hbe q⟩
end
def trk (h : Heap) (H : Hp) : List Addr := (List.range h.objs.size).filter fun a => (H a).isSome
def Zju (h : Heap) (H : Hp) : Heap := PySem.W.hideAll h (trk h H)
theorem Zms (h : Heap) (H : Hp) : (Zju h H).objs.size = h.objs.size := PySem.W.hideAll_size _ _
theorem Znf {h : Heap} {H : Hp} {b : Addr} {o : Obj} (e : h.get? b = some o) (n : H b = none) : (Zju h H).get? b = some o :=
 PySem.W.hideAll_get _ e fun hm => by
  have q : (H b).isSome = true := (List.mem_filter.mp hm).2
  rw [n] at q; simp at q
theorem ZoF {h : Heap} {H : Hp} {b : Addr} {o : Obj} (e : (Zju h H).get? b = some o) : h.get? b = some o ∧ H b = none := by
 have e' : h.get? b = some o := PySem.W.of_hideAll (trk h H) e
 refine ⟨e', ?_⟩
 cases q : H b with
 | none => rfl
 | some x =>
  have hm : b ∈ trk h H := List.mem_filter.mpr ⟨List.mem_range.mpr (Heap.lt_size e'), by simp [q]⟩
  have z : (Zju h H).get? b = none := PySem.W.hideAll_none (trk h H) hm
  rw [z] at e; cases e
def Zof (g h : Heap) (L : Addr) : List (Addr × Obj) := (List.range h.objs.size).filterMap fun a => if a = L ∨ (g.get? a).isSome = true then none else (h.get? a).map fun o => (a, o)
def rest (g h : Heap) (L d : Addr) : List (Addr × Obj) := (Zof g h L).filter fun p => decide (p.1 ≠ d)
end L2
namespace L2
open PySem PySem.Spec PyProof.Rows
structure Mod (K : PySem.W.Frag) (mg : Str → Option Value) (base : Heap) : Prop where
 kin : K.In base
 glob : base.Ns mainGlobals mg
 blt : ∃ mb, base.Ns builtinsNs mb ∧ ∀ x : Str, x ≠ "__name__" → mb x = bootBuiltins x
 nolimit : base.NoLimit
/-- the context: a def's body (or a comprehension's block) running. base: fixed through the whole law; s₀, H₀: the entry; outer: the frames whose slots others may change (a def's callers); stack: all frames that run;
  ex: iterators that were made ahead of the entry and are walked here (a comprehension's); fn: the names whose cells were made at the entry (a def: all; a comprehension's block: its own); calm: not within an except suite; pn: pins that every state bears; xe: what is wanted of an exception that leaves the code -/
structure Cx where
 prog : Program
 w : World
 K : PySem.W.Frag
 mg : Str → Option Value
 base : Heap
 A : Around
 N : List Str
 s₀ : Shared
 H₀ : Hp
 env : Env
 outer : List Env
 stack : List Env
 ex : List Addr
 fn : Str → Bool
 calm : Bool
 pn : List (Addr × Obj)
 xe : Value → Shared → Prop
def frs (l : List Env) : List Addr := l.filterMap (·.frame)
abbrev Cx.fs (X : Cx) : List Addr := frs X.outer
def Vis (sc : Scope) (x : Str) : Prop := sc.names.lookup x = some .local ∨ sc.names.lookup x = some .cell ∨ sc.names.lookup x = some .free
def Loc (sc : Scope) (x : Str) : Prop := sc.names.lookup x = some .local ∨ sc.names.lookup x = some .cell
def Look (env : Env) (h : Heap) (m : Str → Option Value) (x : Str) (u : Value) : Prop :=
 (env.kindOf x = some .local ∧ m x = some u) ∨ ((env.kindOf x = some .cell ∨ env.kindOf x = some .free) ∧ ∃ c, env.cells.lookup x = some c ∧ h.IsCell c (some u))
structure Cx.Ok (X : Cx) : Prop where
 mod : Mod X.K X.mg X.base
 kind : X.env.scope.kind = .function
 glob : X.env.globals = mainGlobals
 blt : X.env.builtins = builtinsNs
 above : X.s₀.heap.objs.size ≤ X.env.locals
 inj : ∀ x y c, X.env.cells.lookup x = some c → X.env.cells.lookup y = some c → x = y
 has : ∀ x, (X.env.kindOf x = some .cell ∨ X.env.kindOf x = some .free) → ∃ c, X.env.cells.lookup x = some c
 cab : ∀ x c, X.fn x = true → X.env.cells.lookup x = some c → X.s₀.heap.objs.size ≤ c
 hd : X.calm = true → X.A.handled = none
 frames : X.A.frames = some X.stack
 stk : X.stack = X.outer ∨ (X.stack = X.env :: X.outer ∧ X.env.frame = some X.env.locals)
 exf : ∀ b ∈ X.ex, b ≠ X.env.locals ∧ ∀ x c, X.env.cells.lookup x = some c → c ≠ b
 bs : ∀ b o, X.base.get? b = some o → X.s₀.heap.get? b = some o ∧ X.H₀ b = none
 bsz : X.base.objs.size ≤ X.s₀.heap.objs.size
 noex : ∀ b o, X.base.get? b = some o → b ∉ X.ex
 exfs : ∀ b ∈ X.ex, b ∉ X.fs
 funs : X.s₀.heap.FunFrames X.base X.outer
 frf : ∀ b ∈ X.fs, X.H₀ b = none
structure Inv (X : Cx) (pins : List (Addr × Obj)) (σ : List (Option V)) (H : Hp) (s : Shared) : Prop where
 ok : X.Ok
 os : s.os = X.s₀.os
 bare : AllBare s.gens
 base : Un X.fs X.ex X.H₀ H X.s₀.heap s.heap
 loc : ∃ m, s.heap.Ns X.env.locals m ∧ ∀ (i : Nat) (x : Str) (v : V), X.N[i]? = some x → σ[i]? = some (some v) → Vis X.env.scope x → ∃ u, RelV v u ∧ Look X.env s.heap m x u
 cell : ∀ x c, X.env.cells.lookup x = some c → ∃ v, s.heap.IsCell c v
 free : H X.env.locals = none
 freeC : ∀ x c, X.env.cells.lookup x = some c → H c = none
 pin : ∀ p ∈ X.pn ++ pins, s.heap.get? p.1 = some p.2 ∧ H p.1 = none ∧ p.1 ≠ X.env.locals ∧ p.1 ∉ X.fs ∧ ∀ v, p.2.data ≠ .cell v
 hok : HOk X.prog X.w H s.heap
 len : σ.length = X.N.length
section
variable {X : Cx} {pins : List (Addr × Obj)} {σ : List (Option V)} {H H' : Hp} {s : Shared} {h' : Heap}
theorem Cx.Ok.nofr (ok : X.Ok) {b : Addr} {o : Obj} (e : X.base.get? b = some o) : b ∉ X.fs := fun hb => by
 have := (ok.funs.mem hb).1
 rw [e] at this; cases this
theorem Inv.bs (I : Inv X pins σ H s) : ∀ b o, X.base.get? b = some o → s.heap.get? b = some o ∧ H b = none := fun b o e =>
 ⟨I.base.keep b o (I.ok.bs b o e).1 (I.ok.bs b o e).2 (I.ok.nofr e) (I.ok.noex b o e), I.base.free b o (I.ok.bs b o e).1 (I.ok.bs b o e).2 (I.ok.noex b o e)⟩
theorem Inv.bk (I : Inv X pins σ H s) : ∀ b o, X.base.get? b = some o → s.heap.get? b = some o := fun b o e => (I.bs b o e).1
theorem Inv.mod (I : Inv X pins σ H s) : Mod X.K X.mg X.base := I.ok.mod
theorem Inv.kIn (I : Inv X pins σ H s) : X.K.In s.heap := I.ok.mod.kin.keeps I.bk
theorem Inv.nolimit (I : Inv X pins σ H s) : s.heap.NoLimit := I.ok.mod.nolimit.keeps I.bk
theorem Inv.lt (I : Inv X pins σ H s) : X.env.locals < s.heap.objs.size := let ⟨_, hn, _⟩ := I.loc; hn.lt
theorem Inv.sz (I : Inv X pins σ H s) : X.s₀.heap.objs.size ≤ s.heap.objs.size := Nat.le_trans I.ok.above (Nat.le_of_lt I.lt)
theorem Inv.nofs (I : Inv X pins σ H s) {a : Addr} (h : s.heap.objs.size ≤ a) : a ∉ X.fs := fun hb => by
 obtain ⟨_, o, ho, _⟩ := I.ok.funs.mem hb
 exact absurd (Nat.lt_of_lt_of_le (Heap.lt_size ho) (Nat.le_trans I.sz h)) (Nat.lt_irrefl _)
theorem Inv.cne (I : Inv X pins σ H s) : ∀ x c, X.env.cells.lookup x = some c → c ≠ X.env.locals := fun x c e z => by
 obtain ⟨v, o, ho, hd⟩ := I.cell x c e
 obtain ⟨m, ⟨o', es, ep, ho', hd', _⟩, _⟩ := I.loc
 rw [z, ho'] at ho; cases ho; rw [hd'] at hd; cases hd
theorem Inv.funs (I : Inv X pins σ H s) : s.heap.FunFrames X.base X.outer := by
 have all : ∀ (l : List Env), (∀ b ∈ frs l, b ∈ X.fs) → X.s₀.heap.FunFrames X.base l → s.heap.FunFrames X.base l := by
  intro l
  induction l with
  | nil => intro _ _; trivial
  | cons env r ih =>
   intro hs hl
   obtain ⟨hk, ⟨L, o, hf, hn, ho, hd⟩, hr⟩ := hl
   have hL : L ∈ X.fs := hs L (by unfold frs; rw [List.filterMap_cons, hf]; exact List.mem_cons_self)
   obtain ⟨sl, e⟩ := I.base.slot L o ho (I.ok.frf L hL) hL fun z => I.ok.exfs L z hL
   exact ⟨hk, ⟨L, _, hf, hn, e, hd⟩, ih (fun b hb => hs b (by unfold frs; rw [List.filterMap_cons, hf]; exact List.mem_cons_of_mem _ hb)) hr⟩
 exact all X.outer (fun _ hb => hb) I.ok.funs
theorem Inv.stack (I : Inv X pins σ H s) : s.heap.FunFrames X.base X.stack := by
 rcases I.ok.stk with e | ⟨e, hf⟩
 ·rw [e]; exact I.funs
 ·rw [e]
  obtain ⟨m, hn, _⟩ := I.loc
  refine .cons (by rw [I.ok.kind]; decide) hf hn ?_ I.funs
  exact Heap.get?_none_of_le (Nat.le_trans I.ok.bsz I.ok.above)
theorem Inv.stkSub (I : Inv X pins σ H s) : ∀ b ∈ frs X.stack, b ∈ X.env.locals :: X.fs := fun b hb => by
 rcases I.ok.stk with e | ⟨e, hf⟩
 ·rw [e] at hb; exact List.mem_cons_of_mem _ hb
 ·rw [e] at hb
  unfold frs at hb
  rw [List.filterMap_cons, hf] at hb
  exact hb
theorem Inv.stkFree (I : Inv X pins σ H s) : ∀ b ∈ frs X.stack, H b = none := fun b hb => by
 rcases List.mem_cons.mp (I.stkSub b hb) with e | hb
 ·rw [e]; exact I.free
 ·obtain ⟨_, o, ho, _⟩ := I.ok.funs.mem hb
  exact I.base.free b o ho (I.ok.frf b hb) fun z => I.ok.exfs b z hb
theorem Inv.step {g' : Array GenState} {t' : Nat} {d' : Drawn} {ch : List Addr} (I : Inv X pins σ H s)
  (hch : ∀ b ∈ ch, (b ∈ X.ex ∨ X.s₀.heap.objs.size ≤ b) ∧ b ≠ X.env.locals ∧ (∀ x c, X.env.cells.lookup x = some c → c ≠ b) ∧ ∀ p ∈ X.pn ++ pins, p.1 ≠ b)
  (keep : ∀ b o, b ≠ X.env.locals → b ∉ X.fs → b ∉ ch → s.heap.get? b = some o → H b = none → h'.get? b = some o)
  (slot : ∀ b o, b ≠ X.env.locals → b ∈ X.fs → b ∉ ch → s.heap.get? b = some o → H b = none → ∃ sl, h'.get? b = some { o with slots := sl }) (free : ∀ b o, b ∉ ch → s.heap.get? b = some o → H b = none → H' b = none)
  (there : ∀ b o, b ∉ ch → s.heap.get? b = some o → ∃ o', h'.get? b = some o')
  (tups : ∀ b xs, H b = some (.tup xs) → H' b = some (.tup xs)) (frzs : ∀ b o u, H b = some (.frz o u) → H' b = some (.frz o u)) (tbls : ∀ b ps, H b = some (.tbl ps) → ∃ more, H' b = some (.tbl (ps ++ more)))
  (ns : ∀ m, s.heap.Ns X.env.locals m → h'.Ns X.env.locals m) (hok : HOk X.prog X.w H' h') (hg : AllBare g') :
  Inv X pins σ H' { s with heap := h', gens := g', drawn := d', toks := t' } := by
 have neL : ∀ b o, X.s₀.heap.get? b = some o → b ≠ X.env.locals := fun b o e => Nat.ne_of_lt (Nat.lt_of_lt_of_le (Heap.lt_size e) I.ok.above)
 have neC : ∀ b o, X.s₀.heap.get? b = some o → b ∉ X.ex → b ∉ ch := fun b o e hx hb => by
  rcases (hch b hb).1 with z | z
  ·exact hx z
  ·exact absurd (Nat.lt_of_lt_of_le (Heap.lt_size e) z) (Nat.lt_irrefl _)
 have cellK : ∀ x c, X.env.cells.lookup x = some c → ∀ v, s.heap.IsCell c v → h'.IsCell c v := fun x c e v ⟨o, ho, hd⟩ => by
  have nch : c ∉ ch := fun z => (hch c z).2.2.1 x c e rfl
  by_cases hc : c ∈ X.fs
  ·obtain ⟨sl, q⟩ := slot c o (I.cne x c e) hc nch ho (I.freeC x c e)
   exact ⟨_, q, hd⟩
  ·exact ⟨o, keep c o (I.cne x c e) hc nch ho (I.freeC x c e), hd⟩
 refine ⟨I.ok, I.os, hg, ⟨fun b o e n hb hx => ?_, fun b o e n hb hx => ?_, fun b o e n hx => ?_, fun b o e hx => ?_, fun b xs e => tups b xs (I.base.tups b xs e), fun b o xs e => frzs b o xs (I.base.frzs b o xs e), fun b ps e => ?_⟩, ?_, fun x c e => ?_, ?_, fun x c e => ?_, fun p hp => ?_, hok, I.len⟩
 ·exact keep b o (neL b o e) hb (neC b o e hx) (I.base.keep b o e n hb hx) (I.base.free b o e n hx)
 ·obtain ⟨sl, e1⟩ := I.base.slot b o e n hb hx
  obtain ⟨sl', e2⟩ := slot b _ (neL b o e) hb (neC b o e hx) e1 (I.base.free b o e n hx)
  exact ⟨sl', e2⟩
 ·obtain ⟨o', e1⟩ := I.base.there b o e hx
  exact free b o' (neC b o e hx) e1 (I.base.free b o e n hx)
 ·obtain ⟨o', e1⟩ := I.base.there b o e hx
  exact there b o' (neC b o e hx) e1
 ·obtain ⟨m1, e1⟩ := I.base.tbls b ps e
  obtain ⟨m2, e2⟩ := tbls b _ e1
  exact ⟨m1 ++ m2, by rw [e2, Array.append_assoc]⟩
 ·obtain ⟨m, hn, hl⟩ := I.loc
  refine ⟨m, ns m hn, fun i x v e1 e2 e3 => ?_⟩
  obtain ⟨u, r, l⟩ := hl i x v e1 e2 e3
  refine ⟨u, r, ?_⟩
  rcases l with l | ⟨k, c, e, z⟩
  ·exact .inl l
  ·exact .inr ⟨k, c, e, cellK x c e _ z⟩
 ·obtain ⟨v, z⟩ := I.cell x c e
  exact ⟨v, cellK x c e v z⟩
 ·obtain ⟨m, ⟨o, _, _, ho, _⟩, _⟩ := I.loc
  exact free _ o (fun z => (hch _ z).2.1 rfl) ho I.free
 ·obtain ⟨v, o, ho, hd⟩ := I.cell x c e
  exact free c o (fun z => (hch c z).2.2.1 x c e rfl) ho (I.freeC x c e)
 ·obtain ⟨e, n, ne, nf, d⟩ := I.pin p hp
  have nch : p.1 ∉ ch := fun z => (hch p.1 z).2.2.2 p hp rfl
  exact ⟨keep p.1 p.2 ne nf nch e n, free p.1 p.2 nch e n, ne, nf, d⟩
theorem Inv.un {t' : Nat} (I : Inv X pins σ H s) (u : Un X.fs [] H H' s.heap h') (hok : HOk X.prog X.w H' h') : Inv X pins σ H' { s with heap := h', toks := t' } := by
 obtain ⟨m, ⟨o, es, ep, ho, r⟩, _⟩ := id I.loc
 obtain ⟨sl, hL⟩ := u.any ho I.free (by simp)
 exact I.step (g' := s.gens) (d' := s.drawn) (ch := []) (fun _ z => nomatch z) (fun b o _ hb _ e n => u.keep b o e n hb (by simp)) (fun b o _ hb _ e n => u.slot b o e n hb (by simp)) (fun b o _ e n => u.free b o e n (by simp)) (fun b o _ e => u.there b o e (by simp)) u.tups u.frzs u.tbls (fun m' hm => by
  obtain ⟨o', es', ep', ho', r'⟩ := hm
  rw [ho] at ho'; cases ho'
  exact ⟨_, es', ep', hL, r'⟩) hok I.bare
theorem Inv.call {g' : Array GenState} {t' : Nat} {d' : Drawn} {ch : List Addr} (I : Inv X pins σ H s) (u : Un (frs X.stack) ch H H' s.heap h') (hok : HOk X.prog X.w H' h') (hg : AllBare g')
  (hch : ∀ b ∈ ch, (b ∈ X.ex ∨ X.s₀.heap.objs.size ≤ b) ∧ b ≠ X.env.locals ∧ (∀ x c, X.env.cells.lookup x = some c → c ≠ b) ∧ ∀ p ∈ X.pn ++ pins, p.1 ≠ b) :
  Inv X pins σ H' { s with heap := h', gens := g', drawn := d', toks := t' } := by
 obtain ⟨m, ⟨o, es, ep, ho, r⟩, _⟩ := id I.loc
 obtain ⟨sl, hL⟩ := u.any ho I.free fun z => (hch _ z).2.1 rfl
 exact I.step (ch := ch) hch (fun b o hL hb hc e n => u.keep b o e n (fun z => (List.mem_cons.mp (I.stkSub b z)).elim hL hb) hc) (fun b o _ _ hc e n => u.any e n hc) (fun b o hc e n => u.free b o e n hc) (fun b o hc e => u.there b o e hc) u.tups u.frzs u.tbls (fun m' hm => by
  obtain ⟨o', es', ep', ho', r'⟩ := hm
  rw [ho] at ho'; cases ho'
  exact ⟨_, es', ep', hL, r'⟩) hok hg
theorem Inv.turned {t' : Nat} {it : Addr} (I : Inv X pins σ H s) (k : ∀ b o, b ≠ it → s.heap.get? b = some o → h'.get? b = some o) (hn : H it = none) (hL : it ≠ X.env.locals)
  (h1 : it ∈ X.ex ∨ X.s₀.heap.objs.size ≤ it) (h2 : ∀ x c, X.env.cells.lookup x = some c → c ≠ it) (h3 : ∀ p ∈ X.pn ++ pins, p.1 ≠ it) : Inv X pins σ H { s with heap := h', toks := t' } := by
 have nit : ∀ b u, H b = some u → b ≠ it := fun b u e z => by rw [z, hn] at e; cases e
 refine I.step (g' := s.gens) (d' := s.drawn) (ch := [it]) (fun b hb => ?_) (fun b o _ _ hc e _ => k b o (fun z => hc (by simp [z])) e) (fun b o _ _ hc e _ => ⟨o.slots, k b o (fun z => hc (by simp [z])) e⟩) (fun _ _ _ _ n => n)
  (fun b o hc e => ⟨o, k b o (fun z => hc (by simp [z])) e⟩) (fun _ _ e => e) (fun _ _ _ e => e) (fun b ps e => ⟨#[], by rw [e]; simp⟩) (fun m hm => ?_) (fun b u e => ?_) I.bare
 ·have e : b = it := by simpa using hb
  subst e
  exact ⟨h1, hL, h2, h3⟩
 ·obtain ⟨o, es, ep, ho, r⟩ := hm
  exact ⟨o, es, ep, k _ o (Ne.symm hL) ho, r⟩
 ·refine (I.hok b u e).stay (fun c v hc q => k c v ?_ q) (fun _ q => q) fun _ _ q => q
  rcases hc with z | z
  ·rw [z]; exact nit b u e
  ·exact nit c _ z
theorem Inv.tok (I : Inv X pins σ H s) (t : Nat) : Inv X pins σ H { s with toks := t } := I.un (h' := s.heap) (t' := t) Un.refl I.hok
theorem Inv.kept {t' : Nat} (I : Inv X pins σ H s) (k : ∀ b u, s.heap.get? b = some u → h'.get? b = some u) : Inv X pins σ H { s with heap := h', toks := t' } := I.un (Un.kept k) (I.hok.kept k)
theorem Inv.laid {a : Addr} {o : HO} {t' : Nat} (I : Inv X pins σ H s) (k : ∀ b u, s.heap.get? b = some u → h'.get? b = some u) (hp : s.heap.objs.size ≤ a) (new : ZbG X.prog X.w (upd H a o) h' a o) :
  Inv X pins σ (upd H a o) { s with heap := h', toks := t' } := I.un (Un.laid k hp (I.hok.fresh hp)) (I.hok.laid k hp new)
theorem Inv.write {x e : Addr} {o : HO} {t' : Nat} (I : Inv X pins σ H s) (mu : Mut (H x)) (he : e = x ∨ H e = some (.own x)) (k : ∀ b u, b ≠ e → s.heap.get? b = some u → h'.get? b = some u) (heo : ∃ u, h'.get? e = some u)
  (new : ZbG X.prog X.w (upd H x o) h' x o) : Inv X pins σ (upd H x o) { s with heap := h', toks := t' } := I.un (Un.write mu he k heo) (I.hok.write mu he k heo new)
theorem Inv.pins_of {pins' : List (Addr × Obj)} (I : Inv X pins σ H s) (h : ∀ p ∈ pins', s.heap.get? p.1 = some p.2 ∧ H p.1 = none ∧ p.1 ≠ X.env.locals ∧ p.1 ∉ X.fs ∧ ∀ v, p.2.data ≠ .cell v) : Inv X pins' σ H s :=
 ⟨I.ok, I.os, I.bare, I.base, I.loc, I.cell, I.free, I.freeC, fun p hp => (List.mem_append.mp hp).elim (fun z => I.pin p (List.mem_append_left _ z)) (h p), I.hok, I.len⟩
theorem Zkl {N : List Str} (hN : N.Nodup) {i j : Nat} {x : Str} (a : N[i]? = some x) (b : N[j]? = some x) : i = j := by
 obtain ⟨h1, e1⟩ := List.getElem?_eq_some_iff.mp a
 obtain ⟨h2, e2⟩ := List.getElem?_eq_some_iff.mp b
 exact (List.getElem_inj hN).mp (e1.trans e2.symm)
theorem Zi7 {M : Model} {A : Around} {E : Value → Shared → Prop} {i : Nat} {x : Str} {v : V} {u : Value} {Q : Unit → Shared → Prop} (I : Inv X pins σ H s) (hN : X.N.Nodup) (hi : X.N[i]? = some x) (hx : Loc X.env.scope x) (r : RelV v u)
  (h : ∀ s', Inv X pins (σ.set i (some v)) H s' → (∃ a, Heap.SameBut a s.heap s'.heap ∧ (a = X.env.locals ∨ X.env.cells.lookup x = some a)) → Q () s') (hf : X.fn x = true ∨ X.env.scope.names.lookup x = some .local := by first | exact .inl rfl | exact .inr rfl | assumption) : wpAny M A (storeName X.env x u) Q E s := by
 obtain ⟨m, hn, hl⟩ := id I.loc
 have hcls : (X.env.scope.kind == .class || (X.env.scope.kind == .module && X.env.locals != X.env.globals)) = false := by rw [I.ok.kind]; rfl
 have hiσ : i < σ.length := by rw [I.len]; exact (List.getElem?_eq_some_iff.mp hi).1
 have cne := I.cne
 have tracked : ∀ {a : Addr} {h' : Heap}, (∃ o, s.heap.get? a = some o ∧ H a = none) → Heap.SameBut a s.heap h' → HOk X.prog X.w H h' := fun {a h'} ha hs b ob e => by
  obtain ⟨_, _, hfree⟩ := ha
  refine (I.hok b ob e).stay (fun c w' hc q => (hs.2 c ?_).trans q) (fun _ q => q) fun _ _ q => q
  rintro rfl
  rcases hc with rfl | hc
  ·rw [hfree] at e; cases e
  ·rw [hfree] at hc; cases hc
 rcases hx with hk | hk
 ·refine wpAny_storeName_local hk hn (fun h' hn' hs => ?_) hcls
  obtain ⟨oL, _, _, hoL, _⟩ := id hn
  refine h _ ⟨I.ok, I.os, I.bare, ⟨fun b o e n hb hx => ?_, fun b o e n hb hx => ?_, I.base.free, fun b o e hx => ?_, I.base.tups, I.base.frzs, I.base.tbls⟩, ⟨_, hn', fun j y v' e1 e2 e3 => ?_⟩, fun y c e => ?_, I.free, I.freeC, fun p hp => ?_, tracked ⟨oL, hoL, I.free⟩ hs, by simpa using I.len⟩ ⟨_, hs, .inl rfl⟩
  ·exact (hs.2 b (Nat.ne_of_lt (Nat.lt_of_lt_of_le (Heap.lt_size e) I.ok.above))).trans (I.base.keep b o e n hb hx)
  ·obtain ⟨sl, e1⟩ := I.base.slot b o e n hb hx
   exact ⟨sl, (hs.2 b (Nat.ne_of_lt (Nat.lt_of_lt_of_le (Heap.lt_size e) I.ok.above))).trans e1⟩
  ·obtain ⟨o', e1⟩ := I.base.there b o e hx
   exact ⟨o', (hs.2 b (Nat.ne_of_lt (Nat.lt_of_lt_of_le (Heap.lt_size e) I.ok.above))).trans e1⟩
  ·by_cases hj : j = i
   ·subst hj
    rw [hi] at e1; cases e1
    rw [List.getElem?_set_self hiσ] at e2
    cases e2
    exact ⟨u, r, .inl ⟨hk, by simp⟩⟩
   ·rw [List.getElem?_set_ne (Ne.symm hj)] at e2
    obtain ⟨u', r', q⟩ := hl j y v' e1 e2 e3
    refine ⟨u', r', ?_⟩
    rcases q with ⟨k, e⟩ | ⟨k, c, e, z⟩
    ·refine .inl ⟨k, ?_⟩
     have : y ≠ x := fun e => hj (Zkl hN e1 (e ▸ hi))
     simp [this, e]
    ·exact .inr ⟨k, c, e, z.sameBut hs (cne y c e)⟩
  ·obtain ⟨w', z⟩ := I.cell y c e
   exact ⟨w', z.sameBut hs (cne y c e)⟩
  ·obtain ⟨e, n, ne, nf, d⟩ := I.pin p hp
   exact ⟨(hs.2 p.1 ne).trans e, n, ne, nf, d⟩
 ·have hfn : X.fn x = true := by
   rcases hf with z | z
   ·exact z
   ·rw [z] at hk; cases hk
  obtain ⟨c, hc⟩ := I.ok.has x (.inl hk)
  obtain ⟨w', z⟩ := I.cell x c hc
  refine wpAny_storeName_cell I.ok.kind hk hc z (fun h' hc' hs => ?_)
  obtain ⟨oc, hoc, hocd⟩ := id z
  refine h { s with heap := h' } ⟨I.ok, I.os, I.bare, ⟨fun b o e n hb hx => ?_, fun b o e n hb hx => ?_, I.base.free, fun b o e hx => ?_, I.base.tups, I.base.frzs, I.base.tbls⟩, ⟨m, hn.sameBut hs (Ne.symm (cne x c hc)), fun j y v' e1 e2 e3 => ?_⟩, fun y c' e => ?_, I.free, I.freeC, fun p hp => ?_, tracked ⟨oc, hoc, I.freeC x c hc⟩ hs, by simpa using I.len⟩ ⟨c, hs, .inr hc⟩
  ·exact (hs.2 b (Nat.ne_of_lt (Nat.lt_of_lt_of_le (Heap.lt_size e) (I.ok.cab x c hfn hc)))).trans (I.base.keep b o e n hb hx)
  ·obtain ⟨sl, e1⟩ := I.base.slot b o e n hb hx
   exact ⟨sl, (hs.2 b (Nat.ne_of_lt (Nat.lt_of_lt_of_le (Heap.lt_size e) (I.ok.cab x c hfn hc)))).trans e1⟩
  ·obtain ⟨o', e1⟩ := I.base.there b o e hx
   exact ⟨o', (hs.2 b (Nat.ne_of_lt (Nat.lt_of_lt_of_le (Heap.lt_size e) (I.ok.cab x c hfn hc)))).trans e1⟩
  ·by_cases hj : j = i
   ·subst hj
    rw [hi] at e1; cases e1
    rw [List.getElem?_set_self hiσ] at e2
    cases e2
    exact ⟨u, r, .inr ⟨.inl hk, c, hc, hc'⟩⟩
   ·rw [List.getElem?_set_ne (Ne.symm hj)] at e2
    obtain ⟨u', r', q⟩ := hl j y v' e1 e2 e3
    refine ⟨u', r', ?_⟩
    rcases q with q | ⟨k, c', e, z'⟩
    ·exact .inl q
    ·refine .inr ⟨k, c', e, z'.sameBut hs ?_⟩
     rintro rfl
     exact hj (Zkl hN e1 (I.ok.inj _ _ _ e hc ▸ hi))
  ·by_cases hcc : c' = c
   ·subst hcc; exact ⟨_, hc'⟩
   ·obtain ⟨w2, z2⟩ := I.cell y c' e
    exact ⟨w2, z2.sameBut hs hcc⟩
  ·obtain ⟨e, n, ne, nf, d⟩ := I.pin p hp
   refine ⟨(hs.2 p.1 ?_).trans e, n, ne, nf, d⟩
   intro q
   rw [q, hoc] at e
   have q' : oc = p.2 := Option.some.inj e
   exact d w' (by rw [← q']; exact hocd)
theorem Zkm {M : Model} {A : Around} {E : Value → Shared → Prop} {i : Nat} {x : Str} {v : V} {u : Value} {Q : Unit → Shared → Prop} (I : Inv X pins σ H s) (hN : X.N.Nodup) (hi : X.N[i]? = some x) (hx : Loc X.env.scope x) (r : RelV v u)
  (h : ∀ s', Inv X pins (σ.set i (some v)) H s' → Q () s') (hf : X.fn x = true ∨ X.env.scope.names.lookup x = some .local := by first | exact .inl rfl | exact .inr rfl | assumption) : wpAny M A (storeName X.env x u) Q E s :=
 Zi7 I hN hi hx r (fun s' I' _ => h s' I') hf
theorem Inv.call' {s' : Shared} {ch : List Addr} (I : Inv X pins σ H s) (ho : s'.os = s.os) (u : Un (frs X.stack) ch H H' s.heap s'.heap) (hok : HOk X.prog X.w H' s'.heap) (hg : AllBare s'.gens)
  (hch : ∀ b ∈ ch, (b ∈ X.ex ∨ X.s₀.heap.objs.size ≤ b) ∧ b ≠ X.env.locals ∧ (∀ x c, X.env.cells.lookup x = some c → c ≠ b) ∧ ∀ p ∈ X.pn ++ pins, p.1 ≠ b) : Inv X pins σ H' s' := by
 obtain ⟨h', g', d', t', o'⟩ := s'
 have e : o' = s.os := ho
 subst e
 exact I.call (g' := g') (t' := t') (d' := d') u hok hg hch
end
abbrev XK := Value → Option Addr → Hp → Prop
abbrev St := List (Option V)
abbrev VK := V → Hp → Prop
abbrev TE := St → Hp → VK → Prop
abbrev TT := St → Hp → (Bool → Hp → Prop) → Prop
abbrev TA := St → Hp → (List V → Hp → Prop) → Prop
structure Ends where
 nx : St → Hp → Prop
 rt : VK
 bk : St → Hp → Prop := fun _ _ => False
 ct : St → Hp → Prop := fun _ _ => False
abbrev TS := Ends → St → Hp → Prop
def EP (X : Cx) (pins : List (Addr × Obj)) (σ : St) (Q : VK) (u : Value) (s' : Shared) : Prop := ∃ v H', Inv X pins σ H' s' ∧ RelV v u ∧ Q v H'
def TP (X : Cx) (pins : List (Addr × Obj)) (σ : St) (Q : Bool → Hp → Prop) (b : Bool) (s' : Shared) : Prop := ∃ H', Inv X pins σ H' s' ∧ Q b H'
def AP (X : Cx) (pins : List (Addr × Obj)) (σ : St) (Q : List V → Hp → Prop) (us : List Value) (s' : Shared) : Prop := ∃ vs H', Inv X pins σ H' s' ∧ Vals vs us ∧ Q vs H'
def SP (X : Cx) (pins : List (Addr × Obj)) (D : Ends) (f : Flow) (s' : Shared) : Prop :=
 match f with
 | .next => ∃ σ' H', Inv X pins σ' H' s' ∧ D.nx σ' H'
 | .brk => ∃ σ' H', Inv X pins σ' H' s' ∧ D.bk σ' H'
 | .cont => ∃ σ' H', Inv X pins σ' H' s' ∧ D.ct σ' H'
 | .ret u => ∃ v σ' H', Inv X pins σ' H' s' ∧ RelV v u ∧ D.rt v H'
def PE (X : Cx) (e : Expr) (t : TE) : Prop :=
 ∀ (pins : List (Addr × Obj)) (s : Shared) (σ : St) (H : Hp) (Q : VK), Inv X pins σ H s → t σ H Q → wpAny (model X.prog X.w) X.A (eval e X.env) (EP X pins σ Q) X.xe s
def PT (X : Cx) (e : Expr) (t : TT) : Prop :=
 ∀ (pins : List (Addr × Obj)) (s : Shared) (σ : St) (H : Hp) (Q : Bool → Hp → Prop), Inv X pins σ H s → t σ H Q → wpAny (model X.prog X.w) X.A (isTrue e X.env (eval e X.env)) (TP X pins σ Q) X.xe s
def PW (X : Cx) (e : Expr) (t : TT) : Prop :=
 ∀ (whole : Sem Value) (pins : List (Addr × Obj)) (s : Shared) (σ : St) (H : Hp) (Q : Bool → Hp → Prop), Inv X pins σ H s → t σ H Q → wpAny (model X.prog X.w) X.A (isTrue e X.env whole) (TP X pins σ Q) X.xe s
theorem PW.pt {X : Cx} {e : Expr} {t : TT} (h : PW X e t) : PT X e t := h _
def PA (X : Cx) (es : List Expr) (t : TA) : Prop :=
 ∀ (pos : Pos) (pins : List (Addr × Obj)) (s : Shared) (σ : St) (H : Hp) (Q : List V → Hp → Prop), Inv X pins σ H s → t σ H Q → wpAny (model X.prog X.w) X.A (spliced (backTo pos (starEach es X.env))) (AP X pins σ Q) X.xe s
def PS (X : Cx) (st : Stmt) (t : TS) : Prop :=
 ∀ (pins : List (Addr × Obj)) (s : Shared) (σ : St) (H : Hp) (D : Ends), Inv X pins σ H s → t D σ H → wpAny (model X.prog X.w) X.A (exec st X.env) (SP X pins D) X.xe s
def PSs (X : Cx) (st : List Stmt) (t : TS) : Prop :=
 ∀ (pins : List (Addr × Obj)) (s : Shared) (σ : St) (H : Hp) (D : Ends), Inv X pins σ H s → t D σ H → wpAny (model X.prog X.w) X.A (execs st X.env) (SP X pins D) X.xe s
theorem thn {α : Type} {t : Sem α} {Q Q' : α → Shared → Prop} {M : Model} {A : Around} {E : Value → Shared → Prop} {s : Shared} (h : wpAny M A t Q E s) (hQ : ∀ a s, Q a s → Q' a s) : wpAny M A t Q' E s := wpAny_mono h hQ fun _ _ x => x
end L2
namespace L2
open PySem PySem.Spec PyProof.Rows
section
variable {X : Cx}
def Zr8 (i : Nat) : TE := fun σ H Q => ∃ v, σ[i]? = some (some v) ∧ Q v H
def tC (v : V) : TE := fun _ H Q => Q v H
theorem ZpJ {i : Nat} {x : Str} {pos : Pos} (hN : X.N[i]? = some x) (hv : Vis X.env.scope x) (hd : (x == ("__debug__" : Str)) = false := by decide) (hcd : (x == ("__classdict__" : Str)) = false := by decide) : PE X (.Name x pos) (Zr8 i) := by
 intro pins s σ H Q I h
 obtain ⟨v, e, h⟩ := h
 obtain ⟨m, hn, hl⟩ := I.loc
 obtain ⟨u, r, l⟩ := hl i x v hN e hv
 have fin : EP X pins σ Q u s := ⟨v, H, I, r, h⟩
 rcases l with ⟨hk, hm⟩ | ⟨hk, c, hc, hcell⟩
 ·exact wpAny_Name (wpAny_loadName_local I.ok.kind hk hn hm fin) hd
 ·rcases hk with hk | hk
  ·exact wpAny_Name (wpAny_loadName_cell I.ok.kind hk hc hcell fin) hd
  ·exact wpAny_Name (wpAny_loadName_free I.ok.kind hk hc hcell fin hcd) hd
theorem Zqh {i j pos} : PE X (.Constant (.int i) j pos) (tC (.int i)) := fun _ _ _ H _ I h => wpAny_Constant_int ⟨.int i, H, I.tok _, ⟨_, rfl⟩, h⟩
theorem Zrg {b j pos} : PE X (.Constant (.bool b) j pos) (tC (.bl b)) := fun _ _ _ H _ I h => Constant_bool ⟨.bl b, H, I, rfl, h⟩
theorem Zqc {j pos} : PE X (.Constant .none j pos) (tC .non) := fun _ _ _ H _ I h => Constant_none ⟨.non, H, I, rfl, h⟩
theorem Zp6 {x j pos} : PE X (.Constant (.str x) j pos) (tC (.str x)) := fun _ _ _ H _ I h => Calls.Constant_str ⟨.str x, H, I.tok _, ⟨_, rfl⟩, h⟩
def Gl (X : Cx) (x : Str) : Prop := X.env.kindOf x = some .globalImplicit
theorem ZoC {E : Value → Shared → Prop} {pins : List (Addr × Obj)} {s : Shared} {σ : St} {H : Hp} {x : Str} {u : Value} {pos : Pos} {Q : Value → Shared → Prop} (I : Inv X pins σ H s) (hg : Gl X x) (hm : X.mg x = some u) (h : Q u s)
  (hd : (x == ("__debug__" : Str)) = false := by decide) : wpAny (model X.prog X.w) X.A (eval (.Name x pos) X.env) Q E s :=
 Calls.Name_function_global I.ok.kind hg (Calls.loadGlobal_global (by rw [I.ok.glob]; exact I.mod.glob.keeps I.bk) hm h) hd
theorem ZhV {E : Value → Shared → Prop} {pins : List (Addr × Obj)} {s : Shared} {σ : St} {H : Hp} {x : Str} {u : Value} {pos : Pos} {Q : Value → Shared → Prop} (I : Inv X pins σ H s) (hg : Gl X x) (hm : X.mg x = none) (hv : bootBuiltins x = some u) (h : Q u s)
  (hn : x ≠ "__name__" := by decide) (hd : (x == ("__debug__" : Str)) = false := by decide) : wpAny (model X.prog X.w) X.A (eval (.Name x pos) X.env) Q E s := by
 obtain ⟨mb, h1, h2⟩ := I.mod.blt
 exact Calls.Name_function_global I.ok.kind hg (Calls.loadGlobal_builtin (by rw [I.ok.glob]; exact I.mod.glob.keeps I.bk) hm (by rw [I.ok.blt]; exact h1.keeps I.bk) ((h2 x hn).trans hv) h) hd
theorem Zoe {x : Str} {v : V} {u : Value} {pos : Pos} (hg : Gl X x) (hm : X.mg x = none) (hv : bootBuiltins x = some u) (r : RelV v u) (hn : x ≠ "__name__" := by decide) (hd : (x == ("__debug__" : Str)) = false := by decide) : PE X (.Name x pos) (tC v) :=
 fun _ _ _ H _ I h => ZhV I hg hm hv ⟨v, H, I, r, h⟩ hn hd
variable {a b : Expr} {ta tb : TE} {pos : Pos}
def tB (t : TE) : TT := fun σ H Q => t σ H fun x H1 => ∃ c, x = .bl c ∧ Q c H1
theorem ZpX {e : Expr} {t : TE} (h : PE X e t) (he : ∀ whole, isTrue e X.env whole = (do let v ← whole; standAt e.pos; holding [v] (truthy v)) := by intro _; rfl) : PT X e (tB t) := by
 intro pins s σ H Q I hw
 refine isTrue_plain (thn (h pins s σ H _ I hw) fun v s1 ⟨x, H1, I1, r1, q1⟩ => ?_) (he _)
 obtain ⟨d, rfl, q⟩ := q1
 cases r1
 exact wpAny_truthy_bool ⟨H1, I1, q⟩
variable {tA tB' : TT} {rest : List Expr}
def ZrP (t u : TT) : TT := fun σ H Q => t σ H fun c H1 => if c = true then u σ H1 Q else Q false H1
def tOr (t u : TT) : TT := fun σ H Q => t σ H fun c H1 => if c = true then Q true H1 else u σ H1 Q
def Zsh (t : TT) : TT := fun σ H Q => t σ H fun c H1 => Q (!c) H1
theorem Zop (ha : PT X a tA) : PW X (.BoolOp .And [a] pos) tA := by
 intro wh pins s σ H Q I h
 refine isTrue_and (thn (ha pins s σ H Q I h) fun c s1 e => ?_)
 cases c with
 | true => exact isTrue_and_nil e
 | false => exact e
theorem ZpI (ha : PT X a tA) : PW X (.BoolOp .Or [a] pos) tA := by
 intro wh pins s σ H Q I h
 refine isTrue_or (thn (ha pins s σ H Q I h) fun c s1 e => ?_)
 cases c with
 | false => exact isTrue_or_nil e
 | true => exact e
theorem Zp1 (ha : PT X a tA) (hb : PW X (.BoolOp .And (b :: rest) pos) tB') : PW X (.BoolOp .And (a :: b :: rest) pos) (ZrP tA tB') := by
 intro wh pins s σ H Q I h
 refine isTrue_and (thn (ha pins s σ H _ I h) fun c s1 ⟨H1, I1, q1⟩ => ?_)
 cases c with
 | true => exact hb wh pins s1 σ H1 Q I1 q1
 | false => exact ⟨H1, I1, q1⟩
theorem Zrl (ha : PT X a tA) (hb : PW X (.BoolOp .Or (b :: rest) pos) tB') : PW X (.BoolOp .Or (a :: b :: rest) pos) (tOr tA tB') := by
 intro wh pins s σ H Q I h
 refine isTrue_or (thn (ha pins s σ H _ I h) fun c s1 ⟨H1, I1, q1⟩ => ?_)
 cases c with
 | true => exact ⟨H1, I1, q1⟩
 | false => exact hb wh pins s1 σ H1 Q I1 q1
theorem ZpB (ha : PT X a tA) : PT X (.UnaryOp .Not a pos) (Zsh tA) := by
 intro pins s σ H Q I h
 exact isTrue_not (ha pins s σ H (fun c H1 => Q (!c) H1) I h)
def ZqV (ta tb : TE) : TE := fun σ H Q => ta σ H fun x H1 => ∃ c, x = .bl c ∧ if c = true then tb σ H1 Q else Q (.bl false) H1
def Zr1 (ta tb : TE) : TE := fun σ H Q => ta σ H fun x H1 => ∃ c, x = .bl c ∧ if c = true then Q (.bl true) H1 else tb σ H1 Q
def Zq9 (ta : TE) : TE := fun σ H Q => ta σ H fun x H1 => ∃ c, x = .bl c ∧ Q (.bl (!c)) H1
theorem ZpP {op} {t : TE} (h : PE X a t) : PE X (.BoolOp op [a] pos) t := fun pins s σ H Q I hw => BoolOp_one (h pins s σ H Q I hw)
theorem ZqB (ha : PE X a ta) (hb : PE X (.BoolOp .And (b :: rest) pos) tb) : PE X (.BoolOp .And (a :: b :: rest) pos) (ZqV ta tb) := by
 intro pins s σ H Q I h
 refine BoolOp_and (thn (ha pins s σ H _ I h) fun v s1 ⟨x, H1, I1, r1, q1⟩ => ?_)
 obtain ⟨c, rfl, q1⟩ := q1
 cases r1
 refine wpAny_truthy_bool ?_
 cases c with
 | true => exact hb pins s1 σ H1 Q I1 q1
 | false => exact ⟨.bl false, H1, I1, rfl, q1⟩
theorem Zro (ha : PE X a ta) (hb : PE X (.BoolOp .Or (b :: rest) pos) tb) : PE X (.BoolOp .Or (a :: b :: rest) pos) (Zr1 ta tb) := by
 intro pins s σ H Q I h
 refine BoolOp_or (thn (ha pins s σ H _ I h) fun v s1 ⟨x, H1, I1, r1, q1⟩ => ?_)
 obtain ⟨c, rfl, q1⟩ := q1
 cases r1
 refine wpAny_truthy_bool ?_
 cases c with
 | false => exact hb pins s1 σ H1 Q I1 q1
 | true => exact ⟨.bl true, H1, I1, rfl, q1⟩
theorem Zpm (ha : PE X a ta) : PE X (.UnaryOp .Not a pos) (Zq9 ta) := by
 intro pins s σ H Q I h
 refine UnaryOp_ (thn (ha pins s σ H _ I h) fun v s1 ⟨x, H1, I1, r1, q1⟩ => ?_)
 obtain ⟨c, rfl, q1⟩ := q1
 cases r1
 exact not_of (wpAny_truthy_bool ⟨.bl (!c), H1, I1, rfl, q1⟩)
def tIf (t : TT) (ta tb : TE) : TE := fun σ H Q => t σ H fun c H1 => if c = true then ta σ H1 Q else tb σ H1 Q
theorem Zne {c : Expr} (hc : PT X c tA) (ha : PE X a ta) (hb : PE X b tb) : PE X (.IfExp c a b pos) (tIf tA ta tb) := by
 intro pins s σ H Q I h
 refine wpAny_IfExp (thn (hc pins s σ H _ I h) fun d s1 ⟨H1, I1, q1⟩ => ?_)
 cases d with
 | true => exact ha pins s1 σ H1 Q I1 q1
 | false => exact hb pins s1 σ H1 Q I1 q1
end
end L2
namespace L2
open PySem PySem.Spec PyProof.Rows
def SqL (K : PySem.W.Frag) (H : Hp) (a : Addr) (xs : List V) : Prop :=
 Rd H a (.lst xs) ∨
  ∃ (o : Obj) (its : Array Value) (n : Nat), K.lookup a = some o ∧ o.cls = .type "list" ∧ o.dict = none ∧ o.data = .seq its n ∧ its.size ≤ sizeLine ∧ Vals xs its.toList
def SqT (K : PySem.W.Frag) (H : Hp) (a : Addr) (xs : List V) : Prop :=
 Rd H a (.tup xs) ∨
  ∃ (o : Obj) (its : Array Value) (n : Nat), K.lookup a = some o ∧ (o.cls = .type "tuple" ∧ o.dict = none) ∧ o.data = .seq its n ∧ its.size ≤ sizeLine ∧ Vals xs its.toList
def ZrT : Value → Option V
 | .none => some .non
 | .bool b => some (.bl b)
 | .int i _ => some (.int i)
 | .str x _ => some (.str x)
 | .bytes b _ => some (.byt b)
 | .float b _ => some (.flt b)
 | .ref a => some (.ref a)
 | .type n => some (.ty n)
 | _ => none
theorem RelV.abs {x : V} {u : Value} (r : RelV x u) : ZrT u = some x := by
 cases x with
 | non => cases r; rfl
 | bl _ => cases r; rfl
 | int _ => obtain ⟨t, rfl⟩ := r; rfl
 | str _ => obtain ⟨t, rfl⟩ := r; rfl
 | byt _ => obtain ⟨t, rfl⟩ := r; rfl
 | flt _ => obtain ⟨t, rfl⟩ := r; rfl
 | ref _ => cases r; rfl
 | ty _ => cases r; rfl
theorem RelV.inj {x y : V} {u : Value} (r : RelV x u) (q : RelV y u) : x = y := Option.some.inj (r.abs.symm.trans q.abs)
theorem Vals.inj : ∀ {xs ys : List V} {us : List Value}, Vals xs us → Vals ys us → xs = ys
 | _, _, _, .nil, .nil => rfl
 | _, _, _, .cons r t, .cons r' t' => by rw [r.inj r', Vals.inj t t']
section
variable {X : Cx} {pins : List (Addr × Obj)} {σ : St} {H : Hp} {s : Shared} {a : Addr} {xs ys : List V}
theorem SqL.of {K : PySem.W.Frag} (h : H a = some (.lst xs)) : SqL K H a xs := .inl (.inl h)
theorem SqT.of {K : PySem.W.Frag} (h : H a = some (.tup xs)) : SqT K H a xs := .inl (.inl h)
theorem Inv.list (I : Inv X pins σ H s) (h : SqL X.K H a xs) : ∃ its : List Value, Vals xs its ∧ PlainL s.heap a its.toArray ∧ xs.length ≤ sizeLine := by
 rcases h with h | ⟨o, its, n, hk, hc, hd, hs, hz, r⟩
 ·obtain ⟨z, its, n, r, e⟩ := h.ok I.hok
  exact ⟨its, r, ⟨_, n, e, rfl, rfl, rfl⟩, z⟩
 ·refine ⟨its.toList, r, ⟨o, n, I.kIn a o hk, hc, hd, by simpa using hs⟩, ?_⟩
  have e := r.length
  simp only [Array.length_toList] at e
  omega
theorem Inv.tuple (I : Inv X pins σ H s) (h : SqT X.K H a xs) : ∃ its : List Value, Vals xs its ∧ IsTup s.heap a its.toArray ∧ xs.length ≤ sizeLine := by
 rcases h with h | ⟨o, its, n, hk, hc, hs, hz, r⟩
 ·obtain ⟨z, its, r, p⟩ := h.ok I.hok
  exact ⟨its, r, p.tup, z⟩
 ·refine ⟨its.toList, r, ⟨o, I.kIn a o hk, hc.1, n, by simpa using hs⟩, ?_⟩
  have e := r.length
  simp only [Array.length_toList] at e
  omega
theorem Inv.list_inj (I : Inv X pins σ H s) (h : SqL X.K H a xs) (h' : SqL X.K H a ys) : xs = ys := by
 obtain ⟨its, r, ⟨o, n, e, _, _, d⟩, _⟩ := I.list h
 obtain ⟨its', r', ⟨o', n', e', _, _, d'⟩, _⟩ := I.list h'
 rw [e] at e'; cases e'
 rw [d] at d'
 injection d' with d1 _
 have : its = its' := by simpa using congrArg Array.toList d1
 subst this
 exact r.inj r'
theorem Inv.tupleN (I : Inv X pins σ H s) (h : SqT X.K H a xs) : ∃ its : List Value, Vals xs its ∧ Zeq s.heap a its.toArray ∧ xs.length ≤ sizeLine := by
 rcases h with h | ⟨o, its, n, hk, hc, hs, hz, r⟩
 ·obtain ⟨z, its, r, p⟩ := h.ok I.hok; exact ⟨its, r, p, z⟩
 ·refine ⟨its.toList, r, ⟨o, I.kIn a o hk, hc, n, by simpa using hs⟩, ?_⟩; have e := r.length; simp only [Array.length_toList] at e; omega
theorem Inv.tuple_inj (I : Inv X pins σ H s) (h : SqT X.K H a xs) (h' : SqT X.K H a ys) : xs = ys := by
 obtain ⟨its, r, ⟨o, e, _, n, d⟩, _⟩ := I.tuple h
 obtain ⟨its', r', ⟨o', e', _, n', d'⟩, _⟩ := I.tuple h'
 rw [e] at e'; cases e'
 rw [d] at d'
 injection d' with d1 _
 have : its = its' := by simpa using congrArg Array.toList d1
 subst this
 exact r.inj r'
end
abbrev Cx.wish (X : Cx) (E : Value → Shared → Prop) : Cx := { X with xe := E }
abbrev Cx.nox (X : Cx) : Cx := X.wish fun _ _ => False
theorem Cx.Ok.wish {X : Cx} (ok : X.Ok) (E : Value → Shared → Prop) : (X.wish E).Ok :=
 ⟨ok.mod, ok.kind, ok.glob, ok.blt, ok.above, ok.inj, ok.has, ok.cab, ok.hd, ok.frames, ok.stk, ok.exf, ok.bs, ok.bsz, ok.noex, ok.exfs, ok.funs, ok.frf⟩
theorem Cx.Ok.unwish {X : Cx} {E : Value → Shared → Prop} (ok : (X.wish E).Ok) : X.Ok :=
 ⟨ok.mod, ok.kind, ok.glob, ok.blt, ok.above, ok.inj, ok.has, ok.cab, ok.hd, ok.frames, ok.stk, ok.exf, ok.bs, ok.bsz, ok.noex, ok.exfs, ok.funs, ok.frf⟩
section
variable {X : Cx} {pins : List (Addr × Obj)} {σ : St} {H : Hp} {s : Shared} {E : Value → Shared → Prop}
theorem Inv.wish (I : Inv X pins σ H s) (E : Value → Shared → Prop) : Inv (X.wish E) pins σ H s := ⟨I.ok.wish E, I.os, I.bare, I.base, I.loc, I.cell, I.free, I.freeC, I.pin, I.hok, I.len⟩
theorem Inv.unwish (I : Inv (X.wish E) pins σ H s) : Inv X pins σ H s := ⟨I.ok.unwish, I.os, I.bare, I.base, I.loc, I.cell, I.free, I.freeC, I.pin, I.hok, I.len⟩
theorem SP.unwish {D : Ends} {f : Flow} {s' : Shared} (h : SP (X.wish E) pins D f s') : SP X pins D f s' := by
 cases f with
 | next => obtain ⟨σ', H', I, q⟩ := h; exact ⟨σ', H', I.unwish, q⟩
 | brk => obtain ⟨σ', H', I, q⟩ := h; exact ⟨σ', H', I.unwish, q⟩
 | cont => obtain ⟨σ', H', I, q⟩ := h; exact ⟨σ', H', I.unwish, q⟩
 | ret u => obtain ⟨v, σ', H', I, r, q⟩ := h; exact ⟨v, σ', H', I.unwish, r, q⟩
theorem PSs.nox {st : List Stmt} {t : TS} (h : PSs X.nox st t) : PSs X st t := fun pins s σ H D I hw =>
 wpAny_mono (h pins s σ H D (I.wish _) hw) (fun _ _ q => q.unwish) fun _ _ z => False.elim z
end
section
variable {X : Cx} {st : Stmt} {rest : List Stmt} {t u : TS} {e : Expr} {te : TE} {pos : Pos}
def Zrt : TS := fun D σ H => D.nx σ H
def Zsf (t u : TS) : TS := fun D σ H => t { D with nx := u D } σ H
theorem ZoI : PSs X [] Zrt := fun _ _ σ H _ I h => wpAny_execs_nil ⟨σ, H, I, h⟩
theorem Zns (h1 : PS X st t) (h2 : PSs X rest u) : PSs X (st :: rest) (Zsf t u) := by
 intro pins s σ H D I h
 refine wpAny_execs_cons (thn (h1 pins s σ H { D with nx := u D } I h) fun f s1 q => ?_)
 cases f with
 | next =>
  obtain ⟨σ', H', I', q⟩ := q
  exact h2 pins s1 σ' H' D I' q
 | ret v => exact q
 | brk => exact q
 | cont => exact q
theorem ZoJ (h1 : PS X st t) : PSs X [st] t := by
 intro pins s σ H D I h
 refine wpAny_execs_cons (thn (h1 pins s σ H D I h) fun f s1 q => ?_)
 cases f with
 | next => exact wpAny_execs_nil q
 | ret v => exact q
 | brk => exact q
 | cont => exact q
theorem Inv.quiet {pins : List (Addr × Obj)} {σ : St} {H : Hp} {s : Shared} (I : Inv X pins σ H s) : interactive X.env = false := by simp [interactive, I.ok.kind]
def Zq1 (te : TE) : TS := fun D σ H => te σ H fun _ H1 => D.nx σ H1
theorem Zoi (he : PE X e te) (hs : swapsWith e none pos.line X.env = pure false := by rfl) : PS X (.Expr e pos) (Zq1 te) := by
 intro pins s σ H D I h
 exact wpAny_Expr_any (thn (he pins s σ H _ I h) fun v s1 ⟨x, H1, I1, r1, q1⟩ => ⟨σ, H1, I1, q1⟩) I.quiet hs
def Zr5 (te : TE) : TS := fun D σ H => te σ H D.rt
theorem Zpn (he : PE X e te) : PS X (.Return (some e) pos) (Zr5 te) := by
 intro pins s σ H D I h
 exact wpAny_Return_some (thn (he pins s σ H _ I h) fun v s1 ⟨x, H1, I1, r1, q1⟩ => ⟨x, σ, H1, I1, r1, q1⟩)
def ZrX (c : TT) (t u : TS) : TS := fun D σ H => c σ H fun b H1 => if b = true then t D σ H1 else u D σ H1
theorem Zra {c : Expr} {a b : List Stmt} {tc : TT} (hc : PT X c tc) (ha : PSs X a t) (hb : PSs X b u) : PS X (.If c a b pos) (ZrX tc t u) := by
 intro pins s σ H D I h
 refine wpAny_If (thn (hc pins s σ H _ I h) fun d s1 ⟨H1, I1, q1⟩ => ?_)
 cases d with
 | true => exact ha pins s1 σ H1 D I1 q1
 | false => exact hb pins s1 σ H1 D I1 q1
end
abbrev TG := V → St → Hp → (St → Hp → Prop) → Prop
abbrev TGs := List V → St → Hp → (St → Hp → Prop) → Prop
def PG (X : Cx) (target : Expr) (t : TG) : Prop :=
 ∀ (pins : List (Addr × Obj)) (s : Shared) (σ : St) (H : Hp) (v : V) (u : Value) (Q : St → Hp → Prop), Inv X pins σ H s → RelV v u → t v σ H Q →
  wpAny (model X.prog X.w) X.A (assign target X.env u) (fun _ s' => ∃ σ' H', Inv X pins σ' H' s' ∧ Q σ' H') X.xe s
def PGs (X : Cx) (ts : List Expr) (t : TGs) : Prop :=
 ∀ (pins : List (Addr × Obj)) (s : Shared) (σ : St) (H : Hp) (vs : List V) (us : List Value) (Q : St → Hp → Prop), Inv X pins σ H s → Vals vs us → t vs σ H Q →
  wpAny (model X.prog X.w) X.A (assignInOrder ((assignEach ts X.env).map (·.2)) us) (fun _ s' => ∃ σ' H', Inv X pins σ' H' s' ∧ Q σ' H') X.xe s
abbrev ZpY := V → V → V → Hp → (Hp → Prop) → Prop
def Zre (X : Cx) (t : ZpY) : Prop :=
 ∀ (pins : List (Addr × Obj)) (s : Shared) (σ : St) (H : Hp) (o i v : V) (ov iv u : Value) (Q : Hp → Prop), Inv X pins σ H s → RelV o ov → RelV i iv → RelV v u → t o i v H Q →
  wpAny (model X.prog X.w) X.A (setItem ov iv u) (fun _ s' => ∃ H', Inv X pins σ H' s' ∧ Q H') X.xe s
section
variable {X : Cx} {pos : Pos}
def Zo5 (i : Nat) : TG := fun v σ H Q => Q (σ.set i (some v)) H
theorem ZlI {i : Nat} {x : Str} (hN : X.N.Nodup) (hi : X.N[i]? = some x) (hx : Loc X.env.scope x) (hf : X.fn x = true ∨ X.env.scope.names.lookup x = some .local := by first | exact .inl rfl | exact .inr rfl | assumption) : PG X (.Name x pos) (Zo5 i) := by
 intro pins s σ H v u Q I r h
 exact wpAny_assign_Name (Zkm I hN hi hx r (fun s' I' => ⟨_, H, I', h⟩) hf)
def ZrZ : TGs := fun vs σ H Q => vs = [] ∧ Q σ H
def Zq2 (t : TG) (u : TGs) : TGs := fun vs σ H Q => ∃ v r, vs = v :: r ∧ t v σ H fun σ' H' => u r σ' H' Q
theorem ZlG : PGs X [] ZrZ := by
 intro pins s σ H vs us Q I r h
 obtain ⟨e, h⟩ := h
 subst e
 cases r
 exact assignInOrder_nil ⟨σ, H, I, h⟩
theorem Zh6 {e : Expr} {es : List Expr} {t : TG} {u : TGs} (h1 : PG X e t) (h2 : PGs X es u)
  (hs : (assignEach (e :: es) X.env).map (·.2) = assign e X.env :: (assignEach es X.env).map (·.2) := by rfl) : PGs X (e :: es) (Zq2 t u) := by
 intro pins s σ H vs us Q I r h
 obtain ⟨v, vr, e1, h⟩ := h
 subst e1
 cases r with
 | cons r rr =>
  rw [hs]
  refine assignInOrder_cons (thn (h1 pins s σ H _ _ _ I r h) fun _ s1 ⟨σ1, H1, I1, q1⟩ => ?_)
  exact h2 pins s1 σ1 H1 _ _ Q I1 rr q1
def Zr9 (K : PySem.W.Frag) (n : Nat) (t : TGs) : TG := fun v σ H Q => ∃ a xs, v = .ref a ∧ SqT K H a xs ∧ xs.length = n ∧ t xs σ H Q
theorem Zn7 {es : List Expr} {k : Nat} {t : TGs} {n : Nat} (hc : X.calm = true) (h : PGs X es t)
  (hn : (assignEach es X.env).length = n := by rfl) (hst : (assignEach es X.env).findIdx? (·.1) = none := by rfl) : PG X (.Tuple es k pos) (Zr9 X.K n t) := by
 intro pins s σ H v u Q I r hw
 obtain ⟨a, xs, e1, hq, hl, hw⟩ := hw
 subst e1
 cases r
 obtain ⟨its, rv, ht, hz⟩ := I.tuple hq
 refine assign_Tuple_tuple (I.ok.hd hc) ht (by simp [hn, ← hl, rv.length]) hst fun h' hx => ?_
 have I1 : Inv X pins σ H { s with heap := h' } := I.kept (t' := s.toks) fun b o e => hx b o (Nat.ne_of_lt (Heap.lt_size e)) e
 exact h pins _ σ H xs _ Q I1 (by simpa using rv) hw
def Zse (to ti : TE) (t : ZpY) : TG := fun v σ H Q => to σ H fun o H1 => ti σ H1 fun i H2 => t o i v H2 fun H3 => Q σ H3
theorem ZnD {o i : Expr} {to ti : TE} {t : ZpY} (ho : PE X o to) (hi : PE X i ti) (hs : Zre X t)
  (ha : ∀ v, assign (.Subscript o i pos) X.env v = (do
   let ov ← holding [v] (eval o X.env)
   let iv ← holding [v, ov] (eval i X.env)
   standAt pos
   holding [v, ov, iv] (setItem ov iv v)
   release [v, ov, iv] []) := by intro _; rfl) : PG X (.Subscript o i pos) (Zse to ti t) := by
 intro pins s σ H v u Q I r h
 rw [ha]
 refine wpAny_bind (wpAny_holding (thn (ho pins s σ H _ I h) fun ov s1 ⟨x, H1, I1, r1, q1⟩ => ?_))
 refine wpAny_bind (wpAny_holding (thn (hi pins s1 σ H1 _ I1 q1) fun iv s2 ⟨y, H2, I2, r2, q2⟩ => ?_))
 refine wpAny_bind (wpAny_standAt (wpAny_bind (wpAny_holding (thn (hs pins s2 σ H2 x y v ov iv u _ I2 r1 r2 r q2) fun _ s3 ⟨H3, I3, q3⟩ => ?_))))
 exact wpAny_release ⟨σ, H3, I3, q3⟩
def Zrs (te : TE) (g : TG) : TS := fun D σ H => te σ H fun x H1 => g x σ H1 D.nx
theorem Zjy {tg e : Expr} {te : TE} {g : TG} (he : PE X e te) (hg : PG X tg g) (hs : swapsWithSole [tg] e pos.line X.env = pure false := by rfl) (hw : swappedStores [tg] e X.env = pure none := by rfl)
  (h1 : (assignEach [tg] X.env).map (·.2) = [assign tg X.env] := by rfl) : PS X (.Assign [tg] e pos) (Zrs te g) := by
 intro pins s σ H D I h
 refine wpAny_Assign_stores (thn (he pins s σ H _ I h) fun v s1 ⟨x, H1, I1, r1, q1⟩ => ?_) hs hw
 rw [h1]
 exact thn (hg pins s1 σ H1 x v _ I1 r1 q1) fun _ s2 q => q
theorem ZqE {i : Nat} {x : Str} {e : Expr} {te : TE} {pos' : Pos} (hN : X.N.Nodup) (hi : X.N[i]? = some x) (hx : Loc X.env.scope x) (he : PE X e te) (hs : swapsWith e (some (.Name x pos')) pos.line X.env = pure false := by rfl) (hf : X.fn x = true ∨ X.env.scope.names.lookup x = some .local := by first | exact .inl rfl | exact .inr rfl | assumption) :
  PS X (.Assign [.Name x pos'] e pos) (Zrs te (Zo5 i)) := by
 intro pins s σ H D I h
 refine wpAny_Assign_Name (thn (he pins s σ H _ I h) fun v s1 ⟨y, H1, I1, r1, q1⟩ => ?_) hs
 exact Zkm I1 hN hi hx r1 (fun s2 I2 => ⟨_, H1, I2, q1⟩) hf
end
section
variable {X : Cx} {pos : Pos}
def Zp5 (c : TT) (tb : TS) : TS := fun D σ H => ∃ W : Nat → St → Hp → Prop, (∃ m, W m σ H) ∧ ∀ m σ H, W m σ H →
 c σ H fun b H1 => if b = true then ∃ N : St → Hp → Prop, (∀ σ' H', N σ' H' → ∃ m', m' < m ∧ W m' σ' H') ∧ tb { D with nx := N, ct := N, bk := D.nx } σ H1 else D.nx σ H1
theorem Zn6 {c : Expr} {body : List Stmt} {tc : TT} {tb : TS} (hp : PassesOwn (model X.prog X.w) X.A X.env X.xe) (hc : PT X c tc) (hb : PSs X body tb) : PS X (.While c body [] pos) (Zp5 tc tb) := by
 intro pins s σ H D I h
 obtain ⟨W, ⟨m0, w0⟩, turn⟩ := h
 refine wpAny_While (codeAny_whileLoop (fun n s' => ∃ σ' H', Inv X pins σ' H' s' ∧ W n σ' H') ?_ m0 ⟨σ, H, I, w0⟩)
 rintro n s1 ⟨σ1, H1, I1, w1⟩
 refine wpAny_passesOwn hp (thn (hc pins s1 σ1 H1 _ I1 (turn n σ1 H1 w1)) fun b s2 ⟨H2, I2, q2⟩ => ?_)
 cases b with
 | true =>
  obtain ⟨N, hN, q2⟩ := q2
  rw [if_pos rfl]
  refine wpAny_passesOwn hp (thn (hb pins s2 σ1 H2 _ I2 q2) fun f s3 q3 => ?_)
  cases f with
  | next =>
   obtain ⟨σ3, H3, I3, n3⟩ := q3
   obtain ⟨m', hm, w3⟩ := hN σ3 H3 n3
   exact ⟨m', hm, σ3, H3, I3, w3⟩
  | cont =>
   obtain ⟨σ3, H3, I3, n3⟩ := q3
   obtain ⟨m', hm, w3⟩ := hN σ3 H3 n3
   exact ⟨m', hm, σ3, H3, I3, w3⟩
  | brk => exact q3
  | ret v => exact q3
 | false =>
  rw [if_neg Bool.false_ne_true]
  exact wpAny_execs_nil ⟨σ1, H2, I2, q2⟩
end
structure It where
 go : Nat → Hp → Prop
 yld : Nat → Hp → V → Hp → Prop
 stop : Nat → Hp → Prop
def Zgq (X : Cx) (pins : List (Addr × Obj)) (H : Hp) (b : Addr) : Prop :=
 H b = none ∧ b ≠ X.env.locals ∧ b ∉ X.fs ∧ (b ∈ X.ex ∨ X.s₀.heap.objs.size ≤ b) ∧ (∀ x c, X.env.cells.lookup x = some c → c ≠ b) ∧ ∀ p ∈ X.pn ++ pins, p.1 ≠ b
theorem Inv.fpOk {X : Cx} {pins : List (Addr × Obj)} {σ : St} {H H' : Hp} {s : Shared} {b : Addr} (I : Inv X pins σ H s) (hb : s.heap.objs.size ≤ b) (hn : H' b = none) : Zgq X pins H' b := by
 refine ⟨hn, Nat.ne_of_gt (Nat.lt_of_lt_of_le I.lt hb), I.nofs hb, .inr (Nat.le_trans I.sz hb), fun x c e z => ?_, fun p hp z => ?_⟩
 ·obtain ⟨v, q⟩ := I.cell x c e
  exact absurd (Nat.lt_of_lt_of_le q.lt (by rw [z]; exact hb)) (Nat.lt_irrefl _)
 ·exact absurd (Nat.lt_of_lt_of_le (Heap.lt_size (I.pin p hp).1) (by rw [z]; exact hb)) (Nat.lt_irrefl _)
structure Turn (P : Program) (w : World) (K : PySem.W.Frag) (tg : Expr) (J : It) (fp : List Addr) (it : Addr) (tn : Nat → Heap → Prop) : Prop where
 mem : it ∈ fp
 obj : ∀ i h, tn i h → ∀ b ∈ fp, ∃ o, h.get? b = some o ∧ ∀ v, o.data ≠ .cell v
 keep : ∀ i h h', tn i h → (∀ b ∈ fp, ∀ o, h.get? b = some o → h'.get? b = some o) → tn i h'
 item : ∀ (X : Cx), X.prog = P → X.w = w → X.K = K → X.calm = true → ∀ (i : Nat) (pins : List (Addr × Obj)) (s : Shared) (σ : St) (H : Hp) (E : Value → Shared → Prop), Inv X pins σ H s → (∀ b ∈ fp, Zgq X pins H b) → tn i s.heap → J.go i H →
  wpAny (model P w) X.A (pyNext (.ref it)) (fun r s1 => ∃ u, r = some u ∧
   wpAny (model P w) X.A (letOwnedTupleGo tg (.ref it) u) (fun _ s2 => ∃ x H', Inv X pins σ H' s2 ∧ RelV x u ∧ J.yld i H x H' ∧ tn (i + 1) s2.heap ∧ ∀ b ∈ fp, H' b = none) E s1) E s
 done : ∀ (X : Cx), X.prog = P → X.w = w → X.K = K → X.calm = true → ∀ (i : Nat) (pins : List (Addr × Obj)) (s : Shared) (σ : St) (H : Hp) (E : Value → Shared → Prop), Inv X pins σ H s → (∀ b ∈ fp, Zgq X pins H b) → tn i s.heap → J.stop i H →
  wpAny (model P w) X.A (pyNext (.ref it)) (fun r s1 => r = none ∧ Inv X pins σ H s1) E s
 self : ∀ (A : Around) (i : Nat) (s : Shared) (Q : Value → Shared → Prop) (E : Value → Shared → Prop), tn i s.heap → Q (.ref it) s → wpAny (model P w) A (pyIter (.ref it)) Q E s
abbrev TI := St → Hp → (It → Hp → Prop) → Prop
def PIE (X : Cx) (pins : List (Addr × Obj)) (σ : St) (tg : Expr) (R : It → Hp → Prop) (itv : Value) (s2 : Shared) : Prop :=
 ∃ (it : Addr) (fp : List Addr) (tn : Nat → Heap → Prop) (J : It) (H' : Hp), itv = .ref it ∧ Inv X pins σ H' s2 ∧ Turn X.prog X.w X.K tg J fp it tn ∧ tn 0 s2.heap ∧ (∀ b ∈ fp, Zgq X pins H' b) ∧ R J H'
def PI (X : Cx) (tg iter : Expr) (wi : TI) : Prop :=
 ∀ (pins : List (Addr × Obj)) (s : Shared) (σ : St) (H : Hp) (R : It → Hp → Prop), Inv X pins σ H s → wi σ H R →
  wpAny (model X.prog X.w) X.A (eval iter X.env) (fun v s1 => wpAny (model X.prog X.w) X.A (pyIter v) (PIE X pins σ tg R) X.xe s1) X.xe s
theorem Zkr {M : Model} {A : Around} {E : Value → Shared → Prop} {s : Shared} {tg : Expr} {it : Addr} {u : Value} {o : Obj} {n : String} {vs : Array Value} {Q : Unit → Shared → Prop} (ho : s.heap.get? it = some o) (hc : o.cls = .type n) (hd : o.data = .fields vs)
  (hn : ["enumerate", "zip", "dict_itemiterator", "dict_reverseitemiterator", "odict_iterator", "itertools.zip_longest", "itertools.pairwise"].contains n = false) (hQ : Q () s) : wpAny M A (letOwnedTupleGo tg (.ref it) u) Q E s := by
 unfold letOwnedTupleGo
 cases tg <;> first
  | exact wpAny_pure hQ
  | (cases u <;> first
    | exact wpAny_pure hQ
    | (refine wpAny_bind (wpAny_load ho ?_)
       rw [hc, hd]
       show wpAny M A (if (["enumerate", "zip", "dict_itemiterator", "dict_reverseitemiterator", "odict_iterator", "itertools.zip_longest", "itertools.pairwise"].contains n && vs[0]? == some (rawInt _)) = true then _ else _) Q E s
       rw [if_neg (by intro h; rw [hn, Bool.false_and] at h; cases h)]
       exact wpAny_pure hQ))
def Itl (K : PySem.W.Frag) (a : Addr) : It :=
 ⟨fun i H => ∃ xs x, SqL K H a xs ∧ xs[i]? = some x, fun i H x H' => H' = H ∧ ∀ xs, SqL K H a xs → xs[i]? = some x, fun i H => ∃ xs, SqL K H a xs ∧ xs.length ≤ i⟩
def Itt (K : PySem.W.Frag) (a : Addr) : It :=
 ⟨fun i H => ∃ xs x, SqT K H a xs ∧ xs[i]? = some x, fun i H x H' => H' = H ∧ ∀ xs, SqT K H a xs → xs[i]? = some x, fun i H => ∃ xs, SqT K H a xs ∧ xs.length ≤ i⟩
def Itr (lo : Int) (n : Nat) : It := ⟨fun i _ => i < n, fun i H x H' => H' = H ∧ x = .int (lo + i), fun i _ => n ≤ i⟩
theorem Zmz {P : Program} {w : World} {K : PySem.W.Frag} {tg : Expr} (a it : Addr) : Turn P w K tg (Itl K a) [it] it (fun i h => h.IsListIter it a i) where
 mem := by simp
 obj := fun i h st b hb => by
  have e : b = it := by simpa using hb
  subst e
  obtain ⟨o, e, c, d⟩ := st
  exact ⟨o, e, fun v z => by rw [d] at z; cases z⟩
 keep := fun i h h' st k => st.at fun o e => k it (by simp) o e
 item := by
  intro X hP hw hK hc i pins s σ H E I hf st hg
  subst hP hw hK
  obtain ⟨xs, x, hq, hx⟩ := hg
  obtain ⟨its, rv, p, hz⟩ := I.list hq
  obtain ⟨u, hu, ru⟩ := rv.get hx
  obtain ⟨f0, f1, f2, f3, f4, f5⟩ := hf it (by simp)
  refine wpAny_pyNext_list_item st p.isList (x := u) (by simpa using hu) fun h' st' sb => ?_
  have I1 : Inv X pins σ H { s with heap := h' } := I.turned (t' := s.toks) (fun b o hb e => (sb.2 b hb).trans e) f0 f1 f3 f4 f5
  obtain ⟨o, e, c, d⟩ := id st'
  exact ⟨u, rfl, Zkr (s := { s with heap := h' }) e c d (by decide) ⟨x, H, I1, ru, ⟨rfl, fun ys hy => by rw [I.list_inj hy hq]; exact hx⟩, st', fun b hb => (hf b hb).1⟩⟩
 done := by
  intro X hP hw hK hc i pins s σ H E I hf st hg
  subst hP hw hK
  obtain ⟨xs, hq, hx⟩ := hg
  obtain ⟨its, rv, p, hz⟩ := I.list hq
  obtain ⟨f0, f1, f2, f3, f4, f5⟩ := hf it (by simp)
  have hl := rv.length
  exact wpAny_pyNext_list_end (I.ok.hd hc) st p.isList (by simp; omega) fun h' eb => ⟨rfl, I.turned (t' := s.toks) (fun b o hb e => eb b o hb e) f0 f1 f3 f4 f5⟩
 self := fun _ _ _ _ _ st h => wpAny_pyIter_listiter st h
theorem Zlo {P : Program} {w : World} {K : PySem.W.Frag} {tg : Expr} (a it : Addr) : Turn P w K tg (Itt K a) [it] it (fun i h => h.IsTupleIter it a i) where
 mem := by simp
 obj := fun i h st b hb => by
  have e : b = it := by simpa using hb
  subst e
  obtain ⟨o, e, c, d⟩ := st
  exact ⟨o, e, fun v z => by rw [d] at z; cases z⟩
 keep := fun i h h' st k => st.at fun o e => k it (by simp) o e
 item := by
  intro X hP hw hK hc i pins s σ H E I hf st hg
  subst hP hw hK
  obtain ⟨xs, x, hq, hx⟩ := hg
  obtain ⟨its, rv, p, hz⟩ := I.tuple hq
  obtain ⟨u, hu, ru⟩ := rv.get hx
  obtain ⟨f0, f1, f2, f3, f4, f5⟩ := hf it (by simp)
  refine wpAny_pyNext_tuple_item st (show s.heap.IsTuple a its.toArray from p) (x := u) (by simpa using hu) fun h' st' sb => ?_
  have I1 : Inv X pins σ H { s with heap := h' } := I.turned (t' := s.toks) (fun b o hb e => (sb.2 b hb).trans e) f0 f1 f3 f4 f5
  obtain ⟨o, e, c, d⟩ := id st'
  exact ⟨u, rfl, Zkr (s := { s with heap := h' }) e c d (by decide) ⟨x, H, I1, ru, ⟨rfl, fun ys hy => by rw [I.tuple_inj hy hq]; exact hx⟩, st', fun b hb => (hf b hb).1⟩⟩
 done := by
  intro X hP hw hK hc i pins s σ H E I hf st hg
  subst hP hw hK
  obtain ⟨xs, hq, hx⟩ := hg
  obtain ⟨its, rv, p, hz⟩ := I.tuple hq
  obtain ⟨f0, f1, f2, f3, f4, f5⟩ := hf it (by simp)
  have hl := rv.length
  exact wpAny_pyNext_tuple_end (I.ok.hd hc) st (show s.heap.IsTuple a its.toArray from p) (by simp; omega) fun h' eb => ⟨rfl, I.turned (t' := s.toks) (fun b o hb e => eb b o hb e) f0 f1 f3 f4 f5⟩
 self := fun _ _ _ _ _ st h => wpAny_pyIter_tupleiter st h
theorem Zk7 {P : Program} {w : World} {K : PySem.W.Frag} {tg : Expr} (it : Addr) (lo : Int) (n : Nat) : Turn P w K tg (Itr lo n) [it] it (fun i h => IsRangeIter h it (lo + (i : Nat) * 1) ((n : Int) - (i : Nat)) 1) where
 mem := by simp
 obj := fun i h st b hb => by
  have e : b = it := by simpa using hb
  subst e
  exact ⟨_, st, fun v z => by
   have z' : Data.fields _ = Data.cell v := z
   cases z'⟩
 keep := fun i h h' st k => k it (by simp) _ st
 item := by
  intro X hP hw hK hc i pins s σ H E I hf st hg
  subst hP hw hK
  obtain ⟨f0, f1, f2, f3, f4, f5⟩ := hf it (by simp)
  have W := Walks.range (prog := X.prog) (w := X.w) (I.ok.hd hc) it lo 1 n
  refine W.item i s _ _ hg st fun v h' tk hv st' kk => ?_
  obtain ⟨t, rfl⟩ := hv
  have I1 : Inv X pins σ H { s with heap := h', toks := tk } := I.turned (fun b o hb e => kk b o (by simpa using hb) e) f0 f1 f3 f4 f5
  refine ⟨_, rfl, Zkr (s := { s with heap := h', toks := tk }) (n := "range_iterator") st' rfl rfl (by decide) ⟨.int (lo + i), H, I1, ⟨t, ?_⟩, ⟨rfl, rfl⟩, st', fun b hb => (hf b hb).1⟩⟩
  rw [Int.mul_one]
 done := by
  intro X hP hw hK hc i pins s σ H E I hf st hg
  subst hP hw hK
  obtain ⟨f0, f1, f2, f3, f4, f5⟩ := hf it (by simp)
  exact wpAny_pyNext_range_end (I.ok.hd hc) st (by have : n ≤ i := hg; omega) fun h' eb => ⟨rfl, I.turned (t' := s.toks) (fun b o hb e => eb b o hb e) f0 f1 f3 f4 f5⟩
 self := fun _ _ _ _ _ st h => wpAny_pyIter_rangeiter st h
end L2
namespace L2
open PySem PySem.Spec PyProof.Rows
section
variable {X : Cx} {tg : Expr}
def ZqR (K : PySem.W.Frag) (tl : TE) : TI := fun σ H R => tl σ H fun x H1 => ∃ a, x = .ref a ∧ (∃ xs, SqL K H1 a xs) ∧ R (Itl K a) H1
def ZrV (K : PySem.W.Frag) (tl : TE) : TI := fun σ H R => tl σ H fun x H1 => ∃ a, x = .ref a ∧ (∃ xs, SqT K H1 a xs) ∧ R (Itt K a) H1
theorem ZoA {l : Expr} {tl : TE} (hl : PE X l tl) : PI X tg l (ZqR X.K tl) := by
 intro pins s σ H R I h
 refine thn (hl pins s σ H _ I h) fun v s1 ⟨x, H1, I1, r1, q1⟩ => ?_
 obtain ⟨a, e, ⟨xs, hq⟩, q⟩ := q1
 subst e
 cases r1
 obtain ⟨its, rv, p, hz⟩ := I1.list hq
 refine wpAny_pyIter_list p.isList ?_
 refine ⟨s1.heap.objs.size, [s1.heap.objs.size], _, _, H1, rfl, I1.kept (t' := s1.toks) fun b o e => Heap.get?_push_of_some _ e, Zmz a _, ⟨_, Heap.get?_push_size _ rfl, rfl, rfl⟩, fun b hb => ?_, q⟩
 have e : b = s1.heap.objs.size := by simpa using hb
 subst e
 exact I1.fpOk (Nat.le_refl _) (I1.hok.fresh (Nat.le_refl _))
theorem ZpF {l : Expr} {tl : TE} (hl : PE X l tl) : PI X tg l (ZrV X.K tl) := by
 intro pins s σ H R I h
 refine thn (hl pins s σ H _ I h) fun v s1 ⟨x, H1, I1, r1, q1⟩ => ?_
 obtain ⟨a, e, ⟨xs, hq⟩, q⟩ := q1
 subst e
 cases r1
 obtain ⟨its, rv, p, hz⟩ := I1.tuple hq
 refine wpAny_pyIter_tuple (show s1.heap.IsTuple a its.toArray from p) ?_
 refine ⟨s1.heap.objs.size, [s1.heap.objs.size], _, _, H1, rfl, I1.kept (t' := s1.toks) fun b o e => Heap.get?_push_of_some _ e, Zlo a _, ⟨_, Heap.get?_push_size _ rfl, rfl, rfl⟩, fun b hb => ?_, q⟩
 have e : b = s1.heap.objs.size := by simpa using hb
 subst e
 exact I1.fpOk (Nat.le_refl _) (I1.hok.fresh (Nat.le_refl _))
theorem Znz {pins : List (Addr × Obj)} {σ : St} {H : Hp} {s : Shared} {R : It → Hp → Prop} {E : Value → Shared → Prop} {lo hi : Int} {t u v : Tok} {tk : Nat} (I : Inv X pins σ H s) (h1 : -(2 ^ 62) ≤ lo) (h2 : lo < 2 ^ 62) (h3 : -(2 ^ 62) ≤ hi) (h4 : hi < 2 ^ 62)
  (q : R (Itr lo (hi - lo).toNat) H) : wpAny (model X.prog X.w) X.A (pyIter (.ref s.heap.objs.size)) (PIE X pins σ tg R) E { s with heap := s.heap.push { cls := .type "range", data := .fields #[.int lo t, .int hi u, .int 1 v] }, toks := tk } := by
 refine wpAny_pyIter_range (IsRange.new ..) (small_one h1 h2 h3 h4) ?_
 have I1 : Inv X pins σ H { s with heap := s.heap.push { cls := .type "range", data := .fields #[.int lo t, .int hi u, .int 1 v] }, toks := tk } := I.kept fun b o e => Heap.get?_push_of_some _ e
 refine ⟨(s.heap.push { cls := .type "range", data := .fields #[.int lo t, .int hi u, .int 1 v] }).objs.size, [(s.heap.push { cls := .type "range", data := .fields #[.int lo t, .int hi u, .int 1 v] }).objs.size], _, _, H, rfl,
  I1.kept (t' := tk) fun b o e => Heap.get?_push_of_some _ e, Zk7 _ lo (hi - lo).toNat, ?_, fun b hb => ?_, q⟩
 ·have e1 : lo + ((0 : Nat) : Int) * 1 = lo := by simp
  have e2 : (((hi - lo).toNat : Nat) : Int) - ((0 : Nat) : Int) = Builtin.Range.rangeSize lo hi 1 := by rw [rangeSize_one]; split <;> omega
  show IsRangeIter _ _ (lo + ((0 : Nat) : Int) * 1) ((((hi - lo).toNat : Nat) : Int) - ((0 : Nat) : Int)) 1
  rw [e1, e2]
  exact Heap.get?_push_size _ rfl
 ·have e : b = (s.heap.push { cls := .type "range", data := .fields #[.int lo t, .int hi u, .int 1 v] }).objs.size := by simpa using hb
  subst e
  exact I1.fpOk (Nat.le_refl _) (I1.hok.fresh (Nat.le_refl _))
def Zrm (ta : TA) : TI := fun σ H R => ta σ H fun vs H1 => ∃ j : Int, vs = [.int j] ∧ -(2 ^ 62) ≤ j ∧ j < 2 ^ 62 ∧ R (Itr 0 j.toNat) H1
theorem Zmx {a : Expr} {ta : TA} {p pos : Pos} (hg : Gl X "range") (hm : X.mg "range" = none) (ha : PA X [a] ta) (hs : starEach [a] X.env = [(false, eval a X.env)] := by rfl) : PI X tg (.Call (.Name "range" p) [a] [] pos) (Zrm ta) := by
 intro pins s σ H R I h
 refine Call_ (ZhV I hg hm boot_range (PyProof.Rows.callWith_type1 (thn (ha pos pins s σ H _ I h) fun us s1 ⟨vs, H1, I1, r1, q1⟩ => ?_) hs rfl))
 obtain ⟨j, e, q1, q2, q⟩ := q1
 subst e
 cases r1 with
 | cons r rr =>
  cases rr
  obtain ⟨t, rfl⟩ := r
  exact call_range_1 (Znz I1 (by omega) (by omega) q1 q2 (by simpa using q))
def Zsb (wi : TI) (g : TG) (tb : TS) : TS := fun D σ H => wi σ H fun J H1 => ∃ W : Nat → Nat → St → Hp → Prop, (∃ m, W 0 m σ H1) ∧ ∀ i m σ H, W i m σ H →
 (J.stop i H ∧ D.nx σ H) ∨ (J.go i H ∧ ∃ N : St → Hp → Prop, (∀ σ' H', N σ' H' → ∃ m', m' < m ∧ W (i + 1) m' σ' H') ∧ ∀ x H', J.yld i H x H' → g x σ H' fun σ2 H2 => tb { D with nx := N, ct := N, bk := D.nx } σ2 H2)
def ZhA (fp : List Addr) (h : Heap) : List (Addr × Obj) := fp.filterMap fun b => (h.get? b).map fun o => (b, o)
theorem Ze9 {fp : List Addr} {h : Heap} {b : Addr} {o : Obj} (hb : b ∈ fp) (e : h.get? b = some o) : (b, o) ∈ ZhA fp h := List.mem_filterMap.mpr ⟨b, hb, by rw [e]; rfl⟩
theorem ZmD {fp : List Addr} {h : Heap} {p : Addr × Obj} (hp : p ∈ ZhA fp h) : p.1 ∈ fp ∧ h.get? p.1 = some p.2 := by
 obtain ⟨b, hb, e⟩ := List.mem_filterMap.mp hp
 cases q : h.get? b with
 | none => rw [q] at e; cases e
 | some o =>
  rw [q] at e
  have e' : (b, o) = p := Option.some.inj e
  subst e'
  exact ⟨hb, q⟩
theorem Inv.pinned {pins : List (Addr × Obj)} {σ : St} {H : Hp} {s : Shared} {fp : List Addr} (I : Inv X pins σ H s) (hf : ∀ b ∈ fp, Zgq X pins H b) (ho : ∀ b ∈ fp, ∃ o, s.heap.get? b = some o ∧ ∀ v, o.data ≠ .cell v) : Inv X (pins ++ ZhA fp s.heap) σ H s :=
 I.pins_of fun p hp => (List.mem_append.mp hp).elim (fun z => I.pin p (List.mem_append_right _ z)) fun z => by
  obtain ⟨hb, e⟩ := ZmD z
  obtain ⟨f0, f1, f2, _⟩ := hf p.1 hb
  obtain ⟨o, e', d⟩ := ho p.1 hb
  rw [e] at e'; cases e'
  exact ⟨e, f0, f1, f2, d⟩
theorem Inv.unpinned {pins pl : List (Addr × Obj)} {σ : St} {H : Hp} {s : Shared} (I : Inv X (pins ++ pl) σ H s) : Inv X pins σ H s := I.pins_of fun p hp => I.pin p (List.mem_append_right _ (List.mem_append_left _ hp))
theorem ZnS {iter : Expr} {body : List Stmt} {wi : TI} {g : TG} {tb : TS} {pos : Pos} (hp : PassesOwn (model X.prog X.w) X.A X.env X.xe) (hc : X.calm = true) (hi : PI X tg iter wi) (hg : PG X tg g) (hb : PSs X body tb)
  (hs : ∀ x, foldedSetIterable iter X.env x = pure x := by intro _; rfl) : PS X (.For tg iter body [] pos) (Zsb wi g tb) := by
 intro pins s σ H D I h
 refine wpAny_For (thn (hi pins s σ H _ I h) fun v s1 h1 => thn h1 fun itv s2 h2 => ?_) hs
 obtain ⟨it, fp, tn, J, H2, e, I2, T, st2, f2, W, ⟨m0, w0⟩, turn⟩ := h2
 subst e
 have stat : ∀ {H' : Hp}, (∀ b ∈ fp, H' b = none) → ∀ b ∈ fp, Zgq X pins H' b := fun hn b hb => ⟨hn b hb, (f2 b hb).2⟩
 refine codeAny_forLoop_any (fun n s' => ∃ i σ' H', Inv X pins σ' H' s' ∧ tn i s'.heap ∧ (∀ b ∈ fp, H' b = none) ∧ W i n σ' H') ?_ m0 ⟨0, σ, H2, I2, st2, fun b hb => (f2 b hb).1, w0⟩
 rintro n s3 ⟨i, σ3, H3, I3, st3, fr3, w3⟩
 rcases turn i n σ3 H3 w3 with ⟨stop, qn⟩ | ⟨go, N, hN, step⟩
 ·refine wpAny_passesOwn hp (thn (T.done X rfl rfl rfl hc i pins s3 σ3 H3 X.xe I3 (stat fr3) st3 stop) fun r s4 ⟨hr, I4⟩ => ?_)
  subst hr
  exact wpAny_execs_nil ⟨σ3, H3, I4, qn⟩
 ·refine wpAny_passesOwn hp (thn (T.item X rfl rfl rfl hc i pins s3 σ3 H3 X.xe I3 (stat fr3) st3 go) fun r s4 ⟨u, hr, h4⟩ => ?_)
  subst hr
  refine wpAny_passesOwn hp (thn h4 fun _ s5 ⟨x, H5, I5, r5, y5, st5, fr5⟩ => ?_)
  have I5' := I5.pinned (stat fr5) (T.obj _ _ st5)
  refine wpAny_passesOwn hp (thn (hg _ s5 σ3 H5 x u _ I5' r5 (step x H5 y5)) fun _ s6 ⟨σ6, H6, I6, q6⟩ => ?_)
  refine wpAny_passesOwn hp (thn (hb _ s6 σ6 H6 _ I6 q6) fun f s7 q7 => ?_)
  have again : ∀ {σ7 : St} {H7 : Hp}, Inv X (pins ++ ZhA fp s5.heap) σ7 H7 s7 → N σ7 H7 → ∃ m, m < n ∧ ∃ i σ' H', Inv X pins σ' H' s7 ∧ tn i s7.heap ∧ (∀ b ∈ fp, H' b = none) ∧ W i m σ' H' := fun {σ7 H7} I7 n7 => by
   obtain ⟨m', hm, w7⟩ := hN σ7 H7 n7
   refine ⟨m', hm, i + 1, σ7, H7, I7.unpinned, T.keep _ _ _ st5 fun b hb o e => (I7.pin (b, o) (List.mem_append_right _ (List.mem_append_right _ (Ze9 hb e)))).1, fun b hb => ?_, w7⟩
   obtain ⟨o, e, d⟩ := T.obj _ _ st5 b hb
   exact (I7.pin (b, o) (List.mem_append_right _ (List.mem_append_right _ (Ze9 hb e)))).2.1
  cases f with
  | next => obtain ⟨σ7, H7, I7, n7⟩ := q7; exact again I7 n7
  | cont => obtain ⟨σ7, H7, I7, n7⟩ := q7; exact again I7 n7
  | brk => obtain ⟨σ7, H7, I7, q7⟩ := q7; exact ⟨σ7, H7, I7.unpinned, q7⟩
  | ret v => obtain ⟨x7, σ7, H7, I7, r7, q7⟩ := q7; exact ⟨x7, σ7, H7, I7.unpinned, r7, q7⟩
end
end L2
namespace L2
open PySem PySem.Spec PyProof.Rows
abbrev R2 := V → V → Hp → VK → Prop
def OpR (X : Cx) (f : Value → Value → Sem Value) (r : R2) : Prop :=
 ∀ (pins : List (Addr × Obj)) (s : Shared) (σ : St) (H : Hp) (x y : V) (v u : Value) (Q : VK), Inv X pins σ H s → RelV x v → RelV y u → r x y H Q →
  wpAny (model X.prog X.w) X.A (f v u) (EP X pins σ Q) X.xe s
def UnR (X : Cx) (f : Value → Sem Value) (r : V → Hp → VK → Prop) : Prop :=
 ∀ (pins : List (Addr × Obj)) (s : Shared) (σ : St) (H : Hp) (x : V) (v : Value) (Q : VK), Inv X pins σ H s → RelV x v → r x H Q →
  wpAny (model X.prog X.w) X.A (f v) (EP X pins σ Q) X.xe s
def Zb2 (X : Cx) (f : Value) (r : List V → Hp → VK → Prop) : Prop :=
 ∀ (pins : List (Addr × Obj)) (s : Shared) (σ : St) (H : Hp) (xs : List V) (us : List Value) (Q : VK), Inv X pins σ H s → Vals xs us → r xs H Q →
  wpAny (model X.prog X.w) X.A (call f us) (EP X pins σ Q) X.xe s
def tOp (r : R2) (ta tb : TE) : TE := fun σ H Q => ta σ H fun x H1 => tb σ H1 fun y H2 => r x y H2 Q
def tUn (r : V → Hp → VK → Prop) (ta : TE) : TE := fun σ H Q => ta σ H fun x H1 => r x H1 Q
def rI (C : Int → Int → Prop) (g : Int → Int → V) : R2 := fun x y H Q => ∃ i j, x = .int i ∧ y = .int j ∧ C i j ∧ Q (g i j) H
def rI0 (g : Int → Int → V) : R2 := fun x y H Q => ∃ i j, x = .int i ∧ y = .int j ∧ Q (g i j) H
def rU (g : Int → V) : V → Hp → VK → Prop := fun x H Q => ∃ i, x = .int i ∧ Q (g i) H
section
variable {X : Cx} {a b c : Expr} {ta tb tc : TE} {pos : Pos}
theorem Zpz (ha : PE X a ta) (hb : PE X b tb) {pins : List (Addr × Obj)} {s : Shared} {σ : St} {H : Hp} {R : V → V → Hp → Prop} (I : Inv X pins σ H s)
  (h : ta σ H fun x H1 => tb σ H1 fun y H2 => R x y H2) {Q : Value → Shared → Prop} {f : Value → Value → Sem Value}
  (hf : ∀ v u s2 x y H2, Inv X pins σ H2 s2 → RelV x v → RelV y u → R x y H2 → wpAny (model X.prog X.w) X.A (f v u) Q X.xe s2) :
  wpAny (model X.prog X.w) X.A (eval a X.env) (fun v s₁ => wpAny (model X.prog X.w) X.A (eval b X.env) (fun u s₂ => wpAny (model X.prog X.w) X.A (f v u) Q X.xe s₂) X.xe s₁) X.xe s := by
 refine thn (ha pins s σ H _ I h) fun v s1 ⟨x, H1, I1, r1, q1⟩ => ?_
 refine thn (hb pins s1 σ H1 _ I1 q1) fun u s2 ⟨y, H2, I2, r2, q2⟩ => ?_
 exact hf v u s2 x y H2 I2 r1 r2 q2
theorem Zq0 {op : Operator} {r : R2} (ho : OpR X (binaryOp op) r) (ha : PE X a ta) (hb : PE X b tb) : PE X (.BinOp a op b pos) (tOp r ta tb) := by
 intro pins s σ H Q I h
 exact wpAny_BinOp (Zpz ha hb I h fun v u s2 x y H2 I2 rx ry q => ho pins s2 σ H2 x y v u Q I2 rx ry q)
theorem ZqY {op : UnaryOp} {r : V → Hp → VK → Prop} (ho : UnR X (unaryOp op) r) (ha : PE X a ta) : PE X (.UnaryOp op a pos) (tUn r ta) := by
 intro pins s σ H Q I h
 exact UnaryOp_ (thn (ha pins s σ H _ I h) fun v s1 ⟨x, H1, I1, r1, q1⟩ => ho pins s1 σ H1 x v Q I1 r1 q1)
theorem opI {f : Value → Value → Sem Value} {C : Int → Int → Prop} {g : Int → Int → Int}
  (rule : ∀ (i j : Int) (t u : Tok) (s : Shared) (Q : Value → Shared → Prop) (E : Value → Shared → Prop), C i j → Q (.int (g i j) s.toks) { s with toks := s.toks + 1 } → wpAny (model X.prog X.w) X.A (f (.int i t) (.int j u)) Q E s) :
  OpR X f (rI C fun i j => .int (g i j)) := by
 intro pins s σ H x y v u Q I rx ry h
 obtain ⟨i, j, rfl, rfl, hc, q⟩ := h
 obtain ⟨t, rfl⟩ := rx
 obtain ⟨t', rfl⟩ := ry
 exact rule i j t t' s _ _ hc ⟨.int (g i j), H, I.tok _, ⟨_, rfl⟩, q⟩
theorem Zq3 {f : Value → Value → Sem Value} {g : Int → Int → Int}
  (rule : ∀ (i j : Int) (t u : Tok) (s : Shared) (Q : Value → Shared → Prop) (E : Value → Shared → Prop), Q (.int (g i j) s.toks) { s with toks := s.toks + 1 } → wpAny (model X.prog X.w) X.A (f (.int i t) (.int j u)) Q E s) :
  OpR X f (rI0 fun i j => .int (g i j)) := by
 intro pins s σ H x y v u Q I rx ry h
 obtain ⟨i, j, rfl, rfl, q⟩ := h
 obtain ⟨t, rfl⟩ := rx
 obtain ⟨t', rfl⟩ := ry
 exact rule i j t t' s _ _ ⟨.int (g i j), H, I.tok _, ⟨_, rfl⟩, q⟩
theorem ZoQ {f : Value → Value → Sem Value} {g : Int → Int → Bool}
  (rule : ∀ (i j : Int) (t u : Tok) (s : Shared) (Q : Value → Shared → Prop) (E : Value → Shared → Prop), Q (.bool (g i j)) s → wpAny (model X.prog X.w) X.A (f (.int i t) (.int j u)) Q E s) :
  OpR X f (rI0 fun i j => .bl (g i j)) := by
 intro pins s σ H x y v u Q I rx ry h
 obtain ⟨i, j, rfl, rfl, q⟩ := h
 obtain ⟨t, rfl⟩ := rx
 obtain ⟨t', rfl⟩ := ry
 exact rule i j t t' s _ _ ⟨.bl (g i j), H, I, rfl, q⟩
def Zsk (i j : Int) : Prop := 0 < j ∧ j < 1073741824
def Zsi (i j : Int) : Prop := 0 ≤ j ∧ j ≤ 1000000 ∧ i.natAbs < 2 ^ 64
def ZpO (i j : Int) : Prop := (-(2 ^ 64) < i ∧ i < 2 ^ 64) ∨ (-(2 ^ 64) < j ∧ j < 2 ^ 64)
theorem ZpO.ok {i j : Int} (h : ZpO i j) : IntMulOk i j := by
 rcases h with ⟨h1, h2⟩ | ⟨h1, h2⟩
 ·exact .of_left (intBits_le_64 h1 h2)
 ·exact .of_right (intBits_le_64 h1 h2)
theorem Zp4 : OpR X (binaryOp .Add) (rI0 fun i j => .int (i + j)) := Zq3 fun _ _ _ _ _ _ _ q => add_int q
theorem Zp7 : OpR X (binaryOp .Sub) (rI0 fun i j => .int (i - j)) := Zq3 fun _ _ _ _ _ _ _ q => sub_int q
theorem ZpD : OpR X (binaryOp .Mult) (rI ZpO fun i j => .int (i * j)) := opI fun _ _ _ _ _ _ _ hc q => mul_int q hc.ok
theorem Zo1 : OpR X (binaryOp .FloorDiv) (rI Zsk fun i j => .int (i / j)) := opI fun i j _ _ _ _ _ hc q => by
 have h1 : (0 : Int) < j := hc.1
 have h2 : j < 1073741824 := hc.2
 exact floordiv_int (by omega) (by rw [Int.fdiv_eq_ediv_of_nonneg i (by omega)]; exact q) (.inl (PyProof.noPylong_small (by omega)))
theorem ZqC : OpR X (binaryOp .Mod) (rI (fun _ j => 0 < j) fun i j => .int (i % j)) := opI fun i j _ _ _ _ _ hc q => by
 have h1 : (0 : Int) < j := hc
 exact mod_int' (by omega) (by rw [Int.fmod_eq_emod_of_nonneg i (by omega)]; exact q)
theorem Zqn : OpR X (binaryOp .Pow) (rI Zsi fun i j => .int (i ^ j.toNat)) := opI fun _ _ _ _ _ _ _ hc q => pow_int_small hc.1 hc.2.1 hc.2.2 q
theorem unI {f : Value → Sem Value} {g : Int → Int}
  (rule : ∀ (i : Int) (t : Tok) (s : Shared) (Q : Value → Shared → Prop) (E : Value → Shared → Prop), Q (.int (g i) s.toks) { s with toks := s.toks + 1 } → wpAny (model X.prog X.w) X.A (f (.int i t)) Q E s) :
  UnR X f (rU fun i => .int (g i)) := by
 intro pins s σ H x v Q I rx h
 obtain ⟨i, rfl, q⟩ := h
 obtain ⟨t, rfl⟩ := rx
 exact rule i t s _ _ ⟨.int (g i), H, I.tok _, ⟨_, rfl⟩, q⟩
theorem Zps : UnR X (unaryOp .USub) (rU fun i => .int (-i)) := unI fun _ _ _ _ _ q => neg_int q
end
section
variable {X : Cx} {a b c : Expr} {ta tb tc : TE} {pos : Pos}
theorem Zk1 {pins : List (Addr × Obj)} {σ : St} {H : Hp} {s : Shared} {Q : VK} {k k' : Bool} (I : Inv X pins σ H s) (q : Q (.bl k) H) (e : k = k') : EP X pins σ Q (.bool k') s := by
 subst e
 exact ⟨.bl k, H, I, rfl, q⟩
theorem Zrj : OpR X (compareOp .Lt) (rI0 fun i j => .bl (decide (i < j))) := ZoQ fun _ _ _ _ _ _ _ q => lt_int q
theorem Zrv : OpR X (compareOp .LtE) (rI0 fun i j => .bl (decide (i ≤ j))) := ZoQ fun _ _ _ _ _ _ _ q => le_int q
theorem Zq6 : OpR X (compareOp .Gt) (rI0 fun i j => .bl (decide (j < i))) := ZoQ fun _ _ _ _ _ _ _ q => gt_int q
theorem Zq7 : OpR X (compareOp .GtE) (rI0 fun i j => .bl (decide (j ≤ i))) := ZoQ fun _ _ _ _ _ _ _ q => ge_int q
theorem ZmO : OpR X (compareOp .In) (fun x y H Q => ∃ i j, x = .str i ∧ y = .str j ∧ Q (.bl (!(Builtin.Str.occurrences j i 0 j.length 1).isEmpty)) H) := by
 intro pins s σ H x y v u Q I rx ry h
 obtain ⟨i, j, rfl, rfl, q⟩ := h
 obtain ⟨t, rfl⟩ := rx
 obtain ⟨t', rfl⟩ := ry
 exact in_str (Zk1 I q rfl)
theorem Zpt : OpR X (compareOp .Is) (fun x y H Q => y = .non ∧ Q (.bl (decide (x = .non))) H) := by
 intro pins s σ H x y v u Q I rx ry h
 obtain ⟨rfl, q⟩ := h
 cases ry
 refine is_none_gen (Zk1 I q ?_)
 cases x <;> first
  | (cases rx; rfl)
  | (obtain ⟨t, rfl⟩ := rx; rfl)
theorem Zou : OpR X (compareOp .IsNot) (fun x y H Q => y = .non ∧ Q (.bl (!decide (x = .non))) H) := by
 intro pins s σ H x y v u Q I rx ry h
 obtain ⟨rfl, q⟩ := h
 cases ry
 refine isnot_none_gen (Zk1 I q ?_)
 cases x <;> first
  | (cases rx; rfl)
  | (obtain ⟨t, rfl⟩ := rx; rfl)
theorem OpR.or {f : Value → Value → Sem Value} {r r' : R2} (h : OpR X f r) (h' : OpR X f r') : OpR X f (fun x y H Q => r x y H Q ∨ r' x y H Q) := by
 intro pins s σ H x y v u Q I rx ry q
 rcases q with q | q
 ·exact h pins s σ H x y v u Q I rx ry q
 ·exact h' pins s σ H x y v u Q I rx ry q
theorem Zom {op : CmpOp} {r : R2} (ho : OpR X (compareOp op) r) (ha : PE X a ta) (hb : PE X b tb) (hm : behindInMarks op b = false) : PE X (.Compare a [op] [b] pos) (tOp r ta tb) := by
 intro pins s σ H Q I h
 exact wpAny_Compare1 (Zpz ha hb I h fun v u s2 x y H2 I2 rx ry q => ho pins s2 σ H2 x y v u Q I2 rx ry q) hm
def ZqZ (t : TE) : TT := fun σ H Q => t σ H fun x H' => ∃ k, x = .bl k ∧ Q k H'
theorem Zoo {op : CmpOp} {r : R2} (ho : OpR X (compareOp op) r) (ha : PE X a ta) (hb : PE X b tb) (hm : behindInMarks op b = false) : PT X (.Compare a [op] [b] pos) (ZqZ (tOp r ta tb)) := by
 intro pins s σ H Q I h
 refine wpAny_isTrue_Compare1 (thn (ha pins s σ H _ I h) fun v s1 ⟨x, H1, I1, r1, q1⟩ => thn (hb pins s1 σ H1 _ I1 q1) fun u s2 ⟨y, H2, I2, r2, q2⟩ =>
  thn (ho pins s2 σ H2 x y v u _ I2 r1 r2 q2) fun c s3 ⟨z, H3, I3, r3, k, e, q3⟩ => ?_) hm
 subst e
 cases r3
 exact wpAny_truthy_bool ⟨H3, I3, q3⟩
theorem Zil : (sizeLine : Nat) < 2 ^ 63 := by rw [sizeLine_eq]; decide
theorem Zk2 : OpR X (binaryOp .Add) (fun x y H Q => ∃ i j, x = .str i ∧ y = .str j ∧ i.length + j.length ≤ sizeLine ∧ Q (.str (i ++ j)) H) := by
 intro pins s σ H x y v u Q I rx ry h
 obtain ⟨i, j, rfl, rfl, hz, q⟩ := h
 obtain ⟨t, rfl⟩ := rx
 obtain ⟨t', rfl⟩ := ry
 exact add_str (fun t' tk => ⟨.str (i ++ j), H, I.tok _, ⟨_, rfl⟩, q⟩) hz
theorem vals1 {x : V} {us : List Value} (r : Vals [x] us) : ∃ u, us = [u] ∧ RelV x u := by
 cases r with
 | cons r1 r2 => cases r2; exact ⟨_, rfl, r1⟩
theorem vals2 {x y : V} {us : List Value} (r : Vals [x, y] us) : ∃ u w', us = [u, w'] ∧ RelV x u ∧ RelV y w' := by
 cases r with
 | cons r1 r2 =>
  cases r2 with
  | cons r3 r4 => cases r4; exact ⟨_, _, rfl, r1, r3⟩
theorem Zmd : Zb2 X (.type "int") (fun xs H Q => (∃ i, xs = [.int i] ∧ Q (.int i) H) ∨ ∃ k, xs = [.bl k] ∧ Q (.int (if k then 1 else 0)) H) := by
 intro pins s σ H xs us Q I r h
 rcases h with ⟨i, rfl, q⟩ | ⟨k, rfl, q⟩
 ·obtain ⟨u, rfl, t, rfl⟩ := vals1 r
  exact call_int_int ⟨.int i, H, I, ⟨_, rfl⟩, q⟩
 ·obtain ⟨u, rfl, r1⟩ := vals1 r
  cases r1
  exact call_int_bool ⟨.int (if k then 1 else 0), H, I.tok _, ⟨_, rfl⟩, q⟩
def Zr2 (K : PySem.W.Frag) (x : V) (H : Hp) (n : Nat) : Prop :=
 match x with
 | .str y => y.length ≤ sizeLine ∧ n = y.length
 | .byt y => y.size ≤ sizeLine ∧ n = y.size
 | .ref p => (∃ xs, SqL K H p xs ∧ n = xs.length) ∨ ∃ xs, SqT K H p xs ∧ n = xs.length
 | _ => False
theorem Znc : Zb2 X (.builtin "len") (fun xs H Q => ∃ x n, xs = [x] ∧ Zr2 X.K x H n ∧ Q (.int n) H) := by
 intro pins s σ H xs us Q I r h
 obtain ⟨x, n, rfl, e, q⟩ := h
 obtain ⟨u, rfl, rx⟩ := vals1 r
 have hl := Zil
 have hs : sizeLine = 16777216 := sizeLine_eq
 cases x with
 | str y =>
  obtain ⟨t, rfl⟩ := rx
  obtain ⟨hy, e'⟩ : y.length ≤ sizeLine ∧ n = y.length := e
  subst e'
  exact len_str (by omega) ⟨.int _, H, I.tok _, ⟨_, rfl⟩, q⟩
 | byt y =>
  obtain ⟨t, rfl⟩ := rx
  obtain ⟨hy, e'⟩ : y.size ≤ sizeLine ∧ n = y.size := e
  subst e'
  exact PySem.W.len_bytes (by omega) ⟨.int _, H, I.tok _, ⟨_, rfl⟩, q⟩
 | ref p =>
  cases rx
  have e' : (∃ xs, SqL X.K H p xs ∧ n = xs.length) ∨ ∃ xs, SqT X.K H p xs ∧ n = xs.length := e
  rcases e' with ⟨xs, hx, e'⟩ | ⟨xs, hx, e'⟩
  ·subst e'
   obtain ⟨its, r', pl, hz⟩ := I.list hx
   have hlen := r'.length
   exact Calls.call_len_list pl.isList (by simp only [List.size_toArray]; omega) ⟨.int xs.length, H, I.tok _, ⟨_, by simp only [List.size_toArray]; rw [hlen]⟩, q⟩
  ·subst e'
   obtain ⟨its, r', pl, hz⟩ := I.tuple hx
   have hlen := r'.length
   exact len_tuple pl (by simp only [List.size_toArray]; omega) ⟨.int xs.length, H, I.tok _, ⟨_, by simp only [List.size_toArray]; rw [hlen]⟩, q⟩
 | _ => exact (show False from e).elim
end
end L2
namespace L2
open PySem PySem.Spec PyProof.Rows
structure Zqz (h : Heap) (x dx C : Addr) (mA : Str → Option Value) : Prop where
 obj : h.get? x = some (PySem.W.instObj C dx)
 ns : h.Ns1 dx mA
 ne : dx ≠ x
theorem ZmA {h : Heap} {dx : Addr} {mA : Str → Option Value} (n : h.Ns1 dx mA) : ∃ od, h.get? dx = some od ∧ ∀ name, PySem.W.lookIn name od = some (mA name) := by
 obtain ⟨o, es, ep, ho, hd, hk, _, hm⟩ := n
 refine ⟨o, ho, fun name => ?_⟩
 have e := hm name
 unfold nsFind findBy at e
 rw [← Array.find?_toList] at e
 unfold PySem.W.lookIn
 rw [hd]
 dsimp only
 split
 ·rename_i y q
  rw [q] at e
  exact congrArg some e
 ·rename_i q
  rw [q] at e
  have a : es.toList.any (·.refKey) = false := by
   rw [List.any_eq_false]
   intro y hy
   obtain ⟨z, t, hkey⟩ := hk y (Array.mem_toList_iff.mp hy)
   simp [DictEntry.refKey, hkey]
  have a' : ¬ es.toList.any (·.refKey) = true := by rw [a]; exact Bool.false_ne_true
  rw [if_neg a']
  exact congrArg some e
theorem Zqz.look {h : Heap} {x dx C : Addr} {mA : Str → Option Value} (I : Zqz h x dx C mA) : ∃ od, PySem.W.InstAt h x (PySem.W.instObj C dx) C (some od) ∧ ∀ name, PySem.W.lookIn name od = some (mA name) :=
 let ⟨od, ho, hl⟩ := ZmA I.ns
 ⟨od, ⟨I.obj, rfl, rfl, ho⟩, hl⟩
section
variable {prog : Program} {w : World} {A : Around} {E : Value → Shared → Prop} {s : Shared} {K : PySem.W.Frag} {x dx C f : Addr} {mA : Str → Option Value} {name : Str} {v : Value}
end
theorem ZgY.some_of {v : V} {o : Option Value} (r : ZgY (some v) o) : ∃ u, o = some u ∧ RelV v u := by
 cases o with
 | none => exact (show False from r).elim
 | some u => exact ⟨u, rfl, r⟩
section
variable {P : Program} {w : World} {H H' : Hp} {h h' : Heap} {a C dx : Addr} {fs fs' : List (Str × V)}
theorem Zok (hok : HOk P w H h) (e : H a = some (.ins C dx fs)) : ∃ mA, Zqz h a dx C mA ∧ (∀ f, ZgY (fs.lookup f) (mA f)) ∧ PySem.Within mA (fs.map (·.1)) ∧ fs.length ≤ 1000 ∧ H dx = some (.own a) := by
 obtain ⟨d, z, ne, ob, mA, n, r, q⟩ := (show ZbG P w H h a (.ins C dx fs) from hok a _ e)
 exact ⟨mA, ⟨ob, n, ne⟩, r, q, z, d⟩
end
structure Cls (K : PySem.W.Frag) (C : Addr) : Prop where
 pg : PySem.W.plainGet K C Str.empty = true
 hd : PySem.W.hasDictIn K C = true
 po : PySem.W.plainOver K C = true
 sa : PySem.W.findIn K (.ref C) "__setattr__" = some (some (.builtin "object.__setattr__"))
theorem Cls.get {K : PySem.W.Frag} {C : Addr} (c : Cls K C) (f : Str) : PySem.W.plainGet K C f = true := c.pg
structure Con (K : PySem.W.Frag) (C : Addr) (f : Str) (v : V) (u : Value) : Prop where
 at_ : PySem.W.findIn K (.ref C) f = some (some u)
 rel : RelV v u
 get : PySem.W.specialIn K u "__get__" = some none
 cp : PySem.W.copiedNames.contains f = false
structure Meth (K : PySem.W.Frag) (C : Addr) (m : Str) (f : Addr) : Prop where
 at_ : PySem.W.findIn K (.ref C) m = some (some (.ref f))
 fn : PySem.W.isFn K (.ref f) = true
 kp : PySem.W.keepIn K (.ref f) = true
section
variable {X : Cx} {pins : List (Addr × Obj)} {σ : St} {H : Hp} {s : Shared} {a C dx : Addr} {fs : List (Str × V)} {f : Str} {v : V} {A : Around} {E : Value → Shared → Prop}
end
section
variable {X : Cx} {o e value : Expr} {f : Str} {pos pos' tpos : Pos} {ta tv : TE}
end
section
variable {X : Cx} {pins : List (Addr × Obj)} {σ : St} {H : Hp} {s : Shared} {A : Around} {E : Value → Shared → Prop} {Q : Value → Shared → Prop} {c : Value} {b : Bool}
inductive Zhp (K : PySem.W.Frag) (H : Hp) : V → Value → Prop where
 | non : Zhp K H .non (.type "NoneType")
 | bl (x : Bool) : Zhp K H (.bl x) (.type "bool")
 | int (i : Int) : Zhp K H (.int i) (.type "int")
 | str (x : Str) : Zhp K H (.str x) (.type "str")
 | flt (x : UInt64) : Zhp K H (.flt x) (.type "float")
 | lst {a : Addr} {xs : List V} (e : H a = some (.lst xs)) : Zhp K H (.ref a) (.type "list")
 | frz {a : Addr} {o : Obj} {xs : List V} (e : H a = some (.frz o (.lst xs))) : Zhp K H (.ref a) (.type "list")
 | tup {a : Addr} {xs : List V} (e : H a = some (.tup xs)) : Zhp K H (.ref a) (.type "tuple")
 | dK {a : Addr} {kvs : List (Key × V)} (e : H a = some (.dK kvs)) : Zhp K H (.ref a) (.type "dict")
 | dT {a : Addr} {kvs : List (List Key × V)} (e : H a = some (.dT kvs)) : Zhp K H (.ref a) (.type "dict")
 | ins {a C dx : Addr} {fs : List (Str × V)} (e : H a = some (.ins C dx fs)) (cl : Cls K C) (ha : PySem.W.findIn K (.ref C) "__class__" = some (some (.builtin "object.__class__")))
   (hn : PySem.W.specialIn K (.builtin "object.__class__") "__get__" = some (some (.builtin "getset_descriptor.__get__"))) (htk : PySem.W.takesIn K (.builtin "object.__class__") = some true)
   (hm : PySem.W.mroIn K C (.type "object") = some true) : Zhp K H (.ref a) (.ref C)
theorem Zei {x : V} {u t : Value} (I : Inv X pins σ H s) (rx : RelV x u) (ty : Zhp X.K H x t) (e : PySem.W.kitOne X.K t c = some b) (h : ∀ tk, Q (.bool b) { s with toks := tk }) :
  wpAny (model X.prog X.w) A (call (.builtin "isinstance") [u, c]) Q E s := by
 cases ty with
 | non => cases (show u = Value.none from rx); exact PySem.W.kia_one PySem.W.kitx_none I.kIn True.intro e (fun z => nomatch z) h
 | bl y => cases (show u = Value.bool y from rx); exact PySem.W.kia_one PySem.W.kitx_bool I.kIn True.intro e (fun z => nomatch z) h
 | int i => obtain ⟨t, q⟩ := (show ∃ t, u = Value.int i t from rx); cases q; exact PySem.W.kia_one PySem.W.kitx_int I.kIn True.intro e (fun z => nomatch z) h
 | str y => obtain ⟨t, q⟩ := (show ∃ t, u = Value.str y t from rx); cases q; exact PySem.W.kia_one PySem.W.kitx_str I.kIn True.intro e (fun z => nomatch z) h
 | flt y => obtain ⟨t, q⟩ := (show ∃ t, u = Value.float y t from rx); cases q; exact PySem.W.kia_one PySem.W.kitx_float I.kIn True.intro e (fun z => nomatch z) h
 | @lst a xs ea =>
  cases (show u = Value.ref a from rx)
  obtain ⟨_, _, n, _, h1⟩ := (show ZbG X.prog X.w H s.heap a (.lst xs) from I.hok a _ ea)
  exact PySem.W.kia_one PySem.W.kitx_list I.kIn ⟨_, h1, rfl⟩ e (fun z => nomatch z) h
 | @frz a ob xs ea =>
  cases (show u = Value.ref a from rx)
  obtain ⟨_, _, _, n, _, h1⟩ := (show ZbG X.prog X.w H s.heap a (.frz ob (.lst xs)) from I.hok a _ ea)
  exact PySem.W.kia_one PySem.W.kitx_list I.kIn ⟨_, h1, rfl⟩ e (fun z => nomatch z) h
 | @tup a xs ea =>
  cases (show u = Value.ref a from rx)
  obtain ⟨_, _, _, p⟩ := (show ZbG X.prog X.w H s.heap a (.tup xs) from I.hok a _ ea)
  obtain ⟨o, h1, h2, _⟩ := p
  exact PySem.W.kia_one PySem.W.kitx_tuple I.kIn ⟨o, h1, h2.1⟩ e (fun z => nomatch z) h
 | @dK a kvs ea =>
  cases (show u = Value.ref a from rx)
  obtain ⟨_, _, vs, _, p⟩ := (show ZbG X.prog X.w H s.heap a (.dK kvs) from I.hok a _ ea)
  obtain ⟨o, es, ep, h1, h2, _⟩ := p
  exact PySem.W.kia_one PySem.W.kitx_dict I.kIn ⟨o, h1, h2.1⟩ e (fun z => nomatch z) h
 | @dT a kvs ea =>
  cases (show u = Value.ref a from rx)
  obtain ⟨_, _, xs, _, o, es, ep, h1, h2, _⟩ := (show ZbG X.prog X.w H s.heap a (.dT kvs) from I.hok a _ ea)
  exact PySem.W.kia_one PySem.W.kitx_dict I.kIn ⟨o, h1, h2.1⟩ e (fun z => nomatch z) h
 | @ins a C dx fs ea cl ha hn htk hm =>
  cases (show u = Value.ref a from rx)
  obtain ⟨mA, O, _⟩ := Zok I.hok ea
  obtain ⟨od, J, _⟩ := O.look
  exact PySem.W.kia_one (PySem.W.kitx_own (cl.get _) cl.hd ha hn htk hm) I.kIn J e (fun z => nomatch z) h
end
end L2
namespace L2
open PySem PySem.Spec PyProof.Rows
structure Zd4 (k : Nat) (A : Around) : Prop where
 hd : A.handled = none
 dp : A.depth + 3 * k + 5 < recursionLimit
 un : A.units + 16 * k + 200 < cLine
theorem Zd4.mono {j k : Nat} {A : Around} (r : Zd4 k A) (h : j ≤ k) : Zd4 j A := ⟨r.hd, by have := r.dp; omega, by have := r.un; omega⟩
theorem Zd4.deeper {k : Nat} {A : Around} (r : Zd4 (k + 1) A) (env : Env) : Zd4 k (A.deeper env) :=
 ⟨r.hd, by have := r.dp; show A.depth + 1 + 3 * k + 5 < _; omega, by have := r.un; show A.units + 3 + 16 * k + 200 < _; omega⟩
theorem Zd4.in1 {k : Nat} {A : Around} (r : Zd4 (k + 1) A) : Zd4 k A.in1 :=
 ⟨r.hd, by have := r.dp; show A.depth + 3 * k + 5 < _; omega, by have := r.un; show A.units + 1 + 16 * k + 200 < _; omega⟩
theorem Zd4.depth {k : Nat} {A : Around} (r : Zd4 k A) : A.depth < recursionLimit := by have := r.dp; omega
theorem Zd4.units {k : Nat} {A : Around} (r : Zd4 k A) : A.units + 64 < cLine := by have := r.un; omega
def ZrQ : TA := fun _ H Q => Q [] H
def Zq4 (ta : TE) (tr : TA) : TA := fun σ H Q => ta σ H fun x H1 => tr σ H1 fun xs H2 => Q (x :: xs) H2
section
variable {X : Cx} {e : Expr} {es : List Expr} {te : TE} {t : TA} {pos : Pos}
theorem ZnM : PA X [] ZrQ := fun _ _ _ _ H Q I h => Calls.spliced_nil ⟨[], H, I, .nil, h⟩
theorem Zjq (ha : PE X e te) (hr : PA X es t) (hs : starEach (e :: es) X.env = (false, eval e X.env) :: starEach es X.env := by rfl) : PA X (e :: es) (Zq4 te t) := by
 intro pos pins s σ H Q I h
 rw [hs]
 show wpAny _ _ (spliced ((false, eval e X.env) :: backTo pos (starEach es X.env))) _ _ s
 refine Calls.spliced_cons (thn (ha pins s σ H _ I h) fun u s1 ⟨x, H1, I1, r1, q1⟩ => ?_)
 exact thn (hr pos pins s1 σ H1 _ I1 q1) fun us s2 ⟨xs, H2, I2, r2, q2⟩ => ⟨x :: xs, H2, I2, .cons r1 r2, q2⟩
def Zsj (t : TA) : TE := fun σ H Q => t σ H fun xs H1 => xs.length ≤ sizeLine ∧ ∀ p, H1 p = none → Q (.ref p) (upd H1 p (.tup xs))
def Zr4 (t : TA) : TE := fun σ H Q => t σ H fun xs H1 => xs.length ≤ sizeLine ∧ ∀ p, H1 p = none → Q (.ref p) (upd H1 p (.lst xs))
theorem Zqd {x1} (h : PA X es t) : PE X (.Tuple es x1 pos) (Zsj t) := by
 intro pins s σ H Q I hq
 refine wpAny_Tuple_spliced (thn (h pos pins s σ H _ I hq) fun us s1 ⟨xs, H1, I1, r, z, q⟩ => ⟨by rw [← r.length]; exact z, ?_⟩)
 have hf : H1 s1.heap.objs.size = none := I1.hok.fresh (Nat.le_refl _)
 refine ⟨.ref s1.heap.objs.size, upd H1 s1.heap.objs.size (.tup xs), I1.laid (t' := s1.toks) (fun b u e => Heap.get?_push_of_some _ e) (Nat.le_refl _) ?_, rfl, q _ hf⟩
 exact ⟨z, us, r, ⟨_, Heap.get?_push_size _ rfl, ⟨rfl, rfl⟩, _, rfl⟩⟩
theorem Zpr (h : PA X es t) : PE X (.List es pos) (Zr4 t) := by
 intro pins s σ H Q I hq
 refine wpAny_List_spliced (thn (h pos pins s σ H _ I hq) fun us s1 ⟨xs, H1, I1, r, z, q⟩ => ⟨by rw [← r.length]; exact z, ?_⟩)
 have hf : H1 s1.heap.objs.size = none := I1.hok.fresh (Nat.le_refl _)
 refine ⟨.ref s1.heap.objs.size, upd H1 s1.heap.objs.size (.lst xs), I1.laid (t' := s1.toks) (fun b u e => Heap.get?_push_of_some _ e) (Nat.le_refl _) ?_, rfl, q _ hf⟩
 exact ⟨z, us, 0, r, Heap.get?_push_size _ rfl⟩
end
abbrev Sp := List V → Hp → VK → XK → Prop
abbrev CXT := List Env → Hp → Shared → XK → Value → Shared → Prop
structure Zk5 (P : Program) (w : World) (K : PySem.W.Frag) (mg : Str → Option Value) (base : Heap) (A : Around) (outer : List Env) (s : Shared) (H : Hp) : Prop where
 frames : A.frames = some outer
 mod : Mod K mg base
 bs : ∀ b o, base.get? b = some o → s.heap.get? b = some o ∧ H b = none
 bsz : base.objs.size ≤ s.heap.objs.size
 funs : s.heap.FunFrames base outer
 frf : ∀ b ∈ frs outer, H b = none
 hok : HOk P w H s.heap
 bare : AllBare s.gens
def CE (outer : List Env) (P : Program) (w : World) (H : Hp) (s : Shared) (Q : VK) (u : Value) (s' : Shared) : Prop :=
 ∃ v H', s'.os = s.os ∧ AllBare s'.gens ∧ Un (frs outer) [] H H' s.heap s'.heap ∧ HOk P w H' s'.heap ∧ RelV v u ∧ Q v H'
def CR (CX : CXT) (outer : List Env) (P : Program) (w : World) (H : Hp) (s : Shared) (Q : VK) (E : XK) (r : Result) (s' : Shared) : Prop :=
 match r with
 | .ok (.ret u) => CE outer P w H s Q u s'
 | .ok _ => False
 | .error e => CX outer H s E e s'
structure ZhO (P : Program) (w : World) (K : PySem.W.Frag) (mg : Str → Option Value) (base : Heap) (CX : CXT) (k : Nat) (f : Addr) (fd : FuncData) (ps : List Str) (sp : Sp) : Prop where
 len : ∀ vs H Q E, sp vs H Q E → vs.length = ps.length
 run : ∀ (A : Around) (outer : List Env) (s : Shared) (H : Hp) (args : Args) (us : List Value) (vs : List V) (Q : VK) (E : XK), Zd4 k A → Zk5 P w K mg base A outer s H → BindsTo s fd args (ps.zip us) → Vals vs us → sp vs H Q E →
  codeAny (model P w) A (.call (.ref f) args) (CR CX outer P w H s Q E) s
theorem Zk5.in1 {P : Program} {w : World} {K : PySem.W.Frag} {mg : Str → Option Value} {base : Heap} {A : Around} {outer : List Env} {s : Shared} {H : Hp} (e : Zk5 P w K mg base A outer s H) :
  Zk5 P w K mg base A.in1 outer s H := ⟨e.frames, e.mod, e.bs, e.bsz, e.funs, e.frf, e.hok, e.bare⟩
section
variable {X : Cx} {pins : List (Addr × Obj)} {σ : St} {H : Hp} {s s' : Shared}
theorem Inv.env0 (I : Inv X pins σ H s) : Zk5 X.prog X.w X.K X.mg X.base X.A X.stack s H :=
 ⟨I.ok.frames, I.ok.mod, I.bs, Nat.le_trans I.ok.bsz I.sz, I.stack, I.stkFree, I.hok, I.bare⟩
theorem Inv.after {Q : VK} {u : Value} (I : Inv X pins σ H s) (h : CE X.stack X.prog X.w H s Q u s') : EP X pins σ Q u s' := by
 obtain ⟨v, H', os, bare, un, hok, r, q⟩ := h
 obtain ⟨hh, g, d, t, os'⟩ := s'
 obtain rfl : os' = s.os := os
 exact ⟨v, H', I.call (h' := hh) (g' := g) (d' := d) (t' := t) (ch := []) un hok bare (fun b z => absurd z (by simp)), r, q⟩
end
def Zrb (sp : Sp) (dvs : List V) (E : XK) (t : TA) : TE := fun σ H Q => t σ H fun vs H1 => sp (vs ++ dvs) H1 Q E
def Binds (K : PySem.W.Frag) (fd : FuncData) (ps : List Str) (ds : List Value) : Prop :=
 ∀ (s : Shared) (us : List Value), K.In s.heap → (us ++ ds).length = ps.length → BindsTo s fd ⟨us, []⟩ (ps.zip (us ++ ds))
theorem Binds.all {K : PySem.W.Frag} {fd : FuncData} {ps : List Str} (h : ∀ us : List Value, us.length = ps.length → bindArgs fd ⟨us, []⟩ = pure (ps.zip us)) : Binds K fd ps [] := fun s us _ hl => by
 rw [List.append_nil] at hl ⊢
 exact .of_eq (h us hl)
def Zly (CX : CXT) (X : Cx) (E : XK) : Prop := ∀ (pins : List (Addr × Obj)) (σ : St) (H : Hp) (s : Shared) (e : Value) (s' : Shared), Inv X pins σ H s → CX X.stack H s E e s' → X.xe e s'
section
variable {X : Cx} {CX : CXT} {k : Nat} {f C : Addr} {fd : FuncData} {ps : List Str} {sp : Sp} {dvs : List V} {ds : List Value} {E : XK} {x m : Str} {p pos apos : Pos} {e o : Expr} {es : List Expr} {ta : TE} {t : TA}
theorem Zpq {pins : List (Addr × Obj)} {σ : St} {H : Hp} {s : Shared} {Q : VK} {us : List Value} {vs : List V} (F : ZhO X.prog X.w X.K X.mg X.base CX k f fd ps sp) (hr : Zd4 k X.A) (hb : Binds X.K fd ps ds) (hd : Vals dvs ds) (hx : Zly CX X E)
  (I : Inv X pins σ H s) (r : Vals vs us) (h : sp (vs ++ dvs) H Q E) : wpAny (model X.prog X.w) X.A (call (.ref f) us) (EP X pins σ Q) X.xe s := by
 have r2 : Vals (vs ++ dvs) (us ++ ds) := r.append hd
 have hl : (us ++ ds).length = ps.length := by rw [← r2.length]; exact F.len _ _ _ _ h
 refine wpAny_call (codeAny_mono (F.run X.A X.stack s H ⟨us, []⟩ (us ++ ds) (vs ++ dvs) Q E hr I.env0 (hb s us I.kIn hl) r2 h) fun r s' hq => ?_)
 cases r with
 | error e => exact hx pins σ H s e s' I hq
 | ok fl =>
  cases fl with
  | ret u => exact I.after hq
  | next => exact False.elim hq
  | brk => exact False.elim hq
  | cont => exact False.elim hq
theorem ZoO (F : ZhO X.prog X.w X.K X.mg X.base CX k f fd ps sp) (hr : Zd4 k X.A) (hg : Gl X x) (hm : X.mg x = some (.ref f)) (hk : PySem.W.keepIn X.K (.ref f) = true) (hb : Binds X.K fd ps ds) (hd : Vals dvs ds) (hx : Zly CX X E)
  (ha : PA X (e :: es) t) (hdb : (x == ("__debug__" : Str)) = false := by decide) (he : starEach (e :: es) X.env = (false, eval e X.env) :: starEach es X.env := by rfl) (hpl : (backTo pos (starEach es X.env)).any (·.1) = false := by rfl) :
  PE X (.Call (.Name x p) (e :: es) [] pos) (Zrb sp dvs E t) := by
 intro pins s σ H Q I h
 refine wpAny_Call_Name_kw (ZoC I hg hm ?_ hdb)
 refine PySem.W.callWith_K (h₀ := X.base) I.ok.mod.kin hk (thn (ha pos pins s σ H _ I h) fun us s1 ⟨vs, H1, I1, r, q⟩ => ⟨I1.kIn, ?_⟩) he hpl
 exact Zpq F hr hb hd hx I1 r q
structure Mk (K : PySem.W.Frag) (C f : Addr) : Prop where
 makes : PySem.W.makesIn K C = true
 init : PySem.W.findIn K (.ref C) "__init__" = some (some (.ref f))
 fn : PySem.W.isFn K (.ref f) = true
 kp : PySem.W.keepIn K (.ref C) = true
end
section
variable {X : Cx} {CX : CXT} {k : Nat} {f C : Addr} {fd : FuncData} {ps ks : List Str} {sp : Sp} {E : XK} {x m : Str} {p pos apos kpos : Pos} {e o : Expr} {es : List Expr} {kws : List Keyword} {te ta : TE} {t tk : TA} {nm : Option Str}
structure Zr7 (K : PySem.W.Frag) (fd : FuncData) (ps ks : List Str) (g : List Value → List Value → List Value) (gV : List V → List V → List V) : Prop where
 to : ∀ (s : Shared) (us ws : List Value), K.In s.heap → (g us ws).length = ps.length → BindsTo s fd ⟨us, ks.zip ws⟩ (ps.zip (g us ws))
 rel : ∀ {vs : List V} {us : List Value} {zs : List V} {ws : List Value}, Vals vs us → Vals zs ws → Vals (gV vs zs) (g us ws)
variable {g : List Value → List Value → List Value} {gV : List V → List V → List V}
end
structure Zaz (N P : List Str) (sc : Scope) : Prop where
 kind : sc.kind = .function
 co : sc.isCoroutine = false
 gen : sc.isGenerator = false
 nd : N.Nodup
 pre : N.take P.length = P
 par : ∀ x ∈ P, sc.names.lookup x = some .local ∨ sc.names.lookup x = some .cell
 nofree : ∀ y ∈ sc.names, y.2 ≠ .free
theorem ZiQ {kindOf : Str → Option NameKind} {x : Str} : ∀ {binds : List (Str × Value)} {m : Str → Option Value}, (∀ v, (x, v) ∉ binds) → bindL kindOf binds m x = m x
 | [], _, _ => rfl
 | (n, v) :: r, m, h => by
  unfold bindL
  rw [ZiQ fun w hw => h w (List.mem_cons_of_mem _ hw)]
  split
  ·have : x ≠ n := by rintro rfl; exact h v List.mem_cons_self
   simp [this]
  ·rfl
theorem ZiW {kindOf : Str → Option NameKind} {x : Str} : ∀ {binds : List (Str × Value)} {m : Str → Option Value}, (∀ v, (x, v) ∉ binds) → bindC kindOf binds m x = m x
 | [], _, _ => rfl
 | (n, v) :: r, m, h => by
  unfold bindC
  rw [ZiW fun w hw => h w (List.mem_cons_of_mem _ hw)]
  split
  ·rfl
  ·have : x ≠ n := by rintro rfl; exact h v List.mem_cons_self
   simp [this]
theorem ZiE {kindOf : Str → Option NameKind} {x : Str} {v : Value} : ∀ {P : List Str} {vs : List Value} {i : Nat} {m : Str → Option Value}, P.Nodup → P[i]? = some x → vs[i]? = some v → kindOf x = some .local →
  bindL kindOf (P.zip vs) m x = some v
 | [], _, _, _, _, h, _, _ => by simp at h
 | _ :: _, [], _, _, _, _, h, _ => by simp at h
 | p :: P, w :: vs, 0, m, nd, h1, h2, hk => by
  simp at h1 h2; subst h1; subst h2
  show bindL kindOf ((p, w) :: P.zip vs) m p = _
  unfold bindL
  rw [ZiQ fun v hv => (List.nodup_cons.mp nd).1 (List.of_mem_zip hv).1, if_pos hk]
  simp
 | p :: P, w :: vs, i + 1, m, nd, h1, h2, hk => by
  show bindL kindOf ((p, w) :: P.zip vs) m x = _
  unfold bindL
  exact ZiE (i := i) (List.nodup_cons.mp nd).2 (by simpa using h1) (by simpa using h2) hk
theorem ZiD {kindOf : Str → Option NameKind} {x : Str} {v : Value} : ∀ {P : List Str} {vs : List Value} {i : Nat} {m : Str → Option Value}, P.Nodup → P[i]? = some x → vs[i]? = some v → kindOf x ≠ some .local →
  bindC kindOf (P.zip vs) m x = some v
 | [], _, _, _, _, h, _, _ => by simp at h
 | _ :: _, [], _, _, _, _, h, _ => by simp at h
 | p :: P, w :: vs, 0, m, nd, h1, h2, hk => by
  simp at h1 h2; subst h1; subst h2
  show bindC kindOf ((p, w) :: P.zip vs) m p = _
  unfold bindC
  rw [ZiW fun v hv => (List.nodup_cons.mp nd).1 (List.of_mem_zip hv).1, if_neg hk]
  simp
 | p :: P, w :: vs, i + 1, m, nd, h1, h2, hk => by
  show bindC kindOf ((p, w) :: P.zip vs) m x = _
  unfold bindC
  exact ZiD (i := i) (List.nodup_cons.mp nd).2 (by simpa using h1) (by simpa using h2) hk
def start (N : List Str) (vs : List V) : St := vs.map some ++ List.replicate (N.length - vs.length) none
def ZkJ (CX : CXT) (P : Program) (w : World) (K : PySem.W.Frag) (mg : Str → Option Value) (base : Heap) (N : List Str) (qual : Str) (scope : Scope) (f : Addr) (cd : Value) (A : Around) (outer : List Env) (s : Shared) (H : Hp) (E : XK) : Cx where
 prog := P
 w := w
 K := K
 mg := mg
 base := base
 A := A.deeper (envOfC qual scope s.heap.objs.size f cd)
 N := N
 s₀ := s
 H₀ := H
 env := envOfC qual scope s.heap.objs.size f cd
 outer := outer
 stack := envOfC qual scope s.heap.objs.size f cd :: outer
 ex := []
 calm := true
 fn := fun _ => true
 pn := []
 xe := fun e s' => wpAny (model P w) (A.deeper (envOfC qual scope s.heap.objs.size f cd)) (leaving (envOfC qual scope s.heap.objs.size f cd) e) (fun _ s'' => CX outer H s E e s'') (fun e' s'' => CX outer H s E e' s'') s'
theorem Zky {sc : Scope} {n : Nat} {x : Str} (h : sc.names.lookup x = some .cell) : ∃ c, (cellsFrom n sc.names []).lookup x = some c := by
 have q := PySem.W.cellsFrom_some sc.names n [] (.inl h)
 exact Option.isSome_iff_exists.mp q
theorem Zmk {CX : CXT} {P : Program} {w : World} {K : PySem.W.Frag} {mg : Str → Option Value} {base : Heap} {N ps : List Str} {qual : Str} {scope : Scope} {f : Addr} {cd : Value} {A : Around} {outer : List Env} {s s1 : Shared} {H : Hp} {E : XK} {us : List Value} {vs : List V}
  (S : Zaz N ps scope) (hd : A.handled = none) (e0 : Zk5 P w K mg base A outer s H) (hl : vs.length = ps.length) (r : Vals vs us)
  (x : InCallC s s.heap.objs.size (bindL (envOfC qual scope s.heap.objs.size f cd).kindOf (ps.zip us) fun _ => none) (cellsFrom (s.heap.objs.size + 1) scope.names []) (bindC (envOfC qual scope s.heap.objs.size f cd).kindOf (ps.zip us) fun _ => none) s1) :
  Inv (ZkJ CX P w K mg base N qual scope f cd A outer s H E) [] (start N vs) H s1 := by
 have hpl : ps.length ≤ N.length := by have := congrArg List.length S.pre; rw [List.length_take] at this; omega
 obtain ⟨h1, tk, rfl, hk⟩ := x.done
 have noA : ∀ b : Addr, b ∉ (ZkJ CX P w K mg base N qual scope f cd A outer s H E).ex := fun b z => absurd (show b ∈ ([] : List Addr) from z) (by simp)
 refine ⟨⟨e0.mod, S.kind, rfl, rfl, Nat.le_refl _, fun y z c h1 h2 => ?_, fun y hy => ?_, fun y c _ h => ?_, fun _ => hd, Around.frames_deeper e0.frames, .inr ⟨rfl, rfl⟩, fun b z => absurd z (noA b), e0.bs, e0.bsz, fun b _ _ => noA b, fun b z => absurd z (noA b), e0.funs, e0.frf⟩,
  rfl, e0.bare, Un.kept hk, ⟨_, x.toInCall.ns, fun i y v h1 h2 h3 => ?_⟩, fun y c h => ⟨_, x.cell y c h⟩, e0.hok.fresh (Nat.le_refl _), fun y c h => ?_, fun p hp => absurd (show p ∈ ([] : List (Addr × Obj)) from hp) (by simp), e0.hok.kept hk, ?_⟩
 ·exact name_of_addr x.apart (PySem.mem_of_lookup h1) (PySem.mem_of_lookup h2)
 ·have hy : scope.names.lookup y = some .cell ∨ scope.names.lookup y = some .free := hy
  rcases hy with hy | hy
  ·exact Zky hy
  ·exact absurd rfl (S.nofree _ (PySem.mem_of_lookup hy))
 ·exact Nat.le_of_lt (x.above y c (PySem.mem_of_lookup h))
 ·have hi : i < vs.length := by
   unfold start at h2
   by_cases hi : i < vs.length
   ·exact hi
   ·rw [List.getElem?_append_right (by simpa using hi)] at h2
    rw [List.getElem?_replicate] at h2
    split at h2 <;> cases h2
  have ha : vs[i]? = some v := by
   unfold start at h2
   rw [List.getElem?_append_left (by simpa using hi), List.getElem?_map] at h2
   cases e : vs[i]? with
   | none => rw [e] at h2; cases h2
   | some a => rw [e] at h2; cases h2; rfl
  obtain ⟨u, hu, rv⟩ := r.get ha
  have hp : ps[i]? = some y := by
   rw [← S.pre, List.getElem?_take_of_lt (by omega)]; exact h1
  have ndP : ps.Nodup := by rw [← S.pre]; exact S.nd.sublist (List.take_sublist _ _)
  refine ⟨u, rv, ?_⟩
  rcases S.par y (List.mem_of_getElem? hp) with k | k
  ·exact .inl ⟨k, ZiE ndP hp hu k⟩
  ·obtain ⟨c, e⟩ := Zky (n := s.heap.objs.size + 1) k
   refine .inr ⟨.inl k, c, e, ?_⟩
   have q := x.cell y c e
   rw [ZiD ndP hp hu (by show scope.names.lookup y ≠ _; rw [k]; decide)] at q
   exact q
 ·exact e0.hok.fresh (Nat.le_of_lt (x.above y c (PySem.mem_of_lookup h)))
 ·unfold start
  show _ = N.length
  rw [List.length_append, List.length_map, List.length_replicate]
  omega
theorem ZqS {CX : CXT} {P : Program} {w : World} {K : PySem.W.Frag} {mg : Str → Option Value} {base : Heap} {k : Nat} {f : Addr} {name qual : Str} {params : Arguments} {body : List Stmt} {scope : Scope} {dV kV doc pm cdv ct oc : Value} {an od : Option Addr}
  {osl : Array (Option Value)} {N ps : List Str} {sp : Sp} (lk : K.lookup f = some ⟨oc, od, .func (PySem.W.fnOf name qual params body scope dV kV doc pm an cdv ct), osl⟩) (hcd : PySem.W.codeIn K cdv qual = true) (S : Zaz N ps scope)
  (len : ∀ vs H Q E, sp vs H Q E → vs.length = ps.length)
  (hbody : ∀ (A : Around) (outer : List Env) (s : Shared) (H : Hp) (vs : List V) (Q : VK) (E : XK), Zd4 k (A.deeper (envOfC qual scope s.heap.objs.size f cdv)) → sp vs H Q E →
   ∃ t, PSs (ZkJ CX P w K mg base N qual scope f cdv A outer s H E) body t ∧ t { nx := fun _ H' => Q .non H', rt := Q } (start N vs) H) :
  ZhO P w K mg base CX (k + 1) f (PySem.W.fnOf name qual params body scope dV kV doc pm an cdv ct) ps sp := by
 refine ⟨len, fun A outer s H args us vs Q E hr e0 hb r hsp => ?_⟩
 have hl := len _ _ _ _ hsp
 have KX : K.In s.heap := e0.mod.kin.keeps fun b o e => (e0.bs b o e).1
 have lim : s.heap.NoLimit := e0.mod.nolimit.keeps fun b o e => (e0.bs b o e).1
 have hkind : ∀ y ∈ ps.zip us, scope.names.lookup y.1 = some .local ∨ (scope.names.lookup y.1 = some .cell ∧ ((cellsFrom (s.heap.objs.size + 1) scope.names []).lookup y.1).isSome = true) := fun ⟨n, v⟩ hy => by
  rcases S.par n (List.of_mem_zip hy).1 with q | q
  ·exact .inl q
  ·exact .inr ⟨q, PySem.W.cellsFrom_some _ _ _ (.inl q)⟩
 refine codeAny_call_function hr.depth (KX _ _ lk) rfl S.co S.gen rfl (PySem.W.codeRec_of KX hcd) (hb _ _ _ _ ?_)
 refine wpAny_newFunctionEnv_cells S.kind hkind fun env he s1 x => ?_
 subst he
 refine ⟨lim.keeps x.toInCall.keep, codeAny_func ?_⟩
 obtain ⟨t, ht, hq⟩ := hbody A outer s H vs Q E (hr.deeper _) hsp
 have I : Inv (ZkJ CX P w K mg base N qual scope f cdv A outer s H E) [] (start N vs) H s1 := Zmk S hr.hd e0 hl r x
 refine wpAny_mono (ht [] s1 (start N vs) H _ I hq) (fun fl s' hs => ?_) fun e s' hs => hs
 have fin : ∀ {σ' : St} {H' : Hp} {v : V} {u : Value}, Inv (ZkJ CX P w K mg base N qual scope f cdv A outer s H E) [] σ' H' s' → RelV v u → Q v H' → CE outer P w H s Q u s' :=
  fun {σ' H' v u} J rv q => ⟨v, H', J.os, J.bare, J.base, J.hok, rv, q⟩
 cases fl with
 | ret u =>
  obtain ⟨v, σ', H', J, rv, q⟩ := hs
  exact fin J rv q
 | next =>
  obtain ⟨σ', H', J, q⟩ := hs
  exact fin (v := V.non) (u := Value.none) J rfl q
 | brk =>
  obtain ⟨_, _, _, q⟩ := hs
  exact False.elim q
 | cont =>
  obtain ⟨_, _, _, q⟩ := hs
  exact False.elim q
end L2
namespace L2
open PySem PySem.Spec PyProof.Rows
section
variable {X : Cx} {x : Str} {p pos : Pos} {e : Expr} {es : List Expr} {t : TA} {id T : String} {r : List V → Hp → VK → Prop}
def tCB (r : List V → Hp → VK → Prop) (t : TA) : TE := fun σ H Q => t σ H fun vs H1 => r vs H1 Q
theorem Zj6 (hc : Zb2 X (.builtin id) r) (hg : Gl X x) (hm : X.mg x = none) (hv : bootBuiltins x = some (.builtin id)) (ha : PA X (e :: es) t) (hn : x ≠ "__name__" := by decide) (hdb : (x == ("__debug__" : Str)) = false := by decide)
  (he : starEach (e :: es) X.env = (false, eval e X.env) :: starEach es X.env := by rfl) (hpl : (backTo pos (starEach es X.env)).any (·.1) = false := by rfl) : PE X (.Call (.Name x p) (e :: es) [] pos) (tCB r t) := by
 intro pins s σ H Q I h
 refine wpAny_Call_Name_kw (ZhV I hg hm hv ?_ hn hdb)
 exact PyProof.Rows.callWith_builtin1 (thn (ha pos pins s σ H _ I h) fun us s1 ⟨vs, H1, I1, r1, q1⟩ => hc pins s1 σ H1 vs us Q I1 r1 q1) he hpl
theorem Zml (hc : Zb2 X (.type T) r) (hg : Gl X x) (hm : X.mg x = none) (hv : bootBuiltins x = some (.type T)) (ha : PA X (e :: es) t) (hn : x ≠ "__name__" := by decide) (hdb : (x == ("__debug__" : Str)) = false := by decide)
  (he : starEach (e :: es) X.env = (false, eval e X.env) :: starEach es X.env := by rfl) (hpl : (backTo pos (starEach es X.env)).any (·.1) = false := by rfl) : PE X (.Call (.Name x p) (e :: es) [] pos) (tCB r t) := by
 intro pins s σ H Q I h
 refine wpAny_Call_Name_kw (ZhV I hg hm hv ?_ hn hdb)
 exact PyProof.Rows.callWith_type1 (thn (ha pos pins s σ H _ I h) fun us s1 ⟨vs, H1, I1, r1, q1⟩ => hc pins s1 σ H1 vs us Q I1 r1 q1) he hpl
end
end L2
namespace HT
open PySem PyProof.Rows
section
open PySem.SeqAt
open PySem.AutoSeq1 (wpAny_loadPart')
open PySem.MeetsSeq PySem.MeetsSeq2 PySem.MeetsSeq3
end
section
variable {prog : Program} {w : World} {A : Around} {E : Value → Shared → Prop} {s : Shared}
theorem cat_tup {t b : Addr} {vs ws : List Value} {Q : Value → Shared → Prop} (ht : IsTup s.heap t vs.toArray) (hb : IsTup s.heap b ws.toArray) (hv : vs ≠ [])
  (h1 : ws = [] → Q (.ref t) s) (h2 : ws ≠ [] → Q (.ref s.heap.objs.size) { s with heap := s.heap.push { cls := .type "tuple", data := .seq (vs ++ ws).toArray } })
  (hsz : vs.length + ws.length ≤ sizeLine) : wpAny (model prog w) A (binaryOp .Add (.ref t) (.ref b)) Q E s := by
 obtain ⟨⟨cls, dd, data, sl⟩, ho, hc, n, hd⟩ := id ht
 obtain ⟨⟨cls2, dd2, data2, sl2⟩, ho2, hc2, n2, hd2⟩ := id hb
 simp only at hc hd hc2 hd2
 subst hc hd hc2 hd2
 have e : vs.toArray ++ ws.toArray = (vs ++ ws).toArray := by simp
 by_cases hw : ws = []
 ·exact concat_meets ⟨_, ho, rfl⟩ ⟨_, ho2, rfl⟩ noFill_tuple_add seq_tuple_add PySem.F.slot_tuple_add PySem.F.entry_tuple_add (PySem.F.args_tuple_add_2 _ _)
   (tuple_addW1 t b vs.toArray ws.toArray n n2 dd dd2 sl sl2 (by simpa using hv) (by simp [hw])) ⟨ho, ho2, h1 hw⟩
 ·refine concat_meets ⟨_, ho, rfl⟩ ⟨_, ho2, rfl⟩ noFill_tuple_add seq_tuple_add PySem.F.slot_tuple_add PySem.F.entry_tuple_add (PySem.F.args_tuple_add_2 _ _)
   (tuple_addW2 t b vs.toArray ws.toArray n n2 dd dd2 sl sl2 (by simpa using hv) (by simpa using hw) (by rw [List.size_toArray, List.size_toArray]; exact hsz)) ⟨ho, ho2, ?_⟩
  rw [e]
  exact h2 hw
def sIx (n d : Nat) : Option Int → Nat
 | none => d
 | some v => if v < 0 then (v + (n : Int)).toNat else min v.toNat n
theorem Zic (n d : Nat) : sIx n d none = d := rfl
theorem Zjs (n d k : Nat) : sIx n d (some (k : Int)) = min k n := by
 show (if (k : Int) < 0 then ((k : Int) + (n : Int)).toNat else min (k : Int).toNat n) = min k n
 rw [if_neg (by omega), Int.toNat_natCast]
theorem Zji (n d : Nat) (hd : d ≤ n) (o : Option Int) : sIx n d o ≤ n := by
 cases o with
 | none => exact hd
 | some v =>
  show (if v < 0 then (v + (n : Int)).toNat else min v.toNat n) ≤ n
  by_cases hv : v < 0
  ·rw [if_pos hv]; omega
  ·rw [if_neg hv]; exact Nat.min_le_right _ _
theorem ZlV (v : Int) (n d : Nat) : (if v < 0 then max (v + (n : Int)) 0 else min v (n : Int)) = ((sIx n d (some v) : Nat) : Int) := by
 show (if v < 0 then max (v + (n : Int)) 0 else min v (n : Int)) = (((if v < 0 then (v + (n : Int)).toNat else min v.toNat n) : Nat) : Int)
 by_cases hv : v < 0
 ·simp only [if_pos hv]; omega
 ·simp only [if_neg hv]; omega
theorem Zk9 (lo hi : Option Int) (n : Nat) : Builtin.Slice.sliceAdjust lo hi 1 (n : Int) = (((sIx n 0 lo : Nat) : Int), ((sIx n n hi : Nat) : Int)) := by
 have h1 : ¬ ((1 : Int) < 0) := by omega
 unfold Builtin.Slice.sliceAdjust
 simp only [h1, if_false]
 refine Prod.ext ?_ ?_
 ·cases lo with
  | none => rfl
  | some v => exact ZlV v n 0
 ·cases hi with
  | none => rfl
  | some v => exact ZlV v n n
theorem ZkW (i j : Nat) : Builtin.Slice.slicePlaces (i : Int) (j : Int) 1 = j - i := by
 unfold Builtin.Slice.slicePlaces
 have h1 : (1 : Int) > 0 := by omega
 simp only [h1, if_true, Int.ediv_one]
 split <;> omega
theorem ZhH {v : Value} {o : Option Int} {Q : Option Int → Shared → Prop} (p : IsPart v o) (h : Q o s) : wpAny (model prog w) A (Builtin.Slice.slicePartIndex v) Q E s := by
 cases p with
 | none => exact slicePart_none h
 | int i t => exact slicePart_int h
theorem sliceApplied_gen {sl : Addr} {vl vu : Value} {lo hi : Option Int} {n : Nat} {Q : Int × Int × Nat → Shared → Prop} (hs : s.heap.IsSliceOf sl vl vu .none) (pl : IsPart vl lo) (pu : IsPart vu hi)
  (h : Q (((sIx n 0 lo : Nat) : Int), 1, sIx n n hi - sIx n 0 lo) s) : wpAny (model prog w) A (Builtin.Slice.sliceApplied (.ref sl) (pure (n : Int))) Q E s := by
 obtain ⟨os, hos, hcs, hds⟩ := id hs
 unfold Builtin.Slice.sliceApplied Builtin.Slice.sliceFields
 refine wpAny_bind (wpAny_bind (wpAny_field hos hds (x := vl) rfl (wpAny_bind (wpAny_field hos hds (x := vu) rfl (wpAny_bind (wpAny_field hos hds (x := .none) rfl (wpAny_pure ?_)))))))
 refine wpAny_bind (slicePart_none ?_)
 show wpAny _ _ (if ((1 : Int) == 0) = true then _ else _) _ _ s
 rw [if_neg (by decide)]
 refine wpAny_bind (ZhH pl (wpAny_bind (ZhH pu (wpAny_bind (wpAny_pure ?_)))))
 show wpAny _ _ (match Builtin.Slice.sliceAdjust lo hi 1 (n : Int) with | (lo, hi) => pure (lo, (1 : Int), Builtin.Slice.slicePlaces lo hi 1)) _ _ s
 rw [Zk9 lo hi n]
 show wpAny _ _ (pure (((sIx n 0 lo : Nat) : Int), (1 : Int), Builtin.Slice.slicePlaces ((sIx n 0 lo : Nat) : Int) ((sIx n n hi : Nat) : Int) 1)) _ _ s
 rw [ZkW]
 exact wpAny_pure h
theorem Zno (xs : Array Value) (i k : Nat) : ((List.range k).filterMap fun (m : Nat) => xs[((i : Int) + (m : Int) * 1).toNat]?).toArray = ((xs.toList.drop i).take k).toArray := by
 have e : (fun (m : Nat) => xs[((i : Int) + (m : Int) * 1).toNat]?) = fun m => xs[i + m]? := by
  funext m
  have : ((i : Int) + (m : Int) * 1).toNat = i + m := by omega
  rw [this]
 rw [e]
 have := pick_run xs i k
 rw [List.filterMap_map] at this
 have e2 : ((fun x => xs[x]?) ∘ fun x => i + x) = fun m => xs[i + m]? := rfl
 rw [e2] at this
 rw [this]
theorem getItem_tuple_cut {t sl : Addr} {items : Array Value} {vl vu : Value} {lo hi : Option Int} {Q : Value → Shared → Prop} (ht : IsTup s.heap t items) (hs : s.heap.IsSliceOf sl vl vu .none) (pl : IsPart vl lo) (pu : IsPart vu hi)
  (hw : ¬ (sIx items.size 0 lo = 0 ∧ sIx items.size items.size hi = items.size))
  (h : Q (.ref s.heap.objs.size) { s with heap := s.heap.push { cls := .type "tuple", data := .seq ((items.toList.drop (sIx items.size 0 lo)).take (sIx items.size items.size hi - sIx items.size 0 lo)).toArray } })
  (hsz : items.size ≤ sizeLine) : wpAny (model prog w) A (getItem (.ref t) (.ref sl)) Q E s := by
 have htake : sizeOk (.seq ((items.toList.drop (sIx items.size 0 lo)).take (sIx items.size items.size hi - sIx items.size 0 lo)).toArray) := by
  show ((items.toList.drop (sIx items.size 0 lo)).take (sIx items.size items.size hi - sIx items.size 0 lo)).toArray.size ≤ sizeLine
  rw [List.size_toArray, List.length_take, List.length_drop, Array.length_toList]
  omega
 have hj : sIx items.size items.size hi ≤ items.size := Zji _ _ (Nat.le_refl _) hi
 obtain ⟨os, hos, hcs, hds⟩ := id hs
 have hTs : s.TypeIs (.ref sl) "slice" := ⟨os, hos, hcs⟩
 unfold getItem
 try with_reducible refine wpAny_holding ?_
 first | refine wpAny_bind (wpAny_pure ?_) | skip
 refine wpAny_bind (wpAny_sequenceKey ht.typeIs (by decide) ?_)
 refine wpAny_bind (wpAny_callSpecial?_slot (name := Str.ofString "__getitem__") ht.typeIs PyProof.Rows.slot_tuple_getitem
  (wpAny_call_entry PyProof.Rows.slot_tuple_getitem ht.typeIs entry_tuple_getitem ?_ (args_tuple_getitem _ _)))
 show wpAny _ _ (Builtin.Tuple.tupleItemsOf (.ref t) >>= _) _ _ s
 refine wpAny_bind (tupleItemsOf_ ht ?_)
 refine wpAny_bind (wpAny_typeOf hTs ?_)
 rw [if_pos (by decide)]
 refine wpAny_bind (sliceApplied_gen hs pl pu ?_)
 have hno : ¬ ((((sIx items.size 0 lo : Nat) : Int) == 0 && (1 : Int) == 1 && (sIx items.size items.size hi - sIx items.size 0 lo) == items.size) = true) := by
  intro q
  rw [Bool.and_eq_true, Bool.and_eq_true] at q
  have q1 : ((sIx items.size 0 lo : Nat) : Int) = 0 := eq_of_beq q.1.1
  have q2 : sIx items.size items.size hi - sIx items.size 0 lo = items.size := eq_of_beq q.2
  exact hw ⟨by omega, by omega⟩
 show wpAny _ _ (if (((sIx items.size 0 lo : Nat) : Int) == 0 && (1 : Int) == 1 && (sIx items.size items.size hi - sIx items.size 0 lo) == items.size) = true then _ else _) _ _ s
 rw [if_neg hno, Zno]
 first
  | exact wpAny_bind (m := Builtin.Tuple.tupleExact _) (wpAny_newObj_type (wpAny_pure ⟨_, rfl, wpAny_pure h⟩) htake)
  | exact wpAny_bind (m := Builtin.Tuple.tupleExact _) (wpAny_newObj_type (wpAny_bind (wpAny_pure (wpAny_pure ⟨_, rfl, wpAny_pure h⟩))) htake)
  | exact wpAny_bind (wpAny_bind (m := Builtin.Tuple.tupleExact _) (wpAny_newObj_type (wpAny_pure (wpAny_pure ⟨_, rfl, wpAny_pure h⟩)) htake))
  | exact wpAny_bind (wpAny_bind (m := Builtin.Tuple.tupleExact _) (wpAny_newObj_type (wpAny_pure ⟨_, rfl, wpAny_pure h⟩) htake))
end
end HT
namespace L2
open PySem PySem.Spec PyProof.Rows
abbrev TO := St → Hp → (Option Int → Hp → Prop) → Prop
def PO (X : Cx) (e : Option Expr) (t : TO) : Prop :=
 ∀ (pins : List (Addr × Obj)) (s : Shared) (σ : St) (H : Hp) (Q : Option Int → Hp → Prop), Inv X pins σ H s → t σ H Q →
  wpAny (model X.prog X.w) X.A (evalPart e X.env) (fun u s' => ∃ o H', Inv X pins σ H' s' ∧ IsPart u o ∧ Q o H') X.xe s
def Zoq : TO := fun _ H Q => Q none H
def ZqX (t : TE) : TO := fun σ H Q => t σ H fun x H1 => ∃ i, x = .int i ∧ Q (some i) H1
section
variable {X : Cx} {e : Expr} {te : TE} {lo hi : Option Expr} {tl th : TO} {pos p2 : Pos}
theorem ZoM : PO X none Zoq := by
 intro pins s σ H Q I h
 rw [evalPart_none]
 exact wpAny_pure ⟨none, H, I, .none, h⟩
theorem ZoT (h : PE X e te) : PO X (some e) (ZqX te) := by
 intro pins s σ H Q I hw
 rw [evalPart_some]
 refine thn (h pins s σ H _ I hw) fun u s1 ⟨x, H1, I1, r1, q1⟩ => ?_
 obtain ⟨i, rfl, q⟩ := q1
 obtain ⟨t, rfl⟩ := r1
 exact ⟨some i, H1, I1, .int i t, q⟩
def SlR (X : Cx) (r : V → Option Int → Option Int → Hp → VK → Prop) : Prop :=
 ∀ (pins : List (Addr × Obj)) (s : Shared) (σ : St) (H : Hp) (x : V) (v vl vu : Value) (lo hi : Option Int) (sl : Addr) (Q : VK), Inv X pins σ H s → RelV x v → s.heap.IsSliceOf sl vl vu .none → IsPart vl lo → IsPart vu hi → r x lo hi H Q →
  ∃ T id, typeLookup (.type T) "__getitem__" = pure (some (.builtin id)) ∧ s.TypeIs v T ∧ wpAny (model X.prog X.w) X.A (getItem v (.ref sl)) (EP X pins σ Q) X.xe s
theorem SlR.or {r r' : V → Option Int → Option Int → Hp → VK → Prop} (h : SlR X r) (h' : SlR X r') : SlR X (fun x lo hi H Q => r x lo hi H Q ∨ r' x lo hi H Q) := by
 intro pins s σ H x v vl vu lo hi sl Q I rx hs pl pu q
 rcases q with q | q
 ·exact h pins s σ H x v vl vu lo hi sl Q I rx hs pl pu q
 ·exact h' pins s σ H x v vl vu lo hi sl Q I rx hs pl pu q
def tSl (r : V → Option Int → Option Int → Hp → VK → Prop) (te : TE) (tl th : TO) : TE := fun σ H Q => te σ H fun x H1 => tl σ H1 fun l H2 => th σ H2 fun u H3 => r x l u H3 Q
theorem Znn {r : V → Option Int → Option Int → Hp → VK → Prop} (hr : SlR X r) (he : PE X e te) (hl : PO X lo tl) (hu : PO X hi th) : PE X (.Subscript e (.Slice lo hi none p2) pos) (tSl r te tl th) := by
 intro pins s σ H Q I h
 refine Subscript_ (thn (he pins s σ H _ I h) fun v s1 ⟨x, H1, I1, r1, q1⟩ => ?_)
 refine wpAny_Slice (thn (hl pins s1 σ H1 _ I1 q1) fun vl s2 ⟨l, H2, I2, pl, q2⟩ => thn (hu pins s2 σ H2 _ I2 q2) fun vu s3 ⟨u, H3, I3, pu, q3⟩ => ?_)
 rw [evalPart_none]
 refine wpAny_pure ?_
 have I4 : Inv X pins σ H3 { s3 with heap := s3.heap.push { cls := .type "slice", data := .fields #[vl, vu, .none] } } := I3.kept (t' := s3.toks) fun b ob q => Heap.get?_push_of_some _ q
 obtain ⟨T, id, hT, ht, hg⟩ := hr pins { s3 with heap := s3.heap.push { cls := .type "slice", data := .fields #[vl, vu, .none] } } σ H3 x v vl vu l u s3.heap.objs.size Q I4 r1 (Heap.IsSliceOf.new ..) pl pu q3
 show wpAny (model X.prog X.w) X.A (subscriptTail e (.Slice lo hi none p2) v (.ref s3.heap.objs.size)) (EP X pins σ Q) X.xe { s3 with heap := s3.heap.push { cls := .type "slice", data := .fields #[vl, vu, .none] } }
 exact tail_any (ops := [.ref s3.heap.objs.size, v]) ht hT hg (by with_unfolding_all rfl)
def Zki (xs : List V) (lo hi : Option Int) : List V := (xs.drop (HT.sIx xs.length 0 lo)).take (HT.sIx xs.length xs.length hi - HT.sIx xs.length 0 lo)
theorem Zg9 (xs : List V) (lo hi : Option Int) : (Zki xs lo hi).length ≤ xs.length := by
 unfold Zki
 rw [List.length_take, List.length_drop]
 omega
def Zsa (K : PySem.W.Frag) : V → Option Int → Option Int → Hp → VK → Prop := fun x lo hi H Q => ∃ a xs, x = .ref a ∧ SqT K H a xs ∧
 ¬ (HT.sIx xs.length 0 lo = 0 ∧ HT.sIx xs.length xs.length hi = xs.length) ∧ ∀ p, H p = none → Q (.ref p) (upd H p (.tup (Zki xs lo hi)))
theorem Zqq : SlR X (Zsa X.K) := by
 intro pins s σ H x v vl vu lo hi sl Q I rx hs pl pu h
 obtain ⟨a, xs, rfl, hx, hw, q⟩ := h
 cases rx
 obtain ⟨its, r, ht, hz⟩ := I.tuple hx
 have hlen : its.toArray.size = xs.length := by rw [List.size_toArray]; exact r.length.symm
 refine ⟨"tuple", _, PyProof.Rows.slot_tuple_getitem.lookup, ht.typeIs, ?_⟩
 refine HT.getItem_tuple_cut ht hs pl pu (by rw [hlen]; exact hw) ?_ (by rw [hlen]; exact hz)
 rw [hlen]
 refine ⟨.ref s.heap.objs.size, _, I.laid (t' := s.toks) (o := .tup (Zki xs lo hi)) (fun b ob q => Heap.get?_push_of_some _ q) (Nat.le_refl _) ?_, rfl, q _ (I.hok.fresh (Nat.le_refl _))⟩
 exact ⟨Nat.le_trans (Zg9 xs lo hi) hz, _, (r.drop (HT.sIx xs.length 0 lo)).take (HT.sIx xs.length xs.length hi - HT.sIx xs.length 0 lo), Zeq.new _ _⟩
def Zri (K : PySem.W.Frag) : R2 := fun x y H Q => ∃ a b xs ys, x = .ref a ∧ y = .ref b ∧ SqT K H a xs ∧ SqT K H b ys ∧ xs ≠ [] ∧ xs.length + ys.length ≤ sizeLine ∧
 (ys = [] → Q (.ref a) H) ∧ (ys ≠ [] → ∀ p, H p = none → Q (.ref p) (upd H p (.tup (xs ++ ys))))
theorem Vals.nil_iff {xs : List V} {us : List Value} (r : Vals xs us) : us = [] ↔ xs = [] := by
 cases r with
 | nil => simp
 | cons _ _ => simp
theorem ZoB : OpR X (binaryOp .Add) (Zri X.K) := by
 intro pins s σ H x y v u Q I rx ry h
 obtain ⟨a, b, xs, ys, rfl, rfl, ha, hb, hx, hz, q1, q2⟩ := h
 cases rx
 cases ry
 obtain ⟨its, r1, p1, _⟩ := I.tuple ha
 obtain ⟨its2, r2, p2, _⟩ := I.tuple hb
 refine HT.cat_tup p1 p2 (fun z => hx (r1.nil_iff.mp z)) (fun z => ⟨.ref a, H, I, rfl, q1 (r2.nil_iff.mp z)⟩) (fun z => ?_) (by rw [← r1.length, ← r2.length]; exact hz)
 refine ⟨.ref s.heap.objs.size, _, I.laid (t' := s.toks) (o := .tup (xs ++ ys)) (fun b ob q => Heap.get?_push_of_some _ q) (Nat.le_refl _) ?_, rfl, q2 (fun w => z (r2.nil_iff.mpr w)) _ (I.hok.fresh (Nat.le_refl _))⟩
 exact ⟨by rw [List.length_append]; exact hz, _, r1.append r2, Zeq.new _ _⟩
end
end L2
namespace L2
open PySem PySem.Spec PyProof.Rows
def ixN (n : Nat) (i : Int) : Option Nat := if 0 ≤ i then (if i < n then some i.toNat else none) else if -(n : Int) ≤ i then some (i + n).toNat else none
def atI {α : Type} (xs : List α) (i : Int) : Option α := (ixN xs.length i).bind fun j => xs[j]?
theorem ZlY {n : Nat} {i : Int} {j : Nat} (h : ixN n i = some j) : seqIndex? i n = some j ∧ j < n ∧ -(n : Int) ≤ i ∧ i < n := by
 unfold ixN at h
 by_cases h0 : 0 ≤ i
 ·rw [if_pos h0] at h
  by_cases h1 : i < n
  ·rw [if_pos h1] at h
   have e : i.toNat = j := Option.some.inj h
   exact ⟨by rw [seqIndex_of h0 h1, e], by omega, by omega, h1⟩
  ·rw [if_neg h1] at h; cases h
 ·rw [if_neg h0] at h
  by_cases h1 : -(n : Int) ≤ i
  ·rw [if_pos h1] at h
   have e : (i + n).toNat = j := Option.some.inj h
   exact ⟨by rw [seqIndex_neg (by omega) h1, e], by omega, h1, by omega⟩
  ·rw [if_neg h1] at h; cases h
theorem ZjL {α : Type} {xs : List α} {i : Int} {v : α} (h : atI xs i = some v) : ∃ j, seqIndex? i xs.length = some j ∧ xs[j]? = some v ∧ j < xs.length ∧ -(xs.length : Int) ≤ i ∧ i < xs.length := by
 unfold atI at h
 cases e : ixN xs.length i with
 | none => rw [e] at h; cases h
 | some j =>
  rw [e] at h
  obtain ⟨h1, h2, h3, h4⟩ := ZlY e
  exact ⟨j, h1, h, h2, h3, h4⟩
def ZlJ (b : Expr) : Prop := ∀ o i, subscripted b false o i = operate [o, i] (getItem o i)
def IxR (X : Cx) (r : R2) : Prop :=
 ∀ (value slice : Expr) (pins : List (Addr × Obj)) (s : Shared) (σ : St) (H : Hp) (x y : V) (v u : Value) (Q : VK), Inv X pins σ H s → RelV x v → RelV y u → r x y H Q →
  subscripted slice false v u = operate [v, u] (getItem v u) → wpAny (model X.prog X.w) X.A (subscriptTail value slice v u) (EP X pins σ Q) X.xe s
def MtR (X : Cx) (id : String) (r : V → List V → Hp → VK → Prop) : Prop :=
 ∀ (pins : List (Addr × Obj)) (s : Shared) (σ : St) (H : Hp) (x : V) (xs : List V) (v : Value) (us : List Value) (Q : VK), Inv X pins σ H s → RelV x v → Vals xs us → r x xs H Q →
  wpAny (model X.prog X.w) X.A (call (.builtin id) (v :: us)) (EP X pins σ Q) X.xe s
section
variable {X : Cx} {a b : Expr} {ta tb : TE} {pos : Pos}
theorem IxR.or {r r' : R2} (h : IxR X r) (h' : IxR X r') : IxR X (fun x y H Q => r x y H Q ∨ r' x y H Q) := by
 intro value slice pins s σ H x y v u Q I rx ry q hs
 rcases q with q | q
 ·exact h value slice pins s σ H x y v u Q I rx ry q hs
 ·exact h' value slice pins s σ H x y v u Q I rx ry q hs
theorem ZqM {r : R2} (hr : IxR X r) (ha : PE X a ta) (hb : PE X b tb) (hs : ZlJ b) : PE X (.Subscript a b pos) (tOp r ta tb) := by
 intro pins s σ H Q I h
 exact Subscript_ (Zpz ha hb I h fun v u s2 x y H2 I2 rx ry q => hr a b pins s2 σ H2 x y v u Q I2 rx ry q (hs _ _))
def Zrf (K : PySem.W.Frag) : R2 := fun x y H Q => ∃ p xs i v, x = .ref p ∧ y = .int i ∧ SqL K H p xs ∧ atI xs i = some v ∧ Q v H
def Zrd (K : PySem.W.Frag) : R2 := fun x y H Q => ∃ p xs i v, x = .ref p ∧ y = .int i ∧ SqT K H p xs ∧ atI xs i = some v ∧ Q v H
def ZqO : R2 := fun x y H Q => ∃ z i c, x = .str z ∧ y = .int i ∧ z.length ≤ sizeLine ∧ atI z.cps.toList i = some c ∧ Q (.str ⟨#[c]⟩) H
theorem ZoU : IxR X (Zrf X.K) := by
 intro value slice pins s σ H x y v u Q I rx ry h hs
 obtain ⟨p, xs, i, z, rfl, rfl, hq, he, q⟩ := h
 cases rx
 obtain ⟨t, rfl⟩ := ry
 obtain ⟨its, r, pl, hz⟩ := I.list hq
 obtain ⟨j, h1, h2, h3, h4, h5⟩ := ZjL he
 obtain ⟨w, ew, rw'⟩ := r.get h2
 have hl := r.length
 have hn := Zil
 have fin : EP X pins σ Q w s := ⟨z, H, I, rw', q⟩
 by_cases h0 : 0 ≤ i
 ·have hj : i.toNat = j := by
   rw [seqIndex_of h0 h5] at h1
   exact Option.some.inj h1
  exact item_listR pl.isList h0 (by omega) (by rw [hj]; simpa using ew) fin hs
 ·have hj : (i + (its.toArray.size : Int)).toNat = j := by
   rw [seqIndex_neg (by omega) h4] at h1
   rw [List.size_toArray, ← hl]
   exact Option.some.inj h1
  exact subscriptTail_builtinR (x := w) pl.isList.typeIs slot_list_getitem.lookup
   (wpAny_getItem_list_neg (Q := fun r s' => r = w ∧ EP X pins σ Q r s') pl.isList (by omega) (by rw [List.size_toArray] <;> omega) (by omega) (by rw [hj]; simpa using ew) ⟨rfl, fin⟩) hs
theorem Zqy : IxR X (Zrd X.K) := by
 intro value slice pins s σ H x y v u Q I rx ry h hs
 obtain ⟨p, xs, i, z, rfl, rfl, hq, he, q⟩ := h
 cases rx
 obtain ⟨t, rfl⟩ := ry
 obtain ⟨its, r, pl, hz⟩ := I.tuple hq
 obtain ⟨j, h1, h2, h3, h4, h5⟩ := ZjL he
 obtain ⟨w, ew, rw'⟩ := r.get h2
 have hl := r.length
 have hn := Zil
 have fin : EP X pins σ Q w s := ⟨z, H, I, rw', q⟩
 exact subscriptTail_builtinR (x := w) pl.typeIs slot_tuple_getitem.lookup
  (getItem_tuple (j := j) (Q := fun r s' => r = w ∧ EP X pins σ Q r s') pl (by omega) (by omega) (by rw [List.size_toArray, ← hl]; exact h1) (by simpa using ew) ⟨rfl, fin⟩) hs
theorem ZpU : IxR X ZqO := by
 intro value slice pins s σ H x y v u Q I rx ry h hs
 obtain ⟨z, i, c, rfl, rfl, hz, he, q⟩ := h
 obtain ⟨t, rfl⟩ := rx
 obtain ⟨t', rfl⟩ := ry
 obtain ⟨j, h1, h2, h3, h4, h5⟩ := ZjL he
 have hl : z.cps.toList.length = z.length := by simp [Str.length]
 rw [hl] at h1 h4 h5
 have hn := Zil
 exact tail_any (typeIs_str s z t) slot_str_getitem.lookup (getItem_str (c := c) (by
  have e1 : decide (i < -(2 ^ 63 : Int)) = false := decide_eq_false (by omega)
  have e2 : decide (i ≥ 2 ^ 63) = false := decide_eq_false (by omega)
  rw [e1, e2, Bool.or_false]) (by rw [h1]; simpa using h2) ⟨.str ⟨#[c]⟩, H, I.tok _, ⟨_, rfl⟩, q⟩) hs
def rIx (K : PySem.W.Frag) : R2 := fun x y H Q => Zrf K x y H Q ∨ Zrd K x y H Q ∨ ZqO x y H Q
theorem Zqx : IxR X (rIx X.K) := ZoU.or (Zqy.or ZpU)
theorem Zli (its : List Value) (n j : Nat) (u : Value) : Obj.mapSeq (·.setIfInBounds j u) { cls := .type "list", data := .seq its.toArray n } = { cls := .type "list", data := .seq (its.set j u).toArray n } := by
 simp [Obj.mapSeq]
theorem Inv.lst {pins : List (Addr × Obj)} {σ : St} {H : Hp} {s : Shared} {p : Addr} {xs : List V} (I : Inv X pins σ H s) (h : H p = some (.lst xs)) :
  ∃ (its : List Value) (n : Nat), Vals xs its ∧ s.heap.get? p = some { cls := .type "list", data := .seq its.toArray n } ∧ xs.length ≤ sizeLine := by
 obtain ⟨z, its, n, r, e⟩ := I.hok p _ h
 exact ⟨its, n, r, e, z⟩
theorem Inv.lstUpd {pins : List (Addr × Obj)} {σ : St} {H : Hp} {s : Shared} {p : Addr} {xs ys : List V} {its its' : List Value} {n n' : Nat} {f : Obj → Obj} (I : Inv X pins σ H s) (h : H p = some (.lst xs))
  (ho : s.heap.get? p = some { cls := .type "list", data := .seq its.toArray n }) (hf : f { cls := .type "list", data := .seq its.toArray n } = { cls := .type "list", data := .seq its'.toArray n' }) (r : Vals ys its') (hz : ys.length ≤ sizeLine) (t : Nat) :
  Inv X pins σ (upd H p (.lst ys)) { s with heap := s.heap.update p f, toks := t } := by
 have e : (s.heap.update p f).get? p = some { cls := .type "list", data := .seq its'.toArray n' } := by
  rw [Heap.get?_update_self f ho (by rw [hf] <;> rfl), hf]
 refine I.write (x := p) (e := p) (by rw [h]; trivial) (.inl rfl) (fun b u hb q => (Heap.get?_update_other _ _ (Ne.symm hb)).trans q) ⟨_, e⟩ ?_
 exact ⟨hz, its', n', r, e⟩
def Zrw : V → V → V → Hp → (Hp → Prop) → Prop := fun o i v H Q => ∃ p xs k j, o = .ref p ∧ i = .int k ∧ H p = some (.lst xs) ∧ ixN xs.length k = some j ∧ Q (upd H p (.lst (xs.set j v)))
theorem set_list : Zre X Zrw := by
 intro pins s σ H o i v ov iv u Q I ro ri rv h
 obtain ⟨p, xs, k, j, rfl, rfl, hp, hj, q⟩ := h
 cases ro
 obtain ⟨t, rfl⟩ := ri
 obtain ⟨its, n, r, ho, hz⟩ := I.lst hp
 obtain ⟨h1, h2, h3, h4⟩ := ZlY hj
 have hl := r.length
 have hn := Zil
 have I' : Inv X pins σ (upd H p (.lst (xs.set j v))) { s with heap := s.heap.update p (Obj.mapSeq (·.setIfInBounds j u)) } :=
  I.lstUpd hp ho (Zli its n j u) (r.set rv j) (by rw [List.length_set]; exact hz) s.toks
 by_cases h0 : 0 ≤ k
 ·have hk : k.toNat = j := by
   rw [seqIndex_of h0 h4] at h1
   exact Option.some.inj h1
  exact PySem.W.ki_setAt ho h0 (by omega) (by rw [List.size_toArray, ← hl]; exact h4) (by rw [hk]; exact ⟨_, I', q⟩)
 ·have hk : (k + (its.toArray.size : Int)).toNat = j := by
   rw [seqIndex_neg (by omega) h3] at h1
   rw [List.size_toArray, ← hl]
   exact Option.some.inj h1
  exact PySem.W.ki_setBack ho (by omega) (by rw [List.size_toArray, ← hl]; exact h3) (by omega) (by rw [hk]; exact ⟨_, I', q⟩)
theorem Zjp (lo hi : Option Int) (n : Nat) : (sliceBounds lo hi none n).1 = ((HT.sIx n 0 lo : Nat) : Int) ∧ (sliceBounds lo hi none n).2.1 = ((HT.sIx n n hi : Nat) : Int) ∧ (sliceBounds lo hi none n).2.2 = 1 := by
 refine ⟨?_, ?_, rfl⟩
 ·cases lo with
  | none => simp [sliceBounds, HT.sIx]
  | some i =>
   simp only [sliceBounds, HT.sIx, Option.getD_none, show (1 : Int) > 0 by decide, if_true]
   by_cases h : i < 0
   ·simp only [h, if_true] <;> omega
   ·simp only [h, if_false] <;> omega
 ·cases hi with
  | none => simp [sliceBounds, HT.sIx]
  | some i =>
   simp only [sliceBounds, HT.sIx, Option.getD_none, show (1 : Int) > 0 by decide, if_true]
   by_cases h : i < 0
   ·simp only [h, if_true] <;> omega
   ·simp only [h, if_false] <;> omega
theorem ZiC (its : List Value) (lo hi : Option Int) : slicePick its.toArray lo hi none = ((its.drop (HT.sIx its.length 0 lo)).take (HT.sIx its.length its.length hi - HT.sIx its.length 0 lo)).toArray := by
 obtain ⟨h1, h2, h3⟩ := Zjp lo hi its.toArray.size
 unfold slicePick
 rw [h1, h2, h3]
 simp only [sliceRange_one, pick_run, List.size_toArray] <;> rfl
def ZrS (K : PySem.W.Frag) : V → Option Int → Option Int → Hp → VK → Prop := fun x lo hi H Q => ∃ a xs, x = .ref a ∧ SqL K H a xs ∧ ∀ p, H p = none → Q (.ref p) (upd H p (.lst (Zki xs lo hi)))
theorem ZoZ : SlR X (ZrS X.K) := by
 intro pins s σ H x v vl vu lo hi sl Q I rx hs pl pu h
 obtain ⟨a, xs, rfl, hx, q⟩ := h
 cases rx
 obtain ⟨its, r, ht, hz⟩ := I.list hx
 have hlen := r.length
 refine ⟨"list", _, slot_list_getitem.lookup, ht.isList.typeIs, ?_⟩
 refine wpAny_getItem_list_slice ht.isList hs pl pu .none (by simp) ?_ (by rw [List.size_toArray] <;> omega)
 rw [ZiC, ← hlen]
 refine ⟨.ref s.heap.objs.size, _, I.laid (t' := s.toks) (o := .lst (Zki xs lo hi)) (fun b ob q => Heap.get?_push_of_some _ q) (Nat.le_refl _) ?_, rfl, q _ (I.hok.fresh (Nat.le_refl _))⟩
 exact ⟨Nat.le_trans (Zg9 xs lo hi) hz, _, 0, (r.drop (HT.sIx xs.length 0 lo)).take (HT.sIx xs.length xs.length hi - HT.sIx xs.length 0 lo), Heap.get?_push_size _ rfl⟩
def Zf0 : V → Bool
 | .non => true
 | .bl _ => true
 | .int _ => true
 | .str _ => true
 | _ => false
def eqV : V → V → Bool
 | .non, .non => true
 | .bl a, .bl b => a == b
 | .bl a, .int b => (if a then 1 else 0) == b
 | .int a, .bl b => a == (if b then 1 else 0)
 | .int a, .int b => a == b
 | .str a, .str b => a == b
 | _, _ => false
theorem ZqD {A : Around} {s : Shared} {y x : V} {u v : Value} (ry : RelV y u) (rx : RelV x v) (fy : Zf0 y = true) (fx : Zf0 x = true) : SeqAt.EqAt A s u v (eqV y x) := by
 cases y with
 | non =>
  cases ry
  cases x with
  | non => cases rx; exact SeqAt.EqAt.same _
  | bl b => cases rx; exact SeqAt.EqAt.none_bool b
  | int b => obtain ⟨t, rfl⟩ := rx; exact SeqAt.EqAt.none_int b t
  | str b => obtain ⟨t, rfl⟩ := rx; exact SeqAt.EqAt.none_str b t
  | _ => exact absurd (show false = true from fx) Bool.false_ne_true
 | bl a =>
  cases ry
  cases x with
  | non => cases rx; exact SeqAt.EqAt.bool_none a
  | bl b => cases rx; exact SeqAt.EqAt.bool_bool a b
  | int b => obtain ⟨t, rfl⟩ := rx; exact SeqAt.EqAt.bool_int a b t
  | str b => obtain ⟨t, rfl⟩ := rx; exact SeqAt.EqAt.bool_str a b t
  | _ => exact absurd (show false = true from fx) Bool.false_ne_true
 | int a =>
  obtain ⟨t', rfl⟩ := ry
  cases x with
  | non => cases rx; exact SeqAt.EqAt.int_none a t'
  | bl b => cases rx; exact SeqAt.EqAt.int_bool a t' b
  | int b => obtain ⟨t, rfl⟩ := rx; exact SeqAt.EqAt.int_int a t' b t
  | str b => obtain ⟨t, rfl⟩ := rx; exact SeqAt.EqAt.int_str a t' b t
  | _ => exact absurd (show false = true from fx) Bool.false_ne_true
 | str a =>
  obtain ⟨t', rfl⟩ := ry
  cases x with
  | non => cases rx; exact SeqAt.EqAt.str_none a t'
  | bl b => cases rx; exact SeqAt.EqAt.str_bool a t' b
  | int b => obtain ⟨t, rfl⟩ := rx; exact SeqAt.EqAt.str_int a t' b t
  | str b => obtain ⟨t, rfl⟩ := rx; exact SeqAt.EqAt.str_str a t' b t
  | _ => exact absurd (show false = true from fx) Bool.false_ne_true
 | _ => exact absurd (show false = true from fy) Bool.false_ne_true
def eqU (x : V) (u : Value) : Bool := match u with
 | .none => eqV .non x
 | .bool b => eqV (.bl b) x
 | .int i _ => eqV (.int i) x
 | .str z _ => eqV (.str z) x
 | _ => false
theorem Zm6 {x y : V} {u : Value} (r : RelV y u) (f : Zf0 y = true) : eqU x u = eqV y x := by
 cases y with
 | non => cases r; rfl
 | bl b => cases r; rfl
 | int i => obtain ⟨t, rfl⟩ := r; rfl
 | str z => obtain ⟨t, rfl⟩ := r; rfl
 | _ => exact absurd (show false = true from f) Bool.false_ne_true
theorem ZjA {x : V} : ∀ {xs : List V} {us : List Value}, Vals xs us → xs.all Zf0 = true → us.any (eqU x) = xs.any fun y => eqV y x
 | _, _, .nil, _ => rfl
 | y :: xs, u :: us, .cons r t, f => by
  rw [List.all_cons, Bool.and_eq_true] at f
  rw [List.any_cons, List.any_cons, Zm6 r f.1, ZjA t f.2]
theorem ZhZ {A : Around} {s : Shared} {x : V} {v : Value} (rx : RelV x v) (fx : Zf0 x = true) : ∀ {xs : List V} {us : List Value}, Vals xs us → xs.all Zf0 = true → ∀ u ∈ us, SeqAt.EqAt A s u v (eqU x u)
 | _, _, .nil, _ => fun u hu => by cases hu
 | y :: xs, u :: us, .cons r t, f => fun u' hu => by
  rw [List.all_cons, Bool.and_eq_true] at f
  rcases List.mem_cons.mp hu with rfl | hu
  ·rw [Zm6 r f.1]; exact ZqD r rx f.1 fx
  ·exact ZhZ rx fx t f.2 u' hu
def inV (x : V) (xs : List V) : Bool := xs.any fun y => eqV y x
def rIn (K : PySem.W.Frag) (neg : Bool) : R2 := fun x y H Q => ∃ p xs, y = .ref p ∧ (SqL K H p xs ∨ SqT K H p xs) ∧ Zf0 x = true ∧ xs.all Zf0 = true ∧ Q (.bl (if neg then !inV x xs else inV x xs)) H
theorem ZmP : OpR X (compareOp .In) (rIn X.K false) := by
 intro pins s σ H x y v u Q I rx ry h
 obtain ⟨p, xs, rfl, hq, fx, fs, q⟩ := h
 cases ry
 rcases hq with hq | hq
 ·obtain ⟨its, r, pl, hz⟩ := I.list hq
  refine SeqAt.in_listAt (eqU x) pl.isList (fun w hw => ZhZ rx fx r fs w (by simpa using hw)) ⟨.bl _, H, I, rfl, ?_⟩
  rw [show its.toArray.any (eqU x) = its.any (eqU x) by simp, ZjA r fs]
  exact q
 ·obtain ⟨its, r, pl, hz⟩ := I.tuple hq
  refine SeqAt.in_tupleAt (eqU x) pl (fun w hw => ZhZ rx fx r fs w (by simpa using hw)) ⟨.bl _, H, I, rfl, ?_⟩
  rw [show its.toArray.any (eqU x) = its.any (eqU x) by simp, ZjA r fs]
  exact q
theorem Zb2.or {f : Value} {r r' : List V → Hp → VK → Prop} (h : Zb2 X f r) (h' : Zb2 X f r') : Zb2 X f (fun xs H Q => r xs H Q ∨ r' xs H Q) := by
 intro pins s σ H xs us Q I rs q
 rcases q with q | q
 ·exact h pins s σ H xs us Q I rs q
 ·exact h' pins s σ H xs us Q I rs q
theorem ZjG : Zb2 X (.type "list") (fun xs H Q => ∃ p ys, xs = [.ref p] ∧ (SqL X.K H p ys ∨ SqT X.K H p ys) ∧ ∀ l, H l = none → Q (.ref l) (upd H l (.lst ys))) := by
 intro pins s σ H xs us Q I r h
 obtain ⟨p, ys, rfl, hq, q⟩ := h
 obtain ⟨u, rfl, rx⟩ := vals1 r
 cases rx
 have fin : ∀ (its : List Value), Vals ys its → ys.length ≤ sizeLine → ∀ (h' : Heap) (c' : Nat), (∀ b o', s.heap.get? b = some o' → h'.get? b = some o') →
   h'.get? s.heap.objs.size = some { cls := .type "list", dict := none, data := .seq its.toArray c', slots := #[] } → EP X pins σ Q (.ref s.heap.objs.size) { s with heap := h' } := fun its r' hz h' c' kp e =>
  ⟨.ref s.heap.objs.size, _, I.laid (t' := s.toks) kp (Nat.le_refl _) (show ZbG X.prog X.w _ h' _ (.lst ys) from ⟨hz, its, c', r', e⟩), rfl, q _ (I.hok.fresh (Nat.le_refl _))⟩
 rcases hq with hq | hq
 ·obtain ⟨its, r', pl, hz⟩ := I.list hq
  have hlen := r'.length
  obtain ⟨o, ho, hc, n, hd⟩ := pl.isList
  exact call_list_seq p (.inl rfl) ho hc hd (fun h' c' kp e => fin its r' hz h' c' kp e) (by simp only [List.size_toArray] <;> omega)
 ·obtain ⟨its, r', pl, hz⟩ := I.tuple hq
  have hlen := r'.length
  obtain ⟨o, ho, hc, n, hd⟩ := pl
  exact call_list_seq p (.inr rfl) ho hc hd (fun h' c' kp e => fin its r' hz h' c' kp e) (by simp only [List.size_toArray] <;> omega)
theorem Ziq : Zb2 X (.type "tuple") (fun xs H Q => ∃ p ys, xs = [.ref p] ∧ ((SqL X.K H p ys ∧ ∀ l, H l = none → Q (.ref l) (upd H l (.tup ys))) ∨ (SqT X.K H p ys ∧ Q (.ref p) H))) := by
 intro pins s σ H xs us Q I r h
 obtain ⟨p, ys, rfl, h⟩ := h
 obtain ⟨u, rfl, rx⟩ := vals1 r
 cases rx
 rcases h with ⟨hq, q⟩ | ⟨hq, q⟩
 ·obtain ⟨its, r', pl, hz⟩ := I.list hq
  have hlen := r'.length
  refine call_tuple_list pl.isList (fun h' kp => ?_) (by simp only [List.size_toArray] <;> omega)
  have I1 : Inv X pins σ H { s with heap := h' } := I.kept (t' := s.toks) kp
  have I2 : Inv X pins σ (upd H h'.objs.size (.tup ys)) { s with heap := h'.push { cls := .type "tuple", data := .seq its.toArray } } :=
   I1.laid (t' := s.toks) (fun b o e => Heap.get?_push_of_some _ e) (Nat.le_refl _) (show ZbG X.prog X.w _ _ _ (.tup ys) from ⟨hz, its, r', Zeq.new _ _⟩)
  exact ⟨.ref h'.objs.size, _, I2, rfl, q _ (I1.hok.fresh (Nat.le_refl _))⟩
 ·obtain ⟨its, r', pl, hz⟩ := I.tuple hq
  exact call_tuple_same pl ⟨.ref p, H, I, rfl, q⟩
def tyV (K : PySem.W.Frag) (T : String) (x : V) (H : Hp) : Prop := match x with
 | .str _ => T = "str"
 | .int _ => T = "int"
 | .ref p => (T = "list" ∧ ∃ xs, SqL K H p xs) ∨ (T = "tuple" ∧ ∃ o, K.lookup p = some o ∧ o.cls = .type "tuple" ∧ o.dict = none) ∨
   (T = "dict" ∧ ((∃ kvs, H p = some (.dK kvs)) ∨ ∃ kvs, H p = some (.dT kvs))) ∨ (T = "set" ∧ ∃ S n, H p = some (.set S n))
 | _ => False
theorem ZpZ {pins : List (Addr × Obj)} {σ : St} {H : Hp} {s : Shared} {T : String} {x : V} {v : Value} (I : Inv X pins σ H s) (r : RelV x v) (ty : tyV X.K T x H) :
  s.TypeIs v T ∧ ∀ a, v = .ref a → ∃ ob, s.heap.get? a = some ob ∧ ob.dict = none := by
 cases x with
 | str z =>
  obtain ⟨t, rfl⟩ := r
  cases (show T = "str" from ty)
  exact ⟨typeIs_str s z t, fun _ e => nomatch e⟩
 | int i =>
  obtain ⟨t, rfl⟩ := r
  cases (show T = "int" from ty)
  exact ⟨typeIs_int s i t, fun _ e => nomatch e⟩
 | ref p =>
  cases r
  rcases ty with ⟨rfl, xs, hq⟩ | ⟨rfl, o, hk, hc, hd⟩ | ⟨rfl, hk⟩ | ⟨rfl, S, n, hk⟩
  ·obtain ⟨its, _, pl, _⟩ := I.list hq
   refine ⟨pl.isList.typeIs, fun a e => ?_⟩
   cases e
   obtain ⟨o, n, e, c, hd, _⟩ := pl
   exact ⟨o, e, hd⟩
  ·refine ⟨⟨o, I.kIn p o hk, hc⟩, fun a e => ?_⟩
   cases e
   exact ⟨o, I.kIn _ o hk, hd⟩
  ·have z : ∃ o, s.heap.get? p = some o ∧ o.ExactDict := by
    rcases hk with ⟨kvs, hk⟩ | ⟨kvs, hk⟩
    ·obtain ⟨_, _, _, _, o, _, _, e, ex, _⟩ := I.hok p _ hk
     exact ⟨o, e, ex⟩
    ·obtain ⟨_, _, _, _, o, _, _, e, ex, _⟩ := I.hok p _ hk
     exact ⟨o, e, ex⟩
   obtain ⟨o, e, ex⟩ := z
   refine ⟨⟨o, e, ex.1⟩, fun a e2 => ?_⟩
   cases e2
   exact ⟨o, e, ex.2.1⟩
  ·obtain ⟨o, _, _, _, e, ex, _⟩ := I.hok p _ hk
   refine ⟨⟨o, e, ex.1⟩, fun a e2 => ?_⟩
   cases e2
   exact ⟨o, e, ex.2.1⟩
 | _ => exact False.elim ty
def tBM (K : PySem.W.Frag) (T : String) (r : V → List V → Hp → VK → Prop) (to : TE) (t : TA) : TE := fun σ H Q => to σ H fun x H1 => tyV K T x H1 ∧ t σ H1 fun xs H2 => r x xs H2 Q
variable {o e : Expr} {es : List Expr} {to : TE} {t : TA} {name : Str} {apos cpos : Pos} {T id : String} {r : V → List V → Hp → VK → Prop}
theorem ZrB (pa : PlainAttrs T) (slot : Slot T name id) (hty : typeOf (.builtin id) = pure (.type "method_descriptor")) (hm : MtR X id r) (ho : PE X o to) (ha : PA X (e :: es) t)
  (hbase : attributeBase o name X.env (eval o X.env) = eval o X.env := by rfl)
  (hfew : ((backTo cpos (starEach (e :: es) X.env)).all (fun x => !x.1) && (backToKw cpos (keywordEach [] X.env)).all (fun x => x.1.isSome)
   && decide ((e :: es).length + ([] : List Keyword).length + (if ([] : List Keyword).isEmpty then 0 else 1) < 30)) = true := by rfl)
  (hline : (apos.endLine == cpos.line) = true := by rfl) (hs : starEach (e :: es) X.env = (false, eval e X.env) :: starEach es X.env := by rfl) (hplain : (backTo cpos (starEach es X.env)).any (·.1) = false := by rfl) :
  PE X (.Call (.Attribute o name apos) (e :: es) [] cpos) (tBM X.K T r to t) := by
 intro pins s σ H Q I h
 refine wpAny_Call_method_late hbase hfew hline rfl (thn (ho pins s σ H _ I h) fun v s1 ⟨x, H1, I1, r1, ty, q1⟩ => ?_)
 obtain ⟨h1, h2⟩ := ZpZ I1 r1 ty
 refine ⟨T, id, pa, slot, hty, h1, h2, ?_⟩
 have hA := ha cpos pins s1 σ H1 _ I1 q1
 rw [hs] at hA ⊢
 refine Calls.callWith_builtin (by show (false || (backTo cpos (starEach es X.env)).any (·.1)) = false; rw [hplain] <;> rfl) (Calls.evalArgs_plain ?_)
 exact thn hA fun us s2 ⟨vs, H2, I2, r2, q2⟩ => hm pins s2 σ H2 x vs v us Q I2 r1 r2 q2
/- xs.append(e), list.index on a module's tuple .. are MtR facts of 06m -/
end
end L2
namespace L2
open PySem PySem.Spec PyProof.Rows
def MtM (X : Cx) (id : String) (r : V → List V → Hp → VK → Prop) : Prop :=
 ∀ (pins : List (Addr × Obj)) (s : Shared) (σ : St) (H : Hp) (x : V) (xs : List V) (v : Value) (us : List Value) (Q : VK), Inv X pins σ H s → RelV x v → Vals xs us → r x xs H Q →
  wpAny (model X.prog X.w) X.A (call (.builtin id) (v :: us)) (EP X pins σ Q) X.xe s
theorem Vals.one : ∀ {x : V} {us : List Value}, Vals [x] us → ∃ u, us = [u] ∧ RelV x u
 | _, _, .cons r .nil => ⟨_, rfl, r⟩
theorem Vals.zero : ∀ {us : List Value}, Vals [] us → us = []
 | _, .nil => rfl
theorem Vals.dropLast {xs : List V} {us : List Value} (h : Vals xs us) : Vals xs.dropLast us.dropLast := by
 induction h with
 | nil => exact .nil
 | cons r t ih =>
  cases t with
  | nil => exact .nil
  | cons q t' => exact .cons r ih
theorem Vals.eraseIdx : ∀ {xs : List V} {us : List Value} (i : Nat), Vals xs us → Vals (xs.eraseIdx i) (us.eraseIdx i)
 | _, _, _, .nil => .nil
 | _, _, 0, .cons _ t => t
 | _, _, i + 1, .cons r t => .cons r (Vals.eraseIdx i t)
theorem Vals.rep {xs : List V} {us : List Value} (h : Vals xs us) : ∀ k : Nat, Vals (List.replicate k xs).flatten (List.replicate k us).flatten
 | 0 => .nil
 | k + 1 => by
  rw [List.replicate_succ, List.replicate_succ, List.flatten_cons, List.flatten_cons]
  exact Vals.append h (Vals.rep h k)
theorem foldl_rep (its : List Value) : ∀ (k : Nat) (acc : List Value),
  List.foldl (fun x1 x2 => x1 ++ x2) acc.toArray (List.replicate k its.toArray) = (acc ++ (List.replicate k its).flatten).toArray
 | 0, acc => by simp
 | k + 1, acc => by
  have e : acc.toArray ++ its.toArray = (acc ++ its).toArray := by simp
  have e2 : (acc ++ its) ++ (List.replicate k its).flatten = acc ++ (List.replicate (k + 1) its).flatten := by
   rw [List.replicate_succ, List.flatten_cons, List.append_assoc]
  rw [← e2, ← foldl_rep its k (acc ++ its), ← e, List.replicate_succ, List.foldl_cons]
section
variable {X : Cx} {pins : List (Addr × Obj)} {σ : St} {H : Hp} {s : Shared} {l b : Addr} {xs ys zs : List V}
theorem Inv.lset {its its' : List Value} {n : Nat} {f : Array Value → Array Value} {t' : Nat} (I : Inv X pins σ H s) (hH : H l = some (.lst xs))
  (e : s.heap.get? l = some { cls := .type "list", data := .seq its.toArray n }) (hf : f its.toArray = its'.toArray) (hv : Vals ys its') (hz : ys.length ≤ sizeLine) :
  Inv X pins σ (upd H l (.lst ys)) { s with heap := s.heap.update l (Obj.mapSeq f), toks := t' } := by
 have q := PySem.IsL.update e f
 rw [hf] at q
 refine I.write (x := l) (e := l) (by rw [hH]; exact trivial) (.inl rfl) (fun b' u hb hu => (Heap.get?_update_other s.heap (Obj.mapSeq f) (Ne.symm hb)).trans hu) ⟨_, q⟩ ?_
 exact ⟨hz, its', _, hv, q⟩
theorem Inv.lnew {its : List Value} {t' : Nat} (I : Inv X pins σ H s) (hv : Vals ys its) (hz : ys.length ≤ sizeLine) :
  Inv X pins σ (upd H s.heap.objs.size (.lst ys)) { s with heap := s.heap.push { cls := .type "list", data := .seq its.toArray }, toks := t' } :=
 I.laid (fun _ _ q => Heap.get?_push_of_some _ q) (Nat.le_refl _) ⟨hz, its, 0, hv, Heap.get?_push_size _ rfl⟩
theorem Inv.fresh (I : Inv X pins σ H s) : H s.heap.objs.size = none := I.hok.fresh (Nat.le_refl _)
theorem Inv.lstM (I : Inv X pins σ H s) (hH : H l = some (.lst xs)) : xs.length ≤ sizeLine ∧ ∃ (its : List Value) (n : Nat), Vals xs its ∧ xs.length = its.length ∧ s.heap.get? l = some { cls := .type "list", data := .seq its.toArray n } := by
 obtain ⟨z, its, n, r, e⟩ := I.hok l _ hH
 exact ⟨z, its, n, r, r.length, e⟩
theorem Zn2 {n : Nat} (h : n ≤ sizeLine) : Builtin.List.listTooLong n = false := by
 unfold Builtin.List.listTooLong
 exact decide_eq_false (by omega)
end
section
variable {X : Cx}
def ZlX : V → List V → Hp → VK → Prop := fun x vs H Q => ∃ l xs y, x = .ref l ∧ vs = [y] ∧ H l = some (.lst xs) ∧ xs.length < sizeLine ∧ Q .non (upd H l (.lst (xs ++ [y])))
theorem Zjb : MtM X "list.append" ZlX := by
 intro pins s σ H x vs v us Q I rx rv h
 obtain ⟨l, xs, y, rfl, rfl, hH, hz, q⟩ := h
 cases rx
 obtain ⟨u, rfl, ru⟩ := rv.one
 obtain ⟨z, its, n, r, hl, e⟩ := I.lstM hH
 refine call_meets F.slot_list_append ⟨_, e, rfl⟩ F.entry_list_append (F.args_list_append_2 _ _) (PySem.list_append l its.toArray n u (by rw [List.size_toArray]; omega)) ⟨e, ?_⟩
 refine ⟨.non, _, I.lset (its' := its ++ [u]) hH e (by simp) (r.append (.cons ru .nil)) ?_, rfl, q⟩
 rw [List.length_append, List.length_singleton]
 omega
def Zr0 : R2 := fun x y H Q => ∃ l b xs zs, x = .ref l ∧ y = .ref b ∧ H l = some (.lst xs) ∧ H b = some (.lst zs) ∧ xs.length + zs.length ≤ sizeLine ∧ ∀ p, H p = none → Q (.ref p) (upd H p (.lst (xs ++ zs)))
theorem Zpw : OpR X (binaryOp .Add) Zr0 := by
 intro pins s σ H x y v u Q I rx ry h
 obtain ⟨l, b, xs, zs, rfl, rfl, hH, hB, hz, q⟩ := h
 cases rx
 cases ry
 obtain ⟨z, its, n, r, hl, e⟩ := I.lstM hH
 obtain ⟨z2, its2, n2, r2, hl2, e2⟩ := I.lstM hB
 refine PySem.P.add_list e e2 ?_ (by rw [List.size_toArray, List.size_toArray]; omega)
 have ea : its.toArray ++ its2.toArray = (its ++ its2).toArray := by simp
 rw [ea]
 exact ⟨.ref _, _, I.lnew (t' := s.toks) (r.append r2) (by rw [List.length_append]; omega), rfl, q _ I.fresh⟩
def ZrW : R2 := fun x y H Q => ∃ l k xs, x = .ref l ∧ y = .int k ∧ H l = some (.lst xs) ∧ -(2 ^ 63) ≤ k ∧ k < 2 ^ 63 ∧ xs.length * k.toNat ≤ sizeLine ∧
 ∀ p, H p = none → Q (.ref p) (upd H p (.lst (List.replicate k.toNat xs).flatten))
theorem len_rep {α : Type} (xs : List α) (k : Nat) : (List.replicate k xs).flatten.length = k * xs.length := by
 induction k with
 | zero => simp
 | succ k ih => rw [List.replicate_succ, List.flatten_cons, List.length_append, ih, Nat.succ_mul, Nat.add_comm]
theorem Zqj : OpR X (binaryOp .Mult) ZrW := by
 intro pins s σ H x y v u Q I rx ry h
 obtain ⟨l, k, xs, rfl, rfl, hH, h1, h2, hz, q⟩ := h
 cases rx
 obtain ⟨t, rfl⟩ := ry
 obtain ⟨z, its, n, r, hl, e⟩ := I.lstM hH
 have hlen : its.toArray.size * k.toNat ≤ sizeLine := by rw [List.size_toArray, ← hl]; exact hz
 have hcap : ¬ its.toArray.size * k.toNat > (2 ^ 63 - 1) / 8 := by
  have : (sizeLine : Nat) ≤ (2 ^ 63 - 1) / 8 := by decide
  omega
 have hfit : ¬ (!Builtin.List.listFitsIndex k) = true := by
  rw [fitsIndex_both h1 h2]
  exact Bool.false_ne_true
 have hlong : ¬ Builtin.List.listTooLong (its.toArray.size * k.toNat) = true := by
  rw [Zn2 hlen]
  exact Bool.false_ne_true
 have hnew : List.foldl (fun x1 x2 => x1 ++ x2) #[] (List.replicate (if its.toArray.isEmpty = true then 0 else k.toNat) its.toArray) = (List.replicate k.toNat its).flatten.toArray := by
  have f0 : ∀ m : Nat, List.foldl (fun x1 x2 => x1 ++ x2) #[] (List.replicate m its.toArray) = (List.replicate m its).flatten.toArray := fun m => by
   have := foldl_rep its m []
   rw [List.nil_append] at this
   exact this
  rw [f0]
  cases its with
  | nil => simp
  | cons a r' => rw [if_neg (by simp)]
 refine wpAny_binaryOp_repeat_ref (T := "list") (U := "int") (by decide) ⟨_, e, rfl⟩ (fun s' => typeIs_int s' k t) noFill_list_mul F.fills_int_mul F.slot_int_rmul repeat_list F.slot_int_index.lookup
  (call_meets F.slot_int_rmul (typeIs_int s k t) F.entry_int_rmul (F.args_int_rmul_2 _ _) (int___rmul___int_list k t l its.toArray n)
   ⟨e, rfl, ⟨_, e, rfl⟩, call_meets F.slot_list_mul ⟨_, e, rfl⟩ F.entry_list_mul (F.args_list_mul_2 _ _) (AutoListH.list___mul___list_int_3 l its.toArray n k t hfit hcap hlong) ⟨e, ?_⟩⟩)
 rw [hnew]
 exact ⟨.ref _, _, I.lnew (t' := s.toks) (r.rep k.toNat) (by rw [len_rep, Nat.mul_comm]; exact hz), rfl, q _ I.fresh⟩
end
section
variable {prog : Program} {w : World} {A : Around} {E : Value → Shared → Prop} {s : Shared}
theorem Zej (its its2 : List Value) (a c : Nat) : its.toArray.extract 0 a ++ its2.toArray ++ its.toArray.extract c its.toArray.size = (its.take a ++ its2 ++ its.drop c).toArray := by
 apply Array.toList_inj.mp
 first
  | (simp
     exact List.take_of_length_le (by simp))
  | simp [List.take_of_length_le]
  | simp
end
section
variable {X : Cx}
end
end L2
namespace Att
open PySem PySem.W PySem.Calls PyProof.Rows
theorem Zho {P : Params} {h : Heap} : ∀ (ns : List Int) (vs : List Value), WellAll P h vs (ns.map WData.int) → IntsAre vs ns := by
 intro ns
 induction ns with
 | nil =>
  intro vs w
  rw [List.map_nil] at w
  cases w
  exact .nil
 | cons n ns ih =>
  intro vs w
  rw [List.map_cons] at w
  cases w with
  | cons a b =>
   cases a
   exact .cons _ _ (ih _ b)
theorem Zmo {l : OpenLaw} {n : Nat} (hn : l.most = some n) {P : Params} {h : Heap} {args : List WData} {vals : List Value}
  (hpre : l.row.toRowW.claim.pre args = true) (hwl : WellAll P h vals args) :
  ∃ a vs ns, vals = [Value.ref a] ∧ args = [WData.list (ns.map WData.int)] ∧ h.get? a = some { cls := .type "list", data := .seq vs.toArray } ∧ IntsAre vs ns ∧ ns.length ≤ n := by
 have hsh : WShape.hasAll [] args [.list .int] = true := (pre_splitW hpre).1
 have hc : l.pre.holds [] { args := args } = true := (pre_splitW hpre).2
 obtain ⟨d, r, rfl, h1, h2⟩ := hasAllW_cons hsh
 obtain rfl := hasAllW_nil h2
 obtain ⟨xs, rfl, h3⟩ := hasW_list h1
 obtain ⟨ns, rfl⟩ := items_int h3
 have hlen : ns.length ≤ n := by
  unfold OpenLaw.pre at hc
  have h4 : (WTm.not (.lt (.lit (.int (n : Int))) (.len (.arg 0)))).holds [] { args := [.list (ns.map .int)] } = true := by
   have h4 := (holds_andW hc).1
   rw [hn] at h4
   exact h4
  have h5 := condW_of h4 (w_not (w_lt w_lit (w_len_list (w_arg rfl))))
  rw [List.length_map] at h5
  refine Nat.le_of_not_lt fun q => ?_
  have q' : (n : Int) < ((ns.length : Nat) : Int) := by omega
  first
   | (rw [decide_eq_true q'] at h5; exact absurd h5 (by decide))
   | (simp at h5; omega)
 cases hwl with
 | cons w1 w2 =>
  cases w2
  cases w1 with
  | list ho hall => exact ⟨_, _, ns, rfl, rfl, ho, Zho ns _ hall, hlen⟩
theorem ZmE (l : OpenLaw) (args : List WData) : l.row.toRowW.claim.post args (.bool true) args = true :=
 postW_of (r := l.row.toRowW) (X := (true == true))
  (show WShape.has [] (.bool true) .bool = true by first | rfl | decide | simp [WShape.has, WShape.arms, WShape.armsAll])
  (show (WTm.eq .res (.lit (.bool true))).value [] { args := args, res := some (.bool true), after := args } = some (.bool (true == true)) from w_eq_bool (w_res rfl) w_lit) rfl
theorem attach_call {l : OpenLaw} {n : Nat} {q : Program} {loose : List Str} {XP : (Str → Option Value) → Heap → Prop} {YP : World → Heap → Prop} {d : DefRec}
  (hn : l.most = some n) (hdf : d.params.defaults = [])
  (call : ∀ (w : World) (s₀ s₁ : Shared) (mg mb : Str → Option Value) (fa : Addr) (o : Obj) (pm cd doc : Value) (a : Addr) (vs : List Value) (ns : List Int),
   Ground q loose [] XP w s₀ mg mb s₁.heap → YP w s₁.heap →
   s₁.heap.get? fa = some o → o.data = .func (docDef d.name d.params d.body d.scope pm cd doc) → s₁.heap.CodeRec cd d.name → mg d.name = some (.ref fa) →
   s₁.heap.get? a = some { cls := .type "list", data := .seq vs.toArray } → IntsAre vs ns → ns.length ≤ n → s₁.gens = #[] →
   codeAny (model l.prog w) callerA (.call (.ref fa) ⟨[.ref a], []⟩) (fun r s' => r = .ok (.ret (.bool true)) ∧ OldK s₁.heap s'.heap ∧ s'.os = s₁.os ∧ AllBare s'.gens) s₁) :
  WalkO q loose XP YP l.row.toRowW d [] (fun f vs => PySem.call f vs) := by
 intro w s₀ s₁ mg mb G Y fa o pm cd doc dV kV ho hd hcd hD hmg hg args vals as hpre hlay hrd hwl hlo
 obtain rfl : dV = .none := Dflts.none hD hdf
 obtain rfl : kV = .none := Dflts.noKw hD
 obtain ⟨a, vs, ns, rfl, rfl, hobj, hints, hlen⟩ := Zmo hn hpre hwl
 refine enter_call (codeAny_mono (call w s₀ s₁ mg mb fa o pm cd doc a vs ns G Y ho (fd_plain hd) hcd hmg hobj hints hlen hg) fun r s' hq => ?_)
 obtain ⟨rfl, h2, h3, h4⟩ := hq
 exact ⟨.inl ⟨.bool true, .bool true, [], rfl, fun _ => rfl, .bool true, ZmE l _, fun _ => ⟨List.Pairwise.nil, fun _ hm => (nomatch hm)⟩⟩, h2, h3, h4⟩
section
variable {prog : Program} {w : World} {A : Around} {E : Value → Shared → Prop} {s : Shared} {K : Frag}
end
end Att
namespace L2
open PySem PySem.Spec PyProof.Rows
theorem ZiG : ∀ {vs : List Value} {ns : List Int}, IntsAre vs ns → Vals (ns.map V.int) vs
 | _, _, .nil => .nil
 | _, _, .cons n t h => .cons ⟨t, rfl⟩ (ZiG h)
def Only (H : Hp) : Prop := ∀ b, H b = none ∨ ∃ o xs, H b = some (.frz o (.lst xs))
theorem Zny {P : Program} {w : World} {K : PySem.W.Frag} {mg mb : Str → Option Value} {CX : CXT} {k : Nat} {fa a : Addr} {fd : FuncData} {x : Str} {sp : Sp} {s₁ : Shared} {vs : List Value} {ns : List Int}
  (KX : K.In s₁.heap) (hns : s₁.heap.Ns mainGlobals mg) (hb : s₁.heap.Ns builtinsNs mb) (hbb : ∀ x : Str, x ≠ "__name__" → mb x = bootBuiltins x) (hlim : s₁.heap.NoLimit) (hg : s₁.gens = #[])
  (ha : s₁.heap.get? a = some { cls := .type "list", data := .seq vs.toArray }) (hi : IntsAre vs ns) (hl : ns.length ≤ sizeLine) (hr : Zd4 k callerA)
  (F : ∀ base : Heap, K.In base → base.Ns mainGlobals mg → ZhO P w K mg base CX k fa fd [x] sp) (hbind : ∀ (s : Shared) (u : Value), BindsTo s fd ⟨[u], []⟩ [(x, u)])
  (hsp : ∀ H : Hp, Only H → SqL K H a (ns.map V.int) → sp [.ref a] H (fun v _ => v = .bl true) fun _ _ _ => False)
  (hCX : ∀ H e s', CX [] H s₁ (fun _ _ _ => False) e s' → False) :
  codeAny (model P w) callerA (.call (.ref fa) ⟨[.ref a], []⟩) (fun r s' => r = .ok (.ret (.bool true)) ∧ OldK s₁.heap s'.heap ∧ s'.os = s₁.os ∧ AllBare s'.gens) s₁ := by
 have rv := ZiG hi
 have lenV := hi.length
 have core : ∀ H : Hp, Only H → SqL K H a (ns.map V.int) → HOk P w H s₁.heap → (∀ b, H b ≠ none → b = a) → (H a ≠ none → K.lookup a = none) →
   codeAny (model P w) callerA (.call (.ref fa) ⟨[.ref a], []⟩) (fun r s' => r = .ok (.ret (.bool true)) ∧ OldK s₁.heap s'.heap ∧ s'.os = s₁.os ∧ AllBare s'.gens) s₁ := by
  intro H hO hS hok hA hK
  have base_of : ∀ {b : Addr} {o : Obj}, s₁.heap.get? b = some o → H b = none → (Zju s₁.heap H).get? b = some o := fun e n => Znf e n
  have noA : ∀ {b : Addr} {o : Obj} {es : Array DictEntry} {ep : Nat}, s₁.heap.get? b = some o → o.data = .dict es ep → H b = none := fun {b o es ep} e d => by
   cases q : H b with
   | none => rfl
   | some u =>
    have e' : b = a := hA b (by rw [q]; simp)
    subst e'
    rw [ha] at e; cases e
    have d' : Data.seq vs.toArray _ = Data.dict es ep := d
    cases d'
  have nsK : ∀ {b : Addr} {m : Str → Option Value}, s₁.heap.Ns b m → (Zju s₁.heap H).Ns b m := fun {b m} ⟨o, es, ep, e, d, r⟩ => ⟨o, es, ep, base_of e (noA e d), d, r⟩
  have hKb : K.In (Zju s₁.heap H) := fun b o e => base_of (KX b o e) (by
   cases q : H b with
   | none => rfl
   | some u =>
    have e' : b = a := hA b (by rw [q]; simp)
    subst e'
    rw [hK (by rw [q]; simp)] at e; cases e)
  have hM : Mod K mg (Zju s₁.heap H) := ⟨hKb, nsK hns, ⟨mb, nsK hb, hbb⟩, let ⟨mc, h1, h2⟩ := hlim; ⟨mc, nsK h1, h2⟩⟩
  have e0 : Zk5 P w K mg (Zju s₁.heap H) callerA [] s₁ H := ⟨rfl, hM, fun b o e => ZoF e, Nat.le_of_eq (Zms _ _), trivial, fun b hb => absurd (show b ∈ ([] : List Addr) from hb) (by simp), hok, .of_eq hg⟩
  refine codeAny_mono ((F _ hKb (nsK hns)).run callerA [] s₁ H ⟨[.ref a], []⟩ [.ref a] [.ref a] _ _ hr e0 (hbind s₁ (.ref a)) (.cons rfl .nil) (hsp H hO hS)) fun r s' h => ?_
  cases r with
  | error e => exact (hCX H e s' h).elim
  | ok fl =>
   cases fl with
   | next => exact False.elim h
   | brk => exact False.elim h
   | cont => exact False.elim h
   | ret u =>
    obtain ⟨v, H', os, bare, un, hok', r', q⟩ := h
    have q' : v = .bl true := q
    subst q'
    obtain rfl : u = Value.bool true := r'
    refine ⟨rfl, OldK.of_keep fun b o e => ?_, os, bare⟩
    cases q : H b with
    | none => exact un.keep b o e q (by intro z; exact absurd (show b ∈ ([] : List Addr) from z) (by simp)) (by simp)
    | some u =>
     rcases hO b with z | ⟨ob, xs, z⟩
     ·rw [q] at z; cases z
     ·have z2 := un.frzs b ob _ z
      obtain ⟨e1, _⟩ := hok b _ z
      obtain ⟨e2, _⟩ := hok' b _ z2
      rw [e] at e1; cases e1
      exact e2
 cases hk : K.lookup a with
 | some o =>
  have e := KX a o hk
  rw [ha] at e
  cases e
  refine core (fun _ => none) (fun _ => .inl rfl) (.inr ⟨_, vs.toArray, _, hk, rfl, rfl, rfl, by rw [List.size_toArray, lenV]; exact hl, by simpa using rv⟩) (fun b u z => by have z' : (none : Option HO) = some u := z; cases z') (fun b z => absurd rfl z) fun z => absurd rfl z
 | none =>
  refine core (fun b => if b = a then some (.frz { cls := .type "list", data := .seq vs.toArray } (.lst (ns.map V.int))) else none) (fun b => ?_) (.inl (.inr ⟨{ cls := .type "list", data := .seq vs.toArray }, if_pos rfl⟩)) (fun b u z => ?_) (fun b z => ?_) fun _ => hk
  ·by_cases hb : b = a
   ·exact .inr ⟨_, _, if_pos hb⟩
   ·exact .inl (if_neg hb)
  ·by_cases hb : b = a
   ·have z' := (if_pos hb).symm.trans z
    cases z'
    subst hb
    exact ⟨ha, by rw [List.length_map]; exact hl, vs, _, rv, ha⟩
   ·have z' := (if_neg hb).symm.trans z
    cases z'
  ·by_cases hb : b = a
   ·exact hb
   ·exact absurd (if_neg hb) z
end L2
namespace L2
open PySem PySem.Spec PyProof.Rows
theorem ZlW {l : PySem.W.OpenLaw} {n k : Nat} {q : Program} {loose : List Str} {XP : (Str → Option Value) → Heap → Prop} {YP : World → Heap → Prop} {d : DefRec} {K : Params → PySem.W.Frag} {CX : World → CXT} {sp : World → Sp} {x : Str}
  (hn : l.most = some n) (hn2 : n ≤ sizeLine) (hdf : d.params.defaults = []) (hr : Zd4 k callerA)
  (hY : ∀ (w : World) (h : Heap), YP w h → (K w.params).In h)
  (F : ∀ (w : World) (mg : Str → Option Value) (fa : Addr) (h : Heap), (K w.params).In h → h.Ns mainGlobals mg → mg d.name = some (.ref fa) →
   ∃ fd : FuncData, (∀ (s : Shared) (u : Value), BindsTo s fd ⟨[u], []⟩ [(x, u)]) ∧
    ∀ base : Heap, (K w.params).In base → base.Ns mainGlobals mg → ZhO l.prog w (K w.params) mg base (CX w) k fa fd [x] (sp w))
  (hsp : ∀ (w : World) (H : Hp) (a : Addr) (ns : List Int), ns.length ≤ n → Only H → SqL (K w.params) H a (ns.map V.int) → sp w [.ref a] H (fun v _ => v = .bl true) fun _ _ _ => False)
  (hCX : ∀ (w : World) (H : Hp) (s : Shared) (e : Value) (s' : Shared), CX w [] H s (fun _ _ _ => False) e s' → False) :
  PySem.W.WalkO q loose XP YP l.row.toRowW d [] (fun f vs => PySem.call f vs) := by
 refine Att.attach_call hn hdf fun w s₀ s₁ mg mb fa o pm cd doc a vs ns G Y ho hd hcd hmg hobj hints hlen hg => ?_
 have KX := hY w _ Y
 obtain ⟨fd, hb, hF⟩ := F w mg fa _ KX G.T.g hmg
 exact Zny KX G.T.g G.T.b G.T.builtins G.T.nolimit hg hobj hints (Nat.le_trans hlen hn2) hr hF hb (fun H hO hS => hsp w H a ns hlen hO hS) fun H e s' => hCX w H s₁ e s'
end L2
/- THE LAST THEOREM (shape; LID, My.* are yours):
  My.Adr: a structure of the addresses that your layer names (classes, functions); My.Txt K t: a structure (Prop) of the equations over K;
  My.txt_mk : {K} {implicit addresses ..} (e1 : nsIn K mainGlobals "law" = some (some (.ref f))) (e2 : K.lookup f = some ⟨oc, od, .func (fnOf "law" "law" params body scope dV kV doc pm an cdv ct), sl⟩) (e3 : codeIn K cdv "law" = true) .. : ∃ t, My.Txt K t
set_option maxRecDepth 100000 in
set_option maxHeartbeats 0 in
theorem PySem.Challenge.cw_LID_holds : PySem.Challenge.rw_LID.Holds := by
 w_on; o_law; k_head; (case hw => w_witness2)
 k_fill
 refine L2.ZlW (l := PySem.Challenge.rw_LID) (n := 63) (k := 40) (x := "script") (CX := fun w => ..) (sp := fun _ => My.sp_law) rfl (by decide) rfl ⟨rfl, by decide, by decide⟩ (fun w h Y => PySem.W.kIn_of Y) ?F ?S ?C
 case F =>
  intro w mg fa h KX G hmg
  have T : ∃ t, My.Txt (L2.KOf KX) t := by
   dsimp only [L2.KOf]                          -- K must stand as «<heap const> w.params» for k_is
   refine' My.txt_mk ?e1 ?e2 ?e3 ..
   (case e1 => PySem.W.k_is)                    -- in the order: a name -> its address -> its object -> its parts
   (case e2 => PySem.W.k_is)
   ..
  obtain ⟨t, T⟩ := T
  have e0 := hmg.symm.trans (PySem.W.mg_of KX G T.law)
  cases e0                                       -- fa is the law's own address
  exact ⟨_, fun s u => .of_eq rfl, fun base kb nb => My.law_fn T kb nb⟩     -- if «.of_eq rfl» comes too early: refine' ⟨_, ?b, fun base kb nb => My.law_fn T kb nb⟩; exact fun s u => .of_eq rfl
 case S => exact fun w H a ns hl hO hS => ..
 case C => exact ..
(the tactic k_is has no namespace: write k_is) -/
namespace L2
open PySem PySem.Spec PyProof.Rows
def Zaw (s : Stmt) : Arguments := match s with
 | .FunctionDef _ a _ _ _ _ _ _ _ _ => a
 | _ => { posonlyargs := [], args := [], vararg := none, kwonlyargs := [], kw_defaults := [], kwarg := none, defaults := [] }
def Zap (s : Stmt) : List Stmt := match s with
 | .FunctionDef _ _ b _ _ _ _ _ _ _ => b
 | _ => []
def Zt (s : Stmt) : Scope := match s with
 | .FunctionDef _ _ _ _ _ _ sc _ _ _ => sc
 | _ => { kind := .function, names := [], isGenerator := false, isCoroutine := false }
abbrev CX0 : CXT := fun _ _ _ _ _ _ => False
abbrev E0 : XK := fun _ _ _ => False
theorem ZqU {X : Cx} : Zly CX0 X E0 := fun _ _ _ _ _ _ _ h => h.elim
structure Fun (K : PySem.W.Frag) (x qual : Str) (st : Stmt) (f : Addr) (fd : FuncData) : Prop where
 ex : ∃ (oc : Value) (od : Option Addr) (dV kV doc pm : Value) (an : Option Addr) (cdv ct : Value) (osl : Array (Option Value)),
  fd = PySem.W.fnOf x qual (Zaw st) (Zap st) (Zt st) dV kV doc pm an cdv ct ∧ K.lookup f = some ⟨oc, od, .func fd, osl⟩ ∧ PySem.W.codeIn K cdv qual = true
 kp : PySem.W.keepIn K (.ref f) = true
section
variable {P : Program} {w : World} {K : PySem.W.Frag} {mg : Str → Option Value} {base : Heap}
theorem Fun.ok {x qual : Str} {st : Stmt} {f : Addr} {fd : FuncData} {N ps : List Str} {k : Nat} {sp : Sp} (F : Fun K x qual st f fd) (S : Zaz N ps (Zt st)) (len : ∀ vs H Q E, sp vs H Q E → vs.length = ps.length)
  (hbody : ∀ (cdv : Value) (A : Around) (outer : List Env) (s : Shared) (H : Hp) (vs : List V) (Q : VK) (E : XK), Zd4 k (A.deeper (envOfC qual (Zt st) s.heap.objs.size f cdv)) → sp vs H Q E →
   ∃ t, PSs (ZkJ CX0 P w K mg base N qual (Zt st) f cdv A outer s H E).nox (Zap st) t ∧ t { nx := fun _ H' => Q .non H', rt := Q } (start N vs) H) : ZhO P w K mg base CX0 (k + 1) f fd ps sp := by
 obtain ⟨oc, od, dV, kV, doc, pm, an, cdv, ct, osl, rfl, lk, hcd⟩ := F.ex
 refine ZqS lk hcd S len fun A outer s H vs Q E hr hsp => ?_
 obtain ⟨t, h, q⟩ := hbody cdv A outer s H vs Q E hr hsp
 exact ⟨t, h.nox, q⟩
theorem Fun.binds {x qual : Str} {st : Stmt} {f : Addr} {fd : FuncData} {ps : List Str} (F : Fun K x qual st f fd)
  (h : ∀ (dV kV doc pm : Value) (an : Option Addr) (cdv ct : Value) (us : List Value), us.length = ps.length → bindArgs (PySem.W.fnOf x qual (Zaw st) (Zap st) (Zt st) dV kV doc pm an cdv ct) ⟨us, []⟩ = pure (ps.zip us)) : Binds K fd ps [] := by
 obtain ⟨oc, od, dV, kV, doc, pm, an, cdv, ct, osl, rfl, lk, hcd⟩ := F.ex
 exact .all (h dV kV doc pm an cdv ct)
theorem Zna {x qual : Str} {st : Stmt} {f : Addr} {oc : Value} {od an : Option Addr} {osl : Array (Option Value)} {dV kV doc pm cdv ct : Value} (l : K.lookup f = some ⟨oc, od, .func (PySem.W.fnOf x qual (Zaw st) (Zap st) (Zt st) dV kV doc pm an cdv ct), osl⟩)
  (c : PySem.W.codeIn K cdv qual = true) (k : PySem.W.keepIn K (.ref f) = true) : Fun K x qual st f (PySem.W.fnOf x qual (Zaw st) (Zap st) (Zt st) dV kV doc pm an cdv ct) := ⟨⟨oc, od, dV, kV, doc, pm, an, cdv, ct, osl, rfl, l, c⟩, k⟩
end
section
variable {X : Cx}
end
def Zox (H H' : Hp) : Prop := ∀ b o, H b = some o → H' b = some o
theorem Zox.free {H H' : Hp} (e : Zox H H') {l : Addr} (h : H' l = Option.none) : H l = Option.none := by
 cases q : H l with
 | none => rfl
 | some o =>
  rw [e l o q] at h
  cases h
theorem Zox.seq {K : PySem.W.Frag} {H H' : Hp} {a : Addr} {xs : List V} (e : Zox H H') (h : SqL K H a xs) : SqL K H' a xs := by
 rcases h with (h | ⟨o, h⟩) | h
 ·exact .inl (.inl (e _ _ h))
 ·exact .inl (.inr ⟨o, e _ _ h⟩)
 ·exact .inr h
end L2
namespace L2
open PySem PySem.Spec PyProof.Rows
section
variable {κ : Type} [DecidableEq κ]
def ZfP (kvs : List (κ × V)) (k : κ) : Option V := (kvs.find? fun kv => decide (kv.1 = k)).map (·.2)
def putK (kvs : List (κ × V)) (k : κ) (v : V) : List (κ × V) :=
 if (kvs.any fun kv => decide (kv.1 = k)) = true then kvs.map (fun kv => if kv.1 = k then (kv.1, v) else kv) else kvs ++ [(k, v)]
theorem ZnR {k : κ} : ZfP ([] : List (κ × V)) k = none := rfl
theorem Zgz {p : κ × V} {r : List (κ × V)} {k : κ} (e : p.1 = k) : ZfP (p :: r) k = some p.2 := by simp [ZfP, List.find?_cons, e]
theorem Zgl {p : κ × V} {r : List (κ × V)} {k : κ} (e : ¬ p.1 = k) : ZfP (p :: r) k = ZfP r k := by simp [ZfP, List.find?_cons, e]
theorem Zj5 (k : κ) : ∀ kvs : List (κ × V), (kvs.any fun kv => decide (kv.1 = k)) = (ZfP kvs k).isSome
 | [] => rfl
 | p :: r => by
  rw [List.any_cons]
  by_cases e : p.1 = k
  ·simp only [Zgz e, decide_eq_true e, Bool.true_or, Option.isSome_some]
  ·rw [Zgl e, decide_eq_false e, Bool.false_or]; exact Zj5 k r
theorem Zfq (kvs : List (κ × V)) (k : κ) (v : V) : (putK kvs k v).length ≤ kvs.length + 1 := by
 unfold putK
 split
 ·rw [List.length_map]; omega
 ·rw [List.length_append, List.length_cons, List.length_nil]; omega
theorem ZgY.isSome_eq {o : Option V} {u : Option Value} (r : ZgY o u) : o.isSome = u.isSome := by
 cases o with
 | none => cases u with
  | none => rfl
  | some _ => exact (show False from r).elim
 | some _ => cases u with
  | none => exact (show False from r).elim
  | some _ => rfl
theorem ZgY.getD {o : Option V} {u : Option Value} {d : V} {d' : Value} (r : ZgY o u) (rd : RelV d d') : RelV (o.getD d) (u.getD d') := by
 cases o with
 | none => cases u with
  | none => exact rd
  | some _ => exact (show False from r).elim
 | some _ => cases u with
  | none => exact (show False from r).elim
  | some _ => exact r
theorem KV.val {kvs : List (κ × V)} {vs : List (κ × Value)} (r : KV kvs vs) (k : κ) : ZgY (ZfP kvs k) (valueAt vs k) := by
 unfold KV at r
 induction r with
 | nil => exact True.intro
 | @cons p q ps qs h t ih =>
  obtain ⟨h1, h2⟩ := h
  by_cases e : p.1 = k
  ·have e' : q.1 = k := h1.symm.trans e
   have b : valueAt (q :: qs) k = some q.2 := by simp [valueAt, List.find?_cons, e']
   rw [Zgz e, b]; exact h2
  ·have e' : ¬ q.1 = k := fun z => e (h1.trans z)
   have b : valueAt (q :: qs) k = valueAt qs k := by simp [valueAt, List.find?_cons, e']
   rw [Zgl e, b]; exact ih
theorem KV.any {kvs : List (κ × V)} {vs : List (κ × Value)} (r : KV kvs vs) (k : κ) : (kvs.any fun kv => decide (kv.1 = k)) = vs.any fun kv => decide (kv.1 = k) := by
 unfold KV at r
 induction r with
 | nil => rfl
 | cons h t ih => rw [List.any_cons, List.any_cons, ih, h.1]
theorem KV.repl {kvs : List (κ × V)} {vs : List (κ × Value)} (r : KV kvs vs) (k : κ) {y : V} {u : Value} (ry : RelV y u) :
  KV (kvs.map fun kv => if kv.1 = k then (kv.1, y) else kv) (vs.map fun kv => if kv.1 = k then (kv.1, u) else kv) := by
 unfold KV at r ⊢
 induction r with
 | nil => exact .nil
 | @cons p q ps qs h t ih =>
  rw [List.map_cons, List.map_cons]
  refine .cons ?_ ih
  obtain ⟨h1, h2⟩ := h
  by_cases e : p.1 = k
  ·rw [if_pos e, if_pos (h1.symm.trans e)]; exact ⟨h1, ry⟩
  ·rw [if_neg e, if_neg (fun z => e (h1.trans z))]; exact ⟨h1, h2⟩
theorem KV.put {kvs : List (κ × V)} {vs : List (κ × Value)} (r : KV kvs vs) (k : κ) {y : V} {u : Value} (ry : RelV y u) : KV (putK kvs k y) (stored vs k u) := by
 unfold putK stored
 rw [r.any k]
 by_cases e : (vs.any fun kv => decide (kv.1 = k)) = true
 ·rw [if_pos e, if_pos e]; exact r.repl k ry
 ·rw [if_neg e, if_neg e]; exact Paired.snoc r ⟨rfl, ry⟩
theorem KV.keys {kvs : List (κ × V)} {vs : List (κ × Value)} (r : KV kvs vs) : kvs.map (·.1) = vs.map (·.1) := by
 unfold KV at r
 induction r with
 | nil => rfl
 | cons h t ih => rw [List.map_cons, List.map_cons, ih, h.1]
theorem KV.length {kvs : List (κ × V)} {vs : List (κ × Value)} (r : KV kvs vs) : kvs.length = vs.length := Paired.length r
end
theorem Zke {P : Program} {w : World} {k : Key} {u : Value} (r : RelV (kV k) u) : (Zbd P w).is k u = true := by
 cases k with
 | inl i => obtain ⟨t, e⟩ := (show ∃ t, u = Value.int i t from r); subst e; exact Zko P w i t
 | inr x => obtain ⟨t, e⟩ := (show ∃ t, u = Value.str x t from r); subst e; exact ZkO P w x t
theorem ZiK {P : Program} {w : World} : ∀ {ks : List Key} {us : List Value}, Vals (ks.map kV) us → ItemsAre (Zbd P w) ks us
 | [], _, r => by rw [List.map_nil] at r; cases r; exact .nil
 | k :: ks, _, r => by
  rw [List.map_cons] at r
  cases r with
  | cons h t => exact .cons (Zke h) (ZiK t)
abbrev KT (H : Hp) : List (List Key × V) → List (List Key × Addr × Value) → Prop := Paired fun p q => p.1 = q.1 ∧ H q.2.1 = some (.tup (p.1.map kV)) ∧ RelV p.2 q.2.2
theorem KT.val {H : Hp} {kvs : List (List Key × V)} {xs : List (List Key × Addr × Value)} (r : KT H kvs xs) (k : List Key) : ZgY (ZfP kvs k) ((atKey xs k).map (·.2)) := by
 induction r with
 | nil => exact True.intro
 | @cons p q ps qs h t ih =>
  obtain ⟨h1, _, h2⟩ := h
  by_cases e : p.1 = k
  ·have e' : q.1 = k := h1.symm.trans e
   have b : atKey (q :: qs) k = some q.2 := by simp [atKey, List.find?_cons, e']
   rw [Zgz e, b]; exact h2
  ·have e' : ¬ q.1 = k := fun z => e (h1.trans z)
   have b : atKey (q :: qs) k = atKey qs k := by simp [atKey, List.find?_cons, e']
   rw [Zgl e, b]; exact ih
theorem KT.repl {H : Hp} {kvs : List (List Key × V)} {xs : List (List Key × Addr × Value)} (r : KT H kvs xs) (k : List Key) {y : V} {u : Value} (ry : RelV y u) :
  KT H (kvs.map fun kv => if kv.1 = k then (kv.1, y) else kv) (xs.map (putAt k u)) := by
 induction r with
 | nil => exact .nil
 | @cons p q ps qs h t ih =>
  rw [List.map_cons, List.map_cons]
  refine .cons ?_ ih
  obtain ⟨h1, h2, h3⟩ := h
  unfold putAt
  by_cases e : p.1 = k
  ·rw [if_pos e, if_pos (h1.symm.trans e)]; exact ⟨h1, h2, ry⟩
  ·rw [if_neg e, if_neg (fun z => e (h1.trans z))]; exact ⟨h1, h2, h3⟩
theorem KT.put {H : Hp} {kvs : List (List Key × V)} {xs : List (List Key × Addr × Value)} (r : KT H kvs xs) (k : List Key) {b : Addr} {y : V} {u : Value} (hb : H b = some (.tup (k.map kV))) (ry : RelV y u) :
  KT H (putK kvs k y) (storedH xs k b u) := by
 have e : (kvs.any fun kv => decide (kv.1 = k)) = (atKey xs k).isSome := by
  rw [Zj5, (r.val k).isSome_eq, Option.isSome_map]
 unfold putK storedH
 rw [e]
 by_cases q : (atKey xs k).isSome = true
 ·rw [if_pos q, if_pos q]; exact r.repl k ry
 ·rw [if_neg q, if_neg q]; exact Paired.snoc r ⟨rfl, hb, ry⟩
theorem KT.keeps {H H' : Hp} {kvs : List (List Key × V)} {xs : List (List Key × Addr × Value)} (r : KT H kvs xs) (ht : ∀ b ys, H b = some (.tup ys) → H' b = some (.tup ys)) : KT H' kvs xs :=
 Paired.mapP r fun _ _ z => ⟨z.1, ht _ _ z.2.1, z.2.2⟩
section
variable {P : Program} {w : World} {H : Hp} {h : Heap} {a : Addr}
theorem Zo4 {u : HO} (ok : HOk P w H h) (e : Rd H a u) : ZbG P w H h a u := e.ok ok
theorem ZiP {kvs : List (Key × V)} (ok : HOk P w H h) (e : Rd H a (.dK kvs)) : kvs.length ≤ sizeLine ∧ (a == sysModules) = false ∧ ∃ vs, KV kvs vs ∧ h.DictOf (Zbd P w) a vs :=
 show ZbG P w H h a (.dK kvs) from Zo4 ok e
theorem Zpk {kvs : List (Key × V)} (ok : HOk P w H h) (e : H a = some (.dK kvs)) : kvs.length ≤ sizeLine ∧ (a == sysModules) = false ∧ ∃ vs, KV kvs vs ∧ h.DictOf (Zbd P w) a vs := ZiP ok (.inl e)
theorem Zjr {ks : List Key} (ok : HOk P w H h) (e : H a = some (.tup (ks.map kV))) : (tupleKind (Zbd P w)).is h ks a := by
 obtain ⟨_, its, r, o, h1, h2, n, h3⟩ := (show ZbG P w H h a (.tup (ks.map kV)) from ok a _ e)
 exact ⟨o, its.toArray, n, h1, h2.1, h3, by simpa using ZiK r⟩
theorem Zkt {kvs : List (List Key × V)} (ok : HOk P w H h) (e : Rd H a (.dT kvs)) : kvs.length ≤ sizeLine ∧ (a == sysModules) = false ∧
  ∃ xs, KT H kvs xs ∧ h.DictOfH (tupleKind (Zbd P w)) a xs := by
 obtain ⟨z, y, xs, r, o, es, ep, h1, h2, h3, h4, h5⟩ := (show ZbG P w H h a (.dT kvs) from Zo4 ok e)
 refine ⟨z, y, xs, r, o, es, ep, h1, h2, h3, h4, fun x hx => ?_, h5⟩
 have all : ∀ {l : List (List Key × V)} {m : List (List Key × Addr × Value)}, KT H l m → ∀ x ∈ m, (tupleKind (Zbd P w)).is h x.1 x.2.1 := by
  intro l m q
  induction q with
  | nil => intro x hx; exact nomatch hx
  | @cons p q ps qs hq t ih =>
   intro x hx
   rcases List.mem_cons.mp hx with e | hx
   ·subst e
    exact Zjr ok (by rw [← hq.1]; exact hq.2.1)
   ·exact ih x hx
 exact all r x hx
theorem ZqW {kvs : List (List Key × V)} (ok : HOk P w H h) (e : H a = some (.dT kvs)) : kvs.length ≤ sizeLine ∧ (a == sysModules) = false ∧
  ∃ xs, KT H kvs xs ∧ h.DictOfH (tupleKind (Zbd P w)) a xs := Zkt ok (.inl e)
end
def Zlv (H : Hp) (a : Addr) (y : V) (r : Option V) : Prop :=
 (∃ kvs k, Rd H a (.dK kvs) ∧ y = kV k ∧ r = ZfP kvs k) ∨ ∃ kvs k b, Rd H a (.dT kvs) ∧ y = .ref b ∧ H b = some (.tup (k.map kV)) ∧ r = ZfP kvs k
def Zle (H : Hp) (a : Addr) (y v : V) (H' : Hp) : Prop :=
 (∃ kvs k, H a = some (.dK kvs) ∧ y = kV k ∧ kvs.length < sizeLine ∧ H' = upd H a (.dK (putK kvs k v))) ∨
 ∃ kvs k b, H a = some (.dT kvs) ∧ y = .ref b ∧ H b = some (.tup (k.map kV)) ∧ kvs.length < sizeLine ∧ H' = upd H a (.dT (putK kvs k v))
theorem Zlv.t {H : Hp} {a b : Addr} {kvs : List (List Key × V)} {k : List Key} (e : H a = some (.dT kvs)) (eb : H b = some (.tup (k.map kV))) : Zlv H a (.ref b) (ZfP kvs k) := .inr ⟨kvs, k, b, .inl e, rfl, eb, rfl⟩
theorem Zle.k {H : Hp} {a : Addr} {kvs : List (Key × V)} {k : Key} {v : V} (e : H a = some (.dK kvs)) (hl : kvs.length < sizeLine) : Zle H a (kV k) v (upd H a (.dK (putK kvs k v))) := .inl ⟨kvs, k, e, rfl, hl, rfl⟩
theorem Zle.t {H : Hp} {a b : Addr} {kvs : List (List Key × V)} {k : List Key} {v : V} (e : H a = some (.dT kvs)) (eb : H b = some (.tup (k.map kV))) (hl : kvs.length < sizeLine) :
  Zle H a (.ref b) v (upd H a (.dT (putK kvs k v))) := .inr ⟨kvs, k, b, e, rfl, eb, hl, rfl⟩
section
variable {X : Cx} {pins : List (Addr × Obj)} {σ : St} {H : Hp} {s : Shared} {a : Addr} {y v : V} {u r : Value} {o : Option V} {A : Around} {E : Value → Shared → Prop}
theorem Inv.big (I : Inv X pins σ H s) : sysModules < s.heap.objs.size := by
 have h : mainGlobals < s.heap.objs.size := (I.mod.glob.keeps I.bk).lt
 exact Nat.lt_trans (by decide) h
theorem Zmp {Q : Value → Shared → Prop} (hu : A.units + 1 < cLine) (I : Inv X pins σ H s) (g : Zlv H a y (some v)) (ry : RelV y u) (h : ∀ w' s', Inv X pins σ H s' → RelV v w' → Q w' s') :
  wpAny (model X.prog X.w) A (getItem (.ref a) u) Q E s := by
 rcases g with ⟨kvs, k, e, ey, l⟩ | ⟨kvs, k, b, e, ey, eb, l⟩
 ·subst ey
  obtain ⟨z, hd, vs, rel, dd⟩ := ZiP I.hok e
  obtain ⟨w', hw, rw'⟩ := ZgY.some_of (v := v) (o := valueAt vs k) (by rw [l]; exact rel.val k)
  exact wpAny_getItem_of (Zke ry) dd.mapOf hw (h w' _ (I.tok _) rw')
 ·subst ey
  cases (show u = Value.ref b from ry)
  obtain ⟨z, hd, xs, rel, dd⟩ := Zkt I.hok e
  obtain ⟨w', hw, rw'⟩ := ZgY.some_of (v := v) (o := (atKey xs k).map (·.2)) (by rw [l]; exact rel.val k)
  obtain ⟨p, hp, hp2⟩ := Option.map_eq_some_iff.mp hw
  refine wpAny_getItem_heap (tupleKind_room_in1 hu) (Zjr I.hok eb) dd hp ?_
  rw [hp2]
  exact h w' _ (I.tok _) rw'
theorem Zl1 {h' : Heap} {t' : Nat} {ob : HO} (I : Inv X pins σ H s) (mu : Mut (H a)) (hs : Heap.SameBut a s.heap h') (he : ∃ q, h'.get? a = some q) (new : ZbG X.prog X.w (upd H a ob) h' a ob) :
  Inv X pins σ (upd H a ob) { s with heap := h', toks := t' } :=
 I.write (x := a) (e := a) mu (.inl rfl) (fun b q hb z => (hs.2 b hb).trans z) he new
theorem Zlk {P : Program} {w : World} {H' : Hp} {h' : Heap} {kvs : List (Key × V)} {vs : List (Key × Value)} (z : kvs.length ≤ sizeLine) (hd : (a == sysModules) = false) (rel : KV kvs vs) (dd : h'.DictOf (Zbd P w) a vs) :
  ZbG P w H' h' a (.dK kvs) := ⟨z, hd, vs, rel, dd⟩
theorem Zmn {H' : Hp} {Q : Unit → Shared → Prop} (hu : A.units + 1 < cLine) (I : Inv X pins σ H s) (g : Zle H a y v H') (ry : RelV y u) (rv : RelV v r) (h : ∀ s', Inv X pins σ H' s' → Q () s') :
  wpAny (model X.prog X.w) A (setItem (.ref a) u r) Q E s := by
 rcases g with ⟨kvs, k, e, ey, l, eH⟩ | ⟨kvs, k, b, e, ey, eb, l, eH⟩
 ·subst ey eH
  obtain ⟨z, hd, vs, rel, dd⟩ := Zpk I.hok e
  have hz : vs.length ≤ sizeLine := by rw [← rel.length]; exact z
  have hl : (putK kvs k v).length ≤ sizeLine := by have := Zfq kvs k v; omega
  refine wpAny_setItem_pairs (hsz := hz) (Zke ry) dd fun h' dd' hs => h _ ?_
  have he : ∃ q, h'.get? a = some q := let ⟨q, _, _, hq, _⟩ := dd'; ⟨q, hq⟩
  exact Zl1 I (by rw [e]; exact True.intro) hs he (Zlk hl hd (rel.put k rv) dd')
 ·subst ey eH
  cases (show u = Value.ref b from ry)
  obtain ⟨z, hd, xs, rel, dd⟩ := ZqW I.hok e
  have hz : xs.length ≤ sizeLine := by rw [← Paired.length rel]; exact z
  have hl : (putK kvs k v).length ≤ sizeLine := by have := Zfq kvs k v; omega
  refine wpAny_setItem_heap (hsz := hz) (tupleKind_room_in1 hu) (Zjr I.hok eb) dd fun h' dd' hs => h _ ?_
  obtain ⟨q, es, ep, hq, h2, h3, h4, _, h5⟩ := dd'
  refine Zl1 I (by rw [e]; exact True.intro) hs ⟨q, hq⟩ ⟨hl, hd, _, (rel.put k eb rv).keeps fun c ys ec => ?_, q, es, ep, hq, h2, h3, h4, h5⟩
  rw [ZaB (ZiO ec e (fun z => nomatch z))]
  exact ec
end
section
variable {X : Cx} {pins : List (Addr × Obj)} {σ : St} {H : Hp} {s : Shared} {a : Addr} {kvs : List (Key × V)} {k : Key} {u : Value} {A : Around} {E : Value → Shared → Prop}
end
def Zqb (i : Expr) : Prop := ∀ ov iv, subscripted i false ov iv = operate [ov, iv] (getItem ov iv)
theorem Zog {prog : Program} {w : World} {A : Around} {E : Value → Shared → Prop} {s : Shared} {env : Env} {value slice : Expr} {pos : Pos} {T id : String} {Q : Value → Shared → Prop}
  (hl : typeLookup (.type T) "__getitem__" = pure (some (.builtin id))) (hs : Zqb slice)
  (h : wpAny (model prog w) A (eval value env) (fun o s₁ => wpAny (model prog w) A (eval slice env) (fun i s₂ => s₂.TypeIs o T ∧ wpAny (model prog w) A (getItem o i) Q E s₂) E s₁) E s) :
  wpAny (model prog w) A (eval (.Subscript value slice pos) env) Q E s := by
 refine Subscript_ (wpAny_mono h (fun o s₁ h₁ => wpAny_mono h₁ (fun i s₂ h₂ => ?_) fun _ _ x => x) fun _ _ x => x)
 obtain ⟨hT, h₂⟩ := h₂
 unfold subscriptTail
 refine wpAny_bind ?_
 rw [getitemInPython_of_ne hT.not_modules]
 refine wpAny_bind (wpAny_specialOf hT hl ?_)
 have fin : wpAny (model prog w) A (subscripted slice false o i) (fun r s₃ => wpAny (model prog w) A (letTemporaryGo value o r >>= fun _ => pure r) Q E s₃) E s₂ := by
  rw [hs o i]
  exact wpAny_operating (wpAny_mono h₂ (fun r s₃ h₃ => wpAny_bind (wpAny_letTemporaryGo (wpAny_pure h₃))) fun _ _ x => x)
 first
  | exact wpAny_pure (wpAny_bind fin)
  | exact wpAny_bind (wpAny_pure (wpAny_bind fin))
  | exact wpAny_bind fin
theorem ZjZ {X : Cx} {pins : List (Addr × Obj)} {σ : St} {H : Hp} {s : Shared} {a : Addr} {y : V} {o : Option V} (I : Inv X pins σ H s) (g : Zlv H a y o) : s.TypeIs (.ref a) "dict" := by
 rcases g with ⟨kvs, k, e, _, _⟩ | ⟨kvs, k, b, e, _, _, _⟩
 ·obtain ⟨_, _, vs, _, dd⟩ := ZiP I.hok e
  exact dd.typeIs
 ·obtain ⟨_, _, xs, _, dd⟩ := Zkt I.hok e
  exact dd.typeIs
def Zrp (td ty : TE) : TE := fun σ H Q => td σ H fun x H1 => ty σ H1 fun y H2 => ∃ a v, x = .ref a ∧ Zlv H2 a y (some v) ∧ Q v H2
def Zrc (td ty tv : TE) : TS := fun D σ H => tv σ H fun v H1 => td σ H1 fun x H2 => ty σ H2 fun y H3 => ∃ a H4, x = .ref a ∧ Zle H3 a y v H4 ∧ D.nx σ H4
section
variable {X : Cx} {o i e value : Expr} {pos pos' tpos : Pos} {td ty tv : TE}
theorem Zoj (hu : X.A.units + 1 < cLine) (ho : PE X o td) (hi : PE X i ty) (hs : Zqb i) : PE X (.Subscript o i pos) (Zrp td ty) := by
 intro pins s σ H Q I h
 refine Zog PySem.F.slot_dict_getitem.lookup hs (thn (ho pins s σ H _ I h) fun u s1 ⟨x, H1, I1, rx, q1⟩ => thn (hi pins s1 σ H1 _ I1 q1) fun iv s2 ⟨y, H2, I2, ry, a, v, ex, g, q2⟩ => ?_)
 subst ex
 obtain rfl : u = Value.ref a := rx
 exact ⟨ZjZ I2 g, Zmp hu I2 g ry fun w' s3 I3 rw' => ⟨v, H2, I3, rw', q2⟩⟩
theorem ZoR (hu : X.A.units + 1 < cLine) (ho : PE X o td) (hi : PE X i ty) (hv : PE X value tv) (hs : swapsWith value (some (.Subscript o i pos')) pos.line X.env = pure false) :
  PS X (.Assign [.Subscript o i pos'] value pos) (Zrc td ty tv) := by
 intro pins s σ H D I h
 refine wpAny_Assign_Subscript (thn (hv pins s σ H _ I h) fun r s1 ⟨v, H1, I1, rv, q1⟩ => thn (ho pins s1 σ H1 _ I1 q1) fun u s2 ⟨x, H2, I2, rx, q2⟩ => thn (hi pins s2 σ H2 _ I2 q2) fun iv s3 ⟨y, H3, I3, ry, a, H4, ex, g, q3⟩ => ?_) hs
 subst ex
 obtain rfl : u = Value.ref a := rx
 exact Zmn hu I3 g ry rv fun s4 I4 => ⟨σ, H4, I4, q3⟩
end
theorem ZmY {P : Program} {w : World} {H : Hp} (h : Heap) (hb : sysModules < h.objs.size) : ZbG P w H (h.push { cls := .type "dict", data := .dict #[] }) h.objs.size (.dK []) :=
 ⟨Nat.zero_le _, beq_eq_false_iff_ne.mpr (Ne.symm (Nat.ne_of_lt hb)), [], .nil, Heap.DictOf.new h⟩
def ZpK : TE := fun _ H Q => ∀ p, H p = none → Q (.ref p) (upd H p (.dK []))
section
variable {X : Cx} {pos : Pos}
theorem ZmV : PE X (.Dict [] [] pos) ZpK := fun pins s σ H Q I h =>
 wpAny_Dict_empty ⟨.ref s.heap.objs.size, _, I.laid (a := s.heap.objs.size) (o := .dK []) (t' := s.toks) (fun _ _ q => Heap.get?_push_of_some _ q) (Nat.le_refl _) (ZmY s.heap I.big), rfl, h _ (I.hok.fresh (Nat.le_refl _))⟩
end
def Zh7 (kvs more : List (Key × V)) : List (Key × V) := more.foldl (fun acc kv => putK acc kv.1 kv.2) kvs
theorem KV.merge : ∀ {more : List (Key × V)} {rs : List (Key × Value)} {kvs : List (Key × V)} {vs : List (Key × Value)}, KV more rs → KV kvs vs → KV (Zh7 kvs more) (merged vs rs) := by
 intro more rs kvs vs r
 unfold KV at r
 induction r generalizing kvs vs with
 | nil => intro q; exact q
 | @cons p q ps qs h t ih =>
  intro r0
  have e : KV (putK kvs p.1 p.2) (stored vs q.1 q.2) := by
   have := r0.put p.1 h.2
   rw [← h.1]; exact this
  exact ih e
theorem Zf3 : ∀ (more kvs : List (Key × V)), (Zh7 kvs more).length ≤ kvs.length + more.length
 | [], kvs => by show kvs.length ≤ kvs.length + 0; omega
 | p :: r, kvs => by
  have h1 := Zf3 r (putK kvs p.1 p.2)
  have h2 := Zfq kvs p.1 p.2
  show (Zh7 (putK kvs p.1 p.2) r).length ≤ _
  rw [List.length_cons]; omega
structure M1 (X : Cx) (o : Expr) (m : Str) (apos : Pos) (e : Expr) (cpos : Pos) : Prop where
 base : attributeBase o m X.env (eval o X.env) = eval o X.env
 few : ((backTo cpos (starEach [e] X.env)).all (fun x => !x.1) && (backToKw cpos (keywordEach [] X.env)).all (fun x => x.1.isSome)
  && decide (([e] : List Expr).length + ([] : List Keyword).length + (if ([] : List Keyword).isEmpty then 0 else 1) < 30)) = true
 line : (apos.endLine == cpos.line) = true
 trees : backTo cpos (starEach [e] X.env) = [(false, eval e X.env)]
structure M2 (X : Cx) (o : Expr) (m : Str) (apos : Pos) (e f : Expr) (cpos : Pos) : Prop where
 base : attributeBase o m X.env (eval o X.env) = eval o X.env
 few : ((backTo cpos (starEach [e, f] X.env)).all (fun x => !x.1) && (backToKw cpos (keywordEach [] X.env)).all (fun x => x.1.isSome)
  && decide (([e, f] : List Expr).length + ([] : List Keyword).length + (if ([] : List Keyword).isEmpty then 0 else 1) < 30)) = true
 line : (apos.endLine == cpos.line) = true
 trees : backTo cpos (starEach [e, f] X.env) = [(false, eval e X.env), (false, eval f X.env)]
def IsD (H : Hp) (a : Addr) : Prop := (∃ kvs, Rd H a (.dK kvs)) ∨ ∃ kvs, Rd H a (.dT kvs)
theorem ZpG {X : Cx} {pins : List (Addr × Obj)} {σ : St} {H : Hp} {s : Shared} {a : Addr} (I : Inv X pins σ H s) (d : IsD H a) :
  s.TypeIs (.ref a) "dict" ∧ (∀ b, Value.ref a = .ref b → ∃ ob, s.heap.get? b = some ob ∧ ob.dict = none) ∧ (a == sysModules) = false := by
 rcases d with ⟨kvs, e⟩ | ⟨kvs, e⟩
 ·obtain ⟨_, hd, vs, _, dd⟩ := ZiP I.hok e
  refine ⟨dd.typeIs, fun b q => ?_, hd⟩
  cases q
  obtain ⟨ob, _, _, h1, h2, _⟩ := dd
  exact ⟨ob, h1, h2.2.1⟩
 ·obtain ⟨_, hd, xs, _, dd⟩ := Zkt I.hok e
  refine ⟨dd.typeIs, fun b q => ?_, hd⟩
  cases q
  obtain ⟨ob, _, _, h1, h2, _⟩ := dd
  exact ⟨ob, h1, h2.2.1⟩
section
variable {X : Cx} {pins : List (Addr × Obj)} {σ : St} {H : Hp} {s : Shared} {a : Addr} {y d : V} {u r : Value} {o : Option V} {A : Around} {E : Value → Shared → Prop}
theorem Zpl {Q : Value → Shared → Prop} (hu : A.units + 1 < cLine) (I : Inv X pins σ H s) (g : Zlv H a y o) (ry : RelV y u) (rd : RelV d r) (h : ∀ w' s', Inv X pins σ H s' → RelV (o.getD d) w' → Q w' s') :
  wpAny (model X.prog X.w) A (call (.builtin "dict.get") [.ref a, u, r]) Q E s := by
 rcases g with ⟨kvs, k, e, ey, l⟩ | ⟨kvs, k, b, e, ey, eb, l⟩
 ·subst ey
  obtain ⟨z, hd, vs, rel, dd⟩ := ZiP I.hok e
  refine call_meetsIn PySem.F.slot_dict_get dd.typeIs PySem.F.entry_dict_get (PySem.F.args_dict_get_3 _ _ _) (meets_dict_get_default (Zbd X.prog X.w) a (Zke ry) hd r) ⟨_, dd.mapOf, h _ _ (I.tok _) ?_⟩
  rw [l]
  exact (rel.val k).getD rd
 ·subst ey
  cases (show u = Value.ref b from ry)
  obtain ⟨z, hd, xs, rel, dd⟩ := Zkt I.hok e
  refine call_meetsIn PySem.F.slot_dict_get dd.typeIs PySem.F.entry_dict_get (PySem.F.args_dict_get_3 _ _ _) (meetsH_dict_get_default (tupleKind (Zbd X.prog X.w)) a b hd r) ⟨tupleKind_room_in1 hu, k, xs, Zjr I.hok eb, dd, h _ _ (I.tok _) ?_⟩
  rw [l]
  exact (rel.val k).getD rd
end
def Zp8 (td ty tx : TE) : TE := fun σ H Q => td σ H fun x H1 => ∃ a, x = .ref a ∧ IsD H1 a ∧ ty σ H1 fun y H2 => tx σ H2 fun z H3 => ∃ o, Zlv H3 a y o ∧ Q (o.getD z) H3
section
variable {X : Cx} {o e f : Expr} {apos cpos : Pos} {td ty tx : TE}
theorem Zn9 (hu : X.A.units + 1 < cLine) (ho : PE X o td) (he : PE X e ty) (hf : PE X f tx) (m : M2 X o "get" apos e f cpos) : PE X (.Call (.Attribute o "get" apos) [e, f] [] cpos) (Zp8 td ty tx) := by
 intro pins s σ H Q I h
 refine wpAny_Call_method m.base m.few m.line PySem.F.plainAttrs_dict PySem.F.slot_dict_get PySem.F.type_dict_get (thn (ho pins s σ H _ I h) fun u s1 ⟨x, H1, I1, rx, a, ex, d, q1⟩ => ?_)
 subst ex
 obtain rfl : u = Value.ref a := rx
 obtain ⟨t1, t2, _⟩ := ZpG I1 d
 refine ⟨t1, t2, ?_⟩
 rw [m.trees]
 refine Calls.callWith_builtin rfl (Calls.evalArgs_plain (Calls.spliced_cons (thn (he pins s1 σ H1 _ I1 q1) fun iv s2 ⟨y, H2, I2, ry, q2⟩ =>
  Calls.spliced_cons (thn (hf pins s2 σ H2 _ I2 q2) fun fv s3 ⟨z, H3, I3, rz, ov, g, q3⟩ => Calls.spliced_nil ?_))))
 exact Zpl hu I3 g ry rz fun w' s4 I4 rw' => ⟨_, H3, I4, rw', q3⟩
end
section
variable {X : Cx} {pins : List (Addr × Obj)} {σ : St} {H : Hp} {s : Shared} {a : Addr} {kvs : List (Key × V)} {A : Around} {E : Value → Shared → Prop}
theorem Zn5 {Q : Value → Shared → Prop} (I : Inv X pins σ H s) (e : Rd H a (.dK kvs)) (h : ∀ p s', H p = none → Inv X pins σ (upd H p (.dK kvs)) s' → Q (.ref p) s') : wpAny (model X.prog X.w) A (call (.type "dict") [.ref a]) Q E s := by
 obtain ⟨z, hd, vs, rel, dd⟩ := ZiP I.hok e
 refine kt_call_dict hd dd (by rw [← rel.length]; exact z) fun h' dd' hs => ?_
 refine h _ _ (I.hok.fresh (Nat.le_refl _)) (I.laid (a := s.heap.objs.size) (o := .dK kvs) (t' := s.toks) (fun b q hq => ?_) (Nat.le_refl _) (Zlk z (beq_eq_false_iff_ne.mpr (Ne.symm (Nat.ne_of_lt I.big))) rel dd'))
 exact (hs.2 b (Nat.ne_of_lt (Heap.lt_size hq))).trans (Heap.get?_push_of_some _ hq)
end
section
variable {X : Cx} {pins : List (Addr × Obj)} {σ : St} {H : Hp} {s : Shared} {a : Addr} {y : V} {u : Value} {A : Around} {E : Value → Shared → Prop}
end
end L2
namespace L3
open PySem
noncomputable section
inductive D where
 | non | bl (b : Bool) | int (i : Int) | str (x : List Nat) | tup (ds : List D) | scr (ds : List D) | ref (n : Nat)
 deriving Inhabited
abbrev ZbH := Sum Int (List Nat)
inductive MO where
 | lst (xs : List D) | dct (kvs : List (ZbH × D)) | fdct (kvs : List (ZbH × D))
 deriving Inhabited
abbrev Store := List MO
structure X3 where
 cls : List Nat
 arg : D
inductive R3 (α : Type) where
 | ok (a : α) (M : Store) | exc (x : X3) (M : Store) | bad
@[simp] def R3.bind {α β : Type} (r : R3 α) (k : α → Store → R3 β) : R3 β := match r with
 | .ok a M => k a M
 | .exc x M => .exc x M
 | .bad => .bad
theorem R3.bind_ok {α β : Type} (a : α) (M : Store) (k : α → Store → R3 β) : (R3.ok a M).bind k = k a M := rfl
def Zay : Nat → D → Bool
 | _, .non => true | _, .bl _ => true | _, .int _ => true | _, .str _ => true
 | n + 1, .tup ds => ds.all (Zay n)
 | _, _ => false
abbrev DEEP : Nat := 60
mutual
def deq : D → D → Bool
 | .non, .non => true
 | .bl a, .bl b => a == b
 | .int a, .int b => a == b
 | .str a, .str b => a == b
 | .tup a, .tup b => Zcj a b
 | .bl a, .int b => (if a then 1 else 0) == b
 | .int a, .bl b => a == (if b then 1 else 0)
 | _, _ => false
def Zcj : List D → List D → Bool
 | [], [] => true
 | a :: x, b :: y => deq a b && Zcj x y
 | _, _ => false
end
mutual
def below (n : Nat) : D → Bool
 | .tup ds => belowL n ds
 | .scr ds => belowL n ds
 | .ref k => k < n
 | .non => true | .bl _ => true | .int _ => true | .str _ => true
def belowL (n : Nat) : List D → Bool
 | [] => true
 | d :: ds => below n d && belowL n ds
end
mutual
def same : D → D → Bool
 | .non, .non => true
 | .bl a, .bl b => a == b
 | .int a, .int b => a == b
 | .str a, .str b => a == b
 | .tup a, .tup b => ZhN a b
 | .scr a, .scr b => ZhN a b
 | .ref a, .ref b => a == b
 | _, _ => false
def ZhN : List D → List D → Bool
 | [], [] => true
 | a :: x, b :: y => same a b && ZhN x y
 | _, _ => false
end
mutual
theorem same_iff : ∀ {a b : D}, same a b = true ↔ a = b
 | .non, b => by cases b <;> simp [same]
 | .bl a, b => by cases b <;> simp [same]
 | .int a, b => by cases b <;> simp [same]
 | .str a, b => by cases b <;> simp [same]
 | .tup a, b => by cases b <;> simp [same, ZgR (x := a)]
 | .scr a, b => by cases b <;> simp [same, ZgR (x := a)]
 | .ref a, b => by cases b <;> simp [same]
theorem ZgR : ∀ {x y : List D}, ZhN x y = true ↔ x = y
 | [], y => by cases y <;> simp [ZhN]
 | a :: x, y => by
  cases y with
  | nil => simp [ZhN]
  | cons b y => simp [ZhN, same_iff (a := a), ZgR (x := x)]
end
instance : DecidableEq D := fun a b => decidable_of_iff (same a b = true) same_iff
instance : DecidableEq MO := fun a b => match a, b with
 | .lst x, .lst y => if h : x = y then isTrue (by rw [h]) else isFalse (by intro e; cases e; exact h rfl)
 | .dct x, .dct y => if h : x = y then isTrue (by rw [h]) else isFalse (by intro e; cases e; exact h rfl)
 | .fdct x, .fdct y => if h : x = y then isTrue (by rw [h]) else isFalse (by intro e; cases e; exact h rfl)
 | .lst _, .dct _ => isFalse (by intro e; cases e)
 | .lst _, .fdct _ => isFalse (by intro e; cases e)
 | .dct _, .lst _ => isFalse (by intro e; cases e)
 | .dct _, .fdct _ => isFalse (by intro e; cases e)
 | .fdct _, .lst _ => isFalse (by intro e; cases e)
 | .fdct _, .dct _ => isFalse (by intro e; cases e)
@[simp] abbrev SZ : Nat := 1000000
abbrev ZaO := List (Option D)
abbrev E3 := ZaO → Store → R3 D
abbrev EL3 := ZaO → Store → R3 (List D)
abbrev F3 := List D → Store → R3 D
inductive O3 where
 | nx (env : ZaO) (M : Store) | rt (d : D) (M : Store) | bk (env : ZaO) (M : Store) | ct (env : ZaO) (M : Store) | exc (x : X3) (M : Store) | bad
abbrev S3 := ZaO → Store → O3
@[simp] def Za (i : Nat) : E3 := fun env M => match env[i]? with
 | some (some d) => .ok d M
 | _ => .bad
@[simp] def eC (d : D) : E3 := fun _ M => .ok d M
@[simp] def e1 (op : D → Store → R3 D) (f : E3) : E3 := fun env M => (f env M).bind op
@[simp] def e2 (op : D → D → Store → R3 D) (f g : E3) : E3 := fun env M => (f env M).bind fun a M1 => (g env M1).bind fun b M2 => op a b M2
@[simp] def Zj : EL3 := fun _ M => .ok [] M
@[simp] def Zb (f : E3) (g : EL3) : EL3 := fun env M => (f env M).bind fun a M1 => (g env M1).bind fun b M2 => .ok (a :: b) M2
@[simp] def alloc (o : MO) (M : Store) : R3 D := .ok (.ref M.length) (M ++ [o])
section
local instance (priority := 100000) clP1 (p : Prop) : Decidable p := Classical.propDecidable p
@[simp] def ZaH (g : EL3) : E3 := fun env M => (g env M).bind fun ds M1 => if ds.length ≤ SZ then .ok (.tup ds) M1 else .bad
end
section
local instance (priority := 100000) clP2 (p : Prop) : Decidable p := Classical.propDecidable p
@[simp] def Zca (g : EL3) : E3 := fun env M => (g env M).bind fun ds M1 => if ds.length ≤ SZ then alloc (.lst ds) M1 else .bad
end
@[simp] def ZdB (f g : E3) : E3 := fun env M => (f env M).bind fun a M1 => match a with
 | .bl true => g env M1
 | .bl false => .ok (.bl false) M1
 | _ => .bad
@[simp] def eOr (f g : E3) : E3 := fun env M => (f env M).bind fun a M1 => match a with
 | .bl false => g env M1
 | .bl true => .ok (.bl true) M1
 | _ => .bad
@[simp] def Zb5 (a : D) (M : Store) : R3 D := match a with
 | .bl b => .ok (.bl (!b)) M
 | _ => .bad
@[simp] def eIf (c f g : E3) : E3 := fun env M => (c env M).bind fun a M1 => match a with
 | .bl true => f env M1
 | .bl false => g env M1
 | _ => .bad
@[simp] def Zae (F : F3) (g : EL3) : E3 := fun env M => (g env M).bind fun ds M1 => F ds M1
section
local instance (priority := 100000) clP3 (p : Prop) : Decidable p := Classical.propDecidable p
@[simp] def Zaf (a b : D) (M : Store) : R3 D := match a, b with
 | .int i, .int j => .ok (.int (i + j)) M
 | .str x, .str y => if x.length + y.length ≤ SZ then .ok (.str (x ++ y)) M else .bad
 | .tup x, .tup y => if x.length + y.length ≤ SZ then .ok (.tup (x ++ y)) M else .bad
 | .ref n, .ref m => match M[n]?, M[m]? with
  | some (.lst x), some (.lst y) => if x.length + y.length ≤ SZ then alloc (.lst (x ++ y)) M else .bad
  | _, _ => .bad
 | _, _ => .bad
end
@[simp] def ZbU (a b : D) (M : Store) : R3 D := match a, b with
 | .int i, .int j => .ok (.int (i - j)) M
 | _, _ => .bad
section
local instance (priority := 100000) clP4 (p : Prop) : Decidable p := Classical.propDecidable p
def ZaL (i j : Int) : Bool := (decide (-(2 ^ 64) < i) && decide (i < 2 ^ 64)) || (decide (-(2 ^ 64) < j) && decide (j < 2 ^ 64))
end
section
local instance (priority := 100000) clP5 (p : Prop) : Decidable p := Classical.propDecidable p
@[simp] def Zdc (a b : D) (M : Store) : R3 D := match a, b with
 | .int i, .int j => if ZaL i j then .ok (.int (i * j)) M else .bad
 | .str x, .int k => if x.length * k.toNat ≤ SZ ∧ k < 1000000 ∧ -1000000 < k then .ok (.str (List.replicate k.toNat x).flatten) M else .bad
 | .ref n, .int k => match M[n]? with
  | some (.lst x) => if x.length * k.toNat ≤ SZ ∧ k < 1000000 ∧ -1000000 < k then alloc (.lst (List.replicate k.toNat x).flatten) M else .bad
  | _ => .bad
 | _, _ => .bad
end
@[simp] def ZaJ (a b : D) (M : Store) : R3 D := match a, b with
 | .int i, .int j => if 0 < j then .ok (.int (i % j)) M else .bad
 | _, _ => .bad
section
local instance (priority := 100000) clP6 (p : Prop) : Decidable p := Classical.propDecidable p
@[simp] def ZaS (a b : D) (M : Store) : R3 D := match a, b with
 | .int i, .int j => if 0 < j ∧ j < 1073741824 then .ok (.int (i / j)) M else .bad
 | _, _ => .bad
end
@[simp] def ZiV (a b : D) (M : Store) : R3 D := match a, b with
 | .int i, .int j => if 0 ≤ j ∧ j ≤ 1000 ∧ i.natAbs < 1000 then .ok (.int (i ^ j.toNat)) M else .bad
 | _, _ => .bad
@[simp] def ZdE (a : D) (M : Store) : R3 D := match a with
 | .int i => .ok (.int (-i)) M
 | _ => .bad
@[simp] def Zh4 (a b : D) (M : Store) : R3 D := match a, b with
 | .int i, .int j => .ok (.bl (decide (i < j))) M
 | _, _ => .bad
@[simp] def ZjQ (a b : D) (M : Store) : R3 D := match a, b with
 | .int i, .int j => .ok (.bl (decide (i ≤ j))) M
 | _, _ => .bad
@[simp] def ZgJ (a b : D) (M : Store) : R3 D := match a, b with
 | .int i, .int j => .ok (.bl (decide (j < i))) M
 | _, _ => .bad
@[simp] def ZhY (a b : D) (M : Store) : R3 D := match a, b with
 | .int i, .int j => .ok (.bl (decide (j ≤ i))) M
 | _, _ => .bad
@[simp] def eqD (a b : D) (M : Store) : Option Bool := match a, b with
 | .ref n, .ref m => match M[n]?, M[m]? with
  | some (.lst x), some (.lst y) => if x.all (Zay DEEP) && y.all (Zay DEEP) then some (Zcj x y) else none
  | _, _ => none
 | .int i, .int j => some (decide (i = j))
 | .str x, .str y => some (decide (x = y))
 | .bl x, .bl y => some (decide (x = y))
 | .tup x, .tup y => if x.all (Zay DEEP) && y.all (Zay DEEP) then some (Zcj x y) else none
 | _, _ => none
@[simp] def Zaq (a b : D) (M : Store) : R3 D := match eqD a b M with
 | some r => .ok (.bl r) M
 | none => .bad
@[simp] def Zb1 (a b : D) (M : Store) : R3 D := match eqD a b M with
 | some r => .ok (.bl (!r)) M
 | none => .bad
@[simp] def Zj9 (a b : D) (M : Store) : R3 D := match b with
 | .non => .ok (.bl (decide (a = .non))) M
 | _ => .bad
@[simp] def Zdv (a b : D) (M : Store) : R3 D := match b with
 | .non => .ok (.bl (!decide (a = .non))) M
 | _ => .bad
def ZaV : D → Bool
 | .non => true | .bl _ => true | .int _ => true | .str _ => true | _ => false
@[simp] def inD (a b : D) : Option Bool := match a, b with
 | .str [c], .str y => some (decide (c ∈ y))
 | x, .tup ys => if ZaV x && ys.all ZaV then some (ys.any fun y => deq y x) else none
 | _, _ => none
@[simp] def Zlc (a b : D) (M : Store) : R3 D := match inD a b with
 | some r => .ok (.bl r) M
 | none => .bad
@[simp] def ZrE (a b : D) (M : Store) : R3 D := match inD a b with
 | some r => .ok (.bl (!r)) M
 | none => .bad
def ixD (n : Nat) (i : Int) : Option Nat := if 0 ≤ i then (if i < n then some i.toNat else none) else if -(n : Int) ≤ i then some (i + n).toNat else none
def ZbN {α : Type} (xs : List α) (i : Int) : Option α := (ixD xs.length i).bind fun j => xs[j]?
@[simp] def Zf7 : D → Option ZbH
 | .int i => some (.inl i)
 | .str x => some (.inr x)
 | _ => none
def ZcZ : List (ZbH × D) → ZbH → Option D
 | [], _ => none
 | (k, v) :: r, x => if k = x then some v else ZcZ r x
section
local instance (priority := 100000) clP7 (p : Prop) : Decidable p := Classical.propDecidable p
@[simp] def Ze (a b : D) (M : Store) : R3 D := match a, b with
 | .tup ds, .int i => match ZbN ds i with
  | some d => .ok d M
  | none => .bad
 | .scr ds, .int i => match ZbN ds i with
  | some d => .ok d M
  | none => .bad
 | .str x, .int i => match ZbN x i with
  | some c => if x.length ≤ SZ then .ok (.str [c]) M else .bad
  | none => .bad
 | .ref n, .int i => match M[n]? with
  | some (.lst ds) => match ZbN ds i with
   | some d => .ok d M
   | none => .bad
  | _ => .bad
 | _, _ => .bad
end
@[simp] def Zd1 : Option MO → Option (List (ZbH × D))
 | some (.dct kvs) => some kvs
 | some (.fdct kvs) => some kvs
 | _ => none
@[simp] def ZdQ (a b : D) (M : Store) : R3 D := match a with
 | .ref n => match Zd1 M[n]?, Zf7 b with
  | some kvs, some x => match ZcZ kvs x with
   | some d => .ok d M
   | none => .bad
  | _, _ => .bad
 | _ => .bad
def sIx (n d : Nat) : Option Int → Nat
 | none => d
 | some v => if v < 0 then (v + (n : Int)).toNat else min v.toNat n
def cutD {α : Type} (xs : List α) (lo hi : Option Int) : List α := (xs.drop (sIx xs.length 0 lo)).take (sIx xs.length xs.length hi - sIx xs.length 0 lo)
abbrev EO3 := ZaO → Store → R3 (Option Int)
@[simp] def ZaD : EO3 := fun _ M => .ok none M
@[simp] def ZaE (f : E3) : EO3 := fun env M => (f env M).bind fun a M1 => match a with
 | .int i => .ok (some i) M1
 | _ => .bad
section
local instance (priority := 100000) clP8 (p : Prop) : Decidable p := Classical.propDecidable p
@[simp] def Zfj (a : D) (lo hi : Option Int) (M : Store) : R3 D := match a with
 | .tup ds => .ok (.tup (cutD ds lo hi)) M
 | .scr ds => alloc (.lst (cutD ds lo hi)) M
 | .str x => if x.length ≤ SZ then .ok (.str (cutD x lo hi)) M else .bad
 | .ref n => match M[n]? with
  | some (.lst ds) => alloc (.lst (cutD ds lo hi)) M
  | _ => .bad
 | _ => .bad
end
@[simp] def eSl (f : E3) (lo hi : EO3) : E3 := fun env M => (f env M).bind fun a M1 => (lo env M1).bind fun l M2 => (hi env M2).bind fun h M3 => Zfj a l h M3
section
local instance (priority := 100000) clP9 (p : Prop) : Decidable p := Classical.propDecidable p
@[simp] def ZaR (ds : List D) (M : Store) : R3 D := match ds with
 | [.tup x] => .ok (.int x.length) M
 | [.scr x] => .ok (.int x.length) M
 | [.str x] => if x.length ≤ SZ then .ok (.int x.length) M else .bad
 | [.ref n] => match M[n]? with
  | some (.lst x) => .ok (.int x.length) M
  | _ => .bad
 | _ => .bad
end
@[simp] def ZaY (ds : List D) (M : Store) : R3 D := match ds with
 | [.tup x] => .ok (.tup x) M
 | [.scr x] => .ok (.tup x) M
 | [.ref n] => match M[n]? with
  | some (.lst x) => .ok (.tup x) M
  | _ => .bad
 | _ => .bad
@[simp] def Zfh (ds : List D) (M : Store) : R3 D := match ds with
 | [.tup x] => alloc (.lst x) M
 | [.scr x] => alloc (.lst x) M
 | [.ref n] => match M[n]? with
  | some (.lst x) => alloc (.lst x) M
  | _ => .bad
 | _ => .bad
inductive Ty3 where
 | int | bool | str | list | tuple
 deriving DecidableEq
@[simp] def Zhk (T : Ty3) (d : D) (M : Store) : Option Bool := match d with
 | .non => some false
 | .bl _ => some (T == .bool || T == .int)
 | .int _ => some (T == .int)
 | .str _ => some (T == .str)
 | .tup _ => some (T == .tuple)
 | .scr _ => none
 | .ref n => match M[n]? with
  | some (.lst _) => some (T == .list)
  | some (.dct _) => some false
  | some (.fdct _) => none
  | none => none
@[simp] def Zga (T : Ty3) (d : D) (M : Store) : R3 D := match Zhk T d M with
 | some b => .ok (.bl b) M
 | none => .bad
def isB : D → Bool
 | .bl _ => true
 | _ => false
def isT : D → Bool
 | .bl b => b
 | _ => false
def allB (l : List D) : Option Bool := if l.all isB then some (l.all isT) else none
@[simp] def ZsU (ds : List D) (M : Store) : R3 D := match ds with
 | [.ref n] => match M[n]? with
  | some (.lst x) => match allB x with
   | some b => .ok (.bl b) M
   | none => .bad
  | _ => .bad
 | _ => .bad
@[simp] def Zo7 (o : D) (ds : List D) (M : Store) : R3 D := match o, ds with
 | .str x, [.str y] => if x.length ≤ SZ ∧ y.length ≤ SZ then .ok (.bl (y.isPrefixOf x)) M else .bad
 | _, _ => .bad
section
local instance (priority := 100000) clP11 (p : Prop) : Decidable p := Classical.propDecidable p
@[simp] def Zb8 (o : D) (ds : List D) (M : Store) : R3 D := match o, ds with
 | .ref n, [d] => match M[n]? with
  | some (.lst x) => if x.length < SZ then .ok .non (M.set n (.lst (x ++ [d]))) else .bad
  | _ => .bad
 | _, _ => .bad
end
section
local instance (priority := 100000) clPp (p : Prop) : Decidable p := Classical.propDecidable p
@[simp] def ZsS (o : D) (ds : List D) (M : Store) : R3 D := match o, ds with
 | .ref n, [.int i] => match M[n]? with
  | some (.lst x) => if -1000000 ≤ i ∧ i ≤ 1000000 then match ixD x.length i with
   | some k => match x[k]? with
    | some d => .ok d (M.set n (.lst (x.eraseIdx k)))
    | none => .bad
   | none => .bad
   else .bad
  | _ => .bad
 | .ref n, [] => match M[n]? with
  | some (.lst x) => match x[x.length - 1]? with
   | some d => .ok d (M.set n (.lst x.dropLast))
   | none => .bad
  | _ => .bad
 | _, _ => .bad
end
@[simp] def tyS (a : D) (_ : Store) : Bool := match a with
 | .str _ => true
 | _ => false
@[simp] def tyL (a : D) (M : Store) : Bool := match a with
 | .ref n => match M[n]? with
  | some (.lst _) => true
  | _ => false
 | _ => false
@[simp] def Zkf (a : D) (M : Store) : Bool := match a with
 | .ref n => (Zd1 M[n]?).isSome
 | _ => false
@[simp] def ZeK (ty : D → Store → Bool) (m : D → List D → Store → R3 D) (o : E3) (g : EL3) : E3 := fun env M => (o env M).bind fun a M1 => if ty a M1 then (g env M1).bind fun ds M2 => m a ds M2 else .bad
@[simp] def Zaj (b : List D → Store → R3 D) (g : EL3) : E3 := fun env M => (g env M).bind fun ds M1 => b ds M1
def putD (k : ZbH) (v : D) (kvs : List (ZbH × D)) : List (ZbH × D) :=
 if (kvs.any fun p => decide (p.1 = k)) = true then kvs.map (fun p => if p.1 = k then (p.1, v) else p) else kvs ++ [(k, v)]
abbrev EP3 := ZaO → Store → R3 (List (ZbH × D))
@[simp] def ZsG : EP3 := fun _ M => .ok [] M
@[simp] def Zsw (f g : E3) (r : EP3) : EP3 := fun env M => (f env M).bind fun a M1 => (g env M1).bind fun b M2 => match Zf7 a with
 | some k => (r env M2).bind fun l M3 => .ok ((k, b) :: l) M3
 | none => .bad
def dictOf (l : List (ZbH × D)) : List (ZbH × D) := l.foldl (fun acc p => putD p.1 p.2 acc) []
@[simp] def ZsM (r : EP3) : E3 := fun env M => (r env (M ++ [.dct []])).bind fun l M1 => match M1[M.length]? with
 | some (.dct []) => if l.length ≤ 15 then .ok (.ref M.length) (M1.set M.length (.dct (dictOf l))) else .bad
 | _ => .bad
@[simp] def ZlC : E3 := fun _ M => alloc (.dct []) M
@[simp] def e3 (op : D → D → D → Store → R3 D) (f g h : E3) : E3 := fun env M => (f env M).bind fun a M1 => (g env M1).bind fun b M2 => (h env M2).bind fun c M3 => op a b c M3
section
local instance (priority := 100000) clP12 (p : Prop) : Decidable p := Classical.propDecidable p
@[simp] def Znh (v a b : D) (M : Store) : R3 D := match a with
 | .ref n => match M[n]?, Zf7 b with
  | some (.dct kvs), some k => if kvs.length < SZ then .ok .non (M.set n (.dct (putD k v kvs))) else .bad
  | _, _ => .bad
 | _ => .bad
end
@[simp] def ZhI (v a b : D) (M : Store) : R3 D := match a, b with
 | .ref n, .int i => match M[n]? with
  | some (.lst xs) => match ixD xs.length i with
   | some j => .ok .non (M.set n (.lst (xs.set j v)))
   | none => .bad
  | _ => .bad
 | _, _ => .bad
@[simp] def ZlA (o : D) (ds : List D) (M : Store) : R3 D := match o, ds with
 | .ref n, [b] => match Zd1 M[n]?, Zf7 b with
  | some kvs, some k => .ok ((ZcZ kvs k).getD .non) M
  | _, _ => .bad
 | .ref n, [b, d] => match Zd1 M[n]?, Zf7 b with
  | some kvs, some k => .ok ((ZcZ kvs k).getD d) M
  | _, _ => .bad
 | _, _ => .bad
def ZdK : List D → Option (List (ZbH × D))
 | [] => some []
 | .tup [a, b] :: r => match Zf7 a with
  | some k => (ZdK r).map fun l => (k, b) :: l
  | none => none
 | _ :: _ => none
section
local instance (priority := 100000) clP13 (p : Prop) : Decidable p := Classical.propDecidable p
@[simp] def Zhb (ds : List D) (M : Store) : R3 D := match ds with
 | [.ref n] => match Zd1 M[n]? with
  | some kvs => alloc (.dct kvs) M
  | none => .bad
 | [.tup x] => match ZdK x with
  | some l => if l.length ≤ 100000 then alloc (.dct (dictOf l)) M else .bad
  | none => .bad
 | _ => .bad
end
@[simp] def Zry (ds : List D) (M : Store) : R3 D := match ds with
 | [.int i] => .ok (.int i) M
 | [.bl b] => .ok (.int (if b then 1 else 0)) M
 | _ => .bad
def ltT : List D → List D → Option Bool
 | [], [] => some false
 | [], _ :: _ => some true
 | _ :: _, [] => some false
 | .int i :: x, .int j :: y => if i = j then ltT x y else some (decide (i < j))
 | .str a :: x, .str b :: y => if a = b then ltT x y else some (decide (a < b))
 | _ :: _, _ :: _ => none
def ltD : D → D → Option Bool
 | .tup a, .tup b => ltT a b
 | .int i, .int j => some (decide (i < j))
 | _, _ => none
def leD (a b : D) : Prop := ltD b a = some false
def Zie (x y : List D) : Prop := y.Perm x ∧ y.Pairwise leD
def ZdT : D → Bool
 | .tup (.int _ :: _) => true
 | _ => false
def Zgb : D → Bool
 | .int _ => true
 | _ => false
structure Zld (x : List D) : Prop where
 len : x.length < 64
 kind : x.all ZdT = true ∨ x.all Zgb = true
 cmp : ∀ a ∈ x, ∀ b ∈ x, (ltD a b).isSome = true
section
local instance (priority := 100000) clPs (p : Prop) : Decidable p := Classical.propDecidable p
def ZjW (x : List D) : List D := if h : ∃ y, Zie x y then h.choose else x
@[simp] def Zbv (ds : List D) (M : Store) : R3 D := match ds with
 | [.ref n] => match M[n]? with
  | some (.lst x) => if Zld x then alloc (.lst (ZjW x)) M else .bad
  | _ => .bad
 | _ => .bad
end
def ZnP : List D → Option (List Int)
 | [] => some []
 | .int i :: r => (ZnP r).map (i :: ·)
 | _ :: _ => none
@[simp] def ZsO (ds : List D) (M : Store) : R3 D := match ds with
 | [.ref n] => match M[n]? with
  | some (.lst x) => match ZnP x with
   | some ns => .ok (.int ns.sum) M
   | none => .bad
  | _ => .bad
 | [.scr x] => match ZnP x with
  | some ns => .ok (.int ns.sum) M
  | none => .bad
 | _ => .bad
def Zw : S3 := fun env M => .nx env M
def Zr (f g : S3) : S3 := fun env M => match f env M with
 | .nx env' M' => g env' M'
 | o => o
def sIf (c : E3) (f g : S3) : S3 := fun env M => match c env M with
 | .ok (.bl true) M1 => f env M1
 | .ok (.bl false) M1 => g env M1
 | .exc x M1 => .exc x M1
 | _ => .bad
def Zz (f : E3) : S3 := fun env M => match f env M with
 | .ok d M1 => .rt d M1
 | .exc x M1 => .exc x M1
 | .bad => .bad
def Zal (f : E3) : S3 := fun env M => match f env M with
 | .ok _ M1 => .nx env M1
 | .exc x M1 => .exc x M1
 | .bad => .bad
def Zac (i : Nat) (f : E3) : S3 := fun env M => match f env M with
 | .ok d M1 => .nx (env.set i (some d)) M1
 | .exc x M1 => .exc x M1
 | .bad => .bad
def Znw (o i f : E3) : S3 := Zal (e3 Znh f o i)
def Zd9 (o i f : E3) : S3 := Zal (e3 ZhI f o i)
abbrev G3 := D → ZaO → Option ZaO
@[simp] def Zcg (i : Nat) : G3 := fun d env => some (env.set i (some d))
@[simp] def bindAll : List Nat → List D → ZaO → Option ZaO
 | [], [], env => some env
 | i :: is, d :: ds, env => bindAll is ds (env.set i (some d))
 | _, _, _ => none
@[simp] def Zch (is : List Nat) : G3 := fun d env => match d with
 | .tup ds => bindAll is ds env
 | _ => none
structure It3 where
 items : List D
 lock : Option Nat
abbrev I3 := ZaO → Store → R3 It3
section
local instance (priority := 100000) clP14 (p : Prop) : Decidable p := Classical.propDecidable p
@[simp] def Zhq (f : E3) : I3 := fun env M => (f env M).bind fun a M1 => match a with
 | .tup ds => .ok ⟨ds, none⟩ M1
 | .scr ds => .ok ⟨ds, none⟩ M1
 | .str x => if x.length ≤ SZ then .ok ⟨x.map fun c => .str [c], none⟩ M1 else .bad
 | .ref n => match M1[n]? with
  | some (.lst ds) => .ok ⟨ds, some n⟩ M1
  | _ => .bad
 | _ => .bad
end
def Zc1 (lo : Int) (n : Nat) : List D := (List.range n).map fun (k : Nat) => D.int (lo + (k : Int))
section
local instance (priority := 100000) clP15 (p : Prop) : Decidable p := Classical.propDecidable p
@[simp] def ZbJ (f : E3) : I3 := fun env M => (f env M).bind fun a M1 => match a with
 | .int j => if j ≤ 1000000 ∧ -1000000 ≤ j then .ok ⟨Zc1 0 j.toNat, none⟩ M1 else .bad
 | _ => .bad
end
section
local instance (priority := 100000) clP16 (p : Prop) : Decidable p := Classical.propDecidable p
@[simp] def ZrG (f g : E3) : I3 := fun env M => (f env M).bind fun a M1 => (g env M1).bind fun b M2 => match a, b with
 | .int i, .int j => if (j ≤ 1000000 ∧ -1000000 ≤ j) ∧ (i ≤ 1000000 ∧ -1000000 ≤ i) then .ok ⟨Zc1 i (j - i).toNat, none⟩ M2 else .bad
 | _, _ => .bad
end
def locked (it : It3) (M : Store) : Bool := match it.lock with
 | none => true
 | some n => decide (M[n]? = some (.lst it.items))
def ZeA (it : It3) (g : G3) (body : S3) : List D → ZaO → Store → O3
 | [], env, M => if locked it M then .nx env M else .bad
 | d :: ds, env, M => if locked it M then match g d env with
  | none => .bad
  | some env1 => match body env1 M with
   | .nx e M' => ZeA it g body ds e M'
   | .ct e M' => ZeA it g body ds e M'
   | .bk e M' => .nx e M'
   | o => o
  else .bad
def ZjB (i : I3) (g : G3) (body : S3) : S3 := fun env M => match i env M with
 | .ok it M1 => ZeA it g body it.items env M1
 | .exc x M1 => .exc x M1
 | .bad => .bad
def ZeJ (c : E3) (body : S3) : Nat → ZaO → Store → O3
 | 0, _, _ => .bad
 | n + 1, env, M => match c env M with
  | .ok (.bl true) M1 => match body env M1 with
   | .nx e M' => ZeJ c body n e M'
   | .ct e M' => ZeJ c body n e M'
   | .bk e M' => .nx e M'
   | o => o
  | .ok (.bl false) M1 => .nx env M1
  | .exc x M1 => .exc x M1
  | _ => .bad
def Zll (c : E3) (body : S3) : S3 := ZeJ c body 1000000
def Ze3 : List E3 → ZaO → Store → R3 Bool
 | [], _, M => .ok true M
 | c :: cs, env, M => (c env M).bind fun a M1 => match a with
  | .bl true => Ze3 cs env M1
  | .bl false => .ok false M1
  | _ => .bad
section
local instance (priority := 100000) clP17 (p : Prop) : Decidable p := Classical.propDecidable p
def ZdF (it : It3) (g : G3) (ifs : List E3) (elt : E3) (n : Nat) : List D → ZaO → Store → R3 D
 | [], _, M => if locked it M then .ok (.ref n) M else .bad
 | d :: ds, env, M => if locked it M then match g d env with
  | none => .bad
  | some env1 => (Ze3 ifs env1 M).bind fun b M1 => if b then (elt env1 M1).bind fun e M2 => match M2[n]? with
    | some (.lst x) => if x.length < SZ then ZdF it g ifs elt n ds env1 (M2.set n (.lst (x ++ [e]))) else .bad
    | _ => .bad
   else ZdF it g ifs elt n ds env1 M1
  else .bad
end
def eLC (i : I3) (own : Nat) (g : G3) (ifs : List E3) (elt : E3) : E3 := fun env M => (i env M).bind fun it M1 =>
 ZdF it g ifs elt M1.length it.items (env ++ List.replicate own none) (M1 ++ [.lst []])
def keyV : ZbH → D
 | .inl i => .int i
 | .inr x => .str x
def Zlw (f : E3) (own : Nat) (g : G3) (ifs : List E3) (elt : E3) : E3 := fun env M => (f env M).bind fun a M1 => match a with
 | .ref n => match M1[n]? with
  | some (.dct kvs) => (ZdF ⟨kvs.map fun q => keyV q.1, none⟩ g ifs elt M1.length (kvs.map fun q => keyV q.1) (env ++ List.replicate own none) (M1.set n (.fdct kvs) ++ [.lst []])).bind fun v M2 => match M2[n]? with
   | some (.fdct kvs') => .ok v (M2.set n (.dct kvs'))
   | _ => .bad
  | _ => .bad
 | _ => .bad
def ZgQ (n : Nat) : MO → Bool
 | .lst xs => belowL n xs
 | .dct kvs => belowL n (kvs.map (·.2))
 | .fdct kvs => belowL n (kvs.map (·.2))
def Za0 (M : Store) (d : D) (M' : Store) : R3 D :=
 if below M.length d && (decide (M'.take M.length = M) || (M'.take M.length).all (ZgQ M.length)) then .ok d (M'.take M.length) else .ok d M'
def mkF (ps n : Nat) (body : S3) : F3 := fun ds M => if ds.length = ps then match body (ds.map some ++ List.replicate (n - ps) none) M with
  | .nx _ M' => Za0 M .non M'
  | .rt d M' => Za0 M d M'
  | .exc x M' => .exc x M'
  | _ => .bad
 else .bad
end
theorem Zia : ∀ (a b : List D), ltT a b = some true → ltT b a = some false
 | [], [], h => by simp [ltT] at h
 | [], _ :: _, _ => by simp [ltT]
 | _ :: _, [], h => by simp [ltT] at h
 | .int i :: x, .int j :: y, h => by
  simp only [ltT] at h ⊢
  by_cases e : i = j
  ·subst e; simp only [if_true] at h ⊢; exact Zia x y h
  ·rw [if_neg e] at h
   rw [if_neg (Ne.symm e)]
   simp only [Option.some.injEq, decide_eq_true_eq, decide_eq_false_iff_not] at h ⊢
   omega
 | .str p :: x, .str q :: y, h => by
  simp only [ltT] at h ⊢
  by_cases e : p = q
  ·subst e; simp only [if_true] at h ⊢; exact Zia x y h
  ·rw [if_neg e] at h
   rw [if_neg (Ne.symm e)]
   simp only [Option.some.injEq, decide_eq_true_eq, decide_eq_false_iff_not] at h ⊢
   exact fun z => List.lt_irrefl _ (List.lt_trans h z)
 | .non :: _, _ :: _, h => by simp [ltT] at h
 | .bl _ :: _, _ :: _, h => by simp [ltT] at h
 | .tup _ :: _, _ :: _, h => by simp [ltT] at h
 | .scr _ :: _, _ :: _, h => by simp [ltT] at h
 | .ref _ :: _, _ :: _, h => by simp [ltT] at h
 | .int _ :: _, .non :: _, h => by simp [ltT] at h
 | .int _ :: _, .bl _ :: _, h => by simp [ltT] at h
 | .int _ :: _, .str _ :: _, h => by simp [ltT] at h
 | .int _ :: _, .tup _ :: _, h => by simp [ltT] at h
 | .int _ :: _, .scr _ :: _, h => by simp [ltT] at h
 | .int _ :: _, .ref _ :: _, h => by simp [ltT] at h
 | .str _ :: _, .non :: _, h => by simp [ltT] at h
 | .str _ :: _, .bl _ :: _, h => by simp [ltT] at h
 | .str _ :: _, .int _ :: _, h => by simp [ltT] at h
 | .str _ :: _, .tup _ :: _, h => by simp [ltT] at h
 | .str _ :: _, .scr _ :: _, h => by simp [ltT] at h
 | .str _ :: _, .ref _ :: _, h => by simp [ltT] at h
theorem ZeV {d e : D} {x y : List D} {r : Bool} (h : ltT (d :: x) (e :: y) = some r) : (∃ i j, d = .int i ∧ e = .int j) ∨ ∃ i j, d = .str i ∧ e = .str j := by
 cases d <;> cases e <;> simp [ltT] at h ⊢
theorem Zlp : ∀ (a b c : List D), ltT b a = some false → ltT c b = some false → ltT c a = some false
 | [], b, c, h1, h2 => by cases c <;> simp [ltT]
 | _ :: _, [], c, h1, h2 => by simp [ltT] at h1
 | _ :: _, _ :: _, [], h1, h2 => by simp [ltT] at h2
 | d :: x, e :: y, f :: z, h1, h2 => by
  rcases ZeV h1 with ⟨j, i, rfl, rfl⟩ | ⟨j, i, rfl, rfl⟩
  ·rcases ZeV h2 with ⟨k, j', rfl, e⟩ | ⟨k, j', rfl, e⟩
   ·cases e
    simp only [ltT] at h1 h2 ⊢
    by_cases e1 : j = i
    ·subst e1
     simp only [if_true] at h1
     by_cases e2 : k = j
     ·subst e2; simp only [if_true] at h2 ⊢; exact Zlp x y z h1 h2
     ·rw [if_neg e2] at h2 ⊢; exact h2
    ·rw [if_neg e1] at h1
     by_cases e2 : k = j
     ·subst e2; rw [if_neg e1]; exact h1
     ·rw [if_neg e2] at h2
      simp only [Option.some.injEq, decide_eq_false_iff_not] at h1 h2
      rw [if_neg (by omega)]
      simp only [Option.some.injEq, decide_eq_false_iff_not]; omega
   ·cases e
  ·rcases ZeV h2 with ⟨k, j', rfl, e⟩ | ⟨k, j', rfl, e⟩
   ·cases e
   ·cases e
    simp only [ltT] at h1 h2 ⊢
    by_cases e1 : j = i
    ·subst e1
     simp only [if_true] at h1
     by_cases e2 : k = j
     ·subst e2; simp only [if_true] at h2 ⊢; exact Zlp x y z h1 h2
     ·rw [if_neg e2] at h2 ⊢; exact h2
    ·rw [if_neg e1] at h1
     by_cases e2 : k = j
     ·subst e2; rw [if_neg e1]; exact h1
     ·rw [if_neg e2] at h2
      simp only [Option.some.injEq, decide_eq_false_iff_not, List.not_lt] at h1 h2
      have h3 : i ≤ k := List.le_trans h1 h2
      have ne : k ≠ i := fun z => by subst z; exact e1 (List.le_antisymm h2 h1)
      rw [if_neg ne]
      simp only [Option.some.injEq, decide_eq_false_iff_not, List.not_lt]; exact h3
theorem ZhU : ∀ (a b : List D), ltT a b = some false → ltT b a = some false → a = b
 | [], [], _, _ => rfl
 | [], _ :: _, h, _ => by simp [ltT] at h
 | _ :: _, [], _, h => by simp [ltT] at h
 | d :: x, e :: y, h1, h2 => by
  rcases ZeV h1 with ⟨i, j, rfl, rfl⟩ | ⟨i, j, rfl, rfl⟩
  ·simp only [ltT] at h1 h2
   by_cases e1 : i = j
   ·subst e1; simp only [if_true] at h1 h2; rw [ZhU x y h1 h2]
   ·rw [if_neg e1] at h1
    rw [if_neg (Ne.symm e1)] at h2
    simp only [Option.some.injEq, decide_eq_false_iff_not] at h1 h2
    omega
  ·simp only [ltT] at h1 h2
   by_cases e1 : i = j
   ·subst e1; simp only [if_true] at h1 h2; rw [ZhU x y h1 h2]
   ·rw [if_neg e1] at h1
    rw [if_neg (Ne.symm e1)] at h2
    simp only [Option.some.injEq, decide_eq_false_iff_not, List.not_lt] at h1 h2
    exact absurd (List.le_antisymm h2 h1) e1
theorem Zkd {a b : D} (h : ltD a b = some true) : ltD b a = some false := by
 cases a <;> cases b <;> simp only [ltD, reduceCtorEq] at h ⊢
 ·simp only [Option.some.injEq, decide_eq_true_eq, decide_eq_false_iff_not] at h ⊢; omega
 ·exact Zia _ _ h
theorem Zqu {a b c : D} (h1 : ltD b a = some false) (h2 : ltD c b = some false) : ltD c a = some false := by
 cases a <;> cases b <;> cases c <;> simp only [ltD, reduceCtorEq] at h1 h2 ⊢
 ·simp only [Option.some.injEq, decide_eq_false_iff_not] at h1 h2 ⊢; omega
 ·exact Zlp _ _ _ h1 h2
theorem Zn8 {a b : D} (h1 : ltD a b = some false) (h2 : ltD b a = some false) : a = b := by
 cases a <;> cases b <;> simp only [ltD, reduceCtorEq] at h1 h2
 ·simp only [Option.some.injEq, decide_eq_false_iff_not] at h1 h2; rename_i i j; rw [show i = j by omega]
 ·rw [ZhU _ _ h1 h2]
theorem ZiX : ∀ {x y : List D}, y.Perm x → x.Pairwise leD → y.Pairwise leD → y = x
 | [], y, p, _, _ => p.eq_nil
 | a :: x, y, p, hx, hy => by
  cases y with
  | nil => exact (p.symm.eq_nil).symm ▸ rfl
  | cons b y =>
   have hx' := List.pairwise_cons.mp hx
   have hy' := List.pairwise_cons.mp hy
   have e : b = a := by
    rcases List.mem_cons.mp (p.mem_iff.mp List.mem_cons_self) with h | h
    ·exact h
    ·rcases List.mem_cons.mp (p.mem_iff.mpr (List.mem_cons_self (a := a) (l := x))) with h' | h'
     ·exact h'.symm
     ·exact Zn8 (hx'.1 b h) (hy'.1 a h')
   subst e
   rw [ZiX (List.Perm.cons_inv p) hx'.2 hy'.2]
theorem Zkq {x y : List D} (h : Zie x y) : ZjW x = y := by
 unfold ZjW
 rw [dif_pos ⟨y, h⟩]
 have hc := Exists.choose_spec (⟨y, h⟩ : ∃ y, Zie x y)
 exact ZiX (hc.1.trans h.1.symm) h.2 hc.2
end L3
namespace L3
theorem Zkg {it : It3} {i n : Nat} {elt : E3} {R : D → D → Prop} {env0 : ZaO} : ∀ (ds : List D) (acc : List D) (env : ZaO) (M : Store), (∀ d, env.set i (some d) = env0.set i (some d)) →
  (∀ d ∈ ds, ∀ x, ∃ e, elt (env0.set i (some d)) (M.set n (.lst x)) = .ok e (M.set n (.lst x)) ∧ R d e) → (∀ x, locked it (M.set n (.lst x)) = true) → M[n]? = some (.lst acc) → acc.length + ds.length ≤ SZ →
  ∃ es, es.length = ds.length ∧ (∀ (j : Nat) d e, ds[j]? = some d → es[j]? = some e → R d e) ∧ ZdF it (Zcg i) [] elt n ds env M = .ok (.ref n) (M.set n (.lst (acc ++ es))) := by
 intro ds
 induction ds with
 | nil =>
  intro acc env M _ _ hl hM _
  have e : M.set n (.lst acc) = M := by
   apply List.ext_getElem?
   intro j
   by_cases hj : j = n
   ·subst hj
    rw [List.getElem?_set_self (List.getElem?_eq_some_iff.mp hM).1, hM]
   ·rw [List.getElem?_set_ne (Ne.symm hj)]
  have hl' := hl acc
  rw [e] at hl'
  exact ⟨[], rfl, fun j d e h => by simp at h, by simp only [ZdF, hl', if_true, List.append_nil, e]⟩
 | cons d ds ih =>
  intro acc env M he hf hl hM hz
  have hn : n < M.length := (List.getElem?_eq_some_iff.mp hM).1
  have e : M.set n (.lst acc) = M := by
   apply List.ext_getElem?
   intro j
   by_cases hj : j = n
   ·subst hj
    rw [List.getElem?_set_self hn, hM]
   ·rw [List.getElem?_set_ne (Ne.symm hj)]
  have hl' := hl acc
  rw [e] at hl'
  obtain ⟨v, hf', hR⟩ := hf d List.mem_cons_self acc
  rw [e] at hf'
  have hz' : acc.length < SZ := by simp at hz ⊢; omega
  obtain ⟨es, le, re, h⟩ := ih (acc ++ [v]) (env0.set i (some d)) (M.set n (.lst (acc ++ [v]))) (fun d' => by rw [List.set_set]) (fun d' hd' x => by rw [List.set_set]; exact hf d' (List.mem_cons_of_mem _ hd') x) (fun x => by rw [List.set_set]; exact hl x) (by rw [List.getElem?_set_self hn]) (by simp at hz ⊢; omega)
  refine ⟨v :: es, by simp [le], fun j d' e' h1 h2 => ?_, ?_⟩
  ·cases j with
   | zero => simp at h1 h2; subst h1 h2; exact hR
   | succ j => exact re j d' e' (by simpa using h1) (by simpa using h2)
  ·simp only [ZdF, hl', if_true, Zcg, he d, Ze3, R3.bind_ok, hf', hM, hz']
   rw [h, List.set_set]
   simp
theorem Zid {it : It3} {g : G3} {body : S3} {P : Nat → ZaO → Store → Prop} : ∀ (ds : List D) (j : Nat) (env : ZaO) (M : Store), P j env M → (∀ j env M, P j env M → locked it M = true) →
  (∀ (k : Nat) d, ds[k]? = some d → ∀ env M, P (j + k) env M → ∃ env1 e' M', g d env = some env1 ∧ body env1 M = .nx e' M' ∧ P (j + k + 1) e' M') → ∃ e' M', ZeA it g body ds env M = .nx e' M' ∧ P (j + ds.length) e' M' := by
 intro ds
 induction ds with
 | nil => intro j env M p hl _; exact ⟨env, M, by simp only [ZeA, hl j env M p, if_true], p⟩
 | cons d ds ih =>
  intro j env M p hl hs
  obtain ⟨env1, e', M', h1, h2, p'⟩ := hs 0 d rfl env M p
  obtain ⟨e2, M2, h3, p2⟩ := ih (j + 1) e' M' p' hl fun k d' hd' env M p => by
   have := hs (k + 1) d' (by simpa using hd') env M (by rw [show j + (k + 1) = j + 1 + k by omega]; exact p)
   rw [show j + (k + 1) + 1 = j + 1 + k + 1 by omega] at this
   exact this
  exact ⟨e2, M2, by simp only [ZeA, hl j env M p, if_true, h1, h2, h3], by rw [List.length_cons, show j + (ds.length + 1) = j + 1 + ds.length by omega]; exact p2⟩
theorem Zm {f g : S3} {env env' : ZaO} {M M' : Store} (h : f env M = .nx env' M') : Zr f g env M = g env' M' := by rw [Zr, h]
theorem Zao {f g : S3} {env : ZaO} {M M' : Store} {d : D} (h : f env M = .rt d M') : Zr f g env M = .rt d M' := by rw [Zr, h]
theorem ZaT {c : E3} {f g : S3} {env : ZaO} {M M' : Store} (h : c env M = .ok (.bl true) M') : sIf c f g env M = f env M' := by rw [sIf, h]
theorem ZaK {f : E3} {env : ZaO} {M M' : Store} {d : D} (h : f env M = .ok d M') : Zz f env M = .rt d M' := by rw [Zz, h]
theorem Zag {f : E3} {i : Nat} {env env' : ZaO} {M M' : Store} {d : D} (h : f env M = .ok d M') (he : env.set i (some d) = env' := by first | (dsimp only [List.set_cons_succ, List.set_cons_zero] <;> exact rfl) | exact rfl) : Zac i f env M = .nx env' M' := by rw [Zac, h]; simp only [he]
theorem Zy {c : E3} {f : S3} {env : ZaO} {M M' : Store} (h : c env M = .ok (.bl false) M') : sIf c f Zw env M = .nx env M' := by rw [sIf, h]; rfl
theorem Zfr {f : E3} {env : ZaO} {M M' : Store} {d : D} (h : f env M = .ok d M') : Zal f env M = .nx env M' := by rw [Zal, h]
theorem Zhy {i : I3} {g : G3} {u : S3} {env : ZaO} {M M' : Store} {it : It3} (h : i env M = .ok it M') : ZjB i g u env M = ZeA it g u it.items env M' := by rw [ZjB, h]
theorem ZkV {i : I3} {own : Nat} {g : G3} {ts : List E3} {f : E3} {env : ZaO} {M M' : Store} {it : It3} (h : i env M = .ok it M') : eLC i own g ts f env M = ZdF it g ts f M'.length it.items (env ++ List.replicate own none) (M' ++ [.lst []]) := by rw [eLC, h]; rfl
theorem ZhL {ps n : Nat} {body : S3} {ds : List D} {env : ZaO} {M M' : Store} {d : D} (h : body env M = .rt d M') (hl : ds.length = ps := by rfl) (he : ds.map some ++ List.replicate (n - ps) none = env := by rfl) : mkF ps n body ds M = Za0 M d M' := by rw [mkF, if_pos hl, he, h]
theorem Zni {M G : Store} {d : D} (h : below M.length d = true) : Za0 M d (M ++ G) = .ok d M := by
 simp [Za0, h]
end L3
namespace L3
theorem Za7 {α : Type} (M : List α) (x : α) (xs : List α) : (M ++ x :: xs)[M.length]? = some x := by simp
theorem Za4 {α : Type} (M xs : List α) (k : Nat) : (M ++ xs)[M.length + k]? = xs[k]? := by
 rw [List.getElem?_append_right (by omega)]; congr 1; omega
theorem Zff {α : Type} (M xs : List α) (k : Nat) (o : α) : (M ++ xs).set (M.length + k) o = M ++ xs.set k o := by
 rw [List.set_append_right _ _ (by omega)]; congr 2; omega
theorem Zbq {α : Type} {M : List α} {n : Nat} {o : α} (h : M[n]? = some o) (xs : List α) : (M ++ xs)[n]? = some o := by
 rw [List.getElem?_append_left (List.getElem?_eq_some_iff.mp h).1, h]
theorem ZcY {α : Type} (xs : List α) (k : Nat) : ZbN xs (k : Int) = xs[k]? := by
 unfold ZbN ixD
 rw [if_pos (Int.natCast_nonneg k)]
 by_cases h : k < xs.length
 ·rw [if_pos (by omega)]; simp
 ·rw [if_neg (by omega)]; simp at h ⊢; omega
@[simp] theorem ZaM {α : Type} (xs : List α) (k : Nat) : ZbN xs (k : Int) = xs[k]? := ZcY xs k
@[simp] theorem ZdW {α : Type} (xs : List α) (n : Nat) : ZbN xs (no_index (OfNat.ofNat n : Int)) = xs[(OfNat.ofNat n : Nat)]? := ZcY xs n
@[simp] theorem Zmq {α : Type} (xs : List α) : ZbN xs (-1) = xs.getLast? := by
 unfold ZbN ixD
 rw [if_neg (by decide), List.getLast?_eq_getElem?]
 by_cases h : 0 < xs.length
 ·rw [if_pos (by omega)]
  simp only [Option.bind_some]
  congr 1; omega
 ·have : xs = [] := by simpa using h
  subst this; rfl
theorem ZlP (n k : Nat) : ixD n (k : Int) = if k < n then some k else none := by
 unfold ixD
 rw [if_pos (Int.natCast_nonneg k)]
 by_cases h : k < n
 ·rw [if_pos (by omega), if_pos h]; simp
 ·rw [if_neg (by omega), if_neg h]
@[simp] theorem Zrh (n k : Nat) : ixD n (k : Int) = if k < n then some k else none := ZlP n k
@[simp] theorem ZrH (m n : Nat) : ixD m (no_index (OfNat.ofNat n : Int)) = if (OfNat.ofNat n : Nat) < m then some (OfNat.ofNat n : Nat) else none := ZlP m n
theorem ZhS {α : Type} (xs : List α) : cutD xs none (some (-1)) = xs.dropLast := by
 unfold cutD sIx
 simp only [List.drop_zero]
 rw [if_pos (by decide), List.dropLast_eq_take]
 congr 1
 omega
inductive Row where
 | put (a : Nat) (n : Int) | add (a b c : Nat) | sub (a b c : Nat) | more (a b c : Nat) | get (a b : Nat) | set (a b : Nat) | jump (k : Nat) | when (a k : Nat) | tell (a : Nat) | halt
 deriving Inhabited
def Zq : Row → D
 | .put a n => .tup [.str [112, 117, 116], .int a, .int n]
 | .add a b c => .tup [.str [97, 100, 100], .int a, .int b, .int c]
 | .sub a b c => .tup [.str [115, 117, 98], .int a, .int b, .int c]
 | .more a b c => .tup [.str [109, 111, 114, 101], .int a, .int b, .int c]
 | .get a b => .tup [.str [103, 101, 116], .int a, .int b]
 | .set a b => .tup [.str [115, 101, 116], .int a, .int b]
 | .jump k => .tup [.str [106, 117, 109, 112], .int k]
 | .when a k => .tup [.str [119, 104, 101, 110], .int a, .int k]
 | .tell a => .tup [.str [116, 101, 108, 108], .int a]
 | .halt => .tup [.str [104, 97, 108, 116]]
def Row.ok (many : Nat) : Row → Prop
 | .put a _ => a < 8
 | .add a b c => a < 8 ∧ b < 8 ∧ c < 8
 | .sub a b c => a < 8 ∧ b < 8 ∧ c < 8
 | .more a b c => a < 8 ∧ b < 8 ∧ c < 8
 | .get a b => a < 8 ∧ b < 8
 | .set a b => a < 8 ∧ b < 8
 | .jump k => k < many
 | .when a k => a < 8 ∧ k < many
 | .tell a => a < 8
 | .halt => True
abbrev ZbC := List Row
def Zf (r : ZbC) : D := .tup (r.map Zq)
structure ZbW (r : ZbC) : Prop where
 rows : ∀ x ∈ r, x.ok r.length
 last : ∃ q x, r = q ++ [x] ∧ (x = .halt ∨ ∃ k, x = .jump k)
structure Stt where
 place : Nat
 boxes : List Int
 cells : List (Int × Int)
 deriving Inhabited, DecidableEq
def Zg (bs : List Int) : D := .tup (bs.map D.int)
def Za3 (c : Int × Int) : D := .tup [.int c.1, .int c.2]
def ZbI (cs : List (Int × Int)) : D := .tup (cs.map Za3)
def Zat (s : Stt) : D := .tup [.int s.place, Zg s.boxes, ZbI s.cells]
def Row.tells (bs : List Int) : Row → Option Int
 | .tell a => bs[a]?
 | _ => none
def Row.isHalt : Row → Bool
 | .halt => true
 | _ => false
@[simp] theorem ZqK {a : Nat} {n : Int} {bs : List Int} : (Row.put a n).tells bs = none := rfl
@[simp] theorem Zp3 {a : Nat} {n : Int} : (Row.put a n).isHalt = false := rfl
@[simp] theorem ZqI {a : Nat} {b : Nat} {c : Nat} {bs : List Int} : (Row.add a b c).tells bs = none := rfl
@[simp] theorem ZpN {a : Nat} {b : Nat} {c : Nat} : (Row.add a b c).isHalt = false := rfl
@[simp] theorem ZqG {a : Nat} {b : Nat} {c : Nat} {bs : List Int} : (Row.sub a b c).tells bs = none := rfl
@[simp] theorem Zpv {a : Nat} {b : Nat} {c : Nat} : (Row.sub a b c).isHalt = false := rfl
@[simp] theorem Zqo {a : Nat} {b : Nat} {c : Nat} {bs : List Int} : (Row.more a b c).tells bs = none := rfl
@[simp] theorem Zpc {a : Nat} {b : Nat} {c : Nat} : (Row.more a b c).isHalt = false := rfl
@[simp] theorem ZqL {a : Nat} {b : Nat} {bs : List Int} : (Row.get a b).tells bs = none := rfl
@[simp] theorem Zp9 {a : Nat} {b : Nat} : (Row.get a b).isHalt = false := rfl
@[simp] theorem ZqH {a : Nat} {b : Nat} {bs : List Int} : (Row.set a b).tells bs = none := rfl
@[simp] theorem Zqm {a : Nat} {b : Nat} : (Row.set a b).isHalt = false := rfl
@[simp] theorem Zqf {k : Nat} {bs : List Int} : (Row.jump k).tells bs = none := rfl
@[simp] theorem Zph {k : Nat} : (Row.jump k).isHalt = false := rfl
@[simp] theorem ZpT {a : Nat} {k : Nat} {bs : List Int} : (Row.when a k).tells bs = none := rfl
@[simp] theorem Zpd {a : Nat} {k : Nat} : (Row.when a k).isHalt = false := rfl
@[simp] theorem Zp2 {a : Nat} {bs : List Int} : (Row.tell a).tells bs = bs[a]? := rfl
@[simp] theorem Zpb {a : Nat} : (Row.tell a).isHalt = false := rfl
@[simp] theorem ZqA  {bs : List Int} : (Row.halt).tells bs = none := rfl
@[simp] theorem Zo9  : (Row.halt).isHalt = true := rfl
theorem ZcK (n : Nat) (i : Int) : Zay n (.int i) = true := by cases n <;> rfl
theorem Zgp (n : Nat) (i : List Nat) : Zay n (.str i) = true := by cases n <;> rfl
theorem ZfL (n : Nat) (bs : List Int) : Zay (n + 1) (Zg bs) = true := by simp [Zg, Zay, ZcK]
mutual
theorem Zmt : ∀ (n : Nat) (d : D), Zay n d = true → deq d d = true
 | _, .non, _ => rfl
 | _, .bl _, _ => by simp [deq]
 | _, .int _, _ => by simp [deq]
 | _, .str _, _ => by simp [deq]
 | 0, .tup _, h => by simp [Zay] at h
 | n + 1, .tup ds, h => by simp only [deq]; exact Zf5 n ds (by simpa [Zay] using h)
 | _, .scr _, h => by simp [Zay] at h
 | _, .ref _, h => by simp [Zay] at h
theorem Zf5 : ∀ (n : Nat) (ds : List D), (∀ d ∈ ds, Zay n d = true) → Zcj ds ds = true
 | _, [], _ => rfl
 | n, d :: ds, h => by
  simp only [Zcj, Bool.and_eq_true]
  exact ⟨Zmt n d (h d List.mem_cons_self), Zf5 n ds fun x hx => h x (List.mem_cons_of_mem _ hx)⟩
end
theorem Zmb {ds : List D} (h : ds.all (Zay DEEP) = true) : Zcj ds ds = true := Zf5 DEEP ds (by simpa using h)
end L3
namespace L3
def Rt (o : O3) (d : D) : Prop := ∃ M', o = .rt d M'
theorem Rt.set {i : Nat} {f : E3} {g : S3} {env env' : ZaO} {M M' : Store} {d r : D} (h : f env M = .ok d M') (k : Rt (g env' M') r) (he : env.set i (some d) = env' := by first | (dsimp only [List.set_cons_succ, List.set_cons_zero] <;> exact rfl) | exact rfl) : Rt (Zr (Zac i f) g env M) r := by
 rw [Rt, Zm (Zag h he)]; exact k
theorem Rt.skip {c : E3} {u g : S3} {env : ZaO} {M M' : Store} {r : D} (h : c env M = .ok (.bl false) M') (k : Rt (g env M') r) : Rt (Zr (sIf c u Zw) g env M) r := by
 rw [Rt, Zm (Zy h)]; exact k
theorem Rt.loop {i : I3} {t : G3} {u g : S3} {env env' : ZaO} {M M' M1 : Store} {it : It3} {r : D} (h : i env M = .ok it M1) (hl : ZeA it t u it.items env M1 = .nx env' M') (k : Rt (g env' M') r) : Rt (Zr (ZjB i t u) g env M) r := by
 rw [Rt, Zm ((Zhy h).trans hl)]; exact k
theorem Rt.ret {f : E3} {env : ZaO} {M M' : Store} {d : D} (h : f env M = .ok d M') : Rt (Zz f env M) d := ⟨M', ZaK h⟩
theorem Rt.law {ps n : Nat} {body : S3} {ds : List D} {env : ZaO} {b : Bool} (h : Rt (body env []) (.bl b)) (hl : ds.length = ps := by rfl) (he : ds.map some ++ List.replicate (n - ps) none = env := by rfl) : ∃ M', mkF ps n body ds [] = .ok (.bl b) M' := by
 obtain ⟨M', h⟩ := h
 exact ⟨_, (ZhL h hl he).trans (by rw [Za0, if_pos (by simp [below])])⟩
theorem Rt.pure {ps n : Nat} {body : S3} {ds : List D} {env : ZaO} {M G : Store} {d : D} (h : body env M = .rt d (M ++ G)) (hd : below M.length d = true) (hl : ds.length = ps := by rfl) (he : ds.map some ++ List.replicate (n - ps) none = env := by rfl) : mkF ps n body ds M = .ok d M :=
 (ZhL h hl he).trans (Zni hd)
theorem Zif {α : Type} {enc : α → D} {P : Nat → α → Prop} : ∀ (es : List D), (∀ (j : Nat) e, es[j]? = some e → ∃ a, e = enc a ∧ P j a) → ∃ as : List α, es = as.map enc ∧ ∀ (j : Nat) a, as[j]? = some a → P j a
 | [], _ => ⟨[], rfl, fun j a h => by simp at h⟩
 | e :: es, h => by
  obtain ⟨a, rfl, pa⟩ := h 0 e rfl
  obtain ⟨as, rfl, ps⟩ := Zif (enc := enc) (P := fun j => P (j + 1)) es fun j e he => h (j + 1) e (by simpa using he)
  refine ⟨a :: as, rfl, fun j b hb => ?_⟩
  cases j with
  | zero => simp at hb; subst hb; exact pa
  | succ j => exact ps j b (by simpa using hb)
theorem Zoc {n : Nat} {lo : Int} {j : Nat} {d : D} (h : (Zc1 lo n)[j]? = some d) : d = .int (lo + j) ∧ j < n := by
 unfold Zc1 at h
 rw [List.getElem?_map] at h
 cases q : (List.range n)[j]? with
 | none => rw [q] at h; cases h
 | some k =>
  rw [q] at h
  obtain ⟨hi, e⟩ := List.getElem?_eq_some_iff.mp q
  rw [List.getElem_range] at e
  subst e
  simp at h hi
  exact ⟨h.symm, hi⟩
theorem Zgo {n : Nat} {j : Nat} {d : D} (h : (Zc1 0 n)[j]? = some d) : d = .int (j : Int) ∧ j < n := by
 obtain ⟨e, l⟩ := Zoc h
 exact ⟨by rw [e, Int.zero_add], l⟩
theorem ZgG (lo : Int) (n : Nat) : (Zc1 lo n).length = n := by simp [Zc1]
end L3
namespace L3
theorem Zg2 {o arg : E3} {env : ZaO} {M M2 : Store} {n : Nat} {xs ys : List D} {d : D} (ho : o env M = .ok (.ref n) M) (hM : M[n]? = some (.lst xs)) (ha : arg env M = .ok d M2) (hM2 : M2[n]? = some (.lst ys)) (hz : ys.length < 1000000) :
  ZeK tyL Zb8 o (Zb arg Zj) env M = .ok .non (M2.set n (.lst (ys ++ [d]))) := by
 simp [ho, hM, ha, hM2, hz]
theorem Zo0 {M : Store} {n m : Nat} {xs : List D} (h1 : M[n]? = some (.lst xs)) (h2 : M[m]? = some (.lst xs)) (hp : xs.all (Zay DEEP) = true) : Zaq (.ref n) (.ref m) M = .ok (.bl true) M := by
 simp only [Zaq, eqD, h1, h2, hp, Bool.and_self, if_true, Zmb hp]
theorem Za8 {op : D → D → Store → R3 D} {f g : E3} {env : ZaO} {M M1 M2 M3 : Store} {a b d : D} (h1 : f env M = .ok a M1) (h2 : g env M1 = .ok b M2) (h3 : op a b M2 = .ok d M3) : e2 op f g env M = .ok d M3 := by
 simp only [e2, h1, h2, h3, R3.bind]
theorem ZgI {F : F3} {f : E3} {env : ZaO} {M M1 M2 : Store} {a d : D} (h1 : f env M = .ok a M1) (h2 : F [a] M1 = .ok d M2) : Zae F (Zb f Zj) env M = .ok d M2 := by
 simp only [Zae, Zb, Zj, h1, h2, R3.bind]
theorem ZcB {F : F3} {f g : E3} {env : ZaO} {M M1 M2 M3 : Store} {a b d : D} (h1 : f env M = .ok a M1) (h2 : g env M1 = .ok b M2) (h3 : F [a, b] M2 = .ok d M3) : Zae F (Zb f (Zb g Zj)) env M = .ok d M3 := by
 simp only [Zae, Zb, Zj, h1, h2, h3, R3.bind]
theorem ZcI {F : F3} {f g h : E3} {env : ZaO} {M M1 M2 M3 M4 : Store} {a b c d : D} (h1 : f env M = .ok a M1) (h2 : g env M1 = .ok b M2) (h3 : h env M2 = .ok c M3) (h4 : F [a, b, c] M3 = .ok d M4) : Zae F (Zb f (Zb g (Zb h Zj))) env M = .ok d M4 := by
 simp only [Zae, Zb, Zj, h1, h2, h3, h4, R3.bind]
@[simp] theorem ZrU (a b : Ty3) : (a == b) = decide (a = b) := by cases a <;> cases b <;> rfl
theorem ZgS {F : F3} {f g h k : E3} {env : ZaO} {M M1 M2 M3 M4 M5 : Store} {a b c d e : D} (h1 : f env M = .ok a M1) (h2 : g env M1 = .ok b M2) (h3 : h env M2 = .ok c M3) (h4 : k env M3 = .ok d M4) (h5 : F [a, b, c, d] M4 = .ok e M5) : Zae F (Zb f (Zb g (Zb h (Zb k Zj)))) env M = .ok e M5 := by
 simp only [Zae, Zb, Zj, h1, h2, h3, h4, h5, R3.bind]
theorem Zg6 {b : List D → Store → R3 D} {f : E3} {env : ZaO} {M M1 M2 : Store} {a d : D} (h1 : f env M = .ok a M1) (h2 : b [a] M1 = .ok d M2) : Zaj b (Zb f Zj) env M = .ok d M2 := by
 simp only [Zaj, Zb, Zj, h1, h2, R3.bind]
theorem ZfC {op : D → Store → R3 D} {f : E3} {env : ZaO} {M M1 M2 : Store} {a d : D} (h1 : f env M = .ok a M1) (h2 : op a M1 = .ok d M2) : e1 op f env M = .ok d M2 := by
 simp only [e1, h1, h2, R3.bind]
theorem ZdX {f g : E3} {env : ZaO} {M M1 : Store} (h1 : f env M = .ok (.bl false) M1) : eOr f g env M = g env M1 := by simp only [eOr, h1, R3.bind]
theorem ZhG {f g : E3} {env : ZaO} {M M1 : Store} (h1 : f env M = .ok (.bl true) M1) : eOr f g env M = .ok (.bl true) M1 := by simp only [eOr, h1, R3.bind]
theorem ZjF {f g : E3} {env : ZaO} {M M1 : Store} (h1 : f env M = .ok (.bl true) M1) : ZdB f g env M = g env M1 := by simp only [ZdB, h1, R3.bind]
theorem ZjK {f g : E3} {env : ZaO} {M M1 : Store} (h1 : f env M = .ok (.bl false) M1) : ZdB f g env M = .ok (.bl false) M1 := by simp only [ZdB, h1, R3.bind]
theorem Zpe {c f g : E3} {env : ZaO} {M M1 : Store} (h1 : c env M = .ok (.bl true) M1) : eIf c f g env M = f env M1 := by simp only [eIf, h1, R3.bind]
theorem Zpa {c f g : E3} {env : ZaO} {M M1 : Store} (h1 : c env M = .ok (.bl false) M1) : eIf c f g env M = g env M1 := by simp only [eIf, h1, R3.bind]
theorem ZpL {α : Type} {enc : α → D} {h : α → D} {own : Nat} {i : Nat} {it : I3} {elt : E3} {env : ZaO} {M M1 : Store} {lock : Option Nat} {as : List α} (hi : it env M = .ok ⟨as.map enc, lock⟩ M1) (hlock : ∀ n, lock = some n → M1[n]? = some (.lst (as.map enc)))
  (he : ∀ a ∈ as, ∀ M, elt ((env ++ List.replicate own none).set i (some (enc a))) M = .ok (h a) M) (hz : as.length ≤ 100000) : eLC it own (Zcg i) [] elt env M = .ok (.ref M1.length) (M1 ++ [.lst (as.map h)]) := by
 rw [ZkV hi]
 obtain ⟨es, le, re, hh⟩ := Zkg (it := ⟨as.map enc, lock⟩) (i := i) (n := M1.length) (elt := elt) (R := fun d e => ∀ a ∈ as, d = enc a → e = h a) (env0 := env ++ List.replicate own none) (as.map enc) [] (env ++ List.replicate own none) (M1 ++ [.lst []]) (fun _ => rfl)
  (fun d hd x => by
   obtain ⟨a, ha, rfl⟩ := List.mem_map.mp hd
   refine ⟨h a, he a ha _, fun b hb e => ?_⟩
   have h1 := he a ha []
   have h2 := he b hb []
   rw [e, h2] at h1
   injection h1 with h1 _
   exact h1.symm)
  (fun x => by
   cases lock with
   | none => rfl
   | some n =>
    have hn := hlock n rfl
    have hlt := (List.getElem?_eq_some_iff.mp hn).1
    simp only [locked, decide_eq_true_eq]
    rw [List.getElem?_set_ne (by omega), List.getElem?_append_left hlt, hn]) (by simp) (by simp; omega)
 rw [show (⟨as.map enc, lock⟩ : It3).items = as.map enc from rfl, hh]
 have : es = as.map h := by
  apply List.ext_getElem?
  intro j
  rw [List.getElem?_map]
  cases ha : as[j]? with
  | none =>
   have : as.length ≤ j := by simpa using ha
   simp [le]; exact this
  | some a =>
   have hj : j < es.length := by
    have := (List.getElem?_eq_some_iff.mp ha).1
    simpa [le] using this
   have h2 := re j (enc a) es[j] (by simp [ha]) (by simp [hj]) a (List.mem_of_getElem? ha) rfl
   rw [List.getElem?_eq_getElem hj, h2]; rfl
 rw [this]
 simp
end L3
namespace L3
def Ziz (t : List (Int × Int)) (n v : Int) : List (Int × Int) := if t.any (fun p => decide (p.1 = n)) = true then t.map (fun p => if p.1 = n then (p.1, v) else p) else t ++ [(n, v)]
def ZaW (t : List (Int × Int)) : List (ZbH × D) := t.map fun p => (.inl p.1, .int p.2)
def keysOk (t : List (Int × Int)) : Prop := (t.map (·.1)).Nodup
def Zfm : List (Int × Int) → Int → Int
 | [], _ => 0
 | (k, v) :: r, n => if k = n then v else Zfm r n
theorem ZmZ (t : List (Int × Int)) (n v : Int) : putD (.inl n) (.int v) (ZaW t) = ZaW (Ziz t n v) := by
 have ha : ((ZaW t).any fun p => decide (p.1 = (.inl n : ZbH))) = t.any fun p => decide (p.1 = n) := by
  simp [ZaW, List.any_map, Function.comp_def]
 unfold putD Ziz
 rw [ha]
 by_cases c : (t.any fun p => decide (p.1 = n)) = true
 ·rw [if_pos c, if_pos c]
  simp only [ZaW, List.map_map]
  apply List.map_congr_left
  intro p _
  by_cases e : p.1 = n
  ·simp [e]
  ·simp [e]
 ·rw [if_neg c, if_neg c]
  simp [ZaW]
theorem ZjS (t : List (Int × Int)) (n : Int) : ZcZ (ZaW t) (.inl n) = (if t.any (fun p => decide (p.1 = n)) = true then some (D.int (Zfm t n)) else none) := by
 induction t with
 | nil => rfl
 | cons p t ih =>
  obtain ⟨k, v⟩ := p
  show (if (Sum.inl k : ZbH) = Sum.inl n then some (D.int v) else ZcZ (ZaW t) (.inl n)) = _
  by_cases e : k = n
  ·simp [e, Zfm]
  ·rw [if_neg (by simp [e]), ih]
   simp only [List.any_cons, Zfm, if_neg e, decide_eq_false e, Bool.false_or]
theorem ZfF {t : List (Int × Int)} {n : Int} (h : ¬ t.any (fun p => decide (p.1 = n)) = true) : Zfm t n = 0 := by
 induction t with
 | nil => rfl
 | cons p t ih =>
  obtain ⟨k, v⟩ := p
  simp only [List.any_cons, Bool.or_eq_true, decide_eq_true_eq, not_or] at h
  simp only [Zfm, if_neg h.1]
  exact ih (by simpa using h.2)
theorem Zkp (t : List (Int × Int)) (n : Int) : (ZcZ (ZaW t) (.inl n)).getD (.int 0) = .int (Zfm t n) := by
 rw [ZjS]
 by_cases c : (t.any fun p => decide (p.1 = n)) = true
 ·rw [if_pos c]; rfl
 ·rw [if_neg c, ZfF c]; rfl
theorem ZiS {t : List (Int × Int)} (n v : Int) (h : keysOk t) : keysOk (Ziz t n v) := by
 unfold keysOk Ziz at *
 by_cases c : (t.any fun p => decide (p.1 = n)) = true
 ·rw [if_pos c, List.map_map]
  have : (t.map ((fun x => x.1) ∘ fun p => if p.1 = n then (p.1, v) else p)) = t.map (·.1) := by
   apply List.map_congr_left
   intro p _
   by_cases e : p.1 = n <;> simp [e]
  rw [this]; exact h
 ·rw [if_neg c, List.map_append]
  refine List.nodup_append.mpr ⟨h, by simp, fun x hx y hy => ?_⟩
  simp at hy
  subst hy
  rintro rfl
  obtain ⟨p, hp, e⟩ := List.mem_map.mp hx
  exact c (List.any_eq_true.mpr ⟨p, hp, by simp [e]⟩)
theorem ZnW {t : List (Int × Int)} {n v : Int} (q : Int × Int) : q ∈ Ziz t n v ↔ (q = (n, v)) ∨ (q.1 ≠ n ∧ q ∈ t) := by
 obtain ⟨a, b⟩ := q
 unfold Ziz
 by_cases c : (t.any fun p => decide (p.1 = n)) = true
 ·rw [if_pos c, List.mem_map]
  constructor
  ·rintro ⟨p, hp, e⟩
   by_cases ep : p.1 = n
   ·rw [if_pos ep] at e
    left; rw [← e, ep]
   ·rw [if_neg ep] at e
    right; rw [← e]; exact ⟨ep, hp⟩
  ·rintro (e | ⟨h1, h2⟩)
   ·obtain ⟨p, hp, ep⟩ := List.any_eq_true.mp c
    have ep : p.1 = n := by simpa using ep
    exact ⟨p, hp, by rw [if_pos ep, e, ep]⟩
   ·exact ⟨(a, b), h2, by rw [if_neg h1]⟩
 ·rw [if_neg c, List.mem_append, List.mem_singleton]
  constructor
  ·rintro (h | h)
   ·right
    refine ⟨fun z => c (List.any_eq_true.mpr ⟨(a, b), h, by simpa using z⟩), h⟩
   ·left; exact h
  ·rintro (h | ⟨_, h⟩)
   ·right; exact h
   ·left; exact h
theorem Zfn {t : List (Int × Int)} (h : keysOk t) {k v : Int} (hm : (k, v) ∈ t) : Zfm t k = v := by
 induction t with
 | nil => simp at hm
 | cons p t ih =>
  obtain ⟨a, b⟩ := p
  unfold keysOk at h
  simp only [List.map_cons, List.nodup_cons] at h
  rcases List.mem_cons.mp hm with e | e
  ·cases e; simp [Zfm]
  ·have : a ≠ k := fun z => h.1 (List.mem_map.mpr ⟨(k, v), e, z.symm⟩)
   simp only [Zfm, if_neg this]
   exact ih h.2 e
def Ze6 (cs : List (Int × Int)) : Prop := cs.Pairwise fun a b => a.1 < b.1
theorem Ze6.keys {cs : List (Int × Int)} (h : Ze6 cs) : keysOk cs := by
 unfold keysOk Ze6 at *
 rw [List.Nodup, List.pairwise_map]
 exact h.imp fun h => by omega
theorem Zkn : ∀ {x y : List (Int × Int)}, Ze6 x → Ze6 y → (∀ q, q ∈ x ↔ q ∈ y) → x = y
 | [], [], _, _, _ => rfl
 | [], b :: y, _, _, h => by have := (h b).mpr List.mem_cons_self; simp at this
 | a :: x, [], _, _, h => by have := (h a).mp List.mem_cons_self; simp at this
 | a :: x, b :: y, hx, hy, h => by
  have hx' := List.pairwise_cons.mp hx
  have hy' := List.pairwise_cons.mp hy
  have e : a = b := by
   rcases List.mem_cons.mp ((h a).mp List.mem_cons_self) with e | e
   ·exact e
   ·rcases List.mem_cons.mp ((h b).mpr List.mem_cons_self) with e' | e'
    ·exact e'.symm
    ·have h1 := hy'.1 a e
     have h2 := hx'.1 b e'
     omega
  subst e
  congr 1
  refine Zkn hx'.2 hy'.2 fun q => ?_
  constructor
  ·intro hq
   rcases List.mem_cons.mp ((h q).mp (List.mem_cons_of_mem _ hq)) with e | e
   ·subst e; have := hx'.1 q hq; omega
   ·exact e
  ·intro hq
   rcases List.mem_cons.mp ((h q).mpr (List.mem_cons_of_mem _ hq)) with e | e
   ·subst e; have := hy'.1 q hq; omega
   ·exact e
def Zk0 (p : Int × Int) : List (Int × Int) → List (Int × Int)
 | [] => [p]
 | q :: r => if p.1 < q.1 then p :: q :: r else q :: Zk0 p r
theorem ZgZ (p : Int × Int) : ∀ r, (Zk0 p r).Perm (p :: r)
 | [] => .refl _
 | q :: r => by
  unfold Zk0
  split
  ·exact .refl _
  ·exact ((ZgZ p r).cons q).trans (.swap p q r)
theorem Zja {p : Int × Int} : ∀ {r : List (Int × Int)}, Ze6 r → (∀ q ∈ r, q.1 ≠ p.1) → Ze6 (Zk0 p r)
 | [], _, _ => by simp [Zk0, Ze6]
 | q :: r, h, hn => by
  have h' := List.pairwise_cons.mp h
  unfold Zk0
  split
  ·rename_i c
   refine List.pairwise_cons.mpr ⟨fun x hx => ?_, h⟩
   rcases List.mem_cons.mp hx with e | e
   ·subst e; exact c
   ·have := h'.1 x e; omega
  ·rename_i c
   refine List.pairwise_cons.mpr ⟨fun x hx => ?_, Zja h'.2 fun x hx => hn x (List.mem_cons_of_mem _ hx)⟩
   rcases List.mem_cons.mp ((ZgZ p r).mem_iff.mp hx) with e | e
   ·subst e; have := hn q List.mem_cons_self; omega
   ·exact h'.1 x e
def Zbk : List (Int × Int) → List (Int × Int)
 | [] => []
 | p :: t => if p.2 ≠ 0 then Zk0 p (Zbk t) else Zbk t
theorem Ze2 : ∀ t : List (Int × Int), (Zbk t).Perm (t.filter fun p => decide (p.2 ≠ 0))
 | [] => .refl _
 | p :: t => by
  unfold Zbk
  by_cases c : p.2 ≠ 0
  ·rw [if_pos c, List.filter_cons_of_pos (by simpa using c)]
   exact (ZgZ p _).trans ((Ze2 t).cons p)
  ·rw [if_neg c, List.filter_cons_of_neg (by simpa using c)]
   exact Ze2 t
theorem ZdR {t : List (Int × Int)} {q : Int × Int} : q ∈ Zbk t ↔ q ∈ t ∧ q.2 ≠ 0 := by
 rw [(Ze2 t).mem_iff, List.mem_filter]; simp
theorem ZdP : ∀ {t : List (Int × Int)}, keysOk t → Ze6 (Zbk t)
 | [], _ => by simp [Zbk, Ze6]
 | p :: t, h => by
  unfold keysOk at h
  simp only [List.map_cons, List.nodup_cons] at h
  unfold Zbk
  split
  ·refine Zja (ZdP h.2) fun q hq => ?_
   intro e
   exact h.1 (List.mem_map.mpr ⟨q, (ZdR.mp hq).1, e⟩)
  ·exact ZdP h.2
def ZeG (cs : List (Int × Int)) (n v : Int) : List (Int × Int) := cs.filter (fun c => decide (c.1 < n)) ++ (if v ≠ 0 then [(n, v)] else []) ++ cs.filter (fun c => decide (n < c.1))
theorem Zks {cs : List (Int × Int)} {n v : Int} {q : Int × Int} : q ∈ ZeG cs n v ↔ (q = (n, v) ∧ v ≠ 0) ∨ (q.1 ≠ n ∧ q ∈ cs) := by
 unfold ZeG
 simp only [List.mem_append, List.mem_filter, decide_eq_true_eq]
 have hm : q ∈ (if v ≠ 0 then [(n, v)] else []) ↔ (q = (n, v) ∧ v ≠ 0) := by
  by_cases c : v ≠ 0
  ·rw [if_pos c]; simp [c]
  ·rw [if_neg c]; simp [c]
 rw [hm]
 constructor
 ·rintro ((⟨h1, h2⟩ | h) | ⟨h1, h2⟩)
  ·right; exact ⟨by omega, h1⟩
  ·left; exact h
  ·right; exact ⟨by omega, h1⟩
 ·rintro (h | ⟨h1, h2⟩)
  ·left; right; exact h
  ·rcases Int.lt_or_gt_of_ne h1 with c | c
   ·left; left; exact ⟨h2, c⟩
   ·right; exact ⟨h2, c⟩
theorem ZgC {cs : List (Int × Int)} {n v : Int} (h : Ze6 cs) : Ze6 (ZeG cs n v) := by
 unfold ZeG Ze6 at *
 have hm : ∀ q ∈ (if v ≠ 0 then [(n, v)] else []), q.1 = n := fun q hq => by
  by_cases c : v ≠ 0
  ·rw [if_pos c] at hq; simp at hq; rw [hq]
  ·rw [if_neg c] at hq; simp at hq
 refine List.pairwise_append.mpr ⟨List.pairwise_append.mpr ⟨h.filter _, ?_, fun a ha b hb => ?_⟩, h.filter _, fun a ha b hb => ?_⟩
 ·by_cases c : v ≠ 0
  ·rw [if_pos c]; simp
  ·rw [if_neg c]; simp
 ·have h1 := (List.mem_filter.mp ha).2
  rw [hm b hb]; simpa using h1
 ·have h2 : n < b.1 := by simpa using (List.mem_filter.mp hb).2
  rcases List.mem_append.mp ha with ha | ha
  ·have : a.1 < n := by simpa using (List.mem_filter.mp ha).2
   omega
  ·rw [hm a ha]; exact h2
theorem Zmv {t : List (Int × Int)} (h : keysOk t) (n v : Int) : Zbk (Ziz t n v) = ZeG (Zbk t) n v := by
 refine Zkn (ZdP (ZiS n v h)) (ZgC (ZdP h)) fun q => ?_
 rw [ZdR, Zks, ZnW, ZdR]
 constructor
 ·rintro ⟨h1 | ⟨h1, h2⟩, h3⟩
  ·left; refine ⟨h1, ?_⟩; rw [h1] at h3; exact h3
  ·right; exact ⟨h1, h2, h3⟩
 ·rintro (⟨h1, h2⟩ | ⟨h1, h2, h3⟩)
  ·exact ⟨.inl h1, by rw [h1]; exact h2⟩
  ·exact ⟨.inr ⟨h1, h2⟩, h3⟩
theorem Zmc {t : List (Int × Int)} (h : keysOk t) (n : Int) : Zfm (Zbk t) n = Zfm t n := by
 by_cases c : (t.any fun p => decide (p.1 = n)) = true
 ·obtain ⟨p, hp, e⟩ := List.any_eq_true.mp c
  have e : p.1 = n := by simpa using e
  obtain ⟨a, b⟩ := p
  simp only at e
  subst e
  rw [Zfn h hp]
  by_cases z : b = 0
  ·subst z
   rw [ZfF]
   intro q
   obtain ⟨p', hp', e'⟩ := List.any_eq_true.mp q
   have e' : p'.1 = a := by simpa using e'
   obtain ⟨a', b'⟩ := p'
   simp only at e'
   subst e'
   have h1 := (ZdR.mp hp').1
   have h2 := (ZdR.mp hp').2
   have := Zfn h h1
   rw [Zfn h hp] at this
   exact h2 this.symm
  ·exact Zfn (ZdP h).keys (ZdR.mpr ⟨hp, z⟩)
 ·rw [ZfF c, ZfF]
  intro q
  obtain ⟨p', hp', e'⟩ := List.any_eq_true.mp q
  exact c (List.any_eq_true.mpr ⟨p', (ZdR.mp hp').1, e'⟩)
def Row.place (bs : List Int) (p : Nat) : Row → Nat
 | .jump k => k
 | .when a k => if 0 < bs.getD a 0 then k else p + 1
 | _ => p + 1
def Row.boxes (bs : List Int) (cs : List (Int × Int)) : Row → List Int
 | .put a n => bs.set a n
 | .add a b c => bs.set a (bs.getD b 0 + bs.getD c 0)
 | .sub a b c => bs.set a (bs.getD b 0 - bs.getD c 0)
 | .more a b c => bs.set a (if bs.getD c 0 < bs.getD b 0 then 1 else 0)
 | .get a b => bs.set a (Zfm cs (bs.getD b 0))
 | _ => bs
def Row.cells (bs : List Int) (cs : List (Int × Int)) : Row → List (Int × Int)
 | .set a b => ZeG cs (bs.getD a 0) (bs.getD b 0)
 | _ => cs
def ZiL (s : Stt) (r : Row) : Option Stt := if r.isHalt then none else some ⟨r.place s.boxes s.place, r.boxes s.boxes s.cells, r.cells s.boxes s.cells⟩
def ZeY (roll : ZbC) (s : Stt) : Option Stt := (roll[s.place]?).bind (ZiL s)
def ZsF : Option Stt → D
 | none => .non
 | some s => Zat s
theorem Zlm (cs : List (Int × Int)) : ZdK (cs.map Za3) = some (ZaW cs) := by
 induction cs with
 | nil => rfl
 | cons p cs ih => simp only [List.map_cons, Za3, ZdK, Zf7, ih, Option.map_some, ZaW]
theorem Znt (kvs : List (ZbH × D)) (k j : ZbH) (v : D) : ZcZ (putD k v kvs) j = if j = k then some v else ZcZ kvs j := by
 have mp : ∀ l : List (ZbH × D), ZcZ (l.map fun p => if p.1 = k then (p.1, v) else p) j = if j = k then (if l.any (fun p => decide (p.1 = k)) then some v else none) else ZcZ l j := by
  intro l
  induction l with
  | nil => simp [ZcZ]
  | cons p l ih =>
   obtain ⟨a, b⟩ := p
   rw [List.map_cons]
   by_cases e : a = k
   ·subst e
    simp only [if_true, ZcZ]
    by_cases ej : a = j
    ·subst ej; simp
    ·rw [if_neg ej, ih, if_neg (Ne.symm ej), if_neg (Ne.symm ej), if_neg ej]
   ·simp only [if_neg e, ZcZ]
    by_cases ej : a = j
    ·subst ej; simp [e]
    ·rw [if_neg ej, ih, if_neg ej]; simp only [List.any_cons, decide_eq_false e, Bool.false_or]
 have ap : ∀ l : List (ZbH × D), ¬ l.any (fun p => decide (p.1 = k)) = true → ZcZ (l ++ [(k, v)]) j = if j = k then some v else ZcZ l j := by
  intro l
  induction l with
  | nil => intro _; simp only [List.nil_append, ZcZ]; by_cases e : k = j <;> simp [e, Ne.symm, eq_comm]
  | cons p l ih =>
   intro h
   obtain ⟨a, b⟩ := p
   simp only [List.any_cons, Bool.or_eq_true, decide_eq_true_eq, not_or] at h
   simp only [List.cons_append, ZcZ]
   by_cases ej : a = j
   ·subst ej; rw [if_pos rfl, if_neg h.1, if_pos rfl]
   ·rw [if_neg ej, if_neg ej]; exact ih (by simpa using h.2)
 unfold putD
 by_cases c : (kvs.any fun p => decide (p.1 = k)) = true
 ·rw [if_pos c, mp, c]; simp
 ·rw [if_neg c]; exact ap kvs c
theorem ZiH : ∀ (l acc : List (ZbH × D)) (j : ZbH), (l.map (·.1)).Nodup → ZcZ (l.foldl (fun a p => putD p.1 p.2 a) acc) j = (match ZcZ l j with | some v => some v | none => ZcZ acc j)
 | [], acc, j, _ => rfl
 | p :: l, acc, j, h => by
  obtain ⟨k, v⟩ := p
  simp only [List.map_cons, List.nodup_cons] at h
  rw [List.foldl_cons, ZiH l _ j h.2, Znt]
  simp only [ZcZ]
  by_cases e : k = j
  ·subst e
   have : ZcZ l k = none := by
    have hn := h.1
    clear h
    induction l with
    | nil => rfl
    | cons q l ih =>
     simp only [List.map_cons, List.mem_cons, not_or] at hn
     simp only [ZcZ]
     rw [if_neg (Ne.symm hn.1)]; exact ih hn.2
   rw [this]; simp
  ·rw [if_neg e, if_neg (Ne.symm e)]
theorem ZmB {t : List (Int × Int)} (h : keysOk t) : ((ZaW t).map (·.1)).Nodup := by
 unfold keysOk at h
 simp only [ZaW, List.map_map]
 rw [List.Nodup, List.pairwise_map] at *
 exact h.imp fun h e => h (by simpa using e)
theorem Zmu {t : List (Int × Int)} (h : keysOk t) (n : Int) : (ZcZ (dictOf (ZaW t)) (.inl n)).getD (.int 0) = .int (Zfm t n) := by
 unfold dictOf
 rw [ZiH _ _ _ (ZmB h), ← Zkp]
 cases ZcZ (ZaW t) (.inl n) <;> rfl
theorem Zgf {α : Type} {enc h : α → D} {p : α → Bool} {it : It3} {i n : Nat} {c elt : E3} {env0 : ZaO} : ∀ (as : List α) (acc : List D) (env : ZaO) (M : Store), (∀ d, env.set i (some d) = env0.set i (some d)) →
  (∀ a ∈ as, ∀ x, c (env0.set i (some (enc a))) (M.set n (.lst x)) = .ok (.bl (p a)) (M.set n (.lst x))) → (∀ a ∈ as, p a = true → ∀ x, elt (env0.set i (some (enc a))) (M.set n (.lst x)) = .ok (h a) (M.set n (.lst x))) →
  (∀ x, locked it (M.set n (.lst x)) = true) → M[n]? = some (.lst acc) → acc.length + as.length ≤ SZ →
  ZdF it (Zcg i) [c] elt n (as.map enc) env M = .ok (.ref n) (M.set n (.lst (acc ++ (as.filter p).map h))) := by
 intro as
 induction as with
 | nil =>
  intro acc env M _ _ _ hl hM _
  have e : M.set n (.lst acc) = M := by
   apply List.ext_getElem?
   intro j
   by_cases hj : j = n
   ·subst hj; rw [List.getElem?_set_self (List.getElem?_eq_some_iff.mp hM).1, hM]
   ·rw [List.getElem?_set_ne (Ne.symm hj)]
  have hl' := hl acc
  rw [e] at hl'
  simp only [List.map_nil, ZdF, hl', if_true, List.filter_nil, List.append_nil, e]
 | cons a as ih =>
  intro acc env M he hc hf hl hM hz
  have hn : n < M.length := (List.getElem?_eq_some_iff.mp hM).1
  have e : M.set n (.lst acc) = M := by
   apply List.ext_getElem?
   intro j
   by_cases hj : j = n
   ·subst hj; rw [List.getElem?_set_self hn, hM]
   ·rw [List.getElem?_set_ne (Ne.symm hj)]
  have hl' := hl acc
  rw [e] at hl'
  have hc' := hc a List.mem_cons_self acc
  rw [e] at hc'
  rw [List.map_cons]
  cases hp : p a with
  | false =>
   rw [hp] at hc'
   simp only [ZdF, hl', if_true, Zcg, he (enc a), Ze3, hc', R3.bind, Bool.false_eq_true, if_false]
   rw [ih acc (env0.set i (some (enc a))) M (fun d' => by rw [List.set_set]) (fun b hb x => hc b (List.mem_cons_of_mem _ hb) x) (fun b hb => hf b (List.mem_cons_of_mem _ hb)) hl hM (by simp at hz ⊢; omega), List.filter_cons_of_neg (by simp [hp])]
  | true =>
   rw [hp] at hc'
   have hf' := hf a List.mem_cons_self hp acc
   rw [e] at hf'
   have hz' : acc.length < SZ := by simp at hz ⊢; omega
   simp only [ZdF, hl', if_true, Zcg, he (enc a), Ze3, hc', R3.bind, hf', hM, hz']
   rw [ih (acc ++ [h a]) (env0.set i (some (enc a))) (M.set n (.lst (acc ++ [h a]))) (fun d' => by rw [List.set_set]) (fun b hb x => by rw [List.set_set]; exact hc b (List.mem_cons_of_mem _ hb) x) (fun b hb hpb x => by rw [List.set_set]; exact hf b (List.mem_cons_of_mem _ hb) hpb x) (fun x => by rw [List.set_set]; exact hl x) (by rw [List.getElem?_set_self hn]) (by simp at hz ⊢; omega), List.filter_cons_of_pos hp, List.set_set]
   simp
theorem ZgW {α : Type} {enc h : α → D} {p : α → Bool} {own : Nat} {i : Nat} {it : I3} {c elt : E3} {env : ZaO} {M M1 : Store} {lock : Option Nat} {as : List α} (hi : it env M = .ok ⟨as.map enc, lock⟩ M1) (hlock : ∀ n, lock = some n → M1[n]? = some (.lst (as.map enc)))
  (hc : ∀ a ∈ as, ∀ M, c ((env ++ List.replicate own none).set i (some (enc a))) M = .ok (.bl (p a)) M) (he : ∀ a ∈ as, p a = true → ∀ M, elt ((env ++ List.replicate own none).set i (some (enc a))) M = .ok (h a) M) (hz : as.length ≤ 100000) :
  eLC it own (Zcg i) [c] elt env M = .ok (.ref M1.length) (M1 ++ [.lst ((as.filter p).map h)]) := by
 rw [ZkV hi]
 have := Zgf (it := ⟨as.map enc, lock⟩) (i := i) (n := M1.length) (c := c) (elt := elt) (env0 := env ++ List.replicate own none) as [] (env ++ List.replicate own none) (M1 ++ [.lst []]) (fun _ => rfl) (fun a ha x => hc a ha _) (fun a ha hp x => he a ha hp _)
  (fun x => by
   cases lock with
   | none => rfl
   | some n =>
    have hn := hlock n rfl
    have hlt := (List.getElem?_eq_some_iff.mp hn).1
    simp only [locked, decide_eq_true_eq]
    rw [List.getElem?_set_ne (by omega), List.getElem?_append_left hlt, hn]) (by simp) (by simp; omega)
 refine this.trans ?_
 simp
theorem Zlq {x y : List (Int × Int)} (hp : y.Perm x) (hr : Ze6 y) : Zie (x.map Za3) (y.map Za3) := by
 refine ⟨hp.map _, ?_⟩
 rw [List.pairwise_map]
 refine hr.imp fun {a b} h => ?_
 show (if b.1 = a.1 then _ else _) = _
 rw [if_neg (by omega), decide_eq_false (by omega)]
theorem Zjw {x : List (Int × Int)} (h : x.length < 64) : Zld (x.map Za3) := by
 refine ⟨by simpa using h, .inl (by simp [Za3, ZdT]), fun a ha b hb => ?_⟩
 obtain ⟨p, _, rfl⟩ := List.mem_map.mp ha
 obtain ⟨q, _, rfl⟩ := List.mem_map.mp hb
 simp only [ltD, Za3, ltT]
 split
 ·split
  ·rfl
  ·rfl
 ·rfl
end L3
namespace L3
theorem Zk8 {cs : List (Int × Int)} (h : Ze6 cs) (n v : Int) : (ZeG cs n v).length ≤ cs.length + 1 := by
 unfold ZeG
 have f : (cs.filter (fun c => decide (c.1 < n))).length + (cs.filter (fun c => decide (n < c.1))).length ≤ cs.length := by
  clear h
  induction cs with
  | nil => simp
  | cons c cs ih =>
   simp only [List.filter_cons]
   by_cases h1 : c.1 < n
   ·have h2 : ¬ n < c.1 := by omega
    simp only [h1, h2, decide_true, decide_false, if_true, Bool.false_eq_true, if_false, List.length_cons]; omega
   ·by_cases h2 : n < c.1
    ·simp only [h1, h2, decide_true, decide_false, if_true, Bool.false_eq_true, if_false, List.length_cons]; omega
    ·simp only [h1, h2, decide_false, Bool.false_eq_true, if_false, List.length_cons]; omega
 rw [List.length_append, List.length_append]
 split <;> simp only [List.length_cons, List.length_nil] <;> omega
end L3
namespace L3
def Zec (roll : ZbC) : Nat → Stt → List Stt
 | 0, s => [s]
 | k + 1, s => match ZeY roll s with
  | none => [s]
  | some s' => s :: Zec roll k s'
theorem ZmK {roll : ZbC} {s s' : Stt} (k : Nat) (h : ZeY roll s = some s') : Zec roll (k + 1) s = s :: Zec roll k s' := by
 show (match ZeY roll s with | none => [s] | some s' => s :: Zec roll k s') = _
 rw [h]
theorem ZmG {roll : ZbC} {s : Stt} (k : Nat) (h : ZeY roll s = none) : Zec roll (k + 1) s = [s] := by
 show (match ZeY roll s with | none => [s] | some s' => s :: Zec roll k s') = _
 rw [h]
structure Good (roll : ZbC) (s : Stt) : Prop where
 pl : s.place < roll.length
 bx : s.boxes.length = 8
 rs : Ze6 s.cells
theorem ZmM (r : Row) (bs : List Int) (cs : List (Int × Int)) : (r.boxes bs cs).length = bs.length := by cases r <;> simp [Row.boxes]
theorem ZgN {roll : ZbC} (R : ZbW roll) {s s' : Stt} (g : Good roll s) (h : ZeY roll s = some s') : Good roll s' ∧ s'.cells.length ≤ s.cells.length + 1 := by
 obtain ⟨hp, hb, hc⟩ := g
 have hr : roll[s.place]? = some roll[s.place] := by simp [hp]
 have ro := R.rows _ (List.getElem_mem hp)
 unfold ZeY at h
 rw [hr] at h
 have h' : ZiL s roll[s.place] = some s' := h
 unfold ZiL at h'
 split at h'
 ·cases h'
 ·rename_i nh
  cases h'
  have nl : roll[s.place] ≠ .halt → (∀ k, roll[s.place] ≠ .jump k) → s.place + 1 < roll.length := fun n1 n2 => by
   obtain ⟨q, x, e, hx⟩ := R.last
   have hl : roll.length = q.length + 1 := by rw [e]; simp
   by_cases c : s.place = q.length
   ·have : roll[s.place] = x := by
     have := hr
     simp only [e, c] at this
     simp at this
     simp [c, e]
    rw [this] at n1 n2
    rcases hx with hx | ⟨k, hx⟩
    ·exact absurd hx n1
    ·exact absurd hx (n2 k)
   ·omega
  have nh' : roll[s.place] ≠ .halt := fun z => by rw [z] at nh; simp at nh
  refine ⟨⟨?_, by rw [ZmM]; exact hb, ?_⟩, ?_⟩
  ·generalize roll[s.place] = r at ro nl nh'
   cases r with
   | jump k => exact ro
   | when a k =>
    show (if 0 < s.boxes.getD a 0 then k else s.place + 1) < _
    split
    ·exact ro.2
    ·exact nl nh' (fun _ z => by cases z)
   | halt => exact absurd rfl nh'
   | _ => exact nl nh' (fun _ z => by cases z)
  ·generalize roll[s.place] = r
   cases r with
   | set a b => exact ZgC hc
   | _ => exact hc
  ·generalize roll[s.place] = r
   cases r with
   | set a b => exact Zk8 hc _ _
   | _ => exact Nat.le_succ _
theorem ZjT (roll : ZbC) : ∀ k s, (Zec roll k s).length ≤ k + 1
 | 0, s => by simp [Zec]
 | k + 1, s => by
  unfold Zec
  split
  ·simp
  ·have := ZjT roll k ‹_›; simp; omega
theorem ZoK (roll : ZbC) (k : Nat) (s : Stt) : Zec roll k s ≠ [] := by
 cases k with
 | zero => simp [Zec]
 | succ k => unfold Zec; split <;> simp
theorem ZiY {roll : ZbC} (R : ZbW roll) : ∀ k s, Good roll s → ∀ x ∈ Zec roll k s, Good roll x
 | 0, s, g, x, hx => by simp [Zec] at hx; subst hx; exact g
 | k + 1, s, g, x, hx => by
  unfold Zec at hx
  split at hx
  ·simp at hx; subst hx; exact g
  ·rename_i s' h
   rcases List.mem_cons.mp hx with e | e
   ·subst e; exact g
   ·exact ZiY R k s' (ZgN R g h).1 x e
end L3
namespace L3
def Zoz (i : Int) : List Nat := (PySem.Str.ofString (toString i)).cps.toList
noncomputable section
local instance (priority := 100000) clQ1 (p : Prop) : Decidable p := Classical.propDecidable p
@[simp] def ZsP (ds : List D) (M : Store) : R3 D := match ds with
 | [.int i] => if i.natAbs.log2 < 1920 then .ok (.str (Zoz i)) M else .bad
 | [.str x] => .ok (.str x) M
 | _ => .bad
def Zo8 : List D → Option (List (List Nat))
 | [] => some []
 | .str x :: ds => (Zo8 ds).map (x :: ·)
 | _ => none
def glue (sep : List Nat) : List (List Nat) → List Nat
 | [] => []
 | [x] => x
 | x :: y :: xs => x ++ sep ++ glue sep (y :: xs)
def ZoD (sep : List Nat) (ts : List (List Nat)) : Nat := (ts.map fun t => t.length + sep.length).sum
@[simp] def Zsq (o : D) (ds : List D) (M : Store) : R3 D := match o, ds with
 | .str sep, [.ref n] => match M[n]? with
  | some (.lst x) => match Zo8 x with
   | some ts => if ZoD sep ts ≤ SZ then .ok (.str (glue sep ts)) M else .bad
   | none => .bad
  | _ => .bad
 | _, _ => .bad
def Zqe (x y : List Nat) : List (List Nat) := (PySem.Txt.split ⟨x.toArray⟩ ⟨y.toArray⟩).map fun t => t.cps.toList
@[simp] def Zsd (o : D) (ds : List D) (M : Store) : R3 D := match o, ds with
 | .str x, [.str y] => if 0 < y.length ∧ x.length + 2 ≤ SZ then alloc (.lst ((Zqe x y).map D.str)) M else .bad
 | _, _ => .bad
@[simp] def ZlQ (ds : List D) (M : Store) : R3 D := match ds with
 | [.str x] => match PySem.intText? ⟨x.toArray⟩ with
  | some n => if x.length ≤ 640 then .ok (.int n) M else .bad
  | none => .bad
 | ds => Zry ds M
@[simp] def ZrO (T1 T2 : Ty3) (d : D) (M : Store) : R3 D := match Zhk T1 d M, Zhk T2 d M with
 | some a, some b => .ok (.bl (a || b)) M
 | _, _ => .bad
end
end L3
namespace L3
noncomputable section
def ZeC (f : E3) (g : G3) : S3 := fun env M => match f env M with
 | .ok d M1 => match g d env with
  | some env1 => .nx env1 M1
  | none => .bad
 | .exc x M1 => .exc x M1
 | .bad => .bad
structure ItL where
 items : List D
 lk : List (Nat × List D)
def ZdU (lk : List (Nat × List D)) (M : Store) : Bool := lk.all fun q => decide (M[q.1]? = some (.lst q.2))
def ZeU (lk : List (Nat × List D)) (g : G3) (body : S3) : List D → ZaO → Store → O3
 | [], env, M => if ZdU lk M then .nx env M else .bad
 | d :: ds, env, M => if ZdU lk M then match g d env with
  | none => .bad
  | some env1 => match body env1 M with
   | .nx e M' => ZeU lk g body ds e M'
   | .ct e M' => ZeU lk g body ds e M'
   | .bk e M' => .nx e M'
   | o => o
  else .bad
abbrev IL3 := ZaO → Store → R3 ItL
def Zg8 (i : IL3) (g : G3) (body : S3) : S3 := fun env M => match i env M with
 | .ok it M1 => ZeU it.lk g body it.items env M1
 | .exc x M1 => .exc x M1
 | .bad => .bad
def Zen : Nat → List D → List D
 | _, [] => []
 | k, d :: ds => .tup [.int k, d] :: Zen (k + 1) ds
@[simp] def Zkj (f : E3) : IL3 := fun env M => (f env M).bind fun a M1 => match a with
 | .tup ds => .ok ⟨Zen 0 ds, []⟩ M1
 | .ref n => match M1[n]? with
  | some (.lst ds) => .ok ⟨Zen 0 ds, [(n, ds)]⟩ M1
  | _ => .bad
 | _ => .bad
@[simp] def Zm9 (a b : D) (M : Store) : R3 D := match a, b with
 | .tup [.int i, .int j], .tup [.int k, .int l] => .ok (.bl (decide (i < k) || (decide (i = k) && decide (j ≤ l)))) M
 | _, _ => .bad
def Zi4 (f : E3) (is : List Nat) : S3 := fun env M => match f env M with
 | .ok (.ref n) M1 => (match M1[n]? with
  | some (.lst ds) => (match bindAll is ds env with
   | some env1 => .nx env1 M1
   | none => .bad)
  | _ => .bad)
 | _ => .bad
def ZkQ (v : D) (o i : E3) (env : ZaO) (M : Store) : R3 D := (o env M).bind fun a M1 => (i env M1).bind fun k M2 => ZhI v a k M2
def ZjN (f o i p j : E3) : S3 := fun env M => match f env M with
 | .ok (.tup [x, y]) M1 => (match ZkQ x o i env M1 with
  | .ok _ M2 => (match ZkQ y p j env M2 with
   | .ok _ M3 => .nx env M3
   | _ => .bad)
  | _ => .bad)
 | _ => .bad
@[simp] def Zsp (ds : List D) (M : Store) : R3 D := match ds with
 | [.int i, .int j] => .ok (.int (if j > i then j else i)) M
 | _ => .bad
@[simp] def Zst (ds : List D) (M : Store) : R3 D := match ds with
 | [.int i, .int j] => .ok (.int (if j < i then j else i)) M
 | _ => .bad
@[simp] def Zsz (a b : D) (M : Store) : R3 D := match a, b with
 | .bl x, .bl y => .ok (.bl (decide (x = y))) M
 | _, _ => .bad
@[simp] def ZsB (a b : D) (M : Store) : R3 D := match b with
 | .ref n => match M[n]? with
  | some (.lst ys) => if ZaV a && ys.all ZaV then .ok (.bl (ys.any fun y => deq y a)) M else .bad
  | _ => .bad
 | _ => .bad
theorem Zg0 : ∀ (k : Nat) (ds : List D) (i : Nat), (Zen k ds)[i]? = (ds[i]?).map fun d => .tup [.int ((k + i : Nat) : Int), d]
 | _, [], _ => by simp [Zen]
 | k, d :: ds, 0 => by simp [Zen]
 | k, d :: ds, i + 1 => by
  simp only [Zen, List.getElem?_cons_succ, Zg0 (k + 1) ds i]
  rw [show k + 1 + i = k + (i + 1) by omega]
theorem ZgU : ∀ (k : Nat) (ds : List D), (Zen k ds).length = ds.length
 | _, [] => rfl
 | k, d :: ds => by simp [Zen, ZgU (k + 1) ds]
end
end L3
namespace L3
open PySem PySem.Spec PyProof.Rows L2
abbrev St := L2.St
theorem ZcM : SZ ≤ sizeLine := by rw [sizeLine_eq]; decide
def SqF (K : PySem.W.Frag) (H : Hp) (a : Addr) (xs : List V) : Prop :=
 (∃ o, H a = some (.frz o (.lst xs))) ∨
  ∃ (o : Obj) (its : Array Value) (n : Nat), K.lookup a = some o ∧ o.cls = .type "list" ∧ o.dict = none ∧ o.data = .seq its n ∧ its.size ≤ sizeLine ∧ Vals xs its.toList
theorem SqF.sq {K : PySem.W.Frag} {H : Hp} {a : Addr} {xs : List V} (h : SqF K H a xs) : SqL K H a xs := by
 rcases h with ⟨o, h⟩ | h
 ·exact .inl (.inr ⟨o, h⟩)
 ·exact .inr h
mutual
def Rep (K : PySem.W.Frag) (H : Hp) (ι : List Addr) : D → V → Prop
 | .non, v => v = .non
 | .bl b, v => v = .bl b
 | .int i, v => v = .int i
 | .str x, v => v = .str ⟨x.toArray⟩
 | .tup ds, v => ∃ a vs, v = .ref a ∧ SqT K H a vs ∧ Zai K H ι ds vs
 | .scr ds, v => ∃ a vs, v = .ref a ∧ SqF K H a vs ∧ Zai K H ι ds vs
 | .ref n, v => ∃ a, ι[n]? = some a ∧ v = .ref a
def Zai (K : PySem.W.Frag) (H : Hp) (ι : List Addr) : List D → List V → Prop
 | [], vs => vs = []
 | d :: ds, vs => ∃ v ws, vs = v :: ws ∧ Rep K H ι d v ∧ Zai K H ι ds ws
end
structure Ext (K : PySem.W.Frag) (H : Hp) (ι : List Addr) (H' : Hp) (ι' : List Addr) : Prop where
 tup : ∀ a xs, SqT K H a xs → SqT K H' a xs
 scr : ∀ a xs, SqF K H a xs → SqF K H' a xs
 pre : ∀ (n : Nat) (a : Addr), ι[n]? = some a → ι'[n]? = some a
 frz : ∀ a o u, H a = some (.frz o u) → H' a = some (.frz o u)
section
variable {K : PySem.W.Frag} {H H' H1 H2 : Hp} {ι ι' ι1 ι2 : List Addr}
theorem Ext.refl : Ext K H ι H ι := ⟨fun _ _ h => h, fun _ _ h => h, fun _ _ h => h, fun _ _ _ h => h⟩
theorem Ext.trans (a : Ext K H ι H1 ι1) (b : Ext K H1 ι1 H2 ι2) : Ext K H ι H2 ι2 :=
 ⟨fun x xs h => b.tup x xs (a.tup x xs h), fun x xs h => b.scr x xs (a.scr x xs h), fun n x h => b.pre n x (a.pre n x h), fun x o u h => b.frz x o u (a.frz x o u h)⟩
mutual
theorem Rep.mono (e : Ext K H ι H' ι') : ∀ {d : D} {v : V}, Rep K H ι d v → Rep K H' ι' d v
 | .non, _, h => by simpa [Rep] using h
 | .bl _, _, h => by simpa [Rep] using h
 | .int _, _, h => by simpa [Rep] using h
 | .str _, _, h => by simpa [Rep] using h
 | .tup ds, _, h => by
  simp only [Rep] at h ⊢
  obtain ⟨a, vs, rfl, s, r⟩ := h
  exact ⟨a, vs, rfl, e.tup _ _ s, Zai.mono e (ds := ds) r⟩
 | .scr ds, _, h => by
  simp only [Rep] at h ⊢
  obtain ⟨a, vs, rfl, s, r⟩ := h
  exact ⟨a, vs, rfl, e.scr _ _ s, Zai.mono e (ds := ds) r⟩
 | .ref n, _, h => by
  simp only [Rep] at h ⊢
  obtain ⟨a, s, rfl⟩ := h
  exact ⟨a, e.pre _ _ s, rfl⟩
theorem Zai.mono (e : Ext K H ι H' ι') : ∀ {ds : List D} {vs : List V}, Zai K H ι ds vs → Zai K H' ι' ds vs
 | [], _, h => by simpa [Zai] using h
 | d :: ds, _, h => by
  simp only [Zai] at h ⊢
  obtain ⟨v, ws, rfl, r, q⟩ := h
  exact ⟨v, ws, rfl, Rep.mono e (d := d) r, Zai.mono e (ds := ds) q⟩
end
mutual
theorem Rep.keep (ht : ∀ a xs, SqT K H a xs → SqT K H' a xs) (hs : ∀ a xs, SqF K H a xs → SqF K H' a xs) : ∀ {d : D} {v : V}, Rep K H ι d v → Rep K H' ι d v
 | .non, _, h => by simpa [Rep] using h
 | .bl _, _, h => by simpa [Rep] using h
 | .int _, _, h => by simpa [Rep] using h
 | .str _, _, h => by simpa [Rep] using h
 | .tup ds, _, h => by
  simp only [Rep] at h ⊢
  obtain ⟨a, vs, rfl, s, r⟩ := h
  exact ⟨a, vs, rfl, ht _ _ s, Zai.keep ht hs (ds := ds) r⟩
 | .scr ds, _, h => by
  simp only [Rep] at h ⊢
  obtain ⟨a, vs, rfl, s, r⟩ := h
  exact ⟨a, vs, rfl, hs _ _ s, Zai.keep ht hs (ds := ds) r⟩
 | .ref n, _, h => by simpa [Rep] using h
theorem Zai.keep (ht : ∀ a xs, SqT K H a xs → SqT K H' a xs) (hs : ∀ a xs, SqF K H a xs → SqF K H' a xs) : ∀ {ds : List D} {vs : List V}, Zai K H ι ds vs → Zai K H' ι ds vs
 | [], _, h => by simpa [Zai] using h
 | d :: ds, _, h => by
  simp only [Zai] at h ⊢
  obtain ⟨v, ws, rfl, r, q⟩ := h
  exact ⟨v, ws, rfl, Rep.keep ht hs (d := d) r, Zai.keep ht hs (ds := ds) q⟩
end
theorem Zai.nil : Zai K H ι [] [] := by simp [Zai]
theorem Zai.cons {d : D} {ds : List D} {v : V} {vs : List V} (h : Rep K H ι d v) (t : Zai K H ι ds vs) : Zai K H ι (d :: ds) (v :: vs) := by
 simp only [Zai]
 exact ⟨v, vs, rfl, h, t⟩
theorem Zai.nil_inv {vs : List V} (h : Zai K H ι [] vs) : vs = [] := by simpa [Zai] using h
theorem Zai.cons_inv {d : D} {ds : List D} {vs : List V} (h : Zai K H ι (d :: ds) vs) : ∃ v ws, vs = v :: ws ∧ Rep K H ι d v ∧ Zai K H ι ds ws := by simpa [Zai] using h
theorem Zai.length : ∀ {ds : List D} {vs : List V}, Zai K H ι ds vs → vs.length = ds.length
 | [], _, h => by rw [h.nil_inv]; rfl
 | d :: ds, _, h => by
  obtain ⟨v, ws, rfl, _, q⟩ := h.cons_inv
  simp [q.length]
theorem Zai.append : ∀ {ds es : List D} {vs ws : List V}, Zai K H ι ds vs → Zai K H ι es ws → Zai K H ι (ds ++ es) (vs ++ ws)
 | [], _, _, _, h, q => by rw [h.nil_inv]; exact q
 | d :: ds, _, _, _, h, q => by
  obtain ⟨v, us, rfl, r, t⟩ := h.cons_inv
  exact Zai.cons r (t.append q)
theorem Zai.drop : ∀ {ds : List D} {vs : List V} (n : Nat), Zai K H ι ds vs → Zai K H ι (ds.drop n) (vs.drop n)
 | _, _, 0, h => h
 | [], _, n + 1, h => by rw [h.nil_inv]; exact Zai.nil
 | d :: ds, _, n + 1, h => by
  obtain ⟨v, us, rfl, r, t⟩ := h.cons_inv
  exact t.drop n
theorem Zai.take : ∀ {ds : List D} {vs : List V} (n : Nat), Zai K H ι ds vs → Zai K H ι (ds.take n) (vs.take n)
 | _, _, 0, h => Zai.nil
 | [], _, n + 1, h => by rw [h.nil_inv]; exact Zai.nil
 | d :: ds, _, n + 1, h => by
  obtain ⟨v, us, rfl, r, t⟩ := h.cons_inv
  exact Zai.cons r (t.take n)
theorem Zai.get : ∀ {ds : List D} {vs : List V} {i : Nat} {d : D}, Zai K H ι ds vs → ds[i]? = some d → ∃ v, vs[i]? = some v ∧ Rep K H ι d v
 | [], _, _, _, _, e => by simp at e
 | d :: ds, _, 0, _, h, e => by
  obtain ⟨v, us, rfl, r, t⟩ := h.cons_inv
  simp at e; subst e
  exact ⟨v, rfl, r⟩
 | d :: ds, _, i + 1, _, h, e => by
  obtain ⟨v, us, rfl, r, t⟩ := h.cons_inv
  obtain ⟨w, q, z⟩ := t.get (i := i) (by simpa using e)
  exact ⟨w, by simpa using q, z⟩
theorem Zai.set : ∀ {ds : List D} {vs : List V} {d : D} {v : V} (i : Nat), Zai K H ι ds vs → Rep K H ι d v → Zai K H ι (ds.set i d) (vs.set i v)
 | [], _, _, _, _, h, _ => by rw [h.nil_inv]; exact Zai.nil
 | d :: ds, _, _, _, 0, h, q => by
  obtain ⟨v, us, rfl, r, t⟩ := h.cons_inv
  exact Zai.cons q t
 | d :: ds, _, _, _, i + 1, h, q => by
  obtain ⟨v, us, rfl, r, t⟩ := h.cons_inv
  exact Zai.cons r (t.set i q)
theorem Zai.ints : ∀ (ns : List Int), Zai K H ι (ns.map D.int) (ns.map V.int)
 | [] => Zai.nil
 | n :: ns => Zai.cons (by simp [Rep]) (Zai.ints ns)
theorem Rep.non_inv {v : V} (h : Rep K H ι .non v) : v = .non := by simpa [Rep] using h
theorem Rep.bl_inv {v : V} {b : Bool} (h : Rep K H ι (.bl b) v) : v = .bl b := by simpa [Rep] using h
theorem Rep.int_inv {v : V} {i : Int} (h : Rep K H ι (.int i) v) : v = .int i := by simpa [Rep] using h
theorem Rep.str_inv {v : V} {x : List Nat} (h : Rep K H ι (.str x) v) : v = .str ⟨x.toArray⟩ := by simpa [Rep] using h
theorem Rep.tup_inv {v : V} {ds : List D} (h : Rep K H ι (.tup ds) v) : ∃ a vs, v = .ref a ∧ SqT K H a vs ∧ Zai K H ι ds vs := by simpa [Rep] using h
theorem Rep.scr_inv {v : V} {ds : List D} (h : Rep K H ι (.scr ds) v) : ∃ a vs, v = .ref a ∧ SqF K H a vs ∧ Zai K H ι ds vs := by simpa [Rep] using h
theorem Rep.ref_inv {v : V} {n : Nat} (h : Rep K H ι (.ref n) v) : ∃ a, ι[n]? = some a ∧ v = .ref a := by simpa [Rep] using h
theorem Rep.non : Rep K H ι .non .non := by simp [Rep]
theorem Rep.bl {b : Bool} : Rep K H ι (.bl b) (.bl b) := by simp [Rep]
theorem Rep.int {i : Int} : Rep K H ι (.int i) (.int i) := by simp [Rep]
theorem Rep.str {x : List Nat} : Rep K H ι (.str x) (.str ⟨x.toArray⟩) := by simp [Rep]
theorem Rep.tup {a : Addr} {vs : List V} {ds : List D} (s : SqT K H a vs) (r : Zai K H ι ds vs) : Rep K H ι (.tup ds) (.ref a) := by
 simp only [Rep]; exact ⟨a, vs, rfl, s, r⟩
theorem Rep.ref {a : Addr} {n : Nat} (s : ι[n]? = some a) : Rep K H ι (.ref n) (.ref a) := by
 simp only [Rep]; exact ⟨a, s, rfl⟩
end
def dk : ZbH → Key
 | .inl i => .inl i
 | .inr x => .inr ⟨x.toArray⟩
def KvR (K : PySem.W.Frag) (H : Hp) (ι : List Addr) (kvs : List (ZbH × D)) (ws : List (Key × V)) : Prop :=
 ws.map (·.1) = kvs.map (fun p => dk p.1) ∧ Zai K H ι (kvs.map (·.2)) (ws.map (·.2))
def ZfT (K : PySem.W.Frag) (H : Hp) (ι : List Addr) : MO → Addr → Prop
 | .lst xs, a => ∃ vs, H a = some (.lst vs) ∧ Zai K H ι xs vs
 | .dct kvs, a => ∃ ws, H a = some (.dK ws) ∧ KvR K H ι kvs ws
 | .fdct kvs, a => ∃ ws, (∃ o, H a = some (.frz o (.dK ws))) ∧ KvR K H ι kvs ws
structure ZaG (K : PySem.W.Frag) (H : Hp) (ι : List Addr) (M : Store) : Prop where
 len : ι.length = M.length
 nd : ι.Nodup
 obj : ∀ (n : Nat) o a, M[n]? = some o → ι[n]? = some a → ZfT K H ι o a
def Loose (H : Hp) (p : Addr) : Prop := H p = none ∨ (∃ vs, H p = some (.lst vs)) ∨ ∃ ws, H p = some (.dK ws)
section
variable {K : PySem.W.Frag} {H H' : Hp} {ι ι' : List Addr} {M : Store} {p : Addr} {o : HO}
theorem Loose.ne {a : Addr} {u : HO} (l : Loose H p) (h : H a = some u) (h1 : ∀ vs, u ≠ .lst vs) (h2 : ∀ ws, u ≠ .dK ws) : a ≠ p := by
 rintro rfl
 rcases l with l | ⟨vs, l⟩ | ⟨ws, l⟩
 ·rw [h] at l; cases l
 ·rw [h] at l; exact h1 vs (Option.some.inj l)
 ·rw [h] at l; exact h2 ws (Option.some.inj l)
theorem Loose.tup (l : Loose H p) {a : Addr} {xs : List V} (h : SqT K H a xs) : SqT K (upd H p o) a xs := by
 rcases h with (h | ⟨ob, h⟩) | h
 ·exact .inl (.inl (by rw [ZaB (l.ne h (fun _ z => nomatch z) (fun _ z => nomatch z))]; exact h))
 ·exact .inl (.inr ⟨ob, by rw [ZaB (l.ne h (fun _ z => nomatch z) (fun _ z => nomatch z))]; exact h⟩)
 ·exact .inr h
theorem Loose.scr (l : Loose H p) {a : Addr} {xs : List V} (h : SqF K H a xs) : SqF K (upd H p o) a xs := by
 rcases h with ⟨ob, h⟩ | h
 ·exact .inl ⟨ob, by rw [ZaB (l.ne h (fun _ z => nomatch z) (fun _ z => nomatch z))]; exact h⟩
 ·exact .inr h
theorem Loose.frz (l : Loose H p) {a : Addr} {ob : Obj} {u : HO} (h : H a = some (.frz ob u)) : upd H p o a = some (.frz ob u) := by
 rw [ZaB (l.ne h (fun _ z => nomatch z) (fun _ z => nomatch z))]; exact h
theorem Loose.ext (l : Loose H p) : Ext K H ι (upd H p o) ι := ⟨fun _ _ h => l.tup h, fun _ _ h => l.scr h, fun _ _ h => h, fun _ _ _ h => l.frz h⟩
theorem Loose.extA (l : Loose H p) : Ext K H ι (upd H p o) (ι ++ [p]) := ⟨fun _ _ h => l.tup h, fun _ _ h => l.scr h, fun n a h => by
 rw [List.getElem?_append_left (List.getElem?_eq_some_iff.mp h).1]; exact h, fun _ _ _ h => l.frz h⟩
theorem ZfT.mono {m : MO} {a : Addr} (e : Ext K H ι H' ι') (h : ZfT K H ι m a) (k : H' a = H a) : ZfT K H' ι' m a := by
 cases m with
 | lst xs => obtain ⟨vs, q, r⟩ := h; exact ⟨vs, k.trans q, r.mono e⟩
 | dct kvs => obtain ⟨ws, q, r1, r2⟩ := h; exact ⟨ws, k.trans q, r1, r2.mono e⟩
 | fdct kvs => obtain ⟨ws, ⟨o, q⟩, r1, r2⟩ := h; exact ⟨ws, ⟨o, k.trans q⟩, r1, r2.mono e⟩
theorem ZfT.ne {m : MO} {a : Addr} (h : ZfT K H ι m a) : H a ≠ none := by
 cases m with
 | lst xs => obtain ⟨vs, q, r⟩ := h; rw [q]; simp
 | dct kvs => obtain ⟨ws, q, r⟩ := h; rw [q]; simp
 | fdct kvs => obtain ⟨ws, ⟨o, q⟩, r⟩ := h; rw [q]; simp
theorem ZaG.at (S : ZaG K H ι M) {n : Nat} {m : MO} (h : M[n]? = some m) : ∃ a, ι[n]? = some a ∧ ZfT K H ι m a := by
 have hn : n < ι.length := by rw [S.len]; exact (List.getElem?_eq_some_iff.mp h).1
 exact ⟨ι[n], by simp [hn], S.obj n m _ h (by simp [hn])⟩
theorem ZaG.there (S : ZaG K H ι M) {n : Nat} {a : Addr} (h : ι[n]? = some a) : ∃ m, M[n]? = some m ∧ ZfT K H ι m a := by
 have hn : n < M.length := by rw [← S.len]; exact (List.getElem?_eq_some_iff.mp h).1
 exact ⟨M[n], by simp [hn], S.obj n _ _ (by simp [hn]) h⟩
theorem ZaG.fresh (S : ZaG K H ι M) (hp : H p = none) : p ∉ ι := fun h => by
 obtain ⟨n, hn⟩ := List.getElem?_of_mem h
 obtain ⟨m, _, q⟩ := S.there hn
 exact q.ne hp
theorem ZaG.other (S : ZaG K H ι M) (l : Loose H p) (hp : p ∉ ι) : ZaG K (upd H p o) ι M :=
 ⟨S.len, S.nd, fun n m a h1 h2 => (S.obj n m a h1 h2).mono l.ext (by
  rw [ZaB]; rintro rfl; exact hp (List.mem_of_getElem? h2))⟩
theorem ZaG.new (S : ZaG K H ι M) (hp : H p = none) {m : MO} (h : ZfT K (upd H p o) (ι ++ [p]) m p) : ZaG K (upd H p o) (ι ++ [p]) (M ++ [m]) := by
 have hf := S.fresh hp
 refine ⟨by simp [S.len], ?_, fun n m' a h1 h2 => ?_⟩
 ·exact List.nodup_append.mpr ⟨S.nd, by simp, fun x hx y hy => by
   have e : y = p := by simpa using hy
   subst e
   rintro rfl
   exact hf hx⟩
 ·by_cases hn : n < ι.length
  ·rw [List.getElem?_append_left hn] at h2
   rw [List.getElem?_append_left (by rw [← S.len]; exact hn)] at h1
   refine (S.obj n m' a h1 h2).mono (Loose.extA (.inl hp)) ?_
   rw [ZaB]
   rintro rfl
   exact hf (List.mem_of_getElem? h2)
  ·rw [List.getElem?_append_right (by omega)] at h2
   rw [List.getElem?_append_right (by rw [← S.len]; omega)] at h1
   have hlt : n - ι.length < 1 := by
    have := (List.getElem?_eq_some_iff.mp h2).1
    simpa using this
   have e0 : n - ι.length = 0 := by omega
   rw [e0] at h2
   rw [← S.len, e0] at h1
   simp at h1 h2
   subst h1 h2
   exact h
theorem ZaG.put (S : ZaG K H ι M) {n : Nat} (l0 : Loose H p) (hn : ι[n]? = some p) {m : MO} (h : ZfT K (upd H p o) ι m p) : ZaG K (upd H p o) ι (M.set n m) := by
 obtain ⟨m0, hm0, q0⟩ := S.there hn
 refine ⟨by simp [S.len], S.nd, fun k m' a h1 h2 => ?_⟩
 by_cases hk : k = n
 ·subst hk
  rw [hn] at h2
  cases h2
  have hlt : k < M.length := (List.getElem?_eq_some_iff.mp hm0).1
  rw [List.getElem?_set_self hlt] at h1
  cases h1
  exact h
 ·rw [List.getElem?_set_ne (Ne.symm hk)] at h1
  refine (S.obj k m' a h1 h2).mono (Loose.ext l0) ?_
  rw [ZaB]
  rintro rfl
  have hlt1 := (List.getElem?_eq_some_iff.mp h2)
  have hlt2 := (List.getElem?_eq_some_iff.mp hn)
  exact hk ((List.getElem_inj S.nd).mp (hlt1.2.trans hlt2.2.symm))
theorem ZaG.lst (S : ZaG K H ι M) (hp : H p = none) {xs : List D} {vs : List V} (r : Zai K H ι xs vs) : Ext K H ι (upd H p (.lst vs)) (ι ++ [p]) ∧ ZaG K (upd H p (.lst vs)) (ι ++ [p]) (M ++ [.lst xs]) ∧ Rep K (upd H p (.lst vs)) (ι ++ [p]) (.ref M.length) (.ref p) := by
 have e : Ext K H ι (upd H p (.lst vs)) (ι ++ [p]) := Loose.extA (.inl hp)
 refine ⟨e, S.new hp ⟨vs, Zct, r.mono e⟩, Rep.ref ?_⟩
 rw [← S.len]; simp
theorem ZaG.tupl (S : ZaG K H ι M) (hp : H p = none) {xs : List D} {vs : List V} (r : Zai K H ι xs vs) : Ext K H ι (upd H p (.tup vs)) ι ∧ ZaG K (upd H p (.tup vs)) ι M ∧ Rep K (upd H p (.tup vs)) ι (.tup xs) (.ref p) := by
 have e : Ext K H ι (upd H p (.tup vs)) ι := Loose.ext (.inl hp)
 exact ⟨e, S.other (.inl hp) (S.fresh hp), Rep.tup (SqT.of Zct) (r.mono e)⟩
theorem ZaG.setl (S : ZaG K H ι M) {n : Nat} (l0 : Loose H p) (hn : ι[n]? = some p) {xs : List D} {vs : List V} (r : Zai K H ι xs vs) : Ext K H ι (upd H p (.lst vs)) ι ∧ ZaG K (upd H p (.lst vs)) ι (M.set n (.lst xs)) := by
 have e : Ext K H ι (upd H p (.lst vs)) ι := Loose.ext l0
 exact ⟨e, S.put l0 hn ⟨vs, Zct, r.mono e⟩⟩
end
def Zcp (K : PySem.W.Frag) (H : Hp) (ι : List Addr) (env : ZaO) (σ : St) : Prop :=
 env.length = σ.length ∧ ∀ (i : Nat) d, env[i]? = some (some d) → ∃ v, σ[i]? = some (some v) ∧ Rep K H ι d v
theorem Zcp.mono {K : PySem.W.Frag} {H H' : Hp} {ι ι' : List Addr} {env : ZaO} {σ : St} (r : Zcp K H ι env σ) (e : Ext K H ι H' ι') : Zcp K H' ι' env σ :=
 ⟨r.1, fun i d h => let ⟨v, q, z⟩ := r.2 i d h; ⟨v, q, z.mono e⟩⟩
theorem Zcp.set {K : PySem.W.Frag} {H : Hp} {ι : List Addr} {env : ZaO} {σ : St} {d : D} {v : V} (r : Zcp K H ι env σ) (i : Nat) (h : Rep K H ι d v) : Zcp K H ι (env.set i (some d)) (σ.set i (some v)) := by
 refine ⟨by simp [r.1], fun j e hj => ?_⟩
 by_cases hij : j = i
 ·subst hij
  have hlt : j < env.length := by
   have := (List.getElem?_eq_some_iff.mp hj).1
   simpa using this
  rw [List.getElem?_set_self hlt] at hj
  cases hj
  exact ⟨v, by rw [List.getElem?_set_self (by rw [← r.1]; exact hlt)], h⟩
 ·rw [List.getElem?_set_ne (Ne.symm hij)] at hj
  obtain ⟨w, q, z⟩ := r.2 j e hj
  exact ⟨w, by rw [List.getElem?_set_ne (Ne.symm hij)]; exact q, z⟩
def ZaF (K : PySem.W.Frag) (H : Hp) (ι : List Addr) (Q : VK) (r : R3 D) : Prop := match r with
 | .ok d M' => ∀ v H' ι', Ext K H ι H' ι' → ZaG K H' ι' M' → Rep K H' ι' d v → Q v H'
 | _ => False
def tOf (K : PySem.W.Frag) (f : E3) : TE := fun σ H Q => ∃ ι M env, ZaG K H ι M ∧ Zcp K H ι env σ ∧ ZaF K H ι Q (f env M)
def Zh9 (K : PySem.W.Frag) (H : Hp) (ι : List Addr) (Q : Bool → Hp → Prop) (r : R3 D) : Prop := match r with
 | .ok (.bl b) M' => ∀ H' ι', Ext K H ι H' ι' → ZaG K H' ι' M' → Q b H'
 | _ => False
def tTf (K : PySem.W.Frag) (f : E3) : TT := fun σ H Q => ∃ ι M env, ZaG K H ι M ∧ Zcp K H ι env σ ∧ Zh9 K H ι Q (f env M)
def ZmI (K : PySem.W.Frag) (H : Hp) (ι : List Addr) (Q : List V → Hp → Prop) (r : R3 (List D)) : Prop := match r with
 | .ok ds M' => ∀ vs H' ι', Ext K H ι H' ι' → ZaG K H' ι' M' → Zai K H' ι' ds vs → Q vs H'
 | _ => False
def tAf (K : PySem.W.Frag) (f : EL3) : TA := fun σ H Q => ∃ ι M env, ZaG K H ι M ∧ Zcp K H ι env σ ∧ ZmI K H ι Q (f env M)
def ZnN (K : PySem.W.Frag) (H : Hp) (ι : List Addr) (Q : Option Int → Hp → Prop) (r : R3 (Option Int)) : Prop := match r with
 | .ok o M' => ∀ H' ι', Ext K H ι H' ι' → ZaG K H' ι' M' → Q o H'
 | _ => False
def tOo (K : PySem.W.Frag) (f : EO3) : TO := fun σ H Q => ∃ ι M env, ZaG K H ι M ∧ Zcp K H ι env σ ∧ ZnN K H ι Q (f env M)
def ZfR (K : PySem.W.Frag) (H : Hp) (ι : List Addr) (E : Ends) (r : O3) : Prop := match r with
 | .nx env' M' => ∀ σ' H' ι', Ext K H ι H' ι' → ZaG K H' ι' M' → Zcp K H' ι' env' σ' → E.nx σ' H'
 | .bk env' M' => ∀ σ' H' ι', Ext K H ι H' ι' → ZaG K H' ι' M' → Zcp K H' ι' env' σ' → E.bk σ' H'
 | .ct env' M' => ∀ σ' H' ι', Ext K H ι H' ι' → ZaG K H' ι' M' → Zcp K H' ι' env' σ' → E.ct σ' H'
 | .rt d M' => ∀ v H' ι', Ext K H ι H' ι' → ZaG K H' ι' M' → Rep K H' ι' d v → E.rt v H'
 | _ => False
def tSf (K : PySem.W.Frag) (f : S3) : TS := fun E σ H => ∃ ι M env, ZaG K H ι M ∧ Zcp K H ι env σ ∧ ZfR K H ι E (f env M)
def C3 (X : Cx) (e : Expr) (f : E3) : Prop := PE X e (tOf X.K f)
def CT (X : Cx) (e : Expr) (f : E3) : Prop := PT X e (tTf X.K f)
def CA (X : Cx) (es : List Expr) (f : EL3) : Prop := PA X es (tAf X.K f)
def CO (X : Cx) (e : Option Expr) (f : EO3) : Prop := PO X e (tOo X.K f)
def CS (X : Cx) (st : Stmt) (f : S3) : Prop := PS X st (tSf X.K f)
def CSs (X : Cx) (st : List Stmt) (f : S3) : Prop := PSs X st (tSf X.K f)
theorem _root_.L2.PE.imp {X : Cx} {e : Expr} {t t' : TE} (h : PE X e t) (i : ∀ σ H Q, t' σ H Q → t σ H Q) : PE X e t' := fun pins s σ H Q I q => h pins s σ H Q I (i σ H Q q)
theorem _root_.L2.PT.imp {X : Cx} {e : Expr} {t t' : TT} (h : PT X e t) (i : ∀ σ H Q, t' σ H Q → t σ H Q) : PT X e t' := fun pins s σ H Q I q => h pins s σ H Q I (i σ H Q q)
theorem _root_.L2.PA.imp {X : Cx} {e : List Expr} {t t' : TA} (h : PA X e t) (i : ∀ σ H Q, t' σ H Q → t σ H Q) : PA X e t' := fun pos pins s σ H Q I q => h pos pins s σ H Q I (i σ H Q q)
theorem _root_.L2.PO.imp {X : Cx} {e : Option Expr} {t t' : TO} (h : PO X e t) (i : ∀ σ H Q, t' σ H Q → t σ H Q) : PO X e t' := fun pins s σ H Q I q => h pins s σ H Q I (i σ H Q q)
theorem _root_.L2.PS.imp {X : Cx} {e : Stmt} {t t' : TS} (h : PS X e t) (i : ∀ D σ H, t' D σ H → t D σ H) : PS X e t' := fun pins s σ H D I q => h pins s σ H D I (i D σ H q)
theorem _root_.L2.PSs.imp {X : Cx} {e : List Stmt} {t t' : TS} (h : PSs X e t) (i : ∀ D σ H, t' D σ H → t D σ H) : PSs X e t' := fun pins s σ H D I q => h pins s σ H D I (i D σ H q)
theorem _root_.L2.OpR.imp {X : Cx} {f : Value → Value → Sem Value} {r r' : R2} (h : OpR X f r) (i : ∀ x y H Q, r' x y H Q → r x y H Q) : OpR X f r' := fun pins s σ H x y v u Q I rx ry q => h pins s σ H x y v u Q I rx ry (i x y H Q q)
theorem _root_.L2.UnR.imp {X : Cx} {f : Value → Sem Value} {r r' : V → Hp → VK → Prop} (h : UnR X f r) (i : ∀ x H Q, r' x H Q → r x H Q) : UnR X f r' := fun pins s σ H x v Q I rx q => h pins s σ H x v Q I rx (i x H Q q)
theorem _root_.L2.Zb2.imp {X : Cx} {f : Value} {r r' : List V → Hp → VK → Prop} (h : Zb2 X f r) (i : ∀ x H Q, r' x H Q → r x H Q) : Zb2 X f r' := fun pins s σ H xs us Q I rx q => h pins s σ H xs us Q I rx (i xs H Q q)
theorem _root_.L2.IxR.imp {X : Cx} {r r' : R2} (h : IxR X r) (i : ∀ x y H Q, r' x y H Q → r x y H Q) : IxR X r' := fun value slice pins s σ H x y v u Q I rx ry q hs => h value slice pins s σ H x y v u Q I rx ry (i x y H Q q) hs
theorem _root_.L2.SlR.imp {X : Cx} {r r' : V → Option Int → Option Int → Hp → VK → Prop} (h : SlR X r) (i : ∀ x lo hi H Q, r' x lo hi H Q → r x lo hi H Q) : SlR X r' := fun pins s σ H x v vl vu lo hi sl Q I rx hs pl pu q => h pins s σ H x v vl vu lo hi sl Q I rx hs pl pu (i x lo hi H Q q)
section
variable {K : PySem.W.Frag} {H H1 : Hp} {ι ι1 : List Addr}
theorem ZaF.up {Q : VK} {r : R3 D} (e : Ext K H ι H1 ι1) (h : ZaF K H ι Q r) : ZaF K H1 ι1 Q r := by
 cases r with
 | ok d M => exact fun v H' ι' e' S r => h v H' ι' (e.trans e') S r
 | exc x M => exact h
 | bad => exact h
theorem Zh9.up {Q : Bool → Hp → Prop} {r : R3 D} (e : Ext K H ι H1 ι1) (h : Zh9 K H ι Q r) : Zh9 K H1 ι1 Q r := by
 cases r with
 | ok d M => cases d <;> first | exact h | exact fun H' ι' e' S => h H' ι' (e.trans e') S
 | exc x M => exact h
 | bad => exact h
theorem ZfR.up {Q : Ends} {r : O3} (e : Ext K H ι H1 ι1) (h : ZfR K H ι Q r) : ZfR K H1 ι1 Q r := by
 cases r with
 | nx d M => exact fun v H' ι' e' S r => h v H' ι' (e.trans e') S r
 | bk d M => exact fun v H' ι' e' S r => h v H' ι' (e.trans e') S r
 | ct d M => exact fun v H' ι' e' S r => h v H' ι' (e.trans e') S r
 | rt d M => exact fun v H' ι' e' S r => h v H' ι' (e.trans e') S r
 | exc x M => exact h
 | bad => exact h
theorem ZaF.ok {Q : VK} {d : D} {M : Store} {v : V} (h : ZaF K H ι Q (.ok d M)) (S : ZaG K H ι M) (r : Rep K H ι d v) : Q v H := h v H ι Ext.refl S r
theorem ZaF.bind {α : Type} {Q : VK} {r : R3 α} {k : α → Store → R3 D} (h : ZaF K H ι Q (r.bind k)) : ∃ a M, r = .ok a M ∧ ZaF K H ι Q (k a M) := by
 cases r with
 | ok a M => exact ⟨a, M, rfl, h⟩
 | exc x M => exact h.elim
 | bad => exact h.elim
theorem ZmI.bind {α : Type} {Q : List V → Hp → Prop} {r : R3 α} {k : α → Store → R3 (List D)} (h : ZmI K H ι Q (r.bind k)) : ∃ a M, r = .ok a M ∧ ZmI K H ι Q (k a M) := by
 cases r with
 | ok a M => exact ⟨a, M, rfl, h⟩
 | exc x M => exact h.elim
 | bad => exact h.elim
theorem ZnN.bind {α : Type} {Q : Option Int → Hp → Prop} {r : R3 α} {k : α → Store → R3 (Option Int)} (h : ZnN K H ι Q (r.bind k)) : ∃ a M, r = .ok a M ∧ ZnN K H ι Q (k a M) := by
 cases r with
 | ok a M => exact ⟨a, M, rfl, h⟩
 | exc x M => exact h.elim
 | bad => exact h.elim
theorem Zh9.bind {α : Type} {Q : Bool → Hp → Prop} {r : R3 α} {k : α → Store → R3 D} (h : Zh9 K H ι Q (r.bind k)) : ∃ a M, r = .ok a M ∧ Zh9 K H ι Q (k a M) := by
 cases r with
 | ok a M => exact ⟨a, M, rfl, h⟩
 | exc x M => exact h.elim
 | bad => exact h.elim
end
def r2 (K : PySem.W.Frag) (op : D → D → Store → R3 D) : R2 := fun x y H Q => ∃ ι M a b, ZaG K H ι M ∧ Rep K H ι a x ∧ Rep K H ι b y ∧ ZaF K H ι Q (op a b M)
def r1 (K : PySem.W.Frag) (op : D → Store → R3 D) : V → Hp → VK → Prop := fun x H Q => ∃ ι M a, ZaG K H ι M ∧ Rep K H ι a x ∧ ZaF K H ι Q (op a M)
def rB (K : PySem.W.Frag) (b : List D → Store → R3 D) : List V → Hp → VK → Prop := fun xs H Q => ∃ ι M ds, ZaG K H ι M ∧ Zai K H ι ds xs ∧ ZaF K H ι Q (b ds M)
def rM (K : PySem.W.Frag) (m : D → List D → Store → R3 D) : V → List V → Hp → VK → Prop := fun x xs H Q => ∃ ι M a ds, ZaG K H ι M ∧ Rep K H ι a x ∧ Zai K H ι ds xs ∧ ZaF K H ι Q (m a ds M)
def rS (K : PySem.W.Frag) : V → Option Int → Option Int → Hp → VK → Prop := fun x lo hi H Q => ∃ ι M a, ZaG K H ι M ∧ Rep K H ι a x ∧ ZaF K H ι Q (Zfj a lo hi M)
theorem Zjf {K : PySem.W.Frag} {op : D → D → Store → R3 D} {f g : E3} (σ : St) (H : Hp) (Q : VK) (h : tOf K (e2 op f g) σ H Q) : tOp (r2 K op) (tOf K f) (tOf K g) σ H Q := by
 obtain ⟨ι, M, env, S, E, h⟩ := h
 obtain ⟨a, M1, e1, h⟩ := ZaF.bind h
 obtain ⟨b, M2, e2, h⟩ := ZaF.bind h
 refine ⟨ι, M, env, S, E, ?_⟩
 rw [e1]
 intro v H1 ι1 x1 S1 r1
 refine ⟨ι1, M1, env, S1, E.mono x1, ?_⟩
 rw [e2]
 intro u H2 ι2 x2 S2 r2
 exact ⟨ι2, M2, a, b, S2, r1.mono x2, r2, (h.up x1).up x2⟩
theorem Zqk {K : PySem.W.Frag} {op : D → Store → R3 D} {f : E3} (σ : St) (H : Hp) (Q : VK) (h : tOf K (e1 op f) σ H Q) : tUn (r1 K op) (tOf K f) σ H Q := by
 obtain ⟨ι, M, env, S, E, h⟩ := h
 obtain ⟨a, M1, e1, h⟩ := ZaF.bind h
 refine ⟨ι, M, env, S, E, ?_⟩
 rw [e1]
 intro v H1 ι1 x1 S1 r1
 exact ⟨ι1, M1, a, S1, r1, h.up x1⟩
section
variable {X : Cx} {a b c e o : Expr} {es : List Expr} {pos p : Pos} {f g h : E3} {gl : EL3}
theorem Zc (i : Nat) {x : Str} (hN : X.N[i]? = some x := by rfl) (hv : Vis X.env.scope x := by first | exact Or.inl rfl | exact Or.inr (Or.inl rfl) | exact Or.inr (Or.inr rfl)) (hd : (x == ("__debug__" : Str)) = false := by decide)
  (hcd : (x == ("__classdict__" : Str)) = false := by decide) : C3 X (.Name x pos) (Za i) := (ZpJ hN hv hd hcd).imp fun σ H Q ⟨ι, M, env, S, E, h⟩ => by
 unfold Za at h
 cases q : env[i]? with
 | none => rw [q] at h; exact h.elim
 | some od =>
  cases od with
  | none => rw [q] at h; exact h.elim
  | some d =>
   rw [q] at h
   obtain ⟨v, e1, r⟩ := E.2 i d q
   exact ⟨v, e1, ZaF.ok h S r⟩
theorem Zi {i j} : C3 X (.Constant (.int i) j pos) (eC (.int i)) := Zqh.imp fun σ H Q ⟨ι, M, env, S, E, h⟩ => ZaF.ok h S Rep.int
theorem Zhh {i j} : C3 X (.Constant (.bool i) j pos) (eC (.bl i)) := Zrg.imp fun σ H Q ⟨ι, M, env, S, E, h⟩ => ZaF.ok h S Rep.bl
theorem Zdd {j} : C3 X (.Constant .none j pos) (eC .non) := Zqc.imp fun σ H Q ⟨ι, M, env, S, E, h⟩ => ZaF.ok h S Rep.non
theorem Zan {x : Str} {cs : List Nat} {j} (hx : x = ⟨cs.toArray⟩ := by decide +kernel) : C3 X (.Constant (.str x) j pos) (eC (.str cs)) := Zp6.imp fun σ H Q ⟨ι, M, env, S, E, h⟩ => by
 subst hx
 exact ZaF.ok h S Rep.str
theorem Zx {op : Operator} {q : D → D → Store → R3 D} (ho : OpR X (binaryOp op) (r2 X.K q)) (ha : C3 X a f) (hb : C3 X b g) : C3 X (.BinOp a op b pos) (e2 q f g) := (Zq0 ho ha hb).imp Zjf
theorem Zk3 {op : UnaryOp} {q : D → Store → R3 D} (ho : UnR X (unaryOp op) (r1 X.K q)) (ha : C3 X a f) : C3 X (.UnaryOp op a pos) (e1 q f) := (ZqY ho ha).imp Zqk
theorem Zc3 {op : CmpOp} {q : D → D → Store → R3 D} (ho : OpR X (compareOp op) (r2 X.K q)) (ha : C3 X a f) (hb : C3 X b g) (hm : behindInMarks op b = false := by rfl) : C3 X (.Compare a [op] [b] pos) (e2 q f g) := (Zom ho ha hb hm).imp Zjf
theorem ZiJ {K : PySem.W.Frag} {H : Hp} {ι : List Addr} {Q : Bool → Hp → Prop} {r : R3 D} (h : Zh9 K H ι Q r) : ZaF K H ι (fun x H' => ∃ k, x = .bl k ∧ Q k H') r := by
 cases r with
 | ok d M =>
  cases d with
  | bl b => exact fun v H' ι' e S r => ⟨b, r.bl_inv, h H' ι' e S⟩
  | _ => exact h.elim
 | exc x M => exact h.elim
 | bad => exact h.elim
theorem Zdx (h : C3 X e f) (he : ∀ whole, isTrue e X.env whole = (do let v ← whole; standAt e.pos; holding [v] (truthy v)) := by intro _; rfl) : CT X e f := (ZpX h he).imp fun σ H Q ⟨ι, M, env, S, E, h⟩ => ⟨ι, M, env, S, E, ZiJ h⟩
theorem Zaa {op : CmpOp} {q : D → D → Store → R3 D} (ho : OpR X (compareOp op) (r2 X.K q)) (ha : C3 X a f) (hb : C3 X b g) (hm : behindInMarks op b = false := by rfl) : CT X (.Compare a [op] [b] pos) (e2 q f g) :=
 (Zoo ho ha hb hm).imp fun σ H Q ⟨ι, M, env, S, E, h⟩ => Zjf σ H _ ⟨ι, M, env, S, E, ZiJ h⟩
end
end L3
namespace L3
open PySem PySem.Spec PyProof.Rows L2
section
variable {X : Cx} {a b c e o : Expr} {es rest : List Expr} {pos p : Pos} {f g h : E3} {gl : EL3}
theorem ZiN {op} (h : C3 X a f) : C3 X (.BoolOp op [a] pos) f := ZpP h
theorem Zi8 (ha : C3 X a f) (hb : C3 X (.BoolOp .And (b :: rest) pos) g) : C3 X (.BoolOp .And (a :: b :: rest) pos) (ZdB f g) := (ZqB ha hb).imp fun σ H Q ⟨ι, M, env, S, E, h⟩ => by
 obtain ⟨d, M1, e1, h⟩ := ZaF.bind h
 refine ⟨ι, M, env, S, E, ?_⟩
 rw [e1]
 intro v H1 ι1 x1 S1 r1
 cases d with
 | bl k =>
  refine ⟨k, r1.bl_inv, ?_⟩
  cases k with
  | true => rw [if_pos rfl]; exact ⟨ι1, M1, env, S1, E.mono x1, h.up x1⟩
  | false => rw [if_neg (by decide)]; exact ZaF.ok (h.up x1) S1 Rep.bl
 | _ => exact h.elim
theorem Zsg (ha : C3 X a f) (hb : C3 X (.BoolOp .Or (b :: rest) pos) g) : C3 X (.BoolOp .Or (a :: b :: rest) pos) (eOr f g) := (Zro ha hb).imp fun σ H Q ⟨ι, M, env, S, E, h⟩ => by
 obtain ⟨d, M1, e1, h⟩ := ZaF.bind h
 refine ⟨ι, M, env, S, E, ?_⟩
 rw [e1]
 intro v H1 ι1 x1 S1 r1
 cases d with
 | bl k =>
  refine ⟨k, r1.bl_inv, ?_⟩
  cases k with
  | false => rw [if_neg (by decide)]; exact ⟨ι1, M1, env, S1, E.mono x1, h.up x1⟩
  | true => rw [if_pos rfl]; exact ZaF.ok (h.up x1) S1 Rep.bl
 | _ => exact h.elim
theorem Zrq (ha : C3 X a f) : C3 X (.UnaryOp .Not a pos) (e1 Zb5 f) := (Zpm ha).imp fun σ H Q ⟨ι, M, env, S, E, h⟩ => by
 obtain ⟨d, M1, e1, h⟩ := ZaF.bind h
 refine ⟨ι, M, env, S, E, ?_⟩
 rw [e1]
 intro v H1 ι1 x1 S1 r1
 cases d with
 | bl k => exact ⟨k, r1.bl_inv, ZaF.ok (h.up x1) S1 Rep.bl⟩
 | _ => exact h.elim
def CW (X : Cx) (e : Expr) (f : E3) : Prop := PW X e (tTf X.K f)
theorem CW.ct (h : CW X e f) : CT X e f := PW.pt h
theorem PW.imp {t t' : TT} (h : PW X e t) (i : ∀ σ H Q, t' σ H Q → t σ H Q) : PW X e t' := fun wh pins s σ H Q I q => h wh pins s σ H Q I (i σ H Q q)
theorem Zef (ha : CT X a f) : CW X (.BoolOp .And [a] pos) f := Zop ha
theorem Zep (ha : CT X a f) : CW X (.BoolOp .Or [a] pos) f := ZpI ha
theorem Ze4 (ha : CT X a f) (hb : CW X (.BoolOp .And (b :: rest) pos) g) : CW X (.BoolOp .And (a :: b :: rest) pos) (ZdB f g) := PW.imp (Zp1 ha hb) fun σ H Q ⟨ι, M, env, S, E, h⟩ => by
 obtain ⟨d, M1, e1, h⟩ := Zh9.bind h
 refine ⟨ι, M, env, S, E, ?_⟩
 rw [e1]
 cases d with
 | bl k =>
  intro H1 ι1 x1 S1
  cases k with
  | true => rw [if_pos rfl]; exact ⟨ι1, M1, env, S1, E.mono x1, h.up x1⟩
  | false => rw [if_neg (by decide)]; exact h H1 ι1 x1 S1
 | _ => exact h.elim
theorem ZeB (ha : CT X a f) (hb : CW X (.BoolOp .Or (b :: rest) pos) g) : CW X (.BoolOp .Or (a :: b :: rest) pos) (eOr f g) := PW.imp (Zrl ha hb) fun σ H Q ⟨ι, M, env, S, E, h⟩ => by
 obtain ⟨d, M1, e1, h⟩ := Zh9.bind h
 refine ⟨ι, M, env, S, E, ?_⟩
 rw [e1]
 cases d with
 | bl k =>
  intro H1 ι1 x1 S1
  cases k with
  | false => rw [if_neg (by decide)]; exact ⟨ι1, M1, env, S1, E.mono x1, h.up x1⟩
  | true => rw [if_pos rfl]; exact h H1 ι1 x1 S1
 | _ => exact h.elim
theorem Zem (ha : CT X a f) : CT X (.UnaryOp .Not a pos) (e1 Zb5 f) := (ZpB ha).imp fun σ H Q ⟨ι, M, env, S, E, h⟩ => by
 obtain ⟨d, M1, e1, h⟩ := Zh9.bind h
 refine ⟨ι, M, env, S, E, ?_⟩
 rw [e1]
 cases d with
 | bl k => exact fun H1 ι1 x1 S1 => h H1 ι1 x1 S1
 | _ => exact h.elim
theorem ZmW (hc : CT X c f) (ha : C3 X a g) (hb : C3 X b h) : C3 X (.IfExp c a b pos) (eIf f g h) := (Zne hc ha hb).imp fun σ H Q ⟨ι, M, env, S, E, h⟩ => by
 obtain ⟨d, M1, e1, h⟩ := ZaF.bind h
 refine ⟨ι, M, env, S, E, ?_⟩
 rw [e1]
 cases d with
 | bl k =>
  intro H1 ι1 x1 S1
  cases k with
  | true => rw [if_pos rfl]; exact ⟨ι1, M1, env, S1, E.mono x1, h.up x1⟩
  | false => rw [if_neg (by decide)]; exact ⟨ι1, M1, env, S1, E.mono x1, h.up x1⟩
 | _ => exact h.elim
theorem Zk : CA X [] Zj := ZnM.imp fun σ H Q ⟨ι, M, env, S, E, h⟩ => h [] H ι Ext.refl S Zai.nil
theorem Zd (ha : C3 X e f) (hr : CA X es gl) (hs : starEach (e :: es) X.env = (false, eval e X.env) :: starEach es X.env := by rfl) : CA X (e :: es) (Zb f gl) := (Zjq ha hr hs).imp fun σ H Q ⟨ι, M, env, S, E, h⟩ => by
 obtain ⟨d, M1, e1, h⟩ := ZmI.bind h
 obtain ⟨ds, M2, e2, h⟩ := ZmI.bind h
 refine ⟨ι, M, env, S, E, ?_⟩
 rw [e1]
 intro v H1 ι1 x1 S1 r1
 refine ⟨ι1, M1, env, S1, E.mono x1, ?_⟩
 rw [e2]
 intro vs H2 ι2 x2 S2 r2
 exact h (v :: vs) H2 ι2 (x1.trans x2) S2 (Zai.cons (r1.mono x2) r2)
theorem Za2 {x1} (h : CA X es gl) : C3 X (.Tuple es x1 pos) (ZaH gl) := (Zqd h).imp fun σ H Q ⟨ι, M, env, S, E, h⟩ => by
 obtain ⟨ds, M1, e1, h⟩ := ZaF.bind h
 refine ⟨ι, M, env, S, E, ?_⟩
 rw [e1]
 intro vs H1 ι1 x1 S1 r1
 by_cases hz : ds.length ≤ SZ
 ·rw [if_pos hz] at h
  refine ⟨by rw [r1.length]; exact Nat.le_trans hz ZcM, fun p hp => ?_⟩
  obtain ⟨x2, S2, r2⟩ := S1.tupl hp r1
  exact h _ _ _ (x1.trans x2) S2 r2
 ·rw [if_neg hz] at h; exact h.elim
theorem Zcs (h : CA X es gl) : C3 X (.List es pos) (Zca gl) := (Zpr h).imp fun σ H Q ⟨ι, M, env, S, E, h⟩ => by
 obtain ⟨ds, M1, e1, h⟩ := ZaF.bind h
 refine ⟨ι, M, env, S, E, ?_⟩
 rw [e1]
 intro vs H1 ι1 x1 S1 r1
 by_cases hz : ds.length ≤ SZ
 ·rw [if_pos hz] at h
  refine ⟨by rw [r1.length]; exact Nat.le_trans hz ZcM, fun p hp => ?_⟩
  obtain ⟨x2, S2, r2⟩ := S1.lst hp r1
  exact h _ _ _ (x1.trans x2) S2 r2
 ·rw [if_neg hz] at h; exact h.elim
theorem ZnI {K : PySem.W.Frag} {q : List D → Store → R3 D} (σ : St) (H : Hp) (Q : VK) (h : tOf K (Zaj q gl) σ H Q) : tCB (rB K q) (tAf K gl) σ H Q := by
 obtain ⟨ι, M, env, S, E, h⟩ := h
 obtain ⟨ds, M1, e1, h⟩ := ZaF.bind h
 refine ⟨ι, M, env, S, E, ?_⟩
 rw [e1]
 intro vs H1 ι1 x1 S1 r1
 exact ⟨ι1, M1, ds, S1, r1, h.up x1⟩
theorem Zbn {x : Str} {id : String} {q : List D → Store → R3 D} (hc : Zb2 X (.builtin id) (rB X.K q)) (hm : X.mg x = none) (hv : bootBuiltins x = some (.builtin id)) (ha : CA X (e :: es) gl) (hg : Gl X x := by rfl) (hn : x ≠ "__name__" := by decide) (hdb : (x == ("__debug__" : Str)) = false := by decide)
  (he : starEach (e :: es) X.env = (false, eval e X.env) :: starEach es X.env := by rfl) (hpl : (backTo pos (starEach es X.env)).any (·.1) = false := by rfl) : C3 X (.Call (.Name x p) (e :: es) [] pos) (Zaj q gl) := (Zj6 hc hg hm hv ha hn hdb he hpl).imp ZnI
theorem ZcV {x : Str} {T : String} {q : List D → Store → R3 D} (hc : Zb2 X (.type T) (rB X.K q)) (hm : X.mg x = none) (hv : bootBuiltins x = some (.type T)) (ha : CA X (e :: es) gl) (hg : Gl X x := by rfl) (hn : x ≠ "__name__" := by decide) (hdb : (x == ("__debug__" : Str)) = false := by decide)
  (he : starEach (e :: es) X.env = (false, eval e X.env) :: starEach es X.env := by rfl) (hpl : (backTo pos (starEach es X.env)).any (·.1) = false := by rfl) : C3 X (.Call (.Name x p) (e :: es) [] pos) (Zaj q gl) := (Zml hc hg hm hv ha hn hdb he hpl).imp ZnI
theorem Zv (hr : IxR X (r2 X.K Ze)) (ha : C3 X a f) (hb : C3 X b g) (hs : ZlJ b := by exact fun _ _ => rfl) : C3 X (.Subscript a b pos) (e2 Ze f g) := (ZqM hr ha hb hs).imp Zjf
theorem Zba : CO X none ZaD := ZoM.imp fun σ H Q ⟨ι, M, env, S, E, h⟩ => h H ι Ext.refl S
theorem Za9 (h : C3 X e f) : CO X (some e) (ZaE f) := (ZoT h).imp fun σ H Q ⟨ι, M, env, S, E, h⟩ => by
 obtain ⟨d, M1, e1, h⟩ := ZnN.bind h
 refine ⟨ι, M, env, S, E, ?_⟩
 rw [e1]
 intro v H1 ι1 x1 S1 r1
 cases d with
 | int i => exact ⟨i, r1.int_inv, h H1 ι1 x1 S1⟩
 | _ => exact h.elim
theorem ZdM {lo hi : Option Expr} {ol oh : EO3} {p2 : Pos} (hr : SlR X (rS X.K)) (he : C3 X e f) (hl : CO X lo ol) (hu : CO X hi oh) : C3 X (.Subscript e (.Slice lo hi none p2) pos) (eSl f ol oh) := (Znn hr he hl hu).imp fun σ H Q ⟨ι, M, env, S, E, h⟩ => by
 obtain ⟨d, M1, e1, h⟩ := ZaF.bind h
 obtain ⟨l, M2, e2, h⟩ := ZaF.bind h
 obtain ⟨u, M3, e3, h⟩ := ZaF.bind h
 refine ⟨ι, M, env, S, E, ?_⟩
 rw [e1]
 intro v H1 ι1 x1 S1 r1
 refine ⟨ι1, M1, env, S1, E.mono x1, ?_⟩
 rw [e2]
 intro H2 ι2 x2 S2
 refine ⟨ι2, M2, env, S2, (E.mono x1).mono x2, ?_⟩
 rw [e3]
 intro H3 ι3 x3 S3
 exact ⟨ι3, M3, d, S3, (r1.mono x2).mono x3, ((h.up x1).up x2).up x3⟩
theorem Zad : CSs X [] Zw := ZoI.imp fun D σ H ⟨ι, M, env, S, E, h⟩ => h σ H ι Ext.refl S E
theorem Zo {st : Stmt} {u : S3} (h : CS X st u) : CSs X [st] u := ZoJ h
theorem Zh {st : Stmt} {sts : List Stmt} {u w : S3} (h1 : CS X st u) (h2 : CSs X sts w) : CSs X (st :: sts) (Zr u w) := (Zns h1 h2).imp fun D σ H ⟨ι, M, env, S, E, h⟩ => by
 refine ⟨ι, M, env, S, E, ?_⟩
 have h' : ZfR X.K H ι D (match u env M with | .nx env' M' => w env' M' | o => o) := h
 cases q : u env M with
 | nx env' M' => rw [q] at h'; exact fun σ' H' ι' x S' E' => ⟨ι', M', env', S', E', h'.up x⟩
 | _ => rw [q] at h'; exact h'
theorem Zar {c1 : Expr} {x y : List Stmt} {u w : S3} (hc : CT X c1 f) (ha : CSs X x u) (hb : CSs X y w) : CS X (.If c1 x y pos) (sIf f u w) := (Zra hc ha hb).imp fun D σ H ⟨ι, M, env, S, E, h⟩ => by
 refine ⟨ι, M, env, S, E, ?_⟩
 unfold sIf at h
 cases q : f env M with
 | ok d M1 =>
  rw [q] at h
  cases d with
  | bl k =>
   intro H1 ι1 x1 S1
   cases k with
   | true => rw [if_pos rfl]; exact ⟨ι1, M1, env, S1, E.mono x1, h.up x1⟩
   | false => rw [if_neg (by decide)]; exact ⟨ι1, M1, env, S1, E.mono x1, h.up x1⟩
  | _ => exact h.elim
 | exc x M1 => rw [q] at h; exact h.elim
 | bad => rw [q] at h; exact h.elim
theorem Zab (h : C3 X e f) : CS X (.Return (some e) pos) (Zz f) := (Zpn h).imp fun D σ H ⟨ι, M, env, S, E, h⟩ => by
 refine ⟨ι, M, env, S, E, ?_⟩
 unfold Zz at h
 cases q : f env M with
 | ok d M1 => rw [q] at h; exact h
 | exc x M1 => rw [q] at h; exact h.elim
 | bad => rw [q] at h; exact h.elim
theorem Zhu (h : C3 X e f) (hs : swapsWith e none pos.line X.env = pure false := by rfl) : CS X (.Expr e pos) (Zal f) := (Zoi h hs).imp fun D σ H ⟨ι, M, env, S, E, h⟩ => by
 refine ⟨ι, M, env, S, E, ?_⟩
 unfold Zal at h
 cases q : f env M with
 | ok d M1 => rw [q] at h; exact fun v H1 ι1 x1 S1 r1 => h σ H1 ι1 x1 S1 (E.mono x1)
 | exc x M1 => rw [q] at h; exact h.elim
 | bad => rw [q] at h; exact h.elim
theorem Zah (i : Nat) {x : Str} {pos' : Pos} (hN : X.N.Nodup) (he : C3 X e f) (hi : X.N[i]? = some x := by rfl) (hx : Loc X.env.scope x := by first | exact Or.inl rfl | exact Or.inr rfl) (hs : swapsWith e (some (.Name x pos')) pos.line X.env = pure false := by rfl)
  (hf : X.fn x = true ∨ X.env.scope.names.lookup x = some .local := by first | exact .inl rfl | exact .inr rfl) : CS X (.Assign [.Name x pos'] e pos) (Zac i f) := (ZqE hN hi hx he hs hf).imp fun D σ H ⟨ι, M, env, S, E, h⟩ => by
 refine ⟨ι, M, env, S, E, ?_⟩
 unfold Zac at h
 cases q : f env M with
 | ok d M1 => rw [q] at h; exact fun v H1 ι1 x1 S1 r1 => h _ H1 ι1 x1 S1 ((E.mono x1).set i r1)
 | exc x M1 => rw [q] at h; exact h.elim
 | bad => rw [q] at h; exact h.elim
end
def sp3 (K : PySem.W.Frag) (n : Nat) (F : F3) : Sp := fun vs H Q _ => ∃ ι M ds, ZaG K H ι M ∧ Zai K H ι ds vs ∧ ds.length = n ∧ ZaF K H ι Q (F ds M)
section
variable {K : PySem.W.Frag} {H H' : Hp} {ι ι' : List Addr} {M M' : Store}
mutual
theorem Rep.below : ∀ {d : D} {v : V}, Rep K H ι d v → L3.below ι.length d = true
 | .non, _, _ => rfl
 | .bl _, _, _ => rfl
 | .int _, _, _ => rfl
 | .str _, _, _ => rfl
 | .tup ds, _, h => by
  obtain ⟨a, vs, _, _, r⟩ := h.tup_inv
  simp only [L3.below]
  exact Zai.belowL (ds := ds) r
 | .scr ds, _, h => by
  obtain ⟨a, vs, _, _, r⟩ := h.scr_inv
  simp only [L3.below]
  exact Zai.belowL (ds := ds) r
 | .ref n, _, h => by
  obtain ⟨a, q, _⟩ := h.ref_inv
  simp only [L3.below, decide_eq_true_eq]
  exact (List.getElem?_eq_some_iff.mp q).1
theorem Zai.belowL : ∀ {ds : List D} {vs : List V}, Zai K H ι ds vs → L3.belowL ι.length ds = true
 | [], _, _ => rfl
 | d :: ds, _, h => by
  obtain ⟨v, ws, _, r, q⟩ := h.cons_inv
  simp only [L3.belowL, Bool.and_eq_true]
  exact ⟨Rep.below (d := d) r, Zai.belowL (ds := ds) q⟩
end
mutual
theorem Rep.cut {n : Nat} : ∀ {d : D} {v : V}, L3.below n d = true → Rep K H ι d v → Rep K H (ι.take n) d v
 | .non, _, _, h => by simpa [Rep] using h
 | .bl _, _, _, h => by simpa [Rep] using h
 | .int _, _, _, h => by simpa [Rep] using h
 | .str _, _, _, h => by simpa [Rep] using h
 | .tup ds, _, hb, h => by
  obtain ⟨a, vs, rfl, s, r⟩ := h.tup_inv
  exact Rep.tup s (Zai.cut (ds := ds) (by simpa only [L3.below] using hb) r)
 | .scr ds, _, hb, h => by
  obtain ⟨a, vs, rfl, s, r⟩ := h.scr_inv
  simp only [Rep]
  exact ⟨a, vs, rfl, s, Zai.cut (ds := ds) (by simpa only [L3.below] using hb) r⟩
 | .ref k, _, hb, h => by
  obtain ⟨a, q, rfl⟩ := h.ref_inv
  refine Rep.ref ?_
  rw [List.getElem?_take_of_lt (by simpa [L3.below] using hb)]
  exact q
theorem Zai.cut {n : Nat} : ∀ {ds : List D} {vs : List V}, L3.belowL n ds = true → Zai K H ι ds vs → Zai K H (ι.take n) ds vs
 | [], _, _, h => by simpa [Zai] using h
 | d :: ds, _, hb, h => by
  obtain ⟨v, ws, rfl, r, q⟩ := h.cons_inv
  simp only [L3.belowL, Bool.and_eq_true] at hb
  exact Zai.cons (Rep.cut (d := d) hb.1 r) (Zai.cut (ds := ds) hb.2 q)
end
theorem ZfT.below {m : MO} {a : Addr} (h : ZfT K H ι m a) : ZgQ ι.length m = true := by
 cases m with
 | lst xs => obtain ⟨vs, _, r⟩ := h; exact r.belowL
 | dct kvs => obtain ⟨ws, _, _, r⟩ := h; exact r.belowL
 | fdct kvs => obtain ⟨ws, _, _, r⟩ := h; exact r.belowL
theorem ZfT.cut {n : Nat} {m : MO} {a : Addr} (hb : ZgQ n m = true) (h : ZfT K H ι m a) : ZfT K H (ι.take n) m a := by
 cases m with
 | lst xs => obtain ⟨vs, q, r⟩ := h; exact ⟨vs, q, r.cut hb⟩
 | dct kvs => obtain ⟨ws, q, r1, r2⟩ := h; exact ⟨ws, q, r1, r2.cut hb⟩
 | fdct kvs => obtain ⟨ws, q, r1, r2⟩ := h; exact ⟨ws, q, r1, r2.cut hb⟩
theorem ZaG.cut {n : Nat} (S : ZaG K H ι M) (h : (M.take n).all (ZgQ n) = true) : ZaG K H (ι.take n) (M.take n) := by
 refine ⟨by simp [S.len], S.nd.sublist (List.take_sublist _ _), fun k m a h1 h2 => ?_⟩
 have hk : k < n := by
  have := (List.getElem?_eq_some_iff.mp h1).1
  rw [List.length_take] at this
  omega
 have hb : ZgQ n m = true := List.all_eq_true.mp h m (List.mem_of_getElem? h1)
 rw [List.getElem?_take_of_lt hk] at h1 h2
 exact (S.obj k m a h1 h2).cut hb
theorem ZlF {Q : VK} {d : D} {v : V} (S : ZaG K H ι M) (x : Ext K H ι H' ι') (S' : ZaG K H' ι' M') (r : Rep K H' ι' d v) (h : ZaF K H ι Q (Za0 M d M')) : Q v H' := by
 unfold Za0 at h
 split at h
 ·rename_i c
  simp only [Bool.and_eq_true, Bool.or_eq_true, decide_eq_true_eq] at c
  have hall : (M'.take M.length).all (ZgQ M.length) = true := by
   rcases c.2 with e | e
   ·rw [e, List.all_eq_true]
    intro m hm
    obtain ⟨n, hn⟩ := List.getElem?_of_mem hm
    obtain ⟨a, q, w⟩ := S.at hn
    rw [← S.len]
    exact w.below
   ·exact e
  refine h v H' (ι'.take M.length) ⟨x.tup, x.scr, fun n a q => ?_, x.frz⟩ (S'.cut hall) (r.cut c.1)
  rw [List.getElem?_take_of_lt (by rw [← S.len]; exact (List.getElem?_eq_some_iff.mp q).1)]
  exact x.pre n a q
 ·exact h v H' ι' x S' r
end
theorem Zcp.start {K : PySem.W.Frag} {H : Hp} {ι : List Addr} {ds : List D} {vs : List V} (r : Zai K H ι ds vs) (n : Nat) : Zcp K H ι (ds.map some ++ List.replicate n none) (vs.map some ++ List.replicate n none) := by
 refine ⟨by simp [r.length], fun i d h => ?_⟩
 by_cases hi : i < ds.length
 ·rw [List.getElem?_append_left (by simpa using hi), List.getElem?_map] at h
  cases q : ds[i]? with
  | none => rw [q] at h; simp at h
  | some d' =>
   rw [q] at h
   simp at h
   subst h
   obtain ⟨v, e, z⟩ := r.get q
   refine ⟨v, ?_, z⟩
   rw [List.getElem?_append_left (by simpa [r.length] using hi), List.getElem?_map, e]
   rfl
 ·rw [List.getElem?_append_right (by simpa using hi), List.getElem?_replicate] at h
  split at h <;> simp at h
section
variable {P : Program} {w : World} {K : PySem.W.Frag} {mg : Str → Option Value} {base : Heap}
theorem fn3 {x qual : Str} {st : Stmt} {f : Addr} {fd : FuncData} {N ps : List Str} {k : Nat} {body : S3} (F : Fun K x qual st f fd) (S : Zaz N ps (Zt st))
  (hb : ∀ (cdv : Value) (A : Around) (outer : List Env) (s : Shared) (H : Hp) (E : XK), Zd4 k (A.deeper (envOfC qual (Zt st) s.heap.objs.size f cdv)) → CSs (ZkJ CX0 P w K mg base N qual (Zt st) f cdv A outer s H E).nox (Zap st) body) :
  ZhO P w K mg base CX0 (k + 1) f fd ps (sp3 K ps.length (mkF ps.length N.length body)) := by
 refine F.ok S (fun vs H Q E ⟨ι, M, ds, _, r, l, _⟩ => by rw [r.length, l]) fun cdv A outer s H vs Q E hr ⟨ι, M, ds, SR, r, l, h⟩ => ?_
 refine ⟨_, hb cdv A outer s H E hr, ι, M, ds.map some ++ List.replicate (N.length - ps.length) none, SR, ?_, ?_⟩
 ·have e : L2.start N vs = vs.map some ++ List.replicate (N.length - ps.length) none := by unfold L2.start; rw [r.length, l]
  rw [e]
  exact Zcp.start r _
 ·unfold mkF at h
  rw [if_pos l] at h
  cases q : body (ds.map some ++ List.replicate (N.length - ps.length) none) M with
  | nx env' M' => rw [q] at h; exact fun σ' H' ι' x S' E' => ZlF SR x S' Rep.non h
  | rt d M' => rw [q] at h; exact fun v H' ι' x S' r' => ZlF SR x S' r' h
  | bk _ _ => rw [q] at h; exact h.elim
  | ct _ _ => rw [q] at h; exact h.elim
  | exc _ _ => rw [q] at h; exact h.elim
  | bad => rw [q] at h; exact h.elim
def Fn3 (P : Program) (w : World) (K : PySem.W.Frag) (mg : Str → Option Value) (base : Heap) (k : Nat) (x : Str) (ps : List Str) (F : F3) : Prop :=
 (∀ ds M, ds.length ≠ ps.length → F ds M = .bad) ∧ ∃ f fd, mg x = some (.ref f) ∧ PySem.W.keepIn K (.ref f) = true ∧ Binds K fd ps [] ∧ ZhO P w K mg base CX0 k f fd ps (sp3 K ps.length F)
def Zav (K : PySem.W.Frag) (mg : Str → Option Value) (x : Str) (st : Stmt) (ps : List Str) : Prop := ∃ f fd, Fun K x x st f fd ∧ mg x = some (.ref f) ∧ Binds K fd ps []
theorem Fn3.of {x : Str} {st : Stmt} {N ps : List Str} {k : Nat} {body : S3} (d : Zav K mg x st ps) (S : Zaz N ps (Zt st))
  (hb : ∀ (f : Addr) (cdv : Value) (A : Around) (outer : List Env) (s : Shared) (H : Hp) (E : XK), Zd4 k (A.deeper (envOfC x (Zt st) s.heap.objs.size f cdv)) → CSs (ZkJ CX0 P w K mg base N x (Zt st) f cdv A outer s H E).nox (Zap st) body) :
  Fn3 P w K mg base (k + 1) x ps (mkF ps.length N.length body) := by
 obtain ⟨f, fd, F, m, bi⟩ := d
 exact ⟨fun ds M h => if_neg h, f, fd, m, F.kp, bi, fn3 F S (hb f)⟩
end
section
variable {X : Cx} {e : Expr} {es : List Expr} {pos p : Pos} {gl : EL3} {x : Str} {k : Nat} {ps : List Str} {F : F3}
theorem ZaC (G : Fn3 X.prog X.w X.K X.mg X.base k x ps F) (hr : Zd4 k X.A) (ha : CA X (e :: es) gl) (hg : Gl X x := by rfl) (hdb : (x == ("__debug__" : Str)) = false := by decide)
  (he : starEach (e :: es) X.env = (false, eval e X.env) :: starEach es X.env := by rfl) (hpl : (backTo pos (starEach es X.env)).any (·.1) = false := by rfl) : C3 X (.Call (.Name x p) (e :: es) [] pos) (Zae F gl) := by
 obtain ⟨hn, f, fd, m, kp, bi, ok⟩ := G
 refine (ZoO ok hr hg m kp bi .nil ZqU ha hdb he hpl).imp fun σ H Q ⟨ι, M, env, S, E, h⟩ => ?_
 obtain ⟨ds, M1, e1, h⟩ := ZaF.bind h
 refine ⟨ι, M, env, S, E, ?_⟩
 rw [e1]
 intro vs H1 ι1 x1 S1 r1
 have hl : ds.length = ps.length := by
  refine Decidable.byContradiction fun q => ?_
  rw [hn ds M1 q] at h
  exact h.elim
 exact ⟨ι1, M1, ds, S1, by rw [List.append_nil]; exact r1, hl, h.up x1⟩
end
end L3
namespace L3
open PySem PySem.Spec PyProof.Rows L2
def tGf (K : PySem.W.Frag) (g : G3) : TG := fun v σ H Q => ∃ ι M env d env', ZaG K H ι M ∧ Zcp K H ι env σ ∧ Rep K H ι d v ∧ g d env = some env' ∧ ∀ σ', Zcp K H ι env' σ' → Q σ' H
def tGs (K : PySem.W.Frag) (is : List Nat) : TGs := fun vs σ H Q => ∃ ι M env ds env', ZaG K H ι M ∧ Zcp K H ι env σ ∧ Zai K H ι ds vs ∧ bindAll is ds env = some env' ∧ ∀ σ', Zcp K H ι env' σ' → Q σ' H
def CG (X : Cx) (tg : Expr) (g : G3) : Prop := PG X tg (tGf X.K g)
def CGs (X : Cx) (tg : List Expr) (is : List Nat) : Prop := PGs X tg (tGs X.K is)
theorem PG.imp {X : Cx} {e : Expr} {t t' : TG} (h : PG X e t) (i : ∀ v σ H Q, t' v σ H Q → t v σ H Q) : PG X e t' := fun pins s σ H v u Q I r q => h pins s σ H v u Q I r (i v σ H Q q)
theorem PGs.imp {X : Cx} {e : List Expr} {t t' : TGs} (h : PGs X e t) (i : ∀ v σ H Q, t' v σ H Q → t v σ H Q) : PGs X e t' := fun pins s σ H v u Q I r q => h pins s σ H v u Q I r (i v σ H Q q)
section
variable {X : Cx} {e : Expr} {es : List Expr} {pos : Pos}
theorem Zc7 (i : Nat) {x : Str} (hN : X.N.Nodup) (hi : X.N[i]? = some x := by rfl) (hx : Loc X.env.scope x := by first | exact Or.inl rfl | exact Or.inr rfl)
  (hf : X.fn x = true ∨ X.env.scope.names.lookup x = some .local := by first | exact .inl rfl | exact .inr rfl) : CG X (.Name x pos) (Zcg i) := PG.imp (ZlI hN hi hx hf) fun v σ H Q ⟨ι, M, env, d, env', S, E, r, q, h⟩ => by
 cases q
 exact h _ (E.set i r)
theorem Zeh : CGs X [] [] := PGs.imp ZlG fun v σ H Q ⟨ι, M, env, ds, env', S, E, r, q, h⟩ => by
 cases ds with
 | nil => cases q; exact ⟨r.nil_inv, h σ E⟩
 | cons d ds => cases q
theorem Za1 (i : Nat) {is : List Nat} {x : Str} (hN : X.N.Nodup) (ht : CGs X es is) (hi : X.N[i]? = some x := by rfl) (hx : Loc X.env.scope x := by first | exact Or.inl rfl | exact Or.inr rfl)
  (hf : X.fn x = true ∨ X.env.scope.names.lookup x = some .local := by first | exact .inl rfl | exact .inr rfl) (hs : (assignEach (.Name x pos :: es) X.env).map (·.2) = assign (.Name x pos) X.env :: (assignEach es X.env).map (·.2) := by rfl) :
  CGs X (.Name x pos :: es) (i :: is) := PGs.imp (Zh6 (ZlI hN hi hx hf) ht hs) fun v σ H Q ⟨ι, M, env, ds, env', S, E, r, q, h⟩ => by
 cases ds with
 | nil => cases q
 | cons d ds =>
  obtain ⟨v, ws, rfl, r1, r2⟩ := r.cons_inv
  exact ⟨v, ws, rfl, ι, M, env.set i (some d), ds, env', S, E.set i r1, r2, q, h⟩
theorem ZfD {is : List Nat} {k : Nat} (hc : X.calm = true) (h : CGs X es is) (hl : es.length = is.length := by rfl) (hn : (assignEach es X.env).length = is.length := by rfl) (hst : (assignEach es X.env).findIdx? (·.1) = none := by rfl) : CG X (.Tuple es k pos) (Zch is) :=
 PG.imp (Zn7 (n := is.length) hc h hn hst) fun v σ H Q ⟨ι, M, env, d, env', S, E, r, q, h⟩ => by
  cases d with
  | tup ds =>
   obtain ⟨a, vs, rfl, s, r⟩ := r.tup_inv
   have hlen : ∀ (is : List Nat) (ds : List D) (env env' : ZaO), bindAll is ds env = some env' → ds.length = is.length := by
    intro is
    induction is with
    | nil => intro ds env env' h; cases ds with | nil => rfl | cons d ds => cases h
    | cons i is ih => intro ds env env' h; cases ds with | nil => cases h | cons d ds => simp [ih ds _ _ h]
   exact ⟨a, vs, rfl, s, by rw [r.length]; exact hlen _ _ _ _ q, ι, M, env, ds, env', S, E, r, q, h⟩
  | _ => cases q
end
def Zk6 (K : PySem.W.Frag) (H : Hp) (ι : List Addr) (it : It3) (J : It) : Prop := ∀ (i : Nat) H2 ι2 M2, Ext K H ι H2 ι2 → ZaG K H2 ι2 M2 → locked it M2 = true →
 (∀ d, it.items[i]? = some d → J.go i H2 ∧ ∀ x H3, J.yld i H2 x H3 → H3 = H2 ∧ Rep K H2 ι2 d x) ∧ (i = it.items.length → J.stop i H2)
def Zlt (K : PySem.W.Frag) (H : Hp) (ι : List Addr) (R : It → Hp → Prop) (r : R3 It3) : Prop := match r with
 | .ok it M' => ∀ J H' ι', Ext K H ι H' ι' → ZaG K H' ι' M' → Zk6 K H' ι' it J → R J H'
 | _ => False
def tIf (K : PySem.W.Frag) (g : I3) : TI := fun σ H R => ∃ ι M env, ZaG K H ι M ∧ Zcp K H ι env σ ∧ Zlt K H ι R (g env M)
def CI (X : Cx) (tg e : Expr) (g : I3) : Prop := PI X tg e (tIf X.K g)
theorem PI.imp {X : Cx} {tg e : Expr} {t t' : TI} (h : PI X tg e t) (i : ∀ σ H Q, t' σ H Q → t σ H Q) : PI X tg e t' := fun pins s σ H Q I q => h pins s σ H Q I (i σ H Q q)
theorem PI.or {X : Cx} {tg e : Expr} {t t' : TI} (h : PI X tg e t) (h' : PI X tg e t') : PI X tg e (fun σ H R => t σ H R ∨ t' σ H R) := fun pins s σ H Q I q => q.elim (h pins s σ H Q I) (h' pins s σ H Q I)
theorem Zlt.bind {K : PySem.W.Frag} {H : Hp} {ι : List Addr} {α : Type} {Q : It → Hp → Prop} {r : R3 α} {k : α → Store → R3 It3} (h : Zlt K H ι Q (r.bind k)) : ∃ a M, r = .ok a M ∧ Zlt K H ι Q (k a M) := by
 cases r with
 | ok a M => exact ⟨a, M, rfl, h⟩
 | exc x M => exact h.elim
 | bad => exact h.elim
section
variable {K : PySem.W.Frag} {H : Hp} {ι : List Addr}
end
section
variable {X : Cx} {tg e a b : Expr} {pos p : Pos} {f g : E3}
theorem Zqi (h : C3 X e f) (hs : PI X tg e (fun σ H R => tOf X.K f σ H fun x H1 => ∃ z : Str, x = .str z ∧ z.length ≤ SZ ∧ ∀ J, (∀ ι, Zk6 X.K H1 ι ⟨z.cps.toList.map fun c => .str [c], none⟩ J) → R J H1)) : CI X tg e (Zhq f) :=
 PI.imp (PI.or (ZpF h) (PI.or (ZoA h) hs)) fun σ H R ⟨ι, M, env, S, E, h⟩ => by
  obtain ⟨d, M1, e1, h⟩ := Zlt.bind h
  cases d with
  | tup ds =>
   refine .inl ⟨ι, M, env, S, E, ?_⟩
   rw [e1]
   intro v H1 ι1 x1 S1 r1
   obtain ⟨a, vs, rfl, s, r⟩ := r1.tup_inv
   refine ⟨a, rfl, ⟨vs, s⟩, h _ H1 ι1 x1 S1 ?_⟩
   intro i H2 ι2 M2 x S2 _
   refine ⟨fun d hd => ?_, fun hl => ⟨vs, x.tup _ _ s, by rw [r.length, hl]; exact Nat.le_refl _⟩⟩
   obtain ⟨v, hv, rv⟩ := r.get hd
   refine ⟨⟨vs, v, x.tup _ _ s, hv⟩, fun y H3 hy => ⟨hy.1, ?_⟩⟩
   have e := hy.2 vs (x.tup _ _ s)
   rw [hv] at e
   cases e
   exact rv.mono x
  | scr ds =>
   refine .inr (.inl ⟨ι, M, env, S, E, ?_⟩)
   rw [e1]
   intro v H1 ι1 x1 S1 r1
   obtain ⟨a, vs, rfl, s, r⟩ := r1.scr_inv
   refine ⟨a, rfl, ⟨vs, s.sq⟩, h _ H1 ι1 x1 S1 ?_⟩
   intro i H2 ι2 M2 x S2 _
   refine ⟨fun d hd => ?_, fun hl => ⟨vs, (x.scr _ _ s).sq, by rw [r.length, hl]; exact Nat.le_refl _⟩⟩
   obtain ⟨v, hv, rv⟩ := r.get hd
   refine ⟨⟨vs, v, (x.scr _ _ s).sq, hv⟩, fun y H3 hy => ⟨hy.1, ?_⟩⟩
   have e := hy.2 vs (x.scr _ _ s).sq
   rw [hv] at e
   cases e
   exact rv.mono x
  | ref n =>
   refine .inr (.inl ⟨ι, M, env, S, E, ?_⟩)
   rw [e1]
   intro v H1 ι1 x1 S1 r1
   cases hm : M1[n]? with
   | none => simp only [hm] at h; exact h.elim
   | some o =>
    cases o with
    | dct kvs => simp only [hm] at h; exact h.elim
    | fdct kvs => simp only [hm] at h; exact h.elim
    | lst ds =>
     simp only [hm] at h
     obtain ⟨a, ha, rfl⟩ := r1.ref_inv
     obtain ⟨vs, q, r⟩ := S1.obj n _ a hm ha
     refine ⟨a, rfl, ⟨vs, SqL.of q⟩, h _ H1 ι1 x1 S1 ?_⟩
     intro i H2 ι2 M2 x S2 lk
     have lk' : M2[n]? = some (.lst ds) := of_decide_eq_true lk
     obtain ⟨vs2, q2, r2⟩ := S2.obj n _ a lk' (x.pre _ _ ha)
     refine ⟨fun d hd => ?_, fun hl => ⟨vs2, SqL.of q2, by rw [r2.length, hl]; exact Nat.le_refl _⟩⟩
     obtain ⟨v, hv, rv⟩ := r2.get hd
     refine ⟨⟨vs2, v, SqL.of q2, hv⟩, fun y H3 hy => ⟨hy.1, ?_⟩⟩
     have e := hy.2 vs2 (SqL.of q2)
     rw [hv] at e
     cases e
     exact rv
  | str z =>
   refine .inr (.inr ⟨ι, M, env, S, E, ?_⟩)
   rw [e1]
   intro v H1 ι1 x1 S1 r1
   have hv := r1.str_inv
   subst hv
   by_cases hz : z.length ≤ SZ
   ·simp only [if_pos hz] at h
    refine ⟨_, rfl, by simpa [Str.length] using hz, fun J hJ => h J H1 ι1 x1 S1 ?_⟩
    simpa using hJ ι1
   ·simp only [if_neg hz] at h; exact h.elim
  | non => exact h.elim
  | bl b => exact h.elim
  | int i => exact h.elim
theorem ZnQ {K : PySem.W.Frag} {H : Hp} {ι : List Addr} (lo : Int) (n : Nat) : Zk6 K H ι ⟨Zc1 lo n, none⟩ (Itr lo n) := by
 intro i H2 ι2 M2 x S _
 refine ⟨fun d hd => ?_, fun hl => ?_⟩
 ·unfold Zc1 at hd
  rw [List.getElem?_map] at hd
  cases q : (List.range n)[i]? with
  | none => rw [q] at hd; cases hd
  | some k =>
   rw [q] at hd
   obtain ⟨hi, e⟩ := List.getElem?_eq_some_iff.mp q
   rw [List.getElem_range] at e
   subst e
   have hd' : D.int (lo + (i : Int)) = d := by simpa using hd
   subst hd'
   exact ⟨(by show i < n; simpa using hi), fun y H3 hy => ⟨hy.1, by rw [hy.2]; exact Rep.int⟩⟩
 ·show n ≤ i
  rw [hl]
  simp [Zc1]
theorem Zde (hm : X.mg "range" = none) (h : C3 X a f) (hg : Gl X "range" := by rfl) (hs : starEach [a] X.env = [(false, eval a X.env)] := by rfl) (hs' : starEach (a :: []) X.env = (false, eval a X.env) :: starEach [] X.env := by rfl) : CI X tg (.Call (.Name "range" p) [a] [] pos) (ZbJ f) :=
 PI.imp (Zmx hg hm (Zd h Zk hs') hs) fun σ H R ⟨ι, M, env, S, E, h⟩ => by
  obtain ⟨d, M1, e1, h⟩ := Zlt.bind h
  refine ⟨ι, M, env, S, E, ?_⟩
  have e2 : Zb f Zj env M = .ok [d] M1 := by unfold Zb; rw [e1]; rfl
  rw [e2]
  intro vs H1 ι1 x1 S1 r1
  obtain ⟨v, ws, rfl, r, q⟩ := r1.cons_inv
  have := q.nil_inv
  subst this
  cases d with
  | int j =>
   have hv := r.int_inv
   subst hv
   by_cases hj : j ≤ 1000000 ∧ -1000000 ≤ j
   ·simp only [if_pos hj] at h
    exact ⟨j, rfl, by omega, by omega, h _ H1 ι1 x1 S1 (ZnQ 0 j.toNat)⟩
   ·simp only [if_neg hj] at h; exact h.elim
  | _ => exact h.elim
theorem Zjx {iter : Expr} {body : List Stmt} {i : I3} {g : G3} {u : S3} (hxe : X.xe = fun _ _ => False) (hc : X.calm = true) (hi : CI X tg iter i) (hg : CG X tg g) (hb : CSs X body u) (hs : ∀ x, foldedSetIterable iter X.env x = pure x := by intro _; rfl) :
  CS X (.For tg iter body [] pos) (ZjB i g u) := (ZnS (by rw [hxe]; exact PassesOwn.never) hc hi hg hb hs).imp fun D σ H ⟨ι, M, env, S, E, h⟩ => by
 unfold ZjB at h
 cases q : i env M with
 | exc x M1 => rw [q] at h; exact h.elim
 | bad => rw [q] at h; exact h.elim
 | ok it M1 =>
  rw [q] at h
  refine ⟨ι, M, env, S, E, ?_⟩
  rw [q]
  intro J H1 ι1 x1 S1 ok
  refine ⟨fun i m σ2 H2 => m = it.items.length - i ∧ i ≤ it.items.length ∧ ∃ ι2 M2 env2, Ext X.K H1 ι1 H2 ι2 ∧ ZaG X.K H2 ι2 M2 ∧ Zcp X.K H2 ι2 env2 σ2 ∧ ZfR X.K H2 ι2 D (ZeA it g u (it.items.drop i) env2 M2),
   ⟨_, rfl, Nat.zero_le _, ι1, M1, env, Ext.refl, S1, E.mono x1, ZfR.up x1 h⟩, ?_⟩
  rintro i m σ2 H2 ⟨rfl, hi, ι2, M2, env2, x2, S2, E2, h2⟩
  by_cases hlt : i < it.items.length
  ·have hd : it.items[i]? = some it.items[i] := by simp [hlt]
   rw [List.drop_eq_getElem_cons hlt] at h2
   unfold ZeA at h2
   by_cases lk : locked it M2 = true
   ·rw [if_pos lk] at h2
    obtain ⟨go, yl⟩ := (ok i H2 ι2 M2 x2 S2 lk).1 _ hd
    cases eg : g it.items[i] env2 with
    | none => rw [eg] at h2; exact h2.elim
    | some env3 =>
     rw [eg] at h2
     refine .inr ⟨go, fun σ' H' => ∃ ι3 M3 env4, Ext X.K H2 ι2 H' ι3 ∧ ZaG X.K H' ι3 M3 ∧ Zcp X.K H' ι3 env4 σ' ∧ ZfR X.K H' ι3 D (ZeA it g u (it.items.drop (i + 1)) env4 M3),
      fun σ' H' ⟨ι3, M3, env4, x3, S3, E3, h3⟩ => ⟨it.items.length - (i + 1), by omega, rfl, hlt, ι3, M3, env4, x2.trans x3, S3, E3, h3⟩, fun x H' hy => ?_⟩
     obtain ⟨rfl, rx⟩ := yl x H' hy
     refine ⟨ι2, M2, env2, _, env3, S2, E2, rx, eg, fun σ' E' => ⟨ι2, M2, env3, S2, E', ?_⟩⟩
     cases qu : u env3 M2 with
     | nx e' M' => simp only [qu] at h2; exact fun σ' H' ι' x' S' E' => ⟨ι', M', e', x', S', E', h2.up x'⟩
     | ct e' M' => simp only [qu] at h2; exact fun σ' H' ι' x' S' E' => ⟨ι', M', e', x', S', E', h2.up x'⟩
     | bk e' M' => simp only [qu] at h2; exact h2
     | rt d M' => simp only [qu] at h2; exact h2
     | exc x' M' => simp only [qu] at h2; exact h2.elim
     | bad => simp only [qu] at h2; exact h2.elim
   ·rw [if_neg lk] at h2; exact h2.elim
  ·have e0 : i = it.items.length := by omega
   subst e0
   rw [List.drop_length] at h2
   unfold ZeA at h2
   by_cases lk : locked it M2 = true
   ·rw [if_pos lk] at h2
    exact .inl ⟨(ok _ H2 ι2 M2 x2 S2 lk).2 rfl, h2 σ2 H2 ι2 Ext.refl S2 E2⟩
   ·rw [if_neg lk] at h2; exact h2.elim
theorem ZnE {c1 : Expr} {body : List Stmt} {u : S3} (hxe : X.xe = fun _ _ => False) (hc : CT X c1 f) (hb : CSs X body u) : CS X (.While c1 body [] pos) (Zll f u) := (Zn6 (by rw [hxe]; exact PassesOwn.never) hc hb).imp fun D σ H ⟨ι, M, env, S, E, h⟩ => by
 refine ⟨fun m σ2 H2 => ∃ ι2 M2 env2, ZaG X.K H2 ι2 M2 ∧ Zcp X.K H2 ι2 env2 σ2 ∧ ZfR X.K H2 ι2 D (ZeJ f u m env2 M2), ⟨1000000, ι, M, env, S, E, h⟩, ?_⟩
 rintro m σ2 H2 ⟨ι2, M2, env2, S2, E2, h2⟩
 cases m with
 | zero => exact h2.elim
 | succ m =>
  refine ⟨ι2, M2, env2, S2, E2, ?_⟩
  unfold ZeJ at h2
  cases q : f env2 M2 with
  | exc x M1 => rw [q] at h2; exact h2.elim
  | bad => rw [q] at h2; exact h2.elim
  | ok d M1 =>
   rw [q] at h2
   cases d with
   | bl k =>
    cases k with
    | false =>
     intro H3 ι3 x3 S3
     rw [if_neg (by decide)]
     exact h2 σ2 H3 ι3 x3 S3 (E2.mono x3)
    | true =>
     intro H3 ι3 x3 S3
     rw [if_pos rfl]
     refine ⟨fun σ' H' => ∃ ι4 M4 env4, ZaG X.K H' ι4 M4 ∧ Zcp X.K H' ι4 env4 σ' ∧ ZfR X.K H' ι4 D (ZeJ f u m env4 M4), fun σ' H' q => ⟨m, Nat.lt_succ_self _, q⟩, ι3, M1, env2, S3, E2.mono x3, ?_⟩
     have h3 := ZfR.up x3 h2
     cases qu : u env2 M1 with
     | nx e' M' => simp only [qu] at h3; exact fun σ' H' ι' x' S' E' => ⟨ι', M', e', S', E', h3.up x'⟩
     | ct e' M' => simp only [qu] at h3; exact fun σ' H' ι' x' S' E' => ⟨ι', M', e', S', E', h3.up x'⟩
     | bk e' M' => simp only [qu] at h3; exact h3
     | rt d M' => simp only [qu] at h3; exact h3
     | exc x' M' => simp only [qu] at h3; exact h3.elim
     | bad => simp only [qu] at h3; exact h3.elim
   | _ => exact h2.elim
end
end L3
namespace L3
open PySem PySem.Spec PyProof.Rows L2
theorem Rep.non_iff {K : PySem.W.Frag} {H : Hp} {ι : List Addr} {d : D} {v : V} (r : Rep K H ι d v) : decide (v = V.non) = decide (d = D.non) := by
 cases d with
 | non => rw [r.non_inv]; rfl
 | bl b => rw [r.bl_inv]; simp
 | int i => rw [r.int_inv]; simp
 | str x => rw [r.str_inv]; simp
 | tup ds => obtain ⟨a, vs, rfl, _⟩ := r.tup_inv; simp
 | scr ds => obtain ⟨a, vs, rfl, _⟩ := r.scr_inv; simp
 | ref n => obtain ⟨a, _, rfl⟩ := r.ref_inv; simp
theorem Zgc {x y : List Nat} : decide (V.str ⟨x.toArray⟩ = V.str ⟨y.toArray⟩) = (x == y) := by
 by_cases h : x = y
 ·subst h; simp
 ·rw [decide_eq_false (fun e => h (by injection e with e1; injection e1 with e2; simpa using congrArg Array.toList e2))]
  exact (beq_eq_false_iff_ne.mpr h).symm
section
variable {X : Cx}
theorem ZnU : OpR X (binaryOp .Add) (fun x y H Q => ∃ a b ys, x = .ref a ∧ y = .ref b ∧ SqT X.K H a [] ∧ SqT X.K H b ys ∧ Q (.ref b) H) := by
 intro pins s σ H x y v u Q I rx ry h
 obtain ⟨a, b, ys, rfl, rfl, ha, hb, q⟩ := h
 cases rx
 cases ry
 obtain ⟨its, r1, p1, _⟩ := I.tuple ha
 obtain ⟨its2, r2, p2, _⟩ := I.tuple hb
 cases r1
 obtain ⟨⟨cls, dd, data, sl⟩, ho, hc, n, hd⟩ := id p1
 obtain ⟨⟨cls2, dd2, data2, sl2⟩, ho2, hc2, n2, hd2⟩ := id p2
 simp only at hc hd hc2 hd2
 subst hc hd hc2 hd2
 exact concat_meets ⟨_, ho, rfl⟩ ⟨_, ho2, rfl⟩ noFill_tuple_add seq_tuple_add PySem.F.slot_tuple_add PySem.F.entry_tuple_add (PySem.F.args_tuple_add_2 _ _)
   (tuple_addW0 a b _ its2.toArray n n2 dd dd2 sl sl2 (by simp)) ⟨ho, ho2, ⟨.ref b, H, I, rfl, q⟩⟩
theorem Zos (x y : List Nat) : (⟨x.toArray⟩ : Str) ++ ⟨y.toArray⟩ = ⟨(x ++ y).toArray⟩ := by
 show Str.append _ _ = _
 unfold Str.append
 simp
theorem ZaQ : OpR X (binaryOp .Add) (r2 X.K Zaf) := OpR.imp (OpR.or Zp4 (OpR.or Zk2 (OpR.or Zpw (OpR.or ZoB ZnU)))) fun x y H Q ⟨ι, M, a, b, S, ra, rb, h⟩ => by
 cases a with
 | int i => cases b with
  | int j => exact .inl ⟨i, j, ra.int_inv, rb.int_inv, ZaF.ok h S Rep.int⟩
  | _ => exact h.elim
 | str x => cases b with
  | str y =>
   simp only [Zaf] at h
   split at h
   ·rename_i hz
    refine .inr (.inl ⟨_, _, ra.str_inv, rb.str_inv, ?_, ?_⟩)
    ·have := ZcM
     simp only [Str.length, List.size_toArray]
     omega
    ·rw [Zos]; exact ZaF.ok h S Rep.str
   ·exact h.elim
  | _ => exact h.elim
 | tup x => cases b with
  | tup y =>
   simp only [Zaf] at h
   split at h
   ·rename_i hz
    obtain ⟨p, vs, rfl, s, r⟩ := ra.tup_inv
    obtain ⟨q, ws, rfl, s', r'⟩ := rb.tup_inv
    by_cases hv : vs = []
    ·subst hv
     have hx : x = [] := by have := r.length; simpa using this.symm
     subst hx
     exact .inr (.inr (.inr (.inr ⟨p, q, ws, rfl, rfl, s, s', ZaF.ok h S (Rep.tup s' r')⟩)))
    ·refine .inr (.inr (.inr (.inl ⟨p, q, vs, ws, rfl, rfl, s, s', hv, ?_, fun hw => ?_, fun hw p' hp => ?_⟩)))
     ·have := ZcM
      rw [r.length, r'.length]
      omega
     ·subst hw
      have hy : y = [] := by have := r'.length; simpa using this.symm
      subst hy
      rw [List.append_nil] at h
      exact ZaF.ok h S (Rep.tup s r)
     ·obtain ⟨x2, S2, r2⟩ := S.tupl hp (r.append r')
      exact h _ _ _ x2 S2 r2
   ·exact h.elim
  | _ => exact h.elim
 | ref n => cases b with
  | ref m =>
   simp only [Zaf] at h
   cases hn : M[n]? with
   | none => simp only [hn] at h; exact h.elim
   | some o =>
    cases o with
    | dct _ => simp only [hn] at h; exact h.elim
    | fdct _ => simp only [hn] at h; exact h.elim
    | lst x =>
     cases hm : M[m]? with
     | none => simp only [hn, hm] at h; exact h.elim
     | some o =>
      cases o with
      | dct _ => simp only [hn, hm] at h; exact h.elim
      | fdct _ => simp only [hn, hm] at h; exact h.elim
      | lst y =>
       simp only [hn, hm] at h
       split at h
       ·rename_i hz
        obtain ⟨p, hp, rfl⟩ := ra.ref_inv
        obtain ⟨q, hq, rfl⟩ := rb.ref_inv
        obtain ⟨vs, e1, r1⟩ := S.obj n _ p hn hp
        obtain ⟨ws, e2, r2⟩ := S.obj m _ q hm hq
        refine .inr (.inr (.inl ⟨p, q, vs, ws, rfl, rfl, e1, e2, ?_, fun p' hp' => ?_⟩))
        ·have := ZcM
         rw [r1.length, r2.length]
         omega
        ·obtain ⟨x2, S2, r3⟩ := S.lst hp' (r1.append r2)
         exact h _ _ _ x2 S2 r3
       ·exact h.elim
  | _ => exact h.elim
 | _ => cases b <;> exact h.elim
theorem Zd0 : OpR X (binaryOp .Sub) (r2 X.K ZbU) := OpR.imp Zp7 fun x y H Q ⟨ι, M, a, b, S, ra, rb, h⟩ => by
 cases a <;> cases b <;> first | exact h.elim | exact ⟨_, _, ra.int_inv, rb.int_inv, ZaF.ok h S Rep.int⟩
theorem Zbz : OpR X (binaryOp .Mod) (r2 X.K ZaJ) := OpR.imp ZqC fun x y H Q ⟨ι, M, a, b, S, ra, rb, h⟩ => by
 cases a with
 | int i => cases b with
  | int j =>
   simp only [ZaJ] at h
   split at h
   ·rename_i hj
    exact ⟨i, j, ra.int_inv, rb.int_inv, hj, ZaF.ok h S Rep.int⟩
   ·exact h.elim
  | _ => exact h.elim
 | _ => cases b <;> exact h.elim
theorem ZbB : OpR X (binaryOp .FloorDiv) (r2 X.K ZaS) := OpR.imp Zo1 fun x y H Q ⟨ι, M, a, b, S, ra, rb, h⟩ => by
 cases a with
 | int i => cases b with
  | int j =>
   simp only [ZaS] at h
   split at h
   ·rename_i hj
    exact ⟨i, j, ra.int_inv, rb.int_inv, hj, ZaF.ok h S Rep.int⟩
   ·exact h.elim
  | _ => exact h.elim
 | _ => cases b <;> exact h.elim
theorem Zl3 : OpR X (binaryOp .Pow) (r2 X.K ZiV) := OpR.imp Zqn fun x y H Q ⟨ι, M, a, b, S, ra, rb, h⟩ => by
 cases a with
 | int i => cases b with
  | int j =>
   simp only [ZiV] at h
   split at h
   ·rename_i hj
    exact ⟨i, j, ra.int_inv, rb.int_inv, ⟨hj.1, by omega, by have := hj.2.2; omega⟩, ZaF.ok h S Rep.int⟩
   ·exact h.elim
  | _ => exact h.elim
 | _ => cases b <;> exact h.elim
theorem ZhF : UnR X (unaryOp .USub) (r1 X.K ZdE) := UnR.imp Zps fun x H Q ⟨ι, M, a, S, ra, h⟩ => by
 cases a with
 | int i => exact ⟨i, ra.int_inv, ZaF.ok h S Rep.int⟩
 | _ => exact h.elim
theorem ZkA : OpR X (compareOp .Lt) (r2 X.K Zh4) := OpR.imp Zrj fun x y H Q ⟨ι, M, a, b, S, ra, rb, h⟩ => by
 cases a <;> cases b <;> first | exact h.elim | exact ⟨_, _, ra.int_inv, rb.int_inv, ZaF.ok h S Rep.bl⟩
theorem Zqt : OpR X (compareOp .LtE) (r2 X.K ZjQ) := OpR.imp Zrv fun x y H Q ⟨ι, M, a, b, S, ra, rb, h⟩ => by
 cases a <;> cases b <;> first | exact h.elim | exact ⟨_, _, ra.int_inv, rb.int_inv, ZaF.ok h S Rep.bl⟩
theorem ZkH : OpR X (compareOp .Gt) (r2 X.K ZgJ) := OpR.imp Zq6 fun x y H Q ⟨ι, M, a, b, S, ra, rb, h⟩ => by
 cases a <;> cases b <;> first | exact h.elim | exact ⟨_, _, ra.int_inv, rb.int_inv, ZaF.ok h S Rep.bl⟩
theorem Znx : OpR X (compareOp .GtE) (r2 X.K ZhY) := OpR.imp Zq7 fun x y H Q ⟨ι, M, a, b, S, ra, rb, h⟩ => by
 cases a <;> cases b <;> first | exact h.elim | exact ⟨_, _, ra.int_inv, rb.int_inv, ZaF.ok h S Rep.bl⟩
theorem ZoW : OpR X (compareOp .Is) (r2 X.K Zj9) := OpR.imp Zpt fun x y H Q ⟨ι, M, a, b, S, ra, rb, h⟩ => by
 cases b with
 | non => exact ⟨rb.non_inv, by rw [ra.non_iff]; exact ZaF.ok h S Rep.bl⟩
 | _ => exact h.elim
theorem Zfd : OpR X (compareOp .IsNot) (r2 X.K Zdv) := OpR.imp Zou fun x y H Q ⟨ι, M, a, b, S, ra, rb, h⟩ => by
 cases b with
 | non => exact ⟨rb.non_inv, by rw [ra.non_iff]; exact ZaF.ok h S Rep.bl⟩
 | _ => exact h.elim
end
theorem units_in1 (A : Around) : A.in1.units = A.units + 1 := rfl
section
variable {X : Cx} {pins : List (Addr × Obj)} {σ : St} {H : Hp} {s : Shared} {ι : List Addr}
theorem Zdq {e : Nat → Bool} : ∀ {x y : List D}, x.length = y.length → (∀ (j : Nat) a b, x[j]? = some a → y[j]? = some b → e j = deq a b) → (List.range x.length).all e = Zcj x y := by
 intro x
 induction x generalizing e with
 | nil => intro y h _; cases y with | nil => rfl | cons _ _ => simp at h
 | cons a x ih =>
  intro y h he
  cases y with
  | nil => simp at h
  | cons b y =>
   rw [List.length_cons, List.range_succ_eq_map, List.all_cons, List.all_map, he 0 a b rfl rfl]
   rw [Zcj]
   congr 1
   exact ih (e := e ∘ Nat.succ) (by simpa using h) fun j a' b' h1 h2 => he (j + 1) a' b' (by simpa using h1) (by simpa using h2)
theorem ZeS : ∀ {x y : List D}, Zcj x y = true → x.length = y.length
 | [], [], _ => rfl
 | [], _ :: _, h => by simp [Zcj] at h
 | _ :: _, [], h => by simp [Zcj] at h
 | a :: x, b :: y, h => by
  simp only [Zcj, Bool.and_eq_true] at h
  simp [ZeS h.2]
theorem Rep.fun1 (I : Inv X pins σ H s) : ∀ (n : Nat) (a b : D) (v : V), Zay n a = true → Zay n b = true → Rep X.K H ι a v → Rep X.K H ι b v → deq a b = true := by
 intro n
 induction n with
 | zero =>
  intro a b v ha hb r q
  cases a with
  | non => have := r.non_inv; subst this; cases b <;> simp_all [Zay, Rep, deq]
  | bl x => have := r.bl_inv; subst this; cases b <;> simp_all [Zay, Rep, deq]
  | int x => have := r.int_inv; subst this; cases b <;> simp_all [Zay, Rep, deq]
  | str x => have := r.str_inv; subst this; cases b <;> simp_all [Zay, Rep, deq]
  | _ => simp [Zay] at ha
 | succ n ih =>
  intro a b v ha hb r q
  cases a with
  | non => have := r.non_inv; subst this; cases b <;> simp_all [Zay, Rep, deq]
  | bl x => have := r.bl_inv; subst this; cases b <;> simp_all [Zay, Rep, deq]
  | int x => have := r.int_inv; subst this; cases b <;> simp_all [Zay, Rep, deq]
  | str x => have := r.str_inv; subst this; cases b <;> simp_all [Zay, Rep, deq]
  | tup ds =>
   obtain ⟨p, vs, rfl, s1, r1⟩ := r.tup_inv
   cases b with
   | tup es =>
    obtain ⟨p', ws, e, s2, r2⟩ := q.tup_inv
    cases e
    have e := I.tuple_inj s1 s2
    subst e
    rw [deq]
    have h1 : ds.all (Zay n) = true := ha
    have h2 : es.all (Zay n) = true := hb
    have key : ∀ (ds es : List D) (vs : List V), ds.all (Zay n) = true → es.all (Zay n) = true → Zai X.K H ι ds vs → Zai X.K H ι es vs → Zcj ds es = true := by
     intro ds
     induction ds with
     | nil => intro es vs _ _ r1 r2; have := r1.nil_inv; subst this; cases es with | nil => rfl | cons _ _ => obtain ⟨_, _, e, _⟩ := r2.cons_inv; cases e
     | cons d ds ih2 =>
      intro es vs h1 h2 r1 r2
      obtain ⟨v, ws, rfl, q1, q2⟩ := r1.cons_inv
      cases es with
      | nil => have := r2.nil_inv; cases this
      | cons e es =>
       obtain ⟨v', ws', z, q3, q4⟩ := r2.cons_inv
       cases z
       rw [List.all_cons, Bool.and_eq_true] at h1 h2
       rw [Zcj, ih d e v h1.1 h2.1 q1 q3, ih2 es ws h1.2 h2.2 q2 q4]
       rfl
    exact key ds es vs h1 h2 r1 r2
   | non => have := q.non_inv; cases this
   | bl _ => have := q.bl_inv; cases this
   | int _ => have := q.int_inv; cases this
   | str _ => have := q.str_inv; cases this
   | _ => simp [Zay] at hb
  | _ => simp [Zay] at ha
theorem ZeO (A : Around) (a b : D) (x y : V) (u v : Value) (ha : ZaV a = true) (hb : ZaV b = true) (ra : Rep X.K H ι a x) (rb : Rep X.K H ι b y) (ru : RelV x u) (rv : RelV y v) : SeqAt.EqAt A s u v (deq a b) := by
 cases a with
 | non => have := ra.non_inv; subst this; cases ru; cases b with
  | non => have := rb.non_inv; subst this; cases rv; exact SeqAt.EqAt.same _
  | bl k => have := rb.bl_inv; subst this; cases rv; exact SeqAt.EqAt.none_bool _
  | int k => have := rb.int_inv; subst this; obtain ⟨t, rfl⟩ := rv; exact SeqAt.EqAt.none_int _ _
  | str k => have := rb.str_inv; subst this; obtain ⟨t, rfl⟩ := rv; exact SeqAt.EqAt.none_str _ _
  | _ => simp [ZaV] at hb
 | bl i => have := ra.bl_inv; subst this; cases ru; cases b with
  | non => have := rb.non_inv; subst this; cases rv; exact SeqAt.EqAt.bool_none _
  | bl k => have := rb.bl_inv; subst this; cases rv; exact SeqAt.EqAt.bool_bool _ _
  | int k => have := rb.int_inv; subst this; obtain ⟨t, rfl⟩ := rv; exact SeqAt.EqAt.bool_int _ _ _
  | str k => have := rb.str_inv; subst this; obtain ⟨t, rfl⟩ := rv; exact SeqAt.EqAt.bool_str _ _ _
  | _ => simp [ZaV] at hb
 | int i => have := ra.int_inv; subst this; obtain ⟨t0, rfl⟩ := ru; cases b with
  | non => have := rb.non_inv; subst this; cases rv; exact SeqAt.EqAt.int_none _ _
  | bl k => have := rb.bl_inv; subst this; cases rv; exact SeqAt.EqAt.int_bool _ _ _
  | int k => have := rb.int_inv; subst this; obtain ⟨t, rfl⟩ := rv; exact SeqAt.EqAt.int_int _ _ _ _
  | str k => have := rb.str_inv; subst this; obtain ⟨t, rfl⟩ := rv; exact SeqAt.EqAt.int_str _ _ _ _
  | _ => simp [ZaV] at hb
 | str i => have := ra.str_inv; subst this; obtain ⟨t0, rfl⟩ := ru; cases b with
  | non => have := rb.non_inv; subst this; cases rv; exact SeqAt.EqAt.str_none _ _
  | bl k => have := rb.bl_inv; subst this; cases rv; exact SeqAt.EqAt.str_bool _ _ _
  | int k => have := rb.int_inv; subst this; obtain ⟨t, rfl⟩ := rv; exact SeqAt.EqAt.str_int _ _ _ _
  | str k => have := rb.str_inv; subst this; obtain ⟨t, rfl⟩ := rv; exact (by
    have e : deq (.str i) (.str k) = ((⟨i.toArray⟩ : Str) == ⟨k.toArray⟩) := by
     rw [deq, ← Zgc]
     by_cases h : (⟨i.toArray⟩ : Str) = ⟨k.toArray⟩
     ·simp [h]
     ·simp [h]
    rw [e]
    exact SeqAt.EqAt.str_str _ _ _ _)
  | _ => simp [ZaV] at hb
 | _ => simp [ZaV] at ha
theorem Zjc (I : Inv X pins σ H s) : ∀ (n : Nat) (A : Around) (a b : D) (x y : V) (u v : Value), A.units + n + 1 < cLine → Zay n a = true → Zay n b = true → Rep X.K H ι a x → Rep X.K H ι b y → RelV x u → RelV y v → SeqAt.EqAt A s u v (deq a b) := by
 intro n
 induction n with
 | zero =>
  intro A a b x y u v hu ha hb ra rb ru rv
  have f : ∀ d : D, Zay 0 d = true → ZaV d = true := fun d h => by cases d <;> simp_all [Zay, ZaV]
  exact ZeO A a b x y u v (f a ha) (f b hb) ra rb ru rv
 | succ n ih =>
  intro A a b x y u v hu ha hb ra rb ru rv
  have hu0 : A.units + 0 + 1 < cLine := by omega
  have hu1 : A.units < cLine := by omega
  cases a with
  | tup ds =>
   obtain ⟨p, vs, rfl, s1, r1⟩ := ra.tup_inv
   cases ru
   obtain ⟨its, rvs, ht, _⟩ := I.tuple s1
   have it1 : s.heap.IsTuple p its.toArray := ht
   cases b with
   | tup es =>
    obtain ⟨p', ws, rfl, s2, r2⟩ := rb.tup_inv
    cases rv
    obtain ⟨its2, rws, ht2, _⟩ := I.tuple s2
    have it2 : s.heap.IsTuple p' its2.toArray := ht2
    by_cases hp : p = p'
    ·subst hp
     rw [Rep.fun1 I (n + 1) _ _ _ ha hb ra rb]
     exact SeqAt.EqAt.same _
    ·refine SeqAt.EqAt.of_refs hp ?_
     have e1 : its.length = ds.length := by rw [← rvs.length, r1.length]
     have e2 : its2.length = es.length := by rw [← rws.length, r2.length]
     have key : ((List.range (min its.toArray.size its2.toArray.size)).all (fun j => match ds[j]?, es[j]? with | some a, some b => deq a b | _, _ => false) && its.toArray.size == its2.toArray.size) = deq (.tup ds) (.tup es) := by
      rw [deq, List.size_toArray, List.size_toArray, e1, e2]
      by_cases hl : ds.length = es.length
      ·rw [hl, Nat.min_self, beq_self_eq_true, Bool.and_true, ← hl]
       exact Zdq hl fun j a b h1 h2 => by rw [h1, h2]
      ·have z : Zcj ds es = false := by
        cases q : Zcj ds es with
        | false => rfl
        | true => exact absurd (ZeS q) hl
       rw [z, beq_eq_false_iff_ne.mpr hl, Bool.and_false]
     rw [← key]
     refine SeqAt.RcAt.tuples it1 it2 hu1 fun j h1 h2 => ?_
     have h1' : j < ds.length := by rw [← e1]; simpa using h1
     have h2' : j < es.length := by rw [← e2]; simpa using h2
     have q1 : ds[j]? = some ds[j] := by simp [h1']
     have q2 : es[j]? = some es[j] := by simp [h2']
     rw [q1, q2]
     obtain ⟨v1, g1, z1⟩ := r1.get q1
     obtain ⟨v2, g2, z2⟩ := r2.get q2
     obtain ⟨u1, k1, l1⟩ := rvs.get g1
     obtain ⟨u2, k2, l2⟩ := rws.get g2
     have m1 : its.toArray[j] = u1 := by
      have := List.getElem?_eq_some_iff.mp k1
      simpa using this.2
     have m2 : its2.toArray[j] = u2 := by
      have := List.getElem?_eq_some_iff.mp k2
      simpa using this.2
     rw [m1, m2]
     exact ih A.in1 ds[j] es[j] v1 v2 u1 u2 (by rw [units_in1]; omega) (List.all_eq_true.mp (show ds.all (Zay n) = true from ha) _ (List.getElem_mem h1')) (List.all_eq_true.mp (show es.all (Zay n) = true from hb) _ (List.getElem_mem h2')) z1 z2 l1 l2
   | non => have := rb.non_inv; subst this; cases rv; exact SeqAt.EqAt.tuple_none it1 hu1
   | bl k => have := rb.bl_inv; subst this; cases rv; exact SeqAt.EqAt.tuple_bool _ it1 hu1
   | int k => have := rb.int_inv; subst this; obtain ⟨t, rfl⟩ := rv; exact SeqAt.EqAt.tuple_int _ _ it1 hu1
   | str k => have := rb.str_inv; subst this; obtain ⟨t, rfl⟩ := rv; exact SeqAt.EqAt.tuple_str _ _ it1 hu1
   | _ => simp [Zay] at hb
  | non => cases b with
   | tup es =>
    have := ra.non_inv; subst this; cases ru
    obtain ⟨p', ws, rfl, s2, r2⟩ := rb.tup_inv
    cases rv
    obtain ⟨its2, rws, ht2, _⟩ := I.tuple s2
    exact SeqAt.EqAt.none_tuple (show s.heap.IsTuple p' its2.toArray from ht2) hu1
   | scr _ => simp [Zay] at hb
   | ref _ => simp [Zay] at hb
   | _ => exact ZeO A _ _ x y u v (by rfl) (by rfl) ra rb ru rv
  | bl i => cases b with
   | tup es =>
    have := ra.bl_inv; subst this; cases ru
    obtain ⟨p', ws, rfl, s2, r2⟩ := rb.tup_inv
    cases rv
    obtain ⟨its2, rws, ht2, _⟩ := I.tuple s2
    exact SeqAt.EqAt.bool_tuple _ (show s.heap.IsTuple p' its2.toArray from ht2) hu1
   | scr _ => simp [Zay] at hb
   | ref _ => simp [Zay] at hb
   | _ => exact ZeO A _ _ x y u v (by rfl) (by rfl) ra rb ru rv
  | int i => cases b with
   | tup es =>
    have := ra.int_inv; subst this; obtain ⟨t0, rfl⟩ := ru
    obtain ⟨p', ws, rfl, s2, r2⟩ := rb.tup_inv
    cases rv
    obtain ⟨its2, rws, ht2, _⟩ := I.tuple s2
    exact SeqAt.EqAt.int_tuple _ _ (show s.heap.IsTuple p' its2.toArray from ht2) hu1
   | scr _ => simp [Zay] at hb
   | ref _ => simp [Zay] at hb
   | _ => exact ZeO A _ _ x y u v (by rfl) (by rfl) ra rb ru rv
  | str i => cases b with
   | tup es =>
    have := ra.str_inv; subst this; obtain ⟨t0, rfl⟩ := ru
    obtain ⟨p', ws, rfl, s2, r2⟩ := rb.tup_inv
    cases rv
    obtain ⟨its2, rws, ht2, _⟩ := I.tuple s2
    exact SeqAt.EqAt.str_tuple _ _ (show s.heap.IsTuple p' its2.toArray from ht2) hu1
   | scr _ => simp [Zay] at hb
   | ref _ => simp [Zay] at hb
   | _ => exact ZeO A _ _ x y u v (by rfl) (by rfl) ra rb ru rv
  | _ => simp [Zay] at ha
end
end L3
namespace L3
open PySem PySem.Spec PyProof.Rows L2
section
variable {X : Cx}
theorem Zqp {pins : List (Addr × Obj)} {σ : St} {H : Hp} {s : Shared} {ι : List Addr} {M : Store} {a b : D} {x y : V} {u v : Value} {k : Bool} (hu : X.A.units + 80 < cLine) (I : Inv X pins σ H s) (S : ZaG X.K H ι M)
  (ra : Rep X.K H ι a x) (rb : Rep X.K H ι b y) (ru : RelV x u) (rv : RelV y v) (h : eqD a b M = some k) : SeqAt.RcAt X.A s u v k := by
 cases a with
 | ref n =>
  cases b with
  | ref m =>
   simp only [eqD] at h
   cases hn : M[n]? with
   | none => simp [hn] at h
   | some o =>
    cases o with
    | dct _ => simp [hn] at h
    | fdct _ => simp [hn] at h
    | lst ds =>
     cases hm : M[m]? with
     | none => simp [hn, hm] at h
     | some o =>
      cases o with
      | dct _ => simp [hn, hm] at h
      | fdct _ => simp [hn, hm] at h
      | lst es =>
       simp only [hn, hm] at h
       split at h
       ·rename_i hp
        cases h
        rw [Bool.and_eq_true] at hp
        obtain ⟨p, hp1, rfl⟩ := ra.ref_inv
        obtain ⟨q, hq1, rfl⟩ := rb.ref_inv
        cases ru
        cases rv
        obtain ⟨vs, e1, r1⟩ := S.obj n _ p hn hp1
        obtain ⟨ws, e2, r2⟩ := S.obj m _ q hm hq1
        obtain ⟨its, rvs, pl1, _⟩ := I.list (SqL.of e1)
        obtain ⟨its2, rws, pl2, _⟩ := I.list (SqL.of e2)
        have it1 := pl1.isList
        have it2 := pl2.isList
        have l1 : its.length = ds.length := by rw [← rvs.length, r1.length]
        have l2 : its2.length = es.length := by rw [← rws.length, r2.length]
        have hu1 : X.A.units < cLine := by omega
        by_cases hl : ds.length = es.length
        ·have key : (List.range its.toArray.size).all (fun j => match ds[j]?, es[j]? with | some a, some b => deq a b | _, _ => false) = Zcj ds es := by
          rw [List.size_toArray, l1]
          exact Zdq hl fun j a b h1 h2 => by rw [h1, h2]
         rw [← key]
         refine SeqAt.RcAt.lists it1 it2 (by rw [List.size_toArray, List.size_toArray, l1, l2, hl]) hu1 fun j h1 h2 => ?_
         have h1' : j < ds.length := by rw [← l1]; simpa using h1
         have h2' : j < es.length := by rw [← l2]; simpa using h2
         have q1 : ds[j]? = some ds[j] := by simp [h1']
         have q2 : es[j]? = some es[j] := by simp [h2']
         rw [q1, q2]
         obtain ⟨v1, g1, z1⟩ := r1.get q1
         obtain ⟨v2, g2, z2⟩ := r2.get q2
         obtain ⟨u1, k1, w1⟩ := rvs.get g1
         obtain ⟨u2, k2, w2⟩ := rws.get g2
         have m1 : its.toArray[j] = u1 := by
          have := List.getElem?_eq_some_iff.mp k1
          simpa using this.2
         have m2 : its2.toArray[j] = u2 := by
          have := List.getElem?_eq_some_iff.mp k2
          simpa using this.2
         rw [m1, m2]
         exact Zjc I DEEP X.A.in1 ds[j] es[j] v1 v2 u1 u2 (by rw [units_in1]; show X.A.units + 1 + 60 + 1 < cLine; omega) (List.all_eq_true.mp hp.1 _ (List.getElem_mem h1')) (List.all_eq_true.mp hp.2 _ (List.getElem_mem h2')) z1 z2 w1 w2
        ·have z : Zcj ds es = false := by
          cases q : Zcj ds es with
          | false => rfl
          | true => exact absurd (ZeS q) hl
         rw [z]
         exact SeqAt.RcAt.lists_lengths it1 it2 (by rw [List.size_toArray, List.size_toArray, l1, l2]; simpa using hl) hu1
       ·cases h
  | _ => simp [eqD] at h
 | int i => cases b with
  | int j =>
   simp only [eqD] at h
   cases h
   have := ra.int_inv; subst this; have := rb.int_inv; subst this
   obtain ⟨t, rfl⟩ := ru
   obtain ⟨t', rfl⟩ := rv
   rw [← Bool.beq_eq_decide_eq]
   exact SeqAt.RcAt.int_int _ _ _ _
  | _ => simp [eqD] at h
 | str i => cases b with
  | str j =>
   simp only [eqD] at h
   cases h
   have := ra.str_inv; subst this; have := rb.str_inv; subst this
   obtain ⟨t, rfl⟩ := ru
   obtain ⟨t', rfl⟩ := rv
   have e : decide (i = j) = ((⟨i.toArray⟩ : Str) == ⟨j.toArray⟩) := by
    rw [← Bool.beq_eq_decide_eq, ← Zgc]
    by_cases h : (⟨i.toArray⟩ : Str) = ⟨j.toArray⟩
    ·simp [h]
    ·simp [h]
   rw [e]
   exact SeqAt.RcAt.str_str _ _ _ _
  | _ => simp [eqD] at h
 | bl i => cases b with
  | bl j =>
   simp only [eqD] at h
   cases h
   have := ra.bl_inv; subst this; have := rb.bl_inv; subst this
   cases ru
   cases rv
   rw [← Bool.beq_eq_decide_eq]
   exact SeqAt.RcAt.bool_bool _ _
  | _ => simp [eqD] at h
 | tup ds => cases b with
  | tup es =>
   simp only [eqD] at h
   split at h
   ·rename_i hp
    cases h
    rw [Bool.and_eq_true] at hp
    obtain ⟨p, vs, rfl, s1, r1⟩ := ra.tup_inv
    obtain ⟨p', ws, rfl, s2, r2⟩ := rb.tup_inv
    cases ru
    cases rv
    obtain ⟨its, rvs, ht, _⟩ := I.tuple s1
    obtain ⟨its2, rws, ht2, _⟩ := I.tuple s2
    have e1 : its.length = ds.length := by rw [← rvs.length, r1.length]
    have e2 : its2.length = es.length := by rw [← rws.length, r2.length]
    have hu1 : X.A.units < cLine := by omega
    have key : ((List.range (min its.toArray.size its2.toArray.size)).all (fun j => match ds[j]?, es[j]? with | some a, some b => deq a b | _, _ => false) && its.toArray.size == its2.toArray.size) = Zcj ds es := by
     rw [List.size_toArray, List.size_toArray, e1, e2]
     by_cases hl : ds.length = es.length
     ·rw [hl, Nat.min_self, beq_self_eq_true, Bool.and_true, ← hl]
      exact Zdq hl fun j a b h1 h2 => by rw [h1, h2]
     ·have z : Zcj ds es = false := by
       cases q : Zcj ds es with
       | false => rfl
       | true => exact absurd (ZeS q) hl
      rw [z, beq_eq_false_iff_ne.mpr hl, Bool.and_false]
    rw [← key]
    refine SeqAt.RcAt.tuples (show s.heap.IsTuple p its.toArray from ht) (show s.heap.IsTuple p' its2.toArray from ht2) hu1 fun j h1 h2 => ?_
    have h1' : j < ds.length := by rw [← e1]; simpa using h1
    have h2' : j < es.length := by rw [← e2]; simpa using h2
    have q1 : ds[j]? = some ds[j] := by simp [h1']
    have q2 : es[j]? = some es[j] := by simp [h2']
    rw [q1, q2]
    obtain ⟨v1, g1, z1⟩ := r1.get q1
    obtain ⟨v2, g2, z2⟩ := r2.get q2
    obtain ⟨u1, k1, w1⟩ := rvs.get g1
    obtain ⟨u2, k2, w2⟩ := rws.get g2
    have m1 : its.toArray[j] = u1 := by
     have := List.getElem?_eq_some_iff.mp k1
     simpa using this.2
    have m2 : its2.toArray[j] = u2 := by
     have := List.getElem?_eq_some_iff.mp k2
     simpa using this.2
    rw [m1, m2]
    exact Zjc I DEEP X.A.in1 ds[j] es[j] v1 v2 u1 u2 (by rw [units_in1]; show X.A.units + 1 + 60 + 1 < cLine; omega) (List.all_eq_true.mp hp.1 _ (List.getElem_mem h1')) (List.all_eq_true.mp hp.2 _ (List.getElem_mem h2')) z1 z2 w1 w2
   ·cases h
  | _ => simp [eqD] at h
 | _ => cases b <;> simp [eqD] at h
theorem Zbj (hu : X.A.units + 80 < cLine) : OpR X (compareOp .Eq) (r2 X.K Zaq) := by
 intro pins s σ H x y v u Q I rx ry h
 obtain ⟨ι, M, a, b, S, ra, rb, h⟩ := h
 unfold Zaq at h
 cases q : eqD a b M with
 | none => rw [q] at h; exact h.elim
 | some k =>
  rw [q] at h
  exact Zqp hu I S ra rb rx ry q X.prog X.w X.xe _ ⟨.bl k, H, I, rfl, ZaF.ok h S Rep.bl⟩
theorem Zla {K : PySem.W.Frag} {H : Hp} {ι : List Addr} {ds : List D} {vs : List V} {i : Int} {d : D} (r : Zai K H ι ds vs) (h : ZbN ds i = some d) : ∃ v, atI vs i = some v ∧ Rep K H ι d v := by
 unfold ZbN at h
 unfold atI
 have e : ixN vs.length i = ixD ds.length i := by rw [r.length]; rfl
 rw [e]
 cases q : ixD ds.length i with
 | none => rw [q] at h; cases h
 | some j =>
  rw [q] at h
  exact r.get h
theorem Zu : IxR X (r2 X.K Ze) := IxR.imp Zqx fun x y H Q ⟨ι, M, a, b, S, ra, rb, h⟩ => by
 cases a with
 | tup ds => cases b with
  | int i =>
   simp only [Ze] at h
   cases q : ZbN ds i with
   | none => simp only [q] at h; exact h.elim
   | some d =>
    simp only [q] at h
    obtain ⟨p, vs, rfl, s1, r1⟩ := ra.tup_inv
    obtain ⟨v, e, rv⟩ := Zla r1 q
    exact .inr (.inl ⟨p, vs, i, v, rfl, rb.int_inv, s1, e, ZaF.ok h S rv⟩)
  | _ => exact h.elim
 | scr ds => cases b with
  | int i =>
   simp only [Ze] at h
   cases q : ZbN ds i with
   | none => simp only [q] at h; exact h.elim
   | some d =>
    simp only [q] at h
    obtain ⟨p, vs, rfl, s1, r1⟩ := ra.scr_inv
    obtain ⟨v, e, rv⟩ := Zla r1 q
    exact .inl ⟨p, vs, i, v, rfl, rb.int_inv, s1.sq, e, ZaF.ok h S rv⟩
  | _ => exact h.elim
 | str z => cases b with
  | int i =>
   simp only [Ze] at h
   cases q : ZbN z i with
   | none => simp only [q] at h; exact h.elim
   | some c =>
    simp only [q] at h
    split at h
    ·rename_i hz
     refine .inr (.inr ⟨_, i, c, ra.str_inv, rb.int_inv, ?_, ?_, ZaF.ok h S Rep.str⟩)
     ·have := ZcM
      simp only [Str.length, List.size_toArray]
      omega
     ·simpa [atI, ixN, ZbN, ixD] using q
    ·exact h.elim
  | _ => exact h.elim
 | ref n => cases b with
  | int i =>
   cases hn : M[n]? with
   | none => simp only [Ze, hn] at h; exact h.elim
   | some o =>
    cases o with
    | dct _ => simp only [Ze, hn] at h; exact h.elim
    | fdct _ => simp only [Ze, hn] at h; exact h.elim
    | lst ds =>
     simp only [Ze, hn] at h
     cases q : ZbN ds i with
     | none => simp only [q] at h; exact h.elim
     | some d =>
      simp only [q] at h
      obtain ⟨p, hp, rfl⟩ := ra.ref_inv
      obtain ⟨vs, e1, r1⟩ := S.obj n _ p hn hp
      obtain ⟨v, e, rv⟩ := Zla r1 q
      exact .inl ⟨p, vs, i, v, rfl, rb.int_inv, SqL.of e1, e, ZaF.ok h S rv⟩
  | _ => exact h.elim
 | _ => cases b <;> exact h.elim
theorem Zlh {K : PySem.W.Frag} {H : Hp} {ι : List Addr} {ds : List D} {vs : List V} (r : Zai K H ι ds vs) (lo hi : Option Int) : Zai K H ι (cutD ds lo hi) (Zki vs lo hi) := by
 have e : ∀ n d o, HT.sIx n d o = sIx n d o := fun n d o => by cases o <;> rfl
 unfold cutD Zki
 rw [e, e, r.length]
 exact (r.drop _).take _
end
end L3
namespace L3
open PySem PySem.Spec PyProof.Rows L2
def ZcF (cells : List (Str × Addr)) : List (Str × NameKind) → List (Str × Addr) → List (Str × Addr)
 | [], cs => cs
 | (n, k) :: r, cs => ZcF cells r (if k == .free then (n, (cells.lookup n).getD 0) :: cs else cs)
theorem ZfW {scope : Scope} {env : Env} (h : ∀ y ∈ scope.names, y.2 = .free → ∃ c, env.cells.lookup y.1 = some c) : closureFor scope env = pure (ZcF env.cells scope.names []) := by
 unfold closureFor
 have key : ∀ (names : List (Str × NameKind)) (cs : List (Str × Addr)), (∀ y ∈ names, y.2 = .free → ∃ c, env.cells.lookup y.1 = some c) →
   (forIn names cs fun x r => match x with | (name, kind) => if (kind == NameKind.free) = true then do let c ← cellOf env name; pure (ForInStep.yield ((name, c) :: r)) else pure (ForInStep.yield r) : Sem (List (Str × Addr))) = pure (ZcF env.cells names cs) := by
  intro names
  induction names with
  | nil => intro cs _; rfl
  | cons y r ih =>
   intro cs hy
   obtain ⟨n, k⟩ := y
   rw [List.forIn_cons]
   by_cases hk : k = .free
   ·subst hk
    obtain ⟨c, hc⟩ := hy (n, .free) List.mem_cons_self rfl
    have e1 : cellOf env n = pure c := by unfold cellOf; rw [hc]
    simp only [beq_self_eq_true, if_true, e1, pure_bind]
    rw [ih _ fun z hz => hy z (List.mem_cons_of_mem _ hz)]
    simp [ZcF, hc]
   ·have hb : (k == NameKind.free) = false := by simpa using hk
    simp only [hb, Bool.false_eq_true, if_false, pure_bind]
    rw [ih _ fun z hz => hy z (List.mem_cons_of_mem _ hz)]
    simp [ZcF, hb]
 have := key scope.names [] h
 first
  | exact this
  | (simp only [bind_pure]; exact this)
theorem Zma {cells : List (Str × Addr)} {x : Str} {c : Addr} : ∀ (names : List (Str × NameKind)) (cs : List (Str × Addr)), (∀ y ∈ names, y.2 = .free → ∃ c, cells.lookup y.1 = some c) → (ZcF cells names cs).lookup x = some c → cs.lookup x = some c ∨ cells.lookup x = some c := by
 intro names
 induction names with
 | nil => intro cs _ h; exact .inl h
 | cons y r ih =>
  intro cs hy h
  obtain ⟨n, k⟩ := y
  rw [ZcF] at h
  rcases ih _ (fun z hz => hy z (List.mem_cons_of_mem _ hz)) h with q | q
  ·by_cases hk : k = .free
   ·subst hk
    obtain ⟨c0, hc⟩ := hy (n, .free) List.mem_cons_self rfl
    simp only [beq_self_eq_true, if_true, hc, Option.getD_some, List.lookup_cons] at q
    cases hx : x == n with
    | true =>
     simp only [hx] at q
     cases q
     have : x = n := by simpa using hx
     subst this
     exact .inr hc
    | false => simp only [hx] at q; exact .inl q
   ·have hb : (k == NameKind.free) = false := by simpa using hk
    simp only [hb, Bool.false_eq_true, if_false] at q
    exact .inl q
  ·exact .inr q
theorem ZkR {cells : List (Str × Addr)} {x : Str} : ∀ (names : List (Str × NameKind)) (cs : List (Str × Addr)), (cs.lookup x).isSome = true → ((ZcF cells names cs).lookup x).isSome = true := by
 intro names
 induction names with
 | nil => intro cs h; exact h
 | cons y r ih =>
  intro cs h
  obtain ⟨n, k⟩ := y
  rw [ZcF]
  refine ih _ ?_
  split
  ·rw [List.lookup_cons]
   split
   ·rfl
   ·exact h
  ·exact h
theorem Zi9 {cells : List (Str × Addr)} {x : Str} : ∀ (names : List (Str × NameKind)) (cs : List (Str × Addr)), (x, NameKind.free) ∈ names → ((ZcF cells names cs).lookup x).isSome = true := by
 intro names
 induction names with
 | nil => intro cs h; cases h
 | cons y r ih =>
  intro cs h
  obtain ⟨n, k⟩ := y
  rw [ZcF]
  rcases List.mem_cons.mp h with e | h
  ·cases e
   refine ZkR _ _ ?_
   simp
  ·exact ih _ h
def Zcr (X : Cx) (scope : Scope) (N' : List Str) (C : Addr) (cl : List (Str × Addr)) (s : Shared) (H : Hp) (ex : List Addr) : Cx :=
 { X with N := N', s₀ := s, H₀ := H, env := compEnvC scope cl C X.env, outer := X.stack, stack := X.stack, ex := ex, fn := fun _ => false, pn := [], xe := fun _ _ => False }
def ZnV (N N' : List Str) (scope : Scope) : Bool := (List.range N.length).all fun i => match N'[i]? with
 | some x => (scope.names.lookup x).isNone || (decide (N[i]? = some x) && decide (scope.names.lookup x = some .free))
 | none => false
def CTs (X : Cx) (ifs : List Expr) (ts : List E3) : Prop := ∀ (pins : List (Addr × Obj)) (s : Shared) (σ : St) (H : Hp) (Q : Bool → Hp → Prop), Inv X pins σ H s →
 (∃ ι M env, ZaG X.K H ι M ∧ Zcp X.K H ι env σ ∧ match Ze3 ts env M with | .ok b M' => ∀ H' ι', Ext X.K H ι H' ι' → ZaG X.K H' ι' M' → Q b H' | _ => False) →
 wpAny (model X.prog X.w) X.A (forIn ifs true fun c r => if r = true then do let ok ← isTrue c X.env (eval c X.env); pure (ForInStep.yield ok) else pure (ForInStep.yield r)) (TP X pins σ Q) X.xe s
theorem ZlN {X : Cx} : CTs X [] [] := fun pins s σ H Q I ⟨ι, M, env, S, E, h⟩ => wpAny_tests_nil ⟨H, I, h H ι Ext.refl S⟩
theorem ZfH {X : Cx} {c : Expr} {f : E3} (hc : CT X c f) : CTs X [c] [f] := fun pins s σ H Q I ⟨ι, M, env, S, E, h⟩ => by
 refine wpAny_tests_one (hc pins s σ H Q I ⟨ι, M, env, S, E, ?_⟩)
 unfold Ze3 at h
 cases q : f env M with
 | ok d M1 =>
  rw [q] at h
  cases d with
  | bl b => cases b with
   | true => exact h
   | false => exact h
  | _ => exact h.elim
 | exc x M1 => rw [q] at h; exact h.elim
 | bad => rw [q] at h; exact h.elim
section
variable {prog : Program} {w : World} {A : Around} {R : Result → Shared → Prop} {s : Shared}
theorem Zjl {elt target iter : Expr} {ifs : List Expr} {scope : Scope} {pos : Pos} {it acc : Value} {env : Env} (I : Nat → Shared → Prop)
  (turn : ∀ n s, I n s → wpAny (model prog w) A (pyNext it) (fun r s₁ => match r with
   | none => R (.ok .next) s₁
   | some v => wpAny (model prog w) A (letOwnedTupleGo target it v) (fun _ s₁' => wpAny (model prog w) A (assign target env v) (fun _ s₂ =>
     wpAny (model prog w) A (forIn ifs true fun c r => if r = true then do let ok ← isTrue c env (eval c env); pure (ForInStep.yield ok) else pure (ForInStep.yield r)) (fun ok s₃ =>
      if ok = true then wpAny (model prog w) A (eval elt env) (fun x s₄ =>
       wpAny (model prog w) A (call (.builtin "list.append") [acc, x]) (fun _ s₅ => ∃ m, m < n ∧ I m s₅) (fun _ _ => False) s₄) (fun _ _ => False) s₃
      else ∃ m, m < n ∧ I m s₃) (fun _ _ => False) s₂) (fun _ _ => False) s₁') (fun _ _ => False) s₁) (fun _ _ => False) s)
  (n : Nat) (h : I n s) : codeAny (model prog w) A (.compLoop (.ListComp elt [⟨target, iter, ifs, 0⟩] scope pos) 0 it acc env) R s := by
 refine codeAny_loop rfl I (fun n s hI => ?_) n h
 show wpAny _ A ((compTurn (.ListComp elt [⟨target, iter, ifs, 0⟩] scope pos) 0 it acc env).onRaise (fun x => do noteFrame x env; theTreesLotGoes x)) _ _ s
 refine wpAny_noted ?_
 rw [compTurn_list]
 refine wpAny_bind (wpAny_standAt (wpAny_bind (wpAny_mono (turn n s hI) (fun r s₁ h₁ => ?_) fun _ _ h' => False.elim h')))
 cases r with
 | none => exact wpAny_pure h₁
 | some v =>
  refine wpAny_bind (wpAny_mono h₁ (fun _ s₁' h₁' => ?_) fun _ _ h' => False.elim h')
  refine wpAny_bind (wpAny_mono h₁' (fun _ s₂ h₂ => wpAny_bind (wpAny_mono h₂ (fun ok s₃ h₃ => ?_) fun _ _ h' => False.elim h')) fun _ _ h' => False.elim h')
  cases ok with
  | false => exact wpAny_pure ⟨rfl, h₃⟩
  | true =>
   exact wpAny_bind (wpAny_bind (wpAny_mono h₃ (fun x s₄ h₄ => wpAny_bind (wpAny_mono h₄ (fun _ s₅ h₅ => wpAny_pure (wpAny_pure ⟨rfl, h₅⟩)) fun _ _ h' => False.elim h')) fun _ _ h' => False.elim h'))
end
theorem Zez {env : Env} {x : Str} {k : NameKind} : ∀ {names : List (Str × NameKind)}, (names.map fun (n, k) => if (k == NameKind.free && env.scope.kind == .function && env.kindOf n == some .cell) then (n, NameKind.cell) else (n, k)).lookup x = some k →
  ∃ k0, names.lookup x = some k0 ∧ (k0 = k ∨ (k0 = .free ∧ k = .cell)) := by
 intro names
 induction names with
 | nil => intro h; simp at h
 | cons y r ih =>
  intro h
  obtain ⟨n, k1⟩ := y
  rw [List.map_cons] at h
  cases hx : x == n with
  | true =>
   refine ⟨k1, by simp [List.lookup_cons, hx], ?_⟩
   by_cases hc : (k1 == NameKind.free && env.scope.kind == .function && env.kindOf n == some .cell) = true
   ·simp only [if_pos hc, List.lookup_cons, hx] at h
    cases h
    simp only [Bool.and_eq_true, beq_iff_eq] at hc
    exact .inr ⟨hc.1.1, rfl⟩
   ·simp only [if_neg hc, List.lookup_cons, hx] at h
    cases h
    exact .inl rfl
  | false =>
   have h' : (r.map fun (n, k) => if (k == NameKind.free && env.scope.kind == .function && env.kindOf n == some .cell) then (n, NameKind.cell) else (n, k)).lookup x = some k := by
    by_cases hc : (k1 == NameKind.free && env.scope.kind == .function && env.kindOf n == some .cell) = true
    ·simp only [if_pos hc, List.lookup_cons, hx] at h; exact h
    ·simp only [if_neg hc, List.lookup_cons, hx] at h; exact h
   obtain ⟨k0, e, q⟩ := ih h'
   exact ⟨k0, by simp [List.lookup_cons, hx, e], q⟩
theorem Zjh {env : Env} {x : Str} : ∀ {names : List (Str × NameKind)}, names.lookup x = some .free →
  (names.map fun (n, k) => if (k == NameKind.free && env.scope.kind == .function && env.kindOf n == some .cell) then (n, NameKind.cell) else (n, k)).lookup x = some .free ∨
  (names.map fun (n, k) => if (k == NameKind.free && env.scope.kind == .function && env.kindOf n == some .cell) then (n, NameKind.cell) else (n, k)).lookup x = some .cell := by
 intro names
 induction names with
 | nil => intro h; simp at h
 | cons y r ih =>
  intro h
  obtain ⟨n, k1⟩ := y
  rw [List.map_cons]
  cases hx : x == n with
  | true =>
   simp only [List.lookup_cons, hx] at h
   cases h
   by_cases hc : (NameKind.free == NameKind.free && env.scope.kind == .function && env.kindOf n == some .cell) = true
   ·simp only [if_pos hc, List.lookup_cons, hx]; exact .inr trivial
   ·simp only [if_neg hc, List.lookup_cons, hx]; exact .inl trivial
  | false =>
   simp only [List.lookup_cons, hx] at h
   by_cases hc : (k1 == NameKind.free && env.scope.kind == .function && env.kindOf n == some .cell) = true
   ·simp only [if_pos hc, List.lookup_cons, hx]; exact ih h
   ·simp only [if_neg hc, List.lookup_cons, hx]; exact ih h
section
variable {X : Cx} {pins : List (Addr × Obj)} {σ : St} {H : Hp} {s : Shared} {scope : Scope} {N' : List Str} {own : Nat} {fp : List Addr}
theorem ZnJ (I : Inv X pins σ H s) (hk : scope.kind = .function) (hcell : ∀ y ∈ scope.names, y.2 ≠ .cell) (hfree : ∀ y ∈ scope.names, y.2 = .free → X.env.kindOf y.1 = some .cell ∨ X.env.kindOf y.1 = some .free)
  (hN : N'.length = X.N.length + own) (hv : ZnV X.N N' scope = true) (hfp : ∀ b ∈ fp, Zgq X pins H b) (hlt : ∀ b ∈ fp, b < s.heap.objs.size) {h1 : Heap} {tk : Nat}
  (hns : h1.Ns s.heap.objs.size fun _ => none) (keep : ∀ b o, s.heap.get? b = some o → h1.get? b = some o) :
  Inv (Zcr X scope N' s.heap.objs.size (ZcF X.env.cells scope.names []) s H fp) [] (σ ++ List.replicate own none) H { s with heap := h1, toks := tk } := by
 have hc0 : ∀ y ∈ scope.names, y.2 = .free → ∃ c, X.env.cells.lookup y.1 = some c := fun y hy e => I.ok.has y.1 (hfree y hy e)
 have sub : ∀ x c, (ZcF X.env.cells scope.names []).lookup x = some c → X.env.cells.lookup x = some c := fun x c h => by
  rcases Zma scope.names [] hc0 h with q | q
  ·simp at q
  ·exact q
 have cellK : ∀ {c : Addr} {v : Option Value}, s.heap.IsCell c v → h1.IsCell c v := fun ⟨o, ho, hd⟩ => ⟨o, keep _ o ho, hd⟩
 refine ⟨⟨I.ok.mod, hk, I.ok.glob, I.ok.blt, Nat.le_refl _, fun x y c h1 h2 => I.ok.inj x y c (sub x c h1) (sub y c h2), fun x hx => ?_, fun x c h => ?_, I.ok.hd, I.ok.frames, .inl rfl, fun b hb => ⟨Nat.ne_of_lt (hlt b hb), fun x c h => (hfp b hb).2.2.2.2.1 x c (sub x c h)⟩,
   I.bs, Nat.le_trans I.ok.bsz I.sz, fun b o e hb => ?_, fun b hb hz => ?_, I.stack, I.stkFree⟩, rfl, I.bare, Un.kept keep, ⟨_, hns, fun i x v h1 h2 h3 => ?_⟩, fun x c h => ?_, I.hok.fresh (Nat.le_refl _), fun x c h => I.freeC x c (sub x c h),
  fun p hp => absurd (show p ∈ ([] : List (Addr × Obj)) from hp) (by simp), I.hok.kept keep, ?_⟩
 ·have hx' : (relabel scope X.env).names.lookup x = some .cell ∨ (relabel scope X.env).names.lookup x = some .free := hx
  have : scope.names.lookup x = some .free := by
   rcases hx' with hx' | hx'
   ·obtain ⟨k0, e, q⟩ := Zez (names := scope.names) hx'
    rcases q with q | ⟨q, _⟩
    ·subst q; exact absurd rfl (hcell _ (PySem.mem_of_lookup e))
    ·rw [e, q]
   ·obtain ⟨k0, e, q⟩ := Zez (names := scope.names) hx'
    rcases q with q | ⟨_, q⟩
    ·rw [e, q]
    ·cases q
  exact Option.isSome_iff_exists.mp (Zi9 scope.names [] (PySem.mem_of_lookup this))
 ·cases h
 ·obtain ⟨_, _, _, q, _⟩ := hfp b hb
  rcases q with q | q
  ·exact I.ok.noex b o e q
  ·exact absurd (Nat.lt_of_lt_of_le (Heap.lt_size e) (Nat.le_trans I.ok.bsz q)) (Nat.lt_irrefl _)
 ·have hz' : b ∈ frs X.stack := hz
  obtain ⟨_, q1, q2, _⟩ := hfp b hb
  rcases List.mem_cons.mp (I.stkSub b hz') with e | e
  ·exact q1 e
  ·exact q2 e
 ·have hi : i < σ.length := by
   by_cases hi : i < σ.length
   ·exact hi
   ·rw [List.getElem?_append_right (by omega), List.getElem?_replicate] at h2
    split at h2 <;> cases h2
  rw [List.getElem?_append_left hi] at h2
  have hiN : i < X.N.length := by rw [← I.len]; exact hi
  have hN' : N'[i]? = some x := h1
  have vq := List.all_eq_true.mp hv i (List.mem_range.mpr hiN)
  rw [hN'] at vq
  have h3' : (relabel scope X.env).names.lookup x = some .local ∨ (relabel scope X.env).names.lookup x = some .cell ∨ (relabel scope X.env).names.lookup x = some .free := h3
  have some_of : ∃ k0, scope.names.lookup x = some k0 := by
   rcases h3' with q | q | q <;> (obtain ⟨k0, e, _⟩ := Zez (names := scope.names) q; exact ⟨k0, e⟩)
  obtain ⟨k0, ek⟩ := some_of
  simp only [ek, Option.isNone_some, Bool.false_or, Bool.and_eq_true, decide_eq_true_eq] at vq
  obtain ⟨vq1, vq2⟩ := vq
  cases vq2
  have hkind := hfree (x, .free) (PySem.mem_of_lookup ek) rfl
  obtain ⟨m, hn, hl⟩ := I.loc
  have hVis : Vis X.env.scope x := by
   rcases hkind with q | q
   ·exact .inr (.inl q)
   ·exact .inr (.inr q)
  obtain ⟨u, ru, lk⟩ := hl i x v vq1 h2 hVis
  refine ⟨u, ru, ?_⟩
  rcases lk with ⟨kl, _⟩ | ⟨_, c, ec, ic⟩
  ·rcases hkind with q | q <;> (rw [q] at kl; cases kl)
  ·have hkk : (compEnvC scope (ZcF X.env.cells scope.names []) s.heap.objs.size X.env).kindOf x = some .cell ∨ (compEnvC scope (ZcF X.env.cells scope.names []) s.heap.objs.size X.env).kindOf x = some .free := by
    rcases Zjh (env := X.env) ek with q | q
    ·exact .inr q
    ·exact .inl q
   obtain ⟨c', ec'⟩ := Option.isSome_iff_exists.mp (Zi9 (cells := X.env.cells) scope.names [] (PySem.mem_of_lookup ek))
   have e2 := sub x c' ec'
   rw [ec] at e2
   cases e2
   exact .inr ⟨hkk, c, ec', cellK ic⟩
 ·obtain ⟨v, ic⟩ := I.cell x c (sub x c h)
  exact ⟨v, cellK ic⟩
 ·show (σ ++ List.replicate own none).length = N'.length
  rw [List.length_append, List.length_replicate, I.len, hN]
theorem Zcp.grow {K : PySem.W.Frag} {H : Hp} {ι : List Addr} {env : ZaO} {σ : St} (E : Zcp K H ι env σ) (n : Nat) : Zcp K H ι (env ++ List.replicate n none) (σ ++ List.replicate n none) := by
 refine ⟨by simp [E.1], fun i d h => ?_⟩
 by_cases hi : i < env.length
 ·rw [List.getElem?_append_left hi] at h
  obtain ⟨v, e, r⟩ := E.2 i d h
  exact ⟨v, by rw [List.getElem?_append_left (by rw [← E.1]; exact hi)]; exact e, r⟩
 ·rw [List.getElem?_append_right (by omega), List.getElem?_replicate] at h
  split at h <;> cases h
end
section
variable {X : Cx} {elt tg iter : Expr} {ifs : List Expr} {scope : Scope} {pos : Pos} {i : I3} {own : Nat} {g : G3} {ts : List E3} {f : E3} {N' : List Str}
structure ZhP (X : Cx) (scope : Scope) (N' : List Str) (own : Nat) : Prop where
 kind : scope.kind = .function
 cell : ∀ y ∈ scope.names, y.2 ≠ .cell
 free : ∀ y ∈ scope.names, y.2 = .free → X.env.kindOf y.1 = some .cell ∨ X.env.kindOf y.1 = some .free
 names : ∀ y ∈ scope.names, y.2 = .local → scope.names.lookup y.1 = some .local
 len : N'.length = X.N.length + own
 vis : ZnV X.N N' scope = true
theorem ZhD {pins : List (Addr × Obj)} {σ : St} {s2 : Shared} {H2 : Hp} {ι2 : List Addr} {M2 : Store} {env : ZaO} {it : Addr} {fp : List Addr} {tn : Nat → Heap → Prop} {J : It} {itd : It3} {Q : VK} {E : Value → Shared → Prop} (O : ZhP X scope N' own) (hc : X.calm = true)
  (hb : ∀ C cl s H ex, CG (Zcr X scope N' C cl s H ex) tg g ∧ CTs (Zcr X scope N' C cl s H ex) ifs ts ∧ C3 (Zcr X scope N' C cl s H ex) elt f)
  (I2 : Inv X pins σ H2 s2) (T : Turn X.prog X.w X.K tg J fp it tn) (st0 : tn 0 s2.heap) (hfp : ∀ b ∈ fp, Zgq X pins H2 b) (S2 : ZaG X.K H2 ι2 M2) (E2 : Zcp X.K H2 ι2 env σ) (ok : Zk6 X.K H2 ι2 itd J)
  (h : ZaF X.K H2 ι2 Q (ZdF itd g ts f M2.length itd.items (env ++ List.replicate own none) (M2 ++ [.lst []])))
  (RR : Value → Addr → Result → Shared → Prop)
  (fin : ∀ (acc C : Addr) (s' : Shared) (m : Str → Option Value) (H' : Hp), s'.heap.Ns C m → Zgq X pins H' C → Inv X pins σ H' s' → Q (.ref acc) H' → RR (.ref acc) C (.ok .next) s') :
  wpAny (model X.prog X.w) X.A (newList []) (fun acc s₃ => wpAny (model X.prog X.w) X.A (newFunctionEnv scope X.env.globals (ZcF X.env.cells scope.names []) [] X.env.qual none .none (some X.env)) (fun cenv s₄ =>
   codeAny (model X.prog X.w) X.A (.compStart (.ListComp elt [⟨tg, iter, ifs, 0⟩] scope pos) 0 (.ref it) acc { cenv with scope := relabel scope X.env }) (RR acc cenv.locals) s₄) E s₃) E s2 := by
 refine wpAny_newObj_type ?_
 have hD : H2 s2.heap.objs.size = none := I2.hok.fresh (Nat.le_refl _)
 obtain ⟨x3, S3, r3⟩ := S2.lst hD (Zai.nil (K := X.K) (H := H2) (ι := ι2))
 have I3 : Inv X pins σ (upd H2 s2.heap.objs.size (.lst [])) { s2 with heap := s2.heap.push { cls := .type "list", data := .seq ([] : List Value).toArray } } :=
  I2.laid (t' := s2.toks) (fun b u e => Heap.get?_push_of_some _ e) (Nat.le_refl _) ⟨Nat.zero_le _, [], 0, .nil, Heap.get?_push_size _ rfl⟩
 generalize hs3 : ({ s2 with heap := s2.heap.push { cls := .type "list", data := .seq ([] : List Value).toArray } } : Shared) = s3 at I3 ⊢
 have keep23 : ∀ b o, s2.heap.get? b = some o → s3.heap.get? b = some o := fun b o e => by rw [← hs3]; exact Heap.get?_push_of_some _ e
 have hfp3 : ∀ b ∈ fp, Zgq X pins (upd H2 s2.heap.objs.size (.lst [])) b := fun b hb => by
  refine ⟨?_, (hfp b hb).2⟩
  obtain ⟨o, e, _⟩ := T.obj _ _ st0 b hb
  rw [ZaB (Nat.ne_of_lt (Heap.lt_size e))]
  exact (hfp b hb).1
 have hlt3 : ∀ b ∈ fp, b < s3.heap.objs.size := fun b hb => by
  obtain ⟨o, e, _⟩ := T.obj _ _ st0 b hb
  exact Heap.lt_size (keep23 b o e)
 have st3 : tn 0 s3.heap := T.keep _ _ _ st0 fun b hb o e => keep23 b o e
 refine wpAny_newFunctionEnv O.cell (by intro y hy; cases hy) (fun h4 hns hsb => ?_) O.kind
 have keep34 : ∀ b o, s3.heap.get? b = some o → h4.get? b = some o := fun b o e => hsb.extBut b o (Nat.ne_of_lt (Heap.lt_size e)) (Heap.get?_push_of_some _ e)
 have I4 := ZnJ (own := own) (N' := N') (tk := s3.toks + ([] : List (Str × Value)).length) I3 O.kind O.cell O.free O.len O.vis hfp3 hlt3 hns keep34
 have st4 : tn 0 h4 := T.keep _ _ _ st3 fun b hb o e => keep34 b o e
 have hfp4 : ∀ {H' : Hp}, (∀ b ∈ fp, H' b = none) → ∀ b ∈ fp, Zgq (Zcr X scope N' s3.heap.objs.size (ZcF X.env.cells scope.names []) s3 (upd H2 s2.heap.objs.size (.lst [])) fp) [] H' b := fun hn b hb => by
  have hc0 : ∀ y ∈ scope.names, y.2 = .free → ∃ c, X.env.cells.lookup y.1 = some c := fun y hy e => I2.ok.has y.1 (O.free y hy e)
  refine ⟨hn b hb, Nat.ne_of_lt (hlt3 b hb), fun hz => I4.ok.exfs b hb hz, .inl hb, fun x c hx => (I4.ok.exf b hb).2 x c hx, fun p hp => absurd (show p ∈ ([] : List (Addr × Obj)) from hp) (by simp)⟩
 obtain ⟨hg, hts, helt⟩ := hb s3.heap.objs.size (ZcF X.env.cells scope.names []) s3 (upd H2 s2.heap.objs.size (.lst [])) fp
 have loop : ∀ s₄ : Shared, s₄ = { s3 with heap := h4, toks := s3.toks + ([] : List (Str × Value)).length } →
   codeAny (model X.prog X.w) X.A (.compLoop (.ListComp elt [⟨tg, iter, ifs, 0⟩] scope pos) 0 (.ref it) (.ref s2.heap.objs.size) (compEnvC scope (ZcF X.env.cells scope.names []) s3.heap.objs.size X.env)) (RR (.ref s2.heap.objs.size) s3.heap.objs.size) s₄ := by
  rintro s₄ rfl
  refine Zjl (fun n s' => ∃ k σ5 H5 ι5 M5 env5, Inv (Zcr X scope N' s3.heap.objs.size (ZcF X.env.cells scope.names []) s3 (upd H2 s2.heap.objs.size (.lst [])) fp) [] σ5 H5 s' ∧ tn k s'.heap ∧ (∀ b ∈ fp, H5 b = none) ∧ n = itd.items.length - k ∧ k ≤ itd.items.length ∧
   Ext X.K H2 ι2 H5 ι5 ∧ ZaG X.K H5 ι5 M5 ∧ Zcp X.K H5 ι5 env5 σ5 ∧ ι5[M2.length]? = some s2.heap.objs.size ∧ ZaF X.K H5 ι5 Q (ZdF itd g ts f M2.length (itd.items.drop k) env5 M5)) ?_ itd.items.length
   ⟨0, _, _, _, _, _, I4, st4, fun b hb => (hfp3 b hb).1, rfl, Nat.zero_le _, x3, S3, (E2.mono x3).grow own, ?_, h.up x3⟩
  ·rintro n s5 ⟨k, σ5, H5, ι5, M5, env5, I5, st5, fr5, rfl, hk, x5, S5, E5, hι, h5⟩
   by_cases hlt : k < itd.items.length
   ·have hd : itd.items[k]? = some itd.items[k] := by simp [hlt]
    rw [List.drop_eq_getElem_cons hlt] at h5
    unfold ZdF at h5
    by_cases lk : locked itd M5 = true
    ·rw [if_pos lk] at h5
     obtain ⟨go, yl⟩ := (ok k H5 ι5 M5 x5 S5 lk).1 _ hd
     cases eg : g itd.items[k] env5 with
     | none => rw [eg] at h5; exact h5.elim
     | some env6 =>
      rw [eg] at h5
      refine thn (T.item (Zcr X scope N' s3.heap.objs.size (ZcF X.env.cells scope.names []) s3 (upd H2 s2.heap.objs.size (.lst [])) fp) rfl rfl rfl hc k [] s5 σ5 H5 (fun _ _ => False) I5 (hfp4 fr5) st5 go) fun r s6 ⟨u, hr, h6⟩ => ?_
      subst hr
      refine thn h6 fun _ s7 ⟨x, H7, I7, r7, y7, st7, fr7⟩ => ?_
      obtain ⟨rfl, rx⟩ := yl x H7 y7
      have I7' := I7.pinned (hfp4 fr7) (T.obj _ _ st7)
      refine thn (hg _ s7 σ5 H7 x u (fun σ' H' => H' = H7 ∧ Zcp X.K H7 ι5 env6 σ') I7' r7 ⟨ι5, M5, env5, _, env6, S5, E5, rx, eg, fun σ' E' => ⟨rfl, E'⟩⟩) fun _ s8 ⟨σ8, H8, I8, e8, E8⟩ => ?_
      subst e8
      have back : ∀ {σ' : St} {H' : Hp} {s' : Shared}, Inv (Zcr X scope N' s3.heap.objs.size (ZcF X.env.cells scope.names []) s3 (upd H2 s2.heap.objs.size (.lst [])) fp) ([] ++ ZhA fp s7.heap) σ' H' s' →
        Inv (Zcr X scope N' s3.heap.objs.size (ZcF X.env.cells scope.names []) s3 (upd H2 s2.heap.objs.size (.lst [])) fp) [] σ' H' s' ∧ tn (k + 1) s'.heap ∧ ∀ b ∈ fp, H' b = none := fun {σ' H' s'} I' => by
       refine ⟨I'.unpinned, T.keep _ _ _ st7 fun b hb o e => (I'.pin (b, o) (List.mem_append_right _ (List.mem_append_right _ (Ze9 hb e)))).1, fun b hb => ?_⟩
       obtain ⟨o, e, d⟩ := T.obj _ _ st7 b hb
       exact (I'.pin (b, o) (List.mem_append_right _ (List.mem_append_right _ (Ze9 hb e)))).2.1
      obtain ⟨b, M9, e9, h9⟩ := ZaF.bind h5
      refine thn (hts _ s8 σ8 H8 (fun b' H' => b' = b ∧ ∃ ι9, Ext X.K H8 ι5 H' ι9 ∧ ZaG X.K H' ι9 M9) I8 ⟨ι5, M5, env6, S5, E8, by rw [e9]; exact fun H' ι' x' S' => ⟨rfl, ι', x', S'⟩⟩) fun b' s9 ⟨H9, I9, eb, ι9, x9, S9⟩ => ?_
      subst eb
      cases b' with
      | false =>
       rw [if_neg (by decide)] at h9 ⊢
       obtain ⟨I9', st9, fr9⟩ := back I9
       exact ⟨itd.items.length - (k + 1), by omega, k + 1, σ8, H9, ι9, M9, env6, I9', st9, fr9, rfl, hlt, x5.trans x9, S9, E8.mono x9, x9.pre _ _ hι, h9.up x9⟩
      | true =>
       rw [if_pos rfl] at h9 ⊢
       obtain ⟨d, M10, e10, h10⟩ := ZaF.bind h9
       refine thn (helt _ s9 σ8 H9 (fun v H' => ∃ ι10, Ext X.K H9 ι9 H' ι10 ∧ ZaG X.K H' ι10 M10 ∧ Rep X.K H' ι10 d v) I9 ⟨ι9, M9, env6, S9, E8.mono x9, by rw [e10]; exact fun v H' ι' x' S' r' => ⟨ι', x', S', r'⟩⟩) fun xv s10 ⟨v, H10, I10, r10, ι10, x10, S10, rd⟩ => ?_
       have hι10 : ι10[M2.length]? = some s2.heap.objs.size := x10.pre _ _ (x9.pre _ _ hι)
       cases hm : M10[M2.length]? with
       | none => rw [hm] at h10; exact h10.elim
       | some o =>
        cases o with
        | dct _ => rw [hm] at h10; exact h10.elim
        | fdct _ => rw [hm] at h10; exact h10.elim
        | lst xs =>
         rw [hm] at h10
         by_cases hz : xs.length < SZ
         ·simp only [if_pos hz] at h10
          obtain ⟨vs, ev, rvs⟩ := S10.obj _ _ _ hm hι10
          obtain ⟨x11, S11⟩ := S10.setl (.inr (.inl ⟨_, ev⟩)) hι10 (rvs.append (Zai.cons rd Zai.nil))
          refine thn (Zjb _ s10 σ8 H10 (.ref s2.heap.objs.size) [v] (.ref s2.heap.objs.size) [xv] (fun _ H' => H' = upd H10 s2.heap.objs.size (.lst (vs ++ [v]))) I10 rfl (.cons r10 .nil) ⟨_, vs, v, rfl, rfl, ev, by rw [rvs.length]; exact Nat.lt_of_lt_of_le hz ZcM, rfl⟩) fun _ s11 ⟨_, H11, I11, _, eH⟩ => ?_
          subst eH
          obtain ⟨I11', st11, fr11⟩ := back I11
          exact ⟨itd.items.length - (k + 1), by omega, k + 1, σ8, _, ι10, _, env6, I11', st11, fr11, rfl, hlt, ((x5.trans x9).trans x10).trans x11, S11, ((E8.mono x9).mono x10).mono x11, hι10, ((h10.up x9).up x10).up x11⟩
         ·simp only [if_neg hz] at h10; exact h10.elim
    ·rw [if_neg lk] at h5; exact h5.elim
   ·have e0 : k = itd.items.length := by omega
    subst e0
    rw [List.drop_length] at h5
    unfold ZdF at h5
    by_cases lk : locked itd M5 = true
    ·rw [if_pos lk] at h5
     refine thn (T.done (Zcr X scope N' s3.heap.objs.size (ZcF X.env.cells scope.names []) s3 (upd H2 s2.heap.objs.size (.lst [])) fp) rfl rfl rfl hc _ [] s5 σ5 H5 (fun _ _ => False) I5 (hfp4 fr5) st5 ((ok _ H5 ι5 M5 x5 S5 lk).2 rfl)) fun r s6 ⟨hr, I6⟩ => ?_
     subst hr
     obtain ⟨m6, hn6, _⟩ := I6.loc
     have I7 : Inv X pins σ H5 s6 := I3.call' (ch := fp) I6.os I6.base I6.hok I6.bare fun b hb => ⟨(hfp3 b hb).2.2.2.1, (hfp3 b hb).2.1, (hfp3 b hb).2.2.2.2.1, (hfp3 b hb).2.2.2.2.2⟩
     exact fin _ _ s6 m6 H5 hn6 (I3.fpOk (Nat.le_refl _) I6.free) I7 (h5 _ H5 ι5 Ext.refl S5 (Rep.ref hι))
    ·rw [if_neg lk] at h5; exact h5.elim
  ·rw [← S2.len]; simp
 exact codeAny_compStart_list (loop _ rfl) (T.self _ 0 _ _ _ st4 (loop _ rfl))
theorem Zr6 (O : ZhP X scope N' own) (hxe : X.xe = fun _ _ => False) (hc : X.calm = true) (hi : CI X tg iter i)
  (hb : ∀ C cl s H ex, CG (Zcr X scope N' C cl s H ex) tg g ∧ CTs (Zcr X scope N' C cl s H ex) ifs ts ∧ C3 (Zcr X scope N' C cl s H ex) elt f)
  (hs : ∀ x, foldedSetIterable iter X.env x = pure x := by intro _; rfl) : C3 X (.ListComp elt [⟨tg, iter, ifs, 0⟩] scope pos) (eLC i own g ts f) := by
 intro pins s σ H Q I h
 obtain ⟨ι, M, env, S, E, h⟩ := h
 obtain ⟨itd, M1, e1, h⟩ := ZaF.bind h
 have hc0 : ∀ y ∈ scope.names, y.2 = .free → ∃ c, X.env.cells.lookup y.1 = some c := fun y hy e => I.ok.has y.1 (O.free y hy e)
 rw [eval_ListComp]
 refine wpAny_comprehension_free (use := none) rfl hs (ZfW hc0) O.kind O.names ?_
 refine thn (hi pins s σ H (fun J H' => ∃ ι', Ext X.K H ι H' ι' ∧ ZaG X.K H' ι' M1 ∧ Zk6 X.K H' ι' itd J) I ⟨ι, M, env, S, E, by rw [e1]; exact fun J H' ι' x S' o => ⟨ι', x, S', o⟩⟩) fun v s1 h1 => thn h1 fun itv s2 h2 => ?_
 obtain ⟨it, fp, tn, J, H2, rfl, I2, T, st2, f2, ι2, x2, S2, ok⟩ := h2
 refine ZhD (own := own) (g := g) (ts := ts) (f := f) O hc hb I2 T st2 f2 S2 (E.mono x2) ok (h.up x2) (fun acc C => compPost (model X.prog X.w) X.A X.xe none (EP X pins σ Q) acc C) ?_
 intro acc C s' m H' hn hf I' hq
 obtain ⟨f0, f1, f2', f3, f4, f5⟩ := hf
 exact ⟨m, hn, fun h' sb => ⟨.ref acc, H', I'.turned (t' := s'.toks) (fun b o hb e => (sb.2 b hb).trans e) f0 f1 f3 f4 f5, rfl, hq⟩⟩
theorem Zew (j : Nat) {x : Str} {pos' spos : Pos} (O : ZhP X scope N' own) (hxe : X.xe = fun _ _ => False) (hc : X.calm = true) (hN : X.N.Nodup) (hi : CI X tg iter i)
  (hb : ∀ C cl s H ex, CG (Zcr X scope N' C cl s H ex) tg g ∧ CTs (Zcr X scope N' C cl s H ex) ifs ts ∧ C3 (Zcr X scope N' C cl s H ex) elt f)
  (hj : X.N[j]? = some x := by rfl) (hx : Loc X.env.scope x := by first | exact Or.inl rfl | exact Or.inr rfl)
  (hf : X.fn x = true ∨ X.env.scope.names.lookup x = some .local := by first | exact .inl rfl | exact .inr rfl)
  (hsw : swapsWith (.ListComp elt [⟨tg, iter, ifs, 0⟩] scope pos) (some (.Name x pos')) spos.line X.env = pure true := by rfl)
  (hs : ∀ x, foldedSetIterable iter X.env x = pure x := by intro _; rfl) : CS X (.Assign [.Name x pos'] (.ListComp elt [⟨tg, iter, ifs, 0⟩] scope pos) spos) (Zac j (eLC i own g ts f)) := by
 intro pins s σ H D I h
 obtain ⟨ι, M, env, S, E, h⟩ := h
 have h0 : ZaF X.K H ι (fun v H' => D.nx (σ.set j (some v)) H') (eLC i own g ts f env M) := by
  unfold Zac at h
  cases q : eLC i own g ts f env M with
  | ok d M1 => rw [q] at h; exact fun v H1 ι1 x1 S1 r1 => h _ H1 ι1 x1 S1 ((E.mono x1).set j r1)
  | exc _ _ => rw [q] at h; exact h.elim
  | bad => rw [q] at h; exact h.elim
 obtain ⟨itd, M1, e1, h1⟩ := ZaF.bind h0
 have hc0 : ∀ y ∈ scope.names, y.2 = .free → ∃ c, X.env.cells.lookup y.1 = some c := fun y hy e => I.ok.has y.1 (O.free y hy e)
 rw [exec_Assign_Name_used _ _ _ _ hsw]
 refine wpAny_bind (wpAny_standAt (wpAny_bind ?_))
 show wpAny _ X.A (do let _ ← comprehension (.ListComp elt [⟨tg, iter, ifs, 0⟩] scope pos) scope X.env _ (newList []) false (eval iter X.env) (some (assign (.Name x pos') X.env))) _ _ s
 refine wpAny_bind (wpAny_mono (wpAny_comprehension_free (use := some (assign (.Name x pos') X.env)) (Q := fun _ s' => SP X pins D .next s') rfl hs (ZfW hc0) O.kind O.names ?_) (fun _ s' hq => wpAny_pure (wpAny_pure hq)) fun _ _ e => e)
 refine thn (hi pins s σ H (fun J H' => ∃ ι', Ext X.K H ι H' ι' ∧ ZaG X.K H' ι' M1 ∧ Zk6 X.K H' ι' itd J) I ⟨ι, M, env, S, E, by rw [e1]; exact fun J H' ι' x S' o => ⟨ι', x, S', o⟩⟩) fun v s1 h1' => thn h1' fun itv s2 h2 => ?_
 obtain ⟨it, fp, tn, J, H2, rfl, I2, T, st2, f2, ι2, x2, S2, ok⟩ := h2
 refine ZhD (own := own) (g := g) (ts := ts) (f := f) O hc hb I2 T st2 f2 S2 (E.mono x2) ok (h1.up x2) (fun acc C => compPost (model X.prog X.w) X.A X.xe (some (assign (.Name x pos') X.env)) (fun _ s' => SP X pins D .next s') acc C) ?_
 intro acc C s' m H' hn hfC I' hq
 obtain ⟨f0, f1, f2', f3, f4, f5⟩ := hfC
 show wpAny _ X.A (assign (.Name x pos') X.env (.ref acc)) _ _ s'
 refine wpAny_assign_Name (Zi7 I' hN hj hx (show RelV (.ref acc) (.ref acc) from rfl) (fun s'' I'' ⟨a, sb, ha⟩ => ?_) hf)
 have hCa : C ≠ a := by
  rcases ha with rfl | ha
  ·exact f1
  ·exact Ne.symm (f4 x a ha)
 exact ⟨m, hn.sameBut sb hCa, fun h' sb' => ⟨_, H', I''.turned (t' := s''.toks) (fun b o hb e => (sb'.2 b hb).trans e) f0 f1 f3 f4 f5, hq⟩⟩
end
end L3
namespace L3
open PySem PySem.Spec PyProof.Rows L2
theorem Zcu {k : Nat} {A : Around} (r : Zd4 k A) : A.units + 80 < cLine := by have := r.un; omega
def Its (x : Str) : It := ⟨fun i _ => i < x.cps.size, fun i H y H' => H' = H ∧ ∃ c, x.cps[i]? = some c ∧ y = .str ⟨#[c]⟩, fun i _ => i = x.cps.size⟩
theorem ZnB {P : Program} {w : World} {K : PySem.W.Frag} {tg : Expr} {it : Addr} {x : Str} {t : Tok} {ty : String} (W : ∀ A' : Around, A'.handled = none → Walks P w A' it [it] [it] x.cps.size (SignAt x) (fun i h => h.IsStrIter it ty x t i))
  (hs : ∀ (A : Around) (i : Nat) (s : Shared) (Q : Value → Shared → Prop) (E : Value → Shared → Prop), s.heap.IsStrIter it ty x t i → Q (.ref it) s → wpAny (model P w) A (pyIter (.ref it)) Q E s)
  (hty : ["enumerate", "zip", "dict_itemiterator", "dict_reverseitemiterator", "odict_iterator", "itertools.zip_longest", "itertools.pairwise"].contains ty = false) : Turn P w K tg (Its x) [it] it (fun i h => h.IsStrIter it ty x t i) where
 mem := by simp
 obj := fun i h st b hb => by
  have e : b = it := by simpa using hb
  subst e
  obtain ⟨o, e, c, d⟩ := st
  exact ⟨o, e, fun v z => by rw [d] at z; cases z⟩
 keep := fun i h h' st k => let ⟨o, e, r⟩ := st; ⟨o, k it (by simp) o e, r⟩
 item := by
  intro X hP hw hK hc i pins s σ H E I hf st hg
  subst hP hw hK
  obtain ⟨f0, f1, f2, f3, f4, f5⟩ := hf it (by simp)
  refine (W X.A (I.ok.hd hc)).item i s _ _ hg st fun v h' tk hv st' kk => ?_
  obtain ⟨c, u, hx, rfl⟩ := hv
  have I1 : Inv X pins σ H { s with heap := h', toks := tk } := I.turned (fun b o hb e => kk b o (by simpa using hb) e) f0 f1 f3 f4 f5
  obtain ⟨o, e, cc, d⟩ := id st'
  exact ⟨_, rfl, Zkr (s := { s with heap := h', toks := tk }) e cc d hty ⟨.str ⟨#[c]⟩, H, I1, ⟨u, rfl⟩, ⟨rfl, c, hx, rfl⟩, st', fun b hb => (hf b hb).1⟩⟩
 done := by
  intro X hP hw hK hc i pins s σ H E I hf st hg
  subst hP hw hK
  obtain ⟨f0, f1, f2, f3, f4, f5⟩ := hf it (by simp)
  have e : i = x.cps.size := hg
  subst e
  exact (W X.A (I.ok.hd hc)).done s _ _ st fun h' tk kk => ⟨rfl, I.turned (fun b o hb e => kk b o (by simpa using hb) e) f0 f1 f3 f4 f5⟩
 self := hs
section
variable {X : Cx} {tg e o : Expr} {es : List Expr} {pos p apos cpos : Pos} {f : E3} {gl : EL3}
theorem Zqg (h : C3 X e f) : PI X tg e (fun σ H R => tOf X.K f σ H fun x H1 => ∃ z : Str, x = .str z ∧ z.length ≤ SZ ∧ ∀ J, (∀ ι, Zk6 X.K H1 ι ⟨z.cps.toList.map fun c => .str [c], none⟩ J) → R J H1) := by
 intro pins s σ H R I hw
 refine thn (h pins s σ H _ I hw) fun v s1 ⟨x, H1, I1, r1, z, ex, hz, q⟩ => ?_
 subst ex
 obtain ⟨t, rfl⟩ := r1
 have key : ∀ (ty : String) (o : Obj), (∀ A' : Around, A'.handled = none → Walks X.prog X.w A' s1.heap.objs.size [s1.heap.objs.size] [s1.heap.objs.size] z.cps.size (SignAt z) (fun i h => h.IsStrIter s1.heap.objs.size ty z t i)) →
   (∀ (A : Around) (i : Nat) (s : Shared) (Q : Value → Shared → Prop) (E : Value → Shared → Prop), s.heap.IsStrIter s1.heap.objs.size ty z t i → Q (.ref s1.heap.objs.size) s → wpAny (model X.prog X.w) A (pyIter (.ref s1.heap.objs.size)) Q E s) →
   ["enumerate", "zip", "dict_itemiterator", "dict_reverseitemiterator", "odict_iterator", "itertools.zip_longest", "itertools.pairwise"].contains ty = false → (s1.heap.push o).IsStrIter s1.heap.objs.size ty z t 0 →
   PIE X pins σ tg R (.ref s1.heap.objs.size) { s1 with heap := s1.heap.push o } := by
  intro ty o W hs hty st
  refine ⟨s1.heap.objs.size, [s1.heap.objs.size], _, _, H1, rfl, I1.kept (t' := s1.toks) fun b o e => Heap.get?_push_of_some _ e, ZnB W hs hty, st, fun b hb => ?_, q _ fun ι => ?_⟩
  ·have e : b = s1.heap.objs.size := by simpa using hb
   subst e
   exact I1.fpOk (Nat.le_refl _) (I1.hok.fresh (Nat.le_refl _))
  ·intro i H2 ι2 M2 x S _
   refine ⟨fun d hd => ?_, fun hl => ?_⟩
   ·rw [List.getElem?_map] at hd
    cases hq : z.cps.toList[i]? with
    | none => rw [hq] at hd; cases hd
    | some c =>
     rw [hq] at hd
     have hd' : D.str [c] = d := by simpa using hd
     subst hd'
     have hi : i < z.cps.size := by
      have := (List.getElem?_eq_some_iff.mp hq).1
      simpa using this
     refine ⟨hi, fun y H3 hy => ⟨hy.1, ?_⟩⟩
     obtain ⟨_, c', hc', rfl⟩ := hy
     have : c' = c := by
      rw [← Array.getElem?_toList, hq] at hc'
      exact (Option.some.inj hc').symm
     subst this
     exact Rep.str
   ·show i = z.cps.size
    rw [hl]
    simp
 cases ha : z.cps.all (· < 128)
 ·exact wpAny_pyIter_wide ha (key "str_iterator" _ (fun A' hA => Walks.strWide hA _ z t) (fun _ _ _ _ _ st h => wpAny_pyIter_striter_wide st h) (by decide) ⟨_, Heap.get?_push_size _ rfl, rfl, rfl⟩)
 ·exact wpAny_pyIter_ascii ha (key "str_ascii_iterator" _ (fun A' hA => Walks.strAscii hA _ z t) (fun _ _ _ _ _ st h => wpAny_pyIter_striter_ascii st h) (by decide) ⟨_, Heap.get?_push_size _ rfl, rfl, rfl⟩)
theorem ZpC (h : C3 X e f) : CI X tg e (Zhq f) := Zqi h (Zqg h)
theorem Zpp {K : PySem.W.Frag} {T : String} {ty : D → Store → Bool} {m : D → List D → Store → R3 D} (hty : ∀ H ι M a x, ZaG K H ι M → Rep K H ι a x → ty a M = true → tyV K T x H) (σ : St) (H : Hp) (Q : VK) (h : tOf K (ZeK ty m f gl) σ H Q) : tBM K T (rM K m) (tOf K f) (tAf K gl) σ H Q := by
 obtain ⟨ι, M, env, S, E, h⟩ := h
 obtain ⟨a, M1, e1, h⟩ := ZaF.bind h
 refine ⟨ι, M, env, S, E, ?_⟩
 rw [e1]
 intro v H1 ι1 x1 S1 r1
 by_cases ht : ty a M1 = true
 ·rw [if_pos ht] at h
  obtain ⟨ds, M2, e2, h⟩ := ZaF.bind h
  refine ⟨hty _ _ _ _ _ S1 r1 ht, ι1, M1, env, S1, E.mono x1, ?_⟩
  rw [e2]
  intro vs H2 ι2 x2 S2 r2
  exact ⟨ι2, M2, a, ds, S2, r1.mono x2, r2, (h.up x1).up x2⟩
 ·rw [if_neg ht] at h; exact h.elim
theorem Zqa {K : PySem.W.Frag} (H : Hp) (ι : List Addr) (M : Store) (a : D) (x : V) (S : ZaG K H ι M) (r : Rep K H ι a x) (h : tyL a M = true) : tyV K "list" x H := by
 cases a with
 | ref n =>
  simp only [tyL] at h
  cases hn : M[n]? with
  | none => simp [hn] at h
  | some o =>
   cases o with
   | dct _ => simp [hn] at h
   | fdct _ => simp [hn] at h
   | lst xs =>
    obtain ⟨p, hp, rfl⟩ := r.ref_inv
    obtain ⟨vs, e, _⟩ := S.obj n _ p hn hp
    exact .inl ⟨rfl, vs, SqL.of e⟩
 | _ => simp at h
theorem _root_.L2.MtR.imp {id : String} {r r' : V → List V → Hp → VK → Prop} (h : MtR X id r) (i : ∀ x xs H Q, r' x xs H Q → r x xs H Q) : MtR X id r' := fun pins s σ H x xs v us Q I rx rs q => h pins s σ H x xs v us Q I rx rs (i x xs H Q q)
theorem ZnC : MtR X "list.append" (rM X.K Zb8) := MtR.imp (r := ZlX) Zjb fun x xs H Q ⟨ι, M, a, ds, S, ra, rd, h⟩ => by
 cases a with
 | ref n =>
  cases ds with
  | nil => exact h.elim
  | cons d ds =>
   cases ds with
   | cons _ _ => exact h.elim
   | nil =>
    simp only [Zb8] at h
    cases hn : M[n]? with
    | none => simp only [hn] at h; exact h.elim
    | some o =>
     cases o with
     | dct _ => simp only [hn] at h; exact h.elim
     | fdct _ => simp only [hn] at h; exact h.elim
     | lst z =>
      simp only [hn] at h
      split at h
      ·rename_i hz
       obtain ⟨p, hp, rfl⟩ := ra.ref_inv
       obtain ⟨v, ws, rfl, r1, r2⟩ := rd.cons_inv
       have := r2.nil_inv
       subst this
       obtain ⟨vs, e, rv⟩ := S.obj n _ p hn hp
       obtain ⟨x2, S2⟩ := S.setl (.inr (.inl ⟨_, e⟩)) hp (rv.append (Zai.cons r1 Zai.nil))
       exact ⟨p, vs, v, rfl, rfl, e, by rw [rv.length]; exact Nat.lt_of_lt_of_le hz ZcM, h _ _ _ x2 S2 Rep.non⟩
      ·exact h.elim
 | _ => exact h.elim
theorem Zed (ho : C3 X o f) (ha : CA X (e :: es) gl)
  (hbase : attributeBase o "append" X.env (eval o X.env) = eval o X.env := by rfl)
  (hfew : ((backTo cpos (starEach (e :: es) X.env)).all (fun x => !x.1) && (backToKw cpos (keywordEach [] X.env)).all (fun x => x.1.isSome)
   && decide ((e :: es).length + ([] : List Keyword).length + (if ([] : List Keyword).isEmpty then 0 else 1) < 30)) = true := by rfl)
  (hline : (apos.endLine == cpos.line) = true := by rfl) (hs : starEach (e :: es) X.env = (false, eval e X.env) :: starEach es X.env := by rfl) (hplain : (backTo cpos (starEach es X.env)).any (·.1) = false := by rfl) :
  C3 X (.Call (.Attribute o "append" apos) (e :: es) [] cpos) (ZeK tyL Zb8 f gl) :=
 (ZrB PySem.F.plainAttrs_list PySem.F.slot_list_append PySem.F.type_list_append ZnC ho ha hbase hfew hline hs hplain).imp (Zpp Zqa)
theorem Zru : OpR X (compareOp .In) (r2 X.K fun a b M => match a, b with | .str [c], .str y => .ok (.bl (decide (c ∈ y))) M | _, _ => .bad) := OpR.imp ZmO fun x y H Q ⟨ι, M, a, b, S, ra, rb, h⟩ => by
 cases a with
 | str z =>
  cases z with
  | nil => cases b <;> exact h.elim
  | cons c z =>
   cases z with
   | cons _ _ => cases b <;> exact h.elim
   | nil =>
    cases b with
    | str y =>
     refine ⟨_, _, ra.str_inv, rb.str_inv, ?_⟩
     have e := StrLaws.found_one (⟨y.toArray⟩ : Str) c
     rw [show (⟨[c].toArray⟩ : Str) = ⟨#[c]⟩ from rfl, e]
     exact ZaF.ok h S Rep.bl
    | _ => exact h.elim
 | _ => cases b <;> exact h.elim
end
end L3
namespace L3
open PySem PySem.Spec PyProof.Rows L2
section
variable {X : Cx}
theorem Zqw {pins : List (Addr × Obj)} {σ : St} {H : Hp} {s : Shared} {ι : List Addr} {M : Store} {a b : D} {x y : V} {u v : Value} {k : Bool} (hu : X.A.units + 80 < cLine) (I : Inv X pins σ H s) (S : ZaG X.K H ι M)
  (ra : Rep X.K H ι a x) (rb : Rep X.K H ι b y) (ru : RelV x u) (rv : RelV y v) (h : eqD a b M = some k) : SeqAt.RcNeAt X.A s u v (!k) := by
 cases a with
 | ref n =>
  cases b with
  | ref m =>
   simp only [eqD] at h
   cases hn : M[n]? with
   | none => simp [hn] at h
   | some o =>
    cases o with
    | dct _ => simp [hn] at h
    | fdct _ => simp [hn] at h
    | lst ds =>
     cases hm : M[m]? with
     | none => simp [hn, hm] at h
     | some o =>
      cases o with
      | dct _ => simp [hn, hm] at h
      | fdct _ => simp [hn, hm] at h
      | lst es =>
       simp only [hn, hm] at h
       split at h
       ·rename_i hp
        cases h
        rw [Bool.and_eq_true] at hp
        obtain ⟨p, hp1, rfl⟩ := ra.ref_inv
        obtain ⟨q, hq1, rfl⟩ := rb.ref_inv
        cases ru
        cases rv
        obtain ⟨vs, e1, r1⟩ := S.obj n _ p hn hp1
        obtain ⟨ws, e2, r2⟩ := S.obj m _ q hm hq1
        obtain ⟨its, rvs, pl1, _⟩ := I.list (SqL.of e1)
        obtain ⟨its2, rws, pl2, _⟩ := I.list (SqL.of e2)
        have it1 := pl1.isList
        have it2 := pl2.isList
        have l1 : its.length = ds.length := by rw [← rvs.length, r1.length]
        have l2 : its2.length = es.length := by rw [← rws.length, r2.length]
        have hu1 : X.A.units < cLine := by omega
        by_cases hl : ds.length = es.length
        ·have key : (List.range its.toArray.size).all (fun j => match ds[j]?, es[j]? with | some a, some b => deq a b | _, _ => false) = Zcj ds es := by
          rw [List.size_toArray, l1]
          exact Zdq hl fun j a b h1 h2 => by rw [h1, h2]
         rw [← key]
         refine SeqAt.RcNeAt.lists it1 it2 (by rw [List.size_toArray, List.size_toArray, l1, l2, hl]) hu1 fun j h1 h2 => ?_
         have h1' : j < ds.length := by rw [← l1]; simpa using h1
         have h2' : j < es.length := by rw [← l2]; simpa using h2
         have q1 : ds[j]? = some ds[j] := by simp [h1']
         have q2 : es[j]? = some es[j] := by simp [h2']
         rw [q1, q2]
         obtain ⟨v1, g1, z1⟩ := r1.get q1
         obtain ⟨v2, g2, z2⟩ := r2.get q2
         obtain ⟨u1, k1, w1⟩ := rvs.get g1
         obtain ⟨u2, k2, w2⟩ := rws.get g2
         have m1 : its.toArray[j] = u1 := by
          have := List.getElem?_eq_some_iff.mp k1
          simpa using this.2
         have m2 : its2.toArray[j] = u2 := by
          have := List.getElem?_eq_some_iff.mp k2
          simpa using this.2
         rw [m1, m2]
         exact Zjc I DEEP X.A.in1 ds[j] es[j] v1 v2 u1 u2 (by rw [units_in1]; show X.A.units + 1 + 60 + 1 < cLine; omega) (List.all_eq_true.mp hp.1 _ (List.getElem_mem h1')) (List.all_eq_true.mp hp.2 _ (List.getElem_mem h2')) z1 z2 w1 w2
        ·have z : Zcj ds es = false := by
          cases q : Zcj ds es with
          | false => rfl
          | true => exact absurd (ZeS q) hl
         rw [z]
         exact SeqAt.RcNeAt.lists_lengths it1 it2 (by rw [List.size_toArray, List.size_toArray, l1, l2]; simpa using hl) hu1
       ·cases h
  | _ => simp [eqD] at h
 | int i => cases b with
  | int j =>
   simp only [eqD] at h
   cases h
   have := ra.int_inv; subst this; have := rb.int_inv; subst this
   obtain ⟨t, rfl⟩ := ru
   obtain ⟨t', rfl⟩ := rv
   rw [← Bool.beq_eq_decide_eq]
   exact SeqAt.RcNeAt.int_int _ _ _ _
  | _ => simp [eqD] at h
 | str i => cases b with
  | str j =>
   simp only [eqD] at h
   cases h
   have := ra.str_inv; subst this; have := rb.str_inv; subst this
   obtain ⟨t, rfl⟩ := ru
   obtain ⟨t', rfl⟩ := rv
   have e : decide (i = j) = ((⟨i.toArray⟩ : Str) == ⟨j.toArray⟩) := by
    rw [← Bool.beq_eq_decide_eq, ← Zgc]
    by_cases h : (⟨i.toArray⟩ : Str) = ⟨j.toArray⟩
    ·simp [h]
    ·simp [h]
   rw [e]
   exact SeqAt.RcNeAt.str_str _ _ _ _
  | _ => simp [eqD] at h
 | bl i => cases b with
  | bl j =>
   simp only [eqD] at h
   cases h
   have := ra.bl_inv; subst this; have := rb.bl_inv; subst this
   cases ru
   cases rv
   rw [← Bool.beq_eq_decide_eq]
   exact SeqAt.RcNeAt.bool_bool _ _
  | _ => simp [eqD] at h
 | tup ds => cases b with
  | tup es =>
   simp only [eqD] at h
   split at h
   ·rename_i hp
    cases h
    rw [Bool.and_eq_true] at hp
    obtain ⟨p, vs, rfl, s1, r1⟩ := ra.tup_inv
    obtain ⟨p', ws, rfl, s2, r2⟩ := rb.tup_inv
    cases ru
    cases rv
    obtain ⟨its, rvs, ht, _⟩ := I.tuple s1
    obtain ⟨its2, rws, ht2, _⟩ := I.tuple s2
    have e1 : its.length = ds.length := by rw [← rvs.length, r1.length]
    have e2 : its2.length = es.length := by rw [← rws.length, r2.length]
    have hu1 : X.A.units < cLine := by omega
    have key : ((List.range (min its.toArray.size its2.toArray.size)).all (fun j => match ds[j]?, es[j]? with | some a, some b => deq a b | _, _ => false) && its.toArray.size == its2.toArray.size) = Zcj ds es := by
     rw [List.size_toArray, List.size_toArray, e1, e2]
     by_cases hl : ds.length = es.length
     ·rw [hl, Nat.min_self, beq_self_eq_true, Bool.and_true, ← hl]
      exact Zdq hl fun j a b h1 h2 => by rw [h1, h2]
     ·have z : Zcj ds es = false := by
       cases q : Zcj ds es with
       | false => rfl
       | true => exact absurd (ZeS q) hl
      rw [z, beq_eq_false_iff_ne.mpr hl, Bool.and_false]
    rw [← key]
    refine SeqAt.RcNeAt.tuples (show s.heap.IsTuple p its.toArray from ht) (show s.heap.IsTuple p' its2.toArray from ht2) hu1 fun j h1 h2 => ?_
    have h1' : j < ds.length := by rw [← e1]; simpa using h1
    have h2' : j < es.length := by rw [← e2]; simpa using h2
    have q1 : ds[j]? = some ds[j] := by simp [h1']
    have q2 : es[j]? = some es[j] := by simp [h2']
    rw [q1, q2]
    obtain ⟨v1, g1, z1⟩ := r1.get q1
    obtain ⟨v2, g2, z2⟩ := r2.get q2
    obtain ⟨u1, k1, w1⟩ := rvs.get g1
    obtain ⟨u2, k2, w2⟩ := rws.get g2
    have m1 : its.toArray[j] = u1 := by
     have := List.getElem?_eq_some_iff.mp k1
     simpa using this.2
    have m2 : its2.toArray[j] = u2 := by
     have := List.getElem?_eq_some_iff.mp k2
     simpa using this.2
    rw [m1, m2]
    exact Zjc I DEEP X.A.in1 ds[j] es[j] v1 v2 u1 u2 (by rw [units_in1]; show X.A.units + 1 + 60 + 1 < cLine; omega) (List.all_eq_true.mp hp.1 _ (List.getElem_mem h1')) (List.all_eq_true.mp hp.2 _ (List.getElem_mem h2')) z1 z2 w1 w2
   ·cases h
  | _ => simp [eqD] at h
 | _ => cases b <;> simp [eqD] at h
theorem ZfS (hu : X.A.units + 80 < cLine) : OpR X (compareOp .NotEq) (r2 X.K Zb1) := by
 intro pins s σ H x y v u Q I rx ry h
 obtain ⟨ι, M, a, b, S, ra, rb, h⟩ := h
 unfold Zb1 at h
 cases q : eqD a b M with
 | none => rw [q] at h; exact h.elim
 | some k =>
  rw [q] at h
  exact Zqw hu I S ra rb rx ry q X.prog X.w X.xe _ ⟨.bl (!k), H, I, rfl, ZaF.ok h S Rep.bl⟩
theorem Zj7 {K : PySem.W.Frag} {H : Hp} {ι : List Addr} {d : D} {v : V} (r : Rep K H ι d v) (h : ZaV d = true) : Zf0 v = true := by
 cases d with
 | non => rw [r.non_inv]; rfl
 | bl b => rw [r.bl_inv]; rfl
 | int i => rw [r.int_inv]; rfl
 | str x => rw [r.str_inv]; rfl
 | _ => simp [ZaV] at h
theorem ZoE (x y : List Nat) : ((⟨x.toArray⟩ : Str) == ⟨y.toArray⟩) = (x == y) := by
 rw [Bool.eq_iff_iff]
 simp
theorem Zoh {K : PySem.W.Frag} {H : Hp} {ι : List Addr} {d e : D} {v w : V} (r : Rep K H ι d v) (q : Rep K H ι e w) (h : ZaV d = true) (h' : ZaV e = true) : eqV v w = deq d e := by
 cases d with
 | non => have := r.non_inv; subst this; cases e with
  | non => have := q.non_inv; subst this; rfl
  | bl _ => have := q.bl_inv; subst this; rfl
  | int _ => have := q.int_inv; subst this; rfl
  | str _ => have := q.str_inv; subst this; rfl
  | _ => simp [ZaV] at h'
 | bl _ => have := r.bl_inv; subst this; cases e with
  | non => have := q.non_inv; subst this; rfl
  | bl _ => have := q.bl_inv; subst this; rfl
  | int _ => have := q.int_inv; subst this; rfl
  | str _ => have := q.str_inv; subst this; rfl
  | _ => simp [ZaV] at h'
 | int _ => have := r.int_inv; subst this; cases e with
  | non => have := q.non_inv; subst this; rfl
  | bl _ => have := q.bl_inv; subst this; rfl
  | int _ => have := q.int_inv; subst this; rfl
  | str _ => have := q.str_inv; subst this; rfl
  | _ => simp [ZaV] at h'
 | str _ => have := r.str_inv; subst this; cases e with
  | non => have := q.non_inv; subst this; rfl
  | bl _ => have := q.bl_inv; subst this; rfl
  | int _ => have := q.int_inv; subst this; rfl
  | str _ => have := q.str_inv; subst this; exact ZoE _ _
  | _ => simp [ZaV] at h'
 | _ => simp [ZaV] at h
theorem ZlS {K : PySem.W.Frag} {H : Hp} {ι : List Addr} {d : D} {v : V} (r : Rep K H ι d v) (h : ZaV d = true) : ∀ {ds : List D} {vs : List V}, Zai K H ι ds vs → ds.all ZaV = true → vs.all Zf0 = true ∧ inV v vs = ds.any fun y => deq y d
 | [], _, q, _ => by rw [q.nil_inv]; exact ⟨rfl, rfl⟩
 | e :: ds, _, q, hd => by
  obtain ⟨w, ws, rfl, r1, r2⟩ := q.cons_inv
  rw [List.all_cons, Bool.and_eq_true] at hd
  obtain ⟨h1, h2⟩ := ZlS r h r2 hd.2
  refine ⟨by rw [List.all_cons, Zj7 r1 hd.1, h1]; rfl, ?_⟩
  unfold inV at h2 ⊢
  rw [List.any_cons, List.any_cons, h2, Zoh r1 r hd.1 h]
theorem Zor (hu : X.A.units + 80 < cLine) : OpR X (compareOp .In) (r2 X.K Zlc) := OpR.imp (OpR.or Zru ZmP) fun x y H Q ⟨ι, M, a, b, S, ra, rb, h⟩ => by
 have seq : ∀ (d : D) (ys : List D), b = .tup ys → (ZaV d && ys.all ZaV) = true → a = d → Q (.bl (ys.any fun y => deq y d)) H → rIn X.K false x y H Q := by
  rintro d ys rfl hf rfl q
  rw [Bool.and_eq_true] at hf
  obtain ⟨p, vs, rfl, s, r⟩ := rb.tup_inv
  obtain ⟨h1, h2⟩ := ZlS ra hf.1 r hf.2
  exact ⟨p, vs, rfl, .inr s, Zj7 ra hf.1, h1, by rw [if_neg (by decide), h2]; exact q⟩
 cases b with
 | tup ys =>
  have h' : ZaF X.K H ι Q (match (if ZaV a && ys.all ZaV then some (ys.any fun y => deq y a) else none) with | some r => .ok (.bl r) M | none => .bad) := by
   cases a with
   | str z => cases z with
    | nil => exact h
    | cons c z => cases z <;> exact h
   | _ => exact h
  by_cases hf : (ZaV a && ys.all ZaV) = true
  ·rw [if_pos hf] at h'
   exact .inr (seq a ys rfl hf rfl (ZaF.ok h' S Rep.bl))
  ·rw [if_neg hf] at h'; exact h'.elim
 | str y => cases a with
  | str z => cases z with
   | nil => exact h.elim
   | cons c z => cases z with
    | nil => exact .inl ⟨ι, M, _, _, S, ra, rb, h⟩
    | cons _ _ => exact h.elim
  | _ => exact h.elim
 | _ => cases a with
  | str z => cases z with
   | nil => exact h.elim
   | cons c z => cases z <;> exact h.elim
  | _ => exact h.elim
theorem Znd (x : List Nat) (n : Nat) (a : List Nat) : (List.replicate n x.toArray).foldl (· ++ ·) a.toArray = (a ++ (List.replicate n x).flatten).toArray := by
 induction n generalizing a with
 | zero => simp
 | succ n ih =>
  rw [List.replicate_succ, List.foldl_cons, List.replicate_succ, List.flatten_cons]
  have := ih (a ++ x)
  simp only [List.append_toArray] at this ⊢
  rw [this]
  simp
theorem Zpu (x : List Nat) (k : Int) : Txt.mul (⟨x.toArray⟩ : Str) k = ⟨(List.replicate k.toNat x).flatten.toArray⟩ := by
 unfold Txt.mul
 split
 ·rename_i h
  have : k.toNat = 0 := by omega
  rw [this]; rfl
 ·split
  ·rename_i h1 h2
   simp only [Bool.or_eq_true, beq_iff_eq, Str.length, List.size_toArray] at h2
   rcases h2 with h2 | h2
   ·subst h2; simp
   ·have : x = [] := List.eq_nil_of_length_eq_zero h2
    subst this
    simp
  ·have := Znd x k.toNat []
   rw [List.nil_append] at this
   exact congrArg Str.mk this
theorem Zai.repl {K : PySem.W.Frag} {H : Hp} {ι : List Addr} {ds : List D} {vs : List V} (r : Zai K H ι ds vs) : ∀ k : Nat, Zai K H ι (List.replicate k ds).flatten (List.replicate k vs).flatten
 | 0 => Zai.nil
 | k + 1 => by rw [List.replicate_succ, List.replicate_succ, List.flatten_cons, List.flatten_cons]; exact r.append (Zai.repl r k)
theorem Zfg : OpR X (binaryOp .Mult) (r2 X.K Zdc) := by
 have hs : OpR X (binaryOp .Mult) (fun x y H Q => ∃ (z : List Nat) (k : Int), x = .str ⟨z.toArray⟩ ∧ y = .int k ∧ z.length * k.toNat ≤ 1000000 ∧ k < 1000000 ∧ -1000000 < k ∧ Q (.str ⟨(List.replicate k.toNat z).flatten.toArray⟩) H) := by
  intro pins s σ H x y v u Q I rx ry h
  obtain ⟨z, k, rfl, rfl, h1, h2, h3, q⟩ := h
  obtain ⟨t, rfl⟩ := rx
  obtain ⟨t', rfl⟩ := ry
  refine SB.mul ⟨?_, fun h4 h5 => ?_, fun h4 h5 => ?_⟩ fun t'' tk => ?_
  ·simp; omega
  ·simp only [Str.length, List.size_toArray]
   simp at h4 h5
   have hk : 2 ≤ k := by
    simp only [Str.length, List.size_toArray] at h5
    omega
   have e : (k.toNat : Int) = k := by omega
   have hm : (z.length : Int) * k ≤ 1000000 := by
    have h1' : ((z.length * k.toNat : Nat) : Int) ≤ 1000000 := Int.ofNat_le.mpr h1
    rw [Int.natCast_mul, e] at h1'
    exact h1'
   have hd : (z.length : Int) ≤ 9223372036854775807 / k := Int.le_ediv_of_mul_le (by omega) (by omega)
   show ¬ ((z.length : Int) > (2 ^ 63 - 1) / k)
   have e3 : ((2 : Int) ^ 63 - 1) = 9223372036854775807 := by decide
   rw [e3]
   omega
  ·unfold Builtin.Str.tooLong
   simp only [Str.length, List.size_toArray, decide_eq_false_iff_not]
   have hsz : (1000000 : Nat) ≤ sizeLine := ZcM
   omega
  ·rw [Zpu]
   exact ⟨.str _, H, I.tok _, ⟨_, rfl⟩, q⟩
 refine OpR.imp (OpR.or ZpD (OpR.or hs Zqj)) fun x y H Q ⟨ι, M, a, b, S, ra, rb, h⟩ => ?_
 cases a with
 | int i => cases b with
  | int j =>
   simp only [Zdc] at h
   split at h
   ·rename_i hm
    refine .inl ⟨i, j, ra.int_inv, rb.int_inv, ?_, ZaF.ok h S Rep.int⟩
    simp only [ZaL, Bool.or_eq_true, Bool.and_eq_true, decide_eq_true_eq] at hm
    exact hm
   ·exact h.elim
  | _ => exact h.elim
 | str z => cases b with
  | int k =>
   simp only [Zdc] at h
   split at h
   ·rename_i hz
    exact .inr (.inl ⟨z, k, ra.str_inv, rb.int_inv, hz.1, hz.2.1, hz.2.2, ZaF.ok h S Rep.str⟩)
   ·exact h.elim
  | _ => exact h.elim
 | ref n => cases b with
  | int k =>
   simp only [Zdc] at h
   cases hn : M[n]? with
   | none => simp only [hn] at h; exact h.elim
   | some o =>
    cases o with
    | dct _ => simp only [hn] at h; exact h.elim
    | fdct _ => simp only [hn] at h; exact h.elim
    | lst z =>
     simp only [hn] at h
     split at h
     ·rename_i hz
      obtain ⟨p, hp, rfl⟩ := ra.ref_inv
      obtain ⟨vs, e, r⟩ := S.obj n _ p hn hp
      refine .inr (.inr ⟨p, k, vs, rfl, rb.int_inv, e, by omega, by omega, by rw [r.length]; exact Nat.le_trans hz.1 ZcM, fun q hq => ?_⟩)
      obtain ⟨x2, S2, r2⟩ := S.lst hq (Zai.repl r k.toNat)
      exact h _ _ _ x2 S2 r2
     ·exact h.elim
  | _ => exact h.elim
 | _ => cases b <;> exact h.elim
theorem ZlT (n d : Nat) (hd : d ≤ n) (o : Option Int) : (match o with | none => (d : Int) | some i => max 0 (min (if i < 0 then i + (n : Int) else i) (n : Int))) = ((sIx n d o : Nat) : Int) := by
 cases o with
 | none => rfl
 | some v =>
  simp only [sIx]
  split <;> omega
theorem Zhd (lo hi : Option Int) (n : Nat) : Builtin.Str.strSliceIndices lo hi 1 n = (List.range (sIx n n hi - sIx n 0 lo)).map (fun k => sIx n 0 lo + k) := by
 have e1 := ZlT n 0 (Nat.zero_le _) lo
 have e2 := ZlT n n (Nat.le_refl _) hi
 have key : Builtin.Str.strSliceIndices lo hi 1 n = sliceRange ((sIx n 0 lo : Nat) : Int) ((sIx n n hi : Nat) : Int) 1 := by
  rw [← e1, ← e2]
  simp only [Builtin.Str.strSliceIndices, show ((1 : Int) > 0) = True from by simp, if_true]
  cases lo <;> cases hi <;> rfl
 rw [key]
 generalize sIx n 0 lo = a
 generalize sIx n n hi = b
 simp only [sliceRange, show ((1 : Int) > 0) = True from by simp, if_true]
 by_cases hlt : (a : Int) < b
 ·have e3 : (((b : Int) - a + 1 - 1) / 1).toNat = b - a := by first | omega | (simp; done) | (simp; omega)
  simp only [hlt, if_true, e3]
  refine List.map_congr_left fun k _ => ?_
  omega
 ·have : b - a = 0 := by omega
  simp [hlt, this]
theorem Zji (n d : Nat) (hd : d ≤ n) (o : Option Int) : sIx n d o ≤ n := by
 cases o with
 | none => exact hd
 | some v => simp only [sIx]; split <;> omega
theorem Zlu (z : List Nat) (lo hi : Option Int) (l u : Option (Int × Tok)) (hl : l.map (·.1) = lo) (hu : u.map (·.1) = hi) :
  (if ((1 : Int) == 1 && (slicePicked ⟨z.toArray⟩ l u none).length == (⟨z.toArray⟩ : Str).length) = true then (⟨z.toArray⟩ : Str) else ⟨((slicePicked ⟨z.toArray⟩ l u none).filterMap ((⟨z.toArray⟩ : Str).cps[·]?)).toArray⟩) = ⟨(cutD z lo hi).toArray⟩ := by
 have e0 : slicePicked ⟨z.toArray⟩ l u none = (List.range (sIx z.length z.length hi - sIx z.length 0 lo)).map (fun k => sIx z.length 0 lo + k) := by
  unfold slicePicked
  rw [hl, hu]
  simp only [Str.length, List.size_toArray]
  exact Zhd lo hi z.length
 have hb := Zji z.length z.length (Nat.le_refl _) hi
 rw [e0]
 have pick : ((List.range (sIx z.length z.length hi - sIx z.length 0 lo)).map (fun k => sIx z.length 0 lo + k)).filterMap ((⟨z.toArray⟩ : Str).cps[·]?) = cutD z lo hi := by
  unfold cutD
  by_cases hab : sIx z.length 0 lo ≤ sIx z.length z.length hi
  ·have h := StrLaws.picks z (sIx z.length z.length hi - sIx z.length 0 lo) (sIx z.length 0 lo) (by omega)
   simpa using h
  ·have : sIx z.length z.length hi - sIx z.length 0 lo = 0 := by omega
   rw [this]
   simp
 rw [pick]
 split
 ·rename_i hc
  simp only [List.length_map, List.length_range, Str.length, List.size_toArray, Bool.and_eq_true, beq_iff_eq] at hc
  have hc2 := hc.2
  have h0 : sIx z.length 0 lo = 0 ∨ z.length = 0 := by omega
  have : cutD z lo hi = z := by
   unfold cutD
   rcases h0 with h0 | h0
   ·rw [h0, List.drop_zero, List.take_of_length_le (by omega)]
   ·have : z = [] := List.eq_nil_of_length_eq_zero h0
    subst this
    simp
  rw [this]
 ·rfl
theorem Zpo : SlR X (fun x lo hi H Q => ∃ z : List Nat, x = .str ⟨z.toArray⟩ ∧ z.length ≤ SZ ∧ Q (.str ⟨(cutD z lo hi).toArray⟩) H) := by
 intro pins s σ H x v vl vu lo hi sl Q I rx hs pl pu h
 obtain ⟨z, rfl, hz, q⟩ := h
 obtain ⟨t, rfl⟩ := rx
 have part : ∀ {v : Value} {o : Option Int}, IsPart v o → ∃ p : Option (Int × Tok), v = partValue p ∧ p.map (·.1) = o := by
  intro v o h
  cases h with
  | none => exact ⟨none, rfl, rfl⟩
  | int i t => exact ⟨some (i, t), rfl, rfl⟩
 obtain ⟨l, rfl, hl⟩ := part pl
 obtain ⟨u, rfl, hu⟩ := part pu
 refine ⟨"str", _, PySem.F.slot_str_getitem.lookup, typeIs_str _ _ _, ?_⟩
 refine wpAny_getItem_str_slice (l := l) (u := u) (st := none) hs rfl ?_
 unfold sliceMade
 refine post_val_or_made (fun _ => ?_) fun t' k => ?_
 ·show ((slicePicked ⟨z.toArray⟩ l u none).filterMap ((⟨z.toArray⟩ : Str).cps[·]?)).toArray.size ≤ sizeLine
  rw [List.size_toArray]
  refine Nat.le_trans (List.length_filterMap_le _ _) ?_
  show (Builtin.Str.strSliceIndices (l.map (·.1)) (u.map (·.1)) 1 (⟨z.toArray⟩ : Str).length).length ≤ sizeLine
  rw [Zhd]
  simp only [List.length_map, List.length_range, Str.length, List.size_toArray]
  have := Zji z.length z.length (Nat.le_refl _) (u.map (·.1))
  have := ZcM
  omega
 ·have e := Zlu z lo hi l u hl hu
  have e' : (if (((none : Option (Int × Tok)).map (·.1)).getD 1 == 1 && (slicePicked ⟨z.toArray⟩ l u none).length == (⟨z.toArray⟩ : Str).length) = true then (⟨z.toArray⟩ : Str) else ⟨((slicePicked ⟨z.toArray⟩ l u none).filterMap ((⟨z.toArray⟩ : Str).cps[·]?)).toArray⟩) = ⟨(cutD z lo hi).toArray⟩ := e
  rw [e']
  exact ⟨.str _, H, I.tok _, ⟨_, rfl⟩, q⟩
theorem Zf8 {prog : Program} {w : World} {A : Around} {E : Value → Shared → Prop} {s : Shared} {t sl : Addr} {items : Array Value} {vl vu : Value} {lo hi : Option Int} {Q : Value → Shared → Prop} (ht : IsTup s.heap t items) (hs : s.heap.IsSliceOf sl vl vu .none) (pl : IsPart vl lo) (pu : IsPart vu hi)
  (hw : HT.sIx items.size 0 lo = 0 ∧ HT.sIx items.size items.size hi = items.size) (h : Q (.ref t) s) : wpAny (model prog w) A (getItem (.ref t) (.ref sl)) Q E s := by
 obtain ⟨os, hos, hcs, hds⟩ := id hs
 have hTs : s.TypeIs (.ref sl) "slice" := ⟨os, hos, hcs⟩
 unfold getItem
 try with_reducible refine wpAny_holding ?_
 first | refine wpAny_bind (wpAny_pure ?_) | skip
 refine wpAny_bind (wpAny_sequenceKey ht.typeIs (by decide) ?_)
 refine wpAny_bind (wpAny_callSpecial?_slot (name := Str.ofString "__getitem__") ht.typeIs PyProof.Rows.slot_tuple_getitem
  (wpAny_call_entry PyProof.Rows.slot_tuple_getitem ht.typeIs entry_tuple_getitem ?_ (args_tuple_getitem _ _)))
 show wpAny _ _ (Builtin.Tuple.tupleItemsOf (.ref t) >>= _) _ _ s
 refine wpAny_bind (tupleItemsOf_ ht ?_)
 refine wpAny_bind (wpAny_typeOf hTs ?_)
 rw [if_pos (by decide)]
 refine wpAny_bind (HT.sliceApplied_gen hs pl pu ?_)
 have hyes : (((HT.sIx items.size 0 lo : Nat) : Int) == 0 && (1 : Int) == 1 && (HT.sIx items.size items.size hi - HT.sIx items.size 0 lo) == items.size) = true := by
  rw [hw.1, hw.2]; simp
 show wpAny _ _ (if (((HT.sIx items.size 0 lo : Nat) : Int) == 0 && (1 : Int) == 1 && (HT.sIx items.size items.size hi - HT.sIx items.size 0 lo) == items.size) = true then _ else _) _ _ s
 rw [if_pos hyes]
 unfold Builtin.Tuple.tupleIsExact
 refine wpAny_bind (wpAny_bind (wpAny_typeOf ht.typeIs (wpAny_pure ?_)))
 rw [if_pos (by decide)]
 exact wpAny_bind (wpAny_rule (wpAny_pure ⟨_, rfl, wpAny_pure h⟩))
theorem Zod : SlR X (fun x lo hi H Q => ∃ a xs, x = .ref a ∧ SqT X.K H a xs ∧ (HT.sIx xs.length 0 lo = 0 ∧ HT.sIx xs.length xs.length hi = xs.length) ∧ Q (.ref a) H) := by
 intro pins s σ H x v vl vu lo hi sl Q I rx hs pl pu h
 obtain ⟨a, xs, rfl, hx, hw, q⟩ := h
 cases rx
 obtain ⟨its, r, ht, hz⟩ := I.tuple hx
 have hlen : its.toArray.size = xs.length := by rw [List.size_toArray]; exact r.length.symm
 refine ⟨"tuple", _, PyProof.Rows.slot_tuple_getitem.lookup, ht.typeIs, ?_⟩
 exact Zf8 ht hs pl pu (by rw [hlen]; exact hw) ⟨.ref a, H, I, rfl, q⟩
theorem ZdL : SlR X (rS X.K) := SlR.imp (SlR.or (SlR.or Zqq Zod) (SlR.or ZoZ Zpo)) fun x lo hi H Q ⟨ι, M, a, S, ra, h⟩ => by
 have ex : ∀ n d o, HT.sIx n d o = sIx n d o := fun n d o => by cases o <;> rfl
 cases a with
 | tup ds =>
  simp only [Zfj] at h
  obtain ⟨p, vs, rfl, s, r⟩ := ra.tup_inv
  by_cases hw : sIx ds.length 0 lo = 0 ∧ sIx ds.length ds.length hi = ds.length
  ·refine .inl (.inr ⟨p, vs, rfl, s, by rw [ex, ex, r.length]; exact hw, ?_⟩)
   have e : cutD ds lo hi = ds := by unfold cutD; rw [hw.1, hw.2]; simp
   rw [e] at h
   exact ZaF.ok h S (Rep.tup s r)
  ·refine .inl (.inl ⟨p, vs, rfl, s, by rw [ex, ex, r.length]; exact hw, fun q hq => ?_⟩)
   obtain ⟨x2, S2, r2⟩ := S.tupl hq (Zlh r lo hi)
   exact h _ _ _ x2 S2 r2
 | scr ds =>
  simp only [Zfj] at h
  obtain ⟨p, vs, rfl, s, r⟩ := ra.scr_inv
  refine .inr (.inl ⟨p, vs, rfl, s.sq, fun q hq => ?_⟩)
  obtain ⟨x2, S2, r2⟩ := S.lst hq (Zlh r lo hi)
  exact h _ _ _ x2 S2 r2
 | str z =>
  simp only [Zfj] at h
  split at h
  ·rename_i hz
   exact .inr (.inr ⟨z, ra.str_inv, hz, ZaF.ok h S Rep.str⟩)
  ·exact h.elim
 | ref n =>
  simp only [Zfj] at h
  cases hn : M[n]? with
  | none => simp only [hn] at h; exact h.elim
  | some o =>
   cases o with
   | dct _ => simp only [hn] at h; exact h.elim
   | fdct _ => simp only [hn] at h; exact h.elim
   | lst ds =>
    simp only [hn] at h
    obtain ⟨p, hp, rfl⟩ := ra.ref_inv
    obtain ⟨vs, e, r⟩ := S.obj n _ p hn hp
    refine .inr (.inl ⟨p, vs, rfl, SqL.of e, fun q hq => ?_⟩)
    obtain ⟨x2, S2, r2⟩ := S.lst hq (Zlh r lo hi)
    exact h _ _ _ x2 S2 r2
 | _ => exact h.elim
theorem Zfc {K : PySem.W.Frag} {H : Hp} {ι : List Addr} {d : D} {xs : List V} (r : Zai K H ι [d] xs) : ∃ x, xs = [x] ∧ Rep K H ι d x := by
 obtain ⟨v, ws, rfl, r1, r2⟩ := r.cons_inv
 have := r2.nil_inv
 subst this
 exact ⟨v, rfl, r1⟩
theorem Zbs : Zb2 X (.builtin "len") (rB X.K ZaR) := Zb2.imp Znc fun xs H Q ⟨ι, M, ds, S, rd, h⟩ => by
 cases ds with
 | nil => exact h.elim
 | cons d ds =>
  cases ds with
  | cons _ _ => cases d <;> exact h.elim
  | nil =>
   obtain ⟨x, rfl, r⟩ := Zfc rd
   cases d with
   | tup z =>
    obtain ⟨p, vs, rfl, s, r'⟩ := r.tup_inv
    exact ⟨_, vs.length, rfl, .inr ⟨vs, s, rfl⟩, by rw [r'.length]; exact ZaF.ok h S Rep.int⟩
   | scr z =>
    obtain ⟨p, vs, rfl, s, r'⟩ := r.scr_inv
    exact ⟨_, vs.length, rfl, .inl ⟨vs, s.sq, rfl⟩, by rw [r'.length]; exact ZaF.ok h S Rep.int⟩
   | str z =>
    simp only [ZaR] at h
    split at h
    ·rename_i hz
     have := r.str_inv
     subst this
     refine ⟨_, z.length, rfl, ⟨?_, ?_⟩, ZaF.ok h S Rep.int⟩
     ·show z.toArray.size ≤ sizeLine
      rw [List.size_toArray]
      exact Nat.le_trans hz ZcM
     ·show z.length = z.toArray.size
      rw [List.size_toArray]
    ·exact h.elim
   | ref n =>
    cases hn : M[n]? with
    | none => simp only [ZaR, hn] at h; exact h.elim
    | some o =>
     cases o with
     | dct _ => simp only [ZaR, hn] at h; exact h.elim
     | fdct _ => simp only [ZaR, hn] at h; exact h.elim
     | lst z =>
      simp only [ZaR, hn] at h
      obtain ⟨p, hp, rfl⟩ := r.ref_inv
      obtain ⟨vs, e, r'⟩ := S.obj n _ p hn hp
      exact ⟨_, vs.length, rfl, .inl ⟨vs, SqL.of e, rfl⟩, by rw [r'.length]; exact ZaF.ok h S Rep.int⟩
   | _ => exact h.elim
theorem ZcG : Zb2 X (.type "tuple") (rB X.K ZaY) := Zb2.imp Ziq fun xs H Q ⟨ι, M, ds, S, rd, h⟩ => by
 cases ds with
 | nil => exact h.elim
 | cons d ds =>
  cases ds with
  | cons _ _ => cases d <;> exact h.elim
  | nil =>
   obtain ⟨x, rfl, r⟩ := Zfc rd
   cases d with
   | tup z =>
    obtain ⟨p, vs, rfl, s, r'⟩ := r.tup_inv
    exact ⟨p, vs, rfl, .inr ⟨s, ZaF.ok h S (Rep.tup s r')⟩⟩
   | scr z =>
    obtain ⟨p, vs, rfl, s, r'⟩ := r.scr_inv
    refine ⟨p, vs, rfl, .inl ⟨s.sq, fun q hq => ?_⟩⟩
    obtain ⟨x2, S2, r2⟩ := S.tupl hq r'
    exact h _ _ _ x2 S2 r2
   | ref n =>
    cases hn : M[n]? with
    | none => simp only [ZaY, hn] at h; exact h.elim
    | some o =>
     cases o with
     | dct _ => simp only [ZaY, hn] at h; exact h.elim
     | fdct _ => simp only [ZaY, hn] at h; exact h.elim
     | lst z =>
      simp only [ZaY, hn] at h
      obtain ⟨p, hp, rfl⟩ := r.ref_inv
      obtain ⟨vs, e, r'⟩ := S.obj n _ p hn hp
      refine ⟨p, vs, rfl, .inl ⟨SqL.of e, fun q hq => ?_⟩⟩
      obtain ⟨x2, S2, r2⟩ := S.tupl hq r'
      exact h _ _ _ x2 S2 r2
   | _ => exact h.elim
theorem Zhz : Zb2 X (.type "list") (rB X.K Zfh) := Zb2.imp ZjG fun xs H Q ⟨ι, M, ds, S, rd, h⟩ => by
 cases ds with
 | nil => exact h.elim
 | cons d ds =>
  cases ds with
  | cons _ _ => cases d <;> exact h.elim
  | nil =>
   obtain ⟨x, rfl, r⟩ := Zfc rd
   cases d with
   | tup z =>
    obtain ⟨p, vs, rfl, s, r'⟩ := r.tup_inv
    refine ⟨p, vs, rfl, .inr s, fun q hq => ?_⟩
    obtain ⟨x2, S2, r2⟩ := S.lst hq r'
    exact h _ _ _ x2 S2 r2
   | scr z =>
    obtain ⟨p, vs, rfl, s, r'⟩ := r.scr_inv
    refine ⟨p, vs, rfl, .inl s.sq, fun q hq => ?_⟩
    obtain ⟨x2, S2, r2⟩ := S.lst hq r'
    exact h _ _ _ x2 S2 r2
   | ref n =>
    cases hn : M[n]? with
    | none => simp only [Zfh, hn] at h; exact h.elim
    | some o =>
     cases o with
     | dct _ => simp only [Zfh, hn] at h; exact h.elim
     | fdct _ => simp only [Zfh, hn] at h; exact h.elim
     | lst z =>
      simp only [Zfh, hn] at h
      obtain ⟨p, hp, rfl⟩ := r.ref_inv
      obtain ⟨vs, e, r'⟩ := S.obj n _ p hn hp
      refine ⟨p, vs, rfl, .inl (SqL.of e), fun q hq => ?_⟩
      obtain ⟨x2, S2, r2⟩ := S.lst hq r'
      exact h _ _ _ x2 S2 r2
   | _ => exact h.elim
end
end L3
namespace L3
open PySem PySem.Spec PyProof.Rows L2
theorem ZaX : bootBuiltins "len" = some (.builtin "len") := by decide +kernel
theorem ZgP : bootBuiltins "sorted" = some (.builtin "sorted") := by decide +kernel
theorem Zix : bootBuiltins "isinstance" = some (.builtin "isinstance") := by decide +kernel
theorem ZmR : bootBuiltins "int" = some (.type "int") := by decide +kernel
theorem Zgs : bootBuiltins "list" = some (.type "list") := by decide +kernel
theorem Zb9 : bootBuiltins "tuple" = some (.type "tuple") := by decide +kernel
theorem Zo3 : bootBuiltins "dict" = some (.type "dict") := by decide +kernel
section
variable {X : Cx} {a : Expr} {pos p p2 : Pos} {f : E3}
def tyN : Ty3 → String
 | .int => "int" | .bool => "bool" | .str => "str" | .list => "list" | .tuple => "tuple"
theorem Zf4 (K : PySem.W.Frag) (t : String) (T : Ty3) (ht : t ∈ ["NoneType", "bool", "int", "str", "list", "tuple", "dict"]) :
  PySem.W.kitOne K (.type t) (.type (tyN T)) = some (t == tyN T || (t == "bool" && tyN T == "int")) := by
 simp only [List.mem_cons, List.not_mem_nil, or_false] at ht
 rcases ht with rfl | rfl | rfl | rfl | rfl | rfl | rfl <;> cases T <;> kernel_rfl
theorem ZqP (T : Ty3) : bootBuiltins (tyN T) = some (.type (tyN T)) := by cases T <;> decide +kernel
theorem Zov {pins : List (Addr × Obj)} {σ : St} {H : Hp} {s : Shared} {ι : List Addr} {M : Store} {A : Around} {E : Value → Shared → Prop} {Q : Value → Shared → Prop} {T : Ty3} {d : D} {x : V} {u : Value} {b : Bool} (I : Inv X pins σ H s) (S : ZaG X.K H ι M) (r : Rep X.K H ι d x) (ru : RelV x u)
  (e : Zhk T d M = some b) (h : ∀ tk, Q (.bool b) { s with toks := tk }) : wpAny (model X.prog X.w) A (call (.builtin "isinstance") [u, .type (tyN T)]) Q E s := by
 cases d with
 | non =>
  have := r.non_inv; subst this
  have hb : b = false := by simpa [Zhk] using e.symm
  subst hb
  exact Zei I ru (.non) ((Zf4 X.K "NoneType" T (by simp)).trans (by cases T <;> rfl)) h
 | bl c =>
  have := r.bl_inv; subst this
  have hb : b = (T == .bool || T == .int) := by simpa [Zhk] using e.symm
  subst hb
  exact Zei I ru (.bl c) ((Zf4 X.K "bool" T (by simp)).trans (by cases T <;> rfl)) h
 | int i =>
  have := r.int_inv; subst this
  have hb : b = (T == .int) := by simpa [Zhk] using e.symm
  subst hb
  exact Zei I ru (.int i) ((Zf4 X.K "int" T (by simp)).trans (by cases T <;> rfl)) h
 | str z =>
  have := r.str_inv; subst this
  have hb : b = (T == .str) := by simpa [Zhk] using e.symm
  subst hb
  exact Zei I ru (.str _) ((Zf4 X.K "str" T (by simp)).trans (by cases T <;> rfl)) h
 | tup ds =>
  obtain ⟨a, vs, rfl, st, rr⟩ := r.tup_inv
  cases ru
  have hb : b = (T == .tuple) := by simpa [Zhk] using e.symm
  subst hb
  obtain ⟨its, _, pt, _⟩ := I.tuple st
  obtain ⟨o, h1, h2, _⟩ := pt
  exact PySem.W.kia_one PySem.W.kitx_tuple I.kIn ⟨o, h1, h2⟩ ((Zf4 X.K "tuple" T (by simp)).trans (by cases T <;> rfl)) (fun z => nomatch z) h
 | scr ds => simp [Zhk] at e
 | ref n =>
  simp only [Zhk] at e
  cases hn : M[n]? with
  | none => simp [hn] at e
  | some o =>
   obtain ⟨a, ha, rfl⟩ := r.ref_inv
   cases o with
   | lst z =>
    have hb : b = (T == .list) := by simpa [hn] using e.symm
    subst hb
    obtain ⟨vs, ev, _⟩ := S.obj n _ a hn ha
    exact Zei I ru (.lst ev) ((Zf4 X.K "list" T (by simp)).trans (by cases T <;> rfl)) h
   | dct z =>
    have hb : b = false := by simpa [hn] using e.symm
    subst hb
    obtain ⟨vs, ev, _⟩ := S.obj n _ a hn ha
    exact Zei I ru (.dK ev) ((Zf4 X.K "dict" T (by simp)).trans (by cases T <;> rfl)) h
   | fdct z => simp [hn] at e
theorem Zjm (T : Ty3) {x : Str} (hm : X.mg "isinstance" = none) (hm2 : X.mg x = none) (h : C3 X a f) (hx : x = (Str.ofString (tyN T)) := by rfl) (hg : Gl X "isinstance" := by rfl) (hg2 : Gl X x := by rfl)
  (hn : x ≠ "__name__" := by decide) (hd : (x == ("__debug__" : Str)) = false := by decide)
  (hs : starEach (a :: [.Name x p2]) X.env = (false, eval a X.env) :: starEach [.Name x p2] X.env := by rfl) (hs2 : starEach (.Name x p2 :: []) X.env = (false, eval (.Name x p2) X.env) :: starEach [] X.env := by rfl)
  (hpl : (backTo pos (starEach [.Name x p2] X.env)).any (·.1) = false := by rfl) : C3 X (.Call (.Name "isinstance" p) [a, .Name x p2] [] pos) (e1 (Zga T) f) := by
 subst hx
 have hc : Zb2 X (.builtin "isinstance") (fun xs H Q => ∃ ι M d x, xs = [x, .ty (tyN T)] ∧ ZaG X.K H ι M ∧ Rep X.K H ι d x ∧ ZaF X.K H ι Q (Zga T d M)) := by
  intro pins s σ H xs us Q I r q
  obtain ⟨ι, M, d, x, rfl, S, rd, q⟩ := q
  obtain ⟨u, w', rfl, ru, rw'⟩ := vals2 r
  cases rw'
  unfold Zga at q
  cases e : Zhk T d M with
  | none => rw [e] at q; exact q.elim
  | some b =>
   rw [e] at q
   exact Zov I S rd ru e fun tk => ⟨.bl b, H, I.tok _, rfl, ZaF.ok q S Rep.bl⟩
 refine (Zj6 hc hg hm Zix (Zjq h (Zjq (Zoe hg2 hm2 (ZqP T) (v := .ty (tyN T)) rfl hn hd) ZnM hs2) hs) (by decide) (by decide) hs hpl).imp fun σ H Q ⟨ι, M, env, S, E, h⟩ => ?_
 obtain ⟨d, M1, e1, h⟩ := ZaF.bind h
 refine ⟨ι, M, env, S, E, ?_⟩
 rw [e1]
 intro v H1 ι1 x1 S1 r1
 exact ⟨ι1, M1, d, v, rfl, S1, r1, h.up x1⟩
end
def Zpj (outer : List (Str × NameKind)) (N : List Str) (scope : Scope) (N' : List Str) (own : Nat) : Bool :=
 (scope.names.all fun y => decide (y.2 ≠ .cell) && (decide (y.2 ≠ .free) || decide (outer.lookup y.1 = some .cell) || decide (outer.lookup y.1 = some .free)) && (decide (y.2 ≠ .local) || decide (scope.names.lookup y.1 = some .local))) &&
  decide (N'.length = N.length + own) && ZnV N N' scope
theorem Zdj {X : Cx} {scope : Scope} {N' : List Str} {own : Nat} (hk : scope.kind = .function) (h : Zpj X.env.scope.names X.N scope N' own = true) : ZhP X scope N' own := by
 simp only [Zpj, Bool.and_eq_true, decide_eq_true_eq, List.all_eq_true, Bool.or_eq_true] at h
 obtain ⟨⟨h1, h2⟩, h3⟩ := h
 refine ⟨hk, fun y hy => (h1 y hy).1.1, fun y hy e => ?_, fun y hy e => ?_, h2, h3⟩
 ·rcases (h1 y hy).1.2 with (q | q) | q
  ·exact absurd e q
  ·exact .inl q
  ·exact .inr q
 ·rcases (h1 y hy).2 with q | q
  ·exact absurd e q
  ·exact q
theorem Zax {K : PySem.W.Frag} {h : Heap} {mg : Str → Option Value} (KX : K.In h) (G : h.Ns mainGlobals mg) {x : Str} {st : Stmt} {f : Addr} {oc : Value} {od an : Option Addr} {osl : Array (Option Value)} {dV kV doc pm cdv ct : Value}
  (a : PySem.W.nsIn K mainGlobals x = some (some (.ref f))) (l : K.lookup f = some ⟨oc, od, .func (PySem.W.fnOf x x (Zaw st) (Zap st) (Zt st) dV kV doc pm an cdv ct), osl⟩)
  (c : PySem.W.codeIn K cdv x = true) (k : PySem.W.keepIn K (.ref f) = true) {ps : List Str} (b : Binds K (PySem.W.fnOf x x (Zaw st) (Zap st) (Zt st) dV kV doc pm an cdv ct) ps []) : Zav K mg x st ps := ⟨f, _, Zna l c k, PySem.W.mg_of KX G a, b⟩
theorem Zrn {l : PySem.W.OpenLaw} {k : Nat} {q : Program} {loose : List Str} {XP : (Str → Option Value) → Heap → Prop} {YP : World → Heap → Prop} {d : DefRec} {K : Params → PySem.W.Frag} {F : F3} (hn : l.most = some 63) (hdf : d.params.defaults = []) (hr : Zd4 k callerA)
  (hY : ∀ (w : World) (h : Heap), YP w h → (K w.params).In h)
  (G : ∀ (w : World) (mg : Str → Option Value) (fa : Addr) (h : Heap), (K w.params).In h → h.Ns mainGlobals mg → mg d.name = some (.ref fa) →
   ∃ fd : FuncData, (∀ (s : Shared) (u : Value), BindsTo s fd ⟨[u], []⟩ [("script", u)]) ∧ ∀ base : Heap, (K w.params).In base → base.Ns mainGlobals mg → ZhO l.prog w (K w.params) mg base CX0 k fa fd ["script"] (sp3 (K w.params) 1 F))
  (hF : ∀ ns : List Int, ns.length ≤ 63 → ∃ M', F [.scr (ns.map D.int)] [] = .ok (.bl true) M') :
  PySem.W.WalkO q loose XP YP l.row.toRowW d [] (fun f vs => PySem.call f vs) :=
 L2.ZlW (n := 63) (k := k) (x := "script") (CX := fun _ => CX0) (sp := fun w => sp3 (K w.params) 1 F) hn (by decide) hdf hr hY G (fun w H a ns hl hO hS => by
  obtain ⟨M', e⟩ := hF ns hl
  refine ⟨[], [], [.scr (ns.map D.int)], ⟨rfl, List.nodup_nil, fun n o a h => by simp at h⟩, Zai.cons ?_ Zai.nil, rfl, ?_⟩
  ·simp only [Rep]
   refine ⟨a, ns.map V.int, rfl, ?_, Zai.ints ns⟩
   rcases hS with (h | ⟨o, h⟩) | h
   ·rcases hO a with z | ⟨ob, xs, z⟩
    ·rw [h] at z; cases z
    ·rw [h] at z; cases z
   ·exact .inl ⟨o, h⟩
   ·exact .inr h
  ·rw [e]
   exact fun v H' ι' _ _ r => r.bl_inv) fun _ _ _ _ _ z => z
end L3
namespace L3
open PySem PySem.Spec PyProof.Rows L2
theorem ZkX {a b : ZbH} (h : dk a = dk b) : a = b := by
 cases a with
 | inl i => cases b with
  | inl j => simp only [dk, Sum.inl.injEq] at h; rw [h]
  | inr y => simp [dk] at h
 | inr x => cases b with
  | inl j => simp [dk] at h
  | inr y =>
   simp only [dk, Sum.inr.injEq, Str.mk.injEq] at h
   have := congrArg Array.toList h
   simp at this
   rw [this]
theorem Zhx {K : PySem.W.Frag} {H : Hp} {ι : List Addr} {b : D} {y : V} {k : ZbH} (h : Zf7 b = some k) (r : Rep K H ι b y) : y = kV (dk k) := by
 cases b with
 | int i => cases h; exact r.int_inv
 | str x => cases h; exact r.str_inv
 | _ => simp [Zf7] at h
section
variable {K : PySem.W.Frag} {H H' : Hp} {ι ι' : List Addr} {M : Store} {p : Addr}
theorem KvR.nil : KvR K H ι [] [] := ⟨rfl, Zai.nil⟩
theorem KvR.cons {k : ZbH} {d : D} {v : V} {kvs : List (ZbH × D)} {ws : List (Key × V)} (h : Rep K H ι d v) (r : KvR K H ι kvs ws) : KvR K H ι ((k, d) :: kvs) ((dk k, v) :: ws) :=
 ⟨by simp [r.1], Zai.cons h r.2⟩
theorem KvR.cons_inv {q : ZbH × D} {kvs : List (ZbH × D)} {ws : List (Key × V)} (r : KvR K H ι (q :: kvs) ws) : ∃ v ws', ws = (dk q.1, v) :: ws' ∧ Rep K H ι q.2 v ∧ KvR K H ι kvs ws' := by
 obtain ⟨h1, h2⟩ := r
 cases ws with
 | nil => simp at h1
 | cons w ws =>
  simp only [List.map_cons, List.cons.injEq] at h1
  obtain ⟨v, us, e, r1, r2⟩ := Zai.cons_inv h2
  simp only [List.map_cons, List.cons.injEq] at e
  exact ⟨w.2, ws, by rw [← h1.1], e.1 ▸ r1, h1.2, e.2 ▸ r2⟩
theorem KvR.nil_inv {ws : List (Key × V)} (r : KvR K H ι [] ws) : ws = [] := by simpa using r.1
theorem KvR.mono {kvs : List (ZbH × D)} {ws : List (Key × V)} (r : KvR K H ι kvs ws) (e : Ext K H ι H' ι') : KvR K H' ι' kvs ws := ⟨r.1, r.2.mono e⟩
theorem KvR.length {kvs : List (ZbH × D)} {ws : List (Key × V)} (r : KvR K H ι kvs ws) : ws.length = kvs.length := by
 have := congrArg List.length r.1
 simpa using this
theorem KvR.val {kvs : List (ZbH × D)} (k : ZbH) : ∀ {ws : List (Key × V)}, KvR K H ι kvs ws → match ZcZ kvs k with | some d => ∃ v, ZfP ws (dk k) = some v ∧ Rep K H ι d v | none => ZfP ws (dk k) = none := by
 induction kvs with
 | nil => intro ws r; rw [r.nil_inv]; exact ZnR
 | cons q kvs ih =>
  intro ws r
  obtain ⟨v, ws', rfl, r1, r2⟩ := r.cons_inv
  obtain ⟨k', d⟩ := q
  unfold ZcZ
  by_cases e : k' = k
  ·rw [if_pos e]
   exact ⟨v, Zgz (by rw [e]), r1⟩
  ·rw [if_neg e, Zgl fun z => e (ZkX z)]
   exact ih r2
theorem KvR.append {k1 k2 : List (ZbH × D)} {w1 w2 : List (Key × V)} (a : KvR K H ι k1 w1) (b : KvR K H ι k2 w2) : KvR K H ι (k1 ++ k2) (w1 ++ w2) :=
 ⟨by simp [a.1, b.1], by rw [List.map_append, List.map_append]; exact a.2.append b.2⟩
theorem KvR.any {kvs : List (ZbH × D)} (k : ZbH) : ∀ {ws : List (Key × V)}, KvR K H ι kvs ws → (ws.any fun kv => decide (kv.1 = dk k)) = (kvs.any fun q => decide (q.1 = k)) := by
 induction kvs with
 | nil => intro ws r; rw [r.nil_inv]; rfl
 | cons q kvs ih =>
  intro ws r
  obtain ⟨v, ws', rfl, r1, r2⟩ := r.cons_inv
  rw [List.any_cons, List.any_cons, ih r2]
  congr 1
  by_cases e : q.1 = k
  ·simp [e]
  ·simp [e]; exact fun z => e (ZkX z)
theorem KvR.put {kvs : List (ZbH × D)} {k : ZbH} {d : D} {v : V} {ws : List (Key × V)} (r : KvR K H ι kvs ws) (rd : Rep K H ι d v) : KvR K H ι (putD k d kvs) (putK ws (dk k) v) := by
 unfold putD putK
 rw [r.any k]
 by_cases c : (kvs.any fun q => decide (q.1 = k)) = true
 ·rw [if_pos c, if_pos c]
  clear c
  induction kvs generalizing ws with
  | nil => rw [r.nil_inv]; exact KvR.nil
  | cons q kvs ih =>
   obtain ⟨u, ws', rfl, r1, r2⟩ := r.cons_inv
   rw [List.map_cons, List.map_cons]
   by_cases e : q.1 = k
   ·rw [if_pos e, if_pos (by rw [e])]; exact KvR.cons rd (ih r2)
   ·rw [if_neg e, if_neg fun z => e (ZkX z)]; exact KvR.cons r1 (ih r2)
 ·rw [if_neg c, if_neg c]
  exact r.append (KvR.cons rd KvR.nil)
theorem KvR.merge {l : List (ZbH × D)} : ∀ {kvs : List (ZbH × D)} {ws us : List (Key × V)}, KvR K H ι l us → KvR K H ι kvs ws → KvR K H ι (l.foldl (fun acc p => putD p.1 p.2 acc) kvs) (Zh7 ws us) := by
 induction l with
 | nil => intro kvs ws us r r0; rw [r.nil_inv]; exact r0
 | cons q l ih =>
  intro kvs ws us r r0
  obtain ⟨v, us', rfl, r1, r2⟩ := r.cons_inv
  exact ih (ws := putK ws (dk q.1) v) (us := us') r2 (r0.put r1)
theorem ZaG.dct (S : ZaG K H ι M) (hp : H p = none) {kvs : List (ZbH × D)} {ws : List (Key × V)} (r : KvR K H ι kvs ws) : Ext K H ι (upd H p (.dK ws)) (ι ++ [p]) ∧ ZaG K (upd H p (.dK ws)) (ι ++ [p]) (M ++ [.dct kvs]) ∧ Rep K (upd H p (.dK ws)) (ι ++ [p]) (.ref M.length) (.ref p) := by
 have e : Ext K H ι (upd H p (.dK ws)) (ι ++ [p]) := Loose.extA (.inl hp)
 exact ⟨e, S.new hp ⟨ws, Zct, r.mono e⟩, Rep.ref (by rw [← S.len]; simp)⟩
theorem ZaG.setd (S : ZaG K H ι M) {n : Nat} (l0 : Loose H p) (hn : ι[n]? = some p) {kvs : List (ZbH × D)} {ws : List (Key × V)} (r : KvR K H ι kvs ws) : Ext K H ι (upd H p (.dK ws)) ι ∧ ZaG K (upd H p (.dK ws)) ι (M.set n (.dct kvs)) := by
 have e : Ext K H ι (upd H p (.dK ws)) ι := Loose.ext l0
 exact ⟨e, S.put l0 hn ⟨ws, Zct, r.mono e⟩⟩
end
section
variable {X : Cx} {a b c e o : Expr} {es : List Expr} {pos p pos' apos cpos : Pos} {f g h : E3} {gl : EL3}
theorem Znj : C3 X (.Dict [] [] pos) ZlC := ZmV.imp fun σ H Q ⟨ι, M, env, S, E, h⟩ p hp => by
 obtain ⟨x1, S1, r1⟩ := S.dct hp KvR.nil
 exact h _ _ _ x1 S1 r1
theorem hu1 (hu : X.A.units + 80 < cLine) : X.A.units + 1 < cLine := by omega
theorem ZjM {K : PySem.W.Frag} {H : Hp} {ι : List Addr} {M : Store} (S : ZaG K H ι M) {n : Nat} {kvs : List (ZbH × D)} {a : Addr} (h : Zd1 M[n]? = some kvs) (ha : ι[n]? = some a) : ∃ ws, Rd H a (.dK ws) ∧ KvR K H ι kvs ws := by
 cases hn : M[n]? with
 | none => simp [hn] at h
 | some ob =>
  cases ob with
  | lst _ => simp [hn] at h
  | dct k =>
   have e : k = kvs := by simpa [hn] using h
   subst e
   obtain ⟨ws, hw, kr⟩ := S.obj n _ a hn ha
   exact ⟨ws, .inl hw, kr⟩
  | fdct k =>
   have e : k = kvs := by simpa [hn] using h
   subst e
   obtain ⟨ws, ⟨o, hw⟩, kr⟩ := S.obj n _ a hn ha
   exact ⟨ws, .inr ⟨o, hw⟩, kr⟩
theorem Znl (hu : X.A.units + 80 < cLine) (ha : C3 X a f) (hb : C3 X b g) (hs : Zqb b := by exact fun _ _ => rfl) : C3 X (.Subscript a b pos) (e2 ZdQ f g) := (Zoj (hu1 hu) ha hb hs).imp fun σ H Q ⟨ι, M, env, S, E, h⟩ => by
 obtain ⟨d, M1, e1, h⟩ := ZaF.bind h
 obtain ⟨k, M2, e2, h⟩ := ZaF.bind h
 refine ⟨ι, M, env, S, E, ?_⟩
 rw [e1]
 intro x H1 ι1 x1 S1 r1
 refine ⟨ι1, M1, env, S1, E.mono x1, ?_⟩
 rw [e2]
 intro y H2 ι2 x2 S2 r2
 cases d with
 | ref n =>
  simp only [ZdQ] at h
  cases hn : Zd1 M2[n]? with
  | none => simp only [hn] at h; exact h.elim
  | some kvs =>
   cases hk : Zf7 k with
   | none => simp only [hn, hk] at h; exact h.elim
   | some kk =>
    simp only [hn, hk] at h
    cases hv : ZcZ kvs kk with
    | none => simp only [hv] at h; exact h.elim
    | some w =>
     simp only [hv] at h
     obtain ⟨ad, ha, rfl⟩ := (r1.mono x2).ref_inv
     obtain ⟨ws, hw, kr⟩ := ZjM S2 hn ha
     have hv' := kr.val kk
     rw [hv] at hv'
     obtain ⟨v, ev, rv⟩ := hv'
     refine ⟨ad, v, rfl, ?_, h v H2 ι2 (x1.trans x2) S2 rv⟩
     rw [Zhx hk r2, ← ev]
     exact .inl ⟨ws, dk kk, hw, rfl, rfl⟩
 | _ => exact h.elim
theorem ZlU {K : PySem.W.Frag} {op : D → D → D → Store → R3 D} {H : Hp} {ι : List Addr} {Q : VK} {env : ZaO} {M : Store} (h' : ZaF K H ι Q (e3 op f g h env M)) :
  ∃ a M1 b M2 c M3, f env M = .ok a M1 ∧ g env M1 = .ok b M2 ∧ h env M2 = .ok c M3 ∧ ZaF K H ι Q (op a b c M3) := by
 obtain ⟨a, M1, e1, h'⟩ := ZaF.bind h'
 obtain ⟨b, M2, e2, h'⟩ := ZaF.bind h'
 obtain ⟨c, M3, e3, h'⟩ := ZaF.bind h'
 exact ⟨a, M1, b, M2, c, M3, e1, e2, e3, h'⟩
theorem Zkz {K : PySem.W.Frag} {H : Hp} {ι : List Addr} {D' : Ends} {env : ZaO} {M : Store} {σ : St} (E : Zcp K H ι env σ) (h' : ZfR K H ι D' (Zal f env M)) : ZaF K H ι (fun _ H' => D'.nx σ H') (f env M) := by
 unfold Zal at h'
 cases q : f env M with
 | ok d M1 => rw [q] at h'; exact fun v H1 ι1 x1 S1 r1 => h' σ H1 ι1 x1 S1 (E.mono x1)
 | exc x M1 => rw [q] at h'; exact h'.elim
 | bad => rw [q] at h'; exact h'.elim
theorem Zo2 {i : Expr} (hu : X.A.units + 80 < cLine) (ho : C3 X o f) (hi : C3 X i g) (hv : C3 X e h) (hs : swapsWith e (some (.Subscript o i pos')) pos.line X.env = pure false := by rfl) : CS X (.Assign [.Subscript o i pos'] e pos) (Znw f g h) := (ZoR (hu1 hu) ho hi hv hs).imp fun D' σ H ⟨ι, M, env, S, E, hh⟩ => by
 obtain ⟨d, M1, b, M2, k, M3, e1, e2, e3, hh⟩ := ZlU (Zkz E hh)
 refine ⟨ι, M, env, S, E, ?_⟩
 rw [e1]
 intro v H1 ι1 x1 S1 r1
 refine ⟨ι1, M1, env, S1, E.mono x1, ?_⟩
 rw [e2]
 intro x H2 ι2 x2 S2 r2
 refine ⟨ι2, M2, env, S2, (E.mono x1).mono x2, ?_⟩
 rw [e3]
 intro y H3 ι3 x3 S3 r3
 cases b with
 | ref n =>
  simp only [Znh] at hh
  cases hn : M3[n]? with
  | none => simp only [hn] at hh; exact hh.elim
  | some ob =>
   cases ob with
   | lst _ => simp only [hn] at hh; exact hh.elim
   | fdct _ => simp only [hn] at hh; exact hh.elim
   | dct kvs =>
    cases hk : Zf7 k with
    | none => simp only [hn, hk] at hh; exact hh.elim
    | some kk =>
     simp only [hn, hk] at hh
     split at hh
     ·rename_i hz
      obtain ⟨ad, ha, rfl⟩ := (r2.mono x3).ref_inv
      obtain ⟨ws, hw, kr⟩ := S3.obj n _ ad hn ha
      obtain ⟨x4, S4⟩ := S3.setd (.inr (.inr ⟨_, hw⟩)) ha (kr.put (k := kk) ((r1.mono x2).mono x3))
      refine ⟨ad, _, rfl, ?_, hh .non _ _ (((x1.trans x2).trans x3).trans x4) S4 Rep.non⟩
      rw [Zhx hk r3]
      exact Zle.k hw (by rw [kr.length]; exact Nat.lt_of_lt_of_le hz ZcM)
     ·exact hh.elim
 | _ => exact hh.elim
theorem Zfe {i : Expr} {spos : Pos} (ho : C3 X o f) (hi : C3 X i g) (hv : C3 X e h)
  (ha : ∀ v, assign (.Subscript o i spos) X.env v = (do
   let ov ← holding [v] (eval o X.env)
   let iv ← holding [v, ov] (eval i X.env)
   standAt spos
   holding [v, ov, iv] (setItem ov iv v)
   release [v, ov, iv] []) := by intro _; rfl)
  (hs : swapsWithSole [.Subscript o i spos] e pos.line X.env = pure false := by rfl) (hw : swappedStores [.Subscript o i spos] e X.env = pure none := by rfl)
  (h1 : (assignEach [.Subscript o i spos] X.env).map (·.2) = [assign (.Subscript o i spos) X.env] := by rfl) : CS X (.Assign [.Subscript o i spos] e pos) (Zd9 f g h) := (Zjy hv (ZnD ho hi set_list ha) hs hw h1).imp fun D' σ H ⟨ι, M, env, S, E, hh⟩ => by
 obtain ⟨d, M1, b, M2, k, M3, e1, e2, e3, hh⟩ := ZlU (Zkz E hh)
 refine ⟨ι, M, env, S, E, ?_⟩
 rw [e1]
 intro v H1 ι1 x1 S1 r1
 refine ⟨ι1, M1, env, S1, E.mono x1, ?_⟩
 rw [e2]
 intro x H2 ι2 x2 S2 r2
 refine ⟨ι2, M2, env, S2, (E.mono x1).mono x2, ?_⟩
 rw [e3]
 intro y H3 ι3 x3 S3 r3
 cases b with
 | ref n =>
  cases k with
  | int j =>
   simp only [ZhI] at hh
   cases hn : M3[n]? with
   | none => simp only [hn] at hh; exact hh.elim
   | some ob =>
    cases ob with
    | dct _ => simp only [hn] at hh; exact hh.elim
    | fdct _ => simp only [hn] at hh; exact hh.elim
    | lst xs =>
     simp only [hn] at hh
     cases hj : ixD xs.length j with
     | none => simp only [hj] at hh; exact hh.elim
     | some q =>
      simp only [hj] at hh
      obtain ⟨ad, ha, rfl⟩ := (r2.mono x3).ref_inv
      obtain ⟨ws, hw, kr⟩ := S3.obj n _ ad hn ha
      obtain ⟨x4, S4⟩ := S3.setl (.inr (.inl ⟨_, hw⟩)) ha (kr.set q ((r1.mono x2).mono x3))
      exact ⟨ad, ws, j, q, rfl, r3.int_inv, hw, by rw [kr.length]; exact hj, hh .non _ _ (((x1.trans x2).trans x3).trans x4) S4 Rep.non⟩
  | _ => exact hh.elim
 | _ => exact hh.elim
end
end L3
namespace L3
open PySem PySem.W PyProof.Rows
section
def kev {α : Type} (lt : Nat → Nat → Bool) : KasT α → α
 | .ret a => a
 | .ask i j k => kev lt (k (lt i j))
theorem ZeZ {α β : Type} (lt : Nat → Nat → Bool) (f : α → KasT β) : ∀ t : KasT α, kev lt (t.bind f) = kev lt (f (kev lt t))
 | .ret _ => rfl
 | .ask i j k => ZeZ lt f (k (lt i j))
variable {lt : Nat → Nat → Bool}
structure ZfQ (lt : Nat → Nat → Bool) : Prop where
 asym : ∀ {a b}, lt a b = true → lt b a = false
 tr : ∀ {a b c}, lt b a = false → lt c b = false → lt c a = false
theorem ZfQ.rf (o : ZfQ lt) (a : Nat) : lt a a = false := by
 cases h : lt a a
 ·rfl
 ·exact h ▸ o.asym h
abbrev at' (p : Array Nat) (i : Nat) : Nat := p.getD i 0
theorem ZkF {p q : Array Nat} {i j : Nat} (h : p[i]? = q[j]?) : at' p i = at' q j := by
 simp only [at', Array.getD_eq_getD_getElem?, h]
def Up (lt : Nat → Nat → Bool) (p : Array Nat) (n : Nat) : Prop := ∀ i j, i ≤ j → j < n → lt (at' p j) (at' p i) = false
def ZiB (lt : Nat → Nat → Bool) (p : Array Nat) (n : Nat) : Prop := ∀ i j, i ≤ j → j < n → lt (at' p i) (at' p j) = false
theorem ZoY (o : ZfQ lt) {p : Array Nat} {n : Nat} (h1 : 1 ≤ n) (u : Up lt p n) (h : lt (at' p n) (at' p (n - 1)) = false) : Up lt p (n + 1) := by
 intro i j hij hj
 by_cases e : j = n
 ·subst e
  by_cases e' : i = j
  ·subst e'; exact o.rf _
  ·exact o.tr (u i (j - 1) (by omega) (by omega)) h
 ·exact u i j hij (by omega)
theorem ZfM (o : ZfQ lt) {p : Array Nat} {n : Nat} (h1 : 1 ≤ n) (u : ZiB lt p n) (h : lt (at' p (n - 1)) (at' p n) = false) : ZiB lt p (n + 1) := by
 intro i j hij hj
 by_cases e : j = n
 ·subst e
  by_cases e' : i = j
  ·subst e'; exact o.rf _
  ·exact o.tr h (u i (j - 1) (by omega) (by omega))
 ·exact u i j hij (by omega)
theorem ZlB (o : ZfQ lt) {p : Array Nat} : ∀ (f n : Nat), 1 ≤ n → Up lt p n → n ≤ kev lt (kas_asc p f n) ∧ kev lt (kas_asc p f n) ≤ n + f ∧ Up lt p (kev lt (kas_asc p f n)) ∧
  (kev lt (kas_asc p f n) = n + f ∨ lt (at' p (kev lt (kas_asc p f n))) (at' p (kev lt (kas_asc p f n) - 1)) = true)
 | 0, n, h1, u => ⟨Nat.le_refl _, Nat.le_refl _, u, .inl rfl⟩
 | f + 1, n, h1, u => by
  have e : kev lt (kas_asc p (f + 1) n) = kev lt (if lt (at' p n) (at' p (n - 1)) = true then KasT.ret n else kas_asc p f (n + 1)) := rfl
  rw [e]
  cases c : lt (at' p n) (at' p (n - 1)) with
  | true => exact ⟨Nat.le_refl _, by simp only [if_true, kev]; omega, u, .inr c⟩
  | false =>
   simp only [Bool.false_eq_true, if_false]
   obtain ⟨a, b, d, e⟩ := ZlB o f (n + 1) (by omega) (ZoY o h1 u c)
   exact ⟨by omega, by omega, d, e.elim (fun z => .inl (by omega)) .inr⟩
theorem Zfo {p : Array Nat} {i j : Nat} (hj : j ≤ p.size) (k : Nat) : at' (kas_rev p i j) k = if i ≤ k ∧ k < j then at' p (i + j - 1 - k) else at' p k := by
 have e := getElem?_mirror_all (xs := p) (i := i) hj k
 unfold kas_rev
 split
 ·rename_i h; rw [if_pos h] at e; exact ZkF e
 ·rename_i h; rw [if_neg h] at e; exact ZkF e
theorem Zds (p : Array Nat) (i j : Nat) : (kas_rev p i j).Perm p := mirror_perm _ _ _ _
theorem Zeo (p : Array Nat) (i j : Nat) : (kas_rev p i j).size = p.size := mirror_size _ _ _ _
def Alike (lt : Nat → Nat → Bool) (p : Array Nat) (n q : Nat) : Prop := ∀ i j, n - (q + 1) ≤ i → i < n → n - (q + 1) ≤ j → j < n → lt (at' p i) (at' p j) = false
theorem Zi6 (o : ZfQ lt) {p : Array Nat} {n q : Nat} (hn : n ≤ p.size) (hq : q + 1 ≤ n) (d : ZiB lt p n) (a : Alike lt p n q) : ZiB lt (kas_rev p (n - (q + 1)) n) n := by
 intro i j hij hj
 rw [Zfo hn, Zfo hn]
 by_cases h1 : n - (q + 1) ≤ i
 ·rw [if_pos ⟨h1, by omega⟩, if_pos ⟨by omega, hj⟩]
  exact a _ _ (by omega) (by omega) (by omega) (by omega)
 ·rw [if_neg (by omega)]
  by_cases h2 : n - (q + 1) ≤ j
  ·rw [if_pos ⟨h2, hj⟩]; exact d _ _ (by omega) (by omega)
  ·rw [if_neg (by omega)]; exact d _ _ hij hj
theorem Zhv (o : ZfQ lt) : ∀ (f : Nat) (p : Array Nat) (n q : Nat), q + 1 ≤ n → n + f ≤ p.size → ZiB lt p n → Alike lt p n q →
  let r := kev lt (kas_desc f p n q); r.1.Perm p ∧ r.1.size = p.size ∧ n ≤ r.2.1 ∧ r.2.1 ≤ n + f ∧ r.2.2 + 1 ≤ r.2.1 ∧ ZiB lt r.1 r.2.1 ∧ Alike lt r.1 r.2.1 r.2.2
 | 0, p, n, q, hq, hs, d, a => ⟨Array.Perm.refl _, rfl, Nat.le_refl _, Nat.le_refl _, hq, d, a⟩
 | f + 1, p, n, q, hq, hs, d, a => by
  have one : ∀ (p' : Array Nat), Alike lt p' (n + 1) 0 := fun p' i j h1 h2 h3 h4 => by
   have : i = j := by omega
   subst this; exact o.rf _
  unfold kas_desc
  simp only [kev]
  cases c : lt (p.getD n 0) (p.getD (n - 1) 0) with
  | true =>
   simp only [if_true]
   by_cases hq0 : q > 0
   ·rw [if_pos hq0]
    have hl : lt (at' (kas_rev p (n - (q + 1)) n) (n - 1)) (at' (kas_rev p (n - (q + 1)) n) n) = false := by
     rw [Zfo (by omega), Zfo (by omega), if_pos ⟨by omega, by omega⟩, if_neg (by omega)]
     exact o.tr (o.asym c) (a _ _ (by omega) (by omega) (by omega) (by omega))
    obtain ⟨h1, h2, h3, h4, h5, h6, h7⟩ := Zhv o f (kas_rev p (n - (q + 1)) n) (n + 1) 0 (by omega) (by rw [Zeo]; omega) (ZfM o (by omega) (Zi6 o (by omega) hq d a) hl) (one _)
    exact ⟨h1.trans (Zds _ _ _), h2.trans (Zeo _ _ _), by omega, by omega, h5, h6, h7⟩
   ·rw [if_neg hq0]
    obtain ⟨h1, h2, h3, h4, h5, h6, h7⟩ := Zhv o f p (n + 1) 0 (by omega) (by omega) (ZfM o (by omega) d (o.asym c)) (one _)
    exact ⟨h1, h2, by omega, by omega, h5, h6, h7⟩
  | false =>
   simp only [Bool.false_eq_true, if_false, kev]
   cases c2 : lt (p.getD (n - 1) 0) (p.getD n 0) with
   | true => exact ⟨Array.Perm.refl _, rfl, Nat.le_refl _, by simp only [if_true, kev]; omega, hq, d, a⟩
   | false =>
    simp only [Bool.false_eq_true, if_false]
    have al : Alike lt p (n + 1) (q + 1) := fun i j h1 h2 h3 h4 => by
     have z : ∀ k, n + 1 - (q + 1 + 1) ≤ k → k < n + 1 → lt (at' p k) (at' p n) = false ∧ lt (at' p n) (at' p k) = false := fun k k1 k2 => by
      by_cases e : k = n
      ·subst e; exact ⟨o.rf _, o.rf _⟩
      ·exact ⟨o.tr c2 (a k (n - 1) (by omega) (by omega) (by omega) (by omega)), o.tr (a (n - 1) k (by omega) (by omega) (by omega) (by omega)) c⟩
     exact o.tr (z j h3 h4).2 (z i h1 h2).1
    obtain ⟨h1, h2, h3, h4, h5, h6, h7⟩ := Zhv o f p (n + 1) (q + 1) (by omega) (by omega) (ZfM o (by omega) d c2) al
    exact ⟨h1, h2, by omega, by omega, h5, h6, h7⟩
theorem Zls {p : Array Nat} {n : Nat} (hn : n ≤ p.size) (d : ZiB lt p n) : Up lt (kas_rev p 0 n) n := by
 intro i j hij hj
 rw [Zfo hn, Zfo hn, if_pos ⟨by omega, hj⟩, if_pos ⟨by omega, by omega⟩]
 exact d _ _ (by omega) (by omega)
theorem Zkw (o : ZfQ lt) {p : Array Nat} {n nrem : Nat} (h1 : 1 ≤ n) (hn : n ≤ nrem) (hs : nrem ≤ p.size) (d : ZiB lt p n) :
  let r := kev lt (kas_tail3 n nrem p); r.2.Perm p ∧ r.2.size = p.size ∧ 1 ≤ r.1 ∧ r.1 ≤ nrem ∧ Up lt r.2 r.1 := by
 unfold kas_tail3
 rw [ZeZ]
 obtain ⟨a, b, c, _⟩ := ZlB o (p := kas_rev p 0 n) (nrem - n) n h1 (Zls (by omega) d)
 exact ⟨Zds _ _ _, Zeo _ _ _, Nat.le_trans h1 a, Nat.le_trans b (by omega), c⟩
theorem Zg4 (o : ZfQ lt) {p : Array Nat} {n nrem : Nat} (h1 : 1 ≤ n) (hn : n + 1 ≤ nrem) (hs : nrem ≤ p.size) (d : ZiB lt p (n + 1)) :
  let r := kev lt (kas_descPart n nrem p); r.2.Perm p ∧ r.2.size = p.size ∧ 1 ≤ r.1 ∧ r.1 ≤ nrem ∧ Up lt r.2 r.1 := by
 unfold kas_descPart
 rw [ZeZ]
 have one : Alike lt p (n + 1) 0 := fun i j h1 h2 h3 h4 => by
  have : i = j := by omega
  subst this; exact o.rf _
 obtain ⟨a1, a2, a3, a4, a5, a6, a7⟩ := Zhv o (nrem - (n + 1)) p (n + 1) 0 (by omega) (by omega) d one
 generalize kev lt (kas_desc (nrem - (n + 1)) p (n + 1) 0) = r at *
 dsimp only
 by_cases hq : r.2.2 > 0
 ·rw [if_pos hq]
  obtain ⟨b1, b2, b3, b4, b5⟩ := Zkw o (p := kas_rev r.1 (r.2.1 - (r.2.2 + 1)) r.2.1) (n := r.2.1) (nrem := nrem) (by omega) (by omega) (by rw [Zeo]; omega) (Zi6 o (by omega) a5 a6 a7)
  exact ⟨(b1.trans (Zds _ _ _)).trans a1, (b2.trans (Zeo _ _ _)).trans a2, b3, b4, b5⟩
 ·rw [if_neg hq]
  obtain ⟨b1, b2, b3, b4, b5⟩ := Zkw o (p := r.1) (n := r.2.1) (nrem := nrem) (by omega) (by omega) (by omega) a6
  exact ⟨b1.trans a1, b2.trans a2, b3, b4, b5⟩
theorem ZmX (o : ZfQ lt) {p : Array Nat} {nrem : Nat} (h1 : 1 ≤ nrem) (hs : nrem ≤ p.size) : let r := kev lt (kas_count nrem p); r.2.Perm p ∧ r.2.size = p.size ∧ 1 ≤ r.1 ∧ r.1 ≤ nrem ∧ Up lt r.2 r.1 := by
 unfold kas_count
 rw [ZeZ]
 have u1 : Up lt p 1 := fun i j hij hj => by
  have : i = j := by omega
  subst this; exact o.rf _
 obtain ⟨a, b, c, d⟩ := ZlB o (p := p) (nrem - 1) 1 (by omega) u1
 generalize kev lt (kas_asc p (nrem - 1) 1) = n at *
 dsimp only
 by_cases e : (n == nrem) = true
 ·rw [if_pos e]; exact ⟨Array.Perm.refl _, rfl, a, by show n ≤ nrem; omega, c⟩
 ·rw [if_neg e]
  have hne : n ≠ nrem := by simpa using e
  have hlt : lt (at' p n) (at' p (n - 1)) = true := d.resolve_left (by omega)
  by_cases hn : n > 1
  ·rw [if_pos hn]
   simp only [kev]
   cases c0 : lt (p.getD 0 0) (p.getD (n - 1) 0) with
   | true => exact ⟨Array.Perm.refl _, rfl, a, by show n ≤ nrem; omega, c⟩
   | false =>
    simp only [Bool.false_eq_true, if_false]
    have dn : ZiB lt (kas_rev p 0 n) (n + 1) := by
     have al : ∀ i j, i < n → j < n → lt (at' p i) (at' p j) = false := fun i j hi hj =>
      o.tr (o.tr (c j (n - 1) (by omega) (by omega)) c0) (c 0 i (by omega) (by omega))
     intro i j hij hj
     rw [Zfo (by omega), Zfo (by omega)]
     by_cases ej : j < n
     ·rw [if_pos ⟨by omega, by omega⟩, if_pos ⟨by omega, ej⟩]; exact al _ _ (by omega) (by omega)
     ·have : j = n := by omega
      subst this
      by_cases ei : i < j
      ·rw [if_pos ⟨by omega, ei⟩, if_neg (by omega)]
       exact o.tr (o.asym hlt) (al _ _ (by omega) (by omega))
      ·have : i = j := by omega
       subst this; rw [if_neg (by omega)]; exact o.rf _
    obtain ⟨b1, b2, b3, b4, b5⟩ := Zg4 o (p := kas_rev p 0 n) (n := n) (nrem := nrem) a (by omega) (by rw [Zeo]; omega) dn
    exact ⟨b1.trans (Zds _ _ _), b2.trans (Zeo _ _ _), b3, b4, b5⟩
  ·rw [if_neg hn]
   have : n = 1 := by omega
   subst this
   exact Zg4 o (by omega) (by omega) hs (ZfM o (by omega) (fun i j hij hj => by
    have : i = j := by omega
    subst this; exact o.rf _) (o.asym hlt))
theorem Zih (o : ZfQ lt) {p : Array Nat} {k : Nat} (u : Up lt p k) : ∀ (f l r : Nat), l ≤ r → r ≤ k → r ≤ l + f → (∀ i, i < l → lt (at' p k) (at' p i) = false) → (∀ i, r ≤ i → i < k → lt (at' p k) (at' p i) = true) →
  let m := kev lt (kas_place p k f l r); m ≤ k ∧ (∀ i, i < m → lt (at' p k) (at' p i) = false) ∧ (∀ i, m ≤ i → i < k → lt (at' p k) (at' p i) = true)
 | 0, l, r, h1, h2, h3, hl, hr => ⟨by show l ≤ k; omega, hl, fun i hi hk => hr i (by have : l ≤ i := hi; omega) hk⟩
 | f + 1, l, r, h1, h2, h3, hl, hr => by
  unfold kas_place
  by_cases c : l ≥ r
  ·rw [if_pos c]; exact ⟨by show l ≤ k; omega, hl, fun i hi hk => hr i (by have : l ≤ i := hi; omega) hk⟩
  ·rw [if_neg c]
   simp only [kev]
   cases q : lt (p.getD k 0) (p.getD ((l + r) / 2) 0) with
   | true =>
    simp only [if_true]
    refine Zih o u f l ((l + r) / 2) (by omega) (by omega) (by omega) hl fun i hi hk => ?_
    cases z : lt (at' p k) (at' p i) with
    | true => rfl
    | false =>
     have := o.tr (u ((l + r) / 2) i hi hk) z
     rw [q] at this; cases this
   | false =>
    simp only [Bool.false_eq_true, if_false]
    exact Zih o u f ((l + r) / 2 + 1) r (by omega) h2 (by omega) (fun i hi => o.tr (u i ((l + r) / 2) (by omega) (by omega)) q) hr
theorem Zi1 {p : Array Nat} {k d : Nat} (hk : k < p.size) (hd : d ≤ k) (i : Nat) : at' (bubble p k d) i = if i = k - d then at' p k else if k - d < i ∧ i ≤ k then at' p (i - 1) else at' p i := by
 have e := getElem?_bubble (xs := p) hk d hd i
 by_cases h1 : i = k - d
 ·rw [if_pos h1] at e ⊢; exact ZkF e
 ·rw [if_neg h1] at e ⊢
  by_cases h2 : k - d < i ∧ i ≤ k
  ·rw [if_pos h2] at e ⊢; exact ZkF e
  ·rw [if_neg h2] at e ⊢; exact ZkF e
theorem Zm8 (o : ZfQ lt) : ∀ (f : Nat) (p : Array Nat) (k : Nat), k + f = p.size → Up lt p k → (kev lt (kas_bin f p k)).Perm p ∧ Up lt (kev lt (kas_bin f p k)) p.size
 | 0, p, k, h, u => ⟨Array.Perm.refl _, by rw [← h]; exact u⟩
 | f + 1, p, k, h, u => by
  unfold kas_bin
  rw [ZeZ]
  obtain ⟨a, b, c⟩ := Zih o u k 0 k (by omega) (Nat.le_refl _) (by omega) (fun i hi => by omega) (fun i h1 h2 => by omega)
  generalize kev lt (kas_place p k k 0 k) = m at *
  have sz := bubble_size p k (k - m)
  have up : Up lt (bubble p k (k - m)) (k + 1) := by
   intro i j hij hj
   have e : k - (k - m) = m := by omega
   rw [Zi1 (by omega) (by omega), Zi1 (by omega) (by omega), e]
   by_cases e1 : i = m
   ·rw [if_pos e1]
    by_cases e2 : j = m
    ·rw [if_pos e2]; exact o.rf _
    ·rw [if_neg e2, if_pos ⟨by omega, by omega⟩]; exact o.asym (c _ (by omega) (by omega))
   ·rw [if_neg e1]
    by_cases e2 : j = m
    ·rw [if_pos e2, if_neg (by omega)]; exact b _ (by omega)
    ·rw [if_neg e2]
     by_cases e3 : m < i
     ·rw [if_pos (show m < i ∧ i ≤ k from ⟨e3, by omega⟩), if_pos (show m < j ∧ j ≤ k from ⟨by omega, by omega⟩)]; exact u _ _ (by omega) (by omega)
     ·rw [if_neg (show ¬ (m < i ∧ i ≤ k) from fun z => e3 z.1)]
      by_cases e4 : m < j
      ·rw [if_pos (show m < j ∧ j ≤ k from ⟨e4, by omega⟩)]; exact u _ _ (by omega) (by omega)
      ·rw [if_neg (show ¬ (m < j ∧ j ≤ k) from fun z => e4 z.1)]; exact u _ _ (by omega) (by omega)
  obtain ⟨h1, h2⟩ := Zm8 o f (bubble p k (k - m)) (k + 1) (by rw [sz]; omega) up
  exact ⟨h1.trans (bubble_perm _ _ _), by rw [sz] at h2; exact h2⟩
theorem ZoP (o : ZfQ lt) {n : Nat} (h1 : 1 ≤ n) : (kev lt (kas_sort n)).Perm (List.toArray (List.range n)) ∧ Up lt (kev lt (kas_sort n)) n := by
 unfold kas_sort
 rw [ZeZ]
 obtain ⟨a1, a2, a3, a4, a5⟩ := ZmX o (p := List.toArray (List.range n)) h1 (by simp)
 generalize kev lt (kas_count n (List.toArray (List.range n))) = r at *
 have sz : r.2.size = n := by rw [a2]; simp
 by_cases c : r.1 < n
 ·rw [if_pos c]
  have hm : max r.1 1 = r.1 := by omega
  rw [hm]
  obtain ⟨b1, b2⟩ := Zm8 o (n - r.1) r.2 r.1 (by omega) a5
  exact ⟨b1.trans a1, by rw [sz] at b2; exact b2⟩
 ·rw [if_neg c]
  have : r.1 = n := by omega
  exact ⟨a1, by rw [← this]; exact a5⟩
end
end L3
namespace L3
open PySem PySem.W PyProof.Rows
section
def Ze8 {α : Type} (n : Nat) (R : α → Prop) : KasT α → Prop
 | .ret a => R a
 | .ask i j k => i < n ∧ j < n ∧ ∀ b, Ze8 n R (k b)
theorem Ze8.bind {α β : Type} {n : Nat} {R : α → Prop} {R' : β → Prop} {f : α → KasT β} (hf : ∀ a, R a → Ze8 n R' (f a)) : ∀ {t : KasT α}, Ze8 n R t → Ze8 n R' (t.bind f)
 | .ret a, h => hf a h
 | .ask _ _ _, ⟨h1, h2, h3⟩ => ⟨h1, h2, fun b => (h3 b).bind hf⟩
theorem Zj4 {α : Type} {n : Nat} {lt : Nat → Nat → Bool} {cmp : Nat → Nat → (Bool → Shared → Prop) → Shared → Prop} {G : Shared → Prop} {R : α → Prop} (hc : ∀ i j (C : Bool → Shared → Prop) s, i < n → j < n → G s → (∀ s', G s' → C (lt i j) s') → cmp i j C s) {Q : α → Shared → Prop} :
  ∀ (t : KasT α), Ze8 n R t → ∀ (s : Shared), G s → (∀ s', G s' → Q (kev lt t) s') → t.kasWp cmp Q s
 | .ret _, _, s, g, h => h s g
 | .ask i j k, ⟨h1, h2, h3⟩, s, g, h => hc i j _ s h1 h2 g fun s' g' => Zj4 hc (k (lt i j)) (h3 _) s' g' h
variable {n : Nat}
def Low (n : Nat) (p : Array Nat) : Prop := ∀ i, at' p i < n
theorem Low.perm {p q : Array Nat} (h0 : 0 < n) (l : Low n p) (e : q.Perm p) : Low n q := by
 intro i
 unfold at'
 rw [Array.getD_eq_getD_getElem?]
 cases h : q[i]? with
 | none => simpa using h0
 | some x =>
  have hx : x ∈ p := e.mem_iff.mp (Array.mem_of_getElem? h)
  obtain ⟨j, hj, e2⟩ := Array.mem_iff_getElem.mp hx
  have := l j
  unfold at' at this
  rw [Array.getD_eq_getD_getElem?, Array.getElem?_eq_getElem hj, e2] at this
  simpa using this
theorem Zjo {p : Array Nat} (l : Low n p) : ∀ (f m : Nat), Ze8 n (fun _ => True) (kas_asc p f m)
 | 0, _ => trivial
 | f + 1, m => ⟨l _, l _, fun b => by
  cases b with
  | true => exact trivial
  | false => exact Zjo l f (m + 1)⟩
theorem Zgj (h0 : 0 < n) : ∀ (f : Nat) (p : Array Nat) (m q : Nat), Low n p → Ze8 n (fun r => Low n r.1) (kas_desc f p m q)
 | 0, p, _, _, l => l
 | f + 1, p, m, q, l => by
  unfold kas_desc
  refine ⟨l _, l _, fun b => ?_⟩
  cases b with
  | true =>
   simp only [if_true]
   split
   ·exact Zgj h0 f _ _ _ (l.perm h0 (Zds _ _ _))
   ·exact Zgj h0 f _ _ _ l
  | false =>
   simp only [Bool.false_eq_true, if_false]
   refine ⟨l _, l _, fun c => ?_⟩
   cases c with
   | true => exact l
   | false => exact Zgj h0 f _ _ _ l
theorem ZiU (h0 : 0 < n) {p : Array Nat} {m nrem : Nat} (l : Low n p) : Ze8 n (fun r => Low n r.2) (kas_tail3 m nrem p) :=
 Ze8.bind (R := fun _ => True) (R' := fun r => Low n r.2) (f := fun m' => KasT.ret (m', kas_rev p 0 m)) (fun _ _ => l.perm h0 (Zds p 0 m)) (Zjo (l.perm h0 (Zds _ _ _)) _ _)
theorem Zgt (h0 : 0 < n) {p : Array Nat} {m nrem : Nat} (l : Low n p) : Ze8 n (fun r => Low n r.2) (kas_descPart m nrem p) := by
 refine Ze8.bind (fun r hr => ?_) (Zgj h0 _ _ _ _ l)
 split
 ·exact ZiU h0 (Low.perm h0 hr (Zds _ _ _))
 ·exact ZiU h0 hr
theorem ZmF (h0 : 0 < n) {p : Array Nat} {nrem : Nat} (l : Low n p) : Ze8 n (fun r => Low n r.2) (kas_count nrem p) := by
 refine Ze8.bind (fun m _ => ?_) (Zjo l _ _)
 split
 ·exact l
 ·split
  ·refine ⟨l _, l _, fun b => ?_⟩
   cases b with
   | true => exact l
   | false => exact Zgt h0 (l.perm h0 (Zds _ _ _))
  ·exact Zgt h0 l
theorem ZgT {p : Array Nat} {k : Nat} (l : Low n p) : ∀ (f a b : Nat), Ze8 n (fun _ => True) (kas_place p k f a b)
 | 0, _, _ => trivial
 | f + 1, a, b => by
  unfold kas_place
  split
  ·exact trivial
  ·refine ⟨l _, l _, fun c => ?_⟩
   cases c with
   | true => exact ZgT l f _ _
   | false => exact ZgT l f _ _
theorem ZlM (h0 : 0 < n) : ∀ (f : Nat) (p : Array Nat) (k : Nat), Low n p → Ze8 n (fun _ => True) (kas_bin f p k)
 | 0, _, _, _ => trivial
 | f + 1, p, k, l => Ze8.bind (fun _ _ => ZlM h0 f _ _ (l.perm h0 (bubble_perm _ _ _))) (ZgT l _ _ _)
theorem ZmS (h0 : 0 < n) : Ze8 n (fun _ => True) (kas_sort n) := by
 have l : Low n (List.toArray (List.range n)) := fun i => by
  unfold at'
  rw [Array.getD_eq_getD_getElem?]
  cases h : (List.toArray (List.range n))[i]? with
  | none => simpa using h0
  | some x =>
   have := Array.mem_of_getElem? h
   simpa using this
 refine Ze8.bind (fun r hr => ?_) (ZmF h0 l)
 split
 ·exact ZlM h0 _ _ _ hr
 ·exact trivial
end
section
variable {prog : Program} {w : World} {A : Around} {E : Value → Shared → Prop} {s : Shared}
def Zhn (h : Heap) (a : Addr) (vs : List Value) : Heap := ((h.update a (Obj.mapSeq fun _ => #[])).push (seqObj "tuple" vs.toArray 0)).push (seqObj "list" #[] 0)
def ZfZ (s s' : Shared) : Prop := ∃ t, s' = { s with toks := t }
theorem Zm7 {h : Heap} {a b : Addr} {vs : List Value} (hb : b ≠ a) (hlt : b < h.objs.size) : (Zhn h a vs).get? b = h.get? b := by
 unfold Zhn
 rw [Heap.get?_push_ne _ _ _ (by rw [size_push', Heap.size_update]; exact Nat.ne_of_lt (Nat.lt_succ_of_lt hlt)), Heap.get?_push_ne _ _ _ (by rw [Heap.size_update]; exact Nat.ne_of_lt hlt), Heap.get?_update_ne _ _ _ _ hb]
theorem ZnZ {a : Addr} {vs : List Value} {n : Nat} {lt : Nat → Nat → Bool} {κ : SortKind} {P : PySem.Fin → Shared → Prop} (o : ZfQ lt) (ho : s.heap.get? a = some (seqObj "list" vs.toArray n)) (h64 : vs.length < 64)
  (hk : 2 ≤ vs.length → ∀ (Q : SortKind → Shared → Prop) s', ZfZ { s with heap := Zhn s.heap a vs } s' → (∀ s'', ZfZ { s with heap := Zhn s.heap a vs } s'' → Q κ s'') → wpAny (model prog w) A (keyKind' vs.toArray) Q E s')
  (hc : 2 ≤ vs.length → ∀ i j (C : Bool → Shared → Prop) s', i < vs.length → j < vs.length → ZfZ { s with heap := Zhn s.heap a vs } s' → (∀ s'', ZfZ { s with heap := Zhn s.heap a vs } s'' → C (lt i j) s'') → kas_ask prog w A κ vs i j C s')
  (h : ∀ (out : List Value) (p : List Nat) t, p.Perm (List.range vs.length) → (∀ (i j x y : Nat), i ≤ j → p[i]? = some x → p[j]? = some y → lt y x = false) → out = p.map (fun i => vs.getD i Value.none) → P (.done (.ret .none)) { s with heap := sortedHeap s.heap a vs out.toArray, toks := t }) :
  wpAny (model prog w) A (Builtin.«list.sort» ⟨[.ref a], []⟩) P E s := by
 have ha : a < s.heap.objs.size := Heap.lt_size ho
 obtain ⟨e1, g1⟩ : ∃ e1, (s.heap.update a (Obj.mapSeq fun _ => (#[] : Array Value))).get? a = some (seqObj "list" #[] e1) := ⟨_, get?_update_seq ho _⟩
 have g6 : (Zhn s.heap a vs).get? a = some (seqObj "list" #[] e1) := by
  unfold Zhn; rw [Heap.get?_push_ne _ _ _ (by rw [size_push', Heap.size_update]; exact Nat.ne_of_lt (Nat.lt_succ_of_lt ha)), Heap.get?_push_ne _ _ _ (by rw [Heap.size_update]; exact Nat.ne_of_lt ha)]; exact g1
 rw [list_sort_plain]; refine wpAny_bind (listItems_at ho rfl (wpAny_bind (listUpdate_at ho rfl ?_ (by rw [List.size_toArray, sizeLine_eq]; omega) (Nat.zero_le _))))
 refine wpAny_bind (seqEpoch_at g1 rfl (wpAny_bind (wpAny_newTuple ?_ (by show vs.length ≤ _; rw [sizeLine_eq]; omega)))); refine wpAny_bind (wpAny_newList ?_ (Nat.zero_le _))
 refine wpAny_holding ?_
 show wpAny (model prog w) A _ P E { s with heap := Zhn s.heap a vs }
 dsimp only
 by_cases h2 : vs.length < 2
 ·have q2 : vs.toArray.size < 2 := by rw [List.size_toArray]; exact h2
  rw [if_pos q2, if_pos q2]; refine wpAny_bind (wpAny_pure ?_)
  rw [StateT.run_pure]; refine wpAny_bind (wpAny_pure ?_)
  dsimp only; refine wpAny_bind (seqEpoch_at g6 rfl (wpAny_bind (listUpdate_at g6 rfl ?_ (Nat.zero_le _) ?_)))
  ·have es : (arrOf (SortSt.mk' general' (vs.toArray.zip vs.toArray) #[] 7 none)).map (·.2) = vs.toArray := by
    show (vs.toArray.zip vs.toArray).map (·.2) = _
    apply Array.toList_inj.mp; simp [List.map_snd_zip]
   rw [es]; simp only [bne_self_eq_false, Bool.false_eq_true, if_false]
   refine wpAny_pure (h vs (List.range vs.length) s.toks (List.Perm.refl _) (fun i j x y hij hx hy => ?_) ?_)
   ·have := (List.getElem?_eq_some_iff.mp hx).1
    have := (List.getElem?_eq_some_iff.mp hy).1
    simp only [List.length_range] at *
    have : i = j := by omega
    subst this; rw [hx] at hy; cases hy; exact o.rf _
   ·apply List.ext_getElem?
    intro i
    rw [List.getElem?_map]
    by_cases hi : i < vs.length
    ·simp [hi]
    ·simp [hi]
  ·refine Nat.le_trans (Nat.le_of_eq (Array.size_map ..)) ?_
   show (vs.toArray.zip vs.toArray).size ≤ _
   rw [Array.size_zip, List.size_toArray, sizeLine_eq]; omega
 ·have q2 : ¬ vs.toArray.size < 2 := by rw [List.size_toArray]; exact h2
  have h2' : 2 ≤ vs.length := by omega
  rw [if_neg q2, if_neg q2]
  refine wpAny_bind (hk h2' _ _ ⟨s.toks, rfl⟩ fun s' hs' => ?_)
  refine wpAny_bind (wpAny_mono (kat_run (Q := fun st' s'' => ZfZ { s with heap := Zhn s.heap a vs } s'' ∧ failedOf st' = none ∧ arrOf st' = (kev lt (kas_sort vs.length)).map (kas_item (vs.toArray.zip vs.toArray))) (G := fun p s'' => ZfZ { s with heap := Zhn s.heap a vs } s'' ∧ p = kev lt (kas_sort vs.length)) rfl h2' h64
   (fun p st' s'' _ a2 a3 ⟨a4, a5⟩ => ⟨a4, a3, by rw [a2, a5]⟩) (Zj4 (n := vs.length) (hc h2') _ (ZmS (by omega)) s' hs' fun s'' g => ⟨g, rfl⟩)) ?_ fun _ _ e => e)
  rintro ⟨⟨⟩, st'⟩ s'' ⟨⟨t, rfl⟩, hf, har⟩
  dsimp only
  obtain ⟨pp, pu⟩ := ZoP o (n := vs.length) (by omega)
  generalize kev lt (kas_sort vs.length) = p at pp pu har
  have hout := kat_snds (vs := vs) (ks := vs) rfl har
  rw [hout]
  have hlen : p.toList.length = vs.length := by have := pp.size_eq; simpa using this
  refine wpAny_bind (seqEpoch_at g6 rfl (wpAny_bind (listUpdate_at g6 rfl ?_ (Nat.zero_le _) (by rw [List.size_toArray, List.length_map, hlen, sizeLine_eq]; omega))))
  rw [hf]; simp only [bne_self_eq_false, Bool.false_eq_true, if_false]
  refine wpAny_pure (h _ p.toList t ?_ (fun i j x y hij hx hy => ?_) rfl)
  ·have := Array.perm_iff_toList_perm.mp pp; simpa using this
  ·have hj := (List.getElem?_eq_some_iff.mp hy).1
   have u := pu i j hij (by rw [hlen] at hj; exact hj)
   have cv : ∀ (k z : Nat), p.toList[k]? = some z → at' p k = z := fun k z hz => by
    rw [at', Array.getD_eq_getD_getElem?, ← Array.getElem?_toList, hz]; rfl
   rw [cv i x hx, cv j y hy] at u; exact u
theorem ZkN {l : Addr} {vs : List Value} {lt : Nat → Nat → Bool} {κ : SortKind} {Q : Value → Shared → Prop} (o : ZfQ lt) (hl : s.heap.IsList l vs.toArray) (h64 : vs.length < 64)
  (hk : 2 ≤ vs.length → ∀ (h' : Heap) (Q : SortKind → Shared → Prop) s', (∀ b u, s.heap.get? b = some u → h'.get? b = some u) → ZfZ { s with heap := h' } s' → (∀ s'', ZfZ { s with heap := h' } s'' → Q κ s'') → wpAny (model prog w) A.in1.in1 (keyKind' vs.toArray) Q (fun _ _ => False) s')
  (hc : 2 ≤ vs.length → ∀ (h' : Heap) i j (C : Bool → Shared → Prop) s', (∀ b u, s.heap.get? b = some u → h'.get? b = some u) → i < vs.length → j < vs.length → ZfZ { s with heap := h' } s' → (∀ s'', ZfZ { s with heap := h' } s'' → C (lt i j) s'') → kas_ask prog w A.in1.in1 κ vs i j C s')
  (h : ∀ (out : List Value) (p : List Nat) t h' a, p.Perm (List.range vs.length) → (∀ (i j x y : Nat), i ≤ j → p[i]? = some x → p[j]? = some y → lt y x = false) → out = p.map (fun i => vs.getD i Value.none) →
   (∀ b u, s.heap.get? b = some u → h'.get? b = some u) → s.heap.objs.size ≤ a → (∃ e, h'.get? a = some (seqObj "list" out.toArray e)) → Q (.ref a) { s with heap := h', toks := t }) :
  wpAny (model prog w) A (call (.builtin "sorted") [.ref l]) Q E s := by
 refine Calls.call_function_entry kind_sorted plain_sorted entry_sorted (args_sorted1 _) ?_; unfold Builtin.«sorted»
 refine wpAny_bind (m := checkCount "sorted" 1 1 _) (wpAny_pure (wpAny_bind (collect_list hl ?_ (by rw [sizeLine_eq]; omega)))); refine wpAny_bind (wpAny_newList ?_ (by rw [sizeLine_eq]; omega))
 have hsz : ((s.heap.push (seqObj "list" #[] 0)).update s.heap.objs.size (Obj.mapSeq (· ++ vs.toArray))).objs.size = s.heap.objs.size + 1 := (Heap.size_update ..).trans (size_push' ..)
 obtain ⟨h3, e3⟩ : ∃ h3, ((s.heap.push (seqObj "list" #[] 0)).update s.heap.objs.size (Obj.mapSeq (· ++ vs.toArray))).push (seqObj "list" vs.toArray 0) = h3 := ⟨_, rfl⟩
 have g3 : h3.get? (s.heap.objs.size + 1) = some (seqObj "list" vs.toArray 0) := by rw [← e3, ← hsz]; exact Heap.get?_push_size _ rfl
 have k3 : ∀ b u, s.heap.get? b = some u → h3.get? b = some u := fun b u q => by
  have hlt : b < s.heap.objs.size := Heap.lt_size q
  rw [← e3, Heap.get?_push_ne _ _ _ (by rw [hsz]; exact Nat.ne_of_lt (Nat.lt_succ_of_lt hlt)), Heap.get?_update_ne _ _ _ _ (Nat.ne_of_lt hlt), Heap.get?_push_ne _ _ _ (Nat.ne_of_lt hlt)]; exact q
 have z3 : h3.objs.size = s.heap.objs.size + 2 := by rw [← e3, size_push', hsz]
 show wpAny _ _ _ _ _ { s with heap := ((s.heap.push (seqObj "list" #[] 0)).update s.heap.objs.size (Obj.mapSeq (· ++ vs.toArray))).push (seqObj "list" vs.toArray 0) }
 rw [hsz, e3]
 have km : ∀ b u, s.heap.get? b = some u → (Zhn h3 (s.heap.objs.size + 1) vs).get? b = some u := fun b u q => by
  have hlt : b < s.heap.objs.size := Heap.lt_size q
  rw [Zm7 (Nat.ne_of_lt (Nat.lt_succ_of_lt hlt)) (by rw [z3]; exact Nat.lt_succ_of_lt (Nat.lt_succ_of_lt hlt))]; exact k3 b u q
 refine wpAny_bind (wpAny_holding (wpAny_call_entry slot_list_sort ⟨_, g3, rfl⟩ entry_list_sort ?body (args_list_sort _)))
 case body =>
  refine ZnZ (s := { s with heap := h3 }) (κ := κ) o g3 h64 (fun h2 Q' s' hs' hq => wpAny_mono (hk h2 _ Q' s' km hs' hq) (fun _ _ q => q) fun _ _ z => z.elim) (fun h2 i j C s' hi hj hs' hq => hc h2 _ i j C s' km hi hj hs' hq) fun out p t hp hu ho => ⟨_, rfl, wpAny_pure ⟨_, rfl, ?_⟩⟩
  refine h out p t (sortedHeap h3 (s.heap.objs.size + 1) vs out.toArray) (s.heap.objs.size + 1) hp hu ho (fun b u q => ?_) (by omega) ?_
  ·have hlt : b < s.heap.objs.size := Heap.lt_size q
   rw [sortedHeap_old (Nat.ne_of_lt (Nat.lt_succ_of_lt hlt)) (by rw [z3]; exact Nat.lt_succ_of_lt (Nat.lt_succ_of_lt hlt))]; exact k3 b u q
  ·exact sortedHeap_at g3
end
end L3
namespace L3
open PySem PySem.W PySem.Spec PyProof.Rows L2
section
variable {prog : Program} {w : World} {A : Around} {K : PySem.W.Frag} {H : Hp} {ι : List Addr}
theorem Zn1 {s : Shared} {C : Bool → Shared → Prop} {r : Bool} (hC : C r s) : ∀ (x y : List D) (xs ys : List V) (us ws : List Value) (k : Nat) (fin : Bool), Zai K H ι x xs → Zai K H ι y ys → Vals xs us → Vals ys ws → fin = decide (x.length < y.length) →
  (k = 0 → (∀ d, x.head? = some d → Zgb d = true)) → ltT x y = some r → KatLex prog w A true fin C (us.zip ws) k s
 | [], [], xs, ys, us, ws, k, fin, rx, ry, vx, vy, hf, _, h => by
  have e1 := rx.nil_inv; have e2 := ry.nil_inv; subst e1 e2; cases vx; cases vy
  refine kat_nil ?_
  simp [ltT] at h; subst hf; simpa [h] using hC
 | [], d :: y, xs, ys, us, ws, k, fin, rx, ry, vx, vy, hf, _, h => by
  have e1 := rx.nil_inv; subst e1; cases vx
  refine kat_nil ?_
  simp [ltT] at h; subst hf; simpa [h] using hC
 | d :: x, [], xs, ys, us, ws, k, fin, rx, ry, vx, vy, hf, _, h => by
  have e1 := ry.nil_inv; subst e1; cases vy
  rw [List.zip_nil_right]
  refine kat_nil ?_
  simp [ltT] at h; subst hf; simpa [h] using hC
 | d :: x, e :: y, xs, ys, us, ws, k, fin, rx, ry, vx, vy, hf, h0, h => by
  obtain ⟨v, xs', rfl, r1, r2⟩ := rx.cons_inv
  obtain ⟨v', ys', rfl, r1', r2'⟩ := ry.cons_inv
  cases vx with
  | @cons _ u _ us' ru rus =>
  cases vy with
  | @cons _ u' _ ws' ru' rus' =>
  rw [List.zip_cons_cons]
  have hfin : fin = decide (x.length < y.length) := by rw [hf]; simp
  rcases ZeV h with ⟨i, j, rfl, rfl⟩ | ⟨i, j, rfl, rfl⟩
  ·have ev := r1.int_inv; have ev' := r1'.int_inv
   subst ev ev'
   obtain ⟨t, rfl⟩ := ru
   obtain ⟨t', rfl⟩ := ru'
   refine kat_cons (wpAny_eqBool_int ?_)
   simp only [ltT] at h
   by_cases e : i = j
   ·subst e
    rw [if_pos rfl] at h
    rw [beq_self_eq_true]
    exact kat_yes (Zn1 hC x y xs' ys' us' ws' (k + 1) fin r2 r2' rus rus' hfin (fun z => by omega) h)
   ·rw [if_neg e] at h
    have hb : (i == j) = false := by simpa using e
    rw [hb]
    refine kat_no ?_
    have hr : decide (i < j) = r := by simpa using h
    cases hk : (true && k == 0) with
    | true => exact oneLt_int (by rw [hr]; exact hC)
    | false => exact kat_one _ _ (lt_int (by show C _ s; rw [hr]; exact hC))
  ·have ev := r1.str_inv; have ev' := r1'.str_inv
   subst ev ev'
   obtain ⟨t, rfl⟩ := ru
   obtain ⟨t', rfl⟩ := ru'
   refine kat_cons (wpAny_eqBool_str ?_)
   simp only [ltT] at h
   by_cases e : i = j
   ·subst e
    rw [if_pos rfl] at h
    rw [decide_eq_true rfl]
    exact kat_yes (Zn1 hC x y xs' ys' us' ws' (k + 1) fin r2 r2' rus rus' hfin (fun z => by omega) h)
   ·rw [if_neg e] at h
    have hb : decide ((⟨i.toArray⟩ : Str) = ⟨j.toArray⟩) = false := by
     rw [decide_eq_false_iff_not]; intro z; injection z with z; exact e (by simpa using congrArg Array.toList z)
    rw [hb]
    refine kat_no ?_
    have hr : decide (i < j) = r := by simpa using h
    have hk0 : k ≠ 0 := fun z => by have := h0 z _ rfl; simp [Zgb] at this
    have hk : (true && k == 0) = false := by simp [hk0]
    rw [hk]
    exact kat_one _ _ (lt_str (by show C _ s; rw [show decide ((⟨i.toArray⟩ : Str).cps.toList < (⟨j.toArray⟩ : Str).cps.toList) = r from hr]; exact hC))
end
section
variable {X : Cx}
theorem ZeP {x : List D} {vs : List V} {its : List Value} {K : PySem.W.Frag} {H : Hp} {ι : List Addr} (r : Zai K H ι x vs) (v : Vals vs its) {i : Nat} {d : D} (h : x[i]? = some d) : ∃ u, RelV u (its.getD i Value.none) ∧ Rep K H ι d u ∧ vs[i]? = some u := by
 obtain ⟨u, e1, r1⟩ := r.get h
 obtain ⟨z, e2, r2⟩ := v.get e1
 refine ⟨u, ?_, r1, e1⟩
 rw [List.getD_eq_getElem?_getD, e2]; exact r2
theorem Zg7 {pins : List (Addr × Obj)} {σ : St} {H : Hp} {s : Shared} {ι : List Addr} (I : Inv X pins σ H s) {h' : Heap} (k : ∀ b u, s.heap.get? b = some u → h'.get? b = some u) : ∀ (x : List D) (vs : List V) (its : List Value), Zai X.K H ι x vs → Vals vs its → x.all ZdT = true →
  ∃ fs : List Value, KatTups h' its fs ∧ fs.length = x.length ∧ ∀ f ∈ fs, ∃ i t, f = .int i t
 | [], vs, its, r, v, _ => by have e := r.nil_inv; subst e; cases v; exact ⟨[], .nil, rfl, fun f h => by simp at h⟩
 | d :: x, vs, its, r, v, h => by
  obtain ⟨u, vs', rfl, r1, r2⟩ := r.cons_inv
  cases v with
  | @cons _ z _ its' rz rzs =>
  simp only [List.all_cons, Bool.and_eq_true] at h
  obtain ⟨fs, t, l, hf⟩ := Zg7 I k x vs' its' r2 rzs h.2
  have hd := h.1
  cases d with
  | tup ds =>
   cases ds with
   | nil => simp [ZdT] at hd
   | cons e ds =>
    cases e with
    | int i =>
     obtain ⟨a, ws, rfl, sq, rr⟩ := r1.tup_inv
     cases (show z = Value.ref a from rz)
     obtain ⟨its2, rv, ⟨o, ho, hc, n, hdat⟩, _⟩ := I.tuple sq
     obtain ⟨u0, ws', rfl, q1, q2⟩ := rr.cons_inv
     have e0 := q1.int_inv
     subst e0
     cases rv with
     | @cons _ y0 _ ys ry0 _ =>
     obtain ⟨tk, rfl⟩ := ry0
     refine ⟨.int i tk :: fs, KatTups.cons (k a o ho) hc hdat (by simp) t, by simp [l], fun f hm => ?_⟩
     rcases List.mem_cons.mp hm with rfl | hm
     ·exact ⟨i, tk, rfl⟩
     ·exact hf f hm
    | _ => simp [ZdT] at hd
  | _ => simp [ZdT] at hd
theorem Zai.pick {K : PySem.W.Frag} {H : Hp} {ι : List Addr} {x : List D} {vs : List V} (r : Zai K H ι x vs) (d0 : D) (v0 : V) : ∀ (p : List Nat), (∀ i ∈ p, i < x.length) → Zai K H ι (p.map fun i => x.getD i d0) (p.map fun i => vs.getD i v0)
 | [], _ => Zai.nil
 | i :: p, h => by
  have hi := h i List.mem_cons_self
  obtain ⟨v, e, q⟩ := r.get (i := i) (d := x[i]) (by simp [hi])
  refine Zai.cons ?_ (Zai.pick r d0 v0 p fun j hj => h j (List.mem_cons_of_mem _ hj))
  dsimp only
  rw [List.getD_eq_getElem?_getD, List.getD_eq_getElem?_getD, e, List.getElem?_eq_getElem hi]; exact q
theorem Vals.pick {vs : List V} {us : List Value} (r : Vals vs us) (v0 : V) : ∀ (p : List Nat), (∀ i ∈ p, i < vs.length) → Vals (p.map fun i => vs.getD i v0) (p.map fun i => us.getD i Value.none)
 | [], _ => .nil
 | i :: p, h => by
  have hi := h i List.mem_cons_self
  obtain ⟨v, e, q⟩ := r.get (i := i) (x := vs[i]) (by simp [hi])
  refine .cons ?_ (Vals.pick r v0 p fun j hj => h j (List.mem_cons_of_mem _ hj))
  dsimp only
  rw [List.getD_eq_getElem?_getD, List.getD_eq_getElem?_getD, e, List.getElem?_eq_getElem hi]; exact q
theorem Zmg {x : List D} (d0 : D) {p : List Nat} (h : p.Perm (List.range x.length)) : (p.map fun i => x.getD i d0).Perm x := by
 have h1 := h.map (fun i => x.getD i d0)
 have h2 : (List.range x.length).map (fun i => x.getD i d0) = x := by
  apply List.ext_getElem?
  intro i
  rw [List.getElem?_map]
  by_cases hi : i < x.length
  ·simp [hi]
  ·simp [hi]
 rwa [h2] at h1
theorem ZhE : Zb2 X (.builtin "sorted") (rB X.K Zbv) := by
 intro pins s σ H xs us Q I rs ⟨ι, M, ds, S, rd, h⟩
 cases ds with
 | nil => exact h.elim
 | cons d ds =>
  cases ds with
  | cons _ _ => cases d <;> exact h.elim
  | nil =>
   obtain ⟨x0, rfl, r⟩ := Zfc rd
   obtain ⟨u, rfl, ru⟩ := vals1 rs
   cases d with
   | ref n =>
    cases hn : M[n]? with
    | none => simp only [Zbv, hn] at h; exact h.elim
    | some ob =>
     cases ob with
     | dct _ => simp only [Zbv, hn] at h; exact h.elim
     | fdct _ => simp only [Zbv, hn] at h; exact h.elim
     | lst x =>
      simp only [Zbv, hn] at h
      split at h
      ·rename_i ok
       obtain ⟨a, ha, rfl⟩ := r.ref_inv
       cases ru
       obtain ⟨vs, ev, rv⟩ := S.obj n _ a hn ha
       obtain ⟨its, rr, pl, zl⟩ := I.list (SqL.of ev)
       have lx : its.length = x.length := by rw [← rr.length, rv.length]
       obtain ⟨d0, hd0⟩ : ∃ d0 : D, ∀ e, x = e :: x.tail → d0 ∈ x := by
        cases x with
        | nil => exact ⟨.non, fun e h => by cases h⟩
        | cons e y => exact ⟨e, fun _ _ => List.mem_cons_self⟩
       have mem : ∀ (i : Nat), x ≠ [] → x.getD i d0 ∈ x := fun i hx => by
        rw [List.getD_eq_getElem?_getD]
        cases q : x[i]? with
        | some e => exact List.mem_of_getElem? q
        | none =>
         cases x with
         | nil => exact absurd rfl hx
         | cons e y => exact hd0 e rfl
       have ltok : ZfQ fun i j => decide (ltD (x.getD i d0) (x.getD j d0) = some true) := by
        by_cases hx : x = []
        ·subst hx
         have z : ∀ (i j : Nat), ltD (([] : List D).getD i d0) (([] : List D).getD j d0) = some true → False := fun i j hz => by
          simp only [List.getD_nil] at hz
          have := Zkd hz; rw [hz] at this; cases this
         exact ⟨fun h => (z _ _ (of_decide_eq_true h)).elim, fun {i j k} _ _ => decide_eq_false fun h => z _ _ h⟩
        ·refine ⟨fun {i j} h => decide_eq_false fun h' => ?_, fun {i j k} h1 h2 => decide_eq_false fun h3 => ?_⟩
         ·rw [Zkd (of_decide_eq_true h)] at h'; cases h'
         ·have c1 := ok.cmp _ (mem j hx) _ (mem i hx)
          have c2 := ok.cmp _ (mem k hx) _ (mem j hx)
          have e1 : ltD (x.getD j d0) (x.getD i d0) = some false := by
           cases q : ltD (x.getD j d0) (x.getD i d0) with
           | none => rw [q] at c1; cases c1
           | some b => cases b with
            | true => exact absurd q (of_decide_eq_false h1)
            | false => rfl
          have e2 : ltD (x.getD k d0) (x.getD j d0) = some false := by
           cases q : ltD (x.getD k d0) (x.getD j d0) with
           | none => rw [q] at c2; cases c2
           | some b => cases b with
            | true => exact absurd q (of_decide_eq_false h2)
            | false => rfl
          rw [Zqu e1 e2] at h3; cases h3
       have fin : ∀ (out : List Value) (p : List Nat) t h' a', p.Perm (List.range its.length) → (∀ (i j x' y' : Nat), i ≤ j → p[i]? = some x' → p[j]? = some y' → decide (ltD (x.getD y' d0) (x.getD x' d0) = some true) = false) → out = p.map (fun i => its.getD i Value.none) →
         (∀ b u, s.heap.get? b = some u → h'.get? b = some u) → s.heap.objs.size ≤ a' → (∃ e, h'.get? a' = some (seqObj "list" out.toArray e)) → ∃ v H', Inv X pins σ H' { s with heap := h', toks := t } ∧ RelV v (.ref a') ∧ Q v H' := by
        intro out p t h' a' hp hu ho hk ha' ⟨e, he⟩
        have hlt : ∀ i ∈ p, i < x.length := fun i hi => by have := hp.mem_iff.mp hi; rw [lx] at this; simpa using this
        have plen : p.length = x.length := by have := hp.length_eq; simpa [lx] using this
        have sq : Zie x (p.map fun i => x.getD i d0) := by
         refine ⟨Zmg d0 (by rw [← lx]; exact hp), ?_⟩
         rw [List.pairwise_map, List.pairwise_iff_getElem]
         intro i j hi hj hij
         have hd := hu i j p[i] p[j] (Nat.le_of_lt hij) (by simp) (by simp)
         by_cases hx : x = []
         ·subst hx; simp at plen; subst plen; simp at hi
         ·have c1 := ok.cmp _ (mem p[j] hx) _ (mem p[i] hx)
          unfold leD
          cases q : ltD (x.getD p[j] d0) (x.getD p[i] d0) with
          | none => rw [q] at c1; cases c1
          | some b => cases b with
           | true => exact absurd q (of_decide_eq_false hd)
           | false => rfl
        rw [Zkq sq] at h
        have hn0 := I.hok.fresh ha'
        obtain ⟨x2, S2, r2⟩ := S.lst hn0 (rv.pick d0 .non p hlt)
        refine ⟨.ref a', _, I.laid (o := .lst (p.map fun i => vs.getD i .non)) hk ha' ⟨?_, out, e, ?_, he⟩, rfl, h _ _ _ x2 S2 r2⟩
        ·rw [List.length_map, plen, sizeLine_eq]; have := ok.len; omega
        ·rw [ho]; exact Vals.pick rr .non p fun i hi => by rw [rv.length]; exact hlt i hi
       rcases ok.kind with kd | kd
       ·refine ZkN (κ := tuples' (Value.type "int" != Value.type "tuple")) ltok pl.isList (by rw [lx]; exact ok.len) (fun h2 h' Q' s' hk hs' hq => ?_) (fun h2 h' i j C s' hk hi hj hs' hC => ?_) fun out p t h' a' hp hu ho hk ha' he => fin out p t h' a' hp hu ho hk ha' he
        ·obtain ⟨fs, kt, lf, hf⟩ := Zg7 I hk x vs its rv rr kd
         obtain ⟨t, rfl⟩ := hs'
         refine kat_kind (T := .type "int") kt (by rw [lf, ← lx]; omega) (fun v hv => ?_) (by decide) (hq _ ⟨t, rfl⟩)
         obtain ⟨i, tk, rfl⟩ := hf v hv
         exact Looks.now
        ·obtain ⟨t, rfl⟩ := hs'
         have hxi : x[i]? = some x[i] := by rw [List.getElem?_eq_getElem]
         have hxj : x[j]? = some x[j] := by rw [List.getElem?_eq_getElem]
         obtain ⟨vi, ri, qi, _⟩ := ZeP rv rr hxi
         obtain ⟨vj, rj, qj, _⟩ := ZeP rv rr hxj
         have ki := List.all_eq_true.mp kd _ (List.getElem_mem (show i < x.length by omega))
         have kj := List.all_eq_true.mp kd _ (List.getElem_mem (show j < x.length by omega))
         have cm := ok.cmp _ (List.getElem_mem (show i < x.length by omega)) _ (List.getElem_mem (show j < x.length by omega))
         have gi : x.getD i d0 = x[i] := by simp [show i < x.length by omega]
         have gj : x.getD j d0 = x[j] := by simp [show j < x.length by omega]
         simp only [gi, gj] at hC
         generalize x[i] = di at *
         generalize x[j] = dj at *
         cases di with
         | tup di =>
          cases dj with
          | tup dj =>
           obtain ⟨a1, w1, rfl, s1, e1⟩ := qi.tup_inv
           obtain ⟨a2, w2, rfl, s2, e2⟩ := qj.tup_inv
           obtain ⟨i1, v1, ⟨o1, g1, _, n1, d1⟩, _⟩ := I.tuple s1
           obtain ⟨i2, v2, ⟨o2, g2, _, n2, d2⟩, _⟩ := I.tuple s2
           unfold kas_ask
           rw [show its.getD i Value.none = .ref a1 from ri, show its.getD j Value.none = .ref a2 from rj]
           cases q : ltT di dj with
           | none => simp only [ltD, q] at cm; cases cm
           | some b =>
            refine kat_lt (hk _ _ g1) d1 (hk _ _ g2) d2 (Zn1 (r := b) ?_ di dj w1 w2 i1 i2 0 _ e1 e2 v1 v2 ?_ (fun _ d hd => ?_) q)
            ·have := hC _ ⟨t, rfl⟩
             simp only [ltD, q] at this
             cases b <;> simpa using this
            ·rw [List.size_toArray, List.size_toArray, ← v1.length, ← v2.length, e1.length, e2.length]
            ·cases di with
             | nil => cases hd
             | cons d' r' => cases hd; cases d <;> simp [ZdT, Zgb] at ki ⊢
          | _ => simp [ZdT] at kj
         | _ => simp [ZdT] at ki
       ·refine ZkN (κ := oneType') ltok pl.isList (by rw [lx]; exact ok.len) (fun h2 h' Q' s' hk hs' hq => ?_) (fun h2 h' i j C s' hk hi hj hs' hC => ?_) fun out p t h' a' hp hu ho hk ha' he => fin out p t h' a' hp hu ho hk ha' he
        ·obtain ⟨t, rfl⟩ := hs'
         refine kas_kind (T := .type "int") h2 (fun v hv => ?_) (by decide) (by decide) (hq _ ⟨t, rfl⟩)
         obtain ⟨i, hi, rfl⟩ := List.getElem_of_mem hv
         have hxi : x[i]? = some x[i] := by rw [List.getElem?_eq_getElem]
         obtain ⟨vi, ri, qi, _⟩ := ZeP rv rr hxi
         have ki := List.all_eq_true.mp kd _ (List.getElem_mem (show i < x.length by omega))
         have gi : its.getD i Value.none = its[i] := by simp [hi]
         rw [gi] at ri
         generalize x[i] = di at *
         cases di with
         | int k =>
          have := qi.int_inv
          subst this
          obtain ⟨tk, e⟩ := ri
          rw [e]
          exact Looks.now
         | _ => simp [Zgb] at ki
        ·obtain ⟨t, rfl⟩ := hs'
         have hxi : x[i]? = some x[i] := by rw [List.getElem?_eq_getElem]
         have hxj : x[j]? = some x[j] := by rw [List.getElem?_eq_getElem]
         obtain ⟨vi, ri, qi, _⟩ := ZeP rv rr hxi
         obtain ⟨vj, rj, qj, _⟩ := ZeP rv rr hxj
         have ki := List.all_eq_true.mp kd _ (List.getElem_mem (show i < x.length by omega))
         have kj := List.all_eq_true.mp kd _ (List.getElem_mem (show j < x.length by omega))
         have gi : x.getD i d0 = x[i] := by simp [show i < x.length by omega]
         have gj : x.getD j d0 = x[j] := by simp [show j < x.length by omega]
         simp only [gi, gj] at hC
         generalize x[i] = di at *
         generalize x[j] = dj at *
         cases di with
         | int p =>
          cases dj with
          | int q =>
           have := qi.int_inv; subst this
           have := qj.int_inv; subst this
           obtain ⟨t1, e1⟩ := ri
           obtain ⟨t2, e2⟩ := rj
           unfold kas_ask
           rw [e1, e2, keyLt'_oneType]
           refine oneLt_int ?_
           have := hC _ ⟨t, rfl⟩
           simpa [ltD] using this
          | _ => simp [Zgb] at kj
         | _ => simp [Zgb] at ki
      ·exact h.elim
   | _ => exact h.elim
end
end L3
namespace L3
open PySem PySem.Spec PyProof.Rows L2
section
variable {X : Cx} {a b c e o : Expr} {es : List Expr} {pos p apos cpos : Pos} {f g h : E3} {gl : EL3}
theorem Zrz : Zb2 X (.type "int") (rB X.K Zry) := Zb2.imp Zmd fun xs H Q ⟨ι, M, ds, S, rd, h⟩ => by
 cases ds with
 | nil => exact h.elim
 | cons d ds =>
  cases ds with
  | cons _ _ => cases d <;> exact h.elim
  | nil =>
   obtain ⟨x, rfl, r⟩ := Zfc rd
   cases d with
   | int i => exact .inl ⟨i, by rw [r.int_inv], ZaF.ok h S Rep.int⟩
   | bl k => exact .inr ⟨k, by rw [r.bl_inv], ZaF.ok h S Rep.int⟩
   | _ => exact h.elim
theorem ZpE {K : PySem.W.Frag} {H : Hp} {ι : List Addr} {M : Store} (S : ZaG K H ι M) {n : Nat} {a : Addr} (h : (Zd1 M[n]?).isSome = true) (ha : ι[n]? = some a) : IsD H a := by
 cases hn : Zd1 M[n]? with
 | none => rw [hn] at h; cases h
 | some kvs =>
  obtain ⟨ws, hw, _⟩ := ZjM S hn ha
  exact .inl ⟨ws, hw⟩
theorem ZnL {K : PySem.W.Frag} {H : Hp} {ι : List Addr} {kvs : List (ZbH × D)} {ws : List (Key × V)} {d : D} {z : V} (kr : KvR K H ι kvs ws) (k : ZbH) (rd : Rep K H ι d z) : Rep K H ι ((ZcZ kvs k).getD d) ((ZfP ws (dk k)).getD z) := by
 have hv := kr.val k
 cases q : ZcZ kvs k with
 | none => rw [q] at hv; rw [hv]; exact rd
 | some w =>
  rw [q] at hv
  obtain ⟨v, ev, rv⟩ := hv
  rw [ev]; exact rv
theorem Znk {e' : Expr} (hu : X.A.units + 80 < cLine) (ho : C3 X o f) (he : C3 X e g) (he' : C3 X e' h) (m : M2 X o "get" apos e e' cpos := by exact ⟨rfl, rfl, rfl, rfl⟩) : C3 X (.Call (.Attribute o "get" apos) [e, e'] [] cpos) (ZeK Zkf ZlA f (Zb g (Zb h Zj))) := (Zn9 (hu1 hu) ho he he' m).imp fun σ H Q ⟨ι, M, env, S, E, hh⟩ => by
 obtain ⟨d, M1, e1, hh⟩ := ZaF.bind hh
 refine ⟨ι, M, env, S, E, ?_⟩
 rw [e1]
 intro x H1 ι1 x1 S1 r1
 cases d with
 | ref n =>
  by_cases hD : (Zd1 M1[n]?).isSome = true
  ·simp only [Zkf, hD, if_true] at hh
   obtain ⟨ad, ha, rfl⟩ := r1.ref_inv
   obtain ⟨ds, M2, e2, hh⟩ := ZaF.bind hh
   refine ⟨ad, rfl, ZpE S1 hD ha, ι1, M1, env, S1, E.mono x1, ?_⟩
   cases q : g env M1 with
   | bad => simp [q] at e2
   | exc x' M' => simp [q] at e2
   | ok b M2' =>
    cases q' : h env M2' with
    | bad => simp [q, q'] at e2
    | exc x' M' => simp [q, q'] at e2
    | ok b' M3' =>
     simp only [Zb, q, q', R3.bind, Zj] at e2
     cases e2
     intro y H2 ι2 x2 S2 r2
     refine ⟨ι2, M2', env, S2, (E.mono x1).mono x2, ?_⟩
     rw [q']
     intro z H3 ι3 x3 S3 r3
     simp only [ZlA] at hh
     cases hn : Zd1 M2[n]? with
     | none => simp only [hn] at hh; exact hh.elim
     | some kvs =>
      cases hk : Zf7 b with
      | none => simp only [hn, hk] at hh; exact hh.elim
      | some kk =>
       simp only [hn, hk] at hh
       obtain ⟨ws, hw, kr⟩ := ZjM S3 hn (x3.pre _ _ (x2.pre _ _ ha))
       refine ⟨ZfP ws (dk kk), .inl ⟨ws, dk kk, hw, Zhx hk r2, rfl⟩, hh _ H3 ι3 ((x1.trans x2).trans x3) S3 (ZnL kr kk r3)⟩
  ·simp only [Zkf, hD] at hh; exact hh.elim
 | _ => exact hh.elim
end
section
variable {X : Cx} {pins : List (Addr × Obj)} {σ : St} {H : Hp} {s : Shared} {d : Addr} {ws : List (Key × V)} {ob : Obj}
theorem Zmf (hk : HOk X.prog X.w H s.heap) (h : H d = some (.dK ws)) (ho : s.heap.get? d = some ob) : HOk X.prog X.w (upd H d (.frz ob (.dK ws))) s.heap := fun b u e => by
 have stay : ∀ {b u}, H b = some u → ZbG X.prog X.w (upd H d (.frz ob (.dK ws))) s.heap b u := fun {b u} e => (hk b u e).stay (fun _ _ _ q => q) (fun c q => by rw [ZaB (ZiO q h (by intro z; cases z))]; exact q) fun c xs q => by rw [ZaB (ZiO q h (by intro z; cases z))]; exact q
 by_cases eb : b = d
 ·subst eb
  rw [Zct] at e
  cases e
  exact ⟨ho, stay h⟩
 ·rw [ZaB eb] at e
  exact stay e
theorem _root_.L2.Inv.still (I : Inv X pins σ H s) (h : H d = some (.dK ws)) (ho : s.heap.get? d = some ob) : Inv X pins σ (upd H d (.frz ob (.dK ws))) s := by
 have nd : ∀ b, H b = none → b ≠ d := fun b n z => by rw [z, h] at n; cases n
 exact I.step (h' := s.heap) (g' := s.gens) (t' := s.toks) (d' := s.drawn) (ch := []) (fun _ z => nomatch z) (fun b o _ _ _ e _ => e) (fun b o _ _ _ e _ => ⟨o.slots, e⟩) (fun b o _ _ n => by rw [ZaB (nd b n)]; exact n) (fun b o _ e => ⟨o, e⟩)
  (fun b xs q => by rw [ZaB (ZiO q h (by intro z; cases z))]; exact q) (fun b o u q => by rw [ZaB (ZiO q h (by intro z; cases z))]; exact q) (fun b ps q => ⟨#[], by rw [ZaB (ZiO q h (by intro z; cases z)), q]; simp⟩) (fun _ hm => hm) (Zmf I.hok h ho) I.bare
theorem _root_.L2.Inv.thaw (I : Inv X pins σ H s) (h : H d = some (.frz ob (.dK ws))) (h0 : ∀ o u, X.H₀ d ≠ some (.frz o u)) : Inv X pins σ (upd H d (.dK ws)) s := by
 have nd : ∀ b, H b = none → b ≠ d := fun b n z => by rw [z, h] at n; cases n
 have nt : ∀ {b u}, H b = some u → (∀ o v, u ≠ .frz o v) → b ≠ d := fun q nz z => by rw [z, h] at q; cases q; exact nz _ _ rfl
 have stay : ∀ {b u}, H b = some u → ZbG X.prog X.w (upd H d (.dK ws)) s.heap b u := fun {b u} e => (I.hok b u e).stay (fun _ _ _ q => q) (fun c q => by rw [ZaB (nt q fun _ _ z => nomatch z)]; exact q) fun c xs q => by rw [ZaB (nt q fun _ _ z => nomatch z)]; exact q
 refine ⟨I.ok, I.os, I.bare, ⟨I.base.keep, I.base.slot, fun b o e n hx => ?_, I.base.there, fun b xs e => ?_, fun b o u e => ?_, fun b ps e => ?_⟩, I.loc, I.cell, ?_, fun x c e => ?_, fun p hp => ?_, fun b u e => ?_, I.len⟩
 ·have := I.base.free b o e n hx
  rw [ZaB (nd b this)]; exact this
 ·have := I.base.tups b xs e
  rw [ZaB (nt this fun _ _ z => nomatch z)]; exact this
 ·have hb : b ≠ d := fun z => by subst z; exact h0 o u e
  rw [ZaB hb]; exact I.base.frzs b o u e
 ·obtain ⟨more, q⟩ := I.base.tbls b ps e
  exact ⟨more, by rw [ZaB (nt q fun _ _ z => nomatch z)]; exact q⟩
 ·rw [ZaB (nd _ I.free)]; exact I.free
 ·rw [ZaB (nd _ (I.freeC x c e))]; exact I.freeC x c e
 ·obtain ⟨e, n, r⟩ := I.pin p hp
  exact ⟨e, by rw [ZaB (nd _ n)]; exact n, r⟩
 ·by_cases eb : b = d
  ·subst eb
   rw [Zct] at e
   cases e
   obtain ⟨_, q⟩ := (show ZbG X.prog X.w H s.heap b (.frz ob (.dK ws)) from I.hok b _ h)
   exact q.stay (fun _ _ _ q => q) (fun c q => by rw [ZaB (nt q fun _ _ z => nomatch z)]; exact q) fun c xs q => by rw [ZaB (nt q fun _ _ z => nomatch z)]; exact q
  ·rw [ZaB eb] at e
   exact stay e
end
def Itd (d : Addr) (ob : Obj) (ws : List (Key × V)) : It :=
 ⟨fun i H => H d = some (.frz ob (.dK ws)) ∧ i < ws.length, fun i H x H' => H' = H ∧ ∃ q, ws[i]? = some q ∧ x = kV q.1, fun i H => H d = some (.frz ob (.dK ws)) ∧ i = ws.length⟩
theorem ZrA {P : Program} {w : World} {k : Key} {v : Value} (h : (Zbd P w).is k v = true) : RelV (kV k) v := by
 rw [Zln] at h
 rcases ZbO h with ⟨i, t, rfl, rfl⟩ | ⟨x, t, rfl, rfl⟩
 ·exact ⟨t, rfl⟩
 ·exact ⟨t, rfl⟩
theorem Zmw {P : Program} {w : World} {K : PySem.W.Frag} {tg : Expr} {it d : Addr} {ob : Obj} {ws : List (Key × V)} {vs : List (Key × Value)} {ep : Nat} (hne : d ≠ it) (hD : ∀ h : Heap, h.get? d = some ob → h.DictAt (Zbd P w) d vs ep) (kv : KV ws vs) :
  Turn P w K tg (Itd d ob ws) [it] it (fun i h => h.IsKeyIter it d i vs.length ep) where
 mem := by simp
 obj := fun i h st b hb => by
  have e : b = it := by simpa using hb
  subst e
  obtain ⟨o, e, c, d⟩ := st
  exact ⟨o, e, fun v z => by rw [d] at z; cases z⟩
 keep := fun i h h' st k => st.at fun o e => k it (by simp) o e
 item := by
  intro X hP hw hK hc i pins s σ H E I hf st hg
  subst hP hw hK
  obtain ⟨f0, f1, f2, f3, f4, f5⟩ := hf it (by simp)
  have hob := (show ZbG X.prog X.w H s.heap d (.frz ob (.dK ws)) from I.hok d _ hg.1).1
  refine (Walks.dictKeys (I.ok.hd hc) it d hne vs ep).item i s _ _ (by rw [← kv.length]; exact hg.2) ⟨st, hD _ hob⟩ fun v h' tk hv st' kk => ?_
  obtain ⟨k, x, hx, hk⟩ := hv
  have I1 : Inv X pins σ H { s with heap := h', toks := tk } := I.turned (fun b o hb e => kk b o (by simpa using hb) e) f0 f1 f3 f4 f5
  obtain ⟨o, e, cc, dd⟩ := id st'.1
  have hil : i < ws.length := hg.2
  have hq : ws[i]? = some ws[i] := by simp [hil]
  have ek : ws[i].1 = k := by
   have := congrArg (fun l => l[i]?) kv.keys
   simp only [List.getElem?_map, hq, hx, Option.map_some, Option.some.injEq] at this
   exact this
  exact ⟨_, rfl, Zkr (s := { s with heap := h', toks := tk }) e cc dd (by decide) ⟨kV k, H, I1, ZrA hk, ⟨rfl, ws[i], hq, by rw [ek]⟩, st'.1, fun b hb => (hf b hb).1⟩⟩
 done := by
  intro X hP hw hK hc i pins s σ H E I hf st hg
  subst hP hw hK
  obtain ⟨f0, f1, f2, f3, f4, f5⟩ := hf it (by simp)
  have hob := (show ZbG X.prog X.w H s.heap d (.frz ob (.dK ws)) from I.hok d _ hg.1).1
  have ei : i = vs.length := by rw [hg.2, kv.length]
  subst ei
  exact (Walks.dictKeys (I.ok.hd hc) it d hne vs ep).done s _ _ ⟨st, hD _ hob⟩ fun h' tk kk => ⟨rfl, I.turned (fun b o hb e => kk b o (by simpa using hb) e) f0 f1 f3 f4 f5⟩
 self := fun _ _ _ _ _ st h => wpAny_pyIter_keyiter st h
def ZjI (f : E3) : I3 := fun env M => (f env M).bind fun a M1 => match a with
 | .ref n => match M1[n]? with
  | some (.dct kvs) => .ok ⟨kvs.map fun q => keyV q.1, none⟩ (M1.set n (.fdct kvs))
  | _ => .bad
 | _ => .bad
theorem Znq {K : PySem.W.Frag} {H : Hp} {ι : List Addr} (k : ZbH) : Rep K H ι (keyV k) (kV (dk k)) := by
 cases k with
 | inl i => exact Rep.int
 | inr x => exact Rep.str
section
variable {X : Cx} {tg e elt : Expr} {ifs : List Expr} {pos : Pos} {f fe : E3} {ts : List E3} {g : G3} {scope : Scope} {N' : List Str} {own : Nat}
theorem Zn0 (h : C3 X e f) : CI X tg e (ZjI f) := by
 intro pins s σ H R I ⟨ι, M, env, S, E, hw⟩
 obtain ⟨d, M1, e1, hw⟩ := Zlt.bind hw
 refine thn (h pins s σ H (fun v H' => ∃ ι', Ext X.K H ι H' ι' ∧ ZaG X.K H' ι' M1 ∧ Rep X.K H' ι' d v) I ⟨ι, M, env, S, E, by rw [e1]; exact fun v H' ι' x S' r => ⟨ι', x, S', r⟩⟩) fun v s1 ⟨x, H1, I1, r1, ι1, x1, S1, rd⟩ => ?_
 cases d with
 | ref n =>
  cases hn : M1[n]? with
  | none => simp only [hn] at hw; exact hw.elim
  | some ob =>
   cases ob with
   | lst _ => simp only [hn] at hw; exact hw.elim
   | fdct _ => simp only [hn] at hw; exact hw.elim
   | dct kvs =>
    simp only [hn] at hw
    obtain ⟨a, ha, rfl⟩ := rd.ref_inv
    cases r1
    obtain ⟨ws, hws, kr⟩ := S1.obj n _ a hn ha
    obtain ⟨zl, hsys, vs, kv, o, es, ep, ho, hrest⟩ := Zpk I1.hok hws
    have hlt : a < s1.heap.objs.size := Heap.lt_size ho
    refine wpAny_pyIter_dict (kvs := vs) (ep := ep) hsys ⟨o, es, ho, hrest⟩ ?_
    have I2 : Inv X pins σ H1 { s1 with heap := s1.heap.push { cls := .type "dict_keyiterator", data := .fields #[.ref a, .int 0 0, .int vs.length 0, .int ep 0] } } := I1.kept (t' := s1.toks) fun b u q => Heap.get?_push_of_some _ q
    have I3 := I2.still hws (Heap.get?_push_of_some _ ho)
    have l0 : Loose H1 a := .inr (.inr ⟨ws, hws⟩)
    have x2 : Ext X.K H1 ι1 (upd H1 a (.frz o (.dK ws))) ι1 := l0.ext
    have S2 : ZaG X.K (upd H1 a (.frz o (.dK ws))) ι1 (M1.set n (.fdct kvs)) := S1.put l0 ha ⟨ws, ⟨o, Zct⟩, kr.mono x2⟩
    refine ⟨s1.heap.objs.size, [s1.heap.objs.size], _, Itd a o ws, _, rfl, I3, Zmw (vs := vs) (ep := ep) (Nat.ne_of_lt hlt) (fun h' hh => ⟨o, es, hh, hrest⟩) kv, ⟨_, Heap.get?_push_size _ rfl, rfl, rfl⟩, fun b hb => ?_, hw _ _ ι1 (x1.trans x2) S2 ?_⟩
    ·have eb : b = s1.heap.objs.size := by simpa using hb
     subst eb
     exact I1.fpOk (Nat.le_refl _) (by rw [ZaB (Nat.ne_of_gt hlt)]; exact I1.hok.fresh (Nat.le_refl _))
    ·intro i H2 ι2 M2 x S3 _
     have hz := x.frz a o _ Zct
     refine ⟨fun dd hd => ?_, fun hl => ⟨hz, by rw [hl, List.length_map, kr.length]⟩⟩
     rw [List.getElem?_map] at hd
     cases hq : kvs[i]? with
     | none => rw [hq] at hd; cases hd
     | some q =>
      rw [hq] at hd
      have hd' : keyV q.1 = dd := by simpa using hd
      subst hd'
      have hi : i < ws.length := by rw [kr.length]; exact (List.getElem?_eq_some_iff.mp hq).1
      refine ⟨⟨hz, hi⟩, fun y H3 hy => ⟨hy.1, ?_⟩⟩
      obtain ⟨_, w', hw', rfl⟩ := hy
      have ek : w'.1 = dk q.1 := by
       have := congrArg (fun l => l[i]?) kr.1
       simp only [List.getElem?_map, hw', hq, Option.map_some, Option.some.injEq] at this
       exact this
      rw [ek]
      exact Znq q.1
 | _ => exact hw.elim
end
end L3
namespace L3
open PySem PySem.Spec PyProof.Rows L2
section
variable {prog : Program} {w : World} {A : Around} {E : Value → Shared → Prop} {s : Shared}
theorem Zl8 : typeLookup (.type "tuple") (Str.ofString "keys") = pure none := by rw [typeLookup_type, builtinLookup_eq_fast]; kernel_rfl
set_option maxRecDepth 8000 in
theorem ZkD {a : Addr} {o : Obj} {xs : Array Value} {k : Nat} {Q : Option Value → Shared → Prop} (hx : s.heap.get? a = some o) (hc : o.cls = .type "tuple") (hdat : o.data = .seq xs k) (hd : o.dict = none) (hA : A.handled = none)
  (h : ∀ h' tk, (∀ b u, s.heap.get? b = some u → h'.get? b = some u) → Q none { s with heap := h', toks := tk }) : wpAny (model prog w) A (getAttr? (.ref a) (Str.ofString "keys")) Q E s := by
 obtain ⟨c, dct, dat, sl⟩ := o
 simp only at hc hdat hd
 subst hc hdat hd
 obtain ⟨hp, g, d, tk, os⟩ := s
 have hT : ∀ tk', (⟨hp, g, d, tk', os⟩ : Shared).TypeIs (.ref a) "tuple" := fun _ => ⟨_, hx, rfl⟩
 have f1 := sub_AttributeError; have f3 := F.slot_tuple_getattribute.lookup; have f4 := F.slot_tuple_getattribute.bind (.ref a); have f5 := am_tuple_getattr_none
 unfold getAttr? getAttrBy? getAttrBy
 repeat (any_goals (first | assumption | exact hT _ | ((with_reducible show wpAny _ _ (call (Value.builtin "tuple.__getattribute__") _ _) _ _ _); refine call_meets F.slot_tuple_getattribute (hT _) am_entry_tuple_getattribute (F.args_tuple_getattribute_2 _ _) (meets_getattribute_miss_tuple a xs k sl _ _ Zl8 (by decide) (by rw [sizeLine_eq]; decide)) ⟨hx, hA, fun h' tk' e hx' => ?_⟩) | wp_step))
 obtain ⟨t', u', he⟩ := hx'.there
 show wpAny _ _ (getattributeRaised _ _ _ _ _ _ _) _ _ _
 unfold getattributeRaised
 repeat (any_goals (first | assumption | wp_step))
 all_goals exact h _ _ hx'.of.keeps
theorem Zfx : entryFor table "dict.update.loop" = some Builtin.«dict.update.loop» := entryFor_of_tree (by kernel_rfl)
theorem Zdu : plainId "dict.update.loop" = true := by decide +kernel
def Zlf (prog : Program) (w : World) (h : Heap) (v : Value) (q : Key × Value) : Prop := ∃ a o key n, v = .ref a ∧ h.get? a = some o ∧ o.cls = .type "tuple" ∧ o.data = .seq #[key, q.2] n ∧ (Zbd prog w).is q.1 key = true
theorem ZmU {d I ax : Addr} {items : Array Value} {ps : List (Key × Value)} {res : Value} (hh : A.in1.handled = none) (hne : ax ≠ I) (hdI : d ≠ I) (hda : d ≠ ax) (hl : ps.length = items.size) (hz : ps.length ≤ 100000) :
  ∀ (k i : Nat) (s : Shared) (kvs : List (Key × Value)) {R : Result → Shared → Prop}, items.size - i = k → i ≤ items.size → s.heap.IsTupleIter I ax i → s.heap.IsTuple ax items → s.heap.DictOf (Zbd prog w) d kvs → kvs.length ≤ i →
   (∀ (j : Nat) v q, items[j]? = some v → ps[j]? = some q → Zlf prog w s.heap v q ∧ v ≠ .ref d ∧ v ≠ .ref I) →
   (∀ h' tk, h'.DictOf (Zbd prog w) d (merged kvs (ps.drop i)) → (∀ b o, b ≠ d → b ≠ I → s.heap.get? b = some o → h'.get? b = some o) → R (.ok (.ret res)) { s with heap := h', toks := tk }) →
   codeAny (model prog w) A (.builtin "dict.update.loop" ⟨[.ref d, .ref I, rawInt i, res], []⟩) R s := by
 have W := Walks.tuple (prog := prog) (w := w) hh I ax hne items
 intro k
 induction k with
 | zero =>
  intro i s kvs R hk hi st tup dd hkl hp hR
  have hin : i = items.size := by omega
  subst hin
  refine codeAny_builtin Zfx ?_
  rw [Around.under_plainId Zdu _]
  show wpAny _ A.in1 (pyNext (.ref I) >>= _) _ _ s
  refine wpAny_bind (W.done s _ _ ⟨st, tup⟩ fun h' tk kk => ?_)
  show wpAny _ A.in1 (Builtin.Dict.addKeywords d [] >>= _) _ _ _
  refine wpAny_bind (wpAny_pure (wpAny_pure (hR h' tk ?_ fun b o hb hI e => kk b o (by simpa using hI) e)))
  rw [List.drop_of_length_le (by omega)]
  obtain ⟨o, es, ep, ho, r⟩ := dd
  exact ⟨o, es, ep, kk d o (by simpa using hdI) ho, r⟩
 | succ k ih =>
  intro i s kvs R hk hi st tup dd hkl hp hR
  have hlt : i < items.size := by omega
  have hv : items[i]? = some items[i] := by simp [hlt]
  have hq : ps[i]? = some (ps[i]'(by omega)) := by simp [show i < ps.length by omega]
  refine codeAny_builtin Zfx ?_
  rw [Around.under_plainId Zdu _]
  show wpAny _ A.in1 (pyNext (.ref I) >>= _) _ _ s
  refine wpAny_bind (W.item i s _ _ hlt ⟨st, tup⟩ fun v h1 tk1 hP st1 kk1 => ?_)
  rw [hv] at hP
  cases hP
  obtain ⟨⟨a, o, key, n, ev, ho, hc, hd, hkey⟩, nd, nI⟩ := hp i _ _ hv hq
  have haI : a ≠ I := fun z => nI (by rw [ev, z])
  have had : a ≠ d := fun z => nd (by rw [ev, z])
  have ho1 : h1.get? a = some o := kk1 a o (by simpa using haI) ho
  have dd1 : h1.DictOf (Zbd prog w) d kvs := by
   obtain ⟨o', es, ep, ho', r⟩ := dd
   exact ⟨o', es, ep, kk1 d o' (by simpa using hdI) ho', r⟩
  rw [ev]
  generalize ps[i]'(by omega) = q at hq hkey hd
  dsimp only
  refine wpAny_bind (wpAny_holding (wpAny_bind (wpAny_tryCatch ?_)))
  unfold Builtin.Dict.pairItems
  refine wpAny_bind (wpAny_typeOf (T := "tuple") ⟨o, ho1, hc⟩ ?_)
  rw [if_pos (by decide)]
  refine wpAny_bind ?_
  unfold seqItems?
  refine wpAny_bind (wpAny_load ho1 ?_)
  rw [hd]
  refine wpAny_pure (wpAny_pure ?_)
  show wpAny _ A.in1 (holding [key, q.2] (dictSet d key q.2)) _ _ _
  refine wpAny_holding (wpAny_dictSet_pairs hkey dd1 (fun h2 dd2 sb => ?_) (by rw [sizeLine_eq]; omega))
  refine wpAny_pure ⟨plainId_quiet Zdu _, ?_⟩
  show codeAny (model prog w) A (.builtin "dict.update.loop" ⟨[.ref d, .ref I, rawInt ((i : Int) + 1), res], []⟩) R _
  have e1 : ((i : Int) + 1) = ((i + 1 : Nat) : Int) := by omega
  rw [e1]
  have k2 : ∀ b u, b ≠ d → b ≠ I → s.heap.get? b = some u → h2.get? b = some u := fun b u hb hI e => (sb.2 b hb).trans (kk1 b u (by simpa using hI) e)
  refine ih (i + 1) _ (stored kvs q.1 q.2) (by omega) hlt ?_ ?_ dd2 ?_ ?_ ?_
  ·obtain ⟨o', e', r⟩ := st1.1
   exact ⟨o', (sb.2 I (Ne.symm hdI)).trans e', r⟩
  ·obtain ⟨o', e', r⟩ := st1.2
   exact ⟨o', (sb.2 ax (Ne.symm hda)).trans e', r⟩
  ·have := (show (stored kvs q.1 q.2).length ≤ kvs.length + 1 from by unfold stored; split <;> simp)
   omega
  ·intro j v q' hj hq'
   obtain ⟨⟨a', o', key', n', ev', ho', r⟩, nd', nI'⟩ := hp j v q' hj hq'
   exact ⟨⟨a', o', key', n', ev', k2 a' o' (fun z => nd' (by rw [ev', z])) (fun z => nI' (by rw [ev', z])) ho', r⟩, nd', nI'⟩
  ·intro h' tk dd' kk'
   refine hR h' tk ?_ fun b u hb hI e => kk' b u hb hI (k2 b u hb hI e)
   have hq2 : ps.drop i = q :: ps.drop (i + 1) := by rw [List.drop_eq_getElem_cons (by omega)]; congr 1; rw [List.getElem?_eq_getElem (by omega)] at hq; exact Option.some.inj hq
   rw [hq2]
   exact dd'
theorem Zlx {ax : Addr} {items : Array Value} {ps : List (Key × Value)} {Q : Value → Shared → Prop} (hA : A.handled = none) (ht : Zeq s.heap ax items) (hl : ps.length = items.size) (hz : ps.length ≤ 100000)
  (hp : ∀ (j : Nat) v q, items[j]? = some v → ps[j]? = some q → Zlf prog w s.heap v q)
  (h : ∀ h' tk, h'.DictOf (Zbd prog w) s.heap.objs.size (merged [] ps) → (∀ b o, s.heap.get? b = some o → h'.get? b = some o) → Q (.ref s.heap.objs.size) { s with heap := h', toks := tk }) :
  wpAny (model prog w) A (call (.type "dict") [.ref ax]) Q E s := by
 obtain ⟨o, ho, ⟨hc, hdn⟩, n, hdat⟩ := id ht
 have hlt : ax < s.heap.objs.size := Heap.lt_size ho
 refine callType_codes (Q₁ := fun obj s₁ => obj = .ref s.heap.objs.size ∧ s₁ = { s with heap := s.heap.push { cls := .type "dict", data := .dict #[] } }) F.kt_called_dict (F.kt_typeCall_dict_1 _) F.entry_dict_init (kt_code_dict_new _ ⟨rfl, rfl⟩) ?_
 rintro obj s₁ ⟨rfl, rfl⟩
 have hnew : (s.heap.push { cls := .type "dict", data := .dict #[] }).DictOf (Zbd prog w) s.heap.objs.size [] := Heap.DictOf.new s.heap
 have hk1 : ∀ b u, s.heap.get? b = some u → (s.heap.push { cls := .type "dict", data := .dict #[] }).get? b = some u := fun b u q => Heap.get?_push_of_some _ q
 refine ⟨hnew.typeIs, F.args_dict_init_2 _ _, ?_⟩
 unfold Builtin.«dict.__init__»
 refine wpAny_bind ?_; unfold Builtin.Dict.selfAndRest
 refine wpAny_bind (wpAny_notOrdered_dict hnew.typeIs ?_); show wpAny _ _ (pure (s.heap.objs.size, [Value.ref ax])) _ _ _
 refine wpAny_pure ?_; show wpAny _ _ (Builtin.Dict.updateFrom "dict.__init__" s.heap.objs.size (.ref ax) [] .none) _ _ _
 unfold Builtin.Dict.updateFrom
 refine wpAny_bind (wpAny_typeOf (T := "tuple") ⟨o, hk1 _ _ ho, hc⟩ ?_)
 rw [if_pos (by decide)]
 refine wpAny_bind (ZkD (hk1 _ _ ho) hc hdat hdn hA fun h2 tk2 k2 => ?_)
 simp only [Option.isNone_none, if_true]
 refine wpAny_bind (wpAny_rule ?_)
 have d2 : h2.DictOf (Zbd prog w) s.heap.objs.size [] := by
  obtain ⟨o', es, ep, ho', r⟩ := hnew
  exact ⟨o', es, ep, k2 _ _ ho', r⟩
 have t2 : h2.IsTuple ax items := ⟨o, k2 _ _ (hk1 _ _ ho), hc, n, hdat⟩
 have l2 : s.heap.objs.size < h2.objs.size := by obtain ⟨o', _, _, ho', _⟩ := d2; exact Heap.lt_size ho'
 refine wpAny_bind (wpAny_pyIter_tuple t2 ?_)
 have k3 : ∀ b u, h2.get? b = some u → (h2.push { cls := .type "tuple_iterator", data := .fields #[.ref ax, .int 0 0] }).get? b = some u := fun b u q => Heap.get?_push_of_some _ q
 have t3 : (h2.push { cls := .type "tuple_iterator", data := .fields #[.ref ax, .int 0 0] }).IsTuple ax items := by obtain ⟨o', e', r⟩ := t2; exact ⟨o', k3 _ _ e', r⟩
 have d3 : (h2.push { cls := .type "tuple_iterator", data := .fields #[.ref ax, .int 0 0] }).DictOf (Zbd prog w) s.heap.objs.size [] := by obtain ⟨o', es, ep, ho', r⟩ := d2; exact ⟨o', es, ep, k3 _ _ ho', r⟩
 refine wpAny_pure ⟨plainId_quiet Zdu _, ZmU (prog := prog) (w := w) (A := A.in1) (ax := ax) (items := items) (ps := ps) hA (Nat.ne_of_lt (Nat.lt_trans hlt l2)) (Nat.ne_of_lt l2) (Nat.ne_of_gt hlt) hl hz items.size 0 _ [] (by omega) (Nat.zero_le _) ⟨_, Heap.get?_push_size _ rfl, rfl, rfl⟩ t3 d3 (Nat.zero_le _) (fun j v q hj hq => ?_) fun h' tk dd' kk' => ?_⟩
 ·obtain ⟨a, o', key, n', ev, ho', r⟩ := hp j v q hj hq
  have hla : a < s.heap.objs.size := Heap.lt_size ho'
  refine ⟨⟨a, o', key, n', ev, k3 _ _ (k2 _ _ (hk1 _ _ ho')), r⟩, fun z => ?_, fun z => ?_⟩
  ·rw [ev] at z; injection z with z; exact absurd hla (by rw [z]; exact Nat.lt_irrefl _)
  ·rw [ev] at z; injection z with z; exact absurd (Nat.lt_trans hla l2) (by rw [z]; exact Nat.lt_irrefl _)
 ·refine ⟨rfl, h h' tk dd' fun b u q => kk' b u (Nat.ne_of_lt (Heap.lt_size q)) (Nat.ne_of_lt (Nat.lt_trans (Heap.lt_size q) l2)) (k3 _ _ (k2 _ _ (hk1 _ _ q)))⟩
end
section
variable {X : Cx}
theorem pairs_at {pins : List (Addr × Obj)} {σ : St} {H : Hp} {s : Shared} {ι : List Addr} (I : Inv X pins σ H s) : ∀ {x : List D} {l : List (ZbH × D)} {vs : List V} {us : List Value}, ZdK x = some l → Zai X.K H ι x vs → Vals vs us →
  ∃ (ws : List (Key × V)) (ps : List (Key × Value)), KvR X.K H ι l ws ∧ KV ws ps ∧ ps.length = us.length ∧ ∀ (j : Nat) v q, us[j]? = some v → ps[j]? = some q → Zlf X.prog X.w s.heap v q
 | [], l, vs, us, h, r, v => by
  have e := r.nil_inv; subst e; cases v
  have : l = [] := by simpa [ZdK] using h.symm
  subst this
  exact ⟨[], [], KvR.nil, .nil, rfl, fun j v q h => by simp at h⟩
 | d :: x, l, vs, us, h, r, v => by
  obtain ⟨u, vs', rfl, r1, r2⟩ := r.cons_inv
  cases v with
  | @cons _ z _ us' rz rzs =>
  cases d with
  | tup ds =>
   match ds, h, r1 with
   | [a, b], h, r1 =>
    simp only [ZdK] at h
    cases hk : Zf7 a with
    | none => simp only [hk] at h; cases h
    | some kk =>
     simp only [hk] at h
     cases hx : ZdK x with
     | none => rw [hx] at h; cases h
     | some l' =>
      rw [hx] at h
      have : l = (kk, b) :: l' := by simpa using h.symm
      subst this
      obtain ⟨ws, ps, kr, kv, lp, hp⟩ := pairs_at I hx r2 rzs
      obtain ⟨ad, xs, rfl, sq, rr⟩ := r1.tup_inv
      cases (show z = Value.ref ad from rz)
      obtain ⟨ya, ys, rfl, ra, rr⟩ := rr.cons_inv
      obtain ⟨yb, ys, rfl, rb, rr⟩ := rr.cons_inv
      have e := rr.nil_inv; subst e
      obtain ⟨its, rv, ⟨o, ho, hc, n, hd⟩, _⟩ := I.tuple sq
      cases rv with
      | @cons _ u1 _ _ q1 rv =>
      cases rv with
      | @cons _ u2 _ _ q2 rv =>
      cases rv
      refine ⟨(dk kk, yb) :: ws, (dk kk, u2) :: ps, KvR.cons rb kr, .cons ⟨rfl, q2⟩ kv, by simp [lp], fun j v q hj hq => ?_⟩
      cases j with
      | zero =>
       simp at hj hq
       subst hj hq
       exact ⟨ad, o, u1, n, rfl, ho, hc, hd, Zke (by rw [← Zhx hk ra]; exact q1)⟩
      | succ j => exact hp j v q (by simpa using hj) (by simpa using hq)
   | [], h, _ => simp [ZdK] at h
   | [_], h, _ => simp [ZdK] at h
   | _ :: _ :: _ :: _, h, _ => simp [ZdK] at h
  | _ => simp [ZdK] at h
theorem ZpQ (hc : X.calm = true) : Zb2 X (.type "dict") (rB X.K Zhb) := by
 intro pins s σ H xs us Q I rs ⟨ι, M, ds, S, rd, h⟩
 cases ds with
 | nil => exact h.elim
 | cons d ds =>
  cases ds with
  | cons _ _ => cases d <;> exact h.elim
  | nil =>
   obtain ⟨x, rfl, r⟩ := Zfc rd
   obtain ⟨u, rfl, ru⟩ := vals1 rs
   cases d with
   | ref n =>
    cases hn : Zd1 M[n]? with
    | none => simp only [Zhb, hn] at h; exact h.elim
    | some kvs =>
     simp only [Zhb, hn] at h
     obtain ⟨a, ha, rfl⟩ := r.ref_inv
     cases ru
     obtain ⟨ws, hw, kr⟩ := ZjM S hn ha
     refine Zn5 I hw fun p s' hp I' => ⟨.ref p, _, I', rfl, ?_⟩
     obtain ⟨x2, S2, r2⟩ := S.dct hp kr
     exact h _ _ _ x2 S2 r2
   | tup z =>
    simp only [Zhb] at h
    cases hp : ZdK z with
    | none => rw [hp] at h; exact h.elim
    | some l =>
     rw [hp] at h
     dsimp only at h
     split at h
     ·rename_i hz
      obtain ⟨a, vs, rfl, sq, rr⟩ := r.tup_inv
      cases ru
      obtain ⟨its, rv, ht, _⟩ := I.tupleN sq
      obtain ⟨ws, ps, kr, kv, lp, hpp⟩ := pairs_at I hp rr rv
      have hl : ps.length = l.length := by rw [← kv.length, kr.length]
      refine Zlx (ps := ps) (I.ok.hd hc) ht (by simpa using lp) (by rw [hl]; exact hz) (fun j v q hj hq => hpp j v q (by simpa using hj) hq) fun h' tk dd kk => ⟨.ref s.heap.objs.size, upd H s.heap.objs.size (.dK (Zh7 [] ws)), ?_, rfl, ?_⟩
      ·have hm := kv.merge (kvs := []) (vs := []) .nil
       refine I.laid kk (Nat.le_refl _) (Zlk ?_ (beq_eq_false_iff_ne.mpr (Ne.symm (Nat.ne_of_lt I.big))) hm dd)
       have h1 := Zf3 ws []
       rw [List.length_nil] at h1
       rw [sizeLine_eq]
       have := kr.length
       omega
      ·obtain ⟨x2, S2, r2⟩ := S.dct (I.hok.fresh (Nat.le_refl _)) (KvR.merge (kvs := []) (ws := []) kr KvR.nil)
       exact h _ _ _ x2 S2 r2
     ·exact h.elim
   | _ => exact h.elim
end
end L3
namespace L3
open PySem PySem.Spec PyProof.Rows L2
end L3
namespace L3
open PySem PySem.Spec PyProof.Rows L2
section
variable {X : Cx} {o e : Expr} {es : List Expr} {apos cpos : Pos} {f : E3} {gl : EL3}
theorem Zai.dropLast {K : PySem.W.Frag} {H : Hp} {ι : List Addr} {ds : List D} {vs : List V} (r : Zai K H ι ds vs) : Zai K H ι ds.dropLast vs.dropLast := by
 rw [List.dropLast_eq_take, List.dropLast_eq_take, r.length]; exact r.take _
end
end L3
namespace L3
open PySem PySem.Spec PyProof.Rows L2
section
variable {X : Cx} {a b c e o : Expr} {es : List Expr} {pos p apos cpos : Pos} {f g h : E3} {gl : EL3}
end
end L3
namespace L3
open PySem PySem.Spec PyProof.Rows L2
section
variable {X : Cx} {a b c e o : Expr} {es : List Expr} {pos p apos cpos : Pos} {f g h : E3} {gl : EL3}
theorem Ziu : Zb2 X (.type "int") (fun xs H Q => ∃ x n, xs = [.str x] ∧ intText? x = some n ∧ x.length ≤ 640 ∧ Q (.int n) H) := by
 intro pins s σ H xs us Q I r h
 obtain ⟨x, n, rfl, hn, hz, q⟩ := h
 obtain ⟨u, rfl, t, rfl⟩ := vals1 r
 exact PySem.W.KIN.call_text hn hz ⟨.int n, H, I.tok _, ⟨_, rfl⟩, q⟩
theorem Znm : Zb2 X (.type "int") (rB X.K ZlQ) := Zb2.imp (Zb2.or Zrz Ziu) fun xs H Q ⟨ι, M, ds, S, rd, h⟩ => by
 match ds, rd, h with
 | [.str x], rd, h =>
  obtain ⟨v, rfl, r⟩ := Zfc rd
  simp only [ZlQ] at h
  cases hn : PySem.intText? ⟨x.toArray⟩ with
  | none => rw [hn] at h; exact h.elim
  | some n =>
   rw [hn] at h
   dsimp only at h
   split at h
   ·rename_i hz
    exact .inr ⟨_, n, by rw [r.str_inv], hn, by simpa [Str.length] using hz, ZaF.ok h S Rep.int⟩
   ·exact h.elim
 | [], rd, h => exact h.elim
 | [.int i], rd, h => exact .inl ⟨ι, M, _, S, rd, h⟩
 | [.bl i], rd, h => exact .inl ⟨ι, M, _, S, rd, h⟩
 | [.non], rd, h => exact h.elim
 | [.tup _], rd, h => exact h.elim
 | [.scr _], rd, h => exact h.elim
 | [.ref _], rd, h => exact h.elim
 | .str _ :: _ :: _, rd, h => exact h.elim
 | .int _ :: _ :: _, rd, h => exact h.elim
 | .bl _ :: _ :: _, rd, h => exact h.elim
 | .non :: _ :: _, rd, h => exact h.elim
 | .tup _ :: _ :: _, rd, h => exact h.elim
 | .scr _ :: _ :: _, rd, h => exact h.elim
 | .ref _ :: _ :: _, rd, h => exact h.elim
end
end L3
namespace L3
open PySem PySem.Spec PyProof.Rows L2
section
variable {X : Cx} {a b c e o : Expr} {es : List Expr} {pos p p1 p2 p3 pt apos cpos : Pos} {f g h : E3} {gl : EL3}
end
end L3
namespace L3
open PySem PySem.Spec PyProof.Rows L2
section
variable {X : Cx} {tg e : Expr} {pos : Pos} {f : E3} {g : G3}
theorem ZgX (he : C3 X e f) (hg : CG X tg g) (hs : swapsWithSole [tg] e pos.line X.env = pure false := by rfl) (hw : swappedStores [tg] e X.env = pure none := by rfl)
  (h1 : (assignEach [tg] X.env).map (·.2) = [assign tg X.env] := by rfl) : CS X (.Assign [tg] e pos) (ZeC f g) := (Zjy he hg hs hw h1).imp fun D σ H ⟨ι, M, env, S, E, h⟩ => by
 refine ⟨ι, M, env, S, E, ?_⟩
 unfold ZeC at h
 cases q : f env M with
 | ok d M1 =>
  rw [q] at h
  cases qg : g d env with
  | none => simp only [qg] at h; exact h.elim
  | some env1 =>
   simp only [qg] at h
   exact fun v H1 ι1 x1 S1 r1 => ⟨ι1, M1, env, d, env1, S1, E.mono x1, r1, qg, fun σ' E' => h σ' H1 ι1 x1 S1 E'⟩
 | exc x M1 => rw [q] at h; exact h.elim
 | bad => rw [q] at h; exact h.elim
end
section
variable {X : Cx} {tg e elt : Expr} {ifs : List Expr} {pos : Pos} {f fe : E3} {ts : List E3} {g : G3} {scope : Scope} {N' : List Str} {own : Nat}
theorem ZpS {pins : List (Addr × Obj)} {σ σ' : St} {H H' : Hp} {s s' : Shared} {ι ι' : List Addr} {M2 : Store} {n : Nat} {a : Addr} {ws0 : List (Key × V)} {kvs' : List (ZbH × D)} (I : Inv X pins σ H s) (ha : ι[n]? = some a) (hw0 : H a = some (.dK ws0)) (I' : Inv X pins σ' H' s')
  (xx : Ext X.K H ι H' ι') (S' : ZaG X.K H' ι' M2) (hm : M2[n]? = some (.fdct kvs')) :
  ∃ H2, Inv X pins σ' H2 s' ∧ Ext X.K H ι H2 ι' ∧ ZaG X.K H2 ι' (M2.set n (.dct kvs')) ∧ ∀ d v, Rep X.K H' ι' d v → Rep X.K H2 ι' d v := by
 have ha' := xx.pre _ _ ha
 obtain ⟨ws, ⟨o, hw⟩, kr⟩ := S'.obj n _ a hm ha'
 have I2 := I'.thaw hw fun o u z => by
  have := I.base.frzs a o u z
  rw [hw0] at this; cases this
 have nz : ∀ {b u}, H' b = some u → (∀ o v, u ≠ .frz o v) → upd H' a (.dK ws) b = some u := fun {b u} q nf => by
  rw [ZaB]; · exact q
  ·rintro rfl; rw [hw] at q; cases q; exact nf _ _ rfl
 have tp : ∀ b xs, SqT X.K H' b xs → SqT X.K (upd H' a (.dK ws)) b xs := fun b xs q => by
  rcases q with (q | ⟨o', q⟩) | q
  ·exact .inl (.inl (nz q fun _ _ z => nomatch z))
  ·refine .inl (.inr ⟨o', ?_⟩)
   rw [ZaB]; · exact q
   ·rintro rfl; rw [hw] at q; cases q
  ·exact .inr q
 have sc : ∀ b xs, SqF X.K H' b xs → SqF X.K (upd H' a (.dK ws)) b xs := fun b xs q => by
  rcases q with ⟨o', q⟩ | q
  ·refine .inl ⟨o', ?_⟩
   rw [ZaB]; · exact q
   ·rintro rfl; rw [hw] at q; cases q
  ·exact .inr q
 have mono : ∀ {d' : D} {u : V}, Rep X.K H' ι' d' u → Rep X.K (upd H' a (.dK ws)) ι' d' u := fun {d' u} r => Rep.keep tp sc r
 have monoL : ∀ {ds : List D} {us : List V}, Zai X.K H' ι' ds us → Zai X.K (upd H' a (.dK ws)) ι' ds us := fun {ds us} r => Zai.keep tp sc r
 have S2 : ZaG X.K (upd H' a (.dK ws)) ι' (M2.set n (.dct kvs')) := by
  refine ⟨by simp [S'.len], S'.nd, fun k m b h1 h2 => ?_⟩
  by_cases hk : k = n
  ·subst hk
   rw [ha'] at h2; cases h2
   rw [List.getElem?_set_self (List.getElem?_eq_some_iff.mp hm).1] at h1
   cases h1
   exact ⟨ws, Zct, kr.1, monoL kr.2⟩
  ·rw [List.getElem?_set_ne (Ne.symm hk)] at h1
   have hb' : b ≠ a := by
    rintro rfl
    have q1 := List.getElem?_eq_some_iff.mp h2
    have q2 := List.getElem?_eq_some_iff.mp ha'
    exact hk ((List.getElem_inj S'.nd).mp (q1.2.trans q2.2.symm))
   have := S'.obj k m b h1 h2
   cases m with
   | lst xs => obtain ⟨vs, q, r⟩ := this; exact ⟨vs, by rw [ZaB hb']; exact q, monoL r⟩
   | dct xs => obtain ⟨vs, q, r⟩ := this; exact ⟨vs, by rw [ZaB hb']; exact q, r.1, monoL r.2⟩
   | fdct xs => obtain ⟨vs, ⟨o', q⟩, r⟩ := this; exact ⟨vs, ⟨o', by rw [ZaB hb']; exact q⟩, r.1, monoL r.2⟩
 refine ⟨_, I2, ⟨fun b xs q => tp b xs (xx.tup b xs q), fun b xs q => sc b xs (xx.scr b xs q), xx.pre, fun b o' u q => ?_⟩, S2, fun d v r => mono r⟩
 have hb' : b ≠ a := by rintro rfl; rw [hw0] at q; cases q
 rw [ZaB hb']
 exact xx.frz b o' u q
theorem ZmL {x y : Str} {pos' pos2 spos : Pos} (j i : Nat) (O : ZhP X scope N' own) (hxe : X.xe = fun _ _ => False) (hc : X.calm = true) (hN : X.N.Nodup) (hi : C3 X (.Name x pos2) (Za i))
  (hb : ∀ C cl s H ex, CG (Zcr X scope N' C cl s H ex) tg g ∧ CTs (Zcr X scope N' C cl s H ex) ifs ts ∧ C3 (Zcr X scope N' C cl s H ex) elt fe)
  (hj : X.N[j]? = some y := by rfl) (hx : Loc X.env.scope y := by first | exact Or.inl rfl | exact Or.inr rfl)
  (hf : X.fn y = true ∨ X.env.scope.names.lookup y = some .local := by first | exact .inl rfl | exact .inr rfl)
  (hsw : swapsWith (.ListComp elt [⟨tg, .Name x pos2, ifs, 0⟩] scope pos) (some (.Name y pos')) spos.line X.env = pure true := by rfl)
  (hs : ∀ z, foldedSetIterable (.Name x pos2) X.env z = pure z := by intro _; rfl) : CS X (.Assign [.Name y pos'] (.ListComp elt [⟨tg, .Name x pos2, ifs, 0⟩] scope pos) spos) (Zac j (Zlw (Za i) own g ts fe)) := by
 intro pins s σ H D I ⟨ι, M, env, S, E, h⟩
 unfold Zac at h
 cases q : Zlw (Za i) own g ts fe env M with
 | exc _ _ => rw [q] at h; exact h.elim
 | bad => rw [q] at h; exact h.elim
 | ok v M3 =>
  rw [q] at h
  unfold Zlw at q
  cases e1 : Za i env M with
  | exc _ _ => rw [e1] at q; cases q
  | bad => rw [e1] at q; cases q
  | ok d M1 =>
   have eM : M1 = M := by
    simp only [Za] at e1
    split at e1
    ·cases e1; rfl
    ·cases e1
   subst eM
   rw [e1] at q
   cases d with
   | ref n =>
    simp only [R3.bind] at q
    cases hn : M1[n]? with
    | none => simp only [hn] at q; cases q
    | some ob =>
     cases ob with
     | lst _ => simp only [hn] at q; cases q
     | fdct _ => simp only [hn] at q; cases q
     | dct kvs =>
      simp only [hn] at q
      cases e2 : ZdF ⟨kvs.map fun q => keyV q.1, none⟩ g ts fe M1.length (kvs.map fun q => keyV q.1) (env ++ List.replicate own none) (M1.set n (.fdct kvs) ++ [.lst []]) with
      | exc _ _ => rw [e2] at q; cases q
      | bad => rw [e2] at q; cases q
      | ok v' M2 =>
       rw [e2] at q
       simp only at q
       cases hm : M2[n]? with
       | none => simp only [hm] at q; cases q
       | some ob2 =>
        cases ob2 with
        | lst _ => simp only [hm] at q; cases q
        | dct _ => simp only [hm] at q; cases q
        | fdct kvs' =>
         simp only [hm] at q
         cases q
         obtain ⟨a, ha, ws0, hw0, _⟩ : ∃ a, ι[n]? = some a ∧ ZfT X.K H ι (.dct kvs) a := S.at hn
         have eL : eLC (ZjI (Za i)) own g ts fe env M1 = .ok v M2 := by
          unfold eLC ZjI
          rw [e1]
          simp only [R3.bind, hn]
          rw [List.length_set]
          exact e2
         refine thn (Zew j (i := ZjI (Za i)) O hxe hc hN (Zn0 hi) hb hj hx hf hsw hs pins s σ H { nx := fun σ' H' => ∃ ι', Ext X.K H ι H' ι' ∧ ZaG X.K H' ι' M2 ∧ Zcp X.K H' ι' (env.set j (some v)) σ', rt := fun _ _ => False } I
          ⟨ι, M1, env, S, E, by unfold Zac; rw [eL]; exact fun σ' H' ι' x S' E' => ⟨ι', x, S', E'⟩⟩) fun fl s' hq => ?_
         cases fl with
         | next =>
          obtain ⟨σ', H', I', ι', xx, S', E'⟩ := hq
          obtain ⟨H2, I2, x2, S2, mono⟩ := ZpS I ha hw0 I' xx S' hm
          exact ⟨σ', H2, I2, h σ' H2 ι' x2 S2 ⟨E'.1, fun i d hd => let ⟨v, e, r⟩ := E'.2 i d hd; ⟨v, e, mono _ _ r⟩⟩⟩
         | brk => obtain ⟨_, _, _, z⟩ := hq; exact z.elim
         | cont => obtain ⟨_, _, _, z⟩ := hq; exact z.elim
         | ret _ => obtain ⟨_, _, _, _, _, z⟩ := hq; exact z.elim
   | _ => simp only [R3.bind] at q; cases q
end
def ZqN (K : PySem.W.Frag) (H : Hp) (ι : List Addr) (it : ItL) (J : It) : Prop := ∀ (i : Nat) H2 ι2 M2, Ext K H ι H2 ι2 → ZaG K H2 ι2 M2 → ZdU it.lk M2 = true →
 (∀ d, it.items[i]? = some d → J.go i H2 ∧ ∀ x H3, J.yld i H2 x H3 → Ext K H2 ι2 H3 ι2 ∧ ZaG K H3 ι2 M2 ∧ Rep K H3 ι2 d x) ∧ (i = it.items.length → J.stop i H2)
def ZkK (K : PySem.W.Frag) (H : Hp) (ι : List Addr) (R : It → Hp → Prop) (r : R3 ItL) : Prop := match r with
 | .ok it M' => ∀ J H' ι', Ext K H ι H' ι' → ZaG K H' ι' M' → ZqN K H' ι' it J → R J H'
 | _ => False
def tIL (K : PySem.W.Frag) (g : IL3) : TI := fun σ H R => ∃ ι M env, ZaG K H ι M ∧ Zcp K H ι env σ ∧ ZkK K H ι R (g env M)
def CIL (X : Cx) (tg e : Expr) (g : IL3) : Prop := PI X tg e (tIL X.K g)
theorem ZkK.bind {K : PySem.W.Frag} {H : Hp} {ι : List Addr} {α : Type} {Q : It → Hp → Prop} {r : R3 α} {k : α → Store → R3 ItL} (h : ZkK K H ι Q (r.bind k)) : ∃ a M, r = .ok a M ∧ ZkK K H ι Q (k a M) := by
 cases r with
 | ok a M => exact ⟨a, M, rfl, h⟩
 | exc x M => exact h.elim
 | bad => exact h.elim
section
variable {X : Cx} {tg : Expr} {pos : Pos}
theorem Zl0 {iter : Expr} {body : List Stmt} {i : IL3} {g : G3} {u : S3} (hxe : X.xe = fun _ _ => False) (hc : X.calm = true) (hi : CIL X tg iter i) (hg : CG X tg g) (hb : CSs X body u) (hs : ∀ x, foldedSetIterable iter X.env x = pure x := by intro _; rfl) :
  CS X (.For tg iter body [] pos) (Zg8 i g u) := (ZnS (by rw [hxe]; exact PassesOwn.never) hc hi hg hb hs).imp fun D σ H ⟨ι, M, env, S, E, h⟩ => by
 unfold Zg8 at h
 cases q : i env M with
 | exc x M1 => rw [q] at h; exact h.elim
 | bad => rw [q] at h; exact h.elim
 | ok it M1 =>
  rw [q] at h
  refine ⟨ι, M, env, S, E, ?_⟩
  rw [q]
  intro J H1 ι1 x1 S1 ok
  refine ⟨fun i m σ2 H2 => m = it.items.length - i ∧ i ≤ it.items.length ∧ ∃ ι2 M2 env2, Ext X.K H1 ι1 H2 ι2 ∧ ZaG X.K H2 ι2 M2 ∧ Zcp X.K H2 ι2 env2 σ2 ∧ ZfR X.K H2 ι2 D (ZeU it.lk g u (it.items.drop i) env2 M2),
   ⟨_, rfl, Nat.zero_le _, ι1, M1, env, Ext.refl, S1, E.mono x1, ZfR.up x1 h⟩, ?_⟩
  rintro i m σ2 H2 ⟨rfl, hi, ι2, M2, env2, x2, S2, E2, h2⟩
  by_cases hlt : i < it.items.length
  ·have hd : it.items[i]? = some it.items[i] := by simp [hlt]
   rw [List.drop_eq_getElem_cons hlt] at h2
   unfold ZeU at h2
   by_cases lk : ZdU it.lk M2 = true
   ·rw [if_pos lk] at h2
    obtain ⟨go, yl⟩ := (ok i H2 ι2 M2 x2 S2 lk).1 _ hd
    cases eg : g it.items[i] env2 with
    | none => rw [eg] at h2; exact h2.elim
    | some env3 =>
     rw [eg] at h2
     refine .inr ⟨go, fun σ' H' => ∃ ι3 M3 env4, Ext X.K H2 ι2 H' ι3 ∧ ZaG X.K H' ι3 M3 ∧ Zcp X.K H' ι3 env4 σ' ∧ ZfR X.K H' ι3 D (ZeU it.lk g u (it.items.drop (i + 1)) env4 M3),
      fun σ' H' ⟨ι3, M3, env4, x3, S3, E3, h3⟩ => ⟨it.items.length - (i + 1), by omega, rfl, hlt, ι3, M3, env4, x2.trans x3, S3, E3, h3⟩, fun x H' hy => ?_⟩
     obtain ⟨x7, S7, rx⟩ := yl x H' hy
     refine ⟨ι2, M2, env2, _, env3, S7, E2.mono x7, rx, eg, fun σ' E' => ⟨ι2, M2, env3, S7, E', ?_⟩⟩
     have h2' := ZfR.up x7 h2
     cases qu : u env3 M2 with
     | nx e' M' => simp only [qu] at h2'; exact fun σ' H' ι' x' S' E' => ⟨ι', M', e', x7.trans x', S', E', h2'.up x'⟩
     | ct e' M' => simp only [qu] at h2'; exact fun σ' H' ι' x' S' E' => ⟨ι', M', e', x7.trans x', S', E', h2'.up x'⟩
     | bk e' M' => simp only [qu] at h2'; exact h2'
     | rt d M' => simp only [qu] at h2'; exact h2'
     | exc x' M' => simp only [qu] at h2'; exact h2'.elim
     | bad => simp only [qu] at h2'; exact h2'.elim
   ·rw [if_neg lk] at h2; exact h2.elim
  ·have e0 : i = it.items.length := by omega
   subst e0
   rw [List.drop_length] at h2
   unfold ZeU at h2
   by_cases lk : ZdU it.lk M2 = true
   ·rw [if_pos lk] at h2
    exact .inl ⟨(ok _ H2 ι2 M2 x2 S2 lk).2 rfl, h2 σ2 H2 ι2 Ext.refl S2 E2⟩
   ·rw [if_neg lk] at h2; exact h2.elim
end
theorem _root_.L2.Inv.turnedL {X : Cx} {pins : List (Addr × Obj)} {σ : St} {H : Hp} {s : Shared} {h' : Heap} {t' : Nat} {fp : List Addr} (I : Inv X pins σ H s) (k : ∀ b o, b ∉ fp → s.heap.get? b = some o → h'.get? b = some o) (hf : ∀ b ∈ fp, Zgq X pins H b) :
  Inv X pins σ H { s with heap := h', toks := t' } := by
 have nit : ∀ b u, H b = some u → b ∉ fp := fun b u e z => by rw [(hf b z).1] at e; cases e
 refine I.step (g' := s.gens) (d' := s.drawn) (ch := fp) (fun b hb => ⟨(hf b hb).2.2.2.1, (hf b hb).2.1, (hf b hb).2.2.2.2.1, (hf b hb).2.2.2.2.2⟩) (fun b o _ _ hc e _ => k b o hc e) (fun b o _ _ hc e _ => ⟨o.slots, k b o hc e⟩) (fun _ _ _ _ n => n)
  (fun b o hc e => ⟨o, k b o hc e⟩) (fun _ _ e => e) (fun _ _ _ e => e) (fun b ps e => ⟨#[], by rw [e]; simp⟩) (fun m hm => ?_) (fun b u e => ?_) I.bare
 ·obtain ⟨o, es, ep, ho, r⟩ := hm
  exact ⟨o, es, ep, k _ o (fun z => (hf _ z).2.1 rfl) ho, r⟩
 ·refine (I.hok b u e).stay (fun c v hc q => k c v ?_ q) (fun _ q => q) fun _ _ q => q
  rcases hc with z | z
  ·rw [z]; exact nit b u e
  ·exact nit c _ z
def Ite (S : Hp → List V → Prop) : It := ⟨fun i H => ∃ xs x, S H xs ∧ xs[i]? = some x, fun i H x H' => ∃ T y, x = .ref T ∧ H T = none ∧ H' = upd H T (.tup [.int i, y]) ∧ ∀ xs, S H xs → xs[i]? = some y, fun i H => ∃ xs, S H xs ∧ xs.length ≤ i⟩
theorem ZiR {X : Cx} {pins : List (Addr × Obj)} {σ : St} {H : Hp} {s : Shared} {h' h'' : Heap} {e it : Addr} {i : Nat} {x : V} {u : Value} {tk tk' : Nat} (I : Inv X pins σ H s) (hf : ∀ b ∈ [e, it], Zgq X pins H b) (he : e < s.heap.objs.size) (hi : it < s.heap.objs.size) (ru : RelV x u)
  (hT : h'.get? s.heap.objs.size = some { cls := .type "tuple", data := .seq #[.int i tk, u] }) (hk : ∀ b o, b ≠ e → b ≠ it → s.heap.get? b = some o → h'.get? b = some o) (hs : Heap.SameBut e h' h'') :
  Inv X pins σ (upd H s.heap.objs.size (.tup [.int i, x])) { s with heap := h'', toks := tk' } ∧ ∀ b ∈ [e, it], upd H s.heap.objs.size (.tup [.int i, x]) b = none := by
 have hn : ∀ b ∈ [e, it], upd H s.heap.objs.size (.tup [.int i, x]) b = none := fun b hb => by
  have : b ≠ s.heap.objs.size := by
   simp only [List.mem_cons, List.not_mem_nil, or_false] at hb
   rcases hb with rfl | rfl
   ·exact Nat.ne_of_lt he
   ·exact Nat.ne_of_lt hi
  rw [ZaB this]; exact (hf b hb).1
 refine ⟨?_, hn⟩
 have I1 : Inv X pins σ (upd H s.heap.objs.size (.tup [.int i, x])) { s with heap := s.heap.push { cls := .type "tuple", data := .seq ([.int i tk, u] : List Value).toArray }, toks := s.toks } :=
  I.laid (t' := s.toks) (fun b o e => Heap.get?_push_of_some _ e) (Nat.le_refl _) (show ZbG X.prog X.w _ _ _ (.tup [.int i, x]) from ⟨by rw [sizeLine_eq]; show 2 ≤ _; decide, [.int i tk, u], .cons ⟨tk, rfl⟩ (.cons ru .nil), Zeq.new _ _⟩)
 have I3 := I1.turnedL (t' := tk') (h' := h'') (fp := [e, it]) (fun b o hb q => by
  have hbe : b ≠ e := fun z => hb (by simp [z])
  have hbi : b ≠ it := fun z => hb (by simp [z])
  rcases Heap.get?_push_cases q with ⟨rfl, rfl⟩ | q
  ·exact (hs.2 _ (Nat.ne_of_gt he)).trans hT
  ·exact (hs.2 _ hbe).trans (hk b o hbe hbi q)) fun b hb => ⟨hn b hb, (hf b hb).2⟩
 exact I3
theorem Zlz {P : Program} {w : World} {K : PySem.W.Frag} {es : List Expr} {k : Nat} {pos : Pos} (a e it : Addr) (hne : e ≠ it) :
  Turn P w K (.Tuple es k pos) (Ite fun H xs => SqL K H a xs) [e, it] e (fun i h => (∃ old, IsEnum h e it i old) ∧ h.IsListIter it a i) where
 mem := by simp
 obj := fun i h st b hb => by
  obtain ⟨⟨old, he⟩, o, ho, c, d⟩ := st
  simp only [List.mem_cons, List.not_mem_nil, or_false] at hb
  rcases hb with rfl | rfl
  ·exact ⟨_, he, fun v z => by cases z⟩
  ·exact ⟨o, ho, fun v z => by rw [d] at z; cases z⟩
 keep := fun i h h' st k => by
  obtain ⟨⟨old, he⟩, hit⟩ := st
  exact ⟨⟨old, k e (by simp) _ he⟩, hit.at fun o q => k it (by simp) o q⟩
 item := by
  intro X hP hw hK hc i pins s σ H E I hf st hg
  subst hP hw hK
  obtain ⟨xs, x, hq, hx⟩ := hg
  obtain ⟨its, rv, p, hz⟩ := I.list hq
  obtain ⟨u, hu, ru⟩ := rv.get hx
  obtain ⟨⟨old, he⟩, hit⟩ := st
  have hel := Heap.lt_size he
  have hil : it < s.heap.objs.size := by obtain ⟨o, ho, _⟩ := id hit; exact Heap.lt_size ho
  refine wpAny_pyNext_enum_item he hit p.isList (x := u) (by simpa using hu) hne fun h' ho hit' hT hsz hk => ?_
  refine ⟨_, rfl, wpAny_letOwnedTupleGo_enum (s := { s with heap := h', toks := s.toks + 1 }) ho fun h'' he'' hs'' => ?_⟩
  obtain ⟨I2, n2⟩ := ZiR (x := x) (tk' := s.toks + 1) I hf hel hil ru hT hk hs''
  exact ⟨.ref s.heap.objs.size, _, I2, rfl, ⟨_, x, rfl, I.hok.fresh (Nat.le_refl _), rfl, fun ys hy => by rw [I.list_inj hy hq]; exact hx⟩, ⟨⟨_, by simpa using he''⟩, hit'.extBut hs''.extBut (Ne.symm hne)⟩, n2⟩
 done := by
  intro X hP hw hK hc i pins s σ H E I hf st hg
  subst hP hw hK
  obtain ⟨xs, hq, hx⟩ := hg
  obtain ⟨its, rv, p, hz⟩ := I.list hq
  obtain ⟨⟨old, he⟩, hit⟩ := st
  have hl := rv.length
  exact wpAny_pyNext_enum_end (I.ok.hd hc) he hit p.isList (by simp; omega) fun h' eb => ⟨rfl, I.turnedL (t' := s.toks) (fun b o hb q => eb b o (fun z => hb (by simp [z])) q) hf⟩
 self := fun _ _ _ _ _ st h => by
  obtain ⟨⟨old, he⟩, _⟩ := st
  exact wpAny_pyIter_enum he h
theorem boot_enumerate : bootBuiltins "enumerate" = some (.type "enumerate") := by decide +kernel
end L3
namespace L3
open PySem PySem.Spec PyProof.Rows L2
open AutoSeq1 (wpAny_loadPart')
set_option maxRecDepth 100000
section
variable {prog : Program} {w : World} {A : Around} {E : Value → Shared → Prop} {s : Shared}
theorem ZgB {it t : Addr} {i : Nat} {items : Array Value} {x : Value} {Q : Value → Shared → Prop} (hit : s.heap.IsTupleIter it t i) (ht : s.heap.IsTuple t items) (hx : items[i]? = some x)
  (hQ : ∀ h', h'.IsTupleIter it t (i + 1) → Heap.SameBut it s.heap h' → Q x { s with heap := h' }) : wpAny (model prog w) A (Builtin.SmallTypes.nextOf (.ref it)) Q E s := by
 obtain ⟨o, ho, hc, hd⟩ := id hit
 obtain ⟨ol, hol, _, nl, hdl⟩ := ht
 unfold Builtin.SmallTypes.nextOf
 refine wpAny_bind (wpAny_callSpecial?_slot (name := Str.ofString "__next__") hit.typeIs slot_tupleiter_next
  (wpAny_call_entry slot_tupleiter_next hit.typeIs entry_tupleiter_next ?_ (args_tupleiter_next _)))
 show wpAny _ _ (field (.ref it) 0 >>= _) _ _ s
 refine wpAny_bind (wpAny_field ho hd (x := .ref t) rfl ?_)
 show wpAny _ _ (if (Value.ref t == Value.none) = true then _ else _) _ _ s
 rw [if_neg (show ¬ ((Value.ref t == Value.none) = true) from Bool.false_ne_true)]
 show wpAny _ _ (field (.ref it) 1 >>= _) _ _ s
 refine wpAny_bind (wpAny_field ho hd (x := .int i 0) rfl ?_)
 show wpAny _ _ (seqItems? (.ref t) >>= _) _ _ s
 refine wpAny_bind (wpAny_seqItems hol hdl ?_)
 simp only [Int.toNat_natCast, hx]
 refine wpAny_bind (wpAny_setField ho hd (by simp) (wpAny_pure ⟨x, rfl, wpAny_pure (hQ _ ?_ (Heap.SameBut.update ..))⟩))
 exact ⟨_, Heap.get?_update_self _ ho (Obj.isFreed_of_fields (Obj.data_mapFields hd _)), (Obj.cls_mapFields ..).trans hc, by
  rw [Obj.data_mapFields hd]; simp [rawInt]⟩
theorem ZeN {it t : Addr} {i : Nat} {items : Array Value} {Q : Value → Shared → Prop} (hh : A.handled = none) (hit : s.heap.IsTupleIter it t i) (ht : s.heap.IsTuple t items) (hx : items[i]? = none)
  (hE : ∀ h' e, Heap.ExtBut it s.heap h' → (∃ o, h'.get? e = some o ∧ o.cls = .type "StopIteration") → E (.ref e) { s with heap := h' }) : wpAny (model prog w) A (Builtin.SmallTypes.nextOf (.ref it)) Q E s := by
 obtain ⟨o, ho, hc, hd⟩ := id hit
 obtain ⟨ol, hol, _, nl, hdl⟩ := ht
 unfold Builtin.SmallTypes.nextOf
 refine wpAny_bind (wpAny_callSpecial?_slot (name := Str.ofString "__next__") hit.typeIs slot_tupleiter_next
  (wpAny_call_entry slot_tupleiter_next hit.typeIs entry_tupleiter_next ?_ (args_tupleiter_next _)))
 show wpAny _ _ (field (.ref it) 0 >>= _) _ _ s
 refine wpAny_bind (wpAny_field ho hd (x := .ref t) rfl ?_)
 show wpAny _ _ (if (Value.ref t == Value.none) = true then _ else _) _ _ s
 rw [if_neg (show ¬ ((Value.ref t == Value.none) = true) from Bool.false_ne_true)]
 show wpAny _ _ (field (.ref it) 1 >>= _) _ _ s
 refine wpAny_bind (wpAny_field ho hd (x := .int i 0) rfl ?_)
 show wpAny _ _ (seqItems? (.ref t) >>= _) _ _ s
 refine wpAny_bind (wpAny_seqItems hol hdl ?_)
 simp only [Int.toNat_natCast, hx]
 refine wpAny_bind (wpAny_rule (wpAny_bind (wpAny_setField ho hd (by simp) ?_)))
 show wpAny _ _ (newExc (.type "StopIteration") [] >>= _) _ _ _
 refine wpAny_bind ?_
 simp only [newExc, newTuple]
 refine wpAny_bind (wpAny_newObj_type ?_ (by size_fits))
 refine wpAny_bind (m := firstArgMember _ _) (wpAny_of_eq (a := Value.none) (by first | rfl | (simp only [firstArgMember]; rfl)) ?_)
 refine wpAny_newObj_type ?_ (by size_fits)
 simp only [raiseNew]
 refine wpAny_bind (wpAny_handled ?_)
 first | rw [show A.in1.handled = none from hh] | rw [hh]
 refine wpAny_bind (wpAny_pure (wpAny_throw ?_))
 exact hE _ _ (((Heap.SameBut.update ..).extBut.push _).push _) ⟨_, Heap.get?_push_size _ rfl, rfl⟩
end
theorem Zka {prog : Program} {w : World} {A : Around} (hh : A.handled = none) (it l : Addr) (hne : l ≠ it) (items : Array Value) :
  Draws prog w A it [it, l] items.size (fun i v => items[i]? = some v) (fun i h => h.IsTupleIter it l i ∧ h.IsTuple l items) where
 live := fun _ _ st => let ⟨o, ho, _⟩ := st.1; ⟨o, ho⟩
 frame := fun _ _ _ st hk => ⟨st.1.at fun o e => hk it (by simp) o e, st.2.at fun o e => hk l (by simp) o e⟩
 item := fun i s Q E hi st hQ => by
  refine ZgB st.1 st.2 (x := items[i]) (by simp [hi]) fun h' hit' hs' => ?_
  exact hQ _ h' s.toks (by simp [hi]) ⟨hit', st.2.extBut hs'.extBut hne⟩ hs'
 done := fun s Q E st hE => ZeN hh st.1 st.2 (by simp) hE
theorem Zfv (l : Addr) (items : Array Value) (n : Nat) (dct : Option Addr) (sl : Array (Option Value)) :
  Meets (Builtin.«enumerate.__new__» ⟨[.type "enumerate", .ref l], []⟩) (fun _ R s => s.heap.get? l = some { cls := .type "tuple", dict := dct, data := .seq items n, slots := sl } ∧
   R (.ok (.ret (.ref (s.heap.push { cls := .type "tuple_iterator", data := .fields #[.ref l, .int 0 0] }).objs.size)))
    { s with heap := (s.heap.push { cls := .type "tuple_iterator", data := .fields #[.ref l, .int 0 0] }).push { cls := .type "enumerate", data := .fields #[.none, .bool false, .ref s.heap.objs.size, rawInt 0, .none, .none] } }) :=
 .of_wp fun prog w A R s h => by
  obtain ⟨hp, g, d, tk, os⟩ := s; obtain ⟨hl, h⟩ := h
  have hsub := sub_enumerate
  have hL : Heap.IsTuple (Shared.heap ⟨hp, g, d, tk, os⟩) l items := ⟨_, hl, rfl, n, rfl⟩
  wp_walk using wpAny_loadPart' hl
  refine wpAny_stack_any fun st => wpAny_pure ?_
  split
  ·rename_i c _ _ _ _ _
   cases (c == Value.type "enumerate")
   ·wp_walk using wpAny_loadPart' hl, wpAny_pyIter_tuple hL
    exact ⟨_, rfl, h⟩
   ·wp_walk using wpAny_loadPart' hl, wpAny_pyIter_tuple hL
    exact ⟨_, rfl, h⟩
  ·wp_walk using wpAny_loadPart' hl, wpAny_pyIter_tuple hL
   exact ⟨_, rfl, h⟩
theorem Zfw {prog : Program} {w : World} {A : Around} {E : Value → Shared → Prop} {s : Shared} {l : Addr} {items : Array Value} {Q : Value → Shared → Prop} (hL : s.heap.IsTuple l items)
  (h : ∀ h', IsEnum h' (s.heap.objs.size + 1) s.heap.objs.size 0 .none → h'.IsTupleIter s.heap.objs.size l 0 → h'.objs.size = s.heap.objs.size + 2 →
   (∀ b o, s.heap.get? b = some o → h'.get? b = some o) → Q (.ref (s.heap.objs.size + 1)) { s with heap := h' }) :
  wpAny (model prog w) A (call (.type "enumerate") [.ref l]) Q E s := by
 obtain ⟨⟨c, dct, dt, sl⟩, hl, hc, n, hd⟩ := hL
 replace hc : c = .type "tuple" := hc
 replace hd : dt = .seq items n := hd
 subst hc hd
 refine callType_new F.called_enumerate (by decide) (F.typeCall_enumerate_1 _) (F.newCall_enumerate_1 _) (fun obj => F.args_object_init_2 obj _) F.entry_enumerate_new
  (Zfv l items n dct sl) ⟨hl, ?_⟩
 have hz : (s.heap.push { cls := .type "tuple_iterator", data := .fields #[.ref l, .int 0 0] }).objs.size = s.heap.objs.size + 1 := Heap.size_push ..
 show _ ∧ _
 rw [hz]
 have he : IsEnum ((s.heap.push { cls := .type "tuple_iterator", data := .fields #[.ref l, .int 0 0] }).push
   { cls := .type "enumerate", data := .fields #[.none, .bool false, .ref s.heap.objs.size, rawInt 0, .none, .none] }) (s.heap.objs.size + 1) s.heap.objs.size 0 .none := by
  have := Heap.get?_push_size (s.heap.push { cls := .type "tuple_iterator", data := .fields #[.ref l, .int 0 0] })
   (o := { cls := .type "enumerate", data := .fields #[.none, .bool false, .ref s.heap.objs.size, rawInt 0, .none, .none] }) rfl
  rw [hz] at this; exact this
 refine ⟨⟨_, he, rfl⟩, h _ he ⟨_, Heap.get?_push_of_some _ (Heap.get?_push_size _ rfl), rfl, rfl⟩ (by rw [Heap.size_push, hz]) fun b o x => Heap.get?_push_of_some _ (Heap.get?_push_of_some _ x)⟩
theorem Zk4 {P : Program} {w : World} {K : PySem.W.Frag} {es : List Expr} {k : Nat} {pos : Pos} (a e it : Addr) (hne : e ≠ it) :
  Turn P w K (.Tuple es k pos) (Ite fun H xs => SqT K H a xs) [e, it] e (fun i h => (∃ old, IsEnum h e it i old) ∧ h.IsTupleIter it a i) where
 mem := by simp
 obj := fun i h st b hb => by
  obtain ⟨⟨old, he⟩, o, ho, c, d⟩ := st
  simp only [List.mem_cons, List.not_mem_nil, or_false] at hb
  rcases hb with rfl | rfl
  ·exact ⟨_, he, fun v z => by cases z⟩
  ·exact ⟨o, ho, fun v z => by rw [d] at z; cases z⟩
 keep := fun i h h' st k => by
  obtain ⟨⟨old, he⟩, hit⟩ := st
  exact ⟨⟨old, k e (by simp) _ he⟩, hit.at fun o q => k it (by simp) o q⟩
 item := by
  intro X hP hw hK hc i pins s σ H E I hf st hg
  subst hP hw hK
  obtain ⟨xs, x, hq, hx⟩ := hg
  obtain ⟨its, rv, p, hz⟩ := I.tuple hq
  obtain ⟨u, hu, ru⟩ := rv.get hx
  obtain ⟨⟨old, he⟩, hit⟩ := st
  have hel := Heap.lt_size he
  have hil : it < s.heap.objs.size := by obtain ⟨o, ho, _⟩ := id hit; exact Heap.lt_size ho
  have pt : s.heap.IsTuple a its.toArray := p
  have hae : e ≠ a := by
   rintro rfl
   obtain ⟨o, ho, hc, _⟩ := pt
   rw [he] at ho; cases ho
   exact absurd hc (by simp)
  have hai : a ≠ it := by
   rintro rfl
   obtain ⟨o, ho, hc, _⟩ := pt
   obtain ⟨o', ho', hc', _⟩ := hit
   rw [ho'] at ho; cases ho
   rw [hc'] at hc
   exact absurd hc (by simp)
  have D := Zka (prog := X.prog) (w := X.w) (A := X.A.in1) (I.ok.hd hc) it a hai its.toArray
  refine wpAny_pyNext_enum_itemD D he ⟨hit, pt⟩ (by simpa using (List.getElem?_eq_some_iff.mp hu).1) hne (by simp [hne, hae]) fun y h' tk hy ho hst hT hsz hk => ?_
  have ey : y = u := by
   have : its.toArray[i]? = some u := by simpa using hu
   rw [this] at hy; cases hy; rfl
  subst ey
  refine ⟨_, rfl, wpAny_letOwnedTupleGo_enum (s := { s with heap := h', toks := tk + 1 }) ho fun h'' he'' hs'' => ?_⟩
  obtain ⟨I2, n2⟩ := ZiR (x := x) (tk' := tk + 1) I hf hel hil ru hT hk hs''
  exact ⟨.ref s.heap.objs.size, _, I2, rfl, ⟨_, x, rfl, I.hok.fresh (Nat.le_refl _), rfl, fun ys hy => by rw [I.tuple_inj hy hq]; exact hx⟩, ⟨⟨_, by simpa using he''⟩, hst.1.extBut hs''.extBut (Ne.symm hne)⟩, n2⟩
 done := by
  intro X hP hw hK hc i pins s σ H E I hf st hg
  subst hP hw hK
  obtain ⟨xs, hq, hx⟩ := hg
  obtain ⟨its, rv, p, hz⟩ := I.tuple hq
  obtain ⟨⟨old, he⟩, hit⟩ := st
  have hl := rv.length
  have pt : s.heap.IsTuple a its.toArray := p
  have hT : s.TypeIs (.ref e) "enumerate" := ⟨_, he, rfl⟩
  unfold pyNext
  refine wpAny_bind (wpAny_attempt (wpAny_callSpecial?_slot (name := Str.ofString "__next__") hT F.slot_enumerate_next
   (wpAny_call_entry F.slot_enumerate_next hT F.entry_enumerate_next ?_ (F.args_enumerate_next_1 _))))
  show wpAny _ _ (field (.ref e) 2 >>= _) _ _ _
  refine wpAny_bind (wpAny_field he rfl (x := .ref it) rfl ?_)
  refine wpAny_bind (ZeN (I.ok.hd hc) hit pt (by simp; omega) fun h' x he' hx' => ?_)
  obtain ⟨o, ho, hc⟩ := hx'
  refine wpAny_bind (wpAny_isInstance (T := "StopIteration") (b := true) ⟨o, ho, hc⟩ isSubtype_stop ?_)
  exact wpAny_pure ⟨rfl, I.turnedL (t' := s.toks) (fun b o hb q => he' b o (fun z => hb (by simp [z])) q) hf⟩
 self := fun _ _ _ _ _ st h => by
  obtain ⟨⟨old, he⟩, _⟩ := st
  exact wpAny_pyIter_enum he h
section
variable {X : Cx} {es : List Expr} {k : Nat} {a : Expr} {p pos tpos : Pos} {f : E3}
def ZpR (K : PySem.W.Frag) (ta : TA) : TI := fun σ H R => ta σ H fun vs H1 => ∃ b, vs = [.ref b] ∧ ((∃ xs, SqL K H1 b xs ∧ R (Ite fun H xs => SqL K H b xs) H1) ∨ ∃ xs, SqT K H1 b xs ∧ R (Ite fun H xs => SqT K H b xs) H1)
theorem Zol {ta : TA} (hg : Gl X "enumerate") (hm : X.mg "enumerate" = none) (ha : PA X [a] ta) (hs : starEach [a] X.env = [(false, eval a X.env)] := by rfl) : PI X (.Tuple es k tpos) (.Call (.Name "enumerate" p) [a] [] pos) (ZpR X.K ta) := by
 intro pins s σ H R I h
 refine Call_ (ZhV I hg hm boot_enumerate (PyProof.Rows.callWith_type1 (thn (ha pos pins s σ H _ I h) fun us s1 ⟨vs, H1, I1, r1, q1⟩ => ?_) hs rfl))
 obtain ⟨b, e, q⟩ := q1
 subst e
 cases r1 with
 | cons r rr =>
  cases rr
  cases r
  have fp : ∀ {h' : Heap} {s2 : Shared}, ∀ c ∈ [s1.heap.objs.size + 1, s1.heap.objs.size], Zgq X pins H1 c := fun {h' s2} c hc => by
   have hc' : s1.heap.objs.size ≤ c := by
    simp only [List.mem_cons, List.not_mem_nil, or_false] at hc
    rcases hc with rfl | rfl <;> omega
   exact I1.fpOk hc' (I1.hok.fresh hc')
  rcases q with ⟨xs, hq, q⟩ | ⟨xs, hq, q⟩
  ·obtain ⟨its, rv, pl, hz⟩ := I1.list hq
   refine call_enumerate_list pl.isList fun h' hE hI hsz hk => ?_
   have I2 : Inv X pins σ H1 { s1 with heap := h' } := I1.kept (t' := s1.toks) hk
   exact wpAny_pyIter_enum (s := { s1 with heap := h' }) hE ⟨_, [s1.heap.objs.size + 1, s1.heap.objs.size], _, _, H1, rfl, I2, Zlz b _ _ (Nat.succ_ne_self _), ⟨⟨_, hE⟩, hI⟩, fp (h' := h') (s2 := s1), q⟩
  ·obtain ⟨its, rv, pl, hz⟩ := I1.tuple hq
   refine Zfw (show s1.heap.IsTuple b its.toArray from pl) fun h' hE hI hsz hk => ?_
   have I2 : Inv X pins σ H1 { s1 with heap := h' } := I1.kept (t' := s1.toks) hk
   exact wpAny_pyIter_enum (s := { s1 with heap := h' }) hE ⟨_, [s1.heap.objs.size + 1, s1.heap.objs.size], _, _, H1, rfl, I2, Zk4 b _ _ (Nat.succ_ne_self _), ⟨⟨_, hE⟩, hI⟩, fp (h' := h') (s2 := s1), q⟩
theorem Zl4 (hm : X.mg "enumerate" = none) (h : C3 X a f) (hg : Gl X "enumerate" := by rfl) (hs : starEach [a] X.env = [(false, eval a X.env)] := by rfl) (hs' : starEach (a :: []) X.env = (false, eval a X.env) :: starEach [] X.env := by rfl) : CIL X (.Tuple es k tpos) (.Call (.Name "enumerate" p) [a] [] pos) (Zkj f) :=
 PI.imp (Zol hg hm (Zd h Zk hs') hs) fun σ H R ⟨ι, M, env, S, E, h⟩ => by
  obtain ⟨d, M1, e1, h⟩ := ZkK.bind h
  refine ⟨ι, M, env, S, E, ?_⟩
  have e2 : Zb f Zj env M = .ok [d] M1 := by unfold Zb; rw [e1]; rfl
  rw [e2]
  intro vs H1 ι1 x1 S1 r1
  obtain ⟨v, ws, rfl, r, q⟩ := r1.cons_inv
  have := q.nil_inv
  subst this
  cases d with
  | tup ds =>
   obtain ⟨b, vs, rfl, s, r⟩ := r.tup_inv
   refine ⟨b, rfl, .inr ⟨vs, s, h _ H1 ι1 x1 S1 ?_⟩⟩
   intro i H2 ι2 M2 x S2 _
   refine ⟨fun d hd => ?_, fun hl => ⟨vs, x.tup _ _ s, by rw [r.length, hl, ZgU]; exact Nat.le_refl _⟩⟩
   rw [Zg0] at hd
   cases hq : ds[i]? with
   | none => rw [hq] at hd; cases hd
   | some d0 =>
    rw [hq] at hd
    simp only [Option.map_some, Nat.zero_add, Option.some.injEq] at hd
    subst hd
    obtain ⟨v, hv, rv⟩ := r.get hq
    refine ⟨⟨vs, v, x.tup _ _ s, hv⟩, fun y H3 hy => ?_⟩
    obtain ⟨T, y', rfl, hT, rfl, hall⟩ := hy
    have e := hall vs (x.tup _ _ s)
    rw [hv] at e
    cases e
    exact S2.tupl hT (Zai.cons Rep.int (Zai.cons (rv.mono x) Zai.nil))
  | ref n =>
   cases hm : M1[n]? with
   | none => simp only [hm] at h; exact h.elim
   | some o =>
    cases o with
    | dct kvs => simp only [hm] at h; exact h.elim
    | fdct kvs => simp only [hm] at h; exact h.elim
    | lst ds =>
     simp only [hm] at h
     obtain ⟨b, ha, rfl⟩ := r.ref_inv
     obtain ⟨vs, q, r⟩ := S1.obj n _ b hm ha
     refine ⟨b, rfl, .inl ⟨vs, SqL.of q, h _ H1 ι1 x1 S1 ?_⟩⟩
     intro i H2 ι2 M2 x S2 lk
     have lk' : M2[n]? = some (.lst ds) := by simpa [ZdU] using lk
     obtain ⟨vs2, q2, r2⟩ := S2.obj n _ b lk' (x.pre _ _ ha)
     refine ⟨fun d hd => ?_, fun hl => ⟨vs2, SqL.of q2, by rw [r2.length, hl, ZgU]; exact Nat.le_refl _⟩⟩
     rw [Zg0] at hd
     cases hq : ds[i]? with
     | none => rw [hq] at hd; cases hd
     | some d0 =>
      rw [hq] at hd
      simp only [Option.map_some, Nat.zero_add, Option.some.injEq] at hd
      subst hd
      obtain ⟨v, hv, rv⟩ := r2.get hq
      refine ⟨⟨vs2, v, SqL.of q2, hv⟩, fun y H3 hy => ?_⟩
      obtain ⟨T, y', rfl, hT, rfl, hall⟩ := hy
      have e := hall vs2 (SqL.of q2)
      rw [hv] at e
      cases e
      exact S2.tupl hT (Zai.cons Rep.int (Zai.cons rv Zai.nil))
  | _ => exact h.elim
end
end L3
namespace L3
open PySem PySem.Spec PyProof.Rows L2
open AutoSeq1 (wpAny_loadPart')
open PySem.SeqAt MeetsSeq
set_option maxRecDepth 100000
theorem Zmr (l b : Addr) (i j k m : Int) (t1 t2 t3 t4 : Tok) (n n2 : Nat) (dd dd2 : Option Addr) (sl sl2 : Array (Option Value)) :
  Meets (Builtin.«tuple.__le__» ⟨[.ref l, .ref b], []⟩)
   (fun A R s => s.heap.get? l = some { cls := .type "tuple", dict := dd, data := .seq #[.int i t1, .int j t2] n, slots := sl } ∧ s.heap.get? b = some { cls := .type "tuple", dict := dd2, data := .seq #[.int k t3, .int m t4] n2, slots := sl2 } ∧
    R (.ok (.ret (.bool (decide (i < k) || (decide (i = k) && decide (j ≤ m)))))) s) :=
 .of_wp fun prog w A R s h => by
  obtain ⟨hp, g, d, tk, os⟩ := s; obtain ⟨hl, hb, h⟩ := h
  have f2 := AutoSeq1.sub_tuple_tuple
  wp_walk using wpAny_loadPart' hl, wpAny_loadPart' hb, wpAny_forIn_list _ (fun rest b s' => b.1 = none ∧ s' = ⟨hp, g, d, tk, os⟩ ∧ ((rest = [(.int i t1, .int k t3), (.int j t2, .int m t4)]) ∨ (i = k ∧ rest = [(.int j t2, .int m t4)]) ∨ (i = k ∧ j = m ∧ rest = []))) _
  case turn =>
   rintro ⟨y, x⟩ rest b s' ⟨hb', rfl, hz⟩
   rcases hz with hz | ⟨rfl, hz⟩ | ⟨_, _, hz⟩
   ·cases hz
    refine wpAny_bind (EqAt.int_int i t1 k t3 prog w _ _ ?_)
    by_cases e : i = k
    ·subst e
     rw [beq_self_eq_true]
     wp_walk
     exact ⟨rfl, rfl, .inr (.inl ⟨rfl, rfl⟩)⟩
    ·rw [beq_eq_false_iff_ne.mpr e]
     rw [if_pos (by rfl)]
     show wpAny _ _ (do rule "tuple.compare.by-the-first-pair-that-differs"; let r ← richCompare .LtE _ _; let r ← ret r; pure (ForInStep.done (some r, ()))) _ _ _
     refine wpAny_bind (wpAny_rule (wpAny_bind (show wpAny _ _ (compareOp .LtE _ _) _ _ _ from PyProof.Rows.le_int ?_)))
     wp_walk
     refine ⟨_, rfl, ?_⟩
     have : decide (i ≤ k) = (decide (i < k) || decide (i = k) && decide (j ≤ m)) := by
      by_cases q : i < k
      ·simp [q, Int.le_of_lt q]
      ·have : ¬ i ≤ k := by omega
       simp [q, e, this]
     rw [this]; exact h
   ·cases hz
    refine wpAny_bind (EqAt.int_int j t2 m t4 prog w _ _ ?_)
    by_cases e : j = m
    ·subst e
     rw [beq_self_eq_true]
     wp_walk
     exact ⟨rfl, rfl, .inr (.inr ⟨rfl, rfl, rfl⟩)⟩
    ·rw [beq_eq_false_iff_ne.mpr e]
     rw [if_pos (by rfl)]
     show wpAny _ _ (do rule "tuple.compare.by-the-first-pair-that-differs"; let r ← richCompare .LtE _ _; let r ← ret r; pure (ForInStep.done (some r, ()))) _ _ _
     refine wpAny_bind (wpAny_rule (wpAny_bind (show wpAny _ _ (compareOp .LtE _ _) _ _ _ from PyProof.Rows.le_int ?_)))
     wp_walk
     exact ⟨_, rfl, by simpa using h⟩
   ·cases hz
  case fin =>
   rintro ⟨b1, b2⟩ s' ⟨hb', rfl, hz⟩
   simp only at hb'
   subst hb'
   rcases hz with hz | ⟨rfl, hz⟩ | ⟨rfl, rfl, hz⟩
   ·cases hz
   ·cases hz
   ·wp_walk
    exact ⟨_, rfl, by simpa [Builtin.Tuple.tupleCompareSizes] using h⟩
  case h =>
   exact ⟨rfl, rfl, .inl rfl⟩
theorem ZlL {K : PySem.W.Frag} {H : Hp} {ι : List Addr} {i j : Int} {vs : List V} {its : List Value} (r : Zai K H ι [.int i, .int j] vs) (rv : Vals vs its) : ∃ t1 t2, its = [.int i t1, .int j t2] := by
 obtain ⟨v1, vs1, rfl, q1, r⟩ := r.cons_inv
 obtain ⟨v2, vs2, rfl, q2, r⟩ := r.cons_inv
 have := r.nil_inv
 subst this
 have e1 := q1.int_inv
 have e2 := q2.int_inv
 subst e1 e2
 cases rv with
 | cons a rv =>
  cases rv with
  | cons b rv =>
   cases rv
   obtain ⟨t1, rfl⟩ := a
   obtain ⟨t2, rfl⟩ := b
   exact ⟨t1, t2, rfl⟩
theorem Zq5 {X : Cx} (hu : X.A.units + 80 < cLine) : OpR X (compareOp .LtE) (r2 X.K Zm9) := by
 intro pins s σ H x y v u Q I rx ry ⟨ι, M, a, b, S, ra, rb, h⟩
 unfold Zm9 at h
 split at h
 ·rename_i i j k l
  obtain ⟨p, vs, rfl, s1, r1⟩ := ra.tup_inv
  cases rx
  obtain ⟨p', ws, rfl, s2, r2⟩ := rb.tup_inv
  cases ry
  obtain ⟨its, rvs, ht, _⟩ := I.tuple s1
  obtain ⟨its2, rws, ht2, _⟩ := I.tuple s2
  obtain ⟨t1, t2, rfl⟩ := ZlL r1 rvs
  obtain ⟨t3, t4, rfl⟩ := ZlL r2 rws
  obtain ⟨⟨cls, dd, data, sl⟩, ho, hc, n, hd⟩ := ht
  obtain ⟨⟨cls2, dd2, data2, sl2⟩, ho2, hc2, n2, hd2⟩ := ht2
  simp only at hc hd hc2 hd2
  subst hc hd hc2 hd2
  exact richCompare_meets_room (op := .LtE) ⟨_, ho, rfl⟩ ⟨_, ho2, rfl⟩ F.slot_tuple_le F.entry_tuple_le (F.args_tuple_le_2 _ _) (Zmr p p' i j k l t1 t2 t3 t4 n n2 dd dd2 sl sl2)
   ⟨ho, ho2, show Value.bool _ ≠ Value.notImplemented ∧ EP X pins σ Q (.bool _) s from ⟨(fun x => nomatch x), ⟨.bl _, H, I, rfl, h _ H ι Ext.refl S Rep.bl⟩⟩⟩ (by omega)
 ·exact h.elim
end L3
namespace L3
open PySem PySem.Spec PyProof.Rows L2
section
variable {X : Cx} {o i p j e : Expr} {pos : Pos} {f g h fo fi fp fj : E3}
def Zrx (K : PySem.W.Frag) (f g : E3) : TG := fun v σ H Q => ∃ ι M env d r M', ZaG K H ι M ∧ Zcp K H ι env σ ∧ Rep K H ι d v ∧ ZkQ d f g env M = .ok r M' ∧ ∀ H' ι', Ext K H ι H' ι' → ZaG K H' ι' M' → Q σ H'
theorem ZnO {spos : Pos} (ho : C3 X o f) (hi : C3 X i g)
  (ha : ∀ v, assign (.Subscript o i spos) X.env v = (do
   let ov ← holding [v] (eval o X.env)
   let iv ← holding [v, ov] (eval i X.env)
   standAt spos
   holding [v, ov, iv] (setItem ov iv v)
   release [v, ov, iv] []) := by intro _; rfl) : PG X (.Subscript o i spos) (Zrx X.K f g) := PG.imp (ZnD ho hi set_list ha) fun v σ H Q ⟨ι, M, env, d, r, M', S, E, rd, hp, hh⟩ => by
 unfold ZkQ at hp
 cases e2 : f env M with
 | exc _ _ => rw [e2] at hp; cases hp
 | bad => rw [e2] at hp; cases hp
 | ok b M2 =>
  rw [e2] at hp
  simp only [R3.bind] at hp
  cases e3 : g env M2 with
  | exc _ _ => rw [e3] at hp; cases hp
  | bad => rw [e3] at hp; cases hp
  | ok k M3 =>
   rw [e3] at hp
   simp only at hp
   refine ⟨ι, M, env, S, E, ?_⟩
   rw [e2]
   intro x H2 ι2 x2 S2 r2
   refine ⟨ι2, M2, env, S2, E.mono x2, ?_⟩
   rw [e3]
   intro y H3 ι3 x3 S3 r3
   cases b with
   | ref n =>
    cases k with
    | int j =>
     simp only [ZhI] at hp
     cases hn : M3[n]? with
     | none => simp only [hn] at hp; cases hp
     | some ob =>
      cases ob with
      | dct _ => simp only [hn] at hp; cases hp
      | fdct _ => simp only [hn] at hp; cases hp
      | lst xs =>
       simp only [hn] at hp
       cases hj : ixD xs.length j with
       | none => simp only [hj] at hp; cases hp
       | some q =>
        simp only [hj] at hp
        cases hp
        obtain ⟨ad, ha, rfl⟩ := (r2.mono x3).ref_inv
        obtain ⟨ws, hw, kr⟩ := S3.obj n _ ad hn ha
        obtain ⟨x4, S4⟩ := S3.setl (.inr (.inl ⟨_, hw⟩)) ha (kr.set q ((rd.mono x2).mono x3))
        exact ⟨ad, ws, j, q, rfl, r3.int_inv, hw, by rw [kr.length]; exact hj, hh _ _ ((x2.trans x3).trans x4) S4⟩
    | _ => cases hp
   | _ => cases hp
theorem ZnY {k : Nat} {tpos spos spos2 : Pos} (hc : X.calm = true) (he : C3 X e f) (ho : C3 X o fo) (hi : C3 X i fi) (hp : C3 X p fp) (hj : C3 X j fj)
  (hs : swapsWithSole [.Tuple [.Subscript o i spos, .Subscript p j spos2] k tpos] e pos.line X.env = pure false := by rfl) (hw : swappedStores [.Tuple [.Subscript o i spos, .Subscript p j spos2] k tpos] e X.env = pure none := by rfl)
  (h1 : (assignEach [.Tuple [.Subscript o i spos, .Subscript p j spos2] k tpos] X.env).map (·.2) = [assign (.Tuple [.Subscript o i spos, .Subscript p j spos2] k tpos) X.env] := by rfl)
  (ha : ∀ v, assign (.Subscript o i spos) X.env v = (do
   let ov ← holding [v] (eval o X.env)
   let iv ← holding [v, ov] (eval i X.env)
   standAt spos
   holding [v, ov, iv] (setItem ov iv v)
   release [v, ov, iv] []) := by intro _; rfl)
  (hb : ∀ v, assign (.Subscript p j spos2) X.env v = (do
   let ov ← holding [v] (eval p X.env)
   let iv ← holding [v, ov] (eval j X.env)
   standAt spos2
   holding [v, ov, iv] (setItem ov iv v)
   release [v, ov, iv] []) := by intro _; rfl)
  (hn : (assignEach [.Subscript o i spos, .Subscript p j spos2] X.env).length = 2 := by rfl) (hst : (assignEach [.Subscript o i spos, .Subscript p j spos2] X.env).findIdx? (·.1) = none := by rfl)
  (hs1 : (assignEach (.Subscript o i spos :: [.Subscript p j spos2]) X.env).map (·.2) = assign (.Subscript o i spos) X.env :: (assignEach [.Subscript p j spos2] X.env).map (·.2) := by rfl)
  (hs2 : (assignEach (.Subscript p j spos2 :: []) X.env).map (·.2) = assign (.Subscript p j spos2) X.env :: (assignEach [] X.env).map (·.2) := by rfl) :
  CS X (.Assign [.Tuple [.Subscript o i spos, .Subscript p j spos2] k tpos] e pos) (ZjN f fo fi fp fj) :=
 (Zjy he (Zn7 (n := 2) hc (Zh6 (ZnO ho hi ha) (Zh6 (ZnO hp hj hb) ZlG hs2) hs1) hn hst) hs hw h1).imp fun D σ H ⟨ι, M, env, S, E, hh⟩ => by
 refine ⟨ι, M, env, S, E, ?_⟩
 unfold ZjN at hh
 cases q : f env M with
 | exc x M1 => rw [q] at hh; exact hh.elim
 | bad => rw [q] at hh; exact hh.elim
 | ok d M1 =>
  rw [q] at hh
  split at hh
  ·rename_i x y M1' heq
   cases heq
   cases q1 : ZkQ x fo fi env M1 with
   | exc _ _ => rw [q1] at hh; exact hh.elim
   | bad => rw [q1] at hh; exact hh.elim
   | ok r1 M2 =>
    rw [q1] at hh
    simp only at hh
    cases q2 : ZkQ y fp fj env M2 with
    | exc _ _ => rw [q2] at hh; exact hh.elim
    | bad => rw [q2] at hh; exact hh.elim
    | ok r2 M3 =>
     rw [q2] at hh
     simp only at hh
     intro v H1 ι1 x1 S1 rv
     obtain ⟨a, vs, rfl, sq, rl⟩ := rv.tup_inv
     obtain ⟨v1, ws, rfl, rx, rl⟩ := rl.cons_inv
     obtain ⟨v2, ws, rfl, ry, rl⟩ := rl.cons_inv
     have := rl.nil_inv
     subst this
     refine ⟨a, [v1, v2], rfl, sq, rfl, v1, [v2], rfl, ι1, M1, env, x, r1, M2, S1, E.mono x1, rx, q1, fun H2 ι2 x2 S2 => ?_⟩
     exact ⟨v2, [], rfl, ι2, M2, env, y, r2, M3, S2, (E.mono x1).mono x2, ry.mono x2, q2, fun H3 ι3 x3 S3 => ⟨rfl, hh σ H3 ι3 ((x1.trans x2).trans x3) S3 (((E.mono x1).mono x2).mono x3)⟩⟩
  ·exact hh.elim
end
end L3
namespace L3
open PySem PySem.Spec PyProof.Rows L2
section
variable {X : Cx}
end
end L3
namespace L3
open PySem PySem.Spec PyProof.Rows L2
section
variable {prog : Program} {w : World} {A : Around} {E : Value → Shared → Prop} {s : Shared}
theorem Zi3 {it t : Addr} {items : Array Value} (hne : t ≠ it) : ∀ (n i : Nat) (s : Shared) (Q : List Value → Shared → Prop), s.heap.IsListIter it t i → s.heap.IsList t items → i + n ≤ items.size →
  (∀ h', h'.IsListIter it t (i + n) → Heap.SameBut it s.heap h' → Q ((items.toList.drop i).take n) { s with heap := h' }) → wpAny (model prog w) A (draw (.ref it) n) Q E s
 | 0, i, s, Q, hit, _, _, hQ => by
  show wpAny _ _ (pure []) Q E s
  exact wpAny_pure (by simpa using hQ s.heap hit (Heap.SameBut.refl ..))
 | n + 1, i, s, Q, hit, ht, hle, hQ => by
  have hlt : i < items.size := by omega
  show wpAny _ _ (pyNext (.ref it) >>= _) Q E s
  refine wpAny_bind (wpAny_pyNext_list_item hit ht (x := items[i]) (by simp [hlt]) fun h₁ hit₁ hs₁ => ?_)
  refine wpAny_bind (wpAny_holding (Zi3 hne n (i + 1) _ _ hit₁ (ht.extBut hs₁.extBut hne) (by omega) fun h₂ hit₂ hs₂ => wpAny_pure ?_))
  have hd : items.toList.drop i = items[i] :: items.toList.drop (i + 1) := by simp [List.drop_eq_getElem_cons, hlt]
  have := hQ h₂ (by rw [show i + (n + 1) = i + 1 + n by omega]; exact hit₂) (hs₁.trans hs₂)
  rw [hd, List.take_succ_cons] at this
  exact this
theorem ZgV {t : Addr} {items : Array Value} {Q : List Value → Shared → Prop} (hh : A.handled = none) (ht : s.heap.IsList t items)
  (hQ : ∀ h', Heap.ExtBut s.heap.objs.size s.heap h' → Q items.toList { s with heap := h' }) : wpAny (model prog w) A (unpackItems (.ref t) items.size none) Q E s := by
 have hlt : t ≠ s.heap.objs.size := by obtain ⟨o, ho, _⟩ := ht; exact Nat.ne_of_lt (Heap.lt_size ho)
 have hT : s.TypeIs (.ref t) "list" := by obtain ⟨o, ho, hc, _⟩ := ht; exact ⟨o, ho, hc⟩
 unfold unpackItems
 refine wpAny_bind ?_
 ·unfold notIterableAtAll
  refine wpAny_bind (wpAny_specialOf hT F.slot_list_iter.lookup ?_)
  refine wpAny_pure ?_
  simp only [Bool.false_eq_true, if_false]
  refine wpAny_bind (wpAny_holding (wpAny_pyIter_list ht ?_))
  have htp : (s.heap.push { cls := .type "list_iterator", data := .fields #[.ref t, .int 0 0] }).IsList t items := ht.at fun o e => Heap.get?_push_of_some _ e
  refine wpAny_bind (wpAny_holding (Zi3 hlt items.size 0 _ _ ⟨_, Heap.get?_push_size _ rfl, rfl, rfl⟩ htp (by omega) fun h₁ hit₁ hs₁ => ?_))
  have hall : List.take items.size (List.drop 0 items.toList) = items.toList := by
   rw [List.drop_zero]; exact List.take_of_length_le (by simp)
  rw [hall]
  rw [if_neg (by simp)]
  have ht₁ : h₁.IsList t items := htp.extBut hs₁.extBut hlt
  refine wpAny_bind (wpAny_holding (wpAny_pyNext_list_end hh hit₁ ht₁ (by simp) fun h₂ he₂ => ?_))
  simp only [Option.isSome_none, Bool.false_eq_true, if_false]
  refine wpAny_pure (hQ h₂ fun b o hb e => he₂ b o hb (hs₁.extBut b o hb (Heap.get?_push_of_some _ e)))
theorem Zgg {env : Env} {elts : List Expr} {x1} {pos : Pos} {t : Addr} {items : Array Value} {Q : Unit → Shared → Prop} (hh : A.handled = none) (ht : s.heap.IsList t items)
  (hn : (assignEach elts env).length = items.size) (hstar : (assignEach elts env).findIdx? (·.1) = none)
  (h : ∀ h', Heap.ExtBut s.heap.objs.size s.heap h' → wpAny (model prog w) A (assignInOrder ((assignEach elts env).map (·.2)) items.toList) Q E { s with heap := h' }) :
  wpAny (model prog w) A (assign (.Tuple elts x1 pos) env (.ref t)) Q E s := by
 rw [assign_Tuple]
 refine wpAny_bind (wpAny_standAt ?_)
 unfold unpack
 rw [hn, hstar]
 exact wpAny_bind (wpAny_holding (ZgV hh ht h))
end
section
variable {X : Cx} {e : Expr} {es : List Expr} {pos : Pos} {f : E3}
def Zsm (K : PySem.W.Frag) (n : Nat) (t : TGs) : TG := fun v σ H Q => ∃ a xs, v = .ref a ∧ SqL K H a xs ∧ xs.length = n ∧ t xs σ H Q
theorem Zql {k : Nat} {t : TGs} {n : Nat} (hc : X.calm = true) (h : PGs X es t)
  (hn : (assignEach es X.env).length = n := by rfl) (hst : (assignEach es X.env).findIdx? (·.1) = none := by rfl) : PG X (.Tuple es k pos) (Zsm X.K n t) := by
 intro pins s σ H v u Q I r hw
 obtain ⟨a, xs, e1, hq, hl, hw⟩ := hw
 subst e1
 cases r
 obtain ⟨its, rv, ht, hz⟩ := I.list hq
 refine Zgg (I.ok.hd hc) ht.isList (by simp [hn, ← hl, rv.length]) hst fun h' hx => ?_
 have I1 : Inv X pins σ H { s with heap := h' } := I.kept (t' := s.toks) fun b o e => hx b o (Nat.ne_of_lt (Heap.lt_size e)) e
 exact h pins _ σ H xs _ Q I1 (by simpa using rv) hw
theorem ZkM : ∀ (is : List Nat) (ds : List D) (env env' : ZaO), bindAll is ds env = some env' → ds.length = is.length := by
 intro is
 induction is with
 | nil => intro ds env env' h; cases ds with | nil => rfl | cons d ds => cases h
 | cons i is ih => intro ds env env' h; cases ds with | nil => cases h | cons d ds => simp [ih ds _ _ h]
theorem ZoV {is : List Nat} {k : Nat} {tpos : Pos} (hc : X.calm = true) (he : C3 X e f) (h : CGs X es is)
  (hs : swapsWithSole [.Tuple es k tpos] e pos.line X.env = pure false := by rfl) (hw : swappedStores [.Tuple es k tpos] e X.env = pure none := by rfl)
  (h1 : (assignEach [.Tuple es k tpos] X.env).map (·.2) = [assign (.Tuple es k tpos) X.env] := by rfl)
  (hn : (assignEach es X.env).length = is.length := by rfl) (hst : (assignEach es X.env).findIdx? (·.1) = none := by rfl) : CS X (.Assign [.Tuple es k tpos] e pos) (Zi4 f is) :=
 (Zjy he (Zql (n := is.length) hc h hn hst) hs hw h1).imp fun D σ H ⟨ι, M, env, S, E, hh⟩ => by
 refine ⟨ι, M, env, S, E, ?_⟩
 unfold Zi4 at hh
 cases q : f env M with
 | exc x M1 => rw [q] at hh; exact hh.elim
 | bad => rw [q] at hh; exact hh.elim
 | ok d M1 =>
  rw [q] at hh
  cases d with
  | ref n =>
   simp only at hh
   cases hm : M1[n]? with
   | none => simp only [hm] at hh; exact hh.elim
   | some o =>
    cases o with
    | dct _ => simp only [hm] at hh; exact hh.elim
    | fdct _ => simp only [hm] at hh; exact hh.elim
    | lst ds =>
     simp only [hm] at hh
     cases qb : bindAll is ds env with
     | none => simp only [qb] at hh; exact hh.elim
     | some env1 =>
      simp only [qb] at hh
      intro v H1 ι1 x1 S1 r1
      obtain ⟨a, ha, rfl⟩ := r1.ref_inv
      obtain ⟨vs, hv, rv⟩ := S1.obj n _ a hm ha
      exact ⟨a, vs, rfl, SqL.of hv, by rw [rv.length]; exact ZkM _ _ _ _ qb, ι1, M1, env, ds, env1, S1, E.mono x1, rv, qb, fun σ' E' => hh σ' H1 ι1 x1 S1 E'⟩
  | _ => exact hh.elim
end
end L3
set_option maxHeartbeats 400000
namespace Law
open PySem L3
noncomputable section
def Zdr : S3 := Zr (sIf (e2 Zaq (e2 Ze (Za 0) (eC (.int 0))) (eC (.str [106, 117, 109, 112]))) (Zz (e2 Ze (Za 0) (eC (.int 1)))) (Zw)) (Zr (sIf (ZdB (e2 Zaq (e2 Ze (Za 0) (eC (.int 0))) (eC (.str [119, 104, 101, 110]))) (e2 ZgJ (e2 Ze (Za 2) (e2 Ze (Za 0) (eC (.int 1)))) (eC (.int 0)))) (Zz (e2 Ze (Za 0) (eC (.int 2)))) (Zw)) (Zz (e2 Zaf (Za 1) (eC (.int 1)))))
def ZbK : F3 := mkF 3 3 Zdr
def Zfz : S3 := Zr (sIf (e2 Zaq (Za 0) (eC (.str [97, 100, 100]))) (Zz (e2 Zaf (Za 1) (Za 2))) (Zw)) (Zr (sIf (e2 Zaq (Za 0) (eC (.str [115, 117, 98]))) (Zz (e2 ZbU (Za 1) (Za 2))) (Zw)) (Zz (eIf (e2 ZgJ (Za 1) (Za 2)) (eC (.int 1)) (eC (.int 0)))))
def Zc0 : F3 := mkF 3 3 Zfz
def Zh3 : S3 := Zz (e2 Zaf (e2 Zaf (eSl (Za 0) (ZaD) (ZaE (Za 1))) (ZaH (Zb (Za 2) (Zj)))) (eSl (Za 0) (ZaE (e2 Zaf (Za 1) (eC (.int 1)))) (ZaD)))
def Zcd : F3 := mkF 3 3 Zh3
def Zgi : S3 := Zz (ZeK Zkf ZlA (Zaj Zhb (Zb (Za 0) (Zj))) (Zb (Za 1) (Zb (eC (.int 0)) (Zj))))
def ZcP : F3 := mkF 2 2 Zgi
def Ze5 : S3 := Zr (Zac 3 (e2 Ze (Za 0) (eC (.int 0)))) (Zr (sIf (e2 Zaq (Za 3) (eC (.str [112, 117, 116]))) (Zz (Zae Zcd (Zb (Za 1) (Zb (e2 Ze (Za 0) (eC (.int 1))) (Zb (e2 Ze (Za 0) (eC (.int 2))) (Zj)))))) (Zw)) (Zr (sIf (e2 Zaq (Za 3) (eC (.str [103, 101, 116]))) (Zz (Zae Zcd (Zb (Za 1) (Zb (e2 Ze (Za 0) (eC (.int 1))) (Zb (Zae ZcP (Zb (Za 2) (Zb (e2 Ze (Za 1) (e2 Ze (Za 0) (eC (.int 2)))) (Zj)))) (Zj)))))) (Zw)) (Zr (sIf (e2 Zlc (Za 3) (ZaH (Zb (eC (.str [97, 100, 100])) (Zb (eC (.str [115, 117, 98])) (Zb (eC (.str [109, 111, 114, 101])) (Zj)))))) (Zz (Zae Zcd (Zb (Za 1) (Zb (e2 Ze (Za 0) (eC (.int 1))) (Zb (Zae Zc0 (Zb (Za 3) (Zb (e2 Ze (Za 1) (e2 Ze (Za 0) (eC (.int 2)))) (Zb (e2 Ze (Za 1) (e2 Ze (Za 0) (eC (.int 3)))) (Zj))))) (Zj)))))) (Zw)) (Zz (Za 1)))))
def Zee : F3 := mkF 3 4 Ze5
def Zfp : S3 := Zz (ZdB (e2 ZhY (Za 0) (eC (.int 0))) (e2 Zh4 (Za 0) (Za 1)))
def Zb6 : F3 := mkF 2 2 Zfp
def Zib : S3 := Zz (e2 Zlc (e2 Ze (Za 0) (eC (.int 0))) (ZaH (Zb (eC (.str [103, 101, 116])) (Zb (eC (.str [115, 101, 116])) (Zj)))))
def Zcw : F3 := mkF 1 1 Zib
def ZdV : S3 := Zz (eIf (e2 Zaq (e2 Ze (Za 0) (eC (.int 0))) (eC (.str [103, 101, 116]))) (e2 Ze (Za 1) (e2 Ze (Za 0) (eC (.int 2)))) (e2 Ze (Za 1) (e2 Ze (Za 0) (eC (.int 1)))))
def Zbp : F3 := mkF 2 2 ZdV
def Zj3 : S3 := Zz (eIf (Zae Zb6 (Zb (Za 1) (Zb (Zaj ZaR (Zb (Za 0) (Zj))) (Zj)))) (e2 Ze (Za 0) (Za 1)) (eC .non))
def Zc4 : F3 := mkF 2 2 Zj3
def ZfA : S3 := Zr (sIf (e2 Zaq (e2 Ze (Za 0) (eC (.int 0))) (eC (.str [103, 101, 116]))) (Zz (Zae Zcd (Zb (Za 1) (Zb (e2 Ze (Za 0) (eC (.int 1))) (Zb (e2 Ze (Za 2) (e2 Ze (Za 0) (eC (.int 1)))) (Zj)))))) (Zw)) (Zz (Zae Zee (Zb (Za 0) (Zb (Za 1) (Zb (ZaH (Zj)) (Zj))))))
def ZbV : F3 := mkF 3 3 ZfA
def Zhc : S3 := Zr (Zac 3 (e2 Ze (Za 1) (eC (.int 0)))) (Zr (Zac 4 (e2 Ze (Za 1) (eC (.int 1)))) (Zr (Zac 5 (Zae Zc4 (Zb (Za 0) (Zb (Za 3) (Zj))))) (Zr (sIf (eOr (e2 Zj9 (Za 5) (eC .non)) (e2 Zaq (e2 Ze (Za 5) (eC (.int 0))) (eC (.str [104, 97, 108, 116])))) (Zz (eC (.bl false))) (Zw)) (Zz (e2 Zaq (Za 2) (ZaH (Zb (Zae ZbK (Zb (Za 5) (Zb (Za 3) (Zb (Za 4) (Zj))))) (Zb (Zae ZbV (Zb (Za 5) (Zb (Za 4) (Zb (e2 Ze (Za 2) (eC (.int 1))) (Zj))))) (Zj)))))))))
def Zdi : F3 := mkF 3 6 Zhc
def Zcc : S3 := Zr (sIf (ZdB (e2 Zdv (Za 0) (eC .non)) (e2 Zm9 (eSl (Za 1) (ZaD) (ZaE (eC (.int 2)))) (eSl (Za 0) (ZaD) (ZaE (eC (.int 2)))))) (Zz (eC (.bl false))) (Zw)) (Zr (sIf (e2 Zb1 (e2 Ze (Za 1) (eC (.int 2))) (eC (.str [103, 101, 116]))) (Zz (eC (.bl true))) (Zw)) (Zr (Zac 2 (ZdB (e2 Zdv (Za 0) (eC .non)) (e2 Zaq (e2 Ze (Za 0) (eC (.int 0))) (e2 Ze (Za 1) (eC (.int 0)))))) (Zz (e2 Zaq (e2 Ze (Za 1) (eC (.int 3))) (eIf (Za 2) (e2 Ze (Za 0) (eC (.int 3))) (eC (.int 0)))))))
def Zbl : F3 := mkF 2 3 Zcc
def ZfV : S3 := Zr (Zac 3 (e2 Ze (Za 2) (eC (.int 1)))) (Zr (sIf (e1 Zb5 (Zae Zb6 (Zb (Za 3) (Zb (e2 ZbU (Zaj ZaR (Zb (Za 1) (Zj))) (eC (.int 1))) (Zj))))) (Zz (eC (.bl false))) (Zw)) (Zr (Zac 4 (e2 Ze (e2 Ze (Za 1) (Za 3)) (eC (.int 1)))) (Zr (Zac 5 (Zae Zc4 (Zb (Za 0) (Zb (e2 Ze (e2 Ze (Za 1) (Za 3)) (eC (.int 0))) (Zj))))) (Zr (sIf (eOr (e2 Zj9 (Za 5) (eC .non)) (eOr (e1 Zb5 (Zae Zcw (Zb (Za 5) (Zj)))) (e2 Zb1 (e2 Ze (Za 2) (eC (.int 2))) (e2 Ze (Za 5) (eC (.int 0)))))) (Zz (eC (.bl false))) (Zw)) (Zr (sIf (e2 Zb1 (e2 Ze (Za 2) (eC (.int 0))) (Zae Zbp (Zb (Za 5) (Zb (Za 4) (Zj))))) (Zz (eC (.bl false))) (Zw)) (Zr (sIf (e2 Zaq (e2 Ze (Za 5) (eC (.int 0))) (eC (.str [103, 101, 116]))) (Zz (e2 Zaq (e2 Ze (Za 2) (eC (.int 3))) (e2 Ze (e2 Ze (e2 Ze (Za 1) (e2 Zaf (Za 3) (eC (.int 1)))) (eC (.int 1))) (e2 Ze (Za 5) (eC (.int 1)))))) (Zw)) (Zz (e2 Zaq (e2 Ze (Za 2) (eC (.int 3))) (e2 Ze (Za 4) (e2 Ze (Za 5) (eC (.int 2))))))))))))
def Zcb : F3 := mkF 3 6 ZfV
def Zes : S3 := Zr (ZjB (ZbJ (e2 ZbU (Zaj ZaR (Zb (Za 1) (Zj))) (eC (.int 1)))) (Zcg 2) (sIf (e1 Zb5 (Zae Zdi (Zb (Za 0) (Zb (e2 Ze (Za 1) (Za 2)) (Zb (e2 Ze (Za 1) (e2 Zaf (Za 2) (eC (.int 1)))) (Zj)))))) (Zz (Za 2)) (Zw))) (Zz (eC .non))
def Zcq : F3 := mkF 2 3 Zes
def Zdt : S3 := Zr (Zac 2 (Za 0)) (Zr (Zg8 (Zkj (Za 1)) (Zch [3, 4]) (Zr (sIf (e1 Zb5 (Zae Zbl (Zb (Za 2) (Zb (Za 4) (Zj))))) (Zz (Za 3)) (Zw)) (Zac 2 (Za 4)))) (Zz (eC .non)))
def Zb7 : F3 := mkF 2 5 Zdt
def ZdD : S3 := Zr (Zg8 (Zkj (Za 2)) (Zch [3, 4]) (sIf (e1 Zb5 (Zae Zcb (Zb (Za 0) (Zb (Za 1) (Zb (Za 4) (Zj)))))) (Zz (Za 3)) (Zw))) (Zz (eC .non))
def Zbw : F3 := mkF 3 5 ZdD
def Ze0 : S3 := Zr (sIf (eOr (e2 Zaq (Zaj ZaR (Zb (Za 2) (Zj))) (eC (.int 0))) (e2 Zb1 (e2 Ze (Za 2) (eC (.int 0))) (ZaH (Zb (eC (.int 0)) (Zb (Za 1) (Zj)))))) (Zz (ZaH (Zb (eC (.str [98, 101, 103, 105, 110])) (Zb (eC (.int 0)) (Zj))))) (Zw)) (Zr (Zac 3 (Zae Zcq (Zb (Za 0) (Zb (Za 2) (Zj))))) (Zr (sIf (e2 Zdv (Za 3) (eC .non)) (Zz (ZaH (Zb (eC (.str [115, 116, 101, 112])) (Zb (Za 3) (Zj))))) (Zw)) (Zr (Zac 4 (e2 ZbU (Zaj ZaR (Zb (Za 2) (Zj))) (eC (.int 1)))) (Zr (sIf (e2 Zb1 (Zae Zc4 (Zb (Za 0) (Zb (e2 Ze (e2 Ze (Za 2) (Za 4)) (eC (.int 0))) (Zj)))) (ZaH (Zb (eC (.str [104, 97, 108, 116])) (Zj)))) (Zz (ZaH (Zb (eC (.str [101, 110, 100])) (Zb (Za 4) (Zj))))) (Zw)) (Zz (eC .non))))))
def ZcT : F3 := mkF 3 5 Ze0
def Zd3 : S3 := Zr (Zac 3 (Zae Zb7 (Zb (eC .non) (Zb (Za 2) (Zj))))) (Zr (sIf (e2 Zdv (Za 3) (eC .non)) (Zz (ZaH (Zb (eC (.str [117, 115, 101])) (Zb (Za 3) (Zj))))) (Zw)) (Zr (Zac 4 (Zae Zbw (Zb (Za 0) (Zb (Za 1) (Zb (Za 2) (Zj)))))) (Zr (sIf (e2 Zdv (Za 4) (eC .non)) (Zz (ZaH (Zb (eC (.str [109, 97, 116, 99, 104])) (Zb (Za 4) (Zj))))) (Zw)) (Zr (Zac 5 (eLC (Zhq (eSl (Za 1) (ZaD) (ZaE (e1 ZdE (eC (.int 1)))))) 1 (Zcg 6) [Zae Zcw (Zb (e2 Ze (Za 0) (e2 Ze (Za 6) (eC (.int 0)))) (Zj))] (Za 6))) (Zr (sIf (e2 Zb1 (Zaj ZaR (Zb (Za 2) (Zj))) (Zaj ZaR (Zb (Za 5) (Zj)))) (Zz (ZaH (Zb (eC (.str [99, 111, 117, 110, 116])) (Zb (Zaj ZaR (Zb (Za 2) (Zj))) (Zj))))) (Zw)) (Zz (eC .non)))))))
def Zcv : F3 := mkF 3 6 Zd3
def ZlO : S3 := Zr (Zac 4 (Zae ZcT (Zb (Za 0) (Zb (Za 1) (Zb (Za 2) (Zj)))))) (Zz (eIf (e2 Zdv (Za 4) (eC .non)) (Za 4) (Zae Zcv (Zb (Za 0) (Zb (Za 2) (Zb (Za 3) (Zj)))))))
def Zht : F3 := mkF 4 5 ZlO
def Zeu : S3 := Zr (sIf (eOr (e2 ZjQ (Za 0) (e1 ZdE (e2 ZiV (eC (.int 10)) (eC (.int 6))))) (e2 ZhY (Za 0) (e2 ZiV (eC (.int 10)) (eC (.int 6))))) (Zz (Za 0)) (Zw)) (Zr (Zac 2 (e2 Zaf (e2 Zaf (e2 Zaf (e2 Zdc (eC (.int 31)) (Za 0)) (e2 Zdc (Za 1) (Za 1))) (e2 Zdc (eC (.int 17)) (Za 1))) (eC (.int 2000033)))) (Zr (Zac 2 (e2 ZaJ (e2 Zdc (e2 Zaf (Za 0) (eC (.int 1000003))) (Za 2)) (eC (.int 2147483629)))) (Zz (e2 Zaf (e2 Zdc (Za 2) (Za 2)) (e2 ZaS (Za 2) (eC (.int 7)))))))
def ZaN : F3 := mkF 2 3 Zeu
def Zc6 : S3 := Zr (sIf (e2 Zh4 (e2 ZaJ (Za 0) (eC (.int 3))) (eC (.int 2))) (Zz (e2 ZbU (e2 ZaJ (e2 ZaS (Za 0) (eC (.int 3))) (eC (.int 7))) (eC (.int 3)))) (Zw)) (Zr (sIf (e2 Zaq (e2 ZaJ (e2 ZaS (Za 0) (eC (.int 3))) (eC (.int 2))) (eC (.int 0))) (Zz (e2 ZaJ (e2 ZaS (Za 0) (eC (.int 6))) (e2 ZiV (eC (.int 10)) (eC (.int 30))))) (Zw)) (Zz (e1 ZdE (e2 ZaJ (e2 ZaS (Za 0) (eC (.int 6))) (e2 ZiV (eC (.int 10)) (eC (.int 30)))))))
def Zbi : F3 := mkF 1 1 Zc6
def ZaU : S3 := Zr (Zac 3 (Zae ZaN (Zb (Za 0) (Zb (Za 1) (Zj))))) (Zr (Zac 4 (Zca (Zb (eC (.str [112, 117, 116])) (Zb (eC (.str [112, 117, 116])) (Zb (eC (.str [97, 100, 100])) (Zb (eC (.str [115, 117, 98])) (Zb (eC (.str [109, 111, 114, 101])) (Zb (eC (.str [103, 101, 116])) (Zb (eC (.str [103, 101, 116])) (Zb (eC (.str [103, 101, 116])) (Zb (eC (.str [115, 101, 116])) (Zb (eC (.str [115, 101, 116])) (Zb (eC (.str [115, 101, 116])) (Zb (eC (.str [115, 101, 116])) (Zj))))))))))))))) (Zr (Zac 5 (e2 Ze (e2 Zaf (Za 4) (Zca (Zb (eC (.str [106, 117, 109, 112])) (Zb (eC (.str [119, 104, 101, 110])) (Zb (eC (.str [119, 104, 101, 110])) (Zb (eC (.str [116, 101, 108, 108])) (Zj))))))) (e2 ZaJ (Za 3) (eC (.int 16))))) (Zr (Zac 3 (e2 ZaS (Za 3) (eC (.int 16)))) (Zr (sIf (e2 Zaq (e2 ZaJ (Za 3) (eC (.int 41))) (eC (.int 7))) (Zz (ZaH (Zb (eC (.str [104, 97, 108, 116])) (Zj)))) (Zw)) (Zr (Zac 6 (e2 ZaJ (Za 3) (eC (.int 8)))) (Zr (Zac 7 (e2 ZaJ (e2 ZaS (Za 3) (eC (.int 8))) (eC (.int 8)))) (Zr (Zac 8 (e2 ZaJ (e2 ZaS (Za 3) (eC (.int 64))) (eC (.int 8)))) (Zr (Zac 9 (e2 Zaf (e2 Zaf (Za 1) (eC (.int 1))) (e2 ZaJ (e2 ZaS (Za 3) (eC (.int 32))) (e2 ZbU (Za 2) (Za 1))))) (Zr (sIf (e2 Zaq (e2 ZaJ (e2 ZaS (Za 3) (eC (.int 8))) (eC (.int 4))) (eC (.int 0))) (Zac 9 (e2 ZaJ (e2 ZaS (Za 3) (eC (.int 32))) (e2 Zaf (Za 2) (eC (.int 1))))) (Zw)) (Zr (sIf (e2 Zaq (Za 5) (eC (.str [112, 117, 116]))) (Zz (ZaH (Zb (Za 5) (Zb (Za 6) (Zb (Zae Zbi (Zb (e2 ZaS (Za 3) (eC (.int 8))) (Zj))) (Zj)))))) (Zw)) (Zr (sIf (e2 Zlc (Za 5) (ZaH (Zb (eC (.str [97, 100, 100])) (Zb (eC (.str [115, 117, 98])) (Zb (eC (.str [109, 111, 114, 101])) (Zj)))))) (Zz (ZaH (Zb (Za 5) (Zb (Za 6) (Zb (Za 7) (Zb (Za 8) (Zj))))))) (Zw)) (Zr (sIf (e2 Zaq (Za 5) (eC (.str [106, 117, 109, 112]))) (Zz (ZaH (Zb (Za 5) (Zb (Za 9) (Zj))))) (Zw)) (Zr (sIf (e2 Zaq (Za 5) (eC (.str [119, 104, 101, 110]))) (Zz (ZaH (Zb (Za 5) (Zb (Za 6) (Zb (Za 9) (Zj)))))) (Zw)) (Zz (e2 Ze (Zca (Zb (ZaH (Zb (Za 5) (Zb (Za 6) (Zb (Za 7) (Zj))))) (Zb (ZaH (Zb (Za 5) (Zb (Za 6) (Zj)))) (Zj)))) (Zaj ZlQ (Zb (e2 Zaq (Za 5) (eC (.str [116, 101, 108, 108]))) (Zj))))))))))))))))))
def Zau : F3 := mkF 3 10 ZaU
def ZdZ : S3 := Zr (Zac 1 (eSl (Za 0) (ZaD) (ZaE (eC (.int 60))))) (Zr (Zac 2 (eLC (ZbJ (Zaj ZaR (Zb (Za 1) (Zj)))) 1 (Zcg 5) [] (Zae Zau (Zb (e2 Ze (Za 1) (Za 5)) (Zb (Za 5) (Zb (Zaj ZaR (Zb (Za 1) (Zj))) (Zj))))))) (Zr (Zac 3 (ZaH (Zb (eC (.str [104, 97, 108, 116])) (Zj)))) (Zr (sIf (ZdB (e2 ZgJ (Zaj ZaR (Zb (Za 1) (Zj))) (eC (.int 0))) (e2 Zaq (e2 ZaJ (e2 Ze (Za 1) (eC (.int 0))) (eC (.int 4))) (eC (.int 1)))) (Zr (Zac 4 (Zae ZaN (Zb (e2 Ze (Za 1) (eC (.int 0))) (Zb (eC (.int 61)) (Zj))))) (Zr (Zd9 (Za 2) (e2 ZaJ (Za 4) (Zaj ZaR (Zb (Za 2) (Zj)))) (Za 3)) (Zac 3 (ZaH (Zb (eC (.str [106, 117, 109, 112])) (Zb (e2 ZaJ (e2 ZaS (Za 4) (eC (.int 64))) (e2 Zaf (Zaj ZaR (Zb (Za 2) (Zj))) (eC (.int 1)))) (Zj))))))) (Zw)) (Zz (Zaj ZaY (Zb (e2 Zaf (Za 2) (Zca (Zb (Za 3) (Zj)))) (Zj)))))))
def ZdY : F3 := mkF 1 5 ZdZ
def Zgm : S3 := Zr (Zac 1 (Zca (Zj))) (Zr (ZjB (ZbJ (eC (.int 8))) (Zcg 2) (Zr (Zac 3 (eC (.int 0))) (Zr (sIf (e2 ZgJ (Zaj ZaR (Zb (Za 0) (Zj))) (eC (.int 0))) (Zac 3 (e2 Ze (Za 0) (e2 ZaJ (e2 Zaf (e2 Zdc (eC (.int 5)) (Za 2)) (eC (.int 3))) (Zaj ZaR (Zb (Za 0) (Zj)))))) (Zw)) (Zal (ZeK tyL Zb8 (Za 1) (Zb (Zae Zbi (Zb (Zae ZaN (Zb (Za 3) (Zb (e2 Zaf (eC (.int 100)) (Za 2)) (Zj)))) (Zj))) (Zj))))))) (Zz (Zaj ZaY (Zb (Za 1) (Zj)))))
def Zeb : F3 := mkF 1 4 Zgm
def Za5 : S3 := Zr (Zac 4 (e2 Ze (Za 0) (eC (.int 0)))) (Zr (sIf (e2 Zaq (Za 4) (eC (.str [112, 117, 116]))) (Zd9 (Za 2) (e2 Ze (Za 0) (eC (.int 1))) (e2 Ze (Za 0) (eC (.int 2)))) (sIf (e2 Zaq (Za 4) (eC (.str [97, 100, 100]))) (Zd9 (Za 2) (e2 Ze (Za 0) (eC (.int 1))) (e2 Zaf (e2 Ze (Za 2) (e2 Ze (Za 0) (eC (.int 2)))) (e2 Ze (Za 2) (e2 Ze (Za 0) (eC (.int 3)))))) (sIf (e2 Zaq (Za 4) (eC (.str [115, 117, 98]))) (Zd9 (Za 2) (e2 Ze (Za 0) (eC (.int 1))) (e2 ZbU (e2 Ze (Za 2) (e2 Ze (Za 0) (eC (.int 2)))) (e2 Ze (Za 2) (e2 Ze (Za 0) (eC (.int 3)))))) (sIf (e2 Zaq (Za 4) (eC (.str [109, 111, 114, 101]))) (Zd9 (Za 2) (e2 Ze (Za 0) (eC (.int 1))) (Zaj ZlQ (Zb (e2 ZgJ (e2 Ze (Za 2) (e2 Ze (Za 0) (eC (.int 2)))) (e2 Ze (Za 2) (e2 Ze (Za 0) (eC (.int 3))))) (Zj)))) (sIf (e2 Zaq (Za 4) (eC (.str [103, 101, 116]))) (Zd9 (Za 2) (e2 Ze (Za 0) (eC (.int 1))) (ZeK Zkf ZlA (Za 3) (Zb (e2 Ze (Za 2) (e2 Ze (Za 0) (eC (.int 2)))) (Zb (eC (.int 0)) (Zj))))) (sIf (e2 Zaq (Za 4) (eC (.str [115, 101, 116]))) (Znw (Za 3) (e2 Ze (Za 2) (e2 Ze (Za 0) (eC (.int 1)))) (e2 Ze (Za 2) (e2 Ze (Za 0) (eC (.int 2))))) (sIf (eOr (e2 Zaq (Za 4) (eC (.str [106, 117, 109, 112]))) (ZdB (e2 Zaq (Za 4) (eC (.str [119, 104, 101, 110]))) (e2 ZgJ (e2 Ze (Za 2) (e2 Ze (Za 0) (eC (.int 1)))) (eC (.int 0))))) (Zz (e2 Ze (Za 0) (e1 ZdE (eC (.int 1))))) (Zw)))))))) (Zz (e2 Zaf (Za 1) (eC (.int 1)))))
def Zbt : F3 := mkF 4 5 Za5
def ZfY : S3 := Zr (Zac 3 (eC (.int 0))) (Zr (Zac 4 (Zaj Zfh (Zb (Za 1) (Zj)))) (Zr (Zac 5 (ZlC)) (Zr (Zac 6 (Zca (Zb (ZaH (Zb (eC (.int 0)) (Zb (Zaj ZaY (Zb (Za 1) (Zj))) (Zb (ZaH (Zj)) (Zj))))) (Zj)))) (Zr (Zll (ZdB (e2 Zb1 (e2 Ze (e2 Ze (Za 0) (Za 3)) (eC (.int 0))) (eC (.str [104, 97, 108, 116]))) (e2 ZjQ (Zaj ZaR (Zb (Za 6) (Zj))) (Za 2))) (Zr (Zac 3 (Zae Zbt (Zb (e2 Ze (Za 0) (Za 3)) (Zb (Za 3) (Zb (Za 4) (Zb (Za 5) (Zj))))))) (Zr (Zac 7 (Zlw (Za 5) 1 (Zcg 8) [e2 Zb1 (e2 ZdQ (Za 5) (Za 8)) (eC (.int 0))] (ZaH (Zb (Za 8) (Zb (e2 ZdQ (Za 5) (Za 8)) (Zj)))))) (Zal (ZeK tyL Zb8 (Za 6) (Zb (ZaH (Zb (Za 3) (Zb (Zaj ZaY (Zb (Za 4) (Zj))) (Zb (Zaj ZaY (Zb (Zaj Zbv (Zb (Za 7) (Zj))) (Zj))) (Zj))))) (Zj))))))) (Zz (Za 6))))))
def Zc2 : F3 := mkF 3 8 ZfY
def Zhe : S3 := Zr (Zac 2 (Zca (Zj))) (Zr (ZjB (ZbJ (e2 ZbU (Zaj ZaR (Zb (Za 1) (Zj))) (eC (.int 1)))) (Zcg 3) (Zr (ZeC (eSl (e2 Ze (Za 1) (Za 3)) (ZaD) (ZaE (eC (.int 2)))) (Zch [4, 5])) (Zr (Zac 6 (e2 Ze (Za 0) (Za 4))) (Zr (sIf (e2 Zaq (e2 Ze (Za 6) (eC (.int 0))) (eC (.str [103, 101, 116]))) (Zal (ZeK tyL Zb8 (Za 2) (Zb (ZaH (Zb (e2 Ze (Za 5) (e2 Ze (Za 6) (eC (.int 2)))) (Zb (Za 3) (Zb (eC (.str [103, 101, 116])) (Zb (e2 Ze (e2 Ze (e2 Ze (Za 1) (e2 Zaf (Za 3) (eC (.int 1)))) (eC (.int 1))) (e2 Ze (Za 6) (eC (.int 1)))) (Zj)))))) (Zj)))) (Zw)) (sIf (e2 Zaq (e2 Ze (Za 6) (eC (.int 0))) (eC (.str [115, 101, 116]))) (Zal (ZeK tyL Zb8 (Za 2) (Zb (ZaH (Zb (e2 Ze (Za 5) (e2 Ze (Za 6) (eC (.int 1)))) (Zb (Za 3) (Zb (eC (.str [115, 101, 116])) (Zb (e2 Ze (Za 5) (e2 Ze (Za 6) (eC (.int 2)))) (Zj)))))) (Zj)))) (Zw)))))) (Zz (Zaj ZaY (Zb (Zaj Zbv (Zb (Za 2) (Zj))) (Zj)))))
def ZeD : F3 := mkF 2 7 Zhe
def ZeF : S3 := Zr (sIf (e2 Zaq (Zaj ZaR (Zb (Za 0) (Zj))) (eC (.int 0))) (Zz (e2 Zaf (e2 Zdc (e2 Zdc (eC (.int 7)) (Za 1)) (Za 1)) (e2 Zdc (eC (.int 13)) (Za 1)))) (Zw)) (Zz (e2 Zaf (e2 Ze (Za 0) (e2 ZaJ (Za 1) (Zaj ZaR (Zb (Za 0) (Zj))))) (e2 ZaS (Za 1) (Zaj ZaR (Zb (Za 0) (Zj))))))
def Zbu : F3 := mkF 2 2 ZeF
def ZcJ : S3 := Zr (Zac 4 (e2 ZaJ (Za 3) (Zaj ZaR (Zb (Za 1) (Zj))))) (Zr (ZeC (e2 Ze (Za 1) (Za 4)) (Zch [5, 6])) (Zr (Zac 7 (e2 ZaJ (e2 ZaS (Za 3) (eC (.int 64))) (eC (.int 8)))) (Zr (sIf (e2 Zaq (Za 2) (eC (.int 0))) (Zr (Zac 8 (e2 ZbU (e2 Zaf (e2 Ze (Za 6) (Za 7)) (eC (.int 1))) (e2 Zdc (eC (.int 2)) (e2 ZaJ (e2 ZaS (Za 3) (eC (.int 512))) (eC (.int 2)))))) (Zz (e2 Zaf (e2 Zaf (eSl (Za 1) (ZaD) (ZaE (Za 4))) (Zca (Zb (ZaH (Zb (Za 5) (Zb (e2 Zaf (e2 Zaf (eSl (Za 6) (ZaD) (ZaE (Za 7))) (ZaH (Zb (Za 8) (Zj)))) (eSl (Za 6) (ZaE (e2 Zaf (Za 7) (eC (.int 1)))) (ZaD))) (Zj)))) (Zj)))) (eSl (Za 1) (ZaE (e2 Zaf (Za 4) (eC (.int 1)))) (ZaD))))) (Zw)) (Zr (sIf (e2 Zaq (Za 2) (eC (.int 1))) (Zz (e2 Zaf (e2 Zaf (eSl (Za 1) (ZaD) (ZaE (Za 4))) (Zca (Zb (ZaH (Zb (e2 ZbU (e2 ZaJ (e2 ZaS (Za 3) (eC (.int 64))) (e2 Zaf (Zaj ZaR (Zb (Za 0) (Zj))) (eC (.int 2)))) (eC (.int 1))) (Zb (Za 6) (Zj)))) (Zj)))) (eSl (Za 1) (ZaE (e2 Zaf (Za 4) (eC (.int 1)))) (ZaD)))) (Zw)) (Zr (sIf (e2 Zaq (Za 2) (eC (.int 2))) (Zz (eSl (Za 1) (ZaD) (ZaE (e1 ZdE (eC (.int 1)))))) (Zw)) (Zr (sIf (e2 Zaq (Za 2) (eC (.int 3))) (Zz (e2 Zaf (e2 Zaf (eSl (Za 1) (ZaD) (ZaE (Za 4))) (Zca (Zb (e2 Ze (Za 1) (Za 4)) (Zj)))) (eSl (Za 1) (ZaE (Za 4)) (ZaD)))) (Zw)) (Zr (sIf (e2 Zaq (Za 2) (eC (.int 4))) (Zz (e2 Zaf (eSl (Za 1) (ZaD) (ZaE (Za 4))) (eSl (Za 1) (ZaE (e2 Zaf (Za 4) (eC (.int 1)))) (ZaD)))) (Zw)) (Zz (e2 Zaf (Za 1) (Zca (Zb (ZaH (Zb (Za 5) (Zb (Za 6) (Zj)))) (Zj))))))))))))
def Za6 : F3 := mkF 4 9 ZcJ
def Zce : S3 := Zr (sIf (e2 Zaq (Zaj ZaR (Zb (Za 0) (Zj))) (eC (.int 0))) (Zz (Zca (Zb (ZaH (Zb (e2 ZbU (e2 ZaJ (Za 2) (eC (.int 5))) (eC (.int 2))) (Zb (e2 ZaJ (e2 ZaS (Za 2) (eC (.int 5))) (eC (.int 3))) (Zb (e2 Ze (Zca (Zb (eC (.str [103, 101, 116])) (Zb (eC (.str [115, 101, 116])) (Zj)))) (e2 ZaJ (Za 2) (eC (.int 2)))) (Zb (eC (.int 0)) (Zj)))))) (Zj)))) (Zw)) (Zr (Zac 3 (e2 ZaJ (Za 2) (Zaj ZaR (Zb (Za 0) (Zj))))) (Zr (ZeC (e2 Ze (Za 0) (Za 3)) (Zch [4, 5, 6, 7])) (Zr (sIf (e2 Zaq (Za 1) (eC (.int 6))) (Zz (e2 Zaf (eSl (Za 0) (ZaD) (ZaE (Za 3))) (eSl (Za 0) (ZaE (e2 Zaf (Za 3) (eC (.int 1)))) (ZaD)))) (Zw)) (Zr (sIf (e2 Zaq (Za 1) (eC (.int 7))) (Zz (e2 Zaf (e2 Zaf (eSl (Za 0) (ZaD) (ZaE (Za 3))) (Zca (Zb (e2 Ze (Za 0) (Za 3)) (Zj)))) (eSl (Za 0) (ZaE (Za 3)) (ZaD)))) (Zw)) (Zr (sIf (e2 Zaq (Za 1) (eC (.int 8))) (Zr (Zac 8 (e2 ZaJ (e2 ZaS (Za 2) (eC (.int 64))) (Zaj ZaR (Zb (Za 0) (Zj))))) (Zr (Zac 9 (Zaj Zfh (Zb (Za 0) (Zj)))) (Zr (ZjN (ZaH (Zb (e2 Ze (Za 0) (Za 8)) (Zb (e2 Ze (Za 0) (Za 3)) (Zj)))) (Za 9) (Za 3) (Za 9) (Za 8)) (Zz (Za 9))))) (Zw)) (Zr (Zac 10 (ZaH (Zb (Za 4) (Zb (Za 5) (Zb (Za 6) (Zb (e2 ZbU (e2 Zaf (Za 7) (eC (.int 1))) (e2 Zdc (eC (.int 2)) (e2 ZaJ (e2 ZaS (Za 2) (eC (.int 64))) (eC (.int 2))))) (Zj))))))) (Zr (sIf (e2 Zaq (Za 1) (eC (.int 9))) (Zac 10 (ZaH (Zb (e2 ZbU (e2 Zaf (Za 4) (eC (.int 1))) (e2 Zdc (eC (.int 2)) (e2 ZaJ (e2 ZaS (Za 2) (eC (.int 64))) (eC (.int 2))))) (Zb (Za 5) (Zb (Za 6) (Zb (Za 7) (Zj))))))) (Zw)) (Zr (sIf (e2 Zaq (Za 1) (eC (.int 10))) (Zac 10 (ZaH (Zb (Za 4) (Zb (e2 ZbU (e2 ZaJ (e2 ZaS (Za 2) (eC (.int 64))) (eC (.int 70))) (eC (.int 2))) (Zb (Za 6) (Zb (Za 7) (Zj))))))) (Zw)) (Zr (sIf (e2 Zaq (Za 1) (eC (.int 11))) (Zac 10 (ZaH (Zb (Za 4) (Zb (Za 5) (Zb (e2 Ze (Zca (Zb (eC (.str [103, 101, 116])) (Zb (eC (.str [115, 101, 116])) (Zb (eC (.str [116, 101, 108, 108])) (Zj))))) (e2 ZaJ (e2 ZaS (Za 2) (eC (.int 64))) (eC (.int 3)))) (Zb (Za 7) (Zj))))))) (Zw)) (Zr (Zac 9 (e2 Zaf (e2 Zaf (eSl (Za 0) (ZaD) (ZaE (Za 3))) (Zca (Zb (Za 10) (Zj)))) (eSl (Za 0) (ZaE (e2 Zaf (Za 3) (eC (.int 1)))) (ZaD)))) (Zz (e2 Ze (Zca (Zb (Za 9) (Zb (Zaj Zbv (Zb (Za 9) (Zj))) (Zj)))) (e2 ZaJ (e2 ZaS (Za 2) (eC (.int 4096))) (eC (.int 2)))))))))))))))
def Zbb : F3 := mkF 3 11 Zce
def ZcC : S3 := Zr (Zac 4 (e2 ZaJ (Za 3) (eC (.int 13)))) (Zr (Zac 5 (e2 ZaS (Za 3) (eC (.int 13)))) (Zr (sIf (ZdB (e2 Zh4 (Za 4) (eC (.int 6))) (e2 ZgJ (Zaj ZaR (Zb (Za 1) (Zj))) (eC (.int 0)))) (Zz (Zca (Zb (Zae Za6 (Zb (Za 0) (Zb (Za 1) (Zb (Za 4) (Zb (Za 5) (Zj)))))) (Zb (Za 2) (Zj))))) (Zw)) (Zr (sIf (e2 Zh4 (Za 4) (eC (.int 6))) (Zz (Zca (Zb (Za 1) (Zb (Za 2) (Zj))))) (Zw)) (Zz (Zca (Zb (Za 1) (Zb (Zae Zbb (Zb (Za 2) (Zb (Za 4) (Zb (Za 5) (Zj))))) (Zj))))))))
def ZaP : F3 := mkF 4 6 ZcC
def Zdw : S3 := Zr (ZeC (Za 1) (Zch [3, 4])) (Zr (sIf (eOr (e2 Zh4 (Za 3) (eC (.int 0))) (eOr (e2 ZhY (Za 3) (Zaj ZaR (Zb (Za 0) (Zj)))) (e2 Zaq (e2 Ze (e2 Ze (Za 0) (Za 3)) (eC (.int 0))) (eC (.str [104, 97, 108, 116]))))) (Zz (eC (.bl false))) (Zw)) (Zr (Zac 5 (Zaj Zfh (Zb (Za 4) (Zj)))) (Zr (Zac 6 (Zae Zbt (Zb (e2 Ze (Za 0) (Za 3)) (Zb (Za 3) (Zb (Za 5) (Zb (ZlC) (Zj))))))) (Zr (sIf (e2 Zaq (e2 Ze (e2 Ze (Za 0) (Za 3)) (eC (.int 0))) (eC (.str [103, 101, 116]))) (Zd9 (Za 5) (e2 Ze (e2 Ze (Za 0) (Za 3)) (eC (.int 1))) (e2 Ze (e2 Ze (Za 2) (eC (.int 1))) (e2 Ze (e2 Ze (Za 0) (Za 3)) (eC (.int 1))))) (Zw)) (Zz (e2 Zaq (Za 2) (ZaH (Zb (Za 6) (Zb (Zaj ZaY (Zb (Za 5) (Zj))) (Zj))))))))))
def ZbF : F3 := mkF 3 7 Zdw
def ZdG : S3 := Zr (sIf (eOr (e2 Zaq (Zaj ZaR (Zb (Za 2) (Zj))) (eC (.int 0))) (e2 Zb1 (e2 Ze (Za 2) (eC (.int 0))) (ZaH (Zb (eC (.int 0)) (Zb (Za 1) (Zj)))))) (Zz (ZaH (Zb (eC (.str [98, 101, 103, 105, 110])) (Zb (eC (.int 0)) (Zj))))) (Zw)) (Zr (Zac 3 (eLC (ZbJ (e2 ZbU (Zaj ZaR (Zb (Za 2) (Zj))) (eC (.int 1)))) 1 (Zcg 5) [e1 Zb5 (Zae ZbF (Zb (Za 0) (Zb (e2 Ze (Za 2) (Za 5)) (Zb (e2 Ze (Za 2) (e2 Zaf (Za 5) (eC (.int 1)))) (Zj)))))] (Za 5))) (Zr (sIf (e2 Zb1 (Za 3) (Zca (Zj))) (Zz (ZaH (Zb (eC (.str [115, 116, 101, 112])) (Zb (e2 Ze (Za 3) (eC (.int 0))) (Zj))))) (Zw)) (Zr (Zac 4 (e2 Ze (e2 Ze (Za 2) (e1 ZdE (eC (.int 1)))) (eC (.int 0)))) (Zr (sIf (eOr (e2 Zh4 (Za 4) (eC (.int 0))) (eOr (e2 ZhY (Za 4) (Zaj ZaR (Zb (Za 0) (Zj)))) (e2 Zb1 (e2 Ze (e2 Ze (Za 0) (Za 4)) (eC (.int 0))) (eC (.str [104, 97, 108, 116]))))) (Zz (ZaH (Zb (eC (.str [101, 110, 100])) (Zb (e2 ZbU (Zaj ZaR (Zb (Za 2) (Zj))) (eC (.int 1))) (Zj))))) (Zw)) (Zz (eC .non))))))
def ZbP : F3 := mkF 3 5 ZdG
def ZeQ : S3 := Zr (ZeC (e2 Ze (Za 0) (Za 1)) (Zch [2, 3, 4, 5])) (Zr (Zac 6 (eC (.int 0))) (Zr (sIf (e2 ZgJ (Za 1) (eC (.int 0))) (Zr (Zac 7 (e2 Ze (Za 0) (e2 ZbU (Za 1) (eC (.int 1))))) (Zr (sIf (eOr (e2 Zh4 (Za 2) (e2 Ze (Za 7) (eC (.int 0)))) (ZdB (e2 Zaq (Za 2) (e2 Ze (Za 7) (eC (.int 0)))) (e2 ZjQ (Za 3) (e2 Ze (Za 7) (eC (.int 1)))))) (Zz (eC (.bl false))) (Zw)) (sIf (e2 Zaq (Za 2) (e2 Ze (Za 7) (eC (.int 0)))) (Zac 6 (e2 Ze (Za 7) (eC (.int 3)))) (Zw)))) (Zw)) (Zz (eOr (e2 Zb1 (Za 4) (eC (.str [103, 101, 116]))) (e2 Zaq (Za 5) (Za 6))))))
def ZbQ : F3 := mkF 2 8 ZeQ
def Zey : S3 := Zr (ZeC (Za 2) (Zch [3, 4, 5, 6])) (Zr (sIf (eOr (e2 Zh4 (Za 4) (eC (.int 0))) (e2 ZhY (e2 Zaf (Za 4) (eC (.int 1))) (Zaj ZaR (Zb (Za 1) (Zj))))) (Zz (eC (.bl false))) (Zw)) (Zr (Zac 7 (e2 Ze (e2 Ze (Za 1) (Za 4)) (eC (.int 1)))) (Zr (Zac 8 (e2 Ze (Za 0) (e2 Ze (e2 Ze (Za 1) (Za 4)) (eC (.int 0))))) (Zr (sIf (ZdB (e2 Zaq (e2 Ze (Za 8) (eC (.int 0))) (eC (.str [103, 101, 116]))) (e2 Zaq (Za 5) (eC (.str [103, 101, 116])))) (Zz (ZdB (e2 Zaq (e2 Ze (Za 7) (e2 Ze (Za 8) (eC (.int 2)))) (Za 3)) (e2 Zaq (e2 Ze (e2 Ze (e2 Ze (Za 1) (e2 Zaf (Za 4) (eC (.int 1)))) (eC (.int 1))) (e2 Ze (Za 8) (eC (.int 1)))) (Za 6)))) (Zw)) (Zr (sIf (ZdB (e2 Zaq (e2 Ze (Za 8) (eC (.int 0))) (eC (.str [115, 101, 116]))) (e2 Zaq (Za 5) (eC (.str [115, 101, 116])))) (Zz (ZdB (e2 Zaq (e2 Ze (Za 7) (e2 Ze (Za 8) (eC (.int 1)))) (Za 3)) (e2 Zaq (e2 Ze (Za 7) (e2 Ze (Za 8) (eC (.int 2)))) (Za 6)))) (Zw)) (Zz (eC (.bl false))))))))
def ZbZ : F3 := mkF 3 9 Zey
def Zge : S3 := Zr (Zac 4 (Zae ZbP (Zb (Za 0) (Zb (Za 1) (Zb (Za 2) (Zj)))))) (Zr (sIf (e2 Zdv (Za 4) (eC .non)) (Zz (Za 4)) (Zw)) (Zr (Zac 5 (eLC (ZbJ (Zaj ZaR (Zb (Za 3) (Zj)))) 1 (Zcg 6) [e1 Zb5 (Zae ZbQ (Zb (Za 3) (Zb (Za 6) (Zj))))] (Za 6))) (Zr (sIf (e2 Zb1 (Za 5) (Zca (Zj))) (Zz (ZaH (Zb (eC (.str [117, 115, 101])) (Zb (e2 Ze (Za 5) (eC (.int 0))) (Zj))))) (Zw)) (Zr (Zac 5 (eLC (ZbJ (Zaj ZaR (Zb (Za 3) (Zj)))) 1 (Zcg 6) [e1 Zb5 (Zae ZbZ (Zb (Za 0) (Zb (Za 2) (Zb (e2 Ze (Za 3) (Za 6)) (Zj)))))] (Za 6))) (Zr (sIf (e2 Zb1 (Za 5) (Zca (Zj))) (Zz (ZaH (Zb (eC (.str [109, 97, 116, 99, 104])) (Zb (e2 Ze (Za 5) (eC (.int 0))) (Zj))))) (Zw)) (Zr (sIf (e2 Zb1 (Zaj ZaR (Zb (eLC (Zhq (eSl (Za 2) (ZaD) (ZaE (e1 ZdE (eC (.int 1)))))) 1 (Zcg 6) [e2 Zlc (e2 Ze (e2 Ze (Za 0) (e2 Ze (Za 6) (eC (.int 0)))) (eC (.int 0))) (ZaH (Zb (eC (.str [103, 101, 116])) (Zb (eC (.str [115, 101, 116])) (Zj))))] (Za 6)) (Zj))) (Zaj ZaR (Zb (Za 3) (Zj)))) (Zz (ZaH (Zb (eC (.str [99, 111, 117, 110, 116])) (Zb (Zaj ZaR (Zb (Za 3) (Zj))) (Zj))))) (Zw)) (Zz (eC .non))))))))
def Zer : F3 := mkF 4 6 Zge
def ZeE : S3 := Zr (sIf (e2 Zj9 (Za 1) (eC .non)) (Zz (e2 Zj9 (Za 0) (eC .non))) (Zw)) (Zr (sIf (eOr (e1 Zb5 (e1 (Zga .tuple) (Za 0))) (eOr (e2 Zb1 (Zaj ZaR (Zb (Za 0) (Zj))) (eC (.int 2))) (e1 Zb5 (e1 (Zga .str) (e2 Ze (Za 0) (eC (.int 0))))))) (Zz (eC (.bl false))) (Zw)) (Zz (ZdB (e1 (Zga .int) (e2 Ze (Za 0) (eC (.int 1)))) (ZdB (e1 Zb5 (e1 (Zga .bool) (e2 Ze (Za 0) (eC (.int 1))))) (e2 Zaq (Za 0) (Za 1))))))
def Zdn : F3 := mkF 2 2 ZeE
def ZmT : S3 := Zr (Zac 1 (Zae ZdY (Zb (Za 0) (Zj)))) (Zr (Zac 2 (Zae Zeb (Zb (Za 0) (Zj)))) (Zr (Zac 3 (Zae Zc2 (Zb (Za 1) (Zb (Za 2) (Zb (eC (.int 60)) (Zj)))))) (Zr (Zac 4 (eLC (Zhq (Za 3)) 1 (Zcg 10) [] (ZaH (Zb (e2 Ze (Za 10) (eC (.int 0))) (Zb (e2 Ze (Za 10) (eC (.int 1))) (Zj)))))) (Zr (Zac 5 (Zaj Zfh (Zb (Zae ZeD (Zb (Za 1) (Zb (Za 3) (Zj)))) (Zj)))) (Zr (ZjB (ZbJ (e2 ZaJ (Zae ZaN (Zb (Zae Zbu (Zb (Za 0) (Zb (eC (.int 1)) (Zj)))) (Zb (eC (.int 800)) (Zj)))) (eC (.int 5)))) (Zcg 6) (Zr (Zac 7 (Zae ZaN (Zb (Zae Zbu (Zb (Za 0) (Zb (e2 Zaf (eC (.int 2)) (Za 6)) (Zj)))) (Zb (e2 Zaf (eC (.int 810)) (Za 6)) (Zj))))) (Zr (Zi4 (Zae ZaP (Zb (Za 1) (Zb (Za 4) (Zb (Za 5) (Zb (Za 7) (Zj)))))) [4, 5]) (sIf (e2 Zaq (e2 ZaJ (e2 ZaS (Za 7) (eC (.int 13))) (eC (.int 60))) (eC (.int 7))) (Zac 2 (e2 Zaf (eSl (Za 2) (ZaE (eC (.int 1))) (ZaD)) (eSl (Za 2) (ZaD) (ZaE (eC (.int 1)))))) (Zw))))) (Zr (Zac 8 (Zca (Zb (Zaj ZaY (Zb (Za 4) (Zj))) (Zb (Zaj ZaY (Zb (Za 5) (Zj))) (Zb (Zaj ZaY (Zb (Zaj Zfh (Zb (Za 1) (Zj))) (Zj))) (Zj)))))) (Zr (Zac 9 (Zae Zht (Zb (Za 1) (Zb (Za 2) (Zb (e2 Ze (Za 8) (eC (.int 0))) (Zb (e2 Ze (Za 8) (eC (.int 1))) (Zj))))))) (Zr (sIf (e1 Zb5 (Zae Zdn (Zb (Za 9) (Zb (Zae Zer (Zb (Za 1) (Zb (Za 2) (Zb (Zaj ZaY (Zb (Za 4) (Zj))) (Zb (Zaj ZaY (Zb (Za 5) (Zj))) (Zj)))))) (Zj))))) (Zz (eC (.bl false))) (Zw)) (Zz (e2 Zaq (Za 8) (Zca (Zb (Zaj ZaY (Zb (Za 4) (Zj))) (Zb (Zaj ZaY (Zb (Za 5) (Zj))) (Zb (Za 1) (Zj)))))))))))))))
def ZlK : F3 := mkF 1 10 ZmT
end
end Law
namespace Law
open PySem PySem.Spec PyProof.Rows L2 L3
def top (i : Nat) : Stmt := PySem.Challenge.pw_stepledger_k34_fault_is_the_first.main.body.getD i (.Pass ⟨0, 0, 0, 0⟩)
abbrev ZcR : Stmt := top 1
abbrev ZcQ : Stmt := top 2
abbrev ZeW : Stmt := top 3
abbrev ZdJ : Stmt := top 4
abbrev ZcO : Stmt := top 5
abbrev Zdf : Stmt := top 7
abbrev ZeR : Stmt := top 9
abbrev Zcx : Stmt := top 10
abbrev Zdb : Stmt := top 12
abbrev ZeX : Stmt := top 13
abbrev Zci : Stmt := top 14
abbrev ZdH : Stmt := top 15
abbrev Zcy : Stmt := top 16
abbrev Zby : Stmt := top 17
abbrev ZbE : Stmt := top 18
abbrev Zbg : Stmt := top 19
abbrev ZfG : Stmt := top 20
abbrev ZbS : Stmt := top 21
abbrev Zb4 : Stmt := top 22
abbrev ZdO : Stmt := top 24
abbrev ZcA : Stmt := top 25
abbrev ZdI : Stmt := top 26
abbrev Zda : Stmt := top 27
abbrev ZcS : Stmt := top 28
abbrev Zdk : Stmt := top 29
abbrev Zcz : Stmt := top 30
abbrev Zdm : Stmt := top 31
abbrev Zdg : Stmt := top 32
abbrev Zbm : Stmt := top 33
abbrev Zbr : Stmt := top 34
abbrev Zbf : Stmt := top 35
abbrev ZbD : Stmt := top 36
abbrev ZbR : Stmt := top 37
abbrev ZbT : Stmt := top 38
abbrev Zbx : Stmt := top 39
abbrev ZdS : Stmt := top 40
abbrev Zdh : Stmt := top 41
abbrev Zgk : Stmt := top 42
structure Txt (K : W.Frag) (mg : Str → Option Value) : Prop where
  kin : True
  m_bool : mg "bool" = none
  m_dict : mg "dict" = none
  m_enumerate : mg "enumerate" = none
  m_int : mg "int" = none
  m_isinstance : mg "isinstance" = none
  m_len : mg "len" = none
  m_list : mg "list" = none
  m_range : mg "range" = none
  m_sorted : mg "sorted" = none
  m_str : mg "str" = none
  m_tuple : mg "tuple" = none
section
variable {P : Program} {w : World} {K : W.Frag} {mg : Str → Option Value} {base : Heap}
theorem Zis : Zaz ["row", "place", "boxes"] ["row", "place", "boxes"] (Zt ZcR) := ⟨rfl, rfl, rfl, by decide +kernel, rfl, by decide +kernel, by decide +kernel⟩
theorem Ziw (A : Zav K mg "next_place" ZcR ["row", "place", "boxes"]) (T : Txt K mg) : Fn3 P w K mg base 1 "next_place" ["row", "place", "boxes"] ZbK :=
  Fn3.of (N := ["row", "place", "boxes"]) (k := 0) A Zis fun f cdv A outer s H E hr => by
    have hu := Zcu hr
    unfold Zdr
    refine Zh ?_ ?_
    ·exact Zar (Zaa ((Zbj hu)) (Zv Zu (Zc 0) Zi) Zan) (Zo (Zab (Zv Zu (Zc 0) Zi))) Zad
    ·refine Zh ?_ ?_
     ·refine Zar ?_ ?_ ?_
      ·exact CW.ct (Ze4 (Zaa ((Zbj hu)) (Zv Zu (Zc 0) Zi) Zan) (Zef (Zaa ZkH (Zv Zu (Zc 2) (Zv Zu (Zc 0) Zi)) Zi)))
      ·exact Zo (Zab (Zv Zu (Zc 0) Zi))
      ·exact Zad
     ·exact Zo (Zab (Zx ZaQ (Zc 1) Zi))
theorem Zl7 : Zaz ["name", "one", "other"] ["name", "one", "other"] (Zt ZeW) := ⟨rfl, rfl, rfl, by decide +kernel, rfl, by decide +kernel, by decide +kernel⟩
theorem ZmQ (A : Zav K mg "worked" ZeW ["name", "one", "other"]) (T : Txt K mg) : Fn3 P w K mg base 1 "worked" ["name", "one", "other"] Zc0 :=
  Fn3.of (N := ["name", "one", "other"]) (k := 0) A Zl7 fun f cdv A outer s H E hr => by
    have hu := Zcu hr
    unfold Zfz
    refine Zh ?_ ?_
    ·exact Zar (Zaa ((Zbj hu)) (Zc 0) Zan) (Zo (Zab (Zx ZaQ (Zc 1) (Zc 2)))) Zad
    ·exact Zh (Zar (Zaa ((Zbj hu)) (Zc 0) Zan) (Zo (Zab (Zx Zd0 (Zc 1) (Zc 2)))) Zad) (Zo (Zab (ZmW (Zaa ZkH (Zc 1) (Zc 2)) Zi Zi)))
theorem Zj2 : Zaz ["boxes", "box", "value"] ["boxes", "box", "value"] (Zt ZdJ) := ⟨rfl, rfl, rfl, by decide +kernel, rfl, by decide +kernel, by decide +kernel⟩
theorem ZjU (A : Zav K mg "with_box" ZdJ ["boxes", "box", "value"]) (T : Txt K mg) : Fn3 P w K mg base 1 "with_box" ["boxes", "box", "value"] Zcd :=
  Fn3.of (N := ["boxes", "box", "value"]) (k := 0) A Zj2 fun f cdv A outer s H E hr => by
    have hu := Zcu hr
    unfold Zh3
    refine Zo ?_
    refine Zab ?_
    refine Zx ?_ ?_ ?_
    ·exact ZaQ
    ·exact Zx ZaQ (ZdM ZdL (Zc 0) Zba (Za9 (Zc 1))) (Za2 (Zd (Zc 2) Zk))
    ·exact ZdM ZdL (Zc 0) (Za9 (Zx ZaQ (Zc 1) Zi)) Zba
theorem Zir : Zaz ["cells", "number"] ["cells", "number"] (Zt ZcO) := ⟨rfl, rfl, rfl, by decide +kernel, rfl, by decide +kernel, by decide +kernel⟩
theorem Zio (A : Zav K mg "cell_value" ZcO ["cells", "number"]) (T : Txt K mg) : Fn3 P w K mg base 1 "cell_value" ["cells", "number"] ZcP :=
  Fn3.of (N := ["cells", "number"]) (k := 0) A Zir fun f cdv A outer s H E hr => by
    have hu := Zcu hr
    unfold Zgi
    exact Zo (Zab (Znk hu (ZcV (T := "dict") ((ZpQ rfl)) T.m_dict Zo3 (Zd (Zc 0) Zk)) (Zc 1) Zi))
theorem ZfX : Zaz ["row", "boxes", "cells", "name"] ["row", "boxes", "cells"] (Zt ZcQ) := ⟨rfl, rfl, rfl, by decide +kernel, rfl, by decide +kernel, by decide +kernel⟩
theorem Zim (A : Zav K mg "next_boxes" ZcQ ["row", "boxes", "cells"]) (T : Txt K mg) (F_worked : Fn3 P w K mg base 1 "worked" ["name", "one", "other"] Zc0) (F_with_box : Fn3 P w K mg base 1 "with_box" ["boxes", "box", "value"] Zcd) (F_cell_value : Fn3 P w K mg base 1 "cell_value" ["cells", "number"] ZcP) : Fn3 P w K mg base 2 "next_boxes" ["row", "boxes", "cells"] Zee :=
  Fn3.of (N := ["row", "boxes", "cells", "name"]) (k := 1) A ZfX fun f cdv A outer s H E hr => by
    have hu := Zcu hr
    unfold Ze5
    refine Zh ?_ ?_
    ·exact Zah 3 ZfX.nd (Zv Zu (Zc 0) Zi)
    ·refine Zh ?_ ?_
     ·refine Zar ?_ ?_ ?_
      ·exact Zaa ((Zbj hu)) (Zc 3) Zan
      ·exact Zo (Zab (ZaC (k := 1) (ps := ["boxes", "box", "value"]) F_with_box (hr.mono (by decide)) (Zd (Zc 1) (Zd (Zv Zu (Zc 0) Zi) (Zd (Zv Zu (Zc 0) Zi) Zk)))))
      ·exact Zad
     ·refine Zh ?_ ?_
      ·refine Zar ?_ ?_ ?_
       ·exact Zaa ((Zbj hu)) (Zc 3) Zan
       ·refine Zo ?_
        refine Zab ?_
        refine ZaC (k := 1) (ps := ["boxes", "box", "value"]) ?_ ?_ ?_
        ·exact F_with_box
        ·exact hr.mono (by decide)
        ·refine Zd ?_ ?_
         ·exact Zc 1
         ·exact Zd (Zv Zu (Zc 0) Zi) (Zd (ZaC (k := 1) (ps := ["cells", "number"]) F_cell_value (hr.mono (by decide)) (Zd (Zc 2) (Zd (Zv Zu (Zc 1) (Zv Zu (Zc 0) Zi)) Zk))) Zk)
       ·exact Zad
      ·refine Zh ?_ ?_
       ·refine Zar ?_ ?_ ?_
        ·exact Zaa ((Zor hu)) (Zc 3) (Za2 (Zd Zan (Zd Zan (Zd Zan Zk))))
        ·refine Zo ?_
         refine Zab ?_
         refine ZaC (k := 1) (ps := ["boxes", "box", "value"]) ?_ ?_ ?_
         ·exact F_with_box
         ·exact hr.mono (by decide)
         ·refine Zd ?_ ?_
          ·exact Zc 1
          ·refine Zd ?_ ?_
           ·exact Zv Zu (Zc 0) Zi
           ·refine Zd ?_ ?_
            ·exact ZaC (k := 1) (ps := ["name", "one", "other"]) F_worked (hr.mono (by decide)) (Zd (Zc 3) (Zd (Zv Zu (Zc 1) (Zv Zu (Zc 0) Zi)) (Zd (Zv Zu (Zc 1) (Zv Zu (Zc 0) Zi)) Zk)))
            ·exact Zk
        ·exact Zad
       ·exact Zo (Zab (Zc 1))
theorem ZjH : Zaz ["number", "many"] ["number", "many"] (Zt Zdf) := ⟨rfl, rfl, rfl, by decide +kernel, rfl, by decide +kernel, by decide +kernel⟩
theorem Zjz (A : Zav K mg "is_within" Zdf ["number", "many"]) (T : Txt K mg) : Fn3 P w K mg base 1 "is_within" ["number", "many"] Zb6 :=
  Fn3.of (N := ["number", "many"]) (k := 0) A ZjH fun f cdv A outer s H E hr => by
    have hu := Zcu hr
    unfold Zfp
    exact Zo (Zab (Zi8 (Zc3 Znx (Zc 0) Zi) (ZiN (Zc3 ZkA (Zc 0) (Zc 1)))))
theorem Zme : Zaz ["row"] ["row"] (Zt ZeR) := ⟨rfl, rfl, rfl, by decide +kernel, rfl, by decide +kernel, by decide +kernel⟩
theorem Zmy (A : Zav K mg "is_use" ZeR ["row"]) (T : Txt K mg) : Fn3 P w K mg base 1 "is_use" ["row"] Zcw :=
  Fn3.of (N := ["row"]) (k := 0) A Zme fun f cdv A outer s H E hr => by
    have hu := Zcu hr
    unfold Zib
    exact Zo (Zab (Zc3 ((Zor hu)) (Zv Zu (Zc 0) Zi) (Za2 (Zd Zan (Zd Zan Zk)))))
theorem Zij : Zaz ["row", "boxes"] ["row", "boxes"] (Zt Zcx) := ⟨rfl, rfl, rfl, by decide +kernel, rfl, by decide +kernel, by decide +kernel⟩
theorem Zii (A : Zav K mg "cell_number" Zcx ["row", "boxes"]) (T : Txt K mg) : Fn3 P w K mg base 1 "cell_number" ["row", "boxes"] Zbp :=
  Fn3.of (N := ["row", "boxes"]) (k := 0) A Zij fun f cdv A outer s H E hr => by
    have hu := Zcu hr
    unfold ZdV
    refine Zo ?_
    refine Zab ?_
    exact ZmW (Zaa ((Zbj hu)) (Zv Zu (Zc 0) Zi) Zan) (Zv Zu (Zc 1) (Zv Zu (Zc 0) Zi)) (Zv Zu (Zc 1) (Zv Zu (Zc 0) Zi))
theorem ZmH : Zaz ["roll", "place"] ["roll", "place"] (Zt ZeX) := ⟨rfl, rfl, rfl, by decide +kernel, rfl, by decide +kernel, by decide +kernel⟩
theorem ZmC (A : Zav K mg "row_at" ZeX ["roll", "place"]) (T : Txt K mg) (F_is_within : Fn3 P w K mg base 1 "is_within" ["number", "many"] Zb6) : Fn3 P w K mg base 2 "row_at" ["roll", "place"] Zc4 :=
  Fn3.of (N := ["roll", "place"]) (k := 1) A ZmH fun f cdv A outer s H E hr => by
    have hu := Zcu hr
    unfold Zj3
    refine Zo ?_
    exact Zab (ZmW (Zdx (ZaC (k := 1) (ps := ["number", "many"]) F_is_within (hr.mono (by decide)) (Zd (Zc 1) (Zd (Zbn (id := "len") Zbs T.m_len ZaX (Zd (Zc 0) Zk)) Zk)))) (Zv Zu (Zc 0) (Zc 1)) Zdd)
theorem Zhi : Zaz ["roll_row", "boxes", "told_boxes"] ["roll_row", "boxes", "told_boxes"] (Zt Zci) := ⟨rfl, rfl, rfl, by decide +kernel, rfl, by decide +kernel, by decide +kernel⟩
theorem Zhl (A : Zav K mg "boxes_behind" Zci ["roll_row", "boxes", "told_boxes"]) (T : Txt K mg) (F_next_boxes : Fn3 P w K mg base 2 "next_boxes" ["row", "boxes", "cells"] Zee) (F_with_box : Fn3 P w K mg base 1 "with_box" ["boxes", "box", "value"] Zcd) : Fn3 P w K mg base 3 "boxes_behind" ["roll_row", "boxes", "told_boxes"] ZbV :=
  Fn3.of (N := ["roll_row", "boxes", "told_boxes"]) (k := 2) A Zhi fun f cdv A outer s H E hr => by
    have hu := Zcu hr
    unfold ZfA
    refine Zh ?_ ?_
    ·refine Zar ?_ ?_ ?_
     ·exact Zaa ((Zbj hu)) (Zv Zu (Zc 0) Zi) Zan
     ·exact Zo (Zab (ZaC (k := 1) (ps := ["boxes", "box", "value"]) F_with_box (hr.mono (by decide)) (Zd (Zc 1) (Zd (Zv Zu (Zc 0) Zi) (Zd (Zv Zu (Zc 2) (Zv Zu (Zc 0) Zi)) Zk)))))
     ·exact Zad
    ·exact Zo (Zab (ZaC (k := 2) (ps := ["row", "boxes", "cells"]) F_next_boxes (hr.mono (by decide)) (Zd (Zc 0) (Zd (Zc 1) (Zd (Za2 Zk) Zk)))))
theorem Zeg : Zaz ["roll", "row", "behind", "place", "boxes", "roll_row"] ["roll", "row", "behind"] (Zt Zdb) := ⟨rfl, rfl, rfl, by decide +kernel, rfl, by decide +kernel, by decide +kernel⟩
theorem Zjj (A : Zav K mg "step_fits" Zdb ["roll", "row", "behind"]) (T : Txt K mg) (F_next_place : Fn3 P w K mg base 1 "next_place" ["row", "place", "boxes"] ZbK) (F_row_at : Fn3 P w K mg base 2 "row_at" ["roll", "place"] Zc4) (F_boxes_behind : Fn3 P w K mg base 3 "boxes_behind" ["roll_row", "boxes", "told_boxes"] ZbV) : Fn3 P w K mg base 4 "step_fits" ["roll", "row", "behind"] Zdi :=
  Fn3.of (N := ["roll", "row", "behind", "place", "boxes", "roll_row"]) (k := 3) A Zeg fun f cdv A outer s H E hr => by
    have hu := Zcu hr
    unfold Zhc
    refine Zh ?_ ?_
    ·exact Zah 3 Zeg.nd (Zv Zu (Zc 1) Zi)
    ·refine Zh ?_ ?_
     ·exact Zah 4 Zeg.nd (Zv Zu (Zc 1) Zi)
     ·refine Zh ?_ ?_
      ·exact Zah 5 Zeg.nd (ZaC (k := 2) (ps := ["roll", "place"]) F_row_at (hr.mono (by decide)) (Zd (Zc 0) (Zd (Zc 3) Zk)))
      ·refine Zh ?_ ?_
       ·exact Zar (CW.ct (ZeB (Zaa ZoW (Zc 5) Zdd) (Zep (Zaa ((Zbj hu)) (Zv Zu (Zc 5) Zi) Zan)))) (Zo (Zab Zhh)) Zad
       ·refine Zo ?_
        refine Zab ?_
        refine Zc3 ?_ ?_ ?_
        ·exact (Zbj hu)
        ·exact Zc 2
        ·refine Za2 ?_
         refine Zd ?_ ?_
         ·exact ZaC (k := 1) (ps := ["row", "place", "boxes"]) F_next_place (hr.mono (by decide)) (Zd (Zc 5) (Zd (Zc 3) (Zd (Zc 4) Zk)))
         ·exact Zd (ZaC (k := 3) (ps := ["roll_row", "boxes", "told_boxes"]) F_boxes_behind (hr.mono (by decide)) (Zd (Zc 5) (Zd (Zc 4) (Zd (Zv Zu (Zc 2) Zi) Zk)))) Zk
theorem Zhf : Zaz ["ahead", "row", "same"] ["ahead", "row"] (Zt ZdH) := ⟨rfl, rfl, rfl, by decide +kernel, rfl, by decide +kernel, by decide +kernel⟩
theorem ZkI (A : Zav K mg "use_fits" ZdH ["ahead", "row"]) (T : Txt K mg) : Fn3 P w K mg base 1 "use_fits" ["ahead", "row"] Zbl :=
  Fn3.of (N := ["ahead", "row", "same"]) (k := 0) A Zhf fun f cdv A outer s H E hr => by
    have hu := Zcu hr
    unfold Zcc
    refine Zh ?_ ?_
    ·refine Zar ?_ ?_ ?_
     ·exact CW.ct (Ze4 (Zaa Zfd (Zc 0) Zdd) (Zef (Zaa ((Zq5 hu)) (ZdM ZdL (Zc 1) Zba (Za9 Zi)) (ZdM ZdL (Zc 0) Zba (Za9 Zi)))))
     ·exact Zo (Zab Zhh)
     ·exact Zad
    ·refine Zh ?_ ?_
     ·exact Zar (Zaa ((ZfS hu)) (Zv Zu (Zc 1) Zi) Zan) (Zo (Zab Zhh)) Zad
     ·refine Zh ?_ ?_
      ·exact Zah 2 Zhf.nd (Zi8 (Zc3 Zfd (Zc 0) Zdd) (ZiN (Zc3 ((Zbj hu)) (Zv Zu (Zc 0) Zi) (Zv Zu (Zc 1) Zi))))
      ·exact Zo (Zab (Zc3 ((Zbj hu)) (Zv Zu (Zc 1) Zi) (ZmW (Zdx (Zc 2)) (Zv Zu (Zc 0) Zi) Zi)))
theorem ZdA : Zaz ["roll", "steps", "row", "time", "boxes", "roll_row"] ["roll", "steps", "row"] (Zt Zcy) := ⟨rfl, rfl, rfl, by decide +kernel, rfl, by decide +kernel, by decide +kernel⟩
theorem ZhC (A : Zav K mg "use_matches" Zcy ["roll", "steps", "row"]) (T : Txt K mg) (F_is_within : Fn3 P w K mg base 1 "is_within" ["number", "many"] Zb6) (F_is_use : Fn3 P w K mg base 1 "is_use" ["row"] Zcw) (F_cell_number : Fn3 P w K mg base 1 "cell_number" ["row", "boxes"] Zbp) (F_row_at : Fn3 P w K mg base 2 "row_at" ["roll", "place"] Zc4) : Fn3 P w K mg base 3 "use_matches" ["roll", "steps", "row"] Zcb :=
  Fn3.of (N := ["roll", "steps", "row", "time", "boxes", "roll_row"]) (k := 2) A ZdA fun f cdv A outer s H E hr => by
    have hu := Zcu hr
    unfold ZfV
    refine Zh ?_ ?_
    ·exact Zah 3 ZdA.nd (Zv Zu (Zc 2) Zi)
    ·refine Zh ?_ ?_
     ·refine Zar ?_ ?_ ?_
      ·exact Zem (Zdx (ZaC (k := 1) (ps := ["number", "many"]) F_is_within (hr.mono (by decide)) (Zd (Zc 3) (Zd (Zx Zd0 (Zbn (id := "len") Zbs T.m_len ZaX (Zd (Zc 1) Zk)) Zi) Zk))))
      ·exact Zo (Zab Zhh)
      ·exact Zad
     ·refine Zh ?_ ?_
      ·exact Zah 4 ZdA.nd (Zv Zu (Zv Zu (Zc 1) (Zc 3)) Zi)
      ·refine Zh ?_ ?_
       ·exact Zah 5 ZdA.nd (ZaC (k := 2) (ps := ["roll", "place"]) F_row_at (hr.mono (by decide)) (Zd (Zc 0) (Zd (Zv Zu (Zv Zu (Zc 1) (Zc 3)) Zi) Zk)))
       ·refine Zh ?_ ?_
        ·refine Zar ?_ ?_ ?_
         ·refine CW.ct ?_
          refine ZeB ?_ ?_
          ·exact Zaa ZoW (Zc 5) Zdd
          ·exact ZeB (Zem (Zdx (ZaC (k := 1) (ps := ["row"]) F_is_use (hr.mono (by decide)) (Zd (Zc 5) Zk)))) (Zep (Zaa ((ZfS hu)) (Zv Zu (Zc 2) Zi) (Zv Zu (Zc 5) Zi)))
         ·exact Zo (Zab Zhh)
         ·exact Zad
        ·refine Zh ?_ ?_
         ·exact Zar (Zaa ((ZfS hu)) (Zv Zu (Zc 2) Zi) (ZaC (k := 1) (ps := ["row", "boxes"]) F_cell_number (hr.mono (by decide)) (Zd (Zc 5) (Zd (Zc 4) Zk)))) (Zo (Zab Zhh)) Zad
         ·refine Zh ?_ ?_
          ·refine Zar ?_ ?_ ?_
           ·exact Zaa ((Zbj hu)) (Zv Zu (Zc 5) Zi) Zan
           ·refine Zo ?_
            refine Zab ?_
            exact Zc3 ((Zbj hu)) (Zv Zu (Zc 2) Zi) (Zv Zu (Zv Zu (Zv Zu (Zc 1) (Zx ZaQ (Zc 3) Zi)) Zi) (Zv Zu (Zc 5) Zi))
           ·exact Zad
          ·exact Zo (Zab (Zc3 ((Zbj hu)) (Zv Zu (Zc 2) Zi) (Zv Zu (Zc 4) (Zv Zu (Zc 5) Zi))))
theorem Zd8 : Zaz ["roll", "steps", "time"] ["roll", "steps"] (Zt Zby) := ⟨rfl, rfl, rfl, by decide +kernel, rfl, by decide +kernel, by decide +kernel⟩
theorem ZfN (A : Zav K mg "first_unfit_step" Zby ["roll", "steps"]) (T : Txt K mg) (F_step_fits : Fn3 P w K mg base 4 "step_fits" ["roll", "row", "behind"] Zdi) : Fn3 P w K mg base 5 "first_unfit_step" ["roll", "steps"] Zcq :=
  Fn3.of (N := ["roll", "steps", "time"]) (k := 4) A Zd8 fun f cdv A outer s H E hr => by
    have hu := Zcu hr
    unfold Zes
    refine Zh ?_ ?_
    ·refine Zjx ?_ ?_ ?_ ?_ ?_
     ·exact rfl
     ·exact rfl
     ·exact Zde T.m_range (Zx Zd0 (Zbn (id := "len") Zbs T.m_len ZaX (Zd (Zc 1) Zk)) Zi)
     ·exact Zc7 2 Zd8.nd
     ·refine Zo ?_
      refine Zar ?_ ?_ ?_
      ·exact Zem (Zdx (ZaC (k := 4) (ps := ["roll", "row", "behind"]) F_step_fits (hr.mono (by decide)) (Zd (Zc 0) (Zd (Zv Zu (Zc 1) (Zc 2)) (Zd (Zv Zu (Zc 1) (Zx ZaQ (Zc 2) Zi)) Zk)))))
      ·exact Zo (Zab (Zc 2))
      ·exact Zad
    ·exact Zo (Zab Zdd)
theorem ZbY : Zaz ["ahead", "uses", "before", "number", "row"] ["ahead", "uses"] (Zt ZbE) := ⟨rfl, rfl, rfl, by decide +kernel, rfl, by decide +kernel, by decide +kernel⟩
theorem Zf9 (A : Zav K mg "first_unfit_use" ZbE ["ahead", "uses"]) (T : Txt K mg) (F_use_fits : Fn3 P w K mg base 1 "use_fits" ["ahead", "row"] Zbl) : Fn3 P w K mg base 2 "first_unfit_use" ["ahead", "uses"] Zb7 :=
  Fn3.of (N := ["ahead", "uses", "before", "number", "row"]) (k := 1) A ZbY fun f cdv A outer s H E hr => by
    have hu := Zcu hr
    unfold Zdt
    refine Zh ?_ ?_
    ·exact Zah 2 ZbY.nd (Zc 0)
    ·refine Zh ?_ ?_
     ·refine Zl0 ?_ ?_ ?_ ?_ ?_
      ·exact rfl
      ·exact rfl
      ·exact Zl4 T.m_enumerate (Zc 1)
      ·exact ZfD rfl (Za1 3 ZbY.nd (Za1 4 ZbY.nd Zeh))
      ·exact Zh (Zar (Zem (Zdx (ZaC (k := 1) (ps := ["ahead", "row"]) F_use_fits (hr.mono (by decide)) (Zd (Zc 2) (Zd (Zc 4) Zk))))) (Zo (Zab (Zc 3))) Zad) (Zo (Zah 2 ZbY.nd (Zc 4)))
     ·exact Zo (Zab Zdd)
theorem Zcn : Zaz ["roll", "steps", "uses", "number", "row"] ["roll", "steps", "uses"] (Zt Zbg) := ⟨rfl, rfl, rfl, by decide +kernel, rfl, by decide +kernel, by decide +kernel⟩
theorem Zfa (A : Zav K mg "first_unmatched_use" Zbg ["roll", "steps", "uses"]) (T : Txt K mg) (F_use_matches : Fn3 P w K mg base 3 "use_matches" ["roll", "steps", "row"] Zcb) : Fn3 P w K mg base 4 "first_unmatched_use" ["roll", "steps", "uses"] Zbw :=
  Fn3.of (N := ["roll", "steps", "uses", "number", "row"]) (k := 3) A Zcn fun f cdv A outer s H E hr => by
    have hu := Zcu hr
    unfold ZdD
    refine Zh ?_ ?_
    ·refine Zl0 ?_ ?_ ?_ ?_ ?_
     ·exact rfl
     ·exact rfl
     ·exact Zl4 T.m_enumerate (Zc 2)
     ·exact ZfD rfl (Za1 3 Zcn.nd (Za1 4 Zcn.nd Zeh))
     ·exact Zo (Zar (Zem (Zdx (ZaC (k := 3) (ps := ["roll", "steps", "row"]) F_use_matches (hr.mono (by decide)) (Zd (Zc 0) (Zd (Zc 1) (Zd (Zc 4) Zk)))))) (Zo (Zab (Zc 3))) Zad)
    ·exact Zo (Zab Zdd)
theorem Zdp : Zaz ["roll", "boxes", "steps", "unfit", "last"] ["roll", "boxes", "steps"] (Zt ZbS) := ⟨rfl, rfl, rfl, by decide +kernel, rfl, by decide +kernel, by decide +kernel⟩
theorem Zgu (A : Zav K mg "fault_of_steps" ZbS ["roll", "boxes", "steps"]) (T : Txt K mg) (F_row_at : Fn3 P w K mg base 2 "row_at" ["roll", "place"] Zc4) (F_first_unfit_step : Fn3 P w K mg base 5 "first_unfit_step" ["roll", "steps"] Zcq) : Fn3 P w K mg base 6 "fault_of_steps" ["roll", "boxes", "steps"] ZcT :=
  Fn3.of (N := ["roll", "boxes", "steps", "unfit", "last"]) (k := 5) A Zdp fun f cdv A outer s H E hr => by
    have hu := Zcu hr
    unfold Ze0
    refine Zh ?_ ?_
    ·refine Zar ?_ ?_ ?_
     ·refine CW.ct ?_
      refine ZeB ?_ ?_
      ·exact Zaa ((Zbj hu)) (Zbn (id := "len") Zbs T.m_len ZaX (Zd (Zc 2) Zk)) Zi
      ·exact Zep (Zaa ((ZfS hu)) (Zv Zu (Zc 2) Zi) (Za2 (Zd Zi (Zd (Zc 1) Zk))))
     ·exact Zo (Zab (Za2 (Zd Zan (Zd Zi Zk))))
     ·exact Zad
    ·refine Zh ?_ ?_
     ·exact Zah 3 Zdp.nd (ZaC (k := 5) (ps := ["roll", "steps"]) F_first_unfit_step (hr.mono (by decide)) (Zd (Zc 0) (Zd (Zc 2) Zk)))
     ·refine Zh ?_ ?_
      ·exact Zar (Zaa Zfd (Zc 3) Zdd) (Zo (Zab (Za2 (Zd Zan (Zd (Zc 3) Zk))))) Zad
      ·refine Zh ?_ ?_
       ·exact Zah 4 Zdp.nd (Zx Zd0 (Zbn (id := "len") Zbs T.m_len ZaX (Zd (Zc 2) Zk)) Zi)
       ·refine Zh ?_ ?_
        ·refine Zar ?_ ?_ ?_
         ·exact Zaa ((ZfS hu)) (ZaC (k := 2) (ps := ["roll", "place"]) F_row_at (hr.mono (by decide)) (Zd (Zc 0) (Zd (Zv Zu (Zv Zu (Zc 2) (Zc 4)) Zi) Zk))) (Za2 (Zd Zan Zk))
         ·exact Zo (Zab (Za2 (Zd Zan (Zd (Zc 4) Zk))))
         ·exact Zad
        ·exact Zo (Zab Zdd)
theorem ZcN : Zaz ["roll", "steps", "uses", "unfit", "unmatched", "due"] ["roll", "steps", "uses"] (Zt Zb4) := ⟨rfl, rfl, rfl, by decide +kernel, rfl, by decide +kernel, by decide +kernel⟩
theorem Zg1 (A : Zav K mg "fault_of_uses" Zb4 ["roll", "steps", "uses"]) (T : Txt K mg) (F_is_use : Fn3 P w K mg base 1 "is_use" ["row"] Zcw) (F_first_unfit_use : Fn3 P w K mg base 2 "first_unfit_use" ["ahead", "uses"] Zb7) (F_first_unmatched_use : Fn3 P w K mg base 4 "first_unmatched_use" ["roll", "steps", "uses"] Zbw) : Fn3 P w K mg base 5 "fault_of_uses" ["roll", "steps", "uses"] Zcv :=
  Fn3.of (N := ["roll", "steps", "uses", "unfit", "unmatched", "due"]) (k := 4) A ZcN fun f cdv A outer s H E hr => by
    have hu := Zcu hr
    unfold Zd3
    refine Zh ?_ ?_
    ·exact Zah 3 ZcN.nd (ZaC (k := 2) (ps := ["ahead", "uses"]) F_first_unfit_use (hr.mono (by decide)) (Zd Zdd (Zd (Zc 2) Zk)))
    ·refine Zh ?_ ?_
     ·exact Zar (Zaa Zfd (Zc 3) Zdd) (Zo (Zab (Za2 (Zd Zan (Zd (Zc 3) Zk))))) Zad
     ·refine Zh ?_ ?_
      ·exact Zah 4 ZcN.nd (ZaC (k := 4) (ps := ["roll", "steps", "uses"]) F_first_unmatched_use (hr.mono (by decide)) (Zd (Zc 0) (Zd (Zc 1) (Zd (Zc 2) Zk))))
      ·refine Zh ?_ ?_
       ·exact Zar (Zaa Zfd (Zc 4) Zdd) (Zo (Zab (Za2 (Zd Zan (Zd (Zc 4) Zk))))) Zad
       ·refine Zh ?_ ?_
        ·refine Zew (N' := ["roll", "steps", "uses", "unfit", "unmatched", "due", "row"]) 5 ?_ ?_ ?_ ?_ ?_ (fun C cl s H ex => ⟨?_, ?_, ?_⟩)
         ·exact Zdj rfl (by kernel_rfl)
         ·exact rfl
         ·exact rfl
         ·exact ZcN.nd
         ·exact ZpC (ZdM ZdL (Zc 1) Zba (Za9 (Zk3 ZhF Zi)))
         ·exact Zc7 6 ((show List.Nodup (["roll", "steps", "uses", "unfit", "unmatched", "due", "row"] : List Str) by decide +kernel))
         ·exact ZfH (Zdx (ZaC (k := 1) (ps := ["row"]) F_is_use (hr.mono (by decide)) (Zd (Zv Zu (Zc 0) (Zv Zu (Zc 6) Zi)) Zk)))
         ·exact Zc 6
        ·refine Zh ?_ ?_
         ·refine Zar ?_ ?_ ?_
          ·exact Zaa ((ZfS hu)) (Zbn (id := "len") Zbs T.m_len ZaX (Zd (Zc 2) Zk)) (Zbn (id := "len") Zbs T.m_len ZaX (Zd (Zc 5) Zk))
          ·exact Zo (Zab (Za2 (Zd Zan (Zd (Zbn (id := "len") Zbs T.m_len ZaX (Zd (Zc 2) Zk)) Zk))))
          ·exact Zad
         ·exact Zo (Zab Zdd)
theorem ZjX : Zaz ["roll", "boxes", "steps", "uses", "found"] ["roll", "boxes", "steps", "uses"] (Zt ZfG) := ⟨rfl, rfl, rfl, by decide +kernel, rfl, by decide +kernel, by decide +kernel⟩
theorem Znu (A : Zav K mg "fault" ZfG ["roll", "boxes", "steps", "uses"]) (T : Txt K mg) (F_fault_of_steps : Fn3 P w K mg base 6 "fault_of_steps" ["roll", "boxes", "steps"] ZcT) (F_fault_of_uses : Fn3 P w K mg base 5 "fault_of_uses" ["roll", "steps", "uses"] Zcv) : Fn3 P w K mg base 7 "fault" ["roll", "boxes", "steps", "uses"] Zht :=
  Fn3.of (N := ["roll", "boxes", "steps", "uses", "found"]) (k := 6) A ZjX fun f cdv A outer s H E hr => by
    have hu := Zcu hr
    unfold ZlO
    refine Zh ?_ ?_
    ·exact Zah 4 ZjX.nd (ZaC (k := 6) (ps := ["roll", "boxes", "steps"]) F_fault_of_steps (hr.mono (by decide)) (Zd (Zc 0) (Zd (Zc 1) (Zd (Zc 2) Zk))))
    ·exact Zo (Zab (ZmW (Zaa Zfd (Zc 4) Zdd) (Zc 4) (ZaC (k := 5) (ps := ["roll", "steps", "uses"]) F_fault_of_uses (hr.mono (by decide)) (Zd (Zc 0) (Zd (Zc 2) (Zd (Zc 3) Zk))))))
theorem Zfu : Zaz ["cell", "k", "number"] ["cell", "k"] (Zt ZdO) := ⟨rfl, rfl, rfl, by decide +kernel, rfl, by decide +kernel, by decide +kernel⟩
theorem Zj0 (A : Zav K mg "_law_mix" ZdO ["cell", "k"]) (T : Txt K mg) : Fn3 P w K mg base 1 "_law_mix" ["cell", "k"] ZaN :=
  Fn3.of (N := ["cell", "k", "number"]) (k := 0) A Zfu fun f cdv A outer s H E hr => by
    have hu := Zcu hr
    unfold Zeu
    refine Zh ?_ ?_
    ·refine Zar ?_ ?_ ?_
     ·exact CW.ct (ZeB (Zaa Zqt (Zc 0) (Zk3 ZhF (Zx Zl3 Zi Zi))) (Zep (Zaa Znx (Zc 0) (Zx Zl3 Zi Zi))))
     ·exact Zo (Zab (Zc 0))
     ·exact Zad
    ·refine Zh ?_ ?_
     ·exact Zah 2 Zfu.nd (Zx ZaQ (Zx ZaQ (Zx ZaQ (Zx Zfg Zi (Zc 0)) (Zx Zfg (Zc 1) (Zc 1))) (Zx Zfg Zi (Zc 1))) Zi)
     ·refine Zh ?_ ?_
      ·exact Zah 2 Zfu.nd (Zx Zbz (Zx Zfg (Zx ZaQ (Zc 0) Zi) (Zc 2)) Zi)
      ·exact Zo (Zab (Zx ZaQ (Zx Zfg (Zc 2) (Zc 2)) (Zx ZbB (Zc 2) Zi)))
theorem Zh5 : Zaz ["number"] ["number"] (Zt ZcA) := ⟨rfl, rfl, rfl, by decide +kernel, rfl, by decide +kernel, by decide +kernel⟩
theorem Zig (A : Zav K mg "_law_number" ZcA ["number"]) (T : Txt K mg) : Fn3 P w K mg base 1 "_law_number" ["number"] Zbi :=
  Fn3.of (N := ["number"]) (k := 0) A Zh5 fun f cdv A outer s H E hr => by
    have hu := Zcu hr
    unfold Zc6
    refine Zh ?_ ?_
    ·exact Zar (Zaa ZkA (Zx Zbz (Zc 0) Zi) Zi) (Zo (Zab (Zx Zd0 (Zx Zbz (Zx ZbB (Zc 0) Zi) Zi) Zi))) Zad
    ·refine Zh ?_ ?_
     ·refine Zar ?_ ?_ ?_
      ·exact Zaa ((Zbj hu)) (Zx Zbz (Zx ZbB (Zc 0) Zi) Zi) Zi
      ·exact Zo (Zab (Zx Zbz (Zx ZbB (Zc 0) Zi) (Zx Zl3 Zi Zi)))
      ·exact Zad
     ·exact Zo (Zab (Zk3 ZhF (Zx Zbz (Zx ZbB (Zc 0) Zi) (Zx Zl3 Zi Zi))))
theorem ZbM : Zaz ["cell", "k", "size", "number", "words", "word", "a", "b", "c", "to"] ["cell", "k", "size"] (Zt ZdI) := ⟨rfl, rfl, rfl, by decide +kernel, rfl, by decide +kernel, by decide +kernel⟩
theorem Zkx (A : Zav K mg "_law_row" ZdI ["cell", "k", "size"]) (T : Txt K mg) (F__law_mix : Fn3 P w K mg base 1 "_law_mix" ["cell", "k"] ZaN) (F__law_number : Fn3 P w K mg base 1 "_law_number" ["number"] Zbi) : Fn3 P w K mg base 2 "_law_row" ["cell", "k", "size"] Zau :=
  Fn3.of (N := ["cell", "k", "size", "number", "words", "word", "a", "b", "c", "to"]) (k := 1) A ZbM fun f cdv A outer s H E hr => by
    have hu := Zcu hr
    unfold ZaU
    refine Zh ?_ ?_
    ·exact Zah 3 ZbM.nd (ZaC (k := 1) (ps := ["cell", "k"]) F__law_mix (hr.mono (by decide)) (Zd (Zc 0) (Zd (Zc 1) Zk)))
    ·refine Zh ?_ ?_
     ·refine Zah 4 ?_ ?_
      ·exact ZbM.nd
      ·refine Zcs ?_
       refine Zd ?_ ?_
       ·exact Zan
       ·refine Zd ?_ ?_
        ·exact Zan
        ·exact Zd Zan (Zd Zan (Zd Zan (Zd Zan (Zd Zan (Zd Zan (Zd Zan (Zd Zan (Zd Zan (Zd Zan Zk)))))))))
     ·refine Zh ?_ ?_
      ·exact Zah 5 ZbM.nd (Zv Zu (Zx ZaQ (Zc 4) (Zcs (Zd Zan (Zd Zan (Zd Zan (Zd Zan Zk)))))) (Zx Zbz (Zc 3) Zi))
      ·refine Zh ?_ ?_
       ·exact Zah 3 ZbM.nd (Zx ZbB (Zc 3) Zi)
       ·refine Zh ?_ ?_
        ·exact Zar (Zaa ((Zbj hu)) (Zx Zbz (Zc 3) Zi) Zi) (Zo (Zab (Za2 (Zd Zan Zk)))) Zad
        ·refine Zh ?_ ?_
         ·exact Zah 6 ZbM.nd (Zx Zbz (Zc 3) Zi)
         ·refine Zh ?_ ?_
          ·exact Zah 7 ZbM.nd (Zx Zbz (Zx ZbB (Zc 3) Zi) Zi)
          ·refine Zh ?_ ?_
           ·exact Zah 8 ZbM.nd (Zx Zbz (Zx ZbB (Zc 3) Zi) Zi)
           ·refine Zh ?_ ?_
            ·exact Zah 9 ZbM.nd (Zx ZaQ (Zx ZaQ (Zc 1) Zi) (Zx Zbz (Zx ZbB (Zc 3) Zi) (Zx Zd0 (Zc 2) (Zc 1))))
            ·refine Zh ?_ ?_
             ·refine Zar ?_ ?_ ?_
              ·exact Zaa ((Zbj hu)) (Zx Zbz (Zx ZbB (Zc 3) Zi) Zi) Zi
              ·exact Zo (Zah 9 ZbM.nd (Zx Zbz (Zx ZbB (Zc 3) Zi) (Zx ZaQ (Zc 2) Zi)))
              ·exact Zad
             ·refine Zh ?_ ?_
              ·refine Zar ?_ ?_ ?_
               ·exact Zaa ((Zbj hu)) (Zc 5) Zan
               ·exact Zo (Zab (Za2 (Zd (Zc 5) (Zd (Zc 6) (Zd (ZaC (k := 1) (ps := ["number"]) F__law_number (hr.mono (by decide)) (Zd (Zx ZbB (Zc 3) Zi) Zk)) Zk)))))
               ·exact Zad
              ·refine Zh ?_ ?_
               ·refine Zar ?_ ?_ ?_
                ·exact Zaa ((Zor hu)) (Zc 5) (Za2 (Zd Zan (Zd Zan (Zd Zan Zk))))
                ·exact Zo (Zab (Za2 (Zd (Zc 5) (Zd (Zc 6) (Zd (Zc 7) (Zd (Zc 8) Zk))))))
                ·exact Zad
               ·refine Zh ?_ ?_
                ·exact Zar (Zaa ((Zbj hu)) (Zc 5) Zan) (Zo (Zab (Za2 (Zd (Zc 5) (Zd (Zc 9) Zk))))) Zad
                ·refine Zh ?_ ?_
                 ·exact Zar (Zaa ((Zbj hu)) (Zc 5) Zan) (Zo (Zab (Za2 (Zd (Zc 5) (Zd (Zc 6) (Zd (Zc 9) Zk)))))) Zad
                 ·refine Zo ?_
                  refine Zab ?_
                  refine Zv ?_ ?_ ?_
                  ·exact Zu
                  ·exact Zcs (Zd (Za2 (Zd (Zc 5) (Zd (Zc 6) (Zd (Zc 7) Zk)))) (Zd (Za2 (Zd (Zc 5) (Zd (Zc 6) Zk))) Zk))
                  ·exact ZcV (T := "int") Znm T.m_int ZmR (Zd (Zc3 ((Zbj hu)) (Zc 5) Zan) Zk)
theorem ZcL : Zaz ["script", "cells", "rows", "last", "number"] ["script"] (Zt Zda) := ⟨rfl, rfl, rfl, by decide +kernel, rfl, by decide +kernel, by decide +kernel⟩
theorem Zjg (A : Zav K mg "_law_roll" Zda ["script"]) (T : Txt K mg) (F__law_mix : Fn3 P w K mg base 1 "_law_mix" ["cell", "k"] ZaN) (F__law_row : Fn3 P w K mg base 2 "_law_row" ["cell", "k", "size"] Zau) : Fn3 P w K mg base 3 "_law_roll" ["script"] ZdY :=
  Fn3.of (N := ["script", "cells", "rows", "last", "number"]) (k := 2) A ZcL fun f cdv A outer s H E hr => by
    have hu := Zcu hr
    unfold ZdZ
    refine Zh ?_ ?_
    ·exact Zah 1 ZcL.nd (ZdM ZdL (Zc 0) Zba (Za9 Zi))
    ·refine Zh ?_ ?_
     ·refine Zew (N' := ["script", "cells", "rows", "last", "number", "k"]) 2 ?_ ?_ ?_ ?_ ?_ (fun C cl s H ex => ⟨?_, ?_, ?_⟩)
      ·exact Zdj rfl (by kernel_rfl)
      ·exact rfl
      ·exact rfl
      ·exact ZcL.nd
      ·exact Zde T.m_range (Zbn (id := "len") Zbs T.m_len ZaX (Zd (Zc 1) Zk))
      ·exact Zc7 5 ((show List.Nodup (["script", "cells", "rows", "last", "number", "k"] : List Str) by decide +kernel))
      ·exact ZlN
      ·exact ZaC (k := 2) (ps := ["cell", "k", "size"]) F__law_row (hr.mono (by decide)) (Zd (Zv Zu (Zc 1) (Zc 5)) (Zd (Zc 5) (Zd (Zbn (id := "len") Zbs T.m_len ZaX (Zd (Zc 1) Zk)) Zk)))
     ·refine Zh ?_ ?_
      ·exact Zah 3 ZcL.nd (Za2 (Zd Zan Zk))
      ·refine Zh ?_ ?_
       ·refine Zar ?_ ?_ ?_
        ·refine CW.ct ?_
         exact Ze4 (Zaa ZkH (Zbn (id := "len") Zbs T.m_len ZaX (Zd (Zc 1) Zk)) Zi) (Zef (Zaa ((Zbj hu)) (Zx Zbz (Zv Zu (Zc 1) Zi) Zi) Zi))
        ·refine Zh ?_ ?_
         ·exact Zah 4 ZcL.nd (ZaC (k := 1) (ps := ["cell", "k"]) F__law_mix (hr.mono (by decide)) (Zd (Zv Zu (Zc 1) Zi) (Zd Zi Zk)))
         ·refine Zh ?_ ?_
          ·exact Zfe (Zc 2) (Zx Zbz (Zc 4) (Zbn (id := "len") Zbs T.m_len ZaX (Zd (Zc 2) Zk))) (Zc 3)
          ·refine Zo ?_
           refine Zah 3 ?_ ?_
           ·exact ZcL.nd
           ·exact Za2 (Zd Zan (Zd (Zx Zbz (Zx ZbB (Zc 4) Zi) (Zx ZaQ (Zbn (id := "len") Zbs T.m_len ZaX (Zd (Zc 2) Zk)) Zi)) Zk))
        ·exact Zad
       ·exact Zo (Zab (ZcV (T := "tuple") ZcG T.m_tuple Zb9 (Zd (Zx ZaQ (Zc 2) (Zcs (Zd (Zc 3) Zk))) Zk)))
theorem Zc5 : Zaz ["script", "found", "k", "cell"] ["script"] (Zt ZcS) := ⟨rfl, rfl, rfl, by decide +kernel, rfl, by decide +kernel, by decide +kernel⟩
theorem Zit (A : Zav K mg "_law_boxes" ZcS ["script"]) (T : Txt K mg) (F__law_mix : Fn3 P w K mg base 1 "_law_mix" ["cell", "k"] ZaN) (F__law_number : Fn3 P w K mg base 1 "_law_number" ["number"] Zbi) : Fn3 P w K mg base 2 "_law_boxes" ["script"] Zeb :=
  Fn3.of (N := ["script", "found", "k", "cell"]) (k := 1) A Zc5 fun f cdv A outer s H E hr => by
    have hu := Zcu hr
    unfold Zgm
    refine Zh ?_ ?_
    ·exact Zah 1 Zc5.nd (Zcs Zk)
    ·refine Zh ?_ ?_
     ·refine Zjx ?_ ?_ ?_ ?_ ?_
      ·exact rfl
      ·exact rfl
      ·exact Zde T.m_range Zi
      ·exact Zc7 2 Zc5.nd
      ·refine Zh ?_ ?_
       ·exact Zah 3 Zc5.nd Zi
       ·refine Zh ?_ ?_
        ·refine Zar ?_ ?_ ?_
         ·exact Zaa ZkH (Zbn (id := "len") Zbs T.m_len ZaX (Zd (Zc 0) Zk)) Zi
         ·exact Zo (Zah 3 Zc5.nd (Zv Zu (Zc 0) (Zx Zbz (Zx ZaQ (Zx Zfg Zi (Zc 2)) Zi) (Zbn (id := "len") Zbs T.m_len ZaX (Zd (Zc 0) Zk)))))
         ·exact Zad
        ·exact Zo (Zhu (Zed (Zc 1) (Zd (ZaC (k := 1) (ps := ["number"]) F__law_number (hr.mono (by decide)) (Zd (ZaC (k := 1) (ps := ["cell", "k"]) F__law_mix (hr.mono (by decide)) (Zd (Zc 3) (Zd (Zx ZaQ Zi (Zc 2)) Zk))) Zk)) Zk)))
     ·exact Zo (Zab (ZcV (T := "tuple") ZcG T.m_tuple Zb9 (Zd (Zc 1) Zk)))
theorem Zgx : Zaz ["row", "place", "boxes", "cells", "word"] ["row", "place", "boxes", "cells"] (Zt Zdk) := ⟨rfl, rfl, rfl, by decide +kernel, rfl, by decide +kernel, by decide +kernel⟩
theorem Zjv (A : Zav K mg "_law_goes" Zdk ["row", "place", "boxes", "cells"]) (T : Txt K mg) : Fn3 P w K mg base 1 "_law_goes" ["row", "place", "boxes", "cells"] Zbt :=
  Fn3.of (N := ["row", "place", "boxes", "cells", "word"]) (k := 0) A Zgx fun f cdv A outer s H E hr => by
    have hu := Zcu hr
    unfold Za5
    refine Zh ?_ ?_
    ·exact Zah 4 Zgx.nd (Zv Zu (Zc 0) Zi)
    ·refine Zh ?_ ?_
     ·refine Zar ?_ ?_ ?_
      ·exact Zaa ((Zbj hu)) (Zc 4) Zan
      ·exact Zo (Zfe (Zc 2) (Zv Zu (Zc 0) Zi) (Zv Zu (Zc 0) Zi))
      ·refine Zo ?_
       refine Zar ?_ ?_ ?_
       ·exact Zaa ((Zbj hu)) (Zc 4) Zan
       ·refine Zo ?_
        exact Zfe (Zc 2) (Zv Zu (Zc 0) Zi) (Zx ZaQ (Zv Zu (Zc 2) (Zv Zu (Zc 0) Zi)) (Zv Zu (Zc 2) (Zv Zu (Zc 0) Zi)))
       ·refine Zo ?_
        refine Zar ?_ ?_ ?_
        ·exact Zaa ((Zbj hu)) (Zc 4) Zan
        ·refine Zo ?_
         exact Zfe (Zc 2) (Zv Zu (Zc 0) Zi) (Zx Zd0 (Zv Zu (Zc 2) (Zv Zu (Zc 0) Zi)) (Zv Zu (Zc 2) (Zv Zu (Zc 0) Zi)))
        ·refine Zo ?_
         refine Zar ?_ ?_ ?_
         ·exact Zaa ((Zbj hu)) (Zc 4) Zan
         ·refine Zo ?_
          refine Zfe ?_ ?_ ?_
          ·exact Zc 2
          ·exact Zv Zu (Zc 0) Zi
          ·exact ZcV (T := "int") Znm T.m_int ZmR (Zd (Zc3 ZkH (Zv Zu (Zc 2) (Zv Zu (Zc 0) Zi)) (Zv Zu (Zc 2) (Zv Zu (Zc 0) Zi))) Zk)
         ·refine Zo ?_
          refine Zar ?_ ?_ ?_
          ·exact Zaa ((Zbj hu)) (Zc 4) Zan
          ·exact Zo (Zfe (Zc 2) (Zv Zu (Zc 0) Zi) (Znk hu (Zc 3) (Zv Zu (Zc 2) (Zv Zu (Zc 0) Zi)) Zi))
          ·refine Zo ?_
           refine Zar ?_ ?_ ?_
           ·exact Zaa ((Zbj hu)) (Zc 4) Zan
           ·exact Zo (Zo2 hu (Zc 3) (Zv Zu (Zc 2) (Zv Zu (Zc 0) Zi)) (Zv Zu (Zc 2) (Zv Zu (Zc 0) Zi)))
           ·refine Zo ?_
            refine Zar ?_ ?_ ?_
            ·refine CW.ct ?_
             refine ZeB ?_ ?_
             ·exact Zaa ((Zbj hu)) (Zc 4) Zan
             ·exact Zep (CW.ct (Ze4 (Zaa ((Zbj hu)) (Zc 4) Zan) (Zef (Zaa ZkH (Zv Zu (Zc 2) (Zv Zu (Zc 0) Zi)) Zi))))
            ·exact Zo (Zab (Zv Zu (Zc 0) (Zk3 ZhF Zi)))
            ·exact Zad
     ·exact Zo (Zab (Zx ZaQ (Zc 1) Zi))
theorem Zb0 : Zaz ["roll", "first", "most", "place", "boxes", "cells", "states", "kept"] ["roll", "first", "most"] (Zt Zcz) := ⟨rfl, rfl, rfl, by decide +kernel, rfl, by decide +kernel, by decide +kernel⟩
theorem Zh2 (A : Zav K mg "_law_states" Zcz ["roll", "first", "most"]) (T : Txt K mg) (F__law_goes : Fn3 P w K mg base 1 "_law_goes" ["row", "place", "boxes", "cells"] Zbt) : Fn3 P w K mg base 2 "_law_states" ["roll", "first", "most"] Zc2 :=
  Fn3.of (N := ["roll", "first", "most", "place", "boxes", "cells", "states", "kept"]) (k := 1) A Zb0 fun f cdv A outer s H E hr => by
    have hu := Zcu hr
    unfold ZfY
    refine Zh ?_ ?_
    ·exact Zah 3 Zb0.nd Zi
    ·refine Zh ?_ ?_
     ·exact Zah 4 Zb0.nd (ZcV (T := "list") Zhz T.m_list Zgs (Zd (Zc 1) Zk))
     ·refine Zh ?_ ?_
      ·exact Zah 5 Zb0.nd Znj
      ·refine Zh ?_ ?_
       ·exact Zah 6 Zb0.nd (Zcs (Zd (Za2 (Zd Zi (Zd (ZcV (T := "tuple") ZcG T.m_tuple Zb9 (Zd (Zc 1) Zk)) (Zd (Za2 Zk) Zk)))) Zk))
       ·refine Zh ?_ ?_
        ·refine ZnE ?_ ?_ ?_
         ·exact rfl
         ·refine CW.ct ?_
          exact Ze4 (Zaa ((ZfS hu)) (Zv Zu (Zv Zu (Zc 0) (Zc 3)) Zi) Zan) (Zef (Zaa Zqt (Zbn (id := "len") Zbs T.m_len ZaX (Zd (Zc 6) Zk)) (Zc 2)))
         ·refine Zh ?_ ?_
          ·exact Zah 3 Zb0.nd (ZaC (k := 1) (ps := ["row", "place", "boxes", "cells"]) F__law_goes (hr.mono (by decide)) (Zd (Zv Zu (Zc 0) (Zc 3)) (Zd (Zc 3) (Zd (Zc 4) (Zd (Zc 5) Zk)))))
          ·refine Zh ?_ ?_
           ·refine ZmL (N' := ["roll", "first", "most", "place", "boxes", "cells", "states", "kept", "number"]) 7 5 ?_ ?_ ?_ ?_ ?_ (fun C cl s H ex => ⟨?_, ?_, ?_⟩)
            ·exact Zdj rfl (by kernel_rfl)
            ·exact rfl
            ·exact rfl
            ·exact Zb0.nd
            ·exact Zc 5
            ·exact Zc7 8 ((show List.Nodup (["roll", "first", "most", "place", "boxes", "cells", "states", "kept", "number"] : List Str) by decide +kernel))
            ·exact ZfH (Zaa ((ZfS hu)) (Znl hu (Zc 5) (Zc 8)) Zi)
            ·exact Za2 (Zd (Zc 8) (Zd (Znl hu (Zc 5) (Zc 8)) Zk))
           ·refine Zo ?_
            refine Zhu ?_
            refine Zed ?_ ?_
            ·exact Zc 6
            ·refine Zd ?_ ?_
             ·refine Za2 ?_
              refine Zd ?_ ?_
              ·exact Zc 3
              ·refine Zd ?_ ?_
               ·exact ZcV (T := "tuple") ZcG T.m_tuple Zb9 (Zd (Zc 4) Zk)
               ·exact Zd (ZcV (T := "tuple") ZcG T.m_tuple Zb9 (Zd (Zbn (id := "sorted") ZhE T.m_sorted ZgP (Zd (Zc 7) Zk)) Zk)) Zk
             ·exact Zk
        ·exact Zo (Zab (Zc 6))
theorem ZcU : Zaz ["roll", "states", "rows", "time", "place", "boxes", "row"] ["roll", "states"] (Zt Zdm) := ⟨rfl, rfl, rfl, by decide +kernel, rfl, by decide +kernel, by decide +kernel⟩
theorem ZjJ (A : Zav K mg "_law_uses" Zdm ["roll", "states"]) (T : Txt K mg) : Fn3 P w K mg base 1 "_law_uses" ["roll", "states"] ZeD :=
  Fn3.of (N := ["roll", "states", "rows", "time", "place", "boxes", "row"]) (k := 0) A ZcU fun f cdv A outer s H E hr => by
    have hu := Zcu hr
    unfold Zhe
    refine Zh ?_ ?_
    ·exact Zah 2 ZcU.nd (Zcs Zk)
    ·refine Zh ?_ ?_
     ·refine Zjx ?_ ?_ ?_ ?_ ?_
      ·exact rfl
      ·exact rfl
      ·exact Zde T.m_range (Zx Zd0 (Zbn (id := "len") Zbs T.m_len ZaX (Zd (Zc 1) Zk)) Zi)
      ·exact Zc7 3 ZcU.nd
      ·refine Zh ?_ ?_
       ·exact ZgX (ZdM ZdL (Zv Zu (Zc 1) (Zc 3)) Zba (Za9 Zi)) (ZfD rfl (Za1 4 ZcU.nd (Za1 5 ZcU.nd Zeh)))
       ·refine Zh ?_ ?_
        ·exact Zah 6 ZcU.nd (Zv Zu (Zc 0) (Zc 4))
        ·refine Zh ?_ ?_
         ·refine Zar ?_ ?_ ?_
          ·exact Zaa ((Zbj hu)) (Zv Zu (Zc 6) Zi) Zan
          ·refine Zo ?_
           refine Zhu ?_
           refine Zed ?_ ?_
           ·exact Zc 2
           ·refine Zd ?_ ?_
            ·refine Za2 ?_
             refine Zd ?_ ?_
             ·exact Zv Zu (Zc 5) (Zv Zu (Zc 6) Zi)
             ·exact Zd (Zc 3) (Zd Zan (Zd (Zv Zu (Zv Zu (Zv Zu (Zc 1) (Zx ZaQ (Zc 3) Zi)) Zi) (Zv Zu (Zc 6) Zi)) Zk))
            ·exact Zk
          ·exact Zad
         ·refine Zo ?_
          refine Zar ?_ ?_ ?_
          ·exact Zaa ((Zbj hu)) (Zv Zu (Zc 6) Zi) Zan
          ·refine Zo ?_
           refine Zhu ?_
           refine Zed ?_ ?_
           ·exact Zc 2
           ·refine Zd ?_ ?_
            ·exact Za2 (Zd (Zv Zu (Zc 5) (Zv Zu (Zc 6) Zi)) (Zd (Zc 3) (Zd Zan (Zd (Zv Zu (Zc 5) (Zv Zu (Zc 6) Zi)) Zk))))
            ·exact Zk
          ·exact Zad
     ·exact Zo (Zab (ZcV (T := "tuple") ZcG T.m_tuple Zb9 (Zd (Zbn (id := "sorted") ZhE T.m_sorted ZgP (Zd (Zc 2) Zk)) Zk)))
theorem Zjt : Zaz ["script", "k"] ["script", "k"] (Zt Zdg) := ⟨rfl, rfl, rfl, by decide +kernel, rfl, by decide +kernel, by decide +kernel⟩
theorem ZjE (A : Zav K mg "_law_cell" Zdg ["script", "k"]) (T : Txt K mg) : Fn3 P w K mg base 1 "_law_cell" ["script", "k"] Zbu :=
  Fn3.of (N := ["script", "k"]) (k := 0) A Zjt fun f cdv A outer s H E hr => by
    have hu := Zcu hr
    unfold ZeF
    refine Zh ?_ ?_
    ·refine Zar ?_ ?_ ?_
     ·exact Zaa ((Zbj hu)) (Zbn (id := "len") Zbs T.m_len ZaX (Zd (Zc 0) Zk)) Zi
     ·exact Zo (Zab (Zx ZaQ (Zx Zfg (Zx Zfg Zi (Zc 1)) (Zc 1)) (Zx Zfg Zi (Zc 1))))
     ·exact Zad
    ·refine Zo ?_
     refine Zab ?_
     refine Zx ?_ ?_ ?_
     ·exact ZaQ
     ·exact Zv Zu (Zc 0) (Zx Zbz (Zc 1) (Zbn (id := "len") Zbs T.m_len ZaX (Zd (Zc 0) Zk)))
     ·exact Zx ZbB (Zc 1) (Zbn (id := "len") Zbs T.m_len ZaX (Zd (Zc 0) Zk))
theorem Zbh : Zaz ["roll", "steps", "kind", "more", "at", "place", "boxes", "spot", "number"] ["roll", "steps", "kind", "more"] (Zt Zbm) := ⟨rfl, rfl, rfl, by decide +kernel, rfl, by decide +kernel, by decide +kernel⟩
theorem Zfi (A : Zav K mg "_law_steps_changed" Zbm ["roll", "steps", "kind", "more"]) (T : Txt K mg) : Fn3 P w K mg base 1 "_law_steps_changed" ["roll", "steps", "kind", "more"] Za6 :=
  Fn3.of (N := ["roll", "steps", "kind", "more", "at", "place", "boxes", "spot", "number"]) (k := 0) A Zbh fun f cdv A outer s H E hr => by
    have hu := Zcu hr
    unfold ZcJ
    refine Zh ?_ ?_
    ·exact Zah 4 Zbh.nd (Zx Zbz (Zc 3) (Zbn (id := "len") Zbs T.m_len ZaX (Zd (Zc 1) Zk)))
    ·refine Zh ?_ ?_
     ·exact ZgX (Zv Zu (Zc 1) (Zc 4)) (ZfD rfl (Za1 5 Zbh.nd (Za1 6 Zbh.nd Zeh)))
     ·refine Zh ?_ ?_
      ·exact Zah 7 Zbh.nd (Zx Zbz (Zx ZbB (Zc 3) Zi) Zi)
      ·refine Zh ?_ ?_
       ·refine Zar ?_ ?_ ?_
        ·exact Zaa ((Zbj hu)) (Zc 2) Zi
        ·refine Zh ?_ ?_
         ·exact Zah 8 Zbh.nd (Zx Zd0 (Zx ZaQ (Zv Zu (Zc 6) (Zc 7)) Zi) (Zx Zfg Zi (Zx Zbz (Zx ZbB (Zc 3) Zi) Zi)))
         ·refine Zo ?_
          refine Zab ?_
          refine Zx ?_ ?_ ?_
          ·exact ZaQ
          ·refine Zx ?_ ?_ ?_
           ·exact ZaQ
           ·exact ZdM ZdL (Zc 1) Zba (Za9 (Zc 4))
           ·refine Zcs ?_
            refine Zd ?_ ?_
            ·refine Za2 ?_
             refine Zd ?_ ?_
             ·exact Zc 5
             ·refine Zd ?_ ?_
              ·refine Zx ?_ ?_ ?_
               ·exact ZaQ
               ·exact Zx ZaQ (ZdM ZdL (Zc 6) Zba (Za9 (Zc 7))) (Za2 (Zd (Zc 8) Zk))
               ·exact ZdM ZdL (Zc 6) (Za9 (Zx ZaQ (Zc 7) Zi)) Zba
              ·exact Zk
            ·exact Zk
          ·exact ZdM ZdL (Zc 1) (Za9 (Zx ZaQ (Zc 4) Zi)) Zba
        ·exact Zad
       ·refine Zh ?_ ?_
        ·refine Zar ?_ ?_ ?_
         ·exact Zaa ((Zbj hu)) (Zc 2) Zi
         ·refine Zo ?_
          refine Zab ?_
          refine Zx ?_ ?_ ?_
          ·exact ZaQ
          ·refine Zx ?_ ?_ ?_
           ·exact ZaQ
           ·exact ZdM ZdL (Zc 1) Zba (Za9 (Zc 4))
           ·refine Zcs ?_
            refine Zd ?_ ?_
            ·refine Za2 ?_
             refine Zd ?_ ?_
             ·exact Zx Zd0 (Zx Zbz (Zx ZbB (Zc 3) Zi) (Zx ZaQ (Zbn (id := "len") Zbs T.m_len ZaX (Zd (Zc 0) Zk)) Zi)) Zi
             ·exact Zd (Zc 6) Zk
            ·exact Zk
          ·exact ZdM ZdL (Zc 1) (Za9 (Zx ZaQ (Zc 4) Zi)) Zba
         ·exact Zad
        ·refine Zh ?_ ?_
         ·exact Zar (Zaa ((Zbj hu)) (Zc 2) Zi) (Zo (Zab (ZdM ZdL (Zc 1) Zba (Za9 (Zk3 ZhF Zi))))) Zad
         ·refine Zh ?_ ?_
          ·refine Zar ?_ ?_ ?_
           ·exact Zaa ((Zbj hu)) (Zc 2) Zi
           ·refine Zo ?_
            refine Zab ?_
            refine Zx ?_ ?_ ?_
            ·exact ZaQ
            ·exact Zx ZaQ (ZdM ZdL (Zc 1) Zba (Za9 (Zc 4))) (Zcs (Zd (Zv Zu (Zc 1) (Zc 4)) Zk))
            ·exact ZdM ZdL (Zc 1) (Za9 (Zc 4)) Zba
           ·exact Zad
          ·refine Zh ?_ ?_
           ·refine Zar ?_ ?_ ?_
            ·exact Zaa ((Zbj hu)) (Zc 2) Zi
            ·exact Zo (Zab (Zx ZaQ (ZdM ZdL (Zc 1) Zba (Za9 (Zc 4))) (ZdM ZdL (Zc 1) (Za9 (Zx ZaQ (Zc 4) Zi)) Zba)))
            ·exact Zad
           ·exact Zo (Zab (Zx ZaQ (Zc 1) (Zcs (Zd (Za2 (Zd (Zc 5) (Zd (Zc 6) Zk))) Zk))))
theorem Zam : Zaz ["uses", "kind", "more", "at", "number", "time", "word", "value", "there", "some", "row"] ["uses", "kind", "more"] (Zt Zbr) := ⟨rfl, rfl, rfl, by decide +kernel, rfl, by decide +kernel, by decide +kernel⟩
theorem ZfB (A : Zav K mg "_law_uses_changed" Zbr ["uses", "kind", "more"]) (T : Txt K mg) : Fn3 P w K mg base 1 "_law_uses_changed" ["uses", "kind", "more"] Zbb :=
  Fn3.of (N := ["uses", "kind", "more", "at", "number", "time", "word", "value", "there", "some", "row"]) (k := 0) A Zam fun f cdv A outer s H E hr => by
    have hu := Zcu hr
    unfold Zce
    refine Zh ?_ ?_
    ·refine Zar ?_ ?_ ?_
     ·exact Zaa ((Zbj hu)) (Zbn (id := "len") Zbs T.m_len ZaX (Zd (Zc 0) Zk)) Zi
     ·refine Zo ?_
      refine Zab ?_
      refine Zcs ?_
      refine Zd ?_ ?_
      ·refine Za2 ?_
       refine Zd ?_ ?_
       ·exact Zx Zd0 (Zx Zbz (Zc 2) Zi) Zi
       ·refine Zd ?_ ?_
        ·exact Zx Zbz (Zx ZbB (Zc 2) Zi) Zi
        ·exact Zd (Zv Zu (Zcs (Zd Zan (Zd Zan Zk))) (Zx Zbz (Zc 2) Zi)) (Zd Zi Zk)
      ·exact Zk
     ·exact Zad
    ·refine Zh ?_ ?_
     ·exact Zah 3 Zam.nd (Zx Zbz (Zc 2) (Zbn (id := "len") Zbs T.m_len ZaX (Zd (Zc 0) Zk)))
     ·refine Zh ?_ ?_
      ·exact ZgX (Zv Zu (Zc 0) (Zc 3)) (ZfD rfl (Za1 4 Zam.nd (Za1 5 Zam.nd (Za1 6 Zam.nd (Za1 7 Zam.nd Zeh)))))
      ·refine Zh ?_ ?_
       ·refine Zar ?_ ?_ ?_
        ·exact Zaa ((Zbj hu)) (Zc 1) Zi
        ·exact Zo (Zab (Zx ZaQ (ZdM ZdL (Zc 0) Zba (Za9 (Zc 3))) (ZdM ZdL (Zc 0) (Za9 (Zx ZaQ (Zc 3) Zi)) Zba)))
        ·exact Zad
       ·refine Zh ?_ ?_
        ·refine Zar ?_ ?_ ?_
         ·exact Zaa ((Zbj hu)) (Zc 1) Zi
         ·refine Zo ?_
          refine Zab ?_
          refine Zx ?_ ?_ ?_
          ·exact ZaQ
          ·exact Zx ZaQ (ZdM ZdL (Zc 0) Zba (Za9 (Zc 3))) (Zcs (Zd (Zv Zu (Zc 0) (Zc 3)) Zk))
          ·exact ZdM ZdL (Zc 0) (Za9 (Zc 3)) Zba
         ·exact Zad
        ·refine Zh ?_ ?_
         ·refine Zar ?_ ?_ ?_
          ·exact Zaa ((Zbj hu)) (Zc 1) Zi
          ·refine Zh ?_ ?_
           ·exact Zah 8 Zam.nd (Zx Zbz (Zx ZbB (Zc 2) Zi) (Zbn (id := "len") Zbs T.m_len ZaX (Zd (Zc 0) Zk)))
           ·refine Zh ?_ ?_
            ·exact Zah 9 Zam.nd (ZcV (T := "list") Zhz T.m_list Zgs (Zd (Zc 0) Zk))
            ·exact Zh (ZnY rfl (Za2 (Zd (Zv Zu (Zc 0) (Zc 8)) (Zd (Zv Zu (Zc 0) (Zc 3)) Zk))) (Zc 9) (Zc 3) (Zc 9) (Zc 8)) (Zo (Zab (Zc 9)))
          ·exact Zad
         ·refine Zh ?_ ?_
          ·refine Zah 10 ?_ ?_
           ·exact Zam.nd
           ·refine Za2 ?_
            refine Zd ?_ ?_
            ·exact Zc 4
            ·exact Zd (Zc 5) (Zd (Zc 6) (Zd (Zx Zd0 (Zx ZaQ (Zc 7) Zi) (Zx Zfg Zi (Zx Zbz (Zx ZbB (Zc 2) Zi) Zi))) Zk))
          ·refine Zh ?_ ?_
           ·refine Zar ?_ ?_ ?_
            ·exact Zaa ((Zbj hu)) (Zc 1) Zi
            ·refine Zo ?_
             refine Zah 10 ?_ ?_
             ·exact Zam.nd
             ·refine Za2 ?_
              refine Zd ?_ ?_
              ·exact Zx Zd0 (Zx ZaQ (Zc 4) Zi) (Zx Zfg Zi (Zx Zbz (Zx ZbB (Zc 2) Zi) Zi))
              ·exact Zd (Zc 5) (Zd (Zc 6) (Zd (Zc 7) Zk))
            ·exact Zad
           ·refine Zh ?_ ?_
            ·refine Zar ?_ ?_ ?_
             ·exact Zaa ((Zbj hu)) (Zc 1) Zi
             ·exact Zo (Zah 10 Zam.nd (Za2 (Zd (Zc 4) (Zd (Zx Zd0 (Zx Zbz (Zx ZbB (Zc 2) Zi) Zi) Zi) (Zd (Zc 6) (Zd (Zc 7) Zk))))))
             ·exact Zad
            ·refine Zh ?_ ?_
             ·refine Zar ?_ ?_ ?_
              ·exact Zaa ((Zbj hu)) (Zc 1) Zi
              ·refine Zo ?_
               refine Zah 10 ?_ ?_
               ·exact Zam.nd
               ·refine Za2 ?_
                refine Zd ?_ ?_
                ·exact Zc 4
                ·refine Zd ?_ ?_
                 ·exact Zc 5
                 ·exact Zd (Zv Zu (Zcs (Zd Zan (Zd Zan (Zd Zan Zk)))) (Zx Zbz (Zx ZbB (Zc 2) Zi) Zi)) (Zd (Zc 7) Zk)
              ·exact Zad
             ·refine Zh ?_ ?_
              ·refine Zah 9 ?_ ?_
               ·exact Zam.nd
               ·refine Zx ?_ ?_ ?_
                ·exact ZaQ
                ·exact Zx ZaQ (ZdM ZdL (Zc 0) Zba (Za9 (Zc 3))) (Zcs (Zd (Zc 10) Zk))
                ·exact ZdM ZdL (Zc 0) (Za9 (Zx ZaQ (Zc 3) Zi)) Zba
              ·refine Zo ?_
               exact Zab (Zv Zu (Zcs (Zd (Zc 9) (Zd (Zbn (id := "sorted") ZhE T.m_sorted ZgP (Zd (Zc 9) Zk)) Zk))) (Zx Zbz (Zx ZbB (Zc 2) Zi) Zi))
theorem Zcm : Zaz ["roll", "steps", "uses", "cell", "kind", "more"] ["roll", "steps", "uses", "cell"] (Zt Zbf) := ⟨rfl, rfl, rfl, by decide +kernel, rfl, by decide +kernel, by decide +kernel⟩
theorem Zfb (A : Zav K mg "_law_tables_changed" Zbf ["roll", "steps", "uses", "cell"]) (T : Txt K mg) (F__law_steps_changed : Fn3 P w K mg base 1 "_law_steps_changed" ["roll", "steps", "kind", "more"] Za6) (F__law_uses_changed : Fn3 P w K mg base 1 "_law_uses_changed" ["uses", "kind", "more"] Zbb) : Fn3 P w K mg base 2 "_law_tables_changed" ["roll", "steps", "uses", "cell"] ZaP :=
  Fn3.of (N := ["roll", "steps", "uses", "cell", "kind", "more"]) (k := 1) A Zcm fun f cdv A outer s H E hr => by
    have hu := Zcu hr
    unfold ZcC
    refine Zh ?_ ?_
    ·exact Zah 4 Zcm.nd (Zx Zbz (Zc 3) Zi)
    ·refine Zh ?_ ?_
     ·exact Zah 5 Zcm.nd (Zx ZbB (Zc 3) Zi)
     ·refine Zh ?_ ?_
      ·refine Zar ?_ ?_ ?_
       ·exact CW.ct (Ze4 (Zaa ZkA (Zc 4) Zi) (Zef (Zaa ZkH (Zbn (id := "len") Zbs T.m_len ZaX (Zd (Zc 1) Zk)) Zi)))
       ·exact Zo (Zab (Zcs (Zd (ZaC (k := 1) (ps := ["roll", "steps", "kind", "more"]) F__law_steps_changed (hr.mono (by decide)) (Zd (Zc 0) (Zd (Zc 1) (Zd (Zc 4) (Zd (Zc 5) Zk))))) (Zd (Zc 2) Zk))))
       ·exact Zad
      ·refine Zh ?_ ?_
       ·exact Zar (Zaa ZkA (Zc 4) Zi) (Zo (Zab (Zcs (Zd (Zc 1) (Zd (Zc 2) Zk))))) Zad
       ·exact Zo (Zab (Zcs (Zd (Zc 1) (Zd (ZaC (k := 1) (ps := ["uses", "kind", "more"]) F__law_uses_changed (hr.mono (by decide)) (Zd (Zc 2) (Zd (Zc 4) (Zd (Zc 5) Zk)))) Zk))))
theorem ZbX : Zaz ["roll", "row", "behind", "place", "boxes", "right", "to"] ["roll", "row", "behind"] (Zt ZbD) := ⟨rfl, rfl, rfl, by decide +kernel, rfl, by decide +kernel, by decide +kernel⟩
theorem Zgd (A : Zav K mg "_law_step_right" ZbD ["roll", "row", "behind"]) (T : Txt K mg) (F__law_goes : Fn3 P w K mg base 1 "_law_goes" ["row", "place", "boxes", "cells"] Zbt) : Fn3 P w K mg base 2 "_law_step_right" ["roll", "row", "behind"] ZbF :=
  Fn3.of (N := ["roll", "row", "behind", "place", "boxes", "right", "to"]) (k := 1) A ZbX fun f cdv A outer s H E hr => by
    have hu := Zcu hr
    unfold Zdw
    refine Zh ?_ ?_
    ·exact ZgX (Zc 1) (ZfD rfl (Za1 3 ZbX.nd (Za1 4 ZbX.nd Zeh)))
    ·refine Zh ?_ ?_
     ·refine Zar ?_ ?_ ?_
      ·refine CW.ct ?_
       refine ZeB ?_ ?_
       ·exact Zaa ZkA (Zc 3) Zi
       ·exact ZeB (Zaa Znx (Zc 3) (Zbn (id := "len") Zbs T.m_len ZaX (Zd (Zc 0) Zk))) (Zep (Zaa ((Zbj hu)) (Zv Zu (Zv Zu (Zc 0) (Zc 3)) Zi) Zan))
      ·exact Zo (Zab Zhh)
      ·exact Zad
     ·refine Zh ?_ ?_
      ·exact Zah 5 ZbX.nd (ZcV (T := "list") Zhz T.m_list Zgs (Zd (Zc 4) Zk))
      ·refine Zh ?_ ?_
       ·exact Zah 6 ZbX.nd (ZaC (k := 1) (ps := ["row", "place", "boxes", "cells"]) F__law_goes (hr.mono (by decide)) (Zd (Zv Zu (Zc 0) (Zc 3)) (Zd (Zc 3) (Zd (Zc 5) (Zd Znj Zk)))))
       ·refine Zh ?_ ?_
        ·refine Zar ?_ ?_ ?_
         ·exact Zaa ((Zbj hu)) (Zv Zu (Zv Zu (Zc 0) (Zc 3)) Zi) Zan
         ·refine Zo ?_
          exact Zfe (Zc 5) (Zv Zu (Zv Zu (Zc 0) (Zc 3)) Zi) (Zv Zu (Zv Zu (Zc 2) Zi) (Zv Zu (Zv Zu (Zc 0) (Zc 3)) Zi))
         ·exact Zad
        ·exact Zo (Zab (Zc3 ((Zbj hu)) (Zc 2) (Za2 (Zd (Zc 6) (Zd (ZcV (T := "tuple") ZcG T.m_tuple Zb9 (Zd (Zc 5) Zk)) Zk)))))
theorem Zdy : Zaz ["roll", "boxes", "steps", "wrong", "last"] ["roll", "boxes", "steps"] (Zt ZbR) := ⟨rfl, rfl, rfl, by decide +kernel, rfl, by decide +kernel, by decide +kernel⟩
theorem ZgA (A : Zav K mg "_law_steps_due" ZbR ["roll", "boxes", "steps"]) (T : Txt K mg) (F__law_step_right : Fn3 P w K mg base 2 "_law_step_right" ["roll", "row", "behind"] ZbF) : Fn3 P w K mg base 3 "_law_steps_due" ["roll", "boxes", "steps"] ZbP :=
  Fn3.of (N := ["roll", "boxes", "steps", "wrong", "last"]) (k := 2) A Zdy fun f cdv A outer s H E hr => by
    have hu := Zcu hr
    unfold ZdG
    refine Zh ?_ ?_
    ·refine Zar ?_ ?_ ?_
     ·refine CW.ct ?_
      refine ZeB ?_ ?_
      ·exact Zaa ((Zbj hu)) (Zbn (id := "len") Zbs T.m_len ZaX (Zd (Zc 2) Zk)) Zi
      ·exact Zep (Zaa ((ZfS hu)) (Zv Zu (Zc 2) Zi) (Za2 (Zd Zi (Zd (Zc 1) Zk))))
     ·exact Zo (Zab (Za2 (Zd Zan (Zd Zi Zk))))
     ·exact Zad
    ·refine Zh ?_ ?_
     ·refine Zew (N' := ["roll", "boxes", "steps", "wrong", "last", "k"]) 3 ?_ ?_ ?_ ?_ ?_ (fun C cl s H ex => ⟨?_, ?_, ?_⟩)
      ·exact Zdj rfl (by kernel_rfl)
      ·exact rfl
      ·exact rfl
      ·exact Zdy.nd
      ·exact Zde T.m_range (Zx Zd0 (Zbn (id := "len") Zbs T.m_len ZaX (Zd (Zc 2) Zk)) Zi)
      ·exact Zc7 5 ((show List.Nodup (["roll", "boxes", "steps", "wrong", "last", "k"] : List Str) by decide +kernel))
      ·exact ZfH (Zem (Zdx (ZaC (k := 2) (ps := ["roll", "row", "behind"]) F__law_step_right (hr.mono (by decide)) (Zd (Zc 0) (Zd (Zv Zu (Zc 2) (Zc 5)) (Zd (Zv Zu (Zc 2) (Zx ZaQ (Zc 5) Zi)) Zk))))))
      ·exact Zc 5
     ·refine Zh ?_ ?_
      ·exact Zar (Zaa ((ZfS hu)) (Zc 3) (Zcs Zk)) (Zo (Zab (Za2 (Zd Zan (Zd (Zv Zu (Zc 3) Zi) Zk))))) Zad
      ·refine Zh ?_ ?_
       ·exact Zah 4 Zdy.nd (Zv Zu (Zv Zu (Zc 2) (Zk3 ZhF Zi)) Zi)
       ·refine Zh ?_ ?_
        ·refine Zar ?_ ?_ ?_
         ·refine CW.ct ?_
          refine ZeB ?_ ?_
          ·exact Zaa ZkA (Zc 4) Zi
          ·exact ZeB (Zaa Znx (Zc 4) (Zbn (id := "len") Zbs T.m_len ZaX (Zd (Zc 0) Zk))) (Zep (Zaa ((ZfS hu)) (Zv Zu (Zv Zu (Zc 0) (Zc 4)) Zi) Zan))
         ·exact Zo (Zab (Za2 (Zd Zan (Zd (Zx Zd0 (Zbn (id := "len") Zbs T.m_len ZaX (Zd (Zc 2) Zk)) Zi) Zk))))
         ·exact Zad
        ·exact Zo (Zab Zdd)
theorem Zbe : Zaz ["uses", "k", "number", "time", "word", "value", "held", "ahead"] ["uses", "k"] (Zt ZbT) := ⟨rfl, rfl, rfl, by decide +kernel, rfl, by decide +kernel, by decide +kernel⟩
theorem Zgr (A : Zav K mg "_law_use_right" ZbT ["uses", "k"]) (T : Txt K mg) : Fn3 P w K mg base 1 "_law_use_right" ["uses", "k"] ZbQ :=
  Fn3.of (N := ["uses", "k", "number", "time", "word", "value", "held", "ahead"]) (k := 0) A Zbe fun f cdv A outer s H E hr => by
    have hu := Zcu hr
    unfold ZeQ
    refine Zh ?_ ?_
    ·exact ZgX (Zv Zu (Zc 0) (Zc 1)) (ZfD rfl (Za1 2 Zbe.nd (Za1 3 Zbe.nd (Za1 4 Zbe.nd (Za1 5 Zbe.nd Zeh)))))
    ·refine Zh ?_ ?_
     ·exact Zah 6 Zbe.nd Zi
     ·refine Zh ?_ ?_
      ·refine Zar ?_ ?_ ?_
       ·exact Zaa ZkH (Zc 1) Zi
       ·refine Zh ?_ ?_
        ·exact Zah 7 Zbe.nd (Zv Zu (Zc 0) (Zx Zd0 (Zc 1) Zi))
        ·refine Zh ?_ ?_
         ·refine Zar ?_ ?_ ?_
          ·refine CW.ct ?_
           refine ZeB ?_ ?_
           ·exact Zaa ZkA (Zc 2) (Zv Zu (Zc 7) Zi)
           ·exact Zep (CW.ct (Ze4 (Zaa ((Zbj hu)) (Zc 2) (Zv Zu (Zc 7) Zi)) (Zef (Zaa Zqt (Zc 3) (Zv Zu (Zc 7) Zi)))))
          ·exact Zo (Zab Zhh)
          ·exact Zad
         ·exact Zo (Zar (Zaa ((Zbj hu)) (Zc 2) (Zv Zu (Zc 7) Zi)) (Zo (Zah 6 Zbe.nd (Zv Zu (Zc 7) Zi))) Zad)
       ·exact Zad
      ·exact Zo (Zab (Zsg (Zc3 ((ZfS hu)) (Zc 4) Zan) (ZiN (Zc3 ((Zbj hu)) (Zc 5) (Zc 6)))))
theorem Zbc : Zaz ["roll", "steps", "row", "number", "time", "word", "value", "boxes", "deed"] ["roll", "steps", "row"] (Zt Zbx) := ⟨rfl, rfl, rfl, by decide +kernel, rfl, by decide +kernel, by decide +kernel⟩
theorem ZfO (A : Zav K mg "_law_match_right" Zbx ["roll", "steps", "row"]) (T : Txt K mg) : Fn3 P w K mg base 1 "_law_match_right" ["roll", "steps", "row"] ZbZ :=
  Fn3.of (N := ["roll", "steps", "row", "number", "time", "word", "value", "boxes", "deed"]) (k := 0) A Zbc fun f cdv A outer s H E hr => by
    have hu := Zcu hr
    unfold Zey
    refine Zh ?_ ?_
    ·exact ZgX (Zc 2) (ZfD rfl (Za1 3 Zbc.nd (Za1 4 Zbc.nd (Za1 5 Zbc.nd (Za1 6 Zbc.nd Zeh)))))
    ·refine Zh ?_ ?_
     ·refine Zar ?_ ?_ ?_
      ·exact CW.ct (ZeB (Zaa ZkA (Zc 4) Zi) (Zep (Zaa Znx (Zx ZaQ (Zc 4) Zi) (Zbn (id := "len") Zbs T.m_len ZaX (Zd (Zc 1) Zk)))))
      ·exact Zo (Zab Zhh)
      ·exact Zad
     ·refine Zh ?_ ?_
      ·exact Zah 7 Zbc.nd (Zv Zu (Zv Zu (Zc 1) (Zc 4)) Zi)
      ·refine Zh ?_ ?_
       ·exact Zah 8 Zbc.nd (Zv Zu (Zc 0) (Zv Zu (Zv Zu (Zc 1) (Zc 4)) Zi))
       ·refine Zh ?_ ?_
        ·refine Zar ?_ ?_ ?_
         ·exact CW.ct (Ze4 (Zaa ((Zbj hu)) (Zv Zu (Zc 8) Zi) Zan) (Zef (Zaa ((Zbj hu)) (Zc 5) Zan)))
         ·refine Zo ?_
          refine Zab ?_
          refine Zi8 ?_ ?_
          ·exact Zc3 ((Zbj hu)) (Zv Zu (Zc 7) (Zv Zu (Zc 8) Zi)) (Zc 3)
          ·exact ZiN (Zc3 ((Zbj hu)) (Zv Zu (Zv Zu (Zv Zu (Zc 1) (Zx ZaQ (Zc 4) Zi)) Zi) (Zv Zu (Zc 8) Zi)) (Zc 6))
         ·exact Zad
        ·refine Zh ?_ ?_
         ·refine Zar ?_ ?_ ?_
          ·exact CW.ct (Ze4 (Zaa ((Zbj hu)) (Zv Zu (Zc 8) Zi) Zan) (Zef (Zaa ((Zbj hu)) (Zc 5) Zan)))
          ·refine Zo ?_
           refine Zab ?_
           exact Zi8 (Zc3 ((Zbj hu)) (Zv Zu (Zc 7) (Zv Zu (Zc 8) Zi)) (Zc 3)) (ZiN (Zc3 ((Zbj hu)) (Zv Zu (Zc 7) (Zv Zu (Zc 8) Zi)) (Zc 6)))
          ·exact Zad
         ·exact Zo (Zab Zhh)
theorem ZeI : Zaz ["roll", "boxes", "steps", "uses", "due", "wrong"] ["roll", "boxes", "steps", "uses"] (Zt ZdS) := ⟨rfl, rfl, rfl, by decide +kernel, rfl, by decide +kernel, by decide +kernel⟩
theorem Zkh (A : Zav K mg "_law_due" ZdS ["roll", "boxes", "steps", "uses"]) (T : Txt K mg) (F__law_steps_due : Fn3 P w K mg base 3 "_law_steps_due" ["roll", "boxes", "steps"] ZbP) (F__law_use_right : Fn3 P w K mg base 1 "_law_use_right" ["uses", "k"] ZbQ) (F__law_match_right : Fn3 P w K mg base 1 "_law_match_right" ["roll", "steps", "row"] ZbZ) : Fn3 P w K mg base 4 "_law_due" ["roll", "boxes", "steps", "uses"] Zer :=
  Fn3.of (N := ["roll", "boxes", "steps", "uses", "due", "wrong"]) (k := 3) A ZeI fun f cdv A outer s H E hr => by
    have hu := Zcu hr
    unfold Zge
    refine Zh ?_ ?_
    ·exact Zah 4 ZeI.nd (ZaC (k := 3) (ps := ["roll", "boxes", "steps"]) F__law_steps_due (hr.mono (by decide)) (Zd (Zc 0) (Zd (Zc 1) (Zd (Zc 2) Zk))))
    ·refine Zh ?_ ?_
     ·exact Zar (Zaa Zfd (Zc 4) Zdd) (Zo (Zab (Zc 4))) Zad
     ·refine Zh ?_ ?_
      ·refine Zew (N' := ["roll", "boxes", "steps", "uses", "due", "wrong", "k"]) 5 ?_ ?_ ?_ ?_ ?_ (fun C cl s H ex => ⟨?_, ?_, ?_⟩)
       ·exact Zdj rfl (by kernel_rfl)
       ·exact rfl
       ·exact rfl
       ·exact ZeI.nd
       ·exact Zde T.m_range (Zbn (id := "len") Zbs T.m_len ZaX (Zd (Zc 3) Zk))
       ·exact Zc7 6 ((show List.Nodup (["roll", "boxes", "steps", "uses", "due", "wrong", "k"] : List Str) by decide +kernel))
       ·exact ZfH (Zem (Zdx (ZaC (k := 1) (ps := ["uses", "k"]) F__law_use_right (hr.mono (by decide)) (Zd (Zc 3) (Zd (Zc 6) Zk)))))
       ·exact Zc 6
      ·refine Zh ?_ ?_
       ·exact Zar (Zaa ((ZfS hu)) (Zc 5) (Zcs Zk)) (Zo (Zab (Za2 (Zd Zan (Zd (Zv Zu (Zc 5) Zi) Zk))))) Zad
       ·refine Zh ?_ ?_
        ·refine Zew (N' := ["roll", "boxes", "steps", "uses", "due", "wrong", "k"]) 5 ?_ ?_ ?_ ?_ ?_ (fun C cl s H ex => ⟨?_, ?_, ?_⟩)
         ·exact Zdj rfl (by kernel_rfl)
         ·exact rfl
         ·exact rfl
         ·exact ZeI.nd
         ·exact Zde T.m_range (Zbn (id := "len") Zbs T.m_len ZaX (Zd (Zc 3) Zk))
         ·exact Zc7 6 ((show List.Nodup (["roll", "boxes", "steps", "uses", "due", "wrong", "k"] : List Str) by decide +kernel))
         ·exact ZfH (Zem (Zdx (ZaC (k := 1) (ps := ["roll", "steps", "row"]) F__law_match_right (hr.mono (by decide)) (Zd (Zc 0) (Zd (Zc 2) (Zd (Zv Zu (Zc 3) (Zc 6)) Zk))))))
         ·exact Zc 6
        ·refine Zh ?_ ?_
         ·exact Zar (Zaa ((ZfS hu)) (Zc 5) (Zcs Zk)) (Zo (Zab (Za2 (Zd Zan (Zd (Zv Zu (Zc 5) Zi) Zk))))) Zad
         ·refine Zh ?_ ?_
          ·refine Zar ?_ ?_ ?_
           ·refine Zaa ?_ ?_ ?_
            ·exact (ZfS hu)
            ·refine Zbn (id := "len") ?_ ?_ ?_ ?_
             ·exact Zbs
             ·exact T.m_len
             ·exact ZaX
             ·refine Zd ?_ ?_
              ·refine Zr6 (N' := ["roll", "boxes", "steps", "uses", "due", "wrong", "row"]) ?_ ?_ ?_ ?_ (fun C cl s H ex => ⟨?_, ?_, ?_⟩)
               ·exact Zdj rfl (by kernel_rfl)
               ·exact rfl
               ·exact rfl
               ·exact ZpC (ZdM ZdL (Zc 2) Zba (Za9 (Zk3 ZhF Zi)))
               ·exact Zc7 6 ((show List.Nodup (["roll", "boxes", "steps", "uses", "due", "wrong", "row"] : List Str) by decide +kernel))
               ·exact ZfH (Zaa ((Zor hu)) (Zv Zu (Zv Zu (Zc 0) (Zv Zu (Zc 6) Zi)) Zi) (Za2 (Zd Zan (Zd Zan Zk))))
               ·exact Zc 6
              ·exact Zk
            ·exact Zbn (id := "len") Zbs T.m_len ZaX (Zd (Zc 3) Zk)
           ·exact Zo (Zab (Za2 (Zd Zan (Zd (Zbn (id := "len") Zbs T.m_len ZaX (Zd (Zc 3) Zk)) Zk))))
           ·exact Zad
          ·exact Zo (Zab Zdd)
theorem ZjC : Zaz ["found", "due"] ["found", "due"] (Zt Zdh) := ⟨rfl, rfl, rfl, by decide +kernel, rfl, by decide +kernel, by decide +kernel⟩
theorem Zjd (A : Zav K mg "_law_same" Zdh ["found", "due"]) (T : Txt K mg) : Fn3 P w K mg base 1 "_law_same" ["found", "due"] Zdn :=
  Fn3.of (N := ["found", "due"]) (k := 0) A ZjC fun f cdv A outer s H E hr => by
    have hu := Zcu hr
    unfold ZeE
    refine Zh ?_ ?_
    ·exact Zar (Zaa ZoW (Zc 1) Zdd) (Zo (Zab (Zc3 ZoW (Zc 0) Zdd))) Zad
    ·refine Zh ?_ ?_
     ·refine Zar ?_ ?_ ?_
      ·refine CW.ct ?_
       refine ZeB ?_ ?_
       ·exact Zem (Zdx (Zjm .tuple T.m_isinstance T.m_tuple (Zc 0)))
       ·exact ZeB (Zaa ((ZfS hu)) (Zbn (id := "len") Zbs T.m_len ZaX (Zd (Zc 0) Zk)) Zi) (Zep (Zem (Zdx (Zjm .str T.m_isinstance T.m_str (Zv Zu (Zc 0) Zi)))))
      ·exact Zo (Zab Zhh)
      ·exact Zad
     ·refine Zo ?_
      refine Zab ?_
      exact Zi8 (Zjm .int T.m_isinstance T.m_int (Zv Zu (Zc 0) Zi)) (Zi8 (Zrq (Zjm .bool T.m_isinstance T.m_bool (Zv Zu (Zc 0) Zi))) (ZiN (Zc3 ((Zbj hu)) (Zc 0) (Zc 1))))
theorem ZdN : Zaz ["script", "roll", "boxes", "states", "steps", "uses", "k", "cell", "handed", "found"] ["script"] (Zt Zgk) := ⟨rfl, rfl, rfl, by decide +kernel, rfl, by decide +kernel, by decide +kernel⟩
theorem Zqr {f : Addr} {fd : FuncData} (F : Fun K "law" "law" Zgk f fd) (T : Txt K mg) (F_fault : Fn3 P w K mg base 7 "fault" ["roll", "boxes", "steps", "uses"] Zht) (F__law_mix : Fn3 P w K mg base 1 "_law_mix" ["cell", "k"] ZaN) (F__law_roll : Fn3 P w K mg base 3 "_law_roll" ["script"] ZdY) (F__law_boxes : Fn3 P w K mg base 2 "_law_boxes" ["script"] Zeb) (F__law_states : Fn3 P w K mg base 2 "_law_states" ["roll", "first", "most"] Zc2) (F__law_uses : Fn3 P w K mg base 1 "_law_uses" ["roll", "states"] ZeD) (F__law_cell : Fn3 P w K mg base 1 "_law_cell" ["script", "k"] Zbu) (F__law_tables_changed : Fn3 P w K mg base 2 "_law_tables_changed" ["roll", "steps", "uses", "cell"] ZaP) (F__law_due : Fn3 P w K mg base 4 "_law_due" ["roll", "boxes", "steps", "uses"] Zer) (F__law_same : Fn3 P w K mg base 1 "_law_same" ["found", "due"] Zdn) : ZhO P w K mg base CX0 8 f fd ["script"] (sp3 K 1 ZlK) :=
  fn3 (N := ["script", "roll", "boxes", "states", "steps", "uses", "k", "cell", "handed", "found"]) (k := 7) F ZdN fun cdv A outer s H E hr => by
    have hu := Zcu hr
    unfold ZmT
    refine Zh ?_ ?_
    ·exact Zah 1 ZdN.nd (ZaC (k := 3) (ps := ["script"]) F__law_roll (hr.mono (by decide)) (Zd (Zc 0) Zk))
    ·refine Zh ?_ ?_
     ·exact Zah 2 ZdN.nd (ZaC (k := 2) (ps := ["script"]) F__law_boxes (hr.mono (by decide)) (Zd (Zc 0) Zk))
     ·refine Zh ?_ ?_
      ·exact Zah 3 ZdN.nd (ZaC (k := 2) (ps := ["roll", "first", "most"]) F__law_states (hr.mono (by decide)) (Zd (Zc 1) (Zd (Zc 2) (Zd Zi Zk))))
      ·refine Zh ?_ ?_
       ·exact Zew (N' := ["script", "roll", "boxes", "states", "steps", "uses", "k", "cell", "handed", "found", "state"]) 4 (Zdj rfl (by kernel_rfl)) rfl rfl ZdN.nd (ZpC (Zc 3)) (fun C cl s H ex => ⟨(Zc7 10 ((show List.Nodup (["script", "roll", "boxes", "states", "steps", "uses", "k", "cell", "handed", "found", "state"] : List Str) by decide +kernel))), ZlN, (Za2 (Zd (Zv Zu (Zc 10) Zi) (Zd (Zv Zu (Zc 10) Zi) Zk)))⟩)
       ·refine Zh ?_ ?_
        ·exact Zah 5 ZdN.nd (ZcV (T := "list") Zhz T.m_list Zgs (Zd (ZaC (k := 1) (ps := ["roll", "states"]) F__law_uses (hr.mono (by decide)) (Zd (Zc 1) (Zd (Zc 3) Zk))) Zk))
        ·refine Zh ?_ ?_
         ·refine Zjx ?_ ?_ ?_ ?_ ?_
          ·exact rfl
          ·exact rfl
          ·exact Zde T.m_range (Zx Zbz (ZaC (k := 1) (ps := ["cell", "k"]) F__law_mix (hr.mono (by decide)) (Zd (ZaC (k := 1) (ps := ["script", "k"]) F__law_cell (hr.mono (by decide)) (Zd (Zc 0) (Zd Zi Zk))) (Zd Zi Zk))) Zi)
          ·exact Zc7 6 ZdN.nd
          ·refine Zh ?_ ?_
           ·refine Zah 7 ?_ ?_
            ·exact ZdN.nd
            ·exact ZaC (k := 1) (ps := ["cell", "k"]) F__law_mix (hr.mono (by decide)) (Zd (ZaC (k := 1) (ps := ["script", "k"]) F__law_cell (hr.mono (by decide)) (Zd (Zc 0) (Zd (Zx ZaQ Zi (Zc 6)) Zk))) (Zd (Zx ZaQ Zi (Zc 6)) Zk))
           ·refine Zh ?_ ?_
            ·exact ZoV rfl (ZaC (k := 2) (ps := ["roll", "steps", "uses", "cell"]) F__law_tables_changed (hr.mono (by decide)) (Zd (Zc 1) (Zd (Zc 4) (Zd (Zc 5) (Zd (Zc 7) Zk))))) (Za1 4 ZdN.nd (Za1 5 ZdN.nd Zeh))
            ·refine Zo ?_
             refine Zar ?_ ?_ ?_
             ·exact Zaa ((Zbj hu)) (Zx Zbz (Zx ZbB (Zc 7) Zi) Zi) Zi
             ·exact Zo (Zah 2 ZdN.nd (Zx ZaQ (ZdM ZdL (Zc 2) (Za9 Zi) Zba) (ZdM ZdL (Zc 2) Zba (Za9 Zi))))
             ·exact Zad
         ·refine Zh ?_ ?_
          ·refine Zah 8 ?_ ?_
           ·exact ZdN.nd
           ·refine Zcs ?_
            refine Zd ?_ ?_
            ·exact ZcV (T := "tuple") ZcG T.m_tuple Zb9 (Zd (Zc 4) Zk)
            ·refine Zd ?_ ?_
             ·exact ZcV (T := "tuple") ZcG T.m_tuple Zb9 (Zd (Zc 5) Zk)
             ·exact Zd (ZcV (T := "tuple") ZcG T.m_tuple Zb9 (Zd (ZcV (T := "list") Zhz T.m_list Zgs (Zd (Zc 1) Zk)) Zk)) Zk
          ·refine Zh ?_ ?_
           ·exact Zah 9 ZdN.nd (ZaC (k := 7) (ps := ["roll", "boxes", "steps", "uses"]) F_fault (hr.mono (by decide)) (Zd (Zc 1) (Zd (Zc 2) (Zd (Zv Zu (Zc 8) Zi) (Zd (Zv Zu (Zc 8) Zi) Zk)))))
           ·refine Zh ?_ ?_
            ·refine Zar ?_ ?_ ?_
             ·refine Zem ?_
              refine Zdx ?_
              refine ZaC (k := 1) (ps := ["found", "due"]) ?_ ?_ ?_
              ·exact F__law_same
              ·exact hr.mono (by decide)
              ·refine Zd ?_ ?_
               ·exact Zc 9
               ·refine Zd ?_ ?_
                ·refine ZaC (k := 4) (ps := ["roll", "boxes", "steps", "uses"]) ?_ ?_ ?_
                 ·exact F__law_due
                 ·exact hr.mono (by decide)
                 ·exact Zd (Zc 1) (Zd (Zc 2) (Zd (ZcV (T := "tuple") ZcG T.m_tuple Zb9 (Zd (Zc 4) Zk)) (Zd (ZcV (T := "tuple") ZcG T.m_tuple Zb9 (Zd (Zc 5) Zk)) Zk)))
                ·exact Zk
             ·exact Zo (Zab Zhh)
             ·exact Zad
            ·refine Zo ?_
             refine Zab ?_
             refine Zc3 ?_ ?_ ?_
             ·exact (Zbj hu)
             ·exact Zc 8
             ·exact Zcs (Zd (ZcV (T := "tuple") ZcG T.m_tuple Zb9 (Zd (Zc 4) Zk)) (Zd (ZcV (T := "tuple") ZcG T.m_tuple Zb9 (Zd (Zc 5) Zk)) (Zd (Zc 1) Zk)))
end
end Law
set_option maxHeartbeats 200000
namespace Law
open L3
theorem Zic (n d : Nat) : sIx n d none = d := rfl
theorem Zjs (n d k : Nat) : sIx n d (some (k : Int)) = min k n := by
 have h : ¬ ((k : Int) < 0) := by omega
 simp only [sIx, if_neg h, Int.toNat_natCast]
theorem Zfk {α : Type} (w : List α) (k : Nat) : cutD w (some (k : Int)) none = w.drop k := by
 unfold cutD
 rw [Zjs, Zic]
 by_cases h : k ≤ w.length
 ·rw [Nat.min_eq_left h, List.take_of_length_le (by simp)]
 ·rw [Nat.min_eq_right (by omega), List.drop_eq_nil_of_le (Nat.le_refl _), List.drop_eq_nil_of_le (by omega)]; simp
theorem ZgL {α : Type} (w : List α) (k : Nat) : cutD w none (some (k : Int)) = w.take k := by
 unfold cutD
 rw [Zjs, Zic]
 by_cases h : k ≤ w.length
 ·rw [Nat.min_eq_left h]; simp
 ·rw [Nat.min_eq_right (by omega), Nat.sub_zero, List.drop_zero, List.take_of_length_le (Nat.le_refl _), List.take_of_length_le (by omega)]
theorem Zex (n : Nat) (bs : List Int) : below n (Zg bs) = true := by
 unfold Zg below
 induction bs with
 | nil => rfl
 | cons b bs ih => simp only [List.map_cons, belowL, below, ih, Bool.and_self]
theorem Zq8 {bs : List Int} (h : bs.length = 8) {a : Nat} (ha : a < 8) : bs[a]? = some (bs.getD a 0) := by
 rw [List.getD_eq_getElem?_getD, List.getElem?_eq_getElem (by omega)]; rfl
theorem ZbL {bs : List Int} (h : bs.length = 8) {a : Nat} (ha : a < 8) : ∃ x, bs.getD a 0 = x ∧ ZbN (bs.map D.int) (a : Int) = some (.int x) := ⟨bs.getD a 0, rfl, by rw [ZcY, List.getElem?_map, Zq8 h ha]; rfl⟩
theorem Zf2 {i j : Int} (h : -(2 ^ 64) < i ∧ i < 2 ^ 64) : ZaL i j = true := by
 unfold ZaL; rw [Bool.or_eq_true]; left; simp only [Bool.and_eq_true, decide_eq_true_eq]; exact h
theorem mul_r {i j : Int} (h : -(2 ^ 64) < j ∧ j < 2 ^ 64) : ZaL i j = true := by
 unfold ZaL; rw [Bool.or_eq_true]; right; simp only [Bool.and_eq_true, decide_eq_true_eq]; exact h
theorem Zdo (x : Int) (m : Nat) (h : 0 < m) : ∃ a : Nat, x % (m : Int) = a ∧ a < m := by
 have h1 := Int.emod_nonneg x (b := (m : Int)) (by omega)
 have h2 := Int.emod_lt_of_pos x (b := (m : Int)) (by omega)
 exact ⟨(x % (m : Int)).toNat, (Int.toNat_of_nonneg h1).symm, by omega⟩
theorem Zm5 {M : Store} {n : Nat} {o : MO} (h : M[n]? = some o) : M.set n o = M := by
 apply List.ext_getElem?
 intro j
 by_cases hj : j = n
 ·subst hj; rw [List.getElem?_set_self (List.getElem?_eq_some_iff.mp h).1, h]
 ·rw [List.getElem?_set_ne (Ne.symm hj)]
theorem ZkU {i : Nat} {env : ZaO} {t : List (Int × Int)} {n own : Nat} {M : Store} {c elt : E3} (hi : env[i]? = some (some (.ref n))) (hM : M[n]? = some (.dct (ZaW t))) (hz : t.length ≤ 100000)
  (hc : ∀ p ∈ t, ∀ M, Zd1 M[n]? = some (ZaW t) → c ((env ++ List.replicate own none).set env.length (some (.int p.1))) M = .ok (.bl (decide (p.2 ≠ 0))) M)
  (he : ∀ p ∈ t, ∀ M, Zd1 M[n]? = some (ZaW t) → elt ((env ++ List.replicate own none).set env.length (some (.int p.1))) M = .ok (Za3 p) M) :
  Zlw (Za i) own (Zcg env.length) [c] elt env M = .ok (.ref M.length) (M ++ [.lst ((t.filter fun p => decide (p.2 ≠ 0)).map Za3)]) := by
 have hlt := (List.getElem?_eq_some_iff.mp hM).1
 have e0 : Za i env M = .ok (.ref n) M := by simp only [Za, hi]
 have ek : ((ZaW t).map fun q => keyV q.1) = t.map fun p => D.int p.1 := by
  simp [ZaW, keyV, Function.comp_def]
 have rd : ∀ x, Zd1 ((M.set n (.fdct (ZaW t)) ++ [MO.lst []]).set M.length (MO.lst x))[n]? = some (ZaW t) := fun x => by
  rw [List.getElem?_set_ne (by omega), List.getElem?_append_left (by simpa using hlt), List.getElem?_set_self hlt]; rfl
 have lp := Zgf (α := Int × Int) (enc := fun p => D.int p.1) (h := Za3) (p := fun p => decide (p.2 ≠ 0)) (it := ⟨(ZaW t).map fun q => keyV q.1, none⟩) (i := env.length) (n := M.length) (c := c) (elt := elt) (env0 := env ++ List.replicate own none) t [] (env ++ List.replicate own none) (M.set n (.fdct (ZaW t)) ++ [.lst []]) (fun _ => rfl)
  (fun p hp x => hc p hp _ (rd x)) (fun p hp _ x => he p hp _ (rd x)) (fun _ => rfl) (by rw [List.getElem?_append_right (by simp)]; simp) (by simp; omega)
 unfold Zlw
 rw [e0]
 simp only [R3.bind, hM]
 rw [show (List.map (fun q => keyV q.fst) (ZaW t)) = t.map (fun p => D.int p.1) from ek] at lp ⊢
 rw [lp]
 have e1 : (M.set n (.fdct (ZaW t)) ++ [MO.lst []]).set M.length (MO.lst ([] ++ (t.filter fun p => decide (p.2 ≠ 0)).map Za3)) = M.set n (.fdct (ZaW t)) ++ [MO.lst ((t.filter fun p => decide (p.2 ≠ 0)).map Za3)] := by
  rw [List.set_append_right _ _ (by simp)]; simp
 rw [e1]
 have e2 : (M.set n (.fdct (ZaW t)) ++ [MO.lst ((t.filter fun p => decide (p.2 ≠ 0)).map Za3)])[n]? = some (.fdct (ZaW t)) := by
  rw [List.getElem?_append_left (by simpa using hlt), List.getElem?_set_self hlt]
 simp only [e2]
 rw [List.set_append_left _ _ (by simpa using hlt), List.set_set, Zm5 hM]
theorem ZlH {n : Nat} {t : List (Int × Int)} (hk : keysOk t) {p : Int × Int} (hp : p ∈ t) {M : Store} (h : Zd1 M[n]? = some (ZaW t)) : ZdQ (.ref n) (.int p.1) M = .ok (.int p.2) M := by
 have hv : ZcZ (ZaW t) (.inl p.1) = some (.int p.2) := by
  rw [ZjS, if_pos (List.any_eq_true.mpr ⟨p, hp, by simp⟩), Zfn hk (k := p.1) (v := p.2) hp]
 simp only [ZdQ, h, Zf7, hv]
theorem ZkB {t : List (Int × Int)} (h : t.length < 64) : (t.filter fun p => decide (p.2 ≠ 0)).length < 64 := Nat.lt_of_le_of_lt (List.length_filter_le _ _) h
theorem ZkZ {e : E3} {env : ZaO} {M M1 : Store} {t : List (Int × Int)} {n : Nat} (hk : keysOk t) (hl : t.length < 64) (h : e env M = .ok (.ref n) M1) (hn : M1[n]? = some (.lst ((t.filter fun p => decide (p.2 ≠ 0)).map Za3))) :
  Zaj Zbv (Zb e Zj) env M = .ok (.ref M1.length) (M1 ++ [.lst ((Zbk t).map Za3)]) := by
 refine Zg6 h ?_
 simp only [Zbv, hn]
 rw [if_pos (Zjw (ZkB hl)), Zkq (Zlq (Ze2 t) (ZdP hk))]
 rfl
theorem Zik (c k : Int) (h0 : 0 ≤ k) (h1 : k ≤ 5000) : ∃ v : Int, ∀ M, ZaN [.int c, .int k] M = .ok (.int v) M := by
 by_cases h : c ≤ -1000000
 ·exact ⟨c, fun M => by simp [ZaN, Zeu, Zr, Zac, Zz, sIf, Zw, Zal, mkF, Za0, below, belowL, ZaL, h]⟩
 ·by_cases h' : (1000000 : Int) ≤ c
  ·exact ⟨c, fun M => by simp [ZaN, Zeu, Zr, Zac, Zz, sIf, Zw, Zal, mkF, Za0, below, belowL, ZaL, h, h']⟩
  ·have m1 : ZaL 31 c = true := Zf2 (by omega)
   have m2 : ZaL k k = true := Zf2 (by omega)
   have m3 : ZaL 17 k = true := Zf2 (by omega)
   have m4 : ∀ x, ZaL (c + 1000003) x = true := fun x => Zf2 (by omega)
   have q := Int.emod_nonneg ((c + 1000003) * (31 * c + k * k + 17 * k + 2000033)) (b := 2147483629) (by omega)
   have q' := Int.emod_lt_of_pos ((c + 1000003) * (31 * c + k * k + 17 * k + 2000033)) (b := 2147483629) (by omega)
   generalize hn : (c + 1000003) * (31 * c + k * k + 17 * k + 2000033) % 2147483629 = n at q q'
   have m5 : ZaL n n = true := Zf2 (by omega)
   exact ⟨n * n + n / 7, fun M => by simp [ZaN, Zeu, Zr, Zac, Zz, sIf, Zw, Zal, mkF, Za0, below, belowL, h, h', m1, m2, m3, m4, hn, m5]⟩
theorem ZiI (c : Int) : ∃ v : Int, ∀ M, Zbi [.int c] M = .ok (.int v) M := by
 by_cases h : c % 3 < 2
 ·exact ⟨_, fun M => by simp [Zbi, Zc6, Zr, Zac, Zz, sIf, Zw, Zal, mkF, Za0, below, belowL, ZaL, h]; rfl⟩
 ·by_cases h' : c / 3 % 2 = 0
  ·exact ⟨_, fun M => by simp [Zbi, Zc6, Zr, Zac, Zz, sIf, Zw, Zal, mkF, Za0, below, belowL, ZaL, h, h']; rfl⟩
  ·exact ⟨_, fun M => by simp [Zbi, Zc6, Zr, Zac, Zz, sIf, Zw, Zal, mkF, Za0, below, belowL, ZaL, h, h']; rfl⟩
theorem ZkY {α : Type} {enc : α → D} {P : D → α → Prop} {it : It3} {i n : Nat} {elt : E3} {env0 env : ZaO} {ds acc : List D} {M : Store} (he : ∀ d, env.set i (some d) = env0.set i (some d))
  (hf : ∀ d ∈ ds, ∃ a, P d a ∧ ∀ x, elt (env0.set i (some d)) (M.set n (.lst x)) = .ok (enc a) (M.set n (.lst x))) (hl : ∀ x, locked it (M.set n (.lst x)) = true) (hM : M[n]? = some (.lst acc)) (hz : acc.length + ds.length ≤ SZ) :
  ∃ as : List α, as.length = ds.length ∧ (∀ (j : Nat) d a, ds[j]? = some d → as[j]? = some a → P d a) ∧ ZdF it (Zcg i) [] elt n ds env M = .ok (.ref n) (M.set n (.lst (acc ++ as.map enc))) := by
 obtain ⟨es, le, re, h⟩ := Zkg (it := it) (i := i) (n := n) (elt := elt) (R := fun d e => ∃ a, e = enc a ∧ P d a) (env0 := env0) ds acc env M he (fun d hd x => by
  obtain ⟨a, pa, ha⟩ := hf d hd
  exact ⟨enc a, ha _, a, rfl, pa⟩) hl hM hz
 obtain ⟨as, rfl, ps⟩ := Zif (enc := enc) (P := fun j a => ∀ d, ds[j]? = some d → P d a) es fun j e hj => by
  have hlt : j < ds.length := by rw [← le]; exact (List.getElem?_eq_some_iff.mp hj).1
  obtain ⟨a, ea, pa⟩ := re j ds[j] e (by simp [hlt]) hj
  refine ⟨a, ea, fun d hd => ?_⟩
  rw [List.getElem?_eq_getElem hlt] at hd
  cases hd
  exact pa
 exact ⟨as, by simpa using le, fun j d a hd ha => ps j a ha d hd, h⟩
theorem Zlr (n : Nat) (r : ZbC) : below n (Zf r) = true := by
 unfold Zf below
 induction r with
 | nil => rfl
 | cons x r ih =>
  simp only [List.map_cons, belowL, ih, Bool.and_true]
  cases x <;> rfl
theorem Zn4 {M M' : Store} {d : D} (h : M'.length = M.length) : Za0 M d M' = .ok d M' := by
 unfold Za0
 rw [List.take_of_length_le (by omega)]
 split <;> rfl
theorem ZoX (cell c A m : Int) (many : Nat) (hmix : ∀ M, ZaN [.int cell, .int A] M = .ok (.int c) M) (h0 : 0 ≤ A) (h1 : A < m) (hm : m = many) : ∃ r : Row, r.ok (many + 1) ∧ ∀ M, Zau [.int cell, .int A, .int m] M = .ok (Zq r) M := by
 have fin : ∀ r : Row, r.ok (many + 1) → (∀ M, Zau [.int cell, .int A, .int m] M = .ok (Zq r) M) → ∃ r : Row, r.ok (many + 1) ∧ ∀ M, Zau [.int cell, .int A, .int m] M = .ok (Zq r) M := fun r h1 h2 => ⟨r, h1, h2⟩
 obtain ⟨a, ha, la⟩ : ∃ a : Nat, c / 16 % 8 = a ∧ a < 8 := ⟨(c / 16 % 8).toNat, by omega, by omega⟩
 obtain ⟨b, hb, lb⟩ : ∃ a : Nat, c / 16 / 8 % 8 = a ∧ a < 8 := ⟨(c / 16 / 8 % 8).toNat, by omega, by omega⟩
 obtain ⟨d, hd, ld⟩ : ∃ a : Nat, c / 16 / 64 % 8 = a ∧ a < 8 := ⟨(c / 16 / 64 % 8).toNat, by omega, by omega⟩
 obtain ⟨v, hv⟩ := ZiI (c / 16 / 8)
 have p1 : 0 < m - A := by omega
 have p2 : 0 < m + 1 := by omega
 have h : c % 16 = 0 ∨ c % 16 = 1 ∨ c % 16 = 2 ∨ c % 16 = 3 ∨ c % 16 = 4 ∨ c % 16 = 5 ∨ c % 16 = 6 ∨ c % 16 = 7 ∨ c % 16 = 8 ∨ c % 16 = 9 ∨ c % 16 = 10 ∨ c % 16 = 11 ∨ c % 16 = 12 ∨ c % 16 = 13 ∨ c % 16 = 14 ∨ c % 16 = 15 := by omega
 have b1 := Int.emod_nonneg (c / 16 / 32) (b := m - A) (by omega)
 have b2 := Int.emod_lt_of_pos (c / 16 / 32) p1
 have b3 := Int.emod_nonneg (c / 16 / 32) (b := m + 1) (by omega)
 have b4 := Int.emod_lt_of_pos (c / 16 / 32) p2
 obtain ⟨k, lk, hlead⟩ : ∃ k : Nat, k < many + 1 ∧ ((c / 16 / 8 % 4 = 0 ∧ c / 16 / 32 % (m + 1) = k) ∨ (¬ c / 16 / 8 % 4 = 0 ∧ A + 1 + c / 16 / 32 % (m - A) = k)) := by
  by_cases q : c / 16 / 8 % 4 = 0
  ·exact ⟨(c / 16 / 32 % (m + 1)).toNat, by omega, .inl ⟨q, by omega⟩⟩
  ·exact ⟨(A + 1 + c / 16 / 32 % (m - A)).toNat, by omega, .inr ⟨q, by omega⟩⟩
 clear b1 b2 b3 b4 hm
 by_cases hh : c / 16 % 41 = 7
 ·refine fin .halt trivial fun M => ?_
  rcases h with h | h | h | h | h | h | h | h | h | h | h | h | h | h | h | h <;> simp [Zau, ZaU, Zr, Zac, Zz, sIf, Zw, Zal, mkF, Za0, below, belowL, hmix, h, hh, Zq]
 ·rcases hlead with ⟨q, hk⟩ | ⟨q, hk⟩
  all_goals
   rcases h with h | h | h | h | h | h | h | h | h | h | h | h | h | h | h | h
   ·exact fin (.put a v) la fun M => by simp [Zau, ZaU, Zr, Zac, Zz, sIf, Zw, Zal, mkF, Za0, below, belowL, hmix, h, hh, q, h0, h1, p1, p2, Int.lt_add_one_iff, ha, hb, hd, hk, hv, Zq, ZaV, deq]
   ·exact fin (.put a v) la fun M => by simp [Zau, ZaU, Zr, Zac, Zz, sIf, Zw, Zal, mkF, Za0, below, belowL, hmix, h, hh, q, h0, h1, p1, p2, Int.lt_add_one_iff, ha, hb, hd, hk, hv, Zq, ZaV, deq]
   ·exact fin (.add a b d) ⟨la, lb, ld⟩ fun M => by simp [Zau, ZaU, Zr, Zac, Zz, sIf, Zw, Zal, mkF, Za0, below, belowL, hmix, h, hh, q, h0, h1, p1, p2, Int.lt_add_one_iff, ha, hb, hd, hk, hv, Zq, ZaV, deq]
   ·exact fin (.sub a b d) ⟨la, lb, ld⟩ fun M => by simp [Zau, ZaU, Zr, Zac, Zz, sIf, Zw, Zal, mkF, Za0, below, belowL, hmix, h, hh, q, h0, h1, p1, p2, Int.lt_add_one_iff, ha, hb, hd, hk, hv, Zq, ZaV, deq]
   ·exact fin (.more a b d) ⟨la, lb, ld⟩ fun M => by simp [Zau, ZaU, Zr, Zac, Zz, sIf, Zw, Zal, mkF, Za0, below, belowL, hmix, h, hh, q, h0, h1, p1, p2, Int.lt_add_one_iff, ha, hb, hd, hk, hv, Zq, ZaV, deq]
   ·exact fin (.get a b) ⟨la, lb⟩ fun M => by simp [Zau, ZaU, Zr, Zac, Zz, sIf, Zw, Zal, mkF, Za0, below, belowL, hmix, h, hh, q, h0, h1, p1, p2, Int.lt_add_one_iff, ha, hb, hd, hk, hv, Zq, ZaV, deq]
   ·exact fin (.get a b) ⟨la, lb⟩ fun M => by simp [Zau, ZaU, Zr, Zac, Zz, sIf, Zw, Zal, mkF, Za0, below, belowL, hmix, h, hh, q, h0, h1, p1, p2, Int.lt_add_one_iff, ha, hb, hd, hk, hv, Zq, ZaV, deq]
   ·exact fin (.get a b) ⟨la, lb⟩ fun M => by simp [Zau, ZaU, Zr, Zac, Zz, sIf, Zw, Zal, mkF, Za0, below, belowL, hmix, h, hh, q, h0, h1, p1, p2, Int.lt_add_one_iff, ha, hb, hd, hk, hv, Zq, ZaV, deq]
   ·exact fin (.set a b) ⟨la, lb⟩ fun M => by simp [Zau, ZaU, Zr, Zac, Zz, sIf, Zw, Zal, mkF, Za0, below, belowL, hmix, h, hh, q, h0, h1, p1, p2, Int.lt_add_one_iff, ha, hb, hd, hk, hv, Zq, ZaV, deq]
   ·exact fin (.set a b) ⟨la, lb⟩ fun M => by simp [Zau, ZaU, Zr, Zac, Zz, sIf, Zw, Zal, mkF, Za0, below, belowL, hmix, h, hh, q, h0, h1, p1, p2, Int.lt_add_one_iff, ha, hb, hd, hk, hv, Zq, ZaV, deq]
   ·exact fin (.set a b) ⟨la, lb⟩ fun M => by simp [Zau, ZaU, Zr, Zac, Zz, sIf, Zw, Zal, mkF, Za0, below, belowL, hmix, h, hh, q, h0, h1, p1, p2, Int.lt_add_one_iff, ha, hb, hd, hk, hv, Zq, ZaV, deq]
   ·exact fin (.set a b) ⟨la, lb⟩ fun M => by simp [Zau, ZaU, Zr, Zac, Zz, sIf, Zw, Zal, mkF, Za0, below, belowL, hmix, h, hh, q, h0, h1, p1, p2, Int.lt_add_one_iff, ha, hb, hd, hk, hv, Zq, ZaV, deq]
   ·exact fin (.jump k) lk fun M => by simp [Zau, ZaU, Zr, Zac, Zz, sIf, Zw, Zal, mkF, Za0, below, belowL, hmix, h, hh, q, h0, h1, p1, p2, Int.lt_add_one_iff, ha, hb, hd, hk, hv, Zq, ZaV, deq]
   ·exact fin (.when a k) ⟨la, lk⟩ fun M => by simp [Zau, ZaU, Zr, Zac, Zz, sIf, Zw, Zal, mkF, Za0, below, belowL, hmix, h, hh, q, h0, h1, p1, p2, Int.lt_add_one_iff, ha, hb, hd, hk, hv, Zq, ZaV, deq]
   ·exact fin (.when a k) ⟨la, lk⟩ fun M => by simp [Zau, ZaU, Zr, Zac, Zz, sIf, Zw, Zal, mkF, Za0, below, belowL, hmix, h, hh, q, h0, h1, p1, p2, Int.lt_add_one_iff, ha, hb, hd, hk, hv, Zq, ZaV, deq]
   ·exact fin (.tell a) la fun M => by simp [Zau, ZaU, Zr, Zac, Zz, sIf, Zw, Zal, mkF, Za0, below, belowL, hmix, h, hh, q, h0, h1, p1, p2, Int.lt_add_one_iff, ha, hb, hd, hk, hv, Zq, ZaV, deq]
theorem ZpM (cell : Int) (j many : Nat) (hat : j < many) (hm : many ≤ 64) : ∃ r : Row, r.ok (many + 1) ∧ ∀ M, Zau [.int cell, .int j, .int many] M = .ok (Zq r) M := by
 obtain ⟨c, hc⟩ := Zik cell j (by omega) (by omega)
 exact ZoX cell c j many many hc (by omega) (by omega) rfl
theorem ZoL (ns : List Int) (M : Store) : ∃ roll : ZbC, roll.length ≤ 61 ∧ ZbW roll ∧ ZdY [.scr (ns.map D.int)] M = .ok (Zf roll) M := by
 have ecs : cutD (ns.map D.int) none (some 60) = (ns.take 60).map D.int := by
  have := ZgL (ns.map D.int) 60
  rw [← List.map_take] at this
  exact this
 generalize hcs : ns.take 60 = cs at ecs
 have lcs : cs.length ≤ 60 := by rw [← hcs]; simp; omega
 obtain ⟨rows, lr, hr, h4⟩ := ZkY (α := Row) (enc := Zq) (P := fun _ r => r.ok (cs.length + 1)) (it := ⟨Zc1 0 cs.length, none⟩) (i := 5) (n := M.length + 1) (elt := (Zae Zau (Zb (e2 Ze (Za 1) (Za 5)) (Zb (Za 5) (Zb (Zaj ZaR (Zb (Za 1) (Zj))) (Zj))))))
  (env0 := [some (.scr (ns.map D.int)), some (.ref M.length), none, none, none, none]) (env := [some (.scr (ns.map D.int)), some (.ref M.length), none, none, none, none]) (ds := Zc1 0 cs.length) (acc := []) (M := M ++ [.lst (cs.map D.int), .lst []]) (fun _ => rfl)
  (fun d hd => by
   obtain ⟨j, hj⟩ := List.getElem?_of_mem hd
   obtain ⟨rfl, lj⟩ := Zgo hj
   obtain ⟨r, ok, h⟩ := ZpM cs[j] j cs.length lj (by omega)
   exact ⟨r, ok, fun x => by
    have hM2 : ((M ++ [MO.lst (cs.map D.int), MO.lst []]).set (M.length + 1) (.lst x))[M.length]? = some (.lst (cs.map D.int)) := by
     rw [Zff]; simp
    generalize (M ++ [MO.lst (cs.map D.int), MO.lst []]).set (M.length + 1) (.lst x) = M2 at hM2
    have e1 : (e2 Ze (Za 1) (Za 5)) [some (.scr (ns.map D.int)), some (.ref M.length), none, none, none, some (.int (j : Int))] M2 = .ok (.int cs[j]) M2 := by simp [lj, hM2]
    have e2 : (Zaj ZaR (Zb (Za 1) (Zj))) [some (.scr (ns.map D.int)), some (.ref M.length), none, none, none, some (.int (j : Int))] M2 = .ok (.int (cs.length : Int)) M2 := by simp [hM2]
    show Zae Zau _ [some (.scr (ns.map D.int)), some (.ref M.length), none, none, none, some (.int (j : Int))] M2 = _
    exact ZcI e1 rfl e2 (h M2)⟩)
  (fun x => rfl) (by rw [Za4]; rfl) (by simp [ZgG]; omega)
 have lrows : rows.length = cs.length := by rw [ZgG] at lr; exact lr
 have hrows : ∀ x ∈ rows, x.ok (cs.length + 1) := fun x hx => by
  obtain ⟨j, hj⟩ := List.getElem?_of_mem hx
  have : j < (Zc1 0 cs.length).length := by rw [← lr]; exact (List.getElem?_eq_some_iff.mp hj).1
  exact hr j (Zc1 0 cs.length)[j] x (by simp [this]) hj
 have s1 : (eSl (Za 0) (ZaD) (ZaE (eC (.int 60)))) [some (.scr (ns.map D.int)), none, none, none, none] M = .ok (.ref M.length) (M ++ [.lst (cs.map D.int)]) := by simp [ecs]
 have s2 : (eLC (ZbJ (Zaj ZaR (Zb (Za 1) (Zj)))) 1 (Zcg 5) [] (Zae Zau (Zb (e2 Ze (Za 1) (Za 5)) (Zb (Za 5) (Zb (Zaj ZaR (Zb (Za 1) (Zj))) (Zj)))))) [some (.scr (ns.map D.int)), some (.ref M.length), none, none, none] (M ++ [.lst (cs.map D.int)]) = .ok (.ref (M.length + 1)) (M ++ [.lst (cs.map D.int), .lst (rows.map Zq)]) := by
  rw [ZkV (it := ⟨Zc1 0 cs.length, none⟩) (M' := M ++ [.lst (cs.map D.int)]) (by
   have : ((cs.length : Int)) ≤ 1000000 ∧ -1000000 ≤ (cs.length : Int) := by omega
   simp [this])]
  have e : (M ++ [MO.lst (cs.map D.int)]).length = M.length + 1 := by simp
  rw [e, List.append_assoc]
  refine Eq.trans h4 ?_
  rw [Zff]; rfl
 have fin : ∀ (rows' : List Row) (last : Row), rows'.length = cs.length → (∀ x ∈ rows', x.ok (cs.length + 1)) → last.ok (cs.length + 1) → (last = .halt ∨ ∃ k, last = .jump k) → (∃ G, ZdZ [some (.scr (ns.map D.int)), none, none, none, none] M = .rt (Zf (rows' ++ [last])) (M ++ G)) →
   ∃ roll : ZbC, roll.length ≤ 61 ∧ ZbW roll ∧ ZdY [.scr (ns.map D.int)] M = .ok (Zf roll) M := fun rows' last l' ro lo ll ⟨G, h⟩ => by
  refine ⟨rows' ++ [last], by simp [l']; omega, ⟨fun x hx => ?_, rows', last, rfl, ll⟩, Rt.pure h (Zlr _ _)⟩
  rw [List.length_append, List.length_singleton, l']
  rcases List.mem_append.mp hx with hx | hx
  ·exact ro x hx
  ·rw [List.mem_singleton.mp hx]; exact lo
 have pre : ∀ {k : S3}, ZdZ = Zr (Zac 1 (eSl (Za 0) (ZaD) (ZaE (eC (.int 60))))) (Zr (Zac 2 (eLC (ZbJ (Zaj ZaR (Zb (Za 1) (Zj)))) 1 (Zcg 5) [] (Zae Zau (Zb (e2 Ze (Za 1) (Za 5)) (Zb (Za 5) (Zb (Zaj ZaR (Zb (Za 1) (Zj))) (Zj))))))) k) →
   ZdZ [some (.scr (ns.map D.int)), none, none, none, none] M = k [some (.scr (ns.map D.int)), some (.ref M.length), some (.ref (M.length + 1)), none, none] (M ++ [.lst (cs.map D.int), .lst (rows.map Zq)]) := fun {k} e => by
  rw [e, Zm (Zag s1), Zm (Zag s2)]
 have pre' := pre rfl
 rw [pre'] at fin
 clear pre pre' s1 s2 h4
 have g0 : (M ++ [MO.lst (cs.map D.int), .lst (rows.map Zq)])[M.length]? = some (.lst (cs.map D.int)) := Za7 _ _ _
 have g1 : (M ++ [MO.lst (cs.map D.int), .lst (rows.map Zq)])[M.length + 1]? = some (.lst (rows.map Zq)) := Za4 _ _ 1
 by_cases hq : ∃ p0 : 0 < cs.length, cs[0] % 4 = 1
 ·obtain ⟨p0, q1⟩ := hq
  obtain ⟨n, hn⟩ := Zik cs[0] 61 (by omega) (by omega)
  obtain ⟨a, ha, la⟩ := Zdo n cs.length p0
  obtain ⟨k, hk, lk⟩ := Zdo (n / 64) (cs.length + 1) (by omega)
  have hk' : n / 64 % ((cs.length : Int) + 1) = k := by rw [← hk]; rfl
  refine fin (rows.set a .halt) (.jump k) (by simp [lrows]) (fun x hx => ?_) lk (.inr ⟨k, rfl⟩) ⟨[.lst (cs.map D.int), .lst ((rows.set a .halt).map Zq), .lst [Zq (.jump k)], .lst ((rows.set a .halt ++ [Row.jump k]).map Zq)], ?_⟩
  ·rcases List.mem_or_eq_of_mem_set hx with h | h
   ·exact hrows x h
   ·rw [h]; trivial
  ·have p0' : (0 : Int) < cs.length := by omega
   have p1' : (0 : Int) < (cs.length : Int) + 1 := by omega
   have z : cs.length + 1 ≤ 1000000 := by omega
   simp [Zr, Zac, Zz, sIf, Zw, Zal, Zd9, g0, g1, p0', p1', q1, hn, lrows, ha, la, hk', z, Zq, Zf, List.map_set, p0]
 ·have c1 : (ZdB (e2 ZgJ (Zaj ZaR (Zb (Za 1) (Zj))) (eC (.int 0))) (e2 Zaq (e2 ZaJ (e2 Ze (Za 1) (eC (.int 0))) (eC (.int 4))) (eC (.int 1)))) [some (.scr (ns.map D.int)), some (.ref M.length), some (.ref (M.length + 1)), some (Zq .halt), none] (M ++ [.lst (cs.map D.int), .lst (rows.map Zq)]) = .ok (.bl false) (M ++ [.lst (cs.map D.int), .lst (rows.map Zq)]) := by
   by_cases p0 : 0 < cs.length
   ·have p0' : (0 : Int) < cs.length := by omega
    have q1 : ¬ cs[0] % 4 = 1 := fun h => hq ⟨p0, h⟩
    simp [g0, p0', p0, q1]
   ·have p0' : ¬ (0 : Int) < cs.length := by omega
    simp [g0, p0', p0]
  refine fin rows .halt lrows hrows trivial (.inl rfl) ⟨[.lst (cs.map D.int), .lst (rows.map Zq), .lst [Zq .halt], .lst ((rows ++ [Row.halt]).map Zq)], ?_⟩
  refine (Zm (Zag (d := Zq .halt) (M' := M ++ [.lst (cs.map D.int), .lst (rows.map Zq)]) (by simp [Zq]))).trans ((Zm (Zy c1)).trans ?_)
  have z : cs.length + 1 ≤ 1000000 := by omega
  simp [Zz, g1, lrows, z, Zq, Zf]
def Zcf (r : Row) (bs : List Int) (t : List (Int × Int)) : List (Int × Int) := match r with
 | .set a b => Ziz t (bs.getD a 0) (bs.getD b 0)
 | _ => t
theorem set_same {M : Store} {n : Nat} {o : MO} (h : M[n]? = some o) : M.set n o = M := by
 apply List.ext_getElem?
 intro j
 by_cases hj : j = n
 ·subst hj; rw [List.getElem?_set_self (List.getElem?_eq_some_iff.mp h).1, h]
 ·rw [List.getElem?_set_ne (Ne.symm hj)]
theorem Zkk (r : Row) (p nb nt : Nat) (bs : List Int) (t : List (Int × Int)) (M : Store) (many : Nat) (g0 : M[nb]? = some (.lst (bs.map D.int))) (g1 : M[nt]? = some (.dct (ZaW t))) (hne : nb ≠ nt) (hb : bs.length = 8) (hr : r.ok many) (hl : t.length < 100000) :
  Zbt [Zq r, .int p, .ref nb, .ref nt] M = .ok (.int (r.place bs p)) ((M.set nb (.lst ((r.boxes bs t).map D.int))).set nt (.dct (ZaW (Zcf r bs t)))) := by
 have rdx : ∀ {b : Nat}, b < 8 → ∃ x, bs[b]?.getD 0 = x ∧ ZbN (bs.map D.int) (b : Int) = some (.int x) := fun hb' => by
  obtain ⟨x, h, g⟩ := ZbL hb hb'
  exact ⟨x, by rw [← h]; simp, g⟩
 have z : (ZaW t).length < 1000000 := by simp [ZaW]; omega
 have fin : ∀ {d : D} {M' : Store}, Za5 [some (Zq r), some (.int (p : Int)), some (.ref nb), some (.ref nt), none] M = .rt d M' → M'.length = M.length →
   Zbt [Zq r, .int p, .ref nb, .ref nt] M = .ok d M' := fun {d M'} h hl => (ZhL h).trans (Zn4 hl)
 have sb : M.set nb (.lst (bs.map D.int)) = M := set_same g0
 have st : M.set nt (.dct (ZaW t)) = M := set_same g1
 have sx : ∀ x, (M.set nb x).set nt (.dct (ZaW t)) = M.set nb x := fun x => set_same (by rw [List.getElem?_set_ne hne]; exact g1)
 cases r with
 | put a n => exact fin (by simp [Za5, Zr, Zac, Zz, sIf, Zw, Zal, mkF, Za0, below, belowL, ZaL, Zd9, Zq, g0, g1, hb, show a < 8 from hr, Row.boxes, Row.place, Zcf, List.map_set, sx]) (by simp)
 | add a b c =>
  obtain ⟨x, hx, gx⟩ := rdx hr.2.1; obtain ⟨y, hy, gy⟩ := rdx hr.2.2
  exact fin (by simp [Za5, Zr, Zac, Zz, sIf, Zw, Zal, mkF, Za0, below, belowL, ZaL, Zd9, Zq, g0, g1, hb, hr.1, Row.boxes, Row.place, Zcf, List.map_set, -ZaM, gx, gy, hx, hy, sx]) (by simp)
 | sub a b c =>
  obtain ⟨x, hx, gx⟩ := rdx hr.2.1; obtain ⟨y, hy, gy⟩ := rdx hr.2.2
  exact fin (by simp [Za5, Zr, Zac, Zz, sIf, Zw, Zal, mkF, Za0, below, belowL, ZaL, Zd9, Zq, g0, g1, hb, hr.1, Row.boxes, Row.place, Zcf, List.map_set, -ZaM, gx, gy, hx, hy, sx]) (by simp)
 | more a b c =>
  obtain ⟨x, hx, gx⟩ := rdx hr.2.1; obtain ⟨y, hy, gy⟩ := rdx hr.2.2
  by_cases q : y < x
  ·exact fin (by simp [Za5, Zr, Zac, Zz, sIf, Zw, Zal, mkF, Za0, below, belowL, ZaL, Zd9, Zq, g0, g1, hb, hr.1, Row.boxes, Row.place, Zcf, List.map_set, -ZaM, gx, gy, hx, hy, q, sx]) (by simp)
  ·exact fin (by simp [Za5, Zr, Zac, Zz, sIf, Zw, Zal, mkF, Za0, below, belowL, ZaL, Zd9, Zq, g0, g1, hb, hr.1, Row.boxes, Row.place, Zcf, List.map_set, -ZaM, gx, gy, hx, hy, q, sx]) (by simp)
 | get a b =>
  obtain ⟨x, hx, gx⟩ := rdx hr.2
  have hv := Zkp t x
  exact fin (by simp [Za5, Zr, Zac, Zz, sIf, Zw, Zal, mkF, Za0, below, belowL, ZaL, Zd9, Zq, g0, g1, hb, hr.1, Row.boxes, Row.place, Zcf, List.map_set, -ZaM, gx, hx, hv, Zkf, ZlA, sx]) (by simp)
 | set a b =>
  obtain ⟨x, hx, gx⟩ := rdx hr.1; obtain ⟨y, hy, gy⟩ := rdx hr.2
  exact fin (by simp [Za5, Zr, Zac, Zz, sIf, Zw, Zal, mkF, Za0, below, belowL, ZaL, Znw, Zq, g0, g1, hb, Row.boxes, Row.place, Zcf, -ZaM, gx, gy, hx, hy, z, ZmZ, sb]) (by simp)
 | jump k => exact fin (by simp [Za5, Zr, Zac, Zz, sIf, Zw, Zal, mkF, Za0, below, belowL, ZaL, Zq, Row.boxes, Row.place, Zcf, sb, st]) (by simp)
 | when a k =>
  obtain ⟨x, hx, gx⟩ := rdx hr.1
  by_cases q : 0 < x
  ·exact fin (by simp [Za5, Zr, Zac, Zz, sIf, Zw, Zal, mkF, Za0, below, belowL, ZaL, Zq, g0, Row.boxes, Row.place, Zcf, -ZaM, gx, hx, q, sb, st]) (by simp)
  ·exact fin (by simp [Za5, Zr, Zac, Zz, sIf, Zw, Zal, mkF, Za0, below, belowL, ZaL, Zq, g0, Row.boxes, Row.place, Zcf, -ZaM, gx, hx, q, sb, st]) (by simp)
 | tell a => exact fin (by simp [Za5, Zr, Zac, Zz, sIf, Zw, Zal, mkF, Za0, below, belowL, ZaL, Zq, Row.boxes, Row.place, Zcf, sb, st]) (by simp)
 | halt => exact fin (by simp [Za5, Zr, Zac, Zz, sIf, Zw, Zal, mkF, Za0, below, belowL, ZaL, Zq, Row.boxes, Row.place, Zcf, sb, st]) (by simp)
theorem Zn3 (ns : List Int) (M : Store) : ∃ bs : List Int, bs.length = 8 ∧ Zeb [.scr (ns.map D.int)] M = .ok (Zg bs) M := by
 obtain ⟨e', M', hl, bs, x, y, lb, rfl, rfl⟩ := Zid (it := ⟨Zc1 0 8, none⟩) (g := Zcg 2)
  (body := (Zr (Zac 3 (eC (.int 0))) (Zr (sIf (e2 ZgJ (Zaj ZaR (Zb (Za 0) (Zj))) (eC (.int 0))) (Zac 3 (e2 Ze (Za 0) (e2 ZaJ (e2 Zaf (e2 Zdc (eC (.int 5)) (Za 2)) (eC (.int 3))) (Zaj ZaR (Zb (Za 0) (Zj)))))) (Zw)) (Zal (ZeK tyL Zb8 (Za 1) (Zb (Zae Zbi (Zb (Zae ZaN (Zb (Za 3) (Zb (e2 Zaf (eC (.int 100)) (Za 2)) (Zj)))) (Zj))) (Zj)))))))
  (P := fun j env M' => ∃ (bs : List Int) (x y : Option D), bs.length = j ∧ env = [some (.scr (ns.map D.int)), some (.ref M.length), x, y] ∧ M' = M ++ [.lst (bs.map D.int)])
  (Zc1 0 8) 0 [some (.scr (ns.map D.int)), some (.ref M.length), none, none] (M ++ [.lst []]) ⟨[], none, none, rfl, rfl, rfl⟩ (fun _ _ _ _ => rfl)
  (fun k d hd env M' ⟨bs, x, y, lb, he, hm⟩ => by
   obtain ⟨rfl, lk⟩ := Zgo hd
   subst he hm
   have key : ∀ c : Int, ∃ e' M', Zal (ZeK tyL Zb8 (Za 1) (Zb (Zae Zbi (Zb (Zae ZaN (Zb (Za 3) (Zb (e2 Zaf (eC (.int 100)) (Za 2)) (Zj)))) (Zj))) (Zj))) [some (.scr (ns.map D.int)), some (.ref M.length), some (.int (k : Int)), some (.int c)] (M ++ [.lst (bs.map D.int)]) = .nx e' M' ∧
     ∃ (bs : List Int) (x y : Option D), bs.length = 0 + k + 1 ∧ e' = [some (.scr (ns.map D.int)), some (.ref M.length), x, y] ∧ M' = M ++ [.lst (bs.map D.int)] := fun c => by
    obtain ⟨v, hv⟩ := Zik c (100 + k) (by omega) (by omega)
    obtain ⟨w, hw⟩ := ZiI v
    refine ⟨_, M ++ [.lst ((bs ++ [w]).map D.int)], Zfr (d := .non) ?_, bs ++ [w], _, _, by simp [lb], rfl, rfl⟩
    have : (bs.length : Nat) < 1000000 := by omega
    simp [hv, hw, this]
   have m5 : ZaL 5 (k : Int) = true := Zf2 (by omega)
   by_cases p0 : 0 < ns.length
   ·obtain ⟨a, ha, la⟩ := Zdo (5 * (k : Int) + 3) ns.length p0
    obtain ⟨e', M', h, hP⟩ := key ns[a]
    refine ⟨_, e', M', rfl, ?_, hP⟩
    rw [← h]
    simp [Zr, Zac, sIf, p0, m5, ha, la]
   ·obtain ⟨e', M', h, hP⟩ := key 0
    refine ⟨_, e', M', rfl, ?_, hP⟩
    rw [← h]
    simp [Zr, Zac, sIf, p0, Zw])
 rw [ZgG] at lb
 refine ⟨bs, lb, Rt.pure (env := [some (.scr (ns.map D.int)), none, none, none]) (G := [.lst (bs.map D.int)]) ?_ (Zex _ _)⟩
 refine (Zm (Zag (d := .ref M.length) (M' := M ++ [.lst []]) (by simp))).trans ((Zm ((Zhy (it := ⟨Zc1 0 8, none⟩) (M' := M ++ [.lst []]) (by simp)).trans hl)).trans (ZaK ?_))
 simp [Zg]
theorem Zot (r : Row) (p : Nat) (bs : List Int) (t : List (Int × Int)) (A G : Store) (many : Nat) (hb : bs.length = 8) (hr : r.ok many) (hl : t.length < 100000) :
  Zbt [Zq r, .int p, .ref A.length, .ref (A.length + 1)] (A ++ .lst (bs.map D.int) :: .dct (ZaW t) :: G) = .ok (.int (r.place bs p)) (A ++ .lst ((r.boxes bs t).map D.int) :: .dct (ZaW (Zcf r bs t)) :: G) := by
 rw [Zkk r p A.length (A.length + 1) bs t _ many (Za7 _ _ _) (Za4 _ _ 1) (by omega) hb hr hl]
 rw [show (A ++ MO.lst (bs.map D.int) :: .dct (ZaW t) :: G).set A.length (.lst ((r.boxes bs t).map D.int)) = A ++ .lst ((r.boxes bs t).map D.int) :: .dct (ZaW t) :: G from Zff A _ 0 _, Zff A _ 1 _]
 rfl
theorem Zj1 {r : Row} {bs : List Int} {t : List (Int × Int)} (hk : keysOk t) : r.boxes bs (Zbk t) = r.boxes bs t := by cases r <;> simp [Row.boxes, Zmc hk]
theorem ZjR {r : Row} {bs : List Int} {t : List (Int × Int)} (hk : keysOk t) : r.cells bs (Zbk t) = Zbk (Zcf r bs t) := by
 cases r <;> simp only [Row.cells, Zcf]
 rw [Zmv hk]
theorem Zm4 {r : Row} {bs : List Int} {t : List (Int × Int)} (hk : keysOk t) : keysOk (Zcf r bs t) := by
 cases r <;> simp only [Zcf] <;> first | exact hk | exact ZiS _ _ hk
theorem ZnT (t : List (Int × Int)) (n v : Int) : (Ziz t n v).length ≤ t.length + 1 := by
 unfold Ziz; split <;> simp
theorem ZoG (r : Row) (bs : List Int) (t : List (Int × Int)) : (Zcf r bs t).length ≤ t.length + 1 := by
 cases r <;> simp only [Zcf] <;> first | omega | exact ZnT _ _ _
def Zea : Row → List Nat
 | .put .. => [112, 117, 116] | .add .. => [97, 100, 100] | .sub .. => [115, 117, 98] | .more .. => [109, 111, 114, 101] | .get .. => [103, 101, 116] | .set .. => [115, 101, 116] | .jump .. => [106, 117, 109, 112] | .when .. => [119, 104, 101, 110] | .tell .. => [116, 101, 108, 108] | .halt => [104, 97, 108, 116]
theorem ZeT (r : Row) (M : Store) : Ze (Zq r) (.int 0) M = .ok (.str (Zea r)) M := by cases r <;> simp [Zq, Zea]
theorem ZgH (r : Row) : r.isHalt = decide ((Zea r) = [104, 97, 108, 116]) := by cases r <;> rfl
theorem Zm0 {c : E3} {body : S3} {n : Nat} {env e : ZaO} {M M1 M' : Store} (h : c env M = .ok (.bl true) M1) (h' : body env M1 = .nx e M') : ZeJ c body (n + 1) env M = ZeJ c body n e M' := by
 show (match c env M with | .ok (.bl true) M1 => _ | .ok (.bl false) M1 => _ | .exc x M1 => _ | _ => _) = _
 rw [h]; simp only [h']
theorem ZhR {c : E3} {body : S3} {n : Nat} {env : ZaO} {M M1 : Store} (h : c env M = .ok (.bl false) M1) : ZeJ c body (n + 1) env M = .nx env M1 := by
 show (match c env M with | .ok (.bl true) M1 => _ | .ok (.bl false) M1 => _ | .exc x M1 => _ | _ => _) = _
 rw [h]
theorem Zkb (r : Row) : ∃ nm, (r.isHalt = decide (nm = [104, 97, 108, 116])) ∧ ∀ M, Ze (Zq r) (.int 0) M = .ok (.str nm) M := ⟨_, ZgH r, ZeT r⟩
theorem Zkv (roll : ZbC) (R : ZbW roll) (d1 : D) (most : Nat) (A : Store) (hm : most ≤ 2001) (J : Nat → Stt → List (Int × Int) → Prop) (hJ : ∀ k s t, J k s t → t.length < 64)
  (hS : ∀ k s t r, J k s t → roll[s.place]? = some r → r.isHalt = false → k < most → J (k + 1) ⟨r.place s.boxes s.place, r.boxes s.boxes t, Zbk (Zcf r s.boxes t)⟩ (Zcf r s.boxes t)) :
  ∀ (k : Nat) (pre : List Stt) (s : Stt) (t : List (Int × Int)) (fuel : Nat) (G : Store) (y : Option D), pre.length + k = most → k < fuel → Good roll s → keysOk t → s.cells = Zbk t → J pre.length s t →
  ∃ (p' : Nat) (bs' : List Int) (t' : List (Int × Int)) (G' : Store) (y' : Option D), ZeJ (ZdB (e2 Zb1 (e2 Ze (e2 Ze (Za 0) (Za 3)) (eC (.int 0))) (eC (.str [104, 97, 108, 116]))) (e2 ZjQ (Zaj ZaR (Zb (Za 6) (Zj))) (Za 2))) (Zr (Zac 3 (Zae Zbt (Zb (e2 Ze (Za 0) (Za 3)) (Zb (Za 3) (Zb (Za 4) (Zb (Za 5) (Zj))))))) (Zr (Zac 7 (Zlw (Za 5) 1 (Zcg 8) [e2 Zb1 (e2 ZdQ (Za 5) (Za 8)) (eC (.int 0))] (ZaH (Zb (Za 8) (Zb (e2 ZdQ (Za 5) (Za 8)) (Zj)))))) (Zal (ZeK tyL Zb8 (Za 6) (Zb (ZaH (Zb (Za 3) (Zb (Zaj ZaY (Zb (Za 4) (Zj))) (Zb (Zaj ZaY (Zb (Zaj Zbv (Zb (Za 7) (Zj))) (Zj))) (Zj))))) (Zj)))))) fuel
   [some (Zf roll), some d1, some (.int (most : Int)), some (.int (s.place : Int)), some (.ref A.length), some (.ref (A.length + 1)), some (.ref (A.length + 2)), y] (A ++ .lst (s.boxes.map D.int) :: .dct (ZaW t) :: .lst ((pre ++ [s]).map Zat) :: G) =
   .nx [some (Zf roll), some d1, some (.int (most : Int)), some (.int (p' : Int)), some (.ref A.length), some (.ref (A.length + 1)), some (.ref (A.length + 2)), y'] (A ++ .lst (bs'.map D.int) :: .dct (ZaW t') :: .lst ((pre ++ Zec roll k s).map Zat) :: G') := by
 intro k
 induction k with
 | zero =>
  intro pre s t fuel G y hk hf g kt es hj
  cases fuel with
  | zero => omega
  | succ fuel =>
   refine ⟨s.place, s.boxes, t, G, y, ?_⟩
   have gp := g.pl
   have hr : roll[s.place]? = some roll[s.place] := by simp [g.pl]
   obtain ⟨nm, hn, hi⟩ := Zkb roll[s.place]
   generalize hM : A ++ MO.lst (s.boxes.map D.int) :: .dct (ZaW t) :: .lst ((pre ++ [s]).map Zat) :: G = M
   have g2 : M[A.length + 2]? = some (.lst ((pre ++ [s]).map Zat)) := by rw [← hM]; exact Za4 _ _ 2
   have c0 : (e2 Ze (e2 Ze (Za 0) (Za 3)) (eC (.int 0))) [some (Zf roll), some d1, some (.int (most : Int)), some (.int (s.place : Int)), some (.ref A.length), some (.ref (A.length + 1)), some (.ref (A.length + 2)), y] M = .ok (.str nm) M := by
    refine Za8 (a := Zq roll[s.place]) (M1 := M) ?_ rfl (hi M)
    simp [Zf, hr]
   by_cases hq : nm = [104, 97, 108, 116]
   ·rw [ZhR (ZjK (M1 := M) (Za8 c0 rfl (by simp [hq])))]; exact congrArg _ hM.symm
   ·have c2 : (e2 ZjQ (Zaj ZaR (Zb (Za 6) (Zj))) (Za 2)) [some (Zf roll), some d1, some (.int (most : Int)), some (.int (s.place : Int)), some (.ref A.length), some (.ref (A.length + 1)), some (.ref (A.length + 2)), y] M = .ok (.bl false) M := by
     have : ¬ ((pre.length : Int) + 1 ≤ (most : Int)) := by omega
     simp [g2, this]
    rw [ZhR ((ZjF (M1 := M) (Za8 c0 rfl (by simp [hq]))).trans c2)]; exact congrArg _ hM.symm
 | succ k ih =>
  intro pre s t fuel G y hk hf g kt es hj
  cases fuel with
  | zero => omega
  | succ fuel =>
   have gp := g.pl
   have hr : roll[s.place]? = some roll[s.place] := by simp [g.pl]
   have ro := R.rows _ (List.getElem_mem g.pl)
   obtain ⟨nm, hn, hi⟩ := Zkb roll[s.place]
   generalize hrr : roll[s.place] = r at hr ro hn hi
   have tl := hJ _ _ _ hj
   generalize hM : A ++ MO.lst (s.boxes.map D.int) :: .dct (ZaW t) :: .lst ((pre ++ [s]).map Zat) :: G = M
   have g2 : M[A.length + 2]? = some (.lst ((pre ++ [s]).map Zat)) := by rw [← hM]; exact Za4 _ _ 2
   have ci : ∀ M, (e2 Ze (Za 0) (Za 3)) [some (Zf roll), some d1, some (.int (most : Int)), some (.int (s.place : Int)), some (.ref A.length), some (.ref (A.length + 1)), some (.ref (A.length + 2)), y] M = .ok (Zq r) M := fun M => by simp [Zf, hr]
   have c0 : (e2 Ze (e2 Ze (Za 0) (Za 3)) (eC (.int 0))) [some (Zf roll), some d1, some (.int (most : Int)), some (.int (s.place : Int)), some (.ref A.length), some (.ref (A.length + 1)), some (.ref (A.length + 2)), y] M = .ok (.str nm) M := Za8 (ci M) rfl (hi M)
   by_cases hq : nm = [104, 97, 108, 116]
   ·refine ⟨s.place, s.boxes, t, G, y, ?_⟩
    rw [ZhR (ZjK (M1 := M) (Za8 c0 rfl (by simp [hq])))]
    have : ZeY roll s = none := by simp [ZeY, hr, ZiL, hn, hq]
    rw [ZmG k this, hM]
   ·have c2 : (e2 ZjQ (Zaj ZaR (Zb (Za 6) (Zj))) (Za 2)) [some (Zf roll), some d1, some (.int (most : Int)), some (.int (s.place : Int)), some (.ref A.length), some (.ref (A.length + 1)), some (.ref (A.length + 2)), y] M = .ok (.bl true) M := by
     have : ((pre.length : Int) + 1 ≤ (most : Int)) := by omega
     simp [g2, this]
    have cc : (ZdB (e2 Zb1 (e2 Ze (e2 Ze (Za 0) (Za 3)) (eC (.int 0))) (eC (.str [104, 97, 108, 116]))) (e2 ZjQ (Zaj ZaR (Zb (Za 6) (Zj))) (Za 2))) [some (Zf roll), some d1, some (.int (most : Int)), some (.int (s.place : Int)), some (.ref A.length), some (.ref (A.length + 1)), some (.ref (A.length + 2)), y] M = .ok (.bl true) M := (ZjF (M1 := M) (Za8 c0 rfl (by simp [hq]))).trans c2
    have nh : r.isHalt = false := by rw [hn]; simp [hq]
    have st : ZeY roll s = some ⟨r.place s.boxes s.place, r.boxes s.boxes t, Zbk (Zcf r s.boxes t)⟩ := by
     simp only [ZeY, hr, Option.bind_some, ZiL, nh, es, Zj1 kt, ZjR kt]; rfl
    have j' := hS _ _ _ r hj hr nh (by omega)
    have kt' := Zm4 (r := r) (bs := s.boxes) kt
    have tl' := hJ _ _ _ j'
    have go := Zot r s.place s.boxes t A (.lst ((pre ++ [s]).map Zat) :: G) roll.length g.bx ro (by omega)
    rw [hM] at go
    have gd := (ZgN R g st).1
    generalize r.place s.boxes s.place = p2 at *
    generalize r.boxes s.boxes t = bs2 at *
    generalize Zcf r s.boxes t = t2 at *
    generalize hM2 : A ++ MO.lst (bs2.map D.int) :: .dct (ZaW t2) :: .lst ((pre ++ [s]).map Zat) :: G = M2 at go
    have k0 : M2[A.length]? = some (.lst (bs2.map D.int)) := by rw [← hM2]; exact Za7 _ _ _
    have k1 : M2[A.length + 1]? = some (.dct (ZaW t2)) := by rw [← hM2]; exact Za4 _ _ 1
    have k2 : M2[A.length + 2]? = some (.lst ((pre ++ [s]).map Zat)) := by rw [← hM2]; exact Za4 _ _ 2
    have b1 : (Zae Zbt (Zb (e2 Ze (Za 0) (Za 3)) (Zb (Za 3) (Zb (Za 4) (Zb (Za 5) (Zj)))))) [some (Zf roll), some d1, some (.int (most : Int)), some (.int (s.place : Int)), some (.ref A.length), some (.ref (A.length + 1)), some (.ref (A.length + 2)), y] M = .ok (.int (p2 : Int)) M2 :=
     ZgS (ci M) rfl rfl rfl go
    have b2 := ZkU (i := 5) (env := [some (Zf roll), some d1, some (.int (most : Int)), some (.int (p2 : Int)), some (.ref A.length), some (.ref (A.length + 1)), some (.ref (A.length + 2)), y]) (t := t2) (n := A.length + 1) (own := 1) (M := M2) (c := e2 Zb1 (e2 ZdQ (Za 5) (Za 8)) (eC (.int 0))) (elt := ZaH (Zb (Za 8) (Zb (e2 ZdQ (Za 5) (Za 8)) (Zj)))) rfl k1 (by omega)
     (fun p hp M hM => by
      have := ZlH kt' hp hM
      have e : (e2 ZdQ (Za 5) (Za 8)) ([some (Zf roll), some d1, some (.int (most : Int)), some (.int (p2 : Int)), some (.ref A.length), some (.ref (A.length + 1)), some (.ref (A.length + 2)), y, some (.int p.1)]) M = .ok (.int p.2) M := Za8 rfl rfl this
      exact (Za8 e rfl (by simp)))
     (fun p hp M hM => by
      have := ZlH kt' hp hM
      have e : (e2 ZdQ (Za 5) (Za 8)) ([some (Zf roll), some d1, some (.int (most : Int)), some (.int (p2 : Int)), some (.ref A.length), some (.ref (A.length + 1)), some (.ref (A.length + 2)), y, some (.int p.1)]) M = .ok (.int p.2) M := Za8 rfl rfl this
      generalize (e2 ZdQ (Za 5) (Za 8)) = E at e
      show ZaH (Zb (Za 8) (Zb E Zj)) [some (Zf roll), some d1, some (.int (most : Int)), some (.int (p2 : Int)), some (.ref A.length), some (.ref (A.length + 1)), some (.ref (A.length + 2)), y, some (.int p.1)] M = _
      simp [e, Za3])
    have g9 : (M2 ++ [MO.lst ((t2.filter fun p => decide (p.2 ≠ 0)).map Za3)])[M2.length]? = some (.lst ((t2.filter fun p => decide (p.2 ≠ 0)).map Za3)) := Za7 _ _ _
    have so := ZkZ (e := Za 7) (env := [some (Zf roll), some d1, some (.int (most : Int)), some (.int (p2 : Int)), some (.ref A.length), some (.ref (A.length + 1)), some (.ref (A.length + 2)), some (.ref M2.length)]) (M := M2 ++ [MO.lst ((t2.filter fun p => decide (p.2 ≠ 0)).map Za3)]) (n := M2.length) kt' tl' rfl g9
    generalize hM3 : M2 ++ [MO.lst ((t2.filter fun p => decide (p.2 ≠ 0)).map Za3)] = M3 at b2 g9 so
    have k0' : M3[A.length]? = some (.lst (bs2.map D.int)) := by rw [← hM3]; exact Zbq k0 _
    have k2' : M3[A.length + 2]? = some (.lst ((pre ++ [s]).map Zat)) := by rw [← hM3]; exact Zbq k2 _
    have ar : (ZaH (Zb (Za 3) (Zb (Zaj ZaY (Zb (Za 4) (Zj))) (Zb (Zaj ZaY (Zb (Zaj Zbv (Zb (Za 7) (Zj))) (Zj))) (Zj))))) [some (Zf roll), some d1, some (.int (most : Int)), some (.int (p2 : Int)), some (.ref A.length), some (.ref (A.length + 1)), some (.ref (A.length + 2)), some (.ref M2.length)] M3 = .ok (Zat ⟨p2, bs2, Zbk t2⟩) (M3 ++ [.lst ((Zbk t2).map Za3)]) := by
     have t1 : Zaj ZaY (Zb (Za 4) (Zj)) [some (Zf roll), some d1, some (.int (most : Int)), some (.int (p2 : Int)), some (.ref A.length), some (.ref (A.length + 1)), some (.ref (A.length + 2)), some (.ref M2.length)] M3 = .ok (Zg bs2) M3 := by simp [k0', Zg]
     have t2' : Zaj ZaY (Zb (Zaj Zbv (Zb (Za 7) (Zj))) (Zj)) [some (Zf roll), some d1, some (.int (most : Int)), some (.int (p2 : Int)), some (.ref A.length), some (.ref (A.length + 1)), some (.ref (A.length + 2)), some (.ref M2.length)] M3 = .ok (ZbI (Zbk t2)) (M3 ++ [.lst ((Zbk t2).map Za3)]) := by
      refine Zg6 so ?_
      simp [ZbI]
     generalize Zaj ZaY (Zb (Za 4) (Zj)) = E1 at t1
     generalize Zaj ZaY (Zb (Zaj Zbv (Zb (Za 7) (Zj))) (Zj)) = E2 at t2'
     simp [t1, t2', Zat]
    have bd := Zfr (Zg2 (o := Za 6) (arg := (ZaH (Zb (Za 3) (Zb (Zaj ZaY (Zb (Za 4) (Zj))) (Zb (Zaj ZaY (Zb (Zaj Zbv (Zb (Za 7) (Zj))) (Zj))) (Zj)))))) (env := [some (Zf roll), some d1, some (.int (most : Int)), some (.int (p2 : Int)), some (.ref A.length), some (.ref (A.length + 1)), some (.ref (A.length + 2)), some (.ref M2.length)]) (M := M3) (M2 := M3 ++ [.lst ((Zbk t2).map Za3)]) (n := A.length + 2) (xs := (pre ++ [s]).map Zat) (ys := (pre ++ [s]).map Zat) (d := Zat ⟨p2, bs2, Zbk t2⟩) rfl k2' ar (Zbq k2' _) (by simp; omega))
    obtain ⟨p', bs', t', G', y', h'⟩ := ih (pre ++ [s]) ⟨p2, bs2, Zbk t2⟩ t2 fuel (G ++ [MO.lst ((t2.filter fun p => decide (p.2 ≠ 0)).map Za3), .lst ((Zbk t2).map Za3)]) (some (.ref M2.length)) (by simp; omega) (by omega) gd kt' rfl (by simpa using j')
    have e1 : (M3 ++ [MO.lst ((Zbk t2).map Za3)]).set (A.length + 2) (.lst ((pre ++ [s]).map Zat ++ [Zat ⟨p2, bs2, Zbk t2⟩])) = A ++ .lst (bs2.map D.int) :: .dct (ZaW t2) :: .lst ((pre ++ [s] ++ [(⟨p2, bs2, Zbk t2⟩ : Stt)]).map Zat) :: (G ++ [MO.lst ((t2.filter fun p => decide (p.2 ≠ 0)).map Za3), .lst ((Zbk t2).map Za3)]) := by
     rw [← hM3, ← hM2, List.append_assoc, List.append_assoc, Zff]
     simp
    refine ⟨p', bs', t', G', y', (Zm0 cc ((Zm (Zag (i := 3) b1)).trans ((Zm (Zag (i := 7) b2)).trans bd))).trans ?_⟩
    rw [e1]
    refine h'.trans ?_
    rw [ZmK k st]
    simp
theorem ZkS (roll : ZbC) (R : ZbW roll) (bs : List Int) (most : Nat) (M : Store) (hm : most ≤ 2001) (hb : bs.length = 8) (J : Nat → Stt → List (Int × Int) → Prop) (hJ : ∀ k s t, J k s t → t.length < 64)
  (hS : ∀ k s t r, J k s t → roll[s.place]? = some r → r.isHalt = false → k < most → J (k + 1) ⟨r.place s.boxes s.place, r.boxes s.boxes t, Zbk (Zcf r s.boxes t)⟩ (Zcf r s.boxes t)) (h0 : J 0 ⟨0, bs, []⟩ []) :
  ∃ n G, M.length ≤ n ∧ Zc2 [Zf roll, Zg bs, .int (most : Int)] M = .ok (.ref n) (M ++ G) ∧ (M ++ G)[n]? = some (.lst ((Zec roll most ⟨0, bs, []⟩).map Zat)) := by
 have pos : 0 < roll.length := by obtain ⟨q, x, e, _⟩ := R.last; rw [e]; simp
 obtain ⟨p', bs', t', G', y', lp⟩ := Zkv roll R (Zg bs) most M hm J hJ hS most [] ⟨0, bs, []⟩ [] 1000000 [] none (by simp) (by omega) ⟨pos, hb, by simp [Ze6]⟩ (by simp [keysOk]) rfl h0
 refine ⟨M.length + 2, .lst (bs'.map D.int) :: .dct (ZaW t') :: .lst (([] ++ Zec roll most ⟨0, bs, []⟩).map Zat) :: G', by omega, ?_, by rw [Za4]; rfl⟩
 refine (ZhL (env := [some (Zf roll), some (Zg bs), some (.int (most : Int)), none, none, none, none, none]) (d := .ref (M.length + 2)) (M' := M ++ .lst (bs'.map D.int) :: .dct (ZaW t') :: .lst (([] ++ Zec roll most ⟨0, bs, []⟩).map Zat) :: G') ?_).trans (by simp [Za0, below])
 refine (Zm (Zag (d := .int 0) (M' := M) rfl)).trans ((Zm (Zag (d := .ref M.length) (M' := M ++ [.lst (bs.map D.int)]) (by simp [Zg]))).trans ((Zm (Zag (d := .ref (M.length + 1)) (M' := M ++ [.lst (bs.map D.int), .dct (ZaW [])]) (by simp [ZaW]))).trans ((Zm (Zag (d := .ref (M.length + 2)) (M' := M ++ [.lst (bs.map D.int), .dct (ZaW []), .lst (([] ++ [(⟨0, bs, []⟩ : Stt)]).map Zat)]) (by simp [Zat, Zg, ZbI]))).trans ((Zm (f := Zll _ _) lp).trans (ZaK rfl)))))
theorem Zmj (roll : ZbC) (R : ZbW roll) (bs : List Int) (most : Nat) (M : Store) (hm : most ≤ 63) (hb : bs.length = 8) :
  ∃ n G, M.length ≤ n ∧ Zc2 [Zf roll, Zg bs, .int (most : Int)] M = .ok (.ref n) (M ++ G) ∧ (M ++ G)[n]? = some (.lst ((Zec roll most ⟨0, bs, []⟩).map Zat)) :=
 ZkS roll R bs most M (by omega) hb (fun k _ t => t.length ≤ k ∧ k ≤ most) (fun k s t h => by omega) (fun k s t r h _ _ hk => ⟨by have := ZoG r s.boxes t; omega, by omega⟩) ⟨Nat.le_refl _, by omega⟩
structure Use where
 num : Int
 time : Int
 word : List Nat
 val : Int
abbrev GET : List Nat := [103, 101, 116]
abbrev SET : List Nat := [115, 101, 116]
def Zn (u : Use) : D := .tup [.int u.num, .int u.time, .str u.word, .int u.val]
def ZeH : Option Use → D
 | none => .non
 | some u => Zn u
theorem Zmi (n : Nat) (u : Use) : below n (Zn u) = true := rfl
theorem Zg5 (bs : List Int) (a : Nat) (v : Int) (M : Store) (ha : a < bs.length) (hl : bs.length ≤ 1000) : Zcd [Zg bs, .int a, .int v] M = .ok (Zg (bs.set a v)) M := by
 have h1 : (e2 Zaf (e2 Zaf (eSl (Za 0) (ZaD) (ZaE (Za 1))) (ZaH (Zb (Za 2) (Zj)))) (eSl (Za 0) (ZaE (e2 Zaf (Za 1) (eC (.int 1)))) (ZaD))) [some (Zg bs), some (.int a), some (.int v)] M = .ok (Zg (bs.set a v)) M := by
  have c1 : cutD (bs.map D.int) none (some (a : Int)) = (bs.take a).map D.int := by rw [ZgL, List.map_take]
  have c2 : cutD (bs.map D.int) (some ((a : Int) + 1)) none = (bs.drop (a + 1)).map D.int := by
   rw [show ((a : Int) + 1) = ((a + 1 : Nat) : Int) by omega, Zfk, List.map_drop]
  have s1 : eSl (Za 0) (ZaD) (ZaE (Za 1)) [some (Zg bs), some (.int a), some (.int v)] M = .ok (.tup ((bs.take a).map D.int)) M := by
   simp only [eSl, Za, ZaD, ZaE, Zg, List.getElem?_cons_zero, List.getElem?_cons_succ, R3.bind, Zfj, c1]
  have s2 : eSl (Za 0) (ZaE (e2 Zaf (Za 1) (eC (.int 1)))) (ZaD) [some (Zg bs), some (.int a), some (.int v)] M = .ok (.tup ((bs.drop (a + 1)).map D.int)) M := by
   simp only [eSl, e2, eC, Zaf, Za, ZaD, ZaE, Zg, List.getElem?_cons_zero, List.getElem?_cons_succ, R3.bind, Zfj, c2]
  have s3 : ZaH (Zb (Za 2) (Zj)) [some (Zg bs), some (.int a), some (.int v)] M = .ok (.tup [.int v]) M := by simp
  have a1 : Zaf (.tup ((bs.take a).map D.int)) (.tup [.int v]) M = .ok (.tup ((bs.take a).map D.int ++ [.int v])) M := by
   simp only [Zaf]; rw [if_pos (by simp; omega)]
  refine (Za8 (Za8 s1 s3 a1) s2 ?_)
  simp only [Zaf]
  rw [if_pos (by simp; omega), Zg, List.set_eq_take_append_cons_drop, if_pos ha]
  simp
 exact Rt.pure (G := []) (env := [some (Zg bs), some (.int a), some (.int v)]) (by rw [List.append_nil]; exact ZaK h1) (Zex _ _)
theorem ZiA (cs : List (Int × Int)) (n : Int) (M : Store) (h : keysOk cs) (hl : cs.length ≤ 5000) : ZcP [ZbI cs, .int n] M = .ok (.int (Zfm cs n)) M := by
 have h1 : (ZeK Zkf ZlA (Zaj Zhb (Zb (Za 0) (Zj))) (Zb (Za 1) (Zb (eC (.int 0)) (Zj)))) [some (ZbI cs), some (.int n)] M = .ok (.int (Zfm cs n)) (M ++ [.dct (dictOf (ZaW cs))]) := by
  have hz : (ZaW cs).length ≤ 100000 := by simp [ZaW]; omega
  have b1 : Zaj Zhb (Zb (Za 0) (Zj)) [some (ZbI cs), some (.int n)] M = .ok (.ref M.length) (M ++ [.dct (dictOf (ZaW cs))]) := by
   refine Zg6 (a := ZbI cs) (M1 := M) rfl ?_
   simp only [ZbI, Zhb, Zlm]
   rw [if_pos hz]; rfl
  simp only [ZeK, b1, R3.bind, Zkf, Zb, Za, eC, Zj, List.getElem?_cons_zero, List.getElem?_cons_succ]
  simp only [Za7, Zd1, Option.isSome_some, if_true, ZlA, Zf7]
  rw [Zmu h]
 exact Rt.pure (env := [some (ZbI cs), some (.int n)]) (ZaK h1) rfl
theorem Zin (r : Row) (bs : List Int) (p many : Nat) (M : Store) (hb : bs.length = 8) (hr : r.ok many) : ZbK [Zq r, .int p, Zg bs] M = .ok (.int (r.place bs p)) M := by
 cases r with
 | when a k =>
  obtain ⟨x, hx, gx⟩ := ZbL hb hr.1
  simp only [Row.place, hx]
  by_cases c : 0 < x
  ·simp [ZbK, Zdr, Zr, Zac, Zz, sIf, Zw, Zal, mkF, Za0, below, belowL, ZaL, Zq, Zg, -ZaM, gx, c]
  ·simp [ZbK, Zdr, Zr, Zac, Zz, sIf, Zw, Zal, mkF, Za0, below, belowL, ZaL, Zq, Zg, -ZaM, gx, c]
 | _ => simp [ZbK, Zdr, Zr, Zac, Zz, sIf, Zw, Zal, mkF, Za0, below, belowL, ZaL, Zq, Row.place]
theorem Zlg (x y : Int) (M : Store) : Zc0 [.str [97, 100, 100], .int x, .int y] M = .ok (.int (x + y)) M := by simp [Zc0, Zfz, Zr, Zac, Zz, sIf, Zw, Zal, mkF, Za0, below, belowL, ZaL]
theorem ZkT (x y : Int) (M : Store) : Zc0 [.str [115, 117, 98], .int x, .int y] M = .ok (.int (x - y)) M := by simp [Zc0, Zfz, Zr, Zac, Zz, sIf, Zw, Zal, mkF, Za0, below, belowL, ZaL]
theorem ZkL (x y : Int) (M : Store) : Zc0 [.str [109, 111, 114, 101], .int x, .int y] M = .ok (.int (if y < x then 1 else 0)) M := by
 by_cases c : y < x <;> simp [Zc0, Zfz, Zr, Zac, Zz, sIf, Zw, Zal, mkF, Za0, below, belowL, ZaL, c]
theorem Ziy (r : Row) (bs : List Int) (cs : List (Int × Int)) (many : Nat) (M : Store) (hb : bs.length = 8) (hr : r.ok many) (hk : keysOk cs) (hl : cs.length ≤ 5000) : Zee [Zq r, Zg bs, ZbI cs] M = .ok (Zg (r.boxes bs cs)) M := by
 have wb : ∀ (a : Nat) (v : Int) (M : Store), a < 8 → Zcd [.tup (bs.map D.int), .int a, .int v] M = .ok (.tup ((bs.set a v).map D.int)) M := fun a v M ha => Zg5 bs a v M (by omega) (by omega)
 have cv : ∀ (n : Int) (M : Store), ZcP [ZbI cs, .int n] M = .ok (.int (Zfm cs n)) M := fun n M => ZiA cs n M hk hl
 have wa := Zlg
 have ws := ZkT
 have wm := ZkL
 refine Rt.pure (G := []) (env := [some (Zq r), some (Zg bs), some (ZbI cs), none]) ?_ (Zex _ _)
 rw [List.append_nil]
 unfold Ze5
 generalize Zcd = F1 at *
 generalize ZcP = F2 at *
 generalize Zc0 = F3' at *
 cases r with
 | put a n => simp [Zr, Zac, Zz, sIf, Zw, Zal, mkF, Za0, below, belowL, ZaL, Zq, Zg, Row.boxes, wb a n _ hr]
 | get a b =>
  obtain ⟨x, hx, gx⟩ := ZbL hb hr.2
  simp only [Row.boxes, hx]
  simp [Zr, Zac, Zz, sIf, Zw, Zal, mkF, Za0, below, belowL, ZaL, Zq, Zg, -ZaM, gx, cv, wb a _ _ hr.1]
 | add a b c =>
  obtain ⟨x, hx, gx⟩ := ZbL hb hr.2.1
  obtain ⟨y, hy, gy⟩ := ZbL hb hr.2.2
  simp only [Row.boxes, hx, hy]
  simp [Zr, Zac, Zz, sIf, Zw, Zal, mkF, Za0, below, belowL, ZaL, Zq, Zg, -ZaM, gx, gy, wa, wb a _ _ hr.1, deq, ZaV]
 | sub a b c =>
  obtain ⟨x, hx, gx⟩ := ZbL hb hr.2.1
  obtain ⟨y, hy, gy⟩ := ZbL hb hr.2.2
  simp only [Row.boxes, hx, hy]
  simp [Zr, Zac, Zz, sIf, Zw, Zal, mkF, Za0, below, belowL, ZaL, Zq, Zg, -ZaM, gx, gy, ws, wb a _ _ hr.1, deq, ZaV]
 | more a b c =>
  obtain ⟨x, hx, gx⟩ := ZbL hb hr.2.1
  obtain ⟨y, hy, gy⟩ := ZbL hb hr.2.2
  simp only [Row.boxes, hx, hy]
  simp [Zr, Zac, Zz, sIf, Zw, Zal, mkF, Za0, below, belowL, ZaL, Zq, Zg, -ZaM, gx, gy, wm, wb a _ _ hr.1, deq, ZaV]
 | _ => simp [Zr, Zac, Zz, sIf, Zw, Zal, mkF, Za0, below, belowL, ZaL, Zq, Row.boxes, deq, ZaV]
def ZaZ (p : Int) (bs : List Int) : D := .tup [.int p, Zg bs]
theorem Zgn (a b : Int) (M : Store) : Zb6 [.int a, .int b] M = .ok (.bl (decide (0 ≤ a) && decide (a < b))) M := by
 by_cases h : 0 ≤ a <;> simp [Zb6, Zfp, Zr, Zac, Zz, sIf, Zw, Zal, mkF, Za0, below, belowL, ZaL, h]
theorem ZiM (roll : ZbC) (p : Int) (M : Store) : Zc4 [Zf roll, .int p] M = .ok (if 0 ≤ p ∧ p < roll.length then (match roll[p.toNat]? with | some r => Zq r | none => .non) else .non) M := by
 have w := Zgn p roll.length M
 have e1 : Zae Zb6 (Zb (Za 1) (Zb (Zaj ZaR (Zb (Za 0) (Zj))) (Zj))) [some (Zf roll), some (.int p)] M = .ok (.bl (decide (0 ≤ p) && decide (p < roll.length))) M := ZcB rfl (by simp [Zf]) w
 by_cases h : 0 ≤ p ∧ p < roll.length
 ·rw [if_pos h]
  obtain ⟨k, rfl⟩ := Int.eq_ofNat_of_zero_le h.1
  have hk : k < roll.length := by omega
  have e2 : (e2 Ze (Za 0) (Za 1)) [some (Zf roll), some (.int (k : Int))] M = .ok (Zq roll[k]) M := by simp [Zf, hk]
  have hb : below M.length (Zq roll[k]) = true := by cases roll[k] <;> rfl
  refine (Rt.pure (G := []) (env := [some (Zf roll), some (.int (k : Int))]) (d := Zq roll[k]) ?_ hb).trans (by simp [hk])
  rw [List.append_nil]
  refine ZaK ((Zpe (M1 := M) ?_).trans e2)
  rw [e1]; simp [hk]
 ·rw [if_neg h]
  refine Rt.pure (G := []) (env := [some (Zf roll), some (.int p)]) ?_ rfl
  rw [List.append_nil]
  refine ZaK ((Zpa (M1 := M) ?_).trans rfl)
  rw [e1]
  have : (decide (0 ≤ p) && decide (p < roll.length)) = false := by
   rw [← Bool.decide_and]; exact decide_eq_false h
  rw [this]
theorem ZiT : ∀ a b : List Int, Zcj (a.map D.int) (b.map D.int) = decide (a = b)
 | [], [] => by simp [Zcj]
 | [], _ :: _ => by simp [Zcj]
 | _ :: _, [] => by simp [Zcj]
 | x :: a, y :: b => by
  simp only [List.map_cons, Zcj, deq, ZiT a b, List.cons.injEq, Bool.decide_and]
  rfl
theorem Zkc (a b : List Int) : deq (Zg a) (Zg b) = decide (a = b) := by
 simp only [Zg, deq]; exact ZiT a b
def Zco (r : Row) (bs bs' : List Int) : List Int := match r with
 | .get a _ => bs.set a (bs'.getD a 0)
 | r => r.boxes bs []
def Zip (roll : ZbC) (p : Int) (bs : List Int) (p' : Int) (bs' : List Int) : Bool := if 0 ≤ p ∧ p < roll.length then (match roll[p.toNat]? with
 | some r => if r.isHalt then false else decide (p' = (r.place bs p.toNat : Nat)) && decide (bs' = Zco r bs bs')
 | none => false) else false
theorem Zhg (r : Row) (bs bs' : List Int) (many : Nat) (M : Store) (hr : r.ok many) (hb : bs.length = 8) (hb' : bs'.length = 8) : ZbV [Zq r, Zg bs, Zg bs'] M = .ok (Zg (Zco r bs bs')) M := by
 have other : (∀ a b, r ≠ .get a b) → ZbV [Zq r, Zg bs, Zg bs'] M = .ok (Zg (r.boxes bs [])) M := fun hg => by
  have nb := Ziy r bs [] many M hb hr (by simp [keysOk]) (by simp)
  refine Rt.pure (G := []) (env := [some (Zq r), some (Zg bs), some (Zg bs')]) ?_ (Zex _ _)
  rw [List.append_nil]
  refine (Zm (Zy (M' := M) ?_)).trans (ZaK (ZcI (c := ZbI []) rfl rfl (by simp [ZbI]) nb))
  cases r <;> simp [Zq] <;> exact absurd rfl (hg _ _)
 cases r with
 | get a b =>
  obtain ⟨x, hx, gx⟩ := ZbL hb' hr.1
  have wb := Zg5 bs a x M (by rw [hb]; exact hr.1) (by omega)
  refine Rt.pure (G := []) (env := [some (Zq (.get a b)), some (Zg bs), some (Zg bs')]) ?_ (Zex _ _)
  rw [List.append_nil]
  simp only [Zco, hx]
  refine Zao ((ZaT (M' := M) (by simp [Zq])).trans (ZaK (ZcI (a := Zg bs) (b := .int (a : Int)) (c := .int x) (M1 := M) (M2 := M) (M3 := M) rfl (by simp [Zq]) ?_ wb)))
  simp [Zq, Zg, -ZaM, gx]
 | _ => exact other (fun a b h => by cases h)
theorem Zjn (roll : ZbC) (R : ZbW roll) (p : Int) (bs : List Int) (p' : Int) (bs' : List Int) (M : Store) (hb : bs.length = 8) (hb' : bs'.length = 8) :
  Zdi [Zf roll, ZaZ p bs, ZaZ p' bs'] M = .ok (.bl (Zip roll p bs p' bs')) M := by
 have ra := ZiM roll p M
 refine Rt.pure (G := []) (env := [some (Zf roll), some (ZaZ p bs), some (ZaZ p' bs'), none, none, none]) ?_ rfl
 rw [List.append_nil]
 refine (Zm (Zag (d := .int p) (M' := M) (by simp [ZaZ]))).trans ((Zm (Zag (d := Zg bs) (M' := M) (by simp [ZaZ]))).trans ((Zm (Zag (ZcB rfl rfl ra))).trans ?_))
 unfold Zip
 by_cases h : 0 ≤ p ∧ p < roll.length
 ·rw [if_pos h, if_pos h]
  obtain ⟨k, rfl⟩ := Int.eq_ofNat_of_zero_le h.1
  have hk : k < roll.length := by omega
  have hr : roll[k]? = some roll[k] := by simp [hk]
  have ro := R.rows _ (List.getElem_mem hk)
  simp only [Int.ofNat_eq_natCast, Int.toNat_natCast, hr]
  generalize roll[k] = r at hr ro
  by_cases hh : r.isHalt = true
  ·rw [if_pos hh]
   have : r = .halt := by cases r <;> simp at hh ⊢
   subst this
   exact Zao ((ZaT (M' := M) (by simp [Zq])).trans rfl)
  ·rw [if_neg hh]
   have np := Zin r bs k roll.length M hb ro
   have bb := Zhg r bs bs' roll.length M ro hb hb'
   have hp1 : Zay DEEP (.int p') = true := ZcK _ _
   have hp2 : Zay DEEP (Zg bs') = true := ZfL _ _
   have hp3 : Zay DEEP (Zg (Zco r bs bs')) = true := ZfL _ _
   have hp4 : Zay DEEP (.int ((r.place bs k : Nat) : Int)) = true := ZcK _ _
   refine (Zm (Zy (M' := M) ?_)).trans (ZaK ?_)
   ·cases r <;> simp [Zq] at hh ⊢
   ·refine Za8 (a := ZaZ p' bs') (b := ZaZ (r.place bs k : Nat) (Zco r bs bs')) (M1 := M) (M2 := M) rfl ?_ ?_
    ·have x1 : Zae ZbK (Zb (Za 5) (Zb (Za 3) (Zb (Za 4) (Zj)))) [some (Zf roll), some (ZaZ (k : Int) bs), some (ZaZ p' bs'), some (.int (k : Int)), some (Zg bs), some (Zq r)] M = .ok (.int ((r.place bs k : Nat) : Int)) M := ZcI rfl rfl rfl np
     have x2 : Zae ZbV (Zb (Za 5) (Zb (Za 4) (Zb (e2 Ze (Za 2) (eC (.int 1))) (Zj)))) [some (Zf roll), some (ZaZ (k : Int) bs), some (ZaZ p' bs'), some (.int (k : Int)), some (Zg bs), some (Zq r)] M = .ok (Zg (Zco r bs bs')) M := ZcI rfl rfl (by simp [ZaZ]) bb
     generalize Zae ZbK (Zb (Za 5) (Zb (Za 3) (Zb (Za 4) (Zj)))) = E1 at x1
     generalize Zae ZbV (Zb (Za 5) (Zb (Za 4) (Zb (e2 Ze (Za 2) (eC (.int 1))) (Zj)))) = E2 at x2
     simp only [ZaH, Zb, Zj, R3.bind, x1, x2]
     simp [ZaZ]
    ·have hd : Zcj [.int p', Zg bs'] [.int ((r.place bs k : Nat) : Int), Zg (Zco r bs bs')] = (decide (p' = ((r.place bs k : Nat) : Int)) && decide (bs' = Zco r bs bs')) := by
      simp only [Zcj, deq, Zkc, Bool.and_true]
      rfl
     simp only [Zaq, eqD, ZaZ, List.all_cons, List.all_nil, hp1, hp2, hp3, hp4, Bool.and_self, if_true, hd]
 ·rw [if_neg h, if_neg h]
  exact Zao ((ZaT (M' := M) (by simp)).trans rfl)
def ZcH (a : Option Use) (r : Use) : Bool := match a with
 | none => decide (r.word ≠ GET) || decide (r.val = 0)
 | some a => if r.num < a.num ∨ (r.num = a.num ∧ r.time ≤ a.time) then false else if r.word ≠ GET then true else if a.num = r.num then decide (r.val = a.val) else decide (r.val = 0)
theorem ZjY (a : Option Use) (r : Use) (M : Store) : Zbl [ZeH a, Zn r] M = .ok (.bl (ZcH a r)) M := by
 obtain ⟨n, t, w, v⟩ := r
 cases a with
 | none =>
  by_cases h : w = [103, 101, 116]
  ·by_cases h2 : v = 0 <;> simp [Zbl, Zcc, Zr, Zac, Zz, sIf, Zw, Zal, mkF, Za0, below, belowL, ZaL, ZeH, Zn, ZcH, h, h2]
  ·simp [Zbl, Zcc, Zr, Zac, Zz, sIf, Zw, Zal, mkF, Za0, below, belowL, ZaL, ZeH, Zn, ZcH, h]
 | some a =>
  obtain ⟨n', t', w', v'⟩ := a
  have c1 : ∀ x y : Int, ∀ z u : D, cutD [D.int x, D.int y, z, u] none (some 2) = [.int x, .int y] := fun x y z u => by simp [cutD, sIx]
  by_cases h0 : n < n'
  ·simp [Zbl, Zcc, Zr, Zac, Zz, sIf, Zw, Zal, mkF, Za0, below, belowL, ZaL, ZeH, Zn, ZcH, h0, c1]
  ·by_cases h1 : n = n'
   ·subst h1
    by_cases h2 : t ≤ t'
    ·simp [Zbl, Zcc, Zr, Zac, Zz, sIf, Zw, Zal, mkF, Za0, below, belowL, ZaL, ZeH, Zn, ZcH, h2, c1]
    ·by_cases h : w = [103, 101, 116]
     ·by_cases h3 : v = v' <;> simp [Zbl, Zcc, Zr, Zac, Zz, sIf, Zw, Zal, mkF, Za0, below, belowL, ZaL, ZeH, Zn, ZcH, h, h2, h3, c1]
     ·simp [Zbl, Zcc, Zr, Zac, Zz, sIf, Zw, Zal, mkF, Za0, below, belowL, ZaL, ZeH, Zn, ZcH, h, h2, c1]
   ·have h1' : ¬ n' = n := fun e => h1 e.symm
    by_cases h : w = [103, 101, 116]
    ·by_cases h3 : v = 0 <;> simp [Zbl, Zcc, Zr, Zac, Zz, sIf, Zw, Zal, mkF, Za0, below, belowL, ZaL, ZeH, Zn, ZcH, h, h0, h1, h1', h3, c1]
    ·simp [Zbl, Zcc, Zr, Zac, Zz, sIf, Zw, Zal, mkF, Za0, below, belowL, ZaL, ZeH, Zn, ZcH, h, h0, h1, h1', c1]
def Zgv (roll : ZbC) (p : Int) : Option Row := if 0 ≤ p ∧ p < roll.length then roll[p.toNat]? else none
def Zdl : Option Row → D
 | none => .non
 | some r => Zq r
theorem ZhK (roll : ZbC) (p : Int) (M : Store) : Zc4 [Zf roll, .int p] M = .ok (Zdl (Zgv roll p)) M := by
 rw [ZiM]
 unfold Zgv
 by_cases h : 0 ≤ p ∧ p < roll.length
 ·rw [if_pos h, if_pos h]
  cases roll[p.toNat]? <;> rfl
 ·rw [if_neg h, if_neg h]; rfl
theorem Zob {roll : ZbC} (R : ZbW roll) {p : Int} {r : Row} (h : Zgv roll p = some r) : r.ok roll.length := by
 unfold Zgv at h
 split at h
 ·exact R.rows _ (List.mem_of_getElem? h)
 ·cases h
abbrev Stp := Int × List Int
def Zak (s : Stp) : D := ZaZ s.1 s.2
def Zas (ts : List Stp) : D := .tup (ts.map Zak)
def Zg3 (o : Option Row) (bs bs' : List Int) (u : Use) : Bool := match o with
 | some (.get a b) => decide (u.word = GET) && decide (u.num = bs.getD b 0) && decide (u.val = bs'.getD a 0)
 | some (.set a b) => decide (u.word = SET) && decide (u.num = bs.getD a 0) && decide (u.val = bs.getD b 0)
 | _ => false
def Zc9 (roll : ZbC) (ts : List Stp) (u : Use) : Bool := if 0 ≤ u.time ∧ u.time + 1 < ts.length then (match ts[u.time.toNat]?, ts[u.time.toNat + 1]? with
 | some s, some s' => Zg3 (Zgv roll s.1) s.2 s'.2 u
 | _, _ => false) else false
def ZhB : Row → Bool
 | .get .. => true
 | .set .. => true
 | _ => false
theorem ZfJ (r : Row) (M : Store) : Zcw [Zq r] M = .ok (.bl (ZhB r)) M := by
 cases r <;> simp [Zcw, Zib, Zr, Zac, Zz, sIf, Zw, Zal, mkF, Za0, below, belowL, ZaL, Zq, ZaV, deq, ZhB]
theorem Zhj (a b : Nat) (bs : List Int) (M : Store) (hb : bs.length = 8) (lb : b < 8) : Zbp [Zq (.get a b), Zg bs] M = .ok (.int (bs.getD b 0)) M := by
 obtain ⟨x, hx, gx⟩ := ZbL hb lb
 rw [hx]
 simp [Zbp, ZdV, Zr, Zac, Zz, sIf, Zw, Zal, mkF, Za0, below, belowL, ZaL, Zq, Zg, -ZaM, gx]
theorem Zhr (a b : Nat) (bs : List Int) (M : Store) (hb : bs.length = 8) (la : a < 8) : Zbp [Zq (.set a b), Zg bs] M = .ok (.int (bs.getD a 0)) M := by
 obtain ⟨x, hx, gx⟩ := ZbL hb la
 rw [hx]
 simp [Zbp, ZdV, Zr, Zac, Zz, sIf, Zw, Zal, mkF, Za0, below, belowL, ZaL, Zq, Zg, -ZaM, gx]
theorem ZhM (roll : ZbC) (R : ZbW roll) (ts : List Stp) (h8 : ∀ s ∈ ts, s.2.length = 8) (u : Use) (M : Store) :
  Zcb [Zf roll, Zas ts, Zn u] M = .ok (.bl (Zc9 roll ts u)) M := by
 obtain ⟨n, t, w, v⟩ := u
 have iw := Zgn t ((ts.length : Int) - 1) M
 refine Rt.pure (G := []) (env := [some (Zf roll), some (Zas ts), some (Zn ⟨n, t, w, v⟩), none, none, none]) ?_ rfl
 rw [List.append_nil]
 have c0 : Zae Zb6 (Zb (Za 3) (Zb (e2 ZbU (Zaj ZaR (Zb (Za 1) (Zj))) (eC (.int 1))) (Zj))) [some (Zf roll), some (Zas ts), some (Zn ⟨n, t, w, v⟩), some (.int t), none, none] M = .ok (.bl (decide (0 ≤ t) && decide (t < (ts.length : Int) - 1))) M := ZcB rfl (by simp [Zas]) iw
 refine (Zm (Zag (d := .int t) (M' := M) (by simp [Zn]))).trans ?_
 unfold Zc9
 by_cases h : 0 ≤ t ∧ t + 1 < ts.length
 ·rw [if_pos h]
  obtain ⟨k, rfl⟩ := Int.eq_ofNat_of_zero_le h.1
  have hk : k + 1 < ts.length := by omega
  have gs : ts[k]? = some ts[k] := by simp [show k < ts.length by omega]
  have gs' : ts[k + 1]? = some ts[k + 1] := by simp [hk]
  have l8 := h8 _ (List.getElem_mem (show k < ts.length by omega))
  have l8' := h8 _ (List.getElem_mem hk)
  simp only [Int.ofNat_eq_natCast, Int.toNat_natCast, gs, gs']
  generalize ts[k] = s at gs l8
  generalize ts[k + 1] = s' at gs' l8'
  obtain ⟨p, bs⟩ := s
  obtain ⟨p', bs'⟩ := s'
  have n0 : (decide (0 ≤ (k : Int)) && decide ((k : Int) < (ts.length : Int) - 1)) = true := by
   simp; omega
  have gi : (Zas ts) = .tup (ts.map Zak) := rfl
  refine (Zm (Zy (M' := M) (ZfC c0 (by simp [n0]; omega)))).trans ?_
  refine (Zm (Zag (d := Zg bs) (M' := M) (by simp [Zas, gs, Zak, ZaZ]))).trans ?_
  have ra := ZhK roll p M
  refine (Zm (Zag (d := Zdl (Zgv roll p)) (M' := M) (ZcB (b := .int p) (M1 := M) (M2 := M) rfl (by simp [Zas, gs, Zak, ZaZ]) ra))).trans ?_
  simp only [Zg3]
  have no : ∀ r, Zgv roll p = some r → ZhB r = false → Zr (sIf (eOr (e2 Zj9 (Za 5) (eC .non)) (eOr (e1 Zb5 (Zae Zcw (Zb (Za 5) (Zj)))) (e2 Zb1 (e2 Ze (Za 2) (eC (.int 2))) (e2 Ze (Za 5) (eC (.int 0)))))) (Zz (eC (.bl false))) (Zw)) (Zr (sIf (e2 Zb1 (e2 Ze (Za 2) (eC (.int 0))) (Zae Zbp (Zb (Za 5) (Zb (Za 4) (Zj))))) (Zz (eC (.bl false))) (Zw)) (Zr (sIf (e2 Zaq (e2 Ze (Za 5) (eC (.int 0))) (eC (.str [103, 101, 116]))) (Zz (e2 Zaq (e2 Ze (Za 2) (eC (.int 3))) (e2 Ze (e2 Ze (e2 Ze (Za 1) (e2 Zaf (Za 3) (eC (.int 1)))) (eC (.int 1))) (e2 Ze (Za 5) (eC (.int 1)))))) (Zw)) (Zz (e2 Zaq (e2 Ze (Za 2) (eC (.int 3))) (e2 Ze (Za 4) (e2 Ze (Za 5) (eC (.int 2))))))))
    [some (Zf roll), some (Zas ts), some (Zn ⟨n, (k : Int), w, v⟩), some (.int (k : Int)), some (Zg bs), some (Zdl (some r))] M = .rt (.bl false) M := fun r hr hu => by
   have iu := ZfJ r M
   rw [hu] at iu
   refine Zao ((ZaT (M' := M) ?_).trans rfl)
   rw [ZdX (M1 := M) (by cases r <;> simp [Zdl, Zq]), ZhG (M1 := M) (ZfC (ZgI rfl iu) rfl)]
  cases hr : Zgv roll p with
  | none => exact Zao ((ZaT (M' := M) (by simp [Zdl])).trans rfl)
  | some r =>
   have ro := Zob R hr
   cases r with
   | get a b =>
    have iu := ZfJ (.get a b) M
    have cn := Zhj a b bs M l8 ro.2
    obtain ⟨y, hy, gy⟩ := ZbL l8' ro.1
    have x1 : (e2 Zb1 (e2 Ze (Za 2) (eC (.int 2))) (e2 Ze (Za 5) (eC (.int 0)))) [some (Zf roll), some (Zas ts), some (Zn ⟨n, (k : Int), w, v⟩), some (.int (k : Int)), some (Zg bs), some (Zdl (some (.get a b)))] M = .ok (.bl (!decide (w = GET))) M := by simp [Zn, Zdl, Zq]
    have e0 : (eOr (e2 Zj9 (Za 5) (eC .non)) (eOr (e1 Zb5 (Zae Zcw (Zb (Za 5) (Zj)))) (e2 Zb1 (e2 Ze (Za 2) (eC (.int 2))) (e2 Ze (Za 5) (eC (.int 0)))))) [some (Zf roll), some (Zas ts), some (Zn ⟨n, (k : Int), w, v⟩), some (.int (k : Int)), some (Zg bs), some (Zdl (some (.get a b)))] M = .ok (.bl (!decide (w = GET))) M := by
     rw [ZdX (M1 := M) (by simp [Zdl, Zq]), ZdX (M1 := M) (ZfC (ZgI rfl iu) rfl), x1]
    by_cases hw : w = GET
    ·rw [decide_eq_true hw] at e0
     refine (Zm (Zy e0)).trans ?_
     have e2' : (e2 Zb1 (e2 Ze (Za 2) (eC (.int 0))) (Zae Zbp (Zb (Za 5) (Zb (Za 4) (Zj))))) [some (Zf roll), some (Zas ts), some (Zn ⟨n, (k : Int), w, v⟩), some (.int (k : Int)), some (Zg bs), some (Zdl (some (.get a b)))] M = .ok (.bl (!decide (n = bs.getD b 0))) M := Za8 (a := .int n) (M1 := M) (by simp [Zn]) (ZcB rfl rfl cn) (by simp)
     by_cases hn : n = bs.getD b 0
     ·rw [decide_eq_true hn] at e2'
      refine (Zm (Zy e2')).trans (Zao ((ZaT (M' := M) (by simp [Zdl, Zq])).trans (ZaK ?_)))
      have e3' : (e2 Ze (e2 Ze (e2 Ze (Za 1) (e2 Zaf (Za 3) (eC (.int 1)))) (eC (.int 1))) (e2 Ze (Za 5) (eC (.int 1)))) [some (Zf roll), some (Zas ts), some (Zn ⟨n, (k : Int), w, v⟩), some (.int (k : Int)), some (Zg bs), some (Zdl (some (.get a b)))] M = .ok (.int y) M := by
       have gk : ZbN (ts.map Zak) ((k : Int) + 1) = some (Zak (p', bs')) := by
        rw [show ((k : Int) + 1) = ((k + 1 : Nat) : Int) by omega, ZcY, List.getElem?_map, gs']; rfl
       simp only [e2, Za, eC, Zas, Zdl, Zq, List.getElem?_cons_succ, List.getElem?_cons_zero, R3.bind, Zaf, Ze, gk, Zak, ZaZ, Zg, ZdW, gy]
      refine Za8 (a := .int v) (M1 := M) (by simp [Zn]) e3' ?_
      simp only [Zaq, eqD, hy, decide_eq_true hw, decide_eq_true hn, Bool.true_and]
     ·rw [decide_eq_false hn] at e2'
      refine (Zao ((ZaT e2').trans ?_))
      simp only [decide_eq_true hw, decide_eq_false hn, Bool.true_and, Bool.false_and]; rfl
    ·rw [decide_eq_false hw] at e0
     refine (Zao ((ZaT e0).trans ?_))
     simp [Zz, hw]
   | set a b =>
    have iu := ZfJ (.set a b) M
    have cn := Zhr a b bs M l8 ro.1
    obtain ⟨y, hy, gy⟩ := ZbL l8 ro.2
    have x1 : (e2 Zb1 (e2 Ze (Za 2) (eC (.int 2))) (e2 Ze (Za 5) (eC (.int 0)))) [some (Zf roll), some (Zas ts), some (Zn ⟨n, (k : Int), w, v⟩), some (.int (k : Int)), some (Zg bs), some (Zdl (some (.set a b)))] M = .ok (.bl (!decide (w = SET))) M := by simp [Zn, Zdl, Zq]
    have e0 : (eOr (e2 Zj9 (Za 5) (eC .non)) (eOr (e1 Zb5 (Zae Zcw (Zb (Za 5) (Zj)))) (e2 Zb1 (e2 Ze (Za 2) (eC (.int 2))) (e2 Ze (Za 5) (eC (.int 0)))))) [some (Zf roll), some (Zas ts), some (Zn ⟨n, (k : Int), w, v⟩), some (.int (k : Int)), some (Zg bs), some (Zdl (some (.set a b)))] M = .ok (.bl (!decide (w = SET))) M := by
     rw [ZdX (M1 := M) (by simp [Zdl, Zq]), ZdX (M1 := M) (ZfC (ZgI rfl iu) rfl), x1]
    by_cases hw : w = SET
    ·rw [decide_eq_true hw] at e0
     refine (Zm (Zy e0)).trans ?_
     have e2' : (e2 Zb1 (e2 Ze (Za 2) (eC (.int 0))) (Zae Zbp (Zb (Za 5) (Zb (Za 4) (Zj))))) [some (Zf roll), some (Zas ts), some (Zn ⟨n, (k : Int), w, v⟩), some (.int (k : Int)), some (Zg bs), some (Zdl (some (.set a b)))] M = .ok (.bl (!decide (n = bs.getD a 0))) M := Za8 (a := .int n) (M1 := M) (by simp [Zn]) (ZcB rfl rfl cn) (by simp)
     by_cases hn : n = bs.getD a 0
     ·rw [decide_eq_true hn] at e2'
      refine (Zm (Zy e2')).trans ((Zm (Zy (M' := M) (by simp [Zdl, Zq]))).trans (ZaK ?_))
      refine Za8 (a := .int v) (b := .int y) (M1 := M) (M2 := M) (by simp [Zn]) (by simp [Zdl, Zq, Zg, -ZaM, gy]) ?_
      simp only [Zaq, eqD, hy, decide_eq_true hw, decide_eq_true hn, Bool.true_and]
     ·rw [decide_eq_false hn] at e2'
      refine (Zao ((ZaT e2').trans ?_))
      simp only [decide_eq_true hw, decide_eq_false hn, Bool.true_and, Bool.false_and]; rfl
    ·rw [decide_eq_false hw] at e0
     refine (Zao ((ZaT e0).trans ?_))
     simp [Zz, hw]
   | _ => exact no _ hr rfl
 ·rw [if_neg h]
  have n0 : (decide (0 ≤ t) && decide (t < (ts.length : Int) - 1)) = false := by
   rw [← Bool.decide_and]; exact decide_eq_false (by omega)
  rw [n0] at c0
  exact Zao ((ZaT (ZfC c0 rfl)).trans rfl)
theorem Zl6 (lo : Int) (n : Nat) : Zc1 lo (n + 1) = .int lo :: Zc1 (lo + 1) n := by
 unfold Zc1
 rw [List.range_succ_eq_map]
 simp only [List.map_cons, List.map_map, Int.add_zero, Int.natCast_zero, List.cons.injEq, true_and]
 apply List.map_congr_left
 intro k _
 simp only [Function.comp_apply, D.int.injEq]
 omega
def Zck : Option Nat → D
 | none => .non
 | some k => .int (k : Int)
theorem ZhT (n : Nat) (o : Option Nat) : below n (Zck o) = true := by cases o <;> rfl
theorem Zi2 {it : It3} (hit : it.lock = none) {i : Nat} {body : S3} {q : Nat → Bool} {I : ZaO → Prop} {M : Store} : ∀ (m j : Nat) (env : ZaO), I env →
  (∀ k env, j ≤ k → k < j + m → I env → (q k = true → body (env.set i (some (.int (k : Int)))) M = .rt (.int (k : Int)) M) ∧ (q k = false → ∃ e', I e' ∧ body (env.set i (some (.int (k : Int)))) M = .nx e' M)) →
  ∃ e', I e' ∧ ZeA it (Zcg i) body (Zc1 (j : Int) m) env M = (match (List.range' j m).find? q with | some k => .rt (.int (k : Int)) M | none => .nx e' M)
 | 0, j, env, hI, _ => ⟨env, hI, by simp [Zc1, ZeA, locked, hit]⟩
 | m + 1, j, env, hI, h => by
  obtain ⟨h1, h2⟩ := h j env (Nat.le_refl _) (by omega) hI
  rw [Zl6]
  simp only [ZeA, locked, hit, if_true, Zcg, List.range'_succ, List.find?_cons]
  cases hq : q j with
  | true => exact ⟨env, hI, by rw [h1 hq]⟩
  | false =>
   obtain ⟨e', hI', hb⟩ := h2 hq
   obtain ⟨e2, hI2, ih⟩ := Zi2 hit m (j + 1) e' hI' fun k env a b c => h k env (by omega) (by omega) c
   refine ⟨e2, hI2, ?_⟩
   rw [hb]
   rw [show ((j : Int) + 1) = ((j + 1 : Nat) : Int) by omega]
   exact ih
def Zd5 {α : Type} (p : α → Bool) : List α → Nat → Option Nat
 | [], _ => none
 | r :: rs, k => if p r then Zd5 p rs (k + 1) else some k
theorem Znr {α : Type} (p : α → Bool) (q : Nat → Bool) : ∀ (xs : List α) (k : Nat), (∀ (j : Nat) x, xs[j]? = some x → q (k + j) = !p x) → (List.range' k xs.length).find? q = Zd5 p xs k
 | [], k, _ => rfl
 | x :: xs, k, h => by
  have h0 := h 0 x (by simp)
  simp only [Nat.add_zero] at h0
  simp only [List.length_cons, List.range'_succ, List.find?_cons, Zd5, h0]
  cases hp : p x with
  | false => simp
  | true =>
   simp only [Bool.not_true, if_true]
   exact Znr p q xs (k + 1) fun j y hy => by
    have := h (j + 1) y (by simpa using hy)
    rw [show k + (j + 1) = k + 1 + j by omega] at this
    exact this
theorem ZhW (n : Nat) : List.range n = List.range' 0 n := by rw [List.range_eq_range']
theorem ZlE {n : Nat} {i : I3} {iv : Nat} {c : E3} {env : ZaO} {M : Store} {q : Nat → Bool} (hi : i env M = .ok ⟨Zc1 0 n, none⟩ M) (hv : iv = env.length) (hz : n ≤ 100000)
  (hc : ∀ k, k < n → ∀ M, c (env ++ [some (.int (k : Int))]) M = .ok (.bl (q k)) M) :
  eLC i 1 (Zcg iv) [c] (Za iv) env M = .ok (.ref M.length) (M ++ [.lst (((List.range n).filter q).map fun k => D.int ((k : Nat) : Int))]) := by
 have es : ∀ d : D, (env ++ List.replicate 1 none).set iv (some d) = env ++ [some d] := fun d => by rw [hv]; simp
 refine ZgW (α := Nat) (enc := fun k => D.int (0 + (k : Int))) (h := fun k => D.int (k : Int)) (p := q) (own := 1) (i := iv) (it := i) (c := c) (elt := Za iv) (lock := none) (as := List.range n) (by rw [hi]; rfl) (fun _ h => by cases h) ?_ ?_ (by simpa using hz)
 ·intro k hk M
  rw [es, Int.zero_add]
  exact hc k (by simpa using hk) M
 ·intro k hk _ M
  rw [es, Int.zero_add, hv]
  simp
theorem Zfy {q : Nat → Bool} {n : Nat} : (((List.range n).filter q).map fun k => D.int ((k : Nat) : Int)) = [] ∧ (List.range n).find? q = none ∨ ∃ (k : Nat) (xs : List D), (((List.range n).filter q).map fun k => D.int ((k : Nat) : Int)) = .int (k : Int) :: xs ∧ (List.range n).find? q = some k := by
 have h := List.head?_filter (p := q) (l := List.range n)
 cases hf : (List.range n).filter q with
 | nil => rw [hf] at h; exact .inl ⟨rfl, h.symm⟩
 | cons k xs => rw [hf] at h; exact .inr ⟨k, _, rfl, h.symm⟩
theorem Zm1 {q : Nat → Bool} {n a b : Nat} {M : Store} (h1 : M[a]? = some (.lst (((List.range n).filter q).map fun k => D.int ((k : Nat) : Int)))) (h2 : M[b]? = some (.lst [])) : Zb1 (.ref a) (.ref b) M = .ok (.bl ((List.range n).find? q).isSome) M := by
 have pu : (((List.range n).filter q).map fun k => D.int ((k : Nat) : Int)).all (Zay DEEP) = true := by
  simp only [List.all_map, List.all_eq_true]
  intro k _
  exact ZcK _ _
 simp only [Zb1, eqD, h1, h2, pu, List.all_nil, Bool.and_self, if_true]
 rcases Zfy (q := q) (n := n) with ⟨e, f⟩ | ⟨k, xs, e, f⟩
 ·rw [e, f]; rfl
 ·rw [e, f]; rfl
def Zdz : Option Use → List Use → Nat → Option Nat
 | _, [], _ => none
 | a, r :: rs, k => if ZcH a r then Zdz (some r) rs (k + 1) else some k
theorem ZhJ (d0 d1 : D) (M : Store) : ∀ (rs : List Use) (k : Nat) (a : Option Use) (x3 x4 : Option D),
  ZeU [] (Zch [3, 4]) (Zr (sIf (e1 Zb5 (Zae Zbl (Zb (Za 2) (Zb (Za 4) (Zj))))) (Zz (Za 3)) (Zw)) (Zac 2 (Za 4))) (Zen k (rs.map Zn)) [some d0, some d1, some (ZeH a), x3, x4] M =
   match Zdz a rs k with
   | none => (match rs.getLast? with | none => .nx [some d0, some d1, some (ZeH a), x3, x4] M | some r => .nx [some d0, some d1, some (Zn r), some (.int ((k + rs.length - 1 : Nat) : Int)), some (Zn r)] M)
   | some j => .rt (.int (j : Int)) M
 | [], k, a, x3, x4 => by simp [Zen, ZeU, ZdU, Zdz]
 | r :: rs, k, a, x3, x4 => by
  have uf := ZjY a r M
  have ih := ZhJ d0 d1 M rs (k + 1) (some r) (some (.int (k : Int))) (some (Zn r))
  simp only [List.map_cons, Zen, ZeU, ZdU, List.all_nil, if_true, Zch, bindAll, List.set_cons_succ, List.set_cons_zero, Zdz]
  cases h : ZcH a r with
  | false =>
   rw [h] at uf
   simp [Zr, sIf, Zz, uf]
  | true =>
   rw [h] at uf
   simp only [if_true]
   have b : (Zr (sIf (e1 Zb5 (Zae Zbl (Zb (Za 2) (Zb (Za 4) (Zj))))) (Zz (Za 3)) (Zw)) (Zac 2 (Za 4))) [some d0, some d1, some (ZeH a), some (.int (k : Int)), some (Zn r)] M = .nx [some d0, some d1, some (Zn r), some (.int (k : Int)), some (Zn r)] M := by
    simp [Zr, sIf, Zw, Zac, uf]
   rw [b]
   refine Eq.trans ih ?_
   cases hf : Zdz (some r) rs (k + 1) with
   | some j => rfl
   | none =>
    cases rs with
    | nil => simp [ZeH]
    | cons r2 rs =>
     cases hgl : (r2 :: rs).getLast? with
     | none => simp at hgl
     | some z =>
      have : (r :: r2 :: rs).getLast? = some z := by rw [List.getLast?_cons_cons]; exact hgl
      rw [this]
      simp only [List.length_cons]
      rw [show k + 1 + (rs.length + 1) - 1 = k + (rs.length + 1 + 1) - 1 by omega]
def ZdC (roll : ZbC) (ts : List Stp) (k : Nat) : Bool := match ts[k]?, ts[k + 1]? with
 | some s, some s' => Zip roll s.1 s.2 s'.1 s'.2
 | _, _ => false
def Zd7 (roll : ZbC) (ts : List Stp) : Option Nat := (List.range (ts.length - 1)).find? fun k => !ZdC roll ts k
def ZaA (us : List Use) : D := .tup (us.map Zn)
theorem ZfK {ts : List Stp} {k : Nat} (h : k < ts.length) : ZbN (ts.map Zak) ((k : Nat) : Int) = some (Zak ts[k]) := by rw [ZcY, List.getElem?_map, List.getElem?_eq_getElem h]; rfl
theorem ZfU (roll : ZbC) (R : ZbW roll) (ts : List Stp) (h8 : ∀ s ∈ ts, s.2.length = 8) (M : Store) (hz : ts.length ≤ 5000) : Zcq [Zf roll, Zas ts] M = .ok (Zck (Zd7 roll ts)) M := by
 obtain ⟨e', ⟨y, rfl⟩, lp⟩ := Zi2 (it := ⟨Zc1 0 (ts.length - 1), none⟩) rfl (i := 2) (body := (sIf (e1 Zb5 (Zae Zdi (Zb (Za 0) (Zb (e2 Ze (Za 1) (Za 2)) (Zb (e2 Ze (Za 1) (e2 Zaf (Za 2) (eC (.int 1)))) (Zj)))))) (Zz (Za 2)) (Zw))) (q := fun k => !ZdC roll ts k) (I := fun env => ∃ y, env = [some (Zf roll), some (Zas ts), y]) (M := M) (ts.length - 1) 0 [some (Zf roll), some (Zas ts), none] ⟨none, rfl⟩
  (fun k env _ hk ⟨y, he⟩ => by
   subst he
   have hk1 : k + 1 < ts.length := by omega
   have hk0 : k < ts.length := by omega
   have sf := Zjn roll R ts[k].1 ts[k].2 ts[k + 1].1 ts[k + 1].2 M (h8 _ (List.getElem_mem hk0)) (h8 _ (List.getElem_mem hk1))
   have hf : ZdC roll ts k = Zip roll ts[k].1 ts[k].2 ts[k + 1].1 ts[k + 1].2 := by simp [ZdC, hk0, hk1]
   have g1 : (e2 Ze (Za 1) (Za 2)) [some (Zf roll), some (Zas ts), some (.int (k : Int))] M = .ok (Zak ts[k]) M := by simp only [e2, Za, Zas, List.getElem?_cons_succ, List.getElem?_cons_zero, R3.bind, Ze, ZfK hk0]
   have g2 : (e2 Ze (Za 1) (e2 Zaf (Za 2) (eC (.int 1)))) [some (Zf roll), some (Zas ts), some (.int (k : Int))] M = .ok (Zak ts[k + 1]) M := by
    simp only [e2, Za, eC, Zas, List.getElem?_cons_succ, List.getElem?_cons_zero, R3.bind, Zaf, Ze, show ((k : Int) + 1) = ((k + 1 : Nat) : Int) by omega, ZfK hk1]
   have cc : (e1 Zb5 (Zae Zdi (Zb (Za 0) (Zb (e2 Ze (Za 1) (Za 2)) (Zb (e2 Ze (Za 1) (e2 Zaf (Za 2) (eC (.int 1)))) (Zj)))))) [some (Zf roll), some (Zas ts), some (.int (k : Int))] M = .ok (.bl (!ZdC roll ts k)) M := by
    rw [hf]; exact ZfC (ZcI rfl g1 g2 sf) rfl
   refine ⟨fun hq => ?_, fun hq => ?_⟩
   ·exact (ZaT (cc.trans (by rw [hq]))).trans rfl
   ·exact ⟨_, ⟨_, rfl⟩, Zy (cc.trans (by rw [hq]))⟩)
 have ir : (ZbJ (e2 ZbU (Zaj ZaR (Zb (Za 1) (Zj))) (eC (.int 1)))) [some (Zf roll), some (Zas ts), none] M = .ok ⟨Zc1 0 (ts.length - 1), none⟩ M := by
  have b : ((ts.length : Int) - 1) ≤ 1000000 ∧ -1000000 ≤ ((ts.length : Int) - 1) := by omega
  have e : ((ts.length : Int) - 1).toNat = ts.length - 1 := by omega
  simp [Zas, b, e]
 refine Rt.pure (G := []) (env := [some (Zf roll), some (Zas ts), none]) ?_ (ZhT _ _)
 rw [List.append_nil]
 have lp' := (Zhy (g := Zcg 2) ir).trans lp
 unfold Zd7
 rw [ZhW]
 cases hf : (List.range' 0 (ts.length - 1)).find? fun k => !ZdC roll ts k with
 | some j => rw [hf] at lp'; exact Zao lp'
 | none => rw [hf] at lp'; exact (Zm lp').trans rfl
theorem Zf6 (us : List Use) (M : Store) : Zb7 [.non, ZaA us] M = .ok (Zck (Zdz none us 0)) M := by
 have lp := ZhJ .non (ZaA us) M us 0 none none none
 have e0 : Zdt [some .non, some (ZaA us), none, none, none] M = .rt (Zck (Zdz none us 0)) M := by
  refine (Zm (Zag (d := .non) (M' := M) rfl)).trans ?_
  have e1 : (Zg8 (Zkj (Za 1)) (Zch [3, 4]) (Zr (sIf (e1 Zb5 (Zae Zbl (Zb (Za 2) (Zb (Za 4) (Zj))))) (Zz (Za 3)) (Zw)) (Zac 2 (Za 4)))) [some .non, some (ZaA us), some .non, none, none] M = _ := Eq.trans (by simp [Zg8, ZaA, ZeH]) lp
  cases hf : Zdz none us 0 with
  | some j => rw [hf] at e1; exact Zao e1
  | none =>
   rw [hf] at e1
   simp only at e1
   cases hl : us.getLast? with
   | none => rw [hl] at e1; exact (Zm e1).trans rfl
   | some z => rw [hl] at e1; exact (Zm e1).trans rfl
 exact Rt.pure (G := []) (env := [some .non, some (ZaA us), none, none, none]) (by rw [List.append_nil]; exact e0) (ZhT _ _)
theorem Zft (roll : ZbC) (R : ZbW roll) (ts : List Stp) (h8 : ∀ s ∈ ts, s.2.length = 8) (d2 : D) (M : Store) : ∀ (us : List Use) (k : Nat) (x3 x4 : Option D),
  ∃ e', ZeU [] (Zch [3, 4]) (sIf (e1 Zb5 (Zae Zcb (Zb (Za 0) (Zb (Za 1) (Zb (Za 4) (Zj)))))) (Zz (Za 3)) (Zw)) (Zen k (us.map Zn)) [some (Zf roll), some (Zas ts), some d2, x3, x4] M =
   match Zd5 (Zc9 roll ts) us k with
   | none => .nx e' M
   | some j => .rt (.int (j : Int)) M
 | [], k, x3, x4 => ⟨_, by simp [Zen, ZeU, ZdU, Zd5]; rfl⟩
 | u :: us, k, x3, x4 => by
  have um := ZhM roll R ts h8 u M
  have cc : (e1 Zb5 (Zae Zcb (Zb (Za 0) (Zb (Za 1) (Zb (Za 4) (Zj)))))) [some (Zf roll), some (Zas ts), some d2, some (.int (k : Int)), some (Zn u)] M = .ok (.bl (!Zc9 roll ts u)) M := ZfC (ZcI rfl rfl rfl um) rfl
  obtain ⟨e', ih⟩ := Zft roll R ts h8 d2 M us (k + 1) (some (.int (k : Int))) (some (Zn u))
  simp only [List.map_cons, Zen, ZeU, ZdU, List.all_nil, if_true, Zch, bindAll, List.set_cons_succ, List.set_cons_zero, Zd5]
  cases h : Zc9 roll ts u with
  | false => exact ⟨[], by rw [ZaT (cc.trans (by rw [h]; rfl))]; simp [Zz]⟩
  | true => exact ⟨e', by rw [Zy (cc.trans (by rw [h]; rfl))]; simpa using ih⟩
theorem Ze7 (roll : ZbC) (R : ZbW roll) (ts : List Stp) (h8 : ∀ s ∈ ts, s.2.length = 8) (us : List Use) (M : Store) : Zbw [Zf roll, Zas ts, ZaA us] M = .ok (Zck (Zd5 (Zc9 roll ts) us 0)) M := by
 obtain ⟨e', lp⟩ := Zft roll R ts h8 (ZaA us) M us 0 none none
 refine Rt.pure (G := []) (env := [some (Zf roll), some (Zas ts), some (ZaA us), none, none]) ?_ (ZhT _ _)
 rw [List.append_nil]
 have lp' : (Zg8 (Zkj (Za 2)) (Zch [3, 4]) (sIf (e1 Zb5 (Zae Zcb (Zb (Za 0) (Zb (Za 1) (Zb (Za 4) (Zj)))))) (Zz (Za 3)) (Zw))) [some (Zf roll), some (Zas ts), some (ZaA us), none, none] M = _ := Eq.trans (by simp [Zg8, ZaA]) lp
 cases hf : Zd5 (Zc9 roll ts) us 0 with
 | some j => rw [hf] at lp'; exact Zao lp'
 | none => rw [hf] at lp'; exact (Zm lp').trans rfl
abbrev BEGIN : List Nat := [98, 101, 103, 105, 110]
abbrev STEP : List Nat := [115, 116, 101, 112]
abbrev END : List Nat := [101, 110, 100]
abbrev USE : List Nat := [117, 115, 101]
abbrev MATCH : List Nat := [109, 97, 116, 99, 104]
abbrev COUNT : List Nat := [99, 111, 117, 110, 116]
def Zb3 : Option (List Nat × Nat) → D
 | none => .non
 | some (w, k) => .tup [.str w, .int (k : Int)]
theorem Zgw (n : Nat) (o : Option (List Nat × Nat)) : below n (Zb3 o) = true := by
 cases o with
 | none => rfl
 | some p => rfl
def Zh1 (roll : ZbC) (p : Int) : Bool := match Zgv roll p with
 | some r => r.isHalt
 | none => false
def Zcl (roll : ZbC) (bs : List Int) (ts : List Stp) : Option (List Nat × Nat) := match ts with
 | [] => some (BEGIN, 0)
 | s :: _ => if s ≠ (0, bs) then some (BEGIN, 0) else match Zd7 roll ts with
  | some t => some (STEP, t)
  | none => if Zh1 roll (ts.getLastD (0, [])).1 then none else some (END, ts.length - 1)
def Zd6 (roll : ZbC) (ts : List Stp) : List Stp := ts.dropLast.filter fun s => match Zgv roll s.1 with | some r => ZhB r | none => false
def ZhX (roll : ZbC) (ts : List Stp) (us : List Use) : Option (List Nat × Nat) := match Zdz none us 0 with
 | some k => some (USE, k)
 | none => match Zd5 (Zc9 roll ts) us 0 with
  | some k => some (MATCH, k)
  | none => if us.length ≠ (Zd6 roll ts).length then some (COUNT, us.length) else none
def Zfs (roll : ZbC) (bs : List Int) (ts : List Stp) (us : List Use) : Option (List Nat × Nat) := match Zcl roll bs ts with
 | some f => some f
 | none => ZhX roll ts us
theorem find_none {q : Nat → Bool} {n : Nat} (h : (List.range n).find? q = none) {k : Nat} (hk : k < n) : q k = false := by
 have := List.find?_eq_none.mp h k (by simpa using hk)
 simpa using this
theorem Zl9 {roll : ZbC} {p p' : Int} {bs bs' : List Int} (h : Zip roll p bs p' bs' = true) : ∃ k r, p = ((k : Nat) : Int) ∧ roll[k]? = some r ∧ r.isHalt = false ∧ p' = (r.place bs k : Nat) := by
 unfold Zip at h
 split at h
 ·rename_i hp
  obtain ⟨k, rfl⟩ := Int.eq_ofNat_of_zero_le hp.1
  have hk : k < roll.length := by omega
  have hr : roll[k]? = some roll[k] := by simp [hk]
  simp only [Int.ofNat_eq_natCast, Int.toNat_natCast, hr] at h
  split at h
  ·cases h
  ·rename_i hh
   rw [Bool.and_eq_true, decide_eq_true_eq] at h
   exact ⟨k, roll[k], rfl, hr, by simpa using hh, h.1⟩
 ·cases h
theorem place_lt {roll : ZbC} (R : ZbW roll) {k : Nat} {r : Row} {bs : List Int} (hb : bs.length = 8) (hr : roll[k]? = some r) (hh : r.isHalt = false) : r.place bs k < roll.length := by
 have hk : k < roll.length := (List.getElem?_eq_some_iff.mp hr).1
 have g : Good roll ⟨k, bs, []⟩ := ⟨hk, hb, by simp [Ze6]⟩
 have st : ZeY roll ⟨k, bs, []⟩ = some ⟨r.place bs k, r.boxes bs [], r.cells bs []⟩ := by simp [ZeY, hr, ZiL, hh]
 exact (ZgN R g st).1.pl
theorem ZfI {roll : ZbC} (R : ZbW roll) {ts : List Stp} (h8 : ∀ s ∈ ts, s.2.length = 8) {bs : List Int} {s : Stp} (h0 : ts[0]? = some s) (hs : s = (0, bs)) (hf : Zd7 roll ts = none) : ∀ (k : Nat) (x : Stp), ts[k]? = some x → ∃ j r, x.1 = ((j : Nat) : Int) ∧ roll[j]? = some r
 | 0, x, hx => by
  rw [h0] at hx; cases hx
  have pos : 0 < roll.length := by obtain ⟨q, x, e, _⟩ := R.last; rw [e]; simp
  rw [hs]
  exact ⟨0, roll[0], rfl, by simp [pos]⟩
 | k + 1, x, hx => by
  have hk1 : k + 1 < ts.length := (List.getElem?_eq_some_iff.mp hx).1
  have hk0 : k < ts.length := by omega
  have q := find_none hf (k := k) (by omega)
  simp only [Bool.not_eq_false'] at q
  have e0 : ts[k]? = some ts[k] := by simp [hk0]
  unfold ZdC at q
  rw [e0, hx] at q
  obtain ⟨j, r, hj, hr, hh, hp⟩ := Zl9 q
  have := place_lt R (h8 _ (List.getElem_mem hk0)) hr hh
  exact ⟨r.place ts[k].2 j, roll[r.place ts[k].2 j], hp, by simp [this]⟩
theorem ZeM {roll : ZbC} {j : Nat} {r : Row} (hr : roll[j]? = some r) : Zgv roll (j : Int) = some r := by
 have hj : j < roll.length := (List.getElem?_eq_some_iff.mp hr).1
 simp only [Zgv, Int.toNat_natCast, hr]
 rw [if_pos (by omega)]
theorem ZnA (s : Stp) : Zay 59 (Zak s) = true := by
 simp [Zak, ZaZ, Zg, Zay, ZcK]
theorem ZlD (s t : Stp) : Zcj [.int s.1, Zg s.2] [.int t.1, Zg t.2] = decide (s = t) := by
 simp only [Zcj, deq, Zkc, Bool.and_true]
 rw [Bool.eq_iff_iff]
 simp only [Bool.and_eq_true, decide_eq_true_eq, beq_iff_eq]
 constructor
 ·rintro ⟨h1, h2⟩; exact Prod.ext h1 h2
 ·intro h; rw [h]; exact ⟨rfl, rfl⟩
theorem ZnG (s t : Stp) (M : Store) : Zb1 (Zak s) (Zak t) M = .ok (.bl (!decide (s = t))) M := by
 have p1 : ∀ i : Int, Zay DEEP (.int i) = true := fun i => ZcK _ _
 have p2 : ∀ b : List Int, Zay DEEP (Zg b) = true := fun b => ZfL _ _
 simp only [Zb1, eqD, Zak, ZaZ, List.all_cons, List.all_nil, p1, p2, Bool.and_self, if_true, ZlD]
theorem ZkC (r : Row) (M : Store) : Zb1 (Zq r) (.tup [.str [104, 97, 108, 116]]) M = .ok (.bl (!r.isHalt)) M := by
 cases r <;> simp [Zq, Zay, ZcK, Zgp, Zcj, deq]
theorem ZgF (roll : ZbC) (R : ZbW roll) (bs : List Int) (ts : List Stp) (h8 : ∀ s ∈ ts, s.2.length = 8) (M : Store) (hz : ts.length ≤ 5000) :
  ZcT [Zf roll, Zg bs, Zas ts] M = .ok (Zb3 (Zcl roll bs ts)) M := by
 refine Rt.pure (G := []) (env := [some (Zf roll), some (Zg bs), some (Zas ts), none, none]) ?_ (Zgw _ _)
 rw [List.append_nil]
 have fu := ZfU roll R ts h8 M hz
 have e0 : (ZaH (Zb (eC (.int 0)) (Zb (Za 1) (Zj)))) [some (Zf roll), some (Zg bs), some (Zas ts), none, none] M = .ok (Zak (0, bs)) M := by simp [Zak, ZaZ]
 cases ts with
 | nil => exact Zao ((ZaT (M' := M) (by simp [Zas])).trans (by simp [Zz, Zcl, Zb3]))
 | cons s rest =>
  have c1 : (e2 Zb1 (e2 Ze (Za 2) (eC (.int 0))) (ZaH (Zb (eC (.int 0)) (Zb (Za 1) (Zj))))) [some (Zf roll), some (Zg bs), some (Zas (s :: rest)), none, none] M = .ok (.bl (!decide (s = (0, bs)))) M := Za8 (a := Zak s) (M1 := M) (by simp [Zas]) e0 (ZnG s (0, bs) M)
  have c0 : (eOr (e2 Zaq (Zaj ZaR (Zb (Za 2) (Zj))) (eC (.int 0))) (e2 Zb1 (e2 Ze (Za 2) (eC (.int 0))) (ZaH (Zb (eC (.int 0)) (Zb (Za 1) (Zj)))))) [some (Zf roll), some (Zg bs), some (Zas (s :: rest)), none, none] M = .ok (.bl (!decide (s = (0, bs)))) M := by
   rw [ZdX (M1 := M) (by
    have : ¬ ((rest.length : Int) + 1 = 0) := by omega
    simp [Zas, this])]
   exact c1
  by_cases hs : s = (0, bs)
  ·rw [decide_eq_true hs] at c0
   refine (Zm (Zy c0)).trans ((Zm (Zag (ZcB rfl rfl fu))).trans ?_)
   have fs : Zcl roll bs (s :: rest) = (match Zd7 roll (s :: rest) with | some t => some (STEP, t) | none => if Zh1 roll ((s :: rest).getLastD (0, [])).1 then none else some (END, (s :: rest).length - 1)) := by
    simp only [Zcl]; rw [if_neg (by simpa using hs)]
   rw [fs]
   cases hf : Zd7 roll (s :: rest) with
   | some t => exact Zao ((ZaT (M' := M) (by simp [Zck])).trans (by simp [Zz, Zck, Zb3]))
   | none =>
    refine (Zm (Zy (M' := M) (by simp [Zck]))).trans ?_
    have hl : (s :: rest).length - 1 < (s :: rest).length := by simp
    obtain ⟨j, r, hj, hr⟩ := ZfI R h8 (s := s) (by simp) hs hf ((s :: rest).length - 1) ((s :: rest)[(s :: rest).length - 1]) (by simp)
    have gl : (s :: rest).getLastD (0, []) = (s :: rest)[(s :: rest).length - 1] := by
     rw [List.getLastD_eq_getLast?, List.getLast?_eq_getElem?]; simp
    rw [gl]
    have tg := ZfK (ts := s :: rest) hl
    generalize hx : (s :: rest)[(s :: rest).length - 1] = x at hj tg
    have e4 : (e2 ZbU (Zaj ZaR (Zb (Za 2) (Zj))) (eC (.int 1))) [some (Zf roll), some (Zg bs), some (Zas (s :: rest)), some (Zck none), none] M = .ok (.int (((s :: rest).length - 1 : Nat) : Int)) M := by
     simp [Zas]
    refine (Zm (Zag e4)).trans ?_
    have ra := ZhK roll x.1 M
    rw [hj, ZeM hr] at ra
    have e5 : (e2 Ze (e2 Ze (Za 2) (Za 4)) (eC (.int 0))) [some (Zf roll), some (Zg bs), some (Zas (s :: rest)), some (Zck none), some (.int (((s :: rest).length - 1 : Nat) : Int))] M = .ok (.int (j : Int)) M := by
     refine Za8 (a := Zak x) (M1 := M) (b := .int 0) (M2 := M) ?_ rfl (by simp [Zak, ZaZ, hj])
     simp only [e2, Za, Zas, List.getElem?_cons_succ, List.getElem?_cons_zero, R3.bind, Ze, tg]
    have e6 : (e2 Zb1 (Zae Zc4 (Zb (Za 0) (Zb (e2 Ze (e2 Ze (Za 2) (Za 4)) (eC (.int 0))) (Zj)))) (ZaH (Zb (eC (.str [104, 97, 108, 116])) (Zj)))) [some (Zf roll), some (Zg bs), some (Zas (s :: rest)), some (Zck none), some (.int (((s :: rest).length - 1 : Nat) : Int))] M = .ok (.bl (!r.isHalt)) M := Za8 (ZcB rfl e5 ra) (by simp) (ZkC r M)
    have hA : Zh1 roll x.1 = r.isHalt := by simp only [Zh1, hj, ZeM hr]
    rw [hA]
    cases hh : r.isHalt with
    | true => rw [hh] at e6; exact (Zm (Zy e6)).trans rfl
    | false => rw [hh] at e6; exact Zao ((ZaT e6).trans (by simp [Zz, Zb3]))
  ·rw [decide_eq_false hs] at c0
   refine Zao ((ZaT c0).trans ?_)
   have fs : Zcl roll bs (s :: rest) = some (BEGIN, 0) := by simp only [Zcl]; rw [if_pos hs]
   rw [fs]
   simp [Zz, Zb3]
theorem ZgE {roll : ZbC} {bs : List Int} {ts : List Stp} (h : Zcl roll bs ts = none) : (∃ s, ts[0]? = some s ∧ s = (0, bs)) ∧ Zd7 roll ts = none := by
 cases ts with
 | nil => simp [Zcl] at h
 | cons s rest =>
  simp only [Zcl] at h
  by_cases hs : s = (0, bs)
  ·rw [if_neg (by simpa using hs)] at h
   refine ⟨⟨s, by simp, hs⟩, ?_⟩
   cases hf : Zd7 roll (s :: rest) with
   | some t => rw [hf] at h; cases h
   | none => rfl
  ·rw [if_pos hs] at h; cases h
theorem ZgO (roll : ZbC) (R : ZbW roll) (bs : List Int) (ts : List Stp) (h8 : ∀ s ∈ ts, s.2.length = 8) (us : List Use) (M : Store) (hz : ts.length ≤ 5000) (hf : Zcl roll bs ts = none) :
  Zcv [Zf roll, Zas ts, ZaA us] M = .ok (Zb3 (ZhX roll ts us)) M := by
 obtain ⟨⟨s0, h0, hs0⟩, hS⟩ := ZgE hf
 have pl := ZfI R h8 h0 hs0 hS
 have f1 := Zf6 us M
 have f2 := Ze7 roll R ts h8 us M
 have fin : ∀ {d : D} (G : Store), below M.length d = true → Zd3 [some (Zf roll), some (Zas ts), some (ZaA us), none, none, none] M = .rt d (M ++ G) → Zcv [Zf roll, Zas ts, ZaA us] M = .ok d M := fun {d} G hb h => Rt.pure h hb
 unfold ZhX
 cases h1 : Zdz none us 0 with
 | some k =>
  rw [h1] at f1
  refine fin [] rfl ?_
  rw [List.append_nil]
  exact (Zm (Zag (ZcB rfl rfl f1))).trans (Zao ((ZaT (M' := M) (by simp [Zck])).trans (by simp [Zz, Zck, Zb3])))
 | none =>
  rw [h1] at f1
  cases h2 : Zd5 (Zc9 roll ts) us 0 with
  | some k =>
   rw [h2] at f2
   refine fin [] rfl ?_
   rw [List.append_nil]
   exact (Zm (Zag (ZcB rfl rfl f1))).trans ((Zm (Zy (M' := M) (by simp [Zck]))).trans ((Zm (Zag (ZcI rfl rfl rfl f2))).trans (Zao ((ZaT (M' := M) (by simp [Zck])).trans (by simp [Zz, Zck, Zb3])))))
  | none =>
   rw [h2] at f2
   have lc : (eLC (Zhq (eSl (Za 1) (ZaD) (ZaE (e1 ZdE (eC (.int 1)))))) 1 (Zcg 6) [Zae Zcw (Zb (e2 Ze (Za 0) (e2 Ze (Za 6) (eC (.int 0)))) (Zj))] (Za 6)) [some (Zf roll), some (Zas ts), some (ZaA us), some (Zck none), some (Zck none), none] M = .ok (.ref M.length) (M ++ [.lst ((Zd6 roll ts).map Zak)]) := by
    refine ZgW (α := Stp) (enc := Zak) (h := Zak) (p := fun s => match Zgv roll s.1 with | some r => ZhB r | none => false) (own := 1) (i := 6) (lock := none) (as := ts.dropLast) (M1 := M) ?_ (fun _ h => by cases h) (fun x hx M' => ?_) (fun x hx _ M' => by simp) (by simp; omega)
    ·have := ZhS (ts.map Zak)
     simp only [Zhq, eSl, Za, ZaD, ZaE, e1, eC, Zas, List.getElem?_cons_succ, List.getElem?_cons_zero, R3.bind, ZdE, Zfj, this]
     rw [List.map_dropLast]
    ·obtain ⟨k, hk⟩ := List.getElem?_of_mem hx
     have hk' : ts[k]? = some x := by
      rw [List.getElem?_dropLast] at hk
      split at hk
      ·exact hk
      ·cases hk
     obtain ⟨j, r, hj, hr⟩ := pl k x hk'
     have iu := ZfJ r M'
     have gi : (e2 Ze (Za 0) (e2 Ze (Za 6) (eC (.int 0)))) [some (Zf roll), some (Zas ts), some (ZaA us), some (Zck none), some (Zck none), none, some (Zak x)] M' = .ok (Zq r) M' := by
      simp [Zak, ZaZ, hj, Zf, hr]
     simp only [hj, ZeM hr]
     exact ZgI gi iu
   have e7 : (e2 Zb1 (Zaj ZaR (Zb (Za 2) (Zj))) (Zaj ZaR (Zb (Za 5) (Zj)))) [some (Zf roll), some (Zas ts), some (ZaA us), some (Zck none), some (Zck none), some (.ref M.length)] (M ++ [.lst ((Zd6 roll ts).map Zak)]) = .ok (.bl (!decide (us.length = (Zd6 roll ts).length))) (M ++ [.lst ((Zd6 roll ts).map Zak)]) := by
    have : (((us.length : Int)) = ((Zd6 roll ts).length : Int)) = (us.length = (Zd6 roll ts).length) := by simp [Int.ofNat_inj]
    simp [ZaA, this]
   have pre : ∀ {k' : S3} {o : O3}, k' [some (Zf roll), some (Zas ts), some (ZaA us), some (Zck none), some (Zck none), some (.ref M.length)] (M ++ [.lst ((Zd6 roll ts).map Zak)]) = o → Zr (Zac 3 (Zae Zb7 (Zb (eC .non) (Zb (Za 2) (Zj))))) (Zr (sIf (e2 Zdv (Za 3) (eC .non)) (Zz (ZaH (Zb (eC (.str [117, 115, 101])) (Zb (Za 3) (Zj))))) (Zw)) (Zr (Zac 4 (Zae Zbw (Zb (Za 0) (Zb (Za 1) (Zb (Za 2) (Zj)))))) (Zr (sIf (e2 Zdv (Za 4) (eC .non)) (Zz (ZaH (Zb (eC (.str [109, 97, 116, 99, 104])) (Zb (Za 4) (Zj))))) (Zw)) (Zr (Zac 5 (eLC (Zhq (eSl (Za 1) (ZaD) (ZaE (e1 ZdE (eC (.int 1)))))) 1 (Zcg 6) [Zae Zcw (Zb (e2 Ze (Za 0) (e2 Ze (Za 6) (eC (.int 0)))) (Zj))] (Za 6))) k')))) [some (Zf roll), some (Zas ts), some (ZaA us), none, none, none] M = o := fun {k' o} h =>
    (Zm (Zag (ZcB rfl rfl f1))).trans ((Zm (Zy (M' := M) (by simp [Zck]))).trans ((Zm (Zag (ZcI rfl rfl rfl f2))).trans ((Zm (Zy (M' := M) (by simp [Zck]))).trans ((Zm (Zag lc)).trans h))))
   by_cases hc : us.length = (Zd6 roll ts).length
   ·rw [if_neg (by simpa using hc)]
    rw [decide_eq_true hc] at e7
    exact fin [.lst ((Zd6 roll ts).map Zak)] rfl (pre ((Zm (Zy e7)).trans rfl))
   ·rw [if_pos hc]
    rw [decide_eq_false hc] at e7
    exact fin [.lst ((Zd6 roll ts).map Zak)] rfl (pre (Zao ((ZaT e7).trans (by simp [Zz, ZaA, Zb3]))))
theorem Znp (roll : ZbC) (R : ZbW roll) (bs : List Int) (ts : List Stp) (h8 : ∀ s ∈ ts, s.2.length = 8) (us : List Use) (M : Store) (hz : ts.length ≤ 5000) :
  Zht [Zf roll, Zg bs, Zas ts, ZaA us] M = .ok (Zb3 (Zfs roll bs ts us)) M := by
 have f1 := ZgF roll R bs ts h8 M hz
 refine Rt.pure (G := []) (env := [some (Zf roll), some (Zg bs), some (Zas ts), some (ZaA us), none]) ?_ (Zgw _ _)
 rw [List.append_nil]
 refine (Zm (Zag (ZcI rfl rfl rfl f1))).trans (ZaK ?_)
 unfold Zfs
 cases hf : Zcl roll bs ts with
 | some f => exact (Zpe (M1 := M) (by cases f; simp [Zb3])).trans rfl
 | none =>
  have f2 := ZgO roll R bs ts h8 us M hz hf
  exact (Zpa (M1 := M) (by simp [Zb3])).trans (ZcI rfl rfl rfl f2)
theorem Zpx (s t : Stp) (M : Store) : Zaq (Zak s) (Zak t) M = .ok (.bl (decide (s = t))) M := by
 have p1 : ∀ i : Int, Zay DEEP (.int i) = true := fun i => ZcK _ _
 have p2 : ∀ b : List Int, Zay DEEP (Zg b) = true := fun b => ZfL _ _
 simp only [Zaq, eqD, Zak, ZaZ, List.all_cons, List.all_nil, p1, p2, Bool.and_self, if_true, ZlD]
theorem Ziv (roll : ZbC) (R : ZbW roll) (s s' : Stp) (M : Store) (hb : s.2.length = 8) (hb' : s'.2.length = 8) :
  ZbF [Zf roll, Zak s, Zak s'] M = .ok (.bl (Zip roll s.1 s.2 s'.1 s'.2)) M := by
 obtain ⟨p, bs⟩ := s
 obtain ⟨p', bs'⟩ := s'
 replace hb : bs.length = 8 := hb
 replace hb' : bs'.length = 8 := hb'
 have fin : ∀ {b : Bool} (G : Store), Zdw [some (Zf roll), some (Zak (p, bs)), some (Zak (p', bs')), none, none, none, none] M = .rt (.bl b) (M ++ G) → ZbF [Zf roll, Zak (p, bs), Zak (p', bs')] M = .ok (.bl b) M := fun {b} G h => Rt.pure h rfl
 have s0 : ZeC (Za 1) (Zch [3, 4]) [some (Zf roll), some (Zak (p, bs)), some (Zak (p', bs')), none, none, none, none] M = .nx [some (Zf roll), some (Zak (p, bs)), some (Zak (p', bs')), some (.int p), some (Zg bs), none, none] M := rfl
 show _ = R3.ok (D.bl (Zip roll p bs p' bs')) M
 unfold Zip
 by_cases h : 0 ≤ p ∧ p < roll.length
 ·rw [if_pos h]
  obtain ⟨k, rfl⟩ := Int.eq_ofNat_of_zero_le h.1
  have hk : k < roll.length := by omega
  have hr : roll[k]? = some roll[k] := by simp [hk]
  have ro := R.rows _ (List.getElem_mem hk)
  simp only [Int.ofNat_eq_natCast, Int.toNat_natCast, hr] at s0 fin ⊢
  have n0 : ¬ ((k : Int) < 0) := by omega
  have n1 : ¬ ((roll.length : Int) ≤ (k : Int)) := by omega
  generalize roll[k] = r at hr ro
  have gi : ∀ (y5 y6 : Option D) (M : Store), (e2 Ze (Za 0) (Za 3)) [some (Zf roll), some (Zak ((k : Int), bs)), some (Zak (p', bs')), some (.int (k : Int)), some (Zg bs), y5, y6] M = .ok (Zq r) M := fun y5 y6 M => by simp [Zf, hr]
  have cond : (eOr (e2 Zh4 (Za 3) (eC (.int 0))) (eOr (e2 ZhY (Za 3) (Zaj ZaR (Zb (Za 0) (Zj)))) (e2 Zaq (e2 Ze (e2 Ze (Za 0) (Za 3)) (eC (.int 0))) (eC (.str [104, 97, 108, 116]))))) [some (Zf roll), some (Zak ((k : Int), bs)), some (Zak (p', bs')), some (.int (k : Int)), some (Zg bs), none, none] M = .ok (.bl r.isHalt) M := by
   rw [ZdX (M1 := M) (by simp [n0]), ZdX (M1 := M) (by simp only [e2, Za, Zaj, Zb, Zj, Zf, List.getElem?_cons_succ, List.getElem?_cons_zero, R3.bind, ZaR, List.length_map, ZhY, n1, decide_false]), ZgH]
   exact Za8 (Za8 (gi _ _ M) rfl (ZeT r M)) rfl (by simp)
  by_cases hh : r.isHalt = true
  ·rw [if_pos hh]
   rw [hh] at cond
   refine fin [] ?_
   rw [List.append_nil]
   exact (Zm s0).trans (Zao ((ZaT cond).trans rfl))
  ·rw [if_neg hh]
   have hh' : r.isHalt = false := by simpa using hh
   rw [hh'] at cond
   have go := Zkk r k M.length (M.length + 1) bs [] (M ++ [.lst (bs.map D.int), .dct (ZaW [])]) roll.length (Za7 _ _ _) (Za4 _ _ 1) (by omega) hb ro (by simp)
   rw [show (M ++ [MO.lst (bs.map D.int), .dct (ZaW [])]).set M.length (.lst ((r.boxes bs []).map D.int)) = M ++ [.lst ((r.boxes bs []).map D.int), .dct (ZaW [])] from Zff M _ 0 _, Zff M _ 1 _] at go
   have go' : Zbt [Zq r, .int (k : Int), .ref M.length, .ref (M.length + 1)] (M ++ [.lst (bs.map D.int), .dct (ZaW [])]) = .ok (.int ((r.place bs k : Nat) : Int)) (M ++ [.lst ((r.boxes bs []).map D.int), .dct (ZaW (Zcf r bs []))]) := go
   have b5 : (Zaj Zfh (Zb (Za 4) (Zj))) [some (Zf roll), some (Zak ((k : Int), bs)), some (Zak (p', bs')), some (.int (k : Int)), some (Zg bs), none, none] M = .ok (.ref M.length) (M ++ [.lst (bs.map D.int)]) := by simp [Zg]
   have b6 : (Zae Zbt (Zb (e2 Ze (Za 0) (Za 3)) (Zb (Za 3) (Zb (Za 5) (Zb (ZlC) (Zj)))))) [some (Zf roll), some (Zak ((k : Int), bs)), some (Zak (p', bs')), some (.int (k : Int)), some (Zg bs), some (.ref M.length), none] (M ++ [.lst (bs.map D.int)]) = .ok (.int ((r.place bs k : Nat) : Int)) (M ++ [.lst ((r.boxes bs []).map D.int), .dct (ZaW (Zcf r bs []))]) := by
    refine ZgS (M4 := M ++ [.lst (bs.map D.int), .dct (ZaW [])]) (d := .ref (M.length + 1)) (gi _ _ _) rfl rfl ?_ go'
    simp [ZaW]
   have b7 : (sIf (e2 Zaq (e2 Ze (e2 Ze (Za 0) (Za 3)) (eC (.int 0))) (eC (.str [103, 101, 116]))) (Zd9 (Za 5) (e2 Ze (e2 Ze (Za 0) (Za 3)) (eC (.int 1))) (e2 Ze (e2 Ze (Za 2) (eC (.int 1))) (e2 Ze (e2 Ze (Za 0) (Za 3)) (eC (.int 1))))) (Zw)) [some (Zf roll), some (Zak ((k : Int), bs)), some (Zak (p', bs')), some (.int (k : Int)), some (Zg bs), some (.ref M.length), some (.int ((r.place bs k : Nat) : Int))] (M ++ [.lst ((r.boxes bs []).map D.int), .dct (ZaW (Zcf r bs []))]) = .nx [some (Zf roll), some (Zak ((k : Int), bs)), some (Zak (p', bs')), some (.int (k : Int)), some (Zg bs), some (.ref M.length), some (.int ((r.place bs k : Nat) : Int))] (M ++ [.lst ((Zco r bs bs').map D.int), .dct (ZaW (Zcf r bs []))]) := by
    have g2 := gi (some (.ref M.length)) (some (.int ((r.place bs k : Nat) : Int)))
    have cg : (e2 Zaq (e2 Ze (e2 Ze (Za 0) (Za 3)) (eC (.int 0))) (eC (.str [103, 101, 116]))) [some (Zf roll), some (Zak ((k : Int), bs)), some (Zak (p', bs')), some (.int (k : Int)), some (Zg bs), some (.ref M.length), some (.int ((r.place bs k : Nat) : Int))] (M ++ [.lst ((r.boxes bs []).map D.int), .dct (ZaW (Zcf r bs []))]) = .ok (.bl (decide (Zea r = [103, 101, 116]))) (M ++ [.lst ((r.boxes bs []).map D.int), .dct (ZaW (Zcf r bs []))]) := Za8 (Za8 (g2 _) rfl (ZeT r _)) rfl (by simp)
    have other : (∀ a b, r ≠ .get a b) → Zea r ≠ [103, 101, 116] ∧ Zco r bs bs' = r.boxes bs [] := fun hg => by
     cases r <;> first | exact absurd rfl (hg _ _) | exact ⟨by simp [Zea], rfl⟩
    cases r with
    | get a b =>
     obtain ⟨x, hx, gx⟩ := ZbL hb' ro.1
     have la : a < bs.length := by rw [hb]; exact ro.1
     have v1 : (e2 Ze (e2 Ze (Za 0) (Za 3)) (eC (.int 1))) [some (Zf roll), some (Zak ((k : Int), bs)), some (Zak (p', bs')), some (.int (k : Int)), some (Zg bs), some (.ref M.length), some (.int (((Row.get a b).place bs k : Nat) : Int))] (M ++ [.lst (((Row.get a b).boxes bs []).map D.int), .dct (ZaW (Zcf (.get a b) bs []))]) = .ok (.int (a : Int)) (M ++ [.lst (((Row.get a b).boxes bs []).map D.int), .dct (ZaW (Zcf (.get a b) bs []))]) := Za8 (g2 _) rfl (by simp [Zq])
     have v2 : (e2 Ze (e2 Ze (Za 2) (eC (.int 1))) (e2 Ze (e2 Ze (Za 0) (Za 3)) (eC (.int 1)))) [some (Zf roll), some (Zak ((k : Int), bs)), some (Zak (p', bs')), some (.int (k : Int)), some (Zg bs), some (.ref M.length), some (.int (((Row.get a b).place bs k : Nat) : Int))] (M ++ [.lst (((Row.get a b).boxes bs []).map D.int), .dct (ZaW (Zcf (.get a b) bs []))]) = .ok (.int x) (M ++ [.lst (((Row.get a b).boxes bs []).map D.int), .dct (ZaW (Zcf (.get a b) bs []))]) := Za8 (a := Zg bs') (M1 := M ++ [.lst (((Row.get a b).boxes bs []).map D.int), .dct (ZaW (Zcf (.get a b) bs []))]) (by simp [Zak, ZaZ]) v1 (by simp [Zg, -ZaM, gx])
     refine (ZaT (M' := M ++ [.lst (((Row.get a b).boxes bs []).map D.int), .dct (ZaW (Zcf (.get a b) bs []))]) (cg.trans (by simp [Zea]))).trans (Zfr (d := .non) ?_)
     simp only [e3, v2, v1, R3.bind, Za, List.getElem?_cons_succ, List.getElem?_cons_zero, ZhI]
     simp [Zco, ← hx, Row.boxes, la, List.map_set]
    | _ => exact (fun o => (Zy (cg.trans (by rw [decide_eq_false o.1]))).trans (by rw [o.2])) (other (fun a b h => by cases h))
   refine fin [.lst ((Zco r bs bs').map D.int), .dct (ZaW (Zcf r bs []))] ?_
   refine (Zm s0).trans ((Zm (Zy cond)).trans ((Zm (Zag b5)).trans ((Zm (Zag b6)).trans ((Zm b7).trans (ZaK ?_)))))
   refine Za8 (a := Zak (p', bs')) (b := Zak (((r.place bs k : Nat) : Int), Zco r bs bs')) (M1 := M ++ [.lst ((Zco r bs bs').map D.int), .dct (ZaW (Zcf r bs []))]) (M2 := M ++ [.lst ((Zco r bs bs').map D.int), .dct (ZaW (Zcf r bs []))]) rfl (by simp [Zak, ZaZ, Zg]) ?_
   rw [Zpx]
   congr 2
   rw [Bool.eq_iff_iff]
   simp [Prod.ext_iff]
 ·rw [if_neg h]
  refine fin [] ?_
  rw [List.append_nil]
  refine (Zm s0).trans (Zao ((ZaT (M' := M) ?_).trans rfl))
  by_cases h0 : p < 0
  ·rw [ZhG (M1 := M) (by simp [h0])]
  ·have h1 : (roll.length : Int) ≤ p := by omega
   rw [ZdX (M1 := M) (by simp [h0]), ZhG (M1 := M) (by simp [Zf, h1])]
theorem Zjk (roll : ZbC) (R : ZbW roll) (bs : List Int) (ts : List Stp) (h8 : ∀ s ∈ ts, s.2.length = 8) (M : Store) (hz : ts.length ≤ 5000) :
  ZbP [Zf roll, Zg bs, Zas ts] M = .ok (Zb3 (Zcl roll bs ts)) M := by
 have fin : ∀ {d : D} (G : Store), below M.length d = true → ZdG [some (Zf roll), some (Zg bs), some (Zas ts), none, none] M = .rt d (M ++ G) → ZbP [Zf roll, Zg bs, Zas ts] M = .ok d M := fun {d} G hb h => Rt.pure h hb
 have e0 : (ZaH (Zb (eC (.int 0)) (Zb (Za 1) (Zj)))) [some (Zf roll), some (Zg bs), some (Zas ts), none, none] M = .ok (Zak (0, bs)) M := by simp [Zak, ZaZ]
 cases ts with
 | nil =>
  refine fin [] rfl ?_
  rw [List.append_nil]
  exact Zao ((ZaT (M' := M) (by simp [Zas])).trans (by simp [Zz, Zcl, Zb3]))
 | cons s rest =>
  have c1 : (e2 Zb1 (e2 Ze (Za 2) (eC (.int 0))) (ZaH (Zb (eC (.int 0)) (Zb (Za 1) (Zj))))) [some (Zf roll), some (Zg bs), some (Zas (s :: rest)), none, none] M = .ok (.bl (!decide (s = (0, bs)))) M := Za8 (a := Zak s) (M1 := M) (by simp [Zas]) e0 (ZnG s (0, bs) M)
  have c0 : (eOr (e2 Zaq (Zaj ZaR (Zb (Za 2) (Zj))) (eC (.int 0))) (e2 Zb1 (e2 Ze (Za 2) (eC (.int 0))) (ZaH (Zb (eC (.int 0)) (Zb (Za 1) (Zj)))))) [some (Zf roll), some (Zg bs), some (Zas (s :: rest)), none, none] M = .ok (.bl (!decide (s = (0, bs)))) M := by
   rw [ZdX (M1 := M) (by
    have : ¬ ((rest.length : Int) + 1 = 0) := by omega
    simp [Zas, this])]
   exact c1
  by_cases hs : s = (0, bs)
  ·rw [decide_eq_true hs] at c0
   have fs : Zcl roll bs (s :: rest) = (match Zd7 roll (s :: rest) with | some t => some (STEP, t) | none => if Zh1 roll ((s :: rest).getLastD (0, [])).1 then none else some (END, (s :: rest).length - 1)) := by
    simp only [Zcl]; rw [if_neg (by simpa using hs)] <;> rfl
   rw [fs]
   have lc := ZlE (n := (s :: rest).length - 1) (i := ZbJ (e2 ZbU (Zaj ZaR (Zb (Za 2) (Zj))) (eC (.int 1)))) (iv := 5) (c := e1 Zb5 (Zae ZbF (Zb (Za 0) (Zb (e2 Ze (Za 2) (Za 5)) (Zb (e2 Ze (Za 2) (e2 Zaf (Za 5) (eC (.int 1)))) (Zj)))))) (env := [some (Zf roll), some (Zg bs), some (Zas (s :: rest)), none, none]) (M := M) (q := fun k => !ZdC roll (s :: rest) k)
    (by
     have b : ((rest.length : Int)) ≤ 1000000 ∧ -1000000 ≤ ((rest.length : Int)) := by
      have : rest.length + 1 ≤ 5000 := by simpa using hz
      omega
     simp [Zas, b]) rfl (by omega)
    (fun k hk M => by
     have hk1 : k + 1 < (s :: rest).length := by omega
     have hk0 : k < (s :: rest).length := by omega
     have sf := Ziv roll R (s :: rest)[k] (s :: rest)[k + 1] M (h8 _ (List.getElem_mem hk0)) (h8 _ (List.getElem_mem hk1))
     have hf : ZdC roll (s :: rest) k = Zip roll (s :: rest)[k].1 (s :: rest)[k].2 (s :: rest)[k + 1].1 (s :: rest)[k + 1].2 := by
      unfold ZdC
      rw [List.getElem?_eq_getElem hk0, List.getElem?_eq_getElem hk1]
     rw [hf]
     refine ZfC (ZcI (M1 := M) (M2 := M) (M3 := M) rfl ?_ ?_ sf) rfl
     ·simp only [e2, Za, Zas, List.cons_append, List.nil_append, List.getElem?_cons_succ, List.getElem?_cons_zero, R3.bind, Ze, ZfK hk0]
     ·simp only [e2, Za, eC, Zas, List.cons_append, List.nil_append, List.getElem?_cons_succ, List.getElem?_cons_zero, R3.bind, Zaf, Ze, show ((k : Int) + 1) = ((k + 1 : Nat) : Int) by omega, ZfK hk1])
   have g1 : (M ++ [MO.lst (((List.range ((s :: rest).length - 1)).filter fun k => !ZdC roll (s :: rest) k).map fun k => D.int ((k : Nat) : Int)), .lst []])[M.length]? = some (.lst (((List.range ((s :: rest).length - 1)).filter fun k => !ZdC roll (s :: rest) k).map fun k => D.int ((k : Nat) : Int))) := Za7 _ _ _
   have g2 : (M ++ [MO.lst (((List.range ((s :: rest).length - 1)).filter fun k => !ZdC roll (s :: rest) k).map fun k => D.int ((k : Nat) : Int)), .lst []])[M.length + 1]? = some (.lst []) := Za4 _ _ 1
   have nn := Zm1 g1 g2
   have c2 : (e2 Zb1 (Za 3) (Zca (Zj))) [some (Zf roll), some (Zg bs), some (Zas (s :: rest)), some (.ref M.length), none] (M ++ [.lst (((List.range ((s :: rest).length - 1)).filter fun k => !ZdC roll (s :: rest) k).map fun k => D.int ((k : Nat) : Int))]) = .ok (.bl (Zd7 roll (s :: rest)).isSome) (M ++ [.lst (((List.range ((s :: rest).length - 1)).filter fun k => !ZdC roll (s :: rest) k).map fun k => D.int ((k : Nat) : Int)), .lst []]) := by
    refine Za8 (a := .ref M.length) (b := .ref (M.length + 1)) rfl ?_ nn
    simp
   have fh := Zfy (q := fun k => !ZdC roll (s :: rest) k) (n := (s :: rest).length - 1)
   have hFs : (List.range ((s :: rest).length - 1)).find? (fun k => !ZdC roll (s :: rest) k) = Zd7 roll (s :: rest) := rfl
   rw [hFs] at fh
   generalize hL : (((List.range ((s :: rest).length - 1)).filter fun k => !ZdC roll (s :: rest) k).map fun k => D.int ((k : Nat) : Int)) = L at *
   refine fin [.lst L, .lst []] (Zgw _ _) ?_
   refine (Zm (Zy c0)).trans ((Zm (Zag lc)).trans ?_)
   cases hf : Zd7 roll (s :: rest) with
   | some t =>
    rw [hf] at c2 fh
    obtain ⟨z, _⟩ | ⟨k, xs, e, f⟩ := fh
    ·rename_i w; cases w
    ·cases f
     refine Zao ((ZaT c2).trans (ZaK ?_))
     rw [e] at g1
     simp [g1, e, Zb3]
   | none =>
    rw [hf] at c2
    refine (Zm (Zy c2)).trans ?_
    have hl : (s :: rest).length - 1 < (s :: rest).length := by simp
    obtain ⟨j, r, hj, hr⟩ := ZfI R h8 (s := s) (by simp) hs hf ((s :: rest).length - 1) ((s :: rest)[(s :: rest).length - 1]) (by simp)
    have gl : (s :: rest).getLastD (0, []) = (s :: rest)[(s :: rest).length - 1] := by
     rw [List.getLastD_eq_getLast?, List.getLast?_eq_getElem?]; simp
    have tl : (Zas (s :: rest)) = .tup ((s :: rest).map Zak) := rfl
    have gl' : ZbN ((s :: rest).map Zak) (-1) = some (Zak (s :: rest)[(s :: rest).length - 1]) := by
     rw [Zmq, List.getLast?_map, List.getLast?_eq_getElem?]
     simp
    rw [gl]
    generalize hx : (s :: rest)[(s :: rest).length - 1] = x at hj gl'
    have e4 : (e2 Ze (e2 Ze (Za 2) (e1 ZdE (eC (.int 1)))) (eC (.int 0))) [some (Zf roll), some (Zg bs), some (Zas (s :: rest)), some (.ref M.length), none] (M ++ [.lst L, .lst []]) = .ok (.int (j : Int)) (M ++ [.lst L, .lst []]) := by
     refine Za8 (a := Zak x) (M1 := M ++ [.lst L, .lst []]) (b := .int 0) (M2 := M ++ [.lst L, .lst []]) ?_ rfl (by simp [Zak, ZaZ, hj])
     simp only [e2, e1, eC, Za, Zas, List.getElem?_cons_succ, List.getElem?_cons_zero, R3.bind, ZdE, Ze, gl']
    refine (Zm (Zag e4)).trans ?_
    have jl : j < roll.length := (List.getElem?_eq_some_iff.mp hr).1
    have n0 : ¬ ((j : Int) < 0) := by omega
    have n1 : ¬ ((roll.length : Int) ≤ (j : Int)) := by omega
    have e6 : (eOr (e2 Zh4 (Za 4) (eC (.int 0))) (eOr (e2 ZhY (Za 4) (Zaj ZaR (Zb (Za 0) (Zj)))) (e2 Zb1 (e2 Ze (e2 Ze (Za 0) (Za 4)) (eC (.int 0))) (eC (.str [104, 97, 108, 116]))))) [some (Zf roll), some (Zg bs), some (Zas (s :: rest)), some (.ref M.length), some (.int (j : Int))] (M ++ [.lst L, .lst []]) = .ok (.bl (!r.isHalt)) (M ++ [.lst L, .lst []]) := by
     rw [ZdX (M1 := M ++ [.lst L, .lst []]) (by simp [n0]), ZdX (M1 := M ++ [.lst L, .lst []]) (by simp only [e2, Za, Zaj, Zb, Zj, Zf, List.getElem?_cons_succ, List.getElem?_cons_zero, R3.bind, ZaR, List.length_map, ZhY, n1, decide_false]), ZgH]
     exact Za8 (Za8 (a := Zq r) (M1 := M ++ [.lst L, .lst []]) (by simp [Zf, hr]) rfl (ZeT r _)) rfl (by simp)
    have hA : Zh1 roll x.1 = r.isHalt := by simp only [Zh1, hj, ZeM hr]
    rw [hA]
    cases hh : r.isHalt with
    | true => rw [hh] at e6; exact (Zm (Zy e6)).trans rfl
    | false => rw [hh] at e6; exact Zao ((ZaT e6).trans (by simp [Zz, Zb3, Zas]))
  ·rw [decide_eq_false hs] at c0
   refine fin [] (Zgw _ _) ?_
   rw [List.append_nil]
   refine Zao ((ZaT c0).trans ?_)
   have fs : Zcl roll bs (s :: rest) = some (BEGIN, 0) := by simp only [Zcl]; rw [if_pos hs]
   rw [fs]
   simp [Zz, Zb3]
def Zi0 (us : List Use) (k : Nat) : Bool := match us[k]? with
 | some u => ZcH (if k = 0 then none else us[k - 1]?) u
 | none => false
theorem Zm2 (q : Nat → Bool) : ∀ (rs : List Use) (k : Nat) (a : Option Use), (∀ (j : Nat) r, rs[j]? = some r → q (k + j) = !ZcH (if j = 0 then a else rs[j - 1]?) r) → (List.range' k rs.length).find? q = Zdz a rs k
 | [], k, a, _ => rfl
 | r :: rs, k, a, h => by
  have h0 := h 0 r (by simp)
  simp only [Nat.add_zero, if_true] at h0
  simp only [List.length_cons, List.range'_succ, List.find?_cons, Zdz, h0]
  cases hp : ZcH a r with
  | false => simp
  | true =>
   simp only [Bool.not_true, if_true]
   exact Zm2 q rs (k + 1) (some r) fun j y hy => by
    have := h (j + 1) y (by simpa using hy)
    rw [show k + (j + 1) = k + 1 + j by omega] at this
    rw [this]
    congr 2
    cases j with
    | zero => simp
    | succ j => simp
theorem Zgh {us : List Use} {k : Nat} (h : k < us.length) : ZbN (us.map Zn) ((k : Nat) : Int) = some (Zn us[k]) := by rw [ZcY, List.getElem?_map, List.getElem?_eq_getElem h]; rfl
theorem ZjO (us : List Use) (k : Nat) (hk : k < us.length) (M : Store) : ZbQ [ZaA us, .int (k : Int)] M = .ok (.bl (Zi0 us k)) M := by
 have g0 := Zgh hk
 have hu : Zi0 us k = ZcH (if k = 0 then none else us[k - 1]?) us[k] := by simp [Zi0, hk]
 rw [hu]
 generalize us[k] = u at g0
 obtain ⟨n, t, w, v⟩ := u
 have s0 : ZeC (e2 Ze (Za 0) (Za 1)) (Zch [2, 3, 4, 5]) [some (ZaA us), some (.int (k : Int)), none, none, none, none, none, none] M = .nx [some (ZaA us), some (.int (k : Int)), some (.int n), some (.int t), some (.str w), some (.int v), none, none] M := by
  simp only [ZeC, e2, Za, ZaA, List.getElem?_cons_succ, List.getElem?_cons_zero, R3.bind, Ze, g0, Zn, Zch, bindAll, List.set_cons_succ, List.set_cons_zero]
 refine Rt.pure (G := []) (env := [some (ZaA us), some (.int (k : Int)), none, none, none, none, none, none]) ?_ rfl
 rw [List.append_nil]
 refine (Zm s0).trans ((Zm (Zag (d := .int 0) (M' := M) rfl)).trans ?_)
 cases k with
 | zero =>
  refine (Zm (Zy (M' := M) (by simp))).trans (ZaK ?_)
  rw [if_pos rfl]
  by_cases hw : w = GET
  ·rw [ZdX (M1 := M) (by simp [hw])]; simp [ZcH, hw]
  ·rw [ZhG (M1 := M) (by simp [hw])]; simp [ZcH, hw]
 | succ m =>
  have hm : m < us.length := by omega
  have g1 := Zgh hm
  rw [if_neg (by omega)]
  have e1' : us[m + 1 - 1]? = some us[m] := by simp [hm]
  rw [e1']
  generalize us[m] = a at g1
  obtain ⟨n', t', w', v'⟩ := a
  have ek : (((m + 1 : Nat) : Int) - 1) = (m : Int) := by omega
  have s7 : (e2 Ze (Za 0) (e2 ZbU (Za 1) (eC (.int 1)))) [some (ZaA us), some (.int ((m + 1 : Nat) : Int)), some (.int n), some (.int t), some (.str w), some (.int v), some (.int 0), none] M = .ok (Zn ⟨n', t', w', v'⟩) M := by
   simp only [e2, Za, eC, ZaA, List.getElem?_cons_succ, List.getElem?_cons_zero, R3.bind, ZbU, Ze, ek, g1]
  have p0 : (0 : Int) < ((m + 1 : Nat) : Int) := by omega
  have cgt : (e2 ZgJ (Za 1) (eC (.int 0))) [some (ZaA us), some (.int ((m + 1 : Nat) : Int)), some (.int n), some (.int t), some (.str w), some (.int v), some (.int 0), none] M = .ok (.bl true) M := by
   simp only [e2, Za, eC, List.getElem?_cons_succ, List.getElem?_cons_zero, R3.bind, ZgJ, p0, decide_true]
  by_cases h0 : n < n'
  ·refine Zao ((ZaT cgt).trans ((Zm (Zag s7)).trans (Zao ((ZaT (M' := M) (by simp [Zn, h0])).trans ?_))))
   simp [Zz, ZcH, h0]
  ·by_cases h1 : n = n'
   ·subst h1
    by_cases h2 : t ≤ t'
    ·refine Zao ((ZaT cgt).trans ((Zm (Zag s7)).trans (Zao ((ZaT (M' := M) (by simp [Zn, h2])).trans ?_))))
     simp [Zz, ZcH, h2]
    ·refine (Zm ((ZaT cgt).trans ((Zm (Zag s7)).trans ((Zm (Zy (M' := M) (by simp [Zn, h2]))).trans ((ZaT (M' := M) (by simp [Zn])).trans (Zag (d := .int v') (M' := M) (by simp [Zn]))))))).trans (ZaK ?_)
     by_cases hw : w = GET
     ·rw [ZdX (M1 := M) (by simp [hw])]; simp [ZcH, hw, h2]
     ·rw [ZhG (M1 := M) (by simp [hw])]; simp [ZcH, hw, h2]
   ·have h1' : ¬ n' = n := fun e => h1 e.symm
    refine (Zm ((ZaT cgt).trans ((Zm (Zag s7)).trans ((Zm (Zy (M' := M) (by simp [Zn, h0, h1]))).trans (Zy (M' := M) (by simp [Zn, h1])))))).trans (ZaK ?_)
    by_cases hw : w = GET
    ·rw [ZdX (M1 := M) (by simp [hw])]; simp [ZcH, hw, h0, h1, h1']
    ·rw [ZhG (M1 := M) (by simp [hw])]; simp [ZcH, hw, h0, h1, h1']
theorem ZhQ (roll : ZbC) (R : ZbW roll) (ts : List Stp) (h8 : ∀ s ∈ ts, s.2.length = 8) (pl : ∀ (k : Nat) (x : Stp), ts[k]? = some x → ∃ j r, x.1 = ((j : Nat) : Int) ∧ roll[j]? = some r) (u : Use) (M : Store) :
  ZbZ [Zf roll, Zas ts, Zn u] M = .ok (.bl (Zc9 roll ts u)) M := by
 obtain ⟨n, t, w, v⟩ := u
 refine Rt.pure (G := []) (env := [some (Zf roll), some (Zas ts), some (Zn ⟨n, t, w, v⟩), none, none, none, none, none, none]) ?_ rfl
 rw [List.append_nil]
 refine (Zm (show ZeC (Za 2) (Zch [3, 4, 5, 6]) _ _ = .nx [some (Zf roll), some (Zas ts), some (Zn ⟨n, t, w, v⟩), some (.int n), some (.int t), some (.str w), some (.int v), none, none] M from rfl)).trans ?_
 unfold Zc9
 by_cases h : 0 ≤ t ∧ t + 1 < ts.length
 ·rw [if_pos h]
  obtain ⟨k, rfl⟩ := Int.eq_ofNat_of_zero_le h.1
  have hk : k + 1 < ts.length := by omega
  have hk0 : k < ts.length := by omega
  have gs : ts[k]? = some ts[k] := by simp [hk0]
  have gs' : ts[k + 1]? = some ts[k + 1] := by simp [hk]
  have l8 := h8 _ (List.getElem_mem hk0)
  have l8' := h8 _ (List.getElem_mem hk)
  obtain ⟨j, r, hj, hr⟩ := pl k ts[k] gs
  simp only [Int.ofNat_eq_natCast, Int.toNat_natCast, gs, gs']
  generalize ts[k] = s at gs l8 hj
  generalize ts[k + 1] = s' at gs' l8'
  obtain ⟨p, bs⟩ := s
  obtain ⟨p', bs'⟩ := s'
  replace hj : p = (j : Int) := hj
  subst hj
  replace l8 : bs.length = 8 := l8
  replace l8' : bs'.length = 8 := l8'
  have ro := R.rows _ (List.mem_of_getElem? hr)
  have gk : ZbN (ts.map Zak) ((k : Nat) : Int) = some (Zak ((j : Int), bs)) := by rw [ZcY, List.getElem?_map, gs]; rfl
  have gk' : ZbN (ts.map Zak) ((k : Int) + 1) = some (Zak (p', bs')) := by
   rw [show ((k : Int) + 1) = ((k + 1 : Nat) : Int) by omega, ZcY, List.getElem?_map, gs']; rfl
  have n0 : ¬ ((k : Int) < 0) := by omega
  have n1 : ¬ ((ts.length : Int) ≤ (k : Int) + 1) := by omega
  refine (Zm (Zy (M' := M) (by
   rw [ZdX (M1 := M) (by simp [n0])]
   simp only [e2, Za, eC, Zaj, Zb, Zj, Zas, List.getElem?_cons_succ, List.getElem?_cons_zero, R3.bind, Zaf, ZaR, List.length_map, ZhY, n1, decide_false]))).trans ?_
  refine (Zm (Zag (d := Zg bs) (M' := M) (by simp only [e2, Za, eC, Zas, List.getElem?_cons_succ, List.getElem?_cons_zero, R3.bind, Ze, gk, Zak, ZaZ]; simp))).trans ?_
  refine (Zm (Zag (d := Zq r) (M' := M) (by simp only [e2, Za, eC, Zas, Zf, List.getElem?_cons_succ, List.getElem?_cons_zero, R3.bind, Ze, gk, Zak, ZaZ]; simp [hr]))).trans ?_
  rw [ZeM hr]
  have other : (∀ a b, r ≠ .get a b) → (∀ a b, r ≠ .set a b) → (Zr (sIf (ZdB (e2 Zaq (e2 Ze (Za 8) (eC (.int 0))) (eC (.str [103, 101, 116]))) (e2 Zaq (Za 5) (eC (.str [103, 101, 116])))) (Zz (ZdB (e2 Zaq (e2 Ze (Za 7) (e2 Ze (Za 8) (eC (.int 2)))) (Za 3)) (e2 Zaq (e2 Ze (e2 Ze (e2 Ze (Za 1) (e2 Zaf (Za 4) (eC (.int 1)))) (eC (.int 1))) (e2 Ze (Za 8) (eC (.int 1)))) (Za 6)))) (Zw)) (Zr (sIf (ZdB (e2 Zaq (e2 Ze (Za 8) (eC (.int 0))) (eC (.str [115, 101, 116]))) (e2 Zaq (Za 5) (eC (.str [115, 101, 116])))) (Zz (ZdB (e2 Zaq (e2 Ze (Za 7) (e2 Ze (Za 8) (eC (.int 1)))) (Za 3)) (e2 Zaq (e2 Ze (Za 7) (e2 Ze (Za 8) (eC (.int 2)))) (Za 6)))) (Zw)) (Zz (eC (.bl false)))))
    [some (Zf roll), some (Zas ts), some (Zn ⟨n, (k : Int), w, v⟩), some (.int n), some (.int (k : Int)), some (.str w), some (.int v), some (Zg bs), some (Zq r)] M = .rt (.bl (Zg3 (some r) bs bs' ⟨n, (k : Int), w, v⟩)) M := fun hg hs => by
   have : Zg3 (some r) bs bs' ⟨n, (k : Int), w, v⟩ = false := by cases r <;> first | rfl | exact absurd rfl (hg _ _) | exact absurd rfl (hs _ _)
   rw [this]
   refine (Zm (Zy (M' := M) ?_)).trans ((Zm (Zy (M' := M) ?_)).trans rfl)
   ·cases r <;> first | exact absurd rfl (hg _ _) | simp [Zq]
   ·cases r <;> first | exact absurd rfl (hs _ _) | simp [Zq]
  cases r with
  | get a b =>
   obtain ⟨y1, hy1, gy1⟩ := ZbL l8 ro.2
   obtain ⟨y2, hy2, gy2⟩ := ZbL l8' ro.1
   simp only [Zg3, hy1, hy2]
   by_cases hw : w = GET
   ·refine Zao ((ZaT (M' := M) (by simp [Zq, hw])).trans (ZaK ?_))
    have z1 : (e2 Zaq (e2 Ze (Za 7) (e2 Ze (Za 8) (eC (.int 2)))) (Za 3)) [some (Zf roll), some (Zas ts), some (Zn ⟨n, (k : Int), w, v⟩), some (.int n), some (.int (k : Int)), some (.str w), some (.int v), some (Zg bs), some (Zq (.get a b))] M = .ok (.bl (decide (y1 = n))) M := by
     simp only [e2, Za, eC, Zq, Zg, List.getElem?_cons_succ, List.getElem?_cons_zero, R3.bind, Ze, ZdW, gy1, Zaq, eqD]
    have z2 : (e2 Zaq (e2 Ze (e2 Ze (e2 Ze (Za 1) (e2 Zaf (Za 4) (eC (.int 1)))) (eC (.int 1))) (e2 Ze (Za 8) (eC (.int 1)))) (Za 6)) [some (Zf roll), some (Zas ts), some (Zn ⟨n, (k : Int), w, v⟩), some (.int n), some (.int (k : Int)), some (.str w), some (.int v), some (Zg bs), some (Zq (.get a b))] M = .ok (.bl (decide (y2 = v))) M := by
     simp only [e2, Za, eC, Zq, Zas, List.getElem?_cons_succ, List.getElem?_cons_zero, R3.bind, Zaf, Ze, gk', Zak, ZaZ, Zg, ZdW, gy2, Zaq, eqD]
    rw [decide_eq_true hw, Bool.true_and]
    by_cases c1 : n = y1
    ·rw [ZjF (M1 := M) (by rw [z1]; simp [c1]), z2, decide_eq_true c1, Bool.true_and]
     simp only [eq_comm]
    ·rw [ZjK (M1 := M) (by rw [z1]; simp [Ne.symm c1]), decide_eq_false c1, Bool.false_and]
   ·rw [decide_eq_false hw, Bool.false_and, Bool.false_and]
    refine (Zm (Zy (M' := M) (by simp [Zq, hw]))).trans ((Zm (Zy (M' := M) (by simp [Zq]))).trans rfl)
  | set a b =>
   obtain ⟨y1, hy1, gy1⟩ := ZbL l8 ro.1
   obtain ⟨y2, hy2, gy2⟩ := ZbL l8 ro.2
   simp only [Zg3, hy1, hy2]
   by_cases hw : w = SET
   ·refine (Zm (Zy (M' := M) (by simp [Zq]))).trans (Zao ((ZaT (M' := M) (by simp [Zq, hw])).trans (ZaK ?_)))
    have z1 : (e2 Zaq (e2 Ze (Za 7) (e2 Ze (Za 8) (eC (.int 1)))) (Za 3)) [some (Zf roll), some (Zas ts), some (Zn ⟨n, (k : Int), w, v⟩), some (.int n), some (.int (k : Int)), some (.str w), some (.int v), some (Zg bs), some (Zq (.set a b))] M = .ok (.bl (decide (y1 = n))) M := by
     simp only [e2, Za, eC, Zq, Zg, List.getElem?_cons_succ, List.getElem?_cons_zero, R3.bind, Ze, ZdW, gy1, Zaq, eqD]
    have z2 : (e2 Zaq (e2 Ze (Za 7) (e2 Ze (Za 8) (eC (.int 2)))) (Za 6)) [some (Zf roll), some (Zas ts), some (Zn ⟨n, (k : Int), w, v⟩), some (.int n), some (.int (k : Int)), some (.str w), some (.int v), some (Zg bs), some (Zq (.set a b))] M = .ok (.bl (decide (y2 = v))) M := by
     simp only [e2, Za, eC, Zq, Zg, List.getElem?_cons_succ, List.getElem?_cons_zero, R3.bind, Ze, ZdW, gy2, Zaq, eqD]
    rw [decide_eq_true hw, Bool.true_and]
    by_cases c1 : n = y1
    ·rw [ZjF (M1 := M) (by rw [z1]; simp [c1]), z2, decide_eq_true c1, Bool.true_and]
     simp only [eq_comm]
    ·rw [ZjK (M1 := M) (by rw [z1]; simp [Ne.symm c1]), decide_eq_false c1, Bool.false_and]
   ·rw [decide_eq_false hw, Bool.false_and, Bool.false_and]
    refine (Zm (Zy (M' := M) (by simp [Zq]))).trans ((Zm (Zy (M' := M) (by simp [Zq, hw]))).trans rfl)
  | _ => exact other (fun a b h => by cases h) (fun a b h => by cases h)
 ·rw [if_neg h]
  refine Zao ((ZaT (M' := M) ?_).trans rfl)
  by_cases h0 : t < 0
  ·rw [ZhG (M1 := M) (by simp [h0])]
  ·have h1 : (ts.length : Int) ≤ t + 1 := by omega
   rw [ZdX (M1 := M) (by simp [h0])]
   simp [Zas, h1]
def ZgD (roll : ZbC) (ts : List Stp) (us : List Use) (k : Nat) : Bool := match us[k]? with
 | some u => Zc9 roll ts u
 | none => false
theorem Zlj (us : List Use) : (List.range us.length).find? (fun k => !Zi0 us k) = Zdz none us 0 := by
 rw [ZhW]
 refine Zm2 _ us 0 none fun j r hj => ?_
 simp only [Nat.zero_add, Zi0, hj]
theorem Zje (roll : ZbC) (ts : List Stp) (us : List Use) : (List.range us.length).find? (fun k => !ZgD roll ts us k) = Zd5 (Zc9 roll ts) us 0 := by
 rw [ZhW]
 refine Znr _ _ us 0 fun j r hj => ?_
 simp only [Nat.zero_add, ZgD, hj]
theorem Zl2 {env : ZaO} {c : E3} {M : Store} {us : List Use} {q : Nat → Bool} {o : Option Nat} (hlen : env.length = 6) (h3 : env[3]? = some (some (ZaA us))) (hz : us.length ≤ 5000)
  (hc : ∀ k, k < us.length → ∀ M, c (env ++ [some (.int (k : Int))]) M = .ok (.bl (q k)) M) (hq : (List.range us.length).find? q = o) :
  ∃ L : List D, eLC (ZbJ (Zaj ZaR (Zb (Za 3) (Zj)))) 1 (Zcg 6) [c] (Za 6) env M = .ok (.ref M.length) (M ++ [.lst L]) ∧
   (∀ env', env'[5]? = some (some (.ref M.length)) → (e2 Zb1 (Za 5) (Zca (Zj))) env' (M ++ [.lst L]) = .ok (.bl o.isSome) (M ++ [.lst L, .lst []])) ∧
   (∀ k, o = some k → ∀ env', env'[5]? = some (some (.ref M.length)) → (e2 Ze (Za 5) (eC (.int 0))) env' (M ++ [.lst L, .lst []]) = .ok (.int (k : Int)) (M ++ [.lst L, .lst []])) := by
 have lc := ZlE (n := us.length) (i := ZbJ (Zaj ZaR (Zb (Za 3) (Zj)))) (iv := 6) (c := c) (env := env) (M := M) (q := q)
  (by
   have b : ((us.length : Int)) ≤ 1000000 ∧ -1000000 ≤ ((us.length : Int)) := by omega
   simp [h3, ZaA, b]) hlen.symm (by omega) hc
 have g1 : (M ++ [MO.lst (((List.range us.length).filter q).map fun k => D.int ((k : Nat) : Int)), .lst []])[M.length]? = some (.lst (((List.range us.length).filter q).map fun k => D.int ((k : Nat) : Int))) := Za7 _ _ _
 have g2 : (M ++ [MO.lst (((List.range us.length).filter q).map fun k => D.int ((k : Nat) : Int)), .lst []])[M.length + 1]? = some (.lst []) := Za4 _ _ 1
 have nn := Zm1 g1 g2
 have fh := Zfy (q := q) (n := us.length)
 rw [hq] at nn fh
 refine ⟨_, lc, fun env' h5 => ?_, fun k hk env' h5 => ?_⟩
 ·refine Za8 (a := .ref M.length) (b := .ref (M.length + 1)) (M1 := M ++ [.lst (((List.range us.length).filter q).map fun k => D.int ((k : Nat) : Int))]) (by simp [h5]) ?_ nn
  simp
 ·rcases fh with ⟨_, f⟩ | ⟨k', xs, e, f⟩
  ·rw [hk] at f; cases f
  ·rw [hk] at f
   cases f
   refine Za8 (a := .ref M.length) (b := .int 0) (M1 := M ++ [.lst (((List.range us.length).filter q).map fun k => D.int ((k : Nat) : Int)), .lst []]) (M2 := M ++ [.lst (((List.range us.length).filter q).map fun k => D.int ((k : Nat) : Int)), .lst []]) (by simp [h5]) rfl ?_
   rw [e] at g1 ⊢
   simp only [Ze, g1, ZdW]
   simp
theorem ZpW (roll : ZbC) (R : ZbW roll) (bs : List Int) (ts : List Stp) (h8 : ∀ s ∈ ts, s.2.length = 8) (us : List Use) (M : Store) (hz : ts.length ≤ 5000) (hu : us.length ≤ 5000) :
  Zer [Zf roll, Zg bs, Zas ts, ZaA us] M = .ok (Zb3 (Zfs roll bs ts us)) M := by
 have fin : ∀ {d : D} (G : Store), below M.length d = true → Zge [some (Zf roll), some (Zg bs), some (Zas ts), some (ZaA us), none, none] M = .rt d (M ++ G) → Zer [Zf roll, Zg bs, Zas ts, ZaA us] M = .ok d M := fun {d} G hb h => Rt.pure h hb
 have f1 := Zjk roll R bs ts h8 M hz
 unfold Zfs
 cases hf : Zcl roll bs ts with
 | some f =>
  rw [hf] at f1
  refine fin [] (Zgw _ _) ?_
  rw [List.append_nil]
  exact (Zm (Zag (ZcI rfl rfl rfl f1))).trans (Zao ((ZaT (M' := M) (by cases f; simp [Zb3])).trans rfl))
 | none =>
  rw [hf] at f1
  obtain ⟨⟨s0, h0, hs0⟩, hS⟩ := ZgE hf
  have pl := ZfI R h8 h0 hs0 hS
  obtain ⟨L1, lc1, nn1, ix1⟩ := Zl2 (env := [some (Zf roll), some (Zg bs), some (Zas ts), some (ZaA us), some (Zb3 none), none]) (c := e1 Zb5 (Zae ZbQ (Zb (Za 3) (Zb (Za 6) (Zj))))) (M := M) (us := us) (q := fun k => !Zi0 us k) rfl rfl hu
   (fun k hk M => ZfC (ZcB rfl rfl (ZjO us k hk M)) rfl) (Zlj us)
  show _ = R3.ok (Zb3 (ZhX roll ts us)) M
  unfold ZhX
  have pre1 : ∀ {k' : S3} {o : O3}, k' [some (Zf roll), some (Zg bs), some (Zas ts), some (ZaA us), some (Zb3 none), some (.ref M.length)] (M ++ [.lst L1]) = o → Zr (Zac 4 (Zae ZbP (Zb (Za 0) (Zb (Za 1) (Zb (Za 2) (Zj)))))) (Zr (sIf (e2 Zdv (Za 4) (eC .non)) (Zz (Za 4)) (Zw)) (Zr (Zac 5 (eLC (ZbJ (Zaj ZaR (Zb (Za 3) (Zj)))) 1 (Zcg 6) [e1 Zb5 (Zae ZbQ (Zb (Za 3) (Zb (Za 6) (Zj))))] (Za 6))) k')) [some (Zf roll), some (Zg bs), some (Zas ts), some (ZaA us), none, none] M = o := fun {k' o} h =>
   (Zm (Zag (ZcI rfl rfl rfl f1))).trans ((Zm (Zy (M' := M) (by simp [Zb3]))).trans ((Zm (Zag lc1)).trans h))
  have n1 := nn1 [some (Zf roll), some (Zg bs), some (Zas ts), some (ZaA us), some (Zb3 none), some (.ref M.length)] rfl
  cases h1 : Zdz none us 0 with
  | some k =>
   rw [h1] at n1
   have i1 := ix1 k h1 [some (Zf roll), some (Zg bs), some (Zas ts), some (ZaA us), some (Zb3 none), some (.ref M.length)] rfl
   refine fin [.lst L1, .lst []] rfl (pre1 (Zao ((ZaT n1).trans (ZaK ?_))))
   generalize (e2 Ze (Za 5) (eC (.int 0))) = E at i1
   simp only [ZaH, Zb, Zj, eC, R3.bind, i1]
   simp [Zb3]
  | none =>
   rw [h1] at n1
   obtain ⟨L2, lc2, nn2, ix2⟩ := Zl2 (env := [some (Zf roll), some (Zg bs), some (Zas ts), some (ZaA us), some (Zb3 none), some (.ref M.length)]) (c := e1 Zb5 (Zae ZbZ (Zb (Za 0) (Zb (Za 2) (Zb (e2 Ze (Za 3) (Za 6)) (Zj)))))) (M := M ++ [.lst L1, .lst []]) (us := us) (q := fun k => !ZgD roll ts us k) rfl rfl hu
    (fun k hk M => by
     have hm : ZgD roll ts us k = Zc9 roll ts us[k] := by simp [ZgD, hk]
     rw [hm]
     refine ZfC (ZcI (M1 := M) (M2 := M) (M3 := M) rfl rfl ?_ (ZhQ roll R ts h8 pl us[k] M)) rfl
     simp only [e2, Za, ZaA, List.cons_append, List.nil_append, List.getElem?_cons_succ, List.getElem?_cons_zero, R3.bind, Ze, Zgh hk]) (Zje roll ts us)
   have n2 := nn2 [some (Zf roll), some (Zg bs), some (Zas ts), some (ZaA us), some (Zb3 none), some (.ref (M ++ [MO.lst L1, .lst []]).length)] rfl
   have a2 : ∀ x : Store, M ++ [MO.lst L1, .lst []] ++ x = M ++ (MO.lst L1 :: .lst [] :: x) := fun x => by simp
   rw [a2] at lc2
   rw [a2, a2] at n2
   cases h2 : Zd5 (Zc9 roll ts) us 0 with
   | some k =>
    rw [h2] at n2
    have i2 := ix2 k h2 [some (Zf roll), some (Zg bs), some (Zas ts), some (ZaA us), some (Zb3 none), some (.ref (M ++ [MO.lst L1, .lst []]).length)] rfl
    rw [a2] at i2
    refine fin (.lst L1 :: .lst [] :: [.lst L2, .lst []]) rfl (pre1 ((Zm (Zy n1)).trans ((Zm (Zag lc2)).trans (Zao ((ZaT n2).trans (ZaK ?_))))))
    generalize (e2 Ze (Za 5) (eC (.int 0))) = E at i2
    simp only [ZaH, Zb, Zj, eC, R3.bind, i2]
    simp [Zb3]
   | none =>
    rw [h2] at n2
    have lc : (eLC (Zhq (eSl (Za 2) (ZaD) (ZaE (e1 ZdE (eC (.int 1)))))) 1 (Zcg 6) [e2 Zlc (e2 Ze (e2 Ze (Za 0) (e2 Ze (Za 6) (eC (.int 0)))) (eC (.int 0))) (ZaH (Zb (eC (.str [103, 101, 116])) (Zb (eC (.str [115, 101, 116])) (Zj))))] (Za 6)) [some (Zf roll), some (Zg bs), some (Zas ts), some (ZaA us), some (Zb3 none), some (.ref (M ++ [MO.lst L1, .lst []]).length)] (M ++ (MO.lst L1 :: .lst [] :: [.lst L2, .lst []])) = .ok (.ref (M ++ (MO.lst L1 :: .lst [] :: [.lst L2, .lst []])).length) (M ++ (MO.lst L1 :: .lst [] :: [.lst L2, .lst []]) ++ [.lst ((Zd6 roll ts).map Zak)]) := by
     refine ZgW (α := Stp) (enc := Zak) (h := Zak) (p := fun s => match Zgv roll s.1 with | some r => ZhB r | none => false) (own := 1) (i := 6) (lock := none) (as := ts.dropLast) ?_ (fun _ h => by cases h) (fun x hx M' => ?_) (fun x hx _ M' => by simp) (by simp; omega)
     ·have := ZhS (ts.map Zak)
      simp only [Zhq, eSl, Za, ZaD, ZaE, e1, eC, Zas, List.getElem?_cons_succ, List.getElem?_cons_zero, R3.bind, ZdE, Zfj, this]
      rw [List.map_dropLast]
     ·obtain ⟨k, hk⟩ := List.getElem?_of_mem hx
      have hk' : ts[k]? = some x := by
       rw [List.getElem?_dropLast] at hk
       split at hk
       ·exact hk
       ·cases hk
      obtain ⟨j, r, hj, hr⟩ := pl k x hk'
      have gi : (e2 Ze (Za 0) (e2 Ze (Za 6) (eC (.int 0)))) [some (Zf roll), some (Zg bs), some (Zas ts), some (ZaA us), some (Zb3 none), some (.ref (M ++ [MO.lst L1, .lst []]).length), some (Zak x)] M' = .ok (Zq r) M' := by
       simp [Zak, ZaZ, hj, Zf, hr]
      simp only [hj, ZeM hr]
      refine Za8 (a := .str (Zea r)) (b := .tup [.str [103, 101, 116], .str [115, 101, 116]]) (M1 := M') (M2 := M') (Za8 gi rfl (ZeT r M')) (by simp) ?_
      cases r <;> simp [Zea, ZhB, ZaV, deq]
    have e7 : (e2 Zb1 (Zaj ZaR (Zb (eLC (Zhq (eSl (Za 2) (ZaD) (ZaE (e1 ZdE (eC (.int 1)))))) 1 (Zcg 6) [e2 Zlc (e2 Ze (e2 Ze (Za 0) (e2 Ze (Za 6) (eC (.int 0)))) (eC (.int 0))) (ZaH (Zb (eC (.str [103, 101, 116])) (Zb (eC (.str [115, 101, 116])) (Zj))))] (Za 6)) (Zj))) (Zaj ZaR (Zb (Za 3) (Zj)))) [some (Zf roll), some (Zg bs), some (Zas ts), some (ZaA us), some (Zb3 none), some (.ref (M ++ [MO.lst L1, .lst []]).length)] (M ++ (MO.lst L1 :: .lst [] :: [.lst L2, .lst []])) = .ok (.bl (!decide (us.length = (Zd6 roll ts).length))) (M ++ (MO.lst L1 :: .lst [] :: [.lst L2, .lst []]) ++ [.lst ((Zd6 roll ts).map Zak)]) := by
     refine Za8 (a := .int ((Zd6 roll ts).length : Int)) (b := .int (us.length : Int)) (M1 := M ++ (MO.lst L1 :: .lst [] :: [.lst L2, .lst []]) ++ [.lst ((Zd6 roll ts).map Zak)]) (M2 := M ++ (MO.lst L1 :: .lst [] :: [.lst L2, .lst []]) ++ [.lst ((Zd6 roll ts).map Zak)]) (Zg6 lc ?_) (by simp [ZaA]) ?_
     ·simp only [ZaR, Za7, List.length_map]
     ·have : (((Zd6 roll ts).length : Int) = (us.length : Int)) = (us.length = (Zd6 roll ts).length) := by
       rw [eq_iff_iff]; omega
      simp only [Zb1, eqD, this]
    have a3 : M ++ (MO.lst L1 :: .lst [] :: [.lst L2, .lst []]) ++ [.lst ((Zd6 roll ts).map Zak)] = M ++ (MO.lst L1 :: .lst [] :: .lst L2 :: .lst [] :: [.lst ((Zd6 roll ts).map Zak)]) := by simp
    rw [a3] at e7
    by_cases hc : us.length = (Zd6 roll ts).length
    ·show _ = R3.ok (Zb3 (if us.length ≠ (Zd6 roll ts).length then some (COUNT, us.length) else none)) M
     rw [if_neg (by simpa using hc)]
     rw [decide_eq_true hc] at e7
     exact fin _ rfl (pre1 ((Zm (Zy n1)).trans ((Zm (Zag lc2)).trans ((Zm (Zy n2)).trans ((Zm (Zy e7)).trans rfl)))))
    ·show _ = R3.ok (Zb3 (if us.length ≠ (Zd6 roll ts).length then some (COUNT, us.length) else none)) M
     rw [if_pos hc]
     rw [decide_eq_false hc] at e7
     exact fin (MO.lst L1 :: .lst [] :: .lst L2 :: .lst [] :: [.lst ((Zd6 roll ts).map Zak)]) rfl (pre1 ((Zm (Zy n1)).trans ((Zm (Zag lc2)).trans ((Zm (Zy n2)).trans (Zao ((ZaT e7).trans (by simp [Zz, ZaA, Zb3])))))))
theorem Zon (o : Option (List Nat × Nat)) (M : Store) : Zdn [Zb3 o, Zb3 o] M = .ok (.bl true) M := by
 cases o with
 | none => simp [Zdn, ZeE, Zr, Zac, Zz, sIf, Zw, Zal, mkF, Za0, below, belowL, ZaL, Zb3]
 | some p => obtain ⟨w, k⟩ := p; simp [Zdn, ZeE, Zr, Zac, Zz, sIf, Zw, Zal, mkF, Za0, below, belowL, ZaL, Zb3, Zay, Zcj, deq, ZcK, Zgp]
theorem Zha {us : List Use} (h : us.length < 64) : Zld (us.map Zn) := by
 refine ⟨by simpa using h, .inl (by simp [Zn, ZdT]), fun a ha b hb => ?_⟩
 obtain ⟨p, _, rfl⟩ := List.mem_map.mp ha
 obtain ⟨q, _, rfl⟩ := List.mem_map.mp hb
 simp only [ltD, Zn, ltT]
 split
 ·split
  ·split
   ·split
    ·rfl
    ·rfl
   ·rfl
  ·rfl
 ·rfl
theorem Zi5 (us : List Use) : ∃ us' : List Use, us'.length = us.length ∧ ZjW (us.map Zn) = us'.map Zn := by
 unfold ZjW
 split
 ·rename_i h
  have hp := h.choose_spec.1
  obtain ⟨us', e, _⟩ := Zif (enc := Zn) (P := fun _ _ => True) h.choose fun j d hd => by
   have hm : d ∈ us.map Zn := hp.mem_iff.mp (List.mem_of_getElem? hd)
   obtain ⟨u, _, rfl⟩ := List.mem_map.mp hm
   exact ⟨u, rfl, trivial⟩
  refine ⟨us', ?_, e⟩
  have := hp.length_eq
  rw [e] at this
  simpa using this
 ·exact ⟨us, rfl, rfl⟩
theorem Zej {env : ZaO} {M : Store} {i j n a b : Nat} {xs : List D} {d : D} {E : E3} {lo : EO3} (h1 : env[i]? = some (some (.ref n))) (hM : M[n]? = some (.lst xs)) (ha : env[j]? = some (some (.int (a : Int)))) (hE : ∀ G, E env (M ++ G) = .ok d (M ++ G)) (hlo : ∀ M', lo env M' = .ok (some (b : Int)) M') (hz : xs.length ≤ 10000) :
  e2 Zaf (e2 Zaf (eSl (Za i) ZaD (ZaE (Za j))) (Zca (Zb E Zj))) (eSl (Za i) lo ZaD) env M = .ok (.ref (M.length + 4)) (M ++ [.lst (xs.take a), .lst [d], .lst (xs.take a ++ [d]), .lst (xs.drop b), .lst (xs.take a ++ [d] ++ xs.drop b)]) := by
 have s1 : eSl (Za i) ZaD (ZaE (Za j)) env M = .ok (.ref M.length) (M ++ [.lst (xs.take a)]) := by
  simp only [eSl, Za, ZaD, ZaE, h1, ha, R3.bind, Zfj, hM, ZgL, alloc]
 have s2 : Zca (Zb E Zj) env (M ++ [.lst (xs.take a)]) = .ok (.ref (M.length + 1)) (M ++ [.lst (xs.take a), .lst [d]]) := by
  simp only [Zca, Zb, Zj, R3.bind, hE]
  simp
 have a1 : Zaf (.ref M.length) (.ref (M.length + 1)) (M ++ [.lst (xs.take a), .lst [d]]) = .ok (.ref (M.length + 2)) (M ++ [.lst (xs.take a), .lst [d], .lst (xs.take a ++ [d])]) := by
  have g1 : (M ++ [MO.lst (xs.take a), .lst [d]])[M.length]? = some (.lst (xs.take a)) := Za7 _ _ _
  have g2 : (M ++ [MO.lst (xs.take a), .lst [d]])[M.length + 1]? = some (.lst [d]) := Za4 _ _ 1
  simp only [Zaf, g1, g2]
  rw [if_pos (by simp; omega)]
  simp
 have s3 : eSl (Za i) lo ZaD env (M ++ [.lst (xs.take a), .lst [d], .lst (xs.take a ++ [d])]) = .ok (.ref (M.length + 3)) (M ++ [.lst (xs.take a), .lst [d], .lst (xs.take a ++ [d]), .lst (xs.drop b)]) := by
  simp only [eSl, Za, ZaD, h1, hlo, R3.bind, Zfj, Zbq hM, Zfk, alloc]
  simp
 refine Za8 (Za8 s1 s2 a1) s3 ?_
 have g1 : (M ++ [MO.lst (xs.take a), .lst [d], .lst (xs.take a ++ [d]), .lst (xs.drop b)])[M.length + 2]? = some (.lst (xs.take a ++ [d])) := Za4 _ _ 2
 have g2 : (M ++ [MO.lst (xs.take a), .lst [d], .lst (xs.take a ++ [d]), .lst (xs.drop b)])[M.length + 3]? = some (.lst (xs.drop b)) := Za4 _ _ 3
 simp only [Zaf, g1, g2]
 rw [if_pos (by simp; omega)]
 simp
theorem ZiF {env : ZaO} {M : Store} {i j n a b : Nat} {xs : List D} {lo : EO3} (h1 : env[i]? = some (some (.ref n))) (hM : M[n]? = some (.lst xs)) (ha : env[j]? = some (some (.int (a : Int)))) (hlo : ∀ M', lo env M' = .ok (some (b : Int)) M') (hz : xs.length ≤ 10000) :
  e2 Zaf (eSl (Za i) ZaD (ZaE (Za j))) (eSl (Za i) lo ZaD) env M = .ok (.ref (M.length + 2)) (M ++ [.lst (xs.take a), .lst (xs.drop b), .lst (xs.take a ++ xs.drop b)]) := by
 have s1 : eSl (Za i) ZaD (ZaE (Za j)) env M = .ok (.ref M.length) (M ++ [.lst (xs.take a)]) := by
  simp only [eSl, Za, ZaD, ZaE, h1, ha, R3.bind, Zfj, hM, ZgL, alloc]
 have s3 : eSl (Za i) lo ZaD env (M ++ [.lst (xs.take a)]) = .ok (.ref (M.length + 1)) (M ++ [.lst (xs.take a), .lst (xs.drop b)]) := by
  simp only [eSl, Za, ZaD, h1, hlo, R3.bind, Zfj, Zbq hM, Zfk, alloc]
  simp
 refine Za8 s1 s3 ?_
 have g1 : (M ++ [MO.lst (xs.take a), .lst (xs.drop b)])[M.length]? = some (.lst (xs.take a)) := Za7 _ _ _
 have g2 : (M ++ [MO.lst (xs.take a), .lst (xs.drop b)])[M.length + 1]? = some (.lst (xs.drop b)) := Za4 _ _ 1
 simp only [Zaf, g1, g2]
 rw [if_pos (by simp; omega)]
 simp
theorem ZjD {ps n : Nat} {body : S3} {ds : List D} {env : ZaO} {M G : Store} {m : Nat} (h : body env M = .rt (.ref m) (M ++ G)) (hm : M.length ≤ m) (hl : ds.length = ps := by rfl) (he : ds.map some ++ List.replicate (n - ps) none = env := by rfl) : mkF ps n body ds M = .ok (.ref m) (M ++ G) := by
 rw [ZhL h hl he]
 have : below M.length (.ref m) = false := by simp [below]; omega
 simp [Za0, this]
theorem ZgK (roll : ZbC) (ts : List Stp) (h8 : ∀ s ∈ ts, s.2.length = 8) (h0 : 0 < ts.length) (hz : ts.length ≤ 1000) (n : Nat) (kind : Nat) (hk : kind < 6) (c : Int) (M : Store) (hM : M[n]? = some (.lst (ts.map Zak))) :
  ∃ (ts' : List Stp) (m : Nat) (G : Store), (∀ s ∈ ts', s.2.length = 8) ∧ ts'.length ≤ ts.length + 1 ∧ Za6 [Zf roll, .ref n, .int (kind : Int), .int c] M = .ok (.ref m) (M ++ G) ∧ (M ++ G)[m]? = some (.lst (ts'.map Zak)) := by
 obtain ⟨a, ha, la⟩ := Zdo c ts.length h0
 obtain ⟨q, hq, lq⟩ := Zdo (c / 64) 8 (by omega)
 have hq' : c / 64 % 8 = (q : Int) := hq
 have ga : ZbN (ts.map Zak) ((a : Nat) : Int) = some (Zak ts[a]) := ZfK la
 have l8 := h8 _ (List.getElem_mem la)
 have hmem := List.getElem_mem la
 generalize hs : ts[a] = s at ga l8 hmem
 obtain ⟨p, bs⟩ := s
 replace l8 : bs.length = 8 := l8
 have s4 : (e2 ZaJ (Za 3) (Zaj ZaR (Zb (Za 1) (Zj)))) [some (Zf roll), some (.ref n), some (.int (kind : Int)), some (.int c), none, none, none, none, none] M = .ok (.int (a : Int)) M := by
  simp [hM, h0, ha]
 have s5 : ZeC (e2 Ze (Za 1) (Za 4)) (Zch [5, 6]) [some (Zf roll), some (.ref n), some (.int (kind : Int)), some (.int c), some (.int (a : Int)), none, none, none, none] M = .nx [some (Zf roll), some (.ref n), some (.int (kind : Int)), some (.int c), some (.int (a : Int)), some (.int p), some (Zg bs), none, none] M := by
  simp [ZeC, hM, -ZaM, ga, Zak, ZaZ]
 have s7 : (e2 ZaJ (e2 ZaS (Za 3) (eC (.int 64))) (eC (.int 8))) [some (Zf roll), some (.ref n), some (.int (kind : Int)), some (.int c), some (.int (a : Int)), some (.int p), some (Zg bs), none, none] M = .ok (.int (q : Int)) M := by
  simp [hq']
 have spl : ∀ (x : Stp) (b : Nat), x.2.length = 8 → a ≤ b → b ≤ a + 1 → ∀ (m : Nat) (G : Store), (M ++ G)[m]? = some (.lst ((ts.map Zak).take a ++ [Zak x] ++ (ts.map Zak).drop b)) → ∃ ts' : List Stp, (∀ s ∈ ts', s.2.length = 8) ∧ ts'.length ≤ ts.length + 1 ∧ (M ++ G)[m]? = some (.lst (ts'.map Zak)) := fun x b hx hb1 hb2 m G h => by
  refine ⟨ts.take a ++ [x] ++ ts.drop b, fun s hs => ?_, by simp; omega, by rw [h]; simp⟩
  rcases List.mem_append.mp hs with hs | hs
  ·rcases List.mem_append.mp hs with hs | hs
   ·exact h8 s (List.mem_of_mem_take hs)
   ·rw [List.mem_singleton.mp hs]; exact hx
  ·exact h8 s (List.mem_of_mem_drop hs)
 have l1 : ∀ (env : ZaO), env[4]? = some (some (.int (a : Int))) → ∀ M', ZaE (e2 Zaf (Za 4) (eC (.int 1))) env M' = .ok (some ((a + 1 : Nat) : Int)) M' := fun env h M' => by simp [h]
 have fin : ∀ {m : Nat} {G : Store}, ZcJ [some (Zf roll), some (.ref n), some (.int (kind : Int)), some (.int c), none, none, none, none, none] M = .rt (.ref m) (M ++ G) → M.length ≤ m → (∃ ts' : List Stp, (∀ s ∈ ts', s.2.length = 8) ∧ ts'.length ≤ ts.length + 1 ∧ (M ++ G)[m]? = some (.lst (ts'.map Zak))) →
   ∃ (ts' : List Stp) (m : Nat) (G : Store), (∀ s ∈ ts', s.2.length = 8) ∧ ts'.length ≤ ts.length + 1 ∧ Za6 [Zf roll, .ref n, .int (kind : Int), .int c] M = .ok (.ref m) (M ++ G) ∧ (M ++ G)[m]? = some (.lst (ts'.map Zak)) := fun {m G} h hm ⟨ts', t8, lt, hg⟩ => ⟨ts', m, G, t8, lt, ZjD h hm, hg⟩
 have pre : ∀ {k' : S3} {o : O3}, k' [some (Zf roll), some (.ref n), some (.int (kind : Int)), some (.int c), some (.int (a : Int)), some (.int p), some (Zg bs), some (.int (q : Int)), none] M = o → Zr (Zac 4 (e2 ZaJ (Za 3) (Zaj ZaR (Zb (Za 1) (Zj))))) (Zr (ZeC (e2 Ze (Za 1) (Za 4)) (Zch [5, 6])) (Zr (Zac 7 (e2 ZaJ (e2 ZaS (Za 3) (eC (.int 64))) (eC (.int 8)))) k')) [some (Zf roll), some (.ref n), some (.int (kind : Int)), some (.int c), none, none, none, none, none] M = o := fun {k' o} h =>
  (Zm (Zag s4)).trans ((Zm s5).trans ((Zm (Zag s7)).trans h))
 have kc : ∀ (env : ZaO) (v : Nat), env[2]? = some (some (.int (kind : Int))) → (e2 Zaq (Za 2) (eC (.int (v : Int)))) env M = .ok (.bl (decide (kind = v))) M := fun env v h => by
  have : ((kind : Int) = (v : Int)) = (kind = v) := by rw [eq_iff_iff]; omega
  simp only [e2, Za, eC, h, R3.bind, Zaq, eqD, this]
 have hlen : (ts.map Zak).length ≤ 10000 := by simp; omega
 have kk : kind = 0 ∨ kind = 1 ∨ kind = 2 ∨ kind = 3 ∨ kind = 4 ∨ kind = 5 := by omega
 rcases kk with rfl | rfl | rfl | rfl | rfl | rfl
 ·obtain ⟨x, hx, gx⟩ := ZbL l8 lq
  have c1 : cutD (bs.map D.int) none (some (q : Int)) = (bs.take q).map D.int := by rw [ZgL, List.map_take]
  have c2 : cutD (bs.map D.int) (some ((q : Int) + 1)) none = (bs.drop (q + 1)).map D.int := by
   rw [show ((q : Int) + 1) = ((q + 1 : Nat) : Int) by omega, Zfk, List.map_drop]
  have z1 : min q 8 + (1 : Nat) ≤ 1000000 := by omega
  have z2 : min q 8 + 1 + (7 - q) ≤ 1000000 := by omega
  have c3 : ∀ z : Int, List.take q (List.map D.int bs) ++ D.int z :: List.drop (q + 1) (List.map D.int bs) = List.map D.int (bs.set q z) := fun z => by
   rw [List.set_eq_take_append_cons_drop, if_pos (by omega)]; simp
  have m2 : ZaL 2 (c / 512 % 2) = true := Zf2 (by omega)
  have s8 : (e2 ZbU (e2 Zaf (e2 Ze (Za 6) (Za 7)) (eC (.int 1))) (e2 Zdc (eC (.int 2)) (e2 ZaJ (e2 ZaS (Za 3) (eC (.int 512))) (eC (.int 2))))) [some (Zf roll), some (.ref n), some (.int ((0 : Nat) : Int)), some (.int c), some (.int (a : Int)), some (.int p), some (Zg bs), some (.int (q : Int)), none] M = .ok (.int (x + 1 - 2 * (c / 512 % 2))) M := by
   simp [Zg, -ZaM, gx, m2]
  have sp := Zej (env := [some (Zf roll), some (.ref n), some (.int ((0 : Nat) : Int)), some (.int c), some (.int (a : Int)), some (.int p), some (Zg bs), some (.int (q : Int)), some (.int (x + 1 - 2 * (c / 512 % 2)))]) (i := 1) (j := 4) (a := a) (b := a + 1) (d := Zak (p, bs.set q (x + 1 - 2 * (c / 512 % 2)))) (E := ZaH (Zb (Za 5) (Zb (e2 Zaf (e2 Zaf (eSl (Za 6) (ZaD) (ZaE (Za 7))) (ZaH (Zb (Za 8) (Zj)))) (eSl (Za 6) (ZaE (e2 Zaf (Za 7) (eC (.int 1)))) (ZaD))) (Zj)))) rfl hM rfl (fun G => by
   simp [Zak, ZaZ, Zg, c1, c2, l8, z1, z2, c3]) (l1 _ rfl) hlen
  exact fin (pre (Zao ((ZaT (kc _ 0 rfl)).trans ((Zm (Zag s8)).trans (ZaK sp))))) (by omega) (spl (p, bs.set q _) (a + 1) (by simpa using l8) (by omega) (by omega) _ _ (Za4 _ _ 4))
 ·have q0 : (0 : Int) < (roll.length : Int) + 2 := by omega
  have sp := Zej (env := [some (Zf roll), some (.ref n), some (.int ((1 : Nat) : Int)), some (.int c), some (.int (a : Int)), some (.int p), some (Zg bs), some (.int (q : Int)), none]) (i := 1) (j := 4) (a := a) (b := a + 1) (d := Zak (c / 64 % ((roll.length : Int) + 2) - 1, bs)) (E := ZaH (Zb (e2 ZbU (e2 ZaJ (e2 ZaS (Za 3) (eC (.int 64))) (e2 Zaf (Zaj ZaR (Zb (Za 0) (Zj))) (eC (.int 2)))) (eC (.int 1))) (Zb (Za 6) (Zj)))) rfl hM rfl (fun G => by
   simp [Zak, ZaZ, Zf, q0]) (l1 _ rfl) hlen
  exact fin (pre ((Zm (Zy (kc _ 0 rfl))).trans (Zao ((ZaT (kc _ 1 rfl)).trans (ZaK sp))))) (by omega) (spl (_, bs) (a + 1) l8 (by omega) (by omega) _ _ (Za4 _ _ 4))
 ·have sl : (eSl (Za 1) (ZaD) (ZaE (e1 ZdE (eC (.int 1))))) [some (Zf roll), some (.ref n), some (.int ((2 : Nat) : Int)), some (.int c), some (.int (a : Int)), some (.int p), some (Zg bs), some (.int (q : Int)), none] M = .ok (.ref M.length) (M ++ [.lst (ts.dropLast.map Zak)]) := by
   have := ZhS (ts.map Zak)
   simp only [eSl, Za, ZaD, ZaE, e1, eC, List.getElem?_cons_succ, List.getElem?_cons_zero, R3.bind, ZdE, Zfj, hM, this, alloc]
   rw [List.map_dropLast]
  exact fin (pre ((Zm (Zy (kc _ 0 rfl))).trans ((Zm (Zy (kc _ 1 rfl))).trans (Zao ((ZaT (kc _ 2 rfl)).trans (ZaK sl)))))) (by omega) ⟨ts.dropLast, fun s hs => h8 s ((List.dropLast_sublist _).subset hs), by simp; omega, Za7 _ _ _⟩
 ·have sp := Zej (env := [some (Zf roll), some (.ref n), some (.int ((3 : Nat) : Int)), some (.int c), some (.int (a : Int)), some (.int p), some (Zg bs), some (.int (q : Int)), none]) (i := 1) (j := 4) (a := a) (b := a) (d := Zak (p, bs)) (E := e2 Ze (Za 1) (Za 4)) (lo := ZaE (Za 4)) rfl hM rfl (fun G => by
   simp [Zbq hM, -ZaM, ga]) (fun M' => by simp) hlen
  exact fin (pre ((Zm (Zy (kc _ 0 rfl))).trans ((Zm (Zy (kc _ 1 rfl))).trans ((Zm (Zy (kc _ 2 rfl))).trans (Zao ((ZaT (kc _ 3 rfl)).trans (ZaK sp))))))) (by omega) (spl (p, bs) a l8 (by omega) (by omega) _ _ (Za4 _ _ 4))
 ·have sp := ZiF (env := [some (Zf roll), some (.ref n), some (.int ((4 : Nat) : Int)), some (.int c), some (.int (a : Int)), some (.int p), some (Zg bs), some (.int (q : Int)), none]) (i := 1) (j := 4) (a := a) (b := a + 1) rfl hM rfl (l1 _ rfl) hlen
  refine fin (pre ((Zm (Zy (kc _ 0 rfl))).trans ((Zm (Zy (kc _ 1 rfl))).trans ((Zm (Zy (kc _ 2 rfl))).trans ((Zm (Zy (kc _ 3 rfl))).trans (Zao ((ZaT (kc _ 4 rfl)).trans (ZaK sp)))))))) (by omega) ⟨ts.take a ++ ts.drop (a + 1), fun s hs => ?_, by simp; omega, ?_⟩
  ·rcases List.mem_append.mp hs with hs | hs
   ·exact h8 s (List.mem_of_mem_take hs)
   ·exact h8 s (List.mem_of_mem_drop hs)
  ·rw [Za4]; simp
 ·have z : ts.length + 1 ≤ 1000000 := by omega
  have sp : (e2 Zaf (Za 1) (Zca (Zb (ZaH (Zb (Za 5) (Zb (Za 6) (Zj)))) (Zj)))) [some (Zf roll), some (.ref n), some (.int ((5 : Nat) : Int)), some (.int c), some (.int (a : Int)), some (.int p), some (Zg bs), some (.int (q : Int)), none] M = .ok (.ref (M.length + 1)) (M ++ [.lst [Zak (p, bs)], .lst ((ts ++ [(p, bs)]).map Zak)]) := by
   have g1 := Zbq hM [.lst [Zak (p, bs)]]
   refine Za8 (a := .ref n) (b := .ref M.length) (M1 := M) (M2 := M ++ [.lst [Zak (p, bs)]]) rfl (by simp [Zak, ZaZ]) ?_
   simp only [Zaf, g1, Za7]
   rw [if_pos (by simp; omega)]
   simp
  refine fin (pre ((Zm (Zy (kc _ 0 rfl))).trans ((Zm (Zy (kc _ 1 rfl))).trans ((Zm (Zy (kc _ 2 rfl))).trans ((Zm (Zy (kc _ 3 rfl))).trans ((Zm (Zy (kc _ 4 rfl))).trans (ZaK sp))))))) (by omega) ⟨ts ++ [(p, bs)], fun s hs => ?_, by simp, Za4 _ _ 1⟩
  rcases List.mem_append.mp hs with hs | hs
  ·exact h8 s hs
  ·rw [List.mem_singleton.mp hs]; exact l8
theorem Zhs (us : List Use) (hz : us.length < 64) (n : Nat) (kind : Nat) (hk : 6 ≤ kind) (hk' : kind < 13) (c : Int) (M : Store) (hM : M[n]? = some (.lst (us.map Zn))) :
  ∃ (us' : List Use) (m : Nat) (G : Store), us'.length ≤ us.length + 1 ∧ Zbb [.ref n, .int (kind : Int), .int c] M = .ok (.ref m) (M ++ G) ∧ (M ++ G)[m]? = some (.lst (us'.map Zn)) := by
 have fin : ∀ {m : Nat} {G : Store}, Zce [some (.ref n), some (.int (kind : Int)), some (.int c), none, none, none, none, none, none, none, none] M = .rt (.ref m) (M ++ G) → M.length ≤ m → (∃ us' : List Use, us'.length ≤ us.length + 1 ∧ (M ++ G)[m]? = some (.lst (us'.map Zn))) →
   ∃ (us' : List Use) (m : Nat) (G : Store), us'.length ≤ us.length + 1 ∧ Zbb [.ref n, .int (kind : Int), .int c] M = .ok (.ref m) (M ++ G) ∧ (M ++ G)[m]? = some (.lst (us'.map Zn)) := fun {m G} h hm ⟨us', lt, hg⟩ => ⟨us', m, G, lt, ZjD h hm, hg⟩
 obtain ⟨w2, hw2⟩ : ∃ w, ZbN [D.str [103, 101, 116], D.str [115, 101, 116]] (c % 2) = some (.str w) := by
  have h : c % 2 = 0 ∨ c % 2 = 1 := by omega
  rcases h with h | h <;> rw [h] <;> exact ⟨_, rfl⟩
 by_cases h0 : us.length = 0
 ·have e : us = [] := List.length_eq_zero_iff.mp h0
  subst e
  refine fin (m := M.length + 1) (G := [.lst [.str [103, 101, 116], .str [115, 101, 116]], .lst [Zn ⟨c % 5 - 2, c / 5 % 3, w2, 0⟩]]) (Zao ((ZaT (M' := M) (by simp [hM])).trans (ZaK ?_))) (by omega) ⟨[⟨c % 5 - 2, c / 5 % 3, w2, 0⟩], by simp, Za4 _ _ 1⟩
  simp [hw2, Zn]
 ·have hpos : 0 < us.length := by omega
  obtain ⟨a, ha, la⟩ := Zdo c us.length hpos
  have ga : ZbN (us.map Zn) ((a : Nat) : Int) = some (Zn us[a]) := Zgh la
  generalize hs : us[a] = u at ga
  obtain ⟨nu, t, w, v⟩ := u
  have s3 : (e2 ZaJ (Za 2) (Zaj ZaR (Zb (Za 0) (Zj)))) [some (.ref n), some (.int (kind : Int)), some (.int c), none, none, none, none, none, none, none, none] M = .ok (.int (a : Int)) M := by
   simp [hM, hpos, ha]
  have s4 : ZeC (e2 Ze (Za 0) (Za 3)) (Zch [4, 5, 6, 7]) [some (.ref n), some (.int (kind : Int)), some (.int c), some (.int (a : Int)), none, none, none, none, none, none, none] M = .nx [some (.ref n), some (.int (kind : Int)), some (.int c), some (.int (a : Int)), some (.int nu), some (.int t), some (.str w), some (.int v), none, none, none] M := by
   simp [ZeC, hM, -ZaM, ga, Zn]
  have l1 : ∀ (env : ZaO), env[3]? = some (some (.int (a : Int))) → ∀ M', ZaE (e2 Zaf (Za 3) (eC (.int 1))) env M' = .ok (some ((a + 1 : Nat) : Int)) M' := fun env h M' => by simp [h]
  have hlen : (us.map Zn).length ≤ 10000 := by simp; omega
  have kc : ∀ (env : ZaO) (M : Store) (x : Nat), env[1]? = some (some (.int (kind : Int))) → (e2 Zaq (Za 1) (eC (.int (x : Int)))) env M = .ok (.bl (decide (kind = x))) M := fun env M x h => by
   have : ((kind : Int) = (x : Int)) = (kind = x) := by rw [eq_iff_iff]; omega
   simp only [e2, Za, eC, h, R3.bind, Zaq, eqD, this]
  have pre : ∀ {k' : S3} {o : O3}, k' [some (.ref n), some (.int (kind : Int)), some (.int c), some (.int (a : Int)), some (.int nu), some (.int t), some (.str w), some (.int v), none, none, none] M = o → Zr (sIf (e2 Zaq (Zaj ZaR (Zb (Za 0) (Zj))) (eC (.int 0))) (Zz (Zca (Zb (ZaH (Zb (e2 ZbU (e2 ZaJ (Za 2) (eC (.int 5))) (eC (.int 2))) (Zb (e2 ZaJ (e2 ZaS (Za 2) (eC (.int 5))) (eC (.int 3))) (Zb (e2 Ze (Zca (Zb (eC (.str [103, 101, 116])) (Zb (eC (.str [115, 101, 116])) (Zj)))) (e2 ZaJ (Za 2) (eC (.int 2)))) (Zb (eC (.int 0)) (Zj)))))) (Zj)))) (Zw)) (Zr (Zac 3 (e2 ZaJ (Za 2) (Zaj ZaR (Zb (Za 0) (Zj))))) (Zr (ZeC (e2 Ze (Za 0) (Za 3)) (Zch [4, 5, 6, 7])) k')) [some (.ref n), some (.int (kind : Int)), some (.int c), none, none, none, none, none, none, none, none] M = o := fun {k' o} h =>
   (Zm (Zy (M' := M) (by simp [hM, h0]))).trans ((Zm (Zag s3)).trans ((Zm s4).trans h))
  by_cases k6 : kind = 6
  ·have sp := ZiF (env := [some (.ref n), some (.int (kind : Int)), some (.int c), some (.int (a : Int)), some (.int nu), some (.int t), some (.str w), some (.int v), none, none, none]) (i := 0) (j := 3) (a := a) (b := a + 1) rfl hM rfl (l1 _ rfl) hlen
   exact fin (pre (Zao ((ZaT ((kc _ M 6 rfl).trans (by rw [decide_eq_true k6]))).trans (ZaK sp)))) (by omega) ⟨us.take a ++ us.drop (a + 1), by simp; omega, by rw [Za4]; simp⟩
  by_cases k7 : kind = 7
  ·have sp := Zej (env := [some (.ref n), some (.int (kind : Int)), some (.int c), some (.int (a : Int)), some (.int nu), some (.int t), some (.str w), some (.int v), none, none, none]) (i := 0) (j := 3) (a := a) (b := a) (d := Zn ⟨nu, t, w, v⟩) (E := e2 Ze (Za 0) (Za 3)) (lo := ZaE (Za 3)) rfl hM rfl (fun G => by
    simp [Zbq hM, -ZaM, ga]) (fun M' => by simp) hlen
   exact fin (pre ((Zm (Zy ((kc _ M 6 rfl).trans (by rw [decide_eq_false k6])))).trans (Zao ((ZaT ((kc _ M 7 rfl).trans (by rw [decide_eq_true k7]))).trans (ZaK sp))))) (by omega) ⟨us.take a ++ [⟨nu, t, w, v⟩] ++ us.drop a, by simp; omega, by rw [Za4]; simp⟩
  by_cases k8 : kind = 8
  ·obtain ⟨b, hb, lb⟩ := Zdo (c / 64) us.length hpos
   have gb : ZbN (us.map Zn) ((b : Nat) : Int) = some (Zn us[b]) := Zgh lb
   have g9 : (M ++ [MO.lst (us.map Zn)])[M.length]? = some (.lst (us.map Zn)) := Za7 _ _ _
   have g9' := Zbq hM [.lst (us.map Zn)]
   refine fin (m := M.length) (G := [.lst (((us.set a us[b]).set b ⟨nu, t, w, v⟩).map Zn)]) (pre ((Zm (Zy ((kc _ M 6 rfl).trans (by rw [decide_eq_false k6])))).trans ((Zm (Zy ((kc _ M 7 rfl).trans (by rw [decide_eq_false k7])))).trans (Zao ((ZaT ((kc _ M 8 rfl).trans (by rw [decide_eq_true k8]))).trans ?_))))) (by omega) ⟨(us.set a us[b]).set b ⟨nu, t, w, v⟩, by simp, Za7 _ _ _⟩
   refine (Zm (Zag (d := .int (b : Int)) (M' := M) (by simp [hM, hpos, hb]))).trans ((Zm (Zag (d := .ref M.length) (M' := M ++ [.lst (us.map Zn)]) (by simp [hM]))).trans ((Zm (env' := [some (.ref n), some (.int (kind : Int)), some (.int c), some (.int (a : Int)), some (.int nu), some (.int t), some (.str w), some (.int v), some (.int (b : Int)), some (.ref M.length), none]) (M' := M ++ [.lst (((us.set a us[b]).set b ⟨nu, t, w, v⟩).map Zn)]) ?_).trans rfl))
   simp [ZjN, ZkQ, g9', -ZaM, ga, gb, la, lb, List.map_set]
  have rw' : ∃ (x : Use) (G : Store), (Zr (Zac 10 (ZaH (Zb (Za 4) (Zb (Za 5) (Zb (Za 6) (Zb (e2 ZbU (e2 Zaf (Za 7) (eC (.int 1))) (e2 Zdc (eC (.int 2)) (e2 ZaJ (e2 ZaS (Za 2) (eC (.int 64))) (eC (.int 2))))) (Zj))))))) (Zr (sIf (e2 Zaq (Za 1) (eC (.int 9))) (Zac 10 (ZaH (Zb (e2 ZbU (e2 Zaf (Za 4) (eC (.int 1))) (e2 Zdc (eC (.int 2)) (e2 ZaJ (e2 ZaS (Za 2) (eC (.int 64))) (eC (.int 2))))) (Zb (Za 5) (Zb (Za 6) (Zb (Za 7) (Zj))))))) (Zw)) (Zr (sIf (e2 Zaq (Za 1) (eC (.int 10))) (Zac 10 (ZaH (Zb (Za 4) (Zb (e2 ZbU (e2 ZaJ (e2 ZaS (Za 2) (eC (.int 64))) (eC (.int 70))) (eC (.int 2))) (Zb (Za 6) (Zb (Za 7) (Zj))))))) (Zw)) (sIf (e2 Zaq (Za 1) (eC (.int 11))) (Zac 10 (ZaH (Zb (Za 4) (Zb (Za 5) (Zb (e2 Ze (Zca (Zb (eC (.str [103, 101, 116])) (Zb (eC (.str [115, 101, 116])) (Zb (eC (.str [116, 101, 108, 108])) (Zj))))) (e2 ZaJ (e2 ZaS (Za 2) (eC (.int 64))) (eC (.int 3)))) (Zb (Za 7) (Zj))))))) (Zw)))))
    [some (.ref n), some (.int (kind : Int)), some (.int c), some (.int (a : Int)), some (.int nu), some (.int t), some (.str w), some (.int v), none, none, none] M = .nx [some (.ref n), some (.int (kind : Int)), some (.int c), some (.int (a : Int)), some (.int nu), some (.int t), some (.str w), some (.int v), none, none, some (Zn x)] (M ++ G) := by
   have m2 : ZaL 2 (c / 64 % 2) = true := Zf2 (by omega)
   have kk : kind = 9 ∨ kind = 10 ∨ kind = 11 ∨ kind = 12 := by omega
   rcases kk with rfl | rfl | rfl | rfl
   ·exact ⟨⟨nu + 1 - 2 * (c / 64 % 2), t, w, v⟩, [], by simp [Zr, Zac, sIf, Zw, m2, Zn]⟩
   ·exact ⟨⟨nu, c / 64 % 70 - 2, w, v⟩, [], by simp [Zr, Zac, sIf, Zw, m2, Zn]⟩
   ·obtain ⟨w3, hw3⟩ : ∃ w, ZbN [D.str [103, 101, 116], D.str [115, 101, 116], D.str [116, 101, 108, 108]] (c / 64 % 3) = some (.str w) := by
     have h : c / 64 % 3 = 0 ∨ c / 64 % 3 = 1 ∨ c / 64 % 3 = 2 := by omega
     rcases h with h | h | h <;> rw [h] <;> exact ⟨_, rfl⟩
    exact ⟨⟨nu, t, w3, v⟩, [.lst [.str [103, 101, 116], .str [115, 101, 116], .str [116, 101, 108, 108]]], by simp [Zr, Zac, sIf, Zw, m2, hw3, Zn]⟩
   ·exact ⟨⟨nu, t, w, v + 1 - 2 * (c / 64 % 2)⟩, [], by simp [Zr, Zac, sIf, Zw, m2, Zn]⟩
  obtain ⟨x, G, hx⟩ := rw'
  have hMG := Zbq hM G
  have sp := Zej (env := [some (.ref n), some (.int (kind : Int)), some (.int c), some (.int (a : Int)), some (.int nu), some (.int t), some (.str w), some (.int v), none, none, some (Zn x)]) (M := M ++ G) (i := 0) (j := 3) (a := a) (b := a + 1) (d := Zn x) (E := Za 10) rfl hMG rfl (fun G' => by simp) (l1 _ rfl) hlen
  have ex : (us.map Zn).take a ++ [Zn x] ++ (us.map Zn).drop (a + 1) = (us.take a ++ [x] ++ us.drop (a + 1)).map Zn := by simp
  rw [ex] at sp
  have lx : (us.take a ++ [x] ++ us.drop (a + 1)).length = us.length := by simp; omega
  obtain ⟨us2, l2, hs2⟩ := Zi5 (us.take a ++ [x] ++ us.drop (a + 1))
  have so := Zha (us := us.take a ++ [x] ++ us.drop (a + 1)) (by omega)
  generalize us.take a ++ [x] ++ us.drop (a + 1) = xs at *
  have g4 : ∀ y1 y2 y3 y4 : MO, (M ++ G ++ [y1, y2, y3, y4, .lst (xs.map Zn)])[(M ++ G).length + 4]? = some (.lst (xs.map Zn)) := fun y1 y2 y3 y4 => Za4 _ _ 4
  generalize hM5 : M ++ G ++ [MO.lst ((us.map Zn).take a), .lst [Zn x], .lst ((us.map Zn).take a ++ [Zn x]), .lst ((us.map Zn).drop (a + 1)), .lst (xs.map Zn)] = M5 at sp
  have k9 : M5[(M ++ G).length + 4]? = some (.lst (xs.map Zn)) := by rw [← hM5]; exact g4 _ _ _ _
  have l5 : (M ++ G).length + 4 < M5.length := (List.getElem?_eq_some_iff.mp k9).1
  have e5 : ∃ G5, M5 = M ++ G5 := ⟨_, by rw [← hM5, List.append_assoc]⟩
  obtain ⟨G5, e5⟩ := e5
  obtain ⟨b, hb, lb⟩ := Zdo (c / 4096) 2 (by omega)
  have hb' : c / 4096 % 2 = (b : Int) := hb
  have rt : (Zz (e2 Ze (Zca (Zb (Za 9) (Zb (Zaj Zbv (Zb (Za 9) (Zj))) (Zj)))) (e2 ZaJ (e2 ZaS (Za 2) (eC (.int 4096))) (eC (.int 2))))) [some (.ref n), some (.int (kind : Int)), some (.int c), some (.int (a : Int)), some (.int nu), some (.int t), some (.str w), some (.int v), none, some (.ref ((M ++ G).length + 4)), some (Zn x)] M5 = .rt (if b = 0 then .ref ((M ++ G).length + 4) else .ref M5.length) (M5 ++ [.lst (us2.map Zn), .lst [.ref ((M ++ G).length + 4), .ref M5.length]]) := by
   refine ZaK ?_
   have bs : Zaj Zbv (Zb (Za 9) (Zj)) [some (.ref n), some (.int (kind : Int)), some (.int c), some (.int (a : Int)), some (.int nu), some (.int t), some (.str w), some (.int v), none, some (.ref ((M ++ G).length + 4)), some (Zn x)] M5 = .ok (.ref M5.length) (M5 ++ [.lst (us2.map Zn)]) := by
    refine Zg6 (a := .ref ((M ++ G).length + 4)) (M1 := M5) rfl ?_
    simp only [Zbv, k9, if_pos so, hs2, alloc]
   have ls : (Zca (Zb (Za 9) (Zb (Zaj Zbv (Zb (Za 9) (Zj))) (Zj)))) [some (.ref n), some (.int (kind : Int)), some (.int c), some (.int (a : Int)), some (.int nu), some (.int t), some (.str w), some (.int v), none, some (.ref ((M ++ G).length + 4)), some (Zn x)] M5 = .ok (.ref (M5.length + 1)) (M5 ++ [.lst (us2.map Zn), .lst [.ref ((M ++ G).length + 4), .ref M5.length]]) := by
    generalize Zaj Zbv (Zb (Za 9) (Zj)) = E at bs
    simp only [Zca, Zb, Zj, R3.bind, bs, Za, List.getElem?_cons_succ, List.getElem?_cons_zero]
    simp
   have gl : (M5 ++ [MO.lst (us2.map Zn), .lst [.ref ((M ++ G).length + 4), .ref M5.length]])[M5.length + 1]? = some (.lst [.ref ((M ++ G).length + 4), .ref M5.length]) := Za4 _ _ 1
   refine Za8 (b := .int (b : Int)) (M2 := M5 ++ [.lst (us2.map Zn), .lst [.ref ((M ++ G).length + 4), .ref M5.length]]) ls (by simp [hb']) ?_
   have hbb : b = 0 ∨ b = 1 := by omega
   rcases hbb with rfl | rfl
   ·simp only [Ze, gl]; rfl
   ·simp only [Ze, gl]; rfl
  have all : Zce [some (.ref n), some (.int (kind : Int)), some (.int c), none, none, none, none, none, none, none, none] M = .rt (if b = 0 then .ref ((M ++ G).length + 4) else .ref M5.length) (M ++ (G5 ++ [.lst (us2.map Zn), .lst [.ref ((M ++ G).length + 4), .ref M5.length]])) := by
   rw [← List.append_assoc, ← e5]
   have step4 : ∀ (p q r s k : S3) (env env' : ZaO) (M M' : Store), Zr p (Zr q (Zr r s)) env M = .nx env' M' → Zr p (Zr q (Zr r (Zr s k))) env M = k env' M' := fun p q r s k env env' M M' h => by
    unfold Zr at h ⊢
    cases hp : p env M <;> simp only [hp] at h ⊢
    all_goals first | (cases h; done) | skip
    rename_i env1 M1
    cases hq : q env1 M1 <;> simp only [hq] at h ⊢
    all_goals first | (cases h; done) | skip
    rename_i env2 M2
    cases hr : r env2 M2 <;> simp only [hr] at h ⊢
    all_goals first | (cases h; done) | skip
    rw [h]
   exact pre ((Zm (Zy ((kc _ M 6 rfl).trans (by rw [decide_eq_false k6])))).trans ((Zm (Zy ((kc _ M 7 rfl).trans (by rw [decide_eq_false k7])))).trans ((Zm (Zy ((kc _ M 8 rfl).trans (by rw [decide_eq_false k8])))).trans ((step4 _ _ _ _ _ _ _ _ _ hx).trans ((Zm (Zag sp)).trans rt)))))
  have hbb : b = 0 ∨ b = 1 := by omega
  rcases hbb with rfl | rfl
  ·rw [if_pos rfl] at all
   exact fin all (by simp; omega) ⟨xs, by omega, by rw [← List.append_assoc, ← e5]; exact Zbq k9 _⟩
  ·rw [if_neg (by omega)] at all
   exact fin all (by rw [e5]; simp) ⟨us2, by omega, by rw [← List.append_assoc, ← e5]; exact Za7 _ _ _⟩
theorem ZkP (n : Nat) (us : List Use) : below n (ZaA us) = true := by
 unfold ZaA below
 induction us with
 | nil => rfl
 | cons u us ih => simp only [List.map_cons, belowL, ih, Zmi, Bool.and_self]
theorem ZjV (roll : ZbC) (R : ZbW roll) (ss : List Stt) (n : Nat) (M : Store) (hM : M[n]? = some (.lst (ss.map Zat))) (hg : ∀ s ∈ ss, Good roll s) (h0 : 0 < ss.length) (hz : ss.length ≤ 61) :
  ∃ us : List Use, us.length ≤ ss.length - 1 ∧ ZeD [Zf roll, .ref n] M = .ok (ZaA us) M := by
 obtain ⟨e', M', lp, us, x3, x4, x5, x6, lu, rfl, rfl⟩ := Zid (it := ⟨Zc1 0 (ss.length - 1), none⟩) (g := Zcg 3)
  (body := (Zr (ZeC (eSl (e2 Ze (Za 1) (Za 3)) (ZaD) (ZaE (eC (.int 2)))) (Zch [4, 5])) (Zr (Zac 6 (e2 Ze (Za 0) (Za 4))) (Zr (sIf (e2 Zaq (e2 Ze (Za 6) (eC (.int 0))) (eC (.str [103, 101, 116]))) (Zal (ZeK tyL Zb8 (Za 2) (Zb (ZaH (Zb (e2 Ze (Za 5) (e2 Ze (Za 6) (eC (.int 2)))) (Zb (Za 3) (Zb (eC (.str [103, 101, 116])) (Zb (e2 Ze (e2 Ze (e2 Ze (Za 1) (e2 Zaf (Za 3) (eC (.int 1)))) (eC (.int 1))) (e2 Ze (Za 6) (eC (.int 1)))) (Zj)))))) (Zj)))) (Zw)) (sIf (e2 Zaq (e2 Ze (Za 6) (eC (.int 0))) (eC (.str [115, 101, 116]))) (Zal (ZeK tyL Zb8 (Za 2) (Zb (ZaH (Zb (e2 Ze (Za 5) (e2 Ze (Za 6) (eC (.int 1)))) (Zb (Za 3) (Zb (eC (.str [115, 101, 116])) (Zb (e2 Ze (Za 5) (e2 Ze (Za 6) (eC (.int 2)))) (Zj)))))) (Zj)))) (Zw))))))
  (P := fun j env M' => ∃ (us : List Use) (x3 x4 x5 x6 : Option D), us.length ≤ j ∧ env = [some (Zf roll), some (.ref n), some (.ref M.length), x3, x4, x5, x6] ∧ M' = M ++ [.lst (us.map Zn)])
  (Zc1 0 (ss.length - 1)) 0 [some (Zf roll), some (.ref n), some (.ref M.length), none, none, none, none] (M ++ [.lst []]) ⟨[], none, none, none, none, by simp, rfl, rfl⟩ (fun _ _ _ _ => rfl)
  (fun k d hd env M' ⟨us, x3, x4, x5, x6, lu, he, hm⟩ => by
   obtain ⟨rfl, lk⟩ := Zgo hd
   subst he hm
   have hk0 : k < ss.length := by omega
   have hk1 : k + 1 < ss.length := by omega
   have g0 := hg _ (List.getElem_mem hk0)
   have g1 := hg _ (List.getElem_mem hk1)
   have q0 : ZbN (ss.map Zat) ((k : Nat) : Int) = some (Zat ss[k]) := by rw [ZcY, List.getElem?_map, List.getElem?_eq_getElem hk0]; rfl
   have q1 : ZbN (ss.map Zat) ((k : Int) + 1) = some (Zat ss[k + 1]) := by
    rw [show ((k : Int) + 1) = ((k + 1 : Nat) : Int) by omega, ZcY, List.getElem?_map, List.getElem?_eq_getElem hk1]; rfl
   generalize ss[k] = s at g0 q0
   generalize ss[k + 1] = s' at g1 q1
   have hM' := Zbq hM [.lst (us.map Zn)]
   have gn : (M ++ [MO.lst (us.map Zn)])[M.length]? = some (.lst (us.map Zn)) := Za7 _ _ _
   have c2 : cutD [D.int (s.place : Int), Zg s.boxes, ZbI s.cells] none (some 2) = [.int (s.place : Int), Zg s.boxes] := by simp [cutD, sIx]
   have s4 : ZeC (eSl (e2 Ze (Za 1) (Za 3)) (ZaD) (ZaE (eC (.int 2)))) (Zch [4, 5]) [some (Zf roll), some (.ref n), some (.ref M.length), some (.int (k : Int)), x4, x5, x6] (M ++ [.lst (us.map Zn)]) = .nx [some (Zf roll), some (.ref n), some (.ref M.length), some (.int (k : Int)), some (.int (s.place : Int)), some (Zg s.boxes), x6] (M ++ [.lst (us.map Zn)]) := by
    simp only [ZeC, eSl, e2, Za, eC, ZaD, ZaE, List.getElem?_cons_succ, List.getElem?_cons_zero, R3.bind, Ze, hM', q0, Zat, Zfj, c2, Zch, bindAll, List.set_cons_succ, List.set_cons_zero]
   have gp := g0.pl
   have hr : roll[s.place]? = some roll[s.place] := by simp [gp]
   have ro := R.rows _ (List.getElem_mem gp)
   generalize roll[s.place] = r at hr ro
   have s6 : (e2 Ze (Za 0) (Za 4)) [some (Zf roll), some (.ref n), some (.ref M.length), some (.int (k : Int)), some (.int (s.place : Int)), some (Zg s.boxes), x6] (M ++ [.lst (us.map Zn)]) = .ok (Zq r) (M ++ [.lst (us.map Zn)]) := by simp [Zf, hr]
   have lz : us.length < 1000000 := by omega
   have cn' : ∀ (w : List Nat) (m : Nat) (M : Store), (e2 Zaq (e2 Ze (Za 6) (eC (.int 0))) (eC (.str w))) [some (Zf roll), some (.ref n), some (.ref m), some (.int (k : Int)), some (.int (s.place : Int)), some (Zg s.boxes), some (Zq r)] M = .ok (.bl (decide (Zea r = w))) M := fun w m M => Za8 (Za8 rfl rfl (ZeT r M)) rfl (by simp)
   have cnT : ∀ (w : List Nat) (m : Nat) (M : Store), Zea r = w → (e2 Zaq (e2 Ze (Za 6) (eC (.int 0))) (eC (.str w))) [some (Zf roll), some (.ref n), some (.ref m), some (.int (k : Int)), some (.int (s.place : Int)), some (Zg s.boxes), some (Zq r)] M = .ok (.bl true) M := fun w m M h => by rw [cn' w m M, decide_eq_true h]
   have cnF : ∀ (w : List Nat) (m : Nat) (M : Store), ¬ Zea r = w → (e2 Zaq (e2 Ze (Za 6) (eC (.int 0))) (eC (.str w))) [some (Zf roll), some (.ref n), some (.ref m), some (.int (k : Int)), some (.int (s.place : Int)), some (Zg s.boxes), some (Zq r)] M = .ok (.bl false) M := fun w m M h => by rw [cn' w m M, decide_eq_false h]
   have fin : ∀ (us2 : List Use), us2.length ≤ us.length + 1 → (Zr (sIf (e2 Zaq (e2 Ze (Za 6) (eC (.int 0))) (eC (.str [103, 101, 116]))) (Zal (ZeK tyL Zb8 (Za 2) (Zb (ZaH (Zb (e2 Ze (Za 5) (e2 Ze (Za 6) (eC (.int 2)))) (Zb (Za 3) (Zb (eC (.str [103, 101, 116])) (Zb (e2 Ze (e2 Ze (e2 Ze (Za 1) (e2 Zaf (Za 3) (eC (.int 1)))) (eC (.int 1))) (e2 Ze (Za 6) (eC (.int 1)))) (Zj)))))) (Zj)))) (Zw)) (sIf (e2 Zaq (e2 Ze (Za 6) (eC (.int 0))) (eC (.str [115, 101, 116]))) (Zal (ZeK tyL Zb8 (Za 2) (Zb (ZaH (Zb (e2 Ze (Za 5) (e2 Ze (Za 6) (eC (.int 1)))) (Zb (Za 3) (Zb (eC (.str [115, 101, 116])) (Zb (e2 Ze (Za 5) (e2 Ze (Za 6) (eC (.int 2)))) (Zj)))))) (Zj)))) (Zw))) [some (Zf roll), some (.ref n), some (.ref M.length), some (.int (k : Int)), some (.int (s.place : Int)), some (Zg s.boxes), some (Zq r)] (M ++ [.lst (us.map Zn)]) = .nx [some (Zf roll), some (.ref n), some (.ref M.length), some (.int (k : Int)), some (.int (s.place : Int)), some (Zg s.boxes), some (Zq r)] (M ++ [.lst (us2.map Zn)]) →
     ∃ env1 e' M', Zcg 3 (.int (k : Int)) [some (Zf roll), some (.ref n), some (.ref M.length), x3, x4, x5, x6] = some env1 ∧ (Zr (ZeC (eSl (e2 Ze (Za 1) (Za 3)) (ZaD) (ZaE (eC (.int 2)))) (Zch [4, 5])) (Zr (Zac 6 (e2 Ze (Za 0) (Za 4))) (Zr (sIf (e2 Zaq (e2 Ze (Za 6) (eC (.int 0))) (eC (.str [103, 101, 116]))) (Zal (ZeK tyL Zb8 (Za 2) (Zb (ZaH (Zb (e2 Ze (Za 5) (e2 Ze (Za 6) (eC (.int 2)))) (Zb (Za 3) (Zb (eC (.str [103, 101, 116])) (Zb (e2 Ze (e2 Ze (e2 Ze (Za 1) (e2 Zaf (Za 3) (eC (.int 1)))) (eC (.int 1))) (e2 Ze (Za 6) (eC (.int 1)))) (Zj)))))) (Zj)))) (Zw)) (sIf (e2 Zaq (e2 Ze (Za 6) (eC (.int 0))) (eC (.str [115, 101, 116]))) (Zal (ZeK tyL Zb8 (Za 2) (Zb (ZaH (Zb (e2 Ze (Za 5) (e2 Ze (Za 6) (eC (.int 1)))) (Zb (Za 3) (Zb (eC (.str [115, 101, 116])) (Zb (e2 Ze (Za 5) (e2 Ze (Za 6) (eC (.int 2)))) (Zj)))))) (Zj)))) (Zw))))) env1 (M ++ [.lst (us.map Zn)]) = .nx e' M' ∧ ∃ (us : List Use) (x3 x4 x5 x6 : Option D), us.length ≤ 0 + k + 1 ∧ e' = [some (Zf roll), some (.ref n), some (.ref M.length), x3, x4, x5, x6] ∧ M' = M ++ [.lst (us.map Zn)] := fun us2 l2 h =>
    ⟨_, _, _, rfl, (Zm s4).trans ((Zm (Zag s6)).trans h), us2, _, _, _, _, by omega, rfl, rfl⟩
   cases r with
   | get a b =>
    obtain ⟨y1, hy1, gy1⟩ := ZbL g0.bx ro.2
    obtain ⟨y2, hy2, gy2⟩ := ZbL g1.bx ro.1
    have ar : (ZaH (Zb (e2 Ze (Za 5) (e2 Ze (Za 6) (eC (.int 2)))) (Zb (Za 3) (Zb (eC (.str [103, 101, 116])) (Zb (e2 Ze (e2 Ze (e2 Ze (Za 1) (e2 Zaf (Za 3) (eC (.int 1)))) (eC (.int 1))) (e2 Ze (Za 6) (eC (.int 1)))) (Zj)))))) [some (Zf roll), some (.ref n), some (.ref M.length), some (.int (k : Int)), some (.int (s.place : Int)), some (Zg s.boxes), some (Zq (.get a b))] (M ++ [.lst (us.map Zn)]) = .ok (Zn ⟨y1, (k : Int), [103, 101, 116], y2⟩) (M ++ [.lst (us.map Zn)]) := by
     simp only [ZaH, Zb, Zj, e2, Za, eC, Zq, Zg, List.getElem?_cons_succ, List.getElem?_cons_zero, R3.bind, Zaf, Ze, ZdW, gy1, hM', q1, Zat, gy2]
     simp [Zn]
    have ap := Zfr (Zg2 (o := Za 2) (env := [some (Zf roll), some (.ref n), some (.ref M.length), some (.int (k : Int)), some (.int (s.place : Int)), some (Zg s.boxes), some (Zq (.get a b))]) (M := M ++ [.lst (us.map Zn)]) (n := M.length) (xs := us.map Zn) (ys := us.map Zn) rfl gn ar gn (by simpa using lz))
    refine fin (us ++ [⟨y1, (k : Int), [103, 101, 116], y2⟩]) (by simp) ((Zm ((ZaT (cnT _ _ _ rfl)).trans ap)).trans ((Zy (cnF _ _ _ (by simp [Zea]))).trans ?_))
    simp
   | set a b =>
    obtain ⟨y1, hy1, gy1⟩ := ZbL g0.bx ro.1
    obtain ⟨y2, hy2, gy2⟩ := ZbL g0.bx ro.2
    have ar : (ZaH (Zb (e2 Ze (Za 5) (e2 Ze (Za 6) (eC (.int 1)))) (Zb (Za 3) (Zb (eC (.str [115, 101, 116])) (Zb (e2 Ze (Za 5) (e2 Ze (Za 6) (eC (.int 2)))) (Zj)))))) [some (Zf roll), some (.ref n), some (.ref M.length), some (.int (k : Int)), some (.int (s.place : Int)), some (Zg s.boxes), some (Zq (.set a b))] (M ++ [.lst (us.map Zn)]) = .ok (Zn ⟨y1, (k : Int), [115, 101, 116], y2⟩) (M ++ [.lst (us.map Zn)]) := by
     simp only [ZaH, Zb, Zj, e2, Za, eC, Zq, Zg, List.getElem?_cons_succ, List.getElem?_cons_zero, R3.bind, Ze, ZdW, gy1, gy2]
     simp [Zn]
    have ap := Zfr (Zg2 (o := Za 2) (env := [some (Zf roll), some (.ref n), some (.ref M.length), some (.int (k : Int)), some (.int (s.place : Int)), some (Zg s.boxes), some (Zq (.set a b))]) (M := M ++ [.lst (us.map Zn)]) (n := M.length) (xs := us.map Zn) (ys := us.map Zn) rfl gn ar gn (by simpa using lz))
    refine fin (us ++ [⟨y1, (k : Int), [115, 101, 116], y2⟩]) (by simp) ((Zm (Zy (cnF _ _ _ (by simp [Zea])))).trans ((ZaT (cnT _ _ _ rfl)).trans (ap.trans ?_)))
    simp
   | _ => exact fin us (by omega) ((Zm (Zy (cnF _ _ _ (by simp [Zea])))).trans (Zy (cnF _ _ _ (by simp [Zea])))))
 rw [ZgG] at lu
 obtain ⟨us2, l2, hs2⟩ := Zi5 us
 have so := Zha (us := us) (by omega)
 refine ⟨us2, by omega, Rt.pure (G := [.lst (us.map Zn), .lst (us2.map Zn)]) (env := [some (Zf roll), some (.ref n), none, none, none, none, none]) ?_ (ZkP _ _)⟩
 have ir : (ZbJ (e2 ZbU (Zaj ZaR (Zb (Za 1) (Zj))) (eC (.int 1)))) [some (Zf roll), some (.ref n), some (.ref M.length), none, none, none, none] (M ++ [.lst []]) = .ok ⟨Zc1 0 (ss.length - 1), none⟩ (M ++ [.lst []]) := by
  have b : ((ss.length : Int) - 1) ≤ 1000000 ∧ -1000000 ≤ ((ss.length : Int) - 1) := by omega
  have e : ((ss.length : Int) - 1).toNat = ss.length - 1 := by omega
  simp [Zbq hM, b, e]
 refine (Zm (Zag (d := .ref M.length) (M' := M ++ [.lst []]) (by simp))).trans ((Zm ((Zhy (g := Zcg 3) ir).trans lp)).trans (ZaK ?_))
 have bsr : Zaj Zbv (Zb (Za 2) (Zj)) [some (Zf roll), some (.ref n), some (.ref M.length), x3, x4, x5, x6] (M ++ [.lst (us.map Zn)]) = .ok (.ref (M ++ [MO.lst (us.map Zn)]).length) (M ++ [.lst (us.map Zn), .lst (us2.map Zn)]) := by
  refine Zg6 (a := .ref M.length) (M1 := M ++ [.lst (us.map Zn)]) rfl ?_
  simp only [Zbv, Za7, if_pos so, hs2, alloc]
  simp
 refine Zg6 bsr ?_
 have : (M ++ [MO.lst (us.map Zn), .lst (us2.map Zn)])[(M ++ [MO.lst (us.map Zn)]).length]? = some (.lst (us2.map Zn)) := by
  rw [List.length_append]; exact Za4 _ _ 1
 simp only [ZaY, this, ZaA]
theorem Zgy (roll : ZbC) (ts : List Stp) (h8 : ∀ s ∈ ts, s.2.length = 8) (hz : ts.length ≤ 1000) (us : List Use) (hu : us.length < 64) (n1 n2 : Nat) (c : Int) (M : Store) (h1 : M[n1]? = some (.lst (ts.map Zak))) (h2 : M[n2]? = some (.lst (us.map Zn))) :
  ∃ (ts' : List Stp) (us' : List Use) (m1 m2 m : Nat) (G : Store), (∀ s ∈ ts', s.2.length = 8) ∧ ts'.length ≤ ts.length + 1 ∧ us'.length ≤ us.length + 1 ∧ ZaP [Zf roll, .ref n1, .ref n2, .int c] M = .ok (.ref m) (M ++ G) ∧ (M ++ G)[m]? = some (.lst [.ref m1, .ref m2]) ∧ (M ++ G)[m1]? = some (.lst (ts'.map Zak)) ∧ (M ++ G)[m2]? = some (.lst (us'.map Zn)) := by
 obtain ⟨k, hk, lk⟩ := Zdo c 13 (by omega)
 have hk' : c % 13 = (k : Int) := hk
 have fin : ∀ {m : Nat} {G : Store} (ts' : List Stp) (us' : List Use) (m1 m2 : Nat), (∀ s ∈ ts', s.2.length = 8) → ts'.length ≤ ts.length + 1 → us'.length ≤ us.length + 1 → ZcC [some (Zf roll), some (.ref n1), some (.ref n2), some (.int c), none, none] M = .rt (.ref m) (M ++ G) → M.length ≤ m → (M ++ G)[m]? = some (.lst [.ref m1, .ref m2]) → (M ++ G)[m1]? = some (.lst (ts'.map Zak)) → (M ++ G)[m2]? = some (.lst (us'.map Zn)) →
   ∃ (ts' : List Stp) (us' : List Use) (m1 m2 m : Nat) (G : Store), (∀ s ∈ ts', s.2.length = 8) ∧ ts'.length ≤ ts.length + 1 ∧ us'.length ≤ us.length + 1 ∧ ZaP [Zf roll, .ref n1, .ref n2, .int c] M = .ok (.ref m) (M ++ G) ∧ (M ++ G)[m]? = some (.lst [.ref m1, .ref m2]) ∧ (M ++ G)[m1]? = some (.lst (ts'.map Zak)) ∧ (M ++ G)[m2]? = some (.lst (us'.map Zn)) :=
  fun {m G} ts' us' m1 m2 t8 lt lu h hm g0 g1 g2 => ⟨ts', us', m1, m2, m, G, t8, lt, lu, ZjD h hm, g0, g1, g2⟩
 have pre : ∀ {k' : S3} {o : O3}, k' [some (Zf roll), some (.ref n1), some (.ref n2), some (.int c), some (.int (k : Int)), some (.int (c / 13))] M = o → Zr (Zac 4 (e2 ZaJ (Za 3) (eC (.int 13)))) (Zr (Zac 5 (e2 ZaS (Za 3) (eC (.int 13)))) k') [some (Zf roll), some (.ref n1), some (.ref n2), some (.int c), none, none] M = o := fun {k' o} h =>
  (Zm (Zag (d := .int (k : Int)) (M' := M) (by simp [hk']))).trans ((Zm (Zag (d := .int (c / 13)) (M' := M) (by simp))).trans h)
 by_cases k6 : k < 6
 ·have k6' : (k : Int) < 6 := by omega
  by_cases h0 : 0 < ts.length
  ·obtain ⟨ts', m, G, t8, lt, hc, hg⟩ := ZgK roll ts h8 h0 hz n1 k k6 (c / 13) M h1
   refine fin (m := (M ++ G).length) (G := G ++ [.lst [.ref m, .ref n2]]) ts' us m n2 t8 lt (by omega) (pre (Zao ((ZaT (M' := M) (by simp [k6', h1, h0])).trans (ZaK ?_)))) (by simp) (by rw [← List.append_assoc]; exact Za7 _ _ _) (by rw [← List.append_assoc]; exact Zbq hg _) (Zbq h2 _)
   have cl : (Zae Za6 (Zb (Za 0) (Zb (Za 1) (Zb (Za 4) (Zb (Za 5) (Zj)))))) [some (Zf roll), some (.ref n1), some (.ref n2), some (.int c), some (.int (k : Int)), some (.int (c / 13))] M = .ok (.ref m) (M ++ G) := ZgS rfl rfl rfl rfl hc
   generalize (Zae Za6 (Zb (Za 0) (Zb (Za 1) (Zb (Za 4) (Zb (Za 5) (Zj)))))) = E at cl
   simp only [Zca, Zb, Zj, R3.bind, cl, Za, List.getElem?_cons_succ, List.getElem?_cons_zero]
   simp
  ·refine fin (m := M.length) (G := [.lst [.ref n1, .ref n2]]) ts us n1 n2 h8 (by omega) (by omega) (pre ((Zm (Zy (M' := M) (by simp [k6', h1, h0]))).trans (Zao ((ZaT (M' := M) (by simp [k6'])).trans (ZaK (by simp)))))) (by omega) (Za7 _ _ _) (Zbq h1 _) (Zbq h2 _)
 ·have k6' : ¬ (k : Int) < 6 := by omega
  obtain ⟨us', m, G, lu, hc, hg⟩ := Zhs us hu n2 k (by omega) lk (c / 13) M h2
  refine fin (m := (M ++ G).length) (G := G ++ [.lst [.ref n1, .ref m]]) ts us' n1 m h8 (by omega) lu (pre ((Zm (Zy (M' := M) (by simp [k6']))).trans ((Zm (Zy (M' := M) (by simp [k6']))).trans (ZaK ?_)))) (by simp) (by rw [← List.append_assoc]; exact Za7 _ _ _) (Zbq h1 _) (by rw [← List.append_assoc]; exact Zbq hg _)
  have cl : (Zae Zbb (Zb (Za 2) (Zb (Za 4) (Zb (Za 5) (Zj))))) [some (Zf roll), some (.ref n1), some (.ref n2), some (.int c), some (.int (k : Int)), some (.int (c / 13))] M = .ok (.ref m) (M ++ G) := ZcI rfl rfl rfl hc
  generalize (Zae Zbb (Zb (Za 2) (Zb (Za 4) (Zb (Za 5) (Zj))))) = E at cl
  simp only [Zca, Zb, Zj, R3.bind, cl, Za, List.getElem?_cons_succ, List.getElem?_cons_zero]
  simp
def Zhw (s : Stt) : D := .tup [.int s.place, Zg s.boxes]
theorem ZnK {env : ZaO} {i : Nat} {n : Nat} {M : Store} {ss : List Stt} (hi : env[i]? = some (some (.ref n))) (hM : M[n]? = some (.lst (ss.map Zat))) (hz : ss.length ≤ 100000) :
  eLC (Zhq (Za i)) 1 (Zcg env.length) [] (ZaH (Zb (e2 Ze (Za env.length) (eC (.int 0))) (Zb (e2 Ze (Za env.length) (eC (.int 1))) (Zj)))) env M = .ok (.ref M.length) (M ++ [.lst (ss.map Zhw)]) := by
 refine ZpL (enc := Zat) (h := Zhw) (own := 1) (i := env.length) (lock := some n) (as := ss) (M := M) (M1 := M) (by simp [hi, hM]) (fun m h => by cases h; exact hM) (fun s hs M => ?_) hz
 have e : ((env ++ List.replicate 1 none).set env.length (some (Zat s)))[env.length]? = some (some (Zat s)) := by simp
 generalize (env ++ List.replicate 1 none).set env.length (some (Zat s)) = env' at e
 simp [e, Zat, Zhw]
theorem cell_eq (ns : List Int) (k : Nat) (hk : k < 1000) (hns : ns.length ≤ 63) (M : Store) : ∃ v : Int, Zbu [.scr (ns.map D.int), .int (k : Int)] M = .ok (.int v) M := by
 have m1 : ZaL 7 (k : Int) = true := Zf2 (by omega)
 have m2 : ZaL (7 * (k : Int)) (k : Int) = true := mul_r (by omega)
 have m3 : ZaL 13 (k : Int) = true := Zf2 (by omega)
 by_cases h : ns.length = 0
 ·exact ⟨_, by simp [Zbu, ZeF, Zr, Zac, Zz, sIf, Zw, Zal, mkF, Za0, below, belowL, h, m1, m2, m3]; rfl⟩
 ·obtain ⟨a, ha, la⟩ := Zdo (k : Int) ns.length (by omega)
  have p0 : 0 < ns.length := by omega
  have p1 : (0 : Int) < ns.length ∧ (ns.length : Int) < 1073741824 := by omega
  exact ⟨ns[a] + (k : Int) / ns.length, by simp [Zbu, ZeF, Zr, Zac, Zz, sIf, Zw, Zal, mkF, Za0, below, belowL, h, p0, p1, ha, la]⟩
def ZlR (s : Stt) : Stp := ((s.place : Int), s.boxes)
theorem ZnX (ts : List Stp) : Zay 60 (Zas ts) = true := by
 simp only [Zas, Zay, List.all_map, List.all_eq_true]
 intro s _
 exact ZnA s
theorem ZmJ (us : List Use) : Zay 60 (ZaA us) = true := by
 simp only [ZaA, Zay, List.all_map, List.all_eq_true]
 intro u _
 simp [Zn, Zay, ZcK, Zgp]
theorem ZmN (roll : ZbC) : Zay 60 (Zf roll) = true := by
 simp only [Zf, Zay, List.all_map, List.all_eq_true]
 intro r _
 cases r <;> simp [Zq, Zay, ZcK, Zgp]
theorem law_holds : ∀ ns : List Int, ns.length ≤ 63 → ∃ M', ZlK [.scr (ns.map D.int)] [] = .ok (.bl true) M' := by
 intro ns hns
 obtain ⟨roll, lroll, R, h1⟩ := ZoL ns []
 obtain ⟨bs, lb, h2⟩ := Zn3 ns []
 obtain ⟨n, G, hn, h3, g0⟩ := Zmj roll R bs 60 [] (by omega) lb
 have pos : 0 < roll.length := by obtain ⟨q, x, e, _⟩ := R.last; rw [e]; simp
 have hl : (Zec roll 60 ⟨0, bs, []⟩).length ≤ 61 := ZjT roll 60 _
 have hgood : ∀ s ∈ Zec roll 60 ⟨0, bs, []⟩, Good roll s := fun s hs => ZiY R 60 ⟨0, bs, []⟩ ⟨pos, lb, by simp [Ze6]⟩ s hs
 have hl0 : 0 < (Zec roll 60 ⟨0, bs, []⟩).length := List.length_pos_iff.mpr (ZoK roll 60 ⟨0, bs, []⟩)
 simp only [List.nil_append] at h3 g0
 generalize Zec roll 60 ⟨0, bs, []⟩ = ss at *
 have lc := ZnK (env := [some (.scr (ns.map D.int)), some (Zf roll), some (Zg bs), some (.ref n), none, none, none, none, none, none]) (i := 3) rfl g0 (by omega)
 have e0 : ss.map Zhw = (ss.map ZlR).map Zak := by rw [List.map_map]; rfl
 rw [e0] at lc
 have l0 : (ss.map ZlR).length = ss.length := by simp
 have k8 : ∀ s ∈ ss.map ZlR, s.2.length = 8 := fun s hs => by
  obtain ⟨x, hx, rfl⟩ := List.mem_map.mp hs
  exact (hgood x hx).bx
 generalize ss.map ZlR = ts0 at lc l0 k8
 obtain ⟨us0, lu0, hu0⟩ := ZjV roll R ss n (G ++ [.lst (ts0.map Zak)]) (Zbq g0 _) hgood hl0 hl
 refine Rt.law (env := [some (.scr (ns.map D.int)), none, none, none, none, none, none, none, none, none]) ?_
 unfold ZmT
 refine Rt.set (d := Zf roll) (M' := []) (ZgI rfl h1) ?_
 refine Rt.set (d := Zg bs) (M' := []) (ZgI rfl h2) ?_
 refine Rt.set (d := .ref n) (M' := G) (ZcI (M1 := []) (M2 := []) (M3 := []) (a := Zf roll) (b := Zg bs) (c := .int 60) rfl rfl rfl h3) ?_
 refine Rt.set lc ?_
 have gt0 : (G ++ [MO.lst (ts0.map Zak), .lst (us0.map Zn)])[G.length]? = some (.lst (ts0.map Zak)) := Za7 _ _ _
 have gu0 : (G ++ [MO.lst (ts0.map Zak), .lst (us0.map Zn)])[G.length + 1]? = some (.lst (us0.map Zn)) := Za4 _ _ 1
 refine Rt.set (d := .ref (G.length + 1)) (M' := G ++ [.lst (ts0.map Zak), .lst (us0.map Zn)]) (Zg6 (ZcB rfl rfl hu0) (by simp [ZaA])) ?_
 generalize G ++ [MO.lst (ts0.map Zak), .lst (us0.map Zn)] = M0 at gt0 gu0
 obtain ⟨c1, hc1⟩ := cell_eq ns 1 (by omega) hns M0
 obtain ⟨v1, hv1⟩ := Zik c1 800 (by omega) (by omega)
 obtain ⟨m, hm, lm⟩ := Zdo v1 5 (by omega)
 have hm' : v1 % 5 = (m : Int) := hm
 have ir : (ZbJ (e2 ZaJ (Zae ZaN (Zb (Zae Zbu (Zb (Za 0) (Zb (eC (.int 1)) (Zj)))) (Zb (eC (.int 800)) (Zj)))) (eC (.int 5)))) [some (.scr (ns.map D.int)), some (Zf roll), some (Zg bs), some (.ref n), some (.ref G.length), some (.ref (G.length + 1)), none, none, none, none] M0 = .ok ⟨Zc1 0 m, none⟩ M0 := by
  have e1' : (e2 ZaJ (Zae ZaN (Zb (Zae Zbu (Zb (Za 0) (Zb (eC (.int 1)) (Zj)))) (Zb (eC (.int 800)) (Zj)))) (eC (.int 5))) [some (.scr (ns.map D.int)), some (Zf roll), some (Zg bs), some (.ref n), some (.ref G.length), some (.ref (G.length + 1)), none, none, none, none] M0 = .ok (.int (m : Int)) M0 := Za8 (ZcB (ZcB rfl rfl hc1) rfl (hv1 M0)) rfl (by simp [hm'])
  have b : ((m : Int)) ≤ 1000000 ∧ -1000000 ≤ ((m : Int)) := by omega
  simp only [ZbJ, e1', R3.bind, b, and_self, if_true, Int.toNat_natCast]
 obtain ⟨e', M', lp, ts, us, bs', m1, m2, x6, x7, t8, lt, lu, lbs, rfl, gt, gu⟩ := Zid (it := ⟨Zc1 0 m, none⟩) (g := Zcg 6)
  (body := (Zr (Zac 7 (Zae ZaN (Zb (Zae Zbu (Zb (Za 0) (Zb (e2 Zaf (eC (.int 2)) (Za 6)) (Zj)))) (Zb (e2 Zaf (eC (.int 810)) (Za 6)) (Zj))))) (Zr (Zi4 (Zae ZaP (Zb (Za 1) (Zb (Za 4) (Zb (Za 5) (Zb (Za 7) (Zj)))))) [4, 5]) (sIf (e2 Zaq (e2 ZaJ (e2 ZaS (Za 7) (eC (.int 13))) (eC (.int 60))) (eC (.int 7))) (Zac 2 (e2 Zaf (eSl (Za 2) (ZaE (eC (.int 1))) (ZaD)) (eSl (Za 2) (ZaD) (ZaE (eC (.int 1)))))) (Zw)))))
  (P := fun j env M' => ∃ (ts : List Stp) (us : List Use) (bs : List Int) (m1 m2 : Nat) (x6 x7 : Option D), (∀ s ∈ ts, s.2.length = 8) ∧ ts.length ≤ 61 + j ∧ us.length ≤ 60 + j ∧ bs.length = 8 ∧ env = [some (.scr (ns.map D.int)), some (Zf roll), some (Zg bs), some (.ref n), some (.ref m1), some (.ref m2), x6, x7, none, none] ∧ M'[m1]? = some (.lst (ts.map Zak)) ∧ M'[m2]? = some (.lst (us.map Zn)))
  (Zc1 0 m) 0 [some (.scr (ns.map D.int)), some (Zf roll), some (Zg bs), some (.ref n), some (.ref G.length), some (.ref (G.length + 1)), none, none, none, none] M0 ⟨ts0, us0, bs, _, _, none, none, k8, by omega, by omega, lb, rfl, gt0, gu0⟩ (fun _ _ _ _ => rfl)
  (fun k d hd env M' ⟨ts, us, bs, m1, m2, x6, x7, t8, lt, lu, lbs, he, g1, g2⟩ => by
   obtain ⟨rfl, lk⟩ := Zgo hd
   subst he
   obtain ⟨c, hc⟩ := cell_eq ns (2 + k) (by omega) hns M'
   obtain ⟨v, hv⟩ := Zik c (810 + k) (by omega) (by omega)
   have hc' : Zbu [.scr (ns.map D.int), .int (2 + (k : Int))] M' = .ok (.int c) M' := hc
   obtain ⟨ts', us', m1', m2', m, G', t8', lt', lu', htc, gm, g1', g2'⟩ := Zgy roll ts t8 (by omega) us (by omega) m1 m2 v M' g1 g2
   have s7 : (Zae ZaN (Zb (Zae Zbu (Zb (Za 0) (Zb (e2 Zaf (eC (.int 2)) (Za 6)) (Zj)))) (Zb (e2 Zaf (eC (.int 810)) (Za 6)) (Zj)))) [some (.scr (ns.map D.int)), some (Zf roll), some (Zg bs), some (.ref n), some (.ref m1), some (.ref m2), some (.int (k : Int)), x7, none, none] M' = .ok (.int v) M' := ZcB (ZcB rfl (by simp) hc') (by simp) (hv M')
   have s8 : Zi4 (Zae ZaP (Zb (Za 1) (Zb (Za 4) (Zb (Za 5) (Zb (Za 7) (Zj)))))) [4, 5] [some (.scr (ns.map D.int)), some (Zf roll), some (Zg bs), some (.ref n), some (.ref m1), some (.ref m2), some (.int (k : Int)), some (.int v), none, none] M' = .nx [some (.scr (ns.map D.int)), some (Zf roll), some (Zg bs), some (.ref n), some (.ref m1'), some (.ref m2'), some (.int (k : Int)), some (.int v), none, none] (M' ++ G') := by
    have cl : (Zae ZaP (Zb (Za 1) (Zb (Za 4) (Zb (Za 5) (Zb (Za 7) (Zj)))))) [some (.scr (ns.map D.int)), some (Zf roll), some (Zg bs), some (.ref n), some (.ref m1), some (.ref m2), some (.int (k : Int)), some (.int v), none, none] M' = .ok (.ref m) (M' ++ G') := ZgS rfl rfl rfl rfl htc
    simp only [Zi4, cl, gm, bindAll, List.set_cons_succ, List.set_cons_zero]
   have s9 : ∃ bs2 : List Int, bs2.length = 8 ∧ (sIf (e2 Zaq (e2 ZaJ (e2 ZaS (Za 7) (eC (.int 13))) (eC (.int 60))) (eC (.int 7))) (Zac 2 (e2 Zaf (eSl (Za 2) (ZaE (eC (.int 1))) (ZaD)) (eSl (Za 2) (ZaD) (ZaE (eC (.int 1)))))) (Zw)) [some (.scr (ns.map D.int)), some (Zf roll), some (Zg bs), some (.ref n), some (.ref m1'), some (.ref m2'), some (.int (k : Int)), some (.int v), none, none] (M' ++ G') = .nx [some (.scr (ns.map D.int)), some (Zf roll), some (Zg bs2), some (.ref n), some (.ref m1'), some (.ref m2'), some (.int (k : Int)), some (.int v), none, none] (M' ++ G') := by
    by_cases q : v / 13 % 60 = 7
    ·refine ⟨bs.drop 1 ++ bs.take 1, by simp [lbs], (ZaT (M' := M' ++ G') (by simp [q])).trans (Zag (d := Zg (bs.drop 1 ++ bs.take 1)) ?_)⟩
     have d1 : cutD (bs.map D.int) (some 1) none = (bs.drop 1).map D.int := by
      have := Zfk (bs.map D.int) 1
      rw [← List.map_drop] at this
      exact this
     have d2 : cutD (bs.map D.int) none (some 1) = (bs.take 1).map D.int := by
      have := ZgL (bs.map D.int) 1
      rw [← List.map_take] at this
      exact this
     refine Za8 (a := .tup ((bs.drop 1).map D.int)) (b := .tup ((bs.take 1).map D.int)) (M1 := M' ++ G') (M2 := M' ++ G') ?_ ?_ ?_
     ·simp only [eSl, Za, ZaD, ZaE, eC, Zg, List.getElem?_cons_succ, List.getElem?_cons_zero, R3.bind, Zfj, d1]
     ·simp only [eSl, Za, ZaD, ZaE, eC, Zg, List.getElem?_cons_succ, List.getElem?_cons_zero, R3.bind, Zfj, d2]
     ·simp only [Zaf]
      rw [if_pos (by simp [lbs])]
      simp [Zg]
    ·exact ⟨bs, lbs, Zy (by simp [q])⟩
   obtain ⟨bs2, lbs2, s9⟩ := s9
   exact ⟨_, _, _, rfl, (Zm (Zag s7)).trans ((Zm s8).trans s9), ts', us', bs2, m1', m2', _, _, t8', by omega, by omega, lbs2, rfl, g1', g2'⟩)
 rw [ZgG] at lt lu
 refine Rt.loop ir lp ?_
 have fa := fun M => Znp roll R bs' ts t8 us M (by omega)
 have du := fun M => ZpW roll R bs' ts t8 us M (by omega) (by omega)
 have s8 : (Zca (Zb (Zaj ZaY (Zb (Za 4) (Zj))) (Zb (Zaj ZaY (Zb (Za 5) (Zj))) (Zb (Zaj ZaY (Zb (Zaj Zfh (Zb (Za 1) (Zj))) (Zj))) (Zj))))) [some (.scr (ns.map D.int)), some (Zf roll), some (Zg bs'), some (.ref n), some (.ref m1), some (.ref m2), x6, x7, none, none] M' = .ok (.ref (M'.length + 1)) (M' ++ [.lst (roll.map Zq), .lst [Zas ts, ZaA us, Zf roll]]) := by
  simp [gt, gu, Zf, Zas, ZaA]
 refine Rt.set s8 ?_
 have gt' := Zbq gt [.lst (roll.map Zq), .lst [Zas ts, ZaA us, Zf roll]]
 have gu' := Zbq gu [.lst (roll.map Zq), .lst [Zas ts, ZaA us, Zf roll]]
 have gh : (M' ++ [MO.lst (roll.map Zq), .lst [Zas ts, ZaA us, Zf roll]])[M'.length + 1]? = some (.lst [Zas ts, ZaA us, Zf roll]) := Za4 _ _ 1
 generalize M' ++ [MO.lst (roll.map Zq), .lst [Zas ts, ZaA us, Zf roll]] = M1 at gt' gu' gh
 refine Rt.set (d := Zb3 (Zfs roll bs' ts us)) (M' := M1) (ZgS (M1 := M1) (M2 := M1) (M3 := M1) (M4 := M1) rfl rfl (by simp [gh]) (by simp [gh]) (fa M1)) ?_
 have b4 : ∀ (x9 : Option D) (M : Store), M[m1]? = some (.lst (ts.map Zak)) → Zaj ZaY (Zb (Za 4) (Zj)) [some (.scr (ns.map D.int)), some (Zf roll), some (Zg bs'), some (.ref n), some (.ref m1), some (.ref m2), x6, x7, some (.ref (M'.length + 1)), x9] M = .ok (Zas ts) M := fun x9 M h => by simp [h, Zas]
 have b5 : ∀ (x9 : Option D) (M : Store), M[m2]? = some (.lst (us.map Zn)) → Zaj ZaY (Zb (Za 5) (Zj)) [some (.scr (ns.map D.int)), some (Zf roll), some (Zg bs'), some (.ref n), some (.ref m1), some (.ref m2), x6, x7, some (.ref (M'.length + 1)), x9] M = .ok (ZaA us) M := fun x9 M h => by simp [h, ZaA]
 refine Rt.skip (M' := M1) (ZfC (ZcB rfl (ZgS rfl rfl (b4 _ M1 gt') (b5 _ M1 gu') (du M1)) (Zon _ M1)) rfl) ?_
 have ls : (Zca (Zb (Zaj ZaY (Zb (Za 4) (Zj))) (Zb (Zaj ZaY (Zb (Za 5) (Zj))) (Zb (Za 1) (Zj))))) [some (.scr (ns.map D.int)), some (Zf roll), some (Zg bs'), some (.ref n), some (.ref m1), some (.ref m2), x6, x7, some (.ref (M'.length + 1)), some (Zb3 (Zfs roll bs' ts us))] M1 = .ok (.ref M1.length) (M1 ++ [.lst [Zas ts, ZaA us, Zf roll]]) := by
  have p4 := b4 (some (Zb3 (Zfs roll bs' ts us))) M1 gt'
  have p5 := b5 (some (Zb3 (Zfs roll bs' ts us))) M1 gu'
  simp only [Zca, Zb, Zj, R3.bind, p4, p5]
  simp
 refine Rt.ret (M' := M1 ++ [.lst [Zas ts, ZaA us, Zf roll]]) (Za8 (a := .ref (M'.length + 1)) (b := .ref M1.length) rfl ls (Zo0 (Zbq gh _) (Za7 _ _ _) ?_))
 have pt : Zay DEEP (Zas ts) = true := ZnX ts
 have pu : Zay DEEP (ZaA us) = true := ZmJ us
 have pr : Zay DEEP (Zf roll) = true := ZmN roll
 simp only [List.all_cons, List.all_nil, pt, pu, pr, Bool.and_self]
end Law
set_option maxHeartbeats 400000
namespace Law
open PySem PySem.Spec PyProof.Rows L2 L3
theorem Zp0 {l : PySem.W.OpenLaw} {w : World} {K : W.Frag} {h : Heap} {mg : Str → Option Value} {fa f0 f1 f2 f3 f4 f5 f6 f7 f8 f9 f10 f11 f12 f13 f14 f15 f16 f17 f18 f19 f20 f21 f22 f23 f24 f25 f26 f27 f28 f29 f30 f31 f32 f33 f34 f35 f36 f37 : Addr} (X : K.In h) (G : h.Ns mainGlobals mg) (hfa : mg "law" = some (.ref fa))
  {od0 an0 od1 an1 od2 an2 od3 an3 od4 an4 od5 an5 od6 an6 od7 an7 od8 an8 od9 an9 od10 an10 od11 an11 od12 an12 od13 an13 od14 an14 od15 an15 od16 an16 od17 an17 od18 an18 od19 an19 od20 an20 od21 an21 od22 an22 od23 an23 od24 an24 od25 an25 od26 an26 od27 an27 od28 an28 od29 an29 od30 an30 od31 an31 od32 an32 od33 an33 od34 an34 od35 an35 od36 an36 od37 an37 : Option Addr} {sl0 sl1 sl2 sl3 sl4 sl5 sl6 sl7 sl8 sl9 sl10 sl11 sl12 sl13 sl14 sl15 sl16 sl17 sl18 sl19 sl20 sl21 sl22 sl23 sl24 sl25 sl26 sl27 sl28 sl29 sl30 sl31 sl32 sl33 sl34 sl35 sl36 sl37 : Array (Option Value)} {oc0 kV0 dc0 pm0 cd0 ct0 oc1 kV1 dc1 pm1 cd1 ct1 oc2 kV2 dc2 pm2 cd2 ct2 oc3 kV3 dc3 pm3 cd3 ct3 oc4 kV4 dc4 pm4 cd4 ct4 oc5 kV5 dc5 pm5 cd5 ct5 oc6 kV6 dc6 pm6 cd6 ct6 oc7 kV7 dc7 pm7 cd7 ct7 oc8 kV8 dc8 pm8 cd8 ct8 oc9 kV9 dc9 pm9 cd9 ct9 oc10 kV10 dc10 pm10 cd10 ct10 oc11 kV11 dc11 pm11 cd11 ct11 oc12 kV12 dc12 pm12 cd12 ct12 oc13 kV13 dc13 pm13 cd13 ct13 oc14 kV14 dc14 pm14 cd14 ct14 oc15 kV15 dc15 pm15 cd15 ct15 oc16 kV16 dc16 pm16 cd16 ct16 oc17 kV17 dc17 pm17 cd17 ct17 oc18 kV18 dc18 pm18 cd18 ct18 oc19 kV19 dc19 pm19 cd19 ct19 oc20 kV20 dc20 pm20 cd20 ct20 oc21 kV21 dc21 pm21 cd21 ct21 oc22 kV22 dc22 pm22 cd22 ct22 oc23 kV23 dc23 pm23 cd23 ct23 oc24 kV24 dc24 pm24 cd24 ct24 oc25 kV25 dc25 pm25 cd25 ct25 oc26 kV26 dc26 pm26 cd26 ct26 oc27 kV27 dc27 pm27 cd27 ct27 oc28 kV28 dc28 pm28 cd28 ct28 oc29 kV29 dc29 pm29 cd29 ct29 oc30 kV30 dc30 pm30 cd30 ct30 oc31 kV31 dc31 pm31 cd31 ct31 oc32 kV32 dc32 pm32 cd32 ct32 oc33 kV33 dc33 pm33 cd33 ct33 oc34 kV34 dc34 pm34 cd34 ct34 oc35 kV35 dc35 pm35 cd35 ct35 oc36 kV36 dc36 pm36 cd36 ct36 oc37 kV37 dc37 pm37 cd37 ct37 : Value}
  (a0 : W.nsIn K mainGlobals "next_place" = some (some (.ref f0))) (l0 : K.lookup f0 = some ⟨oc0, od0, .func (W.fnOf "next_place" "next_place" (Zaw ZcR) (Zap ZcR) (Zt ZcR) .none kV0 dc0 pm0 an0 cd0 ct0), sl0⟩) (c0 : W.codeIn K cd0 "next_place" = true) (k0 : W.keepIn K (.ref f0) = true)
  (a1 : W.nsIn K mainGlobals "worked" = some (some (.ref f1))) (l1 : K.lookup f1 = some ⟨oc1, od1, .func (W.fnOf "worked" "worked" (Zaw ZeW) (Zap ZeW) (Zt ZeW) .none kV1 dc1 pm1 an1 cd1 ct1), sl1⟩) (c1 : W.codeIn K cd1 "worked" = true) (k1 : W.keepIn K (.ref f1) = true)
  (a2 : W.nsIn K mainGlobals "with_box" = some (some (.ref f2))) (l2 : K.lookup f2 = some ⟨oc2, od2, .func (W.fnOf "with_box" "with_box" (Zaw ZdJ) (Zap ZdJ) (Zt ZdJ) .none kV2 dc2 pm2 an2 cd2 ct2), sl2⟩) (c2 : W.codeIn K cd2 "with_box" = true) (k2 : W.keepIn K (.ref f2) = true)
  (a3 : W.nsIn K mainGlobals "cell_value" = some (some (.ref f3))) (l3 : K.lookup f3 = some ⟨oc3, od3, .func (W.fnOf "cell_value" "cell_value" (Zaw ZcO) (Zap ZcO) (Zt ZcO) .none kV3 dc3 pm3 an3 cd3 ct3), sl3⟩) (c3 : W.codeIn K cd3 "cell_value" = true) (k3 : W.keepIn K (.ref f3) = true)
  (a4 : W.nsIn K mainGlobals "next_boxes" = some (some (.ref f4))) (l4 : K.lookup f4 = some ⟨oc4, od4, .func (W.fnOf "next_boxes" "next_boxes" (Zaw ZcQ) (Zap ZcQ) (Zt ZcQ) .none kV4 dc4 pm4 an4 cd4 ct4), sl4⟩) (c4 : W.codeIn K cd4 "next_boxes" = true) (k4 : W.keepIn K (.ref f4) = true)
  (a5 : W.nsIn K mainGlobals "is_within" = some (some (.ref f5))) (l5 : K.lookup f5 = some ⟨oc5, od5, .func (W.fnOf "is_within" "is_within" (Zaw Zdf) (Zap Zdf) (Zt Zdf) .none kV5 dc5 pm5 an5 cd5 ct5), sl5⟩) (c5 : W.codeIn K cd5 "is_within" = true) (k5 : W.keepIn K (.ref f5) = true)
  (a6 : W.nsIn K mainGlobals "is_use" = some (some (.ref f6))) (l6 : K.lookup f6 = some ⟨oc6, od6, .func (W.fnOf "is_use" "is_use" (Zaw ZeR) (Zap ZeR) (Zt ZeR) .none kV6 dc6 pm6 an6 cd6 ct6), sl6⟩) (c6 : W.codeIn K cd6 "is_use" = true) (k6 : W.keepIn K (.ref f6) = true)
  (a7 : W.nsIn K mainGlobals "cell_number" = some (some (.ref f7))) (l7 : K.lookup f7 = some ⟨oc7, od7, .func (W.fnOf "cell_number" "cell_number" (Zaw Zcx) (Zap Zcx) (Zt Zcx) .none kV7 dc7 pm7 an7 cd7 ct7), sl7⟩) (c7 : W.codeIn K cd7 "cell_number" = true) (k7 : W.keepIn K (.ref f7) = true)
  (a8 : W.nsIn K mainGlobals "row_at" = some (some (.ref f8))) (l8 : K.lookup f8 = some ⟨oc8, od8, .func (W.fnOf "row_at" "row_at" (Zaw ZeX) (Zap ZeX) (Zt ZeX) .none kV8 dc8 pm8 an8 cd8 ct8), sl8⟩) (c8 : W.codeIn K cd8 "row_at" = true) (k8 : W.keepIn K (.ref f8) = true)
  (a9 : W.nsIn K mainGlobals "boxes_behind" = some (some (.ref f9))) (l9 : K.lookup f9 = some ⟨oc9, od9, .func (W.fnOf "boxes_behind" "boxes_behind" (Zaw Zci) (Zap Zci) (Zt Zci) .none kV9 dc9 pm9 an9 cd9 ct9), sl9⟩) (c9 : W.codeIn K cd9 "boxes_behind" = true) (k9 : W.keepIn K (.ref f9) = true)
  (a10 : W.nsIn K mainGlobals "step_fits" = some (some (.ref f10))) (l10 : K.lookup f10 = some ⟨oc10, od10, .func (W.fnOf "step_fits" "step_fits" (Zaw Zdb) (Zap Zdb) (Zt Zdb) .none kV10 dc10 pm10 an10 cd10 ct10), sl10⟩) (c10 : W.codeIn K cd10 "step_fits" = true) (k10 : W.keepIn K (.ref f10) = true)
  (a11 : W.nsIn K mainGlobals "use_fits" = some (some (.ref f11))) (l11 : K.lookup f11 = some ⟨oc11, od11, .func (W.fnOf "use_fits" "use_fits" (Zaw ZdH) (Zap ZdH) (Zt ZdH) .none kV11 dc11 pm11 an11 cd11 ct11), sl11⟩) (c11 : W.codeIn K cd11 "use_fits" = true) (k11 : W.keepIn K (.ref f11) = true)
  (a12 : W.nsIn K mainGlobals "use_matches" = some (some (.ref f12))) (l12 : K.lookup f12 = some ⟨oc12, od12, .func (W.fnOf "use_matches" "use_matches" (Zaw Zcy) (Zap Zcy) (Zt Zcy) .none kV12 dc12 pm12 an12 cd12 ct12), sl12⟩) (c12 : W.codeIn K cd12 "use_matches" = true) (k12 : W.keepIn K (.ref f12) = true)
  (a13 : W.nsIn K mainGlobals "first_unfit_step" = some (some (.ref f13))) (l13 : K.lookup f13 = some ⟨oc13, od13, .func (W.fnOf "first_unfit_step" "first_unfit_step" (Zaw Zby) (Zap Zby) (Zt Zby) .none kV13 dc13 pm13 an13 cd13 ct13), sl13⟩) (c13 : W.codeIn K cd13 "first_unfit_step" = true) (k13 : W.keepIn K (.ref f13) = true)
  (a14 : W.nsIn K mainGlobals "first_unfit_use" = some (some (.ref f14))) (l14 : K.lookup f14 = some ⟨oc14, od14, .func (W.fnOf "first_unfit_use" "first_unfit_use" (Zaw ZbE) (Zap ZbE) (Zt ZbE) .none kV14 dc14 pm14 an14 cd14 ct14), sl14⟩) (c14 : W.codeIn K cd14 "first_unfit_use" = true) (k14 : W.keepIn K (.ref f14) = true)
  (a15 : W.nsIn K mainGlobals "first_unmatched_use" = some (some (.ref f15))) (l15 : K.lookup f15 = some ⟨oc15, od15, .func (W.fnOf "first_unmatched_use" "first_unmatched_use" (Zaw Zbg) (Zap Zbg) (Zt Zbg) .none kV15 dc15 pm15 an15 cd15 ct15), sl15⟩) (c15 : W.codeIn K cd15 "first_unmatched_use" = true) (k15 : W.keepIn K (.ref f15) = true)
  (a16 : W.nsIn K mainGlobals "fault_of_steps" = some (some (.ref f16))) (l16 : K.lookup f16 = some ⟨oc16, od16, .func (W.fnOf "fault_of_steps" "fault_of_steps" (Zaw ZbS) (Zap ZbS) (Zt ZbS) .none kV16 dc16 pm16 an16 cd16 ct16), sl16⟩) (c16 : W.codeIn K cd16 "fault_of_steps" = true) (k16 : W.keepIn K (.ref f16) = true)
  (a17 : W.nsIn K mainGlobals "fault_of_uses" = some (some (.ref f17))) (l17 : K.lookup f17 = some ⟨oc17, od17, .func (W.fnOf "fault_of_uses" "fault_of_uses" (Zaw Zb4) (Zap Zb4) (Zt Zb4) .none kV17 dc17 pm17 an17 cd17 ct17), sl17⟩) (c17 : W.codeIn K cd17 "fault_of_uses" = true) (k17 : W.keepIn K (.ref f17) = true)
  (a18 : W.nsIn K mainGlobals "fault" = some (some (.ref f18))) (l18 : K.lookup f18 = some ⟨oc18, od18, .func (W.fnOf "fault" "fault" (Zaw ZfG) (Zap ZfG) (Zt ZfG) .none kV18 dc18 pm18 an18 cd18 ct18), sl18⟩) (c18 : W.codeIn K cd18 "fault" = true) (k18 : W.keepIn K (.ref f18) = true)
  (a19 : W.nsIn K mainGlobals "_law_mix" = some (some (.ref f19))) (l19 : K.lookup f19 = some ⟨oc19, od19, .func (W.fnOf "_law_mix" "_law_mix" (Zaw ZdO) (Zap ZdO) (Zt ZdO) .none kV19 dc19 pm19 an19 cd19 ct19), sl19⟩) (c19 : W.codeIn K cd19 "_law_mix" = true) (k19 : W.keepIn K (.ref f19) = true)
  (a20 : W.nsIn K mainGlobals "_law_number" = some (some (.ref f20))) (l20 : K.lookup f20 = some ⟨oc20, od20, .func (W.fnOf "_law_number" "_law_number" (Zaw ZcA) (Zap ZcA) (Zt ZcA) .none kV20 dc20 pm20 an20 cd20 ct20), sl20⟩) (c20 : W.codeIn K cd20 "_law_number" = true) (k20 : W.keepIn K (.ref f20) = true)
  (a21 : W.nsIn K mainGlobals "_law_row" = some (some (.ref f21))) (l21 : K.lookup f21 = some ⟨oc21, od21, .func (W.fnOf "_law_row" "_law_row" (Zaw ZdI) (Zap ZdI) (Zt ZdI) .none kV21 dc21 pm21 an21 cd21 ct21), sl21⟩) (c21 : W.codeIn K cd21 "_law_row" = true) (k21 : W.keepIn K (.ref f21) = true)
  (a22 : W.nsIn K mainGlobals "_law_roll" = some (some (.ref f22))) (l22 : K.lookup f22 = some ⟨oc22, od22, .func (W.fnOf "_law_roll" "_law_roll" (Zaw Zda) (Zap Zda) (Zt Zda) .none kV22 dc22 pm22 an22 cd22 ct22), sl22⟩) (c22 : W.codeIn K cd22 "_law_roll" = true) (k22 : W.keepIn K (.ref f22) = true)
  (a23 : W.nsIn K mainGlobals "_law_boxes" = some (some (.ref f23))) (l23 : K.lookup f23 = some ⟨oc23, od23, .func (W.fnOf "_law_boxes" "_law_boxes" (Zaw ZcS) (Zap ZcS) (Zt ZcS) .none kV23 dc23 pm23 an23 cd23 ct23), sl23⟩) (c23 : W.codeIn K cd23 "_law_boxes" = true) (k23 : W.keepIn K (.ref f23) = true)
  (a24 : W.nsIn K mainGlobals "_law_goes" = some (some (.ref f24))) (l24 : K.lookup f24 = some ⟨oc24, od24, .func (W.fnOf "_law_goes" "_law_goes" (Zaw Zdk) (Zap Zdk) (Zt Zdk) .none kV24 dc24 pm24 an24 cd24 ct24), sl24⟩) (c24 : W.codeIn K cd24 "_law_goes" = true) (k24 : W.keepIn K (.ref f24) = true)
  (a25 : W.nsIn K mainGlobals "_law_states" = some (some (.ref f25))) (l25 : K.lookup f25 = some ⟨oc25, od25, .func (W.fnOf "_law_states" "_law_states" (Zaw Zcz) (Zap Zcz) (Zt Zcz) .none kV25 dc25 pm25 an25 cd25 ct25), sl25⟩) (c25 : W.codeIn K cd25 "_law_states" = true) (k25 : W.keepIn K (.ref f25) = true)
  (a26 : W.nsIn K mainGlobals "_law_uses" = some (some (.ref f26))) (l26 : K.lookup f26 = some ⟨oc26, od26, .func (W.fnOf "_law_uses" "_law_uses" (Zaw Zdm) (Zap Zdm) (Zt Zdm) .none kV26 dc26 pm26 an26 cd26 ct26), sl26⟩) (c26 : W.codeIn K cd26 "_law_uses" = true) (k26 : W.keepIn K (.ref f26) = true)
  (a27 : W.nsIn K mainGlobals "_law_cell" = some (some (.ref f27))) (l27 : K.lookup f27 = some ⟨oc27, od27, .func (W.fnOf "_law_cell" "_law_cell" (Zaw Zdg) (Zap Zdg) (Zt Zdg) .none kV27 dc27 pm27 an27 cd27 ct27), sl27⟩) (c27 : W.codeIn K cd27 "_law_cell" = true) (k27 : W.keepIn K (.ref f27) = true)
  (a28 : W.nsIn K mainGlobals "_law_steps_changed" = some (some (.ref f28))) (l28 : K.lookup f28 = some ⟨oc28, od28, .func (W.fnOf "_law_steps_changed" "_law_steps_changed" (Zaw Zbm) (Zap Zbm) (Zt Zbm) .none kV28 dc28 pm28 an28 cd28 ct28), sl28⟩) (c28 : W.codeIn K cd28 "_law_steps_changed" = true) (k28 : W.keepIn K (.ref f28) = true)
  (a29 : W.nsIn K mainGlobals "_law_uses_changed" = some (some (.ref f29))) (l29 : K.lookup f29 = some ⟨oc29, od29, .func (W.fnOf "_law_uses_changed" "_law_uses_changed" (Zaw Zbr) (Zap Zbr) (Zt Zbr) .none kV29 dc29 pm29 an29 cd29 ct29), sl29⟩) (c29 : W.codeIn K cd29 "_law_uses_changed" = true) (k29 : W.keepIn K (.ref f29) = true)
  (a30 : W.nsIn K mainGlobals "_law_tables_changed" = some (some (.ref f30))) (l30 : K.lookup f30 = some ⟨oc30, od30, .func (W.fnOf "_law_tables_changed" "_law_tables_changed" (Zaw Zbf) (Zap Zbf) (Zt Zbf) .none kV30 dc30 pm30 an30 cd30 ct30), sl30⟩) (c30 : W.codeIn K cd30 "_law_tables_changed" = true) (k30 : W.keepIn K (.ref f30) = true)
  (a31 : W.nsIn K mainGlobals "_law_step_right" = some (some (.ref f31))) (l31 : K.lookup f31 = some ⟨oc31, od31, .func (W.fnOf "_law_step_right" "_law_step_right" (Zaw ZbD) (Zap ZbD) (Zt ZbD) .none kV31 dc31 pm31 an31 cd31 ct31), sl31⟩) (c31 : W.codeIn K cd31 "_law_step_right" = true) (k31 : W.keepIn K (.ref f31) = true)
  (a32 : W.nsIn K mainGlobals "_law_steps_due" = some (some (.ref f32))) (l32 : K.lookup f32 = some ⟨oc32, od32, .func (W.fnOf "_law_steps_due" "_law_steps_due" (Zaw ZbR) (Zap ZbR) (Zt ZbR) .none kV32 dc32 pm32 an32 cd32 ct32), sl32⟩) (c32 : W.codeIn K cd32 "_law_steps_due" = true) (k32 : W.keepIn K (.ref f32) = true)
  (a33 : W.nsIn K mainGlobals "_law_use_right" = some (some (.ref f33))) (l33 : K.lookup f33 = some ⟨oc33, od33, .func (W.fnOf "_law_use_right" "_law_use_right" (Zaw ZbT) (Zap ZbT) (Zt ZbT) .none kV33 dc33 pm33 an33 cd33 ct33), sl33⟩) (c33 : W.codeIn K cd33 "_law_use_right" = true) (k33 : W.keepIn K (.ref f33) = true)
  (a34 : W.nsIn K mainGlobals "_law_match_right" = some (some (.ref f34))) (l34 : K.lookup f34 = some ⟨oc34, od34, .func (W.fnOf "_law_match_right" "_law_match_right" (Zaw Zbx) (Zap Zbx) (Zt Zbx) .none kV34 dc34 pm34 an34 cd34 ct34), sl34⟩) (c34 : W.codeIn K cd34 "_law_match_right" = true) (k34 : W.keepIn K (.ref f34) = true)
  (a35 : W.nsIn K mainGlobals "_law_due" = some (some (.ref f35))) (l35 : K.lookup f35 = some ⟨oc35, od35, .func (W.fnOf "_law_due" "_law_due" (Zaw ZdS) (Zap ZdS) (Zt ZdS) .none kV35 dc35 pm35 an35 cd35 ct35), sl35⟩) (c35 : W.codeIn K cd35 "_law_due" = true) (k35 : W.keepIn K (.ref f35) = true)
  (a36 : W.nsIn K mainGlobals "_law_same" = some (some (.ref f36))) (l36 : K.lookup f36 = some ⟨oc36, od36, .func (W.fnOf "_law_same" "_law_same" (Zaw Zdh) (Zap Zdh) (Zt Zdh) .none kV36 dc36 pm36 an36 cd36 ct36), sl36⟩) (c36 : W.codeIn K cd36 "_law_same" = true) (k36 : W.keepIn K (.ref f36) = true)
  (a37 : W.nsIn K mainGlobals "law" = some (some (.ref f37))) (l37 : K.lookup f37 = some ⟨oc37, od37, .func (W.fnOf "law" "law" (Zaw Zgk) (Zap Zgk) (Zt Zgk) .none kV37 dc37 pm37 an37 cd37 ct37), sl37⟩) (c37 : W.codeIn K cd37 "law" = true) (k37 : W.keepIn K (.ref f37) = true)
  (z_bool : W.nsIn K mainGlobals "bool" = some none)
  (z_dict : W.nsIn K mainGlobals "dict" = some none)
  (z_enumerate : W.nsIn K mainGlobals "enumerate" = some none)
  (z_int : W.nsIn K mainGlobals "int" = some none)
  (z_isinstance : W.nsIn K mainGlobals "isinstance" = some none)
  (z_len : W.nsIn K mainGlobals "len" = some none)
  (z_list : W.nsIn K mainGlobals "list" = some none)
  (z_range : W.nsIn K mainGlobals "range" = some none)
  (z_sorted : W.nsIn K mainGlobals "sorted" = some none)
  (z_str : W.nsIn K mainGlobals "str" = some none)
  (z_tuple : W.nsIn K mainGlobals "tuple" = some none) :
  ∃ fd : FuncData, (∀ (s : Shared) (v : Value), BindsTo s fd ⟨[v], []⟩ [("script", v)]) ∧ ∀ base : Heap, K.In base → base.Ns mainGlobals mg → ZhO l.prog w K mg base CX0 8 fa fd ["script"] (sp3 K 1 ZlK) := by
 have e := hfa.symm.trans (W.mg_of X G a37)
 cases e
 have T : Txt K mg := ⟨trivial, W.mg_none_of X G z_bool, W.mg_none_of X G z_dict, W.mg_none_of X G z_enumerate, W.mg_none_of X G z_int, W.mg_none_of X G z_isinstance, W.mg_none_of X G z_len, W.mg_none_of X G z_list, W.mg_none_of X G z_range, W.mg_none_of X G z_sorted, W.mg_none_of X G z_str, W.mg_none_of X G z_tuple⟩
 have D_next_place : Zav K mg "next_place" ZcR ["row", "place", "boxes"] := Zax X G a0 l0 c0 k0 (Binds.all fun us hl => match us, hl with | [_, _, _], _ => rfl)
 have D_worked : Zav K mg "worked" ZeW ["name", "one", "other"] := Zax X G a1 l1 c1 k1 (Binds.all fun us hl => match us, hl with | [_, _, _], _ => rfl)
 have D_with_box : Zav K mg "with_box" ZdJ ["boxes", "box", "value"] := Zax X G a2 l2 c2 k2 (Binds.all fun us hl => match us, hl with | [_, _, _], _ => rfl)
 have D_cell_value : Zav K mg "cell_value" ZcO ["cells", "number"] := Zax X G a3 l3 c3 k3 (Binds.all fun us hl => match us, hl with | [_, _], _ => rfl)
 have D_next_boxes : Zav K mg "next_boxes" ZcQ ["row", "boxes", "cells"] := Zax X G a4 l4 c4 k4 (Binds.all fun us hl => match us, hl with | [_, _, _], _ => rfl)
 have D_is_within : Zav K mg "is_within" Zdf ["number", "many"] := Zax X G a5 l5 c5 k5 (Binds.all fun us hl => match us, hl with | [_, _], _ => rfl)
 have D_is_use : Zav K mg "is_use" ZeR ["row"] := Zax X G a6 l6 c6 k6 (Binds.all fun us hl => match us, hl with | [_], _ => rfl)
 have D_cell_number : Zav K mg "cell_number" Zcx ["row", "boxes"] := Zax X G a7 l7 c7 k7 (Binds.all fun us hl => match us, hl with | [_, _], _ => rfl)
 have D_row_at : Zav K mg "row_at" ZeX ["roll", "place"] := Zax X G a8 l8 c8 k8 (Binds.all fun us hl => match us, hl with | [_, _], _ => rfl)
 have D_boxes_behind : Zav K mg "boxes_behind" Zci ["roll_row", "boxes", "told_boxes"] := Zax X G a9 l9 c9 k9 (Binds.all fun us hl => match us, hl with | [_, _, _], _ => rfl)
 have D_step_fits : Zav K mg "step_fits" Zdb ["roll", "row", "behind"] := Zax X G a10 l10 c10 k10 (Binds.all fun us hl => match us, hl with | [_, _, _], _ => rfl)
 have D_use_fits : Zav K mg "use_fits" ZdH ["ahead", "row"] := Zax X G a11 l11 c11 k11 (Binds.all fun us hl => match us, hl with | [_, _], _ => rfl)
 have D_use_matches : Zav K mg "use_matches" Zcy ["roll", "steps", "row"] := Zax X G a12 l12 c12 k12 (Binds.all fun us hl => match us, hl with | [_, _, _], _ => rfl)
 have D_first_unfit_step : Zav K mg "first_unfit_step" Zby ["roll", "steps"] := Zax X G a13 l13 c13 k13 (Binds.all fun us hl => match us, hl with | [_, _], _ => rfl)
 have D_first_unfit_use : Zav K mg "first_unfit_use" ZbE ["ahead", "uses"] := Zax X G a14 l14 c14 k14 (Binds.all fun us hl => match us, hl with | [_, _], _ => rfl)
 have D_first_unmatched_use : Zav K mg "first_unmatched_use" Zbg ["roll", "steps", "uses"] := Zax X G a15 l15 c15 k15 (Binds.all fun us hl => match us, hl with | [_, _, _], _ => rfl)
 have D_fault_of_steps : Zav K mg "fault_of_steps" ZbS ["roll", "boxes", "steps"] := Zax X G a16 l16 c16 k16 (Binds.all fun us hl => match us, hl with | [_, _, _], _ => rfl)
 have D_fault_of_uses : Zav K mg "fault_of_uses" Zb4 ["roll", "steps", "uses"] := Zax X G a17 l17 c17 k17 (Binds.all fun us hl => match us, hl with | [_, _, _], _ => rfl)
 have D_fault : Zav K mg "fault" ZfG ["roll", "boxes", "steps", "uses"] := Zax X G a18 l18 c18 k18 (Binds.all fun us hl => match us, hl with | [_, _, _, _], _ => rfl)
 have D__law_mix : Zav K mg "_law_mix" ZdO ["cell", "k"] := Zax X G a19 l19 c19 k19 (Binds.all fun us hl => match us, hl with | [_, _], _ => rfl)
 have D__law_number : Zav K mg "_law_number" ZcA ["number"] := Zax X G a20 l20 c20 k20 (Binds.all fun us hl => match us, hl with | [_], _ => rfl)
 have D__law_row : Zav K mg "_law_row" ZdI ["cell", "k", "size"] := Zax X G a21 l21 c21 k21 (Binds.all fun us hl => match us, hl with | [_, _, _], _ => rfl)
 have D__law_roll : Zav K mg "_law_roll" Zda ["script"] := Zax X G a22 l22 c22 k22 (Binds.all fun us hl => match us, hl with | [_], _ => rfl)
 have D__law_boxes : Zav K mg "_law_boxes" ZcS ["script"] := Zax X G a23 l23 c23 k23 (Binds.all fun us hl => match us, hl with | [_], _ => rfl)
 have D__law_goes : Zav K mg "_law_goes" Zdk ["row", "place", "boxes", "cells"] := Zax X G a24 l24 c24 k24 (Binds.all fun us hl => match us, hl with | [_, _, _, _], _ => rfl)
 have D__law_states : Zav K mg "_law_states" Zcz ["roll", "first", "most"] := Zax X G a25 l25 c25 k25 (Binds.all fun us hl => match us, hl with | [_, _, _], _ => rfl)
 have D__law_uses : Zav K mg "_law_uses" Zdm ["roll", "states"] := Zax X G a26 l26 c26 k26 (Binds.all fun us hl => match us, hl with | [_, _], _ => rfl)
 have D__law_cell : Zav K mg "_law_cell" Zdg ["script", "k"] := Zax X G a27 l27 c27 k27 (Binds.all fun us hl => match us, hl with | [_, _], _ => rfl)
 have D__law_steps_changed : Zav K mg "_law_steps_changed" Zbm ["roll", "steps", "kind", "more"] := Zax X G a28 l28 c28 k28 (Binds.all fun us hl => match us, hl with | [_, _, _, _], _ => rfl)
 have D__law_uses_changed : Zav K mg "_law_uses_changed" Zbr ["uses", "kind", "more"] := Zax X G a29 l29 c29 k29 (Binds.all fun us hl => match us, hl with | [_, _, _], _ => rfl)
 have D__law_tables_changed : Zav K mg "_law_tables_changed" Zbf ["roll", "steps", "uses", "cell"] := Zax X G a30 l30 c30 k30 (Binds.all fun us hl => match us, hl with | [_, _, _, _], _ => rfl)
 have D__law_step_right : Zav K mg "_law_step_right" ZbD ["roll", "row", "behind"] := Zax X G a31 l31 c31 k31 (Binds.all fun us hl => match us, hl with | [_, _, _], _ => rfl)
 have D__law_steps_due : Zav K mg "_law_steps_due" ZbR ["roll", "boxes", "steps"] := Zax X G a32 l32 c32 k32 (Binds.all fun us hl => match us, hl with | [_, _, _], _ => rfl)
 have D__law_use_right : Zav K mg "_law_use_right" ZbT ["uses", "k"] := Zax X G a33 l33 c33 k33 (Binds.all fun us hl => match us, hl with | [_, _], _ => rfl)
 have D__law_match_right : Zav K mg "_law_match_right" Zbx ["roll", "steps", "row"] := Zax X G a34 l34 c34 k34 (Binds.all fun us hl => match us, hl with | [_, _, _], _ => rfl)
 have D__law_due : Zav K mg "_law_due" ZdS ["roll", "boxes", "steps", "uses"] := Zax X G a35 l35 c35 k35 (Binds.all fun us hl => match us, hl with | [_, _, _, _], _ => rfl)
 have D__law_same : Zav K mg "_law_same" Zdh ["found", "due"] := Zax X G a36 l36 c36 k36 (Binds.all fun us hl => match us, hl with | [_, _], _ => rfl)
 refine ⟨W.fnOf "law" "law" (Zaw Zgk) (Zap Zgk) (Zt Zgk) .none kV37 dc37 pm37 an37 cd37 ct37, fun s v => .of_eq rfl, fun base _ _ => ?_⟩
 have F_next_place := Ziw (P := l.prog) (w := w) (base := base) D_next_place T
 have F_worked := ZmQ (P := l.prog) (w := w) (base := base) D_worked T
 have F_with_box := ZjU (P := l.prog) (w := w) (base := base) D_with_box T
 have F_cell_value := Zio (P := l.prog) (w := w) (base := base) D_cell_value T
 have F_next_boxes := Zim (P := l.prog) (w := w) (base := base) D_next_boxes T F_worked F_with_box F_cell_value
 have F_is_within := Zjz (P := l.prog) (w := w) (base := base) D_is_within T
 have F_is_use := Zmy (P := l.prog) (w := w) (base := base) D_is_use T
 have F_cell_number := Zii (P := l.prog) (w := w) (base := base) D_cell_number T
 have F_row_at := ZmC (P := l.prog) (w := w) (base := base) D_row_at T F_is_within
 have F_boxes_behind := Zhl (P := l.prog) (w := w) (base := base) D_boxes_behind T F_next_boxes F_with_box
 have F_step_fits := Zjj (P := l.prog) (w := w) (base := base) D_step_fits T F_next_place F_row_at F_boxes_behind
 have F_use_fits := ZkI (P := l.prog) (w := w) (base := base) D_use_fits T
 have F_use_matches := ZhC (P := l.prog) (w := w) (base := base) D_use_matches T F_is_within F_is_use F_cell_number F_row_at
 have F_first_unfit_step := ZfN (P := l.prog) (w := w) (base := base) D_first_unfit_step T F_step_fits
 have F_first_unfit_use := Zf9 (P := l.prog) (w := w) (base := base) D_first_unfit_use T F_use_fits
 have F_first_unmatched_use := Zfa (P := l.prog) (w := w) (base := base) D_first_unmatched_use T F_use_matches
 have F_fault_of_steps := Zgu (P := l.prog) (w := w) (base := base) D_fault_of_steps T F_row_at F_first_unfit_step
 have F_fault_of_uses := Zg1 (P := l.prog) (w := w) (base := base) D_fault_of_uses T F_is_use F_first_unfit_use F_first_unmatched_use
 have F_fault := Znu (P := l.prog) (w := w) (base := base) D_fault T F_fault_of_steps F_fault_of_uses
 have F__law_mix := Zj0 (P := l.prog) (w := w) (base := base) D__law_mix T
 have F__law_number := Zig (P := l.prog) (w := w) (base := base) D__law_number T
 have F__law_row := Zkx (P := l.prog) (w := w) (base := base) D__law_row T F__law_mix F__law_number
 have F__law_roll := Zjg (P := l.prog) (w := w) (base := base) D__law_roll T F__law_mix F__law_row
 have F__law_boxes := Zit (P := l.prog) (w := w) (base := base) D__law_boxes T F__law_mix F__law_number
 have F__law_goes := Zjv (P := l.prog) (w := w) (base := base) D__law_goes T
 have F__law_states := Zh2 (P := l.prog) (w := w) (base := base) D__law_states T F__law_goes
 have F__law_uses := ZjJ (P := l.prog) (w := w) (base := base) D__law_uses T
 have F__law_cell := ZjE (P := l.prog) (w := w) (base := base) D__law_cell T
 have F__law_steps_changed := Zfi (P := l.prog) (w := w) (base := base) D__law_steps_changed T
 have F__law_uses_changed := ZfB (P := l.prog) (w := w) (base := base) D__law_uses_changed T
 have F__law_tables_changed := Zfb (P := l.prog) (w := w) (base := base) D__law_tables_changed T F__law_steps_changed F__law_uses_changed
 have F__law_step_right := Zgd (P := l.prog) (w := w) (base := base) D__law_step_right T F__law_goes
 have F__law_steps_due := ZgA (P := l.prog) (w := w) (base := base) D__law_steps_due T F__law_step_right
 have F__law_use_right := Zgr (P := l.prog) (w := w) (base := base) D__law_use_right T
 have F__law_match_right := ZfO (P := l.prog) (w := w) (base := base) D__law_match_right T
 have F__law_due := Zkh (P := l.prog) (w := w) (base := base) D__law_due T F__law_steps_due F__law_use_right F__law_match_right
 have F__law_same := Zjd (P := l.prog) (w := w) (base := base) D__law_same T
 exact Zqr (Zna (st := Zgk) l37 c37 k37) T F_fault F__law_mix F__law_roll F__law_boxes F__law_states F__law_uses F__law_cell F__law_tables_changed F__law_due F__law_same
end Law
open PySem PySem.W PyProof.Rows
set_option maxRecDepth 100000 in
set_option maxHeartbeats 0 in
theorem PySem.Challenge.cw_stepledger_k34_fault_is_the_first_holds : PySem.Challenge.rw_stepledger_k34_fault_is_the_first.Holds := by
 w_on; o_law; k_head; (case hw => w_witness2)
 k_fill
 refine L3.Zrn (l := PySem.Challenge.rw_stepledger_k34_fault_is_the_first) (k := 8) (F := Law.ZlK) rfl rfl ⟨rfl, by decide, by decide⟩ (fun w h Y => W.kIn_of Y) ?G Law.law_holds
 case G =>
  intro w mg fa h KX G hmg
  refine' Law.Zp0 KX G hmg ?a0 ?l0 ?c0 ?k0 ?a1 ?l1 ?c1 ?k1 ?a2 ?l2 ?c2 ?k2 ?a3 ?l3 ?c3 ?k3 ?a4 ?l4 ?c4 ?k4 ?a5 ?l5 ?c5 ?k5 ?a6 ?l6 ?c6 ?k6 ?a7 ?l7 ?c7 ?k7 ?a8 ?l8 ?c8 ?k8 ?a9 ?l9 ?c9 ?k9 ?a10 ?l10 ?c10 ?k10 ?a11 ?l11 ?c11 ?k11 ?a12 ?l12 ?c12 ?k12 ?a13 ?l13 ?c13 ?k13 ?a14 ?l14 ?c14 ?k14 ?a15 ?l15 ?c15 ?k15 ?a16 ?l16 ?c16 ?k16 ?a17 ?l17 ?c17 ?k17 ?a18 ?l18 ?c18 ?k18 ?a19 ?l19 ?c19 ?k19 ?a20 ?l20 ?c20 ?k20 ?a21 ?l21 ?c21 ?k21 ?a22 ?l22 ?c22 ?k22 ?a23 ?l23 ?c23 ?k23 ?a24 ?l24 ?c24 ?k24 ?a25 ?l25 ?c25 ?k25 ?a26 ?l26 ?c26 ?k26 ?a27 ?l27 ?c27 ?k27 ?a28 ?l28 ?c28 ?k28 ?a29 ?l29 ?c29 ?k29 ?a30 ?l30 ?c30 ?k30 ?a31 ?l31 ?c31 ?k31 ?a32 ?l32 ?c32 ?k32 ?a33 ?l33 ?c33 ?k33 ?a34 ?l34 ?c34 ?k34 ?a35 ?l35 ?c35 ?k35 ?a36 ?l36 ?c36 ?k36 ?a37 ?l37 ?c37 ?k37 ?z_bool ?z_dict ?z_enumerate ?z_int ?z_isinstance ?z_len ?z_list ?z_range ?z_sorted ?z_str ?z_tuple
  (case a0 => k_is)
  (case l0 => k_is)
  (case c0 => k_is)
  (case k0 => k_is)
  (case a1 => k_is)
  (case l1 => k_is)
  (case c1 => k_is)
  (case k1 => k_is)
  (case a2 => k_is)
  (case l2 => k_is)
  (case c2 => k_is)
  (case k2 => k_is)
  (case a3 => k_is)
  (case l3 => k_is)
  (case c3 => k_is)
  (case k3 => k_is)
  (case a4 => k_is)
  (case l4 => k_is)
  (case c4 => k_is)
  (case k4 => k_is)
  (case a5 => k_is)
  (case l5 => k_is)
  (case c5 => k_is)
  (case k5 => k_is)
  (case a6 => k_is)
  (case l6 => k_is)
  (case c6 => k_is)
  (case k6 => k_is)
  (case a7 => k_is)
  (case l7 => k_is)
  (case c7 => k_is)
  (case k7 => k_is)
  (case a8 => k_is)
  (case l8 => k_is)
  (case c8 => k_is)
  (case k8 => k_is)
  (case a9 => k_is)
  (case l9 => k_is)
  (case c9 => k_is)
  (case k9 => k_is)
  (case a10 => k_is)
  (case l10 => k_is)
  (case c10 => k_is)
  (case k10 => k_is)
  (case a11 => k_is)
  (case l11 => k_is)
  (case c11 => k_is)
  (case k11 => k_is)
  (case a12 => k_is)
  (case l12 => k_is)
  (case c12 => k_is)
  (case k12 => k_is)
  (case a13 => k_is)
  (case l13 => k_is)
  (case c13 => k_is)
  (case k13 => k_is)
  (case a14 => k_is)
  (case l14 => k_is)
  (case c14 => k_is)
  (case k14 => k_is)
  (case a15 => k_is)
  (case l15 => k_is)
  (case c15 => k_is)
  (case k15 => k_is)
  (case a16 => k_is)
  (case l16 => k_is)
  (case c16 => k_is)
  (case k16 => k_is)
  (case a17 => k_is)
  (case l17 => k_is)
  (case c17 => k_is)
  (case k17 => k_is)
  (case a18 => k_is)
  (case l18 => k_is)
  (case c18 => k_is)
  (case k18 => k_is)
  (case a19 => k_is)
  (case l19 => k_is)
  (case c19 => k_is)
  (case k19 => k_is)
  (case a20 => k_is)
  (case l20 => k_is)
  (case c20 => k_is)
  (case k20 => k_is)
  (case a21 => k_is)
  (case l21 => k_is)
  (case c21 => k_is)
  (case k21 => k_is)
  (case a22 => k_is)
  (case l22 => k_is)
  (case c22 => k_is)
  (case k22 => k_is)
  (case a23 => k_is)
  (case l23 => k_is)
  (case c23 => k_is)
  (case k23 => k_is)
  (case a24 => k_is)
  (case l24 => k_is)
  (case c24 => k_is)
  (case k24 => k_is)
  (case a25 => k_is)
  (case l25 => k_is)
  (case c25 => k_is)
  (case k25 => k_is)
  (case a26 => k_is)
  (case l26 => k_is)
  (case c26 => k_is)
  (case k26 => k_is)
  (case a27 => k_is)
  (case l27 => k_is)
  (case c27 => k_is)
  (case k27 => k_is)
  (case a28 => k_is)
  (case l28 => k_is)
  (case c28 => k_is)
  (case k28 => k_is)
  (case a29 => k_is)
  (case l29 => k_is)
  (case c29 => k_is)
  (case k29 => k_is)
  (case a30 => k_is)
  (case l30 => k_is)
  (case c30 => k_is)
  (case k30 => k_is)
  (case a31 => k_is)
  (case l31 => k_is)
  (case c31 => k_is)
  (case k31 => k_is)
  (case a32 => k_is)
  (case l32 => k_is)
  (case c32 => k_is)
  (case k32 => k_is)
  (case a33 => k_is)
  (case l33 => k_is)
  (case c33 => k_is)
  (case k33 => k_is)
  (case a34 => k_is)
  (case l34 => k_is)
  (case c34 => k_is)
  (case k34 => k_is)
  (case a35 => k_is)
  (case l35 => k_is)
  (case c35 => k_is)
  (case k35 => k_is)
  (case a36 => k_is)
  (case l36 => k_is)
  (case c36 => k_is)
  (case k36 => k_is)
  (case a37 => k_is)
  (case l37 => k_is)
  (case c37 => k_is)
  (case k37 => k_is)
  (case z_bool => k_is)
  (case z_dict => k_is)
  (case z_enumerate => k_is)
  (case z_int => k_is)
  (case z_isinstance => k_is)
  (case z_len => k_is)
  (case z_list => k_is)
  (case z_range => k_is)
  (case z_sorted => k_is)
  (case z_str => k_is)
  (case z_tuple => k_is)
