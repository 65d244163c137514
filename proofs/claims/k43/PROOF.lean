import PyProof.Rows.All
import Wide.All
import OpenK.AllK
import Wide.FinOn
import Lean
import PyProof.EqAt
import PyProof.EqKinds
import PyProof.TupleCall
import PySem.Challenge.RW_stepledger_k43_steps_alone
set_option Elab.async false
set_option linter.all false
set_option maxRecDepth 100000
namespace L2
open PySem PySem.Spec PyProof.Rows
abbrev Key := Sum Int Str
def Zfd : Key → Value → Bool
 | .inl k, v => Value.isInt k v
 | .inr x, v => Value.isStrOf x v
def Zm8 (w : World) : Key → Int
 | .inl k => hashInt k
 | .inr x => hashStr w x
theorem Za0 : ∀ {k : Key} {v : Value}, Zfd k v = true → (∃ i t, k = Sum.inl i ∧ v = Value.int i t) ∨ (∃ x t, k = Sum.inr x ∧ v = Value.str x t)
 | .inl i, v, h => by
  obtain ⟨t, e⟩ := Value.isInt_shape (k := i) (v := v) h
  exact .inl ⟨i, t, rfl, e⟩
 | .inr x, v, h => by
  obtain ⟨t, e⟩ := Value.isStrOf_shape (x := x) (v := v) h
  exact .inr ⟨x, t, rfl, e⟩
theorem ZhQ (i : Int) (t : Tok) : Zfd (.inl i) (.int i t) = true := by simp [Zfd, Value.isInt]
theorem Zhv (x : Str) (t : Tok) : Zfd (.inr x) (.str x t) = true := by simp [Zfd, Value.isStrOf]
theorem Zkz (a b : Int) : decide ((Sum.inl a : Key) = Sum.inl b) = (a == b) := by
 by_cases e : a = b
 ·subst e; simp
 ·have h : ¬ (Sum.inl a : Key) = Sum.inl b := fun q => e (Sum.inl.inj q)
  rw [decide_eq_false h]
  exact (beq_eq_false_iff_ne.mpr e).symm
theorem Zlw (a b : Str) : decide ((Sum.inr a : Key) = Sum.inr b) = decide (a = b) := by
 by_cases e : a = b
 ·subst e; simp
 ·have h : ¬ (Sum.inr a : Key) = Sum.inr b := fun q => e (Sum.inr.inj q)
  rw [decide_eq_false h, decide_eq_false e]
theorem ZlK (a : Int) (b : Str) : decide ((Sum.inl a : Key) = Sum.inr b) = false := decide_eq_false (fun q => nomatch q)
theorem Zky (a : Str) (b : Int) : decide ((Sum.inr a : Key) = Sum.inl b) = false := decide_eq_false (fun q => nomatch q)
def ZaM (prog : Program) (w : World) : PySem.KeyKind prog w Key where
 is := Zfd
 hash := Zm8 w
 inj := fun v a b ha hb => by
  rcases Za0 ha with ⟨i, t, rfl, rfl⟩ | ⟨x, t, rfl, rfl⟩
  ·rcases Za0 hb with ⟨j, u, rfl, e⟩ | ⟨y, u, rfl, e⟩
   ·injection e with e1 _; rw [e1]
   ·exact nomatch e
  ·rcases Za0 hb with ⟨j, u, rfl, e⟩ | ⟨y, u, rfl, e⟩
   ·exact nomatch e
   ·injection e with e1 _; rw [e1]
 byValue := fun k v h => by
  rcases Za0 h with ⟨i, t, rfl, rfl⟩ | ⟨x, t, rfl, rfl⟩ <;> rfl
 pyHash := fun hv h => by
  rcases Za0 hv with ⟨i, t, rfl, rfl⟩ | ⟨x, t, rfl, rfl⟩
  ·exact wpAny_pyHash_int h
  ·exact wpAny_pyHash_str h
 eqBool := fun hu hv h => by
  rcases Za0 hu with ⟨i, t, rfl, rfl⟩ | ⟨x, t, rfl, rfl⟩
  ·rcases Za0 hv with ⟨j, u, rfl, rfl⟩ | ⟨y, u, rfl, rfl⟩
   ·rw [Zkz] at h; exact wpAny_eqBool_int h
   ·rw [ZlK] at h; exact SeqAt.EqAt.int_str i t y u _ _ _ _ h
  ·rcases Za0 hv with ⟨j, u, rfl, rfl⟩ | ⟨y, u, rfl, rfl⟩
   ·rw [Zky] at h; exact SeqAt.EqAt.str_int x t j u _ _ _ _ h
   ·rw [Zlw] at h; exact wpAny_eqBool_str h
 «strs» := fun k x t v h => by
  rcases Za0 h with ⟨i, u, rfl, e⟩ | ⟨y, u, rfl, e⟩
  ·exact nomatch e
  ·injection e with e1 _
   subst e1
   cases v <;> rfl
theorem Zgn (prog : Program) (w : World) (i : Int) (t : Tok) : (ZaM prog w).is (.inl i) (.int i t) = true := ZhQ i t
theorem Zf6 (prog : Program) (w : World) (x : Str) (t : Tok) : (ZaM prog w).is (.inr x) (.str x t) = true := Zhv x t
end L2
namespace L2
open PySem PySem.Spec PyProof.Rows
inductive V where
 | non | bl (b : Bool) | int (i : Int) | str (x : Str) | byt (b : Array UInt8) | flt (b : UInt64) | ref (a : Addr) | ty (n : String)
 deriving DecidableEq
def RelV : V → Value → Prop
 | .non, u => u = Value.none
 | .bl b, u => u = Value.bool b
 | .int i, u => ∃ t, u = Value.int i t
 | .str x, u => ∃ t, u = Value.str x t
 | .byt b, u => ∃ t, u = Value.bytes b t
 | .flt b, u => ∃ t, u = Value.float b t
 | .ref a, u => u = Value.ref a
 | .ty n, u => u = Value.type n
abbrev Vals : List V → List Value → Prop := Paired RelV
theorem Vals.length {xs : List V} {us : List Value} (r : Vals xs us) : xs.length = us.length := Paired.length r
theorem Vals.get : ∀ {xs : List V} {us : List Value} {i : Nat} {x : V}, Vals xs us → xs[i]? = some x → ∃ u, us[i]? = some u ∧ RelV x u
 | _, _, _, _, .nil, e => by simp at e
 | _, _, 0, _, .cons r _, e => by simp at e; subst e; exact ⟨_, rfl, r⟩
 | _, _, i + 1, x, .cons _ t, e => by
  obtain ⟨u, h1, h2⟩ := Vals.get (i := i) (x := x) t (by simpa using e)
  exact ⟨u, by simpa using h1, h2⟩
theorem Vals.set {x : V} {u : Value} (r : RelV x u) : ∀ {xs : List V} {us : List Value} (i : Nat), Vals xs us → Vals (xs.set i x) (us.set i u)
 | _, _, _, .nil => .nil
 | _, _, 0, .cons _ t => .cons r t
 | _, _, i + 1, .cons q t => .cons q (Vals.set r i t)
theorem Vals.append : ∀ {xs ys : List V} {us ws : List Value}, Vals xs us → Vals ys ws → Vals (xs ++ ys) (us ++ ws)
 | _, _, _, _, .nil, s => s
 | _, _, _, _, .cons r t, s => .cons r (Vals.append t s)
theorem Vals.take : ∀ {xs : List V} {us : List Value} (n : Nat), Vals xs us → Vals (xs.take n) (us.take n)
 | _, _, 0, _ => .nil
 | _, _, _ + 1, .nil => .nil
 | _, _, n + 1, .cons r t => .cons r (Vals.take n t)
theorem Vals.drop : ∀ {xs : List V} {us : List Value} (n : Nat), Vals xs us → Vals (xs.drop n) (us.drop n)
 | _, _, 0, r => r
 | _, _, _ + 1, .nil => .nil
 | _, _, n + 1, .cons _ t => Vals.drop n t
def ZfN : Option V → Option Value → Prop
 | some v, some u => RelV v u
 | none, none => True
 | _, _ => False
def KV {κ : Type} : List (κ × V) → List (κ × Value) → Prop := Paired fun (p : κ × V) (q : κ × Value) => p.1 = q.1 ∧ RelV p.2 q.2
def kV : Key → V
 | .inl i => .int i
 | .inr x => .str x
inductive HO where
 /-- a list -/
 | lst (xs : List V)
 /-- a tuple (never changes) -/
 | tup (xs : List V)
 /-- a dict whose keys are ints and texts; one whose keys are tuples of ints and texts (the empty one is both) -/
 | dK (kvs : List (Key × V)) | dT (kvs : List (List Key × V))
 /-- a set of ints: its members, its size -/
 | set (S : Int → Bool) (n : Nat)
 /-- an instance of the class at C, its dict at dx, its attributes -/
 | ins (C dx : Addr) (fs : List (Str × V))
 /-- the dict of the instance at x -/
 | own (x : Addr)
 /-- the dict of an exception -/
 | xd (fs : List (Str × V))
 /-- a bound method, f of x -/
 | met (f x : Addr)
 /-- a range object lo, lo + 1, .. below hi -/
 | rng (lo hi : Int)
 /-- a thing that is known to the object (the script; a dict while a loop walks it): read, never written while it is so -/
 | frz (o : Obj) (u : HO)
 /-- a code object's table -/
 | tbl (ps : Array Value)
 /-- any other thing, by what is true of its one object (a def of one's own: SetO a S n := HO.ext fun h => ..) -/
 | ext (φ : Heap → Prop)
abbrev Hp := Addr → Option HO
def upd (H : Hp) (a : Addr) (o : HO) : Hp := fun b => if b = a then some o else H b
theorem ZcN {H : Hp} {a : Addr} {o : HO} : upd H a o a = some o := by unfold upd; rw [if_pos rfl]
theorem ZaW {H : Hp} {a b : Addr} {o : HO} (h : b ≠ a) : upd H a o b = H b := by unfold upd; rw [if_neg h]
theorem Zcq {H : Hp} {a b : Addr} {o : HO} (h : H a = some o) (h' : H b = none) : a ≠ b := by
 intro e; subst e; rw [h] at h'; cases h'
section
variable (P : Program) (w : World)
def Zcx (h : Heap) (a : Addr) (items : Array Value) : Prop := ∃ o, h.get? a = some o ∧ (o.cls = .type "tuple" ∧ o.dict = none) ∧ ∃ n, o.data = .seq items n
theorem Zcx.tup {h : Heap} {a : Addr} {items : Array Value} (x : Zcx h a items) : IsTup h a items := let ⟨o, e, c, d⟩ := x; ⟨o, e, c.1, d⟩
theorem Zcx.new (h : Heap) (items : Array Value) : Zcx (h.push { cls := .type "tuple", data := .seq items }) h.objs.size items := ⟨_, Heap.get?_push_size _ rfl, ⟨rfl, rfl⟩, 0, rfl⟩
def Zba (H : Hp) (h : Heap) (a : Addr) : HO → Prop
 | .lst xs => xs.length ≤ sizeLine ∧ ∃ (its : List Value) (n : Nat), Vals xs its ∧ h.get? a = some { cls := .type "list", data := .seq its.toArray n }
 | .tup xs => xs.length ≤ sizeLine ∧ ∃ its : List Value, Vals xs its ∧ Zcx h a its.toArray
 | .dK kvs => kvs.length ≤ sizeLine ∧ (a == sysModules) = false ∧ ∃ vs, KV kvs vs ∧ h.DictOf (ZaM P w) a vs
 | .dT kvs => kvs.length ≤ sizeLine ∧ (a == sysModules) = false ∧ ∃ xs : List (List Key × Addr × Value),
   Paired (fun (p : List Key × V) (q : List Key × Addr × Value) => p.1 = q.1 ∧ H q.2.1 = some (.tup (p.1.map kV)) ∧ RelV p.2 q.2.2) kvs xs ∧
   ∃ o es ep, h.get? a = some o ∧ o.ExactDict ∧ o.data = .dict es ep ∧ es.toList = xs.map (entryOfKey (tupleKind (ZaM P w))) ∧ (xs.map (·.1)).Nodup
 | .set S n => h.SetOf (intKind P w) a S n
 | .ins C dx fs => H dx = some (.own a) ∧ fs.length ≤ 1000 ∧ dx ≠ a ∧ h.get? a = some (PySem.W.instObj C dx) ∧
   ∃ mA, h.Ns1 dx mA ∧ (∀ f, ZfN (fs.lookup f) (mA f)) ∧ PySem.Within mA (fs.map (·.1))
 | .own _ => ∃ o, h.get? a = some o
 | .xd fs => ∃ mA, h.Ns1 a mA ∧ ∀ f, ZfN (fs.lookup f) (mA f)
 | .rng lo hi => ∃ t u v, h.get? a = some { cls := .type "range", data := .fields #[.int lo t, .int hi u, .int 1 v] }
 | .frz o u => h.get? a = some o ∧ Zba H h a u
 | .tbl ps => h.get? a = some { cls := .none, data := .fields ps }
 | .met f x => h.get? a = some (PySem.W.methodObj (.ref f) (.ref x))
 | .ext φ => φ h ∧ (∃ o, h.get? a = some o) ∧ ∀ h1 h2 : Heap, φ h1 → (∀ o, h1.get? a = some o → h2.get? a = some o) → φ h2
def HOk (H : Hp) (h : Heap) : Prop := ∀ a o, H a = some o → Zba P w H h a o
end
section
variable {P : Program} {w : World} {H H' : Hp} {h h' : Heap} {a : Addr} {o : HO}
theorem Zba.lt (x : Zba P w H h a o) : a < h.objs.size := by
 cases o with
 | lst xs => obtain ⟨_, _, _, _, e⟩ := x; exact Heap.lt_size e
 | tup xs => obtain ⟨_, _, _, p⟩ := x; exact p.tup.lt
 | dK kvs => obtain ⟨_, _, _, _, o, _, _, e, _⟩ := x; exact Heap.lt_size e
 | dT kvs => obtain ⟨_, _, _, _, o, _, _, e, _⟩ := x; exact Heap.lt_size e
 | set S n => obtain ⟨o, _, _, _, e, _⟩ := x; exact Heap.lt_size e
 | ins C dx fs => obtain ⟨_, _, _, e, _⟩ := x; exact Heap.lt_size e
 | own y => obtain ⟨_, e⟩ := x; exact Heap.lt_size e
 | xd fs => obtain ⟨_, ⟨_, _, _, e, _⟩, _⟩ := x; exact Heap.lt_size e
 | rng lo hi => obtain ⟨_, _, _, e⟩ := x; exact Heap.lt_size e
 | frz ob u => obtain ⟨e, _⟩ := x; exact Heap.lt_size e
 | tbl ps => exact Heap.lt_size (show h.get? a = some _ from x)
 | met f y => exact Heap.lt_size (show h.get? a = some _ from x)
 | ext φ => obtain ⟨_, ⟨_, e⟩, _⟩ := x; exact Heap.lt_size e
theorem Paired.mapP {α β : Type} {F G : α → β → Prop} : ∀ {l₁ : List α} {l₂ : List β}, Paired F l₁ l₂ → (∀ a b, F a b → G a b) → Paired G l₁ l₂
 | _, _, .nil, _ => .nil
 | _, _, .cons r t, f => .cons (f _ _ r) (Paired.mapP t f)
theorem Zba.stay (x : Zba P w H h a o) (k : ∀ b u, (b = a ∨ H b = some (.own a)) → h.get? b = some u → h'.get? b = some u)
  (ho : ∀ b, H b = some (.own a) → H' b = some (.own a)) (ht : ∀ b xs, H b = some (.tup xs) → H' b = some (.tup xs)) : Zba P w H' h' a o := by
 induction o with
 | lst xs => obtain ⟨z, its, n, r, e⟩ := x; exact ⟨z, its, n, r, k _ _ (.inl rfl) e⟩
 | tup xs => obtain ⟨z, its, r, ob, e, c⟩ := x; exact ⟨z, its, r, ob, k _ _ (.inl rfl) e, c⟩
 | dK kvs => obtain ⟨z, y, vs, r, ob, es, ep, e, c⟩ := x; exact ⟨z, y, vs, r, ob, es, ep, k _ _ (.inl rfl) e, c⟩
 | dT kvs =>
  obtain ⟨z, y, xs, r, ob, es, ep, e, c⟩ := x
  exact ⟨z, y, xs, Paired.mapP r fun p q z => ⟨z.1, ht _ _ z.2.1, z.2.2⟩, ob, es, ep, k _ _ (.inl rfl) e, c⟩
 | set S n => obtain ⟨ob, es, ep, t, e, c⟩ := x; exact ⟨ob, es, ep, t, k _ _ (.inl rfl) e, c⟩
 | ins C dx fs =>
  obtain ⟨d, z, ne, e, mA, ⟨od, es, ep, e2, c⟩, r⟩ := x
  exact ⟨ho _ d, z, ne, k _ _ (.inl rfl) e, mA, ⟨od, es, ep, k _ _ (.inr d) e2, c⟩, r⟩
 | own y => obtain ⟨ob, e⟩ := x; exact ⟨ob, k _ _ (.inl rfl) e⟩
 | xd fs => obtain ⟨mA, ⟨od, es, ep, e, c⟩, r⟩ := x; exact ⟨mA, ⟨od, es, ep, k _ _ (.inl rfl) e, c⟩, r⟩
 | rng lo hi => obtain ⟨t, u, v, e⟩ := x; exact ⟨t, u, v, k _ _ (.inl rfl) e⟩
 | frz ob u ih => obtain ⟨e, q⟩ := x; exact ⟨k _ _ (.inl rfl) e, ih q⟩
 | tbl ps =>
  have e : h.get? a = some { cls := .none, data := .fields ps } := x
  show h'.get? a = some { cls := .none, data := .fields ps }
  exact k a _ (.inl rfl) e
 | met f y =>
  have e : h.get? a = some (PySem.W.methodObj (.ref f) (.ref y)) := x
  show h'.get? a = some (PySem.W.methodObj (.ref f) (.ref y))
  exact k a _ (.inl rfl) e
 | ext φ => obtain ⟨p, ⟨o, e⟩, st⟩ := x; exact ⟨st _ _ p fun o q => k _ _ (.inl rfl) q, ⟨o, k _ _ (.inl rfl) e⟩, st⟩
theorem HOk.lt (x : HOk P w H h) (e : H a = some o) : a < h.objs.size := (x a o e).lt
theorem HOk.fresh (x : HOk P w H h) (e : h.objs.size ≤ a) : H a = none := by
 cases q : H a with
 | none => rfl
 | some u => exact absurd (Nat.lt_of_lt_of_le (x.lt q) e) (Nat.lt_irrefl _)
theorem HOk.kept (x : HOk P w H h) (k : ∀ b u, h.get? b = some u → h'.get? b = some u) : HOk P w H h' := fun a o e =>
 (x a o e).stay (fun b u _ q => k b u q) (fun _ q => q) fun _ _ q => q
theorem HOk.laid (x : HOk P w H h) (k : ∀ b u, h.get? b = some u → h'.get? b = some u) (hp : h.objs.size ≤ a) (new : Zba P w (upd H a o) h' a o) : HOk P w (upd H a o) h' := fun b u e => by
 have hn := x.fresh hp
 by_cases hb : b = a
 ·subst hb; rw [ZcN] at e; cases e; exact new
 ·rw [ZaW hb] at e
  exact (x b u e).stay (fun c v _ q => k c v q) (fun c q => by rw [ZaW (Zcq q hn)]; exact q) fun c xs q => by rw [ZaW (Zcq q hn)]; exact q
end
def Rd (H : Hp) (a : Addr) (u : HO) : Prop := H a = some u ∨ ∃ o, H a = some (.frz o u)
theorem Rd.ok {P : Program} {w : World} {H : Hp} {h : Heap} {a : Addr} {u : HO} (r : Rd H a u) (x : HOk P w H h) : Zba P w H h a u := by
 rcases r with r | ⟨o, r⟩
 ·exact x a u r
 ·obtain ⟨_, q⟩ := x a _ r
  exact q
def Mut : Option HO → Prop
 | some (.lst _) => True
 | some (.dK _) => True
 | some (.dT _) => True
 | some (.set _ _) => True
 | some (.ins _ _ _) => True
 | some (.ext _) => True
 | _ => False
section
variable {P : Program} {w : World} {H : Hp} {h h' : Heap} {x e : Addr} {o' : HO}
theorem HOk.write (ok : HOk P w H h) (mu : Mut (H x)) (he : e = x ∨ H e = some (.own x)) (k : ∀ b u, b ≠ e → h.get? b = some u → h'.get? b = some u) (heo : ∃ u, h'.get? e = some u)
  (new : Zba P w (upd H x o') h' x o') : HOk P w (upd H x o') h' := fun b u q => by
 have nown : ∀ c y, H c = some (.own y) → c ≠ x := fun c y r z => by subst z; rw [r] at mu; exact mu
 have ntup : ∀ c xs, H c = some (.tup xs) → c ≠ x := fun c xs r z => by subst z; rw [r] at mu; exact mu
 by_cases hb : b = x
 ·subst hb; rw [ZcN] at q; cases q; exact new
 ·rw [ZaW hb] at q
  by_cases hbe : b = e
  ·have q' : H b = some (.own x) := by
    rcases he with z | z
    ·exact absurd (hbe.trans z) hb
    ·rw [hbe]; exact z
   rw [q] at q'; cases q'
   obtain ⟨v, hv⟩ := heo
   exact ⟨v, by rw [hbe]; exact hv⟩
  ·refine (ok b u q).stay (fun c v hc r => k c v ?_ r) (fun c r => by rw [ZaW (nown c b r)]; exact r) fun c xs r => by rw [ZaW (ntup c xs r)]; exact r
   rcases hc with rfl | hc
   ·exact hbe
   ·rintro rfl
    rcases he with z | z
    ·exact nown c b hc z
    ·rw [hc] at z; cases z; exact hb rfl
end
structure Un (fs ex : List Addr) (H H' : Hp) (h h' : Heap) : Prop where
 keep : ∀ b o, h.get? b = some o → H b = none → b ∉ fs → b ∉ ex → h'.get? b = some o
 slot : ∀ b o, h.get? b = some o → H b = none → b ∈ fs → b ∉ ex → ∃ sl, h'.get? b = some { o with slots := sl }
 free : ∀ b o, h.get? b = some o → H b = none → b ∉ ex → H' b = none
 there : ∀ b o, h.get? b = some o → b ∉ ex → ∃ o', h'.get? b = some o'
 tups : ∀ b xs, H b = some (.tup xs) → H' b = some (.tup xs)
 frzs : ∀ b o u, H b = some (.frz o u) → H' b = some (.frz o u)
 tbls : ∀ b ps, H b = some (.tbl ps) → ∃ more, H' b = some (.tbl (ps ++ more))
section
variable {fs fs' ex ex' : List Addr} {H H1 H2 : Hp} {h h1 h2 h' : Heap} {a x e : Addr} {o : HO}
theorem Un.any (u : Un fs ex H H1 h h1) {b : Addr} {ob : Obj} (q : h.get? b = some ob) (n : H b = none) (hx : b ∉ ex) : ∃ sl, h1.get? b = some { ob with slots := sl } := by
 by_cases hb : b ∈ fs
 ·exact u.slot b ob q n hb hx
 ·exact ⟨ob.slots, u.keep b ob q n hb hx⟩
theorem Un.kept (k : ∀ b u, h.get? b = some u → h'.get? b = some u) : Un fs ex H H h h' :=
 ⟨fun b ob q _ _ _ => k b ob q, fun b ob q _ _ _ => ⟨ob.slots, k b ob q⟩, fun _ _ _ n _ => n, fun b ob q _ => ⟨ob, k b ob q⟩, fun _ _ q => q, fun _ _ _ q => q, fun _ ps q => ⟨#[], by rw [q]; simp⟩⟩
theorem Un.refl : Un fs ex H H h h := Un.kept fun _ _ q => q
theorem Un.laid (k : ∀ b u, h.get? b = some u → h'.get? b = some u) (hp : h.objs.size ≤ a) (hn : H a = none) : Un fs ex H (upd H a o) h h' where
 keep := fun b u q _ _ _ => k b u q
 slot := fun b u q _ _ _ => ⟨u.slots, k b u q⟩
 free := fun b u q n _ => by rw [ZaW (Nat.ne_of_lt (Nat.lt_of_lt_of_le (Heap.lt_size q) hp))]; exact n
 there := fun b u q _ => ⟨u, k b u q⟩
 tups := fun b xs q => by rw [ZaW (Zcq q hn)]; exact q
 frzs := fun b u xs q => by rw [ZaW (Zcq q hn)]; exact q
 tbls := fun b ps q => ⟨#[], by rw [ZaW (Zcq q hn), q]; simp⟩
theorem Un.write (mu : Mut (H x)) (he : e = x ∨ H e = some (.own x)) (k : ∀ b u, b ≠ e → h.get? b = some u → h'.get? b = some u) (heo : ∃ u, h'.get? e = some u) : Un fs ex H (upd H x o) h h' := by
 have hx : ∀ b, H b = none → b ≠ x := fun b n z => by subst z; rw [n] at mu; exact mu
 have hb : ∀ b, H b = none → b ≠ e := fun b n z => by
  subst z
  rcases he with r | r
  ·exact hx b n r
  ·rw [n] at r; cases r
 have hm : ∀ b u, H b = some u → ¬ Mut (some u) → b ≠ x := fun b u q nm z => by subst z; rw [q] at mu; exact nm mu
 refine ⟨fun b u q n _ _ => k b u (hb b n) q, fun b u q n _ _ => ⟨u.slots, k b u (hb b n) q⟩, fun b u q n _ => by rw [ZaW (hx b n)]; exact n, fun b u q _ => ?_,
  fun b xs q => by rw [ZaW (hm b _ q fun z => z)]; exact q, fun b u xs q => by rw [ZaW (hm b _ q fun z => z)]; exact q, fun b ps q => ⟨#[], by rw [ZaW (hm b _ q fun z => z), q]; simp⟩⟩
 by_cases hbe : b = e
 ·subst hbe; exact heo
 ·exact ⟨u, k b u hbe q⟩
end
def trk (h : Heap) (H : Hp) : List Addr := (List.range h.objs.size).filter fun a => (H a).isSome
def ZfL (h : Heap) (H : Hp) : Heap := PySem.W.hideAll h (trk h H)
theorem ZhH (h : Heap) (H : Hp) : (ZfL h H).objs.size = h.objs.size := PySem.W.hideAll_size _ _
theorem Zi7 {h : Heap} {H : Hp} {b : Addr} {o : Obj} (e : h.get? b = some o) (n : H b = none) : (ZfL h H).get? b = some o :=
 PySem.W.hideAll_get _ e fun hm => by
  have q : (H b).isSome = true := (List.mem_filter.mp hm).2
  rw [n] at q; simp at q
theorem ZjU {h : Heap} {H : Hp} {b : Addr} {o : Obj} (e : (ZfL h H).get? b = some o) : h.get? b = some o ∧ H b = none := by
 have e' : h.get? b = some o := PySem.W.of_hideAll (trk h H) e
 refine ⟨e', ?_⟩
 cases q : H b with
 | none => rfl
 | some x =>
  have hm : b ∈ trk h H := List.mem_filter.mpr ⟨List.mem_range.mpr (Heap.lt_size e'), by simp [q]⟩
  have z : (ZfL h H).get? b = none := PySem.W.hideAll_none (trk h H) hm
  rw [z] at e; cases e
def Zj8 (g h : Heap) (L : Addr) : List (Addr × Obj) := (List.range h.objs.size).filterMap fun a => if a = L ∨ (g.get? a).isSome = true then none else (h.get? a).map fun o => (a, o)
def rest (g h : Heap) (L d : Addr) : List (Addr × Obj) := (Zj8 g h L).filter fun p => decide (p.1 ≠ d)
end L2
namespace L2
open PySem PySem.Spec PyProof.Rows
structure Mod (K : PySem.W.Frag) (mg : Str → Option Value) (base : Heap) : Prop where
 kin : K.In base
 glob : base.Ns mainGlobals mg
 blt : ∃ mb, base.Ns builtinsNs mb ∧ ∀ x : Str, x ≠ "__name__" → mb x = bootBuiltins x
 nolimit : base.NoLimit
/-- the context: a def's body (or a comprehension's block) running. base: fixed through the whole law; s₀, H₀: the entry; outer: the frames whose slots others may change (a def's callers); stack: all frames that run;
  ex: iterators that were made ahead of the entry and are walked here (a comprehension's); fn: the names whose cells were made at the entry (a def: all; a comprehension's block: its own); calm: not within an except suite; pn: pins that every state bears; xe: what is wanted of an exception that leaves the code -/
structure Cx where
 prog : Program
 w : World
 K : PySem.W.Frag
 mg : Str → Option Value
 base : Heap
 A : Around
 N : List Str
 s₀ : Shared
 H₀ : Hp
 env : Env
 outer : List Env
 stack : List Env
 ex : List Addr
 fn : Str → Bool
 calm : Bool
 pn : List (Addr × Obj)
 xe : Value → Shared → Prop
def frs (l : List Env) : List Addr := l.filterMap (·.frame)
abbrev Cx.fs (X : Cx) : List Addr := frs X.outer
def Vis (sc : Scope) (x : Str) : Prop := sc.names.lookup x = some .local ∨ sc.names.lookup x = some .cell ∨ sc.names.lookup x = some .free
def Loc (sc : Scope) (x : Str) : Prop := sc.names.lookup x = some .local ∨ sc.names.lookup x = some .cell
def Look (env : Env) (h : Heap) (m : Str → Option Value) (x : Str) (u : Value) : Prop :=
 (env.kindOf x = some .local ∧ m x = some u) ∨ ((env.kindOf x = some .cell ∨ env.kindOf x = some .free) ∧ ∃ c, env.cells.lookup x = some c ∧ h.IsCell c (some u))
structure Cx.Ok (X : Cx) : Prop where
 mod : Mod X.K X.mg X.base
 kind : X.env.scope.kind = .function
 glob : X.env.globals = mainGlobals
 blt : X.env.builtins = builtinsNs
 above : X.s₀.heap.objs.size ≤ X.env.locals
 inj : ∀ x y c, X.env.cells.lookup x = some c → X.env.cells.lookup y = some c → x = y
 has : ∀ x, (X.env.kindOf x = some .cell ∨ X.env.kindOf x = some .free) → ∃ c, X.env.cells.lookup x = some c
 cab : ∀ x c, X.fn x = true → X.env.cells.lookup x = some c → X.s₀.heap.objs.size ≤ c
 hd : X.calm = true → X.A.handled = none
 frames : X.A.frames = some X.stack
 stk : X.stack = X.outer ∨ (X.stack = X.env :: X.outer ∧ X.env.frame = some X.env.locals)
 exf : ∀ b ∈ X.ex, b ≠ X.env.locals ∧ ∀ x c, X.env.cells.lookup x = some c → c ≠ b
 bs : ∀ b o, X.base.get? b = some o → X.s₀.heap.get? b = some o ∧ X.H₀ b = none
 bsz : X.base.objs.size ≤ X.s₀.heap.objs.size
 noex : ∀ b o, X.base.get? b = some o → b ∉ X.ex
 exfs : ∀ b ∈ X.ex, b ∉ X.fs
 funs : X.s₀.heap.FunFrames X.base X.outer
 frf : ∀ b ∈ X.fs, X.H₀ b = none
structure Inv (X : Cx) (pins : List (Addr × Obj)) (σ : List (Option V)) (H : Hp) (s : Shared) : Prop where
 ok : X.Ok
 os : s.os = X.s₀.os
 bare : AllBare s.gens
 base : Un X.fs X.ex X.H₀ H X.s₀.heap s.heap
 loc : ∃ m, s.heap.Ns X.env.locals m ∧ ∀ (i : Nat) (x : Str) (v : V), X.N[i]? = some x → σ[i]? = some (some v) → Vis X.env.scope x → ∃ u, RelV v u ∧ Look X.env s.heap m x u
 cell : ∀ x c, X.env.cells.lookup x = some c → ∃ v, s.heap.IsCell c v
 free : H X.env.locals = none
 freeC : ∀ x c, X.env.cells.lookup x = some c → H c = none
 pin : ∀ p ∈ X.pn ++ pins, s.heap.get? p.1 = some p.2 ∧ H p.1 = none ∧ p.1 ≠ X.env.locals ∧ p.1 ∉ X.fs ∧ ∀ v, p.2.data ≠ .cell v
 hok : HOk X.prog X.w H s.heap
 len : σ.length = X.N.length
section
variable {X : Cx} {pins : List (Addr × Obj)} {σ : List (Option V)} {H H' : Hp} {s : Shared} {h' : Heap}
theorem Cx.Ok.nofr (ok : X.Ok) {b : Addr} {o : Obj} (e : X.base.get? b = some o) : b ∉ X.fs := fun hb => by
 have := (ok.funs.mem hb).1
 rw [e] at this; cases this
theorem Inv.bs (I : Inv X pins σ H s) : ∀ b o, X.base.get? b = some o → s.heap.get? b = some o ∧ H b = none := fun b o e =>
 ⟨I.base.keep b o (I.ok.bs b o e).1 (I.ok.bs b o e).2 (I.ok.nofr e) (I.ok.noex b o e), I.base.free b o (I.ok.bs b o e).1 (I.ok.bs b o e).2 (I.ok.noex b o e)⟩
theorem Inv.bk (I : Inv X pins σ H s) : ∀ b o, X.base.get? b = some o → s.heap.get? b = some o := fun b o e => (I.bs b o e).1
theorem Inv.mod (I : Inv X pins σ H s) : Mod X.K X.mg X.base := I.ok.mod
theorem Inv.kIn (I : Inv X pins σ H s) : X.K.In s.heap := I.ok.mod.kin.keeps I.bk
theorem Inv.nolimit (I : Inv X pins σ H s) : s.heap.NoLimit := I.ok.mod.nolimit.keeps I.bk
theorem Inv.lt (I : Inv X pins σ H s) : X.env.locals < s.heap.objs.size := let ⟨_, hn, _⟩ := I.loc; hn.lt
theorem Inv.sz (I : Inv X pins σ H s) : X.s₀.heap.objs.size ≤ s.heap.objs.size := Nat.le_trans I.ok.above (Nat.le_of_lt I.lt)
theorem Inv.nofs (I : Inv X pins σ H s) {a : Addr} (h : s.heap.objs.size ≤ a) : a ∉ X.fs := fun hb => by
 obtain ⟨_, o, ho, _⟩ := I.ok.funs.mem hb
 exact absurd (Nat.lt_of_lt_of_le (Heap.lt_size ho) (Nat.le_trans I.sz h)) (Nat.lt_irrefl _)
theorem Inv.cne (I : Inv X pins σ H s) : ∀ x c, X.env.cells.lookup x = some c → c ≠ X.env.locals := fun x c e z => by
 obtain ⟨v, o, ho, hd⟩ := I.cell x c e
 obtain ⟨m, ⟨o', es, ep, ho', hd', _⟩, _⟩ := I.loc
 rw [z, ho'] at ho; cases ho; rw [hd'] at hd; cases hd
theorem Inv.funs (I : Inv X pins σ H s) : s.heap.FunFrames X.base X.outer := by
 have all : ∀ (l : List Env), (∀ b ∈ frs l, b ∈ X.fs) → X.s₀.heap.FunFrames X.base l → s.heap.FunFrames X.base l := by
  intro l
  induction l with
  | nil => intro _ _; trivial
  | cons env r ih =>
   intro hs hl
   obtain ⟨hk, ⟨L, o, hf, hn, ho, hd⟩, hr⟩ := hl
   have hL : L ∈ X.fs := hs L (by unfold frs; rw [List.filterMap_cons, hf]; exact List.mem_cons_self)
   obtain ⟨sl, e⟩ := I.base.slot L o ho (I.ok.frf L hL) hL fun z => I.ok.exfs L z hL
   exact ⟨hk, ⟨L, _, hf, hn, e, hd⟩, ih (fun b hb => hs b (by unfold frs; rw [List.filterMap_cons, hf]; exact List.mem_cons_of_mem _ hb)) hr⟩
 exact all X.outer (fun _ hb => hb) I.ok.funs
theorem Inv.stack (I : Inv X pins σ H s) : s.heap.FunFrames X.base X.stack := by
 rcases I.ok.stk with e | ⟨e, hf⟩
 ·rw [e]; exact I.funs
 ·rw [e]
  obtain ⟨m, hn, _⟩ := I.loc
  refine .cons (by rw [I.ok.kind]; decide) hf hn ?_ I.funs
  exact Heap.get?_none_of_le (Nat.le_trans I.ok.bsz I.ok.above)
theorem Inv.stkSub (I : Inv X pins σ H s) : ∀ b ∈ frs X.stack, b ∈ X.env.locals :: X.fs := fun b hb => by
 rcases I.ok.stk with e | ⟨e, hf⟩
 ·rw [e] at hb; exact List.mem_cons_of_mem _ hb
 ·rw [e] at hb
  unfold frs at hb
  rw [List.filterMap_cons, hf] at hb
  exact hb
theorem Inv.stkFree (I : Inv X pins σ H s) : ∀ b ∈ frs X.stack, H b = none := fun b hb => by
 rcases List.mem_cons.mp (I.stkSub b hb) with e | hb
 ·rw [e]; exact I.free
 ·obtain ⟨_, o, ho, _⟩ := I.ok.funs.mem hb
  exact I.base.free b o ho (I.ok.frf b hb) fun z => I.ok.exfs b z hb
theorem Inv.step {g' : Array GenState} {t' : Nat} {d' : Drawn} {ch : List Addr} (I : Inv X pins σ H s)
  (hch : ∀ b ∈ ch, (b ∈ X.ex ∨ X.s₀.heap.objs.size ≤ b) ∧ b ≠ X.env.locals ∧ (∀ x c, X.env.cells.lookup x = some c → c ≠ b) ∧ ∀ p ∈ X.pn ++ pins, p.1 ≠ b)
  (keep : ∀ b o, b ≠ X.env.locals → b ∉ X.fs → b ∉ ch → s.heap.get? b = some o → H b = none → h'.get? b = some o)
  (slot : ∀ b o, b ≠ X.env.locals → b ∈ X.fs → b ∉ ch → s.heap.get? b = some o → H b = none → ∃ sl, h'.get? b = some { o with slots := sl }) (free : ∀ b o, b ∉ ch → s.heap.get? b = some o → H b = none → H' b = none)
  (there : ∀ b o, b ∉ ch → s.heap.get? b = some o → ∃ o', h'.get? b = some o')
  (tups : ∀ b xs, H b = some (.tup xs) → H' b = some (.tup xs)) (frzs : ∀ b o u, H b = some (.frz o u) → H' b = some (.frz o u)) (tbls : ∀ b ps, H b = some (.tbl ps) → ∃ more, H' b = some (.tbl (ps ++ more)))
  (ns : ∀ m, s.heap.Ns X.env.locals m → h'.Ns X.env.locals m) (hok : HOk X.prog X.w H' h') (hg : AllBare g') :
  Inv X pins σ H' { s with heap := h', gens := g', drawn := d', toks := t' } := by
 have neL : ∀ b o, X.s₀.heap.get? b = some o → b ≠ X.env.locals := fun b o e => Nat.ne_of_lt (Nat.lt_of_lt_of_le (Heap.lt_size e) I.ok.above)
 have neC : ∀ b o, X.s₀.heap.get? b = some o → b ∉ X.ex → b ∉ ch := fun b o e hx hb => by
  rcases (hch b hb).1 with z | z
  ·exact hx z
  ·exact absurd (Nat.lt_of_lt_of_le (Heap.lt_size e) z) (Nat.lt_irrefl _)
 have cellK : ∀ x c, X.env.cells.lookup x = some c → ∀ v, s.heap.IsCell c v → h'.IsCell c v := fun x c e v ⟨o, ho, hd⟩ => by
  have nch : c ∉ ch := fun z => (hch c z).2.2.1 x c e rfl
  by_cases hc : c ∈ X.fs
  ·obtain ⟨sl, q⟩ := slot c o (I.cne x c e) hc nch ho (I.freeC x c e)
   exact ⟨_, q, hd⟩
  ·exact ⟨o, keep c o (I.cne x c e) hc nch ho (I.freeC x c e), hd⟩
 refine ⟨I.ok, I.os, hg, ⟨fun b o e n hb hx => ?_, fun b o e n hb hx => ?_, fun b o e n hx => ?_, fun b o e hx => ?_, fun b xs e => tups b xs (I.base.tups b xs e), fun b o xs e => frzs b o xs (I.base.frzs b o xs e), fun b ps e => ?_⟩, ?_, fun x c e => ?_, ?_, fun x c e => ?_, fun p hp => ?_, hok, I.len⟩
 ·exact keep b o (neL b o e) hb (neC b o e hx) (I.base.keep b o e n hb hx) (I.base.free b o e n hx)
 ·obtain ⟨sl, e1⟩ := I.base.slot b o e n hb hx
  obtain ⟨sl', e2⟩ := slot b _ (neL b o e) hb (neC b o e hx) e1 (I.base.free b o e n hx)
  exact ⟨sl', e2⟩
 ·obtain ⟨o', e1⟩ := I.base.there b o e hx
  exact free b o' (neC b o e hx) e1 (I.base.free b o e n hx)
 ·obtain ⟨o', e1⟩ := I.base.there b o e hx
  exact there b o' (neC b o e hx) e1
 ·obtain ⟨m1, e1⟩ := I.base.tbls b ps e
  obtain ⟨m2, e2⟩ := tbls b _ e1
  exact ⟨m1 ++ m2, by rw [e2, Array.append_assoc]⟩
 ·obtain ⟨m, hn, hl⟩ := I.loc
  refine ⟨m, ns m hn, fun i x v e1 e2 e3 => ?_⟩
  obtain ⟨u, r, l⟩ := hl i x v e1 e2 e3
  refine ⟨u, r, ?_⟩
  rcases l with l | ⟨k, c, e, z⟩
  ·exact .inl l
  ·exact .inr ⟨k, c, e, cellK x c e _ z⟩
 ·obtain ⟨v, z⟩ := I.cell x c e
  exact ⟨v, cellK x c e v z⟩
 ·obtain ⟨m, ⟨o, _, _, ho, _⟩, _⟩ := I.loc
  exact free _ o (fun z => (hch _ z).2.1 rfl) ho I.free
 ·obtain ⟨v, o, ho, hd⟩ := I.cell x c e
  exact free c o (fun z => (hch c z).2.2.1 x c e rfl) ho (I.freeC x c e)
 ·obtain ⟨e, n, ne, nf, d⟩ := I.pin p hp
  have nch : p.1 ∉ ch := fun z => (hch p.1 z).2.2.2 p hp rfl
  exact ⟨keep p.1 p.2 ne nf nch e n, free p.1 p.2 nch e n, ne, nf, d⟩
theorem Inv.un {t' : Nat} (I : Inv X pins σ H s) (u : Un X.fs [] H H' s.heap h') (hok : HOk X.prog X.w H' h') : Inv X pins σ H' { s with heap := h', toks := t' } := by
 obtain ⟨m, ⟨o, es, ep, ho, r⟩, _⟩ := id I.loc
 obtain ⟨sl, hL⟩ := u.any ho I.free (by simp)
 exact I.step (g' := s.gens) (d' := s.drawn) (ch := []) (fun _ z => nomatch z) (fun b o _ hb _ e n => u.keep b o e n hb (by simp)) (fun b o _ hb _ e n => u.slot b o e n hb (by simp)) (fun b o _ e n => u.free b o e n (by simp)) (fun b o _ e => u.there b o e (by simp)) u.tups u.frzs u.tbls (fun m' hm => by
  obtain ⟨o', es', ep', ho', r'⟩ := hm
  rw [ho] at ho'; cases ho'
  exact ⟨_, es', ep', hL, r'⟩) hok I.bare
theorem Inv.call {g' : Array GenState} {t' : Nat} {d' : Drawn} {ch : List Addr} (I : Inv X pins σ H s) (u : Un (frs X.stack) ch H H' s.heap h') (hok : HOk X.prog X.w H' h') (hg : AllBare g')
  (hch : ∀ b ∈ ch, (b ∈ X.ex ∨ X.s₀.heap.objs.size ≤ b) ∧ b ≠ X.env.locals ∧ (∀ x c, X.env.cells.lookup x = some c → c ≠ b) ∧ ∀ p ∈ X.pn ++ pins, p.1 ≠ b) :
  Inv X pins σ H' { s with heap := h', gens := g', drawn := d', toks := t' } := by
 obtain ⟨m, ⟨o, es, ep, ho, r⟩, _⟩ := id I.loc
 obtain ⟨sl, hL⟩ := u.any ho I.free fun z => (hch _ z).2.1 rfl
 exact I.step (ch := ch) hch (fun b o hL hb hc e n => u.keep b o e n (fun z => (List.mem_cons.mp (I.stkSub b z)).elim hL hb) hc) (fun b o _ _ hc e n => u.any e n hc) (fun b o hc e n => u.free b o e n hc) (fun b o hc e => u.there b o e hc) u.tups u.frzs u.tbls (fun m' hm => by
  obtain ⟨o', es', ep', ho', r'⟩ := hm
  rw [ho] at ho'; cases ho'
  exact ⟨_, es', ep', hL, r'⟩) hok hg
theorem Inv.turned {t' : Nat} {it : Addr} (I : Inv X pins σ H s) (k : ∀ b o, b ≠ it → s.heap.get? b = some o → h'.get? b = some o) (hn : H it = none) (hL : it ≠ X.env.locals)
  (h1 : it ∈ X.ex ∨ X.s₀.heap.objs.size ≤ it) (h2 : ∀ x c, X.env.cells.lookup x = some c → c ≠ it) (h3 : ∀ p ∈ X.pn ++ pins, p.1 ≠ it) : Inv X pins σ H { s with heap := h', toks := t' } := by
 have nit : ∀ b u, H b = some u → b ≠ it := fun b u e z => by rw [z, hn] at e; cases e
 refine I.step (g' := s.gens) (d' := s.drawn) (ch := [it]) (fun b hb => ?_) (fun b o _ _ hc e _ => k b o (fun z => hc (by simp [z])) e) (fun b o _ _ hc e _ => ⟨o.slots, k b o (fun z => hc (by simp [z])) e⟩) (fun _ _ _ _ n => n)
  (fun b o hc e => ⟨o, k b o (fun z => hc (by simp [z])) e⟩) (fun _ _ e => e) (fun _ _ _ e => e) (fun b ps e => ⟨#[], by rw [e]; simp⟩) (fun m hm => ?_) (fun b u e => ?_) I.bare
 ·have e : b = it := by simpa using hb
  subst e
  exact ⟨h1, hL, h2, h3⟩
 ·obtain ⟨o, es, ep, ho, r⟩ := hm
  exact ⟨o, es, ep, k _ o (Ne.symm hL) ho, r⟩
 ·refine (I.hok b u e).stay (fun c v hc q => k c v ?_ q) (fun _ q => q) fun _ _ q => q
  rcases hc with z | z
  ·rw [z]; exact nit b u e
  ·exact nit c _ z
theorem Inv.tok (I : Inv X pins σ H s) (t : Nat) : Inv X pins σ H { s with toks := t } := I.un (h' := s.heap) (t' := t) Un.refl I.hok
theorem Inv.kept {t' : Nat} (I : Inv X pins σ H s) (k : ∀ b u, s.heap.get? b = some u → h'.get? b = some u) : Inv X pins σ H { s with heap := h', toks := t' } := I.un (Un.kept k) (I.hok.kept k)
theorem Inv.laid {a : Addr} {o : HO} {t' : Nat} (I : Inv X pins σ H s) (k : ∀ b u, s.heap.get? b = some u → h'.get? b = some u) (hp : s.heap.objs.size ≤ a) (new : Zba X.prog X.w (upd H a o) h' a o) :
  Inv X pins σ (upd H a o) { s with heap := h', toks := t' } := I.un (Un.laid k hp (I.hok.fresh hp)) (I.hok.laid k hp new)
theorem Inv.write {x e : Addr} {o : HO} {t' : Nat} (I : Inv X pins σ H s) (mu : Mut (H x)) (he : e = x ∨ H e = some (.own x)) (k : ∀ b u, b ≠ e → s.heap.get? b = some u → h'.get? b = some u) (heo : ∃ u, h'.get? e = some u)
  (new : Zba X.prog X.w (upd H x o) h' x o) : Inv X pins σ (upd H x o) { s with heap := h', toks := t' } := I.un (Un.write mu he k heo) (I.hok.write mu he k heo new)
theorem Inv.pins_of {pins' : List (Addr × Obj)} (I : Inv X pins σ H s) (h : ∀ p ∈ pins', s.heap.get? p.1 = some p.2 ∧ H p.1 = none ∧ p.1 ≠ X.env.locals ∧ p.1 ∉ X.fs ∧ ∀ v, p.2.data ≠ .cell v) : Inv X pins' σ H s :=
 ⟨I.ok, I.os, I.bare, I.base, I.loc, I.cell, I.free, I.freeC, fun p hp => (List.mem_append.mp hp).elim (fun z => I.pin p (List.mem_append_left _ z)) (h p), I.hok, I.len⟩
theorem Zgm {N : List Str} (hN : N.Nodup) {i j : Nat} {x : Str} (a : N[i]? = some x) (b : N[j]? = some x) : i = j := by
 obtain ⟨h1, e1⟩ := List.getElem?_eq_some_iff.mp a
 obtain ⟨h2, e2⟩ := List.getElem?_eq_some_iff.mp b
 exact (List.getElem_inj hN).mp (e1.trans e2.symm)
theorem Zhu {M : Model} {A : Around} {E : Value → Shared → Prop} {i : Nat} {x : Str} {v : V} {u : Value} {Q : Unit → Shared → Prop} (I : Inv X pins σ H s) (hN : X.N.Nodup) (hi : X.N[i]? = some x) (hx : Loc X.env.scope x) (r : RelV v u)
  (h : ∀ s', Inv X pins (σ.set i (some v)) H s' → (∃ a, Heap.SameBut a s.heap s'.heap ∧ (a = X.env.locals ∨ X.env.cells.lookup x = some a)) → Q () s') (hf : X.fn x = true ∨ X.env.scope.names.lookup x = some .local := by first | exact .inl rfl | exact .inr rfl | assumption) : wpAny M A (storeName X.env x u) Q E s := by
 obtain ⟨m, hn, hl⟩ := id I.loc
 have hcls : (X.env.scope.kind == .class || (X.env.scope.kind == .module && X.env.locals != X.env.globals)) = false := by rw [I.ok.kind]; rfl
 have hiσ : i < σ.length := by rw [I.len]; exact (List.getElem?_eq_some_iff.mp hi).1
 have cne := I.cne
 have tracked : ∀ {a : Addr} {h' : Heap}, (∃ o, s.heap.get? a = some o ∧ H a = none) → Heap.SameBut a s.heap h' → HOk X.prog X.w H h' := fun {a h'} ha hs b ob e => by
  obtain ⟨_, _, hfree⟩ := ha
  refine (I.hok b ob e).stay (fun c w' hc q => (hs.2 c ?_).trans q) (fun _ q => q) fun _ _ q => q
  rintro rfl
  rcases hc with rfl | hc
  ·rw [hfree] at e; cases e
  ·rw [hfree] at hc; cases hc
 rcases hx with hk | hk
 ·refine wpAny_storeName_local hk hn (fun h' hn' hs => ?_) hcls
  obtain ⟨oL, _, _, hoL, _⟩ := id hn
  refine h _ ⟨I.ok, I.os, I.bare, ⟨fun b o e n hb hx => ?_, fun b o e n hb hx => ?_, I.base.free, fun b o e hx => ?_, I.base.tups, I.base.frzs, I.base.tbls⟩, ⟨_, hn', fun j y v' e1 e2 e3 => ?_⟩, fun y c e => ?_, I.free, I.freeC, fun p hp => ?_, tracked ⟨oL, hoL, I.free⟩ hs, by simpa using I.len⟩ ⟨_, hs, .inl rfl⟩
  ·exact (hs.2 b (Nat.ne_of_lt (Nat.lt_of_lt_of_le (Heap.lt_size e) I.ok.above))).trans (I.base.keep b o e n hb hx)
  ·obtain ⟨sl, e1⟩ := I.base.slot b o e n hb hx
   exact ⟨sl, (hs.2 b (Nat.ne_of_lt (Nat.lt_of_lt_of_le (Heap.lt_size e) I.ok.above))).trans e1⟩
  ·obtain ⟨o', e1⟩ := I.base.there b o e hx
   exact ⟨o', (hs.2 b (Nat.ne_of_lt (Nat.lt_of_lt_of_le (Heap.lt_size e) I.ok.above))).trans e1⟩
  ·by_cases hj : j = i
   ·subst hj
    rw [hi] at e1; cases e1
    rw [List.getElem?_set_self hiσ] at e2
    cases e2
    exact ⟨u, r, .inl ⟨hk, by simp⟩⟩
   ·rw [List.getElem?_set_ne (Ne.symm hj)] at e2
    obtain ⟨u', r', q⟩ := hl j y v' e1 e2 e3
    refine ⟨u', r', ?_⟩
    rcases q with ⟨k, e⟩ | ⟨k, c, e, z⟩
    ·refine .inl ⟨k, ?_⟩
     have : y ≠ x := fun e => hj (Zgm hN e1 (e ▸ hi))
     simp [this, e]
    ·exact .inr ⟨k, c, e, z.sameBut hs (cne y c e)⟩
  ·obtain ⟨w', z⟩ := I.cell y c e
   exact ⟨w', z.sameBut hs (cne y c e)⟩
  ·obtain ⟨e, n, ne, nf, d⟩ := I.pin p hp
   exact ⟨(hs.2 p.1 ne).trans e, n, ne, nf, d⟩
 ·have hfn : X.fn x = true := by
   rcases hf with z | z
   ·exact z
   ·rw [z] at hk; cases hk
  obtain ⟨c, hc⟩ := I.ok.has x (.inl hk)
  obtain ⟨w', z⟩ := I.cell x c hc
  refine wpAny_storeName_cell I.ok.kind hk hc z (fun h' hc' hs => ?_)
  obtain ⟨oc, hoc, hocd⟩ := id z
  refine h { s with heap := h' } ⟨I.ok, I.os, I.bare, ⟨fun b o e n hb hx => ?_, fun b o e n hb hx => ?_, I.base.free, fun b o e hx => ?_, I.base.tups, I.base.frzs, I.base.tbls⟩, ⟨m, hn.sameBut hs (Ne.symm (cne x c hc)), fun j y v' e1 e2 e3 => ?_⟩, fun y c' e => ?_, I.free, I.freeC, fun p hp => ?_, tracked ⟨oc, hoc, I.freeC x c hc⟩ hs, by simpa using I.len⟩ ⟨c, hs, .inr hc⟩
  ·exact (hs.2 b (Nat.ne_of_lt (Nat.lt_of_lt_of_le (Heap.lt_size e) (I.ok.cab x c hfn hc)))).trans (I.base.keep b o e n hb hx)
  ·obtain ⟨sl, e1⟩ := I.base.slot b o e n hb hx
   exact ⟨sl, (hs.2 b (Nat.ne_of_lt (Nat.lt_of_lt_of_le (Heap.lt_size e) (I.ok.cab x c hfn hc)))).trans e1⟩
  ·obtain ⟨o', e1⟩ := I.base.there b o e hx
   exact ⟨o', (hs.2 b (Nat.ne_of_lt (Nat.lt_of_lt_of_le (Heap.lt_size e) (I.ok.cab x c hfn hc)))).trans e1⟩
  ·by_cases hj : j = i
   ·subst hj
    rw [hi] at e1; cases e1
    rw [List.getElem?_set_self hiσ] at e2
    cases e2
    exact ⟨u, r, .inr ⟨.inl hk, c, hc, hc'⟩⟩
   ·rw [List.getElem?_set_ne (Ne.symm hj)] at e2
    obtain ⟨u', r', q⟩ := hl j y v' e1 e2 e3
    refine ⟨u', r', ?_⟩
    rcases q with q | ⟨k, c', e, z'⟩
    ·exact .inl q
    ·refine .inr ⟨k, c', e, z'.sameBut hs ?_⟩
     rintro rfl
     exact hj (Zgm hN e1 (I.ok.inj _ _ _ e hc ▸ hi))
  ·by_cases hcc : c' = c
   ·subst hcc; exact ⟨_, hc'⟩
   ·obtain ⟨w2, z2⟩ := I.cell y c' e
    exact ⟨w2, z2.sameBut hs hcc⟩
  ·obtain ⟨e, n, ne, nf, d⟩ := I.pin p hp
   refine ⟨(hs.2 p.1 ?_).trans e, n, ne, nf, d⟩
   intro q
   rw [q, hoc] at e
   have q' : oc = p.2 := Option.some.inj e
   exact d w' (by rw [← q']; exact hocd)
theorem Zgi {M : Model} {A : Around} {E : Value → Shared → Prop} {i : Nat} {x : Str} {v : V} {u : Value} {Q : Unit → Shared → Prop} (I : Inv X pins σ H s) (hN : X.N.Nodup) (hi : X.N[i]? = some x) (hx : Loc X.env.scope x) (r : RelV v u)
  (h : ∀ s', Inv X pins (σ.set i (some v)) H s' → Q () s') (hf : X.fn x = true ∨ X.env.scope.names.lookup x = some .local := by first | exact .inl rfl | exact .inr rfl | assumption) : wpAny M A (storeName X.env x u) Q E s :=
 Zhu I hN hi hx r (fun s' I' _ => h s' I') hf
theorem Inv.call' {s' : Shared} {ch : List Addr} (I : Inv X pins σ H s) (ho : s'.os = s.os) (u : Un (frs X.stack) ch H H' s.heap s'.heap) (hok : HOk X.prog X.w H' s'.heap) (hg : AllBare s'.gens)
  (hch : ∀ b ∈ ch, (b ∈ X.ex ∨ X.s₀.heap.objs.size ≤ b) ∧ b ≠ X.env.locals ∧ (∀ x c, X.env.cells.lookup x = some c → c ≠ b) ∧ ∀ p ∈ X.pn ++ pins, p.1 ≠ b) : Inv X pins σ H' s' := by
 obtain ⟨h', g', d', t', o'⟩ := s'
 have e : o' = s.os := ho
 subst e
 exact I.call (g' := g') (t' := t') (d' := d') u hok hg hch
end
abbrev XK := Value → Option Addr → Hp → Prop
abbrev St := List (Option V)
abbrev VK := V → Hp → Prop
abbrev TE := St → Hp → VK → Prop
abbrev TT := St → Hp → (Bool → Hp → Prop) → Prop
abbrev TA := St → Hp → (List V → Hp → Prop) → Prop
structure Ends where
 nx : St → Hp → Prop
 rt : VK
 bk : St → Hp → Prop := fun _ _ => False
 ct : St → Hp → Prop := fun _ _ => False
abbrev TS := Ends → St → Hp → Prop
def EP (X : Cx) (pins : List (Addr × Obj)) (σ : St) (Q : VK) (u : Value) (s' : Shared) : Prop := ∃ v H', Inv X pins σ H' s' ∧ RelV v u ∧ Q v H'
def TP (X : Cx) (pins : List (Addr × Obj)) (σ : St) (Q : Bool → Hp → Prop) (b : Bool) (s' : Shared) : Prop := ∃ H', Inv X pins σ H' s' ∧ Q b H'
def AP (X : Cx) (pins : List (Addr × Obj)) (σ : St) (Q : List V → Hp → Prop) (us : List Value) (s' : Shared) : Prop := ∃ vs H', Inv X pins σ H' s' ∧ Vals vs us ∧ Q vs H'
def SP (X : Cx) (pins : List (Addr × Obj)) (D : Ends) (f : Flow) (s' : Shared) : Prop :=
 match f with
 | .next => ∃ σ' H', Inv X pins σ' H' s' ∧ D.nx σ' H'
 | .brk => ∃ σ' H', Inv X pins σ' H' s' ∧ D.bk σ' H'
 | .cont => ∃ σ' H', Inv X pins σ' H' s' ∧ D.ct σ' H'
 | .ret u => ∃ v σ' H', Inv X pins σ' H' s' ∧ RelV v u ∧ D.rt v H'
def PE (X : Cx) (e : Expr) (t : TE) : Prop :=
 ∀ (pins : List (Addr × Obj)) (s : Shared) (σ : St) (H : Hp) (Q : VK), Inv X pins σ H s → t σ H Q → wpAny (model X.prog X.w) X.A (eval e X.env) (EP X pins σ Q) X.xe s
def PT (X : Cx) (e : Expr) (t : TT) : Prop :=
 ∀ (pins : List (Addr × Obj)) (s : Shared) (σ : St) (H : Hp) (Q : Bool → Hp → Prop), Inv X pins σ H s → t σ H Q → wpAny (model X.prog X.w) X.A (isTrue e X.env (eval e X.env)) (TP X pins σ Q) X.xe s
def PW (X : Cx) (e : Expr) (t : TT) : Prop :=
 ∀ (whole : Sem Value) (pins : List (Addr × Obj)) (s : Shared) (σ : St) (H : Hp) (Q : Bool → Hp → Prop), Inv X pins σ H s → t σ H Q → wpAny (model X.prog X.w) X.A (isTrue e X.env whole) (TP X pins σ Q) X.xe s
theorem PW.pt {X : Cx} {e : Expr} {t : TT} (h : PW X e t) : PT X e t := h _
def PA (X : Cx) (es : List Expr) (t : TA) : Prop :=
 ∀ (pos : Pos) (pins : List (Addr × Obj)) (s : Shared) (σ : St) (H : Hp) (Q : List V → Hp → Prop), Inv X pins σ H s → t σ H Q → wpAny (model X.prog X.w) X.A (spliced (backTo pos (starEach es X.env))) (AP X pins σ Q) X.xe s
def PS (X : Cx) (st : Stmt) (t : TS) : Prop :=
 ∀ (pins : List (Addr × Obj)) (s : Shared) (σ : St) (H : Hp) (D : Ends), Inv X pins σ H s → t D σ H → wpAny (model X.prog X.w) X.A (exec st X.env) (SP X pins D) X.xe s
def PSs (X : Cx) (st : List Stmt) (t : TS) : Prop :=
 ∀ (pins : List (Addr × Obj)) (s : Shared) (σ : St) (H : Hp) (D : Ends), Inv X pins σ H s → t D σ H → wpAny (model X.prog X.w) X.A (execs st X.env) (SP X pins D) X.xe s
theorem thn {α : Type} {t : Sem α} {Q Q' : α → Shared → Prop} {M : Model} {A : Around} {E : Value → Shared → Prop} {s : Shared} (h : wpAny M A t Q E s) (hQ : ∀ a s, Q a s → Q' a s) : wpAny M A t Q' E s := wpAny_mono h hQ fun _ _ x => x
end L2
namespace L2
open PySem PySem.Spec PyProof.Rows
section
variable {X : Cx}
def Znr (i : Nat) : TE := fun σ H Q => ∃ v, σ[i]? = some (some v) ∧ Q v H
def tC (v : V) : TE := fun _ H Q => Q v H
theorem Zlr {i : Nat} {x : Str} {pos : Pos} (hN : X.N[i]? = some x) (hv : Vis X.env.scope x) (hd : (x == ("__debug__" : Str)) = false := by decide) (hcd : (x == ("__classdict__" : Str)) = false := by decide) : PE X (.Name x pos) (Znr i) := by
 intro pins s σ H Q I h
 obtain ⟨v, e, h⟩ := h
 obtain ⟨m, hn, hl⟩ := I.loc
 obtain ⟨u, r, l⟩ := hl i x v hN e hv
 have fin : EP X pins σ Q u s := ⟨v, H, I, r, h⟩
 rcases l with ⟨hk, hm⟩ | ⟨hk, c, hc, hcell⟩
 ·exact wpAny_Name (wpAny_loadName_local I.ok.kind hk hn hm fin) hd
 ·rcases hk with hk | hk
  ·exact wpAny_Name (wpAny_loadName_cell I.ok.kind hk hc hcell fin) hd
  ·exact wpAny_Name (wpAny_loadName_free I.ok.kind hk hc hcell fin hcd) hd
theorem ZkS {i j pos} : PE X (.Constant (.int i) j pos) (tC (.int i)) := fun _ _ _ H _ I h => wpAny_Constant_int ⟨.int i, H, I.tok _, ⟨_, rfl⟩, h⟩
theorem ZmB {b j pos} : PE X (.Constant (.bool b) j pos) (tC (.bl b)) := fun _ _ _ H _ I h => Constant_bool ⟨.bl b, H, I, rfl, h⟩
theorem Zku {j pos} : PE X (.Constant .none j pos) (tC .non) := fun _ _ _ H _ I h => Constant_none ⟨.non, H, I, rfl, h⟩
theorem ZkP {x j pos} : PE X (.Constant (.str x) j pos) (tC (.str x)) := fun _ _ _ H _ I h => Calls.Constant_str ⟨.str x, H, I.tok _, ⟨_, rfl⟩, h⟩
def Gl (X : Cx) (x : Str) : Prop := X.env.kindOf x = some .globalImplicit
theorem ZjC {E : Value → Shared → Prop} {pins : List (Addr × Obj)} {s : Shared} {σ : St} {H : Hp} {x : Str} {u : Value} {pos : Pos} {Q : Value → Shared → Prop} (I : Inv X pins σ H s) (hg : Gl X x) (hm : X.mg x = some u) (h : Q u s)
  (hd : (x == ("__debug__" : Str)) = false := by decide) : wpAny (model X.prog X.w) X.A (eval (.Name x pos) X.env) Q E s :=
 Calls.Name_function_global I.ok.kind hg (Calls.loadGlobal_global (by rw [I.ok.glob]; exact I.mod.glob.keeps I.bk) hm h) hd
theorem Zdr {E : Value → Shared → Prop} {pins : List (Addr × Obj)} {s : Shared} {σ : St} {H : Hp} {x : Str} {u : Value} {pos : Pos} {Q : Value → Shared → Prop} (I : Inv X pins σ H s) (hg : Gl X x) (hm : X.mg x = none) (hv : bootBuiltins x = some u) (h : Q u s)
  (hn : x ≠ "__name__" := by decide) (hd : (x == ("__debug__" : Str)) = false := by decide) : wpAny (model X.prog X.w) X.A (eval (.Name x pos) X.env) Q E s := by
 obtain ⟨mb, h1, h2⟩ := I.mod.blt
 exact Calls.Name_function_global I.ok.kind hg (Calls.loadGlobal_builtin (by rw [I.ok.glob]; exact I.mod.glob.keeps I.bk) hm (by rw [I.ok.blt]; exact h1.keeps I.bk) ((h2 x hn).trans hv) h) hd
theorem Zjw {x : Str} {v : V} {u : Value} {pos : Pos} (hg : Gl X x) (hm : X.mg x = none) (hv : bootBuiltins x = some u) (r : RelV v u) (hn : x ≠ "__name__" := by decide) (hd : (x == ("__debug__" : Str)) = false := by decide) : PE X (.Name x pos) (tC v) :=
 fun _ _ _ H _ I h => Zdr I hg hm hv ⟨v, H, I, r, h⟩ hn hd
variable {a b : Expr} {ta tb : TE} {pos : Pos}
def tB (t : TE) : TT := fun σ H Q => t σ H fun x H1 => ∃ c, x = .bl c ∧ Q c H1
theorem Zle {e : Expr} {t : TE} (h : PE X e t) (he : ∀ whole, isTrue e X.env whole = (do let v ← whole; standAt e.pos; holding [v] (truthy v)) := by intro _; rfl) : PT X e (tB t) := by
 intro pins s σ H Q I hw
 refine isTrue_plain (thn (h pins s σ H _ I hw) fun v s1 ⟨x, H1, I1, r1, q1⟩ => ?_) (he _)
 obtain ⟨d, rfl, q⟩ := q1
 cases r1
 exact wpAny_truthy_bool ⟨H1, I1, q⟩
variable {tA tB' : TT} {rest : List Expr}
def ZnG (t u : TT) : TT := fun σ H Q => t σ H fun c H1 => if c = true then u σ H1 Q else Q false H1
def tOr (t u : TT) : TT := fun σ H Q => t σ H fun c H1 => if c = true then Q true H1 else u σ H1 Q
def ZnC (t : TT) : TT := fun σ H Q => t σ H fun c H1 => Q (!c) H1
theorem ZjF (ha : PT X a tA) : PW X (.BoolOp .And [a] pos) tA := by
 intro wh pins s σ H Q I h
 refine isTrue_and (thn (ha pins s σ H Q I h) fun c s1 e => ?_)
 cases c with
 | true => exact isTrue_and_nil e
 | false => exact e
theorem ZkB (ha : PT X a tA) : PW X (.BoolOp .Or [a] pos) tA := by
 intro wh pins s σ H Q I h
 refine isTrue_or (thn (ha pins s σ H Q I h) fun c s1 e => ?_)
 cases c with
 | false => exact isTrue_or_nil e
 | true => exact e
theorem ZkZ (ha : PT X a tA) (hb : PW X (.BoolOp .And (b :: rest) pos) tB') : PW X (.BoolOp .And (a :: b :: rest) pos) (ZnG tA tB') := by
 intro wh pins s σ H Q I h
 refine isTrue_and (thn (ha pins s σ H _ I h) fun c s1 ⟨H1, I1, q1⟩ => ?_)
 cases c with
 | true => exact hb wh pins s1 σ H1 Q I1 q1
 | false => exact ⟨H1, I1, q1⟩
theorem Zms (ha : PT X a tA) (hb : PW X (.BoolOp .Or (b :: rest) pos) tB') : PW X (.BoolOp .Or (a :: b :: rest) pos) (tOr tA tB') := by
 intro wh pins s σ H Q I h
 refine isTrue_or (thn (ha pins s σ H _ I h) fun c s1 ⟨H1, I1, q1⟩ => ?_)
 cases c with
 | true => exact ⟨H1, I1, q1⟩
 | false => exact hb wh pins s1 σ H1 Q I1 q1
theorem ZkV (ha : PT X a tA) : PT X (.UnaryOp .Not a pos) (ZnC tA) := by
 intro pins s σ H Q I h
 exact isTrue_not (ha pins s σ H (fun c H1 => Q (!c) H1) I h)
def Zma (ta tb : TE) : TE := fun σ H Q => ta σ H fun x H1 => ∃ c, x = .bl c ∧ if c = true then tb σ H1 Q else Q (.bl false) H1
def Zl8 (ta : TE) : TE := fun σ H Q => ta σ H fun x H1 => ∃ c, x = .bl c ∧ Q (.bl (!c)) H1
theorem Zkv {op} {t : TE} (h : PE X a t) : PE X (.BoolOp op [a] pos) t := fun pins s σ H Q I hw => BoolOp_one (h pins s σ H Q I hw)
theorem ZkL (ha : PE X a ta) (hb : PE X (.BoolOp .And (b :: rest) pos) tb) : PE X (.BoolOp .And (a :: b :: rest) pos) (Zma ta tb) := by
 intro pins s σ H Q I h
 refine BoolOp_and (thn (ha pins s σ H _ I h) fun v s1 ⟨x, H1, I1, r1, q1⟩ => ?_)
 obtain ⟨c, rfl, q1⟩ := q1
 cases r1
 refine wpAny_truthy_bool ?_
 cases c with
 | true => exact hb pins s1 σ H1 Q I1 q1
 | false => exact ⟨.bl false, H1, I1, rfl, q1⟩
theorem Zlb (ha : PE X a ta) : PE X (.UnaryOp .Not a pos) (Zl8 ta) := by
 intro pins s σ H Q I h
 refine UnaryOp_ (thn (ha pins s σ H _ I h) fun v s1 ⟨x, H1, I1, r1, q1⟩ => ?_)
 obtain ⟨c, rfl, q1⟩ := q1
 cases r1
 exact not_of (wpAny_truthy_bool ⟨.bl (!c), H1, I1, rfl, q1⟩)
def tIf (t : TT) (ta tb : TE) : TE := fun σ H Q => t σ H fun c H1 => if c = true then ta σ H1 Q else tb σ H1 Q
theorem Zie {c : Expr} (hc : PT X c tA) (ha : PE X a ta) (hb : PE X b tb) : PE X (.IfExp c a b pos) (tIf tA ta tb) := by
 intro pins s σ H Q I h
 refine wpAny_IfExp (thn (hc pins s σ H _ I h) fun d s1 ⟨H1, I1, q1⟩ => ?_)
 cases d with
 | true => exact ha pins s1 σ H1 Q I1 q1
 | false => exact hb pins s1 σ H1 Q I1 q1
end
end L2
namespace L2
open PySem PySem.Spec PyProof.Rows
def SqL (K : PySem.W.Frag) (H : Hp) (a : Addr) (xs : List V) : Prop :=
 Rd H a (.lst xs) ∨
  ∃ (o : Obj) (its : Array Value) (n : Nat), K.lookup a = some o ∧ o.cls = .type "list" ∧ o.dict = none ∧ o.data = .seq its n ∧ its.size ≤ sizeLine ∧ Vals xs its.toList
def SqT (K : PySem.W.Frag) (H : Hp) (a : Addr) (xs : List V) : Prop :=
 Rd H a (.tup xs) ∨
  ∃ (o : Obj) (its : Array Value) (n : Nat), K.lookup a = some o ∧ (o.cls = .type "tuple" ∧ o.dict = none) ∧ o.data = .seq its n ∧ its.size ≤ sizeLine ∧ Vals xs its.toList
def Znm : Value → Option V
 | .none => some .non
 | .bool b => some (.bl b)
 | .int i _ => some (.int i)
 | .str x _ => some (.str x)
 | .bytes b _ => some (.byt b)
 | .float b _ => some (.flt b)
 | .ref a => some (.ref a)
 | .type n => some (.ty n)
 | _ => none
theorem RelV.abs {x : V} {u : Value} (r : RelV x u) : Znm u = some x := by
 cases x with
 | non => cases r; rfl
 | bl _ => cases r; rfl
 | int _ => obtain ⟨t, rfl⟩ := r; rfl
 | str _ => obtain ⟨t, rfl⟩ := r; rfl
 | byt _ => obtain ⟨t, rfl⟩ := r; rfl
 | flt _ => obtain ⟨t, rfl⟩ := r; rfl
 | ref _ => cases r; rfl
 | ty _ => cases r; rfl
theorem RelV.inj {x y : V} {u : Value} (r : RelV x u) (q : RelV y u) : x = y := Option.some.inj (r.abs.symm.trans q.abs)
theorem Vals.inj : ∀ {xs ys : List V} {us : List Value}, Vals xs us → Vals ys us → xs = ys
 | _, _, _, .nil, .nil => rfl
 | _, _, _, .cons r t, .cons r' t' => by rw [r.inj r', Vals.inj t t']
section
variable {X : Cx} {pins : List (Addr × Obj)} {σ : St} {H : Hp} {s : Shared} {a : Addr} {xs ys : List V}
theorem SqL.of {K : PySem.W.Frag} (h : H a = some (.lst xs)) : SqL K H a xs := .inl (.inl h)
theorem SqT.of {K : PySem.W.Frag} (h : H a = some (.tup xs)) : SqT K H a xs := .inl (.inl h)
theorem Inv.list (I : Inv X pins σ H s) (h : SqL X.K H a xs) : ∃ its : List Value, Vals xs its ∧ PlainL s.heap a its.toArray ∧ xs.length ≤ sizeLine := by
 rcases h with h | ⟨o, its, n, hk, hc, hd, hs, hz, r⟩
 ·obtain ⟨z, its, n, r, e⟩ := h.ok I.hok
  exact ⟨its, r, ⟨_, n, e, rfl, rfl, rfl⟩, z⟩
 ·refine ⟨its.toList, r, ⟨o, n, I.kIn a o hk, hc, hd, by simpa using hs⟩, ?_⟩
  have e := r.length
  simp only [Array.length_toList] at e
  omega
theorem Inv.tuple (I : Inv X pins σ H s) (h : SqT X.K H a xs) : ∃ its : List Value, Vals xs its ∧ IsTup s.heap a its.toArray ∧ xs.length ≤ sizeLine := by
 rcases h with h | ⟨o, its, n, hk, hc, hs, hz, r⟩
 ·obtain ⟨z, its, r, p⟩ := h.ok I.hok
  exact ⟨its, r, p.tup, z⟩
 ·refine ⟨its.toList, r, ⟨o, I.kIn a o hk, hc.1, n, by simpa using hs⟩, ?_⟩
  have e := r.length
  simp only [Array.length_toList] at e
  omega
theorem Inv.list_inj (I : Inv X pins σ H s) (h : SqL X.K H a xs) (h' : SqL X.K H a ys) : xs = ys := by
 obtain ⟨its, r, ⟨o, n, e, _, _, d⟩, _⟩ := I.list h
 obtain ⟨its', r', ⟨o', n', e', _, _, d'⟩, _⟩ := I.list h'
 rw [e] at e'; cases e'
 rw [d] at d'
 injection d' with d1 _
 have : its = its' := by simpa using congrArg Array.toList d1
 subst this
 exact r.inj r'
theorem Inv.tupleN (I : Inv X pins σ H s) (h : SqT X.K H a xs) : ∃ its : List Value, Vals xs its ∧ Zcx s.heap a its.toArray ∧ xs.length ≤ sizeLine := by
 rcases h with h | ⟨o, its, n, hk, hc, hs, hz, r⟩
 ·obtain ⟨z, its, r, p⟩ := h.ok I.hok; exact ⟨its, r, p, z⟩
 ·refine ⟨its.toList, r, ⟨o, I.kIn a o hk, hc, n, by simpa using hs⟩, ?_⟩; have e := r.length; simp only [Array.length_toList] at e; omega
theorem Inv.tuple_inj (I : Inv X pins σ H s) (h : SqT X.K H a xs) (h' : SqT X.K H a ys) : xs = ys := by
 obtain ⟨its, r, ⟨o, e, _, n, d⟩, _⟩ := I.tuple h
 obtain ⟨its', r', ⟨o', e', _, n', d'⟩, _⟩ := I.tuple h'
 rw [e] at e'; cases e'
 rw [d] at d'
 injection d' with d1 _
 have : its = its' := by simpa using congrArg Array.toList d1
 subst this
 exact r.inj r'
end
abbrev Cx.wish (X : Cx) (E : Value → Shared → Prop) : Cx := { X with xe := E }
abbrev Cx.nox (X : Cx) : Cx := X.wish fun _ _ => False
theorem Cx.Ok.wish {X : Cx} (ok : X.Ok) (E : Value → Shared → Prop) : (X.wish E).Ok :=
 ⟨ok.mod, ok.kind, ok.glob, ok.blt, ok.above, ok.inj, ok.has, ok.cab, ok.hd, ok.frames, ok.stk, ok.exf, ok.bs, ok.bsz, ok.noex, ok.exfs, ok.funs, ok.frf⟩
theorem Cx.Ok.unwish {X : Cx} {E : Value → Shared → Prop} (ok : (X.wish E).Ok) : X.Ok :=
 ⟨ok.mod, ok.kind, ok.glob, ok.blt, ok.above, ok.inj, ok.has, ok.cab, ok.hd, ok.frames, ok.stk, ok.exf, ok.bs, ok.bsz, ok.noex, ok.exfs, ok.funs, ok.frf⟩
section
variable {X : Cx} {pins : List (Addr × Obj)} {σ : St} {H : Hp} {s : Shared} {E : Value → Shared → Prop}
theorem Inv.wish (I : Inv X pins σ H s) (E : Value → Shared → Prop) : Inv (X.wish E) pins σ H s := ⟨I.ok.wish E, I.os, I.bare, I.base, I.loc, I.cell, I.free, I.freeC, I.pin, I.hok, I.len⟩
theorem Inv.unwish (I : Inv (X.wish E) pins σ H s) : Inv X pins σ H s := ⟨I.ok.unwish, I.os, I.bare, I.base, I.loc, I.cell, I.free, I.freeC, I.pin, I.hok, I.len⟩
theorem SP.unwish {D : Ends} {f : Flow} {s' : Shared} (h : SP (X.wish E) pins D f s') : SP X pins D f s' := by
 cases f with
 | next => obtain ⟨σ', H', I, q⟩ := h; exact ⟨σ', H', I.unwish, q⟩
 | brk => obtain ⟨σ', H', I, q⟩ := h; exact ⟨σ', H', I.unwish, q⟩
 | cont => obtain ⟨σ', H', I, q⟩ := h; exact ⟨σ', H', I.unwish, q⟩
 | ret u => obtain ⟨v, σ', H', I, r, q⟩ := h; exact ⟨v, σ', H', I.unwish, r, q⟩
theorem PSs.nox {st : List Stmt} {t : TS} (h : PSs X.nox st t) : PSs X st t := fun pins s σ H D I hw =>
 wpAny_mono (h pins s σ H D (I.wish _) hw) (fun _ _ q => q.unwish) fun _ _ z => False.elim z
end
section
variable {X : Cx} {st : Stmt} {rest : List Stmt} {t u : TS} {e : Expr} {te : TE} {pos : Pos}
def Zmn : TS := fun D σ H => D.nx σ H
def Znl (t u : TS) : TS := fun D σ H => t { D with nx := u D } σ H
theorem Zjz : PSs X [] Zmn := fun _ _ σ H _ I h => wpAny_execs_nil ⟨σ, H, I, h⟩
theorem ZiJ (h1 : PS X st t) (h2 : PSs X rest u) : PSs X (st :: rest) (Znl t u) := by
 intro pins s σ H D I h
 refine wpAny_execs_cons (thn (h1 pins s σ H { D with nx := u D } I h) fun f s1 q => ?_)
 cases f with
 | next =>
  obtain ⟨σ', H', I', q⟩ := q
  exact h2 pins s1 σ' H' D I' q
 | ret v => exact q
 | brk => exact q
 | cont => exact q
theorem ZjH (h1 : PS X st t) : PSs X [st] t := by
 intro pins s σ H D I h
 refine wpAny_execs_cons (thn (h1 pins s σ H D I h) fun f s1 q => ?_)
 cases f with
 | next => exact wpAny_execs_nil q
 | ret v => exact q
 | brk => exact q
 | cont => exact q
theorem Inv.quiet {pins : List (Addr × Obj)} {σ : St} {H : Hp} {s : Shared} (I : Inv X pins σ H s) : interactive X.env = false := by simp [interactive, I.ok.kind]
def ZmK (te : TE) : TS := fun D σ H => te σ H fun _ H1 => D.nx σ H1
theorem Zj5 (he : PE X e te) (hs : swapsWith e none pos.line X.env = pure false := by rfl) : PS X (.Expr e pos) (ZmK te) := by
 intro pins s σ H D I h
 exact wpAny_Expr_any (thn (he pins s σ H _ I h) fun v s1 ⟨x, H1, I1, r1, q1⟩ => ⟨σ, H1, I1, q1⟩) I.quiet hs
def ZnB (te : TE) : TS := fun D σ H => te σ H D.rt
theorem Zk4 (he : PE X e te) : PS X (.Return (some e) pos) (ZnB te) := by
 intro pins s σ H D I h
 exact wpAny_Return_some (thn (he pins s σ H _ I h) fun v s1 ⟨x, H1, I1, r1, q1⟩ => ⟨x, σ, H1, I1, r1, q1⟩)
def Zng (c : TT) (t u : TS) : TS := fun D σ H => c σ H fun b H1 => if b = true then t D σ H1 else u D σ H1
theorem ZlY {c : Expr} {a b : List Stmt} {tc : TT} (hc : PT X c tc) (ha : PSs X a t) (hb : PSs X b u) : PS X (.If c a b pos) (Zng tc t u) := by
 intro pins s σ H D I h
 refine wpAny_If (thn (hc pins s σ H _ I h) fun d s1 ⟨H1, I1, q1⟩ => ?_)
 cases d with
 | true => exact ha pins s1 σ H1 D I1 q1
 | false => exact hb pins s1 σ H1 D I1 q1
end
abbrev TG := V → St → Hp → (St → Hp → Prop) → Prop
abbrev TGs := List V → St → Hp → (St → Hp → Prop) → Prop
def PG (X : Cx) (target : Expr) (t : TG) : Prop :=
 ∀ (pins : List (Addr × Obj)) (s : Shared) (σ : St) (H : Hp) (v : V) (u : Value) (Q : St → Hp → Prop), Inv X pins σ H s → RelV v u → t v σ H Q →
  wpAny (model X.prog X.w) X.A (assign target X.env u) (fun _ s' => ∃ σ' H', Inv X pins σ' H' s' ∧ Q σ' H') X.xe s
def PGs (X : Cx) (ts : List Expr) (t : TGs) : Prop :=
 ∀ (pins : List (Addr × Obj)) (s : Shared) (σ : St) (H : Hp) (vs : List V) (us : List Value) (Q : St → Hp → Prop), Inv X pins σ H s → Vals vs us → t vs σ H Q →
  wpAny (model X.prog X.w) X.A (assignInOrder ((assignEach ts X.env).map (·.2)) us) (fun _ s' => ∃ σ' H', Inv X pins σ' H' s' ∧ Q σ' H') X.xe s
abbrev Zk8 := V → V → V → Hp → (Hp → Prop) → Prop
def ZlZ (X : Cx) (t : Zk8) : Prop :=
 ∀ (pins : List (Addr × Obj)) (s : Shared) (σ : St) (H : Hp) (o i v : V) (ov iv u : Value) (Q : Hp → Prop), Inv X pins σ H s → RelV o ov → RelV i iv → RelV v u → t o i v H Q →
  wpAny (model X.prog X.w) X.A (setItem ov iv u) (fun _ s' => ∃ H', Inv X pins σ H' s' ∧ Q H') X.xe s
section
variable {X : Cx} {pos : Pos}
def Zkl (i : Nat) : TG := fun v σ H Q => Q (σ.set i (some v)) H
theorem Zhg {i : Nat} {x : Str} (hN : X.N.Nodup) (hi : X.N[i]? = some x) (hx : Loc X.env.scope x) (hf : X.fn x = true ∨ X.env.scope.names.lookup x = some .local := by first | exact .inl rfl | exact .inr rfl | assumption) : PG X (.Name x pos) (Zkl i) := by
 intro pins s σ H v u Q I r h
 exact wpAny_assign_Name (Zgi I hN hi hx r (fun s' I' => ⟨_, H, I', h⟩) hf)
def Znv : TGs := fun vs σ H Q => vs = [] ∧ Q σ H
def Zmj (t : TG) (u : TGs) : TGs := fun vs σ H Q => ∃ v r, vs = v :: r ∧ t v σ H fun σ' H' => u r σ' H' Q
theorem ZjP : PGs X [] Znv := by
 intro pins s σ H vs us Q I r h
 obtain ⟨e, h⟩ := h
 subst e
 cases r
 exact assignInOrder_nil ⟨σ, H, I, h⟩
theorem Zi2 {e : Expr} {es : List Expr} {t : TG} {u : TGs} (h1 : PG X e t) (h2 : PGs X es u)
  (hs : (assignEach (e :: es) X.env).map (·.2) = assign e X.env :: (assignEach es X.env).map (·.2) := by rfl) : PGs X (e :: es) (Zmj t u) := by
 intro pins s σ H vs us Q I r h
 obtain ⟨v, vr, e1, h⟩ := h
 subst e1
 cases r with
 | cons r rr =>
  rw [hs]
  refine assignInOrder_cons (thn (h1 pins s σ H _ _ _ I r h) fun _ s1 ⟨σ1, H1, I1, q1⟩ => ?_)
  exact h2 pins s1 σ1 H1 _ _ Q I1 rr q1
def ZnA (K : PySem.W.Frag) (n : Nat) (t : TGs) : TG := fun v σ H Q => ∃ a xs, v = .ref a ∧ SqT K H a xs ∧ xs.length = n ∧ t xs σ H Q
theorem Zlf {es : List Expr} {k : Nat} {t : TGs} {n : Nat} (hc : X.calm = true) (h : PGs X es t)
  (hn : (assignEach es X.env).length = n := by rfl) (hst : (assignEach es X.env).findIdx? (·.1) = none := by rfl) : PG X (.Tuple es k pos) (ZnA X.K n t) := by
 intro pins s σ H v u Q I r hw
 obtain ⟨a, xs, e1, hq, hl, hw⟩ := hw
 subst e1
 cases r
 obtain ⟨its, rv, ht, hz⟩ := I.tuple hq
 refine assign_Tuple_tuple (I.ok.hd hc) ht (by simp [hn, ← hl, rv.length]) hst fun h' hx => ?_
 have I1 : Inv X pins σ H { s with heap := h' } := I.kept (t' := s.toks) fun b o e => hx b o (Nat.ne_of_lt (Heap.lt_size e)) e
 exact h pins _ σ H xs _ Q I1 (by simpa using rv) hw
def Znk (to ti : TE) (t : Zk8) : TG := fun v σ H Q => to σ H fun o H1 => ti σ H1 fun i H2 => t o i v H2 fun H3 => Q σ H3
theorem Zk1 {o i : Expr} {to ti : TE} {t : Zk8} (ho : PE X o to) (hi : PE X i ti) (hs : ZlZ X t)
  (ha : ∀ v, assign (.Subscript o i pos) X.env v = (do
   let ov ← holding [v] (eval o X.env)
   let iv ← holding [v, ov] (eval i X.env)
   standAt pos
   holding [v, ov, iv] (setItem ov iv v)
   release [v, ov, iv] []) := by intro _; rfl) : PG X (.Subscript o i pos) (Znk to ti t) := by
 intro pins s σ H v u Q I r h
 rw [ha]
 refine wpAny_bind (wpAny_holding (thn (ho pins s σ H _ I h) fun ov s1 ⟨x, H1, I1, r1, q1⟩ => ?_))
 refine wpAny_bind (wpAny_holding (thn (hi pins s1 σ H1 _ I1 q1) fun iv s2 ⟨y, H2, I2, r2, q2⟩ => ?_))
 refine wpAny_bind (wpAny_standAt (wpAny_bind (wpAny_holding (thn (hs pins s2 σ H2 x y v ov iv u _ I2 r1 r2 r q2) fun _ s3 ⟨H3, I3, q3⟩ => ?_))))
 exact wpAny_release ⟨σ, H3, I3, q3⟩
def ZlX (te : TE) (g : TG) : TS := fun D σ H => te σ H fun x H1 => g x σ H1 D.nx
theorem ZiA {tg e : Expr} {te : TE} {g : TG} (he : PE X e te) (hg : PG X tg g) (hs : swapsWithSole [tg] e pos.line X.env = pure false := by rfl) (hw : swappedStores [tg] e X.env = pure none := by rfl)
  (h1 : (assignEach [tg] X.env).map (·.2) = [assign tg X.env] := by rfl) : PS X (.Assign [tg] e pos) (ZlX te g) := by
 intro pins s σ H D I h
 refine wpAny_Assign_stores (thn (he pins s σ H _ I h) fun v s1 ⟨x, H1, I1, r1, q1⟩ => ?_) hs hw
 rw [h1]
 exact thn (hg pins s1 σ H1 x v _ I1 r1 q1) fun _ s2 q => q
theorem ZlA {i : Nat} {x : Str} {e : Expr} {te : TE} {pos' : Pos} (hN : X.N.Nodup) (hi : X.N[i]? = some x) (hx : Loc X.env.scope x) (he : PE X e te) (hs : swapsWith e (some (.Name x pos')) pos.line X.env = pure false := by rfl) (hf : X.fn x = true ∨ X.env.scope.names.lookup x = some .local := by first | exact .inl rfl | exact .inr rfl | assumption) :
  PS X (.Assign [.Name x pos'] e pos) (ZlX te (Zkl i)) := by
 intro pins s σ H D I h
 refine wpAny_Assign_Name (thn (he pins s σ H _ I h) fun v s1 ⟨y, H1, I1, r1, q1⟩ => ?_) hs
 exact Zgi I1 hN hi hx r1 (fun s2 I2 => ⟨_, H1, I2, q1⟩) hf
end
section
variable {X : Cx} {pos : Pos}
def ZkI (c : TT) (tb : TS) : TS := fun D σ H => ∃ W : Nat → St → Hp → Prop, (∃ m, W m σ H) ∧ ∀ m σ H, W m σ H →
 c σ H fun b H1 => if b = true then ∃ N : St → Hp → Prop, (∀ σ' H', N σ' H' → ∃ m', m' < m ∧ W m' σ' H') ∧ tb { D with nx := N, ct := N, bk := D.nx } σ H1 else D.nx σ H1
theorem Zjd {c : Expr} {body : List Stmt} {tc : TT} {tb : TS} (hp : PassesOwn (model X.prog X.w) X.A X.env X.xe) (hc : PT X c tc) (hb : PSs X body tb) : PS X (.While c body [] pos) (ZkI tc tb) := by
 intro pins s σ H D I h
 obtain ⟨W, ⟨m0, w0⟩, turn⟩ := h
 refine wpAny_While (codeAny_whileLoop (fun n s' => ∃ σ' H', Inv X pins σ' H' s' ∧ W n σ' H') ?_ m0 ⟨σ, H, I, w0⟩)
 rintro n s1 ⟨σ1, H1, I1, w1⟩
 refine wpAny_passesOwn hp (thn (hc pins s1 σ1 H1 _ I1 (turn n σ1 H1 w1)) fun b s2 ⟨H2, I2, q2⟩ => ?_)
 cases b with
 | true =>
  obtain ⟨N, hN, q2⟩ := q2
  rw [if_pos rfl]
  refine wpAny_passesOwn hp (thn (hb pins s2 σ1 H2 _ I2 q2) fun f s3 q3 => ?_)
  cases f with
  | next =>
   obtain ⟨σ3, H3, I3, n3⟩ := q3
   obtain ⟨m', hm, w3⟩ := hN σ3 H3 n3
   exact ⟨m', hm, σ3, H3, I3, w3⟩
  | cont =>
   obtain ⟨σ3, H3, I3, n3⟩ := q3
   obtain ⟨m', hm, w3⟩ := hN σ3 H3 n3
   exact ⟨m', hm, σ3, H3, I3, w3⟩
  | brk => exact q3
  | ret v => exact q3
 | false =>
  rw [if_neg Bool.false_ne_true]
  exact wpAny_execs_nil ⟨σ1, H2, I2, q2⟩
end
structure It where
 go : Nat → Hp → Prop
 yld : Nat → Hp → V → Hp → Prop
 stop : Nat → Hp → Prop
def ZdN (X : Cx) (pins : List (Addr × Obj)) (H : Hp) (b : Addr) : Prop :=
 H b = none ∧ b ≠ X.env.locals ∧ b ∉ X.fs ∧ (b ∈ X.ex ∨ X.s₀.heap.objs.size ≤ b) ∧ (∀ x c, X.env.cells.lookup x = some c → c ≠ b) ∧ ∀ p ∈ X.pn ++ pins, p.1 ≠ b
theorem Inv.fpOk {X : Cx} {pins : List (Addr × Obj)} {σ : St} {H H' : Hp} {s : Shared} {b : Addr} (I : Inv X pins σ H s) (hb : s.heap.objs.size ≤ b) (hn : H' b = none) : ZdN X pins H' b := by
 refine ⟨hn, Nat.ne_of_gt (Nat.lt_of_lt_of_le I.lt hb), I.nofs hb, .inr (Nat.le_trans I.sz hb), fun x c e z => ?_, fun p hp z => ?_⟩
 ·obtain ⟨v, q⟩ := I.cell x c e
  exact absurd (Nat.lt_of_lt_of_le q.lt (by rw [z]; exact hb)) (Nat.lt_irrefl _)
 ·exact absurd (Nat.lt_of_lt_of_le (Heap.lt_size (I.pin p hp).1) (by rw [z]; exact hb)) (Nat.lt_irrefl _)
structure Turn (P : Program) (w : World) (K : PySem.W.Frag) (tg : Expr) (J : It) (fp : List Addr) (it : Addr) (tn : Nat → Heap → Prop) : Prop where
 mem : it ∈ fp
 obj : ∀ i h, tn i h → ∀ b ∈ fp, ∃ o, h.get? b = some o ∧ ∀ v, o.data ≠ .cell v
 keep : ∀ i h h', tn i h → (∀ b ∈ fp, ∀ o, h.get? b = some o → h'.get? b = some o) → tn i h'
 item : ∀ (X : Cx), X.prog = P → X.w = w → X.K = K → X.calm = true → ∀ (i : Nat) (pins : List (Addr × Obj)) (s : Shared) (σ : St) (H : Hp) (E : Value → Shared → Prop), Inv X pins σ H s → (∀ b ∈ fp, ZdN X pins H b) → tn i s.heap → J.go i H →
  wpAny (model P w) X.A (pyNext (.ref it)) (fun r s1 => ∃ u, r = some u ∧
   wpAny (model P w) X.A (letOwnedTupleGo tg (.ref it) u) (fun _ s2 => ∃ x H', Inv X pins σ H' s2 ∧ RelV x u ∧ J.yld i H x H' ∧ tn (i + 1) s2.heap ∧ ∀ b ∈ fp, H' b = none) E s1) E s
 done : ∀ (X : Cx), X.prog = P → X.w = w → X.K = K → X.calm = true → ∀ (i : Nat) (pins : List (Addr × Obj)) (s : Shared) (σ : St) (H : Hp) (E : Value → Shared → Prop), Inv X pins σ H s → (∀ b ∈ fp, ZdN X pins H b) → tn i s.heap → J.stop i H →
  wpAny (model P w) X.A (pyNext (.ref it)) (fun r s1 => r = none ∧ Inv X pins σ H s1) E s
 self : ∀ (A : Around) (i : Nat) (s : Shared) (Q : Value → Shared → Prop) (E : Value → Shared → Prop), tn i s.heap → Q (.ref it) s → wpAny (model P w) A (pyIter (.ref it)) Q E s
abbrev TI := St → Hp → (It → Hp → Prop) → Prop
def PIE (X : Cx) (pins : List (Addr × Obj)) (σ : St) (tg : Expr) (R : It → Hp → Prop) (itv : Value) (s2 : Shared) : Prop :=
 ∃ (it : Addr) (fp : List Addr) (tn : Nat → Heap → Prop) (J : It) (H' : Hp), itv = .ref it ∧ Inv X pins σ H' s2 ∧ Turn X.prog X.w X.K tg J fp it tn ∧ tn 0 s2.heap ∧ (∀ b ∈ fp, ZdN X pins H' b) ∧ R J H'
def PI (X : Cx) (tg iter : Expr) (wi : TI) : Prop :=
 ∀ (pins : List (Addr × Obj)) (s : Shared) (σ : St) (H : Hp) (R : It → Hp → Prop), Inv X pins σ H s → wi σ H R →
  wpAny (model X.prog X.w) X.A (eval iter X.env) (fun v s1 => wpAny (model X.prog X.w) X.A (pyIter v) (PIE X pins σ tg R) X.xe s1) X.xe s
theorem Zhd {M : Model} {A : Around} {E : Value → Shared → Prop} {s : Shared} {tg : Expr} {it : Addr} {u : Value} {o : Obj} {n : String} {vs : Array Value} {Q : Unit → Shared → Prop} (ho : s.heap.get? it = some o) (hc : o.cls = .type n) (hd : o.data = .fields vs)
  (hn : ["enumerate", "zip", "dict_itemiterator", "dict_reverseitemiterator", "odict_iterator", "itertools.zip_longest", "itertools.pairwise"].contains n = false) (hQ : Q () s) : wpAny M A (letOwnedTupleGo tg (.ref it) u) Q E s := by
 unfold letOwnedTupleGo
 cases tg <;> first
  | exact wpAny_pure hQ
  | (cases u <;> first
    | exact wpAny_pure hQ
    | (refine wpAny_bind (wpAny_load ho ?_)
       rw [hc, hd]
       show wpAny M A (if (["enumerate", "zip", "dict_itemiterator", "dict_reverseitemiterator", "odict_iterator", "itertools.zip_longest", "itertools.pairwise"].contains n && vs[0]? == some (rawInt _)) = true then _ else _) Q E s
       rw [if_neg (by intro h; rw [hn, Bool.false_and] at h; cases h)]
       exact wpAny_pure hQ))
def Itl (K : PySem.W.Frag) (a : Addr) : It :=
 ⟨fun i H => ∃ xs x, SqL K H a xs ∧ xs[i]? = some x, fun i H x H' => H' = H ∧ ∀ xs, SqL K H a xs → xs[i]? = some x, fun i H => ∃ xs, SqL K H a xs ∧ xs.length ≤ i⟩
def Itt (K : PySem.W.Frag) (a : Addr) : It :=
 ⟨fun i H => ∃ xs x, SqT K H a xs ∧ xs[i]? = some x, fun i H x H' => H' = H ∧ ∀ xs, SqT K H a xs → xs[i]? = some x, fun i H => ∃ xs, SqT K H a xs ∧ xs.length ≤ i⟩
def Itr (lo : Int) (n : Nat) : It := ⟨fun i _ => i < n, fun i H x H' => H' = H ∧ x = .int (lo + i), fun i _ => n ≤ i⟩
theorem ZhF {P : Program} {w : World} {K : PySem.W.Frag} {tg : Expr} (a it : Addr) : Turn P w K tg (Itl K a) [it] it (fun i h => h.IsListIter it a i) where
 mem := by simp
 obj := fun i h st b hb => by
  have e : b = it := by simpa using hb
  subst e
  obtain ⟨o, e, c, d⟩ := st
  exact ⟨o, e, fun v z => by rw [d] at z; cases z⟩
 keep := fun i h h' st k => st.at fun o e => k it (by simp) o e
 item := by
  intro X hP hw hK hc i pins s σ H E I hf st hg
  subst hP hw hK
  obtain ⟨xs, x, hq, hx⟩ := hg
  obtain ⟨its, rv, p, hz⟩ := I.list hq
  obtain ⟨u, hu, ru⟩ := rv.get hx
  obtain ⟨f0, f1, f2, f3, f4, f5⟩ := hf it (by simp)
  refine wpAny_pyNext_list_item st p.isList (x := u) (by simpa using hu) fun h' st' sb => ?_
  have I1 : Inv X pins σ H { s with heap := h' } := I.turned (t' := s.toks) (fun b o hb e => (sb.2 b hb).trans e) f0 f1 f3 f4 f5
  obtain ⟨o, e, c, d⟩ := id st'
  exact ⟨u, rfl, Zhd (s := { s with heap := h' }) e c d (by decide) ⟨x, H, I1, ru, ⟨rfl, fun ys hy => by rw [I.list_inj hy hq]; exact hx⟩, st', fun b hb => (hf b hb).1⟩⟩
 done := by
  intro X hP hw hK hc i pins s σ H E I hf st hg
  subst hP hw hK
  obtain ⟨xs, hq, hx⟩ := hg
  obtain ⟨its, rv, p, hz⟩ := I.list hq
  obtain ⟨f0, f1, f2, f3, f4, f5⟩ := hf it (by simp)
  have hl := rv.length
  exact wpAny_pyNext_list_end (I.ok.hd hc) st p.isList (by simp; omega) fun h' eb => ⟨rfl, I.turned (t' := s.toks) (fun b o hb e => eb b o hb e) f0 f1 f3 f4 f5⟩
 self := fun _ _ _ _ _ st h => wpAny_pyIter_listiter st h
theorem Zgw {P : Program} {w : World} {K : PySem.W.Frag} {tg : Expr} (a it : Addr) : Turn P w K tg (Itt K a) [it] it (fun i h => h.IsTupleIter it a i) where
 mem := by simp
 obj := fun i h st b hb => by
  have e : b = it := by simpa using hb
  subst e
  obtain ⟨o, e, c, d⟩ := st
  exact ⟨o, e, fun v z => by rw [d] at z; cases z⟩
 keep := fun i h h' st k => st.at fun o e => k it (by simp) o e
 item := by
  intro X hP hw hK hc i pins s σ H E I hf st hg
  subst hP hw hK
  obtain ⟨xs, x, hq, hx⟩ := hg
  obtain ⟨its, rv, p, hz⟩ := I.tuple hq
  obtain ⟨u, hu, ru⟩ := rv.get hx
  obtain ⟨f0, f1, f2, f3, f4, f5⟩ := hf it (by simp)
  refine wpAny_pyNext_tuple_item st (show s.heap.IsTuple a its.toArray from p) (x := u) (by simpa using hu) fun h' st' sb => ?_
  have I1 : Inv X pins σ H { s with heap := h' } := I.turned (t' := s.toks) (fun b o hb e => (sb.2 b hb).trans e) f0 f1 f3 f4 f5
  obtain ⟨o, e, c, d⟩ := id st'
  exact ⟨u, rfl, Zhd (s := { s with heap := h' }) e c d (by decide) ⟨x, H, I1, ru, ⟨rfl, fun ys hy => by rw [I.tuple_inj hy hq]; exact hx⟩, st', fun b hb => (hf b hb).1⟩⟩
 done := by
  intro X hP hw hK hc i pins s σ H E I hf st hg
  subst hP hw hK
  obtain ⟨xs, hq, hx⟩ := hg
  obtain ⟨its, rv, p, hz⟩ := I.tuple hq
  obtain ⟨f0, f1, f2, f3, f4, f5⟩ := hf it (by simp)
  have hl := rv.length
  exact wpAny_pyNext_tuple_end (I.ok.hd hc) st (show s.heap.IsTuple a its.toArray from p) (by simp; omega) fun h' eb => ⟨rfl, I.turned (t' := s.toks) (fun b o hb e => eb b o hb e) f0 f1 f3 f4 f5⟩
 self := fun _ _ _ _ _ st h => wpAny_pyIter_tupleiter st h
theorem ZgY {P : Program} {w : World} {K : PySem.W.Frag} {tg : Expr} (it : Addr) (lo : Int) (n : Nat) : Turn P w K tg (Itr lo n) [it] it (fun i h => IsRangeIter h it (lo + (i : Nat) * 1) ((n : Int) - (i : Nat)) 1) where
 mem := by simp
 obj := fun i h st b hb => by
  have e : b = it := by simpa using hb
  subst e
  exact ⟨_, st, fun v z => by
   have z' : Data.fields _ = Data.cell v := z
   cases z'⟩
 keep := fun i h h' st k => k it (by simp) _ st
 item := by
  intro X hP hw hK hc i pins s σ H E I hf st hg
  subst hP hw hK
  obtain ⟨f0, f1, f2, f3, f4, f5⟩ := hf it (by simp)
  have W := Walks.range (prog := X.prog) (w := X.w) (I.ok.hd hc) it lo 1 n
  refine W.item i s _ _ hg st fun v h' tk hv st' kk => ?_
  obtain ⟨t, rfl⟩ := hv
  have I1 : Inv X pins σ H { s with heap := h', toks := tk } := I.turned (fun b o hb e => kk b o (by simpa using hb) e) f0 f1 f3 f4 f5
  refine ⟨_, rfl, Zhd (s := { s with heap := h', toks := tk }) (n := "range_iterator") st' rfl rfl (by decide) ⟨.int (lo + i), H, I1, ⟨t, ?_⟩, ⟨rfl, rfl⟩, st', fun b hb => (hf b hb).1⟩⟩
  rw [Int.mul_one]
 done := by
  intro X hP hw hK hc i pins s σ H E I hf st hg
  subst hP hw hK
  obtain ⟨f0, f1, f2, f3, f4, f5⟩ := hf it (by simp)
  exact wpAny_pyNext_range_end (I.ok.hd hc) st (by have : n ≤ i := hg; omega) fun h' eb => ⟨rfl, I.turned (t' := s.toks) (fun b o hb e => eb b o hb e) f0 f1 f3 f4 f5⟩
 self := fun _ _ _ _ _ st h => wpAny_pyIter_rangeiter st h
end L2
namespace L2
open PySem PySem.Spec PyProof.Rows
section
variable {X : Cx} {tg : Expr}
def Zmx (K : PySem.W.Frag) (tl : TE) : TI := fun σ H R => tl σ H fun x H1 => ∃ a, x = .ref a ∧ (∃ xs, SqL K H1 a xs) ∧ R (Itl K a) H1
def Znt (K : PySem.W.Frag) (tl : TE) : TI := fun σ H R => tl σ H fun x H1 => ∃ a, x = .ref a ∧ (∃ xs, SqT K H1 a xs) ∧ R (Itt K a) H1
theorem ZjS {l : Expr} {tl : TE} (hl : PE X l tl) : PI X tg l (Zmx X.K tl) := by
 intro pins s σ H R I h
 refine thn (hl pins s σ H _ I h) fun v s1 ⟨x, H1, I1, r1, q1⟩ => ?_
 obtain ⟨a, e, ⟨xs, hq⟩, q⟩ := q1
 subst e
 cases r1
 obtain ⟨its, rv, p, hz⟩ := I1.list hq
 refine wpAny_pyIter_list p.isList ?_
 refine ⟨s1.heap.objs.size, [s1.heap.objs.size], _, _, H1, rfl, I1.kept (t' := s1.toks) fun b o e => Heap.get?_push_of_some _ e, ZhF a _, ⟨_, Heap.get?_push_size _ rfl, rfl, rfl⟩, fun b hb => ?_, q⟩
 have e : b = s1.heap.objs.size := by simpa using hb
 subst e
 exact I1.fpOk (Nat.le_refl _) (I1.hok.fresh (Nat.le_refl _))
theorem ZkC {l : Expr} {tl : TE} (hl : PE X l tl) : PI X tg l (Znt X.K tl) := by
 intro pins s σ H R I h
 refine thn (hl pins s σ H _ I h) fun v s1 ⟨x, H1, I1, r1, q1⟩ => ?_
 obtain ⟨a, e, ⟨xs, hq⟩, q⟩ := q1
 subst e
 cases r1
 obtain ⟨its, rv, p, hz⟩ := I1.tuple hq
 refine wpAny_pyIter_tuple (show s1.heap.IsTuple a its.toArray from p) ?_
 refine ⟨s1.heap.objs.size, [s1.heap.objs.size], _, _, H1, rfl, I1.kept (t' := s1.toks) fun b o e => Heap.get?_push_of_some _ e, Zgw a _, ⟨_, Heap.get?_push_size _ rfl, rfl, rfl⟩, fun b hb => ?_, q⟩
 have e : b = s1.heap.objs.size := by simpa using hb
 subst e
 exact I1.fpOk (Nat.le_refl _) (I1.hok.fresh (Nat.le_refl _))
theorem Zio {pins : List (Addr × Obj)} {σ : St} {H : Hp} {s : Shared} {R : It → Hp → Prop} {E : Value → Shared → Prop} {lo hi : Int} {t u v : Tok} {tk : Nat} (I : Inv X pins σ H s) (h1 : -(2 ^ 62) ≤ lo) (h2 : lo < 2 ^ 62) (h3 : -(2 ^ 62) ≤ hi) (h4 : hi < 2 ^ 62)
  (q : R (Itr lo (hi - lo).toNat) H) : wpAny (model X.prog X.w) X.A (pyIter (.ref s.heap.objs.size)) (PIE X pins σ tg R) E { s with heap := s.heap.push { cls := .type "range", data := .fields #[.int lo t, .int hi u, .int 1 v] }, toks := tk } := by
 refine wpAny_pyIter_range (IsRange.new ..) (small_one h1 h2 h3 h4) ?_
 have I1 : Inv X pins σ H { s with heap := s.heap.push { cls := .type "range", data := .fields #[.int lo t, .int hi u, .int 1 v] }, toks := tk } := I.kept fun b o e => Heap.get?_push_of_some _ e
 refine ⟨(s.heap.push { cls := .type "range", data := .fields #[.int lo t, .int hi u, .int 1 v] }).objs.size, [(s.heap.push { cls := .type "range", data := .fields #[.int lo t, .int hi u, .int 1 v] }).objs.size], _, _, H, rfl,
  I1.kept (t' := tk) fun b o e => Heap.get?_push_of_some _ e, ZgY _ lo (hi - lo).toNat, ?_, fun b hb => ?_, q⟩
 ·have e1 : lo + ((0 : Nat) : Int) * 1 = lo := by simp
  have e2 : (((hi - lo).toNat : Nat) : Int) - ((0 : Nat) : Int) = Builtin.Range.rangeSize lo hi 1 := by rw [rangeSize_one]; split <;> omega
  show IsRangeIter _ _ (lo + ((0 : Nat) : Int) * 1) ((((hi - lo).toNat : Nat) : Int) - ((0 : Nat) : Int)) 1
  rw [e1, e2]
  exact Heap.get?_push_size _ rfl
 ·have e : b = (s.heap.push { cls := .type "range", data := .fields #[.int lo t, .int hi u, .int 1 v] }).objs.size := by simpa using hb
  subst e
  exact I1.fpOk (Nat.le_refl _) (I1.hok.fresh (Nat.le_refl _))
def Zmv (ta : TA) : TI := fun σ H R => ta σ H fun vs H1 => ∃ j : Int, vs = [.int j] ∧ -(2 ^ 62) ≤ j ∧ j < 2 ^ 62 ∧ R (Itr 0 j.toNat) H1
theorem ZhP {a : Expr} {ta : TA} {p pos : Pos} (hg : Gl X "range") (hm : X.mg "range" = none) (ha : PA X [a] ta) (hs : starEach [a] X.env = [(false, eval a X.env)] := by rfl) : PI X tg (.Call (.Name "range" p) [a] [] pos) (Zmv ta) := by
 intro pins s σ H R I h
 refine Call_ (Zdr I hg hm boot_range (PyProof.Rows.callWith_type1 (thn (ha pos pins s σ H _ I h) fun us s1 ⟨vs, H1, I1, r1, q1⟩ => ?_) hs rfl))
 obtain ⟨j, e, q1, q2, q⟩ := q1
 subst e
 cases r1 with
 | cons r rr =>
  cases rr
  obtain ⟨t, rfl⟩ := r
  exact call_range_1 (Zio I1 (by omega) (by omega) q1 q2 (by simpa using q))
def Zna (wi : TI) (g : TG) (tb : TS) : TS := fun D σ H => wi σ H fun J H1 => ∃ W : Nat → Nat → St → Hp → Prop, (∃ m, W 0 m σ H1) ∧ ∀ i m σ H, W i m σ H →
 (J.stop i H ∧ D.nx σ H) ∨ (J.go i H ∧ ∃ N : St → Hp → Prop, (∀ σ' H', N σ' H' → ∃ m', m' < m ∧ W (i + 1) m' σ' H') ∧ ∀ x H', J.yld i H x H' → g x σ H' fun σ2 H2 => tb { D with nx := N, ct := N, bk := D.nx } σ2 H2)
def Zeu (fp : List Addr) (h : Heap) : List (Addr × Obj) := fp.filterMap fun b => (h.get? b).map fun o => (b, o)
theorem ZcS {fp : List Addr} {h : Heap} {b : Addr} {o : Obj} (hb : b ∈ fp) (e : h.get? b = some o) : (b, o) ∈ Zeu fp h := List.mem_filterMap.mpr ⟨b, hb, by rw [e]; rfl⟩
theorem Zhr {fp : List Addr} {h : Heap} {p : Addr × Obj} (hp : p ∈ Zeu fp h) : p.1 ∈ fp ∧ h.get? p.1 = some p.2 := by
 obtain ⟨b, hb, e⟩ := List.mem_filterMap.mp hp
 cases q : h.get? b with
 | none => rw [q] at e; cases e
 | some o =>
  rw [q] at e
  have e' : (b, o) = p := Option.some.inj e
  subst e'
  exact ⟨hb, q⟩
theorem Inv.pinned {pins : List (Addr × Obj)} {σ : St} {H : Hp} {s : Shared} {fp : List Addr} (I : Inv X pins σ H s) (hf : ∀ b ∈ fp, ZdN X pins H b) (ho : ∀ b ∈ fp, ∃ o, s.heap.get? b = some o ∧ ∀ v, o.data ≠ .cell v) : Inv X (pins ++ Zeu fp s.heap) σ H s :=
 I.pins_of fun p hp => (List.mem_append.mp hp).elim (fun z => I.pin p (List.mem_append_right _ z)) fun z => by
  obtain ⟨hb, e⟩ := Zhr z
  obtain ⟨f0, f1, f2, _⟩ := hf p.1 hb
  obtain ⟨o, e', d⟩ := ho p.1 hb
  rw [e] at e'; cases e'
  exact ⟨e, f0, f1, f2, d⟩
theorem Inv.unpinned {pins pl : List (Addr × Obj)} {σ : St} {H : Hp} {s : Shared} (I : Inv X (pins ++ pl) σ H s) : Inv X pins σ H s := I.pins_of fun p hp => I.pin p (List.mem_append_right _ (List.mem_append_left _ hp))
theorem ZiN {iter : Expr} {body : List Stmt} {wi : TI} {g : TG} {tb : TS} {pos : Pos} (hp : PassesOwn (model X.prog X.w) X.A X.env X.xe) (hc : X.calm = true) (hi : PI X tg iter wi) (hg : PG X tg g) (hb : PSs X body tb)
  (hs : ∀ x, foldedSetIterable iter X.env x = pure x := by intro _; rfl) : PS X (.For tg iter body [] pos) (Zna wi g tb) := by
 intro pins s σ H D I h
 refine wpAny_For (thn (hi pins s σ H _ I h) fun v s1 h1 => thn h1 fun itv s2 h2 => ?_) hs
 obtain ⟨it, fp, tn, J, H2, e, I2, T, st2, f2, W, ⟨m0, w0⟩, turn⟩ := h2
 subst e
 have stat : ∀ {H' : Hp}, (∀ b ∈ fp, H' b = none) → ∀ b ∈ fp, ZdN X pins H' b := fun hn b hb => ⟨hn b hb, (f2 b hb).2⟩
 refine codeAny_forLoop_any (fun n s' => ∃ i σ' H', Inv X pins σ' H' s' ∧ tn i s'.heap ∧ (∀ b ∈ fp, H' b = none) ∧ W i n σ' H') ?_ m0 ⟨0, σ, H2, I2, st2, fun b hb => (f2 b hb).1, w0⟩
 rintro n s3 ⟨i, σ3, H3, I3, st3, fr3, w3⟩
 rcases turn i n σ3 H3 w3 with ⟨stop, qn⟩ | ⟨go, N, hN, step⟩
 ·refine wpAny_passesOwn hp (thn (T.done X rfl rfl rfl hc i pins s3 σ3 H3 X.xe I3 (stat fr3) st3 stop) fun r s4 ⟨hr, I4⟩ => ?_)
  subst hr
  exact wpAny_execs_nil ⟨σ3, H3, I4, qn⟩
 ·refine wpAny_passesOwn hp (thn (T.item X rfl rfl rfl hc i pins s3 σ3 H3 X.xe I3 (stat fr3) st3 go) fun r s4 ⟨u, hr, h4⟩ => ?_)
  subst hr
  refine wpAny_passesOwn hp (thn h4 fun _ s5 ⟨x, H5, I5, r5, y5, st5, fr5⟩ => ?_)
  have I5' := I5.pinned (stat fr5) (T.obj _ _ st5)
  refine wpAny_passesOwn hp (thn (hg _ s5 σ3 H5 x u _ I5' r5 (step x H5 y5)) fun _ s6 ⟨σ6, H6, I6, q6⟩ => ?_)
  refine wpAny_passesOwn hp (thn (hb _ s6 σ6 H6 _ I6 q6) fun f s7 q7 => ?_)
  have again : ∀ {σ7 : St} {H7 : Hp}, Inv X (pins ++ Zeu fp s5.heap) σ7 H7 s7 → N σ7 H7 → ∃ m, m < n ∧ ∃ i σ' H', Inv X pins σ' H' s7 ∧ tn i s7.heap ∧ (∀ b ∈ fp, H' b = none) ∧ W i m σ' H' := fun {σ7 H7} I7 n7 => by
   obtain ⟨m', hm, w7⟩ := hN σ7 H7 n7
   refine ⟨m', hm, i + 1, σ7, H7, I7.unpinned, T.keep _ _ _ st5 fun b hb o e => (I7.pin (b, o) (List.mem_append_right _ (List.mem_append_right _ (ZcS hb e)))).1, fun b hb => ?_, w7⟩
   obtain ⟨o, e, d⟩ := T.obj _ _ st5 b hb
   exact (I7.pin (b, o) (List.mem_append_right _ (List.mem_append_right _ (ZcS hb e)))).2.1
  cases f with
  | next => obtain ⟨σ7, H7, I7, n7⟩ := q7; exact again I7 n7
  | cont => obtain ⟨σ7, H7, I7, n7⟩ := q7; exact again I7 n7
  | brk => obtain ⟨σ7, H7, I7, q7⟩ := q7; exact ⟨σ7, H7, I7.unpinned, q7⟩
  | ret v => obtain ⟨x7, σ7, H7, I7, r7, q7⟩ := q7; exact ⟨x7, σ7, H7, I7.unpinned, r7, q7⟩
end
end L2
namespace L2
open PySem PySem.Spec PyProof.Rows
abbrev R2 := V → V → Hp → VK → Prop
def OpR (X : Cx) (f : Value → Value → Sem Value) (r : R2) : Prop :=
 ∀ (pins : List (Addr × Obj)) (s : Shared) (σ : St) (H : Hp) (x y : V) (v u : Value) (Q : VK), Inv X pins σ H s → RelV x v → RelV y u → r x y H Q →
  wpAny (model X.prog X.w) X.A (f v u) (EP X pins σ Q) X.xe s
def UnR (X : Cx) (f : Value → Sem Value) (r : V → Hp → VK → Prop) : Prop :=
 ∀ (pins : List (Addr × Obj)) (s : Shared) (σ : St) (H : Hp) (x : V) (v : Value) (Q : VK), Inv X pins σ H s → RelV x v → r x H Q →
  wpAny (model X.prog X.w) X.A (f v) (EP X pins σ Q) X.xe s
def Zbb (X : Cx) (f : Value) (r : List V → Hp → VK → Prop) : Prop :=
 ∀ (pins : List (Addr × Obj)) (s : Shared) (σ : St) (H : Hp) (xs : List V) (us : List Value) (Q : VK), Inv X pins σ H s → Vals xs us → r xs H Q →
  wpAny (model X.prog X.w) X.A (call f us) (EP X pins σ Q) X.xe s
def tOp (r : R2) (ta tb : TE) : TE := fun σ H Q => ta σ H fun x H1 => tb σ H1 fun y H2 => r x y H2 Q
def tUn (r : V → Hp → VK → Prop) (ta : TE) : TE := fun σ H Q => ta σ H fun x H1 => r x H1 Q
def rI (C : Int → Int → Prop) (g : Int → Int → V) : R2 := fun x y H Q => ∃ i j, x = .int i ∧ y = .int j ∧ C i j ∧ Q (g i j) H
def rI0 (g : Int → Int → V) : R2 := fun x y H Q => ∃ i j, x = .int i ∧ y = .int j ∧ Q (g i j) H
def rU (g : Int → V) : V → Hp → VK → Prop := fun x H Q => ∃ i, x = .int i ∧ Q (g i) H
section
variable {X : Cx} {a b c : Expr} {ta tb tc : TE} {pos : Pos}
theorem ZlF (ha : PE X a ta) (hb : PE X b tb) {pins : List (Addr × Obj)} {s : Shared} {σ : St} {H : Hp} {R : V → V → Hp → Prop} (I : Inv X pins σ H s)
  (h : ta σ H fun x H1 => tb σ H1 fun y H2 => R x y H2) {Q : Value → Shared → Prop} {f : Value → Value → Sem Value}
  (hf : ∀ v u s2 x y H2, Inv X pins σ H2 s2 → RelV x v → RelV y u → R x y H2 → wpAny (model X.prog X.w) X.A (f v u) Q X.xe s2) :
  wpAny (model X.prog X.w) X.A (eval a X.env) (fun v s₁ => wpAny (model X.prog X.w) X.A (eval b X.env) (fun u s₂ => wpAny (model X.prog X.w) X.A (f v u) Q X.xe s₂) X.xe s₁) X.xe s := by
 refine thn (ha pins s σ H _ I h) fun v s1 ⟨x, H1, I1, r1, q1⟩ => ?_
 refine thn (hb pins s1 σ H1 _ I1 q1) fun u s2 ⟨y, H2, I2, r2, q2⟩ => ?_
 exact hf v u s2 x y H2 I2 r1 r2 q2
theorem ZmI {op : Operator} {r : R2} (ho : OpR X (binaryOp op) r) (ha : PE X a ta) (hb : PE X b tb) : PE X (.BinOp a op b pos) (tOp r ta tb) := by
 intro pins s σ H Q I h
 exact wpAny_BinOp (ZlF ha hb I h fun v u s2 x y H2 I2 rx ry q => ho pins s2 σ H2 x y v u Q I2 rx ry q)
theorem Zmt {op : UnaryOp} {r : V → Hp → VK → Prop} (ho : UnR X (unaryOp op) r) (ha : PE X a ta) : PE X (.UnaryOp op a pos) (tUn r ta) := by
 intro pins s σ H Q I h
 exact UnaryOp_ (thn (ha pins s σ H _ I h) fun v s1 ⟨x, H1, I1, r1, q1⟩ => ho pins s1 σ H1 x v Q I1 r1 q1)
theorem opI {f : Value → Value → Sem Value} {C : Int → Int → Prop} {g : Int → Int → Int}
  (rule : ∀ (i j : Int) (t u : Tok) (s : Shared) (Q : Value → Shared → Prop) (E : Value → Shared → Prop), C i j → Q (.int (g i j) s.toks) { s with toks := s.toks + 1 } → wpAny (model X.prog X.w) X.A (f (.int i t) (.int j u)) Q E s) :
  OpR X f (rI C fun i j => .int (g i j)) := by
 intro pins s σ H x y v u Q I rx ry h
 obtain ⟨i, j, rfl, rfl, hc, q⟩ := h
 obtain ⟨t, rfl⟩ := rx
 obtain ⟨t', rfl⟩ := ry
 exact rule i j t t' s _ _ hc ⟨.int (g i j), H, I.tok _, ⟨_, rfl⟩, q⟩
theorem Zl7 {f : Value → Value → Sem Value} {g : Int → Int → Int}
  (rule : ∀ (i j : Int) (t u : Tok) (s : Shared) (Q : Value → Shared → Prop) (E : Value → Shared → Prop), Q (.int (g i j) s.toks) { s with toks := s.toks + 1 } → wpAny (model X.prog X.w) X.A (f (.int i t) (.int j u)) Q E s) :
  OpR X f (rI0 fun i j => .int (g i j)) := by
 intro pins s σ H x y v u Q I rx ry h
 obtain ⟨i, j, rfl, rfl, q⟩ := h
 obtain ⟨t, rfl⟩ := rx
 obtain ⟨t', rfl⟩ := ry
 exact rule i j t t' s _ _ ⟨.int (g i j), H, I.tok _, ⟨_, rfl⟩, q⟩
theorem ZjM {f : Value → Value → Sem Value} {g : Int → Int → Bool}
  (rule : ∀ (i j : Int) (t u : Tok) (s : Shared) (Q : Value → Shared → Prop) (E : Value → Shared → Prop), Q (.bool (g i j)) s → wpAny (model X.prog X.w) X.A (f (.int i t) (.int j u)) Q E s) :
  OpR X f (rI0 fun i j => .bl (g i j)) := by
 intro pins s σ H x y v u Q I rx ry h
 obtain ⟨i, j, rfl, rfl, q⟩ := h
 obtain ⟨t, rfl⟩ := rx
 obtain ⟨t', rfl⟩ := ry
 exact rule i j t t' s _ _ ⟨.bl (g i j), H, I, rfl, q⟩
def Zm4 (i j : Int) : Prop := 0 < j ∧ j < 1073741824
def Znj (i j : Int) : Prop := 0 ≤ j ∧ j ≤ 1000000 ∧ i.natAbs < 2 ^ 64
def Zli (i j : Int) : Prop := (-(2 ^ 64) < i ∧ i < 2 ^ 64) ∨ (-(2 ^ 64) < j ∧ j < 2 ^ 64)
theorem Zli.ok {i j : Int} (h : Zli i j) : IntMulOk i j := by
 rcases h with ⟨h1, h2⟩ | ⟨h1, h2⟩
 ·exact .of_left (intBits_le_64 h1 h2)
 ·exact .of_right (intBits_le_64 h1 h2)
theorem Zlt : OpR X (binaryOp .Add) (rI0 fun i j => .int (i + j)) := Zl7 fun _ _ _ _ _ _ _ q => add_int q
theorem ZkF : OpR X (binaryOp .Sub) (rI0 fun i j => .int (i - j)) := Zl7 fun _ _ _ _ _ _ _ q => sub_int q
theorem Zkw : OpR X (binaryOp .Mult) (rI Zli fun i j => .int (i * j)) := opI fun _ _ _ _ _ _ _ hc q => mul_int q hc.ok
theorem Zjk : OpR X (binaryOp .FloorDiv) (rI Zm4 fun i j => .int (i / j)) := opI fun i j _ _ _ _ _ hc q => by
 have h1 : (0 : Int) < j := hc.1
 have h2 : j < 1073741824 := hc.2
 exact floordiv_int (by omega) (by rw [Int.fdiv_eq_ediv_of_nonneg i (by omega)]; exact q) (.inl (PyProof.noPylong_small (by omega)))
theorem Zks : OpR X (binaryOp .Mod) (rI (fun _ j => 0 < j) fun i j => .int (i % j)) := opI fun i j _ _ _ _ _ hc q => by
 have h1 : (0 : Int) < j := hc
 exact mod_int' (by omega) (by rw [Int.fmod_eq_emod_of_nonneg i (by omega)]; exact q)
theorem ZkA : OpR X (binaryOp .Pow) (rI Znj fun i j => .int (i ^ j.toNat)) := opI fun _ _ _ _ _ _ _ hc q => pow_int_small hc.1 hc.2.1 hc.2.2 q
theorem unI {f : Value → Sem Value} {g : Int → Int}
  (rule : ∀ (i : Int) (t : Tok) (s : Shared) (Q : Value → Shared → Prop) (E : Value → Shared → Prop), Q (.int (g i) s.toks) { s with toks := s.toks + 1 } → wpAny (model X.prog X.w) X.A (f (.int i t)) Q E s) :
  UnR X f (rU fun i => .int (g i)) := by
 intro pins s σ H x v Q I rx h
 obtain ⟨i, rfl, q⟩ := h
 obtain ⟨t, rfl⟩ := rx
 exact rule i t s _ _ ⟨.int (g i), H, I.tok _, ⟨_, rfl⟩, q⟩
theorem Zlg : UnR X (unaryOp .USub) (rU fun i => .int (-i)) := unI fun _ _ _ _ _ q => neg_int q
end
section
variable {X : Cx} {a b c : Expr} {ta tb tc : TE} {pos : Pos}
theorem Zgs {pins : List (Addr × Obj)} {σ : St} {H : Hp} {s : Shared} {Q : VK} {k k' : Bool} (I : Inv X pins σ H s) (q : Q (.bl k) H) (e : k = k') : EP X pins σ Q (.bool k') s := by
 subst e
 exact ⟨.bl k, H, I, rfl, q⟩
theorem Zmd : OpR X (compareOp .Lt) (rI0 fun i j => .bl (decide (i < j))) := ZjM fun _ _ _ _ _ _ _ q => lt_int q
theorem ZmG : OpR X (compareOp .LtE) (rI0 fun i j => .bl (decide (i ≤ j))) := ZjM fun _ _ _ _ _ _ _ q => le_int q
theorem Zl9 : OpR X (compareOp .Gt) (rI0 fun i j => .bl (decide (j < i))) := ZjM fun _ _ _ _ _ _ _ q => gt_int q
theorem Zmb : OpR X (compareOp .GtE) (rI0 fun i j => .bl (decide (j ≤ i))) := ZjM fun _ _ _ _ _ _ _ q => ge_int q
theorem ZhZ : OpR X (compareOp .In) (fun x y H Q => ∃ i j, x = .str i ∧ y = .str j ∧ Q (.bl (!(Builtin.Str.occurrences j i 0 j.length 1).isEmpty)) H) := by
 intro pins s σ H x y v u Q I rx ry h
 obtain ⟨i, j, rfl, rfl, q⟩ := h
 obtain ⟨t, rfl⟩ := rx
 obtain ⟨t', rfl⟩ := ry
 exact in_str (Zgs I q rfl)
theorem Zlk : OpR X (compareOp .Is) (fun x y H Q => y = .non ∧ Q (.bl (decide (x = .non))) H) := by
 intro pins s σ H x y v u Q I rx ry h
 obtain ⟨rfl, q⟩ := h
 cases ry
 refine is_none_gen (Zgs I q ?_)
 cases x <;> first
  | (cases rx; rfl)
  | (obtain ⟨t, rfl⟩ := rx; rfl)
theorem ZjY : OpR X (compareOp .IsNot) (fun x y H Q => y = .non ∧ Q (.bl (!decide (x = .non))) H) := by
 intro pins s σ H x y v u Q I rx ry h
 obtain ⟨rfl, q⟩ := h
 cases ry
 refine isnot_none_gen (Zgs I q ?_)
 cases x <;> first
  | (cases rx; rfl)
  | (obtain ⟨t, rfl⟩ := rx; rfl)
theorem OpR.or {f : Value → Value → Sem Value} {r r' : R2} (h : OpR X f r) (h' : OpR X f r') : OpR X f (fun x y H Q => r x y H Q ∨ r' x y H Q) := by
 intro pins s σ H x y v u Q I rx ry q
 rcases q with q | q
 ·exact h pins s σ H x y v u Q I rx ry q
 ·exact h' pins s σ H x y v u Q I rx ry q
theorem ZjX {op : CmpOp} {r : R2} (ho : OpR X (compareOp op) r) (ha : PE X a ta) (hb : PE X b tb) (hm : behindInMarks op b = false) : PE X (.Compare a [op] [b] pos) (tOp r ta tb) := by
 intro pins s σ H Q I h
 exact wpAny_Compare1 (ZlF ha hb I h fun v u s2 x y H2 I2 rx ry q => ho pins s2 σ H2 x y v u Q I2 rx ry q) hm
def Zmw (t : TE) : TT := fun σ H Q => t σ H fun x H' => ∃ k, x = .bl k ∧ Q k H'
theorem ZjB {op : CmpOp} {r : R2} (ho : OpR X (compareOp op) r) (ha : PE X a ta) (hb : PE X b tb) (hm : behindInMarks op b = false) : PT X (.Compare a [op] [b] pos) (Zmw (tOp r ta tb)) := by
 intro pins s σ H Q I h
 refine wpAny_isTrue_Compare1 (thn (ha pins s σ H _ I h) fun v s1 ⟨x, H1, I1, r1, q1⟩ => thn (hb pins s1 σ H1 _ I1 q1) fun u s2 ⟨y, H2, I2, r2, q2⟩ =>
  thn (ho pins s2 σ H2 x y v u _ I2 r1 r2 q2) fun c s3 ⟨z, H3, I3, r3, k, e, q3⟩ => ?_) hm
 subst e
 cases r3
 exact wpAny_truthy_bool ⟨H3, I3, q3⟩
theorem Zey : (sizeLine : Nat) < 2 ^ 63 := by rw [sizeLine_eq]; decide
theorem ZgI : OpR X (binaryOp .Add) (fun x y H Q => ∃ i j, x = .str i ∧ y = .str j ∧ i.length + j.length ≤ sizeLine ∧ Q (.str (i ++ j)) H) := by
 intro pins s σ H x y v u Q I rx ry h
 obtain ⟨i, j, rfl, rfl, hz, q⟩ := h
 obtain ⟨t, rfl⟩ := rx
 obtain ⟨t', rfl⟩ := ry
 exact add_str (fun t' tk => ⟨.str (i ++ j), H, I.tok _, ⟨_, rfl⟩, q⟩) hz
theorem vals1 {x : V} {us : List Value} (r : Vals [x] us) : ∃ u, us = [u] ∧ RelV x u := by
 cases r with
 | cons r1 r2 => cases r2; exact ⟨_, rfl, r1⟩
theorem vals2 {x y : V} {us : List Value} (r : Vals [x, y] us) : ∃ u w', us = [u, w'] ∧ RelV x u ∧ RelV y w' := by
 cases r with
 | cons r1 r2 =>
  cases r2 with
  | cons r3 r4 => cases r4; exact ⟨_, _, rfl, r1, r3⟩
theorem Zh2 : Zbb X (.type "int") (fun xs H Q => (∃ i, xs = [.int i] ∧ Q (.int i) H) ∨ ∃ k, xs = [.bl k] ∧ Q (.int (if k then 1 else 0)) H) := by
 intro pins s σ H xs us Q I r h
 rcases h with ⟨i, rfl, q⟩ | ⟨k, rfl, q⟩
 ·obtain ⟨u, rfl, t, rfl⟩ := vals1 r
  exact call_int_int ⟨.int i, H, I, ⟨_, rfl⟩, q⟩
 ·obtain ⟨u, rfl, r1⟩ := vals1 r
  cases r1
  exact call_int_bool ⟨.int (if k then 1 else 0), H, I.tok _, ⟨_, rfl⟩, q⟩
def Zni (K : PySem.W.Frag) (x : V) (H : Hp) (n : Nat) : Prop :=
 match x with
 | .str y => y.length ≤ sizeLine ∧ n = y.length
 | .byt y => y.size ≤ sizeLine ∧ n = y.size
 | .ref p => (∃ xs, SqL K H p xs ∧ n = xs.length) ∨ ∃ xs, SqT K H p xs ∧ n = xs.length
 | _ => False
theorem ZiC : Zbb X (.builtin "len") (fun xs H Q => ∃ x n, xs = [x] ∧ Zni X.K x H n ∧ Q (.int n) H) := by
 intro pins s σ H xs us Q I r h
 obtain ⟨x, n, rfl, e, q⟩ := h
 obtain ⟨u, rfl, rx⟩ := vals1 r
 have hl := Zey
 have hs : sizeLine = 16777216 := sizeLine_eq
 cases x with
 | str y =>
  obtain ⟨t, rfl⟩ := rx
  obtain ⟨hy, e'⟩ : y.length ≤ sizeLine ∧ n = y.length := e
  subst e'
  exact len_str (by omega) ⟨.int _, H, I.tok _, ⟨_, rfl⟩, q⟩
 | byt y =>
  obtain ⟨t, rfl⟩ := rx
  obtain ⟨hy, e'⟩ : y.size ≤ sizeLine ∧ n = y.size := e
  subst e'
  exact PySem.W.len_bytes (by omega) ⟨.int _, H, I.tok _, ⟨_, rfl⟩, q⟩
 | ref p =>
  cases rx
  have e' : (∃ xs, SqL X.K H p xs ∧ n = xs.length) ∨ ∃ xs, SqT X.K H p xs ∧ n = xs.length := e
  rcases e' with ⟨xs, hx, e'⟩ | ⟨xs, hx, e'⟩
  ·subst e'
   obtain ⟨its, r', pl, hz⟩ := I.list hx
   have hlen := r'.length
   exact Calls.call_len_list pl.isList (by simp only [List.size_toArray]; omega) ⟨.int xs.length, H, I.tok _, ⟨_, by simp only [List.size_toArray]; rw [hlen]⟩, q⟩
  ·subst e'
   obtain ⟨its, r', pl, hz⟩ := I.tuple hx
   have hlen := r'.length
   exact len_tuple pl (by simp only [List.size_toArray]; omega) ⟨.int xs.length, H, I.tok _, ⟨_, by simp only [List.size_toArray]; rw [hlen]⟩, q⟩
 | _ => exact (show False from e).elim
end
end L2
namespace L2
open PySem PySem.Spec PyProof.Rows
structure ZkD (h : Heap) (x dx C : Addr) (mA : Str → Option Value) : Prop where
 obj : h.get? x = some (PySem.W.instObj C dx)
 ns : h.Ns1 dx mA
 ne : dx ≠ x
theorem Zhz {h : Heap} {dx : Addr} {mA : Str → Option Value} (n : h.Ns1 dx mA) : ∃ od, h.get? dx = some od ∧ ∀ name, PySem.W.lookIn name od = some (mA name) := by
 obtain ⟨o, es, ep, ho, hd, hk, _, hm⟩ := n
 refine ⟨o, ho, fun name => ?_⟩
 have e := hm name
 unfold nsFind findBy at e
 rw [← Array.find?_toList] at e
 unfold PySem.W.lookIn
 rw [hd]
 dsimp only
 split
 ·rename_i y q
  rw [q] at e
  exact congrArg some e
 ·rename_i q
  rw [q] at e
  have a : es.toList.any (·.refKey) = false := by
   rw [List.any_eq_false]
   intro y hy
   obtain ⟨z, t, hkey⟩ := hk y (Array.mem_toList_iff.mp hy)
   simp [DictEntry.refKey, hkey]
  have a' : ¬ es.toList.any (·.refKey) = true := by rw [a]; exact Bool.false_ne_true
  rw [if_neg a']
  exact congrArg some e
theorem ZkD.look {h : Heap} {x dx C : Addr} {mA : Str → Option Value} (I : ZkD h x dx C mA) : ∃ od, PySem.W.InstAt h x (PySem.W.instObj C dx) C (some od) ∧ ∀ name, PySem.W.lookIn name od = some (mA name) :=
 let ⟨od, ho, hl⟩ := Zhz I.ns
 ⟨od, ⟨I.obj, rfl, rfl, ho⟩, hl⟩
section
variable {prog : Program} {w : World} {A : Around} {E : Value → Shared → Prop} {s : Shared} {K : PySem.W.Frag} {x dx C f : Addr} {mA : Str → Option Value} {name : Str} {v : Value}
end
theorem ZfN.some_of {v : V} {o : Option Value} (r : ZfN (some v) o) : ∃ u, o = some u ∧ RelV v u := by
 cases o with
 | none => exact (show False from r).elim
 | some u => exact ⟨u, rfl, r⟩
section
variable {P : Program} {w : World} {H H' : Hp} {h h' : Heap} {a C dx : Addr} {fs fs' : List (Str × V)}
theorem ZjG (hok : HOk P w H h) (e : H a = some (.ins C dx fs)) : ∃ mA, ZkD h a dx C mA ∧ (∀ f, ZfN (fs.lookup f) (mA f)) ∧ PySem.Within mA (fs.map (·.1)) ∧ fs.length ≤ 1000 ∧ H dx = some (.own a) := by
 obtain ⟨d, z, ne, ob, mA, n, r, q⟩ := (show Zba P w H h a (.ins C dx fs) from hok a _ e)
 exact ⟨mA, ⟨ob, n, ne⟩, r, q, z, d⟩
end
structure Cls (K : PySem.W.Frag) (C : Addr) : Prop where
 pg : PySem.W.plainGet K C Str.empty = true
 hd : PySem.W.hasDictIn K C = true
 po : PySem.W.plainOver K C = true
 sa : PySem.W.findIn K (.ref C) "__setattr__" = some (some (.builtin "object.__setattr__"))
theorem Cls.get {K : PySem.W.Frag} {C : Addr} (c : Cls K C) (f : Str) : PySem.W.plainGet K C f = true := c.pg
structure Con (K : PySem.W.Frag) (C : Addr) (f : Str) (v : V) (u : Value) : Prop where
 at_ : PySem.W.findIn K (.ref C) f = some (some u)
 rel : RelV v u
 get : PySem.W.specialIn K u "__get__" = some none
 cp : PySem.W.copiedNames.contains f = false
structure Meth (K : PySem.W.Frag) (C : Addr) (m : Str) (f : Addr) : Prop where
 at_ : PySem.W.findIn K (.ref C) m = some (some (.ref f))
 fn : PySem.W.isFn K (.ref f) = true
 kp : PySem.W.keepIn K (.ref f) = true
section
variable {X : Cx} {pins : List (Addr × Obj)} {σ : St} {H : Hp} {s : Shared} {a C dx : Addr} {fs : List (Str × V)} {f : Str} {v : V} {A : Around} {E : Value → Shared → Prop}
end
section
variable {X : Cx} {o e value : Expr} {f : Str} {pos pos' tpos : Pos} {ta tv : TE}
end
section
variable {X : Cx} {pins : List (Addr × Obj)} {σ : St} {H : Hp} {s : Shared} {A : Around} {E : Value → Shared → Prop} {Q : Value → Shared → Prop} {c : Value} {b : Bool}
inductive Zee (K : PySem.W.Frag) (H : Hp) : V → Value → Prop where
 | non : Zee K H .non (.type "NoneType")
 | bl (x : Bool) : Zee K H (.bl x) (.type "bool")
 | int (i : Int) : Zee K H (.int i) (.type "int")
 | str (x : Str) : Zee K H (.str x) (.type "str")
 | flt (x : UInt64) : Zee K H (.flt x) (.type "float")
 | lst {a : Addr} {xs : List V} (e : H a = some (.lst xs)) : Zee K H (.ref a) (.type "list")
 | frz {a : Addr} {o : Obj} {xs : List V} (e : H a = some (.frz o (.lst xs))) : Zee K H (.ref a) (.type "list")
 | tup {a : Addr} {xs : List V} (e : H a = some (.tup xs)) : Zee K H (.ref a) (.type "tuple")
 | dK {a : Addr} {kvs : List (Key × V)} (e : H a = some (.dK kvs)) : Zee K H (.ref a) (.type "dict")
 | dT {a : Addr} {kvs : List (List Key × V)} (e : H a = some (.dT kvs)) : Zee K H (.ref a) (.type "dict")
 | ins {a C dx : Addr} {fs : List (Str × V)} (e : H a = some (.ins C dx fs)) (cl : Cls K C) (ha : PySem.W.findIn K (.ref C) "__class__" = some (some (.builtin "object.__class__")))
   (hn : PySem.W.specialIn K (.builtin "object.__class__") "__get__" = some (some (.builtin "getset_descriptor.__get__"))) (htk : PySem.W.takesIn K (.builtin "object.__class__") = some true)
   (hm : PySem.W.mroIn K C (.type "object") = some true) : Zee K H (.ref a) (.ref C)
theorem Zcp {x : V} {u t : Value} (I : Inv X pins σ H s) (rx : RelV x u) (ty : Zee X.K H x t) (e : PySem.W.kitOne X.K t c = some b) (h : ∀ tk, Q (.bool b) { s with toks := tk }) :
  wpAny (model X.prog X.w) A (call (.builtin "isinstance") [u, c]) Q E s := by
 cases ty with
 | non => cases (show u = Value.none from rx); exact PySem.W.kia_one PySem.W.kitx_none I.kIn True.intro e (fun z => nomatch z) h
 | bl y => cases (show u = Value.bool y from rx); exact PySem.W.kia_one PySem.W.kitx_bool I.kIn True.intro e (fun z => nomatch z) h
 | int i => obtain ⟨t, q⟩ := (show ∃ t, u = Value.int i t from rx); cases q; exact PySem.W.kia_one PySem.W.kitx_int I.kIn True.intro e (fun z => nomatch z) h
 | str y => obtain ⟨t, q⟩ := (show ∃ t, u = Value.str y t from rx); cases q; exact PySem.W.kia_one PySem.W.kitx_str I.kIn True.intro e (fun z => nomatch z) h
 | flt y => obtain ⟨t, q⟩ := (show ∃ t, u = Value.float y t from rx); cases q; exact PySem.W.kia_one PySem.W.kitx_float I.kIn True.intro e (fun z => nomatch z) h
 | @lst a xs ea =>
  cases (show u = Value.ref a from rx)
  obtain ⟨_, _, n, _, h1⟩ := (show Zba X.prog X.w H s.heap a (.lst xs) from I.hok a _ ea)
  exact PySem.W.kia_one PySem.W.kitx_list I.kIn ⟨_, h1, rfl⟩ e (fun z => nomatch z) h
 | @frz a ob xs ea =>
  cases (show u = Value.ref a from rx)
  obtain ⟨_, _, _, n, _, h1⟩ := (show Zba X.prog X.w H s.heap a (.frz ob (.lst xs)) from I.hok a _ ea)
  exact PySem.W.kia_one PySem.W.kitx_list I.kIn ⟨_, h1, rfl⟩ e (fun z => nomatch z) h
 | @tup a xs ea =>
  cases (show u = Value.ref a from rx)
  obtain ⟨_, _, _, p⟩ := (show Zba X.prog X.w H s.heap a (.tup xs) from I.hok a _ ea)
  obtain ⟨o, h1, h2, _⟩ := p
  exact PySem.W.kia_one PySem.W.kitx_tuple I.kIn ⟨o, h1, h2.1⟩ e (fun z => nomatch z) h
 | @dK a kvs ea =>
  cases (show u = Value.ref a from rx)
  obtain ⟨_, _, vs, _, p⟩ := (show Zba X.prog X.w H s.heap a (.dK kvs) from I.hok a _ ea)
  obtain ⟨o, es, ep, h1, h2, _⟩ := p
  exact PySem.W.kia_one PySem.W.kitx_dict I.kIn ⟨o, h1, h2.1⟩ e (fun z => nomatch z) h
 | @dT a kvs ea =>
  cases (show u = Value.ref a from rx)
  obtain ⟨_, _, xs, _, o, es, ep, h1, h2, _⟩ := (show Zba X.prog X.w H s.heap a (.dT kvs) from I.hok a _ ea)
  exact PySem.W.kia_one PySem.W.kitx_dict I.kIn ⟨o, h1, h2.1⟩ e (fun z => nomatch z) h
 | @ins a C dx fs ea cl ha hn htk hm =>
  cases (show u = Value.ref a from rx)
  obtain ⟨mA, O, _⟩ := ZjG I.hok ea
  obtain ⟨od, J, _⟩ := O.look
  exact PySem.W.kia_one (PySem.W.kitx_own (cl.get _) cl.hd ha hn htk hm) I.kIn J e (fun z => nomatch z) h
end
end L2
namespace L2
open PySem PySem.Spec PyProof.Rows
structure Zcd (k : Nat) (A : Around) : Prop where
 hd : A.handled = none
 dp : A.depth + 3 * k + 5 < recursionLimit
 un : A.units + 16 * k + 200 < cLine
theorem Zcd.mono {j k : Nat} {A : Around} (r : Zcd k A) (h : j ≤ k) : Zcd j A := ⟨r.hd, by have := r.dp; omega, by have := r.un; omega⟩
theorem Zcd.deeper {k : Nat} {A : Around} (r : Zcd (k + 1) A) (env : Env) : Zcd k (A.deeper env) :=
 ⟨r.hd, by have := r.dp; show A.depth + 1 + 3 * k + 5 < _; omega, by have := r.un; show A.units + 3 + 16 * k + 200 < _; omega⟩
theorem Zcd.in1 {k : Nat} {A : Around} (r : Zcd (k + 1) A) : Zcd k A.in1 :=
 ⟨r.hd, by have := r.dp; show A.depth + 3 * k + 5 < _; omega, by have := r.un; show A.units + 1 + 16 * k + 200 < _; omega⟩
theorem Zcd.depth {k : Nat} {A : Around} (r : Zcd k A) : A.depth < recursionLimit := by have := r.dp; omega
theorem Zcd.units {k : Nat} {A : Around} (r : Zcd k A) : A.units + 64 < cLine := by have := r.un; omega
def Znd : TA := fun _ H Q => Q [] H
def Zmk (ta : TE) (tr : TA) : TA := fun σ H Q => ta σ H fun x H1 => tr σ H1 fun xs H2 => Q (x :: xs) H2
section
variable {X : Cx} {e : Expr} {es : List Expr} {te : TE} {t : TA} {pos : Pos}
theorem ZiR : PA X [] Znd := fun _ _ _ _ H Q I h => Calls.spliced_nil ⟨[], H, I, .nil, h⟩
theorem Zfx (ha : PE X e te) (hr : PA X es t) (hs : starEach (e :: es) X.env = (false, eval e X.env) :: starEach es X.env := by rfl) : PA X (e :: es) (Zmk te t) := by
 intro pos pins s σ H Q I h
 rw [hs]
 show wpAny _ _ (spliced ((false, eval e X.env) :: backTo pos (starEach es X.env))) _ _ s
 refine Calls.spliced_cons (thn (ha pins s σ H _ I h) fun u s1 ⟨x, H1, I1, r1, q1⟩ => ?_)
 exact thn (hr pos pins s1 σ H1 _ I1 q1) fun us s2 ⟨xs, H2, I2, r2, q2⟩ => ⟨x :: xs, H2, I2, .cons r1 r2, q2⟩
def Zno (t : TA) : TE := fun σ H Q => t σ H fun xs H1 => xs.length ≤ sizeLine ∧ ∀ p, H1 p = none → Q (.ref p) (upd H1 p (.tup xs))
def Zm5 (t : TA) : TE := fun σ H Q => t σ H fun xs H1 => xs.length ≤ sizeLine ∧ ∀ p, H1 p = none → Q (.ref p) (upd H1 p (.lst xs))
theorem ZlE {x1} (h : PA X es t) : PE X (.Tuple es x1 pos) (Zno t) := by
 intro pins s σ H Q I hq
 refine wpAny_Tuple_spliced (thn (h pos pins s σ H _ I hq) fun us s1 ⟨xs, H1, I1, r, z, q⟩ => ⟨by rw [← r.length]; exact z, ?_⟩)
 have hf : H1 s1.heap.objs.size = none := I1.hok.fresh (Nat.le_refl _)
 refine ⟨.ref s1.heap.objs.size, upd H1 s1.heap.objs.size (.tup xs), I1.laid (t' := s1.toks) (fun b u e => Heap.get?_push_of_some _ e) (Nat.le_refl _) ?_, rfl, q _ hf⟩
 exact ⟨z, us, r, ⟨_, Heap.get?_push_size _ rfl, ⟨rfl, rfl⟩, _, rfl⟩⟩
theorem Zlu (h : PA X es t) : PE X (.List es pos) (Zm5 t) := by
 intro pins s σ H Q I hq
 refine wpAny_List_spliced (thn (h pos pins s σ H _ I hq) fun us s1 ⟨xs, H1, I1, r, z, q⟩ => ⟨by rw [← r.length]; exact z, ?_⟩)
 have hf : H1 s1.heap.objs.size = none := I1.hok.fresh (Nat.le_refl _)
 refine ⟨.ref s1.heap.objs.size, upd H1 s1.heap.objs.size (.lst xs), I1.laid (t' := s1.toks) (fun b u e => Heap.get?_push_of_some _ e) (Nat.le_refl _) ?_, rfl, q _ hf⟩
 exact ⟨z, us, 0, r, Heap.get?_push_size _ rfl⟩
end
abbrev Sp := List V → Hp → VK → XK → Prop
abbrev CXT := List Env → Hp → Shared → XK → Value → Shared → Prop
structure ZgP (P : Program) (w : World) (K : PySem.W.Frag) (mg : Str → Option Value) (base : Heap) (A : Around) (outer : List Env) (s : Shared) (H : Hp) : Prop where
 frames : A.frames = some outer
 mod : Mod K mg base
 bs : ∀ b o, base.get? b = some o → s.heap.get? b = some o ∧ H b = none
 bsz : base.objs.size ≤ s.heap.objs.size
 funs : s.heap.FunFrames base outer
 frf : ∀ b ∈ frs outer, H b = none
 hok : HOk P w H s.heap
 bare : AllBare s.gens
def CE (outer : List Env) (P : Program) (w : World) (H : Hp) (s : Shared) (Q : VK) (u : Value) (s' : Shared) : Prop :=
 ∃ v H', s'.os = s.os ∧ AllBare s'.gens ∧ Un (frs outer) [] H H' s.heap s'.heap ∧ HOk P w H' s'.heap ∧ RelV v u ∧ Q v H'
def CR (CX : CXT) (outer : List Env) (P : Program) (w : World) (H : Hp) (s : Shared) (Q : VK) (E : XK) (r : Result) (s' : Shared) : Prop :=
 match r with
 | .ok (.ret u) => CE outer P w H s Q u s'
 | .ok _ => False
 | .error e => CX outer H s E e s'
structure ZeN (P : Program) (w : World) (K : PySem.W.Frag) (mg : Str → Option Value) (base : Heap) (CX : CXT) (k : Nat) (f : Addr) (fd : FuncData) (ps : List Str) (sp : Sp) : Prop where
 len : ∀ vs H Q E, sp vs H Q E → vs.length = ps.length
 run : ∀ (A : Around) (outer : List Env) (s : Shared) (H : Hp) (args : Args) (us : List Value) (vs : List V) (Q : VK) (E : XK), Zcd k A → ZgP P w K mg base A outer s H → BindsTo s fd args (ps.zip us) → Vals vs us → sp vs H Q E →
  codeAny (model P w) A (.call (.ref f) args) (CR CX outer P w H s Q E) s
theorem ZgP.in1 {P : Program} {w : World} {K : PySem.W.Frag} {mg : Str → Option Value} {base : Heap} {A : Around} {outer : List Env} {s : Shared} {H : Hp} (e : ZgP P w K mg base A outer s H) :
  ZgP P w K mg base A.in1 outer s H := ⟨e.frames, e.mod, e.bs, e.bsz, e.funs, e.frf, e.hok, e.bare⟩
section
variable {X : Cx} {pins : List (Addr × Obj)} {σ : St} {H : Hp} {s s' : Shared}
theorem Inv.env0 (I : Inv X pins σ H s) : ZgP X.prog X.w X.K X.mg X.base X.A X.stack s H :=
 ⟨I.ok.frames, I.ok.mod, I.bs, Nat.le_trans I.ok.bsz I.sz, I.stack, I.stkFree, I.hok, I.bare⟩
theorem Inv.after {Q : VK} {u : Value} (I : Inv X pins σ H s) (h : CE X.stack X.prog X.w H s Q u s') : EP X pins σ Q u s' := by
 obtain ⟨v, H', os, bare, un, hok, r, q⟩ := h
 obtain ⟨hh, g, d, t, os'⟩ := s'
 obtain rfl : os' = s.os := os
 exact ⟨v, H', I.call (h' := hh) (g' := g) (d' := d) (t' := t) (ch := []) un hok bare (fun b z => absurd z (by simp)), r, q⟩
end
def Zmu (sp : Sp) (dvs : List V) (E : XK) (t : TA) : TE := fun σ H Q => t σ H fun vs H1 => sp (vs ++ dvs) H1 Q E
def Binds (K : PySem.W.Frag) (fd : FuncData) (ps : List Str) (ds : List Value) : Prop :=
 ∀ (s : Shared) (us : List Value), K.In s.heap → (us ++ ds).length = ps.length → BindsTo s fd ⟨us, []⟩ (ps.zip (us ++ ds))
theorem Binds.all {K : PySem.W.Frag} {fd : FuncData} {ps : List Str} (h : ∀ us : List Value, us.length = ps.length → bindArgs fd ⟨us, []⟩ = pure (ps.zip us)) : Binds K fd ps [] := fun s us _ hl => by
 rw [List.append_nil] at hl ⊢
 exact .of_eq (h us hl)
def Zgy (CX : CXT) (X : Cx) (E : XK) : Prop := ∀ (pins : List (Addr × Obj)) (σ : St) (H : Hp) (s : Shared) (e : Value) (s' : Shared), Inv X pins σ H s → CX X.stack H s E e s' → X.xe e s'
section
variable {X : Cx} {CX : CXT} {k : Nat} {f C : Addr} {fd : FuncData} {ps : List Str} {sp : Sp} {dvs : List V} {ds : List Value} {E : XK} {x m : Str} {p pos apos : Pos} {e o : Expr} {es : List Expr} {ta : TE} {t : TA}
theorem Zlp {pins : List (Addr × Obj)} {σ : St} {H : Hp} {s : Shared} {Q : VK} {us : List Value} {vs : List V} (F : ZeN X.prog X.w X.K X.mg X.base CX k f fd ps sp) (hr : Zcd k X.A) (hb : Binds X.K fd ps ds) (hd : Vals dvs ds) (hx : Zgy CX X E)
  (I : Inv X pins σ H s) (r : Vals vs us) (h : sp (vs ++ dvs) H Q E) : wpAny (model X.prog X.w) X.A (call (.ref f) us) (EP X pins σ Q) X.xe s := by
 have r2 : Vals (vs ++ dvs) (us ++ ds) := r.append hd
 have hl : (us ++ ds).length = ps.length := by rw [← r2.length]; exact F.len _ _ _ _ h
 refine wpAny_call (codeAny_mono (F.run X.A X.stack s H ⟨us, []⟩ (us ++ ds) (vs ++ dvs) Q E hr I.env0 (hb s us I.kIn hl) r2 h) fun r s' hq => ?_)
 cases r with
 | error e => exact hx pins σ H s e s' I hq
 | ok fl =>
  cases fl with
  | ret u => exact I.after hq
  | next => exact False.elim hq
  | brk => exact False.elim hq
  | cont => exact False.elim hq
theorem ZjT (F : ZeN X.prog X.w X.K X.mg X.base CX k f fd ps sp) (hr : Zcd k X.A) (hg : Gl X x) (hm : X.mg x = some (.ref f)) (hk : PySem.W.keepIn X.K (.ref f) = true) (hb : Binds X.K fd ps ds) (hd : Vals dvs ds) (hx : Zgy CX X E)
  (ha : PA X (e :: es) t) (hdb : (x == ("__debug__" : Str)) = false := by decide) (he : starEach (e :: es) X.env = (false, eval e X.env) :: starEach es X.env := by rfl) (hpl : (backTo pos (starEach es X.env)).any (·.1) = false := by rfl) :
  PE X (.Call (.Name x p) (e :: es) [] pos) (Zmu sp dvs E t) := by
 intro pins s σ H Q I h
 refine wpAny_Call_Name_kw (ZjC I hg hm ?_ hdb)
 refine PySem.W.callWith_K (h₀ := X.base) I.ok.mod.kin hk (thn (ha pos pins s σ H _ I h) fun us s1 ⟨vs, H1, I1, r, q⟩ => ⟨I1.kIn, ?_⟩) he hpl
 exact Zlp F hr hb hd hx I1 r q
structure Mk (K : PySem.W.Frag) (C f : Addr) : Prop where
 makes : PySem.W.makesIn K C = true
 init : PySem.W.findIn K (.ref C) "__init__" = some (some (.ref f))
 fn : PySem.W.isFn K (.ref f) = true
 kp : PySem.W.keepIn K (.ref C) = true
end
section
variable {X : Cx} {CX : CXT} {k : Nat} {f C : Addr} {fd : FuncData} {ps ks : List Str} {sp : Sp} {E : XK} {x m : Str} {p pos apos kpos : Pos} {e o : Expr} {es : List Expr} {kws : List Keyword} {te ta : TE} {t tk : TA} {nm : Option Str}
structure Znq (K : PySem.W.Frag) (fd : FuncData) (ps ks : List Str) (g : List Value → List Value → List Value) (gV : List V → List V → List V) : Prop where
 to : ∀ (s : Shared) (us ws : List Value), K.In s.heap → (g us ws).length = ps.length → BindsTo s fd ⟨us, ks.zip ws⟩ (ps.zip (g us ws))
 rel : ∀ {vs : List V} {us : List Value} {zs : List V} {ws : List Value}, Vals vs us → Vals zs ws → Vals (gV vs zs) (g us ws)
variable {g : List Value → List Value → List Value} {gV : List V → List V → List V}
end
structure ZaA (N P : List Str) (sc : Scope) : Prop where
 kind : sc.kind = .function
 co : sc.isCoroutine = false
 gen : sc.isGenerator = false
 nd : N.Nodup
 pre : N.take P.length = P
 par : ∀ x ∈ P, sc.names.lookup x = some .local ∨ sc.names.lookup x = some .cell
 nofree : ∀ y ∈ sc.names, y.2 ≠ .free
theorem Zfp {kindOf : Str → Option NameKind} {x : Str} : ∀ {binds : List (Str × Value)} {m : Str → Option Value}, (∀ v, (x, v) ∉ binds) → bindL kindOf binds m x = m x
 | [], _, _ => rfl
 | (n, v) :: r, m, h => by
  unfold bindL
  rw [Zfp fun w hw => h w (List.mem_cons_of_mem _ hw)]
  split
  ·have : x ≠ n := by rintro rfl; exact h v List.mem_cons_self
   simp [this]
  ·rfl
theorem Zfi {kindOf : Str → Option NameKind} {x : Str} : ∀ {binds : List (Str × Value)} {m : Str → Option Value}, (∀ v, (x, v) ∉ binds) → bindC kindOf binds m x = m x
 | [], _, _ => rfl
 | (n, v) :: r, m, h => by
  unfold bindC
  rw [Zfi fun w hw => h w (List.mem_cons_of_mem _ hw)]
  split
  ·rfl
  ·have : x ≠ n := by rintro rfl; exact h v List.mem_cons_self
   simp [this]
theorem Ze4 {kindOf : Str → Option NameKind} {x : Str} {v : Value} : ∀ {P : List Str} {vs : List Value} {i : Nat} {m : Str → Option Value}, P.Nodup → P[i]? = some x → vs[i]? = some v → kindOf x = some .local →
  bindL kindOf (P.zip vs) m x = some v
 | [], _, _, _, _, h, _, _ => by simp at h
 | _ :: _, [], _, _, _, _, h, _ => by simp at h
 | p :: P, w :: vs, 0, m, nd, h1, h2, hk => by
  simp at h1 h2; subst h1; subst h2
  show bindL kindOf ((p, w) :: P.zip vs) m p = _
  unfold bindL
  rw [Zfp fun v hv => (List.nodup_cons.mp nd).1 (List.of_mem_zip hv).1, if_pos hk]
  simp
 | p :: P, w :: vs, i + 1, m, nd, h1, h2, hk => by
  show bindL kindOf ((p, w) :: P.zip vs) m x = _
  unfold bindL
  exact Ze4 (i := i) (List.nodup_cons.mp nd).2 (by simpa using h1) (by simpa using h2) hk
theorem Zfb {kindOf : Str → Option NameKind} {x : Str} {v : Value} : ∀ {P : List Str} {vs : List Value} {i : Nat} {m : Str → Option Value}, P.Nodup → P[i]? = some x → vs[i]? = some v → kindOf x ≠ some .local →
  bindC kindOf (P.zip vs) m x = some v
 | [], _, _, _, _, h, _, _ => by simp at h
 | _ :: _, [], _, _, _, _, h, _ => by simp at h
 | p :: P, w :: vs, 0, m, nd, h1, h2, hk => by
  simp at h1 h2; subst h1; subst h2
  show bindC kindOf ((p, w) :: P.zip vs) m p = _
  unfold bindC
  rw [Zfi fun v hv => (List.nodup_cons.mp nd).1 (List.of_mem_zip hv).1, if_neg hk]
  simp
 | p :: P, w :: vs, i + 1, m, nd, h1, h2, hk => by
  show bindC kindOf ((p, w) :: P.zip vs) m x = _
  unfold bindC
  exact Zfb (i := i) (List.nodup_cons.mp nd).2 (by simpa using h1) (by simpa using h2) hk
def start (N : List Str) (vs : List V) : St := vs.map some ++ List.replicate (N.length - vs.length) none
def Zgk (CX : CXT) (P : Program) (w : World) (K : PySem.W.Frag) (mg : Str → Option Value) (base : Heap) (N : List Str) (qual : Str) (scope : Scope) (f : Addr) (cd : Value) (A : Around) (outer : List Env) (s : Shared) (H : Hp) (E : XK) : Cx where
 prog := P
 w := w
 K := K
 mg := mg
 base := base
 A := A.deeper (envOfC qual scope s.heap.objs.size f cd)
 N := N
 s₀ := s
 H₀ := H
 env := envOfC qual scope s.heap.objs.size f cd
 outer := outer
 stack := envOfC qual scope s.heap.objs.size f cd :: outer
 ex := []
 calm := true
 fn := fun _ => true
 pn := []
 xe := fun e s' => wpAny (model P w) (A.deeper (envOfC qual scope s.heap.objs.size f cd)) (leaving (envOfC qual scope s.heap.objs.size f cd) e) (fun _ s'' => CX outer H s E e s'') (fun e' s'' => CX outer H s E e' s'') s'
theorem Zf4 {sc : Scope} {n : Nat} {x : Str} (h : sc.names.lookup x = some .cell) : ∃ c, (cellsFrom n sc.names []).lookup x = some c := by
 have q := PySem.W.cellsFrom_some sc.names n [] (.inl h)
 exact Option.isSome_iff_exists.mp q
theorem ZhA {CX : CXT} {P : Program} {w : World} {K : PySem.W.Frag} {mg : Str → Option Value} {base : Heap} {N ps : List Str} {qual : Str} {scope : Scope} {f : Addr} {cd : Value} {A : Around} {outer : List Env} {s s1 : Shared} {H : Hp} {E : XK} {us : List Value} {vs : List V}
  (S : ZaA N ps scope) (hd : A.handled = none) (e0 : ZgP P w K mg base A outer s H) (hl : vs.length = ps.length) (r : Vals vs us)
  (x : InCallC s s.heap.objs.size (bindL (envOfC qual scope s.heap.objs.size f cd).kindOf (ps.zip us) fun _ => none) (cellsFrom (s.heap.objs.size + 1) scope.names []) (bindC (envOfC qual scope s.heap.objs.size f cd).kindOf (ps.zip us) fun _ => none) s1) :
  Inv (Zgk CX P w K mg base N qual scope f cd A outer s H E) [] (start N vs) H s1 := by
 have hpl : ps.length ≤ N.length := by have := congrArg List.length S.pre; rw [List.length_take] at this; omega
 obtain ⟨h1, tk, rfl, hk⟩ := x.done
 have noA : ∀ b : Addr, b ∉ (Zgk CX P w K mg base N qual scope f cd A outer s H E).ex := fun b z => absurd (show b ∈ ([] : List Addr) from z) (by simp)
 refine ⟨⟨e0.mod, S.kind, rfl, rfl, Nat.le_refl _, fun y z c h1 h2 => ?_, fun y hy => ?_, fun y c _ h => ?_, fun _ => hd, Around.frames_deeper e0.frames, .inr ⟨rfl, rfl⟩, fun b z => absurd z (noA b), e0.bs, e0.bsz, fun b _ _ => noA b, fun b z => absurd z (noA b), e0.funs, e0.frf⟩,
  rfl, e0.bare, Un.kept hk, ⟨_, x.toInCall.ns, fun i y v h1 h2 h3 => ?_⟩, fun y c h => ⟨_, x.cell y c h⟩, e0.hok.fresh (Nat.le_refl _), fun y c h => ?_, fun p hp => absurd (show p ∈ ([] : List (Addr × Obj)) from hp) (by simp), e0.hok.kept hk, ?_⟩
 ·exact name_of_addr x.apart (PySem.mem_of_lookup h1) (PySem.mem_of_lookup h2)
 ·have hy : scope.names.lookup y = some .cell ∨ scope.names.lookup y = some .free := hy
  rcases hy with hy | hy
  ·exact Zf4 hy
  ·exact absurd rfl (S.nofree _ (PySem.mem_of_lookup hy))
 ·exact Nat.le_of_lt (x.above y c (PySem.mem_of_lookup h))
 ·have hi : i < vs.length := by
   unfold start at h2
   by_cases hi : i < vs.length
   ·exact hi
   ·rw [List.getElem?_append_right (by simpa using hi)] at h2
    rw [List.getElem?_replicate] at h2
    split at h2 <;> cases h2
  have ha : vs[i]? = some v := by
   unfold start at h2
   rw [List.getElem?_append_left (by simpa using hi), List.getElem?_map] at h2
   cases e : vs[i]? with
   | none => rw [e] at h2; cases h2
   | some a => rw [e] at h2; cases h2; rfl
  obtain ⟨u, hu, rv⟩ := r.get ha
  have hp : ps[i]? = some y := by
   rw [← S.pre, List.getElem?_take_of_lt (by omega)]; exact h1
  have ndP : ps.Nodup := by rw [← S.pre]; exact S.nd.sublist (List.take_sublist _ _)
  refine ⟨u, rv, ?_⟩
  rcases S.par y (List.mem_of_getElem? hp) with k | k
  ·exact .inl ⟨k, Ze4 ndP hp hu k⟩
  ·obtain ⟨c, e⟩ := Zf4 (n := s.heap.objs.size + 1) k
   refine .inr ⟨.inl k, c, e, ?_⟩
   have q := x.cell y c e
   rw [Zfb ndP hp hu (by show scope.names.lookup y ≠ _; rw [k]; decide)] at q
   exact q
 ·exact e0.hok.fresh (Nat.le_of_lt (x.above y c (PySem.mem_of_lookup h)))
 ·unfold start
  show _ = N.length
  rw [List.length_append, List.length_map, List.length_replicate]
  omega
theorem Zmr {CX : CXT} {P : Program} {w : World} {K : PySem.W.Frag} {mg : Str → Option Value} {base : Heap} {k : Nat} {f : Addr} {name qual : Str} {params : Arguments} {body : List Stmt} {scope : Scope} {dV kV doc pm cdv ct oc : Value} {an od : Option Addr}
  {osl : Array (Option Value)} {N ps : List Str} {sp : Sp} (lk : K.lookup f = some ⟨oc, od, .func (PySem.W.fnOf name qual params body scope dV kV doc pm an cdv ct), osl⟩) (hcd : PySem.W.codeIn K cdv qual = true) (S : ZaA N ps scope)
  (len : ∀ vs H Q E, sp vs H Q E → vs.length = ps.length)
  (hbody : ∀ (A : Around) (outer : List Env) (s : Shared) (H : Hp) (vs : List V) (Q : VK) (E : XK), Zcd k (A.deeper (envOfC qual scope s.heap.objs.size f cdv)) → sp vs H Q E →
   ∃ t, PSs (Zgk CX P w K mg base N qual scope f cdv A outer s H E) body t ∧ t { nx := fun _ H' => Q .non H', rt := Q } (start N vs) H) :
  ZeN P w K mg base CX (k + 1) f (PySem.W.fnOf name qual params body scope dV kV doc pm an cdv ct) ps sp := by
 refine ⟨len, fun A outer s H args us vs Q E hr e0 hb r hsp => ?_⟩
 have hl := len _ _ _ _ hsp
 have KX : K.In s.heap := e0.mod.kin.keeps fun b o e => (e0.bs b o e).1
 have lim : s.heap.NoLimit := e0.mod.nolimit.keeps fun b o e => (e0.bs b o e).1
 have hkind : ∀ y ∈ ps.zip us, scope.names.lookup y.1 = some .local ∨ (scope.names.lookup y.1 = some .cell ∧ ((cellsFrom (s.heap.objs.size + 1) scope.names []).lookup y.1).isSome = true) := fun ⟨n, v⟩ hy => by
  rcases S.par n (List.of_mem_zip hy).1 with q | q
  ·exact .inl q
  ·exact .inr ⟨q, PySem.W.cellsFrom_some _ _ _ (.inl q)⟩
 refine codeAny_call_function hr.depth (KX _ _ lk) rfl S.co S.gen rfl (PySem.W.codeRec_of KX hcd) (hb _ _ _ _ ?_)
 refine wpAny_newFunctionEnv_cells S.kind hkind fun env he s1 x => ?_
 subst he
 refine ⟨lim.keeps x.toInCall.keep, codeAny_func ?_⟩
 obtain ⟨t, ht, hq⟩ := hbody A outer s H vs Q E (hr.deeper _) hsp
 have I : Inv (Zgk CX P w K mg base N qual scope f cdv A outer s H E) [] (start N vs) H s1 := ZhA S hr.hd e0 hl r x
 refine wpAny_mono (ht [] s1 (start N vs) H _ I hq) (fun fl s' hs => ?_) fun e s' hs => hs
 have fin : ∀ {σ' : St} {H' : Hp} {v : V} {u : Value}, Inv (Zgk CX P w K mg base N qual scope f cdv A outer s H E) [] σ' H' s' → RelV v u → Q v H' → CE outer P w H s Q u s' :=
  fun {σ' H' v u} J rv q => ⟨v, H', J.os, J.bare, J.base, J.hok, rv, q⟩
 cases fl with
 | ret u =>
  obtain ⟨v, σ', H', J, rv, q⟩ := hs
  exact fin J rv q
 | next =>
  obtain ⟨σ', H', J, q⟩ := hs
  exact fin (v := V.non) (u := Value.none) J rfl q
 | brk =>
  obtain ⟨_, _, _, q⟩ := hs
  exact False.elim q
 | cont =>
  obtain ⟨_, _, _, q⟩ := hs
  exact False.elim q
end L2
namespace L2
open PySem PySem.Spec PyProof.Rows
section
variable {X : Cx} {x : Str} {p pos : Pos} {e : Expr} {es : List Expr} {t : TA} {id T : String} {r : List V → Hp → VK → Prop}
def tCB (r : List V → Hp → VK → Prop) (t : TA) : TE := fun σ H Q => t σ H fun vs H1 => r vs H1 Q
theorem Zgh (hc : Zbb X (.builtin id) r) (hg : Gl X x) (hm : X.mg x = none) (hv : bootBuiltins x = some (.builtin id)) (ha : PA X (e :: es) t) (hn : x ≠ "__name__" := by decide) (hdb : (x == ("__debug__" : Str)) = false := by decide)
  (he : starEach (e :: es) X.env = (false, eval e X.env) :: starEach es X.env := by rfl) (hpl : (backTo pos (starEach es X.env)).any (·.1) = false := by rfl) : PE X (.Call (.Name x p) (e :: es) [] pos) (tCB r t) := by
 intro pins s σ H Q I h
 refine wpAny_Call_Name_kw (Zdr I hg hm hv ?_ hn hdb)
 exact PyProof.Rows.callWith_builtin1 (thn (ha pos pins s σ H _ I h) fun us s1 ⟨vs, H1, I1, r1, q1⟩ => hc pins s1 σ H1 vs us Q I1 r1 q1) he hpl
theorem Zhp (hc : Zbb X (.type T) r) (hg : Gl X x) (hm : X.mg x = none) (hv : bootBuiltins x = some (.type T)) (ha : PA X (e :: es) t) (hn : x ≠ "__name__" := by decide) (hdb : (x == ("__debug__" : Str)) = false := by decide)
  (he : starEach (e :: es) X.env = (false, eval e X.env) :: starEach es X.env := by rfl) (hpl : (backTo pos (starEach es X.env)).any (·.1) = false := by rfl) : PE X (.Call (.Name x p) (e :: es) [] pos) (tCB r t) := by
 intro pins s σ H Q I h
 refine wpAny_Call_Name_kw (Zdr I hg hm hv ?_ hn hdb)
 exact PyProof.Rows.callWith_type1 (thn (ha pos pins s σ H _ I h) fun us s1 ⟨vs, H1, I1, r1, q1⟩ => hc pins s1 σ H1 vs us Q I1 r1 q1) he hpl
end
end L2
namespace HT
open PySem PyProof.Rows
section
open PySem.SeqAt
open PySem.AutoSeq1 (wpAny_loadPart')
open PySem.MeetsSeq PySem.MeetsSeq2 PySem.MeetsSeq3
end
section
variable {prog : Program} {w : World} {A : Around} {E : Value → Shared → Prop} {s : Shared}
theorem cat_tup {t b : Addr} {vs ws : List Value} {Q : Value → Shared → Prop} (ht : IsTup s.heap t vs.toArray) (hb : IsTup s.heap b ws.toArray) (hv : vs ≠ [])
  (h1 : ws = [] → Q (.ref t) s) (h2 : ws ≠ [] → Q (.ref s.heap.objs.size) { s with heap := s.heap.push { cls := .type "tuple", data := .seq (vs ++ ws).toArray } })
  (hsz : vs.length + ws.length ≤ sizeLine) : wpAny (model prog w) A (binaryOp .Add (.ref t) (.ref b)) Q E s := by
 obtain ⟨⟨cls, dd, data, sl⟩, ho, hc, n, hd⟩ := id ht
 obtain ⟨⟨cls2, dd2, data2, sl2⟩, ho2, hc2, n2, hd2⟩ := id hb
 simp only at hc hd hc2 hd2
 subst hc hd hc2 hd2
 have e : vs.toArray ++ ws.toArray = (vs ++ ws).toArray := by simp
 by_cases hw : ws = []
 ·exact concat_meets ⟨_, ho, rfl⟩ ⟨_, ho2, rfl⟩ noFill_tuple_add seq_tuple_add PySem.F.slot_tuple_add PySem.F.entry_tuple_add (PySem.F.args_tuple_add_2 _ _)
   (tuple_addW1 t b vs.toArray ws.toArray n n2 dd dd2 sl sl2 (by simpa using hv) (by simp [hw])) ⟨ho, ho2, h1 hw⟩
 ·refine concat_meets ⟨_, ho, rfl⟩ ⟨_, ho2, rfl⟩ noFill_tuple_add seq_tuple_add PySem.F.slot_tuple_add PySem.F.entry_tuple_add (PySem.F.args_tuple_add_2 _ _)
   (tuple_addW2 t b vs.toArray ws.toArray n n2 dd dd2 sl sl2 (by simpa using hv) (by simpa using hw) (by rw [List.size_toArray, List.size_toArray]; exact hsz)) ⟨ho, ho2, ?_⟩
  rw [e]
  exact h2 hw
def sIx (n d : Nat) : Option Int → Nat
 | none => d
 | some v => if v < 0 then (v + (n : Int)).toNat else min v.toNat n
theorem ZeG (n d : Nat) : sIx n d none = d := rfl
theorem ZfS (n d k : Nat) : sIx n d (some (k : Int)) = min k n := by
 show (if (k : Int) < 0 then ((k : Int) + (n : Int)).toNat else min (k : Int).toNat n) = min k n
 rw [if_neg (by omega), Int.toNat_natCast]
theorem ZfO (n d : Nat) (hd : d ≤ n) (o : Option Int) : sIx n d o ≤ n := by
 cases o with
 | none => exact hd
 | some v =>
  show (if v < 0 then (v + (n : Int)).toNat else min v.toNat n) ≤ n
  by_cases hv : v < 0
  ·rw [if_pos hv]; omega
  ·rw [if_neg hv]; exact Nat.min_le_right _ _
theorem Zho (v : Int) (n d : Nat) : (if v < 0 then max (v + (n : Int)) 0 else min v (n : Int)) = ((sIx n d (some v) : Nat) : Int) := by
 show (if v < 0 then max (v + (n : Int)) 0 else min v (n : Int)) = (((if v < 0 then (v + (n : Int)).toNat else min v.toNat n) : Nat) : Int)
 by_cases hv : v < 0
 ·simp only [if_pos hv]; omega
 ·simp only [if_neg hv]; omega
theorem Zgz (lo hi : Option Int) (n : Nat) : Builtin.Slice.sliceAdjust lo hi 1 (n : Int) = (((sIx n 0 lo : Nat) : Int), ((sIx n n hi : Nat) : Int)) := by
 have h1 : ¬ ((1 : Int) < 0) := by omega
 unfold Builtin.Slice.sliceAdjust
 simp only [h1, if_false]
 refine Prod.ext ?_ ?_
 ·cases lo with
  | none => rfl
  | some v => exact Zho v n 0
 ·cases hi with
  | none => rfl
  | some v => exact Zho v n n
theorem ZgH (i j : Nat) : Builtin.Slice.slicePlaces (i : Int) (j : Int) 1 = j - i := by
 unfold Builtin.Slice.slicePlaces
 have h1 : (1 : Int) > 0 := by omega
 simp only [h1, if_true, Int.ediv_one]
 split <;> omega
theorem ZeK {v : Value} {o : Option Int} {Q : Option Int → Shared → Prop} (p : IsPart v o) (h : Q o s) : wpAny (model prog w) A (Builtin.Slice.slicePartIndex v) Q E s := by
 cases p with
 | none => exact slicePart_none h
 | int i t => exact slicePart_int h
theorem sliceApplied_gen {sl : Addr} {vl vu : Value} {lo hi : Option Int} {n : Nat} {Q : Int × Int × Nat → Shared → Prop} (hs : s.heap.IsSliceOf sl vl vu .none) (pl : IsPart vl lo) (pu : IsPart vu hi)
  (h : Q (((sIx n 0 lo : Nat) : Int), 1, sIx n n hi - sIx n 0 lo) s) : wpAny (model prog w) A (Builtin.Slice.sliceApplied (.ref sl) (pure (n : Int))) Q E s := by
 obtain ⟨os, hos, hcs, hds⟩ := id hs
 unfold Builtin.Slice.sliceApplied Builtin.Slice.sliceFields
 refine wpAny_bind (wpAny_bind (wpAny_field hos hds (x := vl) rfl (wpAny_bind (wpAny_field hos hds (x := vu) rfl (wpAny_bind (wpAny_field hos hds (x := .none) rfl (wpAny_pure ?_)))))))
 refine wpAny_bind (slicePart_none ?_)
 show wpAny _ _ (if ((1 : Int) == 0) = true then _ else _) _ _ s
 rw [if_neg (by decide)]
 refine wpAny_bind (ZeK pl (wpAny_bind (ZeK pu (wpAny_bind (wpAny_pure ?_)))))
 show wpAny _ _ (match Builtin.Slice.sliceAdjust lo hi 1 (n : Int) with | (lo, hi) => pure (lo, (1 : Int), Builtin.Slice.slicePlaces lo hi 1)) _ _ s
 rw [Zgz lo hi n]
 show wpAny _ _ (pure (((sIx n 0 lo : Nat) : Int), (1 : Int), Builtin.Slice.slicePlaces ((sIx n 0 lo : Nat) : Int) ((sIx n n hi : Nat) : Int) 1)) _ _ s
 rw [ZgH]
 exact wpAny_pure h
theorem Zil (xs : Array Value) (i k : Nat) : ((List.range k).filterMap fun (m : Nat) => xs[((i : Int) + (m : Int) * 1).toNat]?).toArray = ((xs.toList.drop i).take k).toArray := by
 have e : (fun (m : Nat) => xs[((i : Int) + (m : Int) * 1).toNat]?) = fun m => xs[i + m]? := by
  funext m
  have : ((i : Int) + (m : Int) * 1).toNat = i + m := by omega
  rw [this]
 rw [e]
 have := pick_run xs i k
 rw [List.filterMap_map] at this
 have e2 : ((fun x => xs[x]?) ∘ fun x => i + x) = fun m => xs[i + m]? := rfl
 rw [e2] at this
 rw [this]
theorem getItem_tuple_cut {t sl : Addr} {items : Array Value} {vl vu : Value} {lo hi : Option Int} {Q : Value → Shared → Prop} (ht : IsTup s.heap t items) (hs : s.heap.IsSliceOf sl vl vu .none) (pl : IsPart vl lo) (pu : IsPart vu hi)
  (hw : ¬ (sIx items.size 0 lo = 0 ∧ sIx items.size items.size hi = items.size))
  (h : Q (.ref s.heap.objs.size) { s with heap := s.heap.push { cls := .type "tuple", data := .seq ((items.toList.drop (sIx items.size 0 lo)).take (sIx items.size items.size hi - sIx items.size 0 lo)).toArray } })
  (hsz : items.size ≤ sizeLine) : wpAny (model prog w) A (getItem (.ref t) (.ref sl)) Q E s := by
 have htake : sizeOk (.seq ((items.toList.drop (sIx items.size 0 lo)).take (sIx items.size items.size hi - sIx items.size 0 lo)).toArray) := by
  show ((items.toList.drop (sIx items.size 0 lo)).take (sIx items.size items.size hi - sIx items.size 0 lo)).toArray.size ≤ sizeLine
  rw [List.size_toArray, List.length_take, List.length_drop, Array.length_toList]
  omega
 have hj : sIx items.size items.size hi ≤ items.size := ZfO _ _ (Nat.le_refl _) hi
 obtain ⟨os, hos, hcs, hds⟩ := id hs
 have hTs : s.TypeIs (.ref sl) "slice" := ⟨os, hos, hcs⟩
 unfold getItem
 try with_reducible refine wpAny_holding ?_
 first | refine wpAny_bind (wpAny_pure ?_) | skip
 refine wpAny_bind (wpAny_sequenceKey ht.typeIs (by decide) ?_)
 refine wpAny_bind (wpAny_callSpecial?_slot (name := Str.ofString "__getitem__") ht.typeIs PyProof.Rows.slot_tuple_getitem
  (wpAny_call_entry PyProof.Rows.slot_tuple_getitem ht.typeIs entry_tuple_getitem ?_ (args_tuple_getitem _ _)))
 show wpAny _ _ (Builtin.Tuple.tupleItemsOf (.ref t) >>= _) _ _ s
 refine wpAny_bind (tupleItemsOf_ ht ?_)
 refine wpAny_bind (wpAny_typeOf hTs ?_)
 rw [if_pos (by decide)]
 refine wpAny_bind (sliceApplied_gen hs pl pu ?_)
 have hno : ¬ ((((sIx items.size 0 lo : Nat) : Int) == 0 && (1 : Int) == 1 && (sIx items.size items.size hi - sIx items.size 0 lo) == items.size) = true) := by
  intro q
  rw [Bool.and_eq_true, Bool.and_eq_true] at q
  have q1 : ((sIx items.size 0 lo : Nat) : Int) = 0 := eq_of_beq q.1.1
  have q2 : sIx items.size items.size hi - sIx items.size 0 lo = items.size := eq_of_beq q.2
  exact hw ⟨by omega, by omega⟩
 show wpAny _ _ (if (((sIx items.size 0 lo : Nat) : Int) == 0 && (1 : Int) == 1 && (sIx items.size items.size hi - sIx items.size 0 lo) == items.size) = true then _ else _) _ _ s
 rw [if_neg hno, Zil]
 first
  | exact wpAny_bind (m := Builtin.Tuple.tupleExact _) (wpAny_newObj_type (wpAny_pure ⟨_, rfl, wpAny_pure h⟩) htake)
  | exact wpAny_bind (m := Builtin.Tuple.tupleExact _) (wpAny_newObj_type (wpAny_bind (wpAny_pure (wpAny_pure ⟨_, rfl, wpAny_pure h⟩))) htake)
  | exact wpAny_bind (wpAny_bind (m := Builtin.Tuple.tupleExact _) (wpAny_newObj_type (wpAny_pure (wpAny_pure ⟨_, rfl, wpAny_pure h⟩)) htake))
  | exact wpAny_bind (wpAny_bind (m := Builtin.Tuple.tupleExact _) (wpAny_newObj_type (wpAny_pure ⟨_, rfl, wpAny_pure h⟩) htake))
end
end HT
namespace L2
open PySem PySem.Spec PyProof.Rows
abbrev TO := St → Hp → (Option Int → Hp → Prop) → Prop
def PO (X : Cx) (e : Option Expr) (t : TO) : Prop :=
 ∀ (pins : List (Addr × Obj)) (s : Shared) (σ : St) (H : Hp) (Q : Option Int → Hp → Prop), Inv X pins σ H s → t σ H Q →
  wpAny (model X.prog X.w) X.A (evalPart e X.env) (fun u s' => ∃ o H', Inv X pins σ H' s' ∧ IsPart u o ∧ Q o H') X.xe s
def ZjJ : TO := fun _ H Q => Q none H
def Zl1 (t : TE) : TO := fun σ H Q => t σ H fun x H1 => ∃ i, x = .int i ∧ Q (some i) H1
section
variable {X : Cx} {e : Expr} {te : TE} {lo hi : Option Expr} {tl th : TO} {pos p2 : Pos}
theorem Zjx : PO X none ZjJ := by
 intro pins s σ H Q I h
 rw [evalPart_none]
 exact wpAny_pure ⟨none, H, I, .none, h⟩
theorem Zjp (h : PE X e te) : PO X (some e) (Zl1 te) := by
 intro pins s σ H Q I hw
 rw [evalPart_some]
 refine thn (h pins s σ H _ I hw) fun u s1 ⟨x, H1, I1, r1, q1⟩ => ?_
 obtain ⟨i, rfl, q⟩ := q1
 obtain ⟨t, rfl⟩ := r1
 exact ⟨some i, H1, I1, .int i t, q⟩
def SlR (X : Cx) (r : V → Option Int → Option Int → Hp → VK → Prop) : Prop :=
 ∀ (pins : List (Addr × Obj)) (s : Shared) (σ : St) (H : Hp) (x : V) (v vl vu : Value) (lo hi : Option Int) (sl : Addr) (Q : VK), Inv X pins σ H s → RelV x v → s.heap.IsSliceOf sl vl vu .none → IsPart vl lo → IsPart vu hi → r x lo hi H Q →
  ∃ T id, typeLookup (.type T) "__getitem__" = pure (some (.builtin id)) ∧ s.TypeIs v T ∧ wpAny (model X.prog X.w) X.A (getItem v (.ref sl)) (EP X pins σ Q) X.xe s
theorem SlR.or {r r' : V → Option Int → Option Int → Hp → VK → Prop} (h : SlR X r) (h' : SlR X r') : SlR X (fun x lo hi H Q => r x lo hi H Q ∨ r' x lo hi H Q) := by
 intro pins s σ H x v vl vu lo hi sl Q I rx hs pl pu q
 rcases q with q | q
 ·exact h pins s σ H x v vl vu lo hi sl Q I rx hs pl pu q
 ·exact h' pins s σ H x v vl vu lo hi sl Q I rx hs pl pu q
def tSl (r : V → Option Int → Option Int → Hp → VK → Prop) (te : TE) (tl th : TO) : TE := fun σ H Q => te σ H fun x H1 => tl σ H1 fun l H2 => th σ H2 fun u H3 => r x l u H3 Q
theorem Zid {r : V → Option Int → Option Int → Hp → VK → Prop} (hr : SlR X r) (he : PE X e te) (hl : PO X lo tl) (hu : PO X hi th) : PE X (.Subscript e (.Slice lo hi none p2) pos) (tSl r te tl th) := by
 intro pins s σ H Q I h
 refine Subscript_ (thn (he pins s σ H _ I h) fun v s1 ⟨x, H1, I1, r1, q1⟩ => ?_)
 refine wpAny_Slice (thn (hl pins s1 σ H1 _ I1 q1) fun vl s2 ⟨l, H2, I2, pl, q2⟩ => thn (hu pins s2 σ H2 _ I2 q2) fun vu s3 ⟨u, H3, I3, pu, q3⟩ => ?_)
 rw [evalPart_none]
 refine wpAny_pure ?_
 have I4 : Inv X pins σ H3 { s3 with heap := s3.heap.push { cls := .type "slice", data := .fields #[vl, vu, .none] } } := I3.kept (t' := s3.toks) fun b ob q => Heap.get?_push_of_some _ q
 obtain ⟨T, id, hT, ht, hg⟩ := hr pins { s3 with heap := s3.heap.push { cls := .type "slice", data := .fields #[vl, vu, .none] } } σ H3 x v vl vu l u s3.heap.objs.size Q I4 r1 (Heap.IsSliceOf.new ..) pl pu q3
 show wpAny (model X.prog X.w) X.A (subscriptTail e (.Slice lo hi none p2) v (.ref s3.heap.objs.size)) (EP X pins σ Q) X.xe { s3 with heap := s3.heap.push { cls := .type "slice", data := .fields #[vl, vu, .none] } }
 exact tail_any (ops := [.ref s3.heap.objs.size, v]) ht hT hg (by with_unfolding_all rfl)
def Zf9 (xs : List V) (lo hi : Option Int) : List V := (xs.drop (HT.sIx xs.length 0 lo)).take (HT.sIx xs.length xs.length hi - HT.sIx xs.length 0 lo)
theorem Zd1 (xs : List V) (lo hi : Option Int) : (Zf9 xs lo hi).length ≤ xs.length := by
 unfold Zf9
 rw [List.length_take, List.length_drop]
 omega
def Znb (K : PySem.W.Frag) : V → Option Int → Option Int → Hp → VK → Prop := fun x lo hi H Q => ∃ a xs, x = .ref a ∧ SqT K H a xs ∧
 ¬ (HT.sIx xs.length 0 lo = 0 ∧ HT.sIx xs.length xs.length hi = xs.length) ∧ ∀ p, H p = none → Q (.ref p) (upd H p (.tup (Zf9 xs lo hi)))
theorem Zld : SlR X (Znb X.K) := by
 intro pins s σ H x v vl vu lo hi sl Q I rx hs pl pu h
 obtain ⟨a, xs, rfl, hx, hw, q⟩ := h
 cases rx
 obtain ⟨its, r, ht, hz⟩ := I.tuple hx
 have hlen : its.toArray.size = xs.length := by rw [List.size_toArray]; exact r.length.symm
 refine ⟨"tuple", _, PyProof.Rows.slot_tuple_getitem.lookup, ht.typeIs, ?_⟩
 refine HT.getItem_tuple_cut ht hs pl pu (by rw [hlen]; exact hw) ?_ (by rw [hlen]; exact hz)
 rw [hlen]
 refine ⟨.ref s.heap.objs.size, _, I.laid (t' := s.toks) (o := .tup (Zf9 xs lo hi)) (fun b ob q => Heap.get?_push_of_some _ q) (Nat.le_refl _) ?_, rfl, q _ (I.hok.fresh (Nat.le_refl _))⟩
 exact ⟨Nat.le_trans (Zd1 xs lo hi) hz, _, (r.drop (HT.sIx xs.length 0 lo)).take (HT.sIx xs.length xs.length hi - HT.sIx xs.length 0 lo), Zcx.new _ _⟩
def ZlW (K : PySem.W.Frag) : R2 := fun x y H Q => ∃ a b xs ys, x = .ref a ∧ y = .ref b ∧ SqT K H a xs ∧ SqT K H b ys ∧ xs ≠ [] ∧ xs.length + ys.length ≤ sizeLine ∧
 (ys = [] → Q (.ref a) H) ∧ (ys ≠ [] → ∀ p, H p = none → Q (.ref p) (upd H p (.tup (xs ++ ys))))
theorem Vals.nil_iff {xs : List V} {us : List Value} (r : Vals xs us) : us = [] ↔ xs = [] := by
 cases r with
 | nil => simp
 | cons _ _ => simp
theorem Zjq : OpR X (binaryOp .Add) (ZlW X.K) := by
 intro pins s σ H x y v u Q I rx ry h
 obtain ⟨a, b, xs, ys, rfl, rfl, ha, hb, hx, hz, q1, q2⟩ := h
 cases rx
 cases ry
 obtain ⟨its, r1, p1, _⟩ := I.tuple ha
 obtain ⟨its2, r2, p2, _⟩ := I.tuple hb
 refine HT.cat_tup p1 p2 (fun z => hx (r1.nil_iff.mp z)) (fun z => ⟨.ref a, H, I, rfl, q1 (r2.nil_iff.mp z)⟩) (fun z => ?_) (by rw [← r1.length, ← r2.length]; exact hz)
 refine ⟨.ref s.heap.objs.size, _, I.laid (t' := s.toks) (o := .tup (xs ++ ys)) (fun b ob q => Heap.get?_push_of_some _ q) (Nat.le_refl _) ?_, rfl, q2 (fun w => z (r2.nil_iff.mpr w)) _ (I.hok.fresh (Nat.le_refl _))⟩
 exact ⟨by rw [List.length_append]; exact hz, _, r1.append r2, Zcx.new _ _⟩
end
end L2
namespace L2
open PySem PySem.Spec PyProof.Rows
def ixN (n : Nat) (i : Int) : Option Nat := if 0 ≤ i then (if i < n then some i.toNat else none) else if -(n : Int) ≤ i then some (i + n).toNat else none
def atI {α : Type} (xs : List α) (i : Int) : Option α := (ixN xs.length i).bind fun j => xs[j]?
theorem Zg9 {n : Nat} {i : Int} {j : Nat} (h : ixN n i = some j) : seqIndex? i n = some j ∧ j < n ∧ -(n : Int) ≤ i ∧ i < n := by
 unfold ixN at h
 by_cases h0 : 0 ≤ i
 ·rw [if_pos h0] at h
  by_cases h1 : i < n
  ·rw [if_pos h1] at h
   have e : i.toNat = j := Option.some.inj h
   exact ⟨by rw [seqIndex_of h0 h1, e], by omega, by omega, h1⟩
  ·rw [if_neg h1] at h; cases h
 ·rw [if_neg h0] at h
  by_cases h1 : -(n : Int) ≤ i
  ·rw [if_pos h1] at h
   have e : (i + n).toNat = j := Option.some.inj h
   exact ⟨by rw [seqIndex_neg (by omega) h1, e], by omega, h1, by omega⟩
  ·rw [if_neg h1] at h; cases h
theorem ZfX {α : Type} {xs : List α} {i : Int} {v : α} (h : atI xs i = some v) : ∃ j, seqIndex? i xs.length = some j ∧ xs[j]? = some v ∧ j < xs.length ∧ -(xs.length : Int) ≤ i ∧ i < xs.length := by
 unfold atI at h
 cases e : ixN xs.length i with
 | none => rw [e] at h; cases h
 | some j =>
  rw [e] at h
  obtain ⟨h1, h2, h3, h4⟩ := Zg9 e
  exact ⟨j, h1, h, h2, h3, h4⟩
def Zha (b : Expr) : Prop := ∀ o i, subscripted b false o i = operate [o, i] (getItem o i)
def IxR (X : Cx) (r : R2) : Prop :=
 ∀ (value slice : Expr) (pins : List (Addr × Obj)) (s : Shared) (σ : St) (H : Hp) (x y : V) (v u : Value) (Q : VK), Inv X pins σ H s → RelV x v → RelV y u → r x y H Q →
  subscripted slice false v u = operate [v, u] (getItem v u) → wpAny (model X.prog X.w) X.A (subscriptTail value slice v u) (EP X pins σ Q) X.xe s
def MtR (X : Cx) (id : String) (r : V → List V → Hp → VK → Prop) : Prop :=
 ∀ (pins : List (Addr × Obj)) (s : Shared) (σ : St) (H : Hp) (x : V) (xs : List V) (v : Value) (us : List Value) (Q : VK), Inv X pins σ H s → RelV x v → Vals xs us → r x xs H Q →
  wpAny (model X.prog X.w) X.A (call (.builtin id) (v :: us)) (EP X pins σ Q) X.xe s
section
variable {X : Cx} {a b : Expr} {ta tb : TE} {pos : Pos}
theorem IxR.or {r r' : R2} (h : IxR X r) (h' : IxR X r') : IxR X (fun x y H Q => r x y H Q ∨ r' x y H Q) := by
 intro value slice pins s σ H x y v u Q I rx ry q hs
 rcases q with q | q
 ·exact h value slice pins s σ H x y v u Q I rx ry q hs
 ·exact h' value slice pins s σ H x y v u Q I rx ry q hs
theorem Zme {r : R2} (hr : IxR X r) (ha : PE X a ta) (hb : PE X b tb) (hs : Zha b) : PE X (.Subscript a b pos) (tOp r ta tb) := by
 intro pins s σ H Q I h
 exact Subscript_ (ZlF ha hb I h fun v u s2 x y H2 I2 rx ry q => hr a b pins s2 σ H2 x y v u Q I2 rx ry q (hs _ _))
def Zmh (K : PySem.W.Frag) : R2 := fun x y H Q => ∃ p xs i v, x = .ref p ∧ y = .int i ∧ SqL K H p xs ∧ atI xs i = some v ∧ Q v H
def ZmH (K : PySem.W.Frag) : R2 := fun x y H Q => ∃ p xs i v, x = .ref p ∧ y = .int i ∧ SqT K H p xs ∧ atI xs i = some v ∧ Q v H
def ZmD : R2 := fun x y H Q => ∃ z i c, x = .str z ∧ y = .int i ∧ z.length ≤ sizeLine ∧ atI z.cps.toList i = some c ∧ Q (.str ⟨#[c]⟩) H
theorem Zjo : IxR X (Zmh X.K) := by
 intro value slice pins s σ H x y v u Q I rx ry h hs
 obtain ⟨p, xs, i, z, rfl, rfl, hq, he, q⟩ := h
 cases rx
 obtain ⟨t, rfl⟩ := ry
 obtain ⟨its, r, pl, hz⟩ := I.list hq
 obtain ⟨j, h1, h2, h3, h4, h5⟩ := ZfX he
 obtain ⟨w, ew, rw'⟩ := r.get h2
 have hl := r.length
 have hn := Zey
 have fin : EP X pins σ Q w s := ⟨z, H, I, rw', q⟩
 by_cases h0 : 0 ≤ i
 ·have hj : i.toNat = j := by
   rw [seqIndex_of h0 h5] at h1
   exact Option.some.inj h1
  exact item_listR pl.isList h0 (by omega) (by rw [hj]; simpa using ew) fin hs
 ·have hj : (i + (its.toArray.size : Int)).toNat = j := by
   rw [seqIndex_neg (by omega) h4] at h1
   rw [List.size_toArray, ← hl]
   exact Option.some.inj h1
  exact subscriptTail_builtinR (x := w) pl.isList.typeIs slot_list_getitem.lookup
   (wpAny_getItem_list_neg (Q := fun r s' => r = w ∧ EP X pins σ Q r s') pl.isList (by omega) (by rw [List.size_toArray] <;> omega) (by omega) (by rw [hj]; simpa using ew) ⟨rfl, fin⟩) hs
theorem Zk0 : IxR X (ZmH X.K) := by
 intro value slice pins s σ H x y v u Q I rx ry h hs
 obtain ⟨p, xs, i, z, rfl, rfl, hq, he, q⟩ := h
 cases rx
 obtain ⟨t, rfl⟩ := ry
 obtain ⟨its, r, pl, hz⟩ := I.tuple hq
 obtain ⟨j, h1, h2, h3, h4, h5⟩ := ZfX he
 obtain ⟨w, ew, rw'⟩ := r.get h2
 have hl := r.length
 have hn := Zey
 have fin : EP X pins σ Q w s := ⟨z, H, I, rw', q⟩
 exact subscriptTail_builtinR (x := w) pl.typeIs slot_tuple_getitem.lookup
  (getItem_tuple (j := j) (Q := fun r s' => r = w ∧ EP X pins σ Q r s') pl (by omega) (by omega) (by rw [List.size_toArray, ← hl]; exact h1) (by simpa using ew) ⟨rfl, fin⟩) hs
theorem ZkM : IxR X ZmD := by
 intro value slice pins s σ H x y v u Q I rx ry h hs
 obtain ⟨z, i, c, rfl, rfl, hz, he, q⟩ := h
 obtain ⟨t, rfl⟩ := rx
 obtain ⟨t', rfl⟩ := ry
 obtain ⟨j, h1, h2, h3, h4, h5⟩ := ZfX he
 have hl : z.cps.toList.length = z.length := by simp [Str.length]
 rw [hl] at h1 h4 h5
 have hn := Zey
 exact tail_any (typeIs_str s z t) slot_str_getitem.lookup (getItem_str (c := c) (by
  have e1 : decide (i < -(2 ^ 63 : Int)) = false := decide_eq_false (by omega)
  have e2 : decide (i ≥ 2 ^ 63) = false := decide_eq_false (by omega)
  rw [e1, e2, Bool.or_false]) (by rw [h1]; simpa using h2) ⟨.str ⟨#[c]⟩, H, I.tok _, ⟨_, rfl⟩, q⟩) hs
def rIx (K : PySem.W.Frag) : R2 := fun x y H Q => Zmh K x y H Q ∨ ZmH K x y H Q ∨ ZmD x y H Q
theorem ZlL : IxR X (rIx X.K) := Zjo.or (Zk0.or ZkM)
theorem ZgD (its : List Value) (n j : Nat) (u : Value) : Obj.mapSeq (·.setIfInBounds j u) { cls := .type "list", data := .seq its.toArray n } = { cls := .type "list", data := .seq (its.set j u).toArray n } := by
 simp [Obj.mapSeq]
theorem Inv.lst {pins : List (Addr × Obj)} {σ : St} {H : Hp} {s : Shared} {p : Addr} {xs : List V} (I : Inv X pins σ H s) (h : H p = some (.lst xs)) :
  ∃ (its : List Value) (n : Nat), Vals xs its ∧ s.heap.get? p = some { cls := .type "list", data := .seq its.toArray n } ∧ xs.length ≤ sizeLine := by
 obtain ⟨z, its, n, r, e⟩ := I.hok p _ h
 exact ⟨its, n, r, e, z⟩
theorem Inv.lstUpd {pins : List (Addr × Obj)} {σ : St} {H : Hp} {s : Shared} {p : Addr} {xs ys : List V} {its its' : List Value} {n n' : Nat} {f : Obj → Obj} (I : Inv X pins σ H s) (h : H p = some (.lst xs))
  (ho : s.heap.get? p = some { cls := .type "list", data := .seq its.toArray n }) (hf : f { cls := .type "list", data := .seq its.toArray n } = { cls := .type "list", data := .seq its'.toArray n' }) (r : Vals ys its') (hz : ys.length ≤ sizeLine) (t : Nat) :
  Inv X pins σ (upd H p (.lst ys)) { s with heap := s.heap.update p f, toks := t } := by
 have e : (s.heap.update p f).get? p = some { cls := .type "list", data := .seq its'.toArray n' } := by
  rw [Heap.get?_update_self f ho (by rw [hf] <;> rfl), hf]
 refine I.write (x := p) (e := p) (by rw [h]; trivial) (.inl rfl) (fun b u hb q => (Heap.get?_update_other _ _ (Ne.symm hb)).trans q) ⟨_, e⟩ ?_
 exact ⟨hz, its', n', r, e⟩
def ZmF : V → V → V → Hp → (Hp → Prop) → Prop := fun o i v H Q => ∃ p xs k j, o = .ref p ∧ i = .int k ∧ H p = some (.lst xs) ∧ ixN xs.length k = some j ∧ Q (upd H p (.lst (xs.set j v)))
theorem set_list : ZlZ X ZmF := by
 intro pins s σ H o i v ov iv u Q I ro ri rv h
 obtain ⟨p, xs, k, j, rfl, rfl, hp, hj, q⟩ := h
 cases ro
 obtain ⟨t, rfl⟩ := ri
 obtain ⟨its, n, r, ho, hz⟩ := I.lst hp
 obtain ⟨h1, h2, h3, h4⟩ := Zg9 hj
 have hl := r.length
 have hn := Zey
 have I' : Inv X pins σ (upd H p (.lst (xs.set j v))) { s with heap := s.heap.update p (Obj.mapSeq (·.setIfInBounds j u)) } :=
  I.lstUpd hp ho (ZgD its n j u) (r.set rv j) (by rw [List.length_set]; exact hz) s.toks
 by_cases h0 : 0 ≤ k
 ·have hk : k.toNat = j := by
   rw [seqIndex_of h0 h4] at h1
   exact Option.some.inj h1
  exact PySem.W.ki_setAt ho h0 (by omega) (by rw [List.size_toArray, ← hl]; exact h4) (by rw [hk]; exact ⟨_, I', q⟩)
 ·have hk : (k + (its.toArray.size : Int)).toNat = j := by
   rw [seqIndex_neg (by omega) h3] at h1
   rw [List.size_toArray, ← hl]
   exact Option.some.inj h1
  exact PySem.W.ki_setBack ho (by omega) (by rw [List.size_toArray, ← hl]; exact h3) (by omega) (by rw [hk]; exact ⟨_, I', q⟩)
theorem ZfC (lo hi : Option Int) (n : Nat) : (sliceBounds lo hi none n).1 = ((HT.sIx n 0 lo : Nat) : Int) ∧ (sliceBounds lo hi none n).2.1 = ((HT.sIx n n hi : Nat) : Int) ∧ (sliceBounds lo hi none n).2.2 = 1 := by
 refine ⟨?_, ?_, rfl⟩
 ·cases lo with
  | none => simp [sliceBounds, HT.sIx]
  | some i =>
   simp only [sliceBounds, HT.sIx, Option.getD_none, show (1 : Int) > 0 by decide, if_true]
   by_cases h : i < 0
   ·simp only [h, if_true] <;> omega
   ·simp only [h, if_false] <;> omega
 ·cases hi with
  | none => simp [sliceBounds, HT.sIx]
  | some i =>
   simp only [sliceBounds, HT.sIx, Option.getD_none, show (1 : Int) > 0 by decide, if_true]
   by_cases h : i < 0
   ·simp only [h, if_true] <;> omega
   ·simp only [h, if_false] <;> omega
theorem ZeT (its : List Value) (lo hi : Option Int) : slicePick its.toArray lo hi none = ((its.drop (HT.sIx its.length 0 lo)).take (HT.sIx its.length its.length hi - HT.sIx its.length 0 lo)).toArray := by
 obtain ⟨h1, h2, h3⟩ := ZfC lo hi its.toArray.size
 unfold slicePick
 rw [h1, h2, h3]
 simp only [sliceRange_one, pick_run, List.size_toArray] <;> rfl
def Zne (K : PySem.W.Frag) : V → Option Int → Option Int → Hp → VK → Prop := fun x lo hi H Q => ∃ a xs, x = .ref a ∧ SqL K H a xs ∧ ∀ p, H p = none → Q (.ref p) (upd H p (.lst (Zf9 xs lo hi)))
theorem ZjZ : SlR X (Zne X.K) := by
 intro pins s σ H x v vl vu lo hi sl Q I rx hs pl pu h
 obtain ⟨a, xs, rfl, hx, q⟩ := h
 cases rx
 obtain ⟨its, r, ht, hz⟩ := I.list hx
 have hlen := r.length
 refine ⟨"list", _, slot_list_getitem.lookup, ht.isList.typeIs, ?_⟩
 refine wpAny_getItem_list_slice ht.isList hs pl pu .none (by simp) ?_ (by rw [List.size_toArray] <;> omega)
 rw [ZeT, ← hlen]
 refine ⟨.ref s.heap.objs.size, _, I.laid (t' := s.toks) (o := .lst (Zf9 xs lo hi)) (fun b ob q => Heap.get?_push_of_some _ q) (Nat.le_refl _) ?_, rfl, q _ (I.hok.fresh (Nat.le_refl _))⟩
 exact ⟨Nat.le_trans (Zd1 xs lo hi) hz, _, 0, (r.drop (HT.sIx xs.length 0 lo)).take (HT.sIx xs.length xs.length hi - HT.sIx xs.length 0 lo), Heap.get?_push_size _ rfl⟩
def Zdp : V → Bool
 | .non => true
 | .bl _ => true
 | .int _ => true
 | .str _ => true
 | _ => false
def eqV : V → V → Bool
 | .non, .non => true
 | .bl a, .bl b => a == b
 | .bl a, .int b => (if a then 1 else 0) == b
 | .int a, .bl b => a == (if b then 1 else 0)
 | .int a, .int b => a == b
 | .str a, .str b => a == b
 | _, _ => false
theorem Zlh {A : Around} {s : Shared} {y x : V} {u v : Value} (ry : RelV y u) (rx : RelV x v) (fy : Zdp y = true) (fx : Zdp x = true) : SeqAt.EqAt A s u v (eqV y x) := by
 cases y with
 | non =>
  cases ry
  cases x with
  | non => cases rx; exact SeqAt.EqAt.same _
  | bl b => cases rx; exact SeqAt.EqAt.none_bool b
  | int b => obtain ⟨t, rfl⟩ := rx; exact SeqAt.EqAt.none_int b t
  | str b => obtain ⟨t, rfl⟩ := rx; exact SeqAt.EqAt.none_str b t
  | _ => exact absurd (show false = true from fx) Bool.false_ne_true
 | bl a =>
  cases ry
  cases x with
  | non => cases rx; exact SeqAt.EqAt.bool_none a
  | bl b => cases rx; exact SeqAt.EqAt.bool_bool a b
  | int b => obtain ⟨t, rfl⟩ := rx; exact SeqAt.EqAt.bool_int a b t
  | str b => obtain ⟨t, rfl⟩ := rx; exact SeqAt.EqAt.bool_str a b t
  | _ => exact absurd (show false = true from fx) Bool.false_ne_true
 | int a =>
  obtain ⟨t', rfl⟩ := ry
  cases x with
  | non => cases rx; exact SeqAt.EqAt.int_none a t'
  | bl b => cases rx; exact SeqAt.EqAt.int_bool a t' b
  | int b => obtain ⟨t, rfl⟩ := rx; exact SeqAt.EqAt.int_int a t' b t
  | str b => obtain ⟨t, rfl⟩ := rx; exact SeqAt.EqAt.int_str a t' b t
  | _ => exact absurd (show false = true from fx) Bool.false_ne_true
 | str a =>
  obtain ⟨t', rfl⟩ := ry
  cases x with
  | non => cases rx; exact SeqAt.EqAt.str_none a t'
  | bl b => cases rx; exact SeqAt.EqAt.str_bool a t' b
  | int b => obtain ⟨t, rfl⟩ := rx; exact SeqAt.EqAt.str_int a t' b t
  | str b => obtain ⟨t, rfl⟩ := rx; exact SeqAt.EqAt.str_str a t' b t
  | _ => exact absurd (show false = true from fx) Bool.false_ne_true
 | _ => exact absurd (show false = true from fy) Bool.false_ne_true
def eqU (x : V) (u : Value) : Bool := match u with
 | .none => eqV .non x
 | .bool b => eqV (.bl b) x
 | .int i _ => eqV (.int i) x
 | .str z _ => eqV (.str z) x
 | _ => false
theorem ZiB {x y : V} {u : Value} (r : RelV y u) (f : Zdp y = true) : eqU x u = eqV y x := by
 cases y with
 | non => cases r; rfl
 | bl b => cases r; rfl
 | int i => obtain ⟨t, rfl⟩ := r; rfl
 | str z => obtain ⟨t, rfl⟩ := r; rfl
 | _ => exact absurd (show false = true from f) Bool.false_ne_true
theorem Zfs {x : V} : ∀ {xs : List V} {us : List Value}, Vals xs us → xs.all Zdp = true → us.any (eqU x) = xs.any fun y => eqV y x
 | _, _, .nil, _ => rfl
 | y :: xs, u :: us, .cons r t, f => by
  rw [List.all_cons, Bool.and_eq_true] at f
  rw [List.any_cons, List.any_cons, ZiB r f.1, Zfs t f.2]
theorem Zer {A : Around} {s : Shared} {x : V} {v : Value} (rx : RelV x v) (fx : Zdp x = true) : ∀ {xs : List V} {us : List Value}, Vals xs us → xs.all Zdp = true → ∀ u ∈ us, SeqAt.EqAt A s u v (eqU x u)
 | _, _, .nil, _ => fun u hu => by cases hu
 | y :: xs, u :: us, .cons r t, f => fun u' hu => by
  rw [List.all_cons, Bool.and_eq_true] at f
  rcases List.mem_cons.mp hu with rfl | hu
  ·rw [ZiB r f.1]; exact Zlh r rx f.1 fx
  ·exact Zer rx fx t f.2 u' hu
def inV (x : V) (xs : List V) : Bool := xs.any fun y => eqV y x
def rIn (K : PySem.W.Frag) (neg : Bool) : R2 := fun x y H Q => ∃ p xs, y = .ref p ∧ (SqL K H p xs ∨ SqT K H p xs) ∧ Zdp x = true ∧ xs.all Zdp = true ∧ Q (.bl (if neg then !inV x xs else inV x xs)) H
theorem ZhU : OpR X (compareOp .In) (rIn X.K false) := by
 intro pins s σ H x y v u Q I rx ry h
 obtain ⟨p, xs, rfl, hq, fx, fs, q⟩ := h
 cases ry
 rcases hq with hq | hq
 ·obtain ⟨its, r, pl, hz⟩ := I.list hq
  refine SeqAt.in_listAt (eqU x) pl.isList (fun w hw => Zer rx fx r fs w (by simpa using hw)) ⟨.bl _, H, I, rfl, ?_⟩
  rw [show its.toArray.any (eqU x) = its.any (eqU x) by simp, Zfs r fs]
  exact q
 ·obtain ⟨its, r, pl, hz⟩ := I.tuple hq
  refine SeqAt.in_tupleAt (eqU x) pl (fun w hw => Zer rx fx r fs w (by simpa using hw)) ⟨.bl _, H, I, rfl, ?_⟩
  rw [show its.toArray.any (eqU x) = its.any (eqU x) by simp, Zfs r fs]
  exact q
theorem Zbb.or {f : Value} {r r' : List V → Hp → VK → Prop} (h : Zbb X f r) (h' : Zbb X f r') : Zbb X f (fun xs H Q => r xs H Q ∨ r' xs H Q) := by
 intro pins s σ H xs us Q I rs q
 rcases q with q | q
 ·exact h pins s σ H xs us Q I rs q
 ·exact h' pins s σ H xs us Q I rs q
theorem ZeW : Zbb X (.type "tuple") (fun xs H Q => ∃ p ys, xs = [.ref p] ∧ ((SqL X.K H p ys ∧ ∀ l, H l = none → Q (.ref l) (upd H l (.tup ys))) ∨ (SqT X.K H p ys ∧ Q (.ref p) H))) := by
 intro pins s σ H xs us Q I r h
 obtain ⟨p, ys, rfl, h⟩ := h
 obtain ⟨u, rfl, rx⟩ := vals1 r
 cases rx
 rcases h with ⟨hq, q⟩ | ⟨hq, q⟩
 ·obtain ⟨its, r', pl, hz⟩ := I.list hq
  have hlen := r'.length
  refine call_tuple_list pl.isList (fun h' kp => ?_) (by simp only [List.size_toArray] <;> omega)
  have I1 : Inv X pins σ H { s with heap := h' } := I.kept (t' := s.toks) kp
  have I2 : Inv X pins σ (upd H h'.objs.size (.tup ys)) { s with heap := h'.push { cls := .type "tuple", data := .seq its.toArray } } :=
   I1.laid (t' := s.toks) (fun b o e => Heap.get?_push_of_some _ e) (Nat.le_refl _) (show Zba X.prog X.w _ _ _ (.tup ys) from ⟨hz, its, r', Zcx.new _ _⟩)
  exact ⟨.ref h'.objs.size, _, I2, rfl, q _ (I1.hok.fresh (Nat.le_refl _))⟩
 ·obtain ⟨its, r', pl, hz⟩ := I.tuple hq
  exact call_tuple_same pl ⟨.ref p, H, I, rfl, q⟩
def tyV (K : PySem.W.Frag) (T : String) (x : V) (H : Hp) : Prop := match x with
 | .str _ => T = "str"
 | .int _ => T = "int"
 | .ref p => (T = "list" ∧ ∃ xs, SqL K H p xs) ∨ (T = "tuple" ∧ ∃ o, K.lookup p = some o ∧ o.cls = .type "tuple" ∧ o.dict = none) ∨
   (T = "dict" ∧ ((∃ kvs, H p = some (.dK kvs)) ∨ ∃ kvs, H p = some (.dT kvs))) ∨ (T = "set" ∧ ∃ S n, H p = some (.set S n))
 | _ => False
theorem ZkJ {pins : List (Addr × Obj)} {σ : St} {H : Hp} {s : Shared} {T : String} {x : V} {v : Value} (I : Inv X pins σ H s) (r : RelV x v) (ty : tyV X.K T x H) :
  s.TypeIs v T ∧ ∀ a, v = .ref a → ∃ ob, s.heap.get? a = some ob ∧ ob.dict = none := by
 cases x with
 | str z =>
  obtain ⟨t, rfl⟩ := r
  cases (show T = "str" from ty)
  exact ⟨typeIs_str s z t, fun _ e => nomatch e⟩
 | int i =>
  obtain ⟨t, rfl⟩ := r
  cases (show T = "int" from ty)
  exact ⟨typeIs_int s i t, fun _ e => nomatch e⟩
 | ref p =>
  cases r
  rcases ty with ⟨rfl, xs, hq⟩ | ⟨rfl, o, hk, hc, hd⟩ | ⟨rfl, hk⟩ | ⟨rfl, S, n, hk⟩
  ·obtain ⟨its, _, pl, _⟩ := I.list hq
   refine ⟨pl.isList.typeIs, fun a e => ?_⟩
   cases e
   obtain ⟨o, n, e, c, hd, _⟩ := pl
   exact ⟨o, e, hd⟩
  ·refine ⟨⟨o, I.kIn p o hk, hc⟩, fun a e => ?_⟩
   cases e
   exact ⟨o, I.kIn _ o hk, hd⟩
  ·have z : ∃ o, s.heap.get? p = some o ∧ o.ExactDict := by
    rcases hk with ⟨kvs, hk⟩ | ⟨kvs, hk⟩
    ·obtain ⟨_, _, _, _, o, _, _, e, ex, _⟩ := I.hok p _ hk
     exact ⟨o, e, ex⟩
    ·obtain ⟨_, _, _, _, o, _, _, e, ex, _⟩ := I.hok p _ hk
     exact ⟨o, e, ex⟩
   obtain ⟨o, e, ex⟩ := z
   refine ⟨⟨o, e, ex.1⟩, fun a e2 => ?_⟩
   cases e2
   exact ⟨o, e, ex.2.1⟩
  ·obtain ⟨o, _, _, _, e, ex, _⟩ := I.hok p _ hk
   refine ⟨⟨o, e, ex.1⟩, fun a e2 => ?_⟩
   cases e2
   exact ⟨o, e, ex.2.1⟩
 | _ => exact False.elim ty
def tBM (K : PySem.W.Frag) (T : String) (r : V → List V → Hp → VK → Prop) (to : TE) (t : TA) : TE := fun σ H Q => to σ H fun x H1 => tyV K T x H1 ∧ t σ H1 fun xs H2 => r x xs H2 Q
variable {o e : Expr} {es : List Expr} {to : TE} {t : TA} {name : Str} {apos cpos : Pos} {T id : String} {r : V → List V → Hp → VK → Prop}
theorem Zl5 (pa : PlainAttrs T) (slot : Slot T name id) (hty : typeOf (.builtin id) = pure (.type "method_descriptor")) (hm : MtR X id r) (ho : PE X o to) (ha : PA X (e :: es) t)
  (hbase : attributeBase o name X.env (eval o X.env) = eval o X.env := by rfl)
  (hfew : ((backTo cpos (starEach (e :: es) X.env)).all (fun x => !x.1) && (backToKw cpos (keywordEach [] X.env)).all (fun x => x.1.isSome)
   && decide ((e :: es).length + ([] : List Keyword).length + (if ([] : List Keyword).isEmpty then 0 else 1) < 30)) = true := by rfl)
  (hline : (apos.endLine == cpos.line) = true := by rfl) (hs : starEach (e :: es) X.env = (false, eval e X.env) :: starEach es X.env := by rfl) (hplain : (backTo cpos (starEach es X.env)).any (·.1) = false := by rfl) :
  PE X (.Call (.Attribute o name apos) (e :: es) [] cpos) (tBM X.K T r to t) := by
 intro pins s σ H Q I h
 refine wpAny_Call_method_late hbase hfew hline rfl (thn (ho pins s σ H _ I h) fun v s1 ⟨x, H1, I1, r1, ty, q1⟩ => ?_)
 obtain ⟨h1, h2⟩ := ZkJ I1 r1 ty
 refine ⟨T, id, pa, slot, hty, h1, h2, ?_⟩
 have hA := ha cpos pins s1 σ H1 _ I1 q1
 rw [hs] at hA ⊢
 refine Calls.callWith_builtin (by show (false || (backTo cpos (starEach es X.env)).any (·.1)) = false; rw [hplain] <;> rfl) (Calls.evalArgs_plain ?_)
 exact thn hA fun us s2 ⟨vs, H2, I2, r2, q2⟩ => hm pins s2 σ H2 x vs v us Q I2 r1 r2 q2
/- xs.append(e), list.index on a module's tuple .. are MtR facts of 06m -/
end
end L2
namespace L2
open PySem PySem.Spec PyProof.Rows
def MtM (X : Cx) (id : String) (r : V → List V → Hp → VK → Prop) : Prop :=
 ∀ (pins : List (Addr × Obj)) (s : Shared) (σ : St) (H : Hp) (x : V) (xs : List V) (v : Value) (us : List Value) (Q : VK), Inv X pins σ H s → RelV x v → Vals xs us → r x xs H Q →
  wpAny (model X.prog X.w) X.A (call (.builtin id) (v :: us)) (EP X pins σ Q) X.xe s
theorem Vals.one : ∀ {x : V} {us : List Value}, Vals [x] us → ∃ u, us = [u] ∧ RelV x u
 | _, _, .cons r .nil => ⟨_, rfl, r⟩
theorem Vals.zero : ∀ {us : List Value}, Vals [] us → us = []
 | _, .nil => rfl
theorem Vals.dropLast {xs : List V} {us : List Value} (h : Vals xs us) : Vals xs.dropLast us.dropLast := by
 induction h with
 | nil => exact .nil
 | cons r t ih =>
  cases t with
  | nil => exact .nil
  | cons q t' => exact .cons r ih
theorem Vals.eraseIdx : ∀ {xs : List V} {us : List Value} (i : Nat), Vals xs us → Vals (xs.eraseIdx i) (us.eraseIdx i)
 | _, _, _, .nil => .nil
 | _, _, 0, .cons _ t => t
 | _, _, i + 1, .cons r t => .cons r (Vals.eraseIdx i t)
theorem Vals.rep {xs : List V} {us : List Value} (h : Vals xs us) : ∀ k : Nat, Vals (List.replicate k xs).flatten (List.replicate k us).flatten
 | 0 => .nil
 | k + 1 => by
  rw [List.replicate_succ, List.replicate_succ, List.flatten_cons, List.flatten_cons]
  exact Vals.append h (Vals.rep h k)
theorem foldl_rep (its : List Value) : ∀ (k : Nat) (acc : List Value),
  List.foldl (fun x1 x2 => x1 ++ x2) acc.toArray (List.replicate k its.toArray) = (acc ++ (List.replicate k its).flatten).toArray
 | 0, acc => by simp
 | k + 1, acc => by
  have e : acc.toArray ++ its.toArray = (acc ++ its).toArray := by simp
  have e2 : (acc ++ its) ++ (List.replicate k its).flatten = acc ++ (List.replicate (k + 1) its).flatten := by
   rw [List.replicate_succ, List.flatten_cons, List.append_assoc]
  rw [← e2, ← foldl_rep its k (acc ++ its), ← e, List.replicate_succ, List.foldl_cons]
section
variable {X : Cx} {pins : List (Addr × Obj)} {σ : St} {H : Hp} {s : Shared} {l b : Addr} {xs ys zs : List V}
theorem Inv.lset {its its' : List Value} {n : Nat} {f : Array Value → Array Value} {t' : Nat} (I : Inv X pins σ H s) (hH : H l = some (.lst xs))
  (e : s.heap.get? l = some { cls := .type "list", data := .seq its.toArray n }) (hf : f its.toArray = its'.toArray) (hv : Vals ys its') (hz : ys.length ≤ sizeLine) :
  Inv X pins σ (upd H l (.lst ys)) { s with heap := s.heap.update l (Obj.mapSeq f), toks := t' } := by
 have q := PySem.IsL.update e f
 rw [hf] at q
 refine I.write (x := l) (e := l) (by rw [hH]; exact trivial) (.inl rfl) (fun b' u hb hu => (Heap.get?_update_other s.heap (Obj.mapSeq f) (Ne.symm hb)).trans hu) ⟨_, q⟩ ?_
 exact ⟨hz, its', _, hv, q⟩
theorem Inv.lnew {its : List Value} {t' : Nat} (I : Inv X pins σ H s) (hv : Vals ys its) (hz : ys.length ≤ sizeLine) :
  Inv X pins σ (upd H s.heap.objs.size (.lst ys)) { s with heap := s.heap.push { cls := .type "list", data := .seq its.toArray }, toks := t' } :=
 I.laid (fun _ _ q => Heap.get?_push_of_some _ q) (Nat.le_refl _) ⟨hz, its, 0, hv, Heap.get?_push_size _ rfl⟩
theorem Inv.fresh (I : Inv X pins σ H s) : H s.heap.objs.size = none := I.hok.fresh (Nat.le_refl _)
theorem Inv.lstM (I : Inv X pins σ H s) (hH : H l = some (.lst xs)) : xs.length ≤ sizeLine ∧ ∃ (its : List Value) (n : Nat), Vals xs its ∧ xs.length = its.length ∧ s.heap.get? l = some { cls := .type "list", data := .seq its.toArray n } := by
 obtain ⟨z, its, n, r, e⟩ := I.hok l _ hH
 exact ⟨z, its, n, r, r.length, e⟩
theorem ZiU {n : Nat} (h : n ≤ sizeLine) : Builtin.List.listTooLong n = false := by
 unfold Builtin.List.listTooLong
 exact decide_eq_false (by omega)
end
section
variable {X : Cx}
def Zhk : V → List V → Hp → VK → Prop := fun x vs H Q => ∃ l xs y, x = .ref l ∧ vs = [y] ∧ H l = some (.lst xs) ∧ xs.length < sizeLine ∧ Q .non (upd H l (.lst (xs ++ [y])))
theorem Zfg : MtM X "list.append" Zhk := by
 intro pins s σ H x vs v us Q I rx rv h
 obtain ⟨l, xs, y, rfl, rfl, hH, hz, q⟩ := h
 cases rx
 obtain ⟨u, rfl, ru⟩ := rv.one
 obtain ⟨z, its, n, r, hl, e⟩ := I.lstM hH
 refine call_meets F.slot_list_append ⟨_, e, rfl⟩ F.entry_list_append (F.args_list_append_2 _ _) (PySem.list_append l its.toArray n u (by rw [List.size_toArray]; omega)) ⟨e, ?_⟩
 refine ⟨.non, _, I.lset (its' := its ++ [u]) hH e (by simp) (r.append (.cons ru .nil)) ?_, rfl, q⟩
 rw [List.length_append, List.length_singleton]
 omega
def Znz : R2 := fun x y H Q => ∃ l b xs zs, x = .ref l ∧ y = .ref b ∧ H l = some (.lst xs) ∧ H b = some (.lst zs) ∧ xs.length + zs.length ≤ sizeLine ∧ ∀ p, H p = none → Q (.ref p) (upd H p (.lst (xs ++ zs)))
theorem Zly : OpR X (binaryOp .Add) Znz := by
 intro pins s σ H x y v u Q I rx ry h
 obtain ⟨l, b, xs, zs, rfl, rfl, hH, hB, hz, q⟩ := h
 cases rx
 cases ry
 obtain ⟨z, its, n, r, hl, e⟩ := I.lstM hH
 obtain ⟨z2, its2, n2, r2, hl2, e2⟩ := I.lstM hB
 refine PySem.P.add_list e e2 ?_ (by rw [List.size_toArray, List.size_toArray]; omega)
 have ea : its.toArray ++ its2.toArray = (its ++ its2).toArray := by simp
 rw [ea]
 exact ⟨.ref _, _, I.lnew (t' := s.toks) (r.append r2) (by rw [List.length_append]; omega), rfl, q _ I.fresh⟩
def Znh : R2 := fun x y H Q => ∃ l k xs, x = .ref l ∧ y = .int k ∧ H l = some (.lst xs) ∧ -(2 ^ 63) ≤ k ∧ k < 2 ^ 63 ∧ xs.length * k.toNat ≤ sizeLine ∧
 ∀ p, H p = none → Q (.ref p) (upd H p (.lst (List.replicate k.toNat xs).flatten))
theorem len_rep {α : Type} (xs : List α) (k : Nat) : (List.replicate k xs).flatten.length = k * xs.length := by
 induction k with
 | zero => simp
 | succ k ih => rw [List.replicate_succ, List.flatten_cons, List.length_append, ih, Nat.succ_mul, Nat.add_comm]
theorem ZlI : OpR X (binaryOp .Mult) Znh := by
 intro pins s σ H x y v u Q I rx ry h
 obtain ⟨l, k, xs, rfl, rfl, hH, h1, h2, hz, q⟩ := h
 cases rx
 obtain ⟨t, rfl⟩ := ry
 obtain ⟨z, its, n, r, hl, e⟩ := I.lstM hH
 have hlen : its.toArray.size * k.toNat ≤ sizeLine := by rw [List.size_toArray, ← hl]; exact hz
 have hcap : ¬ its.toArray.size * k.toNat > (2 ^ 63 - 1) / 8 := by
  have : (sizeLine : Nat) ≤ (2 ^ 63 - 1) / 8 := by decide
  omega
 have hfit : ¬ (!Builtin.List.listFitsIndex k) = true := by
  rw [fitsIndex_both h1 h2]
  exact Bool.false_ne_true
 have hlong : ¬ Builtin.List.listTooLong (its.toArray.size * k.toNat) = true := by
  rw [ZiU hlen]
  exact Bool.false_ne_true
 have hnew : List.foldl (fun x1 x2 => x1 ++ x2) #[] (List.replicate (if its.toArray.isEmpty = true then 0 else k.toNat) its.toArray) = (List.replicate k.toNat its).flatten.toArray := by
  have f0 : ∀ m : Nat, List.foldl (fun x1 x2 => x1 ++ x2) #[] (List.replicate m its.toArray) = (List.replicate m its).flatten.toArray := fun m => by
   have := foldl_rep its m []
   rw [List.nil_append] at this
   exact this
  rw [f0]
  cases its with
  | nil => simp
  | cons a r' => rw [if_neg (by simp)]
 refine wpAny_binaryOp_repeat_ref (T := "list") (U := "int") (by decide) ⟨_, e, rfl⟩ (fun s' => typeIs_int s' k t) noFill_list_mul F.fills_int_mul F.slot_int_rmul repeat_list F.slot_int_index.lookup
  (call_meets F.slot_int_rmul (typeIs_int s k t) F.entry_int_rmul (F.args_int_rmul_2 _ _) (int___rmul___int_list k t l its.toArray n)
   ⟨e, rfl, ⟨_, e, rfl⟩, call_meets F.slot_list_mul ⟨_, e, rfl⟩ F.entry_list_mul (F.args_list_mul_2 _ _) (AutoListH.list___mul___list_int_3 l its.toArray n k t hfit hcap hlong) ⟨e, ?_⟩⟩)
 rw [hnew]
 exact ⟨.ref _, _, I.lnew (t' := s.toks) (r.rep k.toNat) (by rw [len_rep, Nat.mul_comm]; exact hz), rfl, q _ I.fresh⟩
end
section
variable {prog : Program} {w : World} {A : Around} {E : Value → Shared → Prop} {s : Shared}
end
section
variable {X : Cx}
end
end L2
namespace Att
open PySem PySem.W PySem.Calls PyProof.Rows
theorem Zed {P : Params} {h : Heap} : ∀ (ns : List Int) (vs : List Value), WellAll P h vs (ns.map WData.int) → IntsAre vs ns := by
 intro ns
 induction ns with
 | nil =>
  intro vs w
  rw [List.map_nil] at w
  cases w
  exact .nil
 | cons n ns ih =>
  intro vs w
  rw [List.map_cons] at w
  cases w with
  | cons a b =>
   cases a
   exact .cons _ _ (ih _ b)
theorem Zht {l : OpenLaw} {n : Nat} (hn : l.most = some n) {P : Params} {h : Heap} {args : List WData} {vals : List Value}
  (hpre : l.row.toRowW.claim.pre args = true) (hwl : WellAll P h vals args) :
  ∃ a vs ns, vals = [Value.ref a] ∧ args = [WData.list (ns.map WData.int)] ∧ h.get? a = some { cls := .type "list", data := .seq vs.toArray } ∧ IntsAre vs ns ∧ ns.length ≤ n := by
 have hsh : WShape.hasAll [] args [.list .int] = true := (pre_splitW hpre).1
 have hc : l.pre.holds [] { args := args } = true := (pre_splitW hpre).2
 obtain ⟨d, r, rfl, h1, h2⟩ := hasAllW_cons hsh
 obtain rfl := hasAllW_nil h2
 obtain ⟨xs, rfl, h3⟩ := hasW_list h1
 obtain ⟨ns, rfl⟩ := items_int h3
 have hlen : ns.length ≤ n := by
  unfold OpenLaw.pre at hc
  have h4 : (WTm.not (.lt (.lit (.int (n : Int))) (.len (.arg 0)))).holds [] { args := [.list (ns.map .int)] } = true := by
   have h4 := (holds_andW hc).1
   rw [hn] at h4
   exact h4
  have h5 := condW_of h4 (w_not (w_lt w_lit (w_len_list (w_arg rfl))))
  rw [List.length_map] at h5
  refine Nat.le_of_not_lt fun q => ?_
  have q' : (n : Int) < ((ns.length : Nat) : Int) := by omega
  first
   | (rw [decide_eq_true q'] at h5; exact absurd h5 (by decide))
   | (simp at h5; omega)
 cases hwl with
 | cons w1 w2 =>
  cases w2
  cases w1 with
  | list ho hall => exact ⟨_, _, ns, rfl, rfl, ho, Zed ns _ hall, hlen⟩
theorem ZhJ (l : OpenLaw) (args : List WData) : l.row.toRowW.claim.post args (.bool true) args = true :=
 postW_of (r := l.row.toRowW) (X := (true == true))
  (show WShape.has [] (.bool true) .bool = true by first | rfl | decide | simp [WShape.has, WShape.arms, WShape.armsAll])
  (show (WTm.eq .res (.lit (.bool true))).value [] { args := args, res := some (.bool true), after := args } = some (.bool (true == true)) from w_eq_bool (w_res rfl) w_lit) rfl
theorem attach_call {l : OpenLaw} {n : Nat} {q : Program} {loose : List Str} {XP : (Str → Option Value) → Heap → Prop} {YP : World → Heap → Prop} {d : DefRec}
  (hn : l.most = some n) (hdf : d.params.defaults = [])
  (call : ∀ (w : World) (s₀ s₁ : Shared) (mg mb : Str → Option Value) (fa : Addr) (o : Obj) (pm cd doc : Value) (a : Addr) (vs : List Value) (ns : List Int),
   Ground q loose [] XP w s₀ mg mb s₁.heap → YP w s₁.heap →
   s₁.heap.get? fa = some o → o.data = .func (docDef d.name d.params d.body d.scope pm cd doc) → s₁.heap.CodeRec cd d.name → mg d.name = some (.ref fa) →
   s₁.heap.get? a = some { cls := .type "list", data := .seq vs.toArray } → IntsAre vs ns → ns.length ≤ n → s₁.gens = #[] →
   codeAny (model l.prog w) callerA (.call (.ref fa) ⟨[.ref a], []⟩) (fun r s' => r = .ok (.ret (.bool true)) ∧ OldK s₁.heap s'.heap ∧ s'.os = s₁.os ∧ AllBare s'.gens) s₁) :
  WalkO q loose XP YP l.row.toRowW d [] (fun f vs => PySem.call f vs) := by
 intro w s₀ s₁ mg mb G Y fa o pm cd doc dV kV ho hd hcd hD hmg hg args vals as hpre hlay hrd hwl hlo
 obtain rfl : dV = .none := Dflts.none hD hdf
 obtain rfl : kV = .none := Dflts.noKw hD
 obtain ⟨a, vs, ns, rfl, rfl, hobj, hints, hlen⟩ := Zht hn hpre hwl
 refine enter_call (codeAny_mono (call w s₀ s₁ mg mb fa o pm cd doc a vs ns G Y ho (fd_plain hd) hcd hmg hobj hints hlen hg) fun r s' hq => ?_)
 obtain ⟨rfl, h2, h3, h4⟩ := hq
 exact ⟨.inl ⟨.bool true, .bool true, [], rfl, fun _ => rfl, .bool true, ZhJ l _, fun _ => ⟨List.Pairwise.nil, fun _ hm => (nomatch hm)⟩⟩, h2, h3, h4⟩
section
variable {prog : Program} {w : World} {A : Around} {E : Value → Shared → Prop} {s : Shared} {K : Frag}
end
end Att
namespace L2
open PySem PySem.Spec PyProof.Rows
theorem Zfq : ∀ {vs : List Value} {ns : List Int}, IntsAre vs ns → Vals (ns.map V.int) vs
 | _, _, .nil => .nil
 | _, _, .cons n t h => .cons ⟨t, rfl⟩ (Zfq h)
def Only (H : Hp) : Prop := ∀ b, H b = none ∨ ∃ o xs, H b = some (.frz o (.lst xs))
theorem ZiW {P : Program} {w : World} {K : PySem.W.Frag} {mg mb : Str → Option Value} {CX : CXT} {k : Nat} {fa a : Addr} {fd : FuncData} {x : Str} {sp : Sp} {s₁ : Shared} {vs : List Value} {ns : List Int}
  (KX : K.In s₁.heap) (hns : s₁.heap.Ns mainGlobals mg) (hb : s₁.heap.Ns builtinsNs mb) (hbb : ∀ x : Str, x ≠ "__name__" → mb x = bootBuiltins x) (hlim : s₁.heap.NoLimit) (hg : s₁.gens = #[])
  (ha : s₁.heap.get? a = some { cls := .type "list", data := .seq vs.toArray }) (hi : IntsAre vs ns) (hl : ns.length ≤ sizeLine) (hr : Zcd k callerA)
  (F : ∀ base : Heap, K.In base → base.Ns mainGlobals mg → ZeN P w K mg base CX k fa fd [x] sp) (hbind : ∀ (s : Shared) (u : Value), BindsTo s fd ⟨[u], []⟩ [(x, u)])
  (hsp : ∀ H : Hp, Only H → SqL K H a (ns.map V.int) → sp [.ref a] H (fun v _ => v = .bl true) fun _ _ _ => False)
  (hCX : ∀ H e s', CX [] H s₁ (fun _ _ _ => False) e s' → False) :
  codeAny (model P w) callerA (.call (.ref fa) ⟨[.ref a], []⟩) (fun r s' => r = .ok (.ret (.bool true)) ∧ OldK s₁.heap s'.heap ∧ s'.os = s₁.os ∧ AllBare s'.gens) s₁ := by
 have rv := Zfq hi
 have lenV := hi.length
 have core : ∀ H : Hp, Only H → SqL K H a (ns.map V.int) → HOk P w H s₁.heap → (∀ b, H b ≠ none → b = a) → (H a ≠ none → K.lookup a = none) →
   codeAny (model P w) callerA (.call (.ref fa) ⟨[.ref a], []⟩) (fun r s' => r = .ok (.ret (.bool true)) ∧ OldK s₁.heap s'.heap ∧ s'.os = s₁.os ∧ AllBare s'.gens) s₁ := by
  intro H hO hS hok hA hK
  have base_of : ∀ {b : Addr} {o : Obj}, s₁.heap.get? b = some o → H b = none → (ZfL s₁.heap H).get? b = some o := fun e n => Zi7 e n
  have noA : ∀ {b : Addr} {o : Obj} {es : Array DictEntry} {ep : Nat}, s₁.heap.get? b = some o → o.data = .dict es ep → H b = none := fun {b o es ep} e d => by
   cases q : H b with
   | none => rfl
   | some u =>
    have e' : b = a := hA b (by rw [q]; simp)
    subst e'
    rw [ha] at e; cases e
    have d' : Data.seq vs.toArray _ = Data.dict es ep := d
    cases d'
  have nsK : ∀ {b : Addr} {m : Str → Option Value}, s₁.heap.Ns b m → (ZfL s₁.heap H).Ns b m := fun {b m} ⟨o, es, ep, e, d, r⟩ => ⟨o, es, ep, base_of e (noA e d), d, r⟩
  have hKb : K.In (ZfL s₁.heap H) := fun b o e => base_of (KX b o e) (by
   cases q : H b with
   | none => rfl
   | some u =>
    have e' : b = a := hA b (by rw [q]; simp)
    subst e'
    rw [hK (by rw [q]; simp)] at e; cases e)
  have hM : Mod K mg (ZfL s₁.heap H) := ⟨hKb, nsK hns, ⟨mb, nsK hb, hbb⟩, let ⟨mc, h1, h2⟩ := hlim; ⟨mc, nsK h1, h2⟩⟩
  have e0 : ZgP P w K mg (ZfL s₁.heap H) callerA [] s₁ H := ⟨rfl, hM, fun b o e => ZjU e, Nat.le_of_eq (ZhH _ _), trivial, fun b hb => absurd (show b ∈ ([] : List Addr) from hb) (by simp), hok, .of_eq hg⟩
  refine codeAny_mono ((F _ hKb (nsK hns)).run callerA [] s₁ H ⟨[.ref a], []⟩ [.ref a] [.ref a] _ _ hr e0 (hbind s₁ (.ref a)) (.cons rfl .nil) (hsp H hO hS)) fun r s' h => ?_
  cases r with
  | error e => exact (hCX H e s' h).elim
  | ok fl =>
   cases fl with
   | next => exact False.elim h
   | brk => exact False.elim h
   | cont => exact False.elim h
   | ret u =>
    obtain ⟨v, H', os, bare, un, hok', r', q⟩ := h
    have q' : v = .bl true := q
    subst q'
    obtain rfl : u = Value.bool true := r'
    refine ⟨rfl, OldK.of_keep fun b o e => ?_, os, bare⟩
    cases q : H b with
    | none => exact un.keep b o e q (by intro z; exact absurd (show b ∈ ([] : List Addr) from z) (by simp)) (by simp)
    | some u =>
     rcases hO b with z | ⟨ob, xs, z⟩
     ·rw [q] at z; cases z
     ·have z2 := un.frzs b ob _ z
      obtain ⟨e1, _⟩ := hok b _ z
      obtain ⟨e2, _⟩ := hok' b _ z2
      rw [e] at e1; cases e1
      exact e2
 cases hk : K.lookup a with
 | some o =>
  have e := KX a o hk
  rw [ha] at e
  cases e
  refine core (fun _ => none) (fun _ => .inl rfl) (.inr ⟨_, vs.toArray, _, hk, rfl, rfl, rfl, by rw [List.size_toArray, lenV]; exact hl, by simpa using rv⟩) (fun b u z => by have z' : (none : Option HO) = some u := z; cases z') (fun b z => absurd rfl z) fun z => absurd rfl z
 | none =>
  refine core (fun b => if b = a then some (.frz { cls := .type "list", data := .seq vs.toArray } (.lst (ns.map V.int))) else none) (fun b => ?_) (.inl (.inr ⟨{ cls := .type "list", data := .seq vs.toArray }, if_pos rfl⟩)) (fun b u z => ?_) (fun b z => ?_) fun _ => hk
  ·by_cases hb : b = a
   ·exact .inr ⟨_, _, if_pos hb⟩
   ·exact .inl (if_neg hb)
  ·by_cases hb : b = a
   ·have z' := (if_pos hb).symm.trans z
    cases z'
    subst hb
    exact ⟨ha, by rw [List.length_map]; exact hl, vs, _, rv, ha⟩
   ·have z' := (if_neg hb).symm.trans z
    cases z'
  ·by_cases hb : b = a
   ·exact hb
   ·exact absurd (if_neg hb) z
end L2
namespace L2
open PySem PySem.Spec PyProof.Rows
theorem Zg8 {l : PySem.W.OpenLaw} {n k : Nat} {q : Program} {loose : List Str} {XP : (Str → Option Value) → Heap → Prop} {YP : World → Heap → Prop} {d : DefRec} {K : Params → PySem.W.Frag} {CX : World → CXT} {sp : World → Sp} {x : Str}
  (hn : l.most = some n) (hn2 : n ≤ sizeLine) (hdf : d.params.defaults = []) (hr : Zcd k callerA)
  (hY : ∀ (w : World) (h : Heap), YP w h → (K w.params).In h)
  (F : ∀ (w : World) (mg : Str → Option Value) (fa : Addr) (h : Heap), (K w.params).In h → h.Ns mainGlobals mg → mg d.name = some (.ref fa) →
   ∃ fd : FuncData, (∀ (s : Shared) (u : Value), BindsTo s fd ⟨[u], []⟩ [(x, u)]) ∧
    ∀ base : Heap, (K w.params).In base → base.Ns mainGlobals mg → ZeN l.prog w (K w.params) mg base (CX w) k fa fd [x] (sp w))
  (hsp : ∀ (w : World) (H : Hp) (a : Addr) (ns : List Int), ns.length ≤ n → Only H → SqL (K w.params) H a (ns.map V.int) → sp w [.ref a] H (fun v _ => v = .bl true) fun _ _ _ => False)
  (hCX : ∀ (w : World) (H : Hp) (s : Shared) (e : Value) (s' : Shared), CX w [] H s (fun _ _ _ => False) e s' → False) :
  PySem.W.WalkO q loose XP YP l.row.toRowW d [] (fun f vs => PySem.call f vs) := by
 refine Att.attach_call hn hdf fun w s₀ s₁ mg mb fa o pm cd doc a vs ns G Y ho hd hcd hmg hobj hints hlen hg => ?_
 have KX := hY w _ Y
 obtain ⟨fd, hb, hF⟩ := F w mg fa _ KX G.T.g hmg
 exact ZiW KX G.T.g G.T.b G.T.builtins G.T.nolimit hg hobj hints (Nat.le_trans hlen hn2) hr hF hb (fun H hO hS => hsp w H a ns hlen hO hS) fun H e s' => hCX w H s₁ e s'
end L2
/- THE LAST THEOREM (shape; LID, My.* are yours):
  My.Adr: a structure of the addresses that your layer names (classes, functions); My.Txt K t: a structure (Prop) of the equations over K;
  My.txt_mk : {K} {implicit addresses ..} (e1 : nsIn K mainGlobals "law" = some (some (.ref f))) (e2 : K.lookup f = some ⟨oc, od, .func (fnOf "law" "law" params body scope dV kV doc pm an cdv ct), sl⟩) (e3 : codeIn K cdv "law" = true) .. : ∃ t, My.Txt K t
set_option maxRecDepth 100000 in
set_option maxHeartbeats 0 in
theorem PySem.Challenge.cw_LID_holds : PySem.Challenge.rw_LID.Holds := by
 w_on; o_law; k_head; (case hw => w_witness2)
 k_fill
 refine L2.Zg8 (l := PySem.Challenge.rw_LID) (n := 63) (k := 40) (x := "script") (CX := fun w => ..) (sp := fun _ => My.sp_law) rfl (by decide) rfl ⟨rfl, by decide, by decide⟩ (fun w h Y => PySem.W.kIn_of Y) ?F ?S ?C
 case F =>
  intro w mg fa h KX G hmg
  have T : ∃ t, My.Txt (L2.KOf KX) t := by
   dsimp only [L2.KOf]                          -- K must stand as «<heap const> w.params» for k_is
   refine' My.txt_mk ?e1 ?e2 ?e3 ..
   (case e1 => PySem.W.k_is)                    -- in the order: a name -> its address -> its object -> its parts
   (case e2 => PySem.W.k_is)
   ..
  obtain ⟨t, T⟩ := T
  have e0 := hmg.symm.trans (PySem.W.mg_of KX G T.law)
  cases e0                                       -- fa is the law's own address
  exact ⟨_, fun s u => .of_eq rfl, fun base kb nb => My.law_fn T kb nb⟩     -- if «.of_eq rfl» comes too early: refine' ⟨_, ?b, fun base kb nb => My.law_fn T kb nb⟩; exact fun s u => .of_eq rfl
 case S => exact fun w H a ns hl hO hS => ..
 case C => exact ..
(the tactic k_is has no namespace: write k_is) -/
namespace L2
open PySem PySem.Spec PyProof.Rows
def Zax (s : Stmt) : Arguments := match s with
 | .FunctionDef _ a _ _ _ _ _ _ _ _ => a
 | _ => { posonlyargs := [], args := [], vararg := none, kwonlyargs := [], kw_defaults := [], kwarg := none, defaults := [] }
def Zap (s : Stmt) : List Stmt := match s with
 | .FunctionDef _ _ b _ _ _ _ _ _ _ => b
 | _ => []
def Zr (s : Stmt) : Scope := match s with
 | .FunctionDef _ _ _ _ _ _ sc _ _ _ => sc
 | _ => { kind := .function, names := [], isGenerator := false, isCoroutine := false }
abbrev CX0 : CXT := fun _ _ _ _ _ _ => False
abbrev E0 : XK := fun _ _ _ => False
theorem Zmy {X : Cx} : Zgy CX0 X E0 := fun _ _ _ _ _ _ _ h => h.elim
structure Fun (K : PySem.W.Frag) (x qual : Str) (st : Stmt) (f : Addr) (fd : FuncData) : Prop where
 ex : ∃ (oc : Value) (od : Option Addr) (dV kV doc pm : Value) (an : Option Addr) (cdv ct : Value) (osl : Array (Option Value)),
  fd = PySem.W.fnOf x qual (Zax st) (Zap st) (Zr st) dV kV doc pm an cdv ct ∧ K.lookup f = some ⟨oc, od, .func fd, osl⟩ ∧ PySem.W.codeIn K cdv qual = true
 kp : PySem.W.keepIn K (.ref f) = true
section
variable {P : Program} {w : World} {K : PySem.W.Frag} {mg : Str → Option Value} {base : Heap}
theorem Fun.ok {x qual : Str} {st : Stmt} {f : Addr} {fd : FuncData} {N ps : List Str} {k : Nat} {sp : Sp} (F : Fun K x qual st f fd) (S : ZaA N ps (Zr st)) (len : ∀ vs H Q E, sp vs H Q E → vs.length = ps.length)
  (hbody : ∀ (cdv : Value) (A : Around) (outer : List Env) (s : Shared) (H : Hp) (vs : List V) (Q : VK) (E : XK), Zcd k (A.deeper (envOfC qual (Zr st) s.heap.objs.size f cdv)) → sp vs H Q E →
   ∃ t, PSs (Zgk CX0 P w K mg base N qual (Zr st) f cdv A outer s H E).nox (Zap st) t ∧ t { nx := fun _ H' => Q .non H', rt := Q } (start N vs) H) : ZeN P w K mg base CX0 (k + 1) f fd ps sp := by
 obtain ⟨oc, od, dV, kV, doc, pm, an, cdv, ct, osl, rfl, lk, hcd⟩ := F.ex
 refine Zmr lk hcd S len fun A outer s H vs Q E hr hsp => ?_
 obtain ⟨t, h, q⟩ := hbody cdv A outer s H vs Q E hr hsp
 exact ⟨t, h.nox, q⟩
theorem Fun.binds {x qual : Str} {st : Stmt} {f : Addr} {fd : FuncData} {ps : List Str} (F : Fun K x qual st f fd)
  (h : ∀ (dV kV doc pm : Value) (an : Option Addr) (cdv ct : Value) (us : List Value), us.length = ps.length → bindArgs (PySem.W.fnOf x qual (Zax st) (Zap st) (Zr st) dV kV doc pm an cdv ct) ⟨us, []⟩ = pure (ps.zip us)) : Binds K fd ps [] := by
 obtain ⟨oc, od, dV, kV, doc, pm, an, cdv, ct, osl, rfl, lk, hcd⟩ := F.ex
 exact .all (h dV kV doc pm an cdv ct)
theorem Ziu {x qual : Str} {st : Stmt} {f : Addr} {oc : Value} {od an : Option Addr} {osl : Array (Option Value)} {dV kV doc pm cdv ct : Value} (l : K.lookup f = some ⟨oc, od, .func (PySem.W.fnOf x qual (Zax st) (Zap st) (Zr st) dV kV doc pm an cdv ct), osl⟩)
  (c : PySem.W.codeIn K cdv qual = true) (k : PySem.W.keepIn K (.ref f) = true) : Fun K x qual st f (PySem.W.fnOf x qual (Zax st) (Zap st) (Zr st) dV kV doc pm an cdv ct) := ⟨⟨oc, od, dV, kV, doc, pm, an, cdv, ct, osl, rfl, l, c⟩, k⟩
end
section
variable {X : Cx}
end
def Zj0 (H H' : Hp) : Prop := ∀ b o, H b = some o → H' b = some o
theorem Zj0.free {H H' : Hp} (e : Zj0 H H') {l : Addr} (h : H' l = Option.none) : H l = Option.none := by
 cases q : H l with
 | none => rfl
 | some o =>
  rw [e l o q] at h
  cases h
theorem Zj0.seq {K : PySem.W.Frag} {H H' : Hp} {a : Addr} {xs : List V} (e : Zj0 H H') (h : SqL K H a xs) : SqL K H' a xs := by
 rcases h with (h | ⟨o, h⟩) | h
 ·exact .inl (.inl (e _ _ h))
 ·exact .inl (.inr ⟨o, e _ _ h⟩)
 ·exact .inr h
end L2
namespace L2
open PySem PySem.Spec PyProof.Rows
section
variable {κ : Type} [DecidableEq κ]
def Zdf (kvs : List (κ × V)) (k : κ) : Option V := (kvs.find? fun kv => decide (kv.1 = k)).map (·.2)
def putK (kvs : List (κ × V)) (k : κ) (v : V) : List (κ × V) :=
 if (kvs.any fun kv => decide (kv.1 = k)) = true then kvs.map (fun kv => if kv.1 = k then (kv.1, v) else kv) else kvs ++ [(k, v)]
theorem Zii {k : κ} : Zdf ([] : List (κ × V)) k = none := rfl
theorem Zes {p : κ × V} {r : List (κ × V)} {k : κ} (e : p.1 = k) : Zdf (p :: r) k = some p.2 := by simp [Zdf, List.find?_cons, e]
theorem ZeC {p : κ × V} {r : List (κ × V)} {k : κ} (e : ¬ p.1 = k) : Zdf (p :: r) k = Zdf r k := by simp [Zdf, List.find?_cons, e]
theorem Zga (kvs : List (κ × V)) (k : κ) (v : V) : (putK kvs k v).length ≤ kvs.length + 1 := by
 unfold putK
 split
 ·rw [List.length_map]; omega
 ·rw [List.length_append, List.length_cons, List.length_nil]; omega
theorem ZfN.getD {o : Option V} {u : Option Value} {d : V} {d' : Value} (r : ZfN o u) (rd : RelV d d') : RelV (o.getD d) (u.getD d') := by
 cases o with
 | none => cases u with
  | none => exact rd
  | some _ => exact (show False from r).elim
 | some _ => cases u with
  | none => exact (show False from r).elim
  | some _ => exact r
theorem KV.val {kvs : List (κ × V)} {vs : List (κ × Value)} (r : KV kvs vs) (k : κ) : ZfN (Zdf kvs k) (valueAt vs k) := by
 unfold KV at r
 induction r with
 | nil => exact True.intro
 | @cons p q ps qs h t ih =>
  obtain ⟨h1, h2⟩ := h
  by_cases e : p.1 = k
  ·have e' : q.1 = k := h1.symm.trans e
   have b : valueAt (q :: qs) k = some q.2 := by simp [valueAt, List.find?_cons, e']
   rw [Zes e, b]; exact h2
  ·have e' : ¬ q.1 = k := fun z => e (h1.trans z)
   have b : valueAt (q :: qs) k = valueAt qs k := by simp [valueAt, List.find?_cons, e']
   rw [ZeC e, b]; exact ih
theorem KV.any {kvs : List (κ × V)} {vs : List (κ × Value)} (r : KV kvs vs) (k : κ) : (kvs.any fun kv => decide (kv.1 = k)) = vs.any fun kv => decide (kv.1 = k) := by
 unfold KV at r
 induction r with
 | nil => rfl
 | cons h t ih => rw [List.any_cons, List.any_cons, ih, h.1]
theorem KV.repl {kvs : List (κ × V)} {vs : List (κ × Value)} (r : KV kvs vs) (k : κ) {y : V} {u : Value} (ry : RelV y u) :
  KV (kvs.map fun kv => if kv.1 = k then (kv.1, y) else kv) (vs.map fun kv => if kv.1 = k then (kv.1, u) else kv) := by
 unfold KV at r ⊢
 induction r with
 | nil => exact .nil
 | @cons p q ps qs h t ih =>
  rw [List.map_cons, List.map_cons]
  refine .cons ?_ ih
  obtain ⟨h1, h2⟩ := h
  by_cases e : p.1 = k
  ·rw [if_pos e, if_pos (h1.symm.trans e)]; exact ⟨h1, ry⟩
  ·rw [if_neg e, if_neg (fun z => e (h1.trans z))]; exact ⟨h1, h2⟩
theorem KV.put {kvs : List (κ × V)} {vs : List (κ × Value)} (r : KV kvs vs) (k : κ) {y : V} {u : Value} (ry : RelV y u) : KV (putK kvs k y) (stored vs k u) := by
 unfold putK stored
 rw [r.any k]
 by_cases e : (vs.any fun kv => decide (kv.1 = k)) = true
 ·rw [if_pos e, if_pos e]; exact r.repl k ry
 ·rw [if_neg e, if_neg e]; exact Paired.snoc r ⟨rfl, ry⟩
theorem KV.keys {kvs : List (κ × V)} {vs : List (κ × Value)} (r : KV kvs vs) : kvs.map (·.1) = vs.map (·.1) := by
 unfold KV at r
 induction r with
 | nil => rfl
 | cons h t ih => rw [List.map_cons, List.map_cons, ih, h.1]
theorem KV.length {kvs : List (κ × V)} {vs : List (κ × Value)} (r : KV kvs vs) : kvs.length = vs.length := Paired.length r
end
theorem Zix {P : Program} {w : World} {k : Key} {u : Value} (r : RelV (kV k) u) : (ZaM P w).is k u = true := by
 cases k with
 | inl i => obtain ⟨t, e⟩ := (show ∃ t, u = Value.int i t from r); subst e; exact Zgn P w i t
 | inr x => obtain ⟨t, e⟩ := (show ∃ t, u = Value.str x t from r); subst e; exact Zf6 P w x t
theorem Ze7 {P : Program} {w : World} : ∀ {ks : List Key} {us : List Value}, Vals (ks.map kV) us → ItemsAre (ZaM P w) ks us
 | [], _, r => by rw [List.map_nil] at r; cases r; exact .nil
 | k :: ks, _, r => by
  rw [List.map_cons] at r
  cases r with
  | cons h t => exact .cons (Zix h) (Ze7 t)
abbrev KT (H : Hp) : List (List Key × V) → List (List Key × Addr × Value) → Prop := Paired fun p q => p.1 = q.1 ∧ H q.2.1 = some (.tup (p.1.map kV)) ∧ RelV p.2 q.2.2
theorem KT.val {H : Hp} {kvs : List (List Key × V)} {xs : List (List Key × Addr × Value)} (r : KT H kvs xs) (k : List Key) : ZfN (Zdf kvs k) ((atKey xs k).map (·.2)) := by
 induction r with
 | nil => exact True.intro
 | @cons p q ps qs h t ih =>
  obtain ⟨h1, _, h2⟩ := h
  by_cases e : p.1 = k
  ·have e' : q.1 = k := h1.symm.trans e
   have b : atKey (q :: qs) k = some q.2 := by simp [atKey, List.find?_cons, e']
   rw [Zes e, b]; exact h2
  ·have e' : ¬ q.1 = k := fun z => e (h1.trans z)
   have b : atKey (q :: qs) k = atKey qs k := by simp [atKey, List.find?_cons, e']
   rw [ZeC e, b]; exact ih
theorem KT.keeps {H H' : Hp} {kvs : List (List Key × V)} {xs : List (List Key × Addr × Value)} (r : KT H kvs xs) (ht : ∀ b ys, H b = some (.tup ys) → H' b = some (.tup ys)) : KT H' kvs xs :=
 Paired.mapP r fun _ _ z => ⟨z.1, ht _ _ z.2.1, z.2.2⟩
section
variable {P : Program} {w : World} {H : Hp} {h : Heap} {a : Addr}
theorem Zkp {u : HO} (ok : HOk P w H h) (e : Rd H a u) : Zba P w H h a u := e.ok ok
theorem Zis {kvs : List (Key × V)} (ok : HOk P w H h) (e : Rd H a (.dK kvs)) : kvs.length ≤ sizeLine ∧ (a == sysModules) = false ∧ ∃ vs, KV kvs vs ∧ h.DictOf (ZaM P w) a vs :=
 show Zba P w H h a (.dK kvs) from Zkp ok e
theorem Zh7 {ks : List Key} (ok : HOk P w H h) (e : H a = some (.tup (ks.map kV))) : (tupleKind (ZaM P w)).is h ks a := by
 obtain ⟨_, its, r, o, h1, h2, n, h3⟩ := (show Zba P w H h a (.tup (ks.map kV)) from ok a _ e)
 exact ⟨o, its.toArray, n, h1, h2.1, h3, by simpa using Ze7 r⟩
theorem Zkb {kvs : List (List Key × V)} (ok : HOk P w H h) (e : Rd H a (.dT kvs)) : kvs.length ≤ sizeLine ∧ (a == sysModules) = false ∧
  ∃ xs, KT H kvs xs ∧ h.DictOfH (tupleKind (ZaM P w)) a xs := by
 obtain ⟨z, y, xs, r, o, es, ep, h1, h2, h3, h4, h5⟩ := (show Zba P w H h a (.dT kvs) from Zkp ok e)
 refine ⟨z, y, xs, r, o, es, ep, h1, h2, h3, h4, fun x hx => ?_, h5⟩
 have all : ∀ {l : List (List Key × V)} {m : List (List Key × Addr × Value)}, KT H l m → ∀ x ∈ m, (tupleKind (ZaM P w)).is h x.1 x.2.1 := by
  intro l m q
  induction q with
  | nil => intro x hx; exact nomatch hx
  | @cons p q ps qs hq t ih =>
   intro x hx
   rcases List.mem_cons.mp hx with e | hx
   ·subst e
    exact Zh7 ok (by rw [← hq.1]; exact hq.2.1)
   ·exact ih x hx
 exact all r x hx
end
def Zhy (H : Hp) (a : Addr) (y : V) (r : Option V) : Prop :=
 (∃ kvs k, Rd H a (.dK kvs) ∧ y = kV k ∧ r = Zdf kvs k) ∨ ∃ kvs k b, Rd H a (.dT kvs) ∧ y = .ref b ∧ H b = some (.tup (k.map kV)) ∧ r = Zdf kvs k
def ZjE (H : Hp) (a : Addr) (y v : V) (H' : Hp) : Prop :=
 (∃ kvs k, H a = some (.dK kvs) ∧ y = kV k ∧ kvs.length < sizeLine ∧ H' = upd H a (.dK (putK kvs k v))) ∨
 ∃ kvs k b, H a = some (.dT kvs) ∧ y = .ref b ∧ H b = some (.tup (k.map kV)) ∧ kvs.length < sizeLine ∧ H' = upd H a (.dT (putK kvs k v))
theorem Zhy.k {H : Hp} {a : Addr} {kvs : List (Key × V)} {k : Key} (e : H a = some (.dK kvs)) : Zhy H a (kV k) (Zdf kvs k) := .inl ⟨kvs, k, .inl e, rfl, rfl⟩
theorem Zhy.t {H : Hp} {a b : Addr} {kvs : List (List Key × V)} {k : List Key} (e : H a = some (.dT kvs)) (eb : H b = some (.tup (k.map kV))) : Zhy H a (.ref b) (Zdf kvs k) := .inr ⟨kvs, k, b, .inl e, rfl, eb, rfl⟩
theorem ZjE.k {H : Hp} {a : Addr} {kvs : List (Key × V)} {k : Key} {v : V} (e : H a = some (.dK kvs)) (hl : kvs.length < sizeLine) : ZjE H a (kV k) v (upd H a (.dK (putK kvs k v))) := .inl ⟨kvs, k, e, rfl, hl, rfl⟩
theorem ZjE.t {H : Hp} {a b : Addr} {kvs : List (List Key × V)} {k : List Key} {v : V} (e : H a = some (.dT kvs)) (eb : H b = some (.tup (k.map kV))) (hl : kvs.length < sizeLine) :
  ZjE H a (.ref b) v (upd H a (.dT (putK kvs k v))) := .inr ⟨kvs, k, b, e, rfl, eb, hl, rfl⟩
section
variable {X : Cx} {pins : List (Addr × Obj)} {σ : St} {H : Hp} {s : Shared} {a : Addr} {y v : V} {u r : Value} {o : Option V} {A : Around} {E : Value → Shared → Prop}
theorem Inv.big (I : Inv X pins σ H s) : sysModules < s.heap.objs.size := by
 have h : mainGlobals < s.heap.objs.size := (I.mod.glob.keeps I.bk).lt
 exact Nat.lt_trans (by decide) h
theorem Zik {P : Program} {w : World} {H' : Hp} {h' : Heap} {kvs : List (Key × V)} {vs : List (Key × Value)} (z : kvs.length ≤ sizeLine) (hd : (a == sysModules) = false) (rel : KV kvs vs) (dd : h'.DictOf (ZaM P w) a vs) :
  Zba P w H' h' a (.dK kvs) := ⟨z, hd, vs, rel, dd⟩
end
section
variable {X : Cx} {pins : List (Addr × Obj)} {σ : St} {H : Hp} {s : Shared} {a : Addr} {kvs : List (Key × V)} {k : Key} {u : Value} {A : Around} {E : Value → Shared → Prop}
end
section
variable {X : Cx} {o i e value : Expr} {pos pos' tpos : Pos} {td ty tv : TE}
end
section
variable {X : Cx} {pos : Pos}
end
def Zeq (kvs more : List (Key × V)) : List (Key × V) := more.foldl (fun acc kv => putK acc kv.1 kv.2) kvs
theorem KV.merge : ∀ {more : List (Key × V)} {rs : List (Key × Value)} {kvs : List (Key × V)} {vs : List (Key × Value)}, KV more rs → KV kvs vs → KV (Zeq kvs more) (merged vs rs) := by
 intro more rs kvs vs r
 unfold KV at r
 induction r generalizing kvs vs with
 | nil => intro q; exact q
 | @cons p q ps qs h t ih =>
  intro r0
  have e : KV (putK kvs p.1 p.2) (stored vs q.1 q.2) := by
   have := r0.put p.1 h.2
   rw [← h.1]; exact this
  exact ih e
theorem Zdk : ∀ (more kvs : List (Key × V)), (Zeq kvs more).length ≤ kvs.length + more.length
 | [], kvs => by show kvs.length ≤ kvs.length + 0; omega
 | p :: r, kvs => by
  have h1 := Zdk r (putK kvs p.1 p.2)
  have h2 := Zga kvs p.1 p.2
  show (Zeq (putK kvs p.1 p.2) r).length ≤ _
  rw [List.length_cons]; omega
structure M1 (X : Cx) (o : Expr) (m : Str) (apos : Pos) (e : Expr) (cpos : Pos) : Prop where
 base : attributeBase o m X.env (eval o X.env) = eval o X.env
 few : ((backTo cpos (starEach [e] X.env)).all (fun x => !x.1) && (backToKw cpos (keywordEach [] X.env)).all (fun x => x.1.isSome)
  && decide (([e] : List Expr).length + ([] : List Keyword).length + (if ([] : List Keyword).isEmpty then 0 else 1) < 30)) = true
 line : (apos.endLine == cpos.line) = true
 trees : backTo cpos (starEach [e] X.env) = [(false, eval e X.env)]
structure M2 (X : Cx) (o : Expr) (m : Str) (apos : Pos) (e f : Expr) (cpos : Pos) : Prop where
 base : attributeBase o m X.env (eval o X.env) = eval o X.env
 few : ((backTo cpos (starEach [e, f] X.env)).all (fun x => !x.1) && (backToKw cpos (keywordEach [] X.env)).all (fun x => x.1.isSome)
  && decide (([e, f] : List Expr).length + ([] : List Keyword).length + (if ([] : List Keyword).isEmpty then 0 else 1) < 30)) = true
 line : (apos.endLine == cpos.line) = true
 trees : backTo cpos (starEach [e, f] X.env) = [(false, eval e X.env), (false, eval f X.env)]
def IsD (H : Hp) (a : Addr) : Prop := (∃ kvs, Rd H a (.dK kvs)) ∨ ∃ kvs, Rd H a (.dT kvs)
theorem Zlq {X : Cx} {pins : List (Addr × Obj)} {σ : St} {H : Hp} {s : Shared} {a : Addr} (I : Inv X pins σ H s) (d : IsD H a) :
  s.TypeIs (.ref a) "dict" ∧ (∀ b, Value.ref a = .ref b → ∃ ob, s.heap.get? b = some ob ∧ ob.dict = none) ∧ (a == sysModules) = false := by
 rcases d with ⟨kvs, e⟩ | ⟨kvs, e⟩
 ·obtain ⟨_, hd, vs, _, dd⟩ := Zis I.hok e
  refine ⟨dd.typeIs, fun b q => ?_, hd⟩
  cases q
  obtain ⟨ob, _, _, h1, h2, _⟩ := dd
  exact ⟨ob, h1, h2.2.1⟩
 ·obtain ⟨_, hd, xs, _, dd⟩ := Zkb I.hok e
  refine ⟨dd.typeIs, fun b q => ?_, hd⟩
  cases q
  obtain ⟨ob, _, _, h1, h2, _⟩ := dd
  exact ⟨ob, h1, h2.2.1⟩
section
variable {X : Cx} {pins : List (Addr × Obj)} {σ : St} {H : Hp} {s : Shared} {a : Addr} {y d : V} {u r : Value} {o : Option V} {A : Around} {E : Value → Shared → Prop}
theorem ZkY {Q : Value → Shared → Prop} (hu : A.units + 1 < cLine) (I : Inv X pins σ H s) (g : Zhy H a y o) (ry : RelV y u) (rd : RelV d r) (h : ∀ w' s', Inv X pins σ H s' → RelV (o.getD d) w' → Q w' s') :
  wpAny (model X.prog X.w) A (call (.builtin "dict.get") [.ref a, u, r]) Q E s := by
 rcases g with ⟨kvs, k, e, ey, l⟩ | ⟨kvs, k, b, e, ey, eb, l⟩
 ·subst ey
  obtain ⟨z, hd, vs, rel, dd⟩ := Zis I.hok e
  refine call_meetsIn PySem.F.slot_dict_get dd.typeIs PySem.F.entry_dict_get (PySem.F.args_dict_get_3 _ _ _) (meets_dict_get_default (ZaM X.prog X.w) a (Zix ry) hd r) ⟨_, dd.mapOf, h _ _ (I.tok _) ?_⟩
  rw [l]
  exact (rel.val k).getD rd
 ·subst ey
  cases (show u = Value.ref b from ry)
  obtain ⟨z, hd, xs, rel, dd⟩ := Zkb I.hok e
  refine call_meetsIn PySem.F.slot_dict_get dd.typeIs PySem.F.entry_dict_get (PySem.F.args_dict_get_3 _ _ _) (meetsH_dict_get_default (tupleKind (ZaM X.prog X.w)) a b hd r) ⟨tupleKind_room_in1 hu, k, xs, Zh7 I.hok eb, dd, h _ _ (I.tok _) ?_⟩
  rw [l]
  exact (rel.val k).getD rd
end
def Zk7 (td ty tx : TE) : TE := fun σ H Q => td σ H fun x H1 => ∃ a, x = .ref a ∧ IsD H1 a ∧ ty σ H1 fun y H2 => tx σ H2 fun z H3 => ∃ o, Zhy H3 a y o ∧ Q (o.getD z) H3
section
variable {X : Cx} {o e f : Expr} {apos cpos : Pos} {td ty tx : TE}
theorem Zit (hu : X.A.units + 1 < cLine) (ho : PE X o td) (he : PE X e ty) (hf : PE X f tx) (m : M2 X o "get" apos e f cpos) : PE X (.Call (.Attribute o "get" apos) [e, f] [] cpos) (Zk7 td ty tx) := by
 intro pins s σ H Q I h
 refine wpAny_Call_method m.base m.few m.line PySem.F.plainAttrs_dict PySem.F.slot_dict_get PySem.F.type_dict_get (thn (ho pins s σ H _ I h) fun u s1 ⟨x, H1, I1, rx, a, ex, d, q1⟩ => ?_)
 subst ex
 obtain rfl : u = Value.ref a := rx
 obtain ⟨t1, t2, _⟩ := Zlq I1 d
 refine ⟨t1, t2, ?_⟩
 rw [m.trees]
 refine Calls.callWith_builtin rfl (Calls.evalArgs_plain (Calls.spliced_cons (thn (he pins s1 σ H1 _ I1 q1) fun iv s2 ⟨y, H2, I2, ry, q2⟩ =>
  Calls.spliced_cons (thn (hf pins s2 σ H2 _ I2 q2) fun fv s3 ⟨z, H3, I3, rz, ov, g, q3⟩ => Calls.spliced_nil ?_))))
 exact ZkY hu I3 g ry rz fun w' s4 I4 rw' => ⟨_, H3, I4, rw', q3⟩
end
section
variable {X : Cx} {pins : List (Addr × Obj)} {σ : St} {H : Hp} {s : Shared} {a : Addr} {kvs : List (Key × V)} {A : Around} {E : Value → Shared → Prop}
theorem Zi5 {Q : Value → Shared → Prop} (I : Inv X pins σ H s) (e : Rd H a (.dK kvs)) (h : ∀ p s', H p = none → Inv X pins σ (upd H p (.dK kvs)) s' → Q (.ref p) s') : wpAny (model X.prog X.w) A (call (.type "dict") [.ref a]) Q E s := by
 obtain ⟨z, hd, vs, rel, dd⟩ := Zis I.hok e
 refine kt_call_dict hd dd (by rw [← rel.length]; exact z) fun h' dd' hs => ?_
 refine h _ _ (I.hok.fresh (Nat.le_refl _)) (I.laid (a := s.heap.objs.size) (o := .dK kvs) (t' := s.toks) (fun b q hq => ?_) (Nat.le_refl _) (Zik z (beq_eq_false_iff_ne.mpr (Ne.symm (Nat.ne_of_lt I.big))) rel dd'))
 exact (hs.2 b (Nat.ne_of_lt (Heap.lt_size hq))).trans (Heap.get?_push_of_some _ hq)
end
section
variable {X : Cx} {pins : List (Addr × Obj)} {σ : St} {H : Hp} {s : Shared} {a : Addr} {y : V} {u : Value} {A : Around} {E : Value → Shared → Prop}
end
end L2
namespace L3
open PySem
noncomputable section
inductive D where
 | non | bl (b : Bool) | int (i : Int) | str (x : List Nat) | tup (ds : List D) | scr (ds : List D) | ref (n : Nat)
 deriving Inhabited
abbrev ZaZ := Sum Int (List Nat)
inductive MO where
 | lst (xs : List D) | dct (kvs : List (ZaZ × D)) | fdct (kvs : List (ZaZ × D))
 deriving Inhabited
abbrev Store := List MO
structure X3 where
 cls : List Nat
 arg : D
inductive R3 (α : Type) where
 | ok (a : α) (M : Store) | exc (x : X3) (M : Store) | bad
@[simp] def R3.bind {α β : Type} (r : R3 α) (k : α → Store → R3 β) : R3 β := match r with
 | .ok a M => k a M
 | .exc x M => .exc x M
 | .bad => .bad
def Zar : Nat → D → Bool
 | _, .non => true | _, .bl _ => true | _, .int _ => true | _, .str _ => true
 | n + 1, .tup ds => ds.all (Zar n)
 | _, _ => false
abbrev DEEP : Nat := 60
mutual
def deq : D → D → Bool
 | .non, .non => true
 | .bl a, .bl b => a == b
 | .int a, .int b => a == b
 | .str a, .str b => a == b
 | .tup a, .tup b => Zbv a b
 | .bl a, .int b => (if a then 1 else 0) == b
 | .int a, .bl b => a == (if b then 1 else 0)
 | _, _ => false
def Zbv : List D → List D → Bool
 | [], [] => true
 | a :: x, b :: y => deq a b && Zbv x y
 | _, _ => false
end
mutual
def below (n : Nat) : D → Bool
 | .tup ds => belowL n ds
 | .scr ds => belowL n ds
 | .ref k => k < n
 | .non => true | .bl _ => true | .int _ => true | .str _ => true
def belowL (n : Nat) : List D → Bool
 | [] => true
 | d :: ds => below n d && belowL n ds
end
mutual
def same : D → D → Bool
 | .non, .non => true
 | .bl a, .bl b => a == b
 | .int a, .int b => a == b
 | .str a, .str b => a == b
 | .tup a, .tup b => ZeM a b
 | .scr a, .scr b => ZeM a b
 | .ref a, .ref b => a == b
 | _, _ => false
def ZeM : List D → List D → Bool
 | [], [] => true
 | a :: x, b :: y => same a b && ZeM x y
 | _, _ => false
end
mutual
theorem same_iff : ∀ {a b : D}, same a b = true ↔ a = b
 | .non, b => by cases b <;> simp [same]
 | .bl a, b => by cases b <;> simp [same]
 | .int a, b => by cases b <;> simp [same]
 | .str a, b => by cases b <;> simp [same]
 | .tup a, b => by cases b <;> simp [same, ZdW (x := a)]
 | .scr a, b => by cases b <;> simp [same, ZdW (x := a)]
 | .ref a, b => by cases b <;> simp [same]
theorem ZdW : ∀ {x y : List D}, ZeM x y = true ↔ x = y
 | [], y => by cases y <;> simp [ZeM]
 | a :: x, y => by
  cases y with
  | nil => simp [ZeM]
  | cons b y => simp [ZeM, same_iff (a := a), ZdW (x := x)]
end
instance : DecidableEq D := fun a b => decidable_of_iff (same a b = true) same_iff
instance : DecidableEq MO := fun a b => match a, b with
 | .lst x, .lst y => if h : x = y then isTrue (by rw [h]) else isFalse (by intro e; cases e; exact h rfl)
 | .dct x, .dct y => if h : x = y then isTrue (by rw [h]) else isFalse (by intro e; cases e; exact h rfl)
 | .fdct x, .fdct y => if h : x = y then isTrue (by rw [h]) else isFalse (by intro e; cases e; exact h rfl)
 | .lst _, .dct _ => isFalse (by intro e; cases e)
 | .lst _, .fdct _ => isFalse (by intro e; cases e)
 | .dct _, .lst _ => isFalse (by intro e; cases e)
 | .dct _, .fdct _ => isFalse (by intro e; cases e)
 | .fdct _, .lst _ => isFalse (by intro e; cases e)
 | .fdct _, .dct _ => isFalse (by intro e; cases e)
@[simp] abbrev SZ : Nat := 1000000
abbrev ZaD := List (Option D)
abbrev E3 := ZaD → Store → R3 D
abbrev EL3 := ZaD → Store → R3 (List D)
abbrev F3 := List D → Store → R3 D
inductive O3 where
 | nx (env : ZaD) (M : Store) | rt (d : D) (M : Store) | bk (env : ZaD) (M : Store) | ct (env : ZaD) (M : Store) | exc (x : X3) (M : Store) | bad
abbrev S3 := ZaD → Store → O3
@[simp] def Zb (i : Nat) : E3 := fun env M => match env[i]? with
 | some (some d) => .ok d M
 | _ => .bad
@[simp] def eC (d : D) : E3 := fun _ M => .ok d M
@[simp] def e1 (op : D → Store → R3 D) (f : E3) : E3 := fun env M => (f env M).bind op
@[simp] def e2 (op : D → D → Store → R3 D) (f g : E3) : E3 := fun env M => (f env M).bind fun a M1 => (g env M1).bind fun b M2 => op a b M2
@[simp] def Zj : EL3 := fun _ M => .ok [] M
@[simp] def Za (f : E3) (g : EL3) : EL3 := fun env M => (f env M).bind fun a M1 => (g env M1).bind fun b M2 => .ok (a :: b) M2
@[simp] def alloc (o : MO) (M : Store) : R3 D := .ok (.ref M.length) (M ++ [o])
section
local instance (priority := 100000) clP1 (p : Prop) : Decidable p := Classical.propDecidable p
@[simp] def Za4 (g : EL3) : E3 := fun env M => (g env M).bind fun ds M1 => if ds.length ≤ SZ then .ok (.tup ds) M1 else .bad
end
section
local instance (priority := 100000) clP2 (p : Prop) : Decidable p := Classical.propDecidable p
@[simp] def Zb9 (g : EL3) : E3 := fun env M => (g env M).bind fun ds M1 => if ds.length ≤ SZ then alloc (.lst ds) M1 else .bad
end
@[simp] def Zc9 (f g : E3) : E3 := fun env M => (f env M).bind fun a M1 => match a with
 | .bl true => g env M1
 | .bl false => .ok (.bl false) M1
 | _ => .bad
@[simp] def eOr (f g : E3) : E3 := fun env M => (f env M).bind fun a M1 => match a with
 | .bl false => g env M1
 | .bl true => .ok (.bl true) M1
 | _ => .bad
@[simp] def ZcI (a : D) (M : Store) : R3 D := match a with
 | .bl b => .ok (.bl (!b)) M
 | _ => .bad
@[simp] def eIf (c f g : E3) : E3 := fun env M => (c env M).bind fun a M1 => match a with
 | .bl true => f env M1
 | .bl false => g env M1
 | _ => .bad
@[simp] def Zw (F : F3) (g : EL3) : E3 := fun env M => (g env M).bind fun ds M1 => F ds M1
section
local instance (priority := 100000) clP3 (p : Prop) : Decidable p := Classical.propDecidable p
@[simp] def Zx (a b : D) (M : Store) : R3 D := match a, b with
 | .int i, .int j => .ok (.int (i + j)) M
 | .str x, .str y => if x.length + y.length ≤ SZ then .ok (.str (x ++ y)) M else .bad
 | .tup x, .tup y => if x.length + y.length ≤ SZ then .ok (.tup (x ++ y)) M else .bad
 | .ref n, .ref m => match M[n]?, M[m]? with
  | some (.lst x), some (.lst y) => if x.length + y.length ≤ SZ then alloc (.lst (x ++ y)) M else .bad
  | _, _ => .bad
 | _, _ => .bad
end
@[simp] def Zce (a b : D) (M : Store) : R3 D := match a, b with
 | .int i, .int j => .ok (.int (i - j)) M
 | _, _ => .bad
section
local instance (priority := 100000) clP4 (p : Prop) : Decidable p := Classical.propDecidable p
def Zbg (i j : Int) : Bool := (decide (-(2 ^ 64) < i) && decide (i < 2 ^ 64)) || (decide (-(2 ^ 64) < j) && decide (j < 2 ^ 64))
end
section
local instance (priority := 100000) clP5 (p : Prop) : Decidable p := Classical.propDecidable p
@[simp] def ZeO (a b : D) (M : Store) : R3 D := match a, b with
 | .int i, .int j => if Zbg i j then .ok (.int (i * j)) M else .bad
 | .str x, .int k => if x.length * k.toNat ≤ SZ ∧ k < 1000000 ∧ -1000000 < k then .ok (.str (List.replicate k.toNat x).flatten) M else .bad
 | .ref n, .int k => match M[n]? with
  | some (.lst x) => if x.length * k.toNat ≤ SZ ∧ k < 1000000 ∧ -1000000 < k then alloc (.lst (List.replicate k.toNat x).flatten) M else .bad
  | _ => .bad
 | _, _ => .bad
end
@[simp] def Zan (a b : D) (M : Store) : R3 D := match a, b with
 | .int i, .int j => if 0 < j then .ok (.int (i % j)) M else .bad
 | _, _ => .bad
section
local instance (priority := 100000) clP6 (p : Prop) : Decidable p := Classical.propDecidable p
@[simp] def Zaz (a b : D) (M : Store) : R3 D := match a, b with
 | .int i, .int j => if 0 < j ∧ j < 1073741824 then .ok (.int (i / j)) M else .bad
 | _, _ => .bad
end
@[simp] def Zdm (a b : D) (M : Store) : R3 D := match a, b with
 | .int i, .int j => if 0 ≤ j ∧ j ≤ 1000 ∧ i.natAbs < 1000 then .ok (.int (i ^ j.toNat)) M else .bad
 | _, _ => .bad
@[simp] def Zc2 (a : D) (M : Store) : R3 D := match a with
 | .int i => .ok (.int (-i)) M
 | _ => .bad
@[simp] def ZhM (a b : D) (M : Store) : R3 D := match a, b with
 | .int i, .int j => .ok (.bl (decide (i < j))) M
 | _, _ => .bad
@[simp] def Ziv (a b : D) (M : Store) : R3 D := match a, b with
 | .int i, .int j => .ok (.bl (decide (i ≤ j))) M
 | _, _ => .bad
@[simp] def ZgU (a b : D) (M : Store) : R3 D := match a, b with
 | .int i, .int j => .ok (.bl (decide (j < i))) M
 | _, _ => .bad
@[simp] def ZkK (a b : D) (M : Store) : R3 D := match a, b with
 | .int i, .int j => .ok (.bl (decide (j ≤ i))) M
 | _, _ => .bad
@[simp] def eqD (a b : D) (M : Store) : Option Bool := match a, b with
 | .ref n, .ref m => match M[n]?, M[m]? with
  | some (.lst x), some (.lst y) => if x.all (Zar DEEP) && y.all (Zar DEEP) then some (Zbv x y) else none
  | _, _ => none
 | .int i, .int j => some (decide (i = j))
 | .str x, .str y => some (decide (x = y))
 | .bl x, .bl y => some (decide (x = y))
 | .tup x, .tup y => if x.all (Zar DEEP) && y.all (Zar DEEP) then some (Zbv x y) else none
 | _, _ => none
@[simp] def ZaU (a b : D) (M : Store) : R3 D := match eqD a b M with
 | some r => .ok (.bl r) M
 | none => .bad
@[simp] def Zh8 (a b : D) (M : Store) : R3 D := match eqD a b M with
 | some r => .ok (.bl (!r)) M
 | none => .bad
@[simp] def ZjA (a b : D) (M : Store) : R3 D := match b with
 | .non => .ok (.bl (decide (a = .non))) M
 | _ => .bad
@[simp] def Zg4 (a b : D) (M : Store) : R3 D := match b with
 | .non => .ok (.bl (!decide (a = .non))) M
 | _ => .bad
def Zac : D → Bool
 | .non => true | .bl _ => true | .int _ => true | .str _ => true | _ => false
@[simp] def inD (a b : D) : Option Bool := match a, b with
 | .str [c], .str y => some (decide (c ∈ y))
 | x, .tup ys => if Zac x && ys.all Zac then some (ys.any fun y => deq y x) else none
 | _, _ => none
@[simp] def Zl0 (a b : D) (M : Store) : R3 D := match inD a b with
 | some r => .ok (.bl r) M
 | none => .bad
@[simp] def ZmO (a b : D) (M : Store) : R3 D := match inD a b with
 | some r => .ok (.bl (!r)) M
 | none => .bad
def ixD (n : Nat) (i : Int) : Option Nat := if 0 ≤ i then (if i < n then some i.toNat else none) else if -(n : Int) ≤ i then some (i + n).toNat else none
def ZaP {α : Type} (xs : List α) (i : Int) : Option α := (ixD xs.length i).bind fun j => xs[j]?
@[simp] def Zd9 : D → Option ZaZ
 | .int i => some (.inl i)
 | .str x => some (.inr x)
 | _ => none
def ZbU : List (ZaZ × D) → ZaZ → Option D
 | [], _ => none
 | (k, v) :: r, x => if k = x then some v else ZbU r x
section
local instance (priority := 100000) clP7 (p : Prop) : Decidable p := Classical.propDecidable p
@[simp] def Zo (a b : D) (M : Store) : R3 D := match a, b with
 | .tup ds, .int i => match ZaP ds i with
  | some d => .ok d M
  | none => .bad
 | .scr ds, .int i => match ZaP ds i with
  | some d => .ok d M
  | none => .bad
 | .str x, .int i => match ZaP x i with
  | some c => if x.length ≤ SZ then .ok (.str [c]) M else .bad
  | none => .bad
 | .ref n, .int i => match M[n]? with
  | some (.lst ds) => match ZaP ds i with
   | some d => .ok d M
   | none => .bad
  | _ => .bad
 | _, _ => .bad
end
@[simp] def ZcX : Option MO → Option (List (ZaZ × D))
 | some (.dct kvs) => some kvs
 | some (.fdct kvs) => some kvs
 | _ => none
@[simp] def ZnF (a b : D) (M : Store) : R3 D := match a with
 | .ref n => match ZcX M[n]?, Zd9 b with
  | some kvs, some x => match ZbU kvs x with
   | some d => .ok d M
   | none => .bad
  | _, _ => .bad
 | _ => .bad
def sIx (n d : Nat) : Option Int → Nat
 | none => d
 | some v => if v < 0 then (v + (n : Int)).toNat else min v.toNat n
def cutD {α : Type} (xs : List α) (lo hi : Option Int) : List α := (xs.drop (sIx xs.length 0 lo)).take (sIx xs.length xs.length hi - sIx xs.length 0 lo)
abbrev EO3 := ZaD → Store → R3 (Option Int)
@[simp] def ZaB : EO3 := fun _ M => .ok none M
@[simp] def ZaC (f : E3) : EO3 := fun env M => (f env M).bind fun a M1 => match a with
 | .int i => .ok (some i) M1
 | _ => .bad
section
local instance (priority := 100000) clP8 (p : Prop) : Decidable p := Classical.propDecidable p
@[simp] def Zeb (a : D) (lo hi : Option Int) (M : Store) : R3 D := match a with
 | .tup ds => .ok (.tup (cutD ds lo hi)) M
 | .scr ds => alloc (.lst (cutD ds lo hi)) M
 | .str x => if x.length ≤ SZ then .ok (.str (cutD x lo hi)) M else .bad
 | .ref n => match M[n]? with
  | some (.lst ds) => alloc (.lst (cutD ds lo hi)) M
  | _ => .bad
 | _ => .bad
end
@[simp] def eSl (f : E3) (lo hi : EO3) : E3 := fun env M => (f env M).bind fun a M1 => (lo env M1).bind fun l M2 => (hi env M2).bind fun h M3 => Zeb a l h M3
section
local instance (priority := 100000) clP9 (p : Prop) : Decidable p := Classical.propDecidable p
@[simp] def Zbe (ds : List D) (M : Store) : R3 D := match ds with
 | [.tup x] => .ok (.int x.length) M
 | [.scr x] => .ok (.int x.length) M
 | [.str x] => if x.length ≤ SZ then .ok (.int x.length) M else .bad
 | [.ref n] => match M[n]? with
  | some (.lst x) => .ok (.int x.length) M
  | _ => .bad
 | _ => .bad
end
@[simp] def ZbL (ds : List D) (M : Store) : R3 D := match ds with
 | [.tup x] => .ok (.tup x) M
 | [.scr x] => .ok (.tup x) M
 | [.ref n] => match M[n]? with
  | some (.lst x) => .ok (.tup x) M
  | _ => .bad
 | _ => .bad
@[simp] def ZnN (ds : List D) (M : Store) : R3 D := match ds with
 | [.tup x] => alloc (.lst x) M
 | [.scr x] => alloc (.lst x) M
 | [.ref n] => match M[n]? with
  | some (.lst x) => alloc (.lst x) M
  | _ => .bad
 | _ => .bad
inductive Ty3 where
 | int | bool | str | list | tuple
 deriving DecidableEq
@[simp] def Zd8 (T : Ty3) (d : D) (M : Store) : Option Bool := match d with
 | .non => some false
 | .bl _ => some (T == .bool || T == .int)
 | .int _ => some (T == .int)
 | .str _ => some (T == .str)
 | .tup _ => some (T == .tuple)
 | .scr _ => none
 | .ref n => match M[n]? with
  | some (.lst _) => some (T == .list)
  | some (.dct _) => some false
  | some (.fdct _) => none
  | none => none
@[simp] def ZeF (T : Ty3) (d : D) (M : Store) : R3 D := match Zd8 T d M with
 | some b => .ok (.bl b) M
 | none => .bad
def isB : D → Bool
 | .bl _ => true
 | _ => false
def isT : D → Bool
 | .bl b => b
 | _ => false
def allB (l : List D) : Option Bool := if l.all isB then some (l.all isT) else none
@[simp] def Zn9 (ds : List D) (M : Store) : R3 D := match ds with
 | [.ref n] => match M[n]? with
  | some (.lst x) => match allB x with
   | some b => .ok (.bl b) M
   | none => .bad
  | _ => .bad
 | _ => .bad
@[simp] def Zkc (o : D) (ds : List D) (M : Store) : R3 D := match o, ds with
 | .str x, [.str y] => if x.length ≤ SZ ∧ y.length ≤ SZ then .ok (.bl (y.isPrefixOf x)) M else .bad
 | _, _ => .bad
section
local instance (priority := 100000) clP11 (p : Prop) : Decidable p := Classical.propDecidable p
@[simp] def ZaS (o : D) (ds : List D) (M : Store) : R3 D := match o, ds with
 | .ref n, [d] => match M[n]? with
  | some (.lst x) => if x.length < SZ then .ok .non (M.set n (.lst (x ++ [d]))) else .bad
  | _ => .bad
 | _, _ => .bad
end
section
local instance (priority := 100000) clPp (p : Prop) : Decidable p := Classical.propDecidable p
@[simp] def Zoc (o : D) (ds : List D) (M : Store) : R3 D := match o, ds with
 | .ref n, [.int i] => match M[n]? with
  | some (.lst x) => if -1000000 ≤ i ∧ i ≤ 1000000 then match ixD x.length i with
   | some k => match x[k]? with
    | some d => .ok d (M.set n (.lst (x.eraseIdx k)))
    | none => .bad
   | none => .bad
   else .bad
  | _ => .bad
 | .ref n, [] => match M[n]? with
  | some (.lst x) => match x[x.length - 1]? with
   | some d => .ok d (M.set n (.lst x.dropLast))
   | none => .bad
  | _ => .bad
 | _, _ => .bad
end
@[simp] def tyS (a : D) (_ : Store) : Bool := match a with
 | .str _ => true
 | _ => false
@[simp] def tyL (a : D) (M : Store) : Bool := match a with
 | .ref n => match M[n]? with
  | some (.lst _) => true
  | _ => false
 | _ => false
@[simp] def Zh0 (a : D) (M : Store) : Bool := match a with
 | .ref n => (ZcX M[n]?).isSome
 | _ => false
@[simp] def Zcy (ty : D → Store → Bool) (m : D → List D → Store → R3 D) (o : E3) (g : EL3) : E3 := fun env M => (o env M).bind fun a M1 => if ty a M1 then (g env M1).bind fun ds M2 => m a ds M2 else .bad
@[simp] def ZaQ (b : List D → Store → R3 D) (g : EL3) : E3 := fun env M => (g env M).bind fun ds M1 => b ds M1
def putD (k : ZaZ) (v : D) (kvs : List (ZaZ × D)) : List (ZaZ × D) :=
 if (kvs.any fun p => decide (p.1 = k)) = true then kvs.map (fun p => if p.1 = k then (p.1, v) else p) else kvs ++ [(k, v)]
abbrev EP3 := ZaD → Store → R3 (List (ZaZ × D))
@[simp] def Zoh : EP3 := fun _ M => .ok [] M
@[simp] def ZnQ (f g : E3) (r : EP3) : EP3 := fun env M => (f env M).bind fun a M1 => (g env M1).bind fun b M2 => match Zd9 a with
 | some k => (r env M2).bind fun l M3 => .ok ((k, b) :: l) M3
 | none => .bad
def dictOf (l : List (ZaZ × D)) : List (ZaZ × D) := l.foldl (fun acc p => putD p.1 p.2 acc) []
@[simp] def Zn7 (r : EP3) : E3 := fun env M => (r env (M ++ [.dct []])).bind fun l M1 => match M1[M.length]? with
 | some (.dct []) => if l.length ≤ 15 then .ok (.ref M.length) (M1.set M.length (.dct (dictOf l))) else .bad
 | _ => .bad
@[simp] def ZnL : E3 := fun _ M => alloc (.dct []) M
@[simp] def e3 (op : D → D → D → Store → R3 D) (f g h : E3) : E3 := fun env M => (f env M).bind fun a M1 => (g env M1).bind fun b M2 => (h env M2).bind fun c M3 => op a b c M3
section
local instance (priority := 100000) clP12 (p : Prop) : Decidable p := Classical.propDecidable p
@[simp] def Znf (v a b : D) (M : Store) : R3 D := match a with
 | .ref n => match M[n]?, Zd9 b with
  | some (.dct kvs), some k => if kvs.length < SZ then .ok .non (M.set n (.dct (putD k v kvs))) else .bad
  | _, _ => .bad
 | _ => .bad
end
@[simp] def Zim (v a b : D) (M : Store) : R3 D := match a, b with
 | .ref n, .int i => match M[n]? with
  | some (.lst xs) => match ixD xs.length i with
   | some j => .ok .non (M.set n (.lst (xs.set j v)))
   | none => .bad
  | _ => .bad
 | _, _ => .bad
@[simp] def ZiD (o : D) (ds : List D) (M : Store) : R3 D := match o, ds with
 | .ref n, [b] => match ZcX M[n]?, Zd9 b with
  | some kvs, some k => .ok ((ZbU kvs k).getD .non) M
  | _, _ => .bad
 | .ref n, [b, d] => match ZcX M[n]?, Zd9 b with
  | some kvs, some k => .ok ((ZbU kvs k).getD d) M
  | _, _ => .bad
 | _, _ => .bad
def Zb6 : List D → Option (List (ZaZ × D))
 | [] => some []
 | .tup [a, b] :: r => match Zd9 a with
  | some k => (Zb6 r).map fun l => (k, b) :: l
  | none => none
 | _ :: _ => none
section
local instance (priority := 100000) clP13 (p : Prop) : Decidable p := Classical.propDecidable p
@[simp] def ZdY (ds : List D) (M : Store) : R3 D := match ds with
 | [.ref n] => match ZcX M[n]? with
  | some kvs => alloc (.dct kvs) M
  | none => .bad
 | [.tup x] => match Zb6 x with
  | some l => if l.length ≤ 100000 then alloc (.dct (dictOf l)) M else .bad
  | none => .bad
 | _ => .bad
end
@[simp] def Zmq (ds : List D) (M : Store) : R3 D := match ds with
 | [.int i] => .ok (.int i) M
 | [.bl b] => .ok (.int (if b then 1 else 0)) M
 | _ => .bad
def ltT : List D → List D → Option Bool
 | [], [] => some false
 | [], _ :: _ => some true
 | _ :: _, [] => some false
 | .int i :: x, .int j :: y => if i = j then ltT x y else some (decide (i < j))
 | .str a :: x, .str b :: y => if a = b then ltT x y else some (decide (a < b))
 | _ :: _, _ :: _ => none
def ltD : D → D → Option Bool
 | .tup a, .tup b => ltT a b
 | .int i, .int j => some (decide (i < j))
 | _, _ => none
def leD (a b : D) : Prop := ltD b a = some false
def ZlM (x y : List D) : Prop := y.Perm x ∧ y.Pairwise leD
def ZjR : D → Bool
 | .tup (.int _ :: _) => true
 | _ => false
def ZlC : D → Bool
 | .int _ => true
 | _ => false
structure ZkQ (x : List D) : Prop where
 len : x.length < 64
 kind : x.all ZjR = true ∨ x.all ZlC = true
 cmp : ∀ a ∈ x, ∀ b ∈ x, (ltD a b).isSome = true
section
local instance (priority := 100000) clPs (p : Prop) : Decidable p := Classical.propDecidable p
def ZmE (x : List D) : List D := if h : ∃ y, ZlM x y then h.choose else x
@[simp] def ZmZ (ds : List D) (M : Store) : R3 D := match ds with
 | [.ref n] => match M[n]? with
  | some (.lst x) => if ZkQ x then alloc (.lst (ZmE x)) M else .bad
  | _ => .bad
 | _ => .bad
end
def ZiM : List D → Option (List Int)
 | [] => some []
 | .int i :: r => (ZiM r).map (i :: ·)
 | _ :: _ => none
@[simp] def Zoe (ds : List D) (M : Store) : R3 D := match ds with
 | [.ref n] => match M[n]? with
  | some (.lst x) => match ZiM x with
   | some ns => .ok (.int ns.sum) M
   | none => .bad
  | _ => .bad
 | [.scr x] => match ZiM x with
  | some ns => .ok (.int ns.sum) M
  | none => .bad
 | _ => .bad
def Zad : S3 := fun env M => .nx env M
def Zaa (f g : S3) : S3 := fun env M => match f env M with
 | .nx env' M' => g env' M'
 | o => o
def sIf (c : E3) (f g : S3) : S3 := fun env M => match c env M with
 | .ok (.bl true) M1 => f env M1
 | .ok (.bl false) M1 => g env M1
 | .exc x M1 => .exc x M1
 | _ => .bad
def Zam (f : E3) : S3 := fun env M => match f env M with
 | .ok d M1 => .rt d M1
 | .exc x M1 => .exc x M1
 | .bad => .bad
def Zaq (f : E3) : S3 := fun env M => match f env M with
 | .ok _ M1 => .nx env M1
 | .exc x M1 => .exc x M1
 | .bad => .bad
def Zah (i : Nat) (f : E3) : S3 := fun env M => match f env M with
 | .ok d M1 => .nx (env.set i (some d)) M1
 | .exc x M1 => .exc x M1
 | .bad => .bad
def Zf2 (o i f : E3) : S3 := Zaq (e3 Zim f o i)
abbrev G3 := D → ZaD → Option ZaD
@[simp] def ZcP (i : Nat) : G3 := fun d env => some (env.set i (some d))
@[simp] def bindAll : List Nat → List D → ZaD → Option ZaD
 | [], [], env => some env
 | i :: is, d :: ds, env => bindAll is ds (env.set i (some d))
 | _, _, _ => none
@[simp] def Zdn (is : List Nat) : G3 := fun d env => match d with
 | .tup ds => bindAll is ds env
 | _ => none
structure It3 where
 items : List D
 lock : Option Nat
abbrev I3 := ZaD → Store → R3 It3
section
local instance (priority := 100000) clP14 (p : Prop) : Decidable p := Classical.propDecidable p
@[simp] def Zje (f : E3) : I3 := fun env M => (f env M).bind fun a M1 => match a with
 | .tup ds => .ok ⟨ds, none⟩ M1
 | .scr ds => .ok ⟨ds, none⟩ M1
 | .str x => if x.length ≤ SZ then .ok ⟨x.map fun c => .str [c], none⟩ M1 else .bad
 | .ref n => match M1[n]? with
  | some (.lst ds) => .ok ⟨ds, some n⟩ M1
  | _ => .bad
 | _ => .bad
end
def ZcM (lo : Int) (n : Nat) : List D := (List.range n).map fun (k : Nat) => D.int (lo + (k : Int))
section
local instance (priority := 100000) clP15 (p : Prop) : Decidable p := Classical.propDecidable p
@[simp] def ZbZ (f : E3) : I3 := fun env M => (f env M).bind fun a M1 => match a with
 | .int j => if j ≤ 1000000 ∧ -1000000 ≤ j then .ok ⟨ZcM 0 j.toNat, none⟩ M1 else .bad
 | _ => .bad
end
section
local instance (priority := 100000) clP16 (p : Prop) : Decidable p := Classical.propDecidable p
@[simp] def ZmX (f g : E3) : I3 := fun env M => (f env M).bind fun a M1 => (g env M1).bind fun b M2 => match a, b with
 | .int i, .int j => if (j ≤ 1000000 ∧ -1000000 ≤ j) ∧ (i ≤ 1000000 ∧ -1000000 ≤ i) then .ok ⟨ZcM i (j - i).toNat, none⟩ M2 else .bad
 | _, _ => .bad
end
def locked (it : It3) (M : Store) : Bool := match it.lock with
 | none => true
 | some n => decide (M[n]? = some (.lst it.items))
def Zb3 (it : It3) (g : G3) (body : S3) : List D → ZaD → Store → O3
 | [], env, M => if locked it M then .nx env M else .bad
 | d :: ds, env, M => if locked it M then match g d env with
  | none => .bad
  | some env1 => match body env1 M with
   | .nx e M' => Zb3 it g body ds e M'
   | .ct e M' => Zb3 it g body ds e M'
   | .bk e M' => .nx e M'
   | o => o
  else .bad
def Ze3 (i : I3) (g : G3) (body : S3) : S3 := fun env M => match i env M with
 | .ok it M1 => Zb3 it g body it.items env M1
 | .exc x M1 => .exc x M1
 | .bad => .bad
def ZcD (c : E3) (body : S3) : Nat → ZaD → Store → O3
 | 0, _, _ => .bad
 | n + 1, env, M => match c env M with
  | .ok (.bl true) M1 => match body env M1 with
   | .nx e M' => ZcD c body n e M'
   | .ct e M' => ZcD c body n e M'
   | .bk e M' => .nx e M'
   | o => o
  | .ok (.bl false) M1 => .nx env M1
  | .exc x M1 => .exc x M1
  | _ => .bad
def Zih (c : E3) (body : S3) : S3 := ZcD c body 1000000
def Zej : List E3 → ZaD → Store → R3 Bool
 | [], _, M => .ok true M
 | c :: cs, env, M => (c env M).bind fun a M1 => match a with
  | .bl true => Zej cs env M1
  | .bl false => .ok false M1
  | _ => .bad
section
local instance (priority := 100000) clP17 (p : Prop) : Decidable p := Classical.propDecidable p
def Zc4 (it : It3) (g : G3) (ifs : List E3) (elt : E3) (n : Nat) : List D → ZaD → Store → R3 D
 | [], _, M => if locked it M then .ok (.ref n) M else .bad
 | d :: ds, env, M => if locked it M then match g d env with
  | none => .bad
  | some env1 => (Zej ifs env1 M).bind fun b M1 => if b then (elt env1 M1).bind fun e M2 => match M2[n]? with
    | some (.lst x) => if x.length < SZ then Zc4 it g ifs elt n ds env1 (M2.set n (.lst (x ++ [e]))) else .bad
    | _ => .bad
   else Zc4 it g ifs elt n ds env1 M1
  else .bad
end
def eLC (i : I3) (own : Nat) (g : G3) (ifs : List E3) (elt : E3) : E3 := fun env M => (i env M).bind fun it M1 =>
 Zc4 it g ifs elt M1.length it.items (env ++ List.replicate own none) (M1 ++ [.lst []])
def ZdT (n : Nat) : MO → Bool
 | .lst xs => belowL n xs
 | .dct kvs => belowL n (kvs.map (·.2))
 | .fdct kvs => belowL n (kvs.map (·.2))
def Zb2 (M : Store) (d : D) (M' : Store) : R3 D :=
 if below M.length d && (decide (M'.take M.length = M) || (M'.take M.length).all (ZdT M.length)) then .ok d (M'.take M.length) else .ok d M'
def mkF (ps n : Nat) (body : S3) : F3 := fun ds M => if ds.length = ps then match body (ds.map some ++ List.replicate (n - ps) none) M with
  | .nx _ M' => Zb2 M .non M'
  | .rt d M' => Zb2 M d M'
  | .exc x M' => .exc x M'
  | _ => .bad
 else .bad
end
end L3
namespace L3
theorem Ze {f g : S3} {env env' : ZaD} {M M' : Store} (h : f env M = .nx env' M') : Zaa f g env M = g env' M' := by rw [Zaa, h]
theorem Zdd {f g : S3} {env : ZaD} {M M' : Store} {d : D} (h : f env M = .rt d M') : Zaa f g env M = .rt d M' := by rw [Zaa, h]
theorem ZaR {c : E3} {f g : S3} {env : ZaD} {M M' : Store} (h : c env M = .ok (.bl true) M') : sIf c f g env M = f env M' := by rw [sIf, h]
theorem Zb1 {c : E3} {f g : S3} {env : ZaD} {M M' : Store} (h : c env M = .ok (.bl false) M') : sIf c f g env M = g env M' := by rw [sIf, h]
theorem Zbx {f : E3} {env : ZaD} {M M' : Store} {d : D} (h : f env M = .ok d M') : Zam f env M = .rt d M' := by rw [Zam, h]
theorem Zt {f : E3} {i : Nat} {env env' : ZaD} {M M' : Store} {d : D} (h : f env M = .ok d M') (he : env.set i (some d) = env' := by first | (dsimp only [List.set_cons_succ, List.set_cons_zero] <;> exact rfl) | exact rfl) : Zah i f env M = .nx env' M' := by rw [Zah, h]; simp only [he]
theorem Zh {c : E3} {f : S3} {env : ZaD} {M M' : Store} (h : c env M = .ok (.bl false) M') : sIf c f Zad env M = .nx env M' := by rw [sIf, h]; rfl
theorem Zi8 {f : E3} {env : ZaD} {M M' : Store} {d : D} (h : f env M = .ok d M') : Zaq f env M = .nx env M' := by rw [Zaq, h]
theorem Zeh {i : I3} {g : G3} {u : S3} {env : ZaD} {M M' : Store} {it : It3} (h : i env M = .ok it M') : Ze3 i g u env M = Zb3 it g u it.items env M' := by rw [Ze3, h]
theorem ZkR {i : I3} {own : Nat} {g : G3} {ts : List E3} {f : E3} {env : ZaD} {M M' : Store} {it : It3} (h : i env M = .ok it M') : eLC i own g ts f env M = Zc4 it g ts f M'.length it.items (env ++ List.replicate own none) (M' ++ [.lst []]) := by rw [eLC, h]; rfl
theorem Zex {ps n : Nat} {body : S3} {ds : List D} {env : ZaD} {M M' : Store} {d : D} (h : body env M = .rt d M') (hl : ds.length = ps := by rfl) (he : ds.map some ++ List.replicate (n - ps) none = env := by rfl) : mkF ps n body ds M = Zb2 M d M' := by rw [mkF, if_pos hl, he, h]
theorem ZiS {M G : Store} {d : D} (h : below M.length d = true) : Zb2 M d (M ++ G) = .ok d M := by
 simp [Zb2, h]
end L3
namespace L3
theorem ZiH {α : Type} (M : List α) (x : α) (xs : List α) : (M ++ x :: xs)[M.length]? = some x := by simp
theorem ZaY {α : Type} {M : List α} {n : Nat} {o : α} (h : M[n]? = some o) (xs : List α) : (M ++ xs)[n]? = some o := by
 rw [List.getElem?_append_left (List.getElem?_eq_some_iff.mp h).1, h]
theorem Zcs {α : Type} (xs : List α) (k : Nat) : ZaP xs (k : Int) = xs[k]? := by
 unfold ZaP ixD
 rw [if_pos (Int.natCast_nonneg k)]
 by_cases h : k < xs.length
 ·rw [if_pos (by omega)]; simp
 ·rw [if_neg (by omega)]; simp at h ⊢; omega
@[simp] theorem Zaj {α : Type} (xs : List α) (k : Nat) : ZaP xs (k : Int) = xs[k]? := Zcs xs k
@[simp] theorem ZmL {α : Type} (xs : List α) (n : Nat) : ZaP xs (no_index (OfNat.ofNat n : Int)) = xs[(OfNat.ofNat n : Nat)]? := Zcs xs n
@[simp] theorem ZlV {α : Type} (xs : List α) : ZaP xs (-1) = xs.getLast? := by
 unfold ZaP ixD
 rw [if_neg (by decide), List.getLast?_eq_getElem?]
 by_cases h : 0 < xs.length
 ·rw [if_pos (by omega)]
  simp only [Option.bind_some]
  congr 1; omega
 ·have : xs = [] := by simpa using h
  subst this; rfl
theorem Zhf (n k : Nat) : ixD n (k : Int) = if k < n then some k else none := by
 unfold ixD
 rw [if_pos (Int.natCast_nonneg k)]
 by_cases h : k < n
 ·rw [if_pos (by omega), if_pos h]; simp
 ·rw [if_neg (by omega), if_neg h]
@[simp] theorem ZmM (n k : Nat) : ixD n (k : Int) = if k < n then some k else none := Zhf n k
@[simp] theorem ZmP (m n : Nat) : ixD m (no_index (OfNat.ofNat n : Int)) = if (OfNat.ofNat n : Nat) < m then some (OfNat.ofNat n : Nat) else none := Zhf m n
theorem getD_last {α : Type} (xs : List α) (x : α) : ZaP (xs ++ [x]) (-1) = some x := by
 unfold ZaP ixD
 rw [if_neg (by decide), if_pos (by simp; omega)]
 have : (-1 + ((xs ++ [x]).length : Int)).toNat = xs.length := by simp; omega
 simp only [Option.bind_some, this]
 simp
inductive Row where
 | put (a : Nat) (n : Int) | add (a b c : Nat) | sub (a b c : Nat) | more (a b c : Nat) | get (a b : Nat) | set (a b : Nat) | jump (k : Nat) | when (a k : Nat) | tell (a : Nat) | halt
 deriving Inhabited
def Zf : Row → D
 | .put a n => .tup [.str [112, 117, 116], .int a, .int n]
 | .add a b c => .tup [.str [97, 100, 100], .int a, .int b, .int c]
 | .sub a b c => .tup [.str [115, 117, 98], .int a, .int b, .int c]
 | .more a b c => .tup [.str [109, 111, 114, 101], .int a, .int b, .int c]
 | .get a b => .tup [.str [103, 101, 116], .int a, .int b]
 | .set a b => .tup [.str [115, 101, 116], .int a, .int b]
 | .jump k => .tup [.str [106, 117, 109, 112], .int k]
 | .when a k => .tup [.str [119, 104, 101, 110], .int a, .int k]
 | .tell a => .tup [.str [116, 101, 108, 108], .int a]
 | .halt => .tup [.str [104, 97, 108, 116]]
def Row.ok (many : Nat) : Row → Prop
 | .put a _ => a < 8
 | .add a b c => a < 8 ∧ b < 8 ∧ c < 8
 | .sub a b c => a < 8 ∧ b < 8 ∧ c < 8
 | .more a b c => a < 8 ∧ b < 8 ∧ c < 8
 | .get a b => a < 8 ∧ b < 8
 | .set a b => a < 8 ∧ b < 8
 | .jump k => k < many
 | .when a k => a < 8 ∧ k < many
 | .tell a => a < 8
 | .halt => True
abbrev Zcc := List Row
def Zk (r : Zcc) : D := .tup (r.map Zf)
structure ZbM (r : Zcc) : Prop where
 rows : ∀ x ∈ r, x.ok r.length
 last : ∃ q x, r = q ++ [x] ∧ (x = .halt ∨ ∃ k, x = .jump k)
structure Stt where
 place : Nat
 boxes : List Int
 cells : List (Int × Int)
 deriving Inhabited, DecidableEq
def Zg (bs : List Int) : D := .tup (bs.map D.int)
def Zfu (c : Int × Int) : D := .tup [.int c.1, .int c.2]
def Zbw (cs : List (Int × Int)) : D := .tup (cs.map Zfu)
def Row.tells (bs : List Int) : Row → Option Int
 | .tell a => bs[a]?
 | _ => none
def Row.isHalt : Row → Bool
 | .halt => true
 | _ => false
@[simp] theorem ZlS {a : Nat} {n : Int} {bs : List Int} : (Row.put a n).tells bs = none := rfl
@[simp] theorem ZkE {a : Nat} {n : Int} : (Row.put a n).isHalt = false := rfl
@[simp] theorem ZlO {a : Nat} {b : Nat} {c : Nat} {bs : List Int} : (Row.add a b c).tells bs = none := rfl
@[simp] theorem Zlj {a : Nat} {b : Nat} {c : Nat} : (Row.add a b c).isHalt = false := rfl
@[simp] theorem ZlN {a : Nat} {b : Nat} {c : Nat} {bs : List Int} : (Row.sub a b c).tells bs = none := rfl
@[simp] theorem Zls {a : Nat} {b : Nat} {c : Nat} : (Row.sub a b c).isHalt = false := rfl
@[simp] theorem Zkr {a : Nat} {b : Nat} {c : Nat} {bs : List Int} : (Row.more a b c).tells bs = none := rfl
@[simp] theorem Zko {a : Nat} {b : Nat} {c : Nat} : (Row.more a b c).isHalt = false := rfl
@[simp] theorem ZlU {a : Nat} {b : Nat} {bs : List Int} : (Row.get a b).tells bs = none := rfl
@[simp] theorem ZkT {a : Nat} {b : Nat} : (Row.get a b).isHalt = false := rfl
@[simp] theorem ZlR {a : Nat} {b : Nat} {bs : List Int} : (Row.set a b).tells bs = none := rfl
@[simp] theorem Zkt {a : Nat} {b : Nat} : (Row.set a b).isHalt = false := rfl
@[simp] theorem Zlo {k : Nat} {bs : List Int} : (Row.jump k).tells bs = none := rfl
@[simp] theorem Zkn {k : Nat} : (Row.jump k).isHalt = false := rfl
@[simp] theorem Zk6 {a : Nat} {k : Nat} {bs : List Int} : (Row.when a k).tells bs = none := rfl
@[simp] theorem Zkd {a : Nat} {k : Nat} : (Row.when a k).isHalt = false := rfl
@[simp] theorem Zlz {a : Nat} {bs : List Int} : (Row.tell a).tells bs = bs[a]? := rfl
@[simp] theorem Zke {a : Nat} : (Row.tell a).isHalt = false := rfl
@[simp] theorem Zll  {bs : List Int} : (Row.halt).tells bs = none := rfl
@[simp] theorem Zkg  : (Row.halt).isHalt = true := rfl
theorem ZdL (n : Nat) (i : Int) : Zar n (.int i) = true := by cases n <;> rfl
theorem Zfh (n : Nat) (bs : List Int) : Zar (n + 1) (Zg bs) = true := by simp [Zg, Zar, ZdL]
mutual
theorem ZhV : ∀ (n : Nat) (d : D), Zar n d = true → deq d d = true
 | _, .non, _ => rfl
 | _, .bl _, _ => by simp [deq]
 | _, .int _, _ => by simp [deq]
 | _, .str _, _ => by simp [deq]
 | 0, .tup _, h => by simp [Zar] at h
 | n + 1, .tup ds, h => by simp only [deq]; exact Zez n ds (by simpa [Zar] using h)
 | _, .scr _, h => by simp [Zar] at h
 | _, .ref _, h => by simp [Zar] at h
theorem Zez : ∀ (n : Nat) (ds : List D), (∀ d ∈ ds, Zar n d = true) → Zbv ds ds = true
 | _, [], _ => rfl
 | n, d :: ds, h => by
  simp only [Zbv, Bool.and_eq_true]
  exact ⟨ZhV n d (h d List.mem_cons_self), Zez n ds fun x hx => h x (List.mem_cons_of_mem _ hx)⟩
end
end L3
namespace L3
def Rt (o : O3) (d : D) : Prop := ∃ M', o = .rt d M'
theorem Rt.set {i : Nat} {f : E3} {g : S3} {env env' : ZaD} {M M' : Store} {d r : D} (h : f env M = .ok d M') (k : Rt (g env' M') r) (he : env.set i (some d) = env' := by first | (dsimp only [List.set_cons_succ, List.set_cons_zero] <;> exact rfl) | exact rfl) : Rt (Zaa (Zah i f) g env M) r := by
 rw [Rt, Ze (Zt h he)]; exact k
theorem Rt.skip {c : E3} {u g : S3} {env : ZaD} {M M' : Store} {r : D} (h : c env M = .ok (.bl false) M') (k : Rt (g env M') r) : Rt (Zaa (sIf c u Zad) g env M) r := by
 rw [Rt, Ze (Zh h)]; exact k
theorem Rt.loop {i : I3} {t : G3} {u g : S3} {env env' : ZaD} {M M' M1 : Store} {it : It3} {r : D} (h : i env M = .ok it M1) (hl : Zb3 it t u it.items env M1 = .nx env' M') (k : Rt (g env' M') r) : Rt (Zaa (Ze3 i t u) g env M) r := by
 rw [Rt, Ze ((Zeh h).trans hl)]; exact k
theorem Rt.ret {f : E3} {env : ZaD} {M M' : Store} {d : D} (h : f env M = .ok d M') : Rt (Zam f env M) d := ⟨M', Zbx h⟩
theorem Rt.law {ps n : Nat} {body : S3} {ds : List D} {env : ZaD} {b : Bool} (h : Rt (body env []) (.bl b)) (hl : ds.length = ps := by rfl) (he : ds.map some ++ List.replicate (n - ps) none = env := by rfl) : ∃ M', mkF ps n body ds [] = .ok (.bl b) M' := by
 obtain ⟨M', h⟩ := h
 exact ⟨_, (Zex h hl he).trans (by rw [Zb2, if_pos (by simp [below])])⟩
theorem Rt.pure {ps n : Nat} {body : S3} {ds : List D} {env : ZaD} {M G : Store} {d : D} (h : body env M = .rt d (M ++ G)) (hd : below M.length d = true) (hl : ds.length = ps := by rfl) (he : ds.map some ++ List.replicate (n - ps) none = env := by rfl) : mkF ps n body ds M = .ok d M :=
 (Zex h hl he).trans (ZiS hd)
theorem Zen {α β : Type} (f : α → β) (xs : List α) (lo hi : Option Int) : cutD (xs.map f) lo hi = (cutD xs lo hi).map f := by
 simp [cutD]
theorem ZdK (lo : Int) (n : Nat) : (ZcM lo n).length = n := by simp [ZcM]
end L3
namespace L3
theorem ZhX {o arg : E3} {env : ZaD} {M M2 : Store} {n : Nat} {xs ys : List D} {d : D} (ho : o env M = .ok (.ref n) M) (hM : M[n]? = some (.lst xs)) (ha : arg env M = .ok d M2) (hM2 : M2[n]? = some (.lst ys)) (hz : ys.length < 1000000) :
  Zcy tyL ZaS o (Za arg Zj) env M = .ok .non (M2.set n (.lst (ys ++ [d]))) := by
 simp [ho, hM, ha, hM2, hz]
theorem Zcr {op : D → D → Store → R3 D} {f g : E3} {env : ZaD} {M M1 M2 M3 : Store} {a b d : D} (h1 : f env M = .ok a M1) (h2 : g env M1 = .ok b M2) (h3 : op a b M2 = .ok d M3) : e2 op f g env M = .ok d M3 := by
 simp only [e2, h1, h2, h3, R3.bind]
theorem Zdv {F : F3} {f : E3} {env : ZaD} {M M1 M2 : Store} {a d : D} (h1 : f env M = .ok a M1) (h2 : F [a] M1 = .ok d M2) : Zw F (Za f Zj) env M = .ok d M2 := by
 simp only [Zw, Za, Zj, h1, h2, R3.bind]
theorem ZcR {F : F3} {f g : E3} {env : ZaD} {M M1 M2 M3 : Store} {a b d : D} (h1 : f env M = .ok a M1) (h2 : g env M1 = .ok b M2) (h3 : F [a, b] M2 = .ok d M3) : Zw F (Za f (Za g Zj)) env M = .ok d M3 := by
 simp only [Zw, Za, Zj, h1, h2, h3, R3.bind]
theorem ZdS {F : F3} {f g h : E3} {env : ZaD} {M M1 M2 M3 M4 : Store} {a b c d : D} (h1 : f env M = .ok a M1) (h2 : g env M1 = .ok b M2) (h3 : h env M2 = .ok c M3) (h4 : F [a, b, c] M3 = .ok d M4) : Zw F (Za f (Za g (Za h Zj))) env M = .ok d M4 := by
 simp only [Zw, Za, Zj, h1, h2, h3, h4, R3.bind]
@[simp] theorem Znw (a b : Ty3) : (a == b) = decide (a = b) := by cases a <;> cases b <;> rfl
theorem Zi1 {F : F3} {f g h k : E3} {env : ZaD} {M M1 M2 M3 M4 M5 : Store} {a b c d e : D} (h1 : f env M = .ok a M1) (h2 : g env M1 = .ok b M2) (h3 : h env M2 = .ok c M3) (h4 : k env M3 = .ok d M4) (h5 : F [a, b, c, d] M4 = .ok e M5) : Zw F (Za f (Za g (Za h (Za k Zj)))) env M = .ok e M5 := by
 simp only [Zw, Za, Zj, h1, h2, h3, h4, h5, R3.bind]
theorem Zl4 {b : List D → Store → R3 D} {f : E3} {env : ZaD} {M M1 M2 : Store} {a d : D} (h1 : f env M = .ok a M1) (h2 : b [a] M1 = .ok d M2) : ZaQ b (Za f Zj) env M = .ok d M2 := by
 simp only [ZaQ, Za, Zj, h1, h2, R3.bind]
theorem Zka {op : D → Store → R3 D} {f : E3} {env : ZaD} {M M1 M2 : Store} {a d : D} (h1 : f env M = .ok a M1) (h2 : op a M1 = .ok d M2) : e1 op f env M = .ok d M2 := by
 simp only [e1, h1, h2, R3.bind]
theorem ZfK {f g : E3} {env : ZaD} {M M1 : Store} (h1 : f env M = .ok (.bl true) M1) : Zc9 f g env M = g env M1 := by simp only [Zc9, h1, R3.bind]
theorem Zjc {f g : E3} {env : ZaD} {M M1 : Store} (h1 : f env M = .ok (.bl false) M1) : Zc9 f g env M = .ok (.bl false) M1 := by simp only [Zc9, h1, R3.bind]
theorem Zl2 {c f g : E3} {env : ZaD} {M M1 : Store} (h1 : c env M = .ok (.bl true) M1) : eIf c f g env M = f env M1 := by simp only [eIf, h1, R3.bind]
theorem Zmz {c f g : E3} {env : ZaD} {M M1 : Store} (h1 : c env M = .ok (.bl false) M1) : eIf c f g env M = g env M1 := by simp only [eIf, h1, R3.bind]
end L3
namespace L3
def ZdR (t : List (Int × Int)) : List (ZaZ × D) := t.map fun p => (.inl p.1, .int p.2)
def keysOk (t : List (Int × Int)) : Prop := (t.map (·.1)).Nodup
def Zd7 : List (Int × Int) → Int → Int
 | [], _ => 0
 | (k, v) :: r, n => if k = n then v else Zd7 r n
theorem ZiG (t : List (Int × Int)) (n : Int) : ZbU (ZdR t) (.inl n) = (if t.any (fun p => decide (p.1 = n)) = true then some (D.int (Zd7 t n)) else none) := by
 induction t with
 | nil => rfl
 | cons p t ih =>
  obtain ⟨k, v⟩ := p
  show (if (Sum.inl k : ZaZ) = Sum.inl n then some (D.int v) else ZbU (ZdR t) (.inl n)) = _
  by_cases e : k = n
  ·simp [e, Zd7]
  ·rw [if_neg (by simp [e]), ih]
   simp only [List.any_cons, Zd7, if_neg e, decide_eq_false e, Bool.false_or]
theorem Zhx {t : List (Int × Int)} {n : Int} (h : ¬ t.any (fun p => decide (p.1 = n)) = true) : Zd7 t n = 0 := by
 induction t with
 | nil => rfl
 | cons p t ih =>
  obtain ⟨k, v⟩ := p
  simp only [List.any_cons, Bool.or_eq_true, decide_eq_true_eq, not_or] at h
  simp only [Zd7, if_neg h.1]
  exact ih (by simpa using h.2)
theorem Zh5 (t : List (Int × Int)) (n : Int) : (ZbU (ZdR t) (.inl n)).getD (.int 0) = .int (Zd7 t n) := by
 rw [ZiG]
 by_cases c : (t.any fun p => decide (p.1 = n)) = true
 ·rw [if_pos c]; rfl
 ·rw [if_neg c, Zhx c]; rfl
def ZfR (cs : List (Int × Int)) : Prop := cs.Pairwise fun a b => a.1 < b.1
theorem ZfR.keys {cs : List (Int × Int)} (h : ZfR cs) : keysOk cs := by
 unfold keysOk ZfR at *
 rw [List.Nodup, List.pairwise_map]
 exact h.imp fun h => by omega
def ZdP (cs : List (Int × Int)) (n v : Int) : List (Int × Int) := cs.filter (fun c => decide (c.1 < n)) ++ (if v ≠ 0 then [(n, v)] else []) ++ cs.filter (fun c => decide (n < c.1))
theorem ZfD {cs : List (Int × Int)} {n v : Int} (h : ZfR cs) : ZfR (ZdP cs n v) := by
 unfold ZdP ZfR at *
 have hm : ∀ q ∈ (if v ≠ 0 then [(n, v)] else []), q.1 = n := fun q hq => by
  by_cases c : v ≠ 0
  ·rw [if_pos c] at hq; simp at hq; rw [hq]
  ·rw [if_neg c] at hq; simp at hq
 refine List.pairwise_append.mpr ⟨List.pairwise_append.mpr ⟨h.filter _, ?_, fun a ha b hb => ?_⟩, h.filter _, fun a ha b hb => ?_⟩
 ·by_cases c : v ≠ 0
  ·rw [if_pos c]; simp
  ·rw [if_neg c]; simp
 ·have h1 := (List.mem_filter.mp ha).2
  rw [hm b hb]; simpa using h1
 ·have h2 : n < b.1 := by simpa using (List.mem_filter.mp hb).2
  rcases List.mem_append.mp ha with ha | ha
  ·have : a.1 < n := by simpa using (List.mem_filter.mp ha).2
   omega
  ·rw [hm a ha]; exact h2
def Row.place (bs : List Int) (p : Nat) : Row → Nat
 | .jump k => k
 | .when a k => if 0 < bs.getD a 0 then k else p + 1
 | _ => p + 1
def Row.boxes (bs : List Int) (cs : List (Int × Int)) : Row → List Int
 | .put a n => bs.set a n
 | .add a b c => bs.set a (bs.getD b 0 + bs.getD c 0)
 | .sub a b c => bs.set a (bs.getD b 0 - bs.getD c 0)
 | .more a b c => bs.set a (if bs.getD c 0 < bs.getD b 0 then 1 else 0)
 | .get a b => bs.set a (Zd7 cs (bs.getD b 0))
 | _ => bs
def Row.cells (bs : List Int) (cs : List (Int × Int)) : Row → List (Int × Int)
 | .set a b => ZdP cs (bs.getD a 0) (bs.getD b 0)
 | _ => cs
def Zhj (s : Stt) (r : Row) : Option Stt := if r.isHalt then none else some ⟨r.place s.boxes s.place, r.boxes s.boxes s.cells, r.cells s.boxes s.cells⟩
def Zhc (roll : Zcc) (s : Stt) : Option Stt := (roll[s.place]?).bind (Zhj s)
theorem ZgN (cs : List (Int × Int)) : Zb6 (cs.map Zfu) = some (ZdR cs) := by
 induction cs with
 | nil => rfl
 | cons p cs ih => simp only [List.map_cons, Zfu, Zb6, Zd9, ih, Option.map_some, ZdR]
theorem Zjf (kvs : List (ZaZ × D)) (k j : ZaZ) (v : D) : ZbU (putD k v kvs) j = if j = k then some v else ZbU kvs j := by
 have mp : ∀ l : List (ZaZ × D), ZbU (l.map fun p => if p.1 = k then (p.1, v) else p) j = if j = k then (if l.any (fun p => decide (p.1 = k)) then some v else none) else ZbU l j := by
  intro l
  induction l with
  | nil => simp [ZbU]
  | cons p l ih =>
   obtain ⟨a, b⟩ := p
   rw [List.map_cons]
   by_cases e : a = k
   ·subst e
    simp only [if_true, ZbU]
    by_cases ej : a = j
    ·subst ej; simp
    ·rw [if_neg ej, ih, if_neg (Ne.symm ej), if_neg (Ne.symm ej), if_neg ej]
   ·simp only [if_neg e, ZbU]
    by_cases ej : a = j
    ·subst ej; simp [e]
    ·rw [if_neg ej, ih, if_neg ej]; simp only [List.any_cons, decide_eq_false e, Bool.false_or]
 have ap : ∀ l : List (ZaZ × D), ¬ l.any (fun p => decide (p.1 = k)) = true → ZbU (l ++ [(k, v)]) j = if j = k then some v else ZbU l j := by
  intro l
  induction l with
  | nil => intro _; simp only [List.nil_append, ZbU]; by_cases e : k = j <;> simp [e, Ne.symm, eq_comm]
  | cons p l ih =>
   intro h
   obtain ⟨a, b⟩ := p
   simp only [List.any_cons, Bool.or_eq_true, decide_eq_true_eq, not_or] at h
   simp only [List.cons_append, ZbU]
   by_cases ej : a = j
   ·subst ej; rw [if_pos rfl, if_neg h.1, if_pos rfl]
   ·rw [if_neg ej, if_neg ej]; exact ih (by simpa using h.2)
 unfold putD
 by_cases c : (kvs.any fun p => decide (p.1 = k)) = true
 ·rw [if_pos c, mp, c]; simp
 ·rw [if_neg c]; exact ap kvs c
theorem Zff : ∀ (l acc : List (ZaZ × D)) (j : ZaZ), (l.map (·.1)).Nodup → ZbU (l.foldl (fun a p => putD p.1 p.2 a) acc) j = (match ZbU l j with | some v => some v | none => ZbU acc j)
 | [], acc, j, _ => rfl
 | p :: l, acc, j, h => by
  obtain ⟨k, v⟩ := p
  simp only [List.map_cons, List.nodup_cons] at h
  rw [List.foldl_cons, Zff l _ j h.2, Zjf]
  simp only [ZbU]
  by_cases e : k = j
  ·subst e
   have : ZbU l k = none := by
    have hn := h.1
    clear h
    induction l with
    | nil => rfl
    | cons q l ih =>
     simp only [List.map_cons, List.mem_cons, not_or] at hn
     simp only [ZbU]
     rw [if_neg (Ne.symm hn.1)]; exact ih hn.2
   rw [this]; simp
  ·rw [if_neg e, if_neg (Ne.symm e)]
theorem Zh3 {t : List (Int × Int)} (h : keysOk t) : ((ZdR t).map (·.1)).Nodup := by
 unfold keysOk at h
 simp only [ZdR, List.map_map]
 rw [List.Nodup, List.pairwise_map] at *
 exact h.imp fun h e => h (by simpa using e)
theorem ZhB {t : List (Int × Int)} (h : keysOk t) (n : Int) : (ZbU (dictOf (ZdR t)) (.inl n)).getD (.int 0) = .int (Zd7 t n) := by
 unfold dictOf
 rw [Zff _ _ _ (Zh3 h), ← Zh5]
 cases ZbU (ZdR t) (.inl n) <;> rfl
end L3
namespace L3
theorem ZgF {cs : List (Int × Int)} (h : ZfR cs) (n v : Int) : (ZdP cs n v).length ≤ cs.length + 1 := by
 unfold ZdP
 have f : (cs.filter (fun c => decide (c.1 < n))).length + (cs.filter (fun c => decide (n < c.1))).length ≤ cs.length := by
  clear h
  induction cs with
  | nil => simp
  | cons c cs ih =>
   simp only [List.filter_cons]
   by_cases h1 : c.1 < n
   ·have h2 : ¬ n < c.1 := by omega
    simp only [h1, h2, decide_true, decide_false, if_true, Bool.false_eq_true, if_false, List.length_cons]; omega
   ·by_cases h2 : n < c.1
    ·simp only [h1, h2, decide_true, decide_false, if_true, Bool.false_eq_true, if_false, List.length_cons]; omega
    ·simp only [h1, h2, decide_false, Bool.false_eq_true, if_false, List.length_cons]; omega
 rw [List.length_append, List.length_append]
 split <;> simp only [List.length_cons, List.length_nil] <;> omega
end L3
namespace L3
structure Good (roll : Zcc) (s : Stt) : Prop where
 pl : s.place < roll.length
 bx : s.boxes.length = 8
 rs : ZfR s.cells
theorem Zhq (r : Row) (bs : List Int) (cs : List (Int × Int)) : (r.boxes bs cs).length = bs.length := by cases r <;> simp [Row.boxes]
theorem ZhY {roll : Zcc} (R : ZbM roll) {s s' : Stt} (g : Good roll s) (h : Zhc roll s = some s') : Good roll s' ∧ s'.cells.length ≤ s.cells.length + 1 := by
 obtain ⟨hp, hb, hc⟩ := g
 have hr : roll[s.place]? = some roll[s.place] := by simp [hp]
 have ro := R.rows _ (List.getElem_mem hp)
 unfold Zhc at h
 rw [hr] at h
 have h' : Zhj s roll[s.place] = some s' := h
 unfold Zhj at h'
 split at h'
 ·cases h'
 ·rename_i nh
  cases h'
  have nl : roll[s.place] ≠ .halt → (∀ k, roll[s.place] ≠ .jump k) → s.place + 1 < roll.length := fun n1 n2 => by
   obtain ⟨q, x, e, hx⟩ := R.last
   have hl : roll.length = q.length + 1 := by rw [e]; simp
   by_cases c : s.place = q.length
   ·have : roll[s.place] = x := by
     have := hr
     simp only [e, c] at this
     simp at this
     simp [c, e]
    rw [this] at n1 n2
    rcases hx with hx | ⟨k, hx⟩
    ·exact absurd hx n1
    ·exact absurd hx (n2 k)
   ·omega
  have nh' : roll[s.place] ≠ .halt := fun z => by rw [z] at nh; simp at nh
  refine ⟨⟨?_, by rw [Zhq]; exact hb, ?_⟩, ?_⟩
  ·generalize roll[s.place] = r at ro nl nh'
   cases r with
   | jump k => exact ro
   | when a k =>
    show (if 0 < s.boxes.getD a 0 then k else s.place + 1) < _
    split
    ·exact ro.2
    ·exact nl nh' (fun _ z => by cases z)
   | halt => exact absurd rfl nh'
   | _ => exact nl nh' (fun _ z => by cases z)
  ·generalize roll[s.place] = r
   cases r with
   | set a b => exact ZfD hc
   | _ => exact hc
  ·generalize roll[s.place] = r
   cases r with
   | set a b => exact ZgF hc _ _
   | _ => exact Nat.le_succ _
end L3
namespace L3
def ZjV (i : Int) : List Nat := (PySem.Str.ofString (toString i)).cps.toList
noncomputable section
local instance (priority := 100000) clQ1 (p : Prop) : Decidable p := Classical.propDecidable p
@[simp] def Zn2 (ds : List D) (M : Store) : R3 D := match ds with
 | [.int i] => if i.natAbs.log2 < 1920 then .ok (.str (ZjV i)) M else .bad
 | [.str x] => .ok (.str x) M
 | _ => .bad
def Zkk : List D → Option (List (List Nat))
 | [] => some []
 | .str x :: ds => (Zkk ds).map (x :: ·)
 | _ => none
def glue (sep : List Nat) : List (List Nat) → List Nat
 | [] => []
 | [x] => x
 | x :: y :: xs => x ++ sep ++ glue sep (y :: xs)
def ZjL (sep : List Nat) (ts : List (List Nat)) : Nat := (ts.map fun t => t.length + sep.length).sum
@[simp] def ZnI (o : D) (ds : List D) (M : Store) : R3 D := match o, ds with
 | .str sep, [.ref n] => match M[n]? with
  | some (.lst x) => match Zkk x with
   | some ts => if ZjL sep ts ≤ SZ then .ok (.str (glue sep ts)) M else .bad
   | none => .bad
  | _ => .bad
 | _, _ => .bad
def ZlJ (x y : List Nat) : List (List Nat) := (PySem.Txt.split ⟨x.toArray⟩ ⟨y.toArray⟩).map fun t => t.cps.toList
@[simp] def ZnD (o : D) (ds : List D) (M : Store) : R3 D := match o, ds with
 | .str x, [.str y] => if 0 < y.length ∧ x.length + 2 ≤ SZ then alloc (.lst ((ZlJ x y).map D.str)) M else .bad
 | _, _ => .bad
@[simp] def Zig (ds : List D) (M : Store) : R3 D := match ds with
 | [.str x] => match PySem.intText? ⟨x.toArray⟩ with
  | some n => if x.length ≤ 640 then .ok (.int n) M else .bad
  | none => .bad
 | ds => Zmq ds M
@[simp] def ZmT (T1 T2 : Ty3) (d : D) (M : Store) : R3 D := match Zd8 T1 d M, Zd8 T2 d M with
 | some a, some b => .ok (.bl (a || b)) M
 | _, _ => .bad
end
end L3
namespace L3
noncomputable section
def Zew (f : E3) (g : G3) : S3 := fun env M => match f env M with
 | .ok d M1 => match g d env with
  | some env1 => .nx env1 M1
  | none => .bad
 | .exc x M1 => .exc x M1
 | .bad => .bad
structure ItL where
 items : List D
 lk : List (Nat × List D)
def Zcj (lk : List (Nat × List D)) (M : Store) : Bool := lk.all fun q => decide (M[q.1]? = some (.lst q.2))
def Zdi (lk : List (Nat × List D)) (g : G3) (body : S3) : List D → ZaD → Store → O3
 | [], env, M => if Zcj lk M then .nx env M else .bad
 | d :: ds, env, M => if Zcj lk M then match g d env with
  | none => .bad
  | some env1 => match body env1 M with
   | .nx e M' => Zdi lk g body ds e M'
   | .ct e M' => Zdi lk g body ds e M'
   | .bk e M' => .nx e M'
   | o => o
  else .bad
abbrev IL3 := ZaD → Store → R3 ItL
def Zg2 (i : IL3) (g : G3) (body : S3) : S3 := fun env M => match i env M with
 | .ok it M1 => Zdi it.lk g body it.items env M1
 | .exc x M1 => .exc x M1
 | .bad => .bad
def ZcH : Nat → List D → List D
 | _, [] => []
 | k, d :: ds => .tup [.int k, d] :: ZcH (k + 1) ds
@[simp] def ZiZ (f : E3) : IL3 := fun env M => (f env M).bind fun a M1 => match a with
 | .tup ds => .ok ⟨ZcH 0 ds, []⟩ M1
 | .ref n => match M1[n]? with
  | some (.lst ds) => .ok ⟨ZcH 0 ds, [(n, ds)]⟩ M1
  | _ => .bad
 | _ => .bad
@[simp] def ZnM (a b : D) (M : Store) : R3 D := match a, b with
 | .tup [.int i, .int j], .tup [.int k, .int l] => .ok (.bl (decide (i < k) || (decide (i = k) && decide (j ≤ l)))) M
 | _, _ => .bad
def ZnW (f : E3) (is : List Nat) : S3 := fun env M => match f env M with
 | .ok (.ref n) M1 => (match M1[n]? with
  | some (.lst ds) => (match bindAll is ds env with
   | some env1 => .nx env1 M1
   | none => .bad)
  | _ => .bad)
 | _ => .bad
@[simp] def ZnX (ds : List D) (M : Store) : R3 D := match ds with
 | [.int i, .int j] => .ok (.int (if j > i then j else i)) M
 | _ => .bad
@[simp] def ZnU (ds : List D) (M : Store) : R3 D := match ds with
 | [.int i, .int j] => .ok (.int (if j < i then j else i)) M
 | _ => .bad
def Zdx (a c : Int) (n : Nat) : List D := (List.range n).map fun (k : Nat) => D.int (a + (k : Int) * c)
def Zb4 (a b c : Int) : Nat := if a < b then ((b - a - 1) / c + 1).toNat else 0
@[simp] def ZiX (f g h : E3) : E3 := fun env M => (f env M).bind fun x M1 => (g env M1).bind fun y M2 => (h env M2).bind fun z M3 => match x, y, z with
 | .int a, .int b, .int c => if 0 < c ∧ c ≤ 1000 ∧ -1000000 ≤ a ∧ a ≤ 1000000 ∧ -1000000 ≤ b ∧ b ≤ 1000000 then alloc (.lst (Zdx a c (Zb4 a b c))) M3 else .bad
 | _, _, _ => .bad
@[simp] def ZnP (a b : D) (M : Store) : R3 D := match a, b with
 | .bl x, .bl y => .ok (.bl (decide (x = y))) M
 | _, _ => .bad
@[simp] def Zfa (a b : D) (M : Store) : R3 D := match b with
 | .ref n => match M[n]? with
  | some (.lst ys) => if Zac a && ys.all Zac then .ok (.bl (ys.any fun y => deq y a)) M else .bad
  | _ => .bad
 | _ => .bad
theorem ZdV : ∀ (k : Nat) (ds : List D) (i : Nat), (ZcH k ds)[i]? = (ds[i]?).map fun d => .tup [.int ((k + i : Nat) : Int), d]
 | _, [], _ => by simp [ZcH]
 | k, d :: ds, 0 => by simp [ZcH]
 | k, d :: ds, i + 1 => by
  simp only [ZcH, List.getElem?_cons_succ, ZdV (k + 1) ds i]
  rw [show k + 1 + i = k + (i + 1) by omega]
theorem ZdU : ∀ (k : Nat) (ds : List D), (ZcH k ds).length = ds.length
 | _, [] => rfl
 | k, d :: ds => by simp [ZcH, ZdU (k + 1) ds]
end
end L3
namespace L3
open PySem PySem.Spec PyProof.Rows L2
abbrev St := L2.St
theorem ZbK : SZ ≤ sizeLine := by rw [sizeLine_eq]; decide
def SqF (K : PySem.W.Frag) (H : Hp) (a : Addr) (xs : List V) : Prop :=
 (∃ o, H a = some (.frz o (.lst xs))) ∨
  ∃ (o : Obj) (its : Array Value) (n : Nat), K.lookup a = some o ∧ o.cls = .type "list" ∧ o.dict = none ∧ o.data = .seq its n ∧ its.size ≤ sizeLine ∧ Vals xs its.toList
theorem SqF.sq {K : PySem.W.Frag} {H : Hp} {a : Addr} {xs : List V} (h : SqF K H a xs) : SqL K H a xs := by
 rcases h with ⟨o, h⟩ | h
 ·exact .inl (.inr ⟨o, h⟩)
 ·exact .inr h
mutual
def Rep (K : PySem.W.Frag) (H : Hp) (ι : List Addr) : D → V → Prop
 | .non, v => v = .non
 | .bl b, v => v = .bl b
 | .int i, v => v = .int i
 | .str x, v => v = .str ⟨x.toArray⟩
 | .tup ds, v => ∃ a vs, v = .ref a ∧ SqT K H a vs ∧ Zv K H ι ds vs
 | .scr ds, v => ∃ a vs, v = .ref a ∧ SqF K H a vs ∧ Zv K H ι ds vs
 | .ref n, v => ∃ a, ι[n]? = some a ∧ v = .ref a
def Zv (K : PySem.W.Frag) (H : Hp) (ι : List Addr) : List D → List V → Prop
 | [], vs => vs = []
 | d :: ds, vs => ∃ v ws, vs = v :: ws ∧ Rep K H ι d v ∧ Zv K H ι ds ws
end
structure Ext (K : PySem.W.Frag) (H : Hp) (ι : List Addr) (H' : Hp) (ι' : List Addr) : Prop where
 tup : ∀ a xs, SqT K H a xs → SqT K H' a xs
 scr : ∀ a xs, SqF K H a xs → SqF K H' a xs
 pre : ∀ (n : Nat) (a : Addr), ι[n]? = some a → ι'[n]? = some a
 frz : ∀ a o u, H a = some (.frz o u) → H' a = some (.frz o u)
section
variable {K : PySem.W.Frag} {H H' H1 H2 : Hp} {ι ι' ι1 ι2 : List Addr}
theorem Ext.refl : Ext K H ι H ι := ⟨fun _ _ h => h, fun _ _ h => h, fun _ _ h => h, fun _ _ _ h => h⟩
theorem Ext.trans (a : Ext K H ι H1 ι1) (b : Ext K H1 ι1 H2 ι2) : Ext K H ι H2 ι2 :=
 ⟨fun x xs h => b.tup x xs (a.tup x xs h), fun x xs h => b.scr x xs (a.scr x xs h), fun n x h => b.pre n x (a.pre n x h), fun x o u h => b.frz x o u (a.frz x o u h)⟩
mutual
theorem Rep.mono (e : Ext K H ι H' ι') : ∀ {d : D} {v : V}, Rep K H ι d v → Rep K H' ι' d v
 | .non, _, h => by simpa [Rep] using h
 | .bl _, _, h => by simpa [Rep] using h
 | .int _, _, h => by simpa [Rep] using h
 | .str _, _, h => by simpa [Rep] using h
 | .tup ds, _, h => by
  simp only [Rep] at h ⊢
  obtain ⟨a, vs, rfl, s, r⟩ := h
  exact ⟨a, vs, rfl, e.tup _ _ s, Zv.mono e (ds := ds) r⟩
 | .scr ds, _, h => by
  simp only [Rep] at h ⊢
  obtain ⟨a, vs, rfl, s, r⟩ := h
  exact ⟨a, vs, rfl, e.scr _ _ s, Zv.mono e (ds := ds) r⟩
 | .ref n, _, h => by
  simp only [Rep] at h ⊢
  obtain ⟨a, s, rfl⟩ := h
  exact ⟨a, e.pre _ _ s, rfl⟩
theorem Zv.mono (e : Ext K H ι H' ι') : ∀ {ds : List D} {vs : List V}, Zv K H ι ds vs → Zv K H' ι' ds vs
 | [], _, h => by simpa [Zv] using h
 | d :: ds, _, h => by
  simp only [Zv] at h ⊢
  obtain ⟨v, ws, rfl, r, q⟩ := h
  exact ⟨v, ws, rfl, Rep.mono e (d := d) r, Zv.mono e (ds := ds) q⟩
end
mutual
theorem Rep.keep (ht : ∀ a xs, SqT K H a xs → SqT K H' a xs) (hs : ∀ a xs, SqF K H a xs → SqF K H' a xs) : ∀ {d : D} {v : V}, Rep K H ι d v → Rep K H' ι d v
 | .non, _, h => by simpa [Rep] using h
 | .bl _, _, h => by simpa [Rep] using h
 | .int _, _, h => by simpa [Rep] using h
 | .str _, _, h => by simpa [Rep] using h
 | .tup ds, _, h => by
  simp only [Rep] at h ⊢
  obtain ⟨a, vs, rfl, s, r⟩ := h
  exact ⟨a, vs, rfl, ht _ _ s, Zv.keep ht hs (ds := ds) r⟩
 | .scr ds, _, h => by
  simp only [Rep] at h ⊢
  obtain ⟨a, vs, rfl, s, r⟩ := h
  exact ⟨a, vs, rfl, hs _ _ s, Zv.keep ht hs (ds := ds) r⟩
 | .ref n, _, h => by simpa [Rep] using h
theorem Zv.keep (ht : ∀ a xs, SqT K H a xs → SqT K H' a xs) (hs : ∀ a xs, SqF K H a xs → SqF K H' a xs) : ∀ {ds : List D} {vs : List V}, Zv K H ι ds vs → Zv K H' ι ds vs
 | [], _, h => by simpa [Zv] using h
 | d :: ds, _, h => by
  simp only [Zv] at h ⊢
  obtain ⟨v, ws, rfl, r, q⟩ := h
  exact ⟨v, ws, rfl, Rep.keep ht hs (d := d) r, Zv.keep ht hs (ds := ds) q⟩
end
theorem Zv.nil : Zv K H ι [] [] := by simp [Zv]
theorem Zv.cons {d : D} {ds : List D} {v : V} {vs : List V} (h : Rep K H ι d v) (t : Zv K H ι ds vs) : Zv K H ι (d :: ds) (v :: vs) := by
 simp only [Zv]
 exact ⟨v, vs, rfl, h, t⟩
theorem Zv.nil_inv {vs : List V} (h : Zv K H ι [] vs) : vs = [] := by simpa [Zv] using h
theorem Zv.cons_inv {d : D} {ds : List D} {vs : List V} (h : Zv K H ι (d :: ds) vs) : ∃ v ws, vs = v :: ws ∧ Rep K H ι d v ∧ Zv K H ι ds ws := by simpa [Zv] using h
theorem Zv.length : ∀ {ds : List D} {vs : List V}, Zv K H ι ds vs → vs.length = ds.length
 | [], _, h => by rw [h.nil_inv]; rfl
 | d :: ds, _, h => by
  obtain ⟨v, ws, rfl, _, q⟩ := h.cons_inv
  simp [q.length]
theorem Zv.append : ∀ {ds es : List D} {vs ws : List V}, Zv K H ι ds vs → Zv K H ι es ws → Zv K H ι (ds ++ es) (vs ++ ws)
 | [], _, _, _, h, q => by rw [h.nil_inv]; exact q
 | d :: ds, _, _, _, h, q => by
  obtain ⟨v, us, rfl, r, t⟩ := h.cons_inv
  exact Zv.cons r (t.append q)
theorem Zv.drop : ∀ {ds : List D} {vs : List V} (n : Nat), Zv K H ι ds vs → Zv K H ι (ds.drop n) (vs.drop n)
 | _, _, 0, h => h
 | [], _, n + 1, h => by rw [h.nil_inv]; exact Zv.nil
 | d :: ds, _, n + 1, h => by
  obtain ⟨v, us, rfl, r, t⟩ := h.cons_inv
  exact t.drop n
theorem Zv.take : ∀ {ds : List D} {vs : List V} (n : Nat), Zv K H ι ds vs → Zv K H ι (ds.take n) (vs.take n)
 | _, _, 0, h => Zv.nil
 | [], _, n + 1, h => by rw [h.nil_inv]; exact Zv.nil
 | d :: ds, _, n + 1, h => by
  obtain ⟨v, us, rfl, r, t⟩ := h.cons_inv
  exact Zv.cons r (t.take n)
theorem Zv.get : ∀ {ds : List D} {vs : List V} {i : Nat} {d : D}, Zv K H ι ds vs → ds[i]? = some d → ∃ v, vs[i]? = some v ∧ Rep K H ι d v
 | [], _, _, _, _, e => by simp at e
 | d :: ds, _, 0, _, h, e => by
  obtain ⟨v, us, rfl, r, t⟩ := h.cons_inv
  simp at e; subst e
  exact ⟨v, rfl, r⟩
 | d :: ds, _, i + 1, _, h, e => by
  obtain ⟨v, us, rfl, r, t⟩ := h.cons_inv
  obtain ⟨w, q, z⟩ := t.get (i := i) (by simpa using e)
  exact ⟨w, by simpa using q, z⟩
theorem Zv.set : ∀ {ds : List D} {vs : List V} {d : D} {v : V} (i : Nat), Zv K H ι ds vs → Rep K H ι d v → Zv K H ι (ds.set i d) (vs.set i v)
 | [], _, _, _, _, h, _ => by rw [h.nil_inv]; exact Zv.nil
 | d :: ds, _, _, _, 0, h, q => by
  obtain ⟨v, us, rfl, r, t⟩ := h.cons_inv
  exact Zv.cons q t
 | d :: ds, _, _, _, i + 1, h, q => by
  obtain ⟨v, us, rfl, r, t⟩ := h.cons_inv
  exact Zv.cons r (t.set i q)
theorem Zv.ints : ∀ (ns : List Int), Zv K H ι (ns.map D.int) (ns.map V.int)
 | [] => Zv.nil
 | n :: ns => Zv.cons (by simp [Rep]) (Zv.ints ns)
theorem Rep.non_inv {v : V} (h : Rep K H ι .non v) : v = .non := by simpa [Rep] using h
theorem Rep.bl_inv {v : V} {b : Bool} (h : Rep K H ι (.bl b) v) : v = .bl b := by simpa [Rep] using h
theorem Rep.int_inv {v : V} {i : Int} (h : Rep K H ι (.int i) v) : v = .int i := by simpa [Rep] using h
theorem Rep.str_inv {v : V} {x : List Nat} (h : Rep K H ι (.str x) v) : v = .str ⟨x.toArray⟩ := by simpa [Rep] using h
theorem Rep.tup_inv {v : V} {ds : List D} (h : Rep K H ι (.tup ds) v) : ∃ a vs, v = .ref a ∧ SqT K H a vs ∧ Zv K H ι ds vs := by simpa [Rep] using h
theorem Rep.scr_inv {v : V} {ds : List D} (h : Rep K H ι (.scr ds) v) : ∃ a vs, v = .ref a ∧ SqF K H a vs ∧ Zv K H ι ds vs := by simpa [Rep] using h
theorem Rep.ref_inv {v : V} {n : Nat} (h : Rep K H ι (.ref n) v) : ∃ a, ι[n]? = some a ∧ v = .ref a := by simpa [Rep] using h
theorem Rep.non : Rep K H ι .non .non := by simp [Rep]
theorem Rep.bl {b : Bool} : Rep K H ι (.bl b) (.bl b) := by simp [Rep]
theorem Rep.int {i : Int} : Rep K H ι (.int i) (.int i) := by simp [Rep]
theorem Rep.str {x : List Nat} : Rep K H ι (.str x) (.str ⟨x.toArray⟩) := by simp [Rep]
theorem Rep.tup {a : Addr} {vs : List V} {ds : List D} (s : SqT K H a vs) (r : Zv K H ι ds vs) : Rep K H ι (.tup ds) (.ref a) := by
 simp only [Rep]; exact ⟨a, vs, rfl, s, r⟩
theorem Rep.ref {a : Addr} {n : Nat} (s : ι[n]? = some a) : Rep K H ι (.ref n) (.ref a) := by
 simp only [Rep]; exact ⟨a, s, rfl⟩
end
def dk : ZaZ → Key
 | .inl i => .inl i
 | .inr x => .inr ⟨x.toArray⟩
def KvR (K : PySem.W.Frag) (H : Hp) (ι : List Addr) (kvs : List (ZaZ × D)) (ws : List (Key × V)) : Prop :=
 ws.map (·.1) = kvs.map (fun p => dk p.1) ∧ Zv K H ι (kvs.map (·.2)) (ws.map (·.2))
def Zdt (K : PySem.W.Frag) (H : Hp) (ι : List Addr) : MO → Addr → Prop
 | .lst xs, a => ∃ vs, H a = some (.lst vs) ∧ Zv K H ι xs vs
 | .dct kvs, a => ∃ ws, H a = some (.dK ws) ∧ KvR K H ι kvs ws
 | .fdct kvs, a => ∃ ws, (∃ o, H a = some (.frz o (.dK ws))) ∧ KvR K H ι kvs ws
structure Zal (K : PySem.W.Frag) (H : Hp) (ι : List Addr) (M : Store) : Prop where
 len : ι.length = M.length
 nd : ι.Nodup
 obj : ∀ (n : Nat) o a, M[n]? = some o → ι[n]? = some a → Zdt K H ι o a
def Loose (H : Hp) (p : Addr) : Prop := H p = none ∨ (∃ vs, H p = some (.lst vs)) ∨ ∃ ws, H p = some (.dK ws)
section
variable {K : PySem.W.Frag} {H H' : Hp} {ι ι' : List Addr} {M : Store} {p : Addr} {o : HO}
theorem Loose.ne {a : Addr} {u : HO} (l : Loose H p) (h : H a = some u) (h1 : ∀ vs, u ≠ .lst vs) (h2 : ∀ ws, u ≠ .dK ws) : a ≠ p := by
 rintro rfl
 rcases l with l | ⟨vs, l⟩ | ⟨ws, l⟩
 ·rw [h] at l; cases l
 ·rw [h] at l; exact h1 vs (Option.some.inj l)
 ·rw [h] at l; exact h2 ws (Option.some.inj l)
theorem Loose.tup (l : Loose H p) {a : Addr} {xs : List V} (h : SqT K H a xs) : SqT K (upd H p o) a xs := by
 rcases h with (h | ⟨ob, h⟩) | h
 ·exact .inl (.inl (by rw [ZaW (l.ne h (fun _ z => nomatch z) (fun _ z => nomatch z))]; exact h))
 ·exact .inl (.inr ⟨ob, by rw [ZaW (l.ne h (fun _ z => nomatch z) (fun _ z => nomatch z))]; exact h⟩)
 ·exact .inr h
theorem Loose.scr (l : Loose H p) {a : Addr} {xs : List V} (h : SqF K H a xs) : SqF K (upd H p o) a xs := by
 rcases h with ⟨ob, h⟩ | h
 ·exact .inl ⟨ob, by rw [ZaW (l.ne h (fun _ z => nomatch z) (fun _ z => nomatch z))]; exact h⟩
 ·exact .inr h
theorem Loose.frz (l : Loose H p) {a : Addr} {ob : Obj} {u : HO} (h : H a = some (.frz ob u)) : upd H p o a = some (.frz ob u) := by
 rw [ZaW (l.ne h (fun _ z => nomatch z) (fun _ z => nomatch z))]; exact h
theorem Loose.ext (l : Loose H p) : Ext K H ι (upd H p o) ι := ⟨fun _ _ h => l.tup h, fun _ _ h => l.scr h, fun _ _ h => h, fun _ _ _ h => l.frz h⟩
theorem Loose.extA (l : Loose H p) : Ext K H ι (upd H p o) (ι ++ [p]) := ⟨fun _ _ h => l.tup h, fun _ _ h => l.scr h, fun n a h => by
 rw [List.getElem?_append_left (List.getElem?_eq_some_iff.mp h).1]; exact h, fun _ _ _ h => l.frz h⟩
theorem Zdt.mono {m : MO} {a : Addr} (e : Ext K H ι H' ι') (h : Zdt K H ι m a) (k : H' a = H a) : Zdt K H' ι' m a := by
 cases m with
 | lst xs => obtain ⟨vs, q, r⟩ := h; exact ⟨vs, k.trans q, r.mono e⟩
 | dct kvs => obtain ⟨ws, q, r1, r2⟩ := h; exact ⟨ws, k.trans q, r1, r2.mono e⟩
 | fdct kvs => obtain ⟨ws, ⟨o, q⟩, r1, r2⟩ := h; exact ⟨ws, ⟨o, k.trans q⟩, r1, r2.mono e⟩
theorem Zdt.ne {m : MO} {a : Addr} (h : Zdt K H ι m a) : H a ≠ none := by
 cases m with
 | lst xs => obtain ⟨vs, q, r⟩ := h; rw [q]; simp
 | dct kvs => obtain ⟨ws, q, r⟩ := h; rw [q]; simp
 | fdct kvs => obtain ⟨ws, ⟨o, q⟩, r⟩ := h; rw [q]; simp
theorem Zal.at (S : Zal K H ι M) {n : Nat} {m : MO} (h : M[n]? = some m) : ∃ a, ι[n]? = some a ∧ Zdt K H ι m a := by
 have hn : n < ι.length := by rw [S.len]; exact (List.getElem?_eq_some_iff.mp h).1
 exact ⟨ι[n], by simp [hn], S.obj n m _ h (by simp [hn])⟩
theorem Zal.there (S : Zal K H ι M) {n : Nat} {a : Addr} (h : ι[n]? = some a) : ∃ m, M[n]? = some m ∧ Zdt K H ι m a := by
 have hn : n < M.length := by rw [← S.len]; exact (List.getElem?_eq_some_iff.mp h).1
 exact ⟨M[n], by simp [hn], S.obj n _ _ (by simp [hn]) h⟩
theorem Zal.fresh (S : Zal K H ι M) (hp : H p = none) : p ∉ ι := fun h => by
 obtain ⟨n, hn⟩ := List.getElem?_of_mem h
 obtain ⟨m, _, q⟩ := S.there hn
 exact q.ne hp
theorem Zal.other (S : Zal K H ι M) (l : Loose H p) (hp : p ∉ ι) : Zal K (upd H p o) ι M :=
 ⟨S.len, S.nd, fun n m a h1 h2 => (S.obj n m a h1 h2).mono l.ext (by
  rw [ZaW]; rintro rfl; exact hp (List.mem_of_getElem? h2))⟩
theorem Zal.new (S : Zal K H ι M) (hp : H p = none) {m : MO} (h : Zdt K (upd H p o) (ι ++ [p]) m p) : Zal K (upd H p o) (ι ++ [p]) (M ++ [m]) := by
 have hf := S.fresh hp
 refine ⟨by simp [S.len], ?_, fun n m' a h1 h2 => ?_⟩
 ·exact List.nodup_append.mpr ⟨S.nd, by simp, fun x hx y hy => by
   have e : y = p := by simpa using hy
   subst e
   rintro rfl
   exact hf hx⟩
 ·by_cases hn : n < ι.length
  ·rw [List.getElem?_append_left hn] at h2
   rw [List.getElem?_append_left (by rw [← S.len]; exact hn)] at h1
   refine (S.obj n m' a h1 h2).mono (Loose.extA (.inl hp)) ?_
   rw [ZaW]
   rintro rfl
   exact hf (List.mem_of_getElem? h2)
  ·rw [List.getElem?_append_right (by omega)] at h2
   rw [List.getElem?_append_right (by rw [← S.len]; omega)] at h1
   have hlt : n - ι.length < 1 := by
    have := (List.getElem?_eq_some_iff.mp h2).1
    simpa using this
   have e0 : n - ι.length = 0 := by omega
   rw [e0] at h2
   rw [← S.len, e0] at h1
   simp at h1 h2
   subst h1 h2
   exact h
theorem Zal.put (S : Zal K H ι M) {n : Nat} (l0 : Loose H p) (hn : ι[n]? = some p) {m : MO} (h : Zdt K (upd H p o) ι m p) : Zal K (upd H p o) ι (M.set n m) := by
 obtain ⟨m0, hm0, q0⟩ := S.there hn
 refine ⟨by simp [S.len], S.nd, fun k m' a h1 h2 => ?_⟩
 by_cases hk : k = n
 ·subst hk
  rw [hn] at h2
  cases h2
  have hlt : k < M.length := (List.getElem?_eq_some_iff.mp hm0).1
  rw [List.getElem?_set_self hlt] at h1
  cases h1
  exact h
 ·rw [List.getElem?_set_ne (Ne.symm hk)] at h1
  refine (S.obj k m' a h1 h2).mono (Loose.ext l0) ?_
  rw [ZaW]
  rintro rfl
  have hlt1 := (List.getElem?_eq_some_iff.mp h2)
  have hlt2 := (List.getElem?_eq_some_iff.mp hn)
  exact hk ((List.getElem_inj S.nd).mp (hlt1.2.trans hlt2.2.symm))
theorem Zal.lst (S : Zal K H ι M) (hp : H p = none) {xs : List D} {vs : List V} (r : Zv K H ι xs vs) : Ext K H ι (upd H p (.lst vs)) (ι ++ [p]) ∧ Zal K (upd H p (.lst vs)) (ι ++ [p]) (M ++ [.lst xs]) ∧ Rep K (upd H p (.lst vs)) (ι ++ [p]) (.ref M.length) (.ref p) := by
 have e : Ext K H ι (upd H p (.lst vs)) (ι ++ [p]) := Loose.extA (.inl hp)
 refine ⟨e, S.new hp ⟨vs, ZcN, r.mono e⟩, Rep.ref ?_⟩
 rw [← S.len]; simp
theorem Zal.tupl (S : Zal K H ι M) (hp : H p = none) {xs : List D} {vs : List V} (r : Zv K H ι xs vs) : Ext K H ι (upd H p (.tup vs)) ι ∧ Zal K (upd H p (.tup vs)) ι M ∧ Rep K (upd H p (.tup vs)) ι (.tup xs) (.ref p) := by
 have e : Ext K H ι (upd H p (.tup vs)) ι := Loose.ext (.inl hp)
 exact ⟨e, S.other (.inl hp) (S.fresh hp), Rep.tup (SqT.of ZcN) (r.mono e)⟩
theorem Zal.setl (S : Zal K H ι M) {n : Nat} (l0 : Loose H p) (hn : ι[n]? = some p) {xs : List D} {vs : List V} (r : Zv K H ι xs vs) : Ext K H ι (upd H p (.lst vs)) ι ∧ Zal K (upd H p (.lst vs)) ι (M.set n (.lst xs)) := by
 have e : Ext K H ι (upd H p (.lst vs)) ι := Loose.ext l0
 exact ⟨e, S.put l0 hn ⟨vs, ZcN, r.mono e⟩⟩
end
def Zbm (K : PySem.W.Frag) (H : Hp) (ι : List Addr) (env : ZaD) (σ : St) : Prop :=
 env.length = σ.length ∧ ∀ (i : Nat) d, env[i]? = some (some d) → ∃ v, σ[i]? = some (some v) ∧ Rep K H ι d v
theorem Zbm.mono {K : PySem.W.Frag} {H H' : Hp} {ι ι' : List Addr} {env : ZaD} {σ : St} (r : Zbm K H ι env σ) (e : Ext K H ι H' ι') : Zbm K H' ι' env σ :=
 ⟨r.1, fun i d h => let ⟨v, q, z⟩ := r.2 i d h; ⟨v, q, z.mono e⟩⟩
theorem Zbm.set {K : PySem.W.Frag} {H : Hp} {ι : List Addr} {env : ZaD} {σ : St} {d : D} {v : V} (r : Zbm K H ι env σ) (i : Nat) (h : Rep K H ι d v) : Zbm K H ι (env.set i (some d)) (σ.set i (some v)) := by
 refine ⟨by simp [r.1], fun j e hj => ?_⟩
 by_cases hij : j = i
 ·subst hij
  have hlt : j < env.length := by
   have := (List.getElem?_eq_some_iff.mp hj).1
   simpa using this
  rw [List.getElem?_set_self hlt] at hj
  cases hj
  exact ⟨v, by rw [List.getElem?_set_self (by rw [← r.1]; exact hlt)], h⟩
 ·rw [List.getElem?_set_ne (Ne.symm hij)] at hj
  obtain ⟨w, q, z⟩ := r.2 j e hj
  exact ⟨w, by rw [List.getElem?_set_ne (Ne.symm hij)]; exact q, z⟩
def Zae (K : PySem.W.Frag) (H : Hp) (ι : List Addr) (Q : VK) (r : R3 D) : Prop := match r with
 | .ok d M' => ∀ v H' ι', Ext K H ι H' ι' → Zal K H' ι' M' → Rep K H' ι' d v → Q v H'
 | _ => False
def tOf (K : PySem.W.Frag) (f : E3) : TE := fun σ H Q => ∃ ι M env, Zal K H ι M ∧ Zbm K H ι env σ ∧ Zae K H ι Q (f env M)
def ZeB (K : PySem.W.Frag) (H : Hp) (ι : List Addr) (Q : Bool → Hp → Prop) (r : R3 D) : Prop := match r with
 | .ok (.bl b) M' => ∀ H' ι', Ext K H ι H' ι' → Zal K H' ι' M' → Q b H'
 | _ => False
def tTf (K : PySem.W.Frag) (f : E3) : TT := fun σ H Q => ∃ ι M env, Zal K H ι M ∧ Zbm K H ι env σ ∧ ZeB K H ι Q (f env M)
def ZhW (K : PySem.W.Frag) (H : Hp) (ι : List Addr) (Q : List V → Hp → Prop) (r : R3 (List D)) : Prop := match r with
 | .ok ds M' => ∀ vs H' ι', Ext K H ι H' ι' → Zal K H' ι' M' → Zv K H' ι' ds vs → Q vs H'
 | _ => False
def tAf (K : PySem.W.Frag) (f : EL3) : TA := fun σ H Q => ∃ ι M env, Zal K H ι M ∧ Zbm K H ι env σ ∧ ZhW K H ι Q (f env M)
def Zi3 (K : PySem.W.Frag) (H : Hp) (ι : List Addr) (Q : Option Int → Hp → Prop) (r : R3 (Option Int)) : Prop := match r with
 | .ok o M' => ∀ H' ι', Ext K H ι H' ι' → Zal K H' ι' M' → Q o H'
 | _ => False
def tOo (K : PySem.W.Frag) (f : EO3) : TO := fun σ H Q => ∃ ι M env, Zal K H ι M ∧ Zbm K H ι env σ ∧ Zi3 K H ι Q (f env M)
def Zdg (K : PySem.W.Frag) (H : Hp) (ι : List Addr) (E : Ends) (r : O3) : Prop := match r with
 | .nx env' M' => ∀ σ' H' ι', Ext K H ι H' ι' → Zal K H' ι' M' → Zbm K H' ι' env' σ' → E.nx σ' H'
 | .bk env' M' => ∀ σ' H' ι', Ext K H ι H' ι' → Zal K H' ι' M' → Zbm K H' ι' env' σ' → E.bk σ' H'
 | .ct env' M' => ∀ σ' H' ι', Ext K H ι H' ι' → Zal K H' ι' M' → Zbm K H' ι' env' σ' → E.ct σ' H'
 | .rt d M' => ∀ v H' ι', Ext K H ι H' ι' → Zal K H' ι' M' → Rep K H' ι' d v → E.rt v H'
 | _ => False
def tSf (K : PySem.W.Frag) (f : S3) : TS := fun E σ H => ∃ ι M env, Zal K H ι M ∧ Zbm K H ι env σ ∧ Zdg K H ι E (f env M)
def C3 (X : Cx) (e : Expr) (f : E3) : Prop := PE X e (tOf X.K f)
def CT (X : Cx) (e : Expr) (f : E3) : Prop := PT X e (tTf X.K f)
def CA (X : Cx) (es : List Expr) (f : EL3) : Prop := PA X es (tAf X.K f)
def CO (X : Cx) (e : Option Expr) (f : EO3) : Prop := PO X e (tOo X.K f)
def CS (X : Cx) (st : Stmt) (f : S3) : Prop := PS X st (tSf X.K f)
def CSs (X : Cx) (st : List Stmt) (f : S3) : Prop := PSs X st (tSf X.K f)
theorem _root_.L2.PE.imp {X : Cx} {e : Expr} {t t' : TE} (h : PE X e t) (i : ∀ σ H Q, t' σ H Q → t σ H Q) : PE X e t' := fun pins s σ H Q I q => h pins s σ H Q I (i σ H Q q)
theorem _root_.L2.PT.imp {X : Cx} {e : Expr} {t t' : TT} (h : PT X e t) (i : ∀ σ H Q, t' σ H Q → t σ H Q) : PT X e t' := fun pins s σ H Q I q => h pins s σ H Q I (i σ H Q q)
theorem _root_.L2.PA.imp {X : Cx} {e : List Expr} {t t' : TA} (h : PA X e t) (i : ∀ σ H Q, t' σ H Q → t σ H Q) : PA X e t' := fun pos pins s σ H Q I q => h pos pins s σ H Q I (i σ H Q q)
theorem _root_.L2.PO.imp {X : Cx} {e : Option Expr} {t t' : TO} (h : PO X e t) (i : ∀ σ H Q, t' σ H Q → t σ H Q) : PO X e t' := fun pins s σ H Q I q => h pins s σ H Q I (i σ H Q q)
theorem _root_.L2.PS.imp {X : Cx} {e : Stmt} {t t' : TS} (h : PS X e t) (i : ∀ D σ H, t' D σ H → t D σ H) : PS X e t' := fun pins s σ H D I q => h pins s σ H D I (i D σ H q)
theorem _root_.L2.PSs.imp {X : Cx} {e : List Stmt} {t t' : TS} (h : PSs X e t) (i : ∀ D σ H, t' D σ H → t D σ H) : PSs X e t' := fun pins s σ H D I q => h pins s σ H D I (i D σ H q)
theorem _root_.L2.OpR.imp {X : Cx} {f : Value → Value → Sem Value} {r r' : R2} (h : OpR X f r) (i : ∀ x y H Q, r' x y H Q → r x y H Q) : OpR X f r' := fun pins s σ H x y v u Q I rx ry q => h pins s σ H x y v u Q I rx ry (i x y H Q q)
theorem _root_.L2.UnR.imp {X : Cx} {f : Value → Sem Value} {r r' : V → Hp → VK → Prop} (h : UnR X f r) (i : ∀ x H Q, r' x H Q → r x H Q) : UnR X f r' := fun pins s σ H x v Q I rx q => h pins s σ H x v Q I rx (i x H Q q)
theorem _root_.L2.Zbb.imp {X : Cx} {f : Value} {r r' : List V → Hp → VK → Prop} (h : Zbb X f r) (i : ∀ x H Q, r' x H Q → r x H Q) : Zbb X f r' := fun pins s σ H xs us Q I rx q => h pins s σ H xs us Q I rx (i xs H Q q)
theorem _root_.L2.IxR.imp {X : Cx} {r r' : R2} (h : IxR X r) (i : ∀ x y H Q, r' x y H Q → r x y H Q) : IxR X r' := fun value slice pins s σ H x y v u Q I rx ry q hs => h value slice pins s σ H x y v u Q I rx ry (i x y H Q q) hs
theorem _root_.L2.SlR.imp {X : Cx} {r r' : V → Option Int → Option Int → Hp → VK → Prop} (h : SlR X r) (i : ∀ x lo hi H Q, r' x lo hi H Q → r x lo hi H Q) : SlR X r' := fun pins s σ H x v vl vu lo hi sl Q I rx hs pl pu q => h pins s σ H x v vl vu lo hi sl Q I rx hs pl pu (i x lo hi H Q q)
section
variable {K : PySem.W.Frag} {H H1 : Hp} {ι ι1 : List Addr}
theorem Zae.up {Q : VK} {r : R3 D} (e : Ext K H ι H1 ι1) (h : Zae K H ι Q r) : Zae K H1 ι1 Q r := by
 cases r with
 | ok d M => exact fun v H' ι' e' S r => h v H' ι' (e.trans e') S r
 | exc x M => exact h
 | bad => exact h
theorem ZeB.up {Q : Bool → Hp → Prop} {r : R3 D} (e : Ext K H ι H1 ι1) (h : ZeB K H ι Q r) : ZeB K H1 ι1 Q r := by
 cases r with
 | ok d M => cases d <;> first | exact h | exact fun H' ι' e' S => h H' ι' (e.trans e') S
 | exc x M => exact h
 | bad => exact h
theorem Zdg.up {Q : Ends} {r : O3} (e : Ext K H ι H1 ι1) (h : Zdg K H ι Q r) : Zdg K H1 ι1 Q r := by
 cases r with
 | nx d M => exact fun v H' ι' e' S r => h v H' ι' (e.trans e') S r
 | bk d M => exact fun v H' ι' e' S r => h v H' ι' (e.trans e') S r
 | ct d M => exact fun v H' ι' e' S r => h v H' ι' (e.trans e') S r
 | rt d M => exact fun v H' ι' e' S r => h v H' ι' (e.trans e') S r
 | exc x M => exact h
 | bad => exact h
theorem Zae.ok {Q : VK} {d : D} {M : Store} {v : V} (h : Zae K H ι Q (.ok d M)) (S : Zal K H ι M) (r : Rep K H ι d v) : Q v H := h v H ι Ext.refl S r
theorem Zae.bind {α : Type} {Q : VK} {r : R3 α} {k : α → Store → R3 D} (h : Zae K H ι Q (r.bind k)) : ∃ a M, r = .ok a M ∧ Zae K H ι Q (k a M) := by
 cases r with
 | ok a M => exact ⟨a, M, rfl, h⟩
 | exc x M => exact h.elim
 | bad => exact h.elim
theorem ZhW.bind {α : Type} {Q : List V → Hp → Prop} {r : R3 α} {k : α → Store → R3 (List D)} (h : ZhW K H ι Q (r.bind k)) : ∃ a M, r = .ok a M ∧ ZhW K H ι Q (k a M) := by
 cases r with
 | ok a M => exact ⟨a, M, rfl, h⟩
 | exc x M => exact h.elim
 | bad => exact h.elim
theorem Zi3.bind {α : Type} {Q : Option Int → Hp → Prop} {r : R3 α} {k : α → Store → R3 (Option Int)} (h : Zi3 K H ι Q (r.bind k)) : ∃ a M, r = .ok a M ∧ Zi3 K H ι Q (k a M) := by
 cases r with
 | ok a M => exact ⟨a, M, rfl, h⟩
 | exc x M => exact h.elim
 | bad => exact h.elim
theorem ZeB.bind {α : Type} {Q : Bool → Hp → Prop} {r : R3 α} {k : α → Store → R3 D} (h : ZeB K H ι Q (r.bind k)) : ∃ a M, r = .ok a M ∧ ZeB K H ι Q (k a M) := by
 cases r with
 | ok a M => exact ⟨a, M, rfl, h⟩
 | exc x M => exact h.elim
 | bad => exact h.elim
end
def r2 (K : PySem.W.Frag) (op : D → D → Store → R3 D) : R2 := fun x y H Q => ∃ ι M a b, Zal K H ι M ∧ Rep K H ι a x ∧ Rep K H ι b y ∧ Zae K H ι Q (op a b M)
def r1 (K : PySem.W.Frag) (op : D → Store → R3 D) : V → Hp → VK → Prop := fun x H Q => ∃ ι M a, Zal K H ι M ∧ Rep K H ι a x ∧ Zae K H ι Q (op a M)
def rB (K : PySem.W.Frag) (b : List D → Store → R3 D) : List V → Hp → VK → Prop := fun xs H Q => ∃ ι M ds, Zal K H ι M ∧ Zv K H ι ds xs ∧ Zae K H ι Q (b ds M)
def rM (K : PySem.W.Frag) (m : D → List D → Store → R3 D) : V → List V → Hp → VK → Prop := fun x xs H Q => ∃ ι M a ds, Zal K H ι M ∧ Rep K H ι a x ∧ Zv K H ι ds xs ∧ Zae K H ι Q (m a ds M)
def rS (K : PySem.W.Frag) : V → Option Int → Option Int → Hp → VK → Prop := fun x lo hi H Q => ∃ ι M a, Zal K H ι M ∧ Rep K H ι a x ∧ Zae K H ι Q (Zeb a lo hi M)
theorem Zfy {K : PySem.W.Frag} {op : D → D → Store → R3 D} {f g : E3} (σ : St) (H : Hp) (Q : VK) (h : tOf K (e2 op f g) σ H Q) : tOp (r2 K op) (tOf K f) (tOf K g) σ H Q := by
 obtain ⟨ι, M, env, S, E, h⟩ := h
 obtain ⟨a, M1, e1, h⟩ := Zae.bind h
 obtain ⟨b, M2, e2, h⟩ := Zae.bind h
 refine ⟨ι, M, env, S, E, ?_⟩
 rw [e1]
 intro v H1 ι1 x1 S1 r1
 refine ⟨ι1, M1, env, S1, E.mono x1, ?_⟩
 rw [e2]
 intro u H2 ι2 x2 S2 r2
 exact ⟨ι2, M2, a, b, S2, r1.mono x2, r2, (h.up x1).up x2⟩
theorem ZlH {K : PySem.W.Frag} {op : D → Store → R3 D} {f : E3} (σ : St) (H : Hp) (Q : VK) (h : tOf K (e1 op f) σ H Q) : tUn (r1 K op) (tOf K f) σ H Q := by
 obtain ⟨ι, M, env, S, E, h⟩ := h
 obtain ⟨a, M1, e1, h⟩ := Zae.bind h
 refine ⟨ι, M, env, S, E, ?_⟩
 rw [e1]
 intro v H1 ι1 x1 S1 r1
 exact ⟨ι1, M1, a, S1, r1, h.up x1⟩
section
variable {X : Cx} {a b c e o : Expr} {es : List Expr} {pos p : Pos} {f g h : E3} {gl : EL3}
theorem Zd (i : Nat) {x : Str} (hN : X.N[i]? = some x := by rfl) (hv : Vis X.env.scope x := by first | exact Or.inl rfl | exact Or.inr (Or.inl rfl) | exact Or.inr (Or.inr rfl)) (hd : (x == ("__debug__" : Str)) = false := by decide)
  (hcd : (x == ("__classdict__" : Str)) = false := by decide) : C3 X (.Name x pos) (Zb i) := (Zlr hN hv hd hcd).imp fun σ H Q ⟨ι, M, env, S, E, h⟩ => by
 unfold Zb at h
 cases q : env[i]? with
 | none => rw [q] at h; exact h.elim
 | some od =>
  cases od with
  | none => rw [q] at h; exact h.elim
  | some d =>
   rw [q] at h
   obtain ⟨v, e1, r⟩ := E.2 i d q
   exact ⟨v, e1, Zae.ok h S r⟩
theorem Zi {i j} : C3 X (.Constant (.int i) j pos) (eC (.int i)) := ZkS.imp fun σ H Q ⟨ι, M, env, S, E, h⟩ => Zae.ok h S Rep.int
theorem Zjm {i j} : C3 X (.Constant (.bool i) j pos) (eC (.bl i)) := ZmB.imp fun σ H Q ⟨ι, M, env, S, E, h⟩ => Zae.ok h S Rep.bl
theorem Zdj {j} : C3 X (.Constant .none j pos) (eC .non) := Zku.imp fun σ H Q ⟨ι, M, env, S, E, h⟩ => Zae.ok h S Rep.non
theorem ZaI {x : Str} {cs : List Nat} {j} (hx : x = ⟨cs.toArray⟩ := by decide +kernel) : C3 X (.Constant (.str x) j pos) (eC (.str cs)) := ZkP.imp fun σ H Q ⟨ι, M, env, S, E, h⟩ => by
 subst hx
 exact Zae.ok h S Rep.str
theorem Zu {op : Operator} {q : D → D → Store → R3 D} (ho : OpR X (binaryOp op) (r2 X.K q)) (ha : C3 X a f) (hb : C3 X b g) : C3 X (.BinOp a op b pos) (e2 q f g) := (ZmI ho ha hb).imp Zfy
theorem ZhS {op : UnaryOp} {q : D → Store → R3 D} (ho : UnR X (unaryOp op) (r1 X.K q)) (ha : C3 X a f) : C3 X (.UnaryOp op a pos) (e1 q f) := (Zmt ho ha).imp ZlH
theorem ZdZ {op : CmpOp} {q : D → D → Store → R3 D} (ho : OpR X (compareOp op) (r2 X.K q)) (ha : C3 X a f) (hb : C3 X b g) (hm : behindInMarks op b = false := by rfl) : C3 X (.Compare a [op] [b] pos) (e2 q f g) := (ZjX ho ha hb hm).imp Zfy
theorem Zfo {K : PySem.W.Frag} {H : Hp} {ι : List Addr} {Q : Bool → Hp → Prop} {r : R3 D} (h : ZeB K H ι Q r) : Zae K H ι (fun x H' => ∃ k, x = .bl k ∧ Q k H') r := by
 cases r with
 | ok d M =>
  cases d with
  | bl b => exact fun v H' ι' e S r => ⟨b, r.bl_inv, h H' ι' e S⟩
  | _ => exact h.elim
 | exc x M => exact h.elim
 | bad => exact h.elim
theorem Zeo (h : C3 X e f) (he : ∀ whole, isTrue e X.env whole = (do let v ← whole; standAt e.pos; holding [v] (truthy v)) := by intro _; rfl) : CT X e f := (Zle h he).imp fun σ H Q ⟨ι, M, env, S, E, h⟩ => ⟨ι, M, env, S, E, Zfo h⟩
theorem Zaf {op : CmpOp} {q : D → D → Store → R3 D} (ho : OpR X (compareOp op) (r2 X.K q)) (ha : C3 X a f) (hb : C3 X b g) (hm : behindInMarks op b = false := by rfl) : CT X (.Compare a [op] [b] pos) (e2 q f g) :=
 (ZjB ho ha hb hm).imp fun σ H Q ⟨ι, M, env, S, E, h⟩ => Zfy σ H _ ⟨ι, M, env, S, E, Zfo h⟩
end
end L3
namespace L3
open PySem PySem.Spec PyProof.Rows L2
section
variable {X : Cx} {a b c e o : Expr} {es rest : List Expr} {pos p : Pos} {f g h : E3} {gl : EL3}
theorem Zg6 {op} (h : C3 X a f) : C3 X (.BoolOp op [a] pos) f := Zkv h
theorem Zgl (ha : C3 X a f) (hb : C3 X (.BoolOp .And (b :: rest) pos) g) : C3 X (.BoolOp .And (a :: b :: rest) pos) (Zc9 f g) := (ZkL ha hb).imp fun σ H Q ⟨ι, M, env, S, E, h⟩ => by
 obtain ⟨d, M1, e1, h⟩ := Zae.bind h
 refine ⟨ι, M, env, S, E, ?_⟩
 rw [e1]
 intro v H1 ι1 x1 S1 r1
 cases d with
 | bl k =>
  refine ⟨k, r1.bl_inv, ?_⟩
  cases k with
  | true => rw [if_pos rfl]; exact ⟨ι1, M1, env, S1, E.mono x1, h.up x1⟩
  | false => rw [if_neg (by decide)]; exact Zae.ok (h.up x1) S1 Rep.bl
 | _ => exact h.elim
theorem Zmo (ha : C3 X a f) : C3 X (.UnaryOp .Not a pos) (e1 ZcI f) := (Zlb ha).imp fun σ H Q ⟨ι, M, env, S, E, h⟩ => by
 obtain ⟨d, M1, e1, h⟩ := Zae.bind h
 refine ⟨ι, M, env, S, E, ?_⟩
 rw [e1]
 intro v H1 ι1 x1 S1 r1
 cases d with
 | bl k => exact ⟨k, r1.bl_inv, Zae.ok (h.up x1) S1 Rep.bl⟩
 | _ => exact h.elim
def CW (X : Cx) (e : Expr) (f : E3) : Prop := PW X e (tTf X.K f)
theorem CW.ct (h : CW X e f) : CT X e f := PW.pt h
theorem PW.imp {t t' : TT} (h : PW X e t) (i : ∀ σ H Q, t' σ H Q → t σ H Q) : PW X e t' := fun wh pins s σ H Q I q => h wh pins s σ H Q I (i σ H Q q)
theorem Zei (ha : CT X a f) : CW X (.BoolOp .And [a] pos) f := ZjF ha
theorem ZgM (ha : CT X a f) : CW X (.BoolOp .Or [a] pos) f := ZkB ha
theorem Zfw (ha : CT X a f) (hb : CW X (.BoolOp .And (b :: rest) pos) g) : CW X (.BoolOp .And (a :: b :: rest) pos) (Zc9 f g) := PW.imp (ZkZ ha hb) fun σ H Q ⟨ι, M, env, S, E, h⟩ => by
 obtain ⟨d, M1, e1, h⟩ := ZeB.bind h
 refine ⟨ι, M, env, S, E, ?_⟩
 rw [e1]
 cases d with
 | bl k =>
  intro H1 ι1 x1 S1
  cases k with
  | true => rw [if_pos rfl]; exact ⟨ι1, M1, env, S1, E.mono x1, h.up x1⟩
  | false => rw [if_neg (by decide)]; exact h H1 ι1 x1 S1
 | _ => exact h.elim
theorem Zhi (ha : CT X a f) (hb : CW X (.BoolOp .Or (b :: rest) pos) g) : CW X (.BoolOp .Or (a :: b :: rest) pos) (eOr f g) := PW.imp (Zms ha hb) fun σ H Q ⟨ι, M, env, S, E, h⟩ => by
 obtain ⟨d, M1, e1, h⟩ := ZeB.bind h
 refine ⟨ι, M, env, S, E, ?_⟩
 rw [e1]
 cases d with
 | bl k =>
  intro H1 ι1 x1 S1
  cases k with
  | false => rw [if_neg (by decide)]; exact ⟨ι1, M1, env, S1, E.mono x1, h.up x1⟩
  | true => rw [if_pos rfl]; exact h H1 ι1 x1 S1
 | _ => exact h.elim
theorem ZfA (ha : CT X a f) : CT X (.UnaryOp .Not a pos) (e1 ZcI f) := (ZkV ha).imp fun σ H Q ⟨ι, M, env, S, E, h⟩ => by
 obtain ⟨d, M1, e1, h⟩ := ZeB.bind h
 refine ⟨ι, M, env, S, E, ?_⟩
 rw [e1]
 cases d with
 | bl k => exact fun H1 ι1 x1 S1 => h H1 ι1 x1 S1
 | _ => exact h.elim
theorem Zk9 (hc : CT X c f) (ha : C3 X a g) (hb : C3 X b h) : C3 X (.IfExp c a b pos) (eIf f g h) := (Zie hc ha hb).imp fun σ H Q ⟨ι, M, env, S, E, h⟩ => by
 obtain ⟨d, M1, e1, h⟩ := Zae.bind h
 refine ⟨ι, M, env, S, E, ?_⟩
 rw [e1]
 cases d with
 | bl k =>
  intro H1 ι1 x1 S1
  cases k with
  | true => rw [if_pos rfl]; exact ⟨ι1, M1, env, S1, E.mono x1, h.up x1⟩
  | false => rw [if_neg (by decide)]; exact ⟨ι1, M1, env, S1, E.mono x1, h.up x1⟩
 | _ => exact h.elim
theorem Zn : CA X [] Zj := ZiR.imp fun σ H Q ⟨ι, M, env, S, E, h⟩ => h [] H ι Ext.refl S Zv.nil
theorem Zc (ha : C3 X e f) (hr : CA X es gl) (hs : starEach (e :: es) X.env = (false, eval e X.env) :: starEach es X.env := by rfl) : CA X (e :: es) (Za f gl) := (Zfx ha hr hs).imp fun σ H Q ⟨ι, M, env, S, E, h⟩ => by
 obtain ⟨d, M1, e1, h⟩ := ZhW.bind h
 obtain ⟨ds, M2, e2, h⟩ := ZhW.bind h
 refine ⟨ι, M, env, S, E, ?_⟩
 rw [e1]
 intro v H1 ι1 x1 S1 r1
 refine ⟨ι1, M1, env, S1, E.mono x1, ?_⟩
 rw [e2]
 intro vs H2 ι2 x2 S2 r2
 exact h (v :: vs) H2 ι2 (x1.trans x2) S2 (Zv.cons (r1.mono x2) r2)
theorem ZbW {x1} (h : CA X es gl) : C3 X (.Tuple es x1 pos) (Za4 gl) := (ZlE h).imp fun σ H Q ⟨ι, M, env, S, E, h⟩ => by
 obtain ⟨ds, M1, e1, h⟩ := Zae.bind h
 refine ⟨ι, M, env, S, E, ?_⟩
 rw [e1]
 intro vs H1 ι1 x1 S1 r1
 by_cases hz : ds.length ≤ SZ
 ·rw [if_pos hz] at h
  refine ⟨by rw [r1.length]; exact Nat.le_trans hz ZbK, fun p hp => ?_⟩
  obtain ⟨x2, S2, r2⟩ := S1.tupl hp r1
  exact h _ _ _ (x1.trans x2) S2 r2
 ·rw [if_neg hz] at h; exact h.elim
theorem ZcG (h : CA X es gl) : C3 X (.List es pos) (Zb9 gl) := (Zlu h).imp fun σ H Q ⟨ι, M, env, S, E, h⟩ => by
 obtain ⟨ds, M1, e1, h⟩ := Zae.bind h
 refine ⟨ι, M, env, S, E, ?_⟩
 rw [e1]
 intro vs H1 ι1 x1 S1 r1
 by_cases hz : ds.length ≤ SZ
 ·rw [if_pos hz] at h
  refine ⟨by rw [r1.length]; exact Nat.le_trans hz ZbK, fun p hp => ?_⟩
  obtain ⟨x2, S2, r2⟩ := S1.lst hp r1
  exact h _ _ _ (x1.trans x2) S2 r2
 ·rw [if_neg hz] at h; exact h.elim
theorem Zh6 {K : PySem.W.Frag} {q : List D → Store → R3 D} (σ : St) (H : Hp) (Q : VK) (h : tOf K (ZaQ q gl) σ H Q) : tCB (rB K q) (tAf K gl) σ H Q := by
 obtain ⟨ι, M, env, S, E, h⟩ := h
 obtain ⟨ds, M1, e1, h⟩ := Zae.bind h
 refine ⟨ι, M, env, S, E, ?_⟩
 rw [e1]
 intro vs H1 ι1 x1 S1 r1
 exact ⟨ι1, M1, ds, S1, r1, h.up x1⟩
theorem Zcf {x : Str} {id : String} {q : List D → Store → R3 D} (hc : Zbb X (.builtin id) (rB X.K q)) (hm : X.mg x = none) (hv : bootBuiltins x = some (.builtin id)) (ha : CA X (e :: es) gl) (hg : Gl X x := by rfl) (hn : x ≠ "__name__" := by decide) (hdb : (x == ("__debug__" : Str)) = false := by decide)
  (he : starEach (e :: es) X.env = (false, eval e X.env) :: starEach es X.env := by rfl) (hpl : (backTo pos (starEach es X.env)).any (·.1) = false := by rfl) : C3 X (.Call (.Name x p) (e :: es) [] pos) (ZaQ q gl) := (Zgh hc hg hm hv ha hn hdb he hpl).imp Zh6
theorem Zfm {x : Str} {T : String} {q : List D → Store → R3 D} (hc : Zbb X (.type T) (rB X.K q)) (hm : X.mg x = none) (hv : bootBuiltins x = some (.type T)) (ha : CA X (e :: es) gl) (hg : Gl X x := by rfl) (hn : x ≠ "__name__" := by decide) (hdb : (x == ("__debug__" : Str)) = false := by decide)
  (he : starEach (e :: es) X.env = (false, eval e X.env) :: starEach es X.env := by rfl) (hpl : (backTo pos (starEach es X.env)).any (·.1) = false := by rfl) : C3 X (.Call (.Name x p) (e :: es) [] pos) (ZaQ q gl) := (Zhp hc hg hm hv ha hn hdb he hpl).imp Zh6
theorem Zz (hr : IxR X (r2 X.K Zo)) (ha : C3 X a f) (hb : C3 X b g) (hs : Zha b := by exact fun _ _ => rfl) : C3 X (.Subscript a b pos) (e2 Zo f g) := (Zme hr ha hb hs).imp Zfy
theorem Zbo : CO X none ZaB := Zjx.imp fun σ H Q ⟨ι, M, env, S, E, h⟩ => h H ι Ext.refl S
theorem Zbq (h : C3 X e f) : CO X (some e) (ZaC f) := (Zjp h).imp fun σ H Q ⟨ι, M, env, S, E, h⟩ => by
 obtain ⟨d, M1, e1, h⟩ := Zi3.bind h
 refine ⟨ι, M, env, S, E, ?_⟩
 rw [e1]
 intro v H1 ι1 x1 S1 r1
 cases d with
 | int i => exact ⟨i, r1.int_inv, h H1 ι1 x1 S1⟩
 | _ => exact h.elim
theorem ZdC {lo hi : Option Expr} {ol oh : EO3} {p2 : Pos} (hr : SlR X (rS X.K)) (he : C3 X e f) (hl : CO X lo ol) (hu : CO X hi oh) : C3 X (.Subscript e (.Slice lo hi none p2) pos) (eSl f ol oh) := (Zid hr he hl hu).imp fun σ H Q ⟨ι, M, env, S, E, h⟩ => by
 obtain ⟨d, M1, e1, h⟩ := Zae.bind h
 obtain ⟨l, M2, e2, h⟩ := Zae.bind h
 obtain ⟨u, M3, e3, h⟩ := Zae.bind h
 refine ⟨ι, M, env, S, E, ?_⟩
 rw [e1]
 intro v H1 ι1 x1 S1 r1
 refine ⟨ι1, M1, env, S1, E.mono x1, ?_⟩
 rw [e2]
 intro H2 ι2 x2 S2
 refine ⟨ι2, M2, env, S2, (E.mono x1).mono x2, ?_⟩
 rw [e3]
 intro H3 ι3 x3 S3
 exact ⟨ι3, M3, d, S3, (r1.mono x2).mono x3, ((h.up x1).up x2).up x3⟩
theorem Zak : CSs X [] Zad := Zjz.imp fun D σ H ⟨ι, M, env, S, E, h⟩ => h σ H ι Ext.refl S E
theorem Zq {st : Stmt} {u : S3} (h : CS X st u) : CSs X [st] u := ZjH h
theorem Zm {st : Stmt} {sts : List Stmt} {u w : S3} (h1 : CS X st u) (h2 : CSs X sts w) : CSs X (st :: sts) (Zaa u w) := (ZiJ h1 h2).imp fun D σ H ⟨ι, M, env, S, E, h⟩ => by
 refine ⟨ι, M, env, S, E, ?_⟩
 have h' : Zdg X.K H ι D (match u env M with | .nx env' M' => w env' M' | o => o) := h
 cases q : u env M with
 | nx env' M' => rw [q] at h'; exact fun σ' H' ι' x S' E' => ⟨ι', M', env', S', E', h'.up x⟩
 | _ => rw [q] at h'; exact h'
theorem ZaJ {c1 : Expr} {x y : List Stmt} {u w : S3} (hc : CT X c1 f) (ha : CSs X x u) (hb : CSs X y w) : CS X (.If c1 x y pos) (sIf f u w) := (ZlY hc ha hb).imp fun D σ H ⟨ι, M, env, S, E, h⟩ => by
 refine ⟨ι, M, env, S, E, ?_⟩
 unfold sIf at h
 cases q : f env M with
 | ok d M1 =>
  rw [q] at h
  cases d with
  | bl k =>
   intro H1 ι1 x1 S1
   cases k with
   | true => rw [if_pos rfl]; exact ⟨ι1, M1, env, S1, E.mono x1, h.up x1⟩
   | false => rw [if_neg (by decide)]; exact ⟨ι1, M1, env, S1, E.mono x1, h.up x1⟩
  | _ => exact h.elim
 | exc x M1 => rw [q] at h; exact h.elim
 | bad => rw [q] at h; exact h.elim
theorem Zao (h : C3 X e f) : CS X (.Return (some e) pos) (Zam f) := (Zk4 h).imp fun D σ H ⟨ι, M, env, S, E, h⟩ => by
 refine ⟨ι, M, env, S, E, ?_⟩
 unfold Zam at h
 cases q : f env M with
 | ok d M1 => rw [q] at h; exact h
 | exc x M1 => rw [q] at h; exact h.elim
 | bad => rw [q] at h; exact h.elim
theorem ZcT (h : C3 X e f) (hs : swapsWith e none pos.line X.env = pure false := by rfl) : CS X (.Expr e pos) (Zaq f) := (Zj5 h hs).imp fun D σ H ⟨ι, M, env, S, E, h⟩ => by
 refine ⟨ι, M, env, S, E, ?_⟩
 unfold Zaq at h
 cases q : f env M with
 | ok d M1 => rw [q] at h; exact fun v H1 ι1 x1 S1 r1 => h σ H1 ι1 x1 S1 (E.mono x1)
 | exc x M1 => rw [q] at h; exact h.elim
 | bad => rw [q] at h; exact h.elim
theorem Zag (i : Nat) {x : Str} {pos' : Pos} (hN : X.N.Nodup) (he : C3 X e f) (hi : X.N[i]? = some x := by rfl) (hx : Loc X.env.scope x := by first | exact Or.inl rfl | exact Or.inr rfl) (hs : swapsWith e (some (.Name x pos')) pos.line X.env = pure false := by rfl)
  (hf : X.fn x = true ∨ X.env.scope.names.lookup x = some .local := by first | exact .inl rfl | exact .inr rfl) : CS X (.Assign [.Name x pos'] e pos) (Zah i f) := (ZlA hN hi hx he hs hf).imp fun D σ H ⟨ι, M, env, S, E, h⟩ => by
 refine ⟨ι, M, env, S, E, ?_⟩
 unfold Zah at h
 cases q : f env M with
 | ok d M1 => rw [q] at h; exact fun v H1 ι1 x1 S1 r1 => h _ H1 ι1 x1 S1 ((E.mono x1).set i r1)
 | exc x M1 => rw [q] at h; exact h.elim
 | bad => rw [q] at h; exact h.elim
end
def sp3 (K : PySem.W.Frag) (n : Nat) (F : F3) : Sp := fun vs H Q _ => ∃ ι M ds, Zal K H ι M ∧ Zv K H ι ds vs ∧ ds.length = n ∧ Zae K H ι Q (F ds M)
section
variable {K : PySem.W.Frag} {H H' : Hp} {ι ι' : List Addr} {M M' : Store}
mutual
theorem Rep.below : ∀ {d : D} {v : V}, Rep K H ι d v → L3.below ι.length d = true
 | .non, _, _ => rfl
 | .bl _, _, _ => rfl
 | .int _, _, _ => rfl
 | .str _, _, _ => rfl
 | .tup ds, _, h => by
  obtain ⟨a, vs, _, _, r⟩ := h.tup_inv
  simp only [L3.below]
  exact Zv.belowL (ds := ds) r
 | .scr ds, _, h => by
  obtain ⟨a, vs, _, _, r⟩ := h.scr_inv
  simp only [L3.below]
  exact Zv.belowL (ds := ds) r
 | .ref n, _, h => by
  obtain ⟨a, q, _⟩ := h.ref_inv
  simp only [L3.below, decide_eq_true_eq]
  exact (List.getElem?_eq_some_iff.mp q).1
theorem Zv.belowL : ∀ {ds : List D} {vs : List V}, Zv K H ι ds vs → L3.belowL ι.length ds = true
 | [], _, _ => rfl
 | d :: ds, _, h => by
  obtain ⟨v, ws, _, r, q⟩ := h.cons_inv
  simp only [L3.belowL, Bool.and_eq_true]
  exact ⟨Rep.below (d := d) r, Zv.belowL (ds := ds) q⟩
end
mutual
theorem Rep.cut {n : Nat} : ∀ {d : D} {v : V}, L3.below n d = true → Rep K H ι d v → Rep K H (ι.take n) d v
 | .non, _, _, h => by simpa [Rep] using h
 | .bl _, _, _, h => by simpa [Rep] using h
 | .int _, _, _, h => by simpa [Rep] using h
 | .str _, _, _, h => by simpa [Rep] using h
 | .tup ds, _, hb, h => by
  obtain ⟨a, vs, rfl, s, r⟩ := h.tup_inv
  exact Rep.tup s (Zv.cut (ds := ds) (by simpa only [L3.below] using hb) r)
 | .scr ds, _, hb, h => by
  obtain ⟨a, vs, rfl, s, r⟩ := h.scr_inv
  simp only [Rep]
  exact ⟨a, vs, rfl, s, Zv.cut (ds := ds) (by simpa only [L3.below] using hb) r⟩
 | .ref k, _, hb, h => by
  obtain ⟨a, q, rfl⟩ := h.ref_inv
  refine Rep.ref ?_
  rw [List.getElem?_take_of_lt (by simpa [L3.below] using hb)]
  exact q
theorem Zv.cut {n : Nat} : ∀ {ds : List D} {vs : List V}, L3.belowL n ds = true → Zv K H ι ds vs → Zv K H (ι.take n) ds vs
 | [], _, _, h => by simpa [Zv] using h
 | d :: ds, _, hb, h => by
  obtain ⟨v, ws, rfl, r, q⟩ := h.cons_inv
  simp only [L3.belowL, Bool.and_eq_true] at hb
  exact Zv.cons (Rep.cut (d := d) hb.1 r) (Zv.cut (ds := ds) hb.2 q)
end
theorem Zdt.below {m : MO} {a : Addr} (h : Zdt K H ι m a) : ZdT ι.length m = true := by
 cases m with
 | lst xs => obtain ⟨vs, _, r⟩ := h; exact r.belowL
 | dct kvs => obtain ⟨ws, _, _, r⟩ := h; exact r.belowL
 | fdct kvs => obtain ⟨ws, _, _, r⟩ := h; exact r.belowL
theorem Zdt.cut {n : Nat} {m : MO} {a : Addr} (hb : ZdT n m = true) (h : Zdt K H ι m a) : Zdt K H (ι.take n) m a := by
 cases m with
 | lst xs => obtain ⟨vs, q, r⟩ := h; exact ⟨vs, q, r.cut hb⟩
 | dct kvs => obtain ⟨ws, q, r1, r2⟩ := h; exact ⟨ws, q, r1, r2.cut hb⟩
 | fdct kvs => obtain ⟨ws, q, r1, r2⟩ := h; exact ⟨ws, q, r1, r2.cut hb⟩
theorem Zal.cut {n : Nat} (S : Zal K H ι M) (h : (M.take n).all (ZdT n) = true) : Zal K H (ι.take n) (M.take n) := by
 refine ⟨by simp [S.len], S.nd.sublist (List.take_sublist _ _), fun k m a h1 h2 => ?_⟩
 have hk : k < n := by
  have := (List.getElem?_eq_some_iff.mp h1).1
  rw [List.length_take] at this
  omega
 have hb : ZdT n m = true := List.all_eq_true.mp h m (List.mem_of_getElem? h1)
 rw [List.getElem?_take_of_lt hk] at h1 h2
 exact (S.obj k m a h1 h2).cut hb
theorem Zhh {Q : VK} {d : D} {v : V} (S : Zal K H ι M) (x : Ext K H ι H' ι') (S' : Zal K H' ι' M') (r : Rep K H' ι' d v) (h : Zae K H ι Q (Zb2 M d M')) : Q v H' := by
 unfold Zb2 at h
 split at h
 ·rename_i c
  simp only [Bool.and_eq_true, Bool.or_eq_true, decide_eq_true_eq] at c
  have hall : (M'.take M.length).all (ZdT M.length) = true := by
   rcases c.2 with e | e
   ·rw [e, List.all_eq_true]
    intro m hm
    obtain ⟨n, hn⟩ := List.getElem?_of_mem hm
    obtain ⟨a, q, w⟩ := S.at hn
    rw [← S.len]
    exact w.below
   ·exact e
  refine h v H' (ι'.take M.length) ⟨x.tup, x.scr, fun n a q => ?_, x.frz⟩ (S'.cut hall) (r.cut c.1)
  rw [List.getElem?_take_of_lt (by rw [← S.len]; exact (List.getElem?_eq_some_iff.mp q).1)]
  exact x.pre n a q
 ·exact h v H' ι' x S' r
end
theorem Zbm.start {K : PySem.W.Frag} {H : Hp} {ι : List Addr} {ds : List D} {vs : List V} (r : Zv K H ι ds vs) (n : Nat) : Zbm K H ι (ds.map some ++ List.replicate n none) (vs.map some ++ List.replicate n none) := by
 refine ⟨by simp [r.length], fun i d h => ?_⟩
 by_cases hi : i < ds.length
 ·rw [List.getElem?_append_left (by simpa using hi), List.getElem?_map] at h
  cases q : ds[i]? with
  | none => rw [q] at h; simp at h
  | some d' =>
   rw [q] at h
   simp at h
   subst h
   obtain ⟨v, e, z⟩ := r.get q
   refine ⟨v, ?_, z⟩
   rw [List.getElem?_append_left (by simpa [r.length] using hi), List.getElem?_map, e]
   rfl
 ·rw [List.getElem?_append_right (by simpa using hi), List.getElem?_replicate] at h
  split at h <;> simp at h
section
variable {P : Program} {w : World} {K : PySem.W.Frag} {mg : Str → Option Value} {base : Heap}
theorem fn3 {x qual : Str} {st : Stmt} {f : Addr} {fd : FuncData} {N ps : List Str} {k : Nat} {body : S3} (F : Fun K x qual st f fd) (S : ZaA N ps (Zr st))
  (hb : ∀ (cdv : Value) (A : Around) (outer : List Env) (s : Shared) (H : Hp) (E : XK), Zcd k (A.deeper (envOfC qual (Zr st) s.heap.objs.size f cdv)) → CSs (Zgk CX0 P w K mg base N qual (Zr st) f cdv A outer s H E).nox (Zap st) body) :
  ZeN P w K mg base CX0 (k + 1) f fd ps (sp3 K ps.length (mkF ps.length N.length body)) := by
 refine F.ok S (fun vs H Q E ⟨ι, M, ds, _, r, l, _⟩ => by rw [r.length, l]) fun cdv A outer s H vs Q E hr ⟨ι, M, ds, SR, r, l, h⟩ => ?_
 refine ⟨_, hb cdv A outer s H E hr, ι, M, ds.map some ++ List.replicate (N.length - ps.length) none, SR, ?_, ?_⟩
 ·have e : L2.start N vs = vs.map some ++ List.replicate (N.length - ps.length) none := by unfold L2.start; rw [r.length, l]
  rw [e]
  exact Zbm.start r _
 ·unfold mkF at h
  rw [if_pos l] at h
  cases q : body (ds.map some ++ List.replicate (N.length - ps.length) none) M with
  | nx env' M' => rw [q] at h; exact fun σ' H' ι' x S' E' => Zhh SR x S' Rep.non h
  | rt d M' => rw [q] at h; exact fun v H' ι' x S' r' => Zhh SR x S' r' h
  | bk _ _ => rw [q] at h; exact h.elim
  | ct _ _ => rw [q] at h; exact h.elim
  | exc _ _ => rw [q] at h; exact h.elim
  | bad => rw [q] at h; exact h.elim
def Fn3 (P : Program) (w : World) (K : PySem.W.Frag) (mg : Str → Option Value) (base : Heap) (k : Nat) (x : Str) (ps : List Str) (F : F3) : Prop :=
 (∀ ds M, ds.length ≠ ps.length → F ds M = .bad) ∧ ∃ f fd, mg x = some (.ref f) ∧ PySem.W.keepIn K (.ref f) = true ∧ Binds K fd ps [] ∧ ZeN P w K mg base CX0 k f fd ps (sp3 K ps.length F)
def ZaG (K : PySem.W.Frag) (mg : Str → Option Value) (x : Str) (st : Stmt) (ps : List Str) : Prop := ∃ f fd, Fun K x x st f fd ∧ mg x = some (.ref f) ∧ Binds K fd ps []
theorem Fn3.of {x : Str} {st : Stmt} {N ps : List Str} {k : Nat} {body : S3} (d : ZaG K mg x st ps) (S : ZaA N ps (Zr st))
  (hb : ∀ (f : Addr) (cdv : Value) (A : Around) (outer : List Env) (s : Shared) (H : Hp) (E : XK), Zcd k (A.deeper (envOfC x (Zr st) s.heap.objs.size f cdv)) → CSs (Zgk CX0 P w K mg base N x (Zr st) f cdv A outer s H E).nox (Zap st) body) :
  Fn3 P w K mg base (k + 1) x ps (mkF ps.length N.length body) := by
 obtain ⟨f, fd, F, m, bi⟩ := d
 exact ⟨fun ds M h => if_neg h, f, fd, m, F.kp, bi, fn3 F S (hb f)⟩
end
section
variable {X : Cx} {e : Expr} {es : List Expr} {pos p : Pos} {gl : EL3} {x : Str} {k : Nat} {ps : List Str} {F : F3}
theorem Zau (G : Fn3 X.prog X.w X.K X.mg X.base k x ps F) (hr : Zcd k X.A) (ha : CA X (e :: es) gl) (hg : Gl X x := by rfl) (hdb : (x == ("__debug__" : Str)) = false := by decide)
  (he : starEach (e :: es) X.env = (false, eval e X.env) :: starEach es X.env := by rfl) (hpl : (backTo pos (starEach es X.env)).any (·.1) = false := by rfl) : C3 X (.Call (.Name x p) (e :: es) [] pos) (Zw F gl) := by
 obtain ⟨hn, f, fd, m, kp, bi, ok⟩ := G
 refine (ZjT ok hr hg m kp bi .nil Zmy ha hdb he hpl).imp fun σ H Q ⟨ι, M, env, S, E, h⟩ => ?_
 obtain ⟨ds, M1, e1, h⟩ := Zae.bind h
 refine ⟨ι, M, env, S, E, ?_⟩
 rw [e1]
 intro vs H1 ι1 x1 S1 r1
 have hl : ds.length = ps.length := by
  refine Decidable.byContradiction fun q => ?_
  rw [hn ds M1 q] at h
  exact h.elim
 exact ⟨ι1, M1, ds, S1, by rw [List.append_nil]; exact r1, hl, h.up x1⟩
end
end L3
namespace L3
open PySem PySem.Spec PyProof.Rows L2
def tGf (K : PySem.W.Frag) (g : G3) : TG := fun v σ H Q => ∃ ι M env d env', Zal K H ι M ∧ Zbm K H ι env σ ∧ Rep K H ι d v ∧ g d env = some env' ∧ ∀ σ', Zbm K H ι env' σ' → Q σ' H
def tGs (K : PySem.W.Frag) (is : List Nat) : TGs := fun vs σ H Q => ∃ ι M env ds env', Zal K H ι M ∧ Zbm K H ι env σ ∧ Zv K H ι ds vs ∧ bindAll is ds env = some env' ∧ ∀ σ', Zbm K H ι env' σ' → Q σ' H
def CG (X : Cx) (tg : Expr) (g : G3) : Prop := PG X tg (tGf X.K g)
def CGs (X : Cx) (tg : List Expr) (is : List Nat) : Prop := PGs X tg (tGs X.K is)
theorem PG.imp {X : Cx} {e : Expr} {t t' : TG} (h : PG X e t) (i : ∀ v σ H Q, t' v σ H Q → t v σ H Q) : PG X e t' := fun pins s σ H v u Q I r q => h pins s σ H v u Q I r (i v σ H Q q)
theorem PGs.imp {X : Cx} {e : List Expr} {t t' : TGs} (h : PGs X e t) (i : ∀ v σ H Q, t' v σ H Q → t v σ H Q) : PGs X e t' := fun pins s σ H v u Q I r q => h pins s σ H v u Q I r (i v σ H Q q)
section
variable {X : Cx} {e : Expr} {es : List Expr} {pos : Pos}
theorem ZdB (i : Nat) {x : Str} (hN : X.N.Nodup) (hi : X.N[i]? = some x := by rfl) (hx : Loc X.env.scope x := by first | exact Or.inl rfl | exact Or.inr rfl)
  (hf : X.fn x = true ∨ X.env.scope.names.lookup x = some .local := by first | exact .inl rfl | exact .inr rfl) : CG X (.Name x pos) (ZcP i) := PG.imp (Zhg hN hi hx hf) fun v σ H Q ⟨ι, M, env, d, env', S, E, r, q, h⟩ => by
 cases q
 exact h _ (E.set i r)
theorem Zel : CGs X [] [] := PGs.imp ZjP fun v σ H Q ⟨ι, M, env, ds, env', S, E, r, q, h⟩ => by
 cases ds with
 | nil => cases q; exact ⟨r.nil_inv, h σ E⟩
 | cons d ds => cases q
theorem Zcb (i : Nat) {is : List Nat} {x : Str} (hN : X.N.Nodup) (ht : CGs X es is) (hi : X.N[i]? = some x := by rfl) (hx : Loc X.env.scope x := by first | exact Or.inl rfl | exact Or.inr rfl)
  (hf : X.fn x = true ∨ X.env.scope.names.lookup x = some .local := by first | exact .inl rfl | exact .inr rfl) (hs : (assignEach (.Name x pos :: es) X.env).map (·.2) = assign (.Name x pos) X.env :: (assignEach es X.env).map (·.2) := by rfl) :
  CGs X (.Name x pos :: es) (i :: is) := PGs.imp (Zi2 (Zhg hN hi hx hf) ht hs) fun v σ H Q ⟨ι, M, env, ds, env', S, E, r, q, h⟩ => by
 cases ds with
 | nil => cases q
 | cons d ds =>
  obtain ⟨v, ws, rfl, r1, r2⟩ := r.cons_inv
  exact ⟨v, ws, rfl, ι, M, env.set i (some d), ds, env', S, E.set i r1, r2, q, h⟩
theorem ZfQ {is : List Nat} {k : Nat} (hc : X.calm = true) (h : CGs X es is) (hl : es.length = is.length := by rfl) (hn : (assignEach es X.env).length = is.length := by rfl) (hst : (assignEach es X.env).findIdx? (·.1) = none := by rfl) : CG X (.Tuple es k pos) (Zdn is) :=
 PG.imp (Zlf (n := is.length) hc h hn hst) fun v σ H Q ⟨ι, M, env, d, env', S, E, r, q, h⟩ => by
  cases d with
  | tup ds =>
   obtain ⟨a, vs, rfl, s, r⟩ := r.tup_inv
   have hlen : ∀ (is : List Nat) (ds : List D) (env env' : ZaD), bindAll is ds env = some env' → ds.length = is.length := by
    intro is
    induction is with
    | nil => intro ds env env' h; cases ds with | nil => rfl | cons d ds => cases h
    | cons i is ih => intro ds env env' h; cases ds with | nil => cases h | cons d ds => simp [ih ds _ _ h]
   exact ⟨a, vs, rfl, s, by rw [r.length]; exact hlen _ _ _ _ q, ι, M, env, ds, env', S, E, r, q, h⟩
  | _ => cases q
end
def ZhR (K : PySem.W.Frag) (H : Hp) (ι : List Addr) (it : It3) (J : It) : Prop := ∀ (i : Nat) H2 ι2 M2, Ext K H ι H2 ι2 → Zal K H2 ι2 M2 → locked it M2 = true →
 (∀ d, it.items[i]? = some d → J.go i H2 ∧ ∀ x H3, J.yld i H2 x H3 → H3 = H2 ∧ Rep K H2 ι2 d x) ∧ (i = it.items.length → J.stop i H2)
def ZhK (K : PySem.W.Frag) (H : Hp) (ι : List Addr) (R : It → Hp → Prop) (r : R3 It3) : Prop := match r with
 | .ok it M' => ∀ J H' ι', Ext K H ι H' ι' → Zal K H' ι' M' → ZhR K H' ι' it J → R J H'
 | _ => False
def tIf (K : PySem.W.Frag) (g : I3) : TI := fun σ H R => ∃ ι M env, Zal K H ι M ∧ Zbm K H ι env σ ∧ ZhK K H ι R (g env M)
def CI (X : Cx) (tg e : Expr) (g : I3) : Prop := PI X tg e (tIf X.K g)
theorem PI.imp {X : Cx} {tg e : Expr} {t t' : TI} (h : PI X tg e t) (i : ∀ σ H Q, t' σ H Q → t σ H Q) : PI X tg e t' := fun pins s σ H Q I q => h pins s σ H Q I (i σ H Q q)
theorem PI.or {X : Cx} {tg e : Expr} {t t' : TI} (h : PI X tg e t) (h' : PI X tg e t') : PI X tg e (fun σ H R => t σ H R ∨ t' σ H R) := fun pins s σ H Q I q => q.elim (h pins s σ H Q I) (h' pins s σ H Q I)
theorem ZhK.bind {K : PySem.W.Frag} {H : Hp} {ι : List Addr} {α : Type} {Q : It → Hp → Prop} {r : R3 α} {k : α → Store → R3 It3} (h : ZhK K H ι Q (r.bind k)) : ∃ a M, r = .ok a M ∧ ZhK K H ι Q (k a M) := by
 cases r with
 | ok a M => exact ⟨a, M, rfl, h⟩
 | exc x M => exact h.elim
 | bad => exact h.elim
section
variable {K : PySem.W.Frag} {H : Hp} {ι : List Addr}
end
section
variable {X : Cx} {tg e a b : Expr} {pos p : Pos} {f g : E3}
theorem ZkO (h : C3 X e f) (hs : PI X tg e (fun σ H R => tOf X.K f σ H fun x H1 => ∃ z : Str, x = .str z ∧ z.length ≤ SZ ∧ ∀ J, (∀ ι, ZhR X.K H1 ι ⟨z.cps.toList.map fun c => .str [c], none⟩ J) → R J H1)) : CI X tg e (Zje f) :=
 PI.imp (PI.or (ZkC h) (PI.or (ZjS h) hs)) fun σ H R ⟨ι, M, env, S, E, h⟩ => by
  obtain ⟨d, M1, e1, h⟩ := ZhK.bind h
  cases d with
  | tup ds =>
   refine .inl ⟨ι, M, env, S, E, ?_⟩
   rw [e1]
   intro v H1 ι1 x1 S1 r1
   obtain ⟨a, vs, rfl, s, r⟩ := r1.tup_inv
   refine ⟨a, rfl, ⟨vs, s⟩, h _ H1 ι1 x1 S1 ?_⟩
   intro i H2 ι2 M2 x S2 _
   refine ⟨fun d hd => ?_, fun hl => ⟨vs, x.tup _ _ s, by rw [r.length, hl]; exact Nat.le_refl _⟩⟩
   obtain ⟨v, hv, rv⟩ := r.get hd
   refine ⟨⟨vs, v, x.tup _ _ s, hv⟩, fun y H3 hy => ⟨hy.1, ?_⟩⟩
   have e := hy.2 vs (x.tup _ _ s)
   rw [hv] at e
   cases e
   exact rv.mono x
  | scr ds =>
   refine .inr (.inl ⟨ι, M, env, S, E, ?_⟩)
   rw [e1]
   intro v H1 ι1 x1 S1 r1
   obtain ⟨a, vs, rfl, s, r⟩ := r1.scr_inv
   refine ⟨a, rfl, ⟨vs, s.sq⟩, h _ H1 ι1 x1 S1 ?_⟩
   intro i H2 ι2 M2 x S2 _
   refine ⟨fun d hd => ?_, fun hl => ⟨vs, (x.scr _ _ s).sq, by rw [r.length, hl]; exact Nat.le_refl _⟩⟩
   obtain ⟨v, hv, rv⟩ := r.get hd
   refine ⟨⟨vs, v, (x.scr _ _ s).sq, hv⟩, fun y H3 hy => ⟨hy.1, ?_⟩⟩
   have e := hy.2 vs (x.scr _ _ s).sq
   rw [hv] at e
   cases e
   exact rv.mono x
  | ref n =>
   refine .inr (.inl ⟨ι, M, env, S, E, ?_⟩)
   rw [e1]
   intro v H1 ι1 x1 S1 r1
   cases hm : M1[n]? with
   | none => simp only [hm] at h; exact h.elim
   | some o =>
    cases o with
    | dct kvs => simp only [hm] at h; exact h.elim
    | fdct kvs => simp only [hm] at h; exact h.elim
    | lst ds =>
     simp only [hm] at h
     obtain ⟨a, ha, rfl⟩ := r1.ref_inv
     obtain ⟨vs, q, r⟩ := S1.obj n _ a hm ha
     refine ⟨a, rfl, ⟨vs, SqL.of q⟩, h _ H1 ι1 x1 S1 ?_⟩
     intro i H2 ι2 M2 x S2 lk
     have lk' : M2[n]? = some (.lst ds) := of_decide_eq_true lk
     obtain ⟨vs2, q2, r2⟩ := S2.obj n _ a lk' (x.pre _ _ ha)
     refine ⟨fun d hd => ?_, fun hl => ⟨vs2, SqL.of q2, by rw [r2.length, hl]; exact Nat.le_refl _⟩⟩
     obtain ⟨v, hv, rv⟩ := r2.get hd
     refine ⟨⟨vs2, v, SqL.of q2, hv⟩, fun y H3 hy => ⟨hy.1, ?_⟩⟩
     have e := hy.2 vs2 (SqL.of q2)
     rw [hv] at e
     cases e
     exact rv
  | str z =>
   refine .inr (.inr ⟨ι, M, env, S, E, ?_⟩)
   rw [e1]
   intro v H1 ι1 x1 S1 r1
   have hv := r1.str_inv
   subst hv
   by_cases hz : z.length ≤ SZ
   ·simp only [if_pos hz] at h
    refine ⟨_, rfl, by simpa [Str.length] using hz, fun J hJ => h J H1 ι1 x1 S1 ?_⟩
    simpa using hJ ι1
   ·simp only [if_neg hz] at h; exact h.elim
  | non => exact h.elim
  | bl b => exact h.elim
  | int i => exact h.elim
theorem Zin {K : PySem.W.Frag} {H : Hp} {ι : List Addr} (lo : Int) (n : Nat) : ZhR K H ι ⟨ZcM lo n, none⟩ (Itr lo n) := by
 intro i H2 ι2 M2 x S _
 refine ⟨fun d hd => ?_, fun hl => ?_⟩
 ·unfold ZcM at hd
  rw [List.getElem?_map] at hd
  cases q : (List.range n)[i]? with
  | none => rw [q] at hd; cases hd
  | some k =>
   rw [q] at hd
   obtain ⟨hi, e⟩ := List.getElem?_eq_some_iff.mp q
   rw [List.getElem_range] at e
   subst e
   have hd' : D.int (lo + (i : Int)) = d := by simpa using hd
   subst hd'
   exact ⟨(by show i < n; simpa using hi), fun y H3 hy => ⟨hy.1, by rw [hy.2]; exact Rep.int⟩⟩
 ·show n ≤ i
  rw [hl]
  simp [ZcM]
theorem Zdc (hm : X.mg "range" = none) (h : C3 X a f) (hg : Gl X "range" := by rfl) (hs : starEach [a] X.env = [(false, eval a X.env)] := by rfl) (hs' : starEach (a :: []) X.env = (false, eval a X.env) :: starEach [] X.env := by rfl) : CI X tg (.Call (.Name "range" p) [a] [] pos) (ZbZ f) :=
 PI.imp (ZhP hg hm (Zc h Zn hs') hs) fun σ H R ⟨ι, M, env, S, E, h⟩ => by
  obtain ⟨d, M1, e1, h⟩ := ZhK.bind h
  refine ⟨ι, M, env, S, E, ?_⟩
  have e2 : Za f Zj env M = .ok [d] M1 := by unfold Za; rw [e1]; rfl
  rw [e2]
  intro vs H1 ι1 x1 S1 r1
  obtain ⟨v, ws, rfl, r, q⟩ := r1.cons_inv
  have := q.nil_inv
  subst this
  cases d with
  | int j =>
   have hv := r.int_inv
   subst hv
   by_cases hj : j ≤ 1000000 ∧ -1000000 ≤ j
   ·simp only [if_pos hj] at h
    exact ⟨j, rfl, by omega, by omega, h _ H1 ι1 x1 S1 (Zin 0 j.toNat)⟩
   ·simp only [if_neg hj] at h; exact h.elim
  | _ => exact h.elim
theorem ZfU {iter : Expr} {body : List Stmt} {i : I3} {g : G3} {u : S3} (hxe : X.xe = fun _ _ => False) (hc : X.calm = true) (hi : CI X tg iter i) (hg : CG X tg g) (hb : CSs X body u) (hs : ∀ x, foldedSetIterable iter X.env x = pure x := by intro _; rfl) :
  CS X (.For tg iter body [] pos) (Ze3 i g u) := (ZiN (by rw [hxe]; exact PassesOwn.never) hc hi hg hb hs).imp fun D σ H ⟨ι, M, env, S, E, h⟩ => by
 unfold Ze3 at h
 cases q : i env M with
 | exc x M1 => rw [q] at h; exact h.elim
 | bad => rw [q] at h; exact h.elim
 | ok it M1 =>
  rw [q] at h
  refine ⟨ι, M, env, S, E, ?_⟩
  rw [q]
  intro J H1 ι1 x1 S1 ok
  refine ⟨fun i m σ2 H2 => m = it.items.length - i ∧ i ≤ it.items.length ∧ ∃ ι2 M2 env2, Ext X.K H1 ι1 H2 ι2 ∧ Zal X.K H2 ι2 M2 ∧ Zbm X.K H2 ι2 env2 σ2 ∧ Zdg X.K H2 ι2 D (Zb3 it g u (it.items.drop i) env2 M2),
   ⟨_, rfl, Nat.zero_le _, ι1, M1, env, Ext.refl, S1, E.mono x1, Zdg.up x1 h⟩, ?_⟩
  rintro i m σ2 H2 ⟨rfl, hi, ι2, M2, env2, x2, S2, E2, h2⟩
  by_cases hlt : i < it.items.length
  ·have hd : it.items[i]? = some it.items[i] := by simp [hlt]
   rw [List.drop_eq_getElem_cons hlt] at h2
   unfold Zb3 at h2
   by_cases lk : locked it M2 = true
   ·rw [if_pos lk] at h2
    obtain ⟨go, yl⟩ := (ok i H2 ι2 M2 x2 S2 lk).1 _ hd
    cases eg : g it.items[i] env2 with
    | none => rw [eg] at h2; exact h2.elim
    | some env3 =>
     rw [eg] at h2
     refine .inr ⟨go, fun σ' H' => ∃ ι3 M3 env4, Ext X.K H2 ι2 H' ι3 ∧ Zal X.K H' ι3 M3 ∧ Zbm X.K H' ι3 env4 σ' ∧ Zdg X.K H' ι3 D (Zb3 it g u (it.items.drop (i + 1)) env4 M3),
      fun σ' H' ⟨ι3, M3, env4, x3, S3, E3, h3⟩ => ⟨it.items.length - (i + 1), by omega, rfl, hlt, ι3, M3, env4, x2.trans x3, S3, E3, h3⟩, fun x H' hy => ?_⟩
     obtain ⟨rfl, rx⟩ := yl x H' hy
     refine ⟨ι2, M2, env2, _, env3, S2, E2, rx, eg, fun σ' E' => ⟨ι2, M2, env3, S2, E', ?_⟩⟩
     cases qu : u env3 M2 with
     | nx e' M' => simp only [qu] at h2; exact fun σ' H' ι' x' S' E' => ⟨ι', M', e', x', S', E', h2.up x'⟩
     | ct e' M' => simp only [qu] at h2; exact fun σ' H' ι' x' S' E' => ⟨ι', M', e', x', S', E', h2.up x'⟩
     | bk e' M' => simp only [qu] at h2; exact h2
     | rt d M' => simp only [qu] at h2; exact h2
     | exc x' M' => simp only [qu] at h2; exact h2.elim
     | bad => simp only [qu] at h2; exact h2.elim
   ·rw [if_neg lk] at h2; exact h2.elim
  ·have e0 : i = it.items.length := by omega
   subst e0
   rw [List.drop_length] at h2
   unfold Zb3 at h2
   by_cases lk : locked it M2 = true
   ·rw [if_pos lk] at h2
    exact .inl ⟨(ok _ H2 ι2 M2 x2 S2 lk).2 rfl, h2 σ2 H2 ι2 Ext.refl S2 E2⟩
   ·rw [if_neg lk] at h2; exact h2.elim
theorem Zi4 {c1 : Expr} {body : List Stmt} {u : S3} (hxe : X.xe = fun _ _ => False) (hc : CT X c1 f) (hb : CSs X body u) : CS X (.While c1 body [] pos) (Zih f u) := (Zjd (by rw [hxe]; exact PassesOwn.never) hc hb).imp fun D σ H ⟨ι, M, env, S, E, h⟩ => by
 refine ⟨fun m σ2 H2 => ∃ ι2 M2 env2, Zal X.K H2 ι2 M2 ∧ Zbm X.K H2 ι2 env2 σ2 ∧ Zdg X.K H2 ι2 D (ZcD f u m env2 M2), ⟨1000000, ι, M, env, S, E, h⟩, ?_⟩
 rintro m σ2 H2 ⟨ι2, M2, env2, S2, E2, h2⟩
 cases m with
 | zero => exact h2.elim
 | succ m =>
  refine ⟨ι2, M2, env2, S2, E2, ?_⟩
  unfold ZcD at h2
  cases q : f env2 M2 with
  | exc x M1 => rw [q] at h2; exact h2.elim
  | bad => rw [q] at h2; exact h2.elim
  | ok d M1 =>
   rw [q] at h2
   cases d with
   | bl k =>
    cases k with
    | false =>
     intro H3 ι3 x3 S3
     rw [if_neg (by decide)]
     exact h2 σ2 H3 ι3 x3 S3 (E2.mono x3)
    | true =>
     intro H3 ι3 x3 S3
     rw [if_pos rfl]
     refine ⟨fun σ' H' => ∃ ι4 M4 env4, Zal X.K H' ι4 M4 ∧ Zbm X.K H' ι4 env4 σ' ∧ Zdg X.K H' ι4 D (ZcD f u m env4 M4), fun σ' H' q => ⟨m, Nat.lt_succ_self _, q⟩, ι3, M1, env2, S3, E2.mono x3, ?_⟩
     have h3 := Zdg.up x3 h2
     cases qu : u env2 M1 with
     | nx e' M' => simp only [qu] at h3; exact fun σ' H' ι' x' S' E' => ⟨ι', M', e', S', E', h3.up x'⟩
     | ct e' M' => simp only [qu] at h3; exact fun σ' H' ι' x' S' E' => ⟨ι', M', e', S', E', h3.up x'⟩
     | bk e' M' => simp only [qu] at h3; exact h3
     | rt d M' => simp only [qu] at h3; exact h3
     | exc x' M' => simp only [qu] at h3; exact h3.elim
     | bad => simp only [qu] at h3; exact h3.elim
   | _ => exact h2.elim
end
end L3
namespace L3
open PySem PySem.Spec PyProof.Rows L2
theorem Rep.non_iff {K : PySem.W.Frag} {H : Hp} {ι : List Addr} {d : D} {v : V} (r : Rep K H ι d v) : decide (v = V.non) = decide (d = D.non) := by
 cases d with
 | non => rw [r.non_inv]; rfl
 | bl b => rw [r.bl_inv]; simp
 | int i => rw [r.int_inv]; simp
 | str x => rw [r.str_inv]; simp
 | tup ds => obtain ⟨a, vs, rfl, _⟩ := r.tup_inv; simp
 | scr ds => obtain ⟨a, vs, rfl, _⟩ := r.scr_inv; simp
 | ref n => obtain ⟨a, _, rfl⟩ := r.ref_inv; simp
theorem Zdw {x y : List Nat} : decide (V.str ⟨x.toArray⟩ = V.str ⟨y.toArray⟩) = (x == y) := by
 by_cases h : x = y
 ·subst h; simp
 ·rw [decide_eq_false (fun e => h (by injection e with e1; injection e1 with e2; simpa using congrArg Array.toList e2))]
  exact (beq_eq_false_iff_ne.mpr h).symm
section
variable {X : Cx}
theorem Zir : OpR X (binaryOp .Add) (fun x y H Q => ∃ a b ys, x = .ref a ∧ y = .ref b ∧ SqT X.K H a [] ∧ SqT X.K H b ys ∧ Q (.ref b) H) := by
 intro pins s σ H x y v u Q I rx ry h
 obtain ⟨a, b, ys, rfl, rfl, ha, hb, q⟩ := h
 cases rx
 cases ry
 obtain ⟨its, r1, p1, _⟩ := I.tuple ha
 obtain ⟨its2, r2, p2, _⟩ := I.tuple hb
 cases r1
 obtain ⟨⟨cls, dd, data, sl⟩, ho, hc, n, hd⟩ := id p1
 obtain ⟨⟨cls2, dd2, data2, sl2⟩, ho2, hc2, n2, hd2⟩ := id p2
 simp only at hc hd hc2 hd2
 subst hc hd hc2 hd2
 exact concat_meets ⟨_, ho, rfl⟩ ⟨_, ho2, rfl⟩ noFill_tuple_add seq_tuple_add PySem.F.slot_tuple_add PySem.F.entry_tuple_add (PySem.F.args_tuple_add_2 _ _)
   (tuple_addW0 a b _ its2.toArray n n2 dd dd2 sl sl2 (by simp)) ⟨ho, ho2, ⟨.ref b, H, I, rfl, q⟩⟩
theorem Zj2 (x y : List Nat) : (⟨x.toArray⟩ : Str) ++ ⟨y.toArray⟩ = ⟨(x ++ y).toArray⟩ := by
 show Str.append _ _ = _
 unfold Str.append
 simp
theorem ZaX : OpR X (binaryOp .Add) (r2 X.K Zx) := OpR.imp (OpR.or Zlt (OpR.or ZgI (OpR.or Zly (OpR.or Zjq Zir)))) fun x y H Q ⟨ι, M, a, b, S, ra, rb, h⟩ => by
 cases a with
 | int i => cases b with
  | int j => exact .inl ⟨i, j, ra.int_inv, rb.int_inv, Zae.ok h S Rep.int⟩
  | _ => exact h.elim
 | str x => cases b with
  | str y =>
   simp only [Zx] at h
   split at h
   ·rename_i hz
    refine .inr (.inl ⟨_, _, ra.str_inv, rb.str_inv, ?_, ?_⟩)
    ·have := ZbK
     simp only [Str.length, List.size_toArray]
     omega
    ·rw [Zj2]; exact Zae.ok h S Rep.str
   ·exact h.elim
  | _ => exact h.elim
 | tup x => cases b with
  | tup y =>
   simp only [Zx] at h
   split at h
   ·rename_i hz
    obtain ⟨p, vs, rfl, s, r⟩ := ra.tup_inv
    obtain ⟨q, ws, rfl, s', r'⟩ := rb.tup_inv
    by_cases hv : vs = []
    ·subst hv
     have hx : x = [] := by have := r.length; simpa using this.symm
     subst hx
     exact .inr (.inr (.inr (.inr ⟨p, q, ws, rfl, rfl, s, s', Zae.ok h S (Rep.tup s' r')⟩)))
    ·refine .inr (.inr (.inr (.inl ⟨p, q, vs, ws, rfl, rfl, s, s', hv, ?_, fun hw => ?_, fun hw p' hp => ?_⟩)))
     ·have := ZbK
      rw [r.length, r'.length]
      omega
     ·subst hw
      have hy : y = [] := by have := r'.length; simpa using this.symm
      subst hy
      rw [List.append_nil] at h
      exact Zae.ok h S (Rep.tup s r)
     ·obtain ⟨x2, S2, r2⟩ := S.tupl hp (r.append r')
      exact h _ _ _ x2 S2 r2
   ·exact h.elim
  | _ => exact h.elim
 | ref n => cases b with
  | ref m =>
   simp only [Zx] at h
   cases hn : M[n]? with
   | none => simp only [hn] at h; exact h.elim
   | some o =>
    cases o with
    | dct _ => simp only [hn] at h; exact h.elim
    | fdct _ => simp only [hn] at h; exact h.elim
    | lst x =>
     cases hm : M[m]? with
     | none => simp only [hn, hm] at h; exact h.elim
     | some o =>
      cases o with
      | dct _ => simp only [hn, hm] at h; exact h.elim
      | fdct _ => simp only [hn, hm] at h; exact h.elim
      | lst y =>
       simp only [hn, hm] at h
       split at h
       ·rename_i hz
        obtain ⟨p, hp, rfl⟩ := ra.ref_inv
        obtain ⟨q, hq, rfl⟩ := rb.ref_inv
        obtain ⟨vs, e1, r1⟩ := S.obj n _ p hn hp
        obtain ⟨ws, e2, r2⟩ := S.obj m _ q hm hq
        refine .inr (.inr (.inl ⟨p, q, vs, ws, rfl, rfl, e1, e2, ?_, fun p' hp' => ?_⟩))
        ·have := ZbK
         rw [r1.length, r2.length]
         omega
        ·obtain ⟨x2, S2, r3⟩ := S.lst hp' (r1.append r2)
         exact h _ _ _ x2 S2 r3
       ·exact h.elim
  | _ => exact h.elim
 | _ => cases b <;> exact h.elim
theorem ZdE : OpR X (binaryOp .Sub) (r2 X.K Zce) := OpR.imp ZkF fun x y H Q ⟨ι, M, a, b, S, ra, rb, h⟩ => by
 cases a <;> cases b <;> first | exact h.elim | exact ⟨_, _, ra.int_inv, rb.int_inv, Zae.ok h S Rep.int⟩
theorem Za3 : OpR X (binaryOp .Mod) (r2 X.K Zan) := OpR.imp Zks fun x y H Q ⟨ι, M, a, b, S, ra, rb, h⟩ => by
 cases a with
 | int i => cases b with
  | int j =>
   simp only [Zan] at h
   split at h
   ·rename_i hj
    exact ⟨i, j, ra.int_inv, rb.int_inv, hj, Zae.ok h S Rep.int⟩
   ·exact h.elim
  | _ => exact h.elim
 | _ => cases b <;> exact h.elim
theorem Zbn : OpR X (binaryOp .FloorDiv) (r2 X.K Zaz) := OpR.imp Zjk fun x y H Q ⟨ι, M, a, b, S, ra, rb, h⟩ => by
 cases a with
 | int i => cases b with
  | int j =>
   simp only [Zaz] at h
   split at h
   ·rename_i hj
    exact ⟨i, j, ra.int_inv, rb.int_inv, hj, Zae.ok h S Rep.int⟩
   ·exact h.elim
  | _ => exact h.elim
 | _ => cases b <;> exact h.elim
theorem Zf1 : OpR X (binaryOp .Pow) (r2 X.K Zdm) := OpR.imp ZkA fun x y H Q ⟨ι, M, a, b, S, ra, rb, h⟩ => by
 cases a with
 | int i => cases b with
  | int j =>
   simp only [Zdm] at h
   split at h
   ·rename_i hj
    exact ⟨i, j, ra.int_inv, rb.int_inv, ⟨hj.1, by omega, by have := hj.2.2; omega⟩, Zae.ok h S Rep.int⟩
   ·exact h.elim
  | _ => exact h.elim
 | _ => cases b <;> exact h.elim
theorem Ze6 : UnR X (unaryOp .USub) (r1 X.K Zc2) := UnR.imp Zlg fun x H Q ⟨ι, M, a, S, ra, h⟩ => by
 cases a with
 | int i => exact ⟨i, ra.int_inv, Zae.ok h S Rep.int⟩
 | _ => exact h.elim
theorem Zjn : OpR X (compareOp .Lt) (r2 X.K ZhM) := OpR.imp Zmd fun x y H Q ⟨ι, M, a, b, S, ra, rb, h⟩ => by
 cases a <;> cases b <;> first | exact h.elim | exact ⟨_, _, ra.int_inv, rb.int_inv, Zae.ok h S Rep.bl⟩
theorem Znu : OpR X (compareOp .LtE) (r2 X.K Ziv) := OpR.imp ZmG fun x y H Q ⟨ι, M, a, b, S, ra, rb, h⟩ => by
 cases a <;> cases b <;> first | exact h.elim | exact ⟨_, _, ra.int_inv, rb.int_inv, Zae.ok h S Rep.bl⟩
theorem ZiK : OpR X (compareOp .Gt) (r2 X.K ZgU) := OpR.imp Zl9 fun x y H Q ⟨ι, M, a, b, S, ra, rb, h⟩ => by
 cases a <;> cases b <;> first | exact h.elim | exact ⟨_, _, ra.int_inv, rb.int_inv, Zae.ok h S Rep.bl⟩
theorem Zmp : OpR X (compareOp .GtE) (r2 X.K ZkK) := OpR.imp Zmb fun x y H Q ⟨ι, M, a, b, S, ra, rb, h⟩ => by
 cases a <;> cases b <;> first | exact h.elim | exact ⟨_, _, ra.int_inv, rb.int_inv, Zae.ok h S Rep.bl⟩
theorem ZkW : OpR X (compareOp .Is) (r2 X.K ZjA) := OpR.imp Zlk fun x y H Q ⟨ι, M, a, b, S, ra, rb, h⟩ => by
 cases b with
 | non => exact ⟨rb.non_inv, by rw [ra.non_iff]; exact Zae.ok h S Rep.bl⟩
 | _ => exact h.elim
theorem Zj4 : OpR X (compareOp .IsNot) (r2 X.K Zg4) := OpR.imp ZjY fun x y H Q ⟨ι, M, a, b, S, ra, rb, h⟩ => by
 cases b with
 | non => exact ⟨rb.non_inv, by rw [ra.non_iff]; exact Zae.ok h S Rep.bl⟩
 | _ => exact h.elim
end
theorem units_in1 (A : Around) : A.in1.units = A.units + 1 := rfl
section
variable {X : Cx} {pins : List (Addr × Obj)} {σ : St} {H : Hp} {s : Shared} {ι : List Addr}
theorem ZbV {e : Nat → Bool} : ∀ {x y : List D}, x.length = y.length → (∀ (j : Nat) a b, x[j]? = some a → y[j]? = some b → e j = deq a b) → (List.range x.length).all e = Zbv x y := by
 intro x
 induction x generalizing e with
 | nil => intro y h _; cases y with | nil => rfl | cons _ _ => simp at h
 | cons a x ih =>
  intro y h he
  cases y with
  | nil => simp at h
  | cons b y =>
   rw [List.length_cons, List.range_succ_eq_map, List.all_cons, List.all_map, he 0 a b rfl rfl]
   rw [Zbv]
   congr 1
   exact ih (e := e ∘ Nat.succ) (by simpa using h) fun j a' b' h1 h2 => he (j + 1) a' b' (by simpa using h1) (by simpa using h2)
theorem ZcL : ∀ {x y : List D}, Zbv x y = true → x.length = y.length
 | [], [], _ => rfl
 | [], _ :: _, h => by simp [Zbv] at h
 | _ :: _, [], h => by simp [Zbv] at h
 | a :: x, b :: y, h => by
  simp only [Zbv, Bool.and_eq_true] at h
  simp [ZcL h.2]
theorem Rep.fun1 (I : Inv X pins σ H s) : ∀ (n : Nat) (a b : D) (v : V), Zar n a = true → Zar n b = true → Rep X.K H ι a v → Rep X.K H ι b v → deq a b = true := by
 intro n
 induction n with
 | zero =>
  intro a b v ha hb r q
  cases a with
  | non => have := r.non_inv; subst this; cases b <;> simp_all [Zar, Rep, deq]
  | bl x => have := r.bl_inv; subst this; cases b <;> simp_all [Zar, Rep, deq]
  | int x => have := r.int_inv; subst this; cases b <;> simp_all [Zar, Rep, deq]
  | str x => have := r.str_inv; subst this; cases b <;> simp_all [Zar, Rep, deq]
  | _ => simp [Zar] at ha
 | succ n ih =>
  intro a b v ha hb r q
  cases a with
  | non => have := r.non_inv; subst this; cases b <;> simp_all [Zar, Rep, deq]
  | bl x => have := r.bl_inv; subst this; cases b <;> simp_all [Zar, Rep, deq]
  | int x => have := r.int_inv; subst this; cases b <;> simp_all [Zar, Rep, deq]
  | str x => have := r.str_inv; subst this; cases b <;> simp_all [Zar, Rep, deq]
  | tup ds =>
   obtain ⟨p, vs, rfl, s1, r1⟩ := r.tup_inv
   cases b with
   | tup es =>
    obtain ⟨p', ws, e, s2, r2⟩ := q.tup_inv
    cases e
    have e := I.tuple_inj s1 s2
    subst e
    rw [deq]
    have h1 : ds.all (Zar n) = true := ha
    have h2 : es.all (Zar n) = true := hb
    have key : ∀ (ds es : List D) (vs : List V), ds.all (Zar n) = true → es.all (Zar n) = true → Zv X.K H ι ds vs → Zv X.K H ι es vs → Zbv ds es = true := by
     intro ds
     induction ds with
     | nil => intro es vs _ _ r1 r2; have := r1.nil_inv; subst this; cases es with | nil => rfl | cons _ _ => obtain ⟨_, _, e, _⟩ := r2.cons_inv; cases e
     | cons d ds ih2 =>
      intro es vs h1 h2 r1 r2
      obtain ⟨v, ws, rfl, q1, q2⟩ := r1.cons_inv
      cases es with
      | nil => have := r2.nil_inv; cases this
      | cons e es =>
       obtain ⟨v', ws', z, q3, q4⟩ := r2.cons_inv
       cases z
       rw [List.all_cons, Bool.and_eq_true] at h1 h2
       rw [Zbv, ih d e v h1.1 h2.1 q1 q3, ih2 es ws h1.2 h2.2 q2 q4]
       rfl
    exact key ds es vs h1 h2 r1 r2
   | non => have := q.non_inv; cases this
   | bl _ => have := q.bl_inv; cases this
   | int _ => have := q.int_inv; cases this
   | str _ => have := q.str_inv; cases this
   | _ => simp [Zar] at hb
  | _ => simp [Zar] at ha
theorem Zco (A : Around) (a b : D) (x y : V) (u v : Value) (ha : Zac a = true) (hb : Zac b = true) (ra : Rep X.K H ι a x) (rb : Rep X.K H ι b y) (ru : RelV x u) (rv : RelV y v) : SeqAt.EqAt A s u v (deq a b) := by
 cases a with
 | non => have := ra.non_inv; subst this; cases ru; cases b with
  | non => have := rb.non_inv; subst this; cases rv; exact SeqAt.EqAt.same _
  | bl k => have := rb.bl_inv; subst this; cases rv; exact SeqAt.EqAt.none_bool _
  | int k => have := rb.int_inv; subst this; obtain ⟨t, rfl⟩ := rv; exact SeqAt.EqAt.none_int _ _
  | str k => have := rb.str_inv; subst this; obtain ⟨t, rfl⟩ := rv; exact SeqAt.EqAt.none_str _ _
  | _ => simp [Zac] at hb
 | bl i => have := ra.bl_inv; subst this; cases ru; cases b with
  | non => have := rb.non_inv; subst this; cases rv; exact SeqAt.EqAt.bool_none _
  | bl k => have := rb.bl_inv; subst this; cases rv; exact SeqAt.EqAt.bool_bool _ _
  | int k => have := rb.int_inv; subst this; obtain ⟨t, rfl⟩ := rv; exact SeqAt.EqAt.bool_int _ _ _
  | str k => have := rb.str_inv; subst this; obtain ⟨t, rfl⟩ := rv; exact SeqAt.EqAt.bool_str _ _ _
  | _ => simp [Zac] at hb
 | int i => have := ra.int_inv; subst this; obtain ⟨t0, rfl⟩ := ru; cases b with
  | non => have := rb.non_inv; subst this; cases rv; exact SeqAt.EqAt.int_none _ _
  | bl k => have := rb.bl_inv; subst this; cases rv; exact SeqAt.EqAt.int_bool _ _ _
  | int k => have := rb.int_inv; subst this; obtain ⟨t, rfl⟩ := rv; exact SeqAt.EqAt.int_int _ _ _ _
  | str k => have := rb.str_inv; subst this; obtain ⟨t, rfl⟩ := rv; exact SeqAt.EqAt.int_str _ _ _ _
  | _ => simp [Zac] at hb
 | str i => have := ra.str_inv; subst this; obtain ⟨t0, rfl⟩ := ru; cases b with
  | non => have := rb.non_inv; subst this; cases rv; exact SeqAt.EqAt.str_none _ _
  | bl k => have := rb.bl_inv; subst this; cases rv; exact SeqAt.EqAt.str_bool _ _ _
  | int k => have := rb.int_inv; subst this; obtain ⟨t, rfl⟩ := rv; exact SeqAt.EqAt.str_int _ _ _ _
  | str k => have := rb.str_inv; subst this; obtain ⟨t, rfl⟩ := rv; exact (by
    have e : deq (.str i) (.str k) = ((⟨i.toArray⟩ : Str) == ⟨k.toArray⟩) := by
     rw [deq, ← Zdw]
     by_cases h : (⟨i.toArray⟩ : Str) = ⟨k.toArray⟩
     ·simp [h]
     ·simp [h]
    rw [e]
    exact SeqAt.EqAt.str_str _ _ _ _)
  | _ => simp [Zac] at hb
 | _ => simp [Zac] at ha
theorem ZfF (I : Inv X pins σ H s) : ∀ (n : Nat) (A : Around) (a b : D) (x y : V) (u v : Value), A.units + n + 1 < cLine → Zar n a = true → Zar n b = true → Rep X.K H ι a x → Rep X.K H ι b y → RelV x u → RelV y v → SeqAt.EqAt A s u v (deq a b) := by
 intro n
 induction n with
 | zero =>
  intro A a b x y u v hu ha hb ra rb ru rv
  have f : ∀ d : D, Zar 0 d = true → Zac d = true := fun d h => by cases d <;> simp_all [Zar, Zac]
  exact Zco A a b x y u v (f a ha) (f b hb) ra rb ru rv
 | succ n ih =>
  intro A a b x y u v hu ha hb ra rb ru rv
  have hu0 : A.units + 0 + 1 < cLine := by omega
  have hu1 : A.units < cLine := by omega
  cases a with
  | tup ds =>
   obtain ⟨p, vs, rfl, s1, r1⟩ := ra.tup_inv
   cases ru
   obtain ⟨its, rvs, ht, _⟩ := I.tuple s1
   have it1 : s.heap.IsTuple p its.toArray := ht
   cases b with
   | tup es =>
    obtain ⟨p', ws, rfl, s2, r2⟩ := rb.tup_inv
    cases rv
    obtain ⟨its2, rws, ht2, _⟩ := I.tuple s2
    have it2 : s.heap.IsTuple p' its2.toArray := ht2
    by_cases hp : p = p'
    ·subst hp
     rw [Rep.fun1 I (n + 1) _ _ _ ha hb ra rb]
     exact SeqAt.EqAt.same _
    ·refine SeqAt.EqAt.of_refs hp ?_
     have e1 : its.length = ds.length := by rw [← rvs.length, r1.length]
     have e2 : its2.length = es.length := by rw [← rws.length, r2.length]
     have key : ((List.range (min its.toArray.size its2.toArray.size)).all (fun j => match ds[j]?, es[j]? with | some a, some b => deq a b | _, _ => false) && its.toArray.size == its2.toArray.size) = deq (.tup ds) (.tup es) := by
      rw [deq, List.size_toArray, List.size_toArray, e1, e2]
      by_cases hl : ds.length = es.length
      ·rw [hl, Nat.min_self, beq_self_eq_true, Bool.and_true, ← hl]
       exact ZbV hl fun j a b h1 h2 => by rw [h1, h2]
      ·have z : Zbv ds es = false := by
        cases q : Zbv ds es with
        | false => rfl
        | true => exact absurd (ZcL q) hl
       rw [z, beq_eq_false_iff_ne.mpr hl, Bool.and_false]
     rw [← key]
     refine SeqAt.RcAt.tuples it1 it2 hu1 fun j h1 h2 => ?_
     have h1' : j < ds.length := by rw [← e1]; simpa using h1
     have h2' : j < es.length := by rw [← e2]; simpa using h2
     have q1 : ds[j]? = some ds[j] := by simp [h1']
     have q2 : es[j]? = some es[j] := by simp [h2']
     rw [q1, q2]
     obtain ⟨v1, g1, z1⟩ := r1.get q1
     obtain ⟨v2, g2, z2⟩ := r2.get q2
     obtain ⟨u1, k1, l1⟩ := rvs.get g1
     obtain ⟨u2, k2, l2⟩ := rws.get g2
     have m1 : its.toArray[j] = u1 := by
      have := List.getElem?_eq_some_iff.mp k1
      simpa using this.2
     have m2 : its2.toArray[j] = u2 := by
      have := List.getElem?_eq_some_iff.mp k2
      simpa using this.2
     rw [m1, m2]
     exact ih A.in1 ds[j] es[j] v1 v2 u1 u2 (by rw [units_in1]; omega) (List.all_eq_true.mp (show ds.all (Zar n) = true from ha) _ (List.getElem_mem h1')) (List.all_eq_true.mp (show es.all (Zar n) = true from hb) _ (List.getElem_mem h2')) z1 z2 l1 l2
   | non => have := rb.non_inv; subst this; cases rv; exact SeqAt.EqAt.tuple_none it1 hu1
   | bl k => have := rb.bl_inv; subst this; cases rv; exact SeqAt.EqAt.tuple_bool _ it1 hu1
   | int k => have := rb.int_inv; subst this; obtain ⟨t, rfl⟩ := rv; exact SeqAt.EqAt.tuple_int _ _ it1 hu1
   | str k => have := rb.str_inv; subst this; obtain ⟨t, rfl⟩ := rv; exact SeqAt.EqAt.tuple_str _ _ it1 hu1
   | _ => simp [Zar] at hb
  | non => cases b with
   | tup es =>
    have := ra.non_inv; subst this; cases ru
    obtain ⟨p', ws, rfl, s2, r2⟩ := rb.tup_inv
    cases rv
    obtain ⟨its2, rws, ht2, _⟩ := I.tuple s2
    exact SeqAt.EqAt.none_tuple (show s.heap.IsTuple p' its2.toArray from ht2) hu1
   | scr _ => simp [Zar] at hb
   | ref _ => simp [Zar] at hb
   | _ => exact Zco A _ _ x y u v (by rfl) (by rfl) ra rb ru rv
  | bl i => cases b with
   | tup es =>
    have := ra.bl_inv; subst this; cases ru
    obtain ⟨p', ws, rfl, s2, r2⟩ := rb.tup_inv
    cases rv
    obtain ⟨its2, rws, ht2, _⟩ := I.tuple s2
    exact SeqAt.EqAt.bool_tuple _ (show s.heap.IsTuple p' its2.toArray from ht2) hu1
   | scr _ => simp [Zar] at hb
   | ref _ => simp [Zar] at hb
   | _ => exact Zco A _ _ x y u v (by rfl) (by rfl) ra rb ru rv
  | int i => cases b with
   | tup es =>
    have := ra.int_inv; subst this; obtain ⟨t0, rfl⟩ := ru
    obtain ⟨p', ws, rfl, s2, r2⟩ := rb.tup_inv
    cases rv
    obtain ⟨its2, rws, ht2, _⟩ := I.tuple s2
    exact SeqAt.EqAt.int_tuple _ _ (show s.heap.IsTuple p' its2.toArray from ht2) hu1
   | scr _ => simp [Zar] at hb
   | ref _ => simp [Zar] at hb
   | _ => exact Zco A _ _ x y u v (by rfl) (by rfl) ra rb ru rv
  | str i => cases b with
   | tup es =>
    have := ra.str_inv; subst this; obtain ⟨t0, rfl⟩ := ru
    obtain ⟨p', ws, rfl, s2, r2⟩ := rb.tup_inv
    cases rv
    obtain ⟨its2, rws, ht2, _⟩ := I.tuple s2
    exact SeqAt.EqAt.str_tuple _ _ (show s.heap.IsTuple p' its2.toArray from ht2) hu1
   | scr _ => simp [Zar] at hb
   | ref _ => simp [Zar] at hb
   | _ => exact Zco A _ _ x y u v (by rfl) (by rfl) ra rb ru rv
  | _ => simp [Zar] at ha
end
end L3
namespace L3
open PySem PySem.Spec PyProof.Rows L2
section
variable {X : Cx}
theorem Zk5 {pins : List (Addr × Obj)} {σ : St} {H : Hp} {s : Shared} {ι : List Addr} {M : Store} {a b : D} {x y : V} {u v : Value} {k : Bool} (hu : X.A.units + 80 < cLine) (I : Inv X pins σ H s) (S : Zal X.K H ι M)
  (ra : Rep X.K H ι a x) (rb : Rep X.K H ι b y) (ru : RelV x u) (rv : RelV y v) (h : eqD a b M = some k) : SeqAt.RcAt X.A s u v k := by
 cases a with
 | ref n =>
  cases b with
  | ref m =>
   simp only [eqD] at h
   cases hn : M[n]? with
   | none => simp [hn] at h
   | some o =>
    cases o with
    | dct _ => simp [hn] at h
    | fdct _ => simp [hn] at h
    | lst ds =>
     cases hm : M[m]? with
     | none => simp [hn, hm] at h
     | some o =>
      cases o with
      | dct _ => simp [hn, hm] at h
      | fdct _ => simp [hn, hm] at h
      | lst es =>
       simp only [hn, hm] at h
       split at h
       ·rename_i hp
        cases h
        rw [Bool.and_eq_true] at hp
        obtain ⟨p, hp1, rfl⟩ := ra.ref_inv
        obtain ⟨q, hq1, rfl⟩ := rb.ref_inv
        cases ru
        cases rv
        obtain ⟨vs, e1, r1⟩ := S.obj n _ p hn hp1
        obtain ⟨ws, e2, r2⟩ := S.obj m _ q hm hq1
        obtain ⟨its, rvs, pl1, _⟩ := I.list (SqL.of e1)
        obtain ⟨its2, rws, pl2, _⟩ := I.list (SqL.of e2)
        have it1 := pl1.isList
        have it2 := pl2.isList
        have l1 : its.length = ds.length := by rw [← rvs.length, r1.length]
        have l2 : its2.length = es.length := by rw [← rws.length, r2.length]
        have hu1 : X.A.units < cLine := by omega
        by_cases hl : ds.length = es.length
        ·have key : (List.range its.toArray.size).all (fun j => match ds[j]?, es[j]? with | some a, some b => deq a b | _, _ => false) = Zbv ds es := by
          rw [List.size_toArray, l1]
          exact ZbV hl fun j a b h1 h2 => by rw [h1, h2]
         rw [← key]
         refine SeqAt.RcAt.lists it1 it2 (by rw [List.size_toArray, List.size_toArray, l1, l2, hl]) hu1 fun j h1 h2 => ?_
         have h1' : j < ds.length := by rw [← l1]; simpa using h1
         have h2' : j < es.length := by rw [← l2]; simpa using h2
         have q1 : ds[j]? = some ds[j] := by simp [h1']
         have q2 : es[j]? = some es[j] := by simp [h2']
         rw [q1, q2]
         obtain ⟨v1, g1, z1⟩ := r1.get q1
         obtain ⟨v2, g2, z2⟩ := r2.get q2
         obtain ⟨u1, k1, w1⟩ := rvs.get g1
         obtain ⟨u2, k2, w2⟩ := rws.get g2
         have m1 : its.toArray[j] = u1 := by
          have := List.getElem?_eq_some_iff.mp k1
          simpa using this.2
         have m2 : its2.toArray[j] = u2 := by
          have := List.getElem?_eq_some_iff.mp k2
          simpa using this.2
         rw [m1, m2]
         exact ZfF I DEEP X.A.in1 ds[j] es[j] v1 v2 u1 u2 (by rw [units_in1]; show X.A.units + 1 + 60 + 1 < cLine; omega) (List.all_eq_true.mp hp.1 _ (List.getElem_mem h1')) (List.all_eq_true.mp hp.2 _ (List.getElem_mem h2')) z1 z2 w1 w2
        ·have z : Zbv ds es = false := by
          cases q : Zbv ds es with
          | false => rfl
          | true => exact absurd (ZcL q) hl
         rw [z]
         exact SeqAt.RcAt.lists_lengths it1 it2 (by rw [List.size_toArray, List.size_toArray, l1, l2]; simpa using hl) hu1
       ·cases h
  | _ => simp [eqD] at h
 | int i => cases b with
  | int j =>
   simp only [eqD] at h
   cases h
   have := ra.int_inv; subst this; have := rb.int_inv; subst this
   obtain ⟨t, rfl⟩ := ru
   obtain ⟨t', rfl⟩ := rv
   rw [← Bool.beq_eq_decide_eq]
   exact SeqAt.RcAt.int_int _ _ _ _
  | _ => simp [eqD] at h
 | str i => cases b with
  | str j =>
   simp only [eqD] at h
   cases h
   have := ra.str_inv; subst this; have := rb.str_inv; subst this
   obtain ⟨t, rfl⟩ := ru
   obtain ⟨t', rfl⟩ := rv
   have e : decide (i = j) = ((⟨i.toArray⟩ : Str) == ⟨j.toArray⟩) := by
    rw [← Bool.beq_eq_decide_eq, ← Zdw]
    by_cases h : (⟨i.toArray⟩ : Str) = ⟨j.toArray⟩
    ·simp [h]
    ·simp [h]
   rw [e]
   exact SeqAt.RcAt.str_str _ _ _ _
  | _ => simp [eqD] at h
 | bl i => cases b with
  | bl j =>
   simp only [eqD] at h
   cases h
   have := ra.bl_inv; subst this; have := rb.bl_inv; subst this
   cases ru
   cases rv
   rw [← Bool.beq_eq_decide_eq]
   exact SeqAt.RcAt.bool_bool _ _
  | _ => simp [eqD] at h
 | tup ds => cases b with
  | tup es =>
   simp only [eqD] at h
   split at h
   ·rename_i hp
    cases h
    rw [Bool.and_eq_true] at hp
    obtain ⟨p, vs, rfl, s1, r1⟩ := ra.tup_inv
    obtain ⟨p', ws, rfl, s2, r2⟩ := rb.tup_inv
    cases ru
    cases rv
    obtain ⟨its, rvs, ht, _⟩ := I.tuple s1
    obtain ⟨its2, rws, ht2, _⟩ := I.tuple s2
    have e1 : its.length = ds.length := by rw [← rvs.length, r1.length]
    have e2 : its2.length = es.length := by rw [← rws.length, r2.length]
    have hu1 : X.A.units < cLine := by omega
    have key : ((List.range (min its.toArray.size its2.toArray.size)).all (fun j => match ds[j]?, es[j]? with | some a, some b => deq a b | _, _ => false) && its.toArray.size == its2.toArray.size) = Zbv ds es := by
     rw [List.size_toArray, List.size_toArray, e1, e2]
     by_cases hl : ds.length = es.length
     ·rw [hl, Nat.min_self, beq_self_eq_true, Bool.and_true, ← hl]
      exact ZbV hl fun j a b h1 h2 => by rw [h1, h2]
     ·have z : Zbv ds es = false := by
       cases q : Zbv ds es with
       | false => rfl
       | true => exact absurd (ZcL q) hl
      rw [z, beq_eq_false_iff_ne.mpr hl, Bool.and_false]
    rw [← key]
    refine SeqAt.RcAt.tuples (show s.heap.IsTuple p its.toArray from ht) (show s.heap.IsTuple p' its2.toArray from ht2) hu1 fun j h1 h2 => ?_
    have h1' : j < ds.length := by rw [← e1]; simpa using h1
    have h2' : j < es.length := by rw [← e2]; simpa using h2
    have q1 : ds[j]? = some ds[j] := by simp [h1']
    have q2 : es[j]? = some es[j] := by simp [h2']
    rw [q1, q2]
    obtain ⟨v1, g1, z1⟩ := r1.get q1
    obtain ⟨v2, g2, z2⟩ := r2.get q2
    obtain ⟨u1, k1, w1⟩ := rvs.get g1
    obtain ⟨u2, k2, w2⟩ := rws.get g2
    have m1 : its.toArray[j] = u1 := by
     have := List.getElem?_eq_some_iff.mp k1
     simpa using this.2
    have m2 : its2.toArray[j] = u2 := by
     have := List.getElem?_eq_some_iff.mp k2
     simpa using this.2
    rw [m1, m2]
    exact ZfF I DEEP X.A.in1 ds[j] es[j] v1 v2 u1 u2 (by rw [units_in1]; show X.A.units + 1 + 60 + 1 < cLine; omega) (List.all_eq_true.mp hp.1 _ (List.getElem_mem h1')) (List.all_eq_true.mp hp.2 _ (List.getElem_mem h2')) z1 z2 w1 w2
   ·cases h
  | _ => simp [eqD] at h
 | _ => cases b <;> simp [eqD] at h
theorem ZbE (hu : X.A.units + 80 < cLine) : OpR X (compareOp .Eq) (r2 X.K ZaU) := by
 intro pins s σ H x y v u Q I rx ry h
 obtain ⟨ι, M, a, b, S, ra, rb, h⟩ := h
 unfold ZaU at h
 cases q : eqD a b M with
 | none => rw [q] at h; exact h.elim
 | some k =>
  rw [q] at h
  exact Zk5 hu I S ra rb rx ry q X.prog X.w X.xe _ ⟨.bl k, H, I, rfl, Zae.ok h S Rep.bl⟩
theorem ZgR {K : PySem.W.Frag} {H : Hp} {ι : List Addr} {ds : List D} {vs : List V} {i : Int} {d : D} (r : Zv K H ι ds vs) (h : ZaP ds i = some d) : ∃ v, atI vs i = some v ∧ Rep K H ι d v := by
 unfold ZaP at h
 unfold atI
 have e : ixN vs.length i = ixD ds.length i := by rw [r.length]; rfl
 rw [e]
 cases q : ixD ds.length i with
 | none => rw [q] at h; cases h
 | some j =>
  rw [q] at h
  exact r.get h
theorem Zy : IxR X (r2 X.K Zo) := IxR.imp ZlL fun x y H Q ⟨ι, M, a, b, S, ra, rb, h⟩ => by
 cases a with
 | tup ds => cases b with
  | int i =>
   simp only [Zo] at h
   cases q : ZaP ds i with
   | none => simp only [q] at h; exact h.elim
   | some d =>
    simp only [q] at h
    obtain ⟨p, vs, rfl, s1, r1⟩ := ra.tup_inv
    obtain ⟨v, e, rv⟩ := ZgR r1 q
    exact .inr (.inl ⟨p, vs, i, v, rfl, rb.int_inv, s1, e, Zae.ok h S rv⟩)
  | _ => exact h.elim
 | scr ds => cases b with
  | int i =>
   simp only [Zo] at h
   cases q : ZaP ds i with
   | none => simp only [q] at h; exact h.elim
   | some d =>
    simp only [q] at h
    obtain ⟨p, vs, rfl, s1, r1⟩ := ra.scr_inv
    obtain ⟨v, e, rv⟩ := ZgR r1 q
    exact .inl ⟨p, vs, i, v, rfl, rb.int_inv, s1.sq, e, Zae.ok h S rv⟩
  | _ => exact h.elim
 | str z => cases b with
  | int i =>
   simp only [Zo] at h
   cases q : ZaP z i with
   | none => simp only [q] at h; exact h.elim
   | some c =>
    simp only [q] at h
    split at h
    ·rename_i hz
     refine .inr (.inr ⟨_, i, c, ra.str_inv, rb.int_inv, ?_, ?_, Zae.ok h S Rep.str⟩)
     ·have := ZbK
      simp only [Str.length, List.size_toArray]
      omega
     ·simpa [atI, ixN, ZaP, ixD] using q
    ·exact h.elim
  | _ => exact h.elim
 | ref n => cases b with
  | int i =>
   cases hn : M[n]? with
   | none => simp only [Zo, hn] at h; exact h.elim
   | some o =>
    cases o with
    | dct _ => simp only [Zo, hn] at h; exact h.elim
    | fdct _ => simp only [Zo, hn] at h; exact h.elim
    | lst ds =>
     simp only [Zo, hn] at h
     cases q : ZaP ds i with
     | none => simp only [q] at h; exact h.elim
     | some d =>
      simp only [q] at h
      obtain ⟨p, hp, rfl⟩ := ra.ref_inv
      obtain ⟨vs, e1, r1⟩ := S.obj n _ p hn hp
      obtain ⟨v, e, rv⟩ := ZgR r1 q
      exact .inl ⟨p, vs, i, v, rfl, rb.int_inv, SqL.of e1, e, Zae.ok h S rv⟩
  | _ => exact h.elim
 | _ => cases b <;> exact h.elim
theorem ZgA {K : PySem.W.Frag} {H : Hp} {ι : List Addr} {ds : List D} {vs : List V} (r : Zv K H ι ds vs) (lo hi : Option Int) : Zv K H ι (cutD ds lo hi) (Zf9 vs lo hi) := by
 have e : ∀ n d o, HT.sIx n d o = sIx n d o := fun n d o => by cases o <;> rfl
 unfold cutD Zf9
 rw [e, e, r.length]
 exact (r.drop _).take _
end
end L3
namespace L3
open PySem PySem.Spec PyProof.Rows L2
def Zbs (cells : List (Str × Addr)) : List (Str × NameKind) → List (Str × Addr) → List (Str × Addr)
 | [], cs => cs
 | (n, k) :: r, cs => Zbs cells r (if k == .free then (n, (cells.lookup n).getD 0) :: cs else cs)
theorem ZeZ {scope : Scope} {env : Env} (h : ∀ y ∈ scope.names, y.2 = .free → ∃ c, env.cells.lookup y.1 = some c) : closureFor scope env = pure (Zbs env.cells scope.names []) := by
 unfold closureFor
 have key : ∀ (names : List (Str × NameKind)) (cs : List (Str × Addr)), (∀ y ∈ names, y.2 = .free → ∃ c, env.cells.lookup y.1 = some c) →
   (forIn names cs fun x r => match x with | (name, kind) => if (kind == NameKind.free) = true then do let c ← cellOf env name; pure (ForInStep.yield ((name, c) :: r)) else pure (ForInStep.yield r) : Sem (List (Str × Addr))) = pure (Zbs env.cells names cs) := by
  intro names
  induction names with
  | nil => intro cs _; rfl
  | cons y r ih =>
   intro cs hy
   obtain ⟨n, k⟩ := y
   rw [List.forIn_cons]
   by_cases hk : k = .free
   ·subst hk
    obtain ⟨c, hc⟩ := hy (n, .free) List.mem_cons_self rfl
    have e1 : cellOf env n = pure c := by unfold cellOf; rw [hc]
    simp only [beq_self_eq_true, if_true, e1, pure_bind]
    rw [ih _ fun z hz => hy z (List.mem_cons_of_mem _ hz)]
    simp [Zbs, hc]
   ·have hb : (k == NameKind.free) = false := by simpa using hk
    simp only [hb, Bool.false_eq_true, if_false, pure_bind]
    rw [ih _ fun z hz => hy z (List.mem_cons_of_mem _ hz)]
    simp [Zbs, hb]
 have := key scope.names [] h
 first
  | exact this
  | (simp only [bind_pure]; exact this)
theorem Zhs {cells : List (Str × Addr)} {x : Str} {c : Addr} : ∀ (names : List (Str × NameKind)) (cs : List (Str × Addr)), (∀ y ∈ names, y.2 = .free → ∃ c, cells.lookup y.1 = some c) → (Zbs cells names cs).lookup x = some c → cs.lookup x = some c ∨ cells.lookup x = some c := by
 intro names
 induction names with
 | nil => intro cs _ h; exact .inl h
 | cons y r ih =>
  intro cs hy h
  obtain ⟨n, k⟩ := y
  rw [Zbs] at h
  rcases ih _ (fun z hz => hy z (List.mem_cons_of_mem _ hz)) h with q | q
  ·by_cases hk : k = .free
   ·subst hk
    obtain ⟨c0, hc⟩ := hy (n, .free) List.mem_cons_self rfl
    simp only [beq_self_eq_true, if_true, hc, Option.getD_some, List.lookup_cons] at q
    cases hx : x == n with
    | true =>
     simp only [hx] at q
     cases q
     have : x = n := by simpa using hx
     subst this
     exact .inr hc
    | false => simp only [hx] at q; exact .inl q
   ·have hb : (k == NameKind.free) = false := by simpa using hk
    simp only [hb, Bool.false_eq_true, if_false] at q
    exact .inl q
  ·exact .inr q
theorem ZgK {cells : List (Str × Addr)} {x : Str} : ∀ (names : List (Str × NameKind)) (cs : List (Str × Addr)), (cs.lookup x).isSome = true → ((Zbs cells names cs).lookup x).isSome = true := by
 intro names
 induction names with
 | nil => intro cs h; exact h
 | cons y r ih =>
  intro cs h
  obtain ⟨n, k⟩ := y
  rw [Zbs]
  refine ih _ ?_
  split
  ·rw [List.lookup_cons]
   split
   ·rfl
   ·exact h
  ·exact h
theorem Zfj {cells : List (Str × Addr)} {x : Str} : ∀ (names : List (Str × NameKind)) (cs : List (Str × Addr)), (x, NameKind.free) ∈ names → ((Zbs cells names cs).lookup x).isSome = true := by
 intro names
 induction names with
 | nil => intro cs h; cases h
 | cons y r ih =>
  intro cs h
  obtain ⟨n, k⟩ := y
  rw [Zbs]
  rcases List.mem_cons.mp h with e | h
  ·cases e
   refine ZgK _ _ ?_
   simp
  ·exact ih _ h
def Zb8 (X : Cx) (scope : Scope) (N' : List Str) (C : Addr) (cl : List (Str × Addr)) (s : Shared) (H : Hp) (ex : List Addr) : Cx :=
 { X with N := N', s₀ := s, H₀ := H, env := compEnvC scope cl C X.env, outer := X.stack, stack := X.stack, ex := ex, fn := fun _ => false, pn := [], xe := fun _ _ => False }
def ZiY (N N' : List Str) (scope : Scope) : Bool := (List.range N.length).all fun i => match N'[i]? with
 | some x => (scope.names.lookup x).isNone || (decide (N[i]? = some x) && decide (scope.names.lookup x = some .free))
 | none => false
def CTs (X : Cx) (ifs : List Expr) (ts : List E3) : Prop := ∀ (pins : List (Addr × Obj)) (s : Shared) (σ : St) (H : Hp) (Q : Bool → Hp → Prop), Inv X pins σ H s →
 (∃ ι M env, Zal X.K H ι M ∧ Zbm X.K H ι env σ ∧ match Zej ts env M with | .ok b M' => ∀ H' ι', Ext X.K H ι H' ι' → Zal X.K H' ι' M' → Q b H' | _ => False) →
 wpAny (model X.prog X.w) X.A (forIn ifs true fun c r => if r = true then do let ok ← isTrue c X.env (eval c X.env); pure (ForInStep.yield ok) else pure (ForInStep.yield r)) (TP X pins σ Q) X.xe s
theorem Zjs {X : Cx} : CTs X [] [] := fun pins s σ H Q I ⟨ι, M, env, S, E, h⟩ => wpAny_tests_nil ⟨H, I, h H ι Ext.refl S⟩
section
variable {prog : Program} {w : World} {A : Around} {R : Result → Shared → Prop} {s : Shared}
theorem Zft {elt target iter : Expr} {ifs : List Expr} {scope : Scope} {pos : Pos} {it acc : Value} {env : Env} (I : Nat → Shared → Prop)
  (turn : ∀ n s, I n s → wpAny (model prog w) A (pyNext it) (fun r s₁ => match r with
   | none => R (.ok .next) s₁
   | some v => wpAny (model prog w) A (letOwnedTupleGo target it v) (fun _ s₁' => wpAny (model prog w) A (assign target env v) (fun _ s₂ =>
     wpAny (model prog w) A (forIn ifs true fun c r => if r = true then do let ok ← isTrue c env (eval c env); pure (ForInStep.yield ok) else pure (ForInStep.yield r)) (fun ok s₃ =>
      if ok = true then wpAny (model prog w) A (eval elt env) (fun x s₄ =>
       wpAny (model prog w) A (call (.builtin "list.append") [acc, x]) (fun _ s₅ => ∃ m, m < n ∧ I m s₅) (fun _ _ => False) s₄) (fun _ _ => False) s₃
      else ∃ m, m < n ∧ I m s₃) (fun _ _ => False) s₂) (fun _ _ => False) s₁') (fun _ _ => False) s₁) (fun _ _ => False) s)
  (n : Nat) (h : I n s) : codeAny (model prog w) A (.compLoop (.ListComp elt [⟨target, iter, ifs, 0⟩] scope pos) 0 it acc env) R s := by
 refine codeAny_loop rfl I (fun n s hI => ?_) n h
 show wpAny _ A ((compTurn (.ListComp elt [⟨target, iter, ifs, 0⟩] scope pos) 0 it acc env).onRaise (fun x => do noteFrame x env; theTreesLotGoes x)) _ _ s
 refine wpAny_noted ?_
 rw [compTurn_list]
 refine wpAny_bind (wpAny_standAt (wpAny_bind (wpAny_mono (turn n s hI) (fun r s₁ h₁ => ?_) fun _ _ h' => False.elim h')))
 cases r with
 | none => exact wpAny_pure h₁
 | some v =>
  refine wpAny_bind (wpAny_mono h₁ (fun _ s₁' h₁' => ?_) fun _ _ h' => False.elim h')
  refine wpAny_bind (wpAny_mono h₁' (fun _ s₂ h₂ => wpAny_bind (wpAny_mono h₂ (fun ok s₃ h₃ => ?_) fun _ _ h' => False.elim h')) fun _ _ h' => False.elim h')
  cases ok with
  | false => exact wpAny_pure ⟨rfl, h₃⟩
  | true =>
   exact wpAny_bind (wpAny_bind (wpAny_mono h₃ (fun x s₄ h₄ => wpAny_bind (wpAny_mono h₄ (fun _ s₅ h₅ => wpAny_pure (wpAny_pure ⟨rfl, h₅⟩)) fun _ _ h' => False.elim h')) fun _ _ h' => False.elim h'))
end
theorem Zcu {env : Env} {x : Str} {k : NameKind} : ∀ {names : List (Str × NameKind)}, (names.map fun (n, k) => if (k == NameKind.free && env.scope.kind == .function && env.kindOf n == some .cell) then (n, NameKind.cell) else (n, k)).lookup x = some k →
  ∃ k0, names.lookup x = some k0 ∧ (k0 = k ∨ (k0 = .free ∧ k = .cell)) := by
 intro names
 induction names with
 | nil => intro h; simp at h
 | cons y r ih =>
  intro h
  obtain ⟨n, k1⟩ := y
  rw [List.map_cons] at h
  cases hx : x == n with
  | true =>
   refine ⟨k1, by simp [List.lookup_cons, hx], ?_⟩
   by_cases hc : (k1 == NameKind.free && env.scope.kind == .function && env.kindOf n == some .cell) = true
   ·simp only [if_pos hc, List.lookup_cons, hx] at h
    cases h
    simp only [Bool.and_eq_true, beq_iff_eq] at hc
    exact .inr ⟨hc.1.1, rfl⟩
   ·simp only [if_neg hc, List.lookup_cons, hx] at h
    cases h
    exact .inl rfl
  | false =>
   have h' : (r.map fun (n, k) => if (k == NameKind.free && env.scope.kind == .function && env.kindOf n == some .cell) then (n, NameKind.cell) else (n, k)).lookup x = some k := by
    by_cases hc : (k1 == NameKind.free && env.scope.kind == .function && env.kindOf n == some .cell) = true
    ·simp only [if_pos hc, List.lookup_cons, hx] at h; exact h
    ·simp only [if_neg hc, List.lookup_cons, hx] at h; exact h
   obtain ⟨k0, e, q⟩ := ih h'
   exact ⟨k0, by simp [List.lookup_cons, hx, e], q⟩
theorem ZfZ {env : Env} {x : Str} : ∀ {names : List (Str × NameKind)}, names.lookup x = some .free →
  (names.map fun (n, k) => if (k == NameKind.free && env.scope.kind == .function && env.kindOf n == some .cell) then (n, NameKind.cell) else (n, k)).lookup x = some .free ∨
  (names.map fun (n, k) => if (k == NameKind.free && env.scope.kind == .function && env.kindOf n == some .cell) then (n, NameKind.cell) else (n, k)).lookup x = some .cell := by
 intro names
 induction names with
 | nil => intro h; simp at h
 | cons y r ih =>
  intro h
  obtain ⟨n, k1⟩ := y
  rw [List.map_cons]
  cases hx : x == n with
  | true =>
   simp only [List.lookup_cons, hx] at h
   cases h
   by_cases hc : (NameKind.free == NameKind.free && env.scope.kind == .function && env.kindOf n == some .cell) = true
   ·simp only [if_pos hc, List.lookup_cons, hx]; exact .inr trivial
   ·simp only [if_neg hc, List.lookup_cons, hx]; exact .inl trivial
  | false =>
   simp only [List.lookup_cons, hx] at h
   by_cases hc : (k1 == NameKind.free && env.scope.kind == .function && env.kindOf n == some .cell) = true
   ·simp only [if_pos hc, List.lookup_cons, hx]; exact ih h
   ·simp only [if_neg hc, List.lookup_cons, hx]; exact ih h
section
variable {X : Cx} {pins : List (Addr × Obj)} {σ : St} {H : Hp} {s : Shared} {scope : Scope} {N' : List Str} {own : Nat} {fp : List Addr}
theorem Zi0 (I : Inv X pins σ H s) (hk : scope.kind = .function) (hcell : ∀ y ∈ scope.names, y.2 ≠ .cell) (hfree : ∀ y ∈ scope.names, y.2 = .free → X.env.kindOf y.1 = some .cell ∨ X.env.kindOf y.1 = some .free)
  (hN : N'.length = X.N.length + own) (hv : ZiY X.N N' scope = true) (hfp : ∀ b ∈ fp, ZdN X pins H b) (hlt : ∀ b ∈ fp, b < s.heap.objs.size) {h1 : Heap} {tk : Nat}
  (hns : h1.Ns s.heap.objs.size fun _ => none) (keep : ∀ b o, s.heap.get? b = some o → h1.get? b = some o) :
  Inv (Zb8 X scope N' s.heap.objs.size (Zbs X.env.cells scope.names []) s H fp) [] (σ ++ List.replicate own none) H { s with heap := h1, toks := tk } := by
 have hc0 : ∀ y ∈ scope.names, y.2 = .free → ∃ c, X.env.cells.lookup y.1 = some c := fun y hy e => I.ok.has y.1 (hfree y hy e)
 have sub : ∀ x c, (Zbs X.env.cells scope.names []).lookup x = some c → X.env.cells.lookup x = some c := fun x c h => by
  rcases Zhs scope.names [] hc0 h with q | q
  ·simp at q
  ·exact q
 have cellK : ∀ {c : Addr} {v : Option Value}, s.heap.IsCell c v → h1.IsCell c v := fun ⟨o, ho, hd⟩ => ⟨o, keep _ o ho, hd⟩
 refine ⟨⟨I.ok.mod, hk, I.ok.glob, I.ok.blt, Nat.le_refl _, fun x y c h1 h2 => I.ok.inj x y c (sub x c h1) (sub y c h2), fun x hx => ?_, fun x c h => ?_, I.ok.hd, I.ok.frames, .inl rfl, fun b hb => ⟨Nat.ne_of_lt (hlt b hb), fun x c h => (hfp b hb).2.2.2.2.1 x c (sub x c h)⟩,
   I.bs, Nat.le_trans I.ok.bsz I.sz, fun b o e hb => ?_, fun b hb hz => ?_, I.stack, I.stkFree⟩, rfl, I.bare, Un.kept keep, ⟨_, hns, fun i x v h1 h2 h3 => ?_⟩, fun x c h => ?_, I.hok.fresh (Nat.le_refl _), fun x c h => I.freeC x c (sub x c h),
  fun p hp => absurd (show p ∈ ([] : List (Addr × Obj)) from hp) (by simp), I.hok.kept keep, ?_⟩
 ·have hx' : (relabel scope X.env).names.lookup x = some .cell ∨ (relabel scope X.env).names.lookup x = some .free := hx
  have : scope.names.lookup x = some .free := by
   rcases hx' with hx' | hx'
   ·obtain ⟨k0, e, q⟩ := Zcu (names := scope.names) hx'
    rcases q with q | ⟨q, _⟩
    ·subst q; exact absurd rfl (hcell _ (PySem.mem_of_lookup e))
    ·rw [e, q]
   ·obtain ⟨k0, e, q⟩ := Zcu (names := scope.names) hx'
    rcases q with q | ⟨_, q⟩
    ·rw [e, q]
    ·cases q
  exact Option.isSome_iff_exists.mp (Zfj scope.names [] (PySem.mem_of_lookup this))
 ·cases h
 ·obtain ⟨_, _, _, q, _⟩ := hfp b hb
  rcases q with q | q
  ·exact I.ok.noex b o e q
  ·exact absurd (Nat.lt_of_lt_of_le (Heap.lt_size e) (Nat.le_trans I.ok.bsz q)) (Nat.lt_irrefl _)
 ·have hz' : b ∈ frs X.stack := hz
  obtain ⟨_, q1, q2, _⟩ := hfp b hb
  rcases List.mem_cons.mp (I.stkSub b hz') with e | e
  ·exact q1 e
  ·exact q2 e
 ·have hi : i < σ.length := by
   by_cases hi : i < σ.length
   ·exact hi
   ·rw [List.getElem?_append_right (by omega), List.getElem?_replicate] at h2
    split at h2 <;> cases h2
  rw [List.getElem?_append_left hi] at h2
  have hiN : i < X.N.length := by rw [← I.len]; exact hi
  have hN' : N'[i]? = some x := h1
  have vq := List.all_eq_true.mp hv i (List.mem_range.mpr hiN)
  rw [hN'] at vq
  have h3' : (relabel scope X.env).names.lookup x = some .local ∨ (relabel scope X.env).names.lookup x = some .cell ∨ (relabel scope X.env).names.lookup x = some .free := h3
  have some_of : ∃ k0, scope.names.lookup x = some k0 := by
   rcases h3' with q | q | q <;> (obtain ⟨k0, e, _⟩ := Zcu (names := scope.names) q; exact ⟨k0, e⟩)
  obtain ⟨k0, ek⟩ := some_of
  simp only [ek, Option.isNone_some, Bool.false_or, Bool.and_eq_true, decide_eq_true_eq] at vq
  obtain ⟨vq1, vq2⟩ := vq
  cases vq2
  have hkind := hfree (x, .free) (PySem.mem_of_lookup ek) rfl
  obtain ⟨m, hn, hl⟩ := I.loc
  have hVis : Vis X.env.scope x := by
   rcases hkind with q | q
   ·exact .inr (.inl q)
   ·exact .inr (.inr q)
  obtain ⟨u, ru, lk⟩ := hl i x v vq1 h2 hVis
  refine ⟨u, ru, ?_⟩
  rcases lk with ⟨kl, _⟩ | ⟨_, c, ec, ic⟩
  ·rcases hkind with q | q <;> (rw [q] at kl; cases kl)
  ·have hkk : (compEnvC scope (Zbs X.env.cells scope.names []) s.heap.objs.size X.env).kindOf x = some .cell ∨ (compEnvC scope (Zbs X.env.cells scope.names []) s.heap.objs.size X.env).kindOf x = some .free := by
    rcases ZfZ (env := X.env) ek with q | q
    ·exact .inr q
    ·exact .inl q
   obtain ⟨c', ec'⟩ := Option.isSome_iff_exists.mp (Zfj (cells := X.env.cells) scope.names [] (PySem.mem_of_lookup ek))
   have e2 := sub x c' ec'
   rw [ec] at e2
   cases e2
   exact .inr ⟨hkk, c, ec', cellK ic⟩
 ·obtain ⟨v, ic⟩ := I.cell x c (sub x c h)
  exact ⟨v, cellK ic⟩
 ·show (σ ++ List.replicate own none).length = N'.length
  rw [List.length_append, List.length_replicate, I.len, hN]
theorem Zbm.grow {K : PySem.W.Frag} {H : Hp} {ι : List Addr} {env : ZaD} {σ : St} (E : Zbm K H ι env σ) (n : Nat) : Zbm K H ι (env ++ List.replicate n none) (σ ++ List.replicate n none) := by
 refine ⟨by simp [E.1], fun i d h => ?_⟩
 by_cases hi : i < env.length
 ·rw [List.getElem?_append_left hi] at h
  obtain ⟨v, e, r⟩ := E.2 i d h
  exact ⟨v, by rw [List.getElem?_append_left (by rw [← E.1]; exact hi)]; exact e, r⟩
 ·rw [List.getElem?_append_right (by omega), List.getElem?_replicate] at h
  split at h <;> cases h
end
section
variable {X : Cx} {elt tg iter : Expr} {ifs : List Expr} {scope : Scope} {pos : Pos} {i : I3} {own : Nat} {g : G3} {ts : List E3} {f : E3} {N' : List Str}
structure ZgL (X : Cx) (scope : Scope) (N' : List Str) (own : Nat) : Prop where
 kind : scope.kind = .function
 cell : ∀ y ∈ scope.names, y.2 ≠ .cell
 free : ∀ y ∈ scope.names, y.2 = .free → X.env.kindOf y.1 = some .cell ∨ X.env.kindOf y.1 = some .free
 names : ∀ y ∈ scope.names, y.2 = .local → scope.names.lookup y.1 = some .local
 len : N'.length = X.N.length + own
 vis : ZiY X.N N' scope = true
theorem Zgt {pins : List (Addr × Obj)} {σ : St} {s2 : Shared} {H2 : Hp} {ι2 : List Addr} {M2 : Store} {env : ZaD} {it : Addr} {fp : List Addr} {tn : Nat → Heap → Prop} {J : It} {itd : It3} {Q : VK} {E : Value → Shared → Prop} (O : ZgL X scope N' own) (hc : X.calm = true)
  (hb : ∀ C cl s H ex, CG (Zb8 X scope N' C cl s H ex) tg g ∧ CTs (Zb8 X scope N' C cl s H ex) ifs ts ∧ C3 (Zb8 X scope N' C cl s H ex) elt f)
  (I2 : Inv X pins σ H2 s2) (T : Turn X.prog X.w X.K tg J fp it tn) (st0 : tn 0 s2.heap) (hfp : ∀ b ∈ fp, ZdN X pins H2 b) (S2 : Zal X.K H2 ι2 M2) (E2 : Zbm X.K H2 ι2 env σ) (ok : ZhR X.K H2 ι2 itd J)
  (h : Zae X.K H2 ι2 Q (Zc4 itd g ts f M2.length itd.items (env ++ List.replicate own none) (M2 ++ [.lst []])))
  (RR : Value → Addr → Result → Shared → Prop)
  (fin : ∀ (acc C : Addr) (s' : Shared) (m : Str → Option Value) (H' : Hp), s'.heap.Ns C m → ZdN X pins H' C → Inv X pins σ H' s' → Q (.ref acc) H' → RR (.ref acc) C (.ok .next) s') :
  wpAny (model X.prog X.w) X.A (newList []) (fun acc s₃ => wpAny (model X.prog X.w) X.A (newFunctionEnv scope X.env.globals (Zbs X.env.cells scope.names []) [] X.env.qual none .none (some X.env)) (fun cenv s₄ =>
   codeAny (model X.prog X.w) X.A (.compStart (.ListComp elt [⟨tg, iter, ifs, 0⟩] scope pos) 0 (.ref it) acc { cenv with scope := relabel scope X.env }) (RR acc cenv.locals) s₄) E s₃) E s2 := by
 refine wpAny_newObj_type ?_
 have hD : H2 s2.heap.objs.size = none := I2.hok.fresh (Nat.le_refl _)
 obtain ⟨x3, S3, r3⟩ := S2.lst hD (Zv.nil (K := X.K) (H := H2) (ι := ι2))
 have I3 : Inv X pins σ (upd H2 s2.heap.objs.size (.lst [])) { s2 with heap := s2.heap.push { cls := .type "list", data := .seq ([] : List Value).toArray } } :=
  I2.laid (t' := s2.toks) (fun b u e => Heap.get?_push_of_some _ e) (Nat.le_refl _) ⟨Nat.zero_le _, [], 0, .nil, Heap.get?_push_size _ rfl⟩
 generalize hs3 : ({ s2 with heap := s2.heap.push { cls := .type "list", data := .seq ([] : List Value).toArray } } : Shared) = s3 at I3 ⊢
 have keep23 : ∀ b o, s2.heap.get? b = some o → s3.heap.get? b = some o := fun b o e => by rw [← hs3]; exact Heap.get?_push_of_some _ e
 have hfp3 : ∀ b ∈ fp, ZdN X pins (upd H2 s2.heap.objs.size (.lst [])) b := fun b hb => by
  refine ⟨?_, (hfp b hb).2⟩
  obtain ⟨o, e, _⟩ := T.obj _ _ st0 b hb
  rw [ZaW (Nat.ne_of_lt (Heap.lt_size e))]
  exact (hfp b hb).1
 have hlt3 : ∀ b ∈ fp, b < s3.heap.objs.size := fun b hb => by
  obtain ⟨o, e, _⟩ := T.obj _ _ st0 b hb
  exact Heap.lt_size (keep23 b o e)
 have st3 : tn 0 s3.heap := T.keep _ _ _ st0 fun b hb o e => keep23 b o e
 refine wpAny_newFunctionEnv O.cell (by intro y hy; cases hy) (fun h4 hns hsb => ?_) O.kind
 have keep34 : ∀ b o, s3.heap.get? b = some o → h4.get? b = some o := fun b o e => hsb.extBut b o (Nat.ne_of_lt (Heap.lt_size e)) (Heap.get?_push_of_some _ e)
 have I4 := Zi0 (own := own) (N' := N') (tk := s3.toks + ([] : List (Str × Value)).length) I3 O.kind O.cell O.free O.len O.vis hfp3 hlt3 hns keep34
 have st4 : tn 0 h4 := T.keep _ _ _ st3 fun b hb o e => keep34 b o e
 have hfp4 : ∀ {H' : Hp}, (∀ b ∈ fp, H' b = none) → ∀ b ∈ fp, ZdN (Zb8 X scope N' s3.heap.objs.size (Zbs X.env.cells scope.names []) s3 (upd H2 s2.heap.objs.size (.lst [])) fp) [] H' b := fun hn b hb => by
  have hc0 : ∀ y ∈ scope.names, y.2 = .free → ∃ c, X.env.cells.lookup y.1 = some c := fun y hy e => I2.ok.has y.1 (O.free y hy e)
  refine ⟨hn b hb, Nat.ne_of_lt (hlt3 b hb), fun hz => I4.ok.exfs b hb hz, .inl hb, fun x c hx => (I4.ok.exf b hb).2 x c hx, fun p hp => absurd (show p ∈ ([] : List (Addr × Obj)) from hp) (by simp)⟩
 obtain ⟨hg, hts, helt⟩ := hb s3.heap.objs.size (Zbs X.env.cells scope.names []) s3 (upd H2 s2.heap.objs.size (.lst [])) fp
 have loop : ∀ s₄ : Shared, s₄ = { s3 with heap := h4, toks := s3.toks + ([] : List (Str × Value)).length } →
   codeAny (model X.prog X.w) X.A (.compLoop (.ListComp elt [⟨tg, iter, ifs, 0⟩] scope pos) 0 (.ref it) (.ref s2.heap.objs.size) (compEnvC scope (Zbs X.env.cells scope.names []) s3.heap.objs.size X.env)) (RR (.ref s2.heap.objs.size) s3.heap.objs.size) s₄ := by
  rintro s₄ rfl
  refine Zft (fun n s' => ∃ k σ5 H5 ι5 M5 env5, Inv (Zb8 X scope N' s3.heap.objs.size (Zbs X.env.cells scope.names []) s3 (upd H2 s2.heap.objs.size (.lst [])) fp) [] σ5 H5 s' ∧ tn k s'.heap ∧ (∀ b ∈ fp, H5 b = none) ∧ n = itd.items.length - k ∧ k ≤ itd.items.length ∧
   Ext X.K H2 ι2 H5 ι5 ∧ Zal X.K H5 ι5 M5 ∧ Zbm X.K H5 ι5 env5 σ5 ∧ ι5[M2.length]? = some s2.heap.objs.size ∧ Zae X.K H5 ι5 Q (Zc4 itd g ts f M2.length (itd.items.drop k) env5 M5)) ?_ itd.items.length
   ⟨0, _, _, _, _, _, I4, st4, fun b hb => (hfp3 b hb).1, rfl, Nat.zero_le _, x3, S3, (E2.mono x3).grow own, ?_, h.up x3⟩
  ·rintro n s5 ⟨k, σ5, H5, ι5, M5, env5, I5, st5, fr5, rfl, hk, x5, S5, E5, hι, h5⟩
   by_cases hlt : k < itd.items.length
   ·have hd : itd.items[k]? = some itd.items[k] := by simp [hlt]
    rw [List.drop_eq_getElem_cons hlt] at h5
    unfold Zc4 at h5
    by_cases lk : locked itd M5 = true
    ·rw [if_pos lk] at h5
     obtain ⟨go, yl⟩ := (ok k H5 ι5 M5 x5 S5 lk).1 _ hd
     cases eg : g itd.items[k] env5 with
     | none => rw [eg] at h5; exact h5.elim
     | some env6 =>
      rw [eg] at h5
      refine thn (T.item (Zb8 X scope N' s3.heap.objs.size (Zbs X.env.cells scope.names []) s3 (upd H2 s2.heap.objs.size (.lst [])) fp) rfl rfl rfl hc k [] s5 σ5 H5 (fun _ _ => False) I5 (hfp4 fr5) st5 go) fun r s6 ⟨u, hr, h6⟩ => ?_
      subst hr
      refine thn h6 fun _ s7 ⟨x, H7, I7, r7, y7, st7, fr7⟩ => ?_
      obtain ⟨rfl, rx⟩ := yl x H7 y7
      have I7' := I7.pinned (hfp4 fr7) (T.obj _ _ st7)
      refine thn (hg _ s7 σ5 H7 x u (fun σ' H' => H' = H7 ∧ Zbm X.K H7 ι5 env6 σ') I7' r7 ⟨ι5, M5, env5, _, env6, S5, E5, rx, eg, fun σ' E' => ⟨rfl, E'⟩⟩) fun _ s8 ⟨σ8, H8, I8, e8, E8⟩ => ?_
      subst e8
      have back : ∀ {σ' : St} {H' : Hp} {s' : Shared}, Inv (Zb8 X scope N' s3.heap.objs.size (Zbs X.env.cells scope.names []) s3 (upd H2 s2.heap.objs.size (.lst [])) fp) ([] ++ Zeu fp s7.heap) σ' H' s' →
        Inv (Zb8 X scope N' s3.heap.objs.size (Zbs X.env.cells scope.names []) s3 (upd H2 s2.heap.objs.size (.lst [])) fp) [] σ' H' s' ∧ tn (k + 1) s'.heap ∧ ∀ b ∈ fp, H' b = none := fun {σ' H' s'} I' => by
       refine ⟨I'.unpinned, T.keep _ _ _ st7 fun b hb o e => (I'.pin (b, o) (List.mem_append_right _ (List.mem_append_right _ (ZcS hb e)))).1, fun b hb => ?_⟩
       obtain ⟨o, e, d⟩ := T.obj _ _ st7 b hb
       exact (I'.pin (b, o) (List.mem_append_right _ (List.mem_append_right _ (ZcS hb e)))).2.1
      obtain ⟨b, M9, e9, h9⟩ := Zae.bind h5
      refine thn (hts _ s8 σ8 H8 (fun b' H' => b' = b ∧ ∃ ι9, Ext X.K H8 ι5 H' ι9 ∧ Zal X.K H' ι9 M9) I8 ⟨ι5, M5, env6, S5, E8, by rw [e9]; exact fun H' ι' x' S' => ⟨rfl, ι', x', S'⟩⟩) fun b' s9 ⟨H9, I9, eb, ι9, x9, S9⟩ => ?_
      subst eb
      cases b' with
      | false =>
       rw [if_neg (by decide)] at h9 ⊢
       obtain ⟨I9', st9, fr9⟩ := back I9
       exact ⟨itd.items.length - (k + 1), by omega, k + 1, σ8, H9, ι9, M9, env6, I9', st9, fr9, rfl, hlt, x5.trans x9, S9, E8.mono x9, x9.pre _ _ hι, h9.up x9⟩
      | true =>
       rw [if_pos rfl] at h9 ⊢
       obtain ⟨d, M10, e10, h10⟩ := Zae.bind h9
       refine thn (helt _ s9 σ8 H9 (fun v H' => ∃ ι10, Ext X.K H9 ι9 H' ι10 ∧ Zal X.K H' ι10 M10 ∧ Rep X.K H' ι10 d v) I9 ⟨ι9, M9, env6, S9, E8.mono x9, by rw [e10]; exact fun v H' ι' x' S' r' => ⟨ι', x', S', r'⟩⟩) fun xv s10 ⟨v, H10, I10, r10, ι10, x10, S10, rd⟩ => ?_
       have hι10 : ι10[M2.length]? = some s2.heap.objs.size := x10.pre _ _ (x9.pre _ _ hι)
       cases hm : M10[M2.length]? with
       | none => rw [hm] at h10; exact h10.elim
       | some o =>
        cases o with
        | dct _ => rw [hm] at h10; exact h10.elim
        | fdct _ => rw [hm] at h10; exact h10.elim
        | lst xs =>
         rw [hm] at h10
         by_cases hz : xs.length < SZ
         ·simp only [if_pos hz] at h10
          obtain ⟨vs, ev, rvs⟩ := S10.obj _ _ _ hm hι10
          obtain ⟨x11, S11⟩ := S10.setl (.inr (.inl ⟨_, ev⟩)) hι10 (rvs.append (Zv.cons rd Zv.nil))
          refine thn (Zfg _ s10 σ8 H10 (.ref s2.heap.objs.size) [v] (.ref s2.heap.objs.size) [xv] (fun _ H' => H' = upd H10 s2.heap.objs.size (.lst (vs ++ [v]))) I10 rfl (.cons r10 .nil) ⟨_, vs, v, rfl, rfl, ev, by rw [rvs.length]; exact Nat.lt_of_lt_of_le hz ZbK, rfl⟩) fun _ s11 ⟨_, H11, I11, _, eH⟩ => ?_
          subst eH
          obtain ⟨I11', st11, fr11⟩ := back I11
          exact ⟨itd.items.length - (k + 1), by omega, k + 1, σ8, _, ι10, _, env6, I11', st11, fr11, rfl, hlt, ((x5.trans x9).trans x10).trans x11, S11, ((E8.mono x9).mono x10).mono x11, hι10, ((h10.up x9).up x10).up x11⟩
         ·simp only [if_neg hz] at h10; exact h10.elim
    ·rw [if_neg lk] at h5; exact h5.elim
   ·have e0 : k = itd.items.length := by omega
    subst e0
    rw [List.drop_length] at h5
    unfold Zc4 at h5
    by_cases lk : locked itd M5 = true
    ·rw [if_pos lk] at h5
     refine thn (T.done (Zb8 X scope N' s3.heap.objs.size (Zbs X.env.cells scope.names []) s3 (upd H2 s2.heap.objs.size (.lst [])) fp) rfl rfl rfl hc _ [] s5 σ5 H5 (fun _ _ => False) I5 (hfp4 fr5) st5 ((ok _ H5 ι5 M5 x5 S5 lk).2 rfl)) fun r s6 ⟨hr, I6⟩ => ?_
     subst hr
     obtain ⟨m6, hn6, _⟩ := I6.loc
     have I7 : Inv X pins σ H5 s6 := I3.call' (ch := fp) I6.os I6.base I6.hok I6.bare fun b hb => ⟨(hfp3 b hb).2.2.2.1, (hfp3 b hb).2.1, (hfp3 b hb).2.2.2.2.1, (hfp3 b hb).2.2.2.2.2⟩
     exact fin _ _ s6 m6 H5 hn6 (I3.fpOk (Nat.le_refl _) I6.free) I7 (h5 _ H5 ι5 Ext.refl S5 (Rep.ref hι))
    ·rw [if_neg lk] at h5; exact h5.elim
  ·rw [← S2.len]; simp
 exact codeAny_compStart_list (loop _ rfl) (T.self _ 0 _ _ _ st4 (loop _ rfl))
theorem Zm7 (O : ZgL X scope N' own) (hxe : X.xe = fun _ _ => False) (hc : X.calm = true) (hi : CI X tg iter i)
  (hb : ∀ C cl s H ex, CG (Zb8 X scope N' C cl s H ex) tg g ∧ CTs (Zb8 X scope N' C cl s H ex) ifs ts ∧ C3 (Zb8 X scope N' C cl s H ex) elt f)
  (hs : ∀ x, foldedSetIterable iter X.env x = pure x := by intro _; rfl) : C3 X (.ListComp elt [⟨tg, iter, ifs, 0⟩] scope pos) (eLC i own g ts f) := by
 intro pins s σ H Q I h
 obtain ⟨ι, M, env, S, E, h⟩ := h
 obtain ⟨itd, M1, e1, h⟩ := Zae.bind h
 have hc0 : ∀ y ∈ scope.names, y.2 = .free → ∃ c, X.env.cells.lookup y.1 = some c := fun y hy e => I.ok.has y.1 (O.free y hy e)
 rw [eval_ListComp]
 refine wpAny_comprehension_free (use := none) rfl hs (ZeZ hc0) O.kind O.names ?_
 refine thn (hi pins s σ H (fun J H' => ∃ ι', Ext X.K H ι H' ι' ∧ Zal X.K H' ι' M1 ∧ ZhR X.K H' ι' itd J) I ⟨ι, M, env, S, E, by rw [e1]; exact fun J H' ι' x S' o => ⟨ι', x, S', o⟩⟩) fun v s1 h1 => thn h1 fun itv s2 h2 => ?_
 obtain ⟨it, fp, tn, J, H2, rfl, I2, T, st2, f2, ι2, x2, S2, ok⟩ := h2
 refine Zgt (own := own) (g := g) (ts := ts) (f := f) O hc hb I2 T st2 f2 S2 (E.mono x2) ok (h.up x2) (fun acc C => compPost (model X.prog X.w) X.A X.xe none (EP X pins σ Q) acc C) ?_
 intro acc C s' m H' hn hf I' hq
 obtain ⟨f0, f1, f2', f3, f4, f5⟩ := hf
 exact ⟨m, hn, fun h' sb => ⟨.ref acc, H', I'.turned (t' := s'.toks) (fun b o hb e => (sb.2 b hb).trans e) f0 f1 f3 f4 f5, rfl, hq⟩⟩
end
end L3
namespace L3
open PySem PySem.Spec PyProof.Rows L2
theorem ZcE {k : Nat} {A : Around} (r : Zcd k A) : A.units + 80 < cLine := by have := r.un; omega
def Its (x : Str) : It := ⟨fun i _ => i < x.cps.size, fun i H y H' => H' = H ∧ ∃ c, x.cps[i]? = some c ∧ y = .str ⟨#[c]⟩, fun i _ => i = x.cps.size⟩
theorem Zh9 {P : Program} {w : World} {K : PySem.W.Frag} {tg : Expr} {it : Addr} {x : Str} {t : Tok} {ty : String} (W : ∀ A' : Around, A'.handled = none → Walks P w A' it [it] [it] x.cps.size (SignAt x) (fun i h => h.IsStrIter it ty x t i))
  (hs : ∀ (A : Around) (i : Nat) (s : Shared) (Q : Value → Shared → Prop) (E : Value → Shared → Prop), s.heap.IsStrIter it ty x t i → Q (.ref it) s → wpAny (model P w) A (pyIter (.ref it)) Q E s)
  (hty : ["enumerate", "zip", "dict_itemiterator", "dict_reverseitemiterator", "odict_iterator", "itertools.zip_longest", "itertools.pairwise"].contains ty = false) : Turn P w K tg (Its x) [it] it (fun i h => h.IsStrIter it ty x t i) where
 mem := by simp
 obj := fun i h st b hb => by
  have e : b = it := by simpa using hb
  subst e
  obtain ⟨o, e, c, d⟩ := st
  exact ⟨o, e, fun v z => by rw [d] at z; cases z⟩
 keep := fun i h h' st k => let ⟨o, e, r⟩ := st; ⟨o, k it (by simp) o e, r⟩
 item := by
  intro X hP hw hK hc i pins s σ H E I hf st hg
  subst hP hw hK
  obtain ⟨f0, f1, f2, f3, f4, f5⟩ := hf it (by simp)
  refine (W X.A (I.ok.hd hc)).item i s _ _ hg st fun v h' tk hv st' kk => ?_
  obtain ⟨c, u, hx, rfl⟩ := hv
  have I1 : Inv X pins σ H { s with heap := h', toks := tk } := I.turned (fun b o hb e => kk b o (by simpa using hb) e) f0 f1 f3 f4 f5
  obtain ⟨o, e, cc, d⟩ := id st'
  exact ⟨_, rfl, Zhd (s := { s with heap := h', toks := tk }) e cc d hty ⟨.str ⟨#[c]⟩, H, I1, ⟨u, rfl⟩, ⟨rfl, c, hx, rfl⟩, st', fun b hb => (hf b hb).1⟩⟩
 done := by
  intro X hP hw hK hc i pins s σ H E I hf st hg
  subst hP hw hK
  obtain ⟨f0, f1, f2, f3, f4, f5⟩ := hf it (by simp)
  have e : i = x.cps.size := hg
  subst e
  exact (W X.A (I.ok.hd hc)).done s _ _ st fun h' tk kk => ⟨rfl, I.turned (fun b o hb e => kk b o (by simpa using hb) e) f0 f1 f3 f4 f5⟩
 self := hs
section
variable {X : Cx} {tg e o : Expr} {es : List Expr} {pos p apos cpos : Pos} {f : E3} {gl : EL3}
theorem Zlx (h : C3 X e f) : PI X tg e (fun σ H R => tOf X.K f σ H fun x H1 => ∃ z : Str, x = .str z ∧ z.length ≤ SZ ∧ ∀ J, (∀ ι, ZhR X.K H1 ι ⟨z.cps.toList.map fun c => .str [c], none⟩ J) → R J H1) := by
 intro pins s σ H R I hw
 refine thn (h pins s σ H _ I hw) fun v s1 ⟨x, H1, I1, r1, z, ex, hz, q⟩ => ?_
 subst ex
 obtain ⟨t, rfl⟩ := r1
 have key : ∀ (ty : String) (o : Obj), (∀ A' : Around, A'.handled = none → Walks X.prog X.w A' s1.heap.objs.size [s1.heap.objs.size] [s1.heap.objs.size] z.cps.size (SignAt z) (fun i h => h.IsStrIter s1.heap.objs.size ty z t i)) →
   (∀ (A : Around) (i : Nat) (s : Shared) (Q : Value → Shared → Prop) (E : Value → Shared → Prop), s.heap.IsStrIter s1.heap.objs.size ty z t i → Q (.ref s1.heap.objs.size) s → wpAny (model X.prog X.w) A (pyIter (.ref s1.heap.objs.size)) Q E s) →
   ["enumerate", "zip", "dict_itemiterator", "dict_reverseitemiterator", "odict_iterator", "itertools.zip_longest", "itertools.pairwise"].contains ty = false → (s1.heap.push o).IsStrIter s1.heap.objs.size ty z t 0 →
   PIE X pins σ tg R (.ref s1.heap.objs.size) { s1 with heap := s1.heap.push o } := by
  intro ty o W hs hty st
  refine ⟨s1.heap.objs.size, [s1.heap.objs.size], _, _, H1, rfl, I1.kept (t' := s1.toks) fun b o e => Heap.get?_push_of_some _ e, Zh9 W hs hty, st, fun b hb => ?_, q _ fun ι => ?_⟩
  ·have e : b = s1.heap.objs.size := by simpa using hb
   subst e
   exact I1.fpOk (Nat.le_refl _) (I1.hok.fresh (Nat.le_refl _))
  ·intro i H2 ι2 M2 x S _
   refine ⟨fun d hd => ?_, fun hl => ?_⟩
   ·rw [List.getElem?_map] at hd
    cases hq : z.cps.toList[i]? with
    | none => rw [hq] at hd; cases hd
    | some c =>
     rw [hq] at hd
     have hd' : D.str [c] = d := by simpa using hd
     subst hd'
     have hi : i < z.cps.size := by
      have := (List.getElem?_eq_some_iff.mp hq).1
      simpa using this
     refine ⟨hi, fun y H3 hy => ⟨hy.1, ?_⟩⟩
     obtain ⟨_, c', hc', rfl⟩ := hy
     have : c' = c := by
      rw [← Array.getElem?_toList, hq] at hc'
      exact (Option.some.inj hc').symm
     subst this
     exact Rep.str
   ·show i = z.cps.size
    rw [hl]
    simp
 cases ha : z.cps.all (· < 128)
 ·exact wpAny_pyIter_wide ha (key "str_iterator" _ (fun A' hA => Walks.strWide hA _ z t) (fun _ _ _ _ _ st h => wpAny_pyIter_striter_wide st h) (by decide) ⟨_, Heap.get?_push_size _ rfl, rfl, rfl⟩)
 ·exact wpAny_pyIter_ascii ha (key "str_ascii_iterator" _ (fun A' hA => Walks.strAscii hA _ z t) (fun _ _ _ _ _ st h => wpAny_pyIter_striter_ascii st h) (by decide) ⟨_, Heap.get?_push_size _ rfl, rfl, rfl⟩)
theorem Znp (h : C3 X e f) : CI X tg e (Zje f) := ZkO h (Zlx h)
theorem ZlB {K : PySem.W.Frag} {T : String} {ty : D → Store → Bool} {m : D → List D → Store → R3 D} (hty : ∀ H ι M a x, Zal K H ι M → Rep K H ι a x → ty a M = true → tyV K T x H) (σ : St) (H : Hp) (Q : VK) (h : tOf K (Zcy ty m f gl) σ H Q) : tBM K T (rM K m) (tOf K f) (tAf K gl) σ H Q := by
 obtain ⟨ι, M, env, S, E, h⟩ := h
 obtain ⟨a, M1, e1, h⟩ := Zae.bind h
 refine ⟨ι, M, env, S, E, ?_⟩
 rw [e1]
 intro v H1 ι1 x1 S1 r1
 by_cases ht : ty a M1 = true
 ·rw [if_pos ht] at h
  obtain ⟨ds, M2, e2, h⟩ := Zae.bind h
  refine ⟨hty _ _ _ _ _ S1 r1 ht, ι1, M1, env, S1, E.mono x1, ?_⟩
  rw [e2]
  intro vs H2 ι2 x2 S2 r2
  exact ⟨ι2, M2, a, ds, S2, r1.mono x2, r2, (h.up x1).up x2⟩
 ·rw [if_neg ht] at h; exact h.elim
theorem Zkx {K : PySem.W.Frag} (H : Hp) (ι : List Addr) (M : Store) (a : D) (x : V) (S : Zal K H ι M) (r : Rep K H ι a x) (h : tyL a M = true) : tyV K "list" x H := by
 cases a with
 | ref n =>
  simp only [tyL] at h
  cases hn : M[n]? with
  | none => simp [hn] at h
  | some o =>
   cases o with
   | dct _ => simp [hn] at h
   | fdct _ => simp [hn] at h
   | lst xs =>
    obtain ⟨p, hp, rfl⟩ := r.ref_inv
    obtain ⟨vs, e, _⟩ := S.obj n _ p hn hp
    exact .inl ⟨rfl, vs, SqL.of e⟩
 | _ => simp at h
theorem _root_.L2.MtR.imp {id : String} {r r' : V → List V → Hp → VK → Prop} (h : MtR X id r) (i : ∀ x xs H Q, r' x xs H Q → r x xs H Q) : MtR X id r' := fun pins s σ H x xs v us Q I rx rs q => h pins s σ H x xs v us Q I rx rs (i x xs H Q q)
theorem ZiQ : MtR X "list.append" (rM X.K ZaS) := MtR.imp (r := Zhk) Zfg fun x xs H Q ⟨ι, M, a, ds, S, ra, rd, h⟩ => by
 cases a with
 | ref n =>
  cases ds with
  | nil => exact h.elim
  | cons d ds =>
   cases ds with
   | cons _ _ => exact h.elim
   | nil =>
    simp only [ZaS] at h
    cases hn : M[n]? with
    | none => simp only [hn] at h; exact h.elim
    | some o =>
     cases o with
     | dct _ => simp only [hn] at h; exact h.elim
     | fdct _ => simp only [hn] at h; exact h.elim
     | lst z =>
      simp only [hn] at h
      split at h
      ·rename_i hz
       obtain ⟨p, hp, rfl⟩ := ra.ref_inv
       obtain ⟨v, ws, rfl, r1, r2⟩ := rd.cons_inv
       have := r2.nil_inv
       subst this
       obtain ⟨vs, e, rv⟩ := S.obj n _ p hn hp
       obtain ⟨x2, S2⟩ := S.setl (.inr (.inl ⟨_, e⟩)) hp (rv.append (Zv.cons r1 Zv.nil))
       exact ⟨p, vs, v, rfl, rfl, e, by rw [rv.length]; exact Nat.lt_of_lt_of_le hz ZbK, h _ _ _ x2 S2 Rep.non⟩
      ·exact h.elim
 | _ => exact h.elim
theorem Zbc (ho : C3 X o f) (ha : CA X (e :: es) gl)
  (hbase : attributeBase o "append" X.env (eval o X.env) = eval o X.env := by rfl)
  (hfew : ((backTo cpos (starEach (e :: es) X.env)).all (fun x => !x.1) && (backToKw cpos (keywordEach [] X.env)).all (fun x => x.1.isSome)
   && decide ((e :: es).length + ([] : List Keyword).length + (if ([] : List Keyword).isEmpty then 0 else 1) < 30)) = true := by rfl)
  (hline : (apos.endLine == cpos.line) = true := by rfl) (hs : starEach (e :: es) X.env = (false, eval e X.env) :: starEach es X.env := by rfl) (hplain : (backTo cpos (starEach es X.env)).any (·.1) = false := by rfl) :
  C3 X (.Call (.Attribute o "append" apos) (e :: es) [] cpos) (Zcy tyL ZaS f gl) :=
 (Zl5 PySem.F.plainAttrs_list PySem.F.slot_list_append PySem.F.type_list_append ZiQ ho ha hbase hfew hline hs hplain).imp (ZlB Zkx)
theorem Zmm : OpR X (compareOp .In) (r2 X.K fun a b M => match a, b with | .str [c], .str y => .ok (.bl (decide (c ∈ y))) M | _, _ => .bad) := OpR.imp ZhZ fun x y H Q ⟨ι, M, a, b, S, ra, rb, h⟩ => by
 cases a with
 | str z =>
  cases z with
  | nil => cases b <;> exact h.elim
  | cons c z =>
   cases z with
   | cons _ _ => cases b <;> exact h.elim
   | nil =>
    cases b with
    | str y =>
     refine ⟨_, _, ra.str_inv, rb.str_inv, ?_⟩
     have e := StrLaws.found_one (⟨y.toArray⟩ : Str) c
     rw [show (⟨[c].toArray⟩ : Str) = ⟨#[c]⟩ from rfl, e]
     exact Zae.ok h S Rep.bl
    | _ => exact h.elim
 | _ => cases b <;> exact h.elim
end
end L3
namespace L3
open PySem PySem.Spec PyProof.Rows L2
section
variable {X : Cx}
theorem ZlD {pins : List (Addr × Obj)} {σ : St} {H : Hp} {s : Shared} {ι : List Addr} {M : Store} {a b : D} {x y : V} {u v : Value} {k : Bool} (hu : X.A.units + 80 < cLine) (I : Inv X pins σ H s) (S : Zal X.K H ι M)
  (ra : Rep X.K H ι a x) (rb : Rep X.K H ι b y) (ru : RelV x u) (rv : RelV y v) (h : eqD a b M = some k) : SeqAt.RcNeAt X.A s u v (!k) := by
 cases a with
 | ref n =>
  cases b with
  | ref m =>
   simp only [eqD] at h
   cases hn : M[n]? with
   | none => simp [hn] at h
   | some o =>
    cases o with
    | dct _ => simp [hn] at h
    | fdct _ => simp [hn] at h
    | lst ds =>
     cases hm : M[m]? with
     | none => simp [hn, hm] at h
     | some o =>
      cases o with
      | dct _ => simp [hn, hm] at h
      | fdct _ => simp [hn, hm] at h
      | lst es =>
       simp only [hn, hm] at h
       split at h
       ·rename_i hp
        cases h
        rw [Bool.and_eq_true] at hp
        obtain ⟨p, hp1, rfl⟩ := ra.ref_inv
        obtain ⟨q, hq1, rfl⟩ := rb.ref_inv
        cases ru
        cases rv
        obtain ⟨vs, e1, r1⟩ := S.obj n _ p hn hp1
        obtain ⟨ws, e2, r2⟩ := S.obj m _ q hm hq1
        obtain ⟨its, rvs, pl1, _⟩ := I.list (SqL.of e1)
        obtain ⟨its2, rws, pl2, _⟩ := I.list (SqL.of e2)
        have it1 := pl1.isList
        have it2 := pl2.isList
        have l1 : its.length = ds.length := by rw [← rvs.length, r1.length]
        have l2 : its2.length = es.length := by rw [← rws.length, r2.length]
        have hu1 : X.A.units < cLine := by omega
        by_cases hl : ds.length = es.length
        ·have key : (List.range its.toArray.size).all (fun j => match ds[j]?, es[j]? with | some a, some b => deq a b | _, _ => false) = Zbv ds es := by
          rw [List.size_toArray, l1]
          exact ZbV hl fun j a b h1 h2 => by rw [h1, h2]
         rw [← key]
         refine SeqAt.RcNeAt.lists it1 it2 (by rw [List.size_toArray, List.size_toArray, l1, l2, hl]) hu1 fun j h1 h2 => ?_
         have h1' : j < ds.length := by rw [← l1]; simpa using h1
         have h2' : j < es.length := by rw [← l2]; simpa using h2
         have q1 : ds[j]? = some ds[j] := by simp [h1']
         have q2 : es[j]? = some es[j] := by simp [h2']
         rw [q1, q2]
         obtain ⟨v1, g1, z1⟩ := r1.get q1
         obtain ⟨v2, g2, z2⟩ := r2.get q2
         obtain ⟨u1, k1, w1⟩ := rvs.get g1
         obtain ⟨u2, k2, w2⟩ := rws.get g2
         have m1 : its.toArray[j] = u1 := by
          have := List.getElem?_eq_some_iff.mp k1
          simpa using this.2
         have m2 : its2.toArray[j] = u2 := by
          have := List.getElem?_eq_some_iff.mp k2
          simpa using this.2
         rw [m1, m2]
         exact ZfF I DEEP X.A.in1 ds[j] es[j] v1 v2 u1 u2 (by rw [units_in1]; show X.A.units + 1 + 60 + 1 < cLine; omega) (List.all_eq_true.mp hp.1 _ (List.getElem_mem h1')) (List.all_eq_true.mp hp.2 _ (List.getElem_mem h2')) z1 z2 w1 w2
        ·have z : Zbv ds es = false := by
          cases q : Zbv ds es with
          | false => rfl
          | true => exact absurd (ZcL q) hl
         rw [z]
         exact SeqAt.RcNeAt.lists_lengths it1 it2 (by rw [List.size_toArray, List.size_toArray, l1, l2]; simpa using hl) hu1
       ·cases h
  | _ => simp [eqD] at h
 | int i => cases b with
  | int j =>
   simp only [eqD] at h
   cases h
   have := ra.int_inv; subst this; have := rb.int_inv; subst this
   obtain ⟨t, rfl⟩ := ru
   obtain ⟨t', rfl⟩ := rv
   rw [← Bool.beq_eq_decide_eq]
   exact SeqAt.RcNeAt.int_int _ _ _ _
  | _ => simp [eqD] at h
 | str i => cases b with
  | str j =>
   simp only [eqD] at h
   cases h
   have := ra.str_inv; subst this; have := rb.str_inv; subst this
   obtain ⟨t, rfl⟩ := ru
   obtain ⟨t', rfl⟩ := rv
   have e : decide (i = j) = ((⟨i.toArray⟩ : Str) == ⟨j.toArray⟩) := by
    rw [← Bool.beq_eq_decide_eq, ← Zdw]
    by_cases h : (⟨i.toArray⟩ : Str) = ⟨j.toArray⟩
    ·simp [h]
    ·simp [h]
   rw [e]
   exact SeqAt.RcNeAt.str_str _ _ _ _
  | _ => simp [eqD] at h
 | bl i => cases b with
  | bl j =>
   simp only [eqD] at h
   cases h
   have := ra.bl_inv; subst this; have := rb.bl_inv; subst this
   cases ru
   cases rv
   rw [← Bool.beq_eq_decide_eq]
   exact SeqAt.RcNeAt.bool_bool _ _
  | _ => simp [eqD] at h
 | tup ds => cases b with
  | tup es =>
   simp only [eqD] at h
   split at h
   ·rename_i hp
    cases h
    rw [Bool.and_eq_true] at hp
    obtain ⟨p, vs, rfl, s1, r1⟩ := ra.tup_inv
    obtain ⟨p', ws, rfl, s2, r2⟩ := rb.tup_inv
    cases ru
    cases rv
    obtain ⟨its, rvs, ht, _⟩ := I.tuple s1
    obtain ⟨its2, rws, ht2, _⟩ := I.tuple s2
    have e1 : its.length = ds.length := by rw [← rvs.length, r1.length]
    have e2 : its2.length = es.length := by rw [← rws.length, r2.length]
    have hu1 : X.A.units < cLine := by omega
    have key : ((List.range (min its.toArray.size its2.toArray.size)).all (fun j => match ds[j]?, es[j]? with | some a, some b => deq a b | _, _ => false) && its.toArray.size == its2.toArray.size) = Zbv ds es := by
     rw [List.size_toArray, List.size_toArray, e1, e2]
     by_cases hl : ds.length = es.length
     ·rw [hl, Nat.min_self, beq_self_eq_true, Bool.and_true, ← hl]
      exact ZbV hl fun j a b h1 h2 => by rw [h1, h2]
     ·have z : Zbv ds es = false := by
       cases q : Zbv ds es with
       | false => rfl
       | true => exact absurd (ZcL q) hl
      rw [z, beq_eq_false_iff_ne.mpr hl, Bool.and_false]
    rw [← key]
    refine SeqAt.RcNeAt.tuples (show s.heap.IsTuple p its.toArray from ht) (show s.heap.IsTuple p' its2.toArray from ht2) hu1 fun j h1 h2 => ?_
    have h1' : j < ds.length := by rw [← e1]; simpa using h1
    have h2' : j < es.length := by rw [← e2]; simpa using h2
    have q1 : ds[j]? = some ds[j] := by simp [h1']
    have q2 : es[j]? = some es[j] := by simp [h2']
    rw [q1, q2]
    obtain ⟨v1, g1, z1⟩ := r1.get q1
    obtain ⟨v2, g2, z2⟩ := r2.get q2
    obtain ⟨u1, k1, w1⟩ := rvs.get g1
    obtain ⟨u2, k2, w2⟩ := rws.get g2
    have m1 : its.toArray[j] = u1 := by
     have := List.getElem?_eq_some_iff.mp k1
     simpa using this.2
    have m2 : its2.toArray[j] = u2 := by
     have := List.getElem?_eq_some_iff.mp k2
     simpa using this.2
    rw [m1, m2]
    exact ZfF I DEEP X.A.in1 ds[j] es[j] v1 v2 u1 u2 (by rw [units_in1]; show X.A.units + 1 + 60 + 1 < cLine; omega) (List.all_eq_true.mp hp.1 _ (List.getElem_mem h1')) (List.all_eq_true.mp hp.2 _ (List.getElem_mem h2')) z1 z2 w1 w2
   ·cases h
  | _ => simp [eqD] at h
 | _ => cases b <;> simp [eqD] at h
theorem Zm9 (hu : X.A.units + 80 < cLine) : OpR X (compareOp .NotEq) (r2 X.K Zh8) := by
 intro pins s σ H x y v u Q I rx ry h
 obtain ⟨ι, M, a, b, S, ra, rb, h⟩ := h
 unfold Zh8 at h
 cases q : eqD a b M with
 | none => rw [q] at h; exact h.elim
 | some k =>
  rw [q] at h
  exact ZlD hu I S ra rb rx ry q X.prog X.w X.xe _ ⟨.bl (!k), H, I, rfl, Zae.ok h S Rep.bl⟩
theorem Zgb {K : PySem.W.Frag} {H : Hp} {ι : List Addr} {d : D} {v : V} (r : Rep K H ι d v) (h : Zac d = true) : Zdp v = true := by
 cases d with
 | non => rw [r.non_inv]; rfl
 | bl b => rw [r.bl_inv]; rfl
 | int i => rw [r.int_inv]; rfl
 | str x => rw [r.str_inv]; rfl
 | _ => simp [Zac] at h
theorem Zjt (x y : List Nat) : ((⟨x.toArray⟩ : Str) == ⟨y.toArray⟩) = (x == y) := by
 rw [Bool.eq_iff_iff]
 simp
theorem Zjj {K : PySem.W.Frag} {H : Hp} {ι : List Addr} {d e : D} {v w : V} (r : Rep K H ι d v) (q : Rep K H ι e w) (h : Zac d = true) (h' : Zac e = true) : eqV v w = deq d e := by
 cases d with
 | non => have := r.non_inv; subst this; cases e with
  | non => have := q.non_inv; subst this; rfl
  | bl _ => have := q.bl_inv; subst this; rfl
  | int _ => have := q.int_inv; subst this; rfl
  | str _ => have := q.str_inv; subst this; rfl
  | _ => simp [Zac] at h'
 | bl _ => have := r.bl_inv; subst this; cases e with
  | non => have := q.non_inv; subst this; rfl
  | bl _ => have := q.bl_inv; subst this; rfl
  | int _ => have := q.int_inv; subst this; rfl
  | str _ => have := q.str_inv; subst this; rfl
  | _ => simp [Zac] at h'
 | int _ => have := r.int_inv; subst this; cases e with
  | non => have := q.non_inv; subst this; rfl
  | bl _ => have := q.bl_inv; subst this; rfl
  | int _ => have := q.int_inv; subst this; rfl
  | str _ => have := q.str_inv; subst this; rfl
  | _ => simp [Zac] at h'
 | str _ => have := r.str_inv; subst this; cases e with
  | non => have := q.non_inv; subst this; rfl
  | bl _ => have := q.bl_inv; subst this; rfl
  | int _ => have := q.int_inv; subst this; rfl
  | str _ => have := q.str_inv; subst this; exact Zjt _ _
  | _ => simp [Zac] at h'
 | _ => simp [Zac] at h
theorem Zhn {K : PySem.W.Frag} {H : Hp} {ι : List Addr} {d : D} {v : V} (r : Rep K H ι d v) (h : Zac d = true) : ∀ {ds : List D} {vs : List V}, Zv K H ι ds vs → ds.all Zac = true → vs.all Zdp = true ∧ inV v vs = ds.any fun y => deq y d
 | [], _, q, _ => by rw [q.nil_inv]; exact ⟨rfl, rfl⟩
 | e :: ds, _, q, hd => by
  obtain ⟨w, ws, rfl, r1, r2⟩ := q.cons_inv
  rw [List.all_cons, Bool.and_eq_true] at hd
  obtain ⟨h1, h2⟩ := Zhn r h r2 hd.2
  refine ⟨by rw [List.all_cons, Zgb r1 hd.1, h1]; rfl, ?_⟩
  unfold inV at h2 ⊢
  rw [List.any_cons, List.any_cons, h2, Zjj r1 r hd.1 h]
theorem Znx (hu : X.A.units + 80 < cLine) : OpR X (compareOp .In) (r2 X.K Zl0) := OpR.imp (OpR.or Zmm ZhU) fun x y H Q ⟨ι, M, a, b, S, ra, rb, h⟩ => by
 have seq : ∀ (d : D) (ys : List D), b = .tup ys → (Zac d && ys.all Zac) = true → a = d → Q (.bl (ys.any fun y => deq y d)) H → rIn X.K false x y H Q := by
  rintro d ys rfl hf rfl q
  rw [Bool.and_eq_true] at hf
  obtain ⟨p, vs, rfl, s, r⟩ := rb.tup_inv
  obtain ⟨h1, h2⟩ := Zhn ra hf.1 r hf.2
  exact ⟨p, vs, rfl, .inr s, Zgb ra hf.1, h1, by rw [if_neg (by decide), h2]; exact q⟩
 cases b with
 | tup ys =>
  have h' : Zae X.K H ι Q (match (if Zac a && ys.all Zac then some (ys.any fun y => deq y a) else none) with | some r => .ok (.bl r) M | none => .bad) := by
   cases a with
   | str z => cases z with
    | nil => exact h
    | cons c z => cases z <;> exact h
   | _ => exact h
  by_cases hf : (Zac a && ys.all Zac) = true
  ·rw [if_pos hf] at h'
   exact .inr (seq a ys rfl hf rfl (Zae.ok h' S Rep.bl))
  ·rw [if_neg hf] at h'; exact h'.elim
 | str y => cases a with
  | str z => cases z with
   | nil => exact h.elim
   | cons c z => cases z with
    | nil => exact .inl ⟨ι, M, _, _, S, ra, rb, h⟩
    | cons _ _ => exact h.elim
  | _ => exact h.elim
 | _ => cases a with
  | str z => cases z with
   | nil => exact h.elim
   | cons c z => cases z <;> exact h.elim
  | _ => exact h.elim
theorem Ziz (x : List Nat) (n : Nat) (a : List Nat) : (List.replicate n x.toArray).foldl (· ++ ·) a.toArray = (a ++ (List.replicate n x).flatten).toArray := by
 induction n generalizing a with
 | zero => simp
 | succ n ih =>
  rw [List.replicate_succ, List.foldl_cons, List.replicate_succ, List.flatten_cons]
  have := ih (a ++ x)
  simp only [List.append_toArray] at this ⊢
  rw [this]
  simp
theorem ZkG (x : List Nat) (k : Int) : Txt.mul (⟨x.toArray⟩ : Str) k = ⟨(List.replicate k.toNat x).flatten.toArray⟩ := by
 unfold Txt.mul
 split
 ·rename_i h
  have : k.toNat = 0 := by omega
  rw [this]; rfl
 ·split
  ·rename_i h1 h2
   simp only [Bool.or_eq_true, beq_iff_eq, Str.length, List.size_toArray] at h2
   rcases h2 with h2 | h2
   ·subst h2; simp
   ·have : x = [] := List.eq_nil_of_length_eq_zero h2
    subst this
    simp
  ·have := Ziz x k.toNat []
   rw [List.nil_append] at this
   exact congrArg Str.mk this
theorem Zv.repl {K : PySem.W.Frag} {H : Hp} {ι : List Addr} {ds : List D} {vs : List V} (r : Zv K H ι ds vs) : ∀ k : Nat, Zv K H ι (List.replicate k ds).flatten (List.replicate k vs).flatten
 | 0 => Zv.nil
 | k + 1 => by rw [List.replicate_succ, List.replicate_succ, List.flatten_cons, List.flatten_cons]; exact r.append (Zv.repl r k)
theorem Ziq : OpR X (binaryOp .Mult) (r2 X.K ZeO) := by
 have hs : OpR X (binaryOp .Mult) (fun x y H Q => ∃ (z : List Nat) (k : Int), x = .str ⟨z.toArray⟩ ∧ y = .int k ∧ z.length * k.toNat ≤ 1000000 ∧ k < 1000000 ∧ -1000000 < k ∧ Q (.str ⟨(List.replicate k.toNat z).flatten.toArray⟩) H) := by
  intro pins s σ H x y v u Q I rx ry h
  obtain ⟨z, k, rfl, rfl, h1, h2, h3, q⟩ := h
  obtain ⟨t, rfl⟩ := rx
  obtain ⟨t', rfl⟩ := ry
  refine SB.mul ⟨?_, fun h4 h5 => ?_, fun h4 h5 => ?_⟩ fun t'' tk => ?_
  ·simp; omega
  ·simp only [Str.length, List.size_toArray]
   simp at h4 h5
   have hk : 2 ≤ k := by
    simp only [Str.length, List.size_toArray] at h5
    omega
   have e : (k.toNat : Int) = k := by omega
   have hm : (z.length : Int) * k ≤ 1000000 := by
    have h1' : ((z.length * k.toNat : Nat) : Int) ≤ 1000000 := Int.ofNat_le.mpr h1
    rw [Int.natCast_mul, e] at h1'
    exact h1'
   have hd : (z.length : Int) ≤ 9223372036854775807 / k := Int.le_ediv_of_mul_le (by omega) (by omega)
   show ¬ ((z.length : Int) > (2 ^ 63 - 1) / k)
   have e3 : ((2 : Int) ^ 63 - 1) = 9223372036854775807 := by decide
   rw [e3]
   omega
  ·unfold Builtin.Str.tooLong
   simp only [Str.length, List.size_toArray, decide_eq_false_iff_not]
   have hsz : (1000000 : Nat) ≤ sizeLine := ZbK
   omega
  ·rw [ZkG]
   exact ⟨.str _, H, I.tok _, ⟨_, rfl⟩, q⟩
 refine OpR.imp (OpR.or Zkw (OpR.or hs ZlI)) fun x y H Q ⟨ι, M, a, b, S, ra, rb, h⟩ => ?_
 cases a with
 | int i => cases b with
  | int j =>
   simp only [ZeO] at h
   split at h
   ·rename_i hm
    refine .inl ⟨i, j, ra.int_inv, rb.int_inv, ?_, Zae.ok h S Rep.int⟩
    simp only [Zbg, Bool.or_eq_true, Bool.and_eq_true, decide_eq_true_eq] at hm
    exact hm
   ·exact h.elim
  | _ => exact h.elim
 | str z => cases b with
  | int k =>
   simp only [ZeO] at h
   split at h
   ·rename_i hz
    exact .inr (.inl ⟨z, k, ra.str_inv, rb.int_inv, hz.1, hz.2.1, hz.2.2, Zae.ok h S Rep.str⟩)
   ·exact h.elim
  | _ => exact h.elim
 | ref n => cases b with
  | int k =>
   simp only [ZeO] at h
   cases hn : M[n]? with
   | none => simp only [hn] at h; exact h.elim
   | some o =>
    cases o with
    | dct _ => simp only [hn] at h; exact h.elim
    | fdct _ => simp only [hn] at h; exact h.elim
    | lst z =>
     simp only [hn] at h
     split at h
     ·rename_i hz
      obtain ⟨p, hp, rfl⟩ := ra.ref_inv
      obtain ⟨vs, e, r⟩ := S.obj n _ p hn hp
      refine .inr (.inr ⟨p, k, vs, rfl, rb.int_inv, e, by omega, by omega, by rw [r.length]; exact Nat.le_trans hz.1 ZbK, fun q hq => ?_⟩)
      obtain ⟨x2, S2, r2⟩ := S.lst hq (Zv.repl r k.toNat)
      exact h _ _ _ x2 S2 r2
     ·exact h.elim
  | _ => exact h.elim
 | _ => cases b <;> exact h.elim
theorem Zg3 (n d : Nat) (hd : d ≤ n) (o : Option Int) : (match o with | none => (d : Int) | some i => max 0 (min (if i < 0 then i + (n : Int) else i) (n : Int))) = ((sIx n d o : Nat) : Int) := by
 cases o with
 | none => rfl
 | some v =>
  simp only [sIx]
  split <;> omega
theorem Zd3 (lo hi : Option Int) (n : Nat) : Builtin.Str.strSliceIndices lo hi 1 n = (List.range (sIx n n hi - sIx n 0 lo)).map (fun k => sIx n 0 lo + k) := by
 have e1 := Zg3 n 0 (Nat.zero_le _) lo
 have e2 := Zg3 n n (Nat.le_refl _) hi
 have key : Builtin.Str.strSliceIndices lo hi 1 n = sliceRange ((sIx n 0 lo : Nat) : Int) ((sIx n n hi : Nat) : Int) 1 := by
  rw [← e1, ← e2]
  simp only [Builtin.Str.strSliceIndices, show ((1 : Int) > 0) = True from by simp, if_true]
  cases lo <;> cases hi <;> rfl
 rw [key]
 generalize sIx n 0 lo = a
 generalize sIx n n hi = b
 simp only [sliceRange, show ((1 : Int) > 0) = True from by simp, if_true]
 by_cases hlt : (a : Int) < b
 ·have e3 : (((b : Int) - a + 1 - 1) / 1).toNat = b - a := by first | omega | (simp; done) | (simp; omega)
  simp only [hlt, if_true, e3]
  refine List.map_congr_left fun k _ => ?_
  omega
 ·have : b - a = 0 := by omega
  simp [hlt, this]
theorem ZfO (n d : Nat) (hd : d ≤ n) (o : Option Int) : sIx n d o ≤ n := by
 cases o with
 | none => exact hd
 | some v => simp only [sIx]; split <;> omega
theorem ZgT (z : List Nat) (lo hi : Option Int) (l u : Option (Int × Tok)) (hl : l.map (·.1) = lo) (hu : u.map (·.1) = hi) :
  (if ((1 : Int) == 1 && (slicePicked ⟨z.toArray⟩ l u none).length == (⟨z.toArray⟩ : Str).length) = true then (⟨z.toArray⟩ : Str) else ⟨((slicePicked ⟨z.toArray⟩ l u none).filterMap ((⟨z.toArray⟩ : Str).cps[·]?)).toArray⟩) = ⟨(cutD z lo hi).toArray⟩ := by
 have e0 : slicePicked ⟨z.toArray⟩ l u none = (List.range (sIx z.length z.length hi - sIx z.length 0 lo)).map (fun k => sIx z.length 0 lo + k) := by
  unfold slicePicked
  rw [hl, hu]
  simp only [Str.length, List.size_toArray]
  exact Zd3 lo hi z.length
 have hb := ZfO z.length z.length (Nat.le_refl _) hi
 rw [e0]
 have pick : ((List.range (sIx z.length z.length hi - sIx z.length 0 lo)).map (fun k => sIx z.length 0 lo + k)).filterMap ((⟨z.toArray⟩ : Str).cps[·]?) = cutD z lo hi := by
  unfold cutD
  by_cases hab : sIx z.length 0 lo ≤ sIx z.length z.length hi
  ·have h := StrLaws.picks z (sIx z.length z.length hi - sIx z.length 0 lo) (sIx z.length 0 lo) (by omega)
   simpa using h
  ·have : sIx z.length z.length hi - sIx z.length 0 lo = 0 := by omega
   rw [this]
   simp
 rw [pick]
 split
 ·rename_i hc
  simp only [List.length_map, List.length_range, Str.length, List.size_toArray, Bool.and_eq_true, beq_iff_eq] at hc
  have hc2 := hc.2
  have h0 : sIx z.length 0 lo = 0 ∨ z.length = 0 := by omega
  have : cutD z lo hi = z := by
   unfold cutD
   rcases h0 with h0 | h0
   ·rw [h0, List.drop_zero, List.take_of_length_le (by omega)]
   ·have : z = [] := List.eq_nil_of_length_eq_zero h0
    subst this
    simp
  rw [this]
 ·rfl
theorem Zlm : SlR X (fun x lo hi H Q => ∃ z : List Nat, x = .str ⟨z.toArray⟩ ∧ z.length ≤ SZ ∧ Q (.str ⟨(cutD z lo hi).toArray⟩) H) := by
 intro pins s σ H x v vl vu lo hi sl Q I rx hs pl pu h
 obtain ⟨z, rfl, hz, q⟩ := h
 obtain ⟨t, rfl⟩ := rx
 have part : ∀ {v : Value} {o : Option Int}, IsPart v o → ∃ p : Option (Int × Tok), v = partValue p ∧ p.map (·.1) = o := by
  intro v o h
  cases h with
  | none => exact ⟨none, rfl, rfl⟩
  | int i t => exact ⟨some (i, t), rfl, rfl⟩
 obtain ⟨l, rfl, hl⟩ := part pl
 obtain ⟨u, rfl, hu⟩ := part pu
 refine ⟨"str", _, PySem.F.slot_str_getitem.lookup, typeIs_str _ _ _, ?_⟩
 refine wpAny_getItem_str_slice (l := l) (u := u) (st := none) hs rfl ?_
 unfold sliceMade
 refine post_val_or_made (fun _ => ?_) fun t' k => ?_
 ·show ((slicePicked ⟨z.toArray⟩ l u none).filterMap ((⟨z.toArray⟩ : Str).cps[·]?)).toArray.size ≤ sizeLine
  rw [List.size_toArray]
  refine Nat.le_trans (List.length_filterMap_le _ _) ?_
  show (Builtin.Str.strSliceIndices (l.map (·.1)) (u.map (·.1)) 1 (⟨z.toArray⟩ : Str).length).length ≤ sizeLine
  rw [Zd3]
  simp only [List.length_map, List.length_range, Str.length, List.size_toArray]
  have := ZfO z.length z.length (Nat.le_refl _) (u.map (·.1))
  have := ZbK
  omega
 ·have e := ZgT z lo hi l u hl hu
  have e' : (if (((none : Option (Int × Tok)).map (·.1)).getD 1 == 1 && (slicePicked ⟨z.toArray⟩ l u none).length == (⟨z.toArray⟩ : Str).length) = true then (⟨z.toArray⟩ : Str) else ⟨((slicePicked ⟨z.toArray⟩ l u none).filterMap ((⟨z.toArray⟩ : Str).cps[·]?)).toArray⟩) = ⟨(cutD z lo hi).toArray⟩ := e
  rw [e']
  exact ⟨.str _, H, I.tok _, ⟨_, rfl⟩, q⟩
theorem Zdq {prog : Program} {w : World} {A : Around} {E : Value → Shared → Prop} {s : Shared} {t sl : Addr} {items : Array Value} {vl vu : Value} {lo hi : Option Int} {Q : Value → Shared → Prop} (ht : IsTup s.heap t items) (hs : s.heap.IsSliceOf sl vl vu .none) (pl : IsPart vl lo) (pu : IsPart vu hi)
  (hw : HT.sIx items.size 0 lo = 0 ∧ HT.sIx items.size items.size hi = items.size) (h : Q (.ref t) s) : wpAny (model prog w) A (getItem (.ref t) (.ref sl)) Q E s := by
 obtain ⟨os, hos, hcs, hds⟩ := id hs
 have hTs : s.TypeIs (.ref sl) "slice" := ⟨os, hos, hcs⟩
 unfold getItem
 try with_reducible refine wpAny_holding ?_
 first | refine wpAny_bind (wpAny_pure ?_) | skip
 refine wpAny_bind (wpAny_sequenceKey ht.typeIs (by decide) ?_)
 refine wpAny_bind (wpAny_callSpecial?_slot (name := Str.ofString "__getitem__") ht.typeIs PyProof.Rows.slot_tuple_getitem
  (wpAny_call_entry PyProof.Rows.slot_tuple_getitem ht.typeIs entry_tuple_getitem ?_ (args_tuple_getitem _ _)))
 show wpAny _ _ (Builtin.Tuple.tupleItemsOf (.ref t) >>= _) _ _ s
 refine wpAny_bind (tupleItemsOf_ ht ?_)
 refine wpAny_bind (wpAny_typeOf hTs ?_)
 rw [if_pos (by decide)]
 refine wpAny_bind (HT.sliceApplied_gen hs pl pu ?_)
 have hyes : (((HT.sIx items.size 0 lo : Nat) : Int) == 0 && (1 : Int) == 1 && (HT.sIx items.size items.size hi - HT.sIx items.size 0 lo) == items.size) = true := by
  rw [hw.1, hw.2]; simp
 show wpAny _ _ (if (((HT.sIx items.size 0 lo : Nat) : Int) == 0 && (1 : Int) == 1 && (HT.sIx items.size items.size hi - HT.sIx items.size 0 lo) == items.size) = true then _ else _) _ _ s
 rw [if_pos hyes]
 unfold Builtin.Tuple.tupleIsExact
 refine wpAny_bind (wpAny_bind (wpAny_typeOf ht.typeIs (wpAny_pure ?_)))
 rw [if_pos (by decide)]
 exact wpAny_bind (wpAny_rule (wpAny_pure ⟨_, rfl, wpAny_pure h⟩))
theorem Zjv : SlR X (fun x lo hi H Q => ∃ a xs, x = .ref a ∧ SqT X.K H a xs ∧ (HT.sIx xs.length 0 lo = 0 ∧ HT.sIx xs.length xs.length hi = xs.length) ∧ Q (.ref a) H) := by
 intro pins s σ H x v vl vu lo hi sl Q I rx hs pl pu h
 obtain ⟨a, xs, rfl, hx, hw, q⟩ := h
 cases rx
 obtain ⟨its, r, ht, hz⟩ := I.tuple hx
 have hlen : its.toArray.size = xs.length := by rw [List.size_toArray]; exact r.length.symm
 refine ⟨"tuple", _, PyProof.Rows.slot_tuple_getitem.lookup, ht.typeIs, ?_⟩
 exact Zdq ht hs pl pu (by rw [hlen]; exact hw) ⟨.ref a, H, I, rfl, q⟩
theorem ZdG : SlR X (rS X.K) := SlR.imp (SlR.or (SlR.or Zld Zjv) (SlR.or ZjZ Zlm)) fun x lo hi H Q ⟨ι, M, a, S, ra, h⟩ => by
 have ex : ∀ n d o, HT.sIx n d o = sIx n d o := fun n d o => by cases o <;> rfl
 cases a with
 | tup ds =>
  simp only [Zeb] at h
  obtain ⟨p, vs, rfl, s, r⟩ := ra.tup_inv
  by_cases hw : sIx ds.length 0 lo = 0 ∧ sIx ds.length ds.length hi = ds.length
  ·refine .inl (.inr ⟨p, vs, rfl, s, by rw [ex, ex, r.length]; exact hw, ?_⟩)
   have e : cutD ds lo hi = ds := by unfold cutD; rw [hw.1, hw.2]; simp
   rw [e] at h
   exact Zae.ok h S (Rep.tup s r)
  ·refine .inl (.inl ⟨p, vs, rfl, s, by rw [ex, ex, r.length]; exact hw, fun q hq => ?_⟩)
   obtain ⟨x2, S2, r2⟩ := S.tupl hq (ZgA r lo hi)
   exact h _ _ _ x2 S2 r2
 | scr ds =>
  simp only [Zeb] at h
  obtain ⟨p, vs, rfl, s, r⟩ := ra.scr_inv
  refine .inr (.inl ⟨p, vs, rfl, s.sq, fun q hq => ?_⟩)
  obtain ⟨x2, S2, r2⟩ := S.lst hq (ZgA r lo hi)
  exact h _ _ _ x2 S2 r2
 | str z =>
  simp only [Zeb] at h
  split at h
  ·rename_i hz
   exact .inr (.inr ⟨z, ra.str_inv, hz, Zae.ok h S Rep.str⟩)
  ·exact h.elim
 | ref n =>
  simp only [Zeb] at h
  cases hn : M[n]? with
  | none => simp only [hn] at h; exact h.elim
  | some o =>
   cases o with
   | dct _ => simp only [hn] at h; exact h.elim
   | fdct _ => simp only [hn] at h; exact h.elim
   | lst ds =>
    simp only [hn] at h
    obtain ⟨p, hp, rfl⟩ := ra.ref_inv
    obtain ⟨vs, e, r⟩ := S.obj n _ p hn hp
    refine .inr (.inl ⟨p, vs, rfl, SqL.of e, fun q hq => ?_⟩)
    obtain ⟨x2, S2, r2⟩ := S.lst hq (ZgA r lo hi)
    exact h _ _ _ x2 S2 r2
 | _ => exact h.elim
theorem ZdI {K : PySem.W.Frag} {H : Hp} {ι : List Addr} {d : D} {xs : List V} (r : Zv K H ι [d] xs) : ∃ x, xs = [x] ∧ Rep K H ι d x := by
 obtain ⟨v, ws, rfl, r1, r2⟩ := r.cons_inv
 have := r2.nil_inv
 subst this
 exact ⟨v, rfl, r1⟩
theorem Zcg : Zbb X (.builtin "len") (rB X.K Zbe) := Zbb.imp ZiC fun xs H Q ⟨ι, M, ds, S, rd, h⟩ => by
 cases ds with
 | nil => exact h.elim
 | cons d ds =>
  cases ds with
  | cons _ _ => cases d <;> exact h.elim
  | nil =>
   obtain ⟨x, rfl, r⟩ := ZdI rd
   cases d with
   | tup z =>
    obtain ⟨p, vs, rfl, s, r'⟩ := r.tup_inv
    exact ⟨_, vs.length, rfl, .inr ⟨vs, s, rfl⟩, by rw [r'.length]; exact Zae.ok h S Rep.int⟩
   | scr z =>
    obtain ⟨p, vs, rfl, s, r'⟩ := r.scr_inv
    exact ⟨_, vs.length, rfl, .inl ⟨vs, s.sq, rfl⟩, by rw [r'.length]; exact Zae.ok h S Rep.int⟩
   | str z =>
    simp only [Zbe] at h
    split at h
    ·rename_i hz
     have := r.str_inv
     subst this
     refine ⟨_, z.length, rfl, ⟨?_, ?_⟩, Zae.ok h S Rep.int⟩
     ·show z.toArray.size ≤ sizeLine
      rw [List.size_toArray]
      exact Nat.le_trans hz ZbK
     ·show z.length = z.toArray.size
      rw [List.size_toArray]
    ·exact h.elim
   | ref n =>
    cases hn : M[n]? with
    | none => simp only [Zbe, hn] at h; exact h.elim
    | some o =>
     cases o with
     | dct _ => simp only [Zbe, hn] at h; exact h.elim
     | fdct _ => simp only [Zbe, hn] at h; exact h.elim
     | lst z =>
      simp only [Zbe, hn] at h
      obtain ⟨p, hp, rfl⟩ := r.ref_inv
      obtain ⟨vs, e, r'⟩ := S.obj n _ p hn hp
      exact ⟨_, vs.length, rfl, .inl ⟨vs, SqL.of e, rfl⟩, by rw [r'.length]; exact Zae.ok h S Rep.int⟩
   | _ => exact h.elim
theorem Zek : Zbb X (.type "tuple") (rB X.K ZbL) := Zbb.imp ZeW fun xs H Q ⟨ι, M, ds, S, rd, h⟩ => by
 cases ds with
 | nil => exact h.elim
 | cons d ds =>
  cases ds with
  | cons _ _ => cases d <;> exact h.elim
  | nil =>
   obtain ⟨x, rfl, r⟩ := ZdI rd
   cases d with
   | tup z =>
    obtain ⟨p, vs, rfl, s, r'⟩ := r.tup_inv
    exact ⟨p, vs, rfl, .inr ⟨s, Zae.ok h S (Rep.tup s r')⟩⟩
   | scr z =>
    obtain ⟨p, vs, rfl, s, r'⟩ := r.scr_inv
    refine ⟨p, vs, rfl, .inl ⟨s.sq, fun q hq => ?_⟩⟩
    obtain ⟨x2, S2, r2⟩ := S.tupl hq r'
    exact h _ _ _ x2 S2 r2
   | ref n =>
    cases hn : M[n]? with
    | none => simp only [ZbL, hn] at h; exact h.elim
    | some o =>
     cases o with
     | dct _ => simp only [ZbL, hn] at h; exact h.elim
     | fdct _ => simp only [ZbL, hn] at h; exact h.elim
     | lst z =>
      simp only [ZbL, hn] at h
      obtain ⟨p, hp, rfl⟩ := r.ref_inv
      obtain ⟨vs, e, r'⟩ := S.obj n _ p hn hp
      refine ⟨p, vs, rfl, .inl ⟨SqL.of e, fun q hq => ?_⟩⟩
      obtain ⟨x2, S2, r2⟩ := S.tupl hq r'
      exact h _ _ _ x2 S2 r2
   | _ => exact h.elim
end
end L3
namespace L3
open PySem PySem.Spec PyProof.Rows L2
theorem ZbF : bootBuiltins "len" = some (.builtin "len") := by decide +kernel
theorem Ze1 : bootBuiltins "isinstance" = some (.builtin "isinstance") := by decide +kernel
theorem Zlv : bootBuiltins "int" = some (.type "int") := by decide +kernel
theorem Zju : bootBuiltins "list" = some (.type "list") := by decide +kernel
theorem Zdz : bootBuiltins "tuple" = some (.type "tuple") := by decide +kernel
theorem ZjW : bootBuiltins "dict" = some (.type "dict") := by decide +kernel
section
variable {X : Cx} {a : Expr} {pos p p2 : Pos} {f : E3}
def tyN : Ty3 → String
 | .int => "int" | .bool => "bool" | .str => "str" | .list => "list" | .tuple => "tuple"
theorem Zdy (K : PySem.W.Frag) (t : String) (T : Ty3) (ht : t ∈ ["NoneType", "bool", "int", "str", "list", "tuple", "dict"]) :
  PySem.W.kitOne K (.type t) (.type (tyN T)) = some (t == tyN T || (t == "bool" && tyN T == "int")) := by
 simp only [List.mem_cons, List.not_mem_nil, or_false] at ht
 rcases ht with rfl | rfl | rfl | rfl | rfl | rfl | rfl <;> cases T <;> kernel_rfl
theorem Zmf (T : Ty3) : bootBuiltins (tyN T) = some (.type (tyN T)) := by cases T <;> decide +kernel
theorem Zjr {pins : List (Addr × Obj)} {σ : St} {H : Hp} {s : Shared} {ι : List Addr} {M : Store} {A : Around} {E : Value → Shared → Prop} {Q : Value → Shared → Prop} {T : Ty3} {d : D} {x : V} {u : Value} {b : Bool} (I : Inv X pins σ H s) (S : Zal X.K H ι M) (r : Rep X.K H ι d x) (ru : RelV x u)
  (e : Zd8 T d M = some b) (h : ∀ tk, Q (.bool b) { s with toks := tk }) : wpAny (model X.prog X.w) A (call (.builtin "isinstance") [u, .type (tyN T)]) Q E s := by
 cases d with
 | non =>
  have := r.non_inv; subst this
  have hb : b = false := by simpa [Zd8] using e.symm
  subst hb
  exact Zcp I ru (.non) ((Zdy X.K "NoneType" T (by simp)).trans (by cases T <;> rfl)) h
 | bl c =>
  have := r.bl_inv; subst this
  have hb : b = (T == .bool || T == .int) := by simpa [Zd8] using e.symm
  subst hb
  exact Zcp I ru (.bl c) ((Zdy X.K "bool" T (by simp)).trans (by cases T <;> rfl)) h
 | int i =>
  have := r.int_inv; subst this
  have hb : b = (T == .int) := by simpa [Zd8] using e.symm
  subst hb
  exact Zcp I ru (.int i) ((Zdy X.K "int" T (by simp)).trans (by cases T <;> rfl)) h
 | str z =>
  have := r.str_inv; subst this
  have hb : b = (T == .str) := by simpa [Zd8] using e.symm
  subst hb
  exact Zcp I ru (.str _) ((Zdy X.K "str" T (by simp)).trans (by cases T <;> rfl)) h
 | tup ds =>
  obtain ⟨a, vs, rfl, st, rr⟩ := r.tup_inv
  cases ru
  have hb : b = (T == .tuple) := by simpa [Zd8] using e.symm
  subst hb
  obtain ⟨its, _, pt, _⟩ := I.tuple st
  obtain ⟨o, h1, h2, _⟩ := pt
  exact PySem.W.kia_one PySem.W.kitx_tuple I.kIn ⟨o, h1, h2⟩ ((Zdy X.K "tuple" T (by simp)).trans (by cases T <;> rfl)) (fun z => nomatch z) h
 | scr ds => simp [Zd8] at e
 | ref n =>
  simp only [Zd8] at e
  cases hn : M[n]? with
  | none => simp [hn] at e
  | some o =>
   obtain ⟨a, ha, rfl⟩ := r.ref_inv
   cases o with
   | lst z =>
    have hb : b = (T == .list) := by simpa [hn] using e.symm
    subst hb
    obtain ⟨vs, ev, _⟩ := S.obj n _ a hn ha
    exact Zcp I ru (.lst ev) ((Zdy X.K "list" T (by simp)).trans (by cases T <;> rfl)) h
   | dct z =>
    have hb : b = false := by simpa [hn] using e.symm
    subst hb
    obtain ⟨vs, ev, _⟩ := S.obj n _ a hn ha
    exact Zcp I ru (.dK ev) ((Zdy X.K "dict" T (by simp)).trans (by cases T <;> rfl)) h
   | fdct z => simp [hn] at e
theorem Ziw (T : Ty3) {x : Str} (hm : X.mg "isinstance" = none) (hm2 : X.mg x = none) (h : C3 X a f) (hx : x = (Str.ofString (tyN T)) := by rfl) (hg : Gl X "isinstance" := by rfl) (hg2 : Gl X x := by rfl)
  (hn : x ≠ "__name__" := by decide) (hd : (x == ("__debug__" : Str)) = false := by decide)
  (hs : starEach (a :: [.Name x p2]) X.env = (false, eval a X.env) :: starEach [.Name x p2] X.env := by rfl) (hs2 : starEach (.Name x p2 :: []) X.env = (false, eval (.Name x p2) X.env) :: starEach [] X.env := by rfl)
  (hpl : (backTo pos (starEach [.Name x p2] X.env)).any (·.1) = false := by rfl) : C3 X (.Call (.Name "isinstance" p) [a, .Name x p2] [] pos) (e1 (ZeF T) f) := by
 subst hx
 have hc : Zbb X (.builtin "isinstance") (fun xs H Q => ∃ ι M d x, xs = [x, .ty (tyN T)] ∧ Zal X.K H ι M ∧ Rep X.K H ι d x ∧ Zae X.K H ι Q (ZeF T d M)) := by
  intro pins s σ H xs us Q I r q
  obtain ⟨ι, M, d, x, rfl, S, rd, q⟩ := q
  obtain ⟨u, w', rfl, ru, rw'⟩ := vals2 r
  cases rw'
  unfold ZeF at q
  cases e : Zd8 T d M with
  | none => rw [e] at q; exact q.elim
  | some b =>
   rw [e] at q
   exact Zjr I S rd ru e fun tk => ⟨.bl b, H, I.tok _, rfl, Zae.ok q S Rep.bl⟩
 refine (Zgh hc hg hm Ze1 (Zfx h (Zfx (Zjw hg2 hm2 (Zmf T) (v := .ty (tyN T)) rfl hn hd) ZiR hs2) hs) (by decide) (by decide) hs hpl).imp fun σ H Q ⟨ι, M, env, S, E, h⟩ => ?_
 obtain ⟨d, M1, e1, h⟩ := Zae.bind h
 refine ⟨ι, M, env, S, E, ?_⟩
 rw [e1]
 intro v H1 ι1 x1 S1 r1
 exact ⟨ι1, M1, d, v, rfl, S1, r1, h.up x1⟩
end
def Zkm (outer : List (Str × NameKind)) (N : List Str) (scope : Scope) (N' : List Str) (own : Nat) : Bool :=
 (scope.names.all fun y => decide (y.2 ≠ .cell) && (decide (y.2 ≠ .free) || decide (outer.lookup y.1 = some .cell) || decide (outer.lookup y.1 = some .free)) && (decide (y.2 ≠ .local) || decide (scope.names.lookup y.1 = some .local))) &&
  decide (N'.length = N.length + own) && ZiY N N' scope
theorem ZhL {X : Cx} {scope : Scope} {N' : List Str} {own : Nat} (hk : scope.kind = .function) (h : Zkm X.env.scope.names X.N scope N' own = true) : ZgL X scope N' own := by
 simp only [Zkm, Bool.and_eq_true, decide_eq_true_eq, List.all_eq_true, Bool.or_eq_true] at h
 obtain ⟨⟨h1, h2⟩, h3⟩ := h
 refine ⟨hk, fun y hy => (h1 y hy).1.1, fun y hy e => ?_, fun y hy e => ?_, h2, h3⟩
 ·rcases (h1 y hy).1.2 with (q | q) | q
  ·exact absurd e q
  ·exact .inl q
  ·exact .inr q
 ·rcases (h1 y hy).2 with q | q
  ·exact absurd e q
  ·exact q
theorem ZaH {K : PySem.W.Frag} {h : Heap} {mg : Str → Option Value} (KX : K.In h) (G : h.Ns mainGlobals mg) {x : Str} {st : Stmt} {f : Addr} {oc : Value} {od an : Option Addr} {osl : Array (Option Value)} {dV kV doc pm cdv ct : Value}
  (a : PySem.W.nsIn K mainGlobals x = some (some (.ref f))) (l : K.lookup f = some ⟨oc, od, .func (PySem.W.fnOf x x (Zax st) (Zap st) (Zr st) dV kV doc pm an cdv ct), osl⟩)
  (c : PySem.W.codeIn K cdv x = true) (k : PySem.W.keepIn K (.ref f) = true) {ps : List Str} (b : Binds K (PySem.W.fnOf x x (Zax st) (Zap st) (Zr st) dV kV doc pm an cdv ct) ps []) : ZaG K mg x st ps := ⟨f, _, Ziu l c k, PySem.W.mg_of KX G a, b⟩
theorem Zl3 {l : PySem.W.OpenLaw} {k : Nat} {q : Program} {loose : List Str} {XP : (Str → Option Value) → Heap → Prop} {YP : World → Heap → Prop} {d : DefRec} {K : Params → PySem.W.Frag} {F : F3} (hn : l.most = some 63) (hdf : d.params.defaults = []) (hr : Zcd k callerA)
  (hY : ∀ (w : World) (h : Heap), YP w h → (K w.params).In h)
  (G : ∀ (w : World) (mg : Str → Option Value) (fa : Addr) (h : Heap), (K w.params).In h → h.Ns mainGlobals mg → mg d.name = some (.ref fa) →
   ∃ fd : FuncData, (∀ (s : Shared) (u : Value), BindsTo s fd ⟨[u], []⟩ [("script", u)]) ∧ ∀ base : Heap, (K w.params).In base → base.Ns mainGlobals mg → ZeN l.prog w (K w.params) mg base CX0 k fa fd ["script"] (sp3 (K w.params) 1 F))
  (hF : ∀ ns : List Int, ns.length ≤ 63 → ∃ M', F [.scr (ns.map D.int)] [] = .ok (.bl true) M') :
  PySem.W.WalkO q loose XP YP l.row.toRowW d [] (fun f vs => PySem.call f vs) :=
 L2.Zg8 (n := 63) (k := k) (x := "script") (CX := fun _ => CX0) (sp := fun w => sp3 (K w.params) 1 F) hn (by decide) hdf hr hY G (fun w H a ns hl hO hS => by
  obtain ⟨M', e⟩ := hF ns hl
  refine ⟨[], [], [.scr (ns.map D.int)], ⟨rfl, List.nodup_nil, fun n o a h => by simp at h⟩, Zv.cons ?_ Zv.nil, rfl, ?_⟩
  ·simp only [Rep]
   refine ⟨a, ns.map V.int, rfl, ?_, Zv.ints ns⟩
   rcases hS with (h | ⟨o, h⟩) | h
   ·rcases hO a with z | ⟨ob, xs, z⟩
    ·rw [h] at z; cases z
    ·rw [h] at z; cases z
   ·exact .inl ⟨o, h⟩
   ·exact .inr h
  ·rw [e]
   exact fun v H' ι' _ _ r => r.bl_inv) fun _ _ _ _ _ z => z
end L3
namespace L3
open PySem PySem.Spec PyProof.Rows L2
theorem ZgV {a b : ZaZ} (h : dk a = dk b) : a = b := by
 cases a with
 | inl i => cases b with
  | inl j => simp only [dk, Sum.inl.injEq] at h; rw [h]
  | inr y => simp [dk] at h
 | inr x => cases b with
  | inl j => simp [dk] at h
  | inr y =>
   simp only [dk, Sum.inr.injEq, Str.mk.injEq] at h
   have := congrArg Array.toList h
   simp at this
   rw [this]
theorem Zhl {K : PySem.W.Frag} {H : Hp} {ι : List Addr} {b : D} {y : V} {k : ZaZ} (h : Zd9 b = some k) (r : Rep K H ι b y) : y = kV (dk k) := by
 cases b with
 | int i => cases h; exact r.int_inv
 | str x => cases h; exact r.str_inv
 | _ => simp [Zd9] at h
section
variable {K : PySem.W.Frag} {H H' : Hp} {ι ι' : List Addr} {M : Store} {p : Addr}
theorem KvR.nil : KvR K H ι [] [] := ⟨rfl, Zv.nil⟩
theorem KvR.cons {k : ZaZ} {d : D} {v : V} {kvs : List (ZaZ × D)} {ws : List (Key × V)} (h : Rep K H ι d v) (r : KvR K H ι kvs ws) : KvR K H ι ((k, d) :: kvs) ((dk k, v) :: ws) :=
 ⟨by simp [r.1], Zv.cons h r.2⟩
theorem KvR.cons_inv {q : ZaZ × D} {kvs : List (ZaZ × D)} {ws : List (Key × V)} (r : KvR K H ι (q :: kvs) ws) : ∃ v ws', ws = (dk q.1, v) :: ws' ∧ Rep K H ι q.2 v ∧ KvR K H ι kvs ws' := by
 obtain ⟨h1, h2⟩ := r
 cases ws with
 | nil => simp at h1
 | cons w ws =>
  simp only [List.map_cons, List.cons.injEq] at h1
  obtain ⟨v, us, e, r1, r2⟩ := Zv.cons_inv h2
  simp only [List.map_cons, List.cons.injEq] at e
  exact ⟨w.2, ws, by rw [← h1.1], e.1 ▸ r1, h1.2, e.2 ▸ r2⟩
theorem KvR.nil_inv {ws : List (Key × V)} (r : KvR K H ι [] ws) : ws = [] := by simpa using r.1
theorem KvR.mono {kvs : List (ZaZ × D)} {ws : List (Key × V)} (r : KvR K H ι kvs ws) (e : Ext K H ι H' ι') : KvR K H' ι' kvs ws := ⟨r.1, r.2.mono e⟩
theorem KvR.length {kvs : List (ZaZ × D)} {ws : List (Key × V)} (r : KvR K H ι kvs ws) : ws.length = kvs.length := by
 have := congrArg List.length r.1
 simpa using this
theorem KvR.val {kvs : List (ZaZ × D)} (k : ZaZ) : ∀ {ws : List (Key × V)}, KvR K H ι kvs ws → match ZbU kvs k with | some d => ∃ v, Zdf ws (dk k) = some v ∧ Rep K H ι d v | none => Zdf ws (dk k) = none := by
 induction kvs with
 | nil => intro ws r; rw [r.nil_inv]; exact Zii
 | cons q kvs ih =>
  intro ws r
  obtain ⟨v, ws', rfl, r1, r2⟩ := r.cons_inv
  obtain ⟨k', d⟩ := q
  unfold ZbU
  by_cases e : k' = k
  ·rw [if_pos e]
   exact ⟨v, Zes (by rw [e]), r1⟩
  ·rw [if_neg e, ZeC fun z => e (ZgV z)]
   exact ih r2
theorem KvR.append {k1 k2 : List (ZaZ × D)} {w1 w2 : List (Key × V)} (a : KvR K H ι k1 w1) (b : KvR K H ι k2 w2) : KvR K H ι (k1 ++ k2) (w1 ++ w2) :=
 ⟨by simp [a.1, b.1], by rw [List.map_append, List.map_append]; exact a.2.append b.2⟩
theorem KvR.any {kvs : List (ZaZ × D)} (k : ZaZ) : ∀ {ws : List (Key × V)}, KvR K H ι kvs ws → (ws.any fun kv => decide (kv.1 = dk k)) = (kvs.any fun q => decide (q.1 = k)) := by
 induction kvs with
 | nil => intro ws r; rw [r.nil_inv]; rfl
 | cons q kvs ih =>
  intro ws r
  obtain ⟨v, ws', rfl, r1, r2⟩ := r.cons_inv
  rw [List.any_cons, List.any_cons, ih r2]
  congr 1
  by_cases e : q.1 = k
  ·simp [e]
  ·simp [e]; exact fun z => e (ZgV z)
theorem KvR.put {kvs : List (ZaZ × D)} {k : ZaZ} {d : D} {v : V} {ws : List (Key × V)} (r : KvR K H ι kvs ws) (rd : Rep K H ι d v) : KvR K H ι (putD k d kvs) (putK ws (dk k) v) := by
 unfold putD putK
 rw [r.any k]
 by_cases c : (kvs.any fun q => decide (q.1 = k)) = true
 ·rw [if_pos c, if_pos c]
  clear c
  induction kvs generalizing ws with
  | nil => rw [r.nil_inv]; exact KvR.nil
  | cons q kvs ih =>
   obtain ⟨u, ws', rfl, r1, r2⟩ := r.cons_inv
   rw [List.map_cons, List.map_cons]
   by_cases e : q.1 = k
   ·rw [if_pos e, if_pos (by rw [e])]; exact KvR.cons rd (ih r2)
   ·rw [if_neg e, if_neg fun z => e (ZgV z)]; exact KvR.cons r1 (ih r2)
 ·rw [if_neg c, if_neg c]
  exact r.append (KvR.cons rd KvR.nil)
theorem KvR.merge {l : List (ZaZ × D)} : ∀ {kvs : List (ZaZ × D)} {ws us : List (Key × V)}, KvR K H ι l us → KvR K H ι kvs ws → KvR K H ι (l.foldl (fun acc p => putD p.1 p.2 acc) kvs) (Zeq ws us) := by
 induction l with
 | nil => intro kvs ws us r r0; rw [r.nil_inv]; exact r0
 | cons q l ih =>
  intro kvs ws us r r0
  obtain ⟨v, us', rfl, r1, r2⟩ := r.cons_inv
  exact ih (ws := putK ws (dk q.1) v) (us := us') r2 (r0.put r1)
theorem Zal.dct (S : Zal K H ι M) (hp : H p = none) {kvs : List (ZaZ × D)} {ws : List (Key × V)} (r : KvR K H ι kvs ws) : Ext K H ι (upd H p (.dK ws)) (ι ++ [p]) ∧ Zal K (upd H p (.dK ws)) (ι ++ [p]) (M ++ [.dct kvs]) ∧ Rep K (upd H p (.dK ws)) (ι ++ [p]) (.ref M.length) (.ref p) := by
 have e : Ext K H ι (upd H p (.dK ws)) (ι ++ [p]) := Loose.extA (.inl hp)
 exact ⟨e, S.new hp ⟨ws, ZcN, r.mono e⟩, Rep.ref (by rw [← S.len]; simp)⟩
end
section
variable {X : Cx} {a b c e o : Expr} {es : List Expr} {pos p pos' apos cpos : Pos} {f g h : E3} {gl : EL3}
theorem hu1 (hu : X.A.units + 80 < cLine) : X.A.units + 1 < cLine := by omega
theorem ZgQ {K : PySem.W.Frag} {H : Hp} {ι : List Addr} {M : Store} (S : Zal K H ι M) {n : Nat} {kvs : List (ZaZ × D)} {a : Addr} (h : ZcX M[n]? = some kvs) (ha : ι[n]? = some a) : ∃ ws, Rd H a (.dK ws) ∧ KvR K H ι kvs ws := by
 cases hn : M[n]? with
 | none => simp [hn] at h
 | some ob =>
  cases ob with
  | lst _ => simp [hn] at h
  | dct k =>
   have e : k = kvs := by simpa [hn] using h
   subst e
   obtain ⟨ws, hw, kr⟩ := S.obj n _ a hn ha
   exact ⟨ws, .inl hw, kr⟩
  | fdct k =>
   have e : k = kvs := by simpa [hn] using h
   subst e
   obtain ⟨ws, ⟨o, hw⟩, kr⟩ := S.obj n _ a hn ha
   exact ⟨ws, .inr ⟨o, hw⟩, kr⟩
theorem Zj7 {K : PySem.W.Frag} {op : D → D → D → Store → R3 D} {H : Hp} {ι : List Addr} {Q : VK} {env : ZaD} {M : Store} (h' : Zae K H ι Q (e3 op f g h env M)) :
  ∃ a M1 b M2 c M3, f env M = .ok a M1 ∧ g env M1 = .ok b M2 ∧ h env M2 = .ok c M3 ∧ Zae K H ι Q (op a b c M3) := by
 obtain ⟨a, M1, e1, h'⟩ := Zae.bind h'
 obtain ⟨b, M2, e2, h'⟩ := Zae.bind h'
 obtain ⟨c, M3, e3, h'⟩ := Zae.bind h'
 exact ⟨a, M1, b, M2, c, M3, e1, e2, e3, h'⟩
theorem Zjb {K : PySem.W.Frag} {H : Hp} {ι : List Addr} {D' : Ends} {env : ZaD} {M : Store} {σ : St} (E : Zbm K H ι env σ) (h' : Zdg K H ι D' (Zaq f env M)) : Zae K H ι (fun _ H' => D'.nx σ H') (f env M) := by
 unfold Zaq at h'
 cases q : f env M with
 | ok d M1 => rw [q] at h'; exact fun v H1 ι1 x1 S1 r1 => h' σ H1 ι1 x1 S1 (E.mono x1)
 | exc x M1 => rw [q] at h'; exact h'.elim
 | bad => rw [q] at h'; exact h'.elim
theorem ZjK {i : Expr} {spos : Pos} (ho : C3 X o f) (hi : C3 X i g) (hv : C3 X e h)
  (ha : ∀ v, assign (.Subscript o i spos) X.env v = (do
   let ov ← holding [v] (eval o X.env)
   let iv ← holding [v, ov] (eval i X.env)
   standAt spos
   holding [v, ov, iv] (setItem ov iv v)
   release [v, ov, iv] []) := by intro _; rfl)
  (hs : swapsWithSole [.Subscript o i spos] e pos.line X.env = pure false := by rfl) (hw : swappedStores [.Subscript o i spos] e X.env = pure none := by rfl)
  (h1 : (assignEach [.Subscript o i spos] X.env).map (·.2) = [assign (.Subscript o i spos) X.env] := by rfl) : CS X (.Assign [.Subscript o i spos] e pos) (Zf2 f g h) := (ZiA hv (Zk1 ho hi set_list ha) hs hw h1).imp fun D' σ H ⟨ι, M, env, S, E, hh⟩ => by
 obtain ⟨d, M1, b, M2, k, M3, e1, e2, e3, hh⟩ := Zj7 (Zjb E hh)
 refine ⟨ι, M, env, S, E, ?_⟩
 rw [e1]
 intro v H1 ι1 x1 S1 r1
 refine ⟨ι1, M1, env, S1, E.mono x1, ?_⟩
 rw [e2]
 intro x H2 ι2 x2 S2 r2
 refine ⟨ι2, M2, env, S2, (E.mono x1).mono x2, ?_⟩
 rw [e3]
 intro y H3 ι3 x3 S3 r3
 cases b with
 | ref n =>
  cases k with
  | int j =>
   simp only [Zim] at hh
   cases hn : M3[n]? with
   | none => simp only [hn] at hh; exact hh.elim
   | some ob =>
    cases ob with
    | dct _ => simp only [hn] at hh; exact hh.elim
    | fdct _ => simp only [hn] at hh; exact hh.elim
    | lst xs =>
     simp only [hn] at hh
     cases hj : ixD xs.length j with
     | none => simp only [hj] at hh; exact hh.elim
     | some q =>
      simp only [hj] at hh
      obtain ⟨ad, ha, rfl⟩ := (r2.mono x3).ref_inv
      obtain ⟨ws, hw, kr⟩ := S3.obj n _ ad hn ha
      obtain ⟨x4, S4⟩ := S3.setl (.inr (.inl ⟨_, hw⟩)) ha (kr.set q ((r1.mono x2).mono x3))
      exact ⟨ad, ws, j, q, rfl, r3.int_inv, hw, by rw [kr.length]; exact hj, hh .non _ _ (((x1.trans x2).trans x3).trans x4) S4 Rep.non⟩
  | _ => exact hh.elim
 | _ => exact hh.elim
end
end L3
namespace L3
open PySem PySem.W PyProof.Rows
section
variable {lt : Nat → Nat → Bool}
structure Zn3 (lt : Nat → Nat → Bool) : Prop where
 asym : ∀ {a b}, lt a b = true → lt b a = false
 tr : ∀ {a b c}, lt b a = false → lt c b = false → lt c a = false
abbrev at' (p : Array Nat) (i : Nat) : Nat := p.getD i 0
end
end L3
namespace L3
open PySem PySem.W PyProof.Rows
section
variable {n : Nat}
end
section
variable {prog : Program} {w : World} {A : Around} {E : Value → Shared → Prop} {s : Shared}
end
end L3
namespace L3
open PySem PySem.W PySem.Spec PyProof.Rows L2
section
variable {prog : Program} {w : World} {A : Around} {K : PySem.W.Frag} {H : Hp} {ι : List Addr}
end
section
variable {X : Cx}
theorem Zv.pick {K : PySem.W.Frag} {H : Hp} {ι : List Addr} {x : List D} {vs : List V} (r : Zv K H ι x vs) (d0 : D) (v0 : V) : ∀ (p : List Nat), (∀ i ∈ p, i < x.length) → Zv K H ι (p.map fun i => x.getD i d0) (p.map fun i => vs.getD i v0)
 | [], _ => Zv.nil
 | i :: p, h => by
  have hi := h i List.mem_cons_self
  obtain ⟨v, e, q⟩ := r.get (i := i) (d := x[i]) (by simp [hi])
  refine Zv.cons ?_ (Zv.pick r d0 v0 p fun j hj => h j (List.mem_cons_of_mem _ hj))
  dsimp only
  rw [List.getD_eq_getElem?_getD, List.getD_eq_getElem?_getD, e, List.getElem?_eq_getElem hi]; exact q
theorem Vals.pick {vs : List V} {us : List Value} (r : Vals vs us) (v0 : V) : ∀ (p : List Nat), (∀ i ∈ p, i < vs.length) → Vals (p.map fun i => vs.getD i v0) (p.map fun i => us.getD i Value.none)
 | [], _ => .nil
 | i :: p, h => by
  have hi := h i List.mem_cons_self
  obtain ⟨v, e, q⟩ := r.get (i := i) (x := vs[i]) (by simp [hi])
  refine .cons ?_ (Vals.pick r v0 p fun j hj => h j (List.mem_cons_of_mem _ hj))
  dsimp only
  rw [List.getD_eq_getElem?_getD, List.getD_eq_getElem?_getD, e, List.getElem?_eq_getElem hi]; exact q
end
end L3
namespace L3
open PySem PySem.Spec PyProof.Rows L2
section
variable {X : Cx} {a b c e o : Expr} {es : List Expr} {pos p apos cpos : Pos} {f g h : E3} {gl : EL3}
theorem ZmC : Zbb X (.type "int") (rB X.K Zmq) := Zbb.imp Zh2 fun xs H Q ⟨ι, M, ds, S, rd, h⟩ => by
 cases ds with
 | nil => exact h.elim
 | cons d ds =>
  cases ds with
  | cons _ _ => cases d <;> exact h.elim
  | nil =>
   obtain ⟨x, rfl, r⟩ := ZdI rd
   cases d with
   | int i => exact .inl ⟨i, by rw [r.int_inv], Zae.ok h S Rep.int⟩
   | bl k => exact .inr ⟨k, by rw [r.bl_inv], Zae.ok h S Rep.int⟩
   | _ => exact h.elim
theorem ZkX {K : PySem.W.Frag} {H : Hp} {ι : List Addr} {M : Store} (S : Zal K H ι M) {n : Nat} {a : Addr} (h : (ZcX M[n]?).isSome = true) (ha : ι[n]? = some a) : IsD H a := by
 cases hn : ZcX M[n]? with
 | none => rw [hn] at h; cases h
 | some kvs =>
  obtain ⟨ws, hw, _⟩ := ZgQ S hn ha
  exact .inl ⟨ws, hw⟩
theorem ZiP {K : PySem.W.Frag} {H : Hp} {ι : List Addr} {kvs : List (ZaZ × D)} {ws : List (Key × V)} {d : D} {z : V} (kr : KvR K H ι kvs ws) (k : ZaZ) (rd : Rep K H ι d z) : Rep K H ι ((ZbU kvs k).getD d) ((Zdf ws (dk k)).getD z) := by
 have hv := kr.val k
 cases q : ZbU kvs k with
 | none => rw [q] at hv; rw [hv]; exact rd
 | some w =>
  rw [q] at hv
  obtain ⟨v, ev, rv⟩ := hv
  rw [ev]; exact rv
theorem Zk3 {e' : Expr} (hu : X.A.units + 80 < cLine) (ho : C3 X o f) (he : C3 X e g) (he' : C3 X e' h) (m : M2 X o "get" apos e e' cpos := by exact ⟨rfl, rfl, rfl, rfl⟩) : C3 X (.Call (.Attribute o "get" apos) [e, e'] [] cpos) (Zcy Zh0 ZiD f (Za g (Za h Zj))) := (Zit (hu1 hu) ho he he' m).imp fun σ H Q ⟨ι, M, env, S, E, hh⟩ => by
 obtain ⟨d, M1, e1, hh⟩ := Zae.bind hh
 refine ⟨ι, M, env, S, E, ?_⟩
 rw [e1]
 intro x H1 ι1 x1 S1 r1
 cases d with
 | ref n =>
  by_cases hD : (ZcX M1[n]?).isSome = true
  ·simp only [Zh0, hD, if_true] at hh
   obtain ⟨ad, ha, rfl⟩ := r1.ref_inv
   obtain ⟨ds, M2, e2, hh⟩ := Zae.bind hh
   refine ⟨ad, rfl, ZkX S1 hD ha, ι1, M1, env, S1, E.mono x1, ?_⟩
   cases q : g env M1 with
   | bad => simp [q] at e2
   | exc x' M' => simp [q] at e2
   | ok b M2' =>
    cases q' : h env M2' with
    | bad => simp [q, q'] at e2
    | exc x' M' => simp [q, q'] at e2
    | ok b' M3' =>
     simp only [Za, q, q', R3.bind, Zj] at e2
     cases e2
     intro y H2 ι2 x2 S2 r2
     refine ⟨ι2, M2', env, S2, (E.mono x1).mono x2, ?_⟩
     rw [q']
     intro z H3 ι3 x3 S3 r3
     simp only [ZiD] at hh
     cases hn : ZcX M2[n]? with
     | none => simp only [hn] at hh; exact hh.elim
     | some kvs =>
      cases hk : Zd9 b with
      | none => simp only [hn, hk] at hh; exact hh.elim
      | some kk =>
       simp only [hn, hk] at hh
       obtain ⟨ws, hw, kr⟩ := ZgQ S3 hn (x3.pre _ _ (x2.pre _ _ ha))
       refine ⟨Zdf ws (dk kk), .inl ⟨ws, dk kk, hw, Zhl hk r2, rfl⟩, hh _ H3 ι3 ((x1.trans x2).trans x3) S3 (ZiP kr kk r3)⟩
  ·simp only [Zh0, hD] at hh; exact hh.elim
 | _ => exact hh.elim
end
section
variable {X : Cx} {pins : List (Addr × Obj)} {σ : St} {H : Hp} {s : Shared} {d : Addr} {ws : List (Key × V)} {ob : Obj}
end
section
variable {X : Cx} {tg e elt : Expr} {ifs : List Expr} {pos : Pos} {f fe : E3} {ts : List E3} {g : G3} {scope : Scope} {N' : List Str} {own : Nat}
end
end L3
namespace L3
open PySem PySem.Spec PyProof.Rows L2
section
variable {prog : Program} {w : World} {A : Around} {E : Value → Shared → Prop} {s : Shared}
theorem Zh1 : typeLookup (.type "tuple") (Str.ofString "keys") = pure none := by rw [typeLookup_type, builtinLookup_eq_fast]; kernel_rfl
set_option maxRecDepth 8000 in
theorem Zf3 {a : Addr} {o : Obj} {xs : Array Value} {k : Nat} {Q : Option Value → Shared → Prop} (hx : s.heap.get? a = some o) (hc : o.cls = .type "tuple") (hdat : o.data = .seq xs k) (hd : o.dict = none) (hA : A.handled = none)
  (h : ∀ h' tk, (∀ b u, s.heap.get? b = some u → h'.get? b = some u) → Q none { s with heap := h', toks := tk }) : wpAny (model prog w) A (getAttr? (.ref a) (Str.ofString "keys")) Q E s := by
 obtain ⟨c, dct, dat, sl⟩ := o
 simp only at hc hdat hd
 subst hc hdat hd
 obtain ⟨hp, g, d, tk, os⟩ := s
 have hT : ∀ tk', (⟨hp, g, d, tk', os⟩ : Shared).TypeIs (.ref a) "tuple" := fun _ => ⟨_, hx, rfl⟩
 have f1 := sub_AttributeError; have f3 := F.slot_tuple_getattribute.lookup; have f4 := F.slot_tuple_getattribute.bind (.ref a); have f5 := am_tuple_getattr_none
 unfold getAttr? getAttrBy? getAttrBy
 repeat (any_goals (first | assumption | exact hT _ | ((with_reducible show wpAny _ _ (call (Value.builtin "tuple.__getattribute__") _ _) _ _ _); refine call_meets F.slot_tuple_getattribute (hT _) am_entry_tuple_getattribute (F.args_tuple_getattribute_2 _ _) (meets_getattribute_miss_tuple a xs k sl _ _ Zh1 (by decide) (by rw [sizeLine_eq]; decide)) ⟨hx, hA, fun h' tk' e hx' => ?_⟩) | wp_step))
 obtain ⟨t', u', he⟩ := hx'.there
 show wpAny _ _ (getattributeRaised _ _ _ _ _ _ _) _ _ _
 unfold getattributeRaised
 repeat (any_goals (first | assumption | wp_step))
 all_goals exact h _ _ hx'.of.keeps
theorem ZcZ : entryFor table "dict.update.loop" = some Builtin.«dict.update.loop» := entryFor_of_tree (by kernel_rfl)
theorem ZbY : plainId "dict.update.loop" = true := by decide +kernel
def Zgv (prog : Program) (w : World) (h : Heap) (v : Value) (q : Key × Value) : Prop := ∃ a o key n, v = .ref a ∧ h.get? a = some o ∧ o.cls = .type "tuple" ∧ o.data = .seq #[key, q.2] n ∧ (ZaM prog w).is q.1 key = true
theorem Zi9 {d I ax : Addr} {items : Array Value} {ps : List (Key × Value)} {res : Value} (hh : A.in1.handled = none) (hne : ax ≠ I) (hdI : d ≠ I) (hda : d ≠ ax) (hl : ps.length = items.size) (hz : ps.length ≤ 100000) :
  ∀ (k i : Nat) (s : Shared) (kvs : List (Key × Value)) {R : Result → Shared → Prop}, items.size - i = k → i ≤ items.size → s.heap.IsTupleIter I ax i → s.heap.IsTuple ax items → s.heap.DictOf (ZaM prog w) d kvs → kvs.length ≤ i →
   (∀ (j : Nat) v q, items[j]? = some v → ps[j]? = some q → Zgv prog w s.heap v q ∧ v ≠ .ref d ∧ v ≠ .ref I) →
   (∀ h' tk, h'.DictOf (ZaM prog w) d (merged kvs (ps.drop i)) → (∀ b o, b ≠ d → b ≠ I → s.heap.get? b = some o → h'.get? b = some o) → R (.ok (.ret res)) { s with heap := h', toks := tk }) →
   codeAny (model prog w) A (.builtin "dict.update.loop" ⟨[.ref d, .ref I, rawInt i, res], []⟩) R s := by
 have W := Walks.tuple (prog := prog) (w := w) hh I ax hne items
 intro k
 induction k with
 | zero =>
  intro i s kvs R hk hi st tup dd hkl hp hR
  have hin : i = items.size := by omega
  subst hin
  refine codeAny_builtin ZcZ ?_
  rw [Around.under_plainId ZbY _]
  show wpAny _ A.in1 (pyNext (.ref I) >>= _) _ _ s
  refine wpAny_bind (W.done s _ _ ⟨st, tup⟩ fun h' tk kk => ?_)
  show wpAny _ A.in1 (Builtin.Dict.addKeywords d [] >>= _) _ _ _
  refine wpAny_bind (wpAny_pure (wpAny_pure (hR h' tk ?_ fun b o hb hI e => kk b o (by simpa using hI) e)))
  rw [List.drop_of_length_le (by omega)]
  obtain ⟨o, es, ep, ho, r⟩ := dd
  exact ⟨o, es, ep, kk d o (by simpa using hdI) ho, r⟩
 | succ k ih =>
  intro i s kvs R hk hi st tup dd hkl hp hR
  have hlt : i < items.size := by omega
  have hv : items[i]? = some items[i] := by simp [hlt]
  have hq : ps[i]? = some (ps[i]'(by omega)) := by simp [show i < ps.length by omega]
  refine codeAny_builtin ZcZ ?_
  rw [Around.under_plainId ZbY _]
  show wpAny _ A.in1 (pyNext (.ref I) >>= _) _ _ s
  refine wpAny_bind (W.item i s _ _ hlt ⟨st, tup⟩ fun v h1 tk1 hP st1 kk1 => ?_)
  rw [hv] at hP
  cases hP
  obtain ⟨⟨a, o, key, n, ev, ho, hc, hd, hkey⟩, nd, nI⟩ := hp i _ _ hv hq
  have haI : a ≠ I := fun z => nI (by rw [ev, z])
  have had : a ≠ d := fun z => nd (by rw [ev, z])
  have ho1 : h1.get? a = some o := kk1 a o (by simpa using haI) ho
  have dd1 : h1.DictOf (ZaM prog w) d kvs := by
   obtain ⟨o', es, ep, ho', r⟩ := dd
   exact ⟨o', es, ep, kk1 d o' (by simpa using hdI) ho', r⟩
  rw [ev]
  generalize ps[i]'(by omega) = q at hq hkey hd
  dsimp only
  refine wpAny_bind (wpAny_holding (wpAny_bind (wpAny_tryCatch ?_)))
  unfold Builtin.Dict.pairItems
  refine wpAny_bind (wpAny_typeOf (T := "tuple") ⟨o, ho1, hc⟩ ?_)
  rw [if_pos (by decide)]
  refine wpAny_bind ?_
  unfold seqItems?
  refine wpAny_bind (wpAny_load ho1 ?_)
  rw [hd]
  refine wpAny_pure (wpAny_pure ?_)
  show wpAny _ A.in1 (holding [key, q.2] (dictSet d key q.2)) _ _ _
  refine wpAny_holding (wpAny_dictSet_pairs hkey dd1 (fun h2 dd2 sb => ?_) (by rw [sizeLine_eq]; omega))
  refine wpAny_pure ⟨plainId_quiet ZbY _, ?_⟩
  show codeAny (model prog w) A (.builtin "dict.update.loop" ⟨[.ref d, .ref I, rawInt ((i : Int) + 1), res], []⟩) R _
  have e1 : ((i : Int) + 1) = ((i + 1 : Nat) : Int) := by omega
  rw [e1]
  have k2 : ∀ b u, b ≠ d → b ≠ I → s.heap.get? b = some u → h2.get? b = some u := fun b u hb hI e => (sb.2 b hb).trans (kk1 b u (by simpa using hI) e)
  refine ih (i + 1) _ (stored kvs q.1 q.2) (by omega) hlt ?_ ?_ dd2 ?_ ?_ ?_
  ·obtain ⟨o', e', r⟩ := st1.1
   exact ⟨o', (sb.2 I (Ne.symm hdI)).trans e', r⟩
  ·obtain ⟨o', e', r⟩ := st1.2
   exact ⟨o', (sb.2 ax (Ne.symm hda)).trans e', r⟩
  ·have := (show (stored kvs q.1 q.2).length ≤ kvs.length + 1 from by unfold stored; split <;> simp)
   omega
  ·intro j v q' hj hq'
   obtain ⟨⟨a', o', key', n', ev', ho', r⟩, nd', nI'⟩ := hp j v q' hj hq'
   exact ⟨⟨a', o', key', n', ev', k2 a' o' (fun z => nd' (by rw [ev', z])) (fun z => nI' (by rw [ev', z])) ho', r⟩, nd', nI'⟩
  ·intro h' tk dd' kk'
   refine hR h' tk ?_ fun b u hb hI e => kk' b u hb hI (k2 b u hb hI e)
   have hq2 : ps.drop i = q :: ps.drop (i + 1) := by rw [List.drop_eq_getElem_cons (by omega)]; congr 1; rw [List.getElem?_eq_getElem (by omega)] at hq; exact Option.some.inj hq
   rw [hq2]
   exact dd'
theorem ZgE {ax : Addr} {items : Array Value} {ps : List (Key × Value)} {Q : Value → Shared → Prop} (hA : A.handled = none) (ht : Zcx s.heap ax items) (hl : ps.length = items.size) (hz : ps.length ≤ 100000)
  (hp : ∀ (j : Nat) v q, items[j]? = some v → ps[j]? = some q → Zgv prog w s.heap v q)
  (h : ∀ h' tk, h'.DictOf (ZaM prog w) s.heap.objs.size (merged [] ps) → (∀ b o, s.heap.get? b = some o → h'.get? b = some o) → Q (.ref s.heap.objs.size) { s with heap := h', toks := tk }) :
  wpAny (model prog w) A (call (.type "dict") [.ref ax]) Q E s := by
 obtain ⟨o, ho, ⟨hc, hdn⟩, n, hdat⟩ := id ht
 have hlt : ax < s.heap.objs.size := Heap.lt_size ho
 refine callType_codes (Q₁ := fun obj s₁ => obj = .ref s.heap.objs.size ∧ s₁ = { s with heap := s.heap.push { cls := .type "dict", data := .dict #[] } }) F.kt_called_dict (F.kt_typeCall_dict_1 _) F.entry_dict_init (kt_code_dict_new _ ⟨rfl, rfl⟩) ?_
 rintro obj s₁ ⟨rfl, rfl⟩
 have hnew : (s.heap.push { cls := .type "dict", data := .dict #[] }).DictOf (ZaM prog w) s.heap.objs.size [] := Heap.DictOf.new s.heap
 have hk1 : ∀ b u, s.heap.get? b = some u → (s.heap.push { cls := .type "dict", data := .dict #[] }).get? b = some u := fun b u q => Heap.get?_push_of_some _ q
 refine ⟨hnew.typeIs, F.args_dict_init_2 _ _, ?_⟩
 unfold Builtin.«dict.__init__»
 refine wpAny_bind ?_; unfold Builtin.Dict.selfAndRest
 refine wpAny_bind (wpAny_notOrdered_dict hnew.typeIs ?_); show wpAny _ _ (pure (s.heap.objs.size, [Value.ref ax])) _ _ _
 refine wpAny_pure ?_; show wpAny _ _ (Builtin.Dict.updateFrom "dict.__init__" s.heap.objs.size (.ref ax) [] .none) _ _ _
 unfold Builtin.Dict.updateFrom
 refine wpAny_bind (wpAny_typeOf (T := "tuple") ⟨o, hk1 _ _ ho, hc⟩ ?_)
 rw [if_pos (by decide)]
 refine wpAny_bind (Zf3 (hk1 _ _ ho) hc hdat hdn hA fun h2 tk2 k2 => ?_)
 simp only [Option.isNone_none, if_true]
 refine wpAny_bind (wpAny_rule ?_)
 have d2 : h2.DictOf (ZaM prog w) s.heap.objs.size [] := by
  obtain ⟨o', es, ep, ho', r⟩ := hnew
  exact ⟨o', es, ep, k2 _ _ ho', r⟩
 have t2 : h2.IsTuple ax items := ⟨o, k2 _ _ (hk1 _ _ ho), hc, n, hdat⟩
 have l2 : s.heap.objs.size < h2.objs.size := by obtain ⟨o', _, _, ho', _⟩ := d2; exact Heap.lt_size ho'
 refine wpAny_bind (wpAny_pyIter_tuple t2 ?_)
 have k3 : ∀ b u, h2.get? b = some u → (h2.push { cls := .type "tuple_iterator", data := .fields #[.ref ax, .int 0 0] }).get? b = some u := fun b u q => Heap.get?_push_of_some _ q
 have t3 : (h2.push { cls := .type "tuple_iterator", data := .fields #[.ref ax, .int 0 0] }).IsTuple ax items := by obtain ⟨o', e', r⟩ := t2; exact ⟨o', k3 _ _ e', r⟩
 have d3 : (h2.push { cls := .type "tuple_iterator", data := .fields #[.ref ax, .int 0 0] }).DictOf (ZaM prog w) s.heap.objs.size [] := by obtain ⟨o', es, ep, ho', r⟩ := d2; exact ⟨o', es, ep, k3 _ _ ho', r⟩
 refine wpAny_pure ⟨plainId_quiet ZbY _, Zi9 (prog := prog) (w := w) (A := A.in1) (ax := ax) (items := items) (ps := ps) hA (Nat.ne_of_lt (Nat.lt_trans hlt l2)) (Nat.ne_of_lt l2) (Nat.ne_of_gt hlt) hl hz items.size 0 _ [] (by omega) (Nat.zero_le _) ⟨_, Heap.get?_push_size _ rfl, rfl, rfl⟩ t3 d3 (Nat.zero_le _) (fun j v q hj hq => ?_) fun h' tk dd' kk' => ?_⟩
 ·obtain ⟨a, o', key, n', ev, ho', r⟩ := hp j v q hj hq
  have hla : a < s.heap.objs.size := Heap.lt_size ho'
  refine ⟨⟨a, o', key, n', ev, k3 _ _ (k2 _ _ (hk1 _ _ ho')), r⟩, fun z => ?_, fun z => ?_⟩
  ·rw [ev] at z; injection z with z; exact absurd hla (by rw [z]; exact Nat.lt_irrefl _)
  ·rw [ev] at z; injection z with z; exact absurd (Nat.lt_trans hla l2) (by rw [z]; exact Nat.lt_irrefl _)
 ·refine ⟨rfl, h h' tk dd' fun b u q => kk' b u (Nat.ne_of_lt (Heap.lt_size q)) (Nat.ne_of_lt (Nat.lt_trans (Heap.lt_size q) l2)) (k3 _ _ (k2 _ _ (hk1 _ _ q)))⟩
end
section
variable {X : Cx}
theorem pairs_at {pins : List (Addr × Obj)} {σ : St} {H : Hp} {s : Shared} {ι : List Addr} (I : Inv X pins σ H s) : ∀ {x : List D} {l : List (ZaZ × D)} {vs : List V} {us : List Value}, Zb6 x = some l → Zv X.K H ι x vs → Vals vs us →
  ∃ (ws : List (Key × V)) (ps : List (Key × Value)), KvR X.K H ι l ws ∧ KV ws ps ∧ ps.length = us.length ∧ ∀ (j : Nat) v q, us[j]? = some v → ps[j]? = some q → Zgv X.prog X.w s.heap v q
 | [], l, vs, us, h, r, v => by
  have e := r.nil_inv; subst e; cases v
  have : l = [] := by simpa [Zb6] using h.symm
  subst this
  exact ⟨[], [], KvR.nil, .nil, rfl, fun j v q h => by simp at h⟩
 | d :: x, l, vs, us, h, r, v => by
  obtain ⟨u, vs', rfl, r1, r2⟩ := r.cons_inv
  cases v with
  | @cons _ z _ us' rz rzs =>
  cases d with
  | tup ds =>
   match ds, h, r1 with
   | [a, b], h, r1 =>
    simp only [Zb6] at h
    cases hk : Zd9 a with
    | none => simp only [hk] at h; cases h
    | some kk =>
     simp only [hk] at h
     cases hx : Zb6 x with
     | none => rw [hx] at h; cases h
     | some l' =>
      rw [hx] at h
      have : l = (kk, b) :: l' := by simpa using h.symm
      subst this
      obtain ⟨ws, ps, kr, kv, lp, hp⟩ := pairs_at I hx r2 rzs
      obtain ⟨ad, xs, rfl, sq, rr⟩ := r1.tup_inv
      cases (show z = Value.ref ad from rz)
      obtain ⟨ya, ys, rfl, ra, rr⟩ := rr.cons_inv
      obtain ⟨yb, ys, rfl, rb, rr⟩ := rr.cons_inv
      have e := rr.nil_inv; subst e
      obtain ⟨its, rv, ⟨o, ho, hc, n, hd⟩, _⟩ := I.tuple sq
      cases rv with
      | @cons _ u1 _ _ q1 rv =>
      cases rv with
      | @cons _ u2 _ _ q2 rv =>
      cases rv
      refine ⟨(dk kk, yb) :: ws, (dk kk, u2) :: ps, KvR.cons rb kr, .cons ⟨rfl, q2⟩ kv, by simp [lp], fun j v q hj hq => ?_⟩
      cases j with
      | zero =>
       simp at hj hq
       subst hj hq
       exact ⟨ad, o, u1, n, rfl, ho, hc, hd, Zix (by rw [← Zhl hk ra]; exact q1)⟩
      | succ j => exact hp j v q (by simpa using hj) (by simpa using hq)
   | [], h, _ => simp [Zb6] at h
   | [_], h, _ => simp [Zb6] at h
   | _ :: _ :: _ :: _, h, _ => simp [Zb6] at h
  | _ => simp [Zb6] at h
theorem Zk2 (hc : X.calm = true) : Zbb X (.type "dict") (rB X.K ZdY) := by
 intro pins s σ H xs us Q I rs ⟨ι, M, ds, S, rd, h⟩
 cases ds with
 | nil => exact h.elim
 | cons d ds =>
  cases ds with
  | cons _ _ => cases d <;> exact h.elim
  | nil =>
   obtain ⟨x, rfl, r⟩ := ZdI rd
   obtain ⟨u, rfl, ru⟩ := vals1 rs
   cases d with
   | ref n =>
    cases hn : ZcX M[n]? with
    | none => simp only [ZdY, hn] at h; exact h.elim
    | some kvs =>
     simp only [ZdY, hn] at h
     obtain ⟨a, ha, rfl⟩ := r.ref_inv
     cases ru
     obtain ⟨ws, hw, kr⟩ := ZgQ S hn ha
     refine Zi5 I hw fun p s' hp I' => ⟨.ref p, _, I', rfl, ?_⟩
     obtain ⟨x2, S2, r2⟩ := S.dct hp kr
     exact h _ _ _ x2 S2 r2
   | tup z =>
    simp only [ZdY] at h
    cases hp : Zb6 z with
    | none => rw [hp] at h; exact h.elim
    | some l =>
     rw [hp] at h
     dsimp only at h
     split at h
     ·rename_i hz
      obtain ⟨a, vs, rfl, sq, rr⟩ := r.tup_inv
      cases ru
      obtain ⟨its, rv, ht, _⟩ := I.tupleN sq
      obtain ⟨ws, ps, kr, kv, lp, hpp⟩ := pairs_at I hp rr rv
      have hl : ps.length = l.length := by rw [← kv.length, kr.length]
      refine ZgE (ps := ps) (I.ok.hd hc) ht (by simpa using lp) (by rw [hl]; exact hz) (fun j v q hj hq => hpp j v q (by simpa using hj) hq) fun h' tk dd kk => ⟨.ref s.heap.objs.size, upd H s.heap.objs.size (.dK (Zeq [] ws)), ?_, rfl, ?_⟩
      ·have hm := kv.merge (kvs := []) (vs := []) .nil
       refine I.laid kk (Nat.le_refl _) (Zik ?_ (beq_eq_false_iff_ne.mpr (Ne.symm (Nat.ne_of_lt I.big))) hm dd)
       have h1 := Zdk ws []
       rw [List.length_nil] at h1
       rw [sizeLine_eq]
       have := kr.length
       omega
      ·obtain ⟨x2, S2, r2⟩ := S.dct (I.hok.fresh (Nat.le_refl _)) (KvR.merge (kvs := []) (ws := []) kr KvR.nil)
       exact h _ _ _ x2 S2 r2
     ·exact h.elim
   | _ => exact h.elim
end
end L3
namespace L3
open PySem PySem.Spec PyProof.Rows L2
end L3
namespace L3
open PySem PySem.Spec PyProof.Rows L2
section
variable {X : Cx} {o e : Expr} {es : List Expr} {apos cpos : Pos} {f : E3} {gl : EL3}
theorem Zv.dropLast {K : PySem.W.Frag} {H : Hp} {ι : List Addr} {ds : List D} {vs : List V} (r : Zv K H ι ds vs) : Zv K H ι ds.dropLast vs.dropLast := by
 rw [List.dropLast_eq_take, List.dropLast_eq_take, r.length]; exact r.take _
end
end L3
namespace L3
open PySem PySem.Spec PyProof.Rows L2
section
variable {X : Cx} {a b c e o : Expr} {es : List Expr} {pos p apos cpos : Pos} {f g h : E3} {gl : EL3}
end
end L3
namespace L3
open PySem PySem.Spec PyProof.Rows L2
section
variable {X : Cx} {a b c e o : Expr} {es : List Expr} {pos p apos cpos : Pos} {f g h : E3} {gl : EL3}
theorem ZeV : Zbb X (.type "int") (fun xs H Q => ∃ x n, xs = [.str x] ∧ intText? x = some n ∧ x.length ≤ 640 ∧ Q (.int n) H) := by
 intro pins s σ H xs us Q I r h
 obtain ⟨x, n, rfl, hn, hz, q⟩ := h
 obtain ⟨u, rfl, t, rfl⟩ := vals1 r
 exact PySem.W.KIN.call_text hn hz ⟨.int n, H, I.tok _, ⟨_, rfl⟩, q⟩
theorem Zln : Zbb X (.type "int") (rB X.K Zig) := Zbb.imp (Zbb.or ZmC ZeV) fun xs H Q ⟨ι, M, ds, S, rd, h⟩ => by
 match ds, rd, h with
 | [.str x], rd, h =>
  obtain ⟨v, rfl, r⟩ := ZdI rd
  simp only [Zig] at h
  cases hn : PySem.intText? ⟨x.toArray⟩ with
  | none => rw [hn] at h; exact h.elim
  | some n =>
   rw [hn] at h
   dsimp only at h
   split at h
   ·rename_i hz
    exact .inr ⟨_, n, by rw [r.str_inv], hn, by simpa [Str.length] using hz, Zae.ok h S Rep.int⟩
   ·exact h.elim
 | [], rd, h => exact h.elim
 | [.int i], rd, h => exact .inl ⟨ι, M, _, S, rd, h⟩
 | [.bl i], rd, h => exact .inl ⟨ι, M, _, S, rd, h⟩
 | [.non], rd, h => exact h.elim
 | [.tup _], rd, h => exact h.elim
 | [.scr _], rd, h => exact h.elim
 | [.ref _], rd, h => exact h.elim
 | .str _ :: _ :: _, rd, h => exact h.elim
 | .int _ :: _ :: _, rd, h => exact h.elim
 | .bl _ :: _ :: _, rd, h => exact h.elim
 | .non :: _ :: _, rd, h => exact h.elim
 | .tup _ :: _ :: _, rd, h => exact h.elim
 | .scr _ :: _ :: _, rd, h => exact h.elim
 | .ref _ :: _ :: _, rd, h => exact h.elim
end
end L3
namespace L3
open PySem PySem.Spec PyProof.Rows L2
section
variable {X : Cx} {a b c e o : Expr} {es : List Expr} {pos p p1 p2 p3 pt apos cpos : Pos} {f g h : E3} {gl : EL3}
end
end L3
namespace L3
open PySem PySem.Spec PyProof.Rows L2
section
variable {X : Cx} {tg e : Expr} {pos : Pos} {f : E3} {g : G3}
theorem ZgX (he : C3 X e f) (hg : CG X tg g) (hs : swapsWithSole [tg] e pos.line X.env = pure false := by rfl) (hw : swappedStores [tg] e X.env = pure none := by rfl)
  (h1 : (assignEach [tg] X.env).map (·.2) = [assign tg X.env] := by rfl) : CS X (.Assign [tg] e pos) (Zew f g) := (ZiA he hg hs hw h1).imp fun D σ H ⟨ι, M, env, S, E, h⟩ => by
 refine ⟨ι, M, env, S, E, ?_⟩
 unfold Zew at h
 cases q : f env M with
 | ok d M1 =>
  rw [q] at h
  cases qg : g d env with
  | none => simp only [qg] at h; exact h.elim
  | some env1 =>
   simp only [qg] at h
   exact fun v H1 ι1 x1 S1 r1 => ⟨ι1, M1, env, d, env1, S1, E.mono x1, r1, qg, fun σ' E' => h σ' H1 ι1 x1 S1 E'⟩
 | exc x M1 => rw [q] at h; exact h.elim
 | bad => rw [q] at h; exact h.elim
end
section
variable {X : Cx} {tg e elt : Expr} {ifs : List Expr} {pos : Pos} {f fe : E3} {ts : List E3} {g : G3} {scope : Scope} {N' : List Str} {own : Nat}
end
def Zl6 (K : PySem.W.Frag) (H : Hp) (ι : List Addr) (it : ItL) (J : It) : Prop := ∀ (i : Nat) H2 ι2 M2, Ext K H ι H2 ι2 → Zal K H2 ι2 M2 → Zcj it.lk M2 = true →
 (∀ d, it.items[i]? = some d → J.go i H2 ∧ ∀ x H3, J.yld i H2 x H3 → Ext K H2 ι2 H3 ι2 ∧ Zal K H3 ι2 M2 ∧ Rep K H3 ι2 d x) ∧ (i = it.items.length → J.stop i H2)
def Zf5 (K : PySem.W.Frag) (H : Hp) (ι : List Addr) (R : It → Hp → Prop) (r : R3 ItL) : Prop := match r with
 | .ok it M' => ∀ J H' ι', Ext K H ι H' ι' → Zal K H' ι' M' → Zl6 K H' ι' it J → R J H'
 | _ => False
def tIL (K : PySem.W.Frag) (g : IL3) : TI := fun σ H R => ∃ ι M env, Zal K H ι M ∧ Zbm K H ι env σ ∧ Zf5 K H ι R (g env M)
def CIL (X : Cx) (tg e : Expr) (g : IL3) : Prop := PI X tg e (tIL X.K g)
theorem Zf5.bind {K : PySem.W.Frag} {H : Hp} {ι : List Addr} {α : Type} {Q : It → Hp → Prop} {r : R3 α} {k : α → Store → R3 ItL} (h : Zf5 K H ι Q (r.bind k)) : ∃ a M, r = .ok a M ∧ Zf5 K H ι Q (k a M) := by
 cases r with
 | ok a M => exact ⟨a, M, rfl, h⟩
 | exc x M => exact h.elim
 | bad => exact h.elim
section
variable {X : Cx} {tg : Expr} {pos : Pos}
theorem Zjl {iter : Expr} {body : List Stmt} {i : IL3} {g : G3} {u : S3} (hxe : X.xe = fun _ _ => False) (hc : X.calm = true) (hi : CIL X tg iter i) (hg : CG X tg g) (hb : CSs X body u) (hs : ∀ x, foldedSetIterable iter X.env x = pure x := by intro _; rfl) :
  CS X (.For tg iter body [] pos) (Zg2 i g u) := (ZiN (by rw [hxe]; exact PassesOwn.never) hc hi hg hb hs).imp fun D σ H ⟨ι, M, env, S, E, h⟩ => by
 unfold Zg2 at h
 cases q : i env M with
 | exc x M1 => rw [q] at h; exact h.elim
 | bad => rw [q] at h; exact h.elim
 | ok it M1 =>
  rw [q] at h
  refine ⟨ι, M, env, S, E, ?_⟩
  rw [q]
  intro J H1 ι1 x1 S1 ok
  refine ⟨fun i m σ2 H2 => m = it.items.length - i ∧ i ≤ it.items.length ∧ ∃ ι2 M2 env2, Ext X.K H1 ι1 H2 ι2 ∧ Zal X.K H2 ι2 M2 ∧ Zbm X.K H2 ι2 env2 σ2 ∧ Zdg X.K H2 ι2 D (Zdi it.lk g u (it.items.drop i) env2 M2),
   ⟨_, rfl, Nat.zero_le _, ι1, M1, env, Ext.refl, S1, E.mono x1, Zdg.up x1 h⟩, ?_⟩
  rintro i m σ2 H2 ⟨rfl, hi, ι2, M2, env2, x2, S2, E2, h2⟩
  by_cases hlt : i < it.items.length
  ·have hd : it.items[i]? = some it.items[i] := by simp [hlt]
   rw [List.drop_eq_getElem_cons hlt] at h2
   unfold Zdi at h2
   by_cases lk : Zcj it.lk M2 = true
   ·rw [if_pos lk] at h2
    obtain ⟨go, yl⟩ := (ok i H2 ι2 M2 x2 S2 lk).1 _ hd
    cases eg : g it.items[i] env2 with
    | none => rw [eg] at h2; exact h2.elim
    | some env3 =>
     rw [eg] at h2
     refine .inr ⟨go, fun σ' H' => ∃ ι3 M3 env4, Ext X.K H2 ι2 H' ι3 ∧ Zal X.K H' ι3 M3 ∧ Zbm X.K H' ι3 env4 σ' ∧ Zdg X.K H' ι3 D (Zdi it.lk g u (it.items.drop (i + 1)) env4 M3),
      fun σ' H' ⟨ι3, M3, env4, x3, S3, E3, h3⟩ => ⟨it.items.length - (i + 1), by omega, rfl, hlt, ι3, M3, env4, x2.trans x3, S3, E3, h3⟩, fun x H' hy => ?_⟩
     obtain ⟨x7, S7, rx⟩ := yl x H' hy
     refine ⟨ι2, M2, env2, _, env3, S7, E2.mono x7, rx, eg, fun σ' E' => ⟨ι2, M2, env3, S7, E', ?_⟩⟩
     have h2' := Zdg.up x7 h2
     cases qu : u env3 M2 with
     | nx e' M' => simp only [qu] at h2'; exact fun σ' H' ι' x' S' E' => ⟨ι', M', e', x7.trans x', S', E', h2'.up x'⟩
     | ct e' M' => simp only [qu] at h2'; exact fun σ' H' ι' x' S' E' => ⟨ι', M', e', x7.trans x', S', E', h2'.up x'⟩
     | bk e' M' => simp only [qu] at h2'; exact h2'
     | rt d M' => simp only [qu] at h2'; exact h2'
     | exc x' M' => simp only [qu] at h2'; exact h2'.elim
     | bad => simp only [qu] at h2'; exact h2'.elim
   ·rw [if_neg lk] at h2; exact h2.elim
  ·have e0 : i = it.items.length := by omega
   subst e0
   rw [List.drop_length] at h2
   unfold Zdi at h2
   by_cases lk : Zcj it.lk M2 = true
   ·rw [if_pos lk] at h2
    exact .inl ⟨(ok _ H2 ι2 M2 x2 S2 lk).2 rfl, h2 σ2 H2 ι2 Ext.refl S2 E2⟩
   ·rw [if_neg lk] at h2; exact h2.elim
end
theorem _root_.L2.Inv.turnedL {X : Cx} {pins : List (Addr × Obj)} {σ : St} {H : Hp} {s : Shared} {h' : Heap} {t' : Nat} {fp : List Addr} (I : Inv X pins σ H s) (k : ∀ b o, b ∉ fp → s.heap.get? b = some o → h'.get? b = some o) (hf : ∀ b ∈ fp, ZdN X pins H b) :
  Inv X pins σ H { s with heap := h', toks := t' } := by
 have nit : ∀ b u, H b = some u → b ∉ fp := fun b u e z => by rw [(hf b z).1] at e; cases e
 refine I.step (g' := s.gens) (d' := s.drawn) (ch := fp) (fun b hb => ⟨(hf b hb).2.2.2.1, (hf b hb).2.1, (hf b hb).2.2.2.2.1, (hf b hb).2.2.2.2.2⟩) (fun b o _ _ hc e _ => k b o hc e) (fun b o _ _ hc e _ => ⟨o.slots, k b o hc e⟩) (fun _ _ _ _ n => n)
  (fun b o hc e => ⟨o, k b o hc e⟩) (fun _ _ e => e) (fun _ _ _ e => e) (fun b ps e => ⟨#[], by rw [e]; simp⟩) (fun m hm => ?_) (fun b u e => ?_) I.bare
 ·obtain ⟨o, es, ep, ho, r⟩ := hm
  exact ⟨o, es, ep, k _ o (fun z => (hf _ z).2.1 rfl) ho, r⟩
 ·refine (I.hok b u e).stay (fun c v hc q => k c v ?_ q) (fun _ q => q) fun _ _ q => q
  rcases hc with z | z
  ·rw [z]; exact nit b u e
  ·exact nit c _ z
def Ite (S : Hp → List V → Prop) : It := ⟨fun i H => ∃ xs x, S H xs ∧ xs[i]? = some x, fun i H x H' => ∃ T y, x = .ref T ∧ H T = none ∧ H' = upd H T (.tup [.int i, y]) ∧ ∀ xs, S H xs → xs[i]? = some y, fun i H => ∃ xs, S H xs ∧ xs.length ≤ i⟩
theorem Zfc {X : Cx} {pins : List (Addr × Obj)} {σ : St} {H : Hp} {s : Shared} {h' h'' : Heap} {e it : Addr} {i : Nat} {x : V} {u : Value} {tk tk' : Nat} (I : Inv X pins σ H s) (hf : ∀ b ∈ [e, it], ZdN X pins H b) (he : e < s.heap.objs.size) (hi : it < s.heap.objs.size) (ru : RelV x u)
  (hT : h'.get? s.heap.objs.size = some { cls := .type "tuple", data := .seq #[.int i tk, u] }) (hk : ∀ b o, b ≠ e → b ≠ it → s.heap.get? b = some o → h'.get? b = some o) (hs : Heap.SameBut e h' h'') :
  Inv X pins σ (upd H s.heap.objs.size (.tup [.int i, x])) { s with heap := h'', toks := tk' } ∧ ∀ b ∈ [e, it], upd H s.heap.objs.size (.tup [.int i, x]) b = none := by
 have hn : ∀ b ∈ [e, it], upd H s.heap.objs.size (.tup [.int i, x]) b = none := fun b hb => by
  have : b ≠ s.heap.objs.size := by
   simp only [List.mem_cons, List.not_mem_nil, or_false] at hb
   rcases hb with rfl | rfl
   ·exact Nat.ne_of_lt he
   ·exact Nat.ne_of_lt hi
  rw [ZaW this]; exact (hf b hb).1
 refine ⟨?_, hn⟩
 have I1 : Inv X pins σ (upd H s.heap.objs.size (.tup [.int i, x])) { s with heap := s.heap.push { cls := .type "tuple", data := .seq ([.int i tk, u] : List Value).toArray }, toks := s.toks } :=
  I.laid (t' := s.toks) (fun b o e => Heap.get?_push_of_some _ e) (Nat.le_refl _) (show Zba X.prog X.w _ _ _ (.tup [.int i, x]) from ⟨by rw [sizeLine_eq]; show 2 ≤ _; decide, [.int i tk, u], .cons ⟨tk, rfl⟩ (.cons ru .nil), Zcx.new _ _⟩)
 have I3 := I1.turnedL (t' := tk') (h' := h'') (fp := [e, it]) (fun b o hb q => by
  have hbe : b ≠ e := fun z => hb (by simp [z])
  have hbi : b ≠ it := fun z => hb (by simp [z])
  rcases Heap.get?_push_cases q with ⟨rfl, rfl⟩ | q
  ·exact (hs.2 _ (Nat.ne_of_gt he)).trans hT
  ·exact (hs.2 _ hbe).trans (hk b o hbe hbi q)) fun b hb => ⟨hn b hb, (hf b hb).2⟩
 exact I3
theorem Zgq {P : Program} {w : World} {K : PySem.W.Frag} {es : List Expr} {k : Nat} {pos : Pos} (a e it : Addr) (hne : e ≠ it) :
  Turn P w K (.Tuple es k pos) (Ite fun H xs => SqL K H a xs) [e, it] e (fun i h => (∃ old, IsEnum h e it i old) ∧ h.IsListIter it a i) where
 mem := by simp
 obj := fun i h st b hb => by
  obtain ⟨⟨old, he⟩, o, ho, c, d⟩ := st
  simp only [List.mem_cons, List.not_mem_nil, or_false] at hb
  rcases hb with rfl | rfl
  ·exact ⟨_, he, fun v z => by cases z⟩
  ·exact ⟨o, ho, fun v z => by rw [d] at z; cases z⟩
 keep := fun i h h' st k => by
  obtain ⟨⟨old, he⟩, hit⟩ := st
  exact ⟨⟨old, k e (by simp) _ he⟩, hit.at fun o q => k it (by simp) o q⟩
 item := by
  intro X hP hw hK hc i pins s σ H E I hf st hg
  subst hP hw hK
  obtain ⟨xs, x, hq, hx⟩ := hg
  obtain ⟨its, rv, p, hz⟩ := I.list hq
  obtain ⟨u, hu, ru⟩ := rv.get hx
  obtain ⟨⟨old, he⟩, hit⟩ := st
  have hel := Heap.lt_size he
  have hil : it < s.heap.objs.size := by obtain ⟨o, ho, _⟩ := id hit; exact Heap.lt_size ho
  refine wpAny_pyNext_enum_item he hit p.isList (x := u) (by simpa using hu) hne fun h' ho hit' hT hsz hk => ?_
  refine ⟨_, rfl, wpAny_letOwnedTupleGo_enum (s := { s with heap := h', toks := s.toks + 1 }) ho fun h'' he'' hs'' => ?_⟩
  obtain ⟨I2, n2⟩ := Zfc (x := x) (tk' := s.toks + 1) I hf hel hil ru hT hk hs''
  exact ⟨.ref s.heap.objs.size, _, I2, rfl, ⟨_, x, rfl, I.hok.fresh (Nat.le_refl _), rfl, fun ys hy => by rw [I.list_inj hy hq]; exact hx⟩, ⟨⟨_, by simpa using he''⟩, hit'.extBut hs''.extBut (Ne.symm hne)⟩, n2⟩
 done := by
  intro X hP hw hK hc i pins s σ H E I hf st hg
  subst hP hw hK
  obtain ⟨xs, hq, hx⟩ := hg
  obtain ⟨its, rv, p, hz⟩ := I.list hq
  obtain ⟨⟨old, he⟩, hit⟩ := st
  have hl := rv.length
  exact wpAny_pyNext_enum_end (I.ok.hd hc) he hit p.isList (by simp; omega) fun h' eb => ⟨rfl, I.turnedL (t' := s.toks) (fun b o hb q => eb b o (fun z => hb (by simp [z])) q) hf⟩
 self := fun _ _ _ _ _ st h => by
  obtain ⟨⟨old, he⟩, _⟩ := st
  exact wpAny_pyIter_enum he h
theorem boot_enumerate : bootBuiltins "enumerate" = some (.type "enumerate") := by decide +kernel
end L3
namespace L3
open PySem PySem.Spec PyProof.Rows L2
open AutoSeq1 (wpAny_loadPart')
set_option maxRecDepth 100000
section
variable {prog : Program} {w : World} {A : Around} {E : Value → Shared → Prop} {s : Shared}
theorem ZdO {it t : Addr} {i : Nat} {items : Array Value} {x : Value} {Q : Value → Shared → Prop} (hit : s.heap.IsTupleIter it t i) (ht : s.heap.IsTuple t items) (hx : items[i]? = some x)
  (hQ : ∀ h', h'.IsTupleIter it t (i + 1) → Heap.SameBut it s.heap h' → Q x { s with heap := h' }) : wpAny (model prog w) A (Builtin.SmallTypes.nextOf (.ref it)) Q E s := by
 obtain ⟨o, ho, hc, hd⟩ := id hit
 obtain ⟨ol, hol, _, nl, hdl⟩ := ht
 unfold Builtin.SmallTypes.nextOf
 refine wpAny_bind (wpAny_callSpecial?_slot (name := Str.ofString "__next__") hit.typeIs slot_tupleiter_next
  (wpAny_call_entry slot_tupleiter_next hit.typeIs entry_tupleiter_next ?_ (args_tupleiter_next _)))
 show wpAny _ _ (field (.ref it) 0 >>= _) _ _ s
 refine wpAny_bind (wpAny_field ho hd (x := .ref t) rfl ?_)
 show wpAny _ _ (if (Value.ref t == Value.none) = true then _ else _) _ _ s
 rw [if_neg (show ¬ ((Value.ref t == Value.none) = true) from Bool.false_ne_true)]
 show wpAny _ _ (field (.ref it) 1 >>= _) _ _ s
 refine wpAny_bind (wpAny_field ho hd (x := .int i 0) rfl ?_)
 show wpAny _ _ (seqItems? (.ref t) >>= _) _ _ s
 refine wpAny_bind (wpAny_seqItems hol hdl ?_)
 simp only [Int.toNat_natCast, hx]
 refine wpAny_bind (wpAny_setField ho hd (by simp) (wpAny_pure ⟨x, rfl, wpAny_pure (hQ _ ?_ (Heap.SameBut.update ..))⟩))
 exact ⟨_, Heap.get?_update_self _ ho (Obj.isFreed_of_fields (Obj.data_mapFields hd _)), (Obj.cls_mapFields ..).trans hc, by
  rw [Obj.data_mapFields hd]; simp [rawInt]⟩
theorem ZcO {it t : Addr} {i : Nat} {items : Array Value} {Q : Value → Shared → Prop} (hh : A.handled = none) (hit : s.heap.IsTupleIter it t i) (ht : s.heap.IsTuple t items) (hx : items[i]? = none)
  (hE : ∀ h' e, Heap.ExtBut it s.heap h' → (∃ o, h'.get? e = some o ∧ o.cls = .type "StopIteration") → E (.ref e) { s with heap := h' }) : wpAny (model prog w) A (Builtin.SmallTypes.nextOf (.ref it)) Q E s := by
 obtain ⟨o, ho, hc, hd⟩ := id hit
 obtain ⟨ol, hol, _, nl, hdl⟩ := ht
 unfold Builtin.SmallTypes.nextOf
 refine wpAny_bind (wpAny_callSpecial?_slot (name := Str.ofString "__next__") hit.typeIs slot_tupleiter_next
  (wpAny_call_entry slot_tupleiter_next hit.typeIs entry_tupleiter_next ?_ (args_tupleiter_next _)))
 show wpAny _ _ (field (.ref it) 0 >>= _) _ _ s
 refine wpAny_bind (wpAny_field ho hd (x := .ref t) rfl ?_)
 show wpAny _ _ (if (Value.ref t == Value.none) = true then _ else _) _ _ s
 rw [if_neg (show ¬ ((Value.ref t == Value.none) = true) from Bool.false_ne_true)]
 show wpAny _ _ (field (.ref it) 1 >>= _) _ _ s
 refine wpAny_bind (wpAny_field ho hd (x := .int i 0) rfl ?_)
 show wpAny _ _ (seqItems? (.ref t) >>= _) _ _ s
 refine wpAny_bind (wpAny_seqItems hol hdl ?_)
 simp only [Int.toNat_natCast, hx]
 refine wpAny_bind (wpAny_rule (wpAny_bind (wpAny_setField ho hd (by simp) ?_)))
 show wpAny _ _ (newExc (.type "StopIteration") [] >>= _) _ _ _
 refine wpAny_bind ?_
 simp only [newExc, newTuple]
 refine wpAny_bind (wpAny_newObj_type ?_ (by size_fits))
 refine wpAny_bind (m := firstArgMember _ _) (wpAny_of_eq (a := Value.none) (by first | rfl | (simp only [firstArgMember]; rfl)) ?_)
 refine wpAny_newObj_type ?_ (by size_fits)
 simp only [raiseNew]
 refine wpAny_bind (wpAny_handled ?_)
 first | rw [show A.in1.handled = none from hh] | rw [hh]
 refine wpAny_bind (wpAny_pure (wpAny_throw ?_))
 exact hE _ _ (((Heap.SameBut.update ..).extBut.push _).push _) ⟨_, Heap.get?_push_size _ rfl, rfl⟩
end
theorem Zf8 {prog : Program} {w : World} {A : Around} (hh : A.handled = none) (it l : Addr) (hne : l ≠ it) (items : Array Value) :
  Draws prog w A it [it, l] items.size (fun i v => items[i]? = some v) (fun i h => h.IsTupleIter it l i ∧ h.IsTuple l items) where
 live := fun _ _ st => let ⟨o, ho, _⟩ := st.1; ⟨o, ho⟩
 frame := fun _ _ _ st hk => ⟨st.1.at fun o e => hk it (by simp) o e, st.2.at fun o e => hk l (by simp) o e⟩
 item := fun i s Q E hi st hQ => by
  refine ZdO st.1 st.2 (x := items[i]) (by simp [hi]) fun h' hit' hs' => ?_
  exact hQ _ h' s.toks (by simp [hi]) ⟨hit', st.2.extBut hs'.extBut hne⟩ hs'
 done := fun s Q E st hE => ZcO hh st.1 st.2 (by simp) hE
theorem Zc1 (l : Addr) (items : Array Value) (n : Nat) (dct : Option Addr) (sl : Array (Option Value)) :
  Meets (Builtin.«enumerate.__new__» ⟨[.type "enumerate", .ref l], []⟩) (fun _ R s => s.heap.get? l = some { cls := .type "tuple", dict := dct, data := .seq items n, slots := sl } ∧
   R (.ok (.ret (.ref (s.heap.push { cls := .type "tuple_iterator", data := .fields #[.ref l, .int 0 0] }).objs.size)))
    { s with heap := (s.heap.push { cls := .type "tuple_iterator", data := .fields #[.ref l, .int 0 0] }).push { cls := .type "enumerate", data := .fields #[.none, .bool false, .ref s.heap.objs.size, rawInt 0, .none, .none] } }) :=
 .of_wp fun prog w A R s h => by
  obtain ⟨hp, g, d, tk, os⟩ := s; obtain ⟨hl, h⟩ := h
  have hsub := sub_enumerate
  have hL : Heap.IsTuple (Shared.heap ⟨hp, g, d, tk, os⟩) l items := ⟨_, hl, rfl, n, rfl⟩
  wp_walk using wpAny_loadPart' hl
  refine wpAny_stack_any fun st => wpAny_pure ?_
  split
  ·rename_i c _ _ _ _ _
   cases (c == Value.type "enumerate")
   ·wp_walk using wpAny_loadPart' hl, wpAny_pyIter_tuple hL
    exact ⟨_, rfl, h⟩
   ·wp_walk using wpAny_loadPart' hl, wpAny_pyIter_tuple hL
    exact ⟨_, rfl, h⟩
  ·wp_walk using wpAny_loadPart' hl, wpAny_pyIter_tuple hL
   exact ⟨_, rfl, h⟩
theorem Zc0 {prog : Program} {w : World} {A : Around} {E : Value → Shared → Prop} {s : Shared} {l : Addr} {items : Array Value} {Q : Value → Shared → Prop} (hL : s.heap.IsTuple l items)
  (h : ∀ h', IsEnum h' (s.heap.objs.size + 1) s.heap.objs.size 0 .none → h'.IsTupleIter s.heap.objs.size l 0 → h'.objs.size = s.heap.objs.size + 2 →
   (∀ b o, s.heap.get? b = some o → h'.get? b = some o) → Q (.ref (s.heap.objs.size + 1)) { s with heap := h' }) :
  wpAny (model prog w) A (call (.type "enumerate") [.ref l]) Q E s := by
 obtain ⟨⟨c, dct, dt, sl⟩, hl, hc, n, hd⟩ := hL
 replace hc : c = .type "tuple" := hc
 replace hd : dt = .seq items n := hd
 subst hc hd
 refine callType_new F.called_enumerate (by decide) (F.typeCall_enumerate_1 _) (F.newCall_enumerate_1 _) (fun obj => F.args_object_init_2 obj _) F.entry_enumerate_new
  (Zc1 l items n dct sl) ⟨hl, ?_⟩
 have hz : (s.heap.push { cls := .type "tuple_iterator", data := .fields #[.ref l, .int 0 0] }).objs.size = s.heap.objs.size + 1 := Heap.size_push ..
 show _ ∧ _
 rw [hz]
 have he : IsEnum ((s.heap.push { cls := .type "tuple_iterator", data := .fields #[.ref l, .int 0 0] }).push
   { cls := .type "enumerate", data := .fields #[.none, .bool false, .ref s.heap.objs.size, rawInt 0, .none, .none] }) (s.heap.objs.size + 1) s.heap.objs.size 0 .none := by
  have := Heap.get?_push_size (s.heap.push { cls := .type "tuple_iterator", data := .fields #[.ref l, .int 0 0] })
   (o := { cls := .type "enumerate", data := .fields #[.none, .bool false, .ref s.heap.objs.size, rawInt 0, .none, .none] }) rfl
  rw [hz] at this; exact this
 refine ⟨⟨_, he, rfl⟩, h _ he ⟨_, Heap.get?_push_of_some _ (Heap.get?_push_size _ rfl), rfl, rfl⟩ (by rw [Heap.size_push, hz]) fun b o x => Heap.get?_push_of_some _ (Heap.get?_push_of_some _ x)⟩
theorem ZgJ {P : Program} {w : World} {K : PySem.W.Frag} {es : List Expr} {k : Nat} {pos : Pos} (a e it : Addr) (hne : e ≠ it) :
  Turn P w K (.Tuple es k pos) (Ite fun H xs => SqT K H a xs) [e, it] e (fun i h => (∃ old, IsEnum h e it i old) ∧ h.IsTupleIter it a i) where
 mem := by simp
 obj := fun i h st b hb => by
  obtain ⟨⟨old, he⟩, o, ho, c, d⟩ := st
  simp only [List.mem_cons, List.not_mem_nil, or_false] at hb
  rcases hb with rfl | rfl
  ·exact ⟨_, he, fun v z => by cases z⟩
  ·exact ⟨o, ho, fun v z => by rw [d] at z; cases z⟩
 keep := fun i h h' st k => by
  obtain ⟨⟨old, he⟩, hit⟩ := st
  exact ⟨⟨old, k e (by simp) _ he⟩, hit.at fun o q => k it (by simp) o q⟩
 item := by
  intro X hP hw hK hc i pins s σ H E I hf st hg
  subst hP hw hK
  obtain ⟨xs, x, hq, hx⟩ := hg
  obtain ⟨its, rv, p, hz⟩ := I.tuple hq
  obtain ⟨u, hu, ru⟩ := rv.get hx
  obtain ⟨⟨old, he⟩, hit⟩ := st
  have hel := Heap.lt_size he
  have hil : it < s.heap.objs.size := by obtain ⟨o, ho, _⟩ := id hit; exact Heap.lt_size ho
  have pt : s.heap.IsTuple a its.toArray := p
  have hae : e ≠ a := by
   rintro rfl
   obtain ⟨o, ho, hc, _⟩ := pt
   rw [he] at ho; cases ho
   exact absurd hc (by simp)
  have hai : a ≠ it := by
   rintro rfl
   obtain ⟨o, ho, hc, _⟩ := pt
   obtain ⟨o', ho', hc', _⟩ := hit
   rw [ho'] at ho; cases ho
   rw [hc'] at hc
   exact absurd hc (by simp)
  have D := Zf8 (prog := X.prog) (w := X.w) (A := X.A.in1) (I.ok.hd hc) it a hai its.toArray
  refine wpAny_pyNext_enum_itemD D he ⟨hit, pt⟩ (by simpa using (List.getElem?_eq_some_iff.mp hu).1) hne (by simp [hne, hae]) fun y h' tk hy ho hst hT hsz hk => ?_
  have ey : y = u := by
   have : its.toArray[i]? = some u := by simpa using hu
   rw [this] at hy; cases hy; rfl
  subst ey
  refine ⟨_, rfl, wpAny_letOwnedTupleGo_enum (s := { s with heap := h', toks := tk + 1 }) ho fun h'' he'' hs'' => ?_⟩
  obtain ⟨I2, n2⟩ := Zfc (x := x) (tk' := tk + 1) I hf hel hil ru hT hk hs''
  exact ⟨.ref s.heap.objs.size, _, I2, rfl, ⟨_, x, rfl, I.hok.fresh (Nat.le_refl _), rfl, fun ys hy => by rw [I.tuple_inj hy hq]; exact hx⟩, ⟨⟨_, by simpa using he''⟩, hst.1.extBut hs''.extBut (Ne.symm hne)⟩, n2⟩
 done := by
  intro X hP hw hK hc i pins s σ H E I hf st hg
  subst hP hw hK
  obtain ⟨xs, hq, hx⟩ := hg
  obtain ⟨its, rv, p, hz⟩ := I.tuple hq
  obtain ⟨⟨old, he⟩, hit⟩ := st
  have hl := rv.length
  have pt : s.heap.IsTuple a its.toArray := p
  have hT : s.TypeIs (.ref e) "enumerate" := ⟨_, he, rfl⟩
  unfold pyNext
  refine wpAny_bind (wpAny_attempt (wpAny_callSpecial?_slot (name := Str.ofString "__next__") hT F.slot_enumerate_next
   (wpAny_call_entry F.slot_enumerate_next hT F.entry_enumerate_next ?_ (F.args_enumerate_next_1 _))))
  show wpAny _ _ (field (.ref e) 2 >>= _) _ _ _
  refine wpAny_bind (wpAny_field he rfl (x := .ref it) rfl ?_)
  refine wpAny_bind (ZcO (I.ok.hd hc) hit pt (by simp; omega) fun h' x he' hx' => ?_)
  obtain ⟨o, ho, hc⟩ := hx'
  refine wpAny_bind (wpAny_isInstance (T := "StopIteration") (b := true) ⟨o, ho, hc⟩ isSubtype_stop ?_)
  exact wpAny_pure ⟨rfl, I.turnedL (t' := s.toks) (fun b o hb q => he' b o (fun z => hb (by simp [z])) q) hf⟩
 self := fun _ _ _ _ _ st h => by
  obtain ⟨⟨old, he⟩, _⟩ := st
  exact wpAny_pyIter_enum he h
section
variable {X : Cx} {es : List Expr} {k : Nat} {a : Expr} {p pos tpos : Pos} {f : E3}
def ZkN (K : PySem.W.Frag) (ta : TA) : TI := fun σ H R => ta σ H fun vs H1 => ∃ b, vs = [.ref b] ∧ ((∃ xs, SqL K H1 b xs ∧ R (Ite fun H xs => SqL K H b xs) H1) ∨ ∃ xs, SqT K H1 b xs ∧ R (Ite fun H xs => SqT K H b xs) H1)
theorem Zjh {ta : TA} (hg : Gl X "enumerate") (hm : X.mg "enumerate" = none) (ha : PA X [a] ta) (hs : starEach [a] X.env = [(false, eval a X.env)] := by rfl) : PI X (.Tuple es k tpos) (.Call (.Name "enumerate" p) [a] [] pos) (ZkN X.K ta) := by
 intro pins s σ H R I h
 refine Call_ (Zdr I hg hm boot_enumerate (PyProof.Rows.callWith_type1 (thn (ha pos pins s σ H _ I h) fun us s1 ⟨vs, H1, I1, r1, q1⟩ => ?_) hs rfl))
 obtain ⟨b, e, q⟩ := q1
 subst e
 cases r1 with
 | cons r rr =>
  cases rr
  cases r
  have fp : ∀ {h' : Heap} {s2 : Shared}, ∀ c ∈ [s1.heap.objs.size + 1, s1.heap.objs.size], ZdN X pins H1 c := fun {h' s2} c hc => by
   have hc' : s1.heap.objs.size ≤ c := by
    simp only [List.mem_cons, List.not_mem_nil, or_false] at hc
    rcases hc with rfl | rfl <;> omega
   exact I1.fpOk hc' (I1.hok.fresh hc')
  rcases q with ⟨xs, hq, q⟩ | ⟨xs, hq, q⟩
  ·obtain ⟨its, rv, pl, hz⟩ := I1.list hq
   refine call_enumerate_list pl.isList fun h' hE hI hsz hk => ?_
   have I2 : Inv X pins σ H1 { s1 with heap := h' } := I1.kept (t' := s1.toks) hk
   exact wpAny_pyIter_enum (s := { s1 with heap := h' }) hE ⟨_, [s1.heap.objs.size + 1, s1.heap.objs.size], _, _, H1, rfl, I2, Zgq b _ _ (Nat.succ_ne_self _), ⟨⟨_, hE⟩, hI⟩, fp (h' := h') (s2 := s1), q⟩
  ·obtain ⟨its, rv, pl, hz⟩ := I1.tuple hq
   refine Zc0 (show s1.heap.IsTuple b its.toArray from pl) fun h' hE hI hsz hk => ?_
   have I2 : Inv X pins σ H1 { s1 with heap := h' } := I1.kept (t' := s1.toks) hk
   exact wpAny_pyIter_enum (s := { s1 with heap := h' }) hE ⟨_, [s1.heap.objs.size + 1, s1.heap.objs.size], _, _, H1, rfl, I2, ZgJ b _ _ (Nat.succ_ne_self _), ⟨⟨_, hE⟩, hI⟩, fp (h' := h') (s2 := s1), q⟩
theorem ZjI (hm : X.mg "enumerate" = none) (h : C3 X a f) (hg : Gl X "enumerate" := by rfl) (hs : starEach [a] X.env = [(false, eval a X.env)] := by rfl) (hs' : starEach (a :: []) X.env = (false, eval a X.env) :: starEach [] X.env := by rfl) : CIL X (.Tuple es k tpos) (.Call (.Name "enumerate" p) [a] [] pos) (ZiZ f) :=
 PI.imp (Zjh hg hm (Zc h Zn hs') hs) fun σ H R ⟨ι, M, env, S, E, h⟩ => by
  obtain ⟨d, M1, e1, h⟩ := Zf5.bind h
  refine ⟨ι, M, env, S, E, ?_⟩
  have e2 : Za f Zj env M = .ok [d] M1 := by unfold Za; rw [e1]; rfl
  rw [e2]
  intro vs H1 ι1 x1 S1 r1
  obtain ⟨v, ws, rfl, r, q⟩ := r1.cons_inv
  have := q.nil_inv
  subst this
  cases d with
  | tup ds =>
   obtain ⟨b, vs, rfl, s, r⟩ := r.tup_inv
   refine ⟨b, rfl, .inr ⟨vs, s, h _ H1 ι1 x1 S1 ?_⟩⟩
   intro i H2 ι2 M2 x S2 _
   refine ⟨fun d hd => ?_, fun hl => ⟨vs, x.tup _ _ s, by rw [r.length, hl, ZdU]; exact Nat.le_refl _⟩⟩
   rw [ZdV] at hd
   cases hq : ds[i]? with
   | none => rw [hq] at hd; cases hd
   | some d0 =>
    rw [hq] at hd
    simp only [Option.map_some, Nat.zero_add, Option.some.injEq] at hd
    subst hd
    obtain ⟨v, hv, rv⟩ := r.get hq
    refine ⟨⟨vs, v, x.tup _ _ s, hv⟩, fun y H3 hy => ?_⟩
    obtain ⟨T, y', rfl, hT, rfl, hall⟩ := hy
    have e := hall vs (x.tup _ _ s)
    rw [hv] at e
    cases e
    exact S2.tupl hT (Zv.cons Rep.int (Zv.cons (rv.mono x) Zv.nil))
  | ref n =>
   cases hm : M1[n]? with
   | none => simp only [hm] at h; exact h.elim
   | some o =>
    cases o with
    | dct kvs => simp only [hm] at h; exact h.elim
    | fdct kvs => simp only [hm] at h; exact h.elim
    | lst ds =>
     simp only [hm] at h
     obtain ⟨b, ha, rfl⟩ := r.ref_inv
     obtain ⟨vs, q, r⟩ := S1.obj n _ b hm ha
     refine ⟨b, rfl, .inl ⟨vs, SqL.of q, h _ H1 ι1 x1 S1 ?_⟩⟩
     intro i H2 ι2 M2 x S2 lk
     have lk' : M2[n]? = some (.lst ds) := by simpa [Zcj] using lk
     obtain ⟨vs2, q2, r2⟩ := S2.obj n _ b lk' (x.pre _ _ ha)
     refine ⟨fun d hd => ?_, fun hl => ⟨vs2, SqL.of q2, by rw [r2.length, hl, ZdU]; exact Nat.le_refl _⟩⟩
     rw [ZdV] at hd
     cases hq : ds[i]? with
     | none => rw [hq] at hd; cases hd
     | some d0 =>
      rw [hq] at hd
      simp only [Option.map_some, Nat.zero_add, Option.some.injEq] at hd
      subst hd
      obtain ⟨v, hv, rv⟩ := r2.get hq
      refine ⟨⟨vs2, v, SqL.of q2, hv⟩, fun y H3 hy => ?_⟩
      obtain ⟨T, y', rfl, hT, rfl, hall⟩ := hy
      have e := hall vs2 (SqL.of q2)
      rw [hv] at e
      cases e
      exact S2.tupl hT (Zv.cons Rep.int (Zv.cons rv Zv.nil))
  | _ => exact h.elim
end
end L3
namespace L3
open PySem PySem.Spec PyProof.Rows L2
open AutoSeq1 (wpAny_loadPart')
open PySem.SeqAt MeetsSeq
set_option maxRecDepth 100000
end L3
namespace L3
open PySem PySem.Spec PyProof.Rows L2
section
variable {X : Cx} {o i p j e : Expr} {pos : Pos} {f g h fo fi fp fj : E3}
end
end L3
namespace L3
open PySem PySem.Spec PyProof.Rows L2
section
variable {X : Cx}
def ofV : Value → D
 | .int i _ => .int i
 | .bool b => .bl b
 | .str x _ => .str x.cps.toList
 | _ => .non
theorem Zhb {K : PySem.W.Frag} {H : Hp} {ι : List Addr} {d : D} {v : V} {y : Value} (hf : Zac d = true) (r : Rep K H ι d v) (rv : RelV v y) : ofV y = d := by
 cases d with
 | non => have := r.non_inv; subst this; cases rv; rfl
 | bl b => have := r.bl_inv; subst this; cases rv; rfl
 | int i => have := r.int_inv; subst this; obtain ⟨t, rfl⟩ := rv; rfl
 | str x => have := r.str_inv; subst this; obtain ⟨t, rfl⟩ := rv; rfl
 | _ => simp [Zac] at hf
theorem Zg7 {K : PySem.W.Frag} {H : Hp} {ι : List Addr} {a : D} : ∀ {ds : List D} {vs : List V} {its : List Value}, Zv K H ι ds vs → Vals vs its → ds.all Zac = true → (ds.any fun y => deq y a) = its.any fun y => deq (ofV y) a
 | [], vs, its, r, rv, _ => by
  have := r.nil_inv
  subst this
  cases rv
  rfl
 | d :: ds, vs, its, r, rv, hf => by
  obtain ⟨v, ws, rfl, r1, r2⟩ := r.cons_inv
  cases rv with
  | cons q rv =>
   simp only [List.all_cons, Bool.and_eq_true] at hf
   simp only [List.any_cons, Zg7 r2 rv hf.2, Zhb hf.1 r1 q]
theorem Zkj : OpR X (compareOp .In) (r2 X.K Zfa) := by
 intro pins s σ H x y v u Q I rx ry ⟨ι, M, a, b, S, ra, rb, h⟩
 unfold Zfa at h
 cases b with
 | ref n =>
  cases hn : M[n]? with
  | none => simp only [hn] at h; exact h.elim
  | some ob =>
   cases ob with
   | dct _ => simp only [hn] at h; exact h.elim
   | fdct _ => simp only [hn] at h; exact h.elim
   | lst ds =>
    simp only [hn] at h
    by_cases hf : (Zac a && ds.all Zac) = true
    ·rw [if_pos hf] at h
     rw [Bool.and_eq_true] at hf
     obtain ⟨p, hp, rfl⟩ := rb.ref_inv
     cases ry
     obtain ⟨vs, e1, r1⟩ := S.obj n _ p hn hp
     obtain ⟨its, rvs, pl, _⟩ := I.list (SqL.of e1)
     have he : ∀ y, y ∈ its.toArray → SeqAt.EqAt X.A.in1 s y v (deq (ofV y) a) := fun y hy => by
      have hy : y ∈ its := by simpa using hy
      obtain ⟨j, hj⟩ := List.getElem?_of_mem hy
      have hjl : j < vs.length := by rw [rvs.length]; exact (List.getElem?_eq_some_iff.mp hj).1
      obtain ⟨w, hw, rw'⟩ := rvs.get (List.getElem?_eq_getElem hjl)
      rw [hj] at hw; cases hw
      have hjd : j < ds.length := by rw [← r1.length]; exact hjl
      obtain ⟨z, hz, rz⟩ := r1.get (List.getElem?_eq_getElem hjd)
      rw [List.getElem?_eq_getElem hjl] at hz; cases hz
      have hfl := List.all_eq_true.mp hf.2 _ (List.getElem_mem hjd)
      rw [Zhb hfl rz rw']
      exact Zco X.A.in1 ds[j] a _ x y v hfl hf.1 rz ra rw' rx
     refine SeqAt.in_listAt (fun y => deq (ofV y) a) pl.isList he ⟨.bl (ds.any fun y => deq y a), H, I, ?_, h _ H ι Ext.refl S Rep.bl⟩
     show (.bool _ : Value) = .bool _
     rw [Zg7 r1 rvs hf.2]
     simp
    ·rw [if_neg hf] at h; exact h.elim
 | _ => exact h.elim
end
end L3
namespace L3
open PySem PySem.Spec PyProof.Rows L2
section
variable {prog : Program} {w : World} {A : Around} {E : Value → Shared → Prop} {s : Shared}
end
section
variable {X : Cx} {e : Expr} {es : List Expr} {pos : Pos} {f : E3}
end
end L3
namespace L3
open PySem PySem.Spec PyProof.Rows L2
theorem rangeSize_pos {a b c : Int} (hc : 0 < c) : Builtin.Range.rangeSize a b c = ((Zb4 a b c : Nat) : Int) := by
 unfold Builtin.Range.rangeSize Zb4
 rw [if_pos hc]
 split
 ·have : 0 ≤ (b - a - 1) / c := Int.ediv_nonneg (by omega) (by omega)
  omega
 ·rfl
theorem ZhO {a b c : Int} (hc : 0 < c) (h : c ≤ 1000 ∧ -1000000 ≤ a ∧ a ≤ 1000000 ∧ -1000000 ≤ b ∧ b ≤ 1000000) : Builtin.Range.small a b c = true ∧ Zb4 a b c ≤ 2000001 := by
 have hn : Zb4 a b c ≤ 2000001 := by
  unfold Zb4
  split
  ·have h1 : (b - a - 1) / c ≤ b - a - 1 := Int.ediv_le_self _ (by omega)
   omega
  ·omega
 refine ⟨?_, hn⟩
 have r := rangeSize_pos (a := a) (b := b) hc
 unfold Builtin.Range.small
 rw [r, if_pos hc]
 have fl : ∀ x : Int, -10000000 ≤ x → x ≤ 10000000 → Builtin.Range.rangeFitsLong x = true := fun x h1 h2 => by
  unfold Builtin.Range.rangeFitsLong
  simp only [Bool.and_eq_true, decide_eq_true_eq]
  omega
 rw [fl a (by omega) (by omega), fl b (by omega) (by omega), fl c (by omega) (by omega), fl ((Zb4 a b c : Nat) : Int) (by omega) (by omega), fl (b + (c - 1)) (by omega) (by omega)]
 simp
section
variable {X : Cx} {a b c : Expr} {p p2 pos pos2 : Pos} {f g h : E3}
theorem ZfH (hcalm : X.calm = true) (hml : X.mg "list" = none) (hmr : X.mg "range" = none) (ha : C3 X a f) (hb : C3 X b g) (hc : C3 X c h) (hgl : Gl X "list" := by rfl) (hgr : Gl X "range" := by rfl)
  (hs : starEach [.Call (.Name "range" p2) [a, b, c] [] pos2] X.env = [(false, eval (.Call (.Name "range" p2) [a, b, c] [] pos2) X.env)] := by rfl)
  (h1 : starEach (a :: [b, c]) X.env = (false, eval a X.env) :: starEach [b, c] X.env := by rfl) (h2 : starEach (b :: [c]) X.env = (false, eval b X.env) :: starEach [c] X.env := by rfl) (h3 : starEach (c :: []) X.env = (false, eval c X.env) :: starEach [] X.env := by rfl)
  (hp : (backTo pos2 (starEach [b, c] X.env)).any (·.1) = false := by rfl) :
  C3 X (.Call (.Name "list" p) [.Call (.Name "range" p2) [a, b, c] [] pos2] [] pos) (ZiX f g h) := by
 intro pins s σ H Q I ⟨ι, M, env, S, E, hq⟩
 obtain ⟨x, M1, e1, hq⟩ := Zae.bind hq
 obtain ⟨y, M2, e2, hq⟩ := Zae.bind hq
 obtain ⟨z, M3, e3, hq⟩ := Zae.bind hq
 have main : ∀ i j k : Int, x = .int i → y = .int j → z = .int k → wpAny (model X.prog X.w) X.A (eval (.Call (.Name "list" p) [.Call (.Name "range" p2) [a, b, c] [] pos2] [] pos) X.env) (EP X pins σ Q) X.xe s := by
  intro i j k hx hy hzz
  subst hx hy hzz
  simp only [] at hq
  by_cases hz : 0 < k ∧ k ≤ 1000 ∧ -1000000 ≤ i ∧ i ≤ 1000000 ∧ -1000000 ≤ j ∧ j ≤ 1000000
  ·rw [if_pos hz] at hq
   obtain ⟨hk, hz⟩ := hz
   obtain ⟨sm, hn⟩ := ZhO hk hz
   refine Call_ (Zdr I hgl hml Zju (PyProof.Rows.callWith_type1 ?_ hs rfl))
   rw [hs]
   show wpAny _ _ (spliced [(false, eval (.Call (.Name "range" p2) [a, b, c] [] pos2) X.env)]) _ _ s
   refine Calls.spliced_cons ?_
   have ea : Za f (Za g (Za h Zj)) env M = .ok [.int i, .int j, .int k] M3 := by
    unfold Za; rw [e1]; simp only [R3.bind]; rw [e2]; simp only []; rw [e3]; rfl
   have ca := Zc ha (Zc hb (Zc hc Zn h3) h2) h1
   refine Call_ (Zdr I hgr hmr boot_range (PyProof.Rows.callWith_type1 (thn (ca pos2 pins s σ H (fun vs H' => ∃ ι', Ext X.K H ι H' ι' ∧ Zal X.K H' ι' M3 ∧ Zv X.K H' ι' [.int i, .int j, .int k] vs) I ⟨ι, M, env, S, E, by rw [ea]; exact fun vs H' ι' x S' r => ⟨ι', x, S', r⟩⟩) fun us s1 ⟨vs, H1, I1, r1, ι1, x1, S1, rl⟩ => ?_) h1 hp))
   obtain ⟨v1, ws, rfl, q1, rl⟩ := rl.cons_inv
   obtain ⟨v2, ws, rfl, q2, rl⟩ := rl.cons_inv
   obtain ⟨v3, ws, rfl, q3, rl⟩ := rl.cons_inv
   have := rl.nil_inv
   subst this
   have y1 := q1.int_inv
   have y2 := q2.int_inv
   have y3 := q3.int_inv
   subst y1 y2 y3
   cases r1 with
   | cons r rr =>
    cases rr with
    | cons r' rr =>
     cases rr with
     | cons r'' rr =>
      cases rr
      obtain ⟨t, rfl⟩ := r
      obtain ⟨t', rfl⟩ := r'
      obtain ⟨t'', rfl⟩ := r''
      refine call_range_3 (by omega) ?_ (.inl (PyProof.noPylong_small (by omega)))
      refine Calls.spliced_nil ?_
      have I2 : Inv X pins σ H1 { s1 with heap := s1.heap.push { cls := .type "range", data := .fields #[.int i t, .int j t', .int k t''] }, toks := s1.toks } := I1.kept fun b o e => Heap.get?_push_of_some _ e
      refine call_list_range (n := Zb4 i j k) (I2.ok.hd hcalm) (show IsRange _ s1.heap.objs.size i j k t t' t'' from Heap.get?_push_size _ rfl) sm (rangeSize_pos hk) (by omega) fun h' tk acc' c' kp hS hI => ?_
      have hlen : acc'.toList.length = Zb4 i j k := by simpa using hI.1
      have vals : ∀ (n : Nat) (l : List Value) (m : Nat), l.length = n → (∀ q v, l[q]? = some v → ∃ t, v = Value.int (i + ((m + q : Nat) : Int) * k) t) → Vals ((List.range' m n).map fun (q : Nat) => V.int (i + (q : Int) * k)) l := by
       intro n
       induction n with
       | zero => intro l m hl _; cases l with | nil => exact .nil | cons _ _ => cases hl
       | succ n ih =>
        intro l m hl hv
        cases l with
        | nil => cases hl
        | cons v l =>
         rw [List.range'_succ, List.map_cons]
         obtain ⟨t, e⟩ := hv 0 v rfl
         refine .cons ⟨t, by simpa using e⟩ (ih l (m + 1) (by simpa using hl) fun q w hw => ?_)
         obtain ⟨t, e⟩ := hv (q + 1) w (by simpa using hw)
         exact ⟨t, by rw [show m + 1 + q = m + (q + 1) by omega]; exact e⟩
      have rv := vals (Zb4 i j k) acc'.toList 0 hlen fun q v hv => by
       have := hI.2 q v (by simpa using hv)
       simpa using this
      have rep : ∀ {H' : Hp} {ι' : List Addr} (m n : Nat), Zv X.K H' ι' ((List.range' m n).map fun (q : Nat) => D.int (i + (q : Int) * k)) ((List.range' m n).map fun (q : Nat) => V.int (i + (q : Int) * k)) := by
       intro H' ι' m n
       induction n generalizing m with
       | zero => exact Zv.nil
       | succ n ih => rw [List.range'_succ, List.map_cons, List.map_cons]; exact Zv.cons Rep.int (ih (m + 1))
      have hfr : H1 (s1.heap.objs.size + 1) = none := I1.hok.fresh (Nat.le_succ _)
      have hsz : (s1.heap.push { cls := .type "range", data := .fields #[Value.int i t, .int j t', .int k t''] }).objs.size = s1.heap.objs.size + 1 := Heap.size_push ..
      rw [show ({ s1 with heap := s1.heap.push { cls := .type "range", data := .fields #[.int i t, .int j t', .int k t''] }, toks := s1.toks } : Shared).heap.objs.size = s1.heap.objs.size + 1 from hsz] at hS ⊢
      have I3 : Inv X pins σ (upd H1 (s1.heap.objs.size + 1) (.lst ((List.range' 0 (Zb4 i j k)).map fun (q : Nat) => V.int (i + (q : Int) * k)))) { s1 with heap := h', toks := tk } :=
       I2.laid (t' := tk) kp (by rw [show ({ s1 with heap := s1.heap.push { cls := .type "range", data := .fields #[.int i t, .int j t', .int k t''] }, toks := s1.toks } : Shared).heap.objs.size = s1.heap.objs.size + 1 from hsz]; exact Nat.le_refl _) (show Zba X.prog X.w _ h' _ (.lst _) from ⟨by rw [List.length_map, List.length_range', sizeLine_eq]; omega, acc'.toList, c', rv, by simpa using hS⟩)
      obtain ⟨x4, S4, r4⟩ := S1.lst hfr (rep (H' := H1) (ι' := ι1) 0 (Zb4 i j k))
      refine ⟨.ref (s1.heap.objs.size + 1), _, I3, rfl, hq _ _ _ (x1.trans x4) ?_ ?_⟩
      ·have : Zdx i k (Zb4 i j k) = (List.range' 0 (Zb4 i j k)).map fun (q : Nat) => D.int (i + (q : Int) * k) := by unfold Zdx; rw [List.range_eq_range']
       rw [this]; exact S4
      ·exact r4
  ·rw [if_neg hz] at hq; exact hq.elim
 cases x with
 | int i =>
  cases y with
  | int j =>
   cases z with
   | int k => exact main i j k rfl rfl rfl
   | _ => exact hq.elim
  | _ => exact hq.elim
 | _ => exact hq.elim
end
end L3
set_option maxHeartbeats 400000
namespace Law
open PySem L3
noncomputable section
def Zb0 : S3 := Zaa (sIf (e2 ZaU (e2 Zo (Zb 0) (eC (.int 0))) (eC (.str [106, 117, 109, 112]))) (Zam (e2 Zo (Zb 0) (eC (.int 1)))) (Zad)) (Zaa (sIf (Zc9 (e2 ZaU (e2 Zo (Zb 0) (eC (.int 0))) (eC (.str [119, 104, 101, 110]))) (e2 ZgU (e2 Zo (Zb 2) (e2 Zo (Zb 0) (eC (.int 1)))) (eC (.int 0)))) (Zam (e2 Zo (Zb 0) (eC (.int 2)))) (Zad)) (Zam (e2 Zx (Zb 1) (eC (.int 1)))))
def ZaT : F3 := mkF 3 3 Zb0
def Zc3 : S3 := Zaa (sIf (e2 ZaU (Zb 0) (eC (.str [97, 100, 100]))) (Zam (e2 Zx (Zb 1) (Zb 2))) (Zad)) (Zaa (sIf (e2 ZaU (Zb 0) (eC (.str [115, 117, 98]))) (Zam (e2 Zce (Zb 1) (Zb 2))) (Zad)) (Zam (eIf (e2 ZgU (Zb 1) (Zb 2)) (eC (.int 1)) (eC (.int 0)))))
def ZbJ : F3 := mkF 3 3 Zc3
def ZeI : S3 := Zam (e2 Zx (e2 Zx (eSl (Zb 0) (ZaB) (ZaC (Zb 1))) (Za4 (Za (Zb 2) (Zj)))) (eSl (Zb 0) (ZaC (e2 Zx (Zb 1) (eC (.int 1)))) (ZaB)))
def Za2 : F3 := mkF 3 3 ZeI
def ZdJ : S3 := Zam (Zcy Zh0 ZiD (ZaQ ZdY (Za (Zb 0) (Zj))) (Za (Zb 1) (Za (eC (.int 0)) (Zj))))
def ZbD : F3 := mkF 2 2 ZdJ
def ZcW : S3 := Zaa (Zah 3 (e2 Zo (Zb 0) (eC (.int 0)))) (Zaa (sIf (e2 ZaU (Zb 3) (eC (.str [112, 117, 116]))) (Zam (Zw Za2 (Za (Zb 1) (Za (e2 Zo (Zb 0) (eC (.int 1))) (Za (e2 Zo (Zb 0) (eC (.int 2))) (Zj)))))) (Zad)) (Zaa (sIf (e2 ZaU (Zb 3) (eC (.str [103, 101, 116]))) (Zam (Zw Za2 (Za (Zb 1) (Za (e2 Zo (Zb 0) (eC (.int 1))) (Za (Zw ZbD (Za (Zb 2) (Za (e2 Zo (Zb 1) (e2 Zo (Zb 0) (eC (.int 2)))) (Zj)))) (Zj)))))) (Zad)) (Zaa (sIf (e2 Zl0 (Zb 3) (Za4 (Za (eC (.str [97, 100, 100])) (Za (eC (.str [115, 117, 98])) (Za (eC (.str [109, 111, 114, 101])) (Zj)))))) (Zam (Zw Za2 (Za (Zb 1) (Za (e2 Zo (Zb 0) (eC (.int 1))) (Za (Zw ZbJ (Za (Zb 3) (Za (e2 Zo (Zb 1) (e2 Zo (Zb 0) (eC (.int 2)))) (Za (e2 Zo (Zb 1) (e2 Zo (Zb 0) (eC (.int 3)))) (Zj))))) (Zj)))))) (Zad)) (Zam (Zb 1)))))
def Zcm : F3 := mkF 3 4 ZcW
def Zc7 : S3 := Zam (Zc9 (e2 ZkK (Zb 0) (eC (.int 0))) (e2 ZhM (Zb 0) (Zb 1)))
def ZbS : F3 := mkF 2 2 Zc7
def Zf7 : S3 := Zam (eIf (Zw ZbS (Za (Zb 1) (Za (ZaQ Zbe (Za (Zb 0) (Zj))) (Zj)))) (e2 Zo (Zb 0) (Zb 1)) (eC .non))
def ZdM : F3 := mkF 2 2 Zf7
def Zc6 : S3 := Zaa (sIf (e2 ZaU (e2 Zo (Zb 0) (eC (.int 0))) (eC (.str [103, 101, 116]))) (Zam (Zw Za2 (Za (Zb 1) (Za (e2 Zo (Zb 0) (eC (.int 1))) (Za (e2 Zo (Zb 2) (e2 Zo (Zb 0) (eC (.int 1)))) (Zj)))))) (Zad)) (Zam (Zw Zcm (Za (Zb 0) (Za (Zb 1) (Za (Za4 (Zj)) (Zj))))))
def ZaV : F3 := mkF 3 3 Zc6
def Zd5 : S3 := Zaa (Zah 3 (e2 Zo (Zb 1) (eC (.int 0)))) (Zaa (Zah 4 (e2 Zo (Zb 1) (eC (.int 1)))) (Zaa (Zah 5 (Zw ZdM (Za (Zb 0) (Za (Zb 3) (Zj))))) (Zaa (sIf (eOr (e2 ZjA (Zb 5) (eC .non)) (e2 ZaU (e2 Zo (Zb 5) (eC (.int 0))) (eC (.str [104, 97, 108, 116])))) (Zam (eC (.bl false))) (Zad)) (Zam (e2 ZaU (Zb 2) (Za4 (Za (Zw ZaT (Za (Zb 5) (Za (Zb 3) (Za (Zb 4) (Zj))))) (Za (Zw ZaV (Za (Zb 5) (Za (Zb 4) (Za (e2 Zo (Zb 2) (eC (.int 1))) (Zj))))) (Zj)))))))))
def Zca : F3 := mkF 3 6 Zd5
def Zcv : S3 := Zaa (Ze3 (ZbZ (e2 Zce (ZaQ Zbe (Za (Zb 1) (Zj))) (eC (.int 1)))) (ZcP 2) (sIf (e1 ZcI (Zw Zca (Za (Zb 0) (Za (e2 Zo (Zb 1) (Zb 2)) (Za (e2 Zo (Zb 1) (e2 Zx (Zb 2) (eC (.int 1)))) (Zj)))))) (Zam (Zb 2)) (Zad))) (Zam (eC .non))
def Zbf : F3 := mkF 2 3 Zcv
def Zdo : S3 := Zam (Zw Zbf (Za (Zb 0) (Za (Zb 1) (Zj))))
def ZaF : F3 := mkF 2 2 Zdo
def ZbN : S3 := Zaa (Zah 1 (e2 Zo (Zb 0) (eC (.int 0)))) (Zaa (Zah 2 (e2 Zo (Zb 0) (eC (.int 1)))) (Zaa (Zf2 (Zb 0) (eC (.int 1)) (e2 Zx (Zb 2) (eC (.int 1)))) (Zaa (sIf (e2 ZhM (Zb 2) (ZaQ Zbe (Za (Zb 1) (Zj)))) (Zam (e2 Zo (Zb 1) (Zb 2))) (Zad)) (Zaa (sIf (e2 ZaU (ZaQ Zbe (Za (Zb 1) (Zj))) (eC (.int 0))) (Zam (e2 Zx (e2 ZeO (e2 ZeO (Zb 2) (Zb 2)) (eC (.int 3))) (Zb 2))) (Zad)) (Zam (e2 Zx (e2 Zaz (e2 Zo (Zb 1) (e2 Zan (Zb 2) (ZaQ Zbe (Za (Zb 1) (Zj))))) (eC (.int 2))) (e2 ZeO (Zb 2) (Zb 2))))))))
def Zab : F3 := mkF 1 3 ZbN
def Zda : S3 := Zaa (Zah 1 (Zb9 (Zj))) (Zaa (Zg2 (ZiZ (Zb 0)) (Zdn [2, 3]) (Zaa (Zah 4 (e2 Zo (Zb9 (Za (eC (.str [112, 117, 116])) (Za (eC (.str [97, 100, 100])) (Za (eC (.str [115, 117, 98])) (Za (eC (.str [109, 111, 114, 101])) (Za (eC (.str [103, 101, 116])) (Za (eC (.str [115, 101, 116])) (Za (eC (.str [119, 104, 101, 110])) (Za (eC (.str [106, 117, 109, 112])) (Za (eC (.str [116, 101, 108, 108])) (Za (eC (.str [112, 117, 116])) (Zj)))))))))))) (e2 Zan (Zb 3) (eC (.int 10))))) (Zaa (Zah 5 (e2 Zaz (Zb 3) (eC (.int 10)))) (Zaa (Zah 6 (e2 Zan (Zb 5) (eC (.int 8)))) (Zaa (Zah 7 (e2 Zan (e2 Zaz (Zb 5) (eC (.int 8))) (eC (.int 8)))) (Zaa (Zah 8 (e2 Zan (e2 Zaz (Zb 5) (eC (.int 64))) (eC (.int 8)))) (Zaa (Zah 9 (e2 Zx (e2 Zx (Zb 2) (eC (.int 1))) (e2 Zan (e2 Zaz (Zb 5) (eC (.int 512))) (e2 Zce (ZaQ Zbe (Za (Zb 0) (Zj))) (Zb 2))))) (Zaa (sIf (e2 ZaU (e2 Zan (e2 Zaz (Zb 5) (eC (.int 5))) (eC (.int 4))) (eC (.int 1))) (Zah 9 (e2 Zan (e2 Zaz (Zb 5) (eC (.int 512))) (e2 Zx (ZaQ Zbe (Za (Zb 0) (Zj))) (eC (.int 1))))) (Zad)) (sIf (e2 ZaU (Zb 4) (eC (.str [112, 117, 116]))) (Zaq (Zcy tyL ZaS (Zb 1) (Za (Za4 (Za (Zb 4) (Za (Zb 6) (Za (e2 Zo (Zb9 (Za (e2 Zan (e2 Zaz (Zb 5) (eC (.int 8))) (eC (.int 3))) (Za (e2 Zce (eC (.int 0)) (e2 Zan (e2 Zaz (Zb 5) (eC (.int 8))) (e2 Zdm (eC (.int 10)) (eC (.int 40))))) (Za (e2 Zan (e2 Zaz (Zb 5) (eC (.int 8))) (e2 Zdm (eC (.int 10)) (eC (.int 40)))) (Zj))))) (e2 Zan (Zb 7) (eC (.int 3)))) (Zj))))) (Zj)))) (sIf (e2 Zfa (Zb 4) (Zb9 (Za (eC (.str [97, 100, 100])) (Za (eC (.str [115, 117, 98])) (Za (eC (.str [109, 111, 114, 101])) (Zj)))))) (Zaq (Zcy tyL ZaS (Zb 1) (Za (Za4 (Za (Zb 4) (Za (Zb 6) (Za (Zb 7) (Za (Zb 8) (Zj)))))) (Zj)))) (sIf (e2 Zfa (Zb 4) (Zb9 (Za (eC (.str [103, 101, 116])) (Za (eC (.str [115, 101, 116])) (Zj))))) (Zaq (Zcy tyL ZaS (Zb 1) (Za (Za4 (Za (Zb 4) (Za (Zb 6) (Za (Zb 7) (Zj))))) (Zj)))) (sIf (e2 ZaU (Zb 4) (eC (.str [119, 104, 101, 110]))) (Zaq (Zcy tyL ZaS (Zb 1) (Za (Za4 (Za (Zb 4) (Za (Zb 6) (Za (Zb 9) (Zj))))) (Zj)))) (sIf (e2 ZaU (Zb 4) (eC (.str [106, 117, 109, 112]))) (Zaq (Zcy tyL ZaS (Zb 1) (Za (Za4 (Za (Zb 4) (Za (Zb 9) (Zj)))) (Zj)))) (Zaq (Zcy tyL ZaS (Zb 1) (Za (Za4 (Za (Zb 4) (Za (Zb 6) (Zj)))) (Zj))))))))))))))))) (Zaa (Zah 10 (Za4 (Za (eC (.str [104, 97, 108, 116])) (Zj)))) (Zaa (sIf (Zc9 (e2 ZgU (ZaQ Zbe (Za (Zb 0) (Zj))) (eC (.int 0))) (e2 ZaU (e2 Zan (e2 Zo (Zb 0) (e1 Zc2 (eC (.int 1)))) (eC (.int 4))) (eC (.int 1)))) (Zah 10 (Za4 (Za (eC (.str [106, 117, 109, 112])) (Za (e2 Zan (e2 Zaz (e2 Zo (Zb 0) (e1 Zc2 (eC (.int 1)))) (eC (.int 4))) (e2 Zx (ZaQ Zbe (Za (Zb 0) (Zj))) (eC (.int 1)))) (Zj))))) (Zad)) (Zam (ZaQ ZbL (Za (e2 Zx (Zb 1) (Zb9 (Za (Zb 10) (Zj)))) (Zj)))))))
def ZcB : F3 := mkF 1 11 Zda
def Zat : S3 := Zaa (Zah 1 (e2 Zx (Zb 1) (eC (.int 1)))) (Zaa (Zah 4 (eC .non)) (Zaa (sIf (e2 ZaU (e2 Zo (Zb 0) (eC (.int 0))) (eC (.str [112, 117, 116]))) (Zah 4 (e2 Zo (Zb 0) (eC (.int 2)))) (Zad)) (Zaa (sIf (e2 ZaU (e2 Zo (Zb 0) (eC (.int 0))) (eC (.str [97, 100, 100]))) (Zah 4 (e2 Zx (e2 Zo (Zb 2) (e2 Zo (Zb 0) (eC (.int 2)))) (e2 Zo (Zb 2) (e2 Zo (Zb 0) (eC (.int 3)))))) (Zad)) (Zaa (sIf (e2 ZaU (e2 Zo (Zb 0) (eC (.int 0))) (eC (.str [115, 117, 98]))) (Zah 4 (e2 Zce (e2 Zo (Zb 2) (e2 Zo (Zb 0) (eC (.int 2)))) (e2 Zo (Zb 2) (e2 Zo (Zb 0) (eC (.int 3)))))) (Zad)) (Zaa (sIf (e2 ZaU (e2 Zo (Zb 0) (eC (.int 0))) (eC (.str [109, 111, 114, 101]))) (Zah 4 (e2 Zo (Zb9 (Za (eC (.int 0)) (Za (eC (.int 1)) (Zj)))) (ZaQ Zig (Za (e2 ZgU (e2 Zo (Zb 2) (e2 Zo (Zb 0) (eC (.int 2)))) (e2 Zo (Zb 2) (e2 Zo (Zb 0) (eC (.int 3))))) (Zj))))) (Zad)) (Zaa (sIf (e2 ZaU (e2 Zo (Zb 0) (eC (.int 0))) (eC (.str [103, 101, 116]))) (Zah 4 (Zb 3)) (Zad)) (Zaa (sIf (eOr (e2 ZaU (e2 Zo (Zb 0) (eC (.int 0))) (eC (.str [106, 117, 109, 112]))) (Zc9 (e2 ZaU (e2 Zo (Zb 0) (eC (.int 0))) (eC (.str [119, 104, 101, 110]))) (e2 ZgU (e2 Zo (Zb 2) (e2 Zo (Zb 0) (eC (.int 1)))) (eC (.int 0))))) (Zah 1 (e2 Zo (Zb 0) (e1 Zc2 (eC (.int 1))))) (Zad)) (Zaa (sIf (e2 Zg4 (Zb 4) (eC .non)) (Zah 2 (e2 Zx (e2 Zx (eSl (Zb 2) (ZaB) (ZaC (e2 Zo (Zb 0) (eC (.int 1))))) (Za4 (Za (Zb 4) (Zj)))) (eSl (Zb 2) (ZaC (e2 Zx (e2 Zo (Zb 0) (eC (.int 1))) (eC (.int 1)))) (ZaB)))) (Zad)) (Zam (Za4 (Za (Zb 1) (Za (Zb 2) (Zj)))))))))))))
def ZaN : F3 := mkF 4 5 Zat
def ZbI : S3 := Zaa (sIf (e2 ZaU (e2 Zan (Zb 0) (eC (.int 4))) (eC (.int 0))) (Zam (e2 Zan (e2 Zaz (Zb 0) (eC (.int 4))) (e2 Zdm (eC (.int 10)) (eC (.int 40))))) (Zad)) (Zaa (sIf (e2 ZaU (e2 Zan (Zb 0) (eC (.int 4))) (eC (.int 1))) (Zam (e2 Zce (e1 Zc2 (eC (.int 1))) (e2 Zan (e2 Zaz (Zb 0) (eC (.int 4))) (e2 Zdm (eC (.int 10)) (eC (.int 40)))))) (Zad)) (Zam (e2 Zan (e2 Zaz (Zb 0) (eC (.int 4))) (eC (.int 5)))))
def Zai : F3 := mkF 1 1 ZbI
def ZcV : S3 := Zaa (Zah 2 (e2 Zan (Zw Zab (Za (Zb 0) (Zj))) (ZaQ Zbe (Za (Zb 1) (Zj))))) (Zaa (Zah 3 (ZaQ ZbL (Za (eLC (ZbZ (eC (.int 8))) 1 (ZcP 6) [] (Zw Zai (Za (Zw Zab (Za (Zb 0) (Zj))) (Zj)))) (Zj)))) (Zaa (Zah 4 (Zb9 (Za (Za4 (Za (Zb 2) (Za (Zb 3) (Zj)))) (Zj)))) (Zaa (Zah 5 (e2 Zan (Zw Zab (Za (Zb 0) (Zj))) (eC (.int 61)))) (Zaa (Zih (Zc9 (e2 Ziv (ZaQ Zbe (Za (Zb 4) (Zj))) (Zb 5)) (e2 Zh8 (e2 Zo (e2 Zo (Zb 1) (Zb 2)) (eC (.int 0))) (eC (.str [104, 97, 108, 116])))) (Zaa (Zew (Zw ZaN (Za (e2 Zo (Zb 1) (Zb 2)) (Za (Zb 2) (Za (Zb 3) (Za (Zw Zai (Za (Zw Zab (Za (Zb 0) (Zj))) (Zj))) (Zj)))))) (Zdn [2, 3])) (Zaq (Zcy tyL ZaS (Zb 4) (Za (Za4 (Za (Zb 2) (Za (Zb 3) (Zj)))) (Zj)))))) (Zam (Zb 4))))))
def Zcl : F3 := mkF 2 6 ZcV
def Zcw : S3 := Zaa (Zah 3 (e2 Zan (Zb 1) (ZaQ Zbe (Za (Zb 0) (Zj))))) (Zaa (Zew (e2 Zo (Zb 0) (Zb 3)) (Zdn [4, 5])) (Zaa (Zah 6 (e2 Zan (e2 Zaz (Zb 1) (eC (.int 61))) (eC (.int 7)))) (Zaa (Zah 7 (e2 Zan (e2 Zaz (Zb 1) (eC (.int 427))) (eC (.int 8)))) (Zaa (sIf (e2 ZhM (Zb 6) (eC (.int 3))) (Zah 5 (e2 Zx (e2 Zx (eSl (Zb 5) (ZaB) (ZaC (Zb 7))) (Za4 (Za (e2 Zx (e2 Zo (Zb 5) (Zb 7)) (e2 Zo (Zb9 (Za (eC (.int 1)) (Za (e1 Zc2 (eC (.int 1))) (Za (e2 Zdm (eC (.int 10)) (eC (.int 30))) (Zj))))) (Zb 6))) (Zj)))) (eSl (Zb 5) (ZaC (e2 Zx (Zb 7) (eC (.int 1)))) (ZaB)))) (Zad)) (Zaa (sIf (e2 ZaU (Zb 6) (eC (.int 3))) (Zah 4 (e2 Zx (Zb 4) (eC (.int 1)))) (Zad)) (Zaa (sIf (e2 ZaU (Zb 6) (eC (.int 4))) (Zah 4 (e2 Zo (Zb9 (Za (e1 Zc2 (eC (.int 1))) (Za (Zb 2) (Za (e2 Zx (Zb 2) (eC (.int 5))) (Za (e2 Zce (eC (.int 0)) (Zb 2)) (Zj)))))) (e2 Zan (e2 Zaz (Zb 1) (eC (.int 427))) (eC (.int 4))))) (Zad)) (Zaa (sIf (e2 ZaU (Zb 6) (eC (.int 5))) (Zah 4 (e2 Zce (Zb 2) (eC (.int 1)))) (Zad)) (Zaa (sIf (e2 ZaU (Zb 6) (eC (.int 6))) (Zah 4 (e2 Zan (e2 Zaz (Zb 1) (eC (.int 427))) (Zb 2))) (Zad)) (Zam (e2 Zx (e2 Zx (eSl (Zb 0) (ZaB) (ZaC (Zb 3))) (Zb9 (Za (Za4 (Za (Zb 4) (Za (Zb 5) (Zj)))) (Zj)))) (eSl (Zb 0) (ZaC (e2 Zx (Zb 3) (eC (.int 1)))) (ZaB))))))))))))
def Za5 : F3 := mkF 3 8 Zcw
def Zdb : S3 := Zaa (Zew (Zb 1) (Zdn [3, 4])) (Zaa (sIf (eOr (e2 ZhM (Zb 3) (eC (.int 0))) (eOr (e2 ZkK (Zb 3) (ZaQ Zbe (Za (Zb 0) (Zj)))) (e2 ZaU (e2 Zo (e2 Zo (Zb 0) (Zb 3)) (eC (.int 0))) (eC (.str [104, 97, 108, 116]))))) (Zam (eC (.bl false))) (Zad)) (Zaa (Zah 5 (e2 Zo (Zb 0) (Zb 3))) (Zaa (Zah 6 (Zw ZaN (Za (Zb 5) (Za (Zb 3) (Za (Zb 4) (Za (e2 Zo (e2 Zo (Zb 2) (eC (.int 1))) (eIf (e2 ZaU (e2 Zo (Zb 5) (eC (.int 0))) (eC (.str [103, 101, 116]))) (e2 Zo (Zb 5) (eC (.int 1))) (eC (.int 0)))) (Zj))))))) (Zam (Zc9 (e2 ZaU (e2 Zo (Zb 2) (eC (.int 0))) (e2 Zo (Zb 6) (eC (.int 0)))) (e2 ZaU (e2 Zo (Zb 2) (eC (.int 1))) (e2 Zo (Zb 6) (eC (.int 1)))))))))
def Zbu : F3 := mkF 3 7 Zdb
def Zet : S3 := Zaa (Ze3 (ZbZ (e2 Zce (ZaQ Zbe (Za (Zb 1) (Zj))) (eC (.int 1)))) (ZcP 2) (sIf (e1 ZcI (Zw Zbu (Za (Zb 0) (Za (e2 Zo (Zb 1) (Zb 2)) (Za (e2 Zo (Zb 1) (e2 Zx (Zb 2) (eC (.int 1)))) (Zj)))))) (Zam (Zb 2)) (Zad))) (Zam (eC .non))
def Zbt : F3 := mkF 2 3 Zet
def Zc5 : S3 := Zaa (sIf (e2 ZjA (Zb 1) (eC .non)) (Zam (e2 ZjA (Zb 0) (eC .non))) (Zad)) (Zam (Zc9 (e1 (ZeF .int) (Zb 0)) (Zc9 (e1 ZcI (e1 (ZeF .bool) (Zb 0))) (e2 ZaU (Zb 0) (Zb 1)))))
def ZaK : F3 := mkF 2 2 Zc5
def ZiT : S3 := Zaa (Zah 1 (Zb9 (Za (eSl (Zb 0) (ZaB) (ZaC (eC (.int 64)))) (Za (eC (.int 0)) (Zj))))) (Zaa (Zah 2 (Zw Zab (Za (Zb 1) (Zj)))) (Zaa (Zah 3 (Zw ZcB (Za (eSl (Zb 0) (ZaB) (ZaC (eC (.int 40)))) (Zj)))) (Zaa (Zah 4 (Zw Zcl (Za (Zb 1) (Za (Zb 3) (Zj))))) (Zaa (Ze3 (ZbZ (e2 Zan (Zb 2) (eC (.int 3)))) (ZcP 5) (Zah 4 (Zw Za5 (Za (Zb 4) (Za (Zw Zab (Za (Zb 1) (Zj))) (Za (ZaQ Zbe (Za (Zb 3) (Zj))) (Zj))))))) (Zaa (Ze3 (Zje (e2 Zx (Zb9 (Za (eC (.int 0)) (Zj))) (ZiX (e2 Zan (Zb 2) (eC (.int 11))) (e2 Zx (ZaQ Zbe (Za (Zb 4) (Zj))) (eC (.int 1))) (eC (.int 11))))) (ZcP 6) (Zaa (Zah 7 (ZaQ ZbL (Za (eSl (Zb 4) (ZaC (Zb 6)) (ZaB)) (Zj)))) (Zaa (sIf (e1 ZcI (Zw ZaK (Za (Zw ZaF (Za (Zb 3) (Za (Zb 7) (Zj)))) (Za (Zw Zbt (Za (Zb 3) (Za (Zb 7) (Zj)))) (Zj))))) (Zam (eC (.bl false))) (Zad)) (sIf (e1 ZcI (Zw ZaK (Za (Zw ZaF (Za (Zb 3) (Za (eSl (Zb 7) (ZaB) (ZaC (eC (.int 2)))) (Zj)))) (Za (Zw Zbt (Za (Zb 3) (Za (eSl (Zb 7) (ZaB) (ZaC (eC (.int 2)))) (Zj)))) (Zj))))) (Zam (eC (.bl false))) (Zad))))) (Zam (Zc9 (Zw ZaK (Za (Zw ZaF (Za (Zb 3) (Za (Za4 (Zj)) (Zj)))) (Za (eC .non) (Zj)))) (Zw ZaK (Za (Zw ZaF (Za (Zb 3) (Za (ZaQ ZbL (Za (eSl (Zb 4) (ZaB) (ZaC (eC (.int 1)))) (Zj))) (Zj)))) (Za (eC .non) (Zj)))))))))))
def Zhe : F3 := mkF 1 8 ZiT
end
end Law
namespace Law
open PySem PySem.Spec PyProof.Rows L2 L3
def top (i : Nat) : Stmt := PySem.Challenge.pw_stepledger_k43_steps_alone.main.body.getD i (.Pass ⟨0, 0, 0, 0⟩)
abbrev ZbA : Stmt := top 1
abbrev ZbB : Stmt := top 2
abbrev ZcK : Stmt := top 3
abbrev Zb7 : Stmt := top 4
abbrev Zby : Stmt := top 5
abbrev ZbQ : Stmt := top 7
abbrev ZbP : Stmt := top 9
abbrev ZcJ : Stmt := top 10
abbrev Za9 : Stmt := top 11
abbrev ZaL : Stmt := top 12
abbrev Zbk : Stmt := top 14
abbrev ZbT : Stmt := top 16
abbrev ZbR : Stmt := top 17
abbrev Zbl : Stmt := top 18
abbrev Zbi : Stmt := top 19
abbrev Zbz : Stmt := top 20
abbrev Za7 : Stmt := top 21
abbrev Za8 : Stmt := top 22
abbrev Zb5 : Stmt := top 23
abbrev ZbO : Stmt := top 24
abbrev ZdF : Stmt := top 25
structure Txt (K : W.Frag) (mg : Str → Option Value) : Prop where
  kin : True
  m_bool : mg "bool" = none
  m_dict : mg "dict" = none
  m_enumerate : mg "enumerate" = none
  m_int : mg "int" = none
  m_isinstance : mg "isinstance" = none
  m_len : mg "len" = none
  m_list : mg "list" = none
  m_range : mg "range" = none
  m_tuple : mg "tuple" = none
section
variable {P : Program} {w : World} {K : W.Frag} {mg : Str → Option Value} {base : Heap}
theorem ZeS : ZaA ["row", "place", "boxes"] ["row", "place", "boxes"] (Zr ZbA) := ⟨rfl, rfl, rfl, by decide +kernel, rfl, by decide +kernel, by decide +kernel⟩
theorem Ze2 (A : ZaG K mg "next_place" ZbA ["row", "place", "boxes"]) (T : Txt K mg) : Fn3 P w K mg base 1 "next_place" ["row", "place", "boxes"] ZaT :=
  Fn3.of (N := ["row", "place", "boxes"]) (k := 0) A ZeS fun f cdv A outer s H E hr => by
    have hu := ZcE hr
    unfold Zb0
    refine Zm ?_ ?_
    ·refine ZaJ ?_ ?_ ?_
     ·refine Zaf ?_ ?_ ?_
      ·exact (ZbE hu)
      ·refine Zz ?_ ?_ ?_
       ·exact Zy
       ·exact Zd 0
       ·exact Zi
      ·exact ZaI
     ·refine Zq ?_
      refine Zao ?_
      refine Zz ?_ ?_ ?_
      ·exact Zy
      ·exact Zd 0
      ·exact Zi
     ·exact Zak
    ·refine Zm ?_ ?_
     ·refine ZaJ ?_ ?_ ?_
      ·refine CW.ct ?_
       refine Zfw ?_ ?_
       ·refine Zaf ?_ ?_ ?_
        ·exact (ZbE hu)
        ·refine Zz ?_ ?_ ?_
         ·exact Zy
         ·exact Zd 0
         ·exact Zi
        ·exact ZaI
       ·refine Zei ?_
        refine Zaf ?_ ?_ ?_
        ·exact ZiK
        ·refine Zz ?_ ?_ ?_
         ·exact Zy
         ·exact Zd 2
         ·refine Zz ?_ ?_ ?_
          ·exact Zy
          ·exact Zd 0
          ·exact Zi
        ·exact Zi
      ·refine Zq ?_
       refine Zao ?_
       refine Zz ?_ ?_ ?_
       ·exact Zy
       ·exact Zd 0
       ·exact Zi
      ·exact Zak
     ·refine Zq ?_
      refine Zao ?_
      refine Zu ?_ ?_ ?_
      ·exact ZaX
      ·exact Zd 1
      ·exact Zi
theorem Zhw : ZaA ["name", "one", "other"] ["name", "one", "other"] (Zr ZcK) := ⟨rfl, rfl, rfl, by decide +kernel, rfl, by decide +kernel, by decide +kernel⟩
theorem ZhG (A : ZaG K mg "worked" ZcK ["name", "one", "other"]) (T : Txt K mg) : Fn3 P w K mg base 1 "worked" ["name", "one", "other"] ZbJ :=
  Fn3.of (N := ["name", "one", "other"]) (k := 0) A Zhw fun f cdv A outer s H E hr => by
    have hu := ZcE hr
    unfold Zc3
    refine Zm ?_ ?_
    ·refine ZaJ ?_ ?_ ?_
     ·refine Zaf ?_ ?_ ?_
      ·exact (ZbE hu)
      ·exact Zd 0
      ·exact ZaI
     ·refine Zq ?_
      refine Zao ?_
      refine Zu ?_ ?_ ?_
      ·exact ZaX
      ·exact Zd 1
      ·exact Zd 2
     ·exact Zak
    ·refine Zm ?_ ?_
     ·refine ZaJ ?_ ?_ ?_
      ·refine Zaf ?_ ?_ ?_
       ·exact (ZbE hu)
       ·exact Zd 0
       ·exact ZaI
      ·refine Zq ?_
       refine Zao ?_
       refine Zu ?_ ?_ ?_
       ·exact ZdE
       ·exact Zd 1
       ·exact Zd 2
      ·exact Zak
     ·refine Zq ?_
      refine Zao ?_
      refine Zk9 ?_ ?_ ?_
      ·refine Zaf ?_ ?_ ?_
       ·exact ZiK
       ·exact Zd 1
       ·exact Zd 2
      ·exact Zi
      ·exact Zi
theorem Zgj : ZaA ["boxes", "box", "value"] ["boxes", "box", "value"] (Zr Zb7) := ⟨rfl, rfl, rfl, by decide +kernel, rfl, by decide +kernel, by decide +kernel⟩
theorem Zgo (A : ZaG K mg "with_box" Zb7 ["boxes", "box", "value"]) (T : Txt K mg) : Fn3 P w K mg base 1 "with_box" ["boxes", "box", "value"] Za2 :=
  Fn3.of (N := ["boxes", "box", "value"]) (k := 0) A Zgj fun f cdv A outer s H E hr => by
    have hu := ZcE hr
    unfold ZeI
    refine Zq ?_
    refine Zao ?_
    refine Zu ?_ ?_ ?_
    ·exact ZaX
    ·refine Zu ?_ ?_ ?_
     ·exact ZaX
     ·refine ZdC ?_ ?_ ?_ ?_
      ·exact ZdG
      ·exact Zd 0
      ·exact Zbo
      ·refine Zbq ?_
       exact Zd 1
     ·refine ZbW ?_
      refine Zc ?_ ?_
      ·exact Zd 2
      ·exact Zn
    ·refine ZdC ?_ ?_ ?_ ?_
     ·exact ZdG
     ·exact Zd 0
     ·refine Zbq ?_
      refine Zu ?_ ?_ ?_
      ·exact ZaX
      ·exact Zd 1
      ·exact Zi
     ·exact Zbo
theorem ZeQ : ZaA ["cells", "number"] ["cells", "number"] (Zr Zby) := ⟨rfl, rfl, rfl, by decide +kernel, rfl, by decide +kernel, by decide +kernel⟩
theorem ZeP (A : ZaG K mg "cell_value" Zby ["cells", "number"]) (T : Txt K mg) : Fn3 P w K mg base 1 "cell_value" ["cells", "number"] ZbD :=
  Fn3.of (N := ["cells", "number"]) (k := 0) A ZeQ fun f cdv A outer s H E hr => by
    have hu := ZcE hr
    unfold ZdJ
    refine Zq ?_
    refine Zao ?_
    refine Zk3 ?_ ?_ ?_ ?_
    ·exact hu
    ·refine Zfm (T := "dict") ?_ ?_ ?_ ?_
     ·exact (Zk2 rfl)
     ·exact T.m_dict
     ·exact ZjW
     ·refine Zc ?_ ?_
      ·exact Zd 0
      ·exact Zn
    ·exact Zd 1
    ·exact Zi
theorem Zdl : ZaA ["row", "boxes", "cells", "name"] ["row", "boxes", "cells"] (Zr ZbB) := ⟨rfl, rfl, rfl, by decide +kernel, rfl, by decide +kernel, by decide +kernel⟩
theorem ZeY (A : ZaG K mg "next_boxes" ZbB ["row", "boxes", "cells"]) (T : Txt K mg) (F_worked : Fn3 P w K mg base 1 "worked" ["name", "one", "other"] ZbJ) (F_with_box : Fn3 P w K mg base 1 "with_box" ["boxes", "box", "value"] Za2) (F_cell_value : Fn3 P w K mg base 1 "cell_value" ["cells", "number"] ZbD) : Fn3 P w K mg base 2 "next_boxes" ["row", "boxes", "cells"] Zcm :=
  Fn3.of (N := ["row", "boxes", "cells", "name"]) (k := 1) A Zdl fun f cdv A outer s H E hr => by
    have hu := ZcE hr
    unfold ZcW
    refine Zm ?_ ?_
    ·refine Zag 3 ?_ ?_
     ·exact Zdl.nd
     ·refine Zz ?_ ?_ ?_
      ·exact Zy
      ·exact Zd 0
      ·exact Zi
    ·refine Zm ?_ ?_
     ·refine ZaJ ?_ ?_ ?_
      ·refine Zaf ?_ ?_ ?_
       ·exact (ZbE hu)
       ·exact Zd 3
       ·exact ZaI
      ·refine Zq ?_
       refine Zao ?_
       refine Zau (k := 1) (ps := ["boxes", "box", "value"]) ?_ ?_ ?_
       ·exact F_with_box
       ·exact hr.mono (by decide)
       ·refine Zc ?_ ?_
        ·exact Zd 1
        ·refine Zc ?_ ?_
         ·refine Zz ?_ ?_ ?_
          ·exact Zy
          ·exact Zd 0
          ·exact Zi
         ·refine Zc ?_ ?_
          ·refine Zz ?_ ?_ ?_
           ·exact Zy
           ·exact Zd 0
           ·exact Zi
          ·exact Zn
      ·exact Zak
     ·refine Zm ?_ ?_
      ·refine ZaJ ?_ ?_ ?_
       ·refine Zaf ?_ ?_ ?_
        ·exact (ZbE hu)
        ·exact Zd 3
        ·exact ZaI
       ·refine Zq ?_
        refine Zao ?_
        refine Zau (k := 1) (ps := ["boxes", "box", "value"]) ?_ ?_ ?_
        ·exact F_with_box
        ·exact hr.mono (by decide)
        ·refine Zc ?_ ?_
         ·exact Zd 1
         ·refine Zc ?_ ?_
          ·refine Zz ?_ ?_ ?_
           ·exact Zy
           ·exact Zd 0
           ·exact Zi
          ·refine Zc ?_ ?_
           ·refine Zau (k := 1) (ps := ["cells", "number"]) ?_ ?_ ?_
            ·exact F_cell_value
            ·exact hr.mono (by decide)
            ·refine Zc ?_ ?_
             ·exact Zd 2
             ·refine Zc ?_ ?_
              ·refine Zz ?_ ?_ ?_
               ·exact Zy
               ·exact Zd 1
               ·refine Zz ?_ ?_ ?_
                ·exact Zy
                ·exact Zd 0
                ·exact Zi
              ·exact Zn
           ·exact Zn
       ·exact Zak
      ·refine Zm ?_ ?_
       ·refine ZaJ ?_ ?_ ?_
        ·refine Zaf ?_ ?_ ?_
         ·exact (Znx hu)
         ·exact Zd 3
         ·refine ZbW ?_
          refine Zc ?_ ?_
          ·exact ZaI
          ·refine Zc ?_ ?_
           ·exact ZaI
           ·refine Zc ?_ ?_
            ·exact ZaI
            ·exact Zn
        ·refine Zq ?_
         refine Zao ?_
         refine Zau (k := 1) (ps := ["boxes", "box", "value"]) ?_ ?_ ?_
         ·exact F_with_box
         ·exact hr.mono (by decide)
         ·refine Zc ?_ ?_
          ·exact Zd 1
          ·refine Zc ?_ ?_
           ·refine Zz ?_ ?_ ?_
            ·exact Zy
            ·exact Zd 0
            ·exact Zi
           ·refine Zc ?_ ?_
            ·refine Zau (k := 1) (ps := ["name", "one", "other"]) ?_ ?_ ?_
             ·exact F_worked
             ·exact hr.mono (by decide)
             ·refine Zc ?_ ?_
              ·exact Zd 3
              ·refine Zc ?_ ?_
               ·refine Zz ?_ ?_ ?_
                ·exact Zy
                ·exact Zd 1
                ·refine Zz ?_ ?_ ?_
                 ·exact Zy
                 ·exact Zd 0
                 ·exact Zi
               ·refine Zc ?_ ?_
                ·refine Zz ?_ ?_ ?_
                 ·exact Zy
                 ·exact Zd 1
                 ·refine Zz ?_ ?_ ?_
                  ·exact Zy
                  ·exact Zd 0
                  ·exact Zi
                ·exact Zn
            ·exact Zn
        ·exact Zak
       ·refine Zq ?_
        refine Zao ?_
        exact Zd 1
theorem ZfJ : ZaA ["number", "many"] ["number", "many"] (Zr ZbQ) := ⟨rfl, rfl, rfl, by decide +kernel, rfl, by decide +kernel, by decide +kernel⟩
theorem ZfY (A : ZaG K mg "is_within" ZbQ ["number", "many"]) (T : Txt K mg) : Fn3 P w K mg base 1 "is_within" ["number", "many"] ZbS :=
  Fn3.of (N := ["number", "many"]) (k := 0) A ZfJ fun f cdv A outer s H E hr => by
    have hu := ZcE hr
    unfold Zc7
    refine Zq ?_
    refine Zao ?_
    refine Zgl ?_ ?_
    ·refine ZdZ ?_ ?_ ?_
     ·exact Zmp
     ·exact Zd 0
     ·exact Zi
    ·refine Zg6 ?_
     refine ZdZ ?_ ?_ ?_
     ·exact Zjn
     ·exact Zd 0
     ·exact Zd 1
theorem ZhN : ZaA ["roll", "place"] ["roll", "place"] (Zr ZcJ) := ⟨rfl, rfl, rfl, by decide +kernel, rfl, by decide +kernel, by decide +kernel⟩
theorem ZhD (A : ZaG K mg "row_at" ZcJ ["roll", "place"]) (T : Txt K mg) (F_is_within : Fn3 P w K mg base 1 "is_within" ["number", "many"] ZbS) : Fn3 P w K mg base 2 "row_at" ["roll", "place"] ZdM :=
  Fn3.of (N := ["roll", "place"]) (k := 1) A ZhN fun f cdv A outer s H E hr => by
    have hu := ZcE hr
    unfold Zf7
    refine Zq ?_
    refine Zao ?_
    refine Zk9 ?_ ?_ ?_
    ·refine Zeo ?_
     refine Zau (k := 1) (ps := ["number", "many"]) ?_ ?_ ?_
     ·exact F_is_within
     ·exact hr.mono (by decide)
     ·refine Zc ?_ ?_
      ·exact Zd 1
      ·refine Zc ?_ ?_
       ·refine Zcf (id := "len") ?_ ?_ ?_ ?_
        ·exact Zcg
        ·exact T.m_len
        ·exact ZbF
        ·refine Zc ?_ ?_
         ·exact Zd 0
         ·exact Zn
       ·exact Zn
    ·refine Zz ?_ ?_ ?_
     ·exact Zy
     ·exact Zd 0
     ·exact Zd 1
    ·exact Zdj
theorem Zd6 : ZaA ["roll_row", "boxes", "told_boxes"] ["roll_row", "boxes", "told_boxes"] (Zr Za9) := ⟨rfl, rfl, rfl, by decide +kernel, rfl, by decide +kernel, by decide +kernel⟩
theorem Zec (A : ZaG K mg "boxes_behind" Za9 ["roll_row", "boxes", "told_boxes"]) (T : Txt K mg) (F_next_boxes : Fn3 P w K mg base 2 "next_boxes" ["row", "boxes", "cells"] Zcm) (F_with_box : Fn3 P w K mg base 1 "with_box" ["boxes", "box", "value"] Za2) : Fn3 P w K mg base 3 "boxes_behind" ["roll_row", "boxes", "told_boxes"] ZaV :=
  Fn3.of (N := ["roll_row", "boxes", "told_boxes"]) (k := 2) A Zd6 fun f cdv A outer s H E hr => by
    have hu := ZcE hr
    unfold Zc6
    refine Zm ?_ ?_
    ·refine ZaJ ?_ ?_ ?_
     ·refine Zaf ?_ ?_ ?_
      ·exact (ZbE hu)
      ·refine Zz ?_ ?_ ?_
       ·exact Zy
       ·exact Zd 0
       ·exact Zi
      ·exact ZaI
     ·refine Zq ?_
      refine Zao ?_
      refine Zau (k := 1) (ps := ["boxes", "box", "value"]) ?_ ?_ ?_
      ·exact F_with_box
      ·exact hr.mono (by decide)
      ·refine Zc ?_ ?_
       ·exact Zd 1
       ·refine Zc ?_ ?_
        ·refine Zz ?_ ?_ ?_
         ·exact Zy
         ·exact Zd 0
         ·exact Zi
        ·refine Zc ?_ ?_
         ·refine Zz ?_ ?_ ?_
          ·exact Zy
          ·exact Zd 2
          ·refine Zz ?_ ?_ ?_
           ·exact Zy
           ·exact Zd 0
           ·exact Zi
         ·exact Zn
     ·exact Zak
    ·refine Zq ?_
     refine Zao ?_
     refine Zau (k := 2) (ps := ["row", "boxes", "cells"]) ?_ ?_ ?_
     ·exact F_next_boxes
     ·exact hr.mono (by decide)
     ·refine Zc ?_ ?_
      ·exact Zd 0
      ·refine Zc ?_ ?_
       ·exact Zd 1
       ·refine Zc ?_ ?_
        ·refine ZbW ?_
         exact Zn
        ·exact Zn
theorem Zck : ZaA ["roll", "row", "behind", "place", "boxes", "roll_row"] ["roll", "row", "behind"] (Zr ZbP) := ⟨rfl, rfl, rfl, by decide +kernel, rfl, by decide +kernel, by decide +kernel⟩
theorem Zfv (A : ZaG K mg "step_fits" ZbP ["roll", "row", "behind"]) (T : Txt K mg) (F_next_place : Fn3 P w K mg base 1 "next_place" ["row", "place", "boxes"] ZaT) (F_row_at : Fn3 P w K mg base 2 "row_at" ["roll", "place"] ZdM) (F_boxes_behind : Fn3 P w K mg base 3 "boxes_behind" ["roll_row", "boxes", "told_boxes"] ZaV) : Fn3 P w K mg base 4 "step_fits" ["roll", "row", "behind"] Zca :=
  Fn3.of (N := ["roll", "row", "behind", "place", "boxes", "roll_row"]) (k := 3) A Zck fun f cdv A outer s H E hr => by
    have hu := ZcE hr
    unfold Zd5
    refine Zm ?_ ?_
    ·refine Zag 3 ?_ ?_
     ·exact Zck.nd
     ·refine Zz ?_ ?_ ?_
      ·exact Zy
      ·exact Zd 1
      ·exact Zi
    ·refine Zm ?_ ?_
     ·refine Zag 4 ?_ ?_
      ·exact Zck.nd
      ·refine Zz ?_ ?_ ?_
       ·exact Zy
       ·exact Zd 1
       ·exact Zi
     ·refine Zm ?_ ?_
      ·refine Zag 5 ?_ ?_
       ·exact Zck.nd
       ·refine Zau (k := 2) (ps := ["roll", "place"]) ?_ ?_ ?_
        ·exact F_row_at
        ·exact hr.mono (by decide)
        ·refine Zc ?_ ?_
         ·exact Zd 0
         ·refine Zc ?_ ?_
          ·exact Zd 3
          ·exact Zn
      ·refine Zm ?_ ?_
       ·refine ZaJ ?_ ?_ ?_
        ·refine CW.ct ?_
         refine Zhi ?_ ?_
         ·refine Zaf ?_ ?_ ?_
          ·exact ZkW
          ·exact Zd 5
          ·exact Zdj
         ·refine ZgM ?_
          refine Zaf ?_ ?_ ?_
          ·exact (ZbE hu)
          ·refine Zz ?_ ?_ ?_
           ·exact Zy
           ·exact Zd 5
           ·exact Zi
          ·exact ZaI
        ·refine Zq ?_
         refine Zao ?_
         exact Zjm
        ·exact Zak
       ·refine Zq ?_
        refine Zao ?_
        refine ZdZ ?_ ?_ ?_
        ·exact (ZbE hu)
        ·exact Zd 2
        ·refine ZbW ?_
         refine Zc ?_ ?_
         ·refine Zau (k := 1) (ps := ["row", "place", "boxes"]) ?_ ?_ ?_
          ·exact F_next_place
          ·exact hr.mono (by decide)
          ·refine Zc ?_ ?_
           ·exact Zd 5
           ·refine Zc ?_ ?_
            ·exact Zd 3
            ·refine Zc ?_ ?_
             ·exact Zd 4
             ·exact Zn
         ·refine Zc ?_ ?_
          ·refine Zau (k := 3) (ps := ["roll_row", "boxes", "told_boxes"]) ?_ ?_ ?_
           ·exact F_boxes_behind
           ·exact hr.mono (by decide)
           ·refine Zc ?_ ?_
            ·exact Zd 5
            ·refine Zc ?_ ?_
             ·exact Zd 4
             ·refine Zc ?_ ?_
              ·refine Zz ?_ ?_ ?_
               ·exact Zy
               ·exact Zd 2
               ·exact Zi
              ·exact Zn
          ·exact Zn
theorem Zch : ZaA ["roll", "steps", "time"] ["roll", "steps"] (Zr ZaL) := ⟨rfl, rfl, rfl, by decide +kernel, rfl, by decide +kernel, by decide +kernel⟩
theorem Zde (A : ZaG K mg "first_unfit_step" ZaL ["roll", "steps"]) (T : Txt K mg) (F_step_fits : Fn3 P w K mg base 4 "step_fits" ["roll", "row", "behind"] Zca) : Fn3 P w K mg base 5 "first_unfit_step" ["roll", "steps"] Zbf :=
  Fn3.of (N := ["roll", "steps", "time"]) (k := 4) A Zch fun f cdv A outer s H E hr => by
    have hu := ZcE hr
    unfold Zcv
    refine Zm ?_ ?_
    ·refine ZfU ?_ ?_ ?_ ?_ ?_
     ·exact rfl
     ·exact rfl
     ·refine Zdc ?_ ?_
      ·exact T.m_range
      ·refine Zu ?_ ?_ ?_
       ·exact ZdE
       ·refine Zcf (id := "len") ?_ ?_ ?_ ?_
        ·exact Zcg
        ·exact T.m_len
        ·exact ZbF
        ·refine Zc ?_ ?_
         ·exact Zd 1
         ·exact Zn
       ·exact Zi
     ·refine ZdB 2 ?_
      exact Zch.nd
     ·refine Zq ?_
      refine ZaJ ?_ ?_ ?_
      ·refine ZfA ?_
       refine Zeo ?_
       refine Zau (k := 4) (ps := ["roll", "row", "behind"]) ?_ ?_ ?_
       ·exact F_step_fits
       ·exact hr.mono (by decide)
       ·refine Zc ?_ ?_
        ·exact Zd 0
        ·refine Zc ?_ ?_
         ·refine Zz ?_ ?_ ?_
          ·exact Zy
          ·exact Zd 1
          ·exact Zd 2
         ·refine Zc ?_ ?_
          ·refine Zz ?_ ?_ ?_
           ·exact Zy
           ·exact Zd 1
           ·refine Zu ?_ ?_ ?_
            ·exact ZaX
            ·exact Zd 2
            ·exact Zi
          ·exact Zn
      ·refine Zq ?_
       refine Zao ?_
       exact Zd 2
      ·exact Zak
    ·refine Zq ?_
     refine Zao ?_
     exact Zdj
theorem ZeH : ZaA ["roll", "piece"] ["roll", "piece"] (Zr Zbk) := ⟨rfl, rfl, rfl, by decide +kernel, rfl, by decide +kernel, by decide +kernel⟩
theorem ZeE (A : ZaG K mg "steps_fault" Zbk ["roll", "piece"]) (T : Txt K mg) (F_first_unfit_step : Fn3 P w K mg base 5 "first_unfit_step" ["roll", "steps"] Zbf) : Fn3 P w K mg base 6 "steps_fault" ["roll", "piece"] ZaF :=
  Fn3.of (N := ["roll", "piece"]) (k := 5) A ZeH fun f cdv A outer s H E hr => by
    have hu := ZcE hr
    unfold Zdo
    refine Zq ?_
    refine Zao ?_
    refine Zau (k := 5) (ps := ["roll", "steps"]) ?_ ?_ ?_
    ·exact F_first_unfit_step
    ·exact hr.mono (by decide)
    ·refine Zc ?_ ?_
     ·exact Zd 0
     ·refine Zc ?_ ?_
      ·exact Zd 1
      ·exact Zn
theorem ZcQ : ZaA ["deck", "cells", "at"] ["deck"] (Zr ZbT) := ⟨rfl, rfl, rfl, by decide +kernel, rfl, by decide +kernel, by decide +kernel⟩
theorem ZfI (A : ZaG K mg "_law_next" ZbT ["deck"]) (T : Txt K mg) : Fn3 P w K mg base 1 "_law_next" ["deck"] Zab :=
  Fn3.of (N := ["deck", "cells", "at"]) (k := 0) A ZcQ fun f cdv A outer s H E hr => by
    have hu := ZcE hr
    unfold ZbN
    refine Zm ?_ ?_
    ·refine Zag 1 ?_ ?_
     ·exact ZcQ.nd
     ·refine Zz ?_ ?_ ?_
      ·exact Zy
      ·exact Zd 0
      ·exact Zi
    ·refine Zm ?_ ?_
     ·refine Zag 2 ?_ ?_
      ·exact ZcQ.nd
      ·refine Zz ?_ ?_ ?_
       ·exact Zy
       ·exact Zd 0
       ·exact Zi
     ·refine Zm ?_ ?_
      ·refine ZjK ?_ ?_ ?_
       ·exact Zd 0
       ·exact Zi
       ·refine Zu ?_ ?_ ?_
        ·exact ZaX
        ·exact Zd 2
        ·exact Zi
      ·refine Zm ?_ ?_
       ·refine ZaJ ?_ ?_ ?_
        ·refine Zaf ?_ ?_ ?_
         ·exact Zjn
         ·exact Zd 2
         ·refine Zcf (id := "len") ?_ ?_ ?_ ?_
          ·exact Zcg
          ·exact T.m_len
          ·exact ZbF
          ·refine Zc ?_ ?_
           ·exact Zd 1
           ·exact Zn
        ·refine Zq ?_
         refine Zao ?_
         refine Zz ?_ ?_ ?_
         ·exact Zy
         ·exact Zd 1
         ·exact Zd 2
        ·exact Zak
       ·refine Zm ?_ ?_
        ·refine ZaJ ?_ ?_ ?_
         ·refine Zaf ?_ ?_ ?_
          ·exact (ZbE hu)
          ·refine Zcf (id := "len") ?_ ?_ ?_ ?_
           ·exact Zcg
           ·exact T.m_len
           ·exact ZbF
           ·refine Zc ?_ ?_
            ·exact Zd 1
            ·exact Zn
          ·exact Zi
         ·refine Zq ?_
          refine Zao ?_
          refine Zu ?_ ?_ ?_
          ·exact ZaX
          ·refine Zu ?_ ?_ ?_
           ·exact Ziq
           ·refine Zu ?_ ?_ ?_
            ·exact Ziq
            ·exact Zd 2
            ·exact Zd 2
           ·exact Zi
          ·exact Zd 2
         ·exact Zak
        ·refine Zq ?_
         refine Zao ?_
         refine Zu ?_ ?_ ?_
         ·exact ZaX
         ·refine Zu ?_ ?_ ?_
          ·exact Zbn
          ·refine Zz ?_ ?_ ?_
           ·exact Zy
           ·exact Zd 1
           ·refine Zu ?_ ?_ ?_
            ·exact Za3
            ·exact Zd 2
            ·refine Zcf (id := "len") ?_ ?_ ?_ ?_
             ·exact Zcg
             ·exact T.m_len
             ·exact ZbF
             ·refine Zc ?_ ?_
              ·exact Zd 1
              ·exact Zn
          ·exact Zi
         ·refine Zu ?_ ?_ ?_
          ·exact Ziq
          ·exact Zd 2
          ·exact Zd 2
theorem Zay : ZaA ["cells", "roll", "k", "cell", "word", "more", "a", "b", "c", "goal", "last"] ["cells"] (Zr ZbR) := ⟨rfl, rfl, rfl, by decide +kernel, rfl, by decide +kernel, by decide +kernel⟩
theorem ZfE (A : ZaG K mg "_law_roll" ZbR ["cells"]) (T : Txt K mg) : Fn3 P w K mg base 1 "_law_roll" ["cells"] ZcB :=
  Fn3.of (N := ["cells", "roll", "k", "cell", "word", "more", "a", "b", "c", "goal", "last"]) (k := 0) A Zay fun f cdv A outer s H E hr => by
    have hu := ZcE hr
    unfold Zda
    refine Zm ?_ ?_
    ·refine Zag 1 ?_ ?_
     ·exact Zay.nd
     ·refine ZcG ?_
      exact Zn
    ·refine Zm ?_ ?_
     ·refine Zjl ?_ ?_ ?_ ?_ ?_
      ·exact rfl
      ·exact rfl
      ·refine ZjI ?_ ?_
       ·exact T.m_enumerate
       ·exact Zd 0
      ·refine ZfQ ?_ ?_
       ·exact rfl
       ·refine Zcb 2 ?_ ?_
        ·exact Zay.nd
        ·refine Zcb 3 ?_ ?_
         ·exact Zay.nd
         ·exact Zel
      ·refine Zm ?_ ?_
       ·refine Zag 4 ?_ ?_
        ·exact Zay.nd
        ·refine Zz ?_ ?_ ?_
         ·exact Zy
         ·refine ZcG ?_
          refine Zc ?_ ?_
          ·exact ZaI
          ·refine Zc ?_ ?_
           ·exact ZaI
           ·refine Zc ?_ ?_
            ·exact ZaI
            ·refine Zc ?_ ?_
             ·exact ZaI
             ·refine Zc ?_ ?_
              ·exact ZaI
              ·refine Zc ?_ ?_
               ·exact ZaI
               ·refine Zc ?_ ?_
                ·exact ZaI
                ·refine Zc ?_ ?_
                 ·exact ZaI
                 ·refine Zc ?_ ?_
                  ·exact ZaI
                  ·refine Zc ?_ ?_
                   ·exact ZaI
                   ·exact Zn
         ·refine Zu ?_ ?_ ?_
          ·exact Za3
          ·exact Zd 3
          ·exact Zi
       ·refine Zm ?_ ?_
        ·refine Zag 5 ?_ ?_
         ·exact Zay.nd
         ·refine Zu ?_ ?_ ?_
          ·exact Zbn
          ·exact Zd 3
          ·exact Zi
        ·refine Zm ?_ ?_
         ·refine Zag 6 ?_ ?_
          ·exact Zay.nd
          ·refine Zu ?_ ?_ ?_
           ·exact Za3
           ·exact Zd 5
           ·exact Zi
         ·refine Zm ?_ ?_
          ·refine Zag 7 ?_ ?_
           ·exact Zay.nd
           ·refine Zu ?_ ?_ ?_
            ·exact Za3
            ·refine Zu ?_ ?_ ?_
             ·exact Zbn
             ·exact Zd 5
             ·exact Zi
            ·exact Zi
          ·refine Zm ?_ ?_
           ·refine Zag 8 ?_ ?_
            ·exact Zay.nd
            ·refine Zu ?_ ?_ ?_
             ·exact Za3
             ·refine Zu ?_ ?_ ?_
              ·exact Zbn
              ·exact Zd 5
              ·exact Zi
             ·exact Zi
           ·refine Zm ?_ ?_
            ·refine Zag 9 ?_ ?_
             ·exact Zay.nd
             ·refine Zu ?_ ?_ ?_
              ·exact ZaX
              ·refine Zu ?_ ?_ ?_
               ·exact ZaX
               ·exact Zd 2
               ·exact Zi
              ·refine Zu ?_ ?_ ?_
               ·exact Za3
               ·refine Zu ?_ ?_ ?_
                ·exact Zbn
                ·exact Zd 5
                ·exact Zi
               ·refine Zu ?_ ?_ ?_
                ·exact ZdE
                ·refine Zcf (id := "len") ?_ ?_ ?_ ?_
                 ·exact Zcg
                 ·exact T.m_len
                 ·exact ZbF
                 ·refine Zc ?_ ?_
                  ·exact Zd 0
                  ·exact Zn
                ·exact Zd 2
            ·refine Zm ?_ ?_
             ·refine ZaJ ?_ ?_ ?_
              ·refine Zaf ?_ ?_ ?_
               ·exact (ZbE hu)
               ·refine Zu ?_ ?_ ?_
                ·exact Za3
                ·refine Zu ?_ ?_ ?_
                 ·exact Zbn
                 ·exact Zd 5
                 ·exact Zi
                ·exact Zi
               ·exact Zi
              ·refine Zq ?_
               refine Zag 9 ?_ ?_
               ·exact Zay.nd
               ·refine Zu ?_ ?_ ?_
                ·exact Za3
                ·refine Zu ?_ ?_ ?_
                 ·exact Zbn
                 ·exact Zd 5
                 ·exact Zi
                ·refine Zu ?_ ?_ ?_
                 ·exact ZaX
                 ·refine Zcf (id := "len") ?_ ?_ ?_ ?_
                  ·exact Zcg
                  ·exact T.m_len
                  ·exact ZbF
                  ·refine Zc ?_ ?_
                   ·exact Zd 0
                   ·exact Zn
                 ·exact Zi
              ·exact Zak
             ·refine Zq ?_
              refine ZaJ ?_ ?_ ?_
              ·refine Zaf ?_ ?_ ?_
               ·exact (ZbE hu)
               ·exact Zd 4
               ·exact ZaI
              ·refine Zq ?_
               refine ZcT ?_
               refine Zbc ?_ ?_
               ·exact Zd 1
               ·refine Zc ?_ ?_
                ·refine ZbW ?_
                 refine Zc ?_ ?_
                 ·exact Zd 4
                 ·refine Zc ?_ ?_
                  ·exact Zd 6
                  ·refine Zc ?_ ?_
                   ·refine Zz ?_ ?_ ?_
                    ·exact Zy
                    ·refine ZcG ?_
                     refine Zc ?_ ?_
                     ·refine Zu ?_ ?_ ?_
                      ·exact Za3
                      ·refine Zu ?_ ?_ ?_
                       ·exact Zbn
                       ·exact Zd 5
                       ·exact Zi
                      ·exact Zi
                     ·refine Zc ?_ ?_
                      ·refine Zu ?_ ?_ ?_
                       ·exact ZdE
                       ·exact Zi
                       ·refine Zu ?_ ?_ ?_
                        ·exact Za3
                        ·refine Zu ?_ ?_ ?_
                         ·exact Zbn
                         ·exact Zd 5
                         ·exact Zi
                        ·refine Zu ?_ ?_ ?_
                         ·exact Zf1
                         ·exact Zi
                         ·exact Zi
                      ·refine Zc ?_ ?_
                       ·refine Zu ?_ ?_ ?_
                        ·exact Za3
                        ·refine Zu ?_ ?_ ?_
                         ·exact Zbn
                         ·exact Zd 5
                         ·exact Zi
                        ·refine Zu ?_ ?_ ?_
                         ·exact Zf1
                         ·exact Zi
                         ·exact Zi
                       ·exact Zn
                    ·refine Zu ?_ ?_ ?_
                     ·exact Za3
                     ·exact Zd 7
                     ·exact Zi
                   ·exact Zn
                ·exact Zn
              ·refine Zq ?_
               refine ZaJ ?_ ?_ ?_
               ·refine Zaf ?_ ?_ ?_
                ·exact Zkj
                ·exact Zd 4
                ·refine ZcG ?_
                 refine Zc ?_ ?_
                 ·exact ZaI
                 ·refine Zc ?_ ?_
                  ·exact ZaI
                  ·refine Zc ?_ ?_
                   ·exact ZaI
                   ·exact Zn
               ·refine Zq ?_
                refine ZcT ?_
                refine Zbc ?_ ?_
                ·exact Zd 1
                ·refine Zc ?_ ?_
                 ·refine ZbW ?_
                  refine Zc ?_ ?_
                  ·exact Zd 4
                  ·refine Zc ?_ ?_
                   ·exact Zd 6
                   ·refine Zc ?_ ?_
                    ·exact Zd 7
                    ·refine Zc ?_ ?_
                     ·exact Zd 8
                     ·exact Zn
                 ·exact Zn
               ·refine Zq ?_
                refine ZaJ ?_ ?_ ?_
                ·refine Zaf ?_ ?_ ?_
                 ·exact Zkj
                 ·exact Zd 4
                 ·refine ZcG ?_
                  refine Zc ?_ ?_
                  ·exact ZaI
                  ·refine Zc ?_ ?_
                   ·exact ZaI
                   ·exact Zn
                ·refine Zq ?_
                 refine ZcT ?_
                 refine Zbc ?_ ?_
                 ·exact Zd 1
                 ·refine Zc ?_ ?_
                  ·refine ZbW ?_
                   refine Zc ?_ ?_
                   ·exact Zd 4
                   ·refine Zc ?_ ?_
                    ·exact Zd 6
                    ·refine Zc ?_ ?_
                     ·exact Zd 7
                     ·exact Zn
                  ·exact Zn
                ·refine Zq ?_
                 refine ZaJ ?_ ?_ ?_
                 ·refine Zaf ?_ ?_ ?_
                  ·exact (ZbE hu)
                  ·exact Zd 4
                  ·exact ZaI
                 ·refine Zq ?_
                  refine ZcT ?_
                  refine Zbc ?_ ?_
                  ·exact Zd 1
                  ·refine Zc ?_ ?_
                   ·refine ZbW ?_
                    refine Zc ?_ ?_
                    ·exact Zd 4
                    ·refine Zc ?_ ?_
                     ·exact Zd 6
                     ·refine Zc ?_ ?_
                      ·exact Zd 9
                      ·exact Zn
                   ·exact Zn
                 ·refine Zq ?_
                  refine ZaJ ?_ ?_ ?_
                  ·refine Zaf ?_ ?_ ?_
                   ·exact (ZbE hu)
                   ·exact Zd 4
                   ·exact ZaI
                  ·refine Zq ?_
                   refine ZcT ?_
                   refine Zbc ?_ ?_
                   ·exact Zd 1
                   ·refine Zc ?_ ?_
                    ·refine ZbW ?_
                     refine Zc ?_ ?_
                     ·exact Zd 4
                     ·refine Zc ?_ ?_
                      ·exact Zd 9
                      ·exact Zn
                    ·exact Zn
                  ·refine Zq ?_
                   refine ZcT ?_
                   refine Zbc ?_ ?_
                   ·exact Zd 1
                   ·refine Zc ?_ ?_
                    ·refine ZbW ?_
                     refine Zc ?_ ?_
                     ·exact Zd 4
                     ·refine Zc ?_ ?_
                      ·exact Zd 6
                      ·exact Zn
                    ·exact Zn
     ·refine Zm ?_ ?_
      ·refine Zag 10 ?_ ?_
       ·exact Zay.nd
       ·refine ZbW ?_
        refine Zc ?_ ?_
        ·exact ZaI
        ·exact Zn
      ·refine Zm ?_ ?_
       ·refine ZaJ ?_ ?_ ?_
        ·refine CW.ct ?_
         refine Zfw ?_ ?_
         ·refine Zaf ?_ ?_ ?_
          ·exact ZiK
          ·refine Zcf (id := "len") ?_ ?_ ?_ ?_
           ·exact Zcg
           ·exact T.m_len
           ·exact ZbF
           ·refine Zc ?_ ?_
            ·exact Zd 0
            ·exact Zn
          ·exact Zi
         ·refine Zei ?_
          refine Zaf ?_ ?_ ?_
          ·exact (ZbE hu)
          ·refine Zu ?_ ?_ ?_
           ·exact Za3
           ·refine Zz ?_ ?_ ?_
            ·exact Zy
            ·exact Zd 0
            ·refine ZhS ?_ ?_
             ·exact Ze6
             ·exact Zi
           ·exact Zi
          ·exact Zi
        ·refine Zq ?_
         refine Zag 10 ?_ ?_
         ·exact Zay.nd
         ·refine ZbW ?_
          refine Zc ?_ ?_
          ·exact ZaI
          ·refine Zc ?_ ?_
           ·refine Zu ?_ ?_ ?_
            ·exact Za3
            ·refine Zu ?_ ?_ ?_
             ·exact Zbn
             ·refine Zz ?_ ?_ ?_
              ·exact Zy
              ·exact Zd 0
              ·refine ZhS ?_ ?_
               ·exact Ze6
               ·exact Zi
             ·exact Zi
            ·refine Zu ?_ ?_ ?_
             ·exact ZaX
             ·refine Zcf (id := "len") ?_ ?_ ?_ ?_
              ·exact Zcg
              ·exact T.m_len
              ·exact ZbF
              ·refine Zc ?_ ?_
               ·exact Zd 0
               ·exact Zn
             ·exact Zi
           ·exact Zn
        ·exact Zak
       ·refine Zq ?_
        refine Zao ?_
        refine Zfm (T := "tuple") ?_ ?_ ?_ ?_
        ·exact Zek
        ·exact T.m_tuple
        ·exact Zdz
        ·refine Zc ?_ ?_
         ·refine Zu ?_ ?_ ?_
          ·exact ZaX
          ·exact Zd 1
          ·refine ZcG ?_
           refine Zc ?_ ?_
           ·exact Zd 10
           ·exact Zn
         ·exact Zn
theorem ZaE : ZaA ["deed", "place", "boxes", "held", "value"] ["deed", "place", "boxes", "held"] (Zr Zbl) := ⟨rfl, rfl, rfl, by decide +kernel, rfl, by decide +kernel, by decide +kernel⟩
theorem ZeA (A : ZaG K mg "_law_behind" Zbl ["deed", "place", "boxes", "held"]) (T : Txt K mg) : Fn3 P w K mg base 1 "_law_behind" ["deed", "place", "boxes", "held"] ZaN :=
  Fn3.of (N := ["deed", "place", "boxes", "held", "value"]) (k := 0) A ZaE fun f cdv A outer s H E hr => by
    have hu := ZcE hr
    unfold Zat
    refine Zm ?_ ?_
    ·refine Zag 1 ?_ ?_
     ·exact ZaE.nd
     ·refine Zu ?_ ?_ ?_
      ·exact ZaX
      ·exact Zd 1
      ·exact Zi
    ·refine Zm ?_ ?_
     ·refine Zag 4 ?_ ?_
      ·exact ZaE.nd
      ·exact Zdj
     ·refine Zm ?_ ?_
      ·refine ZaJ ?_ ?_ ?_
       ·refine Zaf ?_ ?_ ?_
        ·exact (ZbE hu)
        ·refine Zz ?_ ?_ ?_
         ·exact Zy
         ·exact Zd 0
         ·exact Zi
        ·exact ZaI
       ·refine Zq ?_
        refine Zag 4 ?_ ?_
        ·exact ZaE.nd
        ·refine Zz ?_ ?_ ?_
         ·exact Zy
         ·exact Zd 0
         ·exact Zi
       ·exact Zak
      ·refine Zm ?_ ?_
       ·refine ZaJ ?_ ?_ ?_
        ·refine Zaf ?_ ?_ ?_
         ·exact (ZbE hu)
         ·refine Zz ?_ ?_ ?_
          ·exact Zy
          ·exact Zd 0
          ·exact Zi
         ·exact ZaI
        ·refine Zq ?_
         refine Zag 4 ?_ ?_
         ·exact ZaE.nd
         ·refine Zu ?_ ?_ ?_
          ·exact ZaX
          ·refine Zz ?_ ?_ ?_
           ·exact Zy
           ·exact Zd 2
           ·refine Zz ?_ ?_ ?_
            ·exact Zy
            ·exact Zd 0
            ·exact Zi
          ·refine Zz ?_ ?_ ?_
           ·exact Zy
           ·exact Zd 2
           ·refine Zz ?_ ?_ ?_
            ·exact Zy
            ·exact Zd 0
            ·exact Zi
        ·exact Zak
       ·refine Zm ?_ ?_
        ·refine ZaJ ?_ ?_ ?_
         ·refine Zaf ?_ ?_ ?_
          ·exact (ZbE hu)
          ·refine Zz ?_ ?_ ?_
           ·exact Zy
           ·exact Zd 0
           ·exact Zi
          ·exact ZaI
         ·refine Zq ?_
          refine Zag 4 ?_ ?_
          ·exact ZaE.nd
          ·refine Zu ?_ ?_ ?_
           ·exact ZdE
           ·refine Zz ?_ ?_ ?_
            ·exact Zy
            ·exact Zd 2
            ·refine Zz ?_ ?_ ?_
             ·exact Zy
             ·exact Zd 0
             ·exact Zi
           ·refine Zz ?_ ?_ ?_
            ·exact Zy
            ·exact Zd 2
            ·refine Zz ?_ ?_ ?_
             ·exact Zy
             ·exact Zd 0
             ·exact Zi
         ·exact Zak
        ·refine Zm ?_ ?_
         ·refine ZaJ ?_ ?_ ?_
          ·refine Zaf ?_ ?_ ?_
           ·exact (ZbE hu)
           ·refine Zz ?_ ?_ ?_
            ·exact Zy
            ·exact Zd 0
            ·exact Zi
           ·exact ZaI
          ·refine Zq ?_
           refine Zag 4 ?_ ?_
           ·exact ZaE.nd
           ·refine Zz ?_ ?_ ?_
            ·exact Zy
            ·refine ZcG ?_
             refine Zc ?_ ?_
             ·exact Zi
             ·refine Zc ?_ ?_
              ·exact Zi
              ·exact Zn
            ·refine Zfm (T := "int") ?_ ?_ ?_ ?_
             ·exact Zln
             ·exact T.m_int
             ·exact Zlv
             ·refine Zc ?_ ?_
              ·refine ZdZ ?_ ?_ ?_
               ·exact ZiK
               ·refine Zz ?_ ?_ ?_
                ·exact Zy
                ·exact Zd 2
                ·refine Zz ?_ ?_ ?_
                 ·exact Zy
                 ·exact Zd 0
                 ·exact Zi
               ·refine Zz ?_ ?_ ?_
                ·exact Zy
                ·exact Zd 2
                ·refine Zz ?_ ?_ ?_
                 ·exact Zy
                 ·exact Zd 0
                 ·exact Zi
              ·exact Zn
          ·exact Zak
         ·refine Zm ?_ ?_
          ·refine ZaJ ?_ ?_ ?_
           ·refine Zaf ?_ ?_ ?_
            ·exact (ZbE hu)
            ·refine Zz ?_ ?_ ?_
             ·exact Zy
             ·exact Zd 0
             ·exact Zi
            ·exact ZaI
           ·refine Zq ?_
            refine Zag 4 ?_ ?_
            ·exact ZaE.nd
            ·exact Zd 3
           ·exact Zak
          ·refine Zm ?_ ?_
           ·refine ZaJ ?_ ?_ ?_
            ·refine CW.ct ?_
             refine Zhi ?_ ?_
             ·refine Zaf ?_ ?_ ?_
              ·exact (ZbE hu)
              ·refine Zz ?_ ?_ ?_
               ·exact Zy
               ·exact Zd 0
               ·exact Zi
              ·exact ZaI
             ·refine ZgM ?_
              refine CW.ct ?_
              refine Zfw ?_ ?_
              ·refine Zaf ?_ ?_ ?_
               ·exact (ZbE hu)
               ·refine Zz ?_ ?_ ?_
                ·exact Zy
                ·exact Zd 0
                ·exact Zi
               ·exact ZaI
              ·refine Zei ?_
               refine Zaf ?_ ?_ ?_
               ·exact ZiK
               ·refine Zz ?_ ?_ ?_
                ·exact Zy
                ·exact Zd 2
                ·refine Zz ?_ ?_ ?_
                 ·exact Zy
                 ·exact Zd 0
                 ·exact Zi
               ·exact Zi
            ·refine Zq ?_
             refine Zag 1 ?_ ?_
             ·exact ZaE.nd
             ·refine Zz ?_ ?_ ?_
              ·exact Zy
              ·exact Zd 0
              ·refine ZhS ?_ ?_
               ·exact Ze6
               ·exact Zi
            ·exact Zak
           ·refine Zm ?_ ?_
            ·refine ZaJ ?_ ?_ ?_
             ·refine Zaf ?_ ?_ ?_
              ·exact Zj4
              ·exact Zd 4
              ·exact Zdj
             ·refine Zq ?_
              refine Zag 2 ?_ ?_
              ·exact ZaE.nd
              ·refine Zu ?_ ?_ ?_
               ·exact ZaX
               ·refine Zu ?_ ?_ ?_
                ·exact ZaX
                ·refine ZdC ?_ ?_ ?_ ?_
                 ·exact ZdG
                 ·exact Zd 2
                 ·exact Zbo
                 ·refine Zbq ?_
                  refine Zz ?_ ?_ ?_
                  ·exact Zy
                  ·exact Zd 0
                  ·exact Zi
                ·refine ZbW ?_
                 refine Zc ?_ ?_
                 ·exact Zd 4
                 ·exact Zn
               ·refine ZdC ?_ ?_ ?_ ?_
                ·exact ZdG
                ·exact Zd 2
                ·refine Zbq ?_
                 refine Zu ?_ ?_ ?_
                 ·exact ZaX
                 ·refine Zz ?_ ?_ ?_
                  ·exact Zy
                  ·exact Zd 0
                  ·exact Zi
                 ·exact Zi
                ·exact Zbo
             ·exact Zak
            ·refine Zq ?_
             refine Zao ?_
             refine ZbW ?_
             refine Zc ?_ ?_
             ·exact Zd 1
             ·refine Zc ?_ ?_
              ·exact Zd 2
              ·exact Zn
theorem ZeL : ZaA ["cell"] ["cell"] (Zr Zbi) := ⟨rfl, rfl, rfl, by decide +kernel, rfl, by decide +kernel, by decide +kernel⟩
theorem ZeJ (A : ZaG K mg "_law_number" Zbi ["cell"]) (T : Txt K mg) : Fn3 P w K mg base 1 "_law_number" ["cell"] Zai :=
  Fn3.of (N := ["cell"]) (k := 0) A ZeL fun f cdv A outer s H E hr => by
    have hu := ZcE hr
    unfold ZbI
    refine Zm ?_ ?_
    ·refine ZaJ ?_ ?_ ?_
     ·refine Zaf ?_ ?_ ?_
      ·exact (ZbE hu)
      ·refine Zu ?_ ?_ ?_
       ·exact Za3
       ·exact Zd 0
       ·exact Zi
      ·exact Zi
     ·refine Zq ?_
      refine Zao ?_
      refine Zu ?_ ?_ ?_
      ·exact Za3
      ·refine Zu ?_ ?_ ?_
       ·exact Zbn
       ·exact Zd 0
       ·exact Zi
      ·refine Zu ?_ ?_ ?_
       ·exact Zf1
       ·exact Zi
       ·exact Zi
     ·exact Zak
    ·refine Zm ?_ ?_
     ·refine ZaJ ?_ ?_ ?_
      ·refine Zaf ?_ ?_ ?_
       ·exact (ZbE hu)
       ·refine Zu ?_ ?_ ?_
        ·exact Za3
        ·exact Zd 0
        ·exact Zi
       ·exact Zi
      ·refine Zq ?_
       refine Zao ?_
       refine Zu ?_ ?_ ?_
       ·exact ZdE
       ·refine ZhS ?_ ?_
        ·exact Ze6
        ·exact Zi
       ·refine Zu ?_ ?_ ?_
        ·exact Za3
        ·refine Zu ?_ ?_ ?_
         ·exact Zbn
         ·exact Zd 0
         ·exact Zi
        ·refine Zu ?_ ?_ ?_
         ·exact Zf1
         ·exact Zi
         ·exact Zi
      ·exact Zak
     ·refine Zq ?_
      refine Zao ?_
      refine Zu ?_ ?_ ?_
      ·exact Za3
      ·refine Zu ?_ ?_ ?_
       ·exact Zbn
       ·exact Zd 0
       ·exact Zi
      ·exact Zi
theorem Za1 : ZaA ["deck", "roll", "place", "boxes", "found", "many"] ["deck", "roll"] (Zr Zbz) := ⟨rfl, rfl, rfl, by decide +kernel, rfl, by decide +kernel, by decide +kernel⟩
theorem ZeX (A : ZaG K mg "_law_piece" Zbz ["deck", "roll"]) (T : Txt K mg) (F__law_next : Fn3 P w K mg base 1 "_law_next" ["deck"] Zab) (F__law_behind : Fn3 P w K mg base 1 "_law_behind" ["deed", "place", "boxes", "held"] ZaN) (F__law_number : Fn3 P w K mg base 1 "_law_number" ["cell"] Zai) : Fn3 P w K mg base 2 "_law_piece" ["deck", "roll"] Zcl :=
  Fn3.of (N := ["deck", "roll", "place", "boxes", "found", "many"]) (k := 1) A Za1 fun f cdv A outer s H E hr => by
    have hu := ZcE hr
    unfold ZcV
    refine Zm ?_ ?_
    ·refine Zag 2 ?_ ?_
     ·exact Za1.nd
     ·refine Zu ?_ ?_ ?_
      ·exact Za3
      ·refine Zau (k := 1) (ps := ["deck"]) ?_ ?_ ?_
       ·exact F__law_next
       ·exact hr.mono (by decide)
       ·refine Zc ?_ ?_
        ·exact Zd 0
        ·exact Zn
      ·refine Zcf (id := "len") ?_ ?_ ?_ ?_
       ·exact Zcg
       ·exact T.m_len
       ·exact ZbF
       ·refine Zc ?_ ?_
        ·exact Zd 1
        ·exact Zn
    ·refine Zm ?_ ?_
     ·refine Zag 3 ?_ ?_
      ·exact Za1.nd
      ·refine Zfm (T := "tuple") ?_ ?_ ?_ ?_
       ·exact Zek
       ·exact T.m_tuple
       ·exact Zdz
       ·refine Zc ?_ ?_
        ·refine Zm7 (N' := ["deck", "roll", "place", "boxes", "found", "many", "k"]) ?_ ?_ ?_ ?_ (fun C cl s H ex => ⟨?_, ?_, ?_⟩)
         ·exact ZhL rfl (by kernel_rfl)
         ·exact rfl
         ·exact rfl
         ·refine Zdc ?_ ?_
          ·exact T.m_range
          ·exact Zi
         ·refine ZdB 6 ?_
          exact (show List.Nodup (["deck", "roll", "place", "boxes", "found", "many", "k"] : List Str) by decide +kernel)
         ·exact Zjs
         ·refine Zau (k := 1) (ps := ["cell"]) ?_ ?_ ?_
          ·exact F__law_number
          ·exact hr.mono (by decide)
          ·refine Zc ?_ ?_
           ·refine Zau (k := 1) (ps := ["deck"]) ?_ ?_ ?_
            ·exact F__law_next
            ·exact hr.mono (by decide)
            ·refine Zc ?_ ?_
             ·exact Zd 0
             ·exact Zn
           ·exact Zn
        ·exact Zn
     ·refine Zm ?_ ?_
      ·refine Zag 4 ?_ ?_
       ·exact Za1.nd
       ·refine ZcG ?_
        refine Zc ?_ ?_
        ·refine ZbW ?_
         refine Zc ?_ ?_
         ·exact Zd 2
         ·refine Zc ?_ ?_
          ·exact Zd 3
          ·exact Zn
        ·exact Zn
      ·refine Zm ?_ ?_
       ·refine Zag 5 ?_ ?_
        ·exact Za1.nd
        ·refine Zu ?_ ?_ ?_
         ·exact Za3
         ·refine Zau (k := 1) (ps := ["deck"]) ?_ ?_ ?_
          ·exact F__law_next
          ·exact hr.mono (by decide)
          ·refine Zc ?_ ?_
           ·exact Zd 0
           ·exact Zn
         ·exact Zi
       ·refine Zm ?_ ?_
        ·refine Zi4 ?_ ?_ ?_
         ·exact rfl
         ·refine CW.ct ?_
          refine Zfw ?_ ?_
          ·refine Zaf ?_ ?_ ?_
           ·exact Znu
           ·refine Zcf (id := "len") ?_ ?_ ?_ ?_
            ·exact Zcg
            ·exact T.m_len
            ·exact ZbF
            ·refine Zc ?_ ?_
             ·exact Zd 4
             ·exact Zn
           ·exact Zd 5
          ·refine Zei ?_
           refine Zaf ?_ ?_ ?_
           ·exact (Zm9 hu)
           ·refine Zz ?_ ?_ ?_
            ·exact Zy
            ·refine Zz ?_ ?_ ?_
             ·exact Zy
             ·exact Zd 1
             ·exact Zd 2
            ·exact Zi
           ·exact ZaI
         ·refine Zm ?_ ?_
          ·refine ZgX ?_ ?_
           ·refine Zau (k := 1) (ps := ["deed", "place", "boxes", "held"]) ?_ ?_ ?_
            ·exact F__law_behind
            ·exact hr.mono (by decide)
            ·refine Zc ?_ ?_
             ·refine Zz ?_ ?_ ?_
              ·exact Zy
              ·exact Zd 1
              ·exact Zd 2
             ·refine Zc ?_ ?_
              ·exact Zd 2
              ·refine Zc ?_ ?_
               ·exact Zd 3
               ·refine Zc ?_ ?_
                ·refine Zau (k := 1) (ps := ["cell"]) ?_ ?_ ?_
                 ·exact F__law_number
                 ·exact hr.mono (by decide)
                 ·refine Zc ?_ ?_
                  ·refine Zau (k := 1) (ps := ["deck"]) ?_ ?_ ?_
                   ·exact F__law_next
                   ·exact hr.mono (by decide)
                   ·refine Zc ?_ ?_
                    ·exact Zd 0
                    ·exact Zn
                  ·exact Zn
                ·exact Zn
           ·refine ZfQ ?_ ?_
            ·exact rfl
            ·refine Zcb 2 ?_ ?_
             ·exact Za1.nd
             ·refine Zcb 3 ?_ ?_
              ·exact Za1.nd
              ·exact Zel
          ·refine Zq ?_
           refine ZcT ?_
           refine Zbc ?_ ?_
           ·exact Zd 4
           ·refine Zc ?_ ?_
            ·refine ZbW ?_
             refine Zc ?_ ?_
             ·exact Zd 2
             ·refine Zc ?_ ?_
              ·exact Zd 3
              ·exact Zn
            ·exact Zn
        ·refine Zq ?_
         refine Zao ?_
         exact Zd 4
theorem Zas : ZaA ["piece", "cell", "many", "at", "place", "boxes", "way", "box"] ["piece", "cell", "many"] (Zr Za7) := ⟨rfl, rfl, rfl, by decide +kernel, rfl, by decide +kernel, by decide +kernel⟩
theorem Zea (A : ZaG K mg "_law_changed" Za7 ["piece", "cell", "many"]) (T : Txt K mg) : Fn3 P w K mg base 1 "_law_changed" ["piece", "cell", "many"] Za5 :=
  Fn3.of (N := ["piece", "cell", "many", "at", "place", "boxes", "way", "box"]) (k := 0) A Zas fun f cdv A outer s H E hr => by
    have hu := ZcE hr
    unfold Zcw
    refine Zm ?_ ?_
    ·refine Zag 3 ?_ ?_
     ·exact Zas.nd
     ·refine Zu ?_ ?_ ?_
      ·exact Za3
      ·exact Zd 1
      ·refine Zcf (id := "len") ?_ ?_ ?_ ?_
       ·exact Zcg
       ·exact T.m_len
       ·exact ZbF
       ·refine Zc ?_ ?_
        ·exact Zd 0
        ·exact Zn
    ·refine Zm ?_ ?_
     ·refine ZgX ?_ ?_
      ·refine Zz ?_ ?_ ?_
       ·exact Zy
       ·exact Zd 0
       ·exact Zd 3
      ·refine ZfQ ?_ ?_
       ·exact rfl
       ·refine Zcb 4 ?_ ?_
        ·exact Zas.nd
        ·refine Zcb 5 ?_ ?_
         ·exact Zas.nd
         ·exact Zel
     ·refine Zm ?_ ?_
      ·refine Zag 6 ?_ ?_
       ·exact Zas.nd
       ·refine Zu ?_ ?_ ?_
        ·exact Za3
        ·refine Zu ?_ ?_ ?_
         ·exact Zbn
         ·exact Zd 1
         ·exact Zi
        ·exact Zi
      ·refine Zm ?_ ?_
       ·refine Zag 7 ?_ ?_
        ·exact Zas.nd
        ·refine Zu ?_ ?_ ?_
         ·exact Za3
         ·refine Zu ?_ ?_ ?_
          ·exact Zbn
          ·exact Zd 1
          ·exact Zi
         ·exact Zi
       ·refine Zm ?_ ?_
        ·refine ZaJ ?_ ?_ ?_
         ·refine Zaf ?_ ?_ ?_
          ·exact Zjn
          ·exact Zd 6
          ·exact Zi
         ·refine Zq ?_
          refine Zag 5 ?_ ?_
          ·exact Zas.nd
          ·refine Zu ?_ ?_ ?_
           ·exact ZaX
           ·refine Zu ?_ ?_ ?_
            ·exact ZaX
            ·refine ZdC ?_ ?_ ?_ ?_
             ·exact ZdG
             ·exact Zd 5
             ·exact Zbo
             ·refine Zbq ?_
              exact Zd 7
            ·refine ZbW ?_
             refine Zc ?_ ?_
             ·refine Zu ?_ ?_ ?_
              ·exact ZaX
              ·refine Zz ?_ ?_ ?_
               ·exact Zy
               ·exact Zd 5
               ·exact Zd 7
              ·refine Zz ?_ ?_ ?_
               ·exact Zy
               ·refine ZcG ?_
                refine Zc ?_ ?_
                ·exact Zi
                ·refine Zc ?_ ?_
                 ·refine ZhS ?_ ?_
                  ·exact Ze6
                  ·exact Zi
                 ·refine Zc ?_ ?_
                  ·refine Zu ?_ ?_ ?_
                   ·exact Zf1
                   ·exact Zi
                   ·exact Zi
                  ·exact Zn
               ·exact Zd 6
             ·exact Zn
           ·refine ZdC ?_ ?_ ?_ ?_
            ·exact ZdG
            ·exact Zd 5
            ·refine Zbq ?_
             refine Zu ?_ ?_ ?_
             ·exact ZaX
             ·exact Zd 7
             ·exact Zi
            ·exact Zbo
         ·exact Zak
        ·refine Zm ?_ ?_
         ·refine ZaJ ?_ ?_ ?_
          ·refine Zaf ?_ ?_ ?_
           ·exact (ZbE hu)
           ·exact Zd 6
           ·exact Zi
          ·refine Zq ?_
           refine Zag 4 ?_ ?_
           ·exact Zas.nd
           ·refine Zu ?_ ?_ ?_
            ·exact ZaX
            ·exact Zd 4
            ·exact Zi
          ·exact Zak
         ·refine Zm ?_ ?_
          ·refine ZaJ ?_ ?_ ?_
           ·refine Zaf ?_ ?_ ?_
            ·exact (ZbE hu)
            ·exact Zd 6
            ·exact Zi
           ·refine Zq ?_
            refine Zag 4 ?_ ?_
            ·exact Zas.nd
            ·refine Zz ?_ ?_ ?_
             ·exact Zy
             ·refine ZcG ?_
              refine Zc ?_ ?_
              ·refine ZhS ?_ ?_
               ·exact Ze6
               ·exact Zi
              ·refine Zc ?_ ?_
               ·exact Zd 2
               ·refine Zc ?_ ?_
                ·refine Zu ?_ ?_ ?_
                 ·exact ZaX
                 ·exact Zd 2
                 ·exact Zi
                ·refine Zc ?_ ?_
                 ·refine Zu ?_ ?_ ?_
                  ·exact ZdE
                  ·exact Zi
                  ·exact Zd 2
                 ·exact Zn
             ·refine Zu ?_ ?_ ?_
              ·exact Za3
              ·refine Zu ?_ ?_ ?_
               ·exact Zbn
               ·exact Zd 1
               ·exact Zi
              ·exact Zi
           ·exact Zak
          ·refine Zm ?_ ?_
           ·refine ZaJ ?_ ?_ ?_
            ·refine Zaf ?_ ?_ ?_
             ·exact (ZbE hu)
             ·exact Zd 6
             ·exact Zi
            ·refine Zq ?_
             refine Zag 4 ?_ ?_
             ·exact Zas.nd
             ·refine Zu ?_ ?_ ?_
              ·exact ZdE
              ·exact Zd 2
              ·exact Zi
            ·exact Zak
           ·refine Zm ?_ ?_
            ·refine ZaJ ?_ ?_ ?_
             ·refine Zaf ?_ ?_ ?_
              ·exact (ZbE hu)
              ·exact Zd 6
              ·exact Zi
             ·refine Zq ?_
              refine Zag 4 ?_ ?_
              ·exact Zas.nd
              ·refine Zu ?_ ?_ ?_
               ·exact Za3
               ·refine Zu ?_ ?_ ?_
                ·exact Zbn
                ·exact Zd 1
                ·exact Zi
               ·exact Zd 2
             ·exact Zak
            ·refine Zq ?_
             refine Zao ?_
             refine Zu ?_ ?_ ?_
             ·exact ZaX
             ·refine Zu ?_ ?_ ?_
              ·exact ZaX
              ·refine ZdC ?_ ?_ ?_ ?_
               ·exact ZdG
               ·exact Zd 0
               ·exact Zbo
               ·refine Zbq ?_
                exact Zd 3
              ·refine ZcG ?_
               refine Zc ?_ ?_
               ·refine ZbW ?_
                refine Zc ?_ ?_
                ·exact Zd 4
                ·refine Zc ?_ ?_
                 ·exact Zd 5
                 ·exact Zn
               ·exact Zn
             ·refine ZdC ?_ ?_ ?_ ?_
              ·exact ZdG
              ·exact Zd 0
              ·refine Zbq ?_
               refine Zu ?_ ?_ ?_
               ·exact ZaX
               ·exact Zd 3
               ·exact Zi
              ·exact Zbo
theorem Zbh : ZaA ["roll", "row", "behind", "place", "boxes", "deed", "due"] ["roll", "row", "behind"] (Zr Za8) := ⟨rfl, rfl, rfl, by decide +kernel, rfl, by decide +kernel, by decide +kernel⟩
theorem Zeg (A : ZaG K mg "_law_two_fit" Za8 ["roll", "row", "behind"]) (T : Txt K mg) (F__law_behind : Fn3 P w K mg base 1 "_law_behind" ["deed", "place", "boxes", "held"] ZaN) : Fn3 P w K mg base 2 "_law_two_fit" ["roll", "row", "behind"] Zbu :=
  Fn3.of (N := ["roll", "row", "behind", "place", "boxes", "deed", "due"]) (k := 1) A Zbh fun f cdv A outer s H E hr => by
    have hu := ZcE hr
    unfold Zdb
    refine Zm ?_ ?_
    ·refine ZgX ?_ ?_
     ·exact Zd 1
     ·refine ZfQ ?_ ?_
      ·exact rfl
      ·refine Zcb 3 ?_ ?_
       ·exact Zbh.nd
       ·refine Zcb 4 ?_ ?_
        ·exact Zbh.nd
        ·exact Zel
    ·refine Zm ?_ ?_
     ·refine ZaJ ?_ ?_ ?_
      ·refine CW.ct ?_
       refine Zhi ?_ ?_
       ·refine Zaf ?_ ?_ ?_
        ·exact Zjn
        ·exact Zd 3
        ·exact Zi
       ·refine Zhi ?_ ?_
        ·refine Zaf ?_ ?_ ?_
         ·exact Zmp
         ·exact Zd 3
         ·refine Zcf (id := "len") ?_ ?_ ?_ ?_
          ·exact Zcg
          ·exact T.m_len
          ·exact ZbF
          ·refine Zc ?_ ?_
           ·exact Zd 0
           ·exact Zn
        ·refine ZgM ?_
         refine Zaf ?_ ?_ ?_
         ·exact (ZbE hu)
         ·refine Zz ?_ ?_ ?_
          ·exact Zy
          ·refine Zz ?_ ?_ ?_
           ·exact Zy
           ·exact Zd 0
           ·exact Zd 3
          ·exact Zi
         ·exact ZaI
      ·refine Zq ?_
       refine Zao ?_
       exact Zjm
      ·exact Zak
     ·refine Zm ?_ ?_
      ·refine Zag 5 ?_ ?_
       ·exact Zbh.nd
       ·refine Zz ?_ ?_ ?_
        ·exact Zy
        ·exact Zd 0
        ·exact Zd 3
      ·refine Zm ?_ ?_
       ·refine Zag 6 ?_ ?_
        ·exact Zbh.nd
        ·refine Zau (k := 1) (ps := ["deed", "place", "boxes", "held"]) ?_ ?_ ?_
         ·exact F__law_behind
         ·exact hr.mono (by decide)
         ·refine Zc ?_ ?_
          ·exact Zd 5
          ·refine Zc ?_ ?_
           ·exact Zd 3
           ·refine Zc ?_ ?_
            ·exact Zd 4
            ·refine Zc ?_ ?_
             ·refine Zz ?_ ?_ ?_
              ·exact Zy
              ·refine Zz ?_ ?_ ?_
               ·exact Zy
               ·exact Zd 2
               ·exact Zi
              ·refine Zk9 ?_ ?_ ?_
               ·refine Zaf ?_ ?_ ?_
                ·exact (ZbE hu)
                ·refine Zz ?_ ?_ ?_
                 ·exact Zy
                 ·exact Zd 5
                 ·exact Zi
                ·exact ZaI
               ·refine Zz ?_ ?_ ?_
                ·exact Zy
                ·exact Zd 5
                ·exact Zi
               ·exact Zi
             ·exact Zn
       ·refine Zq ?_
        refine Zao ?_
        refine Zgl ?_ ?_
        ·refine ZdZ ?_ ?_ ?_
         ·exact (ZbE hu)
         ·refine Zz ?_ ?_ ?_
          ·exact Zy
          ·exact Zd 2
          ·exact Zi
         ·refine Zz ?_ ?_ ?_
          ·exact Zy
          ·exact Zd 6
          ·exact Zi
        ·refine Zg6 ?_
         refine ZdZ ?_ ?_ ?_
         ·exact (ZbE hu)
         ·refine Zz ?_ ?_ ?_
          ·exact Zy
          ·exact Zd 2
          ·exact Zi
         ·refine Zz ?_ ?_ ?_
          ·exact Zy
          ·exact Zd 6
          ·exact Zi
theorem Zd4 : ZaA ["roll", "piece", "at"] ["roll", "piece"] (Zr Zb5) := ⟨rfl, rfl, rfl, by decide +kernel, rfl, by decide +kernel, by decide +kernel⟩
theorem Zgp (A : ZaG K mg "_law_due" Zb5 ["roll", "piece"]) (T : Txt K mg) (F__law_two_fit : Fn3 P w K mg base 2 "_law_two_fit" ["roll", "row", "behind"] Zbu) : Fn3 P w K mg base 3 "_law_due" ["roll", "piece"] Zbt :=
  Fn3.of (N := ["roll", "piece", "at"]) (k := 2) A Zd4 fun f cdv A outer s H E hr => by
    have hu := ZcE hr
    unfold Zet
    refine Zm ?_ ?_
    ·refine ZfU ?_ ?_ ?_ ?_ ?_
     ·exact rfl
     ·exact rfl
     ·refine Zdc ?_ ?_
      ·exact T.m_range
      ·refine Zu ?_ ?_ ?_
       ·exact ZdE
       ·refine Zcf (id := "len") ?_ ?_ ?_ ?_
        ·exact Zcg
        ·exact T.m_len
        ·exact ZbF
        ·refine Zc ?_ ?_
         ·exact Zd 1
         ·exact Zn
       ·exact Zi
     ·refine ZdB 2 ?_
      exact Zd4.nd
     ·refine Zq ?_
      refine ZaJ ?_ ?_ ?_
      ·refine ZfA ?_
       refine Zeo ?_
       refine Zau (k := 2) (ps := ["roll", "row", "behind"]) ?_ ?_ ?_
       ·exact F__law_two_fit
       ·exact hr.mono (by decide)
       ·refine Zc ?_ ?_
        ·exact Zd 0
        ·refine Zc ?_ ?_
         ·refine Zz ?_ ?_ ?_
          ·exact Zy
          ·exact Zd 1
          ·exact Zd 2
         ·refine Zc ?_ ?_
          ·refine Zz ?_ ?_ ?_
           ·exact Zy
           ·exact Zd 1
           ·refine Zu ?_ ?_ ?_
            ·exact ZaX
            ·exact Zd 2
            ·exact Zi
          ·exact Zn
      ·refine Zq ?_
       refine Zao ?_
       exact Zd 2
      ·exact Zak
    ·refine Zq ?_
     refine Zao ?_
     exact Zdj
theorem Zfz : ZaA ["found", "due"] ["found", "due"] (Zr ZbO) := ⟨rfl, rfl, rfl, by decide +kernel, rfl, by decide +kernel, by decide +kernel⟩
theorem ZfM (A : ZaG K mg "_law_told" ZbO ["found", "due"]) (T : Txt K mg) : Fn3 P w K mg base 1 "_law_told" ["found", "due"] ZaK :=
  Fn3.of (N := ["found", "due"]) (k := 0) A Zfz fun f cdv A outer s H E hr => by
    have hu := ZcE hr
    unfold Zc5
    refine Zm ?_ ?_
    ·refine ZaJ ?_ ?_ ?_
     ·refine Zaf ?_ ?_ ?_
      ·exact ZkW
      ·exact Zd 1
      ·exact Zdj
     ·refine Zq ?_
      refine Zao ?_
      refine ZdZ ?_ ?_ ?_
      ·exact ZkW
      ·exact Zd 0
      ·exact Zdj
     ·exact Zak
    ·refine Zq ?_
     refine Zao ?_
     refine Zgl ?_ ?_
     ·refine Ziw .int ?_ ?_ ?_
      ·exact T.m_isinstance
      ·exact T.m_int
      ·exact Zd 0
     ·refine Zgl ?_ ?_
      ·refine Zmo ?_
       refine Ziw .bool ?_ ?_ ?_
       ·exact T.m_isinstance
       ·exact T.m_bool
       ·exact Zd 0
      ·refine Zg6 ?_
       refine ZdZ ?_ ?_ ?_
       ·exact (ZbE hu)
       ·exact Zd 0
       ·exact Zd 1
theorem ZcU : ZaA ["script", "deck", "cell", "roll", "piece", "k", "begin", "some"] ["script"] (Zr ZdF) := ⟨rfl, rfl, rfl, by decide +kernel, rfl, by decide +kernel, by decide +kernel⟩
theorem ZkH {f : Addr} {fd : FuncData} (F : Fun K "law" "law" ZdF f fd) (T : Txt K mg) (F_steps_fault : Fn3 P w K mg base 6 "steps_fault" ["roll", "piece"] ZaF) (F__law_next : Fn3 P w K mg base 1 "_law_next" ["deck"] Zab) (F__law_roll : Fn3 P w K mg base 1 "_law_roll" ["cells"] ZcB) (F__law_piece : Fn3 P w K mg base 2 "_law_piece" ["deck", "roll"] Zcl) (F__law_changed : Fn3 P w K mg base 1 "_law_changed" ["piece", "cell", "many"] Za5) (F__law_due : Fn3 P w K mg base 3 "_law_due" ["roll", "piece"] Zbt) (F__law_told : Fn3 P w K mg base 1 "_law_told" ["found", "due"] ZaK) : ZeN P w K mg base CX0 7 f fd ["script"] (sp3 K 1 Zhe) :=
  fn3 (N := ["script", "deck", "cell", "roll", "piece", "k", "begin", "some"]) (k := 6) F ZcU fun cdv A outer s H E hr => by
    have hu := ZcE hr
    unfold ZiT
    refine Zm ?_ ?_
    ·refine Zag 1 ?_ ?_
     ·exact ZcU.nd
     ·refine ZcG ?_
      refine Zc ?_ ?_
      ·refine ZdC ?_ ?_ ?_ ?_
       ·exact ZdG
       ·exact Zd 0
       ·exact Zbo
       ·refine Zbq ?_
        exact Zi
      ·refine Zc ?_ ?_
       ·exact Zi
       ·exact Zn
    ·refine Zm ?_ ?_
     ·refine Zag 2 ?_ ?_
      ·exact ZcU.nd
      ·refine Zau (k := 1) (ps := ["deck"]) ?_ ?_ ?_
       ·exact F__law_next
       ·exact hr.mono (by decide)
       ·refine Zc ?_ ?_
        ·exact Zd 1
        ·exact Zn
     ·refine Zm ?_ ?_
      ·refine Zag 3 ?_ ?_
       ·exact ZcU.nd
       ·refine Zau (k := 1) (ps := ["cells"]) ?_ ?_ ?_
        ·exact F__law_roll
        ·exact hr.mono (by decide)
        ·refine Zc ?_ ?_
         ·refine ZdC ?_ ?_ ?_ ?_
          ·exact ZdG
          ·exact Zd 0
          ·exact Zbo
          ·refine Zbq ?_
           exact Zi
         ·exact Zn
      ·refine Zm ?_ ?_
       ·refine Zag 4 ?_ ?_
        ·exact ZcU.nd
        ·refine Zau (k := 2) (ps := ["deck", "roll"]) ?_ ?_ ?_
         ·exact F__law_piece
         ·exact hr.mono (by decide)
         ·refine Zc ?_ ?_
          ·exact Zd 1
          ·refine Zc ?_ ?_
           ·exact Zd 3
           ·exact Zn
       ·refine Zm ?_ ?_
        ·refine ZfU ?_ ?_ ?_ ?_ ?_
         ·exact rfl
         ·exact rfl
         ·refine Zdc ?_ ?_
          ·exact T.m_range
          ·refine Zu ?_ ?_ ?_
           ·exact Za3
           ·exact Zd 2
           ·exact Zi
         ·refine ZdB 5 ?_
          exact ZcU.nd
         ·refine Zq ?_
          refine Zag 4 ?_ ?_
          ·exact ZcU.nd
          ·refine Zau (k := 1) (ps := ["piece", "cell", "many"]) ?_ ?_ ?_
           ·exact F__law_changed
           ·exact hr.mono (by decide)
           ·refine Zc ?_ ?_
            ·exact Zd 4
            ·refine Zc ?_ ?_
             ·refine Zau (k := 1) (ps := ["deck"]) ?_ ?_ ?_
              ·exact F__law_next
              ·exact hr.mono (by decide)
              ·refine Zc ?_ ?_
               ·exact Zd 1
               ·exact Zn
             ·refine Zc ?_ ?_
              ·refine Zcf (id := "len") ?_ ?_ ?_ ?_
               ·exact Zcg
               ·exact T.m_len
               ·exact ZbF
               ·refine Zc ?_ ?_
                ·exact Zd 3
                ·exact Zn
              ·exact Zn
        ·refine Zm ?_ ?_
         ·refine ZfU ?_ ?_ ?_ ?_ ?_
          ·exact rfl
          ·exact rfl
          ·refine Znp ?_
           refine Zu ?_ ?_ ?_
           ·exact ZaX
           ·refine ZcG ?_
            refine Zc ?_ ?_
            ·exact Zi
            ·exact Zn
           ·refine ZfH ?_ ?_ ?_ ?_ ?_ ?_
            ·exact rfl
            ·exact T.m_list
            ·exact T.m_range
            ·refine Zu ?_ ?_ ?_
             ·exact Za3
             ·exact Zd 2
             ·exact Zi
            ·refine Zu ?_ ?_ ?_
             ·exact ZaX
             ·refine Zcf (id := "len") ?_ ?_ ?_ ?_
              ·exact Zcg
              ·exact T.m_len
              ·exact ZbF
              ·refine Zc ?_ ?_
               ·exact Zd 4
               ·exact Zn
             ·exact Zi
            ·exact Zi
          ·refine ZdB 6 ?_
           exact ZcU.nd
          ·refine Zm ?_ ?_
           ·refine Zag 7 ?_ ?_
            ·exact ZcU.nd
            ·refine Zfm (T := "tuple") ?_ ?_ ?_ ?_
             ·exact Zek
             ·exact T.m_tuple
             ·exact Zdz
             ·refine Zc ?_ ?_
              ·refine ZdC ?_ ?_ ?_ ?_
               ·exact ZdG
               ·exact Zd 4
               ·refine Zbq ?_
                exact Zd 6
               ·exact Zbo
              ·exact Zn
           ·refine Zm ?_ ?_
            ·refine ZaJ ?_ ?_ ?_
             ·refine ZfA ?_
              refine Zeo ?_
              refine Zau (k := 1) (ps := ["found", "due"]) ?_ ?_ ?_
              ·exact F__law_told
              ·exact hr.mono (by decide)
              ·refine Zc ?_ ?_
               ·refine Zau (k := 6) (ps := ["roll", "piece"]) ?_ ?_ ?_
                ·exact F_steps_fault
                ·exact hr.mono (by decide)
                ·refine Zc ?_ ?_
                 ·exact Zd 3
                 ·refine Zc ?_ ?_
                  ·exact Zd 7
                  ·exact Zn
               ·refine Zc ?_ ?_
                ·refine Zau (k := 3) (ps := ["roll", "piece"]) ?_ ?_ ?_
                 ·exact F__law_due
                 ·exact hr.mono (by decide)
                 ·refine Zc ?_ ?_
                  ·exact Zd 3
                  ·refine Zc ?_ ?_
                   ·exact Zd 7
                   ·exact Zn
                ·exact Zn
             ·refine Zq ?_
              refine Zao ?_
              exact Zjm
             ·exact Zak
            ·refine Zq ?_
             refine ZaJ ?_ ?_ ?_
             ·refine ZfA ?_
              refine Zeo ?_
              refine Zau (k := 1) (ps := ["found", "due"]) ?_ ?_ ?_
              ·exact F__law_told
              ·exact hr.mono (by decide)
              ·refine Zc ?_ ?_
               ·refine Zau (k := 6) (ps := ["roll", "piece"]) ?_ ?_ ?_
                ·exact F_steps_fault
                ·exact hr.mono (by decide)
                ·refine Zc ?_ ?_
                 ·exact Zd 3
                 ·refine Zc ?_ ?_
                  ·refine ZdC ?_ ?_ ?_ ?_
                   ·exact ZdG
                   ·exact Zd 7
                   ·exact Zbo
                   ·refine Zbq ?_
                    exact Zi
                  ·exact Zn
               ·refine Zc ?_ ?_
                ·refine Zau (k := 3) (ps := ["roll", "piece"]) ?_ ?_ ?_
                 ·exact F__law_due
                 ·exact hr.mono (by decide)
                 ·refine Zc ?_ ?_
                  ·exact Zd 3
                  ·refine Zc ?_ ?_
                   ·refine ZdC ?_ ?_ ?_ ?_
                    ·exact ZdG
                    ·exact Zd 7
                    ·exact Zbo
                    ·refine Zbq ?_
                     exact Zi
                   ·exact Zn
                ·exact Zn
             ·refine Zq ?_
              refine Zao ?_
              exact Zjm
             ·exact Zak
         ·refine Zq ?_
          refine Zao ?_
          refine Zgl ?_ ?_
          ·refine Zau (k := 1) (ps := ["found", "due"]) ?_ ?_ ?_
           ·exact F__law_told
           ·exact hr.mono (by decide)
           ·refine Zc ?_ ?_
            ·refine Zau (k := 6) (ps := ["roll", "piece"]) ?_ ?_ ?_
             ·exact F_steps_fault
             ·exact hr.mono (by decide)
             ·refine Zc ?_ ?_
              ·exact Zd 3
              ·refine Zc ?_ ?_
               ·refine ZbW ?_
                exact Zn
               ·exact Zn
            ·refine Zc ?_ ?_
             ·exact Zdj
             ·exact Zn
          ·refine Zg6 ?_
           refine Zau (k := 1) (ps := ["found", "due"]) ?_ ?_ ?_
           ·exact F__law_told
           ·exact hr.mono (by decide)
           ·refine Zc ?_ ?_
            ·refine Zau (k := 6) (ps := ["roll", "piece"]) ?_ ?_ ?_
             ·exact F_steps_fault
             ·exact hr.mono (by decide)
             ·refine Zc ?_ ?_
              ·exact Zd 3
              ·refine Zc ?_ ?_
               ·refine Zfm (T := "tuple") ?_ ?_ ?_ ?_
                ·exact Zek
                ·exact T.m_tuple
                ·exact Zdz
                ·refine Zc ?_ ?_
                 ·refine ZdC ?_ ?_ ?_ ?_
                  ·exact ZdG
                  ·exact Zd 4
                  ·exact Zbo
                  ·refine Zbq ?_
                   exact Zi
                 ·exact Zn
               ·exact Zn
            ·refine Zc ?_ ?_
             ·exact Zdj
             ·exact Zn
end
end Law
set_option maxHeartbeats 200000
namespace Law
open L3
theorem ZeG (n d : Nat) : sIx n d none = d := rfl
theorem ZfS (n d k : Nat) : sIx n d (some (k : Int)) = min k n := by
 have h : ¬ ((k : Int) < 0) := by omega
 simp only [sIx, if_neg h, Int.toNat_natCast]
theorem ZdH {α : Type} (w : List α) (k : Nat) : cutD w (some (k : Int)) none = w.drop k := by
 unfold cutD
 rw [ZfS, ZeG]
 by_cases h : k ≤ w.length
 ·rw [Nat.min_eq_left h, List.take_of_length_le (by simp)]
 ·rw [Nat.min_eq_right (by omega), List.drop_eq_nil_of_le (Nat.le_refl _), List.drop_eq_nil_of_le (by omega)]; simp
theorem Zdu {α : Type} (w : List α) (k : Nat) : cutD w none (some (k : Int)) = w.take k := by
 unfold cutD
 rw [ZfS, ZeG]
 by_cases h : k ≤ w.length
 ·rw [Nat.min_eq_left h]; simp
 ·rw [Nat.min_eq_right (by omega), Nat.sub_zero, List.drop_zero, List.take_of_length_le (Nat.le_refl _), List.take_of_length_le (by omega)]
theorem Zct (n : Nat) (bs : List Int) : below n (Zg bs) = true := by
 unfold Zg below
 induction bs with
 | nil => rfl
 | cons b bs ih => simp only [List.map_cons, belowL, below, ih, Bool.and_self]
theorem ZmJ {bs : List Int} (h : bs.length = 8) {a : Nat} (ha : a < 8) : bs[a]? = some (bs.getD a 0) := by
 rw [List.getD_eq_getElem?_getD, List.getElem?_eq_getElem (by omega)]; rfl
theorem Zbd {bs : List Int} (h : bs.length = 8) {a : Nat} (ha : a < 8) : ∃ x, bs.getD a 0 = x ∧ ZaP (bs.map D.int) (a : Int) = some (.int x) := ⟨bs.getD a 0, rfl, by rw [Zcs, List.getElem?_map, ZmJ h ha]; rfl⟩
theorem ZmA {i j : Int} (h : -(2 ^ 64) < i ∧ i < 2 ^ 64) : Zbg i j = true := by
 unfold Zbg; rw [Bool.or_eq_true]; left; simp only [Bool.and_eq_true, decide_eq_true_eq]; exact h
theorem mul_r {i j : Int} (h : -(2 ^ 64) < j ∧ j < 2 ^ 64) : Zbg i j = true := by
 unfold Zbg; rw [Bool.or_eq_true]; right; simp only [Bool.and_eq_true, decide_eq_true_eq]; exact h
theorem ZbC (x : Int) (m : Nat) (h : 0 < m) : ∃ a : Nat, x % (m : Int) = a ∧ a < m := by
 have h1 := Int.emod_nonneg x (b := (m : Int)) (by omega)
 have h2 := Int.emod_lt_of_pos x (b := (m : Int)) (by omega)
 exact ⟨(x % (m : Int)).toNat, (Int.toNat_of_nonneg h1).symm, by omega⟩
theorem ZgB (n : Nat) (r : Zcc) : below n (Zk r) = true := by
 unfold Zk below
 induction r with
 | nil => rfl
 | cons x r ih =>
  simp only [List.map_cons, belowL, ih, Bool.and_true]
  cases x <;> rfl
noncomputable def Zhm : S3 := (sIf (e2 ZaU (Zb 4) (eC (.str [112, 117, 116]))) (Zaq (Zcy tyL ZaS (Zb 1) (Za (Za4 (Za (Zb 4) (Za (Zb 6) (Za (e2 Zo (Zb9 (Za (e2 Zan (e2 Zaz (Zb 5) (eC (.int 8))) (eC (.int 3))) (Za (e2 Zce (eC (.int 0)) (e2 Zan (e2 Zaz (Zb 5) (eC (.int 8))) (e2 Zdm (eC (.int 10)) (eC (.int 40))))) (Za (e2 Zan (e2 Zaz (Zb 5) (eC (.int 8))) (e2 Zdm (eC (.int 10)) (eC (.int 40)))) (Zj))))) (e2 Zan (Zb 7) (eC (.int 3)))) (Zj))))) (Zj)))) (sIf (e2 Zfa (Zb 4) (Zb9 (Za (eC (.str [97, 100, 100])) (Za (eC (.str [115, 117, 98])) (Za (eC (.str [109, 111, 114, 101])) (Zj)))))) (Zaq (Zcy tyL ZaS (Zb 1) (Za (Za4 (Za (Zb 4) (Za (Zb 6) (Za (Zb 7) (Za (Zb 8) (Zj)))))) (Zj)))) (sIf (e2 Zfa (Zb 4) (Zb9 (Za (eC (.str [103, 101, 116])) (Za (eC (.str [115, 101, 116])) (Zj))))) (Zaq (Zcy tyL ZaS (Zb 1) (Za (Za4 (Za (Zb 4) (Za (Zb 6) (Za (Zb 7) (Zj))))) (Zj)))) (sIf (e2 ZaU (Zb 4) (eC (.str [119, 104, 101, 110]))) (Zaq (Zcy tyL ZaS (Zb 1) (Za (Za4 (Za (Zb 4) (Za (Zb 6) (Za (Zb 9) (Zj))))) (Zj)))) (sIf (e2 ZaU (Zb 4) (eC (.str [106, 117, 109, 112]))) (Zaq (Zcy tyL ZaS (Zb 1) (Za (Za4 (Za (Zb 4) (Za (Zb 9) (Zj)))) (Zj)))) (Zaq (Zcy tyL ZaS (Zb 1) (Za (Za4 (Za (Zb 4) (Za (Zb 6) (Zj)))) (Zj)))))))))
noncomputable def ZjN : S3 := (Zaa (Zah 4 (e2 Zo (Zb9 (Za (eC (.str [112, 117, 116])) (Za (eC (.str [97, 100, 100])) (Za (eC (.str [115, 117, 98])) (Za (eC (.str [109, 111, 114, 101])) (Za (eC (.str [103, 101, 116])) (Za (eC (.str [115, 101, 116])) (Za (eC (.str [119, 104, 101, 110])) (Za (eC (.str [106, 117, 109, 112])) (Za (eC (.str [116, 101, 108, 108])) (Za (eC (.str [112, 117, 116])) (Zj)))))))))))) (e2 Zan (Zb 3) (eC (.int 10))))) (Zaa (Zah 5 (e2 Zaz (Zb 3) (eC (.int 10)))) (Zaa (Zah 6 (e2 Zan (Zb 5) (eC (.int 8)))) (Zaa (Zah 7 (e2 Zan (e2 Zaz (Zb 5) (eC (.int 8))) (eC (.int 8)))) (Zaa (Zah 8 (e2 Zan (e2 Zaz (Zb 5) (eC (.int 64))) (eC (.int 8)))) (Zaa (Zah 9 (e2 Zx (e2 Zx (Zb 2) (eC (.int 1))) (e2 Zan (e2 Zaz (Zb 5) (eC (.int 512))) (e2 Zce (ZaQ Zbe (Za (Zb 0) (Zj))) (Zb 2))))) (Zaa (sIf (e2 ZaU (e2 Zan (e2 Zaz (Zb 5) (eC (.int 5))) (eC (.int 4))) (eC (.int 1))) (Zah 9 (e2 Zan (e2 Zaz (Zb 5) (eC (.int 512))) (e2 Zx (ZaQ Zbe (Za (Zb 0) (Zj))) (eC (.int 1))))) (Zad)) Zhm)))))))
def kindB (j : Nat) : List Nat := [[112, 117, 116], [97, 100, 100], [115, 117, 98], [109, 111, 114, 101], [103, 101, 116], [115, 101, 116], [119, 104, 101, 110], [106, 117, 109, 112], [116, 101, 108, 108], [112, 117, 116]].getD j []
theorem Zml (n m0 : Nat) (k c many : Int) (cs : List D) (M : Store) (hn : M[n]? = some (.lst cs)) (hl : (cs.length : Int) = many) (hk : k < many) (h0 : 0 ≤ k) (x4 x5 x6 x7 x8 x9 x10 : Option D) (j : Nat) (hj : c % 10 = j) :
  ∃ G, ZjN [some (.ref n), some (.ref m0), some (.int k), some (.int c), x4, x5, x6, x7, x8, x9, x10] M = Zhm [some (.ref n), some (.ref m0), some (.int k), some (.int c), some (.str (kindB j)), some (.int (c / 10)), some (.int (c / 10 % 8)), some (.int (c / 10 / 8 % 8)), some (.int (c / 10 / 64 % 8)), some (.int (if c / 10 / 5 % 4 = 1 then c / 10 / 512 % (many + 1) else k + 1 + c / 10 / 512 % (many - k))), x10] (M ++ [G]) := by
 obtain ⟨G, hG⟩ : ∃ G : MO, G = .lst [.str [112, 117, 116], .str [97, 100, 100], .str [115, 117, 98], .str [109, 111, 114, 101], .str [103, 101, 116], .str [115, 101, 116], .str [119, 104, 101, 110], .str [106, 117, 109, 112], .str [116, 101, 108, 108], .str [112, 117, 116]] := ⟨_, rfl⟩
 refine ⟨G, ?_⟩
 unfold ZjN
 have hnG : (M ++ [G])[n]? = some (.lst cs) := ZaY hn _
 have h : j = 0 ∨ j = 1 ∨ j = 2 ∨ j = 3 ∨ j = 4 ∨ j = 5 ∨ j = 6 ∨ j = 7 ∨ j = 8 ∨ j = 9 := by omega
 rw [Ze (Zt (M' := M ++ [G]) (d := .str (kindB j)) (by rcases h with h | h | h | h | h | h | h | h | h | h <;> subst h <;> simp [hj, kindB, hG, ZaP, ixD]))]
 rw [Ze (Zt (M' := M ++ [G]) (d := .int (c / 10)) (by simp))]
 rw [Ze (Zt (M' := M ++ [G]) (d := .int (c / 10 % 8)) (by simp))]
 rw [Ze (Zt (M' := M ++ [G]) (d := .int (c / 10 / 8 % 8)) (by simp))]
 rw [Ze (Zt (M' := M ++ [G]) (d := .int (c / 10 / 64 % 8)) (by simp))]
 have p1 : 0 < many - k := by omega
 have p2 : 0 < many + 1 := by omega
 rw [Ze (Zt (M' := M ++ [G]) (d := .int (k + 1 + c / 10 / 512 % (many - k))) (by simp [hnG, hl, hk]))]
 by_cases z : c / 10 / 5 % 4 = 1
 ·rw [Ze (M' := M ++ [G]) (env' := [some (.ref n), some (.ref m0), some (.int k), some (.int c), some (.str (kindB j)), some (.int (c / 10)), some (.int (c / 10 % 8)), some (.int (c / 10 / 8 % 8)), some (.int (c / 10 / 64 % 8)), some (.int (c / 10 / 512 % (many + 1))), x10]) (by rw [ZaR (M' := M ++ [G]) (by simp [z])]; exact Zt (d := .int (c / 10 / 512 % (many + 1))) (by simp [hnG, hl, p2]))]
  rw [if_pos z]
 ·rw [Ze (Zh (M' := M ++ [G]) (by simp [z])), if_neg z]
theorem Zif (n m0 many : Nat) (k c p : Int) (a b d q j : Nat) (rows : List Row) (M : Store) (x10 : Option D) (hm : M[m0]? = some (.lst (rows.map Zf))) (hr : rows.length ≤ 63) (la : a < 8) (lb : b < 8) (ld : d < 8) (lq : q < many) (hj : j < 10) :
  ∃ (r : Row) (G : Store), r.ok many ∧ Zhm [some (.ref n), some (.ref m0), some (.int k), some (.int c), some (.str (kindB j)), some (.int p), some (.int a), some (.int b), some (.int d), some (.int q), x10] M = .nx [some (.ref n), some (.ref m0), some (.int k), some (.int c), some (.str (kindB j)), some (.int p), some (.int a), some (.int b), some (.int d), some (.int q), x10] ((M ++ G).set m0 (.lst (rows.map Zf ++ [Zf r]))) := by
 have hmG : ∀ G, (M ++ G)[m0]? = some (.lst (rows.map Zf)) := fun G => ZaY hm G
 have lz : rows.length < 1000000 := by omega
 obtain ⟨v, hv⟩ : ∃ v : Int, ZaP [D.int (p / 8 % 3), D.int (-(p / 8 % 10000000000000000000000000000000000000000)), D.int (p / 8 % 10000000000000000000000000000000000000000)] ((b : Int) % 3) = some (.int v) := by
  have h : (b : Int) % 3 = 0 ∨ (b : Int) % 3 = 1 ∨ (b : Int) % 3 = 2 := by omega
  rcases h with h | h | h <;> rw [h] <;> exact ⟨_, rfl⟩
 have h : j = 0 ∨ j = 1 ∨ j = 2 ∨ j = 3 ∨ j = 4 ∨ j = 5 ∨ j = 6 ∨ j = 7 ∨ j = 8 ∨ j = 9 := by omega
 unfold Zhm
 rcases h with h | h | h | h | h | h | h | h | h | h <;> subst h
 ·refine ⟨.put a v, [.lst [D.int (p / 8 % 3), D.int (-(p / 8 % 10000000000000000000000000000000000000000)), D.int (p / 8 % 10000000000000000000000000000000000000000)]], la, ?_⟩
  rw [ZaR (M' := M) (by simp [kindB, Zac, deq])]
  simp [Zaq, kindB, hv, hm, hmG, lz, Zf]
 ·refine ⟨.add a b d, [.lst [.str [97, 100, 100], .str [115, 117, 98], .str [109, 111, 114, 101]]], ⟨la, lb, ld⟩, ?_⟩
  rw [Zb1 (M' := M) (by simp [kindB, Zac, deq])]
  rw [ZaR (M' := M ++ [.lst [.str [97, 100, 100], .str [115, 117, 98], .str [109, 111, 114, 101]]]) (by simp [kindB, Zac, deq])]
  simp [Zaq, kindB, hm, hmG, lz, Zf]
 ·refine ⟨.sub a b d, [.lst [.str [97, 100, 100], .str [115, 117, 98], .str [109, 111, 114, 101]]], ⟨la, lb, ld⟩, ?_⟩
  rw [Zb1 (M' := M) (by simp [kindB, Zac, deq])]
  rw [ZaR (M' := M ++ [.lst [.str [97, 100, 100], .str [115, 117, 98], .str [109, 111, 114, 101]]]) (by simp [kindB, Zac, deq])]
  simp [Zaq, kindB, hm, hmG, lz, Zf]
 ·refine ⟨.more a b d, [.lst [.str [97, 100, 100], .str [115, 117, 98], .str [109, 111, 114, 101]]], ⟨la, lb, ld⟩, ?_⟩
  rw [Zb1 (M' := M) (by simp [kindB, Zac, deq])]
  rw [ZaR (M' := M ++ [.lst [.str [97, 100, 100], .str [115, 117, 98], .str [109, 111, 114, 101]]]) (by simp [kindB, Zac, deq])]
  simp [Zaq, kindB, hm, hmG, lz, Zf]
 ·refine ⟨.get a b, [.lst [.str [97, 100, 100], .str [115, 117, 98], .str [109, 111, 114, 101]], .lst [.str [103, 101, 116], .str [115, 101, 116]]], ⟨la, lb⟩, ?_⟩
  rw [Zb1 (M' := M) (by simp [kindB, Zac, deq])]
  rw [Zb1 (M' := M ++ [.lst [.str [97, 100, 100], .str [115, 117, 98], .str [109, 111, 114, 101]]]) (by simp [kindB, Zac, deq])]
  rw [ZaR (M' := M ++ [.lst [.str [97, 100, 100], .str [115, 117, 98], .str [109, 111, 114, 101]]] ++ [.lst [.str [103, 101, 116], .str [115, 101, 116]]]) (by simp [kindB, Zac, deq])]
  simp [Zaq, kindB, hm, hmG, lz, Zf]
 ·refine ⟨.set a b, [.lst [.str [97, 100, 100], .str [115, 117, 98], .str [109, 111, 114, 101]], .lst [.str [103, 101, 116], .str [115, 101, 116]]], ⟨la, lb⟩, ?_⟩
  rw [Zb1 (M' := M) (by simp [kindB, Zac, deq])]
  rw [Zb1 (M' := M ++ [.lst [.str [97, 100, 100], .str [115, 117, 98], .str [109, 111, 114, 101]]]) (by simp [kindB, Zac, deq])]
  rw [ZaR (M' := M ++ [.lst [.str [97, 100, 100], .str [115, 117, 98], .str [109, 111, 114, 101]]] ++ [.lst [.str [103, 101, 116], .str [115, 101, 116]]]) (by simp [kindB, Zac, deq])]
  simp [Zaq, kindB, hm, hmG, lz, Zf]
 ·refine ⟨.when a q, [.lst [.str [97, 100, 100], .str [115, 117, 98], .str [109, 111, 114, 101]], .lst [.str [103, 101, 116], .str [115, 101, 116]]], ⟨la, lq⟩, ?_⟩
  rw [Zb1 (M' := M) (by simp [kindB, Zac, deq])]
  rw [Zb1 (M' := M ++ [.lst [.str [97, 100, 100], .str [115, 117, 98], .str [109, 111, 114, 101]]]) (by simp [kindB, Zac, deq])]
  rw [Zb1 (M' := M ++ [.lst [.str [97, 100, 100], .str [115, 117, 98], .str [109, 111, 114, 101]]] ++ [.lst [.str [103, 101, 116], .str [115, 101, 116]]]) (by simp [kindB, Zac, deq])]
  rw [ZaR (M' := M ++ [.lst [.str [97, 100, 100], .str [115, 117, 98], .str [109, 111, 114, 101]]] ++ [.lst [.str [103, 101, 116], .str [115, 101, 116]]]) (by simp [kindB, Zac, deq])]
  simp [Zaq, kindB, hm, hmG, lz, Zf]
 ·refine ⟨.jump q, [.lst [.str [97, 100, 100], .str [115, 117, 98], .str [109, 111, 114, 101]], .lst [.str [103, 101, 116], .str [115, 101, 116]]], lq, ?_⟩
  rw [Zb1 (M' := M) (by simp [kindB, Zac, deq])]
  rw [Zb1 (M' := M ++ [.lst [.str [97, 100, 100], .str [115, 117, 98], .str [109, 111, 114, 101]]]) (by simp [kindB, Zac, deq])]
  rw [Zb1 (M' := M ++ [.lst [.str [97, 100, 100], .str [115, 117, 98], .str [109, 111, 114, 101]]] ++ [.lst [.str [103, 101, 116], .str [115, 101, 116]]]) (by simp [kindB, Zac, deq])]
  rw [Zb1 (M' := M ++ [.lst [.str [97, 100, 100], .str [115, 117, 98], .str [109, 111, 114, 101]]] ++ [.lst [.str [103, 101, 116], .str [115, 101, 116]]]) (by simp [kindB, Zac, deq])]
  rw [ZaR (M' := M ++ [.lst [.str [97, 100, 100], .str [115, 117, 98], .str [109, 111, 114, 101]]] ++ [.lst [.str [103, 101, 116], .str [115, 101, 116]]]) (by simp [kindB, Zac, deq])]
  simp [Zaq, kindB, hm, hmG, lz, Zf]
 ·refine ⟨.tell a, [.lst [.str [97, 100, 100], .str [115, 117, 98], .str [109, 111, 114, 101]], .lst [.str [103, 101, 116], .str [115, 101, 116]]], la, ?_⟩
  rw [Zb1 (M' := M) (by simp [kindB, Zac, deq])]
  rw [Zb1 (M' := M ++ [.lst [.str [97, 100, 100], .str [115, 117, 98], .str [109, 111, 114, 101]]]) (by simp [kindB, Zac, deq])]
  rw [Zb1 (M' := M ++ [.lst [.str [97, 100, 100], .str [115, 117, 98], .str [109, 111, 114, 101]]] ++ [.lst [.str [103, 101, 116], .str [115, 101, 116]]]) (by simp [kindB, Zac, deq])]
  rw [Zb1 (M' := M ++ [.lst [.str [97, 100, 100], .str [115, 117, 98], .str [109, 111, 114, 101]]] ++ [.lst [.str [103, 101, 116], .str [115, 101, 116]]]) (by simp [kindB, Zac, deq])]
  rw [Zb1 (M' := M ++ [.lst [.str [97, 100, 100], .str [115, 117, 98], .str [109, 111, 114, 101]]] ++ [.lst [.str [103, 101, 116], .str [115, 101, 116]]]) (by simp [kindB, Zac, deq])]
  simp [Zaq, kindB, hm, hmG, lz, Zf]
 ·refine ⟨.put a v, [.lst [D.int (p / 8 % 3), D.int (-(p / 8 % 10000000000000000000000000000000000000000)), D.int (p / 8 % 10000000000000000000000000000000000000000)]], la, ?_⟩
  rw [ZaR (M' := M) (by simp [kindB, Zac, deq])]
  simp [Zaq, kindB, hv, hm, hmG, lz, Zf]
theorem ZhC (cs : List D) (n k m0 : Nat) (c : Int) (rows : List Row) (M : Store) (x4 x5 x6 x7 x8 x9 x10 : Option D) (hn : M[n]? = some (.lst cs)) (hm : M[m0]? = some (.lst (rows.map Zf))) (hne : n ≠ m0) (hk : k < cs.length) (hr : rows.length ≤ 63) :
  ∃ (r : Row) (M' : Store) (y4 y5 y6 y7 y8 y9 : Option D), r.ok (cs.length + 1) ∧ ZjN [some (.ref n), some (.ref m0), some (.int (k : Int)), some (.int c), x4, x5, x6, x7, x8, x9, x10] M = .nx [some (.ref n), some (.ref m0), some (.int (k : Int)), some (.int c), y4, y5, y6, y7, y8, y9, x10] M' ∧ M'[n]? = some (.lst cs) ∧ M'[m0]? = some (.lst ((rows ++ [r]).map Zf)) ∧ M'.take m0 = M.take m0 := by
 have hnl := (List.getElem?_eq_some_iff.mp hn).1
 have hml := (List.getElem?_eq_some_iff.mp hm).1
 obtain ⟨a, ha, la⟩ := ZbC (c / 10) 8 (by omega)
 obtain ⟨b, hb, lb⟩ := ZbC (c / 10 / 8) 8 (by omega)
 obtain ⟨d, hd, ld⟩ := ZbC (c / 10 / 64) 8 (by omega)
 obtain ⟨j, hj, lj⟩ := ZbC c 10 (by omega)
 have b1 := Int.emod_nonneg (c / 10 / 512) (b := (cs.length : Int) - k) (by omega)
 have b2 := Int.emod_lt_of_pos (c / 10 / 512) (b := (cs.length : Int) - k) (by omega)
 have b3 := Int.emod_nonneg (c / 10 / 512) (b := (cs.length : Int) + 1) (by omega)
 have b4 := Int.emod_lt_of_pos (c / 10 / 512) (b := (cs.length : Int) + 1) (by omega)
 obtain ⟨q, hq, lq⟩ : ∃ q : Nat, (if c / 10 / 5 % 4 = 1 then c / 10 / 512 % ((cs.length : Int) + 1) else (k : Int) + 1 + c / 10 / 512 % ((cs.length : Int) - k)) = (q : Int) ∧ q < cs.length + 1 := by
  split
  ·exact ⟨(c / 10 / 512 % ((cs.length : Int) + 1)).toNat, by omega, by omega⟩
  ·exact ⟨((k : Int) + 1 + c / 10 / 512 % ((cs.length : Int) - k)).toNat, by omega, by omega⟩
 obtain ⟨G, h1⟩ := Zml n m0 k c cs.length cs M hn rfl (by omega) (by omega) x4 x5 x6 x7 x8 x9 x10 j hj
 rw [hq] at h1
 have ha' : c / 10 % 8 = (a : Int) := ha
 have hb' : c / 10 / 8 % 8 = (b : Int) := hb
 have hd' : c / 10 / 64 % 8 = (d : Int) := hd
 rw [ha', hb', hd'] at h1
 obtain ⟨r, G2, ok, h2⟩ := Zif n m0 (cs.length + 1) k c (c / 10) a b d q j rows (M ++ [G]) x10 (ZaY hm _) hr la lb ld lq lj
 refine ⟨r, _, _, _, _, _, _, _, ok, h1.trans h2, ?_, ?_, ?_⟩
 ·rw [List.getElem?_set_ne (Ne.symm hne)]; exact ZaY (ZaY hn _) G2
 ·rw [List.getElem?_set_self (by simp; omega)]; simp
 ·rw [List.take_set_of_le (Nat.le_refl _), List.append_assoc, List.take_append_of_le_length (by omega)]
theorem Zev (cs : List Int) (n m0 : Nat) (hne : n ≠ m0) (hl : cs.length ≤ 63) (x10 : Option D) : ∀ (ds : List Int) (k : Nat) (rows : List Row) (M : Store) (x2 x3 x4 x5 x6 x7 x8 x9 : Option D), k + ds.length = cs.length → rows.length = k → (∀ r ∈ rows, r.ok (cs.length + 1)) → M[n]? = some (.lst (cs.map D.int)) → M[m0]? = some (.lst (rows.map Zf)) →
  ∃ (rows' : List Row) (M' : Store) (y2 y3 y4 y5 y6 y7 y8 y9 : Option D), rows'.length = cs.length ∧ (∀ r ∈ rows', r.ok (cs.length + 1)) ∧ Zdi [(n, cs.map D.int)] (Zdn [2, 3]) ZjN (ZcH k (ds.map D.int)) [some (.ref n), some (.ref m0), x2, x3, x4, x5, x6, x7, x8, x9, x10] M = .nx [some (.ref n), some (.ref m0), y2, y3, y4, y5, y6, y7, y8, y9, x10] M' ∧ M'[n]? = some (.lst (cs.map D.int)) ∧ M'[m0]? = some (.lst (rows'.map Zf)) ∧ M'.take m0 = M.take m0
 | [], k, rows, M, x2, x3, x4, x5, x6, x7, x8, x9, hk, hr, ho, hn, hm => by
  simp only [List.length_nil] at hk
  refine ⟨rows, M, x2, x3, x4, x5, x6, x7, x8, x9, by omega, ho, ?_, hn, hm, rfl⟩
  simp [ZcH, Zdi, Zcj, hn]
 | c :: ds, k, rows, M, x2, x3, x4, x5, x6, x7, x8, x9, hk, hr, ho, hn, hm => by
  simp only [List.length_cons] at hk
  obtain ⟨r, M1, y4, y5, y6, y7, y8, y9, ok, h1, hn1, hm1, ht⟩ := ZhC (cs.map D.int) n k m0 c rows M x4 x5 x6 x7 x8 x9 x10 hn hm hne (by simp; omega) (by omega)
  rw [List.length_map] at ok
  obtain ⟨rows', M', z2, z3, z4, z5, z6, z7, z8, z9, l', o', h2, hn2, hm2, ht2⟩ := Zev cs n m0 hne hl x10 ds (k + 1) (rows ++ [r]) M1 (some (.int (k : Int))) (some (.int c)) y4 y5 y6 y7 y8 y9 (by omega) (by simp [hr]) (fun q hq => by
   rcases List.mem_append.mp hq with h | h
   ·exact ho q h
   ·rw [List.mem_singleton.mp h]; exact ok) hn1 hm1
  refine ⟨rows', M', z2, z3, z4, z5, z6, z7, z8, z9, l', o', ?_, hn2, hm2, ht2.trans ht⟩
  have lk : Zcj [(n, cs.map D.int)] M = true := by simp [Zcj, hn]
  simp only [List.map_cons, ZcH, Zdi, lk, if_true, Zdn, bindAll, List.set_cons_succ, List.set_cons_zero]
  rw [h1]
  exact h2
theorem getD_last (q : List Int) (l : Int) : ZaP ((q ++ [l]).map D.int) (-1) = some (.int l) := by
 have h : ixD ((q ++ [l]).map D.int).length (-1) = some q.length := by
  simp [ixD] <;> omega
 rw [ZaP, h]
 simp
noncomputable def Zj9 : S3 := (Zaa (Zah 10 (Za4 (Za (eC (.str [104, 97, 108, 116])) (Zj)))) (Zaa (sIf (Zc9 (e2 ZgU (ZaQ Zbe (Za (Zb 0) (Zj))) (eC (.int 0))) (e2 ZaU (e2 Zan (e2 Zo (Zb 0) (e1 Zc2 (eC (.int 1)))) (eC (.int 4))) (eC (.int 1)))) (Zah 10 (Za4 (Za (eC (.str [106, 117, 109, 112])) (Za (e2 Zan (e2 Zaz (e2 Zo (Zb 0) (e1 Zc2 (eC (.int 1)))) (eC (.int 4))) (e2 Zx (ZaQ Zbe (Za (Zb 0) (Zj))) (eC (.int 1)))) (Zj))))) (Zad)) (Zam (ZaQ ZbL (Za (e2 Zx (Zb 1) (Zb9 (Za (Zb 10) (Zj)))) (Zj))))))
theorem Zij (cs : List Int) (n m0 : Nat) (rows : List Row) (M : Store) (hn : M[n]? = some (.lst (cs.map D.int))) (hm : M[m0]? = some (.lst (rows.map Zf))) (hl : cs.length ≤ 63) (hr : rows.length = cs.length) (x2 x3 x4 x5 x6 x7 x8 x9 : Option D) :
  ∃ (r : Row) (G : Store), r.ok (cs.length + 1) ∧ (r = .halt ∨ ∃ k, r = .jump k) ∧ Zj9 [some (.ref n), some (.ref m0), x2, x3, x4, x5, x6, x7, x8, x9, none] M = .rt (Zk (rows ++ [r])) (M ++ G) := by
 have fin : ∀ r : Row, (Zam (ZaQ ZbL (Za (e2 Zx (Zb 1) (Zb9 (Za (Zb 10) (Zj)))) (Zj)))) [some (.ref n), some (.ref m0), x2, x3, x4, x5, x6, x7, x8, x9, some (Zf r)] M = .rt (Zk (rows ++ [r])) (M ++ [.lst [Zf r], .lst ((rows ++ [r]).map Zf)]) := fun r => by
  have g1 : (M ++ [MO.lst [Zf r]])[m0]? = some (.lst (rows.map Zf)) := ZaY hm _
  have lz : rows.length + 1 ≤ 1000000 := by omega
  refine Zbx ?_
  simp [g1, Zk, lz]
 unfold Zj9
 rw [Ze (Zt (M' := M) (d := Zf .halt) (by simp [Zf]))]
 rcases List.eq_nil_or_concat cs with e | ⟨q, l, e⟩
 ·subst e
  refine ⟨.halt, [.lst [Zf .halt], .lst ((rows ++ [Row.halt]).map Zf)], trivial, .inl rfl, ?_⟩
  rw [Ze (Zh (M' := M) (by simp [hn]))]
  exact fin .halt
 ·rw [List.concat_eq_append] at e
  have e1 : ZaP (cs.map D.int) (-1) = some (.int l) := by rw [e]; exact getD_last q l
  have p0 : 0 < cs.length := by rw [e]; simp
  by_cases z : l % 4 = 1
  ·obtain ⟨k, hk, lk⟩ := ZbC (l / 4) (cs.length + 1) (by omega)
   have hk' : l / 4 % ((cs.length : Int) + 1) = k := hk
   refine ⟨.jump k, [.lst [Zf (.jump k)], .lst ((rows ++ [Row.jump k]).map Zf)], lk, .inr ⟨k, rfl⟩, ?_⟩
   rw [Ze (env' := [some (.ref n), some (.ref m0), x2, x3, x4, x5, x6, x7, x8, x9, some (Zf (.jump k))]) (M' := M) (by rw [ZaR (M' := M) (by simp [hn, e1, p0, z])]; exact Zt (d := Zf (.jump k)) (by simp [hn, e1, hk', Zf]))]
   exact fin (.jump k)
  ·refine ⟨.halt, [.lst [Zf .halt], .lst ((rows ++ [Row.halt]).map Zf)], trivial, .inl rfl, ?_⟩
   rw [Ze (Zh (M' := M) (by simp [hn, e1, p0, z]))]
   exact fin .halt
theorem Zia (cs : List Int) (n : Nat) (M : Store) (hn : M[n]? = some (.lst (cs.map D.int))) (hl : cs.length ≤ 63) :
  ∃ roll : Zcc, roll.length = cs.length + 1 ∧ ZbM roll ∧ ZcB [.ref n] M = .ok (Zk roll) M := by
 have hnl := (List.getElem?_eq_some_iff.mp hn).1
 obtain ⟨rows, M', y2, y3, y4, y5, y6, y7, y8, y9, lr, ok, h, hn', hm', ht⟩ := Zev cs n M.length (by omega) hl none cs 0 [] (M ++ [.lst []]) none none none none none none none none (by omega) rfl (by simp) (ZaY hn _) (by simp)
 obtain ⟨r, G, rok, rl, h2⟩ := Zij cs n M.length rows M' hn' hm' hl lr y2 y3 y4 y5 y6 y7 y8 y9
 have hM' : M' = M ++ M'.drop M.length := by
  have e := List.take_append_drop M.length M'
  rw [ht] at e
  rw [← e]; simp
 have hb : Zda [some (.ref n), none, none, none, none, none, none, none, none, none, none] M = .rt (Zk (rows ++ [r])) (M ++ (M'.drop M.length ++ G)) := by
  rw [← List.append_assoc, ← hM', ← h2]
  refine (Ze (Zt (M' := M ++ [.lst []]) (d := .ref M.length) (by simp))).trans ?_
  refine Ze ?_
  rw [Zg2]
  have hi : ZiZ (Zb 0) [some (.ref n), some (.ref M.length), none, none, none, none, none, none, none, none, none] (M ++ [.lst []]) = .ok ⟨ZcH 0 (cs.map D.int), [(n, cs.map D.int)]⟩ (M ++ [.lst []]) := by
   have := ZaY hn [MO.lst []]
   simp [this]
  rw [hi]
  exact h
 refine ⟨rows ++ [r], by simp [lr], ⟨fun x hx => ?_, rows, r, rfl, rl⟩, Rt.pure hb (ZgB _ _)⟩
 rw [List.length_append, List.length_singleton, lr]
 rcases List.mem_append.mp hx with hx | hx
 ·exact ok x hx
 ·rw [List.mem_singleton.mp hx]; exact rok
theorem ZdD {fb fi fv : E3} {env : ZaD} {M : Store} {bs : List Int} {a : Nat} {v : Int} (hb : fb env M = .ok (Zg bs) M) (hi : fi env M = .ok (.int a) M) (hv : fv env M = .ok (.int v) M) (ha : a < bs.length) (hl : bs.length ≤ 1000) :
  (e2 Zx (e2 Zx (eSl fb (ZaB) (ZaC fi)) (Za4 (Za fv (Zj)))) (eSl fb (ZaC (e2 Zx fi (eC (.int 1)))) (ZaB))) env M = .ok (Zg (bs.set a v)) M := by
 have c1 : cutD (bs.map D.int) none (some (a : Int)) = (bs.take a).map D.int := by rw [Zdu, List.map_take]
 have c2 : cutD (bs.map D.int) (some ((a : Int) + 1)) none = (bs.drop (a + 1)).map D.int := by
  rw [show ((a : Int) + 1) = ((a + 1 : Nat) : Int) by omega, ZdH, List.map_drop]
 have s1 : eSl fb (ZaB) (ZaC fi) env M = .ok (.tup ((bs.take a).map D.int)) M := by
  simp only [eSl, ZaB, ZaC, hb, hi, R3.bind, Zeb, Zg, c1]
 have s2 : eSl fb (ZaC (e2 Zx fi (eC (.int 1)))) (ZaB) env M = .ok (.tup ((bs.drop (a + 1)).map D.int)) M := by
  simp only [eSl, e2, eC, Zx, ZaB, ZaC, hb, hi, R3.bind, Zeb, Zg, c2]
 have s3 : Za4 (Za fv (Zj)) env M = .ok (.tup [.int v]) M := by simp [hv]
 have a1 : Zx (.tup ((bs.take a).map D.int)) (.tup [.int v]) M = .ok (.tup ((bs.take a).map D.int ++ [.int v])) M := by
  simp only [Zx]; rw [if_pos (by simp; omega)]
 refine (Zcr (Zcr s1 s3 a1) s2 ?_)
 simp only [Zx]
 rw [if_pos (by simp; omega), Zg, List.set_eq_take_append_cons_drop, if_pos ha]
 simp
def ZaO (r : Row) (bs : List Int) (held : Int) : List Int := match r with
 | .get a _ => bs.set a held
 | r => r.boxes bs []
theorem ZgW (c : Int) : ∃ v : Int, ∀ M, Zai [.int c] M = .ok (.int v) M := by
 by_cases h : c % 4 = 0
 ·exact ⟨c / 4 % 10 ^ 40, fun M => by simp [Zai, ZbI, Zaa, Zah, Zam, sIf, Zad, Zaq, mkF, Zb2, below, belowL, Zbg, h]⟩
 ·by_cases h' : c % 4 = 1
  ·exact ⟨-1 - c / 4 % 10 ^ 40, fun M => by simp [Zai, ZbI, Zaa, Zah, Zam, sIf, Zad, Zaq, mkF, Zb2, below, belowL, Zbg, h']⟩
  ·exact ⟨c / 4 % 5, fun M => by simp [Zai, ZbI, Zaa, Zah, Zam, sIf, Zad, Zaq, mkF, Zb2, below, belowL, Zbg, h, h']⟩
theorem Ze9 (r : Row) (p : Nat) (bs : List Int) (held : Int) (many : Nat) (hr : r.ok many) (hb : bs.length = 8) (M : Store) : ZaN [Zf r, .int p, Zg bs, .int held] M = .ok (.tup [.int (r.place bs p : Nat), Zg (ZaO r bs held)]) M := by
 have fin : ∀ G, Zat [some (Zf r), some (.int p), some (Zg bs), some (.int held), none] M = .rt (.tup [.int (r.place bs p : Nat), Zg (ZaO r bs held)]) (M ++ G) → ZaN [Zf r, .int p, Zg bs, .int held] M = .ok (.tup [.int (r.place bs p : Nat), Zg (ZaO r bs held)]) M := fun G h => Rt.pure h (by simp [below, belowL, Zct])
 have g0 : ZaP [D.int 0, D.int 1] 0 = some (.int 0) := rfl
 have g1 : ZaP [D.int 0, D.int 1] 1 = some (.int 1) := rfl
 cases r with
 | put a n =>
  refine fin [] ?_
  rw [List.append_nil]
  unfold Zat
  rw [Ze (Zt (M' := M) (d := .int ((p + 1 : Nat) : Int)) (by simp))]
  rw [Ze (Zt (M' := M) (d := .non) (by simp))]
  rw [Ze (env' := [some (Zf (.put a n)), some (.int ((p + 1 : Nat) : Int)), some (Zg bs), some (.int held), some (.int (n))]) (M' := M) (by rw [ZaR (M' := M) (by simp [Zf])]; exact Zt (d := .int (n)) (by simp [Zf, -Zaj]))]
  rw [Ze (Zh (M' := M) (by simp [Zf]))]
  rw [Ze (Zh (M' := M) (by simp [Zf]))]
  rw [Ze (Zh (M' := M) (by simp [Zf]))]
  rw [Ze (Zh (M' := M) (by simp [Zf]))]
  rw [Ze (Zh (M' := M) (by simp [Zf]))]
  rw [Ze (env' := [some (Zf (.put a n)), some (.int ((p + 1 : Nat) : Int)), some (Zg (bs.set a n)), some (.int held), some (.int (n))]) (M' := M) (by rw [ZaR (M' := M) (by simp)]; exact Zt (ZdD (a := a) (v := n) rfl (by simp [Zf]) rfl (by rw [hb]; exact hr) (by omega)))]
  simp only [ZaO, Row.place, Row.boxes]
  simp [Zam]
 | add a b c =>
  obtain ⟨x, hx, gx⟩ := Zbd hb hr.2.1
  obtain ⟨y, hy, gy⟩ := Zbd hb hr.2.2
  refine fin [] ?_
  rw [List.append_nil]
  unfold Zat
  rw [Ze (Zt (M' := M) (d := .int ((p + 1 : Nat) : Int)) (by simp))]
  rw [Ze (Zt (M' := M) (d := .non) (by simp))]
  rw [Ze (Zh (M' := M) (by simp [Zf]))]
  rw [Ze (env' := [some (Zf (.add a b c)), some (.int ((p + 1 : Nat) : Int)), some (Zg bs), some (.int held), some (.int (x + y))]) (M' := M) (by rw [ZaR (M' := M) (by simp [Zf])]; exact Zt (d := .int (x + y)) (by simp [Zf, Zg, gx, gy, -Zaj]))]
  rw [Ze (Zh (M' := M) (by simp [Zf]))]
  rw [Ze (Zh (M' := M) (by simp [Zf]))]
  rw [Ze (Zh (M' := M) (by simp [Zf]))]
  rw [Ze (Zh (M' := M) (by simp [Zf]))]
  rw [Ze (env' := [some (Zf (.add a b c)), some (.int ((p + 1 : Nat) : Int)), some (Zg (bs.set a (x + y))), some (.int held), some (.int (x + y))]) (M' := M) (by rw [ZaR (M' := M) (by simp)]; exact Zt (ZdD (a := a) (v := x + y) rfl (by simp [Zf]) rfl (by rw [hb]; exact hr.1) (by omega)))]
  simp only [ZaO, Row.place, Row.boxes, hx, hy]
  simp [Zam]
 | sub a b c =>
  obtain ⟨x, hx, gx⟩ := Zbd hb hr.2.1
  obtain ⟨y, hy, gy⟩ := Zbd hb hr.2.2
  refine fin [] ?_
  rw [List.append_nil]
  unfold Zat
  rw [Ze (Zt (M' := M) (d := .int ((p + 1 : Nat) : Int)) (by simp))]
  rw [Ze (Zt (M' := M) (d := .non) (by simp))]
  rw [Ze (Zh (M' := M) (by simp [Zf]))]
  rw [Ze (Zh (M' := M) (by simp [Zf]))]
  rw [Ze (env' := [some (Zf (.sub a b c)), some (.int ((p + 1 : Nat) : Int)), some (Zg bs), some (.int held), some (.int (x - y))]) (M' := M) (by rw [ZaR (M' := M) (by simp [Zf])]; exact Zt (d := .int (x - y)) (by simp [Zf, Zg, gx, gy, -Zaj]))]
  rw [Ze (Zh (M' := M) (by simp [Zf]))]
  rw [Ze (Zh (M' := M) (by simp [Zf]))]
  rw [Ze (Zh (M' := M) (by simp [Zf]))]
  rw [Ze (env' := [some (Zf (.sub a b c)), some (.int ((p + 1 : Nat) : Int)), some (Zg (bs.set a (x - y))), some (.int held), some (.int (x - y))]) (M' := M) (by rw [ZaR (M' := M) (by simp)]; exact Zt (ZdD (a := a) (v := x - y) rfl (by simp [Zf]) rfl (by rw [hb]; exact hr.1) (by omega)))]
  simp only [ZaO, Row.place, Row.boxes, hx, hy]
  simp [Zam]
 | more a b c =>
  obtain ⟨x, hx, gx⟩ := Zbd hb hr.2.1
  obtain ⟨y, hy, gy⟩ := Zbd hb hr.2.2
  refine fin [.lst [.int 0, .int 1]] ?_
  unfold Zat
  rw [Ze (Zt (M' := M) (d := .int ((p + 1 : Nat) : Int)) (by simp))]
  rw [Ze (Zt (M' := M) (d := .non) (by simp))]
  rw [Ze (Zh (M' := M) (by simp [Zf]))]
  rw [Ze (Zh (M' := M) (by simp [Zf]))]
  rw [Ze (Zh (M' := M) (by simp [Zf]))]
  rw [Ze (env' := [some (Zf (.more a b c)), some (.int ((p + 1 : Nat) : Int)), some (Zg bs), some (.int held), some (.int (if y < x then 1 else 0))]) (M' := M ++ [.lst [.int 0, .int 1]]) (by rw [ZaR (M' := M) (by simp [Zf])]; exact Zt (d := .int (if y < x then 1 else 0)) (by by_cases q : y < x <;> simp [Zf, Zg, gx, gy, q, g0, g1, -Zaj]))]
  rw [Ze (Zh (M' := M ++ [.lst [.int 0, .int 1]]) (by simp [Zf]))]
  rw [Ze (Zh (M' := M ++ [.lst [.int 0, .int 1]]) (by simp [Zf]))]
  rw [Ze (env' := [some (Zf (.more a b c)), some (.int ((p + 1 : Nat) : Int)), some (Zg (bs.set a (if y < x then 1 else 0))), some (.int held), some (.int (if y < x then 1 else 0))]) (M' := M ++ [.lst [.int 0, .int 1]]) (by rw [ZaR (M' := M ++ [.lst [.int 0, .int 1]]) (by simp)]; exact Zt (ZdD (a := a) (v := if y < x then 1 else 0) rfl (by simp [Zf]) rfl (by rw [hb]; exact hr.1) (by omega)))]
  simp only [ZaO, Row.place, Row.boxes, hx, hy]
  simp [Zam]
 | get a b =>
  refine fin [] ?_
  rw [List.append_nil]
  unfold Zat
  rw [Ze (Zt (M' := M) (d := .int ((p + 1 : Nat) : Int)) (by simp))]
  rw [Ze (Zt (M' := M) (d := .non) (by simp))]
  rw [Ze (Zh (M' := M) (by simp [Zf]))]
  rw [Ze (Zh (M' := M) (by simp [Zf]))]
  rw [Ze (Zh (M' := M) (by simp [Zf]))]
  rw [Ze (Zh (M' := M) (by simp [Zf]))]
  rw [Ze (env' := [some (Zf (.get a b)), some (.int ((p + 1 : Nat) : Int)), some (Zg bs), some (.int held), some (.int (held))]) (M' := M) (by rw [ZaR (M' := M) (by simp [Zf])]; exact Zt (d := .int (held)) (by simp [Zf, -Zaj]))]
  rw [Ze (Zh (M' := M) (by simp [Zf]))]
  rw [Ze (env' := [some (Zf (.get a b)), some (.int ((p + 1 : Nat) : Int)), some (Zg (bs.set a held)), some (.int held), some (.int (held))]) (M' := M) (by rw [ZaR (M' := M) (by simp)]; exact Zt (ZdD (a := a) (v := held) rfl (by simp [Zf]) rfl (by rw [hb]; exact hr.1) (by omega)))]
  simp only [ZaO, Row.place, Row.boxes]
  simp [Zam]
 | set a b =>
  refine fin [] ?_
  rw [List.append_nil]
  unfold Zat
  rw [Ze (Zt (M' := M) (d := .int ((p + 1 : Nat) : Int)) (by simp))]
  rw [Ze (Zt (M' := M) (d := .non) (by simp))]
  rw [Ze (Zh (M' := M) (by simp [Zf]))]
  rw [Ze (Zh (M' := M) (by simp [Zf]))]
  rw [Ze (Zh (M' := M) (by simp [Zf]))]
  rw [Ze (Zh (M' := M) (by simp [Zf]))]
  rw [Ze (Zh (M' := M) (by simp [Zf]))]
  rw [Ze (Zh (M' := M) (by simp [Zf]))]
  rw [Ze (Zh (M' := M) (by simp [Zf]))]
  simp only [ZaO, Row.place, Row.boxes]
  simp [Zam]
 | when a k =>
  refine fin [] ?_
  rw [List.append_nil]
  unfold Zat
  rw [Ze (Zt (M' := M) (d := .int ((p + 1 : Nat) : Int)) (by simp))]
  rw [Ze (Zt (M' := M) (d := .non) (by simp))]
  rw [Ze (Zh (M' := M) (by simp [Zf]))]
  rw [Ze (Zh (M' := M) (by simp [Zf]))]
  rw [Ze (Zh (M' := M) (by simp [Zf]))]
  rw [Ze (Zh (M' := M) (by simp [Zf]))]
  rw [Ze (Zh (M' := M) (by simp [Zf]))]
  obtain ⟨x, hx, gx⟩ := Zbd hb hr.1
  by_cases q : 0 < x
  ·rw [Ze (env' := [some (Zf (.when a k)), some (.int (k : Int)), some (Zg bs), some (.int held), some .non]) (M' := M) (by rw [ZaR (M' := M) (by simp [Zf, Zg, gx, q, -Zaj])]; exact Zt (d := .int (k : Int)) (by simp [Zf, ZaP, ixD]))]
   rw [Ze (Zh (M' := M) (by simp [Zf]))]
   simp only [ZaO, Row.place, Row.boxes, hx, q, if_true, if_false]
   simp [Zam]
  ·rw [Ze (Zh (M' := M) (by simp [Zf, Zg, gx, q, -Zaj]))]
   rw [Ze (Zh (M' := M) (by simp [Zf]))]
   simp only [ZaO, Row.place, Row.boxes, hx, q, if_true, if_false]
   simp [Zam]
 | jump k =>
  refine fin [] ?_
  rw [List.append_nil]
  unfold Zat
  rw [Ze (Zt (M' := M) (d := .int ((p + 1 : Nat) : Int)) (by simp))]
  rw [Ze (Zt (M' := M) (d := .non) (by simp))]
  rw [Ze (Zh (M' := M) (by simp [Zf]))]
  rw [Ze (Zh (M' := M) (by simp [Zf]))]
  rw [Ze (Zh (M' := M) (by simp [Zf]))]
  rw [Ze (Zh (M' := M) (by simp [Zf]))]
  rw [Ze (Zh (M' := M) (by simp [Zf]))]
  rw [Ze (env' := [some (Zf (.jump k)), some (.int (k : Int)), some (Zg bs), some (.int held), some .non]) (M' := M) (by rw [ZaR (M' := M) (by simp [Zf])]; exact Zt (d := .int (k : Int)) (by simp [Zf, ZaP, ixD]))]
  rw [Ze (Zh (M' := M) (by simp [Zf]))]
  simp only [ZaO, Row.place, Row.boxes]
  simp [Zam]
 | tell a =>
  refine fin [] ?_
  rw [List.append_nil]
  unfold Zat
  rw [Ze (Zt (M' := M) (d := .int ((p + 1 : Nat) : Int)) (by simp))]
  rw [Ze (Zt (M' := M) (d := .non) (by simp))]
  rw [Ze (Zh (M' := M) (by simp [Zf]))]
  rw [Ze (Zh (M' := M) (by simp [Zf]))]
  rw [Ze (Zh (M' := M) (by simp [Zf]))]
  rw [Ze (Zh (M' := M) (by simp [Zf]))]
  rw [Ze (Zh (M' := M) (by simp [Zf]))]
  rw [Ze (Zh (M' := M) (by simp [Zf]))]
  rw [Ze (Zh (M' := M) (by simp [Zf]))]
  simp only [ZaO, Row.place, Row.boxes]
  simp [Zam]
 | halt =>
  refine fin [] ?_
  rw [List.append_nil]
  unfold Zat
  rw [Ze (Zt (M' := M) (d := .int ((p + 1 : Nat) : Int)) (by simp))]
  rw [Ze (Zt (M' := M) (d := .non) (by simp))]
  rw [Ze (Zh (M' := M) (by simp [Zf]))]
  rw [Ze (Zh (M' := M) (by simp [Zf]))]
  rw [Ze (Zh (M' := M) (by simp [Zf]))]
  rw [Ze (Zh (M' := M) (by simp [Zf]))]
  rw [Ze (Zh (M' := M) (by simp [Zf]))]
  rw [Ze (Zh (M' := M) (by simp [Zf]))]
  rw [Ze (Zh (M' := M) (by simp [Zf]))]
  simp only [ZaO, Row.place, Row.boxes]
  simp [Zam]
theorem Zd0 (bs : List Int) (a : Nat) (v : Int) (M : Store) (ha : a < bs.length) (hl : bs.length ≤ 1000) : Za2 [Zg bs, .int a, .int v] M = .ok (Zg (bs.set a v)) M := by
 have h1 : (e2 Zx (e2 Zx (eSl (Zb 0) (ZaB) (ZaC (Zb 1))) (Za4 (Za (Zb 2) (Zj)))) (eSl (Zb 0) (ZaC (e2 Zx (Zb 1) (eC (.int 1)))) (ZaB))) [some (Zg bs), some (.int a), some (.int v)] M = .ok (Zg (bs.set a v)) M := by
  have c1 : cutD (bs.map D.int) none (some (a : Int)) = (bs.take a).map D.int := by rw [Zdu, List.map_take]
  have c2 : cutD (bs.map D.int) (some ((a : Int) + 1)) none = (bs.drop (a + 1)).map D.int := by
   rw [show ((a : Int) + 1) = ((a + 1 : Nat) : Int) by omega, ZdH, List.map_drop]
  have s1 : eSl (Zb 0) (ZaB) (ZaC (Zb 1)) [some (Zg bs), some (.int a), some (.int v)] M = .ok (.tup ((bs.take a).map D.int)) M := by
   simp only [eSl, Zb, ZaB, ZaC, Zg, List.getElem?_cons_zero, List.getElem?_cons_succ, R3.bind, Zeb, c1]
  have s2 : eSl (Zb 0) (ZaC (e2 Zx (Zb 1) (eC (.int 1)))) (ZaB) [some (Zg bs), some (.int a), some (.int v)] M = .ok (.tup ((bs.drop (a + 1)).map D.int)) M := by
   simp only [eSl, e2, eC, Zx, Zb, ZaB, ZaC, Zg, List.getElem?_cons_zero, List.getElem?_cons_succ, R3.bind, Zeb, c2]
  have s3 : Za4 (Za (Zb 2) (Zj)) [some (Zg bs), some (.int a), some (.int v)] M = .ok (.tup [.int v]) M := by simp
  have a1 : Zx (.tup ((bs.take a).map D.int)) (.tup [.int v]) M = .ok (.tup ((bs.take a).map D.int ++ [.int v])) M := by
   simp only [Zx]; rw [if_pos (by simp; omega)]
  refine (Zcr (Zcr s1 s3 a1) s2 ?_)
  simp only [Zx]
  rw [if_pos (by simp; omega), Zg, List.set_eq_take_append_cons_drop, if_pos ha]
  simp
 exact Rt.pure (G := []) (env := [some (Zg bs), some (.int a), some (.int v)]) (by rw [List.append_nil]; exact Zbx h1) (Zct _ _)
theorem ZeR (cs : List (Int × Int)) (n : Int) (M : Store) (h : keysOk cs) (hl : cs.length ≤ 5000) : ZbD [Zbw cs, .int n] M = .ok (.int (Zd7 cs n)) M := by
 have h1 : (Zcy Zh0 ZiD (ZaQ ZdY (Za (Zb 0) (Zj))) (Za (Zb 1) (Za (eC (.int 0)) (Zj)))) [some (Zbw cs), some (.int n)] M = .ok (.int (Zd7 cs n)) (M ++ [.dct (dictOf (ZdR cs))]) := by
  have hz : (ZdR cs).length ≤ 100000 := by simp [ZdR]; omega
  have b1 : ZaQ ZdY (Za (Zb 0) (Zj)) [some (Zbw cs), some (.int n)] M = .ok (.ref M.length) (M ++ [.dct (dictOf (ZdR cs))]) := by
   refine Zl4 (a := Zbw cs) (M1 := M) rfl ?_
   simp only [Zbw, ZdY, ZgN]
   rw [if_pos hz]; rfl
  simp only [Zcy, b1, R3.bind, Zh0, Za, Zb, eC, Zj, List.getElem?_cons_zero, List.getElem?_cons_succ]
  simp only [ZiH, ZcX, Option.isSome_some, if_true, ZiD, Zd9]
  rw [ZhB h]
 exact Rt.pure (env := [some (Zbw cs), some (.int n)]) (Zbx h1) rfl
theorem ZeU (r : Row) (bs : List Int) (p many : Nat) (M : Store) (hb : bs.length = 8) (hr : r.ok many) : ZaT [Zf r, .int p, Zg bs] M = .ok (.int (r.place bs p)) M := by
 cases r with
 | when a k =>
  obtain ⟨x, hx, gx⟩ := Zbd hb hr.1
  simp only [Row.place, hx]
  by_cases c : 0 < x
  ·simp [ZaT, Zb0, Zaa, Zah, Zam, sIf, Zad, Zaq, mkF, Zb2, below, belowL, Zbg, Zf, Zg, -Zaj, gx, c]
  ·simp [ZaT, Zb0, Zaa, Zah, Zam, sIf, Zad, Zaq, mkF, Zb2, below, belowL, Zbg, Zf, Zg, -Zaj, gx, c]
 | _ => simp [ZaT, Zb0, Zaa, Zah, Zam, sIf, Zad, Zaq, mkF, Zb2, below, belowL, Zbg, Zf, Row.place]
theorem Zgr (x y : Int) (M : Store) : ZbJ [.str [97, 100, 100], .int x, .int y] M = .ok (.int (x + y)) M := by simp [ZbJ, Zc3, Zaa, Zah, Zam, sIf, Zad, Zaq, mkF, Zb2, below, belowL, Zbg]
theorem Zg0 (x y : Int) (M : Store) : ZbJ [.str [115, 117, 98], .int x, .int y] M = .ok (.int (x - y)) M := by simp [ZbJ, Zc3, Zaa, Zah, Zam, sIf, Zad, Zaq, mkF, Zb2, below, belowL, Zbg]
theorem Zgg (x y : Int) (M : Store) : ZbJ [.str [109, 111, 114, 101], .int x, .int y] M = .ok (.int (if y < x then 1 else 0)) M := by
 by_cases c : y < x <;> simp [ZbJ, Zc3, Zaa, Zah, Zam, sIf, Zad, Zaq, mkF, Zb2, below, belowL, Zbg, c]
theorem Ze0 (r : Row) (bs : List Int) (cs : List (Int × Int)) (many : Nat) (M : Store) (hb : bs.length = 8) (hr : r.ok many) (hk : keysOk cs) (hl : cs.length ≤ 5000) : Zcm [Zf r, Zg bs, Zbw cs] M = .ok (Zg (r.boxes bs cs)) M := by
 have wb : ∀ (a : Nat) (v : Int) (M : Store), a < 8 → Za2 [.tup (bs.map D.int), .int a, .int v] M = .ok (.tup ((bs.set a v).map D.int)) M := fun a v M ha => Zd0 bs a v M (by omega) (by omega)
 have cv : ∀ (n : Int) (M : Store), ZbD [Zbw cs, .int n] M = .ok (.int (Zd7 cs n)) M := fun n M => ZeR cs n M hk hl
 have wa := Zgr
 have ws := Zg0
 have wm := Zgg
 refine Rt.pure (G := []) (env := [some (Zf r), some (Zg bs), some (Zbw cs), none]) ?_ (Zct _ _)
 rw [List.append_nil]
 unfold ZcW
 generalize Za2 = F1 at *
 generalize ZbD = F2 at *
 generalize ZbJ = F3' at *
 cases r with
 | put a n => simp [Zaa, Zah, Zam, sIf, Zad, Zaq, mkF, Zb2, below, belowL, Zbg, Zf, Zg, Row.boxes, wb a n _ hr]
 | get a b =>
  obtain ⟨x, hx, gx⟩ := Zbd hb hr.2
  simp only [Row.boxes, hx]
  simp [Zaa, Zah, Zam, sIf, Zad, Zaq, mkF, Zb2, below, belowL, Zbg, Zf, Zg, -Zaj, gx, cv, wb a _ _ hr.1]
 | add a b c =>
  obtain ⟨x, hx, gx⟩ := Zbd hb hr.2.1
  obtain ⟨y, hy, gy⟩ := Zbd hb hr.2.2
  simp only [Row.boxes, hx, hy]
  simp [Zaa, Zah, Zam, sIf, Zad, Zaq, mkF, Zb2, below, belowL, Zbg, Zf, Zg, -Zaj, gx, gy, wa, wb a _ _ hr.1, deq, Zac]
 | sub a b c =>
  obtain ⟨x, hx, gx⟩ := Zbd hb hr.2.1
  obtain ⟨y, hy, gy⟩ := Zbd hb hr.2.2
  simp only [Row.boxes, hx, hy]
  simp [Zaa, Zah, Zam, sIf, Zad, Zaq, mkF, Zb2, below, belowL, Zbg, Zf, Zg, -Zaj, gx, gy, ws, wb a _ _ hr.1, deq, Zac]
 | more a b c =>
  obtain ⟨x, hx, gx⟩ := Zbd hb hr.2.1
  obtain ⟨y, hy, gy⟩ := Zbd hb hr.2.2
  simp only [Row.boxes, hx, hy]
  simp [Zaa, Zah, Zam, sIf, Zad, Zaq, mkF, Zb2, below, belowL, Zbg, Zf, Zg, -Zaj, gx, gy, wm, wb a _ _ hr.1, deq, Zac]
 | _ => simp [Zaa, Zah, Zam, sIf, Zad, Zaq, mkF, Zb2, below, belowL, Zbg, Zf, Row.boxes, deq, Zac]
def Zav (p : Int) (bs : List Int) : D := .tup [.int p, Zg bs]
theorem ZfT (a b : Int) (M : Store) : ZbS [.int a, .int b] M = .ok (.bl (decide (0 ≤ a) && decide (a < b))) M := by
 by_cases h : 0 ≤ a <;> simp [ZbS, Zc7, Zaa, Zah, Zam, sIf, Zad, Zaq, mkF, Zb2, below, belowL, Zbg, h]
theorem ZhI (roll : Zcc) (p : Int) (M : Store) : ZdM [Zk roll, .int p] M = .ok (if 0 ≤ p ∧ p < roll.length then (match roll[p.toNat]? with | some r => Zf r | none => .non) else .non) M := by
 have w := ZfT p roll.length M
 have e1 : Zw ZbS (Za (Zb 1) (Za (ZaQ Zbe (Za (Zb 0) (Zj))) (Zj))) [some (Zk roll), some (.int p)] M = .ok (.bl (decide (0 ≤ p) && decide (p < roll.length))) M := ZcR rfl (by simp [Zk]) w
 by_cases h : 0 ≤ p ∧ p < roll.length
 ·rw [if_pos h]
  obtain ⟨k, rfl⟩ := Int.eq_ofNat_of_zero_le h.1
  have hk : k < roll.length := by omega
  have e2 : (e2 Zo (Zb 0) (Zb 1)) [some (Zk roll), some (.int (k : Int))] M = .ok (Zf roll[k]) M := by simp [Zk, hk]
  have hb : below M.length (Zf roll[k]) = true := by cases roll[k] <;> rfl
  refine (Rt.pure (G := []) (env := [some (Zk roll), some (.int (k : Int))]) (d := Zf roll[k]) ?_ hb).trans (by simp [hk])
  rw [List.append_nil]
  refine Zbx ((Zl2 (M1 := M) ?_).trans e2)
  rw [e1]; simp [hk]
 ·rw [if_neg h]
  refine Rt.pure (G := []) (env := [some (Zk roll), some (.int p)]) ?_ rfl
  rw [List.append_nil]
  refine Zbx ((Zmz (M1 := M) ?_).trans rfl)
  rw [e1]
  have : (decide (0 ≤ p) && decide (p < roll.length)) = false := by
   rw [← Bool.decide_and]; exact decide_eq_false h
  rw [this]
theorem ZdX : ∀ a b : List Int, Zbv (a.map D.int) (b.map D.int) = decide (a = b)
 | [], [] => by simp [Zbv]
 | [], _ :: _ => by simp [Zbv]
 | _ :: _, [] => by simp [Zbv]
 | x :: a, y :: b => by
  simp only [List.map_cons, Zbv, deq, ZdX a b, List.cons.injEq, Bool.decide_and]
  rfl
theorem ZiV (a b : List Int) : deq (Zg a) (Zg b) = decide (a = b) := by
 simp only [Zg, deq]; exact ZdX a b
def Zbr (r : Row) (bs bs' : List Int) : List Int := match r with
 | .get a _ => bs.set a (bs'.getD a 0)
 | r => r.boxes bs []
def Zgx (roll : Zcc) (p : Int) (bs : List Int) (p' : Int) (bs' : List Int) : Bool := if 0 ≤ p ∧ p < roll.length then (match roll[p.toNat]? with
 | some r => if r.isHalt then false else decide (p' = (r.place bs p.toNat : Nat)) && decide (bs' = Zbr r bs bs')
 | none => false) else false
theorem Zef (r : Row) (bs bs' : List Int) (many : Nat) (M : Store) (hr : r.ok many) (hb : bs.length = 8) (hb' : bs'.length = 8) : ZaV [Zf r, Zg bs, Zg bs'] M = .ok (Zg (Zbr r bs bs')) M := by
 have other : (∀ a b, r ≠ .get a b) → ZaV [Zf r, Zg bs, Zg bs'] M = .ok (Zg (r.boxes bs [])) M := fun hg => by
  have nb := Ze0 r bs [] many M hb hr (by simp [keysOk]) (by simp)
  refine Rt.pure (G := []) (env := [some (Zf r), some (Zg bs), some (Zg bs')]) ?_ (Zct _ _)
  rw [List.append_nil]
  refine (Ze (Zh (M' := M) ?_)).trans (Zbx (ZdS (c := Zbw []) rfl rfl (by simp [Zbw]) nb))
  cases r <;> simp [Zf] <;> exact absurd rfl (hg _ _)
 cases r with
 | get a b =>
  obtain ⟨x, hx, gx⟩ := Zbd hb' hr.1
  have wb := Zd0 bs a x M (by rw [hb]; exact hr.1) (by omega)
  refine Rt.pure (G := []) (env := [some (Zf (.get a b)), some (Zg bs), some (Zg bs')]) ?_ (Zct _ _)
  rw [List.append_nil]
  simp only [Zbr, hx]
  refine Zdd ((ZaR (M' := M) (by simp [Zf])).trans (Zbx (ZdS (a := Zg bs) (b := .int (a : Int)) (c := .int x) (M1 := M) (M2 := M) (M3 := M) rfl (by simp [Zf]) ?_ wb)))
  simp [Zf, Zg, -Zaj, gx]
 | _ => exact other (fun a b h => by cases h)
theorem ZfG (roll : Zcc) (R : ZbM roll) (p : Int) (bs : List Int) (p' : Int) (bs' : List Int) (M : Store) (hb : bs.length = 8) (hb' : bs'.length = 8) :
  Zca [Zk roll, Zav p bs, Zav p' bs'] M = .ok (.bl (Zgx roll p bs p' bs')) M := by
 have ra := ZhI roll p M
 refine Rt.pure (G := []) (env := [some (Zk roll), some (Zav p bs), some (Zav p' bs'), none, none, none]) ?_ rfl
 rw [List.append_nil]
 refine (Ze (Zt (d := .int p) (M' := M) (by simp [Zav]))).trans ((Ze (Zt (d := Zg bs) (M' := M) (by simp [Zav]))).trans ((Ze (Zt (ZcR rfl rfl ra))).trans ?_))
 unfold Zgx
 by_cases h : 0 ≤ p ∧ p < roll.length
 ·rw [if_pos h, if_pos h]
  obtain ⟨k, rfl⟩ := Int.eq_ofNat_of_zero_le h.1
  have hk : k < roll.length := by omega
  have hr : roll[k]? = some roll[k] := by simp [hk]
  have ro := R.rows _ (List.getElem_mem hk)
  simp only [Int.ofNat_eq_natCast, Int.toNat_natCast, hr]
  generalize roll[k] = r at hr ro
  by_cases hh : r.isHalt = true
  ·rw [if_pos hh]
   have : r = .halt := by cases r <;> simp at hh ⊢
   subst this
   exact Zdd ((ZaR (M' := M) (by simp [Zf])).trans rfl)
  ·rw [if_neg hh]
   have np := ZeU r bs k roll.length M hb ro
   have bb := Zef r bs bs' roll.length M ro hb hb'
   have hp1 : Zar DEEP (.int p') = true := ZdL _ _
   have hp2 : Zar DEEP (Zg bs') = true := Zfh _ _
   have hp3 : Zar DEEP (Zg (Zbr r bs bs')) = true := Zfh _ _
   have hp4 : Zar DEEP (.int ((r.place bs k : Nat) : Int)) = true := ZdL _ _
   refine (Ze (Zh (M' := M) ?_)).trans (Zbx ?_)
   ·cases r <;> simp [Zf] at hh ⊢
   ·refine Zcr (a := Zav p' bs') (b := Zav (r.place bs k : Nat) (Zbr r bs bs')) (M1 := M) (M2 := M) rfl ?_ ?_
    ·have x1 : Zw ZaT (Za (Zb 5) (Za (Zb 3) (Za (Zb 4) (Zj)))) [some (Zk roll), some (Zav (k : Int) bs), some (Zav p' bs'), some (.int (k : Int)), some (Zg bs), some (Zf r)] M = .ok (.int ((r.place bs k : Nat) : Int)) M := ZdS rfl rfl rfl np
     have x2 : Zw ZaV (Za (Zb 5) (Za (Zb 4) (Za (e2 Zo (Zb 2) (eC (.int 1))) (Zj)))) [some (Zk roll), some (Zav (k : Int) bs), some (Zav p' bs'), some (.int (k : Int)), some (Zg bs), some (Zf r)] M = .ok (Zg (Zbr r bs bs')) M := ZdS rfl rfl (by simp [Zav]) bb
     generalize Zw ZaT (Za (Zb 5) (Za (Zb 3) (Za (Zb 4) (Zj)))) = E1 at x1
     generalize Zw ZaV (Za (Zb 5) (Za (Zb 4) (Za (e2 Zo (Zb 2) (eC (.int 1))) (Zj)))) = E2 at x2
     simp only [Za4, Za, Zj, R3.bind, x1, x2]
     simp [Zav]
    ·have hd : Zbv [.int p', Zg bs'] [.int ((r.place bs k : Nat) : Int), Zg (Zbr r bs bs')] = (decide (p' = ((r.place bs k : Nat) : Int)) && decide (bs' = Zbr r bs bs')) := by
      simp only [Zbv, deq, ZiV, Bool.and_true]
      rfl
     simp only [ZaU, eqD, Zav, List.all_cons, List.all_nil, hp1, hp2, hp3, hp4, Bool.and_self, if_true, hd]
 ·rw [if_neg h, if_neg h]
  exact Zdd ((ZaR (M' := M) (by simp)).trans rfl)
theorem ZhT (lo : Int) (n : Nat) : ZcM lo (n + 1) = .int lo :: ZcM (lo + 1) n := by
 unfold ZcM
 rw [List.range_succ_eq_map]
 simp only [List.map_cons, List.map_map, Int.add_zero, Int.natCast_zero, List.cons.injEq, true_and]
 apply List.map_congr_left
 intro k _
 simp only [Function.comp_apply, D.int.injEq]
 omega
def Zd2 : Option Nat → D
 | none => .non
 | some k => .int (k : Int)
theorem Zep (n : Nat) (o : Option Nat) : below n (Zd2 o) = true := by cases o <;> rfl
theorem Zfl {it : It3} (hit : it.lock = none) {i : Nat} {body : S3} {q : Nat → Bool} {I : ZaD → Prop} {M : Store} : ∀ (m j : Nat) (env : ZaD), I env →
  (∀ k env, j ≤ k → k < j + m → I env → (q k = true → body (env.set i (some (.int (k : Int)))) M = .rt (.int (k : Int)) M) ∧ (q k = false → ∃ e', I e' ∧ body (env.set i (some (.int (k : Int)))) M = .nx e' M)) →
  ∃ e', I e' ∧ Zb3 it (ZcP i) body (ZcM (j : Int) m) env M = (match (List.range' j m).find? q with | some k => .rt (.int (k : Int)) M | none => .nx e' M)
 | 0, j, env, hI, _ => ⟨env, hI, by simp [ZcM, Zb3, locked, hit]⟩
 | m + 1, j, env, hI, h => by
  obtain ⟨h1, h2⟩ := h j env (Nat.le_refl _) (by omega) hI
  rw [ZhT]
  simp only [Zb3, locked, hit, if_true, ZcP, List.range'_succ, List.find?_cons]
  cases hq : q j with
  | true => exact ⟨env, hI, by rw [h1 hq]⟩
  | false =>
   obtain ⟨e', hI', hb⟩ := h2 hq
   obtain ⟨e2, hI2, ih⟩ := Zfl hit m (j + 1) e' hI' fun k env a b c => h k env (by omega) (by omega) c
   refine ⟨e2, hI2, ?_⟩
   rw [hb]
   rw [show ((j : Int) + 1) = ((j + 1 : Nat) : Int) by omega]
   exact ih
theorem ZiE (n : Nat) : List.range n = List.range' 0 n := by rw [List.range_eq_range']
abbrev Stp := Int × List Int
def Zaw (s : Stp) : D := Zav s.1 s.2
def Zcn (ts : List Stp) : D := .tup (ts.map Zaw)
def Zfe (roll : Zcc) (ts : List Stp) (k : Nat) : Bool := match ts[k]?, ts[k + 1]? with
 | some s, some s' => Zgx roll s.1 s.2 s'.1 s'.2
 | _, _ => false
def Zds (roll : Zcc) (ts : List Stp) : Option Nat := (List.range (ts.length - 1)).find? fun k => !Zfe roll ts k
theorem ZfW {ts : List Stp} {k : Nat} (h : k < ts.length) : ZaP (ts.map Zaw) ((k : Nat) : Int) = some (Zaw ts[k]) := by rw [Zcs, List.getElem?_map, List.getElem?_eq_getElem h]; rfl
theorem Ze8 (F : F3) (roll : Zcc) (ts : List Stp) (M : Store) (hz : ts.length ≤ 5000) (hF : ∀ k, (h : k + 1 < ts.length) → F [Zk roll, Zaw ts[k], Zaw ts[k + 1]] M = .ok (.bl (Zgx roll ts[k].1 ts[k].2 ts[k + 1].1 ts[k + 1].2)) M) :
  (Zaa (Ze3 (ZbZ (e2 Zce (ZaQ Zbe (Za (Zb 1) (Zj))) (eC (.int 1)))) (ZcP 2) (sIf (e1 ZcI (Zw F (Za (Zb 0) (Za (e2 Zo (Zb 1) (Zb 2)) (Za (e2 Zo (Zb 1) (e2 Zx (Zb 2) (eC (.int 1)))) (Zj)))))) (Zam (Zb 2)) (Zad))) (Zam (eC .non))) [some (Zk roll), some (Zcn ts), none] M = .rt (Zd2 (Zds roll ts)) M := by
 obtain ⟨e', ⟨y, rfl⟩, lp⟩ := Zfl (it := ⟨ZcM 0 (ts.length - 1), none⟩) rfl (i := 2) (body := (sIf (e1 ZcI (Zw F (Za (Zb 0) (Za (e2 Zo (Zb 1) (Zb 2)) (Za (e2 Zo (Zb 1) (e2 Zx (Zb 2) (eC (.int 1)))) (Zj)))))) (Zam (Zb 2)) (Zad))) (q := fun k => !Zfe roll ts k) (I := fun env => ∃ y, env = [some (Zk roll), some (Zcn ts), y]) (M := M) (ts.length - 1) 0 [some (Zk roll), some (Zcn ts), none] ⟨none, rfl⟩
  (fun k env _ hk ⟨y, he⟩ => by
   subst he
   have hk1 : k + 1 < ts.length := by omega
   have hk0 : k < ts.length := by omega
   have sf := hF k hk1
   have hf : Zfe roll ts k = Zgx roll ts[k].1 ts[k].2 ts[k + 1].1 ts[k + 1].2 := by simp [Zfe, hk0, hk1]
   have g1 : (e2 Zo (Zb 1) (Zb 2)) [some (Zk roll), some (Zcn ts), some (.int (k : Int))] M = .ok (Zaw ts[k]) M := by simp only [e2, Zb, Zcn, List.getElem?_cons_succ, List.getElem?_cons_zero, R3.bind, Zo, ZfW hk0]
   have g2 : (e2 Zo (Zb 1) (e2 Zx (Zb 2) (eC (.int 1)))) [some (Zk roll), some (Zcn ts), some (.int (k : Int))] M = .ok (Zaw ts[k + 1]) M := by
    simp only [e2, Zb, eC, Zcn, List.getElem?_cons_succ, List.getElem?_cons_zero, R3.bind, Zx, Zo, show ((k : Int) + 1) = ((k + 1 : Nat) : Int) by omega, ZfW hk1]
   have cc : (e1 ZcI (Zw F (Za (Zb 0) (Za (e2 Zo (Zb 1) (Zb 2)) (Za (e2 Zo (Zb 1) (e2 Zx (Zb 2) (eC (.int 1)))) (Zj)))))) [some (Zk roll), some (Zcn ts), some (.int (k : Int))] M = .ok (.bl (!Zfe roll ts k)) M := by
    rw [hf]; exact Zka (ZdS rfl g1 g2 sf) rfl
   refine ⟨fun hq => ?_, fun hq => ?_⟩
   ·exact (ZaR (cc.trans (by rw [hq]))).trans rfl
   ·exact ⟨_, ⟨_, rfl⟩, Zh (cc.trans (by rw [hq]))⟩)
 have ir : (ZbZ (e2 Zce (ZaQ Zbe (Za (Zb 1) (Zj))) (eC (.int 1)))) [some (Zk roll), some (Zcn ts), none] M = .ok ⟨ZcM 0 (ts.length - 1), none⟩ M := by
  have b : ((ts.length : Int) - 1) ≤ 1000000 ∧ -1000000 ≤ ((ts.length : Int) - 1) := by omega
  have e : ((ts.length : Int) - 1).toNat = ts.length - 1 := by omega
  simp [Zcn, b, e]
 have lp' := (Zeh (g := ZcP 2) ir).trans lp
 unfold Zds
 rw [ZiE]
 cases hf : (List.range' 0 (ts.length - 1)).find? fun k => !Zfe roll ts k with
 | some j => rw [hf] at lp'; exact Zdd lp'
 | none => rw [hf] at lp'; exact (Ze lp').trans rfl
theorem Zdh (roll : Zcc) (R : ZbM roll) (ts : List Stp) (h8 : ∀ s ∈ ts, s.2.length = 8) (M : Store) (hz : ts.length ≤ 5000) : Zbf [Zk roll, Zcn ts] M = .ok (Zd2 (Zds roll ts)) M :=
 Rt.pure (G := []) (env := [some (Zk roll), some (Zcn ts), none]) (by rw [List.append_nil]; exact Ze8 Zca roll ts M hz (fun k hk => ZfG roll R _ _ _ _ M (h8 _ (List.getElem_mem _)) (h8 _ (List.getElem_mem _)))) (Zep _ _)
theorem ZiF (r : Row) (bs bs' : List Int) (v : Int) (h : ∀ a b, r = .get a b → v = bs'.getD a 0) : ZaO r bs v = Zbr r bs bs' := by
 cases r with
 | get a b => simp only [ZaO, Zbr, h a b rfl]
 | _ => rfl
theorem ZgO (roll : Zcc) (R : ZbM roll) (p : Int) (bs : List Int) (p' : Int) (bs' : List Int) (M : Store) (hb : bs.length = 8) (hb' : bs'.length = 8) :
  Zbu [Zk roll, Zav p bs, Zav p' bs'] M = .ok (.bl (Zgx roll p bs p' bs')) M := by
 refine Rt.pure (G := []) (env := [some (Zk roll), some (Zav p bs), some (Zav p' bs'), none, none, none, none]) ?_ rfl
 rw [List.append_nil]
 refine (Ze (env' := [some (Zk roll), some (Zav p bs), some (Zav p' bs'), some (.int p), some (Zg bs), none, none]) (M' := M) (by simp [Zew, Zav])).trans ?_
 unfold Zgx
 by_cases h : 0 ≤ p ∧ p < roll.length
 ·rw [if_pos h]
  obtain ⟨k, rfl⟩ := Int.eq_ofNat_of_zero_le h.1
  have hk : k < roll.length := by omega
  have hr : roll[k]? = some roll[k] := by simp [hk]
  have ro := R.rows _ (List.getElem_mem hk)
  have gk : ZaP (roll.map Zf) ((k : Nat) : Int) = some (Zf roll[k]) := by rw [Zcs, List.getElem?_map, hr]; rfl
  simp only [Int.ofNat_eq_natCast, Int.toNat_natCast, hr]
  generalize roll[k] = r at hr ro gk
  have n1 : ¬ ((k : Int) < 0) := by omega
  have n2 : ¬ ((roll.length : Int) ≤ (k : Int)) := by omega
  have n2' : ¬ (roll.length ≤ k) := by omega
  by_cases hh : r.isHalt = true
  ·rw [if_pos hh]
   have : r = .halt := by cases r <;> simp at hh ⊢
   subst this
   exact Zdd ((ZaR (M' := M) (by simp [Zk, gk, n1, n2, n2', Zf, -Zaj])).trans rfl)
  ·rw [if_neg hh]
   refine (Ze (Zh (M' := M) ?_)).trans ?_
   ·cases r <;> simp [Zf] at hh ⊢ <;> simp [Zk, gk, n1, n2, n2', Zf, -Zaj]
   refine (Ze (Zt (d := Zf r) (M' := M) (by simp [Zk, gk, -Zaj]))).trans ?_
   obtain ⟨v, hv, ev⟩ : ∃ v : Int, (∀ a b, r = .get a b → v = bs'.getD a 0) ∧ (e2 Zo (e2 Zo (Zb 2) (eC (.int 1))) (eIf (e2 ZaU (e2 Zo (Zb 5) (eC (.int 0))) (eC (.str [103, 101, 116]))) (e2 Zo (Zb 5) (eC (.int 1))) (eC (.int 0)))) [some (Zk roll), some (Zav (k : Int) bs), some (Zav p' bs'), some (.int (k : Int)), some (Zg bs), some (Zf r), none] M = .ok (.int v) M := by
    obtain ⟨x0, hx0, gx0⟩ := Zbd hb' (a := 0) (by omega)
    have gx0' : bs'[0]? = some x0 := by
     have h0 : 0 < bs'.length := by omega
     rw [List.getElem?_eq_getElem h0, ← hx0]; simp [h0]
    cases r with
    | get a b =>
     obtain ⟨x, hx, gx⟩ := Zbd hb' ro.1
     exact ⟨x, fun a' b' e => by cases e; exact hx.symm, by simp [Zav, Zg, Zf, gx, -Zaj]⟩
    | _ => exact ⟨x0, (fun a b e => nomatch e), by simp [Zav, Zg, Zf, gx0', -Zaj]⟩
   have be := Ze9 r k bs v roll.length ro hb M
   rw [ZiF r bs bs' v hv] at be
   refine (Ze (Zt (M' := M) (Zi1 (M1 := M) (M2 := M) (M3 := M) (M4 := M) rfl rfl rfl ev be))).trans (Zbx ?_)
   have q1 : (e2 ZaU (e2 Zo (Zb 2) (eC (.int 0))) (e2 Zo (Zb 6) (eC (.int 0)))) [some (Zk roll), some (Zav (k : Int) bs), some (Zav p' bs'), some (.int (k : Int)), some (Zg bs), some (Zf r), some (.tup [.int ((r.place bs k : Nat) : Int), Zg (Zbr r bs bs')])] M = .ok (.bl (decide (p' = ((r.place bs k : Nat) : Int)))) M := by
    simp [Zav, Zac, deq]
   have q2 : (e2 ZaU (e2 Zo (Zb 2) (eC (.int 1))) (e2 Zo (Zb 6) (eC (.int 1)))) [some (Zk roll), some (Zav (k : Int) bs), some (Zav p' bs'), some (.int (k : Int)), some (Zg bs), some (Zf r), some (.tup [.int ((r.place bs k : Nat) : Int), Zg (Zbr r bs bs')])] M = .ok (.bl (decide (bs' = Zbr r bs bs'))) M := by
    refine Zcr (a := Zg bs') (b := Zg (Zbr r bs bs')) (M1 := M) (M2 := M) (by simp [Zav]) (by simp) ?_
    simp [Zg, ZdX, ZdL]
   by_cases z : p' = ((r.place bs k : Nat) : Int)
   ·rw [decide_eq_true z] at q1 ⊢
    rw [ZfK q1, q2]; rfl
   ·rw [decide_eq_false z] at q1 ⊢
    rw [Zjc q1]; rfl
 ·rw [if_neg h]
  refine Zdd ((ZaR (M' := M) ?_).trans rfl)
  by_cases z : p < 0
  ·simp [z]
  ·have z2 : (roll.length : Int) ≤ p := by omega
   simp [z, z2, Zk]
theorem ZlG (roll : Zcc) (R : ZbM roll) (ts : List Stp) (h8 : ∀ s ∈ ts, s.2.length = 8) (M : Store) (hz : ts.length ≤ 5000) : Zbt [Zk roll, Zcn ts] M = .ok (Zd2 (Zds roll ts)) M :=
 Rt.pure (G := []) (env := [some (Zk roll), some (Zcn ts), none]) (by rw [List.append_nil]; exact Ze8 Zbu roll ts M hz (fun k hk => ZgO roll R _ _ _ _ M (h8 _ (List.getElem_mem _)) (h8 _ (List.getElem_mem _)))) (Zep _ _)
theorem Zj6 (cs : List Int) (c d : Nat) (at_ : Nat) (M : Store) (hd : M[d]? = some (.lst [.ref c, .int (at_ : Int)])) (hc : M[c]? = some (.lst (cs.map D.int))) (ha : at_ < 1000000) (hne : c ≠ d) :
  ∃ v : Int, Zab [.ref d] M = .ok (.int v) (M.set d (.lst [.ref c, .int ((at_ + 1 : Nat) : Int)])) := by
 have hdl := (List.getElem?_eq_some_iff.mp hd).1
 have hc2 : (M.set d (.lst [.ref c, .int ((at_ : Int) + 1)]))[c]? = some (.lst (cs.map D.int)) := by rw [List.getElem?_set_ne (Ne.symm hne)]; exact hc
 have fin : ∀ v : Int, ZbN [some (.ref d), none, none] M = .rt (.int v) (M.set d (.lst [.ref c, .int ((at_ : Int) + 1)])) → ∃ v : Int, Zab [.ref d] M = .ok (.int v) (M.set d (.lst [.ref c, .int ((at_ + 1 : Nat) : Int)])) := fun v h => by
  refine ⟨v, (Zex h).trans ?_⟩
  unfold Zb2
  rw [List.take_of_length_le (by simp)]
  split <;> simp
 have m1 : Zbg (at_ : Int) (at_ : Int) = true := ZmA (by omega)
 have m2 : Zbg ((at_ : Int) * at_) 3 = true := mul_r (by omega)
 by_cases h1 : at_ < cs.length
 ·exact fin cs[at_] (by simp [ZbN, Zaa, Zah, Zam, sIf, Zad, Zaq, Zf2, hd, hc2, h1])
 ·by_cases h2 : cs.length = 0
  ·have n0 : ¬ ((at_ : Int) < 0) := by omega
   exact fin ((at_ : Int) * at_ * 3 + at_) (by simp [ZbN, Zaa, Zah, Zam, sIf, Zad, Zaq, Zf2, hd, hc2, h2, m1, m2, n0])
  ·obtain ⟨a, ha', la⟩ := ZbC (at_ : Int) cs.length (by omega)
   have p0 : 0 < cs.length := by omega
   exact fin (cs[a] / 2 + (at_ : Int) * at_) (by simp [ZbN, Zaa, Zah, Zam, sIf, Zad, Zaq, Zf2, hd, hc2, h1, h2, m1, p0, ha', la])
structure Zci (cs : List Int) (c d : Nat) (at_ : Nat) (M : Store) : Prop where
 hd : M[d]? = some (.lst [.ref c, .int (at_ : Int)])
 hc : M[c]? = some (.lst (cs.map D.int))
 ne : c ≠ d
theorem Zci.next {cs : List Int} {c d at_ : Nat} {M : Store} (K : Zci cs c d at_ M) (ha : at_ < 1000000) : ∃ (v : Int) (M' : Store), Zab [.ref d] M = .ok (.int v) M' ∧ Zci cs c d (at_ + 1) M' ∧ M'.length = M.length ∧ ∀ j, j ≠ d → M'[j]? = M[j]? := by
 obtain ⟨v, h⟩ := Zj6 cs c d at_ M K.hd K.hc ha K.ne
 have hdl := (List.getElem?_eq_some_iff.mp K.hd).1
 exact ⟨v, _, h, ⟨List.getElem?_set_self hdl, by rw [List.getElem?_set_ne (Ne.symm K.ne)]; exact K.hc, K.ne⟩, by simp, fun j hj => List.getElem?_set_ne (Ne.symm hj)⟩
theorem Zci.number {cs : List Int} {c d at_ : Nat} {M : Store} {env : ZaD} (K : Zci cs c d at_ M) (ha : at_ < 1000000) (h0 : env[0]? = some (some (.ref d))) : ∃ (v : Int) (M' : Store), (Zw Zai (Za (Zw Zab (Za (Zb 0) (Zj))) (Zj))) env M = .ok (.int v) M' ∧ Zci cs c d (at_ + 1) M' ∧ M'.length = M.length ∧ ∀ j, j ≠ d → M'[j]? = M[j]? := by
 obtain ⟨v, M', h, K', l, o⟩ := K.next ha
 obtain ⟨w, hw⟩ := ZgW v
 exact ⟨w, M', Zdv (Zdv (a := .ref d) (M1 := M) (by simp [h0]) h) (hw M'), K', l, o⟩
theorem Zfr (cs : List Int) (c d n : Nat) (hn : n ≠ d) (hnc : n ≠ c) (it : It3) (hit : it.lock = none) : ∀ (ds : List D) (acc : List Int) (at_ : Nat) (env : ZaD) (M : Store), at_ + ds.length < 1000000 → acc.length + ds.length ≤ 1000 → env[0]? = some (some (.ref d)) → Zci cs c d at_ M → M[n]? = some (.lst (acc.map D.int)) →
  ∃ (vs : List Int) (M' : Store), Zc4 it (ZcP 6) [] (Zw Zai (Za (Zw Zab (Za (Zb 0) (Zj))) (Zj))) n ds env M = .ok (.ref n) M' ∧ vs.length = acc.length + ds.length ∧ M'[n]? = some (.lst (vs.map D.int)) ∧ Zci cs c d (at_ + ds.length) M' ∧ M'.length = M.length ∧ ∀ j, j ≠ d → j ≠ n → M'[j]? = M[j]?
 | [], acc, at_, env, M, _, _, _, K, hM => ⟨acc, M, by simp [Zc4, locked, hit], rfl, hM, K, rfl, fun _ _ _ => rfl⟩
 | x :: ds, acc, at_, env, M, ha, hz, h0, K, hM => by
  simp only [List.length_cons] at ha hz
  have h1 : (env.set 6 (some x))[0]? = some (some (.ref d)) := by rw [List.getElem?_set_ne (by omega)]; exact h0
  obtain ⟨v, M1, e1, K1, l1, o1⟩ := K.number (env := env.set 6 (some x)) (by omega) h1
  have hM1 : M1[n]? = some (.lst (acc.map D.int)) := by rw [o1 n hn]; exact hM
  have hnl := (List.getElem?_eq_some_iff.mp hM1).1
  have K2 : Zci cs c d (at_ + 1) (M1.set n (.lst ((acc ++ [v]).map D.int))) := ⟨by rw [List.getElem?_set_ne hn]; exact K1.hd, by rw [List.getElem?_set_ne hnc]; exact K1.hc, K1.ne⟩
  obtain ⟨vs, M', h, lv, hv, K', l', o'⟩ := Zfr cs c d n hn hnc it hit ds (acc ++ [v]) (at_ + 1) (env.set 6 (some x)) (M1.set n (.lst ((acc ++ [v]).map D.int))) (by omega) (by simp; omega) h1 K2 (List.getElem?_set_self hnl)
  refine ⟨vs, M', ?_, by simp at lv ⊢; omega, hv, by rw [List.length_cons, ← Nat.add_assoc, Nat.add_right_comm]; exact K', by rw [l']; simp [l1], fun j hj hjn => by rw [o' j hj hjn, List.getElem?_set_ne (Ne.symm hjn), o1 j hj]⟩
  have lk : locked it M = true := by simp [locked, hit]
  have lz : (acc.map D.int).length < SZ := by rw [List.length_map, SZ]; omega
  have e0 : ZcP 6 x env = some (env.set 6 (some x)) := rfl
  rw [Zc4, if_pos lk, e0]
  simp only [Zej, R3.bind, if_true]
  rw [e1]
  simp only [hM1, lz, if_true]
  rw [← h]
  simp
theorem ZiL {c : E3} {body : S3} {n : Nat} {env e : ZaD} {M M1 M' : Store} (h : c env M = .ok (.bl true) M1) (h' : body env M1 = .nx e M') : ZcD c body (n + 1) env M = ZcD c body n e M' := by
 show (match c env M with | .ok (.bl true) M1 => _ | .ok (.bl false) M1 => _ | .exc x M1 => _ | _ => _) = _
 rw [h]; simp only [h']
theorem Zgd {c : E3} {body : S3} {n : Nat} {env : ZaD} {M M1 : Store} (h : c env M = .ok (.bl false) M1) : ZcD c body (n + 1) env M = .nx env M1 := by
 show (match c env M with | .ok (.bl true) M1 => _ | .ok (.bl false) M1 => _ | .exc x M1 => _ | _ => _) = _
 rw [h]
theorem place_lt {roll : Zcc} (R : ZbM roll) {k : Nat} {r : Row} {bs : List Int} (hb : bs.length = 8) (hr : roll[k]? = some r) (hh : r.isHalt = false) : r.place bs k < roll.length := by
 have hk : k < roll.length := (List.getElem?_eq_some_iff.mp hr).1
 have g : Good roll ⟨k, bs, []⟩ := ⟨hk, hb, by simp [ZfR]⟩
 have st : Zhc roll ⟨k, bs, []⟩ = some ⟨r.place bs k, r.boxes bs [], r.cells bs []⟩ := by simp [Zhc, hr, Zhj, hh]
 exact (ZhY R g st).1.pl
theorem Zge (r : Row) (bs : List Int) (v : Int) : (ZaO r bs v).length = bs.length := by
 cases r <;> simp [ZaO, Row.boxes]
theorem ZgC (cs : List Int) (c d n many : Nat) (hn : n ≠ d) (roll : Zcc) (R : ZbM roll) (p : Nat) (bs : List Int) (ts : List Stp) (at_ : Nat) (M : Store) (r : Row) (hr : roll[p]? = some r) (hb : bs.length = 8) (hz : ts.length ≤ 1000) (ha : at_ < 1000000) (K : Zci cs c d at_ M) (hM : M[n]? = some (.lst (ts.map Zaw))) (hnc : n ≠ c) :
  ∃ (bs' : List Int) (M' : Store), bs'.length = 8 ∧ (Zaa (Zew (Zw ZaN (Za (e2 Zo (Zb 1) (Zb 2)) (Za (Zb 2) (Za (Zb 3) (Za (Zw Zai (Za (Zw Zab (Za (Zb 0) (Zj))) (Zj))) (Zj)))))) (Zdn [2, 3])) (Zaq (Zcy tyL ZaS (Zb 4) (Za (Za4 (Za (Zb 2) (Za (Zb 3) (Zj)))) (Zj)))))
   [some (.ref d), some (Zk roll), some (.int (p : Int)), some (Zg bs), some (.ref n), some (.int (many : Int))] M = .nx [some (.ref d), some (Zk roll), some (.int ((r.place bs p : Nat) : Int)), some (Zg bs'), some (.ref n), some (.int (many : Int))] M' ∧ M'[n]? = some (.lst ((ts ++ [(((r.place bs p : Nat) : Int), bs')]).map Zaw)) ∧ Zci cs c d (at_ + 1) M' ∧ M'.length = M.length ∧ ∀ j, j ≠ d → j ≠ n → M'[j]? = M[j]? := by
 obtain ⟨v, M1, e1, K1, l1, o1⟩ := K.number (env := [some (.ref d), some (Zk roll), some (.int (p : Int)), some (Zg bs), some (.ref n), some (.int (many : Int))]) ha rfl
 have hp := (List.getElem?_eq_some_iff.mp hr).1
 have ro : r.ok roll.length := R.rows _ (List.mem_of_getElem? hr)
 have be := Ze9 r p bs v roll.length ro hb M1
 have gk : ZaP (roll.map Zf) ((p : Nat) : Int) = some (Zf r) := by rw [Zcs, List.getElem?_map, hr]; rfl
 have g1 : (e2 Zo (Zb 1) (Zb 2)) [some (.ref d), some (Zk roll), some (.int (p : Int)), some (Zg bs), some (.ref n), some (.int (many : Int))] M = .ok (Zf r) M := by simp [Zk, gk, -Zaj]
 have hM1 : M1[n]? = some (.lst (ts.map Zaw)) := by rw [o1 n hn]; exact hM
 have hnl := (List.getElem?_eq_some_iff.mp hM1).1
 refine ⟨ZaO r bs v, M1.set n (.lst (ts.map Zaw ++ [Zaw (((r.place bs p : Nat) : Int), ZaO r bs v)])), by rw [Zge, hb], ?_, ?_, ⟨?_, ?_, K1.ne⟩, by simp [l1], fun j hj hjn => ?_⟩
 ·refine (Ze (env' := [some (.ref d), some (Zk roll), some (.int ((r.place bs p : Nat) : Int)), some (Zg (ZaO r bs v)), some (.ref n), some (.int (many : Int))]) (M' := M1) ?_).trans (Zi8 (ZhX (M2 := M1) rfl hM1 (by simp [Zaw, Zav]) hM1 (by simp; omega)))
  rw [Zew, Zi1 (M1 := M) (M2 := M) (M3 := M) (M4 := M1) g1 rfl rfl e1 be]
  simp
 ·rw [List.getElem?_set_self hnl]; simp
 ·rw [List.getElem?_set_ne hn]; exact K1.hd
 ·rw [List.getElem?_set_ne hnc]; exact K1.hc
 ·rw [List.getElem?_set_ne (Ne.symm hjn), o1 j hj]
theorem ZeD (cs : List Int) (c d n many : Nat) (hn : n ≠ d) (hnc : n ≠ c) (hmany : many ≤ 60) (roll : Zcc) (R : ZbM roll) : ∀ (fuel : Nat) (p : Nat) (bs : List Int) (ts : List Stp) (at_ : Nat) (M : Store), many + 1 - ts.length < fuel → p < roll.length → bs.length = 8 → (∀ s ∈ ts, s.2.length = 8) → 0 < ts.length → ts.length ≤ 61 → at_ + 61 < 1000000 + ts.length → Zci cs c d at_ M → M[n]? = some (.lst (ts.map Zaw)) →
  ∃ (p' : Nat) (bs' : List Int) (ts' : List Stp) (at' : Nat) (M' : Store), ZcD (Zc9 (e2 Ziv (ZaQ Zbe (Za (Zb 4) (Zj))) (Zb 5)) (e2 Zh8 (e2 Zo (e2 Zo (Zb 1) (Zb 2)) (eC (.int 0))) (eC (.str [104, 97, 108, 116])))) (Zaa (Zew (Zw ZaN (Za (e2 Zo (Zb 1) (Zb 2)) (Za (Zb 2) (Za (Zb 3) (Za (Zw Zai (Za (Zw Zab (Za (Zb 0) (Zj))) (Zj))) (Zj)))))) (Zdn [2, 3])) (Zaq (Zcy tyL ZaS (Zb 4) (Za (Za4 (Za (Zb 2) (Za (Zb 3) (Zj)))) (Zj))))) fuel
   [some (.ref d), some (Zk roll), some (.int (p : Int)), some (Zg bs), some (.ref n), some (.int (many : Int))] M = .nx [some (.ref d), some (Zk roll), some (.int (p' : Int)), some (Zg bs'), some (.ref n), some (.int (many : Int))] M' ∧ M'[n]? = some (.lst (ts'.map Zaw)) ∧ (∀ s ∈ ts', s.2.length = 8) ∧ 0 < ts'.length ∧ ts'.length ≤ 61 ∧ at' + ts.length = at_ + ts'.length ∧ Zci cs c d at' M' ∧ M'.length = M.length ∧ ∀ j, j ≠ d → j ≠ n → M'[j]? = M[j]?
 | 0, p, bs, ts, at_, M, h, _, _, _, _, _, _, _, _ => absurd h (by omega)
 | fuel + 1, p, bs, ts, at_, M, hf, hp, hb, h8, h1, h61, ha, K, hM => by
  have hr : roll[p]? = some roll[p] := by simp [hp]
  have gk : ZaP (roll.map Zf) ((p : Nat) : Int) = some (Zf roll[p]) := by rw [Zcs, List.getElem?_map, hr]; rfl
  generalize roll[p] = r at hr gk
  have hh : ∀ b : Bool, r.isHalt = b → (e2 Zh8 (e2 Zo (e2 Zo (Zb 1) (Zb 2)) (eC (.int 0))) (eC (.str [104, 97, 108, 116]))) [some (.ref d), some (Zk roll), some (.int (p : Int)), some (Zg bs), some (.ref n), some (.int (many : Int))] M = .ok (.bl (!b)) M := fun b e => by
   subst e
   cases r <;> simp [Zk, gk, Zf, -Zaj, Row.isHalt]
  by_cases hq : ts.length ≤ many
  ·have c1 : (e2 Ziv (ZaQ Zbe (Za (Zb 4) (Zj))) (Zb 5)) [some (.ref d), some (Zk roll), some (.int (p : Int)), some (Zg bs), some (.ref n), some (.int (many : Int))] M = .ok (.bl true) M := by simp [hM, hq]
   cases hb2 : r.isHalt with
   | true =>
    exact ⟨p, bs, ts, at_, M, Zgd (M1 := M) ((ZfK c1).trans (hh true hb2)), hM, h8, h1, h61, by omega, K, rfl, fun _ _ _ => rfl⟩
   | false =>
    obtain ⟨bs', M1, lb, e1, hM1, K1, l1, o1⟩ := ZgC cs c d n many hn roll R p bs ts at_ M r hr hb (by omega) (by omega) K hM hnc
    obtain ⟨p2, bs2, ts2, at2, M2, e2, hM2, h82, hp2, h612, ha2, K2, l2, o2⟩ := ZeD cs c d n many hn hnc hmany roll R fuel (r.place bs p) bs' (ts ++ [(((r.place bs p : Nat) : Int), bs')]) (at_ + 1) M1 (by simp; omega) (place_lt R hb hr hb2) lb (fun s hs => by
     rcases List.mem_append.mp hs with h | h
     ·exact h8 s h
     ·rw [List.mem_singleton.mp h]; exact lb) (by simp) (by simp; omega) (by simp; omega) K1 hM1
    exact ⟨p2, bs2, ts2, at2, M2, (ZiL (M1 := M) ((ZfK c1).trans (hh false hb2)) e1).trans e2, hM2, h82, hp2, h612, by simp at ha2; omega, K2, by rw [l2, l1], fun j hj hjn => by rw [o2 j hj hjn, o1 j hj hjn]⟩
  ·have c1 : (e2 Ziv (ZaQ Zbe (Za (Zb 4) (Zj))) (Zb 5)) [some (.ref d), some (Zk roll), some (.int (p : Int)), some (Zg bs), some (.ref n), some (.int (many : Int))] M = .ok (.bl false) M := by simp [hM]; omega
   exact ⟨p, bs, ts, at_, M, Zgd (M1 := M) (Zjc c1), hM, h8, h1, h61, by omega, K, rfl, fun _ _ _ => rfl⟩
theorem Zci.more {cs : List Int} {c d at_ : Nat} {M : Store} (K : Zci cs c d at_ M) (G : Store) : Zci cs c d at_ (M ++ G) := ⟨ZaY K.hd G, ZaY K.hc G, K.ne⟩
theorem Zci.dl {cs : List Int} {c d at_ : Nat} {M : Store} (K : Zci cs c d at_ M) : d < M.length := (List.getElem?_eq_some_iff.mp K.hd).1
theorem Zci.cl {cs : List Int} {c d at_ : Nat} {M : Store} (K : Zci cs c d at_ M) : c < M.length := (List.getElem?_eq_some_iff.mp K.hc).1
theorem Zib (cs : List Int) (c d at_ : Nat) (M : Store) (K : Zci cs c d at_ M) (ha : at_ ≤ 1000) (roll : Zcc) (R : ZbM roll) (lroll : 0 < roll.length) :
  ∃ (ts : List Stp) (n at' : Nat) (M' : Store), Zcl [.ref d, Zk roll] M = .ok (.ref n) M' ∧ M'[n]? = some (.lst (ts.map Zaw)) ∧ (∀ s ∈ ts, s.2.length = 8) ∧ 0 < ts.length ∧ ts.length ≤ 61 ∧ at' ≤ at_ + 80 ∧ Zci cs c d at' M' ∧ n ≠ d ∧ n ≠ c := by
 obtain ⟨v, M1, e1, K1, l1, -⟩ := K.next (by omega)
 obtain ⟨p, hp, lp⟩ := ZbC v roll.length lroll
 have s1 : (e2 Zan (Zw Zab (Za (Zb 0) (Zj))) (ZaQ Zbe (Za (Zb 1) (Zj)))) [some (.ref d), some (Zk roll), none, none, none, none] M = .ok (.int (p : Int)) M1 := by
  refine Zcr (a := .int v) (b := .int (roll.length : Int)) (M1 := M1) (M2 := M1) (Zdv (a := .ref d) rfl e1) (by simp [Zk]) ?_
  have : (0 : Int) < (roll.length : Int) := by omega
  simp [this, hp, lroll]
 obtain ⟨bs, M2, ee2, lb, hM2, K2, l2, -⟩ := Zfr cs c d M1.length (by have := K1.dl; omega) (by have := K1.cl; omega) ⟨ZcM 0 8, none⟩ rfl (ZcM 0 8) [] (at_ + 1) [some (.ref d), some (Zk roll), some (.int (p : Int)), none, none, none, none] (M1 ++ [.lst []]) (by simp [ZdK]; omega) (by simp [ZdK]) rfl (K1.more _) (by simp)
 have lb8 : bs.length = 8 := by rw [lb]; simp [ZdK]
 have s2 : (ZaQ ZbL (Za (eLC (ZbZ (eC (.int 8))) 1 (ZcP 6) [] (Zw Zai (Za (Zw Zab (Za (Zb 0) (Zj))) (Zj)))) (Zj))) [some (.ref d), some (Zk roll), some (.int (p : Int)), none, none, none] M1 = .ok (Zg bs) M2 := by
  have x : (eLC (ZbZ (eC (.int 8))) 1 (ZcP 6) [] (Zw Zai (Za (Zw Zab (Za (Zb 0) (Zj))) (Zj)))) [some (.ref d), some (Zk roll), some (.int (p : Int)), none, none, none] M1 = .ok (.ref M1.length) M2 := by
   rw [ZkR (it := ⟨ZcM 0 8, none⟩) (M' := M1) (by simp)]
   exact ee2
  generalize (eLC (ZbZ (eC (.int 8))) 1 (ZcP 6) [] (Zw Zai (Za (Zw Zab (Za (Zb 0) (Zj))) (Zj)))) = E at x
  simp [x, hM2, Zg]
 rw [ZdK] at K2
 obtain ⟨w, M3, e3, K3, l3, o3⟩ := (K2.more [.lst [Zaw ((p : Int), bs)]]).next (by omega)
 obtain ⟨many, hm, lm⟩ := ZbC w 61 (by omega)
 have hM3 : M3[M2.length]? = some (.lst ([((p : Int), bs)].map Zaw)) := by rw [o3 M2.length (by have := K2.dl; omega)]; simp
 have s3 : (Zb9 (Za (Za4 (Za (Zb 2) (Za (Zb 3) (Zj)))) (Zj))) [some (.ref d), some (Zk roll), some (.int (p : Int)), some (Zg bs), none, none] M2 = .ok (.ref M2.length) (M2 ++ [.lst [Zaw ((p : Int), bs)]]) := by simp [Zaw, Zav]
 have s4 : (e2 Zan (Zw Zab (Za (Zb 0) (Zj))) (eC (.int 61))) [some (.ref d), some (Zk roll), some (.int (p : Int)), some (Zg bs), some (.ref M2.length), none] (M2 ++ [.lst [Zaw ((p : Int), bs)]]) = .ok (.int (many : Int)) M3 := by
  refine Zcr (a := .int w) (b := .int 61) (M1 := M3) (M2 := M3) (Zdv (a := .ref d) rfl e3) rfl ?_
  have hm' : w % 61 = (many : Int) := hm
  simp [hm']
 obtain ⟨p', bs', ts, at', M', e5, hM', h8, h0, h61, hat, K', l', -⟩ := ZeD cs c d M2.length many (by have := K2.dl; omega) (by have := K2.cl; omega) (by omega) roll R 1000000 p bs [((p : Int), bs)] (at_ + 1 + 8 + 1) M3 (by simp; omega) lp lb8 (fun s hs => by rw [List.mem_singleton.mp hs]; exact lb8) (by simp) (by simp) (by simp; omega) K3 hM3
 refine ⟨ts, M2.length, at', M', ?_, hM', h8, h0, h61, by simp at hat; omega, K', by have := K2.dl; omega, by have := K2.cl; omega⟩
 have hb : ZcV [some (.ref d), some (Zk roll), none, none, none, none] M = .rt (.ref M2.length) M' :=
  (Ze (Zt s1)).trans ((Ze (Zt s2)).trans ((Ze (Zt s3)).trans ((Ze (Zt s4)).trans ((Ze e5).trans rfl))))
 refine (Zex hb).trans ?_
 have nb : below M.length (.ref M2.length) = false := by
  have : ¬ (M2.length < M.length) := by rw [l2]; simp; omega
  simp [below, this]
 simp [Zb2, nb]
theorem ZiI {fb fi fv : E3} {env : ZaD} {M M' : Store} {bs : List Int} {a : Nat} {v : Int} (hb : ∀ M, fb env M = .ok (Zg bs) M) (hi : ∀ M, fi env M = .ok (.int a) M) (hv : fv env M = .ok (.int v) M') (ha : a < bs.length) (hl : bs.length ≤ 1000) :
  (e2 Zx (e2 Zx (eSl fb (ZaB) (ZaC fi)) (Za4 (Za fv (Zj)))) (eSl fb (ZaC (e2 Zx fi (eC (.int 1)))) (ZaB))) env M = .ok (Zg (bs.set a v)) M' := by
 have c1 : cutD (bs.map D.int) none (some (a : Int)) = (bs.take a).map D.int := by rw [Zdu, List.map_take]
 have c2 : cutD (bs.map D.int) (some ((a : Int) + 1)) none = (bs.drop (a + 1)).map D.int := by
  rw [show ((a : Int) + 1) = ((a + 1 : Nat) : Int) by omega, ZdH, List.map_drop]
 have s1 : eSl fb (ZaB) (ZaC fi) env M = .ok (.tup ((bs.take a).map D.int)) M := by
  simp only [eSl, ZaB, ZaC, hb, hi, R3.bind, Zeb, Zg, c1]
 have s2 : eSl fb (ZaC (e2 Zx fi (eC (.int 1)))) (ZaB) env M' = .ok (.tup ((bs.drop (a + 1)).map D.int)) M' := by
  simp only [eSl, e2, eC, Zx, ZaB, ZaC, hb, hi, R3.bind, Zeb, Zg, c2]
 have s3 : Za4 (Za fv (Zj)) env M = .ok (.tup [.int v]) M' := by simp [hv]
 have a1 : Zx (.tup ((bs.take a).map D.int)) (.tup [.int v]) M' = .ok (.tup ((bs.take a).map D.int ++ [.int v])) M' := by
  simp only [Zx]; rw [if_pos (by simp; omega)]
 refine (Zcr (Zcr s1 s3 a1) s2 ?_)
 simp only [Zx]
 rw [if_pos (by simp; omega), Zg, List.set_eq_take_append_cons_drop, if_pos ha]
 simp
theorem Zja (ts : List Stp) (n a : Nat) (s : Stp) (M : Store) (x1 x2 x6 x7 : Option D) (hM : M[n]? = some (.lst (ts.map Zaw))) (ha : a < ts.length) (hl : ts.length ≤ 1000) :
  ∃ G m, (e2 Zx (e2 Zx (eSl (Zb 0) (ZaB) (ZaC (Zb 3))) (Zb9 (Za (Za4 (Za (Zb 4) (Za (Zb 5) (Zj)))) (Zj)))) (eSl (Zb 0) (ZaC (e2 Zx (Zb 3) (eC (.int 1)))) (ZaB))) [some (.ref n), x1, x2, some (.int (a : Int)), some (.int s.1), some (Zg s.2), x6, x7] M = .ok (.ref m) (M ++ G) ∧ M.length ≤ m ∧ (M ++ G)[m]? = some (.lst ((ts.set a s).map Zaw)) := by
 have c1 : cutD (ts.map Zaw) none (some (a : Int)) = (ts.take a).map Zaw := by rw [Zdu, List.map_take]
 have c2 : cutD (ts.map Zaw) (some ((a : Int) + 1)) none = (ts.drop (a + 1)).map Zaw := by
  rw [show ((a : Int) + 1) = ((a + 1 : Nat) : Int) by omega, ZdH, List.map_drop]
 have s1 : eSl (Zb 0) (ZaB) (ZaC (Zb 3)) [some (.ref n), x1, x2, some (.int (a : Int)), some (.int s.1), some (Zg s.2), x6, x7] M = .ok (.ref M.length) (M ++ [.lst ((ts.take a).map Zaw)]) := by simp [hM, c1]
 have s2 : Zb9 (Za (Za4 (Za (Zb 4) (Za (Zb 5) (Zj)))) (Zj)) [some (.ref n), x1, x2, some (.int (a : Int)), some (.int s.1), some (Zg s.2), x6, x7] (M ++ [.lst ((ts.take a).map Zaw)]) = .ok (.ref (M.length + 1)) (M ++ [.lst ((ts.take a).map Zaw), .lst [Zaw s]]) := by simp [Zaw, Zav]
 have a1 : Zx (.ref M.length) (.ref (M.length + 1)) (M ++ [.lst ((ts.take a).map Zaw), .lst [Zaw s]]) = .ok (.ref (M.length + 2)) (M ++ [.lst ((ts.take a).map Zaw), .lst [Zaw s], .lst ((ts.take a).map Zaw ++ [Zaw s])]) := by
  have lz : min a ts.length + 1 ≤ 1000000 := by omega
  simp [lz]
 have g3 : ∀ G : Store, (M ++ G)[n]? = some (.lst (ts.map Zaw)) := fun G => ZaY hM G
 have s3 : eSl (Zb 0) (ZaC (e2 Zx (Zb 3) (eC (.int 1)))) (ZaB) [some (.ref n), x1, x2, some (.int (a : Int)), some (.int s.1), some (Zg s.2), x6, x7] (M ++ [.lst ((ts.take a).map Zaw), .lst [Zaw s], .lst ((ts.take a).map Zaw ++ [Zaw s])]) = .ok (.ref (M.length + 3)) (M ++ [.lst ((ts.take a).map Zaw), .lst [Zaw s], .lst ((ts.take a).map Zaw ++ [Zaw s]), .lst ((ts.drop (a + 1)).map Zaw)]) := by simp [g3, c2]
 refine ⟨[.lst ((ts.take a).map Zaw), .lst [Zaw s], .lst ((ts.take a).map Zaw ++ [Zaw s]), .lst ((ts.drop (a + 1)).map Zaw), .lst ((ts.set a s).map Zaw)], M.length + 4, Zcr (Zcr s1 s2 a1) s3 ?_, by omega, by simp⟩
 have e : (ts.set a s).map Zaw = (ts.take a).map Zaw ++ [Zaw s] ++ (ts.drop (a + 1)).map Zaw := by
  rw [List.set_eq_take_append_cons_drop, if_pos ha]; simp
 rw [e]
 have lz : min a ts.length + 1 + (ts.length - (a + 1)) ≤ 1000000 := by omega
 simp [lz]
theorem ZgS (ts : List Stp) (n many : Nat) (cell : Int) (M : Store) (hM : M[n]? = some (.lst (ts.map Zaw))) (h8 : ∀ s ∈ ts, s.2.length = 8) (h0 : 0 < ts.length) (hl : ts.length ≤ 61) (hm : 0 < many) :
  ∃ (ts' : List Stp) (G : Store) (m : Nat), Za5 [.ref n, .int cell, .int (many : Int)] M = .ok (.ref m) (M ++ G) ∧ M.length ≤ m ∧ (M ++ G)[m]? = some (.lst (ts'.map Zaw)) ∧ (∀ s ∈ ts', s.2.length = 8) ∧ 0 < ts'.length ∧ ts'.length ≤ 61 := by
 obtain ⟨a, ha, la⟩ := ZbC cell ts.length h0
 obtain ⟨w, hw, lw⟩ := ZbC (cell / 61) 7 (by omega)
 obtain ⟨b, hb, lb⟩ := ZbC (cell / 427) 8 (by omega)
 have hw' : cell / 61 % 7 = (w : Int) := hw
 have hb' : cell / 427 % 8 = (b : Int) := hb
 have hs8 := h8 _ (List.getElem_mem la)
 have gt := ZfW (ts := ts) la
 obtain ⟨s, hs⟩ : ∃ s, s = ts[a] := ⟨_, rfl⟩
 rw [← hs] at hs8 gt
 have t1 : ∀ k : S3, (Zaa (Zah 3 (e2 Zan (Zb 1) (ZaQ Zbe (Za (Zb 0) (Zj))))) (Zaa (Zew (e2 Zo (Zb 0) (Zb 3)) (Zdn [4, 5])) (Zaa (Zah 6 (e2 Zan (e2 Zaz (Zb 1) (eC (.int 61))) (eC (.int 7)))) (Zaa (Zah 7 (e2 Zan (e2 Zaz (Zb 1) (eC (.int 427))) (eC (.int 8)))) k)))) [some (.ref n), some (.int cell), some (.int (many : Int)), none, none, none, none, none] M = k [some (.ref n), some (.int cell), some (.int (many : Int)), some (.int (a : Int)), some (.int s.1), some (Zg s.2), some (.int (w : Int)), some (.int (b : Int))] M := fun k => by
  have p : (0 : Int) < (ts.length : Int) := by omega
  rw [Ze (Zt (d := .int (a : Int)) (M' := M) (by simp [hM, ha, h0, p]))]
  rw [Ze (env' := [some (.ref n), some (.int cell), some (.int (many : Int)), some (.int (a : Int)), some (.int s.1), some (Zg s.2), none, none]) (M' := M) (by simp [Zew, hM, gt, Zaw, Zav, -Zaj])]
  rw [Ze (Zt (d := .int (w : Int)) (M' := M) (by simp [hw']))]
  rw [Ze (Zt (d := .int (b : Int)) (M' := M) (by simp [hb']))]
 obtain ⟨bs2, G1, lb2, t2⟩ : ∃ (bs2 : List Int) (G1 : Store), bs2.length = 8 ∧ (sIf (e2 ZhM (Zb 6) (eC (.int 3))) (Zah 5 (e2 Zx (e2 Zx (eSl (Zb 5) (ZaB) (ZaC (Zb 7))) (Za4 (Za (e2 Zx (e2 Zo (Zb 5) (Zb 7)) (e2 Zo (Zb9 (Za (eC (.int 1)) (Za (e1 Zc2 (eC (.int 1))) (Za (e2 Zdm (eC (.int 10)) (eC (.int 30))) (Zj))))) (Zb 6))) (Zj)))) (eSl (Zb 5) (ZaC (e2 Zx (Zb 7) (eC (.int 1)))) (ZaB)))) (Zad)) [some (.ref n), some (.int cell), some (.int (many : Int)), some (.int (a : Int)), some (.int s.1), some (Zg s.2), some (.int (w : Int)), some (.int (b : Int))] M = .nx [some (.ref n), some (.int cell), some (.int (many : Int)), some (.int (a : Int)), some (.int s.1), some (Zg bs2), some (.int (w : Int)), some (.int (b : Int))] (M ++ G1) := by
  by_cases z : w < 3
  ·obtain ⟨x, hx, gx⟩ := Zbd hs8 lb
   obtain ⟨y, hy⟩ : ∃ y : Int, ZaP [D.int 1, D.int (-1), D.int 1000000000000000000000000000000] (w : Int) = some (.int y) := by
    have h : w = 0 ∨ w = 1 ∨ w = 2 := by omega
    rcases h with h | h | h <;> subst h <;> exact ⟨_, rfl⟩
   refine ⟨s.2.set b (x + y), [.lst [D.int 1, D.int (-1), D.int 1000000000000000000000000000000]], by simp [hs8], ?_⟩
   rw [ZaR (M' := M) (by simp; omega)]
   refine Zt (ZiI (a := b) (v := x + y) (fun M => rfl) (fun M => rfl) ?_ (by omega) (by omega))
   refine Zcr (a := .int x) (b := .int y) (M1 := M) (M2 := M ++ [.lst [D.int 1, D.int (-1), D.int 1000000000000000000000000000000]]) (by simp [Zg, gx, -Zaj]) ?_ rfl
   refine Zcr (a := .ref M.length) (b := .int (w : Int)) (M1 := M ++ [.lst [D.int 1, D.int (-1), D.int 1000000000000000000000000000000]]) (M2 := M ++ [.lst [D.int 1, D.int (-1), D.int 1000000000000000000000000000000]]) (by simp) rfl ?_
   simp [hy, -Zaj]
  ·exact ⟨s.2, [], hs8, by rw [List.append_nil]; exact Zh (by simp; omega)⟩
 obtain ⟨p2, G2, t3⟩ : ∃ (p2 : Int) (G2 : Store), ∀ k : S3, (Zaa (sIf (e2 ZaU (Zb 6) (eC (.int 3))) (Zah 4 (e2 Zx (Zb 4) (eC (.int 1)))) (Zad)) (Zaa (sIf (e2 ZaU (Zb 6) (eC (.int 4))) (Zah 4 (e2 Zo (Zb9 (Za (e1 Zc2 (eC (.int 1))) (Za (Zb 2) (Za (e2 Zx (Zb 2) (eC (.int 5))) (Za (e2 Zce (eC (.int 0)) (Zb 2)) (Zj)))))) (e2 Zan (e2 Zaz (Zb 1) (eC (.int 427))) (eC (.int 4))))) (Zad)) (Zaa (sIf (e2 ZaU (Zb 6) (eC (.int 5))) (Zah 4 (e2 Zce (Zb 2) (eC (.int 1)))) (Zad)) (Zaa (sIf (e2 ZaU (Zb 6) (eC (.int 6))) (Zah 4 (e2 Zan (e2 Zaz (Zb 1) (eC (.int 427))) (Zb 2))) (Zad)) k)))) [some (.ref n), some (.int cell), some (.int (many : Int)), some (.int (a : Int)), some (.int (s.1)), some (Zg bs2), some (.int (w : Int)), some (.int (b : Int))] (M ++ G1) = k [some (.ref n), some (.int cell), some (.int (many : Int)), some (.int (a : Int)), some (.int (p2)), some (Zg bs2), some (.int (w : Int)), some (.int (b : Int))] (M ++ G2) := by
  have h : w < 3 ∨ w = 3 ∨ w = 4 ∨ w = 5 ∨ w = 6 := by omega
  rcases h with z | z | z | z | z
  ·refine ⟨s.1, G1, fun k => ?_⟩
   rw [Ze (Zh (M' := M ++ G1) (by simp; omega))]
   rw [Ze (Zh (M' := M ++ G1) (by simp; omega))]
   rw [Ze (Zh (M' := M ++ G1) (by simp; omega))]
   rw [Ze (Zh (M' := M ++ G1) (by simp; omega))]
  ·refine ⟨s.1 + 1, G1, fun k => ?_⟩
   rw [Ze (env' := [some (.ref n), some (.int cell), some (.int (many : Int)), some (.int (a : Int)), some (.int (s.1 + 1)), some (Zg bs2), some (.int (w : Int)), some (.int (b : Int))]) (M' := M ++ G1) (by rw [ZaR (M' := M ++ G1) (by simp [z])]; exact Zt (d := .int (s.1 + 1)) (by simp))]
   rw [Ze (Zh (M' := M ++ G1) (by simp; omega))]
   rw [Ze (Zh (M' := M ++ G1) (by simp; omega))]
   rw [Ze (Zh (M' := M ++ G1) (by simp; omega))]
  ·obtain ⟨y, hy⟩ : ∃ y : Int, ZaP [D.int (-1), D.int (many : Int), D.int ((many : Int) + 5), D.int (-(many : Int))] (cell / 427 % 4) = some (.int y) := by
    have h : cell / 427 % 4 = 0 ∨ cell / 427 % 4 = 1 ∨ cell / 427 % 4 = 2 ∨ cell / 427 % 4 = 3 := by omega
    rcases h with h | h | h | h <;> rw [h] <;> exact ⟨_, rfl⟩
   refine ⟨y, G1 ++ [.lst [D.int (-1), D.int (many : Int), D.int ((many : Int) + 5), D.int (-(many : Int))]], fun k => ?_⟩
   rw [← List.append_assoc]
   rw [Ze (Zh (M' := M ++ G1) (by simp; omega))]
   rw [Ze (env' := [some (.ref n), some (.int cell), some (.int (many : Int)), some (.int (a : Int)), some (.int (y)), some (Zg bs2), some (.int (w : Int)), some (.int (b : Int))]) (M' := M ++ G1 ++ [.lst [D.int (-1), D.int (many : Int), D.int ((many : Int) + 5), D.int (-(many : Int))]]) (by rw [ZaR (M' := M ++ G1) (by simp [z])]; exact Zt (d := .int (y)) (by simp [hy]))]
   rw [Ze (Zh (M' := M ++ G1 ++ [.lst [D.int (-1), D.int (many : Int), D.int ((many : Int) + 5), D.int (-(many : Int))]]) (by simp; omega))]
   rw [Ze (Zh (M' := M ++ G1 ++ [.lst [D.int (-1), D.int (many : Int), D.int ((many : Int) + 5), D.int (-(many : Int))]]) (by simp; omega))]
  ·refine ⟨(many : Int) - 1, G1, fun k => ?_⟩
   rw [Ze (Zh (M' := M ++ G1) (by simp; omega))]
   rw [Ze (Zh (M' := M ++ G1) (by simp; omega))]
   rw [Ze (env' := [some (.ref n), some (.int cell), some (.int (many : Int)), some (.int (a : Int)), some (.int ((many : Int) - 1)), some (Zg bs2), some (.int (w : Int)), some (.int (b : Int))]) (M' := M ++ G1) (by rw [ZaR (M' := M ++ G1) (by simp [z])]; exact Zt (d := .int ((many : Int) - 1)) (by simp))]
   rw [Ze (Zh (M' := M ++ G1) (by simp; omega))]
  ·refine ⟨cell / 427 % (many : Int), G1, fun k => ?_⟩
   have hm' : (0 : Int) < (many : Int) := by omega
   rw [Ze (Zh (M' := M ++ G1) (by simp; omega))]
   rw [Ze (Zh (M' := M ++ G1) (by simp; omega))]
   rw [Ze (Zh (M' := M ++ G1) (by simp; omega))]
   rw [Ze (env' := [some (.ref n), some (.int cell), some (.int (many : Int)), some (.int (a : Int)), some (.int (cell / 427 % (many : Int))), some (Zg bs2), some (.int (w : Int)), some (.int (b : Int))]) (M' := M ++ G1) (by rw [ZaR (M' := M ++ G1) (by simp [z])]; exact Zt (d := .int (cell / 427 % (many : Int))) (by simp [hm, hm']))]
 obtain ⟨G3, m, t4, lm, gm⟩ := Zja ts n a (p2, bs2) (M ++ G2) (some (.int cell)) (some (.int (many : Int))) (some (.int (w : Int))) (some (.int (b : Int))) (ZaY hM G2) la (by omega)
 refine ⟨ts.set a (p2, bs2), G2 ++ G3, m, ?_, by simp at lm; omega, by rw [← List.append_assoc]; exact gm, fun s hs => ?_, by simp [h0], by simp [hl]⟩
 ·have hb : Zcw [some (.ref n), some (.int cell), some (.int (many : Int)), none, none, none, none, none] M = .rt (.ref m) (M ++ (G2 ++ G3)) := by
   rw [← List.append_assoc]
   exact (t1 _).trans ((Ze t2).trans ((t3 _).trans (Zbx t4)))
  refine (Zex hb).trans ?_
  have nb : below M.length (.ref m) = false := by
   have : ¬ (m < M.length) := by simp at lm; omega
   simp [below, this]
  simp [Zb2, nb]
 ·rcases List.mem_or_eq_of_mem_set hs with h | h
  ·exact h8 s h
  ·rw [h]; exact lb2
theorem Zg5 (o : Option Nat) (M : Store) : ZaK [Zd2 o, Zd2 o] M = .ok (.bl true) M := by
 cases o <;> simp [ZaK, Zc5, Zaa, Zah, Zam, sIf, Zad, Zaq, mkF, Zb2, below, belowL, Zbg, Zd2]
theorem Zc8 (roll : Zcc) (R : ZbM roll) (ts : List Stp) (h8 : ∀ s ∈ ts, s.2.length = 8) (M : Store) (hz : ts.length ≤ 5000) : ZaF [Zk roll, Zcn ts] M = .ok (Zd2 (Zds roll ts)) M :=
 Rt.pure (G := []) (env := [some (Zk roll), some (Zcn ts)]) (by rw [List.append_nil]; exact Zbx (ZcR rfl rfl (Zdh roll R ts h8 M hz))) (Zep _ _)
theorem Zfn (roll : Zcc) (R : ZbM roll) (ts : List Stp) (h8 : ∀ s ∈ ts, s.2.length = 8) (hz : ts.length ≤ 5000) {f g : E3} {env : ZaD} {M : Store} (hf : f env M = .ok (Zk roll) M) (hg : g env M = .ok (Zcn ts) M) :
  (e1 ZcI (Zw ZaK (Za (Zw ZaF (Za f (Za g (Zj)))) (Za (Zw Zbt (Za f (Za g (Zj)))) (Zj))))) env M = .ok (.bl false) M :=
 Zka (ZcR (ZcR hf hg (Zc8 roll R ts h8 M hz)) (ZcR hf hg (ZlG roll R ts h8 M hz)) (Zg5 _ M)) rfl
theorem Zfk (roll : Zcc) (R : ZbM roll) (ts : List Stp) (h8 : ∀ s ∈ ts, s.2.length = 8) (hz : ts.length ≤ 1) {f g : E3} {env : ZaD} {M M' : Store} (hf : f env M = .ok (Zk roll) M) (hg : g env M = .ok (Zcn ts) M') :
  (Zw ZaK (Za (Zw ZaF (Za f (Za g (Zj)))) (Za (eC .non) (Zj)))) env M = .ok (.bl true) M' := by
 have e : Zds roll ts = none := by
  have : ts.length - 1 = 0 := by omega
  simp [Zds, this]
 have sf := Zc8 roll R ts h8 M' (by omega)
 rw [e] at sf
 exact ZcR (ZcR hf hg sf) rfl (Zg5 none M')
theorem ZfV {α : Type} {xs : List α} {i j : Option Int} {x : α} (h : x ∈ cutD xs i j) : x ∈ xs := by
 unfold cutD at h
 exact List.mem_of_mem_drop (List.mem_of_mem_take h)
theorem Zg1 {α : Type} (xs : List α) (i j : Option Int) : (cutD xs i j).length ≤ xs.length := by
 unfold cutD
 simp only [List.length_take, List.length_drop]; omega
noncomputable def ZgG : S3 := (Zaa (Zah 7 (ZaQ ZbL (Za (eSl (Zb 4) (ZaC (Zb 6)) (ZaB)) (Zj)))) (Zaa (sIf (e1 ZcI (Zw ZaK (Za (Zw ZaF (Za (Zb 3) (Za (Zb 7) (Zj)))) (Za (Zw Zbt (Za (Zb 3) (Za (Zb 7) (Zj)))) (Zj))))) (Zam (eC (.bl false))) (Zad)) (sIf (e1 ZcI (Zw ZaK (Za (Zw ZaF (Za (Zb 3) (Za (eSl (Zb 7) (ZaB) (ZaC (eC (.int 2)))) (Zj)))) (Za (Zw Zbt (Za (Zb 3) (Za (eSl (Zb 7) (ZaB) (ZaC (eC (.int 2)))) (Zj)))) (Zj))))) (Zam (eC (.bl false))) (Zad))))
theorem ZhE (roll : Zcc) (R : ZbM roll) (ts : List Stp) (h8 : ∀ s ∈ ts, s.2.length = 8) (hl : ts.length ≤ 61) (x0 x1 x2 x5 x7 : Option D) (n : Nat) (i : Int) (M : Store) (hM : M[n]? = some (.lst (ts.map Zaw))) :
  ∃ (G : Store) (y7 : Option D), ZgG [x0, x1, x2, some (Zk roll), some (.ref n), x5, some (.int i), x7] M = .nx [x0, x1, x2, some (Zk roll), some (.ref n), x5, some (.int i), y7] (M ++ G) := by
 have h8' : ∀ s ∈ cutD ts (some i) none, s.2.length = 8 := fun s hs => h8 s (ZfV hs)
 have l' := Zg1 ts (some i) none
 have s1 : (ZaQ ZbL (Za (eSl (Zb 4) (ZaC (Zb 6)) (ZaB)) (Zj))) [x0, x1, x2, some (Zk roll), some (.ref n), x5, some (.int i), x7] M = .ok (Zcn (cutD ts (some i) none)) (M ++ [.lst ((cutD ts (some i) none).map Zaw)]) := by
  have := Zen Zaw ts (some i) none
  simp [hM, this, Zcn]
 refine ⟨[.lst ((cutD ts (some i) none).map Zaw)], some (Zcn (cutD ts (some i) none)), ?_⟩
 unfold ZgG
 refine (Ze (Zt s1)).trans ((Ze (Zh (Zfn roll R _ h8' (by omega) rfl rfl))).trans (Zh (Zfn roll R (cutD (cutD ts (some i) none) none (some 2)) (fun s hs => h8' s (ZfV hs)) (by have := Zg1 (cutD ts (some i) none) none (some 2); omega) rfl ?_)))
 have := Zen Zaw (cutD ts (some i) none) none (some 2)
 simp [Zcn, this]
theorem Zi6 (roll : Zcc) (R : ZbM roll) (ts : List Stp) (h8 : ∀ s ∈ ts, s.2.length = 8) (hl : ts.length ≤ 61) (x0 x1 x2 x5 : Option D) (n : Nat) (it : It3) : ∀ (is : List Int) (x6 x7 : Option D) (M : Store), M[n]? = some (.lst (ts.map Zaw)) → (∀ m, it.lock = some m → M[m]? = some (.lst it.items)) →
  ∃ (G : Store) (y6 y7 : Option D), Zb3 it (ZcP 6) ZgG (is.map D.int) [x0, x1, x2, some (Zk roll), some (.ref n), x5, x6, x7] M = .nx [x0, x1, x2, some (Zk roll), some (.ref n), x5, y6, y7] (M ++ G)
 | [], x6, x7, M, hM, hk => ⟨[], x6, x7, by
  have lk : locked it M = true := by
   unfold locked
   split
   ·rfl
   ·next m e => simp [hk m e]
  simp [Zb3, lk]⟩
 | i :: is, x6, x7, M, hM, hk => by
  have lk : locked it M = true := by
   unfold locked
   split
   ·rfl
   ·next m e => simp [hk m e]
  obtain ⟨G, y7, h1⟩ := ZhE roll R ts h8 hl x0 x1 x2 x5 x7 n i M hM
  obtain ⟨G2, z6, z7, h2⟩ := Zi6 roll R ts h8 hl x0 x1 x2 x5 n it is (some (.int i)) y7 (M ++ G) (ZaY hM G) (fun m e => ZaY (hk m e) G)
  refine ⟨G ++ G2, z6, z7, ?_⟩
  rw [List.map_cons, Zb3, if_pos lk]
  have e0 : ZcP 6 (.int i) [x0, x1, x2, some (Zk roll), some (.ref n), x5, x6, x7] = some [x0, x1, x2, some (Zk roll), some (.ref n), x5, some (.int i), x7] := rfl
  simp only [e0, h1]
  rw [h2, List.append_assoc]
theorem Zgc (cs : List Int) (c d : Nat) (roll : Zcc) (lroll : 0 < roll.length) (x0 x2 x6 x7 : Option D) (it : It3) (hit : it.lock = none) : ∀ (ds : List D) (ts : List Stp) (n at_ : Nat) (x5 : Option D) (M : Store), Zci cs c d at_ M → M[n]? = some (.lst (ts.map Zaw)) → (∀ s ∈ ts, s.2.length = 8) → 0 < ts.length → ts.length ≤ 61 → n ≠ d → at_ + ds.length ≤ 5000 →
  ∃ (ts' : List Stp) (n' : Nat) (y5 : Option D) (M' : Store), Zb3 it (ZcP 5) (Zah 4 (Zw Za5 (Za (Zb 4) (Za (Zw Zab (Za (Zb 1) (Zj))) (Za (ZaQ Zbe (Za (Zb 3) (Zj))) (Zj)))))) ds [x0, some (.ref d), x2, some (Zk roll), some (.ref n), x5, x6, x7] M = .nx [x0, some (.ref d), x2, some (Zk roll), some (.ref n'), y5, x6, x7] M' ∧ M'[n']? = some (.lst (ts'.map Zaw)) ∧ (∀ s ∈ ts', s.2.length = 8) ∧ 0 < ts'.length ∧ ts'.length ≤ 61
 | [], ts, n, at_, x5, M, K, hM, h8, h0, hl, hn, ha => ⟨ts, n, x5, M, by simp [Zb3, locked, hit], hM, h8, h0, hl⟩
 | x :: ds, ts, n, at_, x5, M, K, hM, h8, h0, hl, hn, ha => by
  simp only [List.length_cons] at ha
  obtain ⟨v, M1, e1, K1, l1, o1⟩ := K.next (by omega)
  obtain ⟨ts1, G, m, e2', lm, gm, h81, h01, hl1⟩ := ZgS ts n roll.length v M1 (by rw [o1 n hn]; exact hM) h8 h0 hl lroll
  have hd := K1.dl
  obtain ⟨ts2, n2, y5, M2, e3, hM2, h82, h02, hl2⟩ := Zgc cs c d roll lroll x0 x2 x6 x7 it hit ds ts1 m (at_ + 1) (some x) (M1 ++ G) (K1.more G) gm h81 h01 hl1 (by omega) (by omega)
  refine ⟨ts2, n2, y5, M2, ?_, hM2, h82, h02, hl2⟩
  have lk : locked it M = true := by simp [locked, hit]
  have b1 : (Zah 4 (Zw Za5 (Za (Zb 4) (Za (Zw Zab (Za (Zb 1) (Zj))) (Za (ZaQ Zbe (Za (Zb 3) (Zj))) (Zj)))))) [x0, some (.ref d), x2, some (Zk roll), some (.ref n), some x, x6, x7] M = .nx [x0, some (.ref d), x2, some (Zk roll), some (.ref m), some x, x6, x7] (M1 ++ G) :=
   Zt (ZdS (a := .ref n) (b := .int v) (c := .int (roll.length : Int)) (M1 := M) (M2 := M1) (M3 := M1) rfl (Zdv (a := .ref d) rfl e1) (by simp [Zk]) e2')
  have e0 : ZcP 5 x [x0, some (.ref d), x2, some (Zk roll), some (.ref n), x5, x6, x7] = some [x0, some (.ref d), x2, some (Zk roll), some (.ref n), some x, x6, x7] := rfl
  rw [Zb3, if_pos lk]
  simp only [e0, b1]
  exact e3
theorem law_holds : ∀ ns : List Int, ns.length ≤ 63 → ∃ M', Zhe [.scr (ns.map D.int)] [] = .ok (.bl true) M' := by
 intro ns hns
 have ecs : cutD (ns.map D.int) none (some 64) = ns.map D.int := by
  have := Zdu (ns.map D.int) 64
  rw [List.take_of_length_le (by simp; omega)] at this
  exact this
 have ec4 : cutD (ns.map D.int) none (some 40) = (ns.take 40).map D.int := by
  have := Zdu (ns.map D.int) 40
  rw [← List.map_take] at this
  exact this
 have K0 : Zci ns 0 1 0 [.lst (ns.map D.int), .lst [.ref 0, .int 0]] := ⟨rfl, rfl, by omega⟩
 obtain ⟨cell, M1, e1, K1, l1, o1⟩ := K0.next (by omega)
 obtain ⟨roll, lroll, R, er⟩ := Zia (ns.take 40) M1.length (M1 ++ [.lst ((ns.take 40).map D.int)]) (by simp) (by simp; omega)
 obtain ⟨ts, n, at2, M2, e3, hM2, h8, h0, hl, ha2, K2, hnd, hnc⟩ := Zib ns 0 1 1 (M1 ++ [.lst ((ns.take 40).map D.int)]) (K1.more _) (by omega) roll R (by omega)
 obtain ⟨k3, hk3, lk3⟩ := ZbC cell 3 (by omega)
 have hk3' : cell % 3 = (k3 : Int) := hk3
 obtain ⟨ts2, n2, y5, M3, e4, hM3, h82, h02, hl2⟩ := Zgc ns 0 1 roll (by omega) (some (.scr (ns.map D.int))) (some (.int cell)) none none ⟨ZcM 0 k3, none⟩ rfl (ZcM 0 k3) ts n at2 none M2 K2 hM2 h8 h0 hl hnd (by rw [ZdK]; omega)
 obtain ⟨k11, hk11, lk11⟩ := ZbC cell 11 (by omega)
 have hk11' : cell % 11 = (k11 : Int) := hk11
 obtain ⟨is, his⟩ : ∃ is : List Int, [D.int 0] ++ Zdx (k11 : Int) 11 (Zb4 (k11 : Int) ((ts2.length : Int) + 1) 11) = is.map D.int := ⟨0 :: (List.range (Zb4 (k11 : Int) ((ts2.length : Int) + 1) 11)).map (fun (k : Nat) => (k11 : Int) + (k : Int) * 11), by simp [Zdx]⟩
 obtain ⟨G, y6, y7, e5⟩ := Zi6 roll R ts2 h82 hl2 (some (.scr (ns.map D.int))) (some (.ref 1)) (some (.int cell)) y5 n2 ⟨is.map D.int, some (M3.length + 2)⟩ is none none (M3 ++ [.lst [.int 0], .lst (Zdx (k11 : Int) 11 (Zb4 (k11 : Int) ((ts2.length : Int) + 1) 11)), .lst (is.map D.int)]) (ZaY hM3 _) (fun m e => by cases e; simp)
 refine Rt.law (env := [some (.scr (ns.map D.int)), none, none, none, none, none, none, none]) ?_
 unfold ZiT
 refine Rt.set (d := .ref 1) (M' := [.lst (ns.map D.int), .lst [.ref 0, .int 0]]) (by simp [ecs]) ?_
 refine Rt.set (d := .int cell) (M' := M1) (Zdv rfl e1) ?_
 refine Rt.set (d := Zk roll) (M' := M1 ++ [.lst ((ns.take 40).map D.int)]) (Zdv (a := .ref M1.length) (by simp [ec4]) er) ?_
 refine Rt.set (d := .ref n) (M' := M2) (ZcR rfl rfl e3) ?_
 have i1 : (ZbZ (e2 Zan (Zb 2) (eC (.int 3)))) [some (.scr (ns.map D.int)), some (.ref 1), some (.int cell), some (Zk roll), some (.ref n), none, none, none] M2 = .ok ⟨ZcM 0 k3, none⟩ M2 := by
  have b : ((k3 : Int)) ≤ 1000000 ∧ -1000000 ≤ (k3 : Int) := by omega
  simp [hk3', b]
 have i2 : (Zje (e2 Zx (Zb9 (Za (eC (.int 0)) (Zj))) (ZiX (e2 Zan (Zb 2) (eC (.int 11))) (e2 Zx (ZaQ Zbe (Za (Zb 4) (Zj))) (eC (.int 1))) (eC (.int 11))))) [some (.scr (ns.map D.int)), some (.ref 1), some (.int cell), some (Zk roll), some (.ref n2), y5, none, none] M3 = .ok ⟨is.map D.int, some (M3.length + 2)⟩ (M3 ++ [.lst [.int 0], .lst (Zdx (k11 : Int) 11 (Zb4 (k11 : Int) ((ts2.length : Int) + 1) 11)), .lst (is.map D.int)]) := by
  have g1 : ∀ G : Store, (M3 ++ G)[n2]? = some (.lst (ts2.map Zaw)) := fun G => ZaY hM3 G
  have ln : Zb4 (k11 : Int) ((ts2.length : Int) + 1) 11 ≤ 1000 := by
   unfold Zb4
   split <;> omega
  have lz : 1 + (Zdx (k11 : Int) 11 (Zb4 (k11 : Int) ((ts2.length : Int) + 1) 11)).length ≤ 1000000 := by
   simp only [Zdx, List.length_map, List.length_range]; omega
  have bd : (0 : Int) < 11 ∧ (11 : Int) ≤ 1000 ∧ -1000000 ≤ (k11 : Int) ∧ (k11 : Int) ≤ 1000000 ∧ -1000000 ≤ ((ts2.length : Int) + 1) ∧ ((ts2.length : Int) + 1) ≤ 1000000 := by omega
  have s1 : (Zb9 (Za (eC (.int 0)) (Zj))) [some (.scr (ns.map D.int)), some (.ref 1), some (.int cell), some (Zk roll), some (.ref n2), y5, none, none] M3 = .ok (.ref M3.length) (M3 ++ [.lst [.int 0]]) := by simp
  have s2 : (ZiX (e2 Zan (Zb 2) (eC (.int 11))) (e2 Zx (ZaQ Zbe (Za (Zb 4) (Zj))) (eC (.int 1))) (eC (.int 11))) [some (.scr (ns.map D.int)), some (.ref 1), some (.int cell), some (Zk roll), some (.ref n2), y5, none, none] (M3 ++ [.lst [.int 0]]) = .ok (.ref (M3.length + 1)) (M3 ++ [.lst [.int 0], .lst (Zdx (k11 : Int) 11 (Zb4 (k11 : Int) ((ts2.length : Int) + 1) 11))]) := by
   have a1 : (e2 Zan (Zb 2) (eC (.int 11))) [some (.scr (ns.map D.int)), some (.ref 1), some (.int cell), some (Zk roll), some (.ref n2), y5, none, none] (M3 ++ [.lst [.int 0]]) = .ok (.int (k11 : Int)) (M3 ++ [.lst [.int 0]]) := by simp [hk11']
   have a2 : (e2 Zx (ZaQ Zbe (Za (Zb 4) (Zj))) (eC (.int 1))) [some (.scr (ns.map D.int)), some (.ref 1), some (.int cell), some (Zk roll), some (.ref n2), y5, none, none] (M3 ++ [.lst [.int 0]]) = .ok (.int ((ts2.length : Int) + 1)) (M3 ++ [.lst [.int 0]]) := by simp [g1]
   rw [ZiX, a1]
   simp only [R3.bind]
   rw [a2]
   simp only [R3.bind, eC, if_pos bd]
   simp [alloc]
  have s3 : Zx (.ref M3.length) (.ref (M3.length + 1)) (M3 ++ [.lst [.int 0], .lst (Zdx (k11 : Int) 11 (Zb4 (k11 : Int) ((ts2.length : Int) + 1) 11))]) = .ok (.ref (M3.length + 2)) (M3 ++ [.lst [.int 0], .lst (Zdx (k11 : Int) 11 (Zb4 (k11 : Int) ((ts2.length : Int) + 1) 11)), .lst (is.map D.int)]) := by
   rw [← his]
   generalize Zdx (k11 : Int) 11 (Zb4 (k11 : Int) ((ts2.length : Int) + 1) 11) = L at lz
   simp [lz]
  have s4 := Zcr s1 s2 s3
  rw [Zje, s4]
  simp [R3.bind]
 have K4 : (M3 ++ [MO.lst [.int 0], .lst (Zdx (k11 : Int) 11 (Zb4 (k11 : Int) ((ts2.length : Int) + 1) 11)), .lst (is.map D.int)] ++ G)[n2]? = some (.lst (ts2.map Zaw)) := ZaY (ZaY hM3 _) G
 have lp := (Zeh (g := ZcP 6) i2).trans e5
 generalize M3 ++ [MO.lst [.int 0], .lst (Zdx (k11 : Int) 11 (Zb4 (k11 : Int) ((ts2.length : Int) + 1) 11)), .lst (is.map D.int)] ++ G = M4 at K4 lp
 have r1 := Zfk roll R [] (by simp) (by simp) (f := Zb 3) (g := Za4 Zj) (env := [some (.scr (ns.map D.int)), some (.ref 1), some (.int cell), some (Zk roll), some (.ref n2), y5, y6, y7]) (M := M4) (M' := M4) rfl (by simp [Zcn])
 have c1 : cutD ts2 none (some 1) = ts2.take 1 := Zdu ts2 1
 have r2 := Zfk roll R (cutD ts2 none (some 1)) (fun s hs => h82 s (ZfV hs)) (by rw [c1]; simp; omega) (f := Zb 3) (g := (ZaQ ZbL (Za (eSl (Zb 4) (ZaB) (ZaC (eC (.int 1)))) (Zj)))) (env := [some (.scr (ns.map D.int)), some (.ref 1), some (.int cell), some (Zk roll), some (.ref n2), y5, y6, y7]) (M := M4) (M' := M4 ++ [.lst ((cutD ts2 none (some 1)).map Zaw)]) rfl (by
  have := Zen Zaw ts2 none (some 1)
  simp [K4, this, Zcn])
 exact ⟨_, (Ze ((Zeh i1).trans e4)).trans ((Ze lp).trans (Zbx ((ZfK r1).trans r2)))⟩
end Law
set_option maxHeartbeats 400000
namespace Law
open PySem PySem.Spec PyProof.Rows L2 L3
theorem Zlc {l : PySem.W.OpenLaw} {w : World} {K : W.Frag} {h : Heap} {mg : Str → Option Value} {fa f0 f1 f2 f3 f4 f5 f6 f7 f8 f9 f10 f11 f12 f13 f14 f15 f16 f17 f18 f19 f20 : Addr} (X : K.In h) (G : h.Ns mainGlobals mg) (hfa : mg "law" = some (.ref fa))
  {od0 an0 od1 an1 od2 an2 od3 an3 od4 an4 od5 an5 od6 an6 od7 an7 od8 an8 od9 an9 od10 an10 od11 an11 od12 an12 od13 an13 od14 an14 od15 an15 od16 an16 od17 an17 od18 an18 od19 an19 od20 an20 : Option Addr} {sl0 sl1 sl2 sl3 sl4 sl5 sl6 sl7 sl8 sl9 sl10 sl11 sl12 sl13 sl14 sl15 sl16 sl17 sl18 sl19 sl20 : Array (Option Value)} {oc0 kV0 dc0 pm0 cd0 ct0 oc1 kV1 dc1 pm1 cd1 ct1 oc2 kV2 dc2 pm2 cd2 ct2 oc3 kV3 dc3 pm3 cd3 ct3 oc4 kV4 dc4 pm4 cd4 ct4 oc5 kV5 dc5 pm5 cd5 ct5 oc6 kV6 dc6 pm6 cd6 ct6 oc7 kV7 dc7 pm7 cd7 ct7 oc8 kV8 dc8 pm8 cd8 ct8 oc9 kV9 dc9 pm9 cd9 ct9 oc10 kV10 dc10 pm10 cd10 ct10 oc11 kV11 dc11 pm11 cd11 ct11 oc12 kV12 dc12 pm12 cd12 ct12 oc13 kV13 dc13 pm13 cd13 ct13 oc14 kV14 dc14 pm14 cd14 ct14 oc15 kV15 dc15 pm15 cd15 ct15 oc16 kV16 dc16 pm16 cd16 ct16 oc17 kV17 dc17 pm17 cd17 ct17 oc18 kV18 dc18 pm18 cd18 ct18 oc19 kV19 dc19 pm19 cd19 ct19 oc20 kV20 dc20 pm20 cd20 ct20 : Value}
  (a0 : W.nsIn K mainGlobals "next_place" = some (some (.ref f0))) (l0 : K.lookup f0 = some ⟨oc0, od0, .func (W.fnOf "next_place" "next_place" (Zax ZbA) (Zap ZbA) (Zr ZbA) .none kV0 dc0 pm0 an0 cd0 ct0), sl0⟩) (c0 : W.codeIn K cd0 "next_place" = true) (k0 : W.keepIn K (.ref f0) = true)
  (a1 : W.nsIn K mainGlobals "worked" = some (some (.ref f1))) (l1 : K.lookup f1 = some ⟨oc1, od1, .func (W.fnOf "worked" "worked" (Zax ZcK) (Zap ZcK) (Zr ZcK) .none kV1 dc1 pm1 an1 cd1 ct1), sl1⟩) (c1 : W.codeIn K cd1 "worked" = true) (k1 : W.keepIn K (.ref f1) = true)
  (a2 : W.nsIn K mainGlobals "with_box" = some (some (.ref f2))) (l2 : K.lookup f2 = some ⟨oc2, od2, .func (W.fnOf "with_box" "with_box" (Zax Zb7) (Zap Zb7) (Zr Zb7) .none kV2 dc2 pm2 an2 cd2 ct2), sl2⟩) (c2 : W.codeIn K cd2 "with_box" = true) (k2 : W.keepIn K (.ref f2) = true)
  (a3 : W.nsIn K mainGlobals "cell_value" = some (some (.ref f3))) (l3 : K.lookup f3 = some ⟨oc3, od3, .func (W.fnOf "cell_value" "cell_value" (Zax Zby) (Zap Zby) (Zr Zby) .none kV3 dc3 pm3 an3 cd3 ct3), sl3⟩) (c3 : W.codeIn K cd3 "cell_value" = true) (k3 : W.keepIn K (.ref f3) = true)
  (a4 : W.nsIn K mainGlobals "next_boxes" = some (some (.ref f4))) (l4 : K.lookup f4 = some ⟨oc4, od4, .func (W.fnOf "next_boxes" "next_boxes" (Zax ZbB) (Zap ZbB) (Zr ZbB) .none kV4 dc4 pm4 an4 cd4 ct4), sl4⟩) (c4 : W.codeIn K cd4 "next_boxes" = true) (k4 : W.keepIn K (.ref f4) = true)
  (a5 : W.nsIn K mainGlobals "is_within" = some (some (.ref f5))) (l5 : K.lookup f5 = some ⟨oc5, od5, .func (W.fnOf "is_within" "is_within" (Zax ZbQ) (Zap ZbQ) (Zr ZbQ) .none kV5 dc5 pm5 an5 cd5 ct5), sl5⟩) (c5 : W.codeIn K cd5 "is_within" = true) (k5 : W.keepIn K (.ref f5) = true)
  (a6 : W.nsIn K mainGlobals "row_at" = some (some (.ref f6))) (l6 : K.lookup f6 = some ⟨oc6, od6, .func (W.fnOf "row_at" "row_at" (Zax ZcJ) (Zap ZcJ) (Zr ZcJ) .none kV6 dc6 pm6 an6 cd6 ct6), sl6⟩) (c6 : W.codeIn K cd6 "row_at" = true) (k6 : W.keepIn K (.ref f6) = true)
  (a7 : W.nsIn K mainGlobals "boxes_behind" = some (some (.ref f7))) (l7 : K.lookup f7 = some ⟨oc7, od7, .func (W.fnOf "boxes_behind" "boxes_behind" (Zax Za9) (Zap Za9) (Zr Za9) .none kV7 dc7 pm7 an7 cd7 ct7), sl7⟩) (c7 : W.codeIn K cd7 "boxes_behind" = true) (k7 : W.keepIn K (.ref f7) = true)
  (a8 : W.nsIn K mainGlobals "step_fits" = some (some (.ref f8))) (l8 : K.lookup f8 = some ⟨oc8, od8, .func (W.fnOf "step_fits" "step_fits" (Zax ZbP) (Zap ZbP) (Zr ZbP) .none kV8 dc8 pm8 an8 cd8 ct8), sl8⟩) (c8 : W.codeIn K cd8 "step_fits" = true) (k8 : W.keepIn K (.ref f8) = true)
  (a9 : W.nsIn K mainGlobals "first_unfit_step" = some (some (.ref f9))) (l9 : K.lookup f9 = some ⟨oc9, od9, .func (W.fnOf "first_unfit_step" "first_unfit_step" (Zax ZaL) (Zap ZaL) (Zr ZaL) .none kV9 dc9 pm9 an9 cd9 ct9), sl9⟩) (c9 : W.codeIn K cd9 "first_unfit_step" = true) (k9 : W.keepIn K (.ref f9) = true)
  (a10 : W.nsIn K mainGlobals "steps_fault" = some (some (.ref f10))) (l10 : K.lookup f10 = some ⟨oc10, od10, .func (W.fnOf "steps_fault" "steps_fault" (Zax Zbk) (Zap Zbk) (Zr Zbk) .none kV10 dc10 pm10 an10 cd10 ct10), sl10⟩) (c10 : W.codeIn K cd10 "steps_fault" = true) (k10 : W.keepIn K (.ref f10) = true)
  (a11 : W.nsIn K mainGlobals "_law_next" = some (some (.ref f11))) (l11 : K.lookup f11 = some ⟨oc11, od11, .func (W.fnOf "_law_next" "_law_next" (Zax ZbT) (Zap ZbT) (Zr ZbT) .none kV11 dc11 pm11 an11 cd11 ct11), sl11⟩) (c11 : W.codeIn K cd11 "_law_next" = true) (k11 : W.keepIn K (.ref f11) = true)
  (a12 : W.nsIn K mainGlobals "_law_roll" = some (some (.ref f12))) (l12 : K.lookup f12 = some ⟨oc12, od12, .func (W.fnOf "_law_roll" "_law_roll" (Zax ZbR) (Zap ZbR) (Zr ZbR) .none kV12 dc12 pm12 an12 cd12 ct12), sl12⟩) (c12 : W.codeIn K cd12 "_law_roll" = true) (k12 : W.keepIn K (.ref f12) = true)
  (a13 : W.nsIn K mainGlobals "_law_behind" = some (some (.ref f13))) (l13 : K.lookup f13 = some ⟨oc13, od13, .func (W.fnOf "_law_behind" "_law_behind" (Zax Zbl) (Zap Zbl) (Zr Zbl) .none kV13 dc13 pm13 an13 cd13 ct13), sl13⟩) (c13 : W.codeIn K cd13 "_law_behind" = true) (k13 : W.keepIn K (.ref f13) = true)
  (a14 : W.nsIn K mainGlobals "_law_number" = some (some (.ref f14))) (l14 : K.lookup f14 = some ⟨oc14, od14, .func (W.fnOf "_law_number" "_law_number" (Zax Zbi) (Zap Zbi) (Zr Zbi) .none kV14 dc14 pm14 an14 cd14 ct14), sl14⟩) (c14 : W.codeIn K cd14 "_law_number" = true) (k14 : W.keepIn K (.ref f14) = true)
  (a15 : W.nsIn K mainGlobals "_law_piece" = some (some (.ref f15))) (l15 : K.lookup f15 = some ⟨oc15, od15, .func (W.fnOf "_law_piece" "_law_piece" (Zax Zbz) (Zap Zbz) (Zr Zbz) .none kV15 dc15 pm15 an15 cd15 ct15), sl15⟩) (c15 : W.codeIn K cd15 "_law_piece" = true) (k15 : W.keepIn K (.ref f15) = true)
  (a16 : W.nsIn K mainGlobals "_law_changed" = some (some (.ref f16))) (l16 : K.lookup f16 = some ⟨oc16, od16, .func (W.fnOf "_law_changed" "_law_changed" (Zax Za7) (Zap Za7) (Zr Za7) .none kV16 dc16 pm16 an16 cd16 ct16), sl16⟩) (c16 : W.codeIn K cd16 "_law_changed" = true) (k16 : W.keepIn K (.ref f16) = true)
  (a17 : W.nsIn K mainGlobals "_law_two_fit" = some (some (.ref f17))) (l17 : K.lookup f17 = some ⟨oc17, od17, .func (W.fnOf "_law_two_fit" "_law_two_fit" (Zax Za8) (Zap Za8) (Zr Za8) .none kV17 dc17 pm17 an17 cd17 ct17), sl17⟩) (c17 : W.codeIn K cd17 "_law_two_fit" = true) (k17 : W.keepIn K (.ref f17) = true)
  (a18 : W.nsIn K mainGlobals "_law_due" = some (some (.ref f18))) (l18 : K.lookup f18 = some ⟨oc18, od18, .func (W.fnOf "_law_due" "_law_due" (Zax Zb5) (Zap Zb5) (Zr Zb5) .none kV18 dc18 pm18 an18 cd18 ct18), sl18⟩) (c18 : W.codeIn K cd18 "_law_due" = true) (k18 : W.keepIn K (.ref f18) = true)
  (a19 : W.nsIn K mainGlobals "_law_told" = some (some (.ref f19))) (l19 : K.lookup f19 = some ⟨oc19, od19, .func (W.fnOf "_law_told" "_law_told" (Zax ZbO) (Zap ZbO) (Zr ZbO) .none kV19 dc19 pm19 an19 cd19 ct19), sl19⟩) (c19 : W.codeIn K cd19 "_law_told" = true) (k19 : W.keepIn K (.ref f19) = true)
  (a20 : W.nsIn K mainGlobals "law" = some (some (.ref f20))) (l20 : K.lookup f20 = some ⟨oc20, od20, .func (W.fnOf "law" "law" (Zax ZdF) (Zap ZdF) (Zr ZdF) .none kV20 dc20 pm20 an20 cd20 ct20), sl20⟩) (c20 : W.codeIn K cd20 "law" = true) (k20 : W.keepIn K (.ref f20) = true)
  (z_bool : W.nsIn K mainGlobals "bool" = some none)
  (z_dict : W.nsIn K mainGlobals "dict" = some none)
  (z_enumerate : W.nsIn K mainGlobals "enumerate" = some none)
  (z_int : W.nsIn K mainGlobals "int" = some none)
  (z_isinstance : W.nsIn K mainGlobals "isinstance" = some none)
  (z_len : W.nsIn K mainGlobals "len" = some none)
  (z_list : W.nsIn K mainGlobals "list" = some none)
  (z_range : W.nsIn K mainGlobals "range" = some none)
  (z_tuple : W.nsIn K mainGlobals "tuple" = some none) :
  ∃ fd : FuncData, (∀ (s : Shared) (v : Value), BindsTo s fd ⟨[v], []⟩ [("script", v)]) ∧ ∀ base : Heap, K.In base → base.Ns mainGlobals mg → ZeN l.prog w K mg base CX0 7 fa fd ["script"] (sp3 K 1 Zhe) := by
 have e := hfa.symm.trans (W.mg_of X G a20)
 cases e
 have T : Txt K mg := ⟨trivial, W.mg_none_of X G z_bool, W.mg_none_of X G z_dict, W.mg_none_of X G z_enumerate, W.mg_none_of X G z_int, W.mg_none_of X G z_isinstance, W.mg_none_of X G z_len, W.mg_none_of X G z_list, W.mg_none_of X G z_range, W.mg_none_of X G z_tuple⟩
 have D_next_place : ZaG K mg "next_place" ZbA ["row", "place", "boxes"] := ZaH X G a0 l0 c0 k0 (Binds.all fun us hl => match us, hl with | [_, _, _], _ => rfl)
 have D_worked : ZaG K mg "worked" ZcK ["name", "one", "other"] := ZaH X G a1 l1 c1 k1 (Binds.all fun us hl => match us, hl with | [_, _, _], _ => rfl)
 have D_with_box : ZaG K mg "with_box" Zb7 ["boxes", "box", "value"] := ZaH X G a2 l2 c2 k2 (Binds.all fun us hl => match us, hl with | [_, _, _], _ => rfl)
 have D_cell_value : ZaG K mg "cell_value" Zby ["cells", "number"] := ZaH X G a3 l3 c3 k3 (Binds.all fun us hl => match us, hl with | [_, _], _ => rfl)
 have D_next_boxes : ZaG K mg "next_boxes" ZbB ["row", "boxes", "cells"] := ZaH X G a4 l4 c4 k4 (Binds.all fun us hl => match us, hl with | [_, _, _], _ => rfl)
 have D_is_within : ZaG K mg "is_within" ZbQ ["number", "many"] := ZaH X G a5 l5 c5 k5 (Binds.all fun us hl => match us, hl with | [_, _], _ => rfl)
 have D_row_at : ZaG K mg "row_at" ZcJ ["roll", "place"] := ZaH X G a6 l6 c6 k6 (Binds.all fun us hl => match us, hl with | [_, _], _ => rfl)
 have D_boxes_behind : ZaG K mg "boxes_behind" Za9 ["roll_row", "boxes", "told_boxes"] := ZaH X G a7 l7 c7 k7 (Binds.all fun us hl => match us, hl with | [_, _, _], _ => rfl)
 have D_step_fits : ZaG K mg "step_fits" ZbP ["roll", "row", "behind"] := ZaH X G a8 l8 c8 k8 (Binds.all fun us hl => match us, hl with | [_, _, _], _ => rfl)
 have D_first_unfit_step : ZaG K mg "first_unfit_step" ZaL ["roll", "steps"] := ZaH X G a9 l9 c9 k9 (Binds.all fun us hl => match us, hl with | [_, _], _ => rfl)
 have D_steps_fault : ZaG K mg "steps_fault" Zbk ["roll", "piece"] := ZaH X G a10 l10 c10 k10 (Binds.all fun us hl => match us, hl with | [_, _], _ => rfl)
 have D__law_next : ZaG K mg "_law_next" ZbT ["deck"] := ZaH X G a11 l11 c11 k11 (Binds.all fun us hl => match us, hl with | [_], _ => rfl)
 have D__law_roll : ZaG K mg "_law_roll" ZbR ["cells"] := ZaH X G a12 l12 c12 k12 (Binds.all fun us hl => match us, hl with | [_], _ => rfl)
 have D__law_behind : ZaG K mg "_law_behind" Zbl ["deed", "place", "boxes", "held"] := ZaH X G a13 l13 c13 k13 (Binds.all fun us hl => match us, hl with | [_, _, _, _], _ => rfl)
 have D__law_number : ZaG K mg "_law_number" Zbi ["cell"] := ZaH X G a14 l14 c14 k14 (Binds.all fun us hl => match us, hl with | [_], _ => rfl)
 have D__law_piece : ZaG K mg "_law_piece" Zbz ["deck", "roll"] := ZaH X G a15 l15 c15 k15 (Binds.all fun us hl => match us, hl with | [_, _], _ => rfl)
 have D__law_changed : ZaG K mg "_law_changed" Za7 ["piece", "cell", "many"] := ZaH X G a16 l16 c16 k16 (Binds.all fun us hl => match us, hl with | [_, _, _], _ => rfl)
 have D__law_two_fit : ZaG K mg "_law_two_fit" Za8 ["roll", "row", "behind"] := ZaH X G a17 l17 c17 k17 (Binds.all fun us hl => match us, hl with | [_, _, _], _ => rfl)
 have D__law_due : ZaG K mg "_law_due" Zb5 ["roll", "piece"] := ZaH X G a18 l18 c18 k18 (Binds.all fun us hl => match us, hl with | [_, _], _ => rfl)
 have D__law_told : ZaG K mg "_law_told" ZbO ["found", "due"] := ZaH X G a19 l19 c19 k19 (Binds.all fun us hl => match us, hl with | [_, _], _ => rfl)
 refine ⟨W.fnOf "law" "law" (Zax ZdF) (Zap ZdF) (Zr ZdF) .none kV20 dc20 pm20 an20 cd20 ct20, fun s v => .of_eq rfl, fun base _ _ => ?_⟩
 have F_next_place := Ze2 (P := l.prog) (w := w) (base := base) D_next_place T
 have F_worked := ZhG (P := l.prog) (w := w) (base := base) D_worked T
 have F_with_box := Zgo (P := l.prog) (w := w) (base := base) D_with_box T
 have F_cell_value := ZeP (P := l.prog) (w := w) (base := base) D_cell_value T
 have F_next_boxes := ZeY (P := l.prog) (w := w) (base := base) D_next_boxes T F_worked F_with_box F_cell_value
 have F_is_within := ZfY (P := l.prog) (w := w) (base := base) D_is_within T
 have F_row_at := ZhD (P := l.prog) (w := w) (base := base) D_row_at T F_is_within
 have F_boxes_behind := Zec (P := l.prog) (w := w) (base := base) D_boxes_behind T F_next_boxes F_with_box
 have F_step_fits := Zfv (P := l.prog) (w := w) (base := base) D_step_fits T F_next_place F_row_at F_boxes_behind
 have F_first_unfit_step := Zde (P := l.prog) (w := w) (base := base) D_first_unfit_step T F_step_fits
 have F_steps_fault := ZeE (P := l.prog) (w := w) (base := base) D_steps_fault T F_first_unfit_step
 have F__law_next := ZfI (P := l.prog) (w := w) (base := base) D__law_next T
 have F__law_roll := ZfE (P := l.prog) (w := w) (base := base) D__law_roll T
 have F__law_behind := ZeA (P := l.prog) (w := w) (base := base) D__law_behind T
 have F__law_number := ZeJ (P := l.prog) (w := w) (base := base) D__law_number T
 have F__law_piece := ZeX (P := l.prog) (w := w) (base := base) D__law_piece T F__law_next F__law_behind F__law_number
 have F__law_changed := Zea (P := l.prog) (w := w) (base := base) D__law_changed T
 have F__law_two_fit := Zeg (P := l.prog) (w := w) (base := base) D__law_two_fit T F__law_behind
 have F__law_due := Zgp (P := l.prog) (w := w) (base := base) D__law_due T F__law_two_fit
 have F__law_told := ZfM (P := l.prog) (w := w) (base := base) D__law_told T
 exact ZkH (Ziu (st := ZdF) l20 c20 k20) T F_steps_fault F__law_next F__law_roll F__law_piece F__law_changed F__law_due F__law_told
end Law
open PySem PySem.W PyProof.Rows
set_option maxRecDepth 100000 in
set_option maxHeartbeats 0 in
theorem PySem.Challenge.cw_stepledger_k43_steps_alone_holds : PySem.Challenge.rw_stepledger_k43_steps_alone.Holds := by
 w_on; o_law; k_head; (case hw => w_witness2)
 k_fill
 refine L3.Zl3 (l := PySem.Challenge.rw_stepledger_k43_steps_alone) (k := 7) (F := Law.Zhe) rfl rfl ⟨rfl, by decide, by decide⟩ (fun w h Y => W.kIn_of Y) ?G Law.law_holds
 case G =>
  intro w mg fa h KX G hmg
  refine' Law.Zlc KX G hmg ?a0 ?l0 ?c0 ?k0 ?a1 ?l1 ?c1 ?k1 ?a2 ?l2 ?c2 ?k2 ?a3 ?l3 ?c3 ?k3 ?a4 ?l4 ?c4 ?k4 ?a5 ?l5 ?c5 ?k5 ?a6 ?l6 ?c6 ?k6 ?a7 ?l7 ?c7 ?k7 ?a8 ?l8 ?c8 ?k8 ?a9 ?l9 ?c9 ?k9 ?a10 ?l10 ?c10 ?k10 ?a11 ?l11 ?c11 ?k11 ?a12 ?l12 ?c12 ?k12 ?a13 ?l13 ?c13 ?k13 ?a14 ?l14 ?c14 ?k14 ?a15 ?l15 ?c15 ?k15 ?a16 ?l16 ?c16 ?k16 ?a17 ?l17 ?c17 ?k17 ?a18 ?l18 ?c18 ?k18 ?a19 ?l19 ?c19 ?k19 ?a20 ?l20 ?c20 ?k20 ?z_bool ?z_dict ?z_enumerate ?z_int ?z_isinstance ?z_len ?z_list ?z_range ?z_tuple
  (case a0 => k_is)
  (case l0 => k_is)
  (case c0 => k_is)
  (case k0 => k_is)
  (case a1 => k_is)
  (case l1 => k_is)
  (case c1 => k_is)
  (case k1 => k_is)
  (case a2 => k_is)
  (case l2 => k_is)
  (case c2 => k_is)
  (case k2 => k_is)
  (case a3 => k_is)
  (case l3 => k_is)
  (case c3 => k_is)
  (case k3 => k_is)
  (case a4 => k_is)
  (case l4 => k_is)
  (case c4 => k_is)
  (case k4 => k_is)
  (case a5 => k_is)
  (case l5 => k_is)
  (case c5 => k_is)
  (case k5 => k_is)
  (case a6 => k_is)
  (case l6 => k_is)
  (case c6 => k_is)
  (case k6 => k_is)
  (case a7 => k_is)
  (case l7 => k_is)
  (case c7 => k_is)
  (case k7 => k_is)
  (case a8 => k_is)
  (case l8 => k_is)
  (case c8 => k_is)
  (case k8 => k_is)
  (case a9 => k_is)
  (case l9 => k_is)
  (case c9 => k_is)
  (case k9 => k_is)
  (case a10 => k_is)
  (case l10 => k_is)
  (case c10 => k_is)
  (case k10 => k_is)
  (case a11 => k_is)
  (case l11 => k_is)
  (case c11 => k_is)
  (case k11 => k_is)
  (case a12 => k_is)
  (case l12 => k_is)
  (case c12 => k_is)
  (case k12 => k_is)
  (case a13 => k_is)
  (case l13 => k_is)
  (case c13 => k_is)
  (case k13 => k_is)
  (case a14 => k_is)
  (case l14 => k_is)
  (case c14 => k_is)
  (case k14 => k_is)
  (case a15 => k_is)
  (case l15 => k_is)
  (case c15 => k_is)
  (case k15 => k_is)
  (case a16 => k_is)
  (case l16 => k_is)
  (case c16 => k_is)
  (case k16 => k_is)
  (case a17 => k_is)
  (case l17 => k_is)
  (case c17 => k_is)
  (case k17 => k_is)
  (case a18 => k_is)
  (case l18 => k_is)
  (case c18 => k_is)
  (case k18 => k_is)
  (case a19 => k_is)
  (case l19 => k_is)
  (case c19 => k_is)
  (case k19 => k_is)
  (case a20 => k_is)
  (case l20 => k_is)
  (case c20 => k_is)
  (case k20 => k_is)
  (case z_bool => k_is)
  (case z_dict => k_is)
  (case z_enumerate => k_is)
  (case z_int => k_is)
  (case z_isinstance => k_is)
  (case z_len => k_is)
  (case z_list => k_is)
  (case z_range => k_is)
  (case z_tuple => k_is)
