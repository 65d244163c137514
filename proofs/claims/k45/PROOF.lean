import PyProof.Rows.All
import Wide.All
import OpenK.AllK
import Wide.FinOn
import Lean
import PyProof.EqAt
import PyProof.EqKinds
import PyProof.TupleCall
import PySem.Challenge.RW_stepledger_k45_whole_pieces_and_whole
set_option compiler.extract_closed false
set_option Elab.async false
set_option linter.all false
set_option maxRecDepth 100000
namespace L2
open PySem PySem.Spec PyProof.Rows
noncomputable abbrev Key := Sum Int Str
noncomputable def ZgZ : Key → Value → Bool
 | .inl k, v => Value.isInt k v
 | .inr x, v => Value.isStrOf x v
noncomputable def Zpr (w : World) : Key → Int
 | .inl k => hashInt k
 | .inr x => hashStr w x
theorem Zbv : ∀ {k : Key} {v : Value}, ZgZ k v = true → (∃ i t, k = Sum.inl i ∧ v = Value.int i t) ∨ (∃ x t, k = Sum.inr x ∧ v = Value.str x t)
 | .inl i, v, h => by
  obtain ⟨t, e⟩ := Value.isInt_shape (k := i) (v := v) h
  exact .inl ⟨i, t, rfl, e⟩
 | .inr x, v, h => by
  obtain ⟨t, e⟩ := Value.isStrOf_shape (x := x) (v := v) h
  exact .inr ⟨x, t, rfl, e⟩
theorem ZjU (i : Int) (t : Tok) : ZgZ (.inl i) (.int i t) = true := by simp [ZgZ, Value.isInt]
theorem ZjP (x : Str) (t : Tok) : ZgZ (.inr x) (.str x t) = true := by simp [ZgZ, Value.isStrOf]
theorem ZmD (a b : Int) : decide ((Sum.inl a : Key) = Sum.inl b) = (a == b) := by
 by_cases e : a = b
 ·subst e; simp
 ·have h : ¬ (Sum.inl a : Key) = Sum.inl b := fun q => e (Sum.inl.inj q)
  rw [decide_eq_false h]
  exact (beq_eq_false_iff_ne.mpr e).symm
theorem Znr (a b : Str) : decide ((Sum.inr a : Key) = Sum.inr b) = decide (a = b) := by
 by_cases e : a = b
 ·subst e; simp
 ·have h : ¬ (Sum.inr a : Key) = Sum.inr b := fun q => e (Sum.inr.inj q)
  rw [decide_eq_false h, decide_eq_false e]
theorem ZmI (a : Int) (b : Str) : decide ((Sum.inl a : Key) = Sum.inr b) = false := decide_eq_false (fun q => nomatch q)
theorem ZmY (a : Str) (b : Int) : decide ((Sum.inr a : Key) = Sum.inl b) = false := decide_eq_false (fun q => nomatch q)
noncomputable def ZaY (prog : Program) (w : World) : PySem.KeyKind prog w Key where
 is := ZgZ
 hash := Zpr w
 inj := fun v a b ha hb => by
  rcases Zbv ha with ⟨i, t, rfl, rfl⟩ | ⟨x, t, rfl, rfl⟩
  ·rcases Zbv hb with ⟨j, u, rfl, e⟩ | ⟨y, u, rfl, e⟩
   ·injection e with e1 _; rw [e1]
   ·exact nomatch e
  ·rcases Zbv hb with ⟨j, u, rfl, e⟩ | ⟨y, u, rfl, e⟩
   ·exact nomatch e
   ·injection e with e1 _; rw [e1]
 byValue := fun k v h => by
  rcases Zbv h with ⟨i, t, rfl, rfl⟩ | ⟨x, t, rfl, rfl⟩ <;> rfl
 pyHash := fun hv h => by
  rcases Zbv hv with ⟨i, t, rfl, rfl⟩ | ⟨x, t, rfl, rfl⟩
  ·exact wpAny_pyHash_int h
  ·exact wpAny_pyHash_str h
 eqBool := fun hu hv h => by
  rcases Zbv hu with ⟨i, t, rfl, rfl⟩ | ⟨x, t, rfl, rfl⟩
  ·rcases Zbv hv with ⟨j, u, rfl, rfl⟩ | ⟨y, u, rfl, rfl⟩
   ·rw [ZmD] at h; exact wpAny_eqBool_int h
   ·rw [ZmI] at h; exact SeqAt.EqAt.int_str i t y u _ _ _ _ h
  ·rcases Zbv hv with ⟨j, u, rfl, rfl⟩ | ⟨y, u, rfl, rfl⟩
   ·rw [ZmY] at h; exact SeqAt.EqAt.str_int x t j u _ _ _ _ h
   ·rw [Znr] at h; exact wpAny_eqBool_str h
 «strs» := fun k x t v h => by
  rcases Zbv h with ⟨i, u, rfl, e⟩ | ⟨y, u, rfl, e⟩
  ·exact nomatch e
  ·injection e with e1 _
   subst e1
   cases v <;> rfl
theorem ZhG (prog : Program) (w : World) (i : Int) (t : Tok) : (ZaY prog w).is (.inl i) (.int i t) = true := ZjU i t
theorem Zh0 (prog : Program) (w : World) (x : Str) (t : Tok) : (ZaY prog w).is (.inr x) (.str x t) = true := ZjP x t
end L2
namespace L2
open PySem PySem.Spec PyProof.Rows
inductive V where
 | non | bl (b : Bool) | int (i : Int) | str (x : Str) | byt (b : Array UInt8) | flt (b : UInt64) | ref (a : Addr) | ty (n : String)
 deriving DecidableEq
noncomputable def RelV : V → Value → Prop
 | .non, u => u = Value.none
 | .bl b, u => u = Value.bool b
 | .int i, u => ∃ t, u = Value.int i t
 | .str x, u => ∃ t, u = Value.str x t
 | .byt b, u => ∃ t, u = Value.bytes b t
 | .flt b, u => ∃ t, u = Value.float b t
 | .ref a, u => u = Value.ref a
 | .ty n, u => u = Value.type n
noncomputable abbrev Vals : List V → List Value → Prop := Paired RelV
theorem Vals.length {xs : List V} {us : List Value} (r : Vals xs us) : xs.length = us.length := Paired.length r
theorem Vals.get : ∀ {xs : List V} {us : List Value} {i : Nat} {x : V}, Vals xs us → xs[i]? = some x → ∃ u, us[i]? = some u ∧ RelV x u
 | _, _, _, _, .nil, e => by simp at e
 | _, _, 0, _, .cons r _, e => by simp at e; subst e; exact ⟨_, rfl, r⟩
 | _, _, i + 1, x, .cons _ t, e => by
  obtain ⟨u, h1, h2⟩ := Vals.get (i := i) (x := x) t (by simpa using e)
  exact ⟨u, by simpa using h1, h2⟩
theorem Vals.set {x : V} {u : Value} (r : RelV x u) : ∀ {xs : List V} {us : List Value} (i : Nat), Vals xs us → Vals (xs.set i x) (us.set i u)
 | _, _, _, .nil => .nil
 | _, _, 0, .cons _ t => .cons r t
 | _, _, i + 1, .cons q t => .cons q (Vals.set r i t)
theorem Vals.append : ∀ {xs ys : List V} {us ws : List Value}, Vals xs us → Vals ys ws → Vals (xs ++ ys) (us ++ ws)
 | _, _, _, _, .nil, s => s
 | _, _, _, _, .cons r t, s => .cons r (Vals.append t s)
theorem Vals.take : ∀ {xs : List V} {us : List Value} (n : Nat), Vals xs us → Vals (xs.take n) (us.take n)
 | _, _, 0, _ => .nil
 | _, _, _ + 1, .nil => .nil
 | _, _, n + 1, .cons r t => .cons r (Vals.take n t)
theorem Vals.drop : ∀ {xs : List V} {us : List Value} (n : Nat), Vals xs us → Vals (xs.drop n) (us.drop n)
 | _, _, 0, r => r
 | _, _, _ + 1, .nil => .nil
 | _, _, n + 1, .cons _ t => Vals.drop n t
noncomputable def Zhq : Option V → Option Value → Prop
 | some v, some u => RelV v u
 | none, none => True
 | _, _ => False
noncomputable def KV {κ : Type} : List (κ × V) → List (κ × Value) → Prop := Paired fun (p : κ × V) (q : κ × Value) => p.1 = q.1 ∧ RelV p.2 q.2
noncomputable def kV : Key → V
 | .inl i => .int i
 | .inr x => .str x
inductive HO where
 /-- a list -/
 | lst (xs : List V)
 /-- a tuple (never changes) -/
 | tup (xs : List V)
 /-- a dict whose keys are ints and texts; one whose keys are tuples of ints and texts (the empty one is both) -/
 | dK (kvs : List (Key × V)) | dT (kvs : List (List Key × V))
 /-- a set of ints: its members, its size -/
 | set (S : Int → Bool) (n : Nat)
 /-- an instance of the class at C, its dict at dx, its attributes -/
 | ins (C dx : Addr) (fs : List (Str × V))
 /-- the dict of the instance at x -/
 | own (x : Addr)
 /-- the dict of an exception -/
 | xd (fs : List (Str × V))
 /-- a bound method, f of x -/
 | met (f x : Addr)
 /-- a range object lo, lo + 1, .. below hi -/
 | rng (lo hi : Int)
 /-- a thing that is known to the object (the script; a dict while a loop walks it): read, never written while it is so -/
 | frz (o : Obj) (u : HO)
 /-- a code object's table -/
 | tbl (ps : Array Value)
 /-- any other thing, by what is true of its one object (a def of one's own: SetO a S n := HO.ext fun h => ..) -/
 | ext (φ : Heap → Prop)
noncomputable abbrev Hp := Addr → Option HO
noncomputable def upd (H : Hp) (a : Addr) (o : HO) : Hp := fun b => if b = a then some o else H b
theorem ZdK {H : Hp} {a : Addr} {o : HO} : upd H a o a = some o := by unfold upd; rw [if_pos rfl]
theorem Za7 {H : Hp} {a b : Addr} {o : HO} (h : b ≠ a) : upd H a o b = H b := by unfold upd; rw [if_neg h]
theorem Zdk {H : Hp} {a b : Addr} {o : HO} (h : H a = some o) (h' : H b = none) : a ≠ b := by
 intro e; subst e; rw [h] at h'; cases h'
section
variable (P : Program) (w : World)
noncomputable def Zc6 (h : Heap) (a : Addr) (items : Array Value) : Prop := ∃ o, h.get? a = some o ∧ (o.cls = .type "tuple" ∧ o.dict = none) ∧ ∃ n, o.data = .seq items n
theorem Zc6.tup {h : Heap} {a : Addr} {items : Array Value} (x : Zc6 h a items) : IsTup h a items := let ⟨o, e, c, d⟩ := x; ⟨o, e, c.1, d⟩
theorem Zc6.new (h : Heap) (items : Array Value) : Zc6 (h.push { cls := .type "tuple", data := .seq items }) h.objs.size items := ⟨_, Heap.get?_push_size _ rfl, ⟨rfl, rfl⟩, 0, rfl⟩
noncomputable def ZbH (H : Hp) (h : Heap) (a : Addr) : HO → Prop
 | .lst xs => xs.length ≤ sizeLine ∧ ∃ (its : List Value) (n : Nat), Vals xs its ∧ h.get? a = some { cls := .type "list", data := .seq its.toArray n }
 | .tup xs => xs.length ≤ sizeLine ∧ ∃ its : List Value, Vals xs its ∧ Zc6 h a its.toArray
 | .dK kvs => kvs.length ≤ sizeLine ∧ (a == sysModules) = false ∧ ∃ vs, KV kvs vs ∧ h.DictOf (ZaY P w) a vs
 | .dT kvs => kvs.length ≤ sizeLine ∧ (a == sysModules) = false ∧ ∃ xs : List (List Key × Addr × Value),
   Paired (fun (p : List Key × V) (q : List Key × Addr × Value) => p.1 = q.1 ∧ H q.2.1 = some (.tup (p.1.map kV)) ∧ RelV p.2 q.2.2) kvs xs ∧
   ∃ o es ep, h.get? a = some o ∧ o.ExactDict ∧ o.data = .dict es ep ∧ es.toList = xs.map (entryOfKey (tupleKind (ZaY P w))) ∧ (xs.map (·.1)).Nodup
 | .set S n => h.SetOf (intKind P w) a S n
 | .ins C dx fs => H dx = some (.own a) ∧ fs.length ≤ 1000 ∧ dx ≠ a ∧ h.get? a = some (PySem.W.instObj C dx) ∧
   ∃ mA, h.Ns1 dx mA ∧ (∀ f, Zhq (fs.lookup f) (mA f)) ∧ PySem.Within mA (fs.map (·.1))
 | .own _ => ∃ o, h.get? a = some o
 | .xd fs => ∃ mA, h.Ns1 a mA ∧ ∀ f, Zhq (fs.lookup f) (mA f)
 | .rng lo hi => ∃ t u v, h.get? a = some { cls := .type "range", data := .fields #[.int lo t, .int hi u, .int 1 v] }
 | .frz o u => h.get? a = some o ∧ ZbH H h a u
 | .tbl ps => h.get? a = some { cls := .none, data := .fields ps }
 | .met f x => h.get? a = some (PySem.W.methodObj (.ref f) (.ref x))
 | .ext φ => φ h ∧ (∃ o, h.get? a = some o) ∧ ∀ h1 h2 : Heap, φ h1 → (∀ o, h1.get? a = some o → h2.get? a = some o) → φ h2
noncomputable def HOk (H : Hp) (h : Heap) : Prop := ∀ a o, H a = some o → ZbH P w H h a o
end
section
variable {P : Program} {w : World} {H H' : Hp} {h h' : Heap} {a : Addr} {o : HO}
theorem ZbH.lt (x : ZbH P w H h a o) : a < h.objs.size := by
 cases o with
 | lst xs => obtain ⟨_, _, _, _, e⟩ := x; exact Heap.lt_size e
 | tup xs => obtain ⟨_, _, _, p⟩ := x; exact p.tup.lt
 | dK kvs => obtain ⟨_, _, _, _, o, _, _, e, _⟩ := x; exact Heap.lt_size e
 | dT kvs => obtain ⟨_, _, _, _, o, _, _, e, _⟩ := x; exact Heap.lt_size e
 | set S n => obtain ⟨o, _, _, _, e, _⟩ := x; exact Heap.lt_size e
 | ins C dx fs => obtain ⟨_, _, _, e, _⟩ := x; exact Heap.lt_size e
 | own y => obtain ⟨_, e⟩ := x; exact Heap.lt_size e
 | xd fs => obtain ⟨_, ⟨_, _, _, e, _⟩, _⟩ := x; exact Heap.lt_size e
 | rng lo hi => obtain ⟨_, _, _, e⟩ := x; exact Heap.lt_size e
 | frz ob u => obtain ⟨e, _⟩ := x; exact Heap.lt_size e
 | tbl ps => exact Heap.lt_size (show h.get? a = some _ from x)
 | met f y => exact Heap.lt_size (show h.get? a = some _ from x)
 | ext φ => obtain ⟨_, ⟨_, e⟩, _⟩ := x; exact Heap.lt_size e
theorem Paired.mapP {α β : Type} {F G : α → β → Prop} : ∀ {l₁ : List α} {l₂ : List β}, Paired F l₁ l₂ → (∀ a b, F a b → G a b) → Paired G l₁ l₂
 | _, _, .nil, _ => .nil
 | _, _, .cons r t, f => .cons (f _ _ r) (Paired.mapP t f)
theorem ZbH.stay (x : ZbH P w H h a o) (k : ∀ b u, (b = a ∨ H b = some (.own a)) → h.get? b = some u → h'.get? b = some u)
  (ho : ∀ b, H b = some (.own a) → H' b = some (.own a)) (ht : ∀ b xs, H b = some (.tup xs) → H' b = some (.tup xs)) : ZbH P w H' h' a o := by
 induction o with
 | lst xs => obtain ⟨z, its, n, r, e⟩ := x; exact ⟨z, its, n, r, k _ _ (.inl rfl) e⟩
 | tup xs => obtain ⟨z, its, r, ob, e, c⟩ := x; exact ⟨z, its, r, ob, k _ _ (.inl rfl) e, c⟩
 | dK kvs => obtain ⟨z, y, vs, r, ob, es, ep, e, c⟩ := x; exact ⟨z, y, vs, r, ob, es, ep, k _ _ (.inl rfl) e, c⟩
 | dT kvs =>
  obtain ⟨z, y, xs, r, ob, es, ep, e, c⟩ := x
  exact ⟨z, y, xs, Paired.mapP r fun p q z => ⟨z.1, ht _ _ z.2.1, z.2.2⟩, ob, es, ep, k _ _ (.inl rfl) e, c⟩
 | set S n => obtain ⟨ob, es, ep, t, e, c⟩ := x; exact ⟨ob, es, ep, t, k _ _ (.inl rfl) e, c⟩
 | ins C dx fs =>
  obtain ⟨d, z, ne, e, mA, ⟨od, es, ep, e2, c⟩, r⟩ := x
  exact ⟨ho _ d, z, ne, k _ _ (.inl rfl) e, mA, ⟨od, es, ep, k _ _ (.inr d) e2, c⟩, r⟩
 | own y => obtain ⟨ob, e⟩ := x; exact ⟨ob, k _ _ (.inl rfl) e⟩
 | xd fs => obtain ⟨mA, ⟨od, es, ep, e, c⟩, r⟩ := x; exact ⟨mA, ⟨od, es, ep, k _ _ (.inl rfl) e, c⟩, r⟩
 | rng lo hi => obtain ⟨t, u, v, e⟩ := x; exact ⟨t, u, v, k _ _ (.inl rfl) e⟩
 | frz ob u ih => obtain ⟨e, q⟩ := x; exact ⟨k _ _ (.inl rfl) e, ih q⟩
 | tbl ps =>
  have e : h.get? a = some { cls := .none, data := .fields ps } := x
  show h'.get? a = some { cls := .none, data := .fields ps }
  exact k a _ (.inl rfl) e
 | met f y =>
  have e : h.get? a = some (PySem.W.methodObj (.ref f) (.ref y)) := x
  show h'.get? a = some (PySem.W.methodObj (.ref f) (.ref y))
  exact k a _ (.inl rfl) e
 | ext φ => obtain ⟨p, ⟨o, e⟩, st⟩ := x; exact ⟨st _ _ p fun o q => k _ _ (.inl rfl) q, ⟨o, k _ _ (.inl rfl) e⟩, st⟩
theorem HOk.lt (x : HOk P w H h) (e : H a = some o) : a < h.objs.size := (x a o e).lt
theorem HOk.fresh (x : HOk P w H h) (e : h.objs.size ≤ a) : H a = none := by
 cases q : H a with
 | none => rfl
 | some u => exact absurd (Nat.lt_of_lt_of_le (x.lt q) e) (Nat.lt_irrefl _)
theorem HOk.kept (x : HOk P w H h) (k : ∀ b u, h.get? b = some u → h'.get? b = some u) : HOk P w H h' := fun a o e =>
 (x a o e).stay (fun b u _ q => k b u q) (fun _ q => q) fun _ _ q => q
theorem HOk.laid (x : HOk P w H h) (k : ∀ b u, h.get? b = some u → h'.get? b = some u) (hp : h.objs.size ≤ a) (new : ZbH P w (upd H a o) h' a o) : HOk P w (upd H a o) h' := fun b u e => by
 have hn := x.fresh hp
 by_cases hb : b = a
 ·subst hb; rw [ZdK] at e; cases e; exact new
 ·rw [Za7 hb] at e
  exact (x b u e).stay (fun c v _ q => k c v q) (fun c q => by rw [Za7 (Zdk q hn)]; exact q) fun c xs q => by rw [Za7 (Zdk q hn)]; exact q
end
noncomputable def Rd (H : Hp) (a : Addr) (u : HO) : Prop := H a = some u ∨ ∃ o, H a = some (.frz o u)
theorem Rd.ok {P : Program} {w : World} {H : Hp} {h : Heap} {a : Addr} {u : HO} (r : Rd H a u) (x : HOk P w H h) : ZbH P w H h a u := by
 rcases r with r | ⟨o, r⟩
 ·exact x a u r
 ·obtain ⟨_, q⟩ := x a _ r
  exact q
noncomputable def Mut : Option HO → Prop
 | some (.lst _) => True
 | some (.dK _) => True
 | some (.dT _) => True
 | some (.set _ _) => True
 | some (.ins _ _ _) => True
 | some (.ext _) => True
 | _ => False
section
variable {P : Program} {w : World} {H : Hp} {h h' : Heap} {x e : Addr} {o' : HO}
theorem HOk.write (ok : HOk P w H h) (mu : Mut (H x)) (he : e = x ∨ H e = some (.own x)) (k : ∀ b u, b ≠ e → h.get? b = some u → h'.get? b = some u) (heo : ∃ u, h'.get? e = some u)
  (new : ZbH P w (upd H x o') h' x o') : HOk P w (upd H x o') h' := fun b u q => by
 have nown : ∀ c y, H c = some (.own y) → c ≠ x := fun c y r z => by subst z; rw [r] at mu; exact mu
 have ntup : ∀ c xs, H c = some (.tup xs) → c ≠ x := fun c xs r z => by subst z; rw [r] at mu; exact mu
 by_cases hb : b = x
 ·subst hb; rw [ZdK] at q; cases q; exact new
 ·rw [Za7 hb] at q
  by_cases hbe : b = e
  ·have q' : H b = some (.own x) := by
    rcases he with z | z
    ·exact absurd (hbe.trans z) hb
    ·rw [hbe]; exact z
   rw [q] at q'; cases q'
   obtain ⟨v, hv⟩ := heo
   exact ⟨v, by rw [hbe]; exact hv⟩
  ·refine (ok b u q).stay (fun c v hc r => k c v ?_ r) (fun c r => by rw [Za7 (nown c b r)]; exact r) fun c xs r => by rw [Za7 (ntup c xs r)]; exact r
   rcases hc with rfl | hc
   ·exact hbe
   ·rintro rfl
    rcases he with z | z
    ·exact nown c b hc z
    ·rw [hc] at z; cases z; exact hb rfl
end
structure Un (fs ex : List Addr) (H H' : Hp) (h h' : Heap) : Prop where
 keep : ∀ b o, h.get? b = some o → H b = none → b ∉ fs → b ∉ ex → h'.get? b = some o
 slot : ∀ b o, h.get? b = some o → H b = none → b ∈ fs → b ∉ ex → ∃ sl, h'.get? b = some { o with slots := sl }
 free : ∀ b o, h.get? b = some o → H b = none → b ∉ ex → H' b = none
 there : ∀ b o, h.get? b = some o → b ∉ ex → ∃ o', h'.get? b = some o'
 tups : ∀ b xs, H b = some (.tup xs) → H' b = some (.tup xs)
 frzs : ∀ b o u, H b = some (.frz o u) → H' b = some (.frz o u)
 tbls : ∀ b ps, H b = some (.tbl ps) → ∃ more, H' b = some (.tbl (ps ++ more))
section
variable {fs fs' ex ex' : List Addr} {H H1 H2 : Hp} {h h1 h2 h' : Heap} {a x e : Addr} {o : HO}
theorem Un.any (u : Un fs ex H H1 h h1) {b : Addr} {ob : Obj} (q : h.get? b = some ob) (n : H b = none) (hx : b ∉ ex) : ∃ sl, h1.get? b = some { ob with slots := sl } := by
 by_cases hb : b ∈ fs
 ·exact u.slot b ob q n hb hx
 ·exact ⟨ob.slots, u.keep b ob q n hb hx⟩
theorem Un.kept (k : ∀ b u, h.get? b = some u → h'.get? b = some u) : Un fs ex H H h h' :=
 ⟨fun b ob q _ _ _ => k b ob q, fun b ob q _ _ _ => ⟨ob.slots, k b ob q⟩, fun _ _ _ n _ => n, fun b ob q _ => ⟨ob, k b ob q⟩, fun _ _ q => q, fun _ _ _ q => q, fun _ ps q => ⟨#[], by rw [q]; simp⟩⟩
theorem Un.refl : Un fs ex H H h h := Un.kept fun _ _ q => q
theorem Un.laid (k : ∀ b u, h.get? b = some u → h'.get? b = some u) (hp : h.objs.size ≤ a) (hn : H a = none) : Un fs ex H (upd H a o) h h' where
 keep := fun b u q _ _ _ => k b u q
 slot := fun b u q _ _ _ => ⟨u.slots, k b u q⟩
 free := fun b u q n _ => by rw [Za7 (Nat.ne_of_lt (Nat.lt_of_lt_of_le (Heap.lt_size q) hp))]; exact n
 there := fun b u q _ => ⟨u, k b u q⟩
 tups := fun b xs q => by rw [Za7 (Zdk q hn)]; exact q
 frzs := fun b u xs q => by rw [Za7 (Zdk q hn)]; exact q
 tbls := fun b ps q => ⟨#[], by rw [Za7 (Zdk q hn), q]; simp⟩
theorem Un.write (mu : Mut (H x)) (he : e = x ∨ H e = some (.own x)) (k : ∀ b u, b ≠ e → h.get? b = some u → h'.get? b = some u) (heo : ∃ u, h'.get? e = some u) : Un fs ex H (upd H x o) h h' := by
 have hx : ∀ b, H b = none → b ≠ x := fun b n z => by subst z; rw [n] at mu; exact mu
 have hb : ∀ b, H b = none → b ≠ e := fun b n z => by
  subst z
  rcases he with r | r
  ·exact hx b n r
  ·rw [n] at r; cases r
 have hm : ∀ b u, H b = some u → ¬ Mut (some u) → b ≠ x := fun b u q nm z => by subst z; rw [q] at mu; exact nm mu
 refine ⟨fun b u q n _ _ => k b u (hb b n) q, fun b u q n _ _ => ⟨u.slots, k b u (hb b n) q⟩, fun b u q n _ => by rw [Za7 (hx b n)]; exact n, fun b u q _ => ?_,
  fun b xs q => by rw [Za7 (hm b _ q fun z => z)]; exact q, fun b u xs q => by rw [Za7 (hm b _ q fun z => z)]; exact q, fun b ps q => ⟨#[], by rw [Za7 (hm b _ q fun z => z), q]; simp⟩⟩
 by_cases hbe : b = e
 ·subst hbe; exact heo
 ·exact ⟨u, k b u hbe q⟩
end
noncomputable def trk (h : Heap) (H : Hp) : List Addr := (List.range h.objs.size).filter fun a => (H a).isSome
noncomputable def Zg5 (h : Heap) (H : Hp) : Heap := PySem.W.hideAll h (trk h H)
theorem ZjI (h : Heap) (H : Hp) : (Zg5 h H).objs.size = h.objs.size := PySem.W.hideAll_size _ _
theorem ZkO {h : Heap} {H : Hp} {b : Addr} {o : Obj} (e : h.get? b = some o) (n : H b = none) : (Zg5 h H).get? b = some o :=
 PySem.W.hideAll_get _ e fun hm => by
  have q : (H b).isSome = true := (List.mem_filter.mp hm).2
  rw [n] at q; simp at q
theorem ZlL {h : Heap} {H : Hp} {b : Addr} {o : Obj} (e : (Zg5 h H).get? b = some o) : h.get? b = some o ∧ H b = none := by
 have e' : h.get? b = some o := PySem.W.of_hideAll (trk h H) e
 refine ⟨e', ?_⟩
 cases q : H b with
 | none => rfl
 | some x =>
  have hm : b ∈ trk h H := List.mem_filter.mpr ⟨List.mem_range.mpr (Heap.lt_size e'), by simp [q]⟩
  have z : (Zg5 h H).get? b = none := PySem.W.hideAll_none (trk h H) hm
  rw [z] at e; cases e
noncomputable def ZlU (g h : Heap) (L : Addr) : List (Addr × Obj) := (List.range h.objs.size).filterMap fun a => if a = L ∨ (g.get? a).isSome = true then none else (h.get? a).map fun o => (a, o)
noncomputable def rest (g h : Heap) (L d : Addr) : List (Addr × Obj) := (ZlU g h L).filter fun p => decide (p.1 ≠ d)
end L2
namespace L2
open PySem PySem.Spec PyProof.Rows
structure Mod (K : PySem.W.Frag) (mg : Str → Option Value) (base : Heap) : Prop where
 kin : K.In base
 glob : base.Ns mainGlobals mg
 blt : ∃ mb, base.Ns builtinsNs mb ∧ ∀ x : Str, x ≠ "__name__" → mb x = bootBuiltins x
 nolimit : base.NoLimit
/-- the context: a def's body (or a comprehension's block) running. base: fixed through the whole law; s₀, H₀: the entry; outer: the frames whose slots others may change (a def's callers); stack: all frames that run;
  ex: iterators that were made ahead of the entry and are walked here (a comprehension's); fn: the names whose cells were made at the entry (a def: all; a comprehension's block: its own); calm: not within an except suite; pn: pins that every state bears; xe: what is wanted of an exception that leaves the code -/
structure Cx where
 prog : Program
 w : World
 K : PySem.W.Frag
 mg : Str → Option Value
 base : Heap
 A : Around
 N : List Str
 s₀ : Shared
 H₀ : Hp
 env : Env
 outer : List Env
 stack : List Env
 ex : List Addr
 fn : Str → Bool
 calm : Bool
 pn : List (Addr × Obj)
 xe : Value → Shared → Prop
noncomputable def frs (l : List Env) : List Addr := l.filterMap (·.frame)
noncomputable abbrev Cx.fs (X : Cx) : List Addr := frs X.outer
noncomputable def Vis (sc : Scope) (x : Str) : Prop := sc.names.lookup x = some .local ∨ sc.names.lookup x = some .cell ∨ sc.names.lookup x = some .free
noncomputable def Loc (sc : Scope) (x : Str) : Prop := sc.names.lookup x = some .local ∨ sc.names.lookup x = some .cell
noncomputable def Look (env : Env) (h : Heap) (m : Str → Option Value) (x : Str) (u : Value) : Prop :=
 (env.kindOf x = some .local ∧ m x = some u) ∨ ((env.kindOf x = some .cell ∨ env.kindOf x = some .free) ∧ ∃ c, env.cells.lookup x = some c ∧ h.IsCell c (some u))
structure Cx.Ok (X : Cx) : Prop where
 mod : Mod X.K X.mg X.base
 kind : X.env.scope.kind = .function
 glob : X.env.globals = mainGlobals
 blt : X.env.builtins = builtinsNs
 above : X.s₀.heap.objs.size ≤ X.env.locals
 inj : ∀ x y c, X.env.cells.lookup x = some c → X.env.cells.lookup y = some c → x = y
 has : ∀ x, (X.env.kindOf x = some .cell ∨ X.env.kindOf x = some .free) → ∃ c, X.env.cells.lookup x = some c
 cab : ∀ x c, X.fn x = true → X.env.cells.lookup x = some c → X.s₀.heap.objs.size ≤ c
 hd : X.calm = true → X.A.handled = none
 frames : X.A.frames = some X.stack
 stk : X.stack = X.outer ∨ (X.stack = X.env :: X.outer ∧ X.env.frame = some X.env.locals)
 exf : ∀ b ∈ X.ex, b ≠ X.env.locals ∧ ∀ x c, X.env.cells.lookup x = some c → c ≠ b
 bs : ∀ b o, X.base.get? b = some o → X.s₀.heap.get? b = some o ∧ X.H₀ b = none
 bsz : X.base.objs.size ≤ X.s₀.heap.objs.size
 noex : ∀ b o, X.base.get? b = some o → b ∉ X.ex
 exfs : ∀ b ∈ X.ex, b ∉ X.fs
 funs : X.s₀.heap.FunFrames X.base X.outer
 frf : ∀ b ∈ X.fs, X.H₀ b = none
structure Inv (X : Cx) (pins : List (Addr × Obj)) (σ : List (Option V)) (H : Hp) (s : Shared) : Prop where
 ok : X.Ok
 os : s.os = X.s₀.os
 bare : AllBare s.gens
 base : Un X.fs X.ex X.H₀ H X.s₀.heap s.heap
 loc : ∃ m, s.heap.Ns X.env.locals m ∧ ∀ (i : Nat) (x : Str) (v : V), X.N[i]? = some x → σ[i]? = some (some v) → Vis X.env.scope x → ∃ u, RelV v u ∧ Look X.env s.heap m x u
 cell : ∀ x c, X.env.cells.lookup x = some c → ∃ v, s.heap.IsCell c v
 free : H X.env.locals = none
 freeC : ∀ x c, X.env.cells.lookup x = some c → H c = none
 pin : ∀ p ∈ X.pn ++ pins, s.heap.get? p.1 = some p.2 ∧ H p.1 = none ∧ p.1 ≠ X.env.locals ∧ p.1 ∉ X.fs ∧ ∀ v, p.2.data ≠ .cell v
 hok : HOk X.prog X.w H s.heap
 len : σ.length = X.N.length
section
variable {X : Cx} {pins : List (Addr × Obj)} {σ : List (Option V)} {H H' : Hp} {s : Shared} {h' : Heap}
theorem Cx.Ok.nofr (ok : X.Ok) {b : Addr} {o : Obj} (e : X.base.get? b = some o) : b ∉ X.fs := fun hb => by
 have := (ok.funs.mem hb).1
 rw [e] at this; cases this
theorem Inv.bs (I : Inv X pins σ H s) : ∀ b o, X.base.get? b = some o → s.heap.get? b = some o ∧ H b = none := fun b o e =>
 ⟨I.base.keep b o (I.ok.bs b o e).1 (I.ok.bs b o e).2 (I.ok.nofr e) (I.ok.noex b o e), I.base.free b o (I.ok.bs b o e).1 (I.ok.bs b o e).2 (I.ok.noex b o e)⟩
theorem Inv.bk (I : Inv X pins σ H s) : ∀ b o, X.base.get? b = some o → s.heap.get? b = some o := fun b o e => (I.bs b o e).1
theorem Inv.mod (I : Inv X pins σ H s) : Mod X.K X.mg X.base := I.ok.mod
theorem Inv.kIn (I : Inv X pins σ H s) : X.K.In s.heap := I.ok.mod.kin.keeps I.bk
theorem Inv.nolimit (I : Inv X pins σ H s) : s.heap.NoLimit := I.ok.mod.nolimit.keeps I.bk
theorem Inv.lt (I : Inv X pins σ H s) : X.env.locals < s.heap.objs.size := let ⟨_, hn, _⟩ := I.loc; hn.lt
theorem Inv.sz (I : Inv X pins σ H s) : X.s₀.heap.objs.size ≤ s.heap.objs.size := Nat.le_trans I.ok.above (Nat.le_of_lt I.lt)
theorem Inv.nofs (I : Inv X pins σ H s) {a : Addr} (h : s.heap.objs.size ≤ a) : a ∉ X.fs := fun hb => by
 obtain ⟨_, o, ho, _⟩ := I.ok.funs.mem hb
 exact absurd (Nat.lt_of_lt_of_le (Heap.lt_size ho) (Nat.le_trans I.sz h)) (Nat.lt_irrefl _)
theorem Inv.cne (I : Inv X pins σ H s) : ∀ x c, X.env.cells.lookup x = some c → c ≠ X.env.locals := fun x c e z => by
 obtain ⟨v, o, ho, hd⟩ := I.cell x c e
 obtain ⟨m, ⟨o', es, ep, ho', hd', _⟩, _⟩ := I.loc
 rw [z, ho'] at ho; cases ho; rw [hd'] at hd; cases hd
theorem Inv.funs (I : Inv X pins σ H s) : s.heap.FunFrames X.base X.outer := by
 have all : ∀ (l : List Env), (∀ b ∈ frs l, b ∈ X.fs) → X.s₀.heap.FunFrames X.base l → s.heap.FunFrames X.base l := by
  intro l
  induction l with
  | nil => intro _ _; trivial
  | cons env r ih =>
   intro hs hl
   obtain ⟨hk, ⟨L, o, hf, hn, ho, hd⟩, hr⟩ := hl
   have hL : L ∈ X.fs := hs L (by unfold frs; rw [List.filterMap_cons, hf]; exact List.mem_cons_self)
   obtain ⟨sl, e⟩ := I.base.slot L o ho (I.ok.frf L hL) hL fun z => I.ok.exfs L z hL
   exact ⟨hk, ⟨L, _, hf, hn, e, hd⟩, ih (fun b hb => hs b (by unfold frs; rw [List.filterMap_cons, hf]; exact List.mem_cons_of_mem _ hb)) hr⟩
 exact all X.outer (fun _ hb => hb) I.ok.funs
theorem Inv.stack (I : Inv X pins σ H s) : s.heap.FunFrames X.base X.stack := by
 rcases I.ok.stk with e | ⟨e, hf⟩
 ·rw [e]; exact I.funs
 ·rw [e]
  obtain ⟨m, hn, _⟩ := I.loc
  refine .cons (by rw [I.ok.kind]; decide) hf hn ?_ I.funs
  exact Heap.get?_none_of_le (Nat.le_trans I.ok.bsz I.ok.above)
theorem Inv.stkSub (I : Inv X pins σ H s) : ∀ b ∈ frs X.stack, b ∈ X.env.locals :: X.fs := fun b hb => by
 rcases I.ok.stk with e | ⟨e, hf⟩
 ·rw [e] at hb; exact List.mem_cons_of_mem _ hb
 ·rw [e] at hb
  unfold frs at hb
  rw [List.filterMap_cons, hf] at hb
  exact hb
theorem Inv.stkFree (I : Inv X pins σ H s) : ∀ b ∈ frs X.stack, H b = none := fun b hb => by
 rcases List.mem_cons.mp (I.stkSub b hb) with e | hb
 ·rw [e]; exact I.free
 ·obtain ⟨_, o, ho, _⟩ := I.ok.funs.mem hb
  exact I.base.free b o ho (I.ok.frf b hb) fun z => I.ok.exfs b z hb
theorem Inv.step {g' : Array GenState} {t' : Nat} {d' : Drawn} {ch : List Addr} (I : Inv X pins σ H s)
  (hch : ∀ b ∈ ch, (b ∈ X.ex ∨ X.s₀.heap.objs.size ≤ b) ∧ b ≠ X.env.locals ∧ (∀ x c, X.env.cells.lookup x = some c → c ≠ b) ∧ ∀ p ∈ X.pn ++ pins, p.1 ≠ b)
  (keep : ∀ b o, b ≠ X.env.locals → b ∉ X.fs → b ∉ ch → s.heap.get? b = some o → H b = none → h'.get? b = some o)
  (slot : ∀ b o, b ≠ X.env.locals → b ∈ X.fs → b ∉ ch → s.heap.get? b = some o → H b = none → ∃ sl, h'.get? b = some { o with slots := sl }) (free : ∀ b o, b ∉ ch → s.heap.get? b = some o → H b = none → H' b = none)
  (there : ∀ b o, b ∉ ch → s.heap.get? b = some o → ∃ o', h'.get? b = some o')
  (tups : ∀ b xs, H b = some (.tup xs) → H' b = some (.tup xs)) (frzs : ∀ b o u, H b = some (.frz o u) → H' b = some (.frz o u)) (tbls : ∀ b ps, H b = some (.tbl ps) → ∃ more, H' b = some (.tbl (ps ++ more)))
  (ns : ∀ m, s.heap.Ns X.env.locals m → h'.Ns X.env.locals m) (hok : HOk X.prog X.w H' h') (hg : AllBare g') :
  Inv X pins σ H' { s with heap := h', gens := g', drawn := d', toks := t' } := by
 have neL : ∀ b o, X.s₀.heap.get? b = some o → b ≠ X.env.locals := fun b o e => Nat.ne_of_lt (Nat.lt_of_lt_of_le (Heap.lt_size e) I.ok.above)
 have neC : ∀ b o, X.s₀.heap.get? b = some o → b ∉ X.ex → b ∉ ch := fun b o e hx hb => by
  rcases (hch b hb).1 with z | z
  ·exact hx z
  ·exact absurd (Nat.lt_of_lt_of_le (Heap.lt_size e) z) (Nat.lt_irrefl _)
 have cellK : ∀ x c, X.env.cells.lookup x = some c → ∀ v, s.heap.IsCell c v → h'.IsCell c v := fun x c e v ⟨o, ho, hd⟩ => by
  have nch : c ∉ ch := fun z => (hch c z).2.2.1 x c e rfl
  by_cases hc : c ∈ X.fs
  ·obtain ⟨sl, q⟩ := slot c o (I.cne x c e) hc nch ho (I.freeC x c e)
   exact ⟨_, q, hd⟩
  ·exact ⟨o, keep c o (I.cne x c e) hc nch ho (I.freeC x c e), hd⟩
 refine ⟨I.ok, I.os, hg, ⟨fun b o e n hb hx => ?_, fun b o e n hb hx => ?_, fun b o e n hx => ?_, fun b o e hx => ?_, fun b xs e => tups b xs (I.base.tups b xs e), fun b o xs e => frzs b o xs (I.base.frzs b o xs e), fun b ps e => ?_⟩, ?_, fun x c e => ?_, ?_, fun x c e => ?_, fun p hp => ?_, hok, I.len⟩
 ·exact keep b o (neL b o e) hb (neC b o e hx) (I.base.keep b o e n hb hx) (I.base.free b o e n hx)
 ·obtain ⟨sl, e1⟩ := I.base.slot b o e n hb hx
  obtain ⟨sl', e2⟩ := slot b _ (neL b o e) hb (neC b o e hx) e1 (I.base.free b o e n hx)
  exact ⟨sl', e2⟩
 ·obtain ⟨o', e1⟩ := I.base.there b o e hx
  exact free b o' (neC b o e hx) e1 (I.base.free b o e n hx)
 ·obtain ⟨o', e1⟩ := I.base.there b o e hx
  exact there b o' (neC b o e hx) e1
 ·obtain ⟨m1, e1⟩ := I.base.tbls b ps e
  obtain ⟨m2, e2⟩ := tbls b _ e1
  exact ⟨m1 ++ m2, by rw [e2, Array.append_assoc]⟩
 ·obtain ⟨m, hn, hl⟩ := I.loc
  refine ⟨m, ns m hn, fun i x v e1 e2 e3 => ?_⟩
  obtain ⟨u, r, l⟩ := hl i x v e1 e2 e3
  refine ⟨u, r, ?_⟩
  rcases l with l | ⟨k, c, e, z⟩
  ·exact .inl l
  ·exact .inr ⟨k, c, e, cellK x c e _ z⟩
 ·obtain ⟨v, z⟩ := I.cell x c e
  exact ⟨v, cellK x c e v z⟩
 ·obtain ⟨m, ⟨o, _, _, ho, _⟩, _⟩ := I.loc
  exact free _ o (fun z => (hch _ z).2.1 rfl) ho I.free
 ·obtain ⟨v, o, ho, hd⟩ := I.cell x c e
  exact free c o (fun z => (hch c z).2.2.1 x c e rfl) ho (I.freeC x c e)
 ·obtain ⟨e, n, ne, nf, d⟩ := I.pin p hp
  have nch : p.1 ∉ ch := fun z => (hch p.1 z).2.2.2 p hp rfl
  exact ⟨keep p.1 p.2 ne nf nch e n, free p.1 p.2 nch e n, ne, nf, d⟩
theorem Inv.un {t' : Nat} (I : Inv X pins σ H s) (u : Un X.fs [] H H' s.heap h') (hok : HOk X.prog X.w H' h') : Inv X pins σ H' { s with heap := h', toks := t' } := by
 obtain ⟨m, ⟨o, es, ep, ho, r⟩, _⟩ := id I.loc
 obtain ⟨sl, hL⟩ := u.any ho I.free (by simp)
 exact I.step (g' := s.gens) (d' := s.drawn) (ch := []) (fun _ z => nomatch z) (fun b o _ hb _ e n => u.keep b o e n hb (by simp)) (fun b o _ hb _ e n => u.slot b o e n hb (by simp)) (fun b o _ e n => u.free b o e n (by simp)) (fun b o _ e => u.there b o e (by simp)) u.tups u.frzs u.tbls (fun m' hm => by
  obtain ⟨o', es', ep', ho', r'⟩ := hm
  rw [ho] at ho'; cases ho'
  exact ⟨_, es', ep', hL, r'⟩) hok I.bare
theorem Inv.call {g' : Array GenState} {t' : Nat} {d' : Drawn} {ch : List Addr} (I : Inv X pins σ H s) (u : Un (frs X.stack) ch H H' s.heap h') (hok : HOk X.prog X.w H' h') (hg : AllBare g')
  (hch : ∀ b ∈ ch, (b ∈ X.ex ∨ X.s₀.heap.objs.size ≤ b) ∧ b ≠ X.env.locals ∧ (∀ x c, X.env.cells.lookup x = some c → c ≠ b) ∧ ∀ p ∈ X.pn ++ pins, p.1 ≠ b) :
  Inv X pins σ H' { s with heap := h', gens := g', drawn := d', toks := t' } := by
 obtain ⟨m, ⟨o, es, ep, ho, r⟩, _⟩ := id I.loc
 obtain ⟨sl, hL⟩ := u.any ho I.free fun z => (hch _ z).2.1 rfl
 exact I.step (ch := ch) hch (fun b o hL hb hc e n => u.keep b o e n (fun z => (List.mem_cons.mp (I.stkSub b z)).elim hL hb) hc) (fun b o _ _ hc e n => u.any e n hc) (fun b o hc e n => u.free b o e n hc) (fun b o hc e => u.there b o e hc) u.tups u.frzs u.tbls (fun m' hm => by
  obtain ⟨o', es', ep', ho', r'⟩ := hm
  rw [ho] at ho'; cases ho'
  exact ⟨_, es', ep', hL, r'⟩) hok hg
theorem Inv.turned {t' : Nat} {it : Addr} (I : Inv X pins σ H s) (k : ∀ b o, b ≠ it → s.heap.get? b = some o → h'.get? b = some o) (hn : H it = none) (hL : it ≠ X.env.locals)
  (h1 : it ∈ X.ex ∨ X.s₀.heap.objs.size ≤ it) (h2 : ∀ x c, X.env.cells.lookup x = some c → c ≠ it) (h3 : ∀ p ∈ X.pn ++ pins, p.1 ≠ it) : Inv X pins σ H { s with heap := h', toks := t' } := by
 have nit : ∀ b u, H b = some u → b ≠ it := fun b u e z => by rw [z, hn] at e; cases e
 refine I.step (g' := s.gens) (d' := s.drawn) (ch := [it]) (fun b hb => ?_) (fun b o _ _ hc e _ => k b o (fun z => hc (by simp [z])) e) (fun b o _ _ hc e _ => ⟨o.slots, k b o (fun z => hc (by simp [z])) e⟩) (fun _ _ _ _ n => n)
  (fun b o hc e => ⟨o, k b o (fun z => hc (by simp [z])) e⟩) (fun _ _ e => e) (fun _ _ _ e => e) (fun b ps e => ⟨#[], by rw [e]; simp⟩) (fun m hm => ?_) (fun b u e => ?_) I.bare
 ·have e : b = it := by simpa using hb
  subst e
  exact ⟨h1, hL, h2, h3⟩
 ·obtain ⟨o, es, ep, ho, r⟩ := hm
  exact ⟨o, es, ep, k _ o (Ne.symm hL) ho, r⟩
 ·refine (I.hok b u e).stay (fun c v hc q => k c v ?_ q) (fun _ q => q) fun _ _ q => q
  rcases hc with z | z
  ·rw [z]; exact nit b u e
  ·exact nit c _ z
theorem Inv.tok (I : Inv X pins σ H s) (t : Nat) : Inv X pins σ H { s with toks := t } := I.un (h' := s.heap) (t' := t) Un.refl I.hok
theorem Inv.kept {t' : Nat} (I : Inv X pins σ H s) (k : ∀ b u, s.heap.get? b = some u → h'.get? b = some u) : Inv X pins σ H { s with heap := h', toks := t' } := I.un (Un.kept k) (I.hok.kept k)
theorem Inv.laid {a : Addr} {o : HO} {t' : Nat} (I : Inv X pins σ H s) (k : ∀ b u, s.heap.get? b = some u → h'.get? b = some u) (hp : s.heap.objs.size ≤ a) (new : ZbH X.prog X.w (upd H a o) h' a o) :
  Inv X pins σ (upd H a o) { s with heap := h', toks := t' } := I.un (Un.laid k hp (I.hok.fresh hp)) (I.hok.laid k hp new)
theorem Inv.write {x e : Addr} {o : HO} {t' : Nat} (I : Inv X pins σ H s) (mu : Mut (H x)) (he : e = x ∨ H e = some (.own x)) (k : ∀ b u, b ≠ e → s.heap.get? b = some u → h'.get? b = some u) (heo : ∃ u, h'.get? e = some u)
  (new : ZbH X.prog X.w (upd H x o) h' x o) : Inv X pins σ (upd H x o) { s with heap := h', toks := t' } := I.un (Un.write mu he k heo) (I.hok.write mu he k heo new)
theorem Inv.pins_of {pins' : List (Addr × Obj)} (I : Inv X pins σ H s) (h : ∀ p ∈ pins', s.heap.get? p.1 = some p.2 ∧ H p.1 = none ∧ p.1 ≠ X.env.locals ∧ p.1 ∉ X.fs ∧ ∀ v, p.2.data ≠ .cell v) : Inv X pins' σ H s :=
 ⟨I.ok, I.os, I.bare, I.base, I.loc, I.cell, I.free, I.freeC, fun p hp => (List.mem_append.mp hp).elim (fun z => I.pin p (List.mem_append_left _ z)) (h p), I.hok, I.len⟩
theorem Zh9 {N : List Str} (hN : N.Nodup) {i j : Nat} {x : Str} (a : N[i]? = some x) (b : N[j]? = some x) : i = j := by
 obtain ⟨h1, e1⟩ := List.getElem?_eq_some_iff.mp a
 obtain ⟨h2, e2⟩ := List.getElem?_eq_some_iff.mp b
 exact (List.getElem_inj hN).mp (e1.trans e2.symm)
theorem ZgG {M : Model} {A : Around} {E : Value → Shared → Prop} {i : Nat} {x : Str} {v : V} {u : Value} {Q : Unit → Shared → Prop} (I : Inv X pins σ H s) (hN : X.N.Nodup) (hi : X.N[i]? = some x) (hx : Loc X.env.scope x) (r : RelV v u)
  (h : ∀ s', Inv X pins (σ.set i (some v)) H s' → (∃ a, Heap.SameBut a s.heap s'.heap ∧ (a = X.env.locals ∨ X.env.cells.lookup x = some a)) → Q () s') (hf : X.fn x = true ∨ X.env.scope.names.lookup x = some .local := by first | exact .inl rfl | exact .inr rfl | assumption) : wpAny M A (storeName X.env x u) Q E s := by
 obtain ⟨m, hn, hl⟩ := id I.loc
 have hcls : (X.env.scope.kind == .class || (X.env.scope.kind == .module && X.env.locals != X.env.globals)) = false := by rw [I.ok.kind]; rfl
 have hiσ : i < σ.length := by rw [I.len]; exact (List.getElem?_eq_some_iff.mp hi).1
 have cne := I.cne
 have tracked : ∀ {a : Addr} {h' : Heap}, (∃ o, s.heap.get? a = some o ∧ H a = none) → Heap.SameBut a s.heap h' → HOk X.prog X.w H h' := fun {a h'} ha hs b ob e => by
  obtain ⟨_, _, hfree⟩ := ha
  refine (I.hok b ob e).stay (fun c w' hc q => (hs.2 c ?_).trans q) (fun _ q => q) fun _ _ q => q
  rintro rfl
  rcases hc with rfl | hc
  ·rw [hfree] at e; cases e
  ·rw [hfree] at hc; cases hc
 rcases hx with hk | hk
 ·refine wpAny_storeName_local hk hn (fun h' hn' hs => ?_) hcls
  obtain ⟨oL, _, _, hoL, _⟩ := id hn
  refine h _ ⟨I.ok, I.os, I.bare, ⟨fun b o e n hb hx => ?_, fun b o e n hb hx => ?_, I.base.free, fun b o e hx => ?_, I.base.tups, I.base.frzs, I.base.tbls⟩, ⟨_, hn', fun j y v' e1 e2 e3 => ?_⟩, fun y c e => ?_, I.free, I.freeC, fun p hp => ?_, tracked ⟨oL, hoL, I.free⟩ hs, by simpa using I.len⟩ ⟨_, hs, .inl rfl⟩
  ·exact (hs.2 b (Nat.ne_of_lt (Nat.lt_of_lt_of_le (Heap.lt_size e) I.ok.above))).trans (I.base.keep b o e n hb hx)
  ·obtain ⟨sl, e1⟩ := I.base.slot b o e n hb hx
   exact ⟨sl, (hs.2 b (Nat.ne_of_lt (Nat.lt_of_lt_of_le (Heap.lt_size e) I.ok.above))).trans e1⟩
  ·obtain ⟨o', e1⟩ := I.base.there b o e hx
   exact ⟨o', (hs.2 b (Nat.ne_of_lt (Nat.lt_of_lt_of_le (Heap.lt_size e) I.ok.above))).trans e1⟩
  ·by_cases hj : j = i
   ·subst hj
    rw [hi] at e1; cases e1
    rw [List.getElem?_set_self hiσ] at e2
    cases e2
    exact ⟨u, r, .inl ⟨hk, by simp⟩⟩
   ·rw [List.getElem?_set_ne (Ne.symm hj)] at e2
    obtain ⟨u', r', q⟩ := hl j y v' e1 e2 e3
    refine ⟨u', r', ?_⟩
    rcases q with ⟨k, e⟩ | ⟨k, c, e, z⟩
    ·refine .inl ⟨k, ?_⟩
     have : y ≠ x := fun e => hj (Zh9 hN e1 (e ▸ hi))
     simp [this, e]
    ·exact .inr ⟨k, c, e, z.sameBut hs (cne y c e)⟩
  ·obtain ⟨w', z⟩ := I.cell y c e
   exact ⟨w', z.sameBut hs (cne y c e)⟩
  ·obtain ⟨e, n, ne, nf, d⟩ := I.pin p hp
   exact ⟨(hs.2 p.1 ne).trans e, n, ne, nf, d⟩
 ·have hfn : X.fn x = true := by
   rcases hf with z | z
   ·exact z
   ·rw [z] at hk; cases hk
  obtain ⟨c, hc⟩ := I.ok.has x (.inl hk)
  obtain ⟨w', z⟩ := I.cell x c hc
  refine wpAny_storeName_cell I.ok.kind hk hc z (fun h' hc' hs => ?_)
  obtain ⟨oc, hoc, hocd⟩ := id z
  refine h { s with heap := h' } ⟨I.ok, I.os, I.bare, ⟨fun b o e n hb hx => ?_, fun b o e n hb hx => ?_, I.base.free, fun b o e hx => ?_, I.base.tups, I.base.frzs, I.base.tbls⟩, ⟨m, hn.sameBut hs (Ne.symm (cne x c hc)), fun j y v' e1 e2 e3 => ?_⟩, fun y c' e => ?_, I.free, I.freeC, fun p hp => ?_, tracked ⟨oc, hoc, I.freeC x c hc⟩ hs, by simpa using I.len⟩ ⟨c, hs, .inr hc⟩
  ·exact (hs.2 b (Nat.ne_of_lt (Nat.lt_of_lt_of_le (Heap.lt_size e) (I.ok.cab x c hfn hc)))).trans (I.base.keep b o e n hb hx)
  ·obtain ⟨sl, e1⟩ := I.base.slot b o e n hb hx
   exact ⟨sl, (hs.2 b (Nat.ne_of_lt (Nat.lt_of_lt_of_le (Heap.lt_size e) (I.ok.cab x c hfn hc)))).trans e1⟩
  ·obtain ⟨o', e1⟩ := I.base.there b o e hx
   exact ⟨o', (hs.2 b (Nat.ne_of_lt (Nat.lt_of_lt_of_le (Heap.lt_size e) (I.ok.cab x c hfn hc)))).trans e1⟩
  ·by_cases hj : j = i
   ·subst hj
    rw [hi] at e1; cases e1
    rw [List.getElem?_set_self hiσ] at e2
    cases e2
    exact ⟨u, r, .inr ⟨.inl hk, c, hc, hc'⟩⟩
   ·rw [List.getElem?_set_ne (Ne.symm hj)] at e2
    obtain ⟨u', r', q⟩ := hl j y v' e1 e2 e3
    refine ⟨u', r', ?_⟩
    rcases q with q | ⟨k, c', e, z'⟩
    ·exact .inl q
    ·refine .inr ⟨k, c', e, z'.sameBut hs ?_⟩
     rintro rfl
     exact hj (Zh9 hN e1 (I.ok.inj _ _ _ e hc ▸ hi))
  ·by_cases hcc : c' = c
   ·subst hcc; exact ⟨_, hc'⟩
   ·obtain ⟨w2, z2⟩ := I.cell y c' e
    exact ⟨w2, z2.sameBut hs hcc⟩
  ·obtain ⟨e, n, ne, nf, d⟩ := I.pin p hp
   refine ⟨(hs.2 p.1 ?_).trans e, n, ne, nf, d⟩
   intro q
   rw [q, hoc] at e
   have q' : oc = p.2 := Option.some.inj e
   exact d w' (by rw [← q']; exact hocd)
theorem ZhU {M : Model} {A : Around} {E : Value → Shared → Prop} {i : Nat} {x : Str} {v : V} {u : Value} {Q : Unit → Shared → Prop} (I : Inv X pins σ H s) (hN : X.N.Nodup) (hi : X.N[i]? = some x) (hx : Loc X.env.scope x) (r : RelV v u)
  (h : ∀ s', Inv X pins (σ.set i (some v)) H s' → Q () s') (hf : X.fn x = true ∨ X.env.scope.names.lookup x = some .local := by first | exact .inl rfl | exact .inr rfl | assumption) : wpAny M A (storeName X.env x u) Q E s :=
 ZgG I hN hi hx r (fun s' I' _ => h s' I') hf
theorem Inv.call' {s' : Shared} {ch : List Addr} (I : Inv X pins σ H s) (ho : s'.os = s.os) (u : Un (frs X.stack) ch H H' s.heap s'.heap) (hok : HOk X.prog X.w H' s'.heap) (hg : AllBare s'.gens)
  (hch : ∀ b ∈ ch, (b ∈ X.ex ∨ X.s₀.heap.objs.size ≤ b) ∧ b ≠ X.env.locals ∧ (∀ x c, X.env.cells.lookup x = some c → c ≠ b) ∧ ∀ p ∈ X.pn ++ pins, p.1 ≠ b) : Inv X pins σ H' s' := by
 obtain ⟨h', g', d', t', o'⟩ := s'
 have e : o' = s.os := ho
 subst e
 exact I.call (g' := g') (t' := t') (d' := d') u hok hg hch
end
noncomputable abbrev XK := Value → Option Addr → Hp → Prop
noncomputable abbrev St := List (Option V)
noncomputable abbrev VK := V → Hp → Prop
noncomputable abbrev TE := St → Hp → VK → Prop
noncomputable abbrev TT := St → Hp → (Bool → Hp → Prop) → Prop
noncomputable abbrev TA := St → Hp → (List V → Hp → Prop) → Prop
structure Ends where
 nx : St → Hp → Prop
 rt : VK
 bk : St → Hp → Prop := fun _ _ => False
 ct : St → Hp → Prop := fun _ _ => False
noncomputable abbrev TS := Ends → St → Hp → Prop
noncomputable def EP (X : Cx) (pins : List (Addr × Obj)) (σ : St) (Q : VK) (u : Value) (s' : Shared) : Prop := ∃ v H', Inv X pins σ H' s' ∧ RelV v u ∧ Q v H'
noncomputable def TP (X : Cx) (pins : List (Addr × Obj)) (σ : St) (Q : Bool → Hp → Prop) (b : Bool) (s' : Shared) : Prop := ∃ H', Inv X pins σ H' s' ∧ Q b H'
noncomputable def AP (X : Cx) (pins : List (Addr × Obj)) (σ : St) (Q : List V → Hp → Prop) (us : List Value) (s' : Shared) : Prop := ∃ vs H', Inv X pins σ H' s' ∧ Vals vs us ∧ Q vs H'
noncomputable def SP (X : Cx) (pins : List (Addr × Obj)) (D : Ends) (f : Flow) (s' : Shared) : Prop :=
 match f with
 | .next => ∃ σ' H', Inv X pins σ' H' s' ∧ D.nx σ' H'
 | .brk => ∃ σ' H', Inv X pins σ' H' s' ∧ D.bk σ' H'
 | .cont => ∃ σ' H', Inv X pins σ' H' s' ∧ D.ct σ' H'
 | .ret u => ∃ v σ' H', Inv X pins σ' H' s' ∧ RelV v u ∧ D.rt v H'
noncomputable def PE (X : Cx) (e : Expr) (t : TE) : Prop :=
 ∀ (pins : List (Addr × Obj)) (s : Shared) (σ : St) (H : Hp) (Q : VK), Inv X pins σ H s → t σ H Q → wpAny (model X.prog X.w) X.A (eval e X.env) (EP X pins σ Q) X.xe s
noncomputable def PT (X : Cx) (e : Expr) (t : TT) : Prop :=
 ∀ (pins : List (Addr × Obj)) (s : Shared) (σ : St) (H : Hp) (Q : Bool → Hp → Prop), Inv X pins σ H s → t σ H Q → wpAny (model X.prog X.w) X.A (isTrue e X.env (eval e X.env)) (TP X pins σ Q) X.xe s
noncomputable def PW (X : Cx) (e : Expr) (t : TT) : Prop :=
 ∀ (whole : Sem Value) (pins : List (Addr × Obj)) (s : Shared) (σ : St) (H : Hp) (Q : Bool → Hp → Prop), Inv X pins σ H s → t σ H Q → wpAny (model X.prog X.w) X.A (isTrue e X.env whole) (TP X pins σ Q) X.xe s
theorem PW.pt {X : Cx} {e : Expr} {t : TT} (h : PW X e t) : PT X e t := h _
noncomputable def PA (X : Cx) (es : List Expr) (t : TA) : Prop :=
 ∀ (pos : Pos) (pins : List (Addr × Obj)) (s : Shared) (σ : St) (H : Hp) (Q : List V → Hp → Prop), Inv X pins σ H s → t σ H Q → wpAny (model X.prog X.w) X.A (spliced (backTo pos (starEach es X.env))) (AP X pins σ Q) X.xe s
noncomputable def PS (X : Cx) (st : Stmt) (t : TS) : Prop :=
 ∀ (pins : List (Addr × Obj)) (s : Shared) (σ : St) (H : Hp) (D : Ends), Inv X pins σ H s → t D σ H → wpAny (model X.prog X.w) X.A (exec st X.env) (SP X pins D) X.xe s
noncomputable def PSs (X : Cx) (st : List Stmt) (t : TS) : Prop :=
 ∀ (pins : List (Addr × Obj)) (s : Shared) (σ : St) (H : Hp) (D : Ends), Inv X pins σ H s → t D σ H → wpAny (model X.prog X.w) X.A (execs st X.env) (SP X pins D) X.xe s
theorem thn {α : Type} {t : Sem α} {Q Q' : α → Shared → Prop} {M : Model} {A : Around} {E : Value → Shared → Prop} {s : Shared} (h : wpAny M A t Q E s) (hQ : ∀ a s, Q a s → Q' a s) : wpAny M A t Q' E s := wpAny_mono h hQ fun _ _ x => x
end L2
namespace L2
open PySem PySem.Spec PyProof.Rows
section
variable {X : Cx}
noncomputable def Zpw (i : Nat) : TE := fun σ H Q => ∃ v, σ[i]? = some (some v) ∧ Q v H
noncomputable def tC (v : V) : TE := fun _ H Q => Q v H
theorem Zm0 {i : Nat} {x : Str} {pos : Pos} (hN : X.N[i]? = some x) (hv : Vis X.env.scope x) (hd : (x == ("__debug__" : Str)) = false := by decide) (hcd : (x == ("__classdict__" : Str)) = false := by decide) : PE X (.Name x pos) (Zpw i) := by
 intro pins s σ H Q I h
 obtain ⟨v, e, h⟩ := h
 obtain ⟨m, hn, hl⟩ := I.loc
 obtain ⟨u, r, l⟩ := hl i x v hN e hv
 have fin : EP X pins σ Q u s := ⟨v, H, I, r, h⟩
 rcases l with ⟨hk, hm⟩ | ⟨hk, c, hc, hcell⟩
 ·exact wpAny_Name (wpAny_loadName_local I.ok.kind hk hn hm fin) hd
 ·rcases hk with hk | hk
  ·exact wpAny_Name (wpAny_loadName_cell I.ok.kind hk hc hcell fin) hd
  ·exact wpAny_Name (wpAny_loadName_free I.ok.kind hk hc hcell fin hcd) hd
theorem Znv {i j pos} : PE X (.Constant (.int i) j pos) (tC (.int i)) := fun _ _ _ H _ I h => wpAny_Constant_int ⟨.int i, H, I.tok _, ⟨_, rfl⟩, h⟩
theorem Zn2 {b j pos} : PE X (.Constant (.bool b) j pos) (tC (.bl b)) := fun _ _ _ H _ I h => Constant_bool ⟨.bl b, H, I, rfl, h⟩
theorem ZmF {j pos} : PE X (.Constant .none j pos) (tC .non) := fun _ _ _ H _ I h => Constant_none ⟨.non, H, I, rfl, h⟩
theorem Zns {x j pos} : PE X (.Constant (.str x) j pos) (tC (.str x)) := fun _ _ _ H _ I h => Calls.Constant_str ⟨.str x, H, I.tok _, ⟨_, rfl⟩, h⟩
noncomputable def Gl (X : Cx) (x : Str) : Prop := X.env.kindOf x = some .globalImplicit
theorem ZlM {E : Value → Shared → Prop} {pins : List (Addr × Obj)} {s : Shared} {σ : St} {H : Hp} {x : Str} {u : Value} {pos : Pos} {Q : Value → Shared → Prop} (I : Inv X pins σ H s) (hg : Gl X x) (hm : X.mg x = some u) (h : Q u s)
  (hd : (x == ("__debug__" : Str)) = false := by decide) : wpAny (model X.prog X.w) X.A (eval (.Name x pos) X.env) Q E s :=
 Calls.Name_function_global I.ok.kind hg (Calls.loadGlobal_global (by rw [I.ok.glob]; exact I.mod.glob.keeps I.bk) hm h) hd
theorem ZeB {E : Value → Shared → Prop} {pins : List (Addr × Obj)} {s : Shared} {σ : St} {H : Hp} {x : Str} {u : Value} {pos : Pos} {Q : Value → Shared → Prop} (I : Inv X pins σ H s) (hg : Gl X x) (hm : X.mg x = none) (hv : bootBuiltins x = some u) (h : Q u s)
  (hn : x ≠ "__name__" := by decide) (hd : (x == ("__debug__" : Str)) = false := by decide) : wpAny (model X.prog X.w) X.A (eval (.Name x pos) X.env) Q E s := by
 obtain ⟨mb, h1, h2⟩ := I.mod.blt
 exact Calls.Name_function_global I.ok.kind hg (Calls.loadGlobal_builtin (by rw [I.ok.glob]; exact I.mod.glob.keeps I.bk) hm (by rw [I.ok.blt]; exact h1.keeps I.bk) ((h2 x hn).trans hv) h) hd
theorem Zma {x : Str} {v : V} {u : Value} {pos : Pos} (hg : Gl X x) (hm : X.mg x = none) (hv : bootBuiltins x = some u) (r : RelV v u) (hn : x ≠ "__name__" := by decide) (hd : (x == ("__debug__" : Str)) = false := by decide) : PE X (.Name x pos) (tC v) :=
 fun _ _ _ H _ I h => ZeB I hg hm hv ⟨v, H, I, r, h⟩ hn hd
variable {a b : Expr} {ta tb : TE} {pos : Pos}
noncomputable def tB (t : TE) : TT := fun σ H Q => t σ H fun x H1 => ∃ c, x = .bl c ∧ Q c H1
theorem Zne {e : Expr} {t : TE} (h : PE X e t) (he : ∀ whole, isTrue e X.env whole = (do let v ← whole; standAt e.pos; holding [v] (truthy v)) := by intro _; rfl) : PT X e (tB t) := by
 intro pins s σ H Q I hw
 refine isTrue_plain (thn (h pins s σ H _ I hw) fun v s1 ⟨x, H1, I1, r1, q1⟩ => ?_) (he _)
 obtain ⟨d, rfl, q⟩ := q1
 cases r1
 exact wpAny_truthy_bool ⟨H1, I1, q⟩
variable {tA tB' : TT} {rest : List Expr}
noncomputable def ZpK (t u : TT) : TT := fun σ H Q => t σ H fun c H1 => if c = true then u σ H1 Q else Q false H1
noncomputable def tOr (t u : TT) : TT := fun σ H Q => t σ H fun c H1 => if c = true then Q true H1 else u σ H1 Q
noncomputable def ZpF (t : TT) : TT := fun σ H Q => t σ H fun c H1 => Q (!c) H1
theorem Zl5 (ha : PT X a tA) : PW X (.BoolOp .And [a] pos) tA := by
 intro wh pins s σ H Q I h
 refine isTrue_and (thn (ha pins s σ H Q I h) fun c s1 e => ?_)
 cases c with
 | true => exact isTrue_and_nil e
 | false => exact e
theorem ZnL (ha : PT X a tA) : PW X (.BoolOp .Or [a] pos) tA := by
 intro wh pins s σ H Q I h
 refine isTrue_or (thn (ha pins s σ H Q I h) fun c s1 e => ?_)
 cases c with
 | false => exact isTrue_or_nil e
 | true => exact e
theorem ZnA (ha : PT X a tA) (hb : PW X (.BoolOp .And (b :: rest) pos) tB') : PW X (.BoolOp .And (a :: b :: rest) pos) (ZpK tA tB') := by
 intro wh pins s σ H Q I h
 refine isTrue_and (thn (ha pins s σ H _ I h) fun c s1 ⟨H1, I1, q1⟩ => ?_)
 cases c with
 | true => exact hb wh pins s1 σ H1 Q I1 q1
 | false => exact ⟨H1, I1, q1⟩
theorem Zoa (ha : PT X a tA) (hb : PW X (.BoolOp .Or (b :: rest) pos) tB') : PW X (.BoolOp .Or (a :: b :: rest) pos) (tOr tA tB') := by
 intro wh pins s σ H Q I h
 refine isTrue_or (thn (ha pins s σ H _ I h) fun c s1 ⟨H1, I1, q1⟩ => ?_)
 cases c with
 | true => exact ⟨H1, I1, q1⟩
 | false => exact hb wh pins s1 σ H1 Q I1 q1
theorem Zni (ha : PT X a tA) : PT X (.UnaryOp .Not a pos) (ZpF tA) := by
 intro pins s σ H Q I h
 exact isTrue_not (ha pins s σ H (fun c H1 => Q (!c) H1) I h)
noncomputable def ZoJ (ta tb : TE) : TE := fun σ H Q => ta σ H fun x H1 => ∃ c, x = .bl c ∧ if c = true then tb σ H1 Q else Q (.bl false) H1
noncomputable def ZoC (ta : TE) : TE := fun σ H Q => ta σ H fun x H1 => ∃ c, x = .bl c ∧ Q (.bl (!c)) H1
theorem Znq {op} {t : TE} (h : PE X a t) : PE X (.BoolOp op [a] pos) t := fun pins s σ H Q I hw => BoolOp_one (h pins s σ H Q I hw)
theorem ZmU (ha : PE X a ta) (hb : PE X (.BoolOp .And (b :: rest) pos) tb) : PE X (.BoolOp .And (a :: b :: rest) pos) (ZoJ ta tb) := by
 intro pins s σ H Q I h
 refine BoolOp_and (thn (ha pins s σ H _ I h) fun v s1 ⟨x, H1, I1, r1, q1⟩ => ?_)
 obtain ⟨c, rfl, q1⟩ := q1
 cases r1
 refine wpAny_truthy_bool ?_
 cases c with
 | true => exact hb pins s1 σ H1 Q I1 q1
 | false => exact ⟨.bl false, H1, I1, rfl, q1⟩
theorem ZnP (ha : PE X a ta) : PE X (.UnaryOp .Not a pos) (ZoC ta) := by
 intro pins s σ H Q I h
 refine UnaryOp_ (thn (ha pins s σ H _ I h) fun v s1 ⟨x, H1, I1, r1, q1⟩ => ?_)
 obtain ⟨c, rfl, q1⟩ := q1
 cases r1
 exact not_of (wpAny_truthy_bool ⟨.bl (!c), H1, I1, rfl, q1⟩)
noncomputable def tIf (t : TT) (ta tb : TE) : TE := fun σ H Q => t σ H fun c H1 => if c = true then ta σ H1 Q else tb σ H1 Q
theorem ZkT {c : Expr} (hc : PT X c tA) (ha : PE X a ta) (hb : PE X b tb) : PE X (.IfExp c a b pos) (tIf tA ta tb) := by
 intro pins s σ H Q I h
 refine wpAny_IfExp (thn (hc pins s σ H _ I h) fun d s1 ⟨H1, I1, q1⟩ => ?_)
 cases d with
 | true => exact ha pins s1 σ H1 Q I1 q1
 | false => exact hb pins s1 σ H1 Q I1 q1
end
end L2
namespace L2
open PySem PySem.Spec PyProof.Rows
noncomputable def SqL (K : PySem.W.Frag) (H : Hp) (a : Addr) (xs : List V) : Prop :=
 Rd H a (.lst xs) ∨
  ∃ (o : Obj) (its : Array Value) (n : Nat), K.lookup a = some o ∧ o.cls = .type "list" ∧ o.dict = none ∧ o.data = .seq its n ∧ its.size ≤ sizeLine ∧ Vals xs its.toList
noncomputable def SqT (K : PySem.W.Frag) (H : Hp) (a : Addr) (xs : List V) : Prop :=
 Rd H a (.tup xs) ∨
  ∃ (o : Obj) (its : Array Value) (n : Nat), K.lookup a = some o ∧ (o.cls = .type "tuple" ∧ o.dict = none) ∧ o.data = .seq its n ∧ its.size ≤ sizeLine ∧ Vals xs its.toList
noncomputable def Zpq : Value → Option V
 | .none => some .non
 | .bool b => some (.bl b)
 | .int i _ => some (.int i)
 | .str x _ => some (.str x)
 | .bytes b _ => some (.byt b)
 | .float b _ => some (.flt b)
 | .ref a => some (.ref a)
 | .type n => some (.ty n)
 | _ => none
theorem RelV.abs {x : V} {u : Value} (r : RelV x u) : Zpq u = some x := by
 cases x with
 | non => cases r; rfl
 | bl _ => cases r; rfl
 | int _ => obtain ⟨t, rfl⟩ := r; rfl
 | str _ => obtain ⟨t, rfl⟩ := r; rfl
 | byt _ => obtain ⟨t, rfl⟩ := r; rfl
 | flt _ => obtain ⟨t, rfl⟩ := r; rfl
 | ref _ => cases r; rfl
 | ty _ => cases r; rfl
theorem RelV.inj {x y : V} {u : Value} (r : RelV x u) (q : RelV y u) : x = y := Option.some.inj (r.abs.symm.trans q.abs)
theorem Vals.inj : ∀ {xs ys : List V} {us : List Value}, Vals xs us → Vals ys us → xs = ys
 | _, _, _, .nil, .nil => rfl
 | _, _, _, .cons r t, .cons r' t' => by rw [r.inj r', Vals.inj t t']
section
variable {X : Cx} {pins : List (Addr × Obj)} {σ : St} {H : Hp} {s : Shared} {a : Addr} {xs ys : List V}
theorem SqL.of {K : PySem.W.Frag} (h : H a = some (.lst xs)) : SqL K H a xs := .inl (.inl h)
theorem SqT.of {K : PySem.W.Frag} (h : H a = some (.tup xs)) : SqT K H a xs := .inl (.inl h)
theorem Inv.list (I : Inv X pins σ H s) (h : SqL X.K H a xs) : ∃ its : List Value, Vals xs its ∧ PlainL s.heap a its.toArray ∧ xs.length ≤ sizeLine := by
 rcases h with h | ⟨o, its, n, hk, hc, hd, hs, hz, r⟩
 ·obtain ⟨z, its, n, r, e⟩ := h.ok I.hok
  exact ⟨its, r, ⟨_, n, e, rfl, rfl, rfl⟩, z⟩
 ·refine ⟨its.toList, r, ⟨o, n, I.kIn a o hk, hc, hd, by simpa using hs⟩, ?_⟩
  have e := r.length
  simp only [Array.length_toList] at e
  omega
theorem Inv.tuple (I : Inv X pins σ H s) (h : SqT X.K H a xs) : ∃ its : List Value, Vals xs its ∧ IsTup s.heap a its.toArray ∧ xs.length ≤ sizeLine := by
 rcases h with h | ⟨o, its, n, hk, hc, hs, hz, r⟩
 ·obtain ⟨z, its, r, p⟩ := h.ok I.hok
  exact ⟨its, r, p.tup, z⟩
 ·refine ⟨its.toList, r, ⟨o, I.kIn a o hk, hc.1, n, by simpa using hs⟩, ?_⟩
  have e := r.length
  simp only [Array.length_toList] at e
  omega
theorem Inv.list_inj (I : Inv X pins σ H s) (h : SqL X.K H a xs) (h' : SqL X.K H a ys) : xs = ys := by
 obtain ⟨its, r, ⟨o, n, e, _, _, d⟩, _⟩ := I.list h
 obtain ⟨its', r', ⟨o', n', e', _, _, d'⟩, _⟩ := I.list h'
 rw [e] at e'; cases e'
 rw [d] at d'
 injection d' with d1 _
 have : its = its' := by simpa using congrArg Array.toList d1
 subst this
 exact r.inj r'
theorem Inv.tupleN (I : Inv X pins σ H s) (h : SqT X.K H a xs) : ∃ its : List Value, Vals xs its ∧ Zc6 s.heap a its.toArray ∧ xs.length ≤ sizeLine := by
 rcases h with h | ⟨o, its, n, hk, hc, hs, hz, r⟩
 ·obtain ⟨z, its, r, p⟩ := h.ok I.hok; exact ⟨its, r, p, z⟩
 ·refine ⟨its.toList, r, ⟨o, I.kIn a o hk, hc, n, by simpa using hs⟩, ?_⟩; have e := r.length; simp only [Array.length_toList] at e; omega
theorem Inv.tuple_inj (I : Inv X pins σ H s) (h : SqT X.K H a xs) (h' : SqT X.K H a ys) : xs = ys := by
 obtain ⟨its, r, ⟨o, e, _, n, d⟩, _⟩ := I.tuple h
 obtain ⟨its', r', ⟨o', e', _, n', d'⟩, _⟩ := I.tuple h'
 rw [e] at e'; cases e'
 rw [d] at d'
 injection d' with d1 _
 have : its = its' := by simpa using congrArg Array.toList d1
 subst this
 exact r.inj r'
end
noncomputable abbrev Cx.wish (X : Cx) (E : Value → Shared → Prop) : Cx := { X with xe := E }
noncomputable abbrev Cx.nox (X : Cx) : Cx := X.wish fun _ _ => False
theorem Cx.Ok.wish {X : Cx} (ok : X.Ok) (E : Value → Shared → Prop) : (X.wish E).Ok :=
 ⟨ok.mod, ok.kind, ok.glob, ok.blt, ok.above, ok.inj, ok.has, ok.cab, ok.hd, ok.frames, ok.stk, ok.exf, ok.bs, ok.bsz, ok.noex, ok.exfs, ok.funs, ok.frf⟩
theorem Cx.Ok.unwish {X : Cx} {E : Value → Shared → Prop} (ok : (X.wish E).Ok) : X.Ok :=
 ⟨ok.mod, ok.kind, ok.glob, ok.blt, ok.above, ok.inj, ok.has, ok.cab, ok.hd, ok.frames, ok.stk, ok.exf, ok.bs, ok.bsz, ok.noex, ok.exfs, ok.funs, ok.frf⟩
section
variable {X : Cx} {pins : List (Addr × Obj)} {σ : St} {H : Hp} {s : Shared} {E : Value → Shared → Prop}
theorem Inv.wish (I : Inv X pins σ H s) (E : Value → Shared → Prop) : Inv (X.wish E) pins σ H s := ⟨I.ok.wish E, I.os, I.bare, I.base, I.loc, I.cell, I.free, I.freeC, I.pin, I.hok, I.len⟩
theorem Inv.unwish (I : Inv (X.wish E) pins σ H s) : Inv X pins σ H s := ⟨I.ok.unwish, I.os, I.bare, I.base, I.loc, I.cell, I.free, I.freeC, I.pin, I.hok, I.len⟩
theorem SP.unwish {D : Ends} {f : Flow} {s' : Shared} (h : SP (X.wish E) pins D f s') : SP X pins D f s' := by
 cases f with
 | next => obtain ⟨σ', H', I, q⟩ := h; exact ⟨σ', H', I.unwish, q⟩
 | brk => obtain ⟨σ', H', I, q⟩ := h; exact ⟨σ', H', I.unwish, q⟩
 | cont => obtain ⟨σ', H', I, q⟩ := h; exact ⟨σ', H', I.unwish, q⟩
 | ret u => obtain ⟨v, σ', H', I, r, q⟩ := h; exact ⟨v, σ', H', I.unwish, r, q⟩
theorem PSs.nox {st : List Stmt} {t : TS} (h : PSs X.nox st t) : PSs X st t := fun pins s σ H D I hw =>
 wpAny_mono (h pins s σ H D (I.wish _) hw) (fun _ _ q => q.unwish) fun _ _ z => False.elim z
end
section
variable {X : Cx} {st : Stmt} {rest : List Stmt} {t u : TS} {e : Expr} {te : TE} {pos : Pos}
noncomputable def Zov : TS := fun D σ H => D.nx σ H
noncomputable def Zpl (t u : TS) : TS := fun D σ H => t { D with nx := u D } σ H
theorem ZlR : PSs X [] Zov := fun _ _ σ H _ I h => wpAny_execs_nil ⟨σ, H, I, h⟩
theorem ZkP (h1 : PS X st t) (h2 : PSs X rest u) : PSs X (st :: rest) (Zpl t u) := by
 intro pins s σ H D I h
 refine wpAny_execs_cons (thn (h1 pins s σ H { D with nx := u D } I h) fun f s1 q => ?_)
 cases f with
 | next =>
  obtain ⟨σ', H', I', q⟩ := q
  exact h2 pins s1 σ' H' D I' q
 | ret v => exact q
 | brk => exact q
 | cont => exact q
theorem Zl4 (h1 : PS X st t) : PSs X [st] t := by
 intro pins s σ H D I h
 refine wpAny_execs_cons (thn (h1 pins s σ H D I h) fun f s1 q => ?_)
 cases f with
 | next => exact wpAny_execs_nil q
 | ret v => exact q
 | brk => exact q
 | cont => exact q
theorem Inv.quiet {pins : List (Addr × Obj)} {σ : St} {H : Hp} {s : Shared} (I : Inv X pins σ H s) : interactive X.env = false := by simp [interactive, I.ok.kind]
noncomputable def Zob (te : TE) : TS := fun D σ H => te σ H fun _ H1 => D.nx σ H1
theorem ZlD (he : PE X e te) (hs : swapsWith e none pos.line X.env = pure false := by rfl) : PS X (.Expr e pos) (Zob te) := by
 intro pins s σ H D I h
 exact wpAny_Expr_any (thn (he pins s σ H _ I h) fun v s1 ⟨x, H1, I1, r1, q1⟩ => ⟨σ, H1, I1, q1⟩) I.quiet hs
noncomputable def Zpe (te : TE) : TS := fun D σ H => te σ H D.rt
theorem Znj (he : PE X e te) : PS X (.Return (some e) pos) (Zpe te) := by
 intro pins s σ H D I h
 exact wpAny_Return_some (thn (he pins s σ H _ I h) fun v s1 ⟨x, H1, I1, r1, q1⟩ => ⟨x, σ, H1, I1, r1, q1⟩)
noncomputable def Zpt (c : TT) (t u : TS) : TS := fun D σ H => c σ H fun b H1 => if b = true then t D σ H1 else u D σ H1
theorem ZoD {c : Expr} {a b : List Stmt} {tc : TT} (hc : PT X c tc) (ha : PSs X a t) (hb : PSs X b u) : PS X (.If c a b pos) (Zpt tc t u) := by
 intro pins s σ H D I h
 refine wpAny_If (thn (hc pins s σ H _ I h) fun d s1 ⟨H1, I1, q1⟩ => ?_)
 cases d with
 | true => exact ha pins s1 σ H1 D I1 q1
 | false => exact hb pins s1 σ H1 D I1 q1
end
noncomputable abbrev TG := V → St → Hp → (St → Hp → Prop) → Prop
noncomputable abbrev TGs := List V → St → Hp → (St → Hp → Prop) → Prop
noncomputable def PG (X : Cx) (target : Expr) (t : TG) : Prop :=
 ∀ (pins : List (Addr × Obj)) (s : Shared) (σ : St) (H : Hp) (v : V) (u : Value) (Q : St → Hp → Prop), Inv X pins σ H s → RelV v u → t v σ H Q →
  wpAny (model X.prog X.w) X.A (assign target X.env u) (fun _ s' => ∃ σ' H', Inv X pins σ' H' s' ∧ Q σ' H') X.xe s
noncomputable def PGs (X : Cx) (ts : List Expr) (t : TGs) : Prop :=
 ∀ (pins : List (Addr × Obj)) (s : Shared) (σ : St) (H : Hp) (vs : List V) (us : List Value) (Q : St → Hp → Prop), Inv X pins σ H s → Vals vs us → t vs σ H Q →
  wpAny (model X.prog X.w) X.A (assignInOrder ((assignEach ts X.env).map (·.2)) us) (fun _ s' => ∃ σ' H', Inv X pins σ' H' s' ∧ Q σ' H') X.xe s
noncomputable abbrev ZnS := V → V → V → Hp → (Hp → Prop) → Prop
noncomputable def Zos (X : Cx) (t : ZnS) : Prop :=
 ∀ (pins : List (Addr × Obj)) (s : Shared) (σ : St) (H : Hp) (o i v : V) (ov iv u : Value) (Q : Hp → Prop), Inv X pins σ H s → RelV o ov → RelV i iv → RelV v u → t o i v H Q →
  wpAny (model X.prog X.w) X.A (setItem ov iv u) (fun _ s' => ∃ H', Inv X pins σ H' s' ∧ Q H') X.xe s
section
variable {X : Cx} {pos : Pos}
noncomputable def Zmq (i : Nat) : TG := fun v σ H Q => Q (σ.set i (some v)) H
theorem Zja {i : Nat} {x : Str} (hN : X.N.Nodup) (hi : X.N[i]? = some x) (hx : Loc X.env.scope x) (hf : X.fn x = true ∨ X.env.scope.names.lookup x = some .local := by first | exact .inl rfl | exact .inr rfl | assumption) : PG X (.Name x pos) (Zmq i) := by
 intro pins s σ H v u Q I r h
 exact wpAny_assign_Name (ZhU I hN hi hx r (fun s' I' => ⟨_, H, I', h⟩) hf)
noncomputable def ZpB : TGs := fun vs σ H Q => vs = [] ∧ Q σ H
noncomputable def ZoA (t : TG) (u : TGs) : TGs := fun vs σ H Q => ∃ v r, vs = v :: r ∧ t v σ H fun σ' H' => u r σ' H' Q
theorem Zl8 : PGs X [] ZpB := by
 intro pins s σ H vs us Q I r h
 obtain ⟨e, h⟩ := h
 subst e
 cases r
 exact assignInOrder_nil ⟨σ, H, I, h⟩
theorem Zk4 {e : Expr} {es : List Expr} {t : TG} {u : TGs} (h1 : PG X e t) (h2 : PGs X es u)
  (hs : (assignEach (e :: es) X.env).map (·.2) = assign e X.env :: (assignEach es X.env).map (·.2) := by rfl) : PGs X (e :: es) (ZoA t u) := by
 intro pins s σ H vs us Q I r h
 obtain ⟨v, vr, e1, h⟩ := h
 subst e1
 cases r with
 | cons r rr =>
  rw [hs]
  refine assignInOrder_cons (thn (h1 pins s σ H _ _ _ I r h) fun _ s1 ⟨σ1, H1, I1, q1⟩ => ?_)
  exact h2 pins s1 σ1 H1 _ _ Q I1 rr q1
noncomputable def ZpJ (K : PySem.W.Frag) (n : Nat) (t : TGs) : TG := fun v σ H Q => ∃ a xs, v = .ref a ∧ SqT K H a xs ∧ xs.length = n ∧ t xs σ H Q
theorem Zm3 {es : List Expr} {k : Nat} {t : TGs} {n : Nat} (hc : X.calm = true) (h : PGs X es t)
  (hn : (assignEach es X.env).length = n := by rfl) (hst : (assignEach es X.env).findIdx? (·.1) = none := by rfl) : PG X (.Tuple es k pos) (ZpJ X.K n t) := by
 intro pins s σ H v u Q I r hw
 obtain ⟨a, xs, e1, hq, hl, hw⟩ := hw
 subst e1
 cases r
 obtain ⟨its, rv, ht, hz⟩ := I.tuple hq
 refine assign_Tuple_tuple (I.ok.hd hc) ht (by simp [hn, ← hl, rv.length]) hst fun h' hx => ?_
 have I1 : Inv X pins σ H { s with heap := h' } := I.kept (t' := s.toks) fun b o e => hx b o (Nat.ne_of_lt (Heap.lt_size e)) e
 exact h pins _ σ H xs _ Q I1 (by simpa using rv) hw
noncomputable def Zo9 (to ti : TE) (t : ZnS) : TG := fun v σ H Q => to σ H fun o H1 => ti σ H1 fun i H2 => t o i v H2 fun H3 => Q σ H3
theorem ZmC {o i : Expr} {to ti : TE} {t : ZnS} (ho : PE X o to) (hi : PE X i ti) (hs : Zos X t)
  (ha : ∀ v, assign (.Subscript o i pos) X.env v = (do
   let ov ← holding [v] (eval o X.env)
   let iv ← holding [v, ov] (eval i X.env)
   standAt pos
   holding [v, ov, iv] (setItem ov iv v)
   release [v, ov, iv] []) := by intro _; rfl) : PG X (.Subscript o i pos) (Zo9 to ti t) := by
 intro pins s σ H v u Q I r h
 rw [ha]
 refine wpAny_bind (wpAny_holding (thn (ho pins s σ H _ I h) fun ov s1 ⟨x, H1, I1, r1, q1⟩ => ?_))
 refine wpAny_bind (wpAny_holding (thn (hi pins s1 σ H1 _ I1 q1) fun iv s2 ⟨y, H2, I2, r2, q2⟩ => ?_))
 refine wpAny_bind (wpAny_standAt (wpAny_bind (wpAny_holding (thn (hs pins s2 σ H2 x y v ov iv u _ I2 r1 r2 r q2) fun _ s3 ⟨H3, I3, q3⟩ => ?_))))
 exact wpAny_release ⟨σ, H3, I3, q3⟩
noncomputable def ZoB (te : TE) (g : TG) : TS := fun D σ H => te σ H fun x H1 => g x σ H1 D.nx
theorem Zkj {tg e : Expr} {te : TE} {g : TG} (he : PE X e te) (hg : PG X tg g) (hs : swapsWithSole [tg] e pos.line X.env = pure false := by rfl) (hw : swappedStores [tg] e X.env = pure none := by rfl)
  (h1 : (assignEach [tg] X.env).map (·.2) = [assign tg X.env] := by rfl) : PS X (.Assign [tg] e pos) (ZoB te g) := by
 intro pins s σ H D I h
 refine wpAny_Assign_stores (thn (he pins s σ H _ I h) fun v s1 ⟨x, H1, I1, r1, q1⟩ => ?_) hs hw
 rw [h1]
 exact thn (hg pins s1 σ H1 x v _ I1 r1 q1) fun _ s2 q => q
theorem ZnQ {i : Nat} {x : Str} {e : Expr} {te : TE} {pos' : Pos} (hN : X.N.Nodup) (hi : X.N[i]? = some x) (hx : Loc X.env.scope x) (he : PE X e te) (hs : swapsWith e (some (.Name x pos')) pos.line X.env = pure false := by rfl) (hf : X.fn x = true ∨ X.env.scope.names.lookup x = some .local := by first | exact .inl rfl | exact .inr rfl | assumption) :
  PS X (.Assign [.Name x pos'] e pos) (ZoB te (Zmq i)) := by
 intro pins s σ H D I h
 refine wpAny_Assign_Name (thn (he pins s σ H _ I h) fun v s1 ⟨y, H1, I1, r1, q1⟩ => ?_) hs
 exact ZhU I1 hN hi hx r1 (fun s2 I2 => ⟨_, H1, I2, q1⟩) hf
end
section
variable {X : Cx} {pos : Pos}
noncomputable def Zm2 (c : TT) (tb : TS) : TS := fun D σ H => ∃ W : Nat → St → Hp → Prop, (∃ m, W m σ H) ∧ ∀ m σ H, W m σ H →
 c σ H fun b H1 => if b = true then ∃ N : St → Hp → Prop, (∀ σ' H', N σ' H' → ∃ m', m' < m ∧ W m' σ' H') ∧ tb { D with nx := N, ct := N, bk := D.nx } σ H1 else D.nx σ H1
theorem Zk7 {c : Expr} {body : List Stmt} {tc : TT} {tb : TS} (hp : PassesOwn (model X.prog X.w) X.A X.env X.xe) (hc : PT X c tc) (hb : PSs X body tb) : PS X (.While c body [] pos) (Zm2 tc tb) := by
 intro pins s σ H D I h
 obtain ⟨W, ⟨m0, w0⟩, turn⟩ := h
 refine wpAny_While (codeAny_whileLoop (fun n s' => ∃ σ' H', Inv X pins σ' H' s' ∧ W n σ' H') ?_ m0 ⟨σ, H, I, w0⟩)
 rintro n s1 ⟨σ1, H1, I1, w1⟩
 refine wpAny_passesOwn hp (thn (hc pins s1 σ1 H1 _ I1 (turn n σ1 H1 w1)) fun b s2 ⟨H2, I2, q2⟩ => ?_)
 cases b with
 | true =>
  obtain ⟨N, hN, q2⟩ := q2
  rw [if_pos rfl]
  refine wpAny_passesOwn hp (thn (hb pins s2 σ1 H2 _ I2 q2) fun f s3 q3 => ?_)
  cases f with
  | next =>
   obtain ⟨σ3, H3, I3, n3⟩ := q3
   obtain ⟨m', hm, w3⟩ := hN σ3 H3 n3
   exact ⟨m', hm, σ3, H3, I3, w3⟩
  | cont =>
   obtain ⟨σ3, H3, I3, n3⟩ := q3
   obtain ⟨m', hm, w3⟩ := hN σ3 H3 n3
   exact ⟨m', hm, σ3, H3, I3, w3⟩
  | brk => exact q3
  | ret v => exact q3
 | false =>
  rw [if_neg Bool.false_ne_true]
  exact wpAny_execs_nil ⟨σ1, H2, I2, q2⟩
end
structure It where
 go : Nat → Hp → Prop
 yld : Nat → Hp → V → Hp → Prop
 stop : Nat → Hp → Prop
noncomputable def ZdC (X : Cx) (pins : List (Addr × Obj)) (H : Hp) (b : Addr) : Prop :=
 H b = none ∧ b ≠ X.env.locals ∧ b ∉ X.fs ∧ (b ∈ X.ex ∨ X.s₀.heap.objs.size ≤ b) ∧ (∀ x c, X.env.cells.lookup x = some c → c ≠ b) ∧ ∀ p ∈ X.pn ++ pins, p.1 ≠ b
theorem Inv.fpOk {X : Cx} {pins : List (Addr × Obj)} {σ : St} {H H' : Hp} {s : Shared} {b : Addr} (I : Inv X pins σ H s) (hb : s.heap.objs.size ≤ b) (hn : H' b = none) : ZdC X pins H' b := by
 refine ⟨hn, Nat.ne_of_gt (Nat.lt_of_lt_of_le I.lt hb), I.nofs hb, .inr (Nat.le_trans I.sz hb), fun x c e z => ?_, fun p hp z => ?_⟩
 ·obtain ⟨v, q⟩ := I.cell x c e
  exact absurd (Nat.lt_of_lt_of_le q.lt (by rw [z]; exact hb)) (Nat.lt_irrefl _)
 ·exact absurd (Nat.lt_of_lt_of_le (Heap.lt_size (I.pin p hp).1) (by rw [z]; exact hb)) (Nat.lt_irrefl _)
structure Turn (P : Program) (w : World) (K : PySem.W.Frag) (tg : Expr) (J : It) (fp : List Addr) (it : Addr) (tn : Nat → Heap → Prop) : Prop where
 mem : it ∈ fp
 obj : ∀ i h, tn i h → ∀ b ∈ fp, ∃ o, h.get? b = some o ∧ ∀ v, o.data ≠ .cell v
 keep : ∀ i h h', tn i h → (∀ b ∈ fp, ∀ o, h.get? b = some o → h'.get? b = some o) → tn i h'
 item : ∀ (X : Cx), X.prog = P → X.w = w → X.K = K → X.calm = true → ∀ (i : Nat) (pins : List (Addr × Obj)) (s : Shared) (σ : St) (H : Hp) (E : Value → Shared → Prop), Inv X pins σ H s → (∀ b ∈ fp, ZdC X pins H b) → tn i s.heap → J.go i H →
  wpAny (model P w) X.A (pyNext (.ref it)) (fun r s1 => ∃ u, r = some u ∧
   wpAny (model P w) X.A (letOwnedTupleGo tg (.ref it) u) (fun _ s2 => ∃ x H', Inv X pins σ H' s2 ∧ RelV x u ∧ J.yld i H x H' ∧ tn (i + 1) s2.heap ∧ ∀ b ∈ fp, H' b = none) E s1) E s
 done : ∀ (X : Cx), X.prog = P → X.w = w → X.K = K → X.calm = true → ∀ (i : Nat) (pins : List (Addr × Obj)) (s : Shared) (σ : St) (H : Hp) (E : Value → Shared → Prop), Inv X pins σ H s → (∀ b ∈ fp, ZdC X pins H b) → tn i s.heap → J.stop i H →
  wpAny (model P w) X.A (pyNext (.ref it)) (fun r s1 => r = none ∧ Inv X pins σ H s1) E s
 self : ∀ (A : Around) (i : Nat) (s : Shared) (Q : Value → Shared → Prop) (E : Value → Shared → Prop), tn i s.heap → Q (.ref it) s → wpAny (model P w) A (pyIter (.ref it)) Q E s
noncomputable abbrev TI := St → Hp → (It → Hp → Prop) → Prop
noncomputable def PIE (X : Cx) (pins : List (Addr × Obj)) (σ : St) (tg : Expr) (R : It → Hp → Prop) (itv : Value) (s2 : Shared) : Prop :=
 ∃ (it : Addr) (fp : List Addr) (tn : Nat → Heap → Prop) (J : It) (H' : Hp), itv = .ref it ∧ Inv X pins σ H' s2 ∧ Turn X.prog X.w X.K tg J fp it tn ∧ tn 0 s2.heap ∧ (∀ b ∈ fp, ZdC X pins H' b) ∧ R J H'
noncomputable def PI (X : Cx) (tg iter : Expr) (wi : TI) : Prop :=
 ∀ (pins : List (Addr × Obj)) (s : Shared) (σ : St) (H : Hp) (R : It → Hp → Prop), Inv X pins σ H s → wi σ H R →
  wpAny (model X.prog X.w) X.A (eval iter X.env) (fun v s1 => wpAny (model X.prog X.w) X.A (pyIter v) (PIE X pins σ tg R) X.xe s1) X.xe s
theorem ZiX {M : Model} {A : Around} {E : Value → Shared → Prop} {s : Shared} {tg : Expr} {it : Addr} {u : Value} {o : Obj} {n : String} {vs : Array Value} {Q : Unit → Shared → Prop} (ho : s.heap.get? it = some o) (hc : o.cls = .type n) (hd : o.data = .fields vs)
  (hn : ["enumerate", "zip", "dict_itemiterator", "dict_reverseitemiterator", "odict_iterator", "itertools.zip_longest", "itertools.pairwise"].contains n = false) (hQ : Q () s) : wpAny M A (letOwnedTupleGo tg (.ref it) u) Q E s := by
 unfold letOwnedTupleGo
 cases tg <;> first
  | exact wpAny_pure hQ
  | (cases u <;> first
    | exact wpAny_pure hQ
    | (refine wpAny_bind (wpAny_load ho ?_)
       rw [hc, hd]
       show wpAny M A (if (["enumerate", "zip", "dict_itemiterator", "dict_reverseitemiterator", "odict_iterator", "itertools.zip_longest", "itertools.pairwise"].contains n && vs[0]? == some (rawInt _)) = true then _ else _) Q E s
       rw [if_neg (by intro h; rw [hn, Bool.false_and] at h; cases h)]
       exact wpAny_pure hQ))
noncomputable def Itl (K : PySem.W.Frag) (a : Addr) : It :=
 ⟨fun i H => ∃ xs x, SqL K H a xs ∧ xs[i]? = some x, fun i H x H' => H' = H ∧ ∀ xs, SqL K H a xs → xs[i]? = some x, fun i H => ∃ xs, SqL K H a xs ∧ xs.length ≤ i⟩
noncomputable def Itt (K : PySem.W.Frag) (a : Addr) : It :=
 ⟨fun i H => ∃ xs x, SqT K H a xs ∧ xs[i]? = some x, fun i H x H' => H' = H ∧ ∀ xs, SqT K H a xs → xs[i]? = some x, fun i H => ∃ xs, SqT K H a xs ∧ xs.length ≤ i⟩
noncomputable def Itr (lo : Int) (n : Nat) : It := ⟨fun i _ => i < n, fun i H x H' => H' = H ∧ x = .int (lo + i), fun i _ => n ≤ i⟩
theorem ZjR {P : Program} {w : World} {K : PySem.W.Frag} {tg : Expr} (a it : Addr) : Turn P w K tg (Itl K a) [it] it (fun i h => h.IsListIter it a i) where
 mem := by simp
 obj := fun i h st b hb => by
  have e : b = it := by simpa using hb
  subst e
  obtain ⟨o, e, c, d⟩ := st
  exact ⟨o, e, fun v z => by rw [d] at z; cases z⟩
 keep := fun i h h' st k => st.at fun o e => k it (by simp) o e
 item := by
  intro X hP hw hK hc i pins s σ H E I hf st hg
  subst hP hw hK
  obtain ⟨xs, x, hq, hx⟩ := hg
  obtain ⟨its, rv, p, hz⟩ := I.list hq
  obtain ⟨u, hu, ru⟩ := rv.get hx
  obtain ⟨f0, f1, f2, f3, f4, f5⟩ := hf it (by simp)
  refine wpAny_pyNext_list_item st p.isList (x := u) (by simpa using hu) fun h' st' sb => ?_
  have I1 : Inv X pins σ H { s with heap := h' } := I.turned (t' := s.toks) (fun b o hb e => (sb.2 b hb).trans e) f0 f1 f3 f4 f5
  obtain ⟨o, e, c, d⟩ := id st'
  exact ⟨u, rfl, ZiX (s := { s with heap := h' }) e c d (by decide) ⟨x, H, I1, ru, ⟨rfl, fun ys hy => by rw [I.list_inj hy hq]; exact hx⟩, st', fun b hb => (hf b hb).1⟩⟩
 done := by
  intro X hP hw hK hc i pins s σ H E I hf st hg
  subst hP hw hK
  obtain ⟨xs, hq, hx⟩ := hg
  obtain ⟨its, rv, p, hz⟩ := I.list hq
  obtain ⟨f0, f1, f2, f3, f4, f5⟩ := hf it (by simp)
  have hl := rv.length
  exact wpAny_pyNext_list_end (I.ok.hd hc) st p.isList (by simp; omega) fun h' eb => ⟨rfl, I.turned (t' := s.toks) (fun b o hb e => eb b o hb e) f0 f1 f3 f4 f5⟩
 self := fun _ _ _ _ _ st h => wpAny_pyIter_listiter st h
theorem Zik {P : Program} {w : World} {K : PySem.W.Frag} {tg : Expr} (a it : Addr) : Turn P w K tg (Itt K a) [it] it (fun i h => h.IsTupleIter it a i) where
 mem := by simp
 obj := fun i h st b hb => by
  have e : b = it := by simpa using hb
  subst e
  obtain ⟨o, e, c, d⟩ := st
  exact ⟨o, e, fun v z => by rw [d] at z; cases z⟩
 keep := fun i h h' st k => st.at fun o e => k it (by simp) o e
 item := by
  intro X hP hw hK hc i pins s σ H E I hf st hg
  subst hP hw hK
  obtain ⟨xs, x, hq, hx⟩ := hg
  obtain ⟨its, rv, p, hz⟩ := I.tuple hq
  obtain ⟨u, hu, ru⟩ := rv.get hx
  obtain ⟨f0, f1, f2, f3, f4, f5⟩ := hf it (by simp)
  refine wpAny_pyNext_tuple_item st (show s.heap.IsTuple a its.toArray from p) (x := u) (by simpa using hu) fun h' st' sb => ?_
  have I1 : Inv X pins σ H { s with heap := h' } := I.turned (t' := s.toks) (fun b o hb e => (sb.2 b hb).trans e) f0 f1 f3 f4 f5
  obtain ⟨o, e, c, d⟩ := id st'
  exact ⟨u, rfl, ZiX (s := { s with heap := h' }) e c d (by decide) ⟨x, H, I1, ru, ⟨rfl, fun ys hy => by rw [I.tuple_inj hy hq]; exact hx⟩, st', fun b hb => (hf b hb).1⟩⟩
 done := by
  intro X hP hw hK hc i pins s σ H E I hf st hg
  subst hP hw hK
  obtain ⟨xs, hq, hx⟩ := hg
  obtain ⟨its, rv, p, hz⟩ := I.tuple hq
  obtain ⟨f0, f1, f2, f3, f4, f5⟩ := hf it (by simp)
  have hl := rv.length
  exact wpAny_pyNext_tuple_end (I.ok.hd hc) st (show s.heap.IsTuple a its.toArray from p) (by simp; omega) fun h' eb => ⟨rfl, I.turned (t' := s.toks) (fun b o hb e => eb b o hb e) f0 f1 f3 f4 f5⟩
 self := fun _ _ _ _ _ st h => wpAny_pyIter_tupleiter st h
theorem ZiL {P : Program} {w : World} {K : PySem.W.Frag} {tg : Expr} (it : Addr) (lo : Int) (n : Nat) : Turn P w K tg (Itr lo n) [it] it (fun i h => IsRangeIter h it (lo + (i : Nat) * 1) ((n : Int) - (i : Nat)) 1) where
 mem := by simp
 obj := fun i h st b hb => by
  have e : b = it := by simpa using hb
  subst e
  exact ⟨_, st, fun v z => by
   have z' : Data.fields _ = Data.cell v := z
   cases z'⟩
 keep := fun i h h' st k => k it (by simp) _ st
 item := by
  intro X hP hw hK hc i pins s σ H E I hf st hg
  subst hP hw hK
  obtain ⟨f0, f1, f2, f3, f4, f5⟩ := hf it (by simp)
  have W := Walks.range (prog := X.prog) (w := X.w) (I.ok.hd hc) it lo 1 n
  refine W.item i s _ _ hg st fun v h' tk hv st' kk => ?_
  obtain ⟨t, rfl⟩ := hv
  have I1 : Inv X pins σ H { s with heap := h', toks := tk } := I.turned (fun b o hb e => kk b o (by simpa using hb) e) f0 f1 f3 f4 f5
  refine ⟨_, rfl, ZiX (s := { s with heap := h', toks := tk }) (n := "range_iterator") st' rfl rfl (by decide) ⟨.int (lo + i), H, I1, ⟨t, ?_⟩, ⟨rfl, rfl⟩, st', fun b hb => (hf b hb).1⟩⟩
  rw [Int.mul_one]
 done := by
  intro X hP hw hK hc i pins s σ H E I hf st hg
  subst hP hw hK
  obtain ⟨f0, f1, f2, f3, f4, f5⟩ := hf it (by simp)
  exact wpAny_pyNext_range_end (I.ok.hd hc) st (by have : n ≤ i := hg; omega) fun h' eb => ⟨rfl, I.turned (t' := s.toks) (fun b o hb e => eb b o hb e) f0 f1 f3 f4 f5⟩
 self := fun _ _ _ _ _ st h => wpAny_pyIter_rangeiter st h
end L2
namespace L2
open PySem PySem.Spec PyProof.Rows
section
variable {X : Cx} {tg : Expr}
noncomputable def Zoc (K : PySem.W.Frag) (tl : TE) : TI := fun σ H R => tl σ H fun x H1 => ∃ a, x = .ref a ∧ (∃ xs, SqL K H1 a xs) ∧ R (Itl K a) H1
noncomputable def ZpC (K : PySem.W.Frag) (tl : TE) : TI := fun σ H R => tl σ H fun x H1 => ∃ a, x = .ref a ∧ (∃ xs, SqT K H1 a xs) ∧ R (Itt K a) H1
theorem Zlv {l : Expr} {tl : TE} (hl : PE X l tl) : PI X tg l (Zoc X.K tl) := by
 intro pins s σ H R I h
 refine thn (hl pins s σ H _ I h) fun v s1 ⟨x, H1, I1, r1, q1⟩ => ?_
 obtain ⟨a, e, ⟨xs, hq⟩, q⟩ := q1
 subst e
 cases r1
 obtain ⟨its, rv, p, hz⟩ := I1.list hq
 refine wpAny_pyIter_list p.isList ?_
 refine ⟨s1.heap.objs.size, [s1.heap.objs.size], _, _, H1, rfl, I1.kept (t' := s1.toks) fun b o e => Heap.get?_push_of_some _ e, ZjR a _, ⟨_, Heap.get?_push_size _ rfl, rfl, rfl⟩, fun b hb => ?_, q⟩
 have e : b = s1.heap.objs.size := by simpa using hb
 subst e
 exact I1.fpOk (Nat.le_refl _) (I1.hok.fresh (Nat.le_refl _))
theorem Zno {l : Expr} {tl : TE} (hl : PE X l tl) : PI X tg l (ZpC X.K tl) := by
 intro pins s σ H R I h
 refine thn (hl pins s σ H _ I h) fun v s1 ⟨x, H1, I1, r1, q1⟩ => ?_
 obtain ⟨a, e, ⟨xs, hq⟩, q⟩ := q1
 subst e
 cases r1
 obtain ⟨its, rv, p, hz⟩ := I1.tuple hq
 refine wpAny_pyIter_tuple (show s1.heap.IsTuple a its.toArray from p) ?_
 refine ⟨s1.heap.objs.size, [s1.heap.objs.size], _, _, H1, rfl, I1.kept (t' := s1.toks) fun b o e => Heap.get?_push_of_some _ e, Zik a _, ⟨_, Heap.get?_push_size _ rfl, rfl, rfl⟩, fun b hb => ?_, q⟩
 have e : b = s1.heap.objs.size := by simpa using hb
 subst e
 exact I1.fpOk (Nat.le_refl _) (I1.hok.fresh (Nat.le_refl _))
theorem Zic {pins : List (Addr × Obj)} {σ : St} {H : Hp} {s : Shared} {R : It → Hp → Prop} {E : Value → Shared → Prop} {lo hi : Int} {t u v : Tok} {tk : Nat} (I : Inv X pins σ H s) (h1 : -(2 ^ 62) ≤ lo) (h2 : lo < 2 ^ 62) (h3 : -(2 ^ 62) ≤ hi) (h4 : hi < 2 ^ 62)
  (q : R (Itr lo (hi - lo).toNat) H) : wpAny (model X.prog X.w) X.A (pyIter (.ref s.heap.objs.size)) (PIE X pins σ tg R) E { s with heap := s.heap.push { cls := .type "range", data := .fields #[.int lo t, .int hi u, .int 1 v] }, toks := tk } := by
 refine wpAny_pyIter_range (IsRange.new ..) (small_one h1 h2 h3 h4) ?_
 have I1 : Inv X pins σ H { s with heap := s.heap.push { cls := .type "range", data := .fields #[.int lo t, .int hi u, .int 1 v] }, toks := tk } := I.kept fun b o e => Heap.get?_push_of_some _ e
 refine ⟨(s.heap.push { cls := .type "range", data := .fields #[.int lo t, .int hi u, .int 1 v] }).objs.size, [(s.heap.push { cls := .type "range", data := .fields #[.int lo t, .int hi u, .int 1 v] }).objs.size], _, _, H, rfl,
  I1.kept (t' := tk) fun b o e => Heap.get?_push_of_some _ e, ZiL _ lo (hi - lo).toNat, ?_, fun b hb => ?_, q⟩
 ·have e1 : lo + ((0 : Nat) : Int) * 1 = lo := by simp
  have e2 : (((hi - lo).toNat : Nat) : Int) - ((0 : Nat) : Int) = Builtin.Range.rangeSize lo hi 1 := by rw [rangeSize_one]; split <;> omega
  show IsRangeIter _ _ (lo + ((0 : Nat) : Int) * 1) ((((hi - lo).toNat : Nat) : Int) - ((0 : Nat) : Int)) 1
  rw [e1, e2]
  exact Heap.get?_push_size _ rfl
 ·have e : b = (s.heap.push { cls := .type "range", data := .fields #[.int lo t, .int hi u, .int 1 v] }).objs.size := by simpa using hb
  subst e
  exact I1.fpOk (Nat.le_refl _) (I1.hok.fresh (Nat.le_refl _))
noncomputable def Zn5 (ta : TA) : TI := fun σ H R => ta σ H fun vs H1 => ∃ j : Int, vs = [.int j] ∧ -(2 ^ 62) ≤ j ∧ j < 2 ^ 62 ∧ R (Itr 0 j.toNat) H1
noncomputable def Zol (ta : TA) : TI := fun σ H R => ta σ H fun vs H1 => ∃ i j : Int, vs = [.int i, .int j] ∧ (-(2 ^ 62) ≤ i ∧ i < 2 ^ 62 ∧ -(2 ^ 62) ≤ j ∧ j < 2 ^ 62) ∧ R (Itr i (j - i).toNat) H1
theorem Zjp {a : Expr} {ta : TA} {p pos : Pos} (hg : Gl X "range") (hm : X.mg "range" = none) (ha : PA X [a] ta) (hs : starEach [a] X.env = [(false, eval a X.env)] := by rfl) : PI X tg (.Call (.Name "range" p) [a] [] pos) (Zn5 ta) := by
 intro pins s σ H R I h
 refine Call_ (ZeB I hg hm boot_range (PyProof.Rows.callWith_type1 (thn (ha pos pins s σ H _ I h) fun us s1 ⟨vs, H1, I1, r1, q1⟩ => ?_) hs rfl))
 obtain ⟨j, e, q1, q2, q⟩ := q1
 subst e
 cases r1 with
 | cons r rr =>
  cases rr
  obtain ⟨t, rfl⟩ := r
  exact call_range_1 (Zic I1 (by omega) (by omega) q1 q2 (by simpa using q))
theorem ZjV {a b : Expr} {ta : TA} {p pos : Pos} (hg : Gl X "range") (hm : X.mg "range" = none) (ha : PA X [a, b] ta) (hs : starEach [a, b] X.env = [(false, eval a X.env), (false, eval b X.env)] := by rfl) (hs2 : starEach [b] X.env = [(false, eval b X.env)] := by rfl) :
  PI X tg (.Call (.Name "range" p) [a, b] [] pos) (Zol ta) := by
 intro pins s σ H R I h
 refine Call_ (ZeB I hg hm boot_range (PyProof.Rows.callWith_type1 (thn (ha pos pins s σ H _ I h) fun us s1 ⟨vs, H1, I1, r1, q1⟩ => ?_) (by rw [hs, hs2]) (by rw [hs2]; rfl)))
 obtain ⟨i, j, e, ⟨q1, q2, q3, q4⟩, q⟩ := q1
 subst e
 cases r1 with
 | cons r rr =>
  cases rr with
  | cons r' rr =>
   cases rr
   obtain ⟨t, rfl⟩ := r
   obtain ⟨t', rfl⟩ := r'
   exact call_range_2 (Zic I1 q1 q2 q3 q4 q)
noncomputable def ZpI (wi : TI) (g : TG) (tb : TS) : TS := fun D σ H => wi σ H fun J H1 => ∃ W : Nat → Nat → St → Hp → Prop, (∃ m, W 0 m σ H1) ∧ ∀ i m σ H, W i m σ H →
 (J.stop i H ∧ D.nx σ H) ∨ (J.go i H ∧ ∃ N : St → Hp → Prop, (∀ σ' H', N σ' H' → ∃ m', m' < m ∧ W (i + 1) m' σ' H') ∧ ∀ x H', J.yld i H x H' → g x σ H' fun σ2 H2 => tb { D with nx := N, ct := N, bk := D.nx } σ2 H2)
noncomputable def Zfb (fp : List Addr) (h : Heap) : List (Addr × Obj) := fp.filterMap fun b => (h.get? b).map fun o => (b, o)
theorem ZcU {fp : List Addr} {h : Heap} {b : Addr} {o : Obj} (hb : b ∈ fp) (e : h.get? b = some o) : (b, o) ∈ Zfb fp h := List.mem_filterMap.mpr ⟨b, hb, by rw [e]; rfl⟩
theorem ZjO {fp : List Addr} {h : Heap} {p : Addr × Obj} (hp : p ∈ Zfb fp h) : p.1 ∈ fp ∧ h.get? p.1 = some p.2 := by
 obtain ⟨b, hb, e⟩ := List.mem_filterMap.mp hp
 cases q : h.get? b with
 | none => rw [q] at e; cases e
 | some o =>
  rw [q] at e
  have e' : (b, o) = p := Option.some.inj e
  subst e'
  exact ⟨hb, q⟩
theorem Inv.pinned {pins : List (Addr × Obj)} {σ : St} {H : Hp} {s : Shared} {fp : List Addr} (I : Inv X pins σ H s) (hf : ∀ b ∈ fp, ZdC X pins H b) (ho : ∀ b ∈ fp, ∃ o, s.heap.get? b = some o ∧ ∀ v, o.data ≠ .cell v) : Inv X (pins ++ Zfb fp s.heap) σ H s :=
 I.pins_of fun p hp => (List.mem_append.mp hp).elim (fun z => I.pin p (List.mem_append_right _ z)) fun z => by
  obtain ⟨hb, e⟩ := ZjO z
  obtain ⟨f0, f1, f2, _⟩ := hf p.1 hb
  obtain ⟨o, e', d⟩ := ho p.1 hb
  rw [e] at e'; cases e'
  exact ⟨e, f0, f1, f2, d⟩
theorem Inv.unpinned {pins pl : List (Addr × Obj)} {σ : St} {H : Hp} {s : Shared} (I : Inv X (pins ++ pl) σ H s) : Inv X pins σ H s := I.pins_of fun p hp => I.pin p (List.mem_append_right _ (List.mem_append_left _ hp))
theorem Zks {iter : Expr} {body : List Stmt} {wi : TI} {g : TG} {tb : TS} {pos : Pos} (hp : PassesOwn (model X.prog X.w) X.A X.env X.xe) (hc : X.calm = true) (hi : PI X tg iter wi) (hg : PG X tg g) (hb : PSs X body tb)
  (hs : ∀ x, foldedSetIterable iter X.env x = pure x := by intro _; rfl) : PS X (.For tg iter body [] pos) (ZpI wi g tb) := by
 intro pins s σ H D I h
 refine wpAny_For (thn (hi pins s σ H _ I h) fun v s1 h1 => thn h1 fun itv s2 h2 => ?_) hs
 obtain ⟨it, fp, tn, J, H2, e, I2, T, st2, f2, W, ⟨m0, w0⟩, turn⟩ := h2
 subst e
 have stat : ∀ {H' : Hp}, (∀ b ∈ fp, H' b = none) → ∀ b ∈ fp, ZdC X pins H' b := fun hn b hb => ⟨hn b hb, (f2 b hb).2⟩
 refine codeAny_forLoop_any (fun n s' => ∃ i σ' H', Inv X pins σ' H' s' ∧ tn i s'.heap ∧ (∀ b ∈ fp, H' b = none) ∧ W i n σ' H') ?_ m0 ⟨0, σ, H2, I2, st2, fun b hb => (f2 b hb).1, w0⟩
 rintro n s3 ⟨i, σ3, H3, I3, st3, fr3, w3⟩
 rcases turn i n σ3 H3 w3 with ⟨stop, qn⟩ | ⟨go, N, hN, step⟩
 ·refine wpAny_passesOwn hp (thn (T.done X rfl rfl rfl hc i pins s3 σ3 H3 X.xe I3 (stat fr3) st3 stop) fun r s4 ⟨hr, I4⟩ => ?_)
  subst hr
  exact wpAny_execs_nil ⟨σ3, H3, I4, qn⟩
 ·refine wpAny_passesOwn hp (thn (T.item X rfl rfl rfl hc i pins s3 σ3 H3 X.xe I3 (stat fr3) st3 go) fun r s4 ⟨u, hr, h4⟩ => ?_)
  subst hr
  refine wpAny_passesOwn hp (thn h4 fun _ s5 ⟨x, H5, I5, r5, y5, st5, fr5⟩ => ?_)
  have I5' := I5.pinned (stat fr5) (T.obj _ _ st5)
  refine wpAny_passesOwn hp (thn (hg _ s5 σ3 H5 x u _ I5' r5 (step x H5 y5)) fun _ s6 ⟨σ6, H6, I6, q6⟩ => ?_)
  refine wpAny_passesOwn hp (thn (hb _ s6 σ6 H6 _ I6 q6) fun f s7 q7 => ?_)
  have again : ∀ {σ7 : St} {H7 : Hp}, Inv X (pins ++ Zfb fp s5.heap) σ7 H7 s7 → N σ7 H7 → ∃ m, m < n ∧ ∃ i σ' H', Inv X pins σ' H' s7 ∧ tn i s7.heap ∧ (∀ b ∈ fp, H' b = none) ∧ W i m σ' H' := fun {σ7 H7} I7 n7 => by
   obtain ⟨m', hm, w7⟩ := hN σ7 H7 n7
   refine ⟨m', hm, i + 1, σ7, H7, I7.unpinned, T.keep _ _ _ st5 fun b hb o e => (I7.pin (b, o) (List.mem_append_right _ (List.mem_append_right _ (ZcU hb e)))).1, fun b hb => ?_, w7⟩
   obtain ⟨o, e, d⟩ := T.obj _ _ st5 b hb
   exact (I7.pin (b, o) (List.mem_append_right _ (List.mem_append_right _ (ZcU hb e)))).2.1
  cases f with
  | next => obtain ⟨σ7, H7, I7, n7⟩ := q7; exact again I7 n7
  | cont => obtain ⟨σ7, H7, I7, n7⟩ := q7; exact again I7 n7
  | brk => obtain ⟨σ7, H7, I7, q7⟩ := q7; exact ⟨σ7, H7, I7.unpinned, q7⟩
  | ret v => obtain ⟨x7, σ7, H7, I7, r7, q7⟩ := q7; exact ⟨x7, σ7, H7, I7.unpinned, r7, q7⟩
end
end L2
namespace L2
open PySem PySem.Spec PyProof.Rows
noncomputable abbrev R2 := V → V → Hp → VK → Prop
noncomputable def OpR (X : Cx) (f : Value → Value → Sem Value) (r : R2) : Prop :=
 ∀ (pins : List (Addr × Obj)) (s : Shared) (σ : St) (H : Hp) (x y : V) (v u : Value) (Q : VK), Inv X pins σ H s → RelV x v → RelV y u → r x y H Q →
  wpAny (model X.prog X.w) X.A (f v u) (EP X pins σ Q) X.xe s
noncomputable def UnR (X : Cx) (f : Value → Sem Value) (r : V → Hp → VK → Prop) : Prop :=
 ∀ (pins : List (Addr × Obj)) (s : Shared) (σ : St) (H : Hp) (x : V) (v : Value) (Q : VK), Inv X pins σ H s → RelV x v → r x H Q →
  wpAny (model X.prog X.w) X.A (f v) (EP X pins σ Q) X.xe s
noncomputable def ZbG (X : Cx) (f : Value) (r : List V → Hp → VK → Prop) : Prop :=
 ∀ (pins : List (Addr × Obj)) (s : Shared) (σ : St) (H : Hp) (xs : List V) (us : List Value) (Q : VK), Inv X pins σ H s → Vals xs us → r xs H Q →
  wpAny (model X.prog X.w) X.A (call f us) (EP X pins σ Q) X.xe s
noncomputable def tOp (r : R2) (ta tb : TE) : TE := fun σ H Q => ta σ H fun x H1 => tb σ H1 fun y H2 => r x y H2 Q
noncomputable def tUn (r : V → Hp → VK → Prop) (ta : TE) : TE := fun σ H Q => ta σ H fun x H1 => r x H1 Q
noncomputable def rI (C : Int → Int → Prop) (g : Int → Int → V) : R2 := fun x y H Q => ∃ i j, x = .int i ∧ y = .int j ∧ C i j ∧ Q (g i j) H
noncomputable def rI0 (g : Int → Int → V) : R2 := fun x y H Q => ∃ i j, x = .int i ∧ y = .int j ∧ Q (g i j) H
noncomputable def rU (g : Int → V) : V → Hp → VK → Prop := fun x H Q => ∃ i, x = .int i ∧ Q (g i) H
section
variable {X : Cx} {a b c : Expr} {ta tb tc : TE} {pos : Pos}
theorem Znb (ha : PE X a ta) (hb : PE X b tb) {pins : List (Addr × Obj)} {s : Shared} {σ : St} {H : Hp} {R : V → V → Hp → Prop} (I : Inv X pins σ H s)
  (h : ta σ H fun x H1 => tb σ H1 fun y H2 => R x y H2) {Q : Value → Shared → Prop} {f : Value → Value → Sem Value}
  (hf : ∀ v u s2 x y H2, Inv X pins σ H2 s2 → RelV x v → RelV y u → R x y H2 → wpAny (model X.prog X.w) X.A (f v u) Q X.xe s2) :
  wpAny (model X.prog X.w) X.A (eval a X.env) (fun v s₁ => wpAny (model X.prog X.w) X.A (eval b X.env) (fun u s₂ => wpAny (model X.prog X.w) X.A (f v u) Q X.xe s₂) X.xe s₁) X.xe s := by
 refine thn (ha pins s σ H _ I h) fun v s1 ⟨x, H1, I1, r1, q1⟩ => ?_
 refine thn (hb pins s1 σ H1 _ I1 q1) fun u s2 ⟨y, H2, I2, r2, q2⟩ => ?_
 exact hf v u s2 x y H2 I2 r1 r2 q2
theorem Zot {op : Operator} {r : R2} (ho : OpR X (binaryOp op) r) (ha : PE X a ta) (hb : PE X b tb) : PE X (.BinOp a op b pos) (tOp r ta tb) := by
 intro pins s σ H Q I h
 exact wpAny_BinOp (Znb ha hb I h fun v u s2 x y H2 I2 rx ry q => ho pins s2 σ H2 x y v u Q I2 rx ry q)
theorem ZoU {op : UnaryOp} {r : V → Hp → VK → Prop} (ho : UnR X (unaryOp op) r) (ha : PE X a ta) : PE X (.UnaryOp op a pos) (tUn r ta) := by
 intro pins s σ H Q I h
 exact UnaryOp_ (thn (ha pins s σ H _ I h) fun v s1 ⟨x, H1, I1, r1, q1⟩ => ho pins s1 σ H1 x v Q I1 r1 q1)
theorem opI {f : Value → Value → Sem Value} {C : Int → Int → Prop} {g : Int → Int → Int}
  (rule : ∀ (i j : Int) (t u : Tok) (s : Shared) (Q : Value → Shared → Prop) (E : Value → Shared → Prop), C i j → Q (.int (g i j) s.toks) { s with toks := s.toks + 1 } → wpAny (model X.prog X.w) X.A (f (.int i t) (.int j u)) Q E s) :
  OpR X f (rI C fun i j => .int (g i j)) := by
 intro pins s σ H x y v u Q I rx ry h
 obtain ⟨i, j, rfl, rfl, hc, q⟩ := h
 obtain ⟨t, rfl⟩ := rx
 obtain ⟨t', rfl⟩ := ry
 exact rule i j t t' s _ _ hc ⟨.int (g i j), H, I.tok _, ⟨_, rfl⟩, q⟩
theorem Zow {f : Value → Value → Sem Value} {g : Int → Int → Int}
  (rule : ∀ (i j : Int) (t u : Tok) (s : Shared) (Q : Value → Shared → Prop) (E : Value → Shared → Prop), Q (.int (g i j) s.toks) { s with toks := s.toks + 1 } → wpAny (model X.prog X.w) X.A (f (.int i t) (.int j u)) Q E s) :
  OpR X f (rI0 fun i j => .int (g i j)) := by
 intro pins s σ H x y v u Q I rx ry h
 obtain ⟨i, j, rfl, rfl, q⟩ := h
 obtain ⟨t, rfl⟩ := rx
 obtain ⟨t', rfl⟩ := ry
 exact rule i j t t' s _ _ ⟨.int (g i j), H, I.tok _, ⟨_, rfl⟩, q⟩
theorem ZlQ {f : Value → Value → Sem Value} {g : Int → Int → Bool}
  (rule : ∀ (i j : Int) (t u : Tok) (s : Shared) (Q : Value → Shared → Prop) (E : Value → Shared → Prop), Q (.bool (g i j)) s → wpAny (model X.prog X.w) X.A (f (.int i t) (.int j u)) Q E s) :
  OpR X f (rI0 fun i j => .bl (g i j)) := by
 intro pins s σ H x y v u Q I rx ry h
 obtain ⟨i, j, rfl, rfl, q⟩ := h
 obtain ⟨t, rfl⟩ := rx
 obtain ⟨t', rfl⟩ := ry
 exact rule i j t t' s _ _ ⟨.bl (g i j), H, I, rfl, q⟩
noncomputable def Zps (i j : Int) : Prop := 0 < j ∧ j < 1073741824
noncomputable def Zpf (i j : Int) : Prop := 0 ≤ j ∧ j ≤ 1000000 ∧ i.natAbs < 2 ^ 64
noncomputable def Znk (i j : Int) : Prop := (-(2 ^ 64) < i ∧ i < 2 ^ 64) ∨ (-(2 ^ 64) < j ∧ j < 2 ^ 64)
theorem Znk.ok {i j : Int} (h : Znk i j) : IntMulOk i j := by
 rcases h with ⟨h1, h2⟩ | ⟨h1, h2⟩
 ·exact .of_left (intBits_le_64 h1 h2)
 ·exact .of_right (intBits_le_64 h1 h2)
theorem ZmW : OpR X (binaryOp .Add) (rI0 fun i j => .int (i + j)) := Zow fun _ _ _ _ _ _ _ q => add_int q
theorem Zm6 : OpR X (binaryOp .Sub) (rI0 fun i j => .int (i - j)) := Zow fun _ _ _ _ _ _ _ q => sub_int q
theorem ZmM : OpR X (binaryOp .Mult) (rI Znk fun i j => .int (i * j)) := opI fun _ _ _ _ _ _ _ hc q => mul_int q hc.ok
theorem Zlz : OpR X (binaryOp .FloorDiv) (rI Zps fun i j => .int (i / j)) := opI fun i j _ _ _ _ _ hc q => by
 have h1 : (0 : Int) < j := hc.1
 have h2 : j < 1073741824 := hc.2
 exact floordiv_int (by omega) (by rw [Int.fdiv_eq_ediv_of_nonneg i (by omega)]; exact q) (.inl (PyProof.noPylong_small (by omega)))
theorem Znz : OpR X (binaryOp .Mod) (rI (fun _ j => 0 < j) fun i j => .int (i % j)) := opI fun i j _ _ _ _ _ hc q => by
 have h1 : (0 : Int) < j := hc
 exact mod_int' (by omega) (by rw [Int.fmod_eq_emod_of_nonneg i (by omega)]; exact q)
theorem ZmR : OpR X (binaryOp .Pow) (rI Zpf fun i j => .int (i ^ j.toNat)) := opI fun _ _ _ _ _ _ _ hc q => pow_int_small hc.1 hc.2.1 hc.2.2 q
theorem unI {f : Value → Sem Value} {g : Int → Int}
  (rule : ∀ (i : Int) (t : Tok) (s : Shared) (Q : Value → Shared → Prop) (E : Value → Shared → Prop), Q (.int (g i) s.toks) { s with toks := s.toks + 1 } → wpAny (model X.prog X.w) X.A (f (.int i t)) Q E s) :
  UnR X f (rU fun i => .int (g i)) := by
 intro pins s σ H x v Q I rx h
 obtain ⟨i, rfl, q⟩ := h
 obtain ⟨t, rfl⟩ := rx
 exact rule i t s _ _ ⟨.int (g i), H, I.tok _, ⟨_, rfl⟩, q⟩
theorem Znh : UnR X (unaryOp .USub) (rU fun i => .int (-i)) := unI fun _ _ _ _ _ q => neg_int q
end
section
variable {X : Cx} {a b c : Expr} {ta tb tc : TE} {pos : Pos}
theorem Ziv {pins : List (Addr × Obj)} {σ : St} {H : Hp} {s : Shared} {Q : VK} {k k' : Bool} (I : Inv X pins σ H s) (q : Q (.bl k) H) (e : k = k') : EP X pins σ Q (.bool k') s := by
 subst e
 exact ⟨.bl k, H, I, rfl, q⟩
theorem ZoS : OpR X (compareOp .Lt) (rI0 fun i j => .bl (decide (i < j))) := ZlQ fun _ _ _ _ _ _ _ q => lt_int q
theorem ZoP : OpR X (compareOp .LtE) (rI0 fun i j => .bl (decide (i ≤ j))) := ZlQ fun _ _ _ _ _ _ _ q => le_int q
theorem ZoE : OpR X (compareOp .Gt) (rI0 fun i j => .bl (decide (j < i))) := ZlQ fun _ _ _ _ _ _ _ q => gt_int q
theorem Zof : OpR X (compareOp .GtE) (rI0 fun i j => .bl (decide (j ≤ i))) := ZlQ fun _ _ _ _ _ _ _ q => ge_int q
theorem ZjC : OpR X (compareOp .In) (fun x y H Q => ∃ i j, x = .str i ∧ y = .str j ∧ Q (.bl (!(Builtin.Str.occurrences j i 0 j.length 1).isEmpty)) H) := by
 intro pins s σ H x y v u Q I rx ry h
 obtain ⟨i, j, rfl, rfl, q⟩ := h
 obtain ⟨t, rfl⟩ := rx
 obtain ⟨t', rfl⟩ := ry
 exact in_str (Ziv I q rfl)
theorem Znw : OpR X (compareOp .Is) (fun x y H Q => y = .non ∧ Q (.bl (decide (x = .non))) H) := by
 intro pins s σ H x y v u Q I rx ry h
 obtain ⟨rfl, q⟩ := h
 cases ry
 refine is_none_gen (Ziv I q ?_)
 cases x <;> first
  | (cases rx; rfl)
  | (obtain ⟨t, rfl⟩ := rx; rfl)
theorem Zmb : OpR X (compareOp .IsNot) (fun x y H Q => y = .non ∧ Q (.bl (!decide (x = .non))) H) := by
 intro pins s σ H x y v u Q I rx ry h
 obtain ⟨rfl, q⟩ := h
 cases ry
 refine isnot_none_gen (Ziv I q ?_)
 cases x <;> first
  | (cases rx; rfl)
  | (obtain ⟨t, rfl⟩ := rx; rfl)
theorem OpR.or {f : Value → Value → Sem Value} {r r' : R2} (h : OpR X f r) (h' : OpR X f r') : OpR X f (fun x y H Q => r x y H Q ∨ r' x y H Q) := by
 intro pins s σ H x y v u Q I rx ry q
 rcases q with q | q
 ·exact h pins s σ H x y v u Q I rx ry q
 ·exact h' pins s σ H x y v u Q I rx ry q
theorem ZlG {op : CmpOp} {r : R2} (ho : OpR X (compareOp op) r) (ha : PE X a ta) (hb : PE X b tb) (hm : behindInMarks op b = false) : PE X (.Compare a [op] [b] pos) (tOp r ta tb) := by
 intro pins s σ H Q I h
 exact wpAny_Compare1 (Znb ha hb I h fun v u s2 x y H2 I2 rx ry q => ho pins s2 σ H2 x y v u Q I2 rx ry q) hm
noncomputable def ZoT (t : TE) : TT := fun σ H Q => t σ H fun x H' => ∃ k, x = .bl k ∧ Q k H'
theorem ZlA {op : CmpOp} {r : R2} (ho : OpR X (compareOp op) r) (ha : PE X a ta) (hb : PE X b tb) (hm : behindInMarks op b = false) : PT X (.Compare a [op] [b] pos) (ZoT (tOp r ta tb)) := by
 intro pins s σ H Q I h
 refine wpAny_isTrue_Compare1 (thn (ha pins s σ H _ I h) fun v s1 ⟨x, H1, I1, r1, q1⟩ => thn (hb pins s1 σ H1 _ I1 q1) fun u s2 ⟨y, H2, I2, r2, q2⟩ =>
  thn (ho pins s2 σ H2 x y v u _ I2 r1 r2 q2) fun c s3 ⟨z, H3, I3, r3, k, e, q3⟩ => ?_) hm
 subst e
 cases r3
 exact wpAny_truthy_bool ⟨H3, I3, q3⟩
theorem Zf5 : (sizeLine : Nat) < 2 ^ 63 := by rw [sizeLine_eq]; decide
theorem Ziw : OpR X (binaryOp .Add) (fun x y H Q => ∃ i j, x = .str i ∧ y = .str j ∧ i.length + j.length ≤ sizeLine ∧ Q (.str (i ++ j)) H) := by
 intro pins s σ H x y v u Q I rx ry h
 obtain ⟨i, j, rfl, rfl, hz, q⟩ := h
 obtain ⟨t, rfl⟩ := rx
 obtain ⟨t', rfl⟩ := ry
 exact add_str (fun t' tk => ⟨.str (i ++ j), H, I.tok _, ⟨_, rfl⟩, q⟩) hz
theorem vals1 {x : V} {us : List Value} (r : Vals [x] us) : ∃ u, us = [u] ∧ RelV x u := by
 cases r with
 | cons r1 r2 => cases r2; exact ⟨_, rfl, r1⟩
theorem vals2 {x y : V} {us : List Value} (r : Vals [x, y] us) : ∃ u w', us = [u, w'] ∧ RelV x u ∧ RelV y w' := by
 cases r with
 | cons r1 r2 =>
  cases r2 with
  | cons r3 r4 => cases r4; exact ⟨_, _, rfl, r1, r3⟩
theorem Zj6 : ZbG X (.type "int") (fun xs H Q => (∃ i, xs = [.int i] ∧ Q (.int i) H) ∨ ∃ k, xs = [.bl k] ∧ Q (.int (if k then 1 else 0)) H) := by
 intro pins s σ H xs us Q I r h
 rcases h with ⟨i, rfl, q⟩ | ⟨k, rfl, q⟩
 ·obtain ⟨u, rfl, t, rfl⟩ := vals1 r
  exact call_int_int ⟨.int i, H, I, ⟨_, rfl⟩, q⟩
 ·obtain ⟨u, rfl, r1⟩ := vals1 r
  cases r1
  exact call_int_bool ⟨.int (if k then 1 else 0), H, I.tok _, ⟨_, rfl⟩, q⟩
noncomputable def Zph (K : PySem.W.Frag) (x : V) (H : Hp) (n : Nat) : Prop :=
 match x with
 | .str y => y.length ≤ sizeLine ∧ n = y.length
 | .byt y => y.size ≤ sizeLine ∧ n = y.size
 | .ref p => (∃ xs, SqL K H p xs ∧ n = xs.length) ∨ ∃ xs, SqT K H p xs ∧ n = xs.length
 | _ => False
theorem Zkc : ZbG X (.builtin "len") (fun xs H Q => ∃ x n, xs = [x] ∧ Zph X.K x H n ∧ Q (.int n) H) := by
 intro pins s σ H xs us Q I r h
 obtain ⟨x, n, rfl, e, q⟩ := h
 obtain ⟨u, rfl, rx⟩ := vals1 r
 have hl := Zf5
 have hs : sizeLine = 16777216 := sizeLine_eq
 cases x with
 | str y =>
  obtain ⟨t, rfl⟩ := rx
  obtain ⟨hy, e'⟩ : y.length ≤ sizeLine ∧ n = y.length := e
  subst e'
  exact len_str (by omega) ⟨.int _, H, I.tok _, ⟨_, rfl⟩, q⟩
 | byt y =>
  obtain ⟨t, rfl⟩ := rx
  obtain ⟨hy, e'⟩ : y.size ≤ sizeLine ∧ n = y.size := e
  subst e'
  exact PySem.W.len_bytes (by omega) ⟨.int _, H, I.tok _, ⟨_, rfl⟩, q⟩
 | ref p =>
  cases rx
  have e' : (∃ xs, SqL X.K H p xs ∧ n = xs.length) ∨ ∃ xs, SqT X.K H p xs ∧ n = xs.length := e
  rcases e' with ⟨xs, hx, e'⟩ | ⟨xs, hx, e'⟩
  ·subst e'
   obtain ⟨its, r', pl, hz⟩ := I.list hx
   have hlen := r'.length
   exact Calls.call_len_list pl.isList (by simp only [List.size_toArray]; omega) ⟨.int xs.length, H, I.tok _, ⟨_, by simp only [List.size_toArray]; rw [hlen]⟩, q⟩
  ·subst e'
   obtain ⟨its, r', pl, hz⟩ := I.tuple hx
   have hlen := r'.length
   exact len_tuple pl (by simp only [List.size_toArray]; omega) ⟨.int xs.length, H, I.tok _, ⟨_, by simp only [List.size_toArray]; rw [hlen]⟩, q⟩
 | _ => exact (show False from e).elim
end
end L2
namespace L2
open PySem PySem.Spec PyProof.Rows
structure ZnB (h : Heap) (x dx C : Addr) (mA : Str → Option Value) : Prop where
 obj : h.get? x = some (PySem.W.instObj C dx)
 ns : h.Ns1 dx mA
 ne : dx ≠ x
theorem Zjr {h : Heap} {dx : Addr} {mA : Str → Option Value} (n : h.Ns1 dx mA) : ∃ od, h.get? dx = some od ∧ ∀ name, PySem.W.lookIn name od = some (mA name) := by
 obtain ⟨o, es, ep, ho, hd, hk, _, hm⟩ := n
 refine ⟨o, ho, fun name => ?_⟩
 have e := hm name
 unfold nsFind findBy at e
 rw [← Array.find?_toList] at e
 unfold PySem.W.lookIn
 rw [hd]
 dsimp only
 split
 ·rename_i y q
  rw [q] at e
  exact congrArg some e
 ·rename_i q
  rw [q] at e
  have a : es.toList.any (·.refKey) = false := by
   rw [List.any_eq_false]
   intro y hy
   obtain ⟨z, t, hkey⟩ := hk y (Array.mem_toList_iff.mp hy)
   simp [DictEntry.refKey, hkey]
  have a' : ¬ es.toList.any (·.refKey) = true := by rw [a]; exact Bool.false_ne_true
  rw [if_neg a']
  exact congrArg some e
theorem ZnB.look {h : Heap} {x dx C : Addr} {mA : Str → Option Value} (I : ZnB h x dx C mA) : ∃ od, PySem.W.InstAt h x (PySem.W.instObj C dx) C (some od) ∧ ∀ name, PySem.W.lookIn name od = some (mA name) :=
 let ⟨od, ho, hl⟩ := Zjr I.ns
 ⟨od, ⟨I.obj, rfl, rfl, ho⟩, hl⟩
section
variable {prog : Program} {w : World} {A : Around} {E : Value → Shared → Prop} {s : Shared} {K : PySem.W.Frag} {x dx C f : Addr} {mA : Str → Option Value} {name : Str} {v : Value}
end
theorem Zhq.some_of {v : V} {o : Option Value} (r : Zhq (some v) o) : ∃ u, o = some u ∧ RelV v u := by
 cases o with
 | none => exact (show False from r).elim
 | some u => exact ⟨u, rfl, r⟩
section
variable {P : Program} {w : World} {H H' : Hp} {h h' : Heap} {a C dx : Addr} {fs fs' : List (Str × V)}
theorem Zl9 (hok : HOk P w H h) (e : H a = some (.ins C dx fs)) : ∃ mA, ZnB h a dx C mA ∧ (∀ f, Zhq (fs.lookup f) (mA f)) ∧ PySem.Within mA (fs.map (·.1)) ∧ fs.length ≤ 1000 ∧ H dx = some (.own a) := by
 obtain ⟨d, z, ne, ob, mA, n, r, q⟩ := (show ZbH P w H h a (.ins C dx fs) from hok a _ e)
 exact ⟨mA, ⟨ob, n, ne⟩, r, q, z, d⟩
end
structure Cls (K : PySem.W.Frag) (C : Addr) : Prop where
 pg : PySem.W.plainGet K C Str.empty = true
 hd : PySem.W.hasDictIn K C = true
 po : PySem.W.plainOver K C = true
 sa : PySem.W.findIn K (.ref C) "__setattr__" = some (some (.builtin "object.__setattr__"))
theorem Cls.get {K : PySem.W.Frag} {C : Addr} (c : Cls K C) (f : Str) : PySem.W.plainGet K C f = true := c.pg
section
variable {X : Cx} {pins : List (Addr × Obj)} {σ : St} {H : Hp} {s : Shared} {a C dx : Addr} {fs : List (Str × V)} {f : Str} {v : V} {A : Around} {E : Value → Shared → Prop}
end
section
variable {X : Cx} {o e value : Expr} {f : Str} {pos pos' tpos : Pos} {ta tv : TE}
end
section
variable {X : Cx} {pins : List (Addr × Obj)} {σ : St} {H : Hp} {s : Shared} {A : Around} {E : Value → Shared → Prop} {Q : Value → Shared → Prop} {c : Value} {b : Bool}
inductive Zfy (K : PySem.W.Frag) (H : Hp) : V → Value → Prop where
 | non : Zfy K H .non (.type "NoneType")
 | bl (x : Bool) : Zfy K H (.bl x) (.type "bool")
 | int (i : Int) : Zfy K H (.int i) (.type "int")
 | str (x : Str) : Zfy K H (.str x) (.type "str")
 | flt (x : UInt64) : Zfy K H (.flt x) (.type "float")
 | lst {a : Addr} {xs : List V} (e : H a = some (.lst xs)) : Zfy K H (.ref a) (.type "list")
 | frz {a : Addr} {o : Obj} {xs : List V} (e : H a = some (.frz o (.lst xs))) : Zfy K H (.ref a) (.type "list")
 | tup {a : Addr} {xs : List V} (e : H a = some (.tup xs)) : Zfy K H (.ref a) (.type "tuple")
 | dK {a : Addr} {kvs : List (Key × V)} (e : H a = some (.dK kvs)) : Zfy K H (.ref a) (.type "dict")
 | dT {a : Addr} {kvs : List (List Key × V)} (e : H a = some (.dT kvs)) : Zfy K H (.ref a) (.type "dict")
 | ins {a C dx : Addr} {fs : List (Str × V)} (e : H a = some (.ins C dx fs)) (cl : Cls K C) (ha : PySem.W.findIn K (.ref C) "__class__" = some (some (.builtin "object.__class__")))
   (hn : PySem.W.specialIn K (.builtin "object.__class__") "__get__" = some (some (.builtin "getset_descriptor.__get__"))) (htk : PySem.W.takesIn K (.builtin "object.__class__") = some true)
   (hm : PySem.W.mroIn K C (.type "object") = some true) : Zfy K H (.ref a) (.ref C)
theorem Zdi {x : V} {u t : Value} (I : Inv X pins σ H s) (rx : RelV x u) (ty : Zfy X.K H x t) (e : PySem.W.kitOne X.K t c = some b) (h : ∀ tk, Q (.bool b) { s with toks := tk }) :
  wpAny (model X.prog X.w) A (call (.builtin "isinstance") [u, c]) Q E s := by
 cases ty with
 | non => cases (show u = Value.none from rx); exact PySem.W.kia_one PySem.W.kitx_none I.kIn True.intro e (fun z => nomatch z) h
 | bl y => cases (show u = Value.bool y from rx); exact PySem.W.kia_one PySem.W.kitx_bool I.kIn True.intro e (fun z => nomatch z) h
 | int i => obtain ⟨t, q⟩ := (show ∃ t, u = Value.int i t from rx); cases q; exact PySem.W.kia_one PySem.W.kitx_int I.kIn True.intro e (fun z => nomatch z) h
 | str y => obtain ⟨t, q⟩ := (show ∃ t, u = Value.str y t from rx); cases q; exact PySem.W.kia_one PySem.W.kitx_str I.kIn True.intro e (fun z => nomatch z) h
 | flt y => obtain ⟨t, q⟩ := (show ∃ t, u = Value.float y t from rx); cases q; exact PySem.W.kia_one PySem.W.kitx_float I.kIn True.intro e (fun z => nomatch z) h
 | @lst a xs ea =>
  cases (show u = Value.ref a from rx)
  obtain ⟨_, _, n, _, h1⟩ := (show ZbH X.prog X.w H s.heap a (.lst xs) from I.hok a _ ea)
  exact PySem.W.kia_one PySem.W.kitx_list I.kIn ⟨_, h1, rfl⟩ e (fun z => nomatch z) h
 | @frz a ob xs ea =>
  cases (show u = Value.ref a from rx)
  obtain ⟨_, _, _, n, _, h1⟩ := (show ZbH X.prog X.w H s.heap a (.frz ob (.lst xs)) from I.hok a _ ea)
  exact PySem.W.kia_one PySem.W.kitx_list I.kIn ⟨_, h1, rfl⟩ e (fun z => nomatch z) h
 | @tup a xs ea =>
  cases (show u = Value.ref a from rx)
  obtain ⟨_, _, _, p⟩ := (show ZbH X.prog X.w H s.heap a (.tup xs) from I.hok a _ ea)
  obtain ⟨o, h1, h2, _⟩ := p
  exact PySem.W.kia_one PySem.W.kitx_tuple I.kIn ⟨o, h1, h2.1⟩ e (fun z => nomatch z) h
 | @dK a kvs ea =>
  cases (show u = Value.ref a from rx)
  obtain ⟨_, _, vs, _, p⟩ := (show ZbH X.prog X.w H s.heap a (.dK kvs) from I.hok a _ ea)
  obtain ⟨o, es, ep, h1, h2, _⟩ := p
  exact PySem.W.kia_one PySem.W.kitx_dict I.kIn ⟨o, h1, h2.1⟩ e (fun z => nomatch z) h
 | @dT a kvs ea =>
  cases (show u = Value.ref a from rx)
  obtain ⟨_, _, xs, _, o, es, ep, h1, h2, _⟩ := (show ZbH X.prog X.w H s.heap a (.dT kvs) from I.hok a _ ea)
  exact PySem.W.kia_one PySem.W.kitx_dict I.kIn ⟨o, h1, h2.1⟩ e (fun z => nomatch z) h
 | @ins a C dx fs ea cl ha hn htk hm =>
  cases (show u = Value.ref a from rx)
  obtain ⟨mA, O, _⟩ := Zl9 I.hok ea
  obtain ⟨od, J, _⟩ := O.look
  exact PySem.W.kia_one (PySem.W.kitx_own (cl.get _) cl.hd ha hn htk hm) I.kIn J e (fun z => nomatch z) h
end
end L2
namespace L2
open PySem PySem.Spec PyProof.Rows
structure Zc8 (k : Nat) (A : Around) : Prop where
 hd : A.handled = none
 dp : A.depth + 3 * k + 5 < recursionLimit
 un : A.units + 16 * k + 200 < cLine
theorem Zc8.mono {j k : Nat} {A : Around} (r : Zc8 k A) (h : j ≤ k) : Zc8 j A := ⟨r.hd, by have := r.dp; omega, by have := r.un; omega⟩
theorem Zc8.deeper {k : Nat} {A : Around} (r : Zc8 (k + 1) A) (env : Env) : Zc8 k (A.deeper env) :=
 ⟨r.hd, by have := r.dp; show A.depth + 1 + 3 * k + 5 < _; omega, by have := r.un; show A.units + 3 + 16 * k + 200 < _; omega⟩
theorem Zc8.in1 {k : Nat} {A : Around} (r : Zc8 (k + 1) A) : Zc8 k A.in1 :=
 ⟨r.hd, by have := r.dp; show A.depth + 3 * k + 5 < _; omega, by have := r.un; show A.units + 1 + 16 * k + 200 < _; omega⟩
theorem Zc8.depth {k : Nat} {A : Around} (r : Zc8 k A) : A.depth < recursionLimit := by have := r.dp; omega
theorem Zc8.units {k : Nat} {A : Around} (r : Zc8 k A) : A.units + 64 < cLine := by have := r.un; omega
noncomputable def Zpo : TA := fun _ H Q => Q [] H
noncomputable def ZoN (ta : TE) (tr : TA) : TA := fun σ H Q => ta σ H fun x H1 => tr σ H1 fun xs H2 => Q (x :: xs) H2
section
variable {X : Cx} {e : Expr} {es : List Expr} {te : TE} {t : TA} {pos : Pos}
theorem ZkF : PA X [] Zpo := fun _ _ _ _ H Q I h => Calls.spliced_nil ⟨[], H, I, .nil, h⟩
theorem Zhf (ha : PE X e te) (hr : PA X es t) (hs : starEach (e :: es) X.env = (false, eval e X.env) :: starEach es X.env := by rfl) : PA X (e :: es) (ZoN te t) := by
 intro pos pins s σ H Q I h
 rw [hs]
 show wpAny _ _ (spliced ((false, eval e X.env) :: backTo pos (starEach es X.env))) _ _ s
 refine Calls.spliced_cons (thn (ha pins s σ H _ I h) fun u s1 ⟨x, H1, I1, r1, q1⟩ => ?_)
 exact thn (hr pos pins s1 σ H1 _ I1 q1) fun us s2 ⟨xs, H2, I2, r2, q2⟩ => ⟨x :: xs, H2, I2, .cons r1 r2, q2⟩
noncomputable def ZpD (t : TA) : TE := fun σ H Q => t σ H fun xs H1 => xs.length ≤ sizeLine ∧ ∀ p, H1 p = none → Q (.ref p) (upd H1 p (.tup xs))
noncomputable def Zpz (t : TA) : TE := fun σ H Q => t σ H fun xs H1 => xs.length ≤ sizeLine ∧ ∀ p, H1 p = none → Q (.ref p) (upd H1 p (.lst xs))
theorem Zm4 {x1} (h : PA X es t) : PE X (.Tuple es x1 pos) (ZpD t) := by
 intro pins s σ H Q I hq
 refine wpAny_Tuple_spliced (thn (h pos pins s σ H _ I hq) fun us s1 ⟨xs, H1, I1, r, z, q⟩ => ⟨by rw [← r.length]; exact z, ?_⟩)
 have hf : H1 s1.heap.objs.size = none := I1.hok.fresh (Nat.le_refl _)
 refine ⟨.ref s1.heap.objs.size, upd H1 s1.heap.objs.size (.tup xs), I1.laid (t' := s1.toks) (fun b u e => Heap.get?_push_of_some _ e) (Nat.le_refl _) ?_, rfl, q _ hf⟩
 exact ⟨z, us, r, ⟨_, Heap.get?_push_size _ rfl, ⟨rfl, rfl⟩, _, rfl⟩⟩
theorem Znu (h : PA X es t) : PE X (.List es pos) (Zpz t) := by
 intro pins s σ H Q I hq
 refine wpAny_List_spliced (thn (h pos pins s σ H _ I hq) fun us s1 ⟨xs, H1, I1, r, z, q⟩ => ⟨by rw [← r.length]; exact z, ?_⟩)
 have hf : H1 s1.heap.objs.size = none := I1.hok.fresh (Nat.le_refl _)
 refine ⟨.ref s1.heap.objs.size, upd H1 s1.heap.objs.size (.lst xs), I1.laid (t' := s1.toks) (fun b u e => Heap.get?_push_of_some _ e) (Nat.le_refl _) ?_, rfl, q _ hf⟩
 exact ⟨z, us, 0, r, Heap.get?_push_size _ rfl⟩
end
noncomputable abbrev Sp := List V → Hp → VK → XK → Prop
noncomputable abbrev CXT := List Env → Hp → Shared → XK → Value → Shared → Prop
structure ZiP (P : Program) (w : World) (K : PySem.W.Frag) (mg : Str → Option Value) (base : Heap) (A : Around) (outer : List Env) (s : Shared) (H : Hp) : Prop where
 frames : A.frames = some outer
 mod : Mod K mg base
 bs : ∀ b o, base.get? b = some o → s.heap.get? b = some o ∧ H b = none
 bsz : base.objs.size ≤ s.heap.objs.size
 funs : s.heap.FunFrames base outer
 frf : ∀ b ∈ frs outer, H b = none
 hok : HOk P w H s.heap
 bare : AllBare s.gens
noncomputable def CE (outer : List Env) (P : Program) (w : World) (H : Hp) (s : Shared) (Q : VK) (u : Value) (s' : Shared) : Prop :=
 ∃ v H', s'.os = s.os ∧ AllBare s'.gens ∧ Un (frs outer) [] H H' s.heap s'.heap ∧ HOk P w H' s'.heap ∧ RelV v u ∧ Q v H'
noncomputable def CR (CX : CXT) (outer : List Env) (P : Program) (w : World) (H : Hp) (s : Shared) (Q : VK) (E : XK) (r : Result) (s' : Shared) : Prop :=
 match r with
 | .ok (.ret u) => CE outer P w H s Q u s'
 | .ok _ => False
 | .error e => CX outer H s E e s'
structure Ze3 (P : Program) (w : World) (K : PySem.W.Frag) (mg : Str → Option Value) (base : Heap) (CX : CXT) (k : Nat) (f : Addr) (fd : FuncData) (ps : List Str) (sp : Sp) : Prop where
 len : ∀ vs H Q E, sp vs H Q E → vs.length = ps.length
 run : ∀ (A : Around) (outer : List Env) (s : Shared) (H : Hp) (args : Args) (us : List Value) (vs : List V) (Q : VK) (E : XK), Zc8 k A → ZiP P w K mg base A outer s H → BindsTo s fd args (ps.zip us) → Vals vs us → sp vs H Q E →
  codeAny (model P w) A (.call (.ref f) args) (CR CX outer P w H s Q E) s
theorem Ze3.imp {P : Program} {w : World} {K : PySem.W.Frag} {mg : Str → Option Value} {base : Heap} {CX : CXT} {k : Nat} {f : Addr} {fd : FuncData} {ps : List Str} {sp sp' : Sp} (F : Ze3 P w K mg base CX k f fd ps sp)
  (h : ∀ vs H Q E, sp' vs H Q E → sp vs H Q E) : Ze3 P w K mg base CX k f fd ps sp' :=
 ⟨fun vs H Q E q => F.len vs H Q E (h _ _ _ _ q), fun A outer s H args us vs Q E hr he hb hv hs => F.run A outer s H args us vs Q E hr he hb hv (h _ _ _ _ hs)⟩
theorem ZiP.in1 {P : Program} {w : World} {K : PySem.W.Frag} {mg : Str → Option Value} {base : Heap} {A : Around} {outer : List Env} {s : Shared} {H : Hp} (e : ZiP P w K mg base A outer s H) :
  ZiP P w K mg base A.in1 outer s H := ⟨e.frames, e.mod, e.bs, e.bsz, e.funs, e.frf, e.hok, e.bare⟩
section
variable {X : Cx} {pins : List (Addr × Obj)} {σ : St} {H : Hp} {s s' : Shared}
theorem Inv.env0 (I : Inv X pins σ H s) : ZiP X.prog X.w X.K X.mg X.base X.A X.stack s H :=
 ⟨I.ok.frames, I.ok.mod, I.bs, Nat.le_trans I.ok.bsz I.sz, I.stack, I.stkFree, I.hok, I.bare⟩
theorem Inv.after {Q : VK} {u : Value} (I : Inv X pins σ H s) (h : CE X.stack X.prog X.w H s Q u s') : EP X pins σ Q u s' := by
 obtain ⟨v, H', os, bare, un, hok, r, q⟩ := h
 obtain ⟨hh, g, d, t, os'⟩ := s'
 obtain rfl : os' = s.os := os
 exact ⟨v, H', I.call (h' := hh) (g' := g) (d' := d) (t' := t) (ch := []) un hok bare (fun b z => absurd z (by simp)), r, q⟩
end
noncomputable def Zoy (sp : Sp) (dvs : List V) (E : XK) (t : TA) : TE := fun σ H Q => t σ H fun vs H1 => sp (vs ++ dvs) H1 Q E
noncomputable def Binds (K : PySem.W.Frag) (fd : FuncData) (ps : List Str) (ds : List Value) : Prop :=
 ∀ (s : Shared) (us : List Value), K.In s.heap → (us ++ ds).length = ps.length → BindsTo s fd ⟨us, []⟩ (ps.zip (us ++ ds))
theorem Binds.all {K : PySem.W.Frag} {fd : FuncData} {ps : List Str} (h : ∀ us : List Value, us.length = ps.length → bindArgs fd ⟨us, []⟩ = pure (ps.zip us)) : Binds K fd ps [] := fun s us _ hl => by
 rw [List.append_nil] at hl ⊢
 exact .of_eq (h us hl)
noncomputable def Ziq (CX : CXT) (X : Cx) (E : XK) : Prop := ∀ (pins : List (Addr × Obj)) (σ : St) (H : Hp) (s : Shared) (e : Value) (s' : Shared), Inv X pins σ H s → CX X.stack H s E e s' → X.xe e s'
section
variable {X : Cx} {CX : CXT} {k : Nat} {f C : Addr} {fd : FuncData} {ps : List Str} {sp : Sp} {dvs : List V} {ds : List Value} {E : XK} {x m : Str} {p pos apos : Pos} {e o : Expr} {es : List Expr} {ta : TE} {t : TA}
theorem ZmP {pins : List (Addr × Obj)} {σ : St} {H : Hp} {s : Shared} {Q : VK} {us : List Value} {vs : List V} (F : Ze3 X.prog X.w X.K X.mg X.base CX k f fd ps sp) (hr : Zc8 k X.A) (hb : Binds X.K fd ps ds) (hd : Vals dvs ds) (hx : Ziq CX X E)
  (I : Inv X pins σ H s) (r : Vals vs us) (h : sp (vs ++ dvs) H Q E) : wpAny (model X.prog X.w) X.A (call (.ref f) us) (EP X pins σ Q) X.xe s := by
 have r2 : Vals (vs ++ dvs) (us ++ ds) := r.append hd
 have hl : (us ++ ds).length = ps.length := by rw [← r2.length]; exact F.len _ _ _ _ h
 refine wpAny_call (codeAny_mono (F.run X.A X.stack s H ⟨us, []⟩ (us ++ ds) (vs ++ dvs) Q E hr I.env0 (hb s us I.kIn hl) r2 h) fun r s' hq => ?_)
 cases r with
 | error e => exact hx pins σ H s e s' I hq
 | ok fl =>
  cases fl with
  | ret u => exact I.after hq
  | next => exact False.elim hq
  | brk => exact False.elim hq
  | cont => exact False.elim hq
theorem ZlE (F : Ze3 X.prog X.w X.K X.mg X.base CX k f fd ps sp) (hr : Zc8 k X.A) (hg : Gl X x) (hm : X.mg x = some (.ref f)) (hk : PySem.W.keepIn X.K (.ref f) = true) (hb : Binds X.K fd ps ds) (hd : Vals dvs ds) (hx : Ziq CX X E)
  (ha : PA X (e :: es) t) (hdb : (x == ("__debug__" : Str)) = false := by decide) (he : starEach (e :: es) X.env = (false, eval e X.env) :: starEach es X.env := by rfl) (hpl : (backTo pos (starEach es X.env)).any (·.1) = false := by rfl) :
  PE X (.Call (.Name x p) (e :: es) [] pos) (Zoy sp dvs E t) := by
 intro pins s σ H Q I h
 refine wpAny_Call_Name_kw (ZlM I hg hm ?_ hdb)
 refine PySem.W.callWith_K (h₀ := X.base) I.ok.mod.kin hk (thn (ha pos pins s σ H _ I h) fun us s1 ⟨vs, H1, I1, r, q⟩ => ⟨I1.kIn, ?_⟩) he hpl
 exact ZmP F hr hb hd hx I1 r q
end
section
variable {X : Cx} {CX : CXT} {k : Nat} {f C : Addr} {fd : FuncData} {ps ks : List Str} {sp : Sp} {E : XK} {x m : Str} {p pos apos kpos : Pos} {e o : Expr} {es : List Expr} {kws : List Keyword} {te ta : TE} {t tk : TA} {nm : Option Str}
variable {g : List Value → List Value → List Value} {gV : List V → List V → List V}
end
structure Zav (N P : List Str) (sc : Scope) : Prop where
 kind : sc.kind = .function
 co : sc.isCoroutine = false
 gen : sc.isGenerator = false
 nd : N.Nodup
 pre : N.take P.length = P
 par : ∀ x ∈ P, sc.names.lookup x = some .local ∨ sc.names.lookup x = some .cell
 nofree : ∀ y ∈ sc.names, y.2 ≠ .free
theorem ZgR {kindOf : Str → Option NameKind} {x : Str} : ∀ {binds : List (Str × Value)} {m : Str → Option Value}, (∀ v, (x, v) ∉ binds) → bindL kindOf binds m x = m x
 | [], _, _ => rfl
 | (n, v) :: r, m, h => by
  unfold bindL
  rw [ZgR fun w hw => h w (List.mem_cons_of_mem _ hw)]
  split
  ·have : x ≠ n := by rintro rfl; exact h v List.mem_cons_self
   simp [this]
  ·rfl
theorem ZgX {kindOf : Str → Option NameKind} {x : Str} : ∀ {binds : List (Str × Value)} {m : Str → Option Value}, (∀ v, (x, v) ∉ binds) → bindC kindOf binds m x = m x
 | [], _, _ => rfl
 | (n, v) :: r, m, h => by
  unfold bindC
  rw [ZgX fun w hw => h w (List.mem_cons_of_mem _ hw)]
  split
  ·rfl
  ·have : x ≠ n := by rintro rfl; exact h v List.mem_cons_self
   simp [this]
theorem ZgP {kindOf : Str → Option NameKind} {x : Str} {v : Value} : ∀ {P : List Str} {vs : List Value} {i : Nat} {m : Str → Option Value}, P.Nodup → P[i]? = some x → vs[i]? = some v → kindOf x = some .local →
  bindL kindOf (P.zip vs) m x = some v
 | [], _, _, _, _, h, _, _ => by simp at h
 | _ :: _, [], _, _, _, _, h, _ => by simp at h
 | p :: P, w :: vs, 0, m, nd, h1, h2, hk => by
  simp at h1 h2; subst h1; subst h2
  show bindL kindOf ((p, w) :: P.zip vs) m p = _
  unfold bindL
  rw [ZgR fun v hv => (List.nodup_cons.mp nd).1 (List.of_mem_zip hv).1, if_pos hk]
  simp
 | p :: P, w :: vs, i + 1, m, nd, h1, h2, hk => by
  show bindL kindOf ((p, w) :: P.zip vs) m x = _
  unfold bindL
  exact ZgP (i := i) (List.nodup_cons.mp nd).2 (by simpa using h1) (by simpa using h2) hk
theorem ZgV {kindOf : Str → Option NameKind} {x : Str} {v : Value} : ∀ {P : List Str} {vs : List Value} {i : Nat} {m : Str → Option Value}, P.Nodup → P[i]? = some x → vs[i]? = some v → kindOf x ≠ some .local →
  bindC kindOf (P.zip vs) m x = some v
 | [], _, _, _, _, h, _, _ => by simp at h
 | _ :: _, [], _, _, _, _, h, _ => by simp at h
 | p :: P, w :: vs, 0, m, nd, h1, h2, hk => by
  simp at h1 h2; subst h1; subst h2
  show bindC kindOf ((p, w) :: P.zip vs) m p = _
  unfold bindC
  rw [ZgX fun v hv => (List.nodup_cons.mp nd).1 (List.of_mem_zip hv).1, if_neg hk]
  simp
 | p :: P, w :: vs, i + 1, m, nd, h1, h2, hk => by
  show bindC kindOf ((p, w) :: P.zip vs) m x = _
  unfold bindC
  exact ZgV (i := i) (List.nodup_cons.mp nd).2 (by simpa using h1) (by simpa using h2) hk
noncomputable def start (N : List Str) (vs : List V) : St := vs.map some ++ List.replicate (N.length - vs.length) none
noncomputable def ZhJ (CX : CXT) (P : Program) (w : World) (K : PySem.W.Frag) (mg : Str → Option Value) (base : Heap) (N : List Str) (qual : Str) (scope : Scope) (f : Addr) (cd : Value) (A : Around) (outer : List Env) (s : Shared) (H : Hp) (E : XK) : Cx where
 prog := P
 w := w
 K := K
 mg := mg
 base := base
 A := A.deeper (envOfC qual scope s.heap.objs.size f cd)
 N := N
 s₀ := s
 H₀ := H
 env := envOfC qual scope s.heap.objs.size f cd
 outer := outer
 stack := envOfC qual scope s.heap.objs.size f cd :: outer
 ex := []
 calm := true
 fn := fun _ => true
 pn := []
 xe := fun e s' => wpAny (model P w) (A.deeper (envOfC qual scope s.heap.objs.size f cd)) (leaving (envOfC qual scope s.heap.objs.size f cd) e) (fun _ s'' => CX outer H s E e s'') (fun e' s'' => CX outer H s E e' s'') s'
theorem Zif {sc : Scope} {n : Nat} {x : Str} (h : sc.names.lookup x = some .cell) : ∃ c, (cellsFrom n sc.names []).lookup x = some c := by
 have q := PySem.W.cellsFrom_some sc.names n [] (.inl h)
 exact Option.isSome_iff_exists.mp q
theorem ZjK {CX : CXT} {P : Program} {w : World} {K : PySem.W.Frag} {mg : Str → Option Value} {base : Heap} {N ps : List Str} {qual : Str} {scope : Scope} {f : Addr} {cd : Value} {A : Around} {outer : List Env} {s s1 : Shared} {H : Hp} {E : XK} {us : List Value} {vs : List V}
  (S : Zav N ps scope) (hd : A.handled = none) (e0 : ZiP P w K mg base A outer s H) (hl : vs.length = ps.length) (r : Vals vs us)
  (x : InCallC s s.heap.objs.size (bindL (envOfC qual scope s.heap.objs.size f cd).kindOf (ps.zip us) fun _ => none) (cellsFrom (s.heap.objs.size + 1) scope.names []) (bindC (envOfC qual scope s.heap.objs.size f cd).kindOf (ps.zip us) fun _ => none) s1) :
  Inv (ZhJ CX P w K mg base N qual scope f cd A outer s H E) [] (start N vs) H s1 := by
 have hpl : ps.length ≤ N.length := by have := congrArg List.length S.pre; rw [List.length_take] at this; omega
 obtain ⟨h1, tk, rfl, hk⟩ := x.done
 have noA : ∀ b : Addr, b ∉ (ZhJ CX P w K mg base N qual scope f cd A outer s H E).ex := fun b z => absurd (show b ∈ ([] : List Addr) from z) (by simp)
 refine ⟨⟨e0.mod, S.kind, rfl, rfl, Nat.le_refl _, fun y z c h1 h2 => ?_, fun y hy => ?_, fun y c _ h => ?_, fun _ => hd, Around.frames_deeper e0.frames, .inr ⟨rfl, rfl⟩, fun b z => absurd z (noA b), e0.bs, e0.bsz, fun b _ _ => noA b, fun b z => absurd z (noA b), e0.funs, e0.frf⟩,
  rfl, e0.bare, Un.kept hk, ⟨_, x.toInCall.ns, fun i y v h1 h2 h3 => ?_⟩, fun y c h => ⟨_, x.cell y c h⟩, e0.hok.fresh (Nat.le_refl _), fun y c h => ?_, fun p hp => absurd (show p ∈ ([] : List (Addr × Obj)) from hp) (by simp), e0.hok.kept hk, ?_⟩
 ·exact name_of_addr x.apart (PySem.mem_of_lookup h1) (PySem.mem_of_lookup h2)
 ·have hy : scope.names.lookup y = some .cell ∨ scope.names.lookup y = some .free := hy
  rcases hy with hy | hy
  ·exact Zif hy
  ·exact absurd rfl (S.nofree _ (PySem.mem_of_lookup hy))
 ·exact Nat.le_of_lt (x.above y c (PySem.mem_of_lookup h))
 ·have hi : i < vs.length := by
   unfold start at h2
   by_cases hi : i < vs.length
   ·exact hi
   ·rw [List.getElem?_append_right (by simpa using hi)] at h2
    rw [List.getElem?_replicate] at h2
    split at h2 <;> cases h2
  have ha : vs[i]? = some v := by
   unfold start at h2
   rw [List.getElem?_append_left (by simpa using hi), List.getElem?_map] at h2
   cases e : vs[i]? with
   | none => rw [e] at h2; cases h2
   | some a => rw [e] at h2; cases h2; rfl
  obtain ⟨u, hu, rv⟩ := r.get ha
  have hp : ps[i]? = some y := by
   rw [← S.pre, List.getElem?_take_of_lt (by omega)]; exact h1
  have ndP : ps.Nodup := by rw [← S.pre]; exact S.nd.sublist (List.take_sublist _ _)
  refine ⟨u, rv, ?_⟩
  rcases S.par y (List.mem_of_getElem? hp) with k | k
  ·exact .inl ⟨k, ZgP ndP hp hu k⟩
  ·obtain ⟨c, e⟩ := Zif (n := s.heap.objs.size + 1) k
   refine .inr ⟨.inl k, c, e, ?_⟩
   have q := x.cell y c e
   rw [ZgV ndP hp hu (by show scope.names.lookup y ≠ _; rw [k]; decide)] at q
   exact q
 ·exact e0.hok.fresh (Nat.le_of_lt (x.above y c (PySem.mem_of_lookup h)))
 ·unfold start
  show _ = N.length
  rw [List.length_append, List.length_map, List.length_replicate]
  omega
theorem ZoF {CX : CXT} {P : Program} {w : World} {K : PySem.W.Frag} {mg : Str → Option Value} {base : Heap} {k : Nat} {f : Addr} {name qual : Str} {params : Arguments} {body : List Stmt} {scope : Scope} {dV kV doc pm cdv ct oc : Value} {an od : Option Addr}
  {osl : Array (Option Value)} {N ps : List Str} {sp : Sp} (lk : K.lookup f = some ⟨oc, od, .func (PySem.W.fnOf name qual params body scope dV kV doc pm an cdv ct), osl⟩) (hcd : PySem.W.codeIn K cdv qual = true) (S : Zav N ps scope)
  (len : ∀ vs H Q E, sp vs H Q E → vs.length = ps.length)
  (hbody : ∀ (A : Around) (outer : List Env) (s : Shared) (H : Hp) (vs : List V) (Q : VK) (E : XK), Zc8 k (A.deeper (envOfC qual scope s.heap.objs.size f cdv)) → sp vs H Q E →
   ∃ t, PSs (ZhJ CX P w K mg base N qual scope f cdv A outer s H E) body t ∧ t { nx := fun _ H' => Q .non H', rt := Q } (start N vs) H) :
  Ze3 P w K mg base CX (k + 1) f (PySem.W.fnOf name qual params body scope dV kV doc pm an cdv ct) ps sp := by
 refine ⟨len, fun A outer s H args us vs Q E hr e0 hb r hsp => ?_⟩
 have hl := len _ _ _ _ hsp
 have KX : K.In s.heap := e0.mod.kin.keeps fun b o e => (e0.bs b o e).1
 have lim : s.heap.NoLimit := e0.mod.nolimit.keeps fun b o e => (e0.bs b o e).1
 have hkind : ∀ y ∈ ps.zip us, scope.names.lookup y.1 = some .local ∨ (scope.names.lookup y.1 = some .cell ∧ ((cellsFrom (s.heap.objs.size + 1) scope.names []).lookup y.1).isSome = true) := fun ⟨n, v⟩ hy => by
  rcases S.par n (List.of_mem_zip hy).1 with q | q
  ·exact .inl q
  ·exact .inr ⟨q, PySem.W.cellsFrom_some _ _ _ (.inl q)⟩
 refine codeAny_call_function hr.depth (KX _ _ lk) rfl S.co S.gen rfl (PySem.W.codeRec_of KX hcd) (hb _ _ _ _ ?_)
 refine wpAny_newFunctionEnv_cells S.kind hkind fun env he s1 x => ?_
 subst he
 refine ⟨lim.keeps x.toInCall.keep, codeAny_func ?_⟩
 obtain ⟨t, ht, hq⟩ := hbody A outer s H vs Q E (hr.deeper _) hsp
 have I : Inv (ZhJ CX P w K mg base N qual scope f cdv A outer s H E) [] (start N vs) H s1 := ZjK S hr.hd e0 hl r x
 refine wpAny_mono (ht [] s1 (start N vs) H _ I hq) (fun fl s' hs => ?_) fun e s' hs => hs
 have fin : ∀ {σ' : St} {H' : Hp} {v : V} {u : Value}, Inv (ZhJ CX P w K mg base N qual scope f cdv A outer s H E) [] σ' H' s' → RelV v u → Q v H' → CE outer P w H s Q u s' :=
  fun {σ' H' v u} J rv q => ⟨v, H', J.os, J.bare, J.base, J.hok, rv, q⟩
 cases fl with
 | ret u =>
  obtain ⟨v, σ', H', J, rv, q⟩ := hs
  exact fin J rv q
 | next =>
  obtain ⟨σ', H', J, q⟩ := hs
  exact fin (v := V.non) (u := Value.none) J rfl q
 | brk =>
  obtain ⟨_, _, _, q⟩ := hs
  exact False.elim q
 | cont =>
  obtain ⟨_, _, _, q⟩ := hs
  exact False.elim q
end L2
namespace L2
open PySem PySem.Spec PyProof.Rows
section
variable {X : Cx} {x : Str} {p pos : Pos} {e : Expr} {es : List Expr} {t : TA} {id T : String} {r : List V → Hp → VK → Prop}
noncomputable def tCB (r : List V → Hp → VK → Prop) (t : TA) : TE := fun σ H Q => t σ H fun vs H1 => r vs H1 Q
theorem ZhE (hc : ZbG X (.builtin id) r) (hg : Gl X x) (hm : X.mg x = none) (hv : bootBuiltins x = some (.builtin id)) (ha : PA X (e :: es) t) (hn : x ≠ "__name__" := by decide) (hdb : (x == ("__debug__" : Str)) = false := by decide)
  (he : starEach (e :: es) X.env = (false, eval e X.env) :: starEach es X.env := by rfl) (hpl : (backTo pos (starEach es X.env)).any (·.1) = false := by rfl) : PE X (.Call (.Name x p) (e :: es) [] pos) (tCB r t) := by
 intro pins s σ H Q I h
 refine wpAny_Call_Name_kw (ZeB I hg hm hv ?_ hn hdb)
 exact PyProof.Rows.callWith_builtin1 (thn (ha pos pins s σ H _ I h) fun us s1 ⟨vs, H1, I1, r1, q1⟩ => hc pins s1 σ H1 vs us Q I1 r1 q1) he hpl
theorem Zjw (hc : ZbG X (.type T) r) (hg : Gl X x) (hm : X.mg x = none) (hv : bootBuiltins x = some (.type T)) (ha : PA X (e :: es) t) (hn : x ≠ "__name__" := by decide) (hdb : (x == ("__debug__" : Str)) = false := by decide)
  (he : starEach (e :: es) X.env = (false, eval e X.env) :: starEach es X.env := by rfl) (hpl : (backTo pos (starEach es X.env)).any (·.1) = false := by rfl) : PE X (.Call (.Name x p) (e :: es) [] pos) (tCB r t) := by
 intro pins s σ H Q I h
 refine wpAny_Call_Name_kw (ZeB I hg hm hv ?_ hn hdb)
 exact PyProof.Rows.callWith_type1 (thn (ha pos pins s σ H _ I h) fun us s1 ⟨vs, H1, I1, r1, q1⟩ => hc pins s1 σ H1 vs us Q I1 r1 q1) he hpl
end
end L2
namespace HT
open PySem PyProof.Rows
section
open PySem.SeqAt
open PySem.AutoSeq1 (wpAny_loadPart')
open PySem.MeetsSeq PySem.MeetsSeq2 PySem.MeetsSeq3
end
section
variable {prog : Program} {w : World} {A : Around} {E : Value → Shared → Prop} {s : Shared}
theorem cat_tup {t b : Addr} {vs ws : List Value} {Q : Value → Shared → Prop} (ht : IsTup s.heap t vs.toArray) (hb : IsTup s.heap b ws.toArray) (hv : vs ≠ [])
  (h1 : ws = [] → Q (.ref t) s) (h2 : ws ≠ [] → Q (.ref s.heap.objs.size) { s with heap := s.heap.push { cls := .type "tuple", data := .seq (vs ++ ws).toArray } })
  (hsz : vs.length + ws.length ≤ sizeLine) : wpAny (model prog w) A (binaryOp .Add (.ref t) (.ref b)) Q E s := by
 obtain ⟨⟨cls, dd, data, sl⟩, ho, hc, n, hd⟩ := id ht
 obtain ⟨⟨cls2, dd2, data2, sl2⟩, ho2, hc2, n2, hd2⟩ := id hb
 simp only at hc hd hc2 hd2
 subst hc hd hc2 hd2
 have e : vs.toArray ++ ws.toArray = (vs ++ ws).toArray := by simp
 by_cases hw : ws = []
 ·exact concat_meets ⟨_, ho, rfl⟩ ⟨_, ho2, rfl⟩ noFill_tuple_add seq_tuple_add PySem.F.slot_tuple_add PySem.F.entry_tuple_add (PySem.F.args_tuple_add_2 _ _)
   (tuple_addW1 t b vs.toArray ws.toArray n n2 dd dd2 sl sl2 (by simpa using hv) (by simp [hw])) ⟨ho, ho2, h1 hw⟩
 ·refine concat_meets ⟨_, ho, rfl⟩ ⟨_, ho2, rfl⟩ noFill_tuple_add seq_tuple_add PySem.F.slot_tuple_add PySem.F.entry_tuple_add (PySem.F.args_tuple_add_2 _ _)
   (tuple_addW2 t b vs.toArray ws.toArray n n2 dd dd2 sl sl2 (by simpa using hv) (by simpa using hw) (by rw [List.size_toArray, List.size_toArray]; exact hsz)) ⟨ho, ho2, ?_⟩
  rw [e]
  exact h2 hw
noncomputable def sIx (n d : Nat) : Option Int → Nat
 | none => d
 | some v => if v < 0 then (v + (n : Int)).toNat else min v.toNat n
theorem ZfU (n d : Nat) : sIx n d none = d := rfl
theorem ZeV (n d k : Nat) : sIx n d (some (k : Int)) = min k n := by
 show (if (k : Int) < 0 then ((k : Int) + (n : Int)).toNat else min (k : Int).toNat n) = min k n
 rw [if_neg (by omega), Int.toNat_natCast]
theorem Zg4 (n d : Nat) (hd : d ≤ n) (o : Option Int) : sIx n d o ≤ n := by
 cases o with
 | none => exact hd
 | some v =>
  show (if v < 0 then (v + (n : Int)).toNat else min v.toNat n) ≤ n
  by_cases hv : v < 0
  ·rw [if_pos hv]; omega
  ·rw [if_neg hv]; exact Nat.min_le_right _ _
theorem Zi9 (v : Int) (n d : Nat) : (if v < 0 then max (v + (n : Int)) 0 else min v (n : Int)) = ((sIx n d (some v) : Nat) : Int) := by
 show (if v < 0 then max (v + (n : Int)) 0 else min v (n : Int)) = (((if v < 0 then (v + (n : Int)).toNat else min v.toNat n) : Nat) : Int)
 by_cases hv : v < 0
 ·simp only [if_pos hv]; omega
 ·simp only [if_neg hv]; omega
theorem ZiF (lo hi : Option Int) (n : Nat) : Builtin.Slice.sliceAdjust lo hi 1 (n : Int) = (((sIx n 0 lo : Nat) : Int), ((sIx n n hi : Nat) : Int)) := by
 have h1 : ¬ ((1 : Int) < 0) := by omega
 unfold Builtin.Slice.sliceAdjust
 simp only [h1, if_false]
 refine Prod.ext ?_ ?_
 ·cases lo with
  | none => rfl
  | some v => exact Zi9 v n 0
 ·cases hi with
  | none => rfl
  | some v => exact Zi9 v n n
theorem Zio (i j : Nat) : Builtin.Slice.slicePlaces (i : Int) (j : Int) 1 = j - i := by
 unfold Builtin.Slice.slicePlaces
 have h1 : (1 : Int) > 0 := by omega
 simp only [h1, if_true, Int.ediv_one]
 split <;> omega
theorem Zf3 {v : Value} {o : Option Int} {Q : Option Int → Shared → Prop} (p : IsPart v o) (h : Q o s) : wpAny (model prog w) A (Builtin.Slice.slicePartIndex v) Q E s := by
 cases p with
 | none => exact slicePart_none h
 | int i t => exact slicePart_int h
theorem sliceApplied_gen {sl : Addr} {vl vu : Value} {lo hi : Option Int} {n : Nat} {Q : Int × Int × Nat → Shared → Prop} (hs : s.heap.IsSliceOf sl vl vu .none) (pl : IsPart vl lo) (pu : IsPart vu hi)
  (h : Q (((sIx n 0 lo : Nat) : Int), 1, sIx n n hi - sIx n 0 lo) s) : wpAny (model prog w) A (Builtin.Slice.sliceApplied (.ref sl) (pure (n : Int))) Q E s := by
 obtain ⟨os, hos, hcs, hds⟩ := id hs
 unfold Builtin.Slice.sliceApplied Builtin.Slice.sliceFields
 refine wpAny_bind (wpAny_bind (wpAny_field hos hds (x := vl) rfl (wpAny_bind (wpAny_field hos hds (x := vu) rfl (wpAny_bind (wpAny_field hos hds (x := .none) rfl (wpAny_pure ?_)))))))
 refine wpAny_bind (slicePart_none ?_)
 show wpAny _ _ (if ((1 : Int) == 0) = true then _ else _) _ _ s
 rw [if_neg (by decide)]
 refine wpAny_bind (Zf3 pl (wpAny_bind (Zf3 pu (wpAny_bind (wpAny_pure ?_)))))
 show wpAny _ _ (match Builtin.Slice.sliceAdjust lo hi 1 (n : Int) with | (lo, hi) => pure (lo, (1 : Int), Builtin.Slice.slicePlaces lo hi 1)) _ _ s
 rw [ZiF lo hi n]
 show wpAny _ _ (pure (((sIx n 0 lo : Nat) : Int), (1 : Int), Builtin.Slice.slicePlaces ((sIx n 0 lo : Nat) : Int) ((sIx n n hi : Nat) : Int) 1)) _ _ s
 rw [Zio]
 exact wpAny_pure h
theorem ZkG (xs : Array Value) (i k : Nat) : ((List.range k).filterMap fun (m : Nat) => xs[((i : Int) + (m : Int) * 1).toNat]?).toArray = ((xs.toList.drop i).take k).toArray := by
 have e : (fun (m : Nat) => xs[((i : Int) + (m : Int) * 1).toNat]?) = fun m => xs[i + m]? := by
  funext m
  have : ((i : Int) + (m : Int) * 1).toNat = i + m := by omega
  rw [this]
 rw [e]
 have := pick_run xs i k
 rw [List.filterMap_map] at this
 have e2 : ((fun x => xs[x]?) ∘ fun x => i + x) = fun m => xs[i + m]? := rfl
 rw [e2] at this
 rw [this]
theorem getItem_tuple_cut {t sl : Addr} {items : Array Value} {vl vu : Value} {lo hi : Option Int} {Q : Value → Shared → Prop} (ht : IsTup s.heap t items) (hs : s.heap.IsSliceOf sl vl vu .none) (pl : IsPart vl lo) (pu : IsPart vu hi)
  (hw : ¬ (sIx items.size 0 lo = 0 ∧ sIx items.size items.size hi = items.size))
  (h : Q (.ref s.heap.objs.size) { s with heap := s.heap.push { cls := .type "tuple", data := .seq ((items.toList.drop (sIx items.size 0 lo)).take (sIx items.size items.size hi - sIx items.size 0 lo)).toArray } })
  (hsz : items.size ≤ sizeLine) : wpAny (model prog w) A (getItem (.ref t) (.ref sl)) Q E s := by
 have htake : sizeOk (.seq ((items.toList.drop (sIx items.size 0 lo)).take (sIx items.size items.size hi - sIx items.size 0 lo)).toArray) := by
  show ((items.toList.drop (sIx items.size 0 lo)).take (sIx items.size items.size hi - sIx items.size 0 lo)).toArray.size ≤ sizeLine
  rw [List.size_toArray, List.length_take, List.length_drop, Array.length_toList]
  omega
 have hj : sIx items.size items.size hi ≤ items.size := Zg4 _ _ (Nat.le_refl _) hi
 obtain ⟨os, hos, hcs, hds⟩ := id hs
 have hTs : s.TypeIs (.ref sl) "slice" := ⟨os, hos, hcs⟩
 unfold getItem
 try with_reducible refine wpAny_holding ?_
 first | refine wpAny_bind (wpAny_pure ?_) | skip
 refine wpAny_bind (wpAny_sequenceKey ht.typeIs (by decide) ?_)
 refine wpAny_bind (wpAny_callSpecial?_slot (name := Str.ofString "__getitem__") ht.typeIs PyProof.Rows.slot_tuple_getitem
  (wpAny_call_entry PyProof.Rows.slot_tuple_getitem ht.typeIs entry_tuple_getitem ?_ (args_tuple_getitem _ _)))
 show wpAny _ _ (Builtin.Tuple.tupleItemsOf (.ref t) >>= _) _ _ s
 refine wpAny_bind (tupleItemsOf_ ht ?_)
 refine wpAny_bind (wpAny_typeOf hTs ?_)
 rw [if_pos (by decide)]
 refine wpAny_bind (sliceApplied_gen hs pl pu ?_)
 have hno : ¬ ((((sIx items.size 0 lo : Nat) : Int) == 0 && (1 : Int) == 1 && (sIx items.size items.size hi - sIx items.size 0 lo) == items.size) = true) := by
  intro q
  rw [Bool.and_eq_true, Bool.and_eq_true] at q
  have q1 : ((sIx items.size 0 lo : Nat) : Int) = 0 := eq_of_beq q.1.1
  have q2 : sIx items.size items.size hi - sIx items.size 0 lo = items.size := eq_of_beq q.2
  exact hw ⟨by omega, by omega⟩
 show wpAny _ _ (if (((sIx items.size 0 lo : Nat) : Int) == 0 && (1 : Int) == 1 && (sIx items.size items.size hi - sIx items.size 0 lo) == items.size) = true then _ else _) _ _ s
 rw [if_neg hno, ZkG]
 first
  | exact wpAny_bind (m := Builtin.Tuple.tupleExact _) (wpAny_newObj_type (wpAny_pure ⟨_, rfl, wpAny_pure h⟩) htake)
  | exact wpAny_bind (m := Builtin.Tuple.tupleExact _) (wpAny_newObj_type (wpAny_bind (wpAny_pure (wpAny_pure ⟨_, rfl, wpAny_pure h⟩))) htake)
  | exact wpAny_bind (wpAny_bind (m := Builtin.Tuple.tupleExact _) (wpAny_newObj_type (wpAny_pure (wpAny_pure ⟨_, rfl, wpAny_pure h⟩)) htake))
  | exact wpAny_bind (wpAny_bind (m := Builtin.Tuple.tupleExact _) (wpAny_newObj_type (wpAny_pure ⟨_, rfl, wpAny_pure h⟩) htake))
end
end HT
namespace L2
open PySem PySem.Spec PyProof.Rows
noncomputable abbrev TO := St → Hp → (Option Int → Hp → Prop) → Prop
noncomputable def PO (X : Cx) (e : Option Expr) (t : TO) : Prop :=
 ∀ (pins : List (Addr × Obj)) (s : Shared) (σ : St) (H : Hp) (Q : Option Int → Hp → Prop), Inv X pins σ H s → t σ H Q →
  wpAny (model X.prog X.w) X.A (evalPart e X.env) (fun u s' => ∃ o H', Inv X pins σ H' s' ∧ IsPart u o ∧ Q o H') X.xe s
noncomputable def ZlV : TO := fun _ H Q => Q none H
noncomputable def Zoz (t : TE) : TO := fun σ H Q => t σ H fun x H1 => ∃ i, x = .int i ∧ Q (some i) H1
section
variable {X : Cx} {e : Expr} {te : TE} {lo hi : Option Expr} {tl th : TO} {pos p2 : Pos}
theorem Zl6 : PO X none ZlV := by
 intro pins s σ H Q I h
 rw [evalPart_none]
 exact wpAny_pure ⟨none, H, I, .none, h⟩
theorem ZlW (h : PE X e te) : PO X (some e) (Zoz te) := by
 intro pins s σ H Q I hw
 rw [evalPart_some]
 refine thn (h pins s σ H _ I hw) fun u s1 ⟨x, H1, I1, r1, q1⟩ => ?_
 obtain ⟨i, rfl, q⟩ := q1
 obtain ⟨t, rfl⟩ := r1
 exact ⟨some i, H1, I1, .int i t, q⟩
noncomputable def SlR (X : Cx) (r : V → Option Int → Option Int → Hp → VK → Prop) : Prop :=
 ∀ (pins : List (Addr × Obj)) (s : Shared) (σ : St) (H : Hp) (x : V) (v vl vu : Value) (lo hi : Option Int) (sl : Addr) (Q : VK), Inv X pins σ H s → RelV x v → s.heap.IsSliceOf sl vl vu .none → IsPart vl lo → IsPart vu hi → r x lo hi H Q →
  ∃ T id, typeLookup (.type T) "__getitem__" = pure (some (.builtin id)) ∧ s.TypeIs v T ∧ wpAny (model X.prog X.w) X.A (getItem v (.ref sl)) (EP X pins σ Q) X.xe s
theorem SlR.or {r r' : V → Option Int → Option Int → Hp → VK → Prop} (h : SlR X r) (h' : SlR X r') : SlR X (fun x lo hi H Q => r x lo hi H Q ∨ r' x lo hi H Q) := by
 intro pins s σ H x v vl vu lo hi sl Q I rx hs pl pu q
 rcases q with q | q
 ·exact h pins s σ H x v vl vu lo hi sl Q I rx hs pl pu q
 ·exact h' pins s σ H x v vl vu lo hi sl Q I rx hs pl pu q
noncomputable def tSl (r : V → Option Int → Option Int → Hp → VK → Prop) (te : TE) (tl th : TO) : TE := fun σ H Q => te σ H fun x H1 => tl σ H1 fun l H2 => th σ H2 fun u H3 => r x l u H3 Q
theorem ZkX {r : V → Option Int → Option Int → Hp → VK → Prop} (hr : SlR X r) (he : PE X e te) (hl : PO X lo tl) (hu : PO X hi th) : PE X (.Subscript e (.Slice lo hi none p2) pos) (tSl r te tl th) := by
 intro pins s σ H Q I h
 refine Subscript_ (thn (he pins s σ H _ I h) fun v s1 ⟨x, H1, I1, r1, q1⟩ => ?_)
 refine wpAny_Slice (thn (hl pins s1 σ H1 _ I1 q1) fun vl s2 ⟨l, H2, I2, pl, q2⟩ => thn (hu pins s2 σ H2 _ I2 q2) fun vu s3 ⟨u, H3, I3, pu, q3⟩ => ?_)
 rw [evalPart_none]
 refine wpAny_pure ?_
 have I4 : Inv X pins σ H3 { s3 with heap := s3.heap.push { cls := .type "slice", data := .fields #[vl, vu, .none] } } := I3.kept (t' := s3.toks) fun b ob q => Heap.get?_push_of_some _ q
 obtain ⟨T, id, hT, ht, hg⟩ := hr pins { s3 with heap := s3.heap.push { cls := .type "slice", data := .fields #[vl, vu, .none] } } σ H3 x v vl vu l u s3.heap.objs.size Q I4 r1 (Heap.IsSliceOf.new ..) pl pu q3
 show wpAny (model X.prog X.w) X.A (subscriptTail e (.Slice lo hi none p2) v (.ref s3.heap.objs.size)) (EP X pins σ Q) X.xe { s3 with heap := s3.heap.push { cls := .type "slice", data := .fields #[vl, vu, .none] } }
 exact tail_any (ops := [.ref s3.heap.objs.size, v]) ht hT hg (by with_unfolding_all rfl)
noncomputable def ZhN (xs : List V) (lo hi : Option Int) : List V := (xs.drop (HT.sIx xs.length 0 lo)).take (HT.sIx xs.length xs.length hi - HT.sIx xs.length 0 lo)
theorem Zfv (xs : List V) (lo hi : Option Int) : (ZhN xs lo hi).length ≤ xs.length := by
 unfold ZhN
 rw [List.length_take, List.length_drop]
 omega
noncomputable def Zpc (K : PySem.W.Frag) : V → Option Int → Option Int → Hp → VK → Prop := fun x lo hi H Q => ∃ a xs, x = .ref a ∧ SqT K H a xs ∧
 ¬ (HT.sIx xs.length 0 lo = 0 ∧ HT.sIx xs.length xs.length hi = xs.length) ∧ ∀ p, H p = none → Q (.ref p) (upd H p (.tup (ZhN xs lo hi)))
theorem ZmV : SlR X (Zpc X.K) := by
 intro pins s σ H x v vl vu lo hi sl Q I rx hs pl pu h
 obtain ⟨a, xs, rfl, hx, hw, q⟩ := h
 cases rx
 obtain ⟨its, r, ht, hz⟩ := I.tuple hx
 have hlen : its.toArray.size = xs.length := by rw [List.size_toArray]; exact r.length.symm
 refine ⟨"tuple", _, PyProof.Rows.slot_tuple_getitem.lookup, ht.typeIs, ?_⟩
 refine HT.getItem_tuple_cut ht hs pl pu (by rw [hlen]; exact hw) ?_ (by rw [hlen]; exact hz)
 rw [hlen]
 refine ⟨.ref s.heap.objs.size, _, I.laid (t' := s.toks) (o := .tup (ZhN xs lo hi)) (fun b ob q => Heap.get?_push_of_some _ q) (Nat.le_refl _) ?_, rfl, q _ (I.hok.fresh (Nat.le_refl _))⟩
 exact ⟨Nat.le_trans (Zfv xs lo hi) hz, _, (r.drop (HT.sIx xs.length 0 lo)).take (HT.sIx xs.length xs.length hi - HT.sIx xs.length 0 lo), Zc6.new _ _⟩
noncomputable def Zn8 (K : PySem.W.Frag) : R2 := fun x y H Q => ∃ a b xs ys, x = .ref a ∧ y = .ref b ∧ SqT K H a xs ∧ SqT K H b ys ∧ xs ≠ [] ∧ xs.length + ys.length ≤ sizeLine ∧
 (ys = [] → Q (.ref a) H) ∧ (ys ≠ [] → ∀ p, H p = none → Q (.ref p) (upd H p (.tup (xs ++ ys))))
theorem Vals.nil_iff {xs : List V} {us : List Value} (r : Vals xs us) : us = [] ↔ xs = [] := by
 cases r with
 | nil => simp
 | cons _ _ => simp
theorem ZlP : OpR X (binaryOp .Add) (Zn8 X.K) := by
 intro pins s σ H x y v u Q I rx ry h
 obtain ⟨a, b, xs, ys, rfl, rfl, ha, hb, hx, hz, q1, q2⟩ := h
 cases rx
 cases ry
 obtain ⟨its, r1, p1, _⟩ := I.tuple ha
 obtain ⟨its2, r2, p2, _⟩ := I.tuple hb
 refine HT.cat_tup p1 p2 (fun z => hx (r1.nil_iff.mp z)) (fun z => ⟨.ref a, H, I, rfl, q1 (r2.nil_iff.mp z)⟩) (fun z => ?_) (by rw [← r1.length, ← r2.length]; exact hz)
 refine ⟨.ref s.heap.objs.size, _, I.laid (t' := s.toks) (o := .tup (xs ++ ys)) (fun b ob q => Heap.get?_push_of_some _ q) (Nat.le_refl _) ?_, rfl, q2 (fun w => z (r2.nil_iff.mpr w)) _ (I.hok.fresh (Nat.le_refl _))⟩
 exact ⟨by rw [List.length_append]; exact hz, _, r1.append r2, Zc6.new _ _⟩
end
end L2
namespace L2
open PySem PySem.Spec PyProof.Rows
noncomputable def ixN (n : Nat) (i : Int) : Option Nat := if 0 ≤ i then (if i < n then some i.toNat else none) else if -(n : Int) ≤ i then some (i + n).toNat else none
noncomputable def atI {α : Type} (xs : List α) (i : Int) : Option α := (ixN xs.length i).bind fun j => xs[j]?
theorem ZiR {n : Nat} {i : Int} {j : Nat} (h : ixN n i = some j) : seqIndex? i n = some j ∧ j < n ∧ -(n : Int) ≤ i ∧ i < n := by
 unfold ixN at h
 by_cases h0 : 0 ≤ i
 ·rw [if_pos h0] at h
  by_cases h1 : i < n
  ·rw [if_pos h1] at h
   have e : i.toNat = j := Option.some.inj h
   exact ⟨by rw [seqIndex_of h0 h1, e], by omega, by omega, h1⟩
  ·rw [if_neg h1] at h; cases h
 ·rw [if_neg h0] at h
  by_cases h1 : -(n : Int) ≤ i
  ·rw [if_pos h1] at h
   have e : (i + n).toNat = j := Option.some.inj h
   exact ⟨by rw [seqIndex_neg (by omega) h1, e], by omega, h1, by omega⟩
  ·rw [if_neg h1] at h; cases h
theorem Zg9 {α : Type} {xs : List α} {i : Int} {v : α} (h : atI xs i = some v) : ∃ j, seqIndex? i xs.length = some j ∧ xs[j]? = some v ∧ j < xs.length ∧ -(xs.length : Int) ≤ i ∧ i < xs.length := by
 unfold atI at h
 cases e : ixN xs.length i with
 | none => rw [e] at h; cases h
 | some j =>
  rw [e] at h
  obtain ⟨h1, h2, h3, h4⟩ := ZiR e
  exact ⟨j, h1, h, h2, h3, h4⟩
noncomputable def Zji (b : Expr) : Prop := ∀ o i, subscripted b false o i = operate [o, i] (getItem o i)
noncomputable def IxR (X : Cx) (r : R2) : Prop :=
 ∀ (value slice : Expr) (pins : List (Addr × Obj)) (s : Shared) (σ : St) (H : Hp) (x y : V) (v u : Value) (Q : VK), Inv X pins σ H s → RelV x v → RelV y u → r x y H Q →
  subscripted slice false v u = operate [v, u] (getItem v u) → wpAny (model X.prog X.w) X.A (subscriptTail value slice v u) (EP X pins σ Q) X.xe s
noncomputable def MtR (X : Cx) (id : String) (r : V → List V → Hp → VK → Prop) : Prop :=
 ∀ (pins : List (Addr × Obj)) (s : Shared) (σ : St) (H : Hp) (x : V) (xs : List V) (v : Value) (us : List Value) (Q : VK), Inv X pins σ H s → RelV x v → Vals xs us → r x xs H Q →
  wpAny (model X.prog X.w) X.A (call (.builtin id) (v :: us)) (EP X pins σ Q) X.xe s
section
variable {X : Cx} {a b : Expr} {ta tb : TE} {pos : Pos}
theorem IxR.or {r r' : R2} (h : IxR X r) (h' : IxR X r') : IxR X (fun x y H Q => r x y H Q ∨ r' x y H Q) := by
 intro value slice pins s σ H x y v u Q I rx ry q hs
 rcases q with q | q
 ·exact h value slice pins s σ H x y v u Q I rx ry q hs
 ·exact h' value slice pins s σ H x y v u Q I rx ry q hs
theorem Zoo {r : R2} (hr : IxR X r) (ha : PE X a ta) (hb : PE X b tb) (hs : Zji b) : PE X (.Subscript a b pos) (tOp r ta tb) := by
 intro pins s σ H Q I h
 exact Subscript_ (Znb ha hb I h fun v u s2 x y H2 I2 rx ry q => hr a b pins s2 σ H2 x y v u Q I2 rx ry q (hs _ _))
noncomputable def ZoG (K : PySem.W.Frag) : R2 := fun x y H Q => ∃ p xs i v, x = .ref p ∧ y = .int i ∧ SqL K H p xs ∧ atI xs i = some v ∧ Q v H
noncomputable def Zox (K : PySem.W.Frag) : R2 := fun x y H Q => ∃ p xs i v, x = .ref p ∧ y = .int i ∧ SqT K H p xs ∧ atI xs i = some v ∧ Q v H
noncomputable def Zn4 : R2 := fun x y H Q => ∃ z i c, x = .str z ∧ y = .int i ∧ z.length ≤ sizeLine ∧ atI z.cps.toList i = some c ∧ Q (.str ⟨#[c]⟩) H
theorem ZlK : IxR X (ZoG X.K) := by
 intro value slice pins s σ H x y v u Q I rx ry h hs
 obtain ⟨p, xs, i, z, rfl, rfl, hq, he, q⟩ := h
 cases rx
 obtain ⟨t, rfl⟩ := ry
 obtain ⟨its, r, pl, hz⟩ := I.list hq
 obtain ⟨j, h1, h2, h3, h4, h5⟩ := Zg9 he
 obtain ⟨w, ew, rw'⟩ := r.get h2
 have hl := r.length
 have hn := Zf5
 have fin : EP X pins σ Q w s := ⟨z, H, I, rw', q⟩
 by_cases h0 : 0 ≤ i
 ·have hj : i.toNat = j := by
   rw [seqIndex_of h0 h5] at h1
   exact Option.some.inj h1
  exact item_listR pl.isList h0 (by omega) (by rw [hj]; simpa using ew) fin hs
 ·have hj : (i + (its.toArray.size : Int)).toNat = j := by
   rw [seqIndex_neg (by omega) h4] at h1
   rw [List.size_toArray, ← hl]
   exact Option.some.inj h1
  exact subscriptTail_builtinR (x := w) pl.isList.typeIs slot_list_getitem.lookup
   (wpAny_getItem_list_neg (Q := fun r s' => r = w ∧ EP X pins σ Q r s') pl.isList (by omega) (by rw [List.size_toArray] <;> omega) (by omega) (by rw [hj]; simpa using ew) ⟨rfl, fin⟩) hs
theorem ZmO : IxR X (Zox X.K) := by
 intro value slice pins s σ H x y v u Q I rx ry h hs
 obtain ⟨p, xs, i, z, rfl, rfl, hq, he, q⟩ := h
 cases rx
 obtain ⟨t, rfl⟩ := ry
 obtain ⟨its, r, pl, hz⟩ := I.tuple hq
 obtain ⟨j, h1, h2, h3, h4, h5⟩ := Zg9 he
 obtain ⟨w, ew, rw'⟩ := r.get h2
 have hl := r.length
 have hn := Zf5
 have fin : EP X pins σ Q w s := ⟨z, H, I, rw', q⟩
 exact subscriptTail_builtinR (x := w) pl.typeIs slot_tuple_getitem.lookup
  (getItem_tuple (j := j) (Q := fun r s' => r = w ∧ EP X pins σ Q r s') pl (by omega) (by omega) (by rw [List.size_toArray, ← hl]; exact h1) (by simpa using ew) ⟨rfl, fin⟩) hs
theorem ZnG : IxR X Zn4 := by
 intro value slice pins s σ H x y v u Q I rx ry h hs
 obtain ⟨z, i, c, rfl, rfl, hz, he, q⟩ := h
 obtain ⟨t, rfl⟩ := rx
 obtain ⟨t', rfl⟩ := ry
 obtain ⟨j, h1, h2, h3, h4, h5⟩ := Zg9 he
 have hl : z.cps.toList.length = z.length := by simp [Str.length]
 rw [hl] at h1 h4 h5
 have hn := Zf5
 exact tail_any (typeIs_str s z t) slot_str_getitem.lookup (getItem_str (c := c) (by
  have e1 : decide (i < -(2 ^ 63 : Int)) = false := decide_eq_false (by omega)
  have e2 : decide (i ≥ 2 ^ 63) = false := decide_eq_false (by omega)
  rw [e1, e2, Bool.or_false]) (by rw [h1]; simpa using h2) ⟨.str ⟨#[c]⟩, H, I.tok _, ⟨_, rfl⟩, q⟩) hs
noncomputable def rIx (K : PySem.W.Frag) : R2 := fun x y H Q => ZoG K x y H Q ∨ Zox K x y H Q ∨ Zn4 x y H Q
theorem ZnE : IxR X (rIx X.K) := ZlK.or (ZmO.or ZnG)
theorem ZiG (its : List Value) (n j : Nat) (u : Value) : Obj.mapSeq (·.setIfInBounds j u) { cls := .type "list", data := .seq its.toArray n } = { cls := .type "list", data := .seq (its.set j u).toArray n } := by
 simp [Obj.mapSeq]
theorem Inv.lst {pins : List (Addr × Obj)} {σ : St} {H : Hp} {s : Shared} {p : Addr} {xs : List V} (I : Inv X pins σ H s) (h : H p = some (.lst xs)) :
  ∃ (its : List Value) (n : Nat), Vals xs its ∧ s.heap.get? p = some { cls := .type "list", data := .seq its.toArray n } ∧ xs.length ≤ sizeLine := by
 obtain ⟨z, its, n, r, e⟩ := I.hok p _ h
 exact ⟨its, n, r, e, z⟩
theorem Inv.lstUpd {pins : List (Addr × Obj)} {σ : St} {H : Hp} {s : Shared} {p : Addr} {xs ys : List V} {its its' : List Value} {n n' : Nat} {f : Obj → Obj} (I : Inv X pins σ H s) (h : H p = some (.lst xs))
  (ho : s.heap.get? p = some { cls := .type "list", data := .seq its.toArray n }) (hf : f { cls := .type "list", data := .seq its.toArray n } = { cls := .type "list", data := .seq its'.toArray n' }) (r : Vals ys its') (hz : ys.length ≤ sizeLine) (t : Nat) :
  Inv X pins σ (upd H p (.lst ys)) { s with heap := s.heap.update p f, toks := t } := by
 have e : (s.heap.update p f).get? p = some { cls := .type "list", data := .seq its'.toArray n' } := by
  rw [Heap.get?_update_self f ho (by rw [hf] <;> rfl), hf]
 refine I.write (x := p) (e := p) (by rw [h]; trivial) (.inl rfl) (fun b u hb q => (Heap.get?_update_other _ _ (Ne.symm hb)).trans q) ⟨_, e⟩ ?_
 exact ⟨hz, its', n', r, e⟩
noncomputable def Zn6 : V → V → V → Hp → (Hp → Prop) → Prop := fun o i v H Q => ∃ p xs k j, o = .ref p ∧ i = .int k ∧ H p = some (.lst xs) ∧ ixN xs.length k = some j ∧ Q (upd H p (.lst (xs.set j v)))
theorem set_list : Zos X Zn6 := by
 intro pins s σ H o i v ov iv u Q I ro ri rv h
 obtain ⟨p, xs, k, j, rfl, rfl, hp, hj, q⟩ := h
 cases ro
 obtain ⟨t, rfl⟩ := ri
 obtain ⟨its, n, r, ho, hz⟩ := I.lst hp
 obtain ⟨h1, h2, h3, h4⟩ := ZiR hj
 have hl := r.length
 have hn := Zf5
 have I' : Inv X pins σ (upd H p (.lst (xs.set j v))) { s with heap := s.heap.update p (Obj.mapSeq (·.setIfInBounds j u)) } :=
  I.lstUpd hp ho (ZiG its n j u) (r.set rv j) (by rw [List.length_set]; exact hz) s.toks
 by_cases h0 : 0 ≤ k
 ·have hk : k.toNat = j := by
   rw [seqIndex_of h0 h4] at h1
   exact Option.some.inj h1
  exact PySem.W.ki_setAt ho h0 (by omega) (by rw [List.size_toArray, ← hl]; exact h4) (by rw [hk]; exact ⟨_, I', q⟩)
 ·have hk : (k + (its.toArray.size : Int)).toNat = j := by
   rw [seqIndex_neg (by omega) h3] at h1
   rw [List.size_toArray, ← hl]
   exact Option.some.inj h1
  exact PySem.W.ki_setBack ho (by omega) (by rw [List.size_toArray, ← hl]; exact h3) (by omega) (by rw [hk]; exact ⟨_, I', q⟩)
theorem Zha (lo hi : Option Int) (n : Nat) : (sliceBounds lo hi none n).1 = ((HT.sIx n 0 lo : Nat) : Int) ∧ (sliceBounds lo hi none n).2.1 = ((HT.sIx n n hi : Nat) : Int) ∧ (sliceBounds lo hi none n).2.2 = 1 := by
 refine ⟨?_, ?_, rfl⟩
 ·cases lo with
  | none => simp [sliceBounds, HT.sIx]
  | some i =>
   simp only [sliceBounds, HT.sIx, Option.getD_none, show (1 : Int) > 0 by decide, if_true]
   by_cases h : i < 0
   ·simp only [h, if_true] <;> omega
   ·simp only [h, if_false] <;> omega
 ·cases hi with
  | none => simp [sliceBounds, HT.sIx]
  | some i =>
   simp only [sliceBounds, HT.sIx, Option.getD_none, show (1 : Int) > 0 by decide, if_true]
   by_cases h : i < 0
   ·simp only [h, if_true] <;> omega
   ·simp only [h, if_false] <;> omega
theorem Zgn (its : List Value) (lo hi : Option Int) : slicePick its.toArray lo hi none = ((its.drop (HT.sIx its.length 0 lo)).take (HT.sIx its.length its.length hi - HT.sIx its.length 0 lo)).toArray := by
 obtain ⟨h1, h2, h3⟩ := Zha lo hi its.toArray.size
 unfold slicePick
 rw [h1, h2, h3]
 simp only [sliceRange_one, pick_run, List.size_toArray] <;> rfl
noncomputable def Zpy (K : PySem.W.Frag) : V → Option Int → Option Int → Hp → VK → Prop := fun x lo hi H Q => ∃ a xs, x = .ref a ∧ SqL K H a xs ∧ ∀ p, H p = none → Q (.ref p) (upd H p (.lst (ZhN xs lo hi)))
theorem Zlr : SlR X (Zpy X.K) := by
 intro pins s σ H x v vl vu lo hi sl Q I rx hs pl pu h
 obtain ⟨a, xs, rfl, hx, q⟩ := h
 cases rx
 obtain ⟨its, r, ht, hz⟩ := I.list hx
 have hlen := r.length
 refine ⟨"list", _, slot_list_getitem.lookup, ht.isList.typeIs, ?_⟩
 refine wpAny_getItem_list_slice ht.isList hs pl pu .none (by simp) ?_ (by rw [List.size_toArray] <;> omega)
 rw [Zgn, ← hlen]
 refine ⟨.ref s.heap.objs.size, _, I.laid (t' := s.toks) (o := .lst (ZhN xs lo hi)) (fun b ob q => Heap.get?_push_of_some _ q) (Nat.le_refl _) ?_, rfl, q _ (I.hok.fresh (Nat.le_refl _))⟩
 exact ⟨Nat.le_trans (Zfv xs lo hi) hz, _, 0, (r.drop (HT.sIx xs.length 0 lo)).take (HT.sIx xs.length xs.length hi - HT.sIx xs.length 0 lo), Heap.get?_push_size _ rfl⟩
noncomputable def Zew : V → Bool
 | .non => true
 | .bl _ => true
 | .int _ => true
 | .str _ => true
 | _ => false
noncomputable def eqV : V → V → Bool
 | .non, .non => true
 | .bl a, .bl b => a == b
 | .bl a, .int b => (if a then 1 else 0) == b
 | .int a, .bl b => a == (if b then 1 else 0)
 | .int a, .int b => a == b
 | .str a, .str b => a == b
 | _, _ => false
theorem ZnJ {A : Around} {s : Shared} {y x : V} {u v : Value} (ry : RelV y u) (rx : RelV x v) (fy : Zew y = true) (fx : Zew x = true) : SeqAt.EqAt A s u v (eqV y x) := by
 cases y with
 | non =>
  cases ry
  cases x with
  | non => cases rx; exact SeqAt.EqAt.same _
  | bl b => cases rx; exact SeqAt.EqAt.none_bool b
  | int b => obtain ⟨t, rfl⟩ := rx; exact SeqAt.EqAt.none_int b t
  | str b => obtain ⟨t, rfl⟩ := rx; exact SeqAt.EqAt.none_str b t
  | _ => exact absurd (show false = true from fx) Bool.false_ne_true
 | bl a =>
  cases ry
  cases x with
  | non => cases rx; exact SeqAt.EqAt.bool_none a
  | bl b => cases rx; exact SeqAt.EqAt.bool_bool a b
  | int b => obtain ⟨t, rfl⟩ := rx; exact SeqAt.EqAt.bool_int a b t
  | str b => obtain ⟨t, rfl⟩ := rx; exact SeqAt.EqAt.bool_str a b t
  | _ => exact absurd (show false = true from fx) Bool.false_ne_true
 | int a =>
  obtain ⟨t', rfl⟩ := ry
  cases x with
  | non => cases rx; exact SeqAt.EqAt.int_none a t'
  | bl b => cases rx; exact SeqAt.EqAt.int_bool a t' b
  | int b => obtain ⟨t, rfl⟩ := rx; exact SeqAt.EqAt.int_int a t' b t
  | str b => obtain ⟨t, rfl⟩ := rx; exact SeqAt.EqAt.int_str a t' b t
  | _ => exact absurd (show false = true from fx) Bool.false_ne_true
 | str a =>
  obtain ⟨t', rfl⟩ := ry
  cases x with
  | non => cases rx; exact SeqAt.EqAt.str_none a t'
  | bl b => cases rx; exact SeqAt.EqAt.str_bool a t' b
  | int b => obtain ⟨t, rfl⟩ := rx; exact SeqAt.EqAt.str_int a t' b t
  | str b => obtain ⟨t, rfl⟩ := rx; exact SeqAt.EqAt.str_str a t' b t
  | _ => exact absurd (show false = true from fx) Bool.false_ne_true
 | _ => exact absurd (show false = true from fy) Bool.false_ne_true
noncomputable def eqU (x : V) (u : Value) : Bool := match u with
 | .none => eqV .non x
 | .bool b => eqV (.bl b) x
 | .int i _ => eqV (.int i) x
 | .str z _ => eqV (.str z) x
 | _ => false
theorem ZkZ {x y : V} {u : Value} (r : RelV y u) (f : Zew y = true) : eqU x u = eqV y x := by
 cases y with
 | non => cases r; rfl
 | bl b => cases r; rfl
 | int i => obtain ⟨t, rfl⟩ := r; rfl
 | str z => obtain ⟨t, rfl⟩ := r; rfl
 | _ => exact absurd (show false = true from f) Bool.false_ne_true
theorem Zhy {x : V} : ∀ {xs : List V} {us : List Value}, Vals xs us → xs.all Zew = true → us.any (eqU x) = xs.any fun y => eqV y x
 | _, _, .nil, _ => rfl
 | y :: xs, u :: us, .cons r t, f => by
  rw [List.all_cons, Bool.and_eq_true] at f
  rw [List.any_cons, List.any_cons, ZkZ r f.1, Zhy t f.2]
theorem ZfN {A : Around} {s : Shared} {x : V} {v : Value} (rx : RelV x v) (fx : Zew x = true) : ∀ {xs : List V} {us : List Value}, Vals xs us → xs.all Zew = true → ∀ u ∈ us, SeqAt.EqAt A s u v (eqU x u)
 | _, _, .nil, _ => fun u hu => by cases hu
 | y :: xs, u :: us, .cons r t, f => fun u' hu => by
  rw [List.all_cons, Bool.and_eq_true] at f
  rcases List.mem_cons.mp hu with rfl | hu
  ·rw [ZkZ r f.1]; exact ZnJ r rx f.1 fx
  ·exact ZfN rx fx t f.2 u' hu
noncomputable def inV (x : V) (xs : List V) : Bool := xs.any fun y => eqV y x
noncomputable def rIn (K : PySem.W.Frag) (neg : Bool) : R2 := fun x y H Q => ∃ p xs, y = .ref p ∧ (SqL K H p xs ∨ SqT K H p xs) ∧ Zew x = true ∧ xs.all Zew = true ∧ Q (.bl (if neg then !inV x xs else inV x xs)) H
theorem ZjL : OpR X (compareOp .In) (rIn X.K false) := by
 intro pins s σ H x y v u Q I rx ry h
 obtain ⟨p, xs, rfl, hq, fx, fs, q⟩ := h
 cases ry
 rcases hq with hq | hq
 ·obtain ⟨its, r, pl, hz⟩ := I.list hq
  refine SeqAt.in_listAt (eqU x) pl.isList (fun w hw => ZfN rx fx r fs w (by simpa using hw)) ⟨.bl _, H, I, rfl, ?_⟩
  rw [show its.toArray.any (eqU x) = its.any (eqU x) by simp, Zhy r fs]
  exact q
 ·obtain ⟨its, r, pl, hz⟩ := I.tuple hq
  refine SeqAt.in_tupleAt (eqU x) pl (fun w hw => ZfN rx fx r fs w (by simpa using hw)) ⟨.bl _, H, I, rfl, ?_⟩
  rw [show its.toArray.any (eqU x) = its.any (eqU x) by simp, Zhy r fs]
  exact q
theorem ZbG.or {f : Value} {r r' : List V → Hp → VK → Prop} (h : ZbG X f r) (h' : ZbG X f r') : ZbG X f (fun xs H Q => r xs H Q ∨ r' xs H Q) := by
 intro pins s σ H xs us Q I rs q
 rcases q with q | q
 ·exact h pins s σ H xs us Q I rs q
 ·exact h' pins s σ H xs us Q I rs q
theorem Zgo : ZbG X (.type "tuple") (fun xs H Q => ∃ p ys, xs = [.ref p] ∧ ((SqL X.K H p ys ∧ ∀ l, H l = none → Q (.ref l) (upd H l (.tup ys))) ∨ (SqT X.K H p ys ∧ Q (.ref p) H))) := by
 intro pins s σ H xs us Q I r h
 obtain ⟨p, ys, rfl, h⟩ := h
 obtain ⟨u, rfl, rx⟩ := vals1 r
 cases rx
 rcases h with ⟨hq, q⟩ | ⟨hq, q⟩
 ·obtain ⟨its, r', pl, hz⟩ := I.list hq
  have hlen := r'.length
  refine call_tuple_list pl.isList (fun h' kp => ?_) (by simp only [List.size_toArray] <;> omega)
  have I1 : Inv X pins σ H { s with heap := h' } := I.kept (t' := s.toks) kp
  have I2 : Inv X pins σ (upd H h'.objs.size (.tup ys)) { s with heap := h'.push { cls := .type "tuple", data := .seq its.toArray } } :=
   I1.laid (t' := s.toks) (fun b o e => Heap.get?_push_of_some _ e) (Nat.le_refl _) (show ZbH X.prog X.w _ _ _ (.tup ys) from ⟨hz, its, r', Zc6.new _ _⟩)
  exact ⟨.ref h'.objs.size, _, I2, rfl, q _ (I1.hok.fresh (Nat.le_refl _))⟩
 ·obtain ⟨its, r', pl, hz⟩ := I.tuple hq
  exact call_tuple_same pl ⟨.ref p, H, I, rfl, q⟩
noncomputable def tyV (K : PySem.W.Frag) (T : String) (x : V) (H : Hp) : Prop := match x with
 | .str _ => T = "str"
 | .int _ => T = "int"
 | .ref p => (T = "list" ∧ ∃ xs, SqL K H p xs) ∨ (T = "tuple" ∧ ∃ o, K.lookup p = some o ∧ o.cls = .type "tuple" ∧ o.dict = none) ∨
   (T = "dict" ∧ ((∃ kvs, H p = some (.dK kvs)) ∨ ∃ kvs, H p = some (.dT kvs))) ∨ (T = "set" ∧ ∃ S n, H p = some (.set S n))
 | _ => False
theorem ZmQ {pins : List (Addr × Obj)} {σ : St} {H : Hp} {s : Shared} {T : String} {x : V} {v : Value} (I : Inv X pins σ H s) (r : RelV x v) (ty : tyV X.K T x H) :
  s.TypeIs v T ∧ ∀ a, v = .ref a → ∃ ob, s.heap.get? a = some ob ∧ ob.dict = none := by
 cases x with
 | str z =>
  obtain ⟨t, rfl⟩ := r
  cases (show T = "str" from ty)
  exact ⟨typeIs_str s z t, fun _ e => nomatch e⟩
 | int i =>
  obtain ⟨t, rfl⟩ := r
  cases (show T = "int" from ty)
  exact ⟨typeIs_int s i t, fun _ e => nomatch e⟩
 | ref p =>
  cases r
  rcases ty with ⟨rfl, xs, hq⟩ | ⟨rfl, o, hk, hc, hd⟩ | ⟨rfl, hk⟩ | ⟨rfl, S, n, hk⟩
  ·obtain ⟨its, _, pl, _⟩ := I.list hq
   refine ⟨pl.isList.typeIs, fun a e => ?_⟩
   cases e
   obtain ⟨o, n, e, c, hd, _⟩ := pl
   exact ⟨o, e, hd⟩
  ·refine ⟨⟨o, I.kIn p o hk, hc⟩, fun a e => ?_⟩
   cases e
   exact ⟨o, I.kIn _ o hk, hd⟩
  ·have z : ∃ o, s.heap.get? p = some o ∧ o.ExactDict := by
    rcases hk with ⟨kvs, hk⟩ | ⟨kvs, hk⟩
    ·obtain ⟨_, _, _, _, o, _, _, e, ex, _⟩ := I.hok p _ hk
     exact ⟨o, e, ex⟩
    ·obtain ⟨_, _, _, _, o, _, _, e, ex, _⟩ := I.hok p _ hk
     exact ⟨o, e, ex⟩
   obtain ⟨o, e, ex⟩ := z
   refine ⟨⟨o, e, ex.1⟩, fun a e2 => ?_⟩
   cases e2
   exact ⟨o, e, ex.2.1⟩
  ·obtain ⟨o, _, _, _, e, ex, _⟩ := I.hok p _ hk
   refine ⟨⟨o, e, ex.1⟩, fun a e2 => ?_⟩
   cases e2
   exact ⟨o, e, ex.2.1⟩
 | _ => exact False.elim ty
noncomputable def tBM (K : PySem.W.Frag) (T : String) (r : V → List V → Hp → VK → Prop) (to : TE) (t : TA) : TE := fun σ H Q => to σ H fun x H1 => tyV K T x H1 ∧ t σ H1 fun xs H2 => r x xs H2 Q
variable {o e : Expr} {es : List Expr} {to : TE} {t : TA} {name : Str} {apos cpos : Pos} {T id : String} {r : V → List V → Hp → VK → Prop}
theorem Zmt (pa : PlainAttrs T) (slot : Slot T name id) (hty : typeOf (.builtin id) = pure (.type "method_descriptor")) (hm : MtR X id r) (ho : PE X o to) (ha : PA X (e :: es) t)
  (hbase : attributeBase o name X.env (eval o X.env) = eval o X.env := by rfl)
  (hfew : ((backTo cpos (starEach (e :: es) X.env)).all (fun x => !x.1) && (backToKw cpos (keywordEach [] X.env)).all (fun x => x.1.isSome)
   && decide ((e :: es).length + ([] : List Keyword).length + (if ([] : List Keyword).isEmpty then 0 else 1) < 30)) = true := by rfl)
  (hline : (apos.endLine == cpos.line) = true := by rfl) (hs : starEach (e :: es) X.env = (false, eval e X.env) :: starEach es X.env := by rfl) (hplain : (backTo cpos (starEach es X.env)).any (·.1) = false := by rfl) :
  PE X (.Call (.Attribute o name apos) (e :: es) [] cpos) (tBM X.K T r to t) := by
 intro pins s σ H Q I h
 refine wpAny_Call_method_late hbase hfew hline rfl (thn (ho pins s σ H _ I h) fun v s1 ⟨x, H1, I1, r1, ty, q1⟩ => ?_)
 obtain ⟨h1, h2⟩ := ZmQ I1 r1 ty
 refine ⟨T, id, pa, slot, hty, h1, h2, ?_⟩
 have hA := ha cpos pins s1 σ H1 _ I1 q1
 rw [hs] at hA ⊢
 refine Calls.callWith_builtin (by show (false || (backTo cpos (starEach es X.env)).any (·.1)) = false; rw [hplain] <;> rfl) (Calls.evalArgs_plain ?_)
 exact thn hA fun us s2 ⟨vs, H2, I2, r2, q2⟩ => hm pins s2 σ H2 x vs v us Q I2 r1 r2 q2
/- xs.append(e), list.index on a module's tuple .. are MtR facts of 06m -/
end
end L2
namespace L2
open PySem PySem.Spec PyProof.Rows
noncomputable def MtM (X : Cx) (id : String) (r : V → List V → Hp → VK → Prop) : Prop :=
 ∀ (pins : List (Addr × Obj)) (s : Shared) (σ : St) (H : Hp) (x : V) (xs : List V) (v : Value) (us : List Value) (Q : VK), Inv X pins σ H s → RelV x v → Vals xs us → r x xs H Q →
  wpAny (model X.prog X.w) X.A (call (.builtin id) (v :: us)) (EP X pins σ Q) X.xe s
theorem Vals.one : ∀ {x : V} {us : List Value}, Vals [x] us → ∃ u, us = [u] ∧ RelV x u
 | _, _, .cons r .nil => ⟨_, rfl, r⟩
theorem Vals.zero : ∀ {us : List Value}, Vals [] us → us = []
 | _, .nil => rfl
theorem Vals.dropLast {xs : List V} {us : List Value} (h : Vals xs us) : Vals xs.dropLast us.dropLast := by
 induction h with
 | nil => exact .nil
 | cons r t ih =>
  cases t with
  | nil => exact .nil
  | cons q t' => exact .cons r ih
theorem Vals.eraseIdx : ∀ {xs : List V} {us : List Value} (i : Nat), Vals xs us → Vals (xs.eraseIdx i) (us.eraseIdx i)
 | _, _, _, .nil => .nil
 | _, _, 0, .cons _ t => t
 | _, _, i + 1, .cons r t => .cons r (Vals.eraseIdx i t)
theorem Vals.rep {xs : List V} {us : List Value} (h : Vals xs us) : ∀ k : Nat, Vals (List.replicate k xs).flatten (List.replicate k us).flatten
 | 0 => .nil
 | k + 1 => by
  rw [List.replicate_succ, List.replicate_succ, List.flatten_cons, List.flatten_cons]
  exact Vals.append h (Vals.rep h k)
theorem foldl_rep (its : List Value) : ∀ (k : Nat) (acc : List Value),
  List.foldl (fun x1 x2 => x1 ++ x2) acc.toArray (List.replicate k its.toArray) = (acc ++ (List.replicate k its).flatten).toArray
 | 0, acc => by simp
 | k + 1, acc => by
  have e : acc.toArray ++ its.toArray = (acc ++ its).toArray := by simp
  have e2 : (acc ++ its) ++ (List.replicate k its).flatten = acc ++ (List.replicate (k + 1) its).flatten := by
   rw [List.replicate_succ, List.flatten_cons, List.append_assoc]
  rw [← e2, ← foldl_rep its k (acc ++ its), ← e, List.replicate_succ, List.foldl_cons]
section
variable {X : Cx} {pins : List (Addr × Obj)} {σ : St} {H : Hp} {s : Shared} {l b : Addr} {xs ys zs : List V}
theorem Inv.lset {its its' : List Value} {n : Nat} {f : Array Value → Array Value} {t' : Nat} (I : Inv X pins σ H s) (hH : H l = some (.lst xs))
  (e : s.heap.get? l = some { cls := .type "list", data := .seq its.toArray n }) (hf : f its.toArray = its'.toArray) (hv : Vals ys its') (hz : ys.length ≤ sizeLine) :
  Inv X pins σ (upd H l (.lst ys)) { s with heap := s.heap.update l (Obj.mapSeq f), toks := t' } := by
 have q := PySem.IsL.update e f
 rw [hf] at q
 refine I.write (x := l) (e := l) (by rw [hH]; exact trivial) (.inl rfl) (fun b' u hb hu => (Heap.get?_update_other s.heap (Obj.mapSeq f) (Ne.symm hb)).trans hu) ⟨_, q⟩ ?_
 exact ⟨hz, its', _, hv, q⟩
theorem Inv.lnew {its : List Value} {t' : Nat} (I : Inv X pins σ H s) (hv : Vals ys its) (hz : ys.length ≤ sizeLine) :
  Inv X pins σ (upd H s.heap.objs.size (.lst ys)) { s with heap := s.heap.push { cls := .type "list", data := .seq its.toArray }, toks := t' } :=
 I.laid (fun _ _ q => Heap.get?_push_of_some _ q) (Nat.le_refl _) ⟨hz, its, 0, hv, Heap.get?_push_size _ rfl⟩
theorem Inv.fresh (I : Inv X pins σ H s) : H s.heap.objs.size = none := I.hok.fresh (Nat.le_refl _)
theorem Inv.lstM (I : Inv X pins σ H s) (hH : H l = some (.lst xs)) : xs.length ≤ sizeLine ∧ ∃ (its : List Value) (n : Nat), Vals xs its ∧ xs.length = its.length ∧ s.heap.get? l = some { cls := .type "list", data := .seq its.toArray n } := by
 obtain ⟨z, its, n, r, e⟩ := I.hok l _ hH
 exact ⟨z, its, n, r, r.length, e⟩
theorem ZfM {n : Nat} (h : n ≤ sizeLine) : Builtin.List.listTooLong n = false := by
 unfold Builtin.List.listTooLong
 exact decide_eq_false (by omega)
end
section
variable {X : Cx}
noncomputable def ZiU : V → List V → Hp → VK → Prop := fun x vs H Q => ∃ l xs y, x = .ref l ∧ vs = [y] ∧ H l = some (.lst xs) ∧ xs.length < sizeLine ∧ Q .non (upd H l (.lst (xs ++ [y])))
theorem Zfk : MtM X "list.append" ZiU := by
 intro pins s σ H x vs v us Q I rx rv h
 obtain ⟨l, xs, y, rfl, rfl, hH, hz, q⟩ := h
 cases rx
 obtain ⟨u, rfl, ru⟩ := rv.one
 obtain ⟨z, its, n, r, hl, e⟩ := I.lstM hH
 refine call_meets F.slot_list_append ⟨_, e, rfl⟩ F.entry_list_append (F.args_list_append_2 _ _) (PySem.list_append l its.toArray n u (by rw [List.size_toArray]; omega)) ⟨e, ?_⟩
 refine ⟨.non, _, I.lset (its' := its ++ [u]) hH e (by simp) (r.append (.cons ru .nil)) ?_, rfl, q⟩
 rw [List.length_append, List.length_singleton]
 omega
noncomputable def Zi3 : V → List V → Hp → VK → Prop := fun x vs H Q => ∃ l b xs zs, x = .ref l ∧ vs = [.ref b] ∧ H l = some (.lst xs) ∧ H b = some (.lst zs) ∧ xs.length + zs.length ≤ sizeLine ∧ Q .non (upd H l (.lst (xs ++ zs)))
theorem Zjs : MtM X "list.extend" Zi3 := by
 intro pins s σ H x vs v us Q I rx rv h
 obtain ⟨l, b, xs, zs, rfl, rfl, hH, hB, hz, q⟩ := h
 cases rx
 obtain ⟨u, rfl, ru⟩ := rv.one
 cases ru
 obtain ⟨z, its, n, r, hl, e⟩ := I.lstM hH
 obtain ⟨z2, its2, n2, r2, hl2, e2⟩ := I.lstM hB
 have hsz : its.toArray.size + its2.toArray.size ≤ sizeLine := by rw [List.size_toArray, List.size_toArray]; omega
 have hlong : ¬ (!its.toArray.isEmpty && Builtin.List.listTooLong (its.toArray.size + its2.toArray.size)) = true := by
  rw [ZfM hsz, Bool.and_false]
  exact Bool.false_ne_true
 refine call_meets F.slot_list_extend ⟨_, e, rfl⟩ F.entry_list_extend (F.args_list_extend_2 _ _)
  (AutoSeq1.list_extend_list_list_0 l its.toArray n b its2.toArray n2 hlong (by rw [List.size_toArray]; omega) (by omega)) ⟨e, e2, ?_⟩
 refine ⟨.non, _, I.lset (its' := its ++ its2) hH e (by simp) (r.append r2) ?_, rfl, q⟩
 rw [List.length_append]
 omega
noncomputable def Zpk : R2 := fun x y H Q => ∃ l b xs zs, x = .ref l ∧ y = .ref b ∧ H l = some (.lst xs) ∧ H b = some (.lst zs) ∧ xs.length + zs.length ≤ sizeLine ∧ ∀ p, H p = none → Q (.ref p) (upd H p (.lst (xs ++ zs)))
theorem Zmz : OpR X (binaryOp .Add) Zpk := by
 intro pins s σ H x y v u Q I rx ry h
 obtain ⟨l, b, xs, zs, rfl, rfl, hH, hB, hz, q⟩ := h
 cases rx
 cases ry
 obtain ⟨z, its, n, r, hl, e⟩ := I.lstM hH
 obtain ⟨z2, its2, n2, r2, hl2, e2⟩ := I.lstM hB
 refine PySem.P.add_list e e2 ?_ (by rw [List.size_toArray, List.size_toArray]; omega)
 have ea : its.toArray ++ its2.toArray = (its ++ its2).toArray := by simp
 rw [ea]
 exact ⟨.ref _, _, I.lnew (t' := s.toks) (r.append r2) (by rw [List.length_append]; omega), rfl, q _ I.fresh⟩
noncomputable def Zpu : R2 := fun x y H Q => ∃ l k xs, x = .ref l ∧ y = .int k ∧ H l = some (.lst xs) ∧ -(2 ^ 63) ≤ k ∧ k < 2 ^ 63 ∧ xs.length * k.toNat ≤ sizeLine ∧
 ∀ p, H p = none → Q (.ref p) (upd H p (.lst (List.replicate k.toNat xs).flatten))
theorem len_rep {α : Type} (xs : List α) (k : Nat) : (List.replicate k xs).flatten.length = k * xs.length := by
 induction k with
 | zero => simp
 | succ k ih => rw [List.replicate_succ, List.flatten_cons, List.length_append, ih, Nat.succ_mul, Nat.add_comm]
theorem ZmN : OpR X (binaryOp .Mult) Zpu := by
 intro pins s σ H x y v u Q I rx ry h
 obtain ⟨l, k, xs, rfl, rfl, hH, h1, h2, hz, q⟩ := h
 cases rx
 obtain ⟨t, rfl⟩ := ry
 obtain ⟨z, its, n, r, hl, e⟩ := I.lstM hH
 have hlen : its.toArray.size * k.toNat ≤ sizeLine := by rw [List.size_toArray, ← hl]; exact hz
 have hcap : ¬ its.toArray.size * k.toNat > (2 ^ 63 - 1) / 8 := by
  have : (sizeLine : Nat) ≤ (2 ^ 63 - 1) / 8 := by decide
  omega
 have hfit : ¬ (!Builtin.List.listFitsIndex k) = true := by
  rw [fitsIndex_both h1 h2]
  exact Bool.false_ne_true
 have hlong : ¬ Builtin.List.listTooLong (its.toArray.size * k.toNat) = true := by
  rw [ZfM hlen]
  exact Bool.false_ne_true
 have hnew : List.foldl (fun x1 x2 => x1 ++ x2) #[] (List.replicate (if its.toArray.isEmpty = true then 0 else k.toNat) its.toArray) = (List.replicate k.toNat its).flatten.toArray := by
  have f0 : ∀ m : Nat, List.foldl (fun x1 x2 => x1 ++ x2) #[] (List.replicate m its.toArray) = (List.replicate m its).flatten.toArray := fun m => by
   have := foldl_rep its m []
   rw [List.nil_append] at this
   exact this
  rw [f0]
  cases its with
  | nil => simp
  | cons a r' => rw [if_neg (by simp)]
 refine wpAny_binaryOp_repeat_ref (T := "list") (U := "int") (by decide) ⟨_, e, rfl⟩ (fun s' => typeIs_int s' k t) noFill_list_mul F.fills_int_mul F.slot_int_rmul repeat_list F.slot_int_index.lookup
  (call_meets F.slot_int_rmul (typeIs_int s k t) F.entry_int_rmul (F.args_int_rmul_2 _ _) (int___rmul___int_list k t l its.toArray n)
   ⟨e, rfl, ⟨_, e, rfl⟩, call_meets F.slot_list_mul ⟨_, e, rfl⟩ F.entry_list_mul (F.args_list_mul_2 _ _) (AutoListH.list___mul___list_int_3 l its.toArray n k t hfit hcap hlong) ⟨e, ?_⟩⟩)
 rw [hnew]
 exact ⟨.ref _, _, I.lnew (t' := s.toks) (r.rep k.toNat) (by rw [len_rep, Nat.mul_comm]; exact hz), rfl, q _ I.fresh⟩
end
section
variable {prog : Program} {w : World} {A : Around} {E : Value → Shared → Prop} {s : Shared}
theorem ZgT (its its2 : List Value) (a c : Nat) : its.toArray.extract 0 a ++ its2.toArray ++ its.toArray.extract c its.toArray.size = (its.take a ++ its2 ++ its.drop c).toArray := by
 apply Array.toList_inj.mp
 first
  | (simp
     exact List.take_of_length_le (by simp))
  | simp [List.take_of_length_le]
  | simp
end
section
variable {X : Cx}
end
end L2
namespace Att
open PySem PySem.W PySem.Calls PyProof.Rows
theorem Zfx {P : Params} {h : Heap} : ∀ (ns : List Int) (vs : List Value), WellAll P h vs (ns.map WData.int) → IntsAre vs ns := by
 intro ns
 induction ns with
 | nil =>
  intro vs w
  rw [List.map_nil] at w
  cases w
  exact .nil
 | cons n ns ih =>
  intro vs w
  rw [List.map_cons] at w
  cases w with
  | cons a b =>
   cases a
   exact .cons _ _ (ih _ b)
theorem ZjH {l : OpenLaw} {n : Nat} (hn : l.most = some n) {P : Params} {h : Heap} {args : List WData} {vals : List Value}
  (hpre : l.row.toRowW.claim.pre args = true) (hwl : WellAll P h vals args) :
  ∃ a vs ns, vals = [Value.ref a] ∧ args = [WData.list (ns.map WData.int)] ∧ h.get? a = some { cls := .type "list", data := .seq vs.toArray } ∧ IntsAre vs ns ∧ ns.length ≤ n := by
 have hsh : WShape.hasAll [] args [.list .int] = true := (pre_splitW hpre).1
 have hc : l.pre.holds [] { args := args } = true := (pre_splitW hpre).2
 obtain ⟨d, r, rfl, h1, h2⟩ := hasAllW_cons hsh
 obtain rfl := hasAllW_nil h2
 obtain ⟨xs, rfl, h3⟩ := hasW_list h1
 obtain ⟨ns, rfl⟩ := items_int h3
 have hlen : ns.length ≤ n := by
  unfold OpenLaw.pre at hc
  have h4 : (WTm.not (.lt (.lit (.int (n : Int))) (.len (.arg 0)))).holds [] { args := [.list (ns.map .int)] } = true := by
   have h4 := (holds_andW hc).1
   rw [hn] at h4
   exact h4
  have h5 := condW_of h4 (w_not (w_lt w_lit (w_len_list (w_arg rfl))))
  rw [List.length_map] at h5
  refine Nat.le_of_not_lt fun q => ?_
  have q' : (n : Int) < ((ns.length : Nat) : Int) := by omega
  first
   | (rw [decide_eq_true q'] at h5; exact absurd h5 (by decide))
   | (simp at h5; omega)
 cases hwl with
 | cons w1 w2 =>
  cases w2
  cases w1 with
  | list ho hall => exact ⟨_, _, ns, rfl, rfl, ho, Zfx ns _ hall, hlen⟩
theorem ZjJ (l : OpenLaw) (args : List WData) : l.row.toRowW.claim.post args (.bool true) args = true :=
 postW_of (r := l.row.toRowW) (X := (true == true))
  (show WShape.has [] (.bool true) .bool = true by first | rfl | decide | simp [WShape.has, WShape.arms, WShape.armsAll])
  (show (WTm.eq .res (.lit (.bool true))).value [] { args := args, res := some (.bool true), after := args } = some (.bool (true == true)) from w_eq_bool (w_res rfl) w_lit) rfl
theorem attach_call {l : OpenLaw} {n : Nat} {q : Program} {loose : List Str} {XP : (Str → Option Value) → Heap → Prop} {YP : World → Heap → Prop} {d : DefRec}
  (hn : l.most = some n) (hdf : d.params.defaults = [])
  (call : ∀ (w : World) (s₀ s₁ : Shared) (mg mb : Str → Option Value) (fa : Addr) (o : Obj) (pm cd doc : Value) (a : Addr) (vs : List Value) (ns : List Int),
   Ground q loose [] XP w s₀ mg mb s₁.heap → YP w s₁.heap →
   s₁.heap.get? fa = some o → o.data = .func (docDef d.name d.params d.body d.scope pm cd doc) → s₁.heap.CodeRec cd d.name → mg d.name = some (.ref fa) →
   s₁.heap.get? a = some { cls := .type "list", data := .seq vs.toArray } → IntsAre vs ns → ns.length ≤ n → s₁.gens = #[] →
   codeAny (model l.prog w) callerA (.call (.ref fa) ⟨[.ref a], []⟩) (fun r s' => r = .ok (.ret (.bool true)) ∧ OldK s₁.heap s'.heap ∧ s'.os = s₁.os ∧ AllBare s'.gens) s₁) :
  WalkO q loose XP YP l.row.toRowW d [] (fun f vs => PySem.call f vs) := by
 intro w s₀ s₁ mg mb G Y fa o pm cd doc dV kV ho hd hcd hD hmg hg args vals as hpre hlay hrd hwl hlo
 obtain rfl : dV = .none := Dflts.none hD hdf
 obtain rfl : kV = .none := Dflts.noKw hD
 obtain ⟨a, vs, ns, rfl, rfl, hobj, hints, hlen⟩ := ZjH hn hpre hwl
 refine enter_call (codeAny_mono (call w s₀ s₁ mg mb fa o pm cd doc a vs ns G Y ho (fd_plain hd) hcd hmg hobj hints hlen hg) fun r s' hq => ?_)
 obtain ⟨rfl, h2, h3, h4⟩ := hq
 exact ⟨.inl ⟨.bool true, .bool true, [], rfl, fun _ => rfl, .bool true, ZjJ l _, fun _ => ⟨List.Pairwise.nil, fun _ hm => (nomatch hm)⟩⟩, h2, h3, h4⟩
section
variable {prog : Program} {w : World} {A : Around} {E : Value → Shared → Prop} {s : Shared} {K : Frag}
end
end Att
namespace L2
open PySem PySem.Spec PyProof.Rows
theorem ZgO : ∀ {vs : List Value} {ns : List Int}, IntsAre vs ns → Vals (ns.map V.int) vs
 | _, _, .nil => .nil
 | _, _, .cons n t h => .cons ⟨t, rfl⟩ (ZgO h)
noncomputable def Only (H : Hp) : Prop := ∀ b, H b = none ∨ ∃ o xs, H b = some (.frz o (.lst xs))
theorem Zla {P : Program} {w : World} {K : PySem.W.Frag} {mg mb : Str → Option Value} {CX : CXT} {k : Nat} {fa a : Addr} {fd : FuncData} {x : Str} {sp : Sp} {s₁ : Shared} {vs : List Value} {ns : List Int}
  (KX : K.In s₁.heap) (hns : s₁.heap.Ns mainGlobals mg) (hb : s₁.heap.Ns builtinsNs mb) (hbb : ∀ x : Str, x ≠ "__name__" → mb x = bootBuiltins x) (hlim : s₁.heap.NoLimit) (hg : s₁.gens = #[])
  (ha : s₁.heap.get? a = some { cls := .type "list", data := .seq vs.toArray }) (hi : IntsAre vs ns) (hl : ns.length ≤ sizeLine) (hr : Zc8 k callerA)
  (F : ∀ base : Heap, K.In base → base.Ns mainGlobals mg → Ze3 P w K mg base CX k fa fd [x] sp) (hbind : ∀ (s : Shared) (u : Value), BindsTo s fd ⟨[u], []⟩ [(x, u)])
  (hsp : ∀ H : Hp, Only H → SqL K H a (ns.map V.int) → sp [.ref a] H (fun v _ => v = .bl true) fun _ _ _ => False)
  (hCX : ∀ H e s', CX [] H s₁ (fun _ _ _ => False) e s' → False) :
  codeAny (model P w) callerA (.call (.ref fa) ⟨[.ref a], []⟩) (fun r s' => r = .ok (.ret (.bool true)) ∧ OldK s₁.heap s'.heap ∧ s'.os = s₁.os ∧ AllBare s'.gens) s₁ := by
 have rv := ZgO hi
 have lenV := hi.length
 have core : ∀ H : Hp, Only H → SqL K H a (ns.map V.int) → HOk P w H s₁.heap → (∀ b, H b ≠ none → b = a) → (H a ≠ none → K.lookup a = none) →
   codeAny (model P w) callerA (.call (.ref fa) ⟨[.ref a], []⟩) (fun r s' => r = .ok (.ret (.bool true)) ∧ OldK s₁.heap s'.heap ∧ s'.os = s₁.os ∧ AllBare s'.gens) s₁ := by
  intro H hO hS hok hA hK
  have base_of : ∀ {b : Addr} {o : Obj}, s₁.heap.get? b = some o → H b = none → (Zg5 s₁.heap H).get? b = some o := fun e n => ZkO e n
  have noA : ∀ {b : Addr} {o : Obj} {es : Array DictEntry} {ep : Nat}, s₁.heap.get? b = some o → o.data = .dict es ep → H b = none := fun {b o es ep} e d => by
   cases q : H b with
   | none => rfl
   | some u =>
    have e' : b = a := hA b (by rw [q]; simp)
    subst e'
    rw [ha] at e; cases e
    have d' : Data.seq vs.toArray _ = Data.dict es ep := d
    cases d'
  have nsK : ∀ {b : Addr} {m : Str → Option Value}, s₁.heap.Ns b m → (Zg5 s₁.heap H).Ns b m := fun {b m} ⟨o, es, ep, e, d, r⟩ => ⟨o, es, ep, base_of e (noA e d), d, r⟩
  have hKb : K.In (Zg5 s₁.heap H) := fun b o e => base_of (KX b o e) (by
   cases q : H b with
   | none => rfl
   | some u =>
    have e' : b = a := hA b (by rw [q]; simp)
    subst e'
    rw [hK (by rw [q]; simp)] at e; cases e)
  have hM : Mod K mg (Zg5 s₁.heap H) := ⟨hKb, nsK hns, ⟨mb, nsK hb, hbb⟩, let ⟨mc, h1, h2⟩ := hlim; ⟨mc, nsK h1, h2⟩⟩
  have e0 : ZiP P w K mg (Zg5 s₁.heap H) callerA [] s₁ H := ⟨rfl, hM, fun b o e => ZlL e, Nat.le_of_eq (ZjI _ _), trivial, fun b hb => absurd (show b ∈ ([] : List Addr) from hb) (by simp), hok, .of_eq hg⟩
  refine codeAny_mono ((F _ hKb (nsK hns)).run callerA [] s₁ H ⟨[.ref a], []⟩ [.ref a] [.ref a] _ _ hr e0 (hbind s₁ (.ref a)) (.cons rfl .nil) (hsp H hO hS)) fun r s' h => ?_
  cases r with
  | error e => exact (hCX H e s' h).elim
  | ok fl =>
   cases fl with
   | next => exact False.elim h
   | brk => exact False.elim h
   | cont => exact False.elim h
   | ret u =>
    obtain ⟨v, H', os, bare, un, hok', r', q⟩ := h
    have q' : v = .bl true := q
    subst q'
    obtain rfl : u = Value.bool true := r'
    refine ⟨rfl, OldK.of_keep fun b o e => ?_, os, bare⟩
    cases q : H b with
    | none => exact un.keep b o e q (by intro z; exact absurd (show b ∈ ([] : List Addr) from z) (by simp)) (by simp)
    | some u =>
     rcases hO b with z | ⟨ob, xs, z⟩
     ·rw [q] at z; cases z
     ·have z2 := un.frzs b ob _ z
      obtain ⟨e1, _⟩ := hok b _ z
      obtain ⟨e2, _⟩ := hok' b _ z2
      rw [e] at e1; cases e1
      exact e2
 cases hk : K.lookup a with
 | some o =>
  have e := KX a o hk
  rw [ha] at e
  cases e
  refine core (fun _ => none) (fun _ => .inl rfl) (.inr ⟨_, vs.toArray, _, hk, rfl, rfl, rfl, by rw [List.size_toArray, lenV]; exact hl, by simpa using rv⟩) (fun b u z => by have z' : (none : Option HO) = some u := z; cases z') (fun b z => absurd rfl z) fun z => absurd rfl z
 | none =>
  refine core (fun b => if b = a then some (.frz { cls := .type "list", data := .seq vs.toArray } (.lst (ns.map V.int))) else none) (fun b => ?_) (.inl (.inr ⟨{ cls := .type "list", data := .seq vs.toArray }, if_pos rfl⟩)) (fun b u z => ?_) (fun b z => ?_) fun _ => hk
  ·by_cases hb : b = a
   ·exact .inr ⟨_, _, if_pos hb⟩
   ·exact .inl (if_neg hb)
  ·by_cases hb : b = a
   ·have z' := (if_pos hb).symm.trans z
    cases z'
    subst hb
    exact ⟨ha, by rw [List.length_map]; exact hl, vs, _, rv, ha⟩
   ·have z' := (if_neg hb).symm.trans z
    cases z'
  ·by_cases hb : b = a
   ·exact hb
   ·exact absurd (if_neg hb) z
end L2
namespace L2
open PySem PySem.Spec PyProof.Rows
theorem Zjl {l : PySem.W.OpenLaw} {n k : Nat} {q : Program} {loose : List Str} {XP : (Str → Option Value) → Heap → Prop} {YP : World → Heap → Prop} {d : DefRec} {K : Params → PySem.W.Frag} {CX : World → CXT} {sp : World → Sp} {x : Str}
  (hn : l.most = some n) (hn2 : n ≤ sizeLine) (hdf : d.params.defaults = []) (hr : Zc8 k callerA)
  (hY : ∀ (w : World) (h : Heap), YP w h → (K w.params).In h)
  (F : ∀ (w : World) (mg : Str → Option Value) (fa : Addr) (h : Heap), (K w.params).In h → h.Ns mainGlobals mg → mg d.name = some (.ref fa) →
   ∃ fd : FuncData, (∀ (s : Shared) (u : Value), BindsTo s fd ⟨[u], []⟩ [(x, u)]) ∧
    ∀ base : Heap, (K w.params).In base → base.Ns mainGlobals mg → Ze3 l.prog w (K w.params) mg base (CX w) k fa fd [x] (sp w))
  (hsp : ∀ (w : World) (H : Hp) (a : Addr) (ns : List Int), ns.length ≤ n → Only H → SqL (K w.params) H a (ns.map V.int) → sp w [.ref a] H (fun v _ => v = .bl true) fun _ _ _ => False)
  (hCX : ∀ (w : World) (H : Hp) (s : Shared) (e : Value) (s' : Shared), CX w [] H s (fun _ _ _ => False) e s' → False) :
  PySem.W.WalkO q loose XP YP l.row.toRowW d [] (fun f vs => PySem.call f vs) := by
 refine Att.attach_call hn hdf fun w s₀ s₁ mg mb fa o pm cd doc a vs ns G Y ho hd hcd hmg hobj hints hlen hg => ?_
 have KX := hY w _ Y
 obtain ⟨fd, hb, hF⟩ := F w mg fa _ KX G.T.g hmg
 exact Zla KX G.T.g G.T.b G.T.builtins G.T.nolimit hg hobj hints (Nat.le_trans hlen hn2) hr hF hb (fun H hO hS => hsp w H a ns hlen hO hS) fun H e s' => hCX w H s₁ e s'
end L2
/- THE LAST THEOREM (shape; LID, My.* are yours):
  My.Adr: a structure of the addresses that your layer names (classes, functions); My.Txt K t: a structure (Prop) of the equations over K;
  My.txt_mk : {K} {implicit addresses ..} (e1 : nsIn K mainGlobals "law" = some (some (.ref f))) (e2 : K.lookup f = some ⟨oc, od, .func (fnOf "law" "law" params body scope dV kV doc pm an cdv ct), sl⟩) (e3 : codeIn K cdv "law" = true) .. : ∃ t, My.Txt K t
set_option maxRecDepth 100000 in
set_option maxHeartbeats 0 in
theorem PySem.Challenge.cw_LID_holds : PySem.Challenge.rw_LID.Holds := by
 w_on; o_law; k_head; (case hw => w_witness2)
 k_fill
 refine L2.Zjl (l := PySem.Challenge.rw_LID) (n := 63) (k := 40) (x := "script") (CX := fun w => ..) (sp := fun _ => My.sp_law) rfl (by decide) rfl ⟨rfl, by decide, by decide⟩ (fun w h Y => PySem.W.kIn_of Y) ?F ?S ?C
 case F =>
  intro w mg fa h KX G hmg
  have T : ∃ t, My.Txt (L2.KOf KX) t := by
   dsimp only [L2.KOf]                          -- K must stand as «<heap const> w.params» for k_is
   refine' My.txt_mk ?e1 ?e2 ?e3 ..
   (case e1 => PySem.W.k_is)                    -- in the order: a name -> its address -> its object -> its parts
   (case e2 => PySem.W.k_is)
   ..
  obtain ⟨t, T⟩ := T
  have e0 := hmg.symm.trans (PySem.W.mg_of KX G T.law)
  cases e0                                       -- fa is the law's own address
  exact ⟨_, fun s u => .of_eq rfl, fun base kb nb => My.law_fn T kb nb⟩     -- if «.of_eq rfl» comes too early: refine' ⟨_, ?b, fun base kb nb => My.law_fn T kb nb⟩; exact fun s u => .of_eq rfl
 case S => exact fun w H a ns hl hO hS => ..
 case C => exact ..
(the tactic k_is has no namespace: write k_is) -/
namespace L2
open PySem PySem.Spec PyProof.Rows
noncomputable def Zar (s : Stmt) : Arguments := match s with
 | .FunctionDef _ a _ _ _ _ _ _ _ _ => a
 | _ => { posonlyargs := [], args := [], vararg := none, kwonlyargs := [], kw_defaults := [], kwarg := none, defaults := [] }
noncomputable def Zaj (s : Stmt) : List Stmt := match s with
 | .FunctionDef _ _ b _ _ _ _ _ _ _ => b
 | _ => []
noncomputable def Zq (s : Stmt) : Scope := match s with
 | .FunctionDef _ _ _ _ _ _ sc _ _ _ => sc
 | _ => { kind := .function, names := [], isGenerator := false, isCoroutine := false }
noncomputable abbrev CX0 : CXT := fun _ _ _ _ _ _ => False
noncomputable abbrev E0 : XK := fun _ _ _ => False
theorem ZoM {X : Cx} : Ziq CX0 X E0 := fun _ _ _ _ _ _ _ h => h.elim
structure Fun (K : PySem.W.Frag) (x qual : Str) (st : Stmt) (f : Addr) (fd : FuncData) : Prop where
 ex : ∃ (oc : Value) (od : Option Addr) (dV kV doc pm : Value) (an : Option Addr) (cdv ct : Value) (osl : Array (Option Value)),
  fd = PySem.W.fnOf x qual (Zar st) (Zaj st) (Zq st) dV kV doc pm an cdv ct ∧ K.lookup f = some ⟨oc, od, .func fd, osl⟩ ∧ PySem.W.codeIn K cdv qual = true
 kp : PySem.W.keepIn K (.ref f) = true
section
variable {P : Program} {w : World} {K : PySem.W.Frag} {mg : Str → Option Value} {base : Heap}
theorem Fun.ok {x qual : Str} {st : Stmt} {f : Addr} {fd : FuncData} {N ps : List Str} {k : Nat} {sp : Sp} (F : Fun K x qual st f fd) (S : Zav N ps (Zq st)) (len : ∀ vs H Q E, sp vs H Q E → vs.length = ps.length)
  (hbody : ∀ (cdv : Value) (A : Around) (outer : List Env) (s : Shared) (H : Hp) (vs : List V) (Q : VK) (E : XK), Zc8 k (A.deeper (envOfC qual (Zq st) s.heap.objs.size f cdv)) → sp vs H Q E →
   ∃ t, PSs (ZhJ CX0 P w K mg base N qual (Zq st) f cdv A outer s H E).nox (Zaj st) t ∧ t { nx := fun _ H' => Q .non H', rt := Q } (start N vs) H) : Ze3 P w K mg base CX0 (k + 1) f fd ps sp := by
 obtain ⟨oc, od, dV, kV, doc, pm, an, cdv, ct, osl, rfl, lk, hcd⟩ := F.ex
 refine ZoF lk hcd S len fun A outer s H vs Q E hr hsp => ?_
 obtain ⟨t, h, q⟩ := hbody cdv A outer s H vs Q E hr hsp
 exact ⟨t, h.nox, q⟩
theorem Fun.binds {x qual : Str} {st : Stmt} {f : Addr} {fd : FuncData} {ps : List Str} (F : Fun K x qual st f fd)
  (h : ∀ (dV kV doc pm : Value) (an : Option Addr) (cdv ct : Value) (us : List Value), us.length = ps.length → bindArgs (PySem.W.fnOf x qual (Zar st) (Zaj st) (Zq st) dV kV doc pm an cdv ct) ⟨us, []⟩ = pure (ps.zip us)) : Binds K fd ps [] := by
 obtain ⟨oc, od, dV, kV, doc, pm, an, cdv, ct, osl, rfl, lk, hcd⟩ := F.ex
 exact .all (h dV kV doc pm an cdv ct)
theorem Zkg {x qual : Str} {st : Stmt} {f : Addr} {oc : Value} {od an : Option Addr} {osl : Array (Option Value)} {dV kV doc pm cdv ct : Value} (l : K.lookup f = some ⟨oc, od, .func (PySem.W.fnOf x qual (Zar st) (Zaj st) (Zq st) dV kV doc pm an cdv ct), osl⟩)
  (c : PySem.W.codeIn K cdv qual = true) (k : PySem.W.keepIn K (.ref f) = true) : Fun K x qual st f (PySem.W.fnOf x qual (Zar st) (Zaj st) (Zq st) dV kV doc pm an cdv ct) := ⟨⟨oc, od, dV, kV, doc, pm, an, cdv, ct, osl, rfl, l, c⟩, k⟩
end
section
variable {X : Cx}
end
noncomputable def Zl2 (H H' : Hp) : Prop := ∀ b o, H b = some o → H' b = some o
theorem Zl2.free {H H' : Hp} (e : Zl2 H H') {l : Addr} (h : H' l = Option.none) : H l = Option.none := by
 cases q : H l with
 | none => rfl
 | some o =>
  rw [e l o q] at h
  cases h
theorem Zl2.seq {K : PySem.W.Frag} {H H' : Hp} {a : Addr} {xs : List V} (e : Zl2 H H') (h : SqL K H a xs) : SqL K H' a xs := by
 rcases h with (h | ⟨o, h⟩) | h
 ·exact .inl (.inl (e _ _ h))
 ·exact .inl (.inr ⟨o, e _ _ h⟩)
 ·exact .inr h
end L2
namespace L2
open PySem PySem.Spec PyProof.Rows
section
variable {κ : Type} [DecidableEq κ]
noncomputable def Zel (kvs : List (κ × V)) (k : κ) : Option V := (kvs.find? fun kv => decide (kv.1 = k)).map (·.2)
noncomputable def putK (kvs : List (κ × V)) (k : κ) (v : V) : List (κ × V) :=
 if (kvs.any fun kv => decide (kv.1 = k)) = true then kvs.map (fun kv => if kv.1 = k then (kv.1, v) else kv) else kvs ++ [(k, v)]
theorem ZkS {k : κ} : Zel ([] : List (κ × V)) k = none := rfl
theorem Zf2 {p : κ × V} {r : List (κ × V)} {k : κ} (e : p.1 = k) : Zel (p :: r) k = some p.2 := by simp [Zel, List.find?_cons, e]
theorem ZfX {p : κ × V} {r : List (κ × V)} {k : κ} (e : ¬ p.1 = k) : Zel (p :: r) k = Zel r k := by simp [Zel, List.find?_cons, e]
theorem ZhT (kvs : List (κ × V)) (k : κ) (v : V) : (putK kvs k v).length ≤ kvs.length + 1 := by
 unfold putK
 split
 ·rw [List.length_map]; omega
 ·rw [List.length_append, List.length_cons, List.length_nil]; omega
theorem Zhq.getD {o : Option V} {u : Option Value} {d : V} {d' : Value} (r : Zhq o u) (rd : RelV d d') : RelV (o.getD d) (u.getD d') := by
 cases o with
 | none => cases u with
  | none => exact rd
  | some _ => exact (show False from r).elim
 | some _ => cases u with
  | none => exact (show False from r).elim
  | some _ => exact r
theorem KV.val {kvs : List (κ × V)} {vs : List (κ × Value)} (r : KV kvs vs) (k : κ) : Zhq (Zel kvs k) (valueAt vs k) := by
 unfold KV at r
 induction r with
 | nil => exact True.intro
 | @cons p q ps qs h t ih =>
  obtain ⟨h1, h2⟩ := h
  by_cases e : p.1 = k
  ·have e' : q.1 = k := h1.symm.trans e
   have b : valueAt (q :: qs) k = some q.2 := by simp [valueAt, List.find?_cons, e']
   rw [Zf2 e, b]; exact h2
  ·have e' : ¬ q.1 = k := fun z => e (h1.trans z)
   have b : valueAt (q :: qs) k = valueAt qs k := by simp [valueAt, List.find?_cons, e']
   rw [ZfX e, b]; exact ih
theorem KV.any {kvs : List (κ × V)} {vs : List (κ × Value)} (r : KV kvs vs) (k : κ) : (kvs.any fun kv => decide (kv.1 = k)) = vs.any fun kv => decide (kv.1 = k) := by
 unfold KV at r
 induction r with
 | nil => rfl
 | cons h t ih => rw [List.any_cons, List.any_cons, ih, h.1]
theorem KV.repl {kvs : List (κ × V)} {vs : List (κ × Value)} (r : KV kvs vs) (k : κ) {y : V} {u : Value} (ry : RelV y u) :
  KV (kvs.map fun kv => if kv.1 = k then (kv.1, y) else kv) (vs.map fun kv => if kv.1 = k then (kv.1, u) else kv) := by
 unfold KV at r ⊢
 induction r with
 | nil => exact .nil
 | @cons p q ps qs h t ih =>
  rw [List.map_cons, List.map_cons]
  refine .cons ?_ ih
  obtain ⟨h1, h2⟩ := h
  by_cases e : p.1 = k
  ·rw [if_pos e, if_pos (h1.symm.trans e)]; exact ⟨h1, ry⟩
  ·rw [if_neg e, if_neg (fun z => e (h1.trans z))]; exact ⟨h1, h2⟩
theorem KV.put {kvs : List (κ × V)} {vs : List (κ × Value)} (r : KV kvs vs) (k : κ) {y : V} {u : Value} (ry : RelV y u) : KV (putK kvs k y) (stored vs k u) := by
 unfold putK stored
 rw [r.any k]
 by_cases e : (vs.any fun kv => decide (kv.1 = k)) = true
 ·rw [if_pos e, if_pos e]; exact r.repl k ry
 ·rw [if_neg e, if_neg e]; exact Paired.snoc r ⟨rfl, ry⟩
theorem KV.keys {kvs : List (κ × V)} {vs : List (κ × Value)} (r : KV kvs vs) : kvs.map (·.1) = vs.map (·.1) := by
 unfold KV at r
 induction r with
 | nil => rfl
 | cons h t ih => rw [List.map_cons, List.map_cons, ih, h.1]
theorem KV.length {kvs : List (κ × V)} {vs : List (κ × Value)} (r : KV kvs vs) : kvs.length = vs.length := Paired.length r
end
theorem Zkt {P : Program} {w : World} {k : Key} {u : Value} (r : RelV (kV k) u) : (ZaY P w).is k u = true := by
 cases k with
 | inl i => obtain ⟨t, e⟩ := (show ∃ t, u = Value.int i t from r); subst e; exact ZhG P w i t
 | inr x => obtain ⟨t, e⟩ := (show ∃ t, u = Value.str x t from r); subst e; exact Zh0 P w x t
theorem ZgD {P : Program} {w : World} : ∀ {ks : List Key} {us : List Value}, Vals (ks.map kV) us → ItemsAre (ZaY P w) ks us
 | [], _, r => by rw [List.map_nil] at r; cases r; exact .nil
 | k :: ks, _, r => by
  rw [List.map_cons] at r
  cases r with
  | cons h t => exact .cons (Zkt h) (ZgD t)
noncomputable abbrev KT (H : Hp) : List (List Key × V) → List (List Key × Addr × Value) → Prop := Paired fun p q => p.1 = q.1 ∧ H q.2.1 = some (.tup (p.1.map kV)) ∧ RelV p.2 q.2.2
theorem KT.val {H : Hp} {kvs : List (List Key × V)} {xs : List (List Key × Addr × Value)} (r : KT H kvs xs) (k : List Key) : Zhq (Zel kvs k) ((atKey xs k).map (·.2)) := by
 induction r with
 | nil => exact True.intro
 | @cons p q ps qs h t ih =>
  obtain ⟨h1, _, h2⟩ := h
  by_cases e : p.1 = k
  ·have e' : q.1 = k := h1.symm.trans e
   have b : atKey (q :: qs) k = some q.2 := by simp [atKey, List.find?_cons, e']
   rw [Zf2 e, b]; exact h2
  ·have e' : ¬ q.1 = k := fun z => e (h1.trans z)
   have b : atKey (q :: qs) k = atKey qs k := by simp [atKey, List.find?_cons, e']
   rw [ZfX e, b]; exact ih
theorem KT.keeps {H H' : Hp} {kvs : List (List Key × V)} {xs : List (List Key × Addr × Value)} (r : KT H kvs xs) (ht : ∀ b ys, H b = some (.tup ys) → H' b = some (.tup ys)) : KT H' kvs xs :=
 Paired.mapP r fun _ _ z => ⟨z.1, ht _ _ z.2.1, z.2.2⟩
section
variable {P : Program} {w : World} {H : Hp} {h : Heap} {a : Addr}
theorem Zmn {u : HO} (ok : HOk P w H h) (e : Rd H a u) : ZbH P w H h a u := e.ok ok
theorem ZkM {kvs : List (Key × V)} (ok : HOk P w H h) (e : Rd H a (.dK kvs)) : kvs.length ≤ sizeLine ∧ (a == sysModules) = false ∧ ∃ vs, KV kvs vs ∧ h.DictOf (ZaY P w) a vs :=
 show ZbH P w H h a (.dK kvs) from Zmn ok e
theorem Zkv {ks : List Key} (ok : HOk P w H h) (e : H a = some (.tup (ks.map kV))) : (tupleKind (ZaY P w)).is h ks a := by
 obtain ⟨_, its, r, o, h1, h2, n, h3⟩ := (show ZbH P w H h a (.tup (ks.map kV)) from ok a _ e)
 exact ⟨o, its.toArray, n, h1, h2.1, h3, by simpa using ZgD r⟩
theorem Zmw {kvs : List (List Key × V)} (ok : HOk P w H h) (e : Rd H a (.dT kvs)) : kvs.length ≤ sizeLine ∧ (a == sysModules) = false ∧
  ∃ xs, KT H kvs xs ∧ h.DictOfH (tupleKind (ZaY P w)) a xs := by
 obtain ⟨z, y, xs, r, o, es, ep, h1, h2, h3, h4, h5⟩ := (show ZbH P w H h a (.dT kvs) from Zmn ok e)
 refine ⟨z, y, xs, r, o, es, ep, h1, h2, h3, h4, fun x hx => ?_, h5⟩
 have all : ∀ {l : List (List Key × V)} {m : List (List Key × Addr × Value)}, KT H l m → ∀ x ∈ m, (tupleKind (ZaY P w)).is h x.1 x.2.1 := by
  intro l m q
  induction q with
  | nil => intro x hx; exact nomatch hx
  | @cons p q ps qs hq t ih =>
   intro x hx
   rcases List.mem_cons.mp hx with e | hx
   ·subst e
    exact Zkv ok (by rw [← hq.1]; exact hq.2.1)
   ·exact ih x hx
 exact all r x hx
end
noncomputable def ZjA (H : Hp) (a : Addr) (y : V) (r : Option V) : Prop :=
 (∃ kvs k, Rd H a (.dK kvs) ∧ y = kV k ∧ r = Zel kvs k) ∨ ∃ kvs k b, Rd H a (.dT kvs) ∧ y = .ref b ∧ H b = some (.tup (k.map kV)) ∧ r = Zel kvs k
noncomputable def Zlo (H : Hp) (a : Addr) (y v : V) (H' : Hp) : Prop :=
 (∃ kvs k, H a = some (.dK kvs) ∧ y = kV k ∧ kvs.length < sizeLine ∧ H' = upd H a (.dK (putK kvs k v))) ∨
 ∃ kvs k b, H a = some (.dT kvs) ∧ y = .ref b ∧ H b = some (.tup (k.map kV)) ∧ kvs.length < sizeLine ∧ H' = upd H a (.dT (putK kvs k v))
theorem ZjA.k {H : Hp} {a : Addr} {kvs : List (Key × V)} {k : Key} (e : H a = some (.dK kvs)) : ZjA H a (kV k) (Zel kvs k) := .inl ⟨kvs, k, .inl e, rfl, rfl⟩
theorem ZjA.t {H : Hp} {a b : Addr} {kvs : List (List Key × V)} {k : List Key} (e : H a = some (.dT kvs)) (eb : H b = some (.tup (k.map kV))) : ZjA H a (.ref b) (Zel kvs k) := .inr ⟨kvs, k, b, .inl e, rfl, eb, rfl⟩
theorem Zlo.k {H : Hp} {a : Addr} {kvs : List (Key × V)} {k : Key} {v : V} (e : H a = some (.dK kvs)) (hl : kvs.length < sizeLine) : Zlo H a (kV k) v (upd H a (.dK (putK kvs k v))) := .inl ⟨kvs, k, e, rfl, hl, rfl⟩
theorem Zlo.t {H : Hp} {a b : Addr} {kvs : List (List Key × V)} {k : List Key} {v : V} (e : H a = some (.dT kvs)) (eb : H b = some (.tup (k.map kV))) (hl : kvs.length < sizeLine) :
  Zlo H a (.ref b) v (upd H a (.dT (putK kvs k v))) := .inr ⟨kvs, k, b, e, rfl, eb, hl, rfl⟩
section
variable {X : Cx} {pins : List (Addr × Obj)} {σ : St} {H : Hp} {s : Shared} {a : Addr} {y v : V} {u r : Value} {o : Option V} {A : Around} {E : Value → Shared → Prop}
theorem Inv.big (I : Inv X pins σ H s) : sysModules < s.heap.objs.size := by
 have h : mainGlobals < s.heap.objs.size := (I.mod.glob.keeps I.bk).lt
 exact Nat.lt_trans (by decide) h
theorem Zkf {P : Program} {w : World} {H' : Hp} {h' : Heap} {kvs : List (Key × V)} {vs : List (Key × Value)} (z : kvs.length ≤ sizeLine) (hd : (a == sysModules) = false) (rel : KV kvs vs) (dd : h'.DictOf (ZaY P w) a vs) :
  ZbH P w H' h' a (.dK kvs) := ⟨z, hd, vs, rel, dd⟩
end
section
variable {X : Cx} {pins : List (Addr × Obj)} {σ : St} {H : Hp} {s : Shared} {a : Addr} {kvs : List (Key × V)} {k : Key} {u : Value} {A : Around} {E : Value → Shared → Prop}
end
section
variable {X : Cx} {o i e value : Expr} {pos pos' tpos : Pos} {td ty tv : TE}
end
section
variable {X : Cx} {pos : Pos}
end
noncomputable def ZfJ (kvs more : List (Key × V)) : List (Key × V) := more.foldl (fun acc kv => putK acc kv.1 kv.2) kvs
theorem KV.merge : ∀ {more : List (Key × V)} {rs : List (Key × Value)} {kvs : List (Key × V)} {vs : List (Key × Value)}, KV more rs → KV kvs vs → KV (ZfJ kvs more) (merged vs rs) := by
 intro more rs kvs vs r
 unfold KV at r
 induction r generalizing kvs vs with
 | nil => intro q; exact q
 | @cons p q ps qs h t ih =>
  intro r0
  have e : KV (putK kvs p.1 p.2) (stored vs q.1 q.2) := by
   have := r0.put p.1 h.2
   rw [← h.1]; exact this
  exact ih e
theorem Zer : ∀ (more kvs : List (Key × V)), (ZfJ kvs more).length ≤ kvs.length + more.length
 | [], kvs => by show kvs.length ≤ kvs.length + 0; omega
 | p :: r, kvs => by
  have h1 := Zer r (putK kvs p.1 p.2)
  have h2 := ZhT kvs p.1 p.2
  show (ZfJ (putK kvs p.1 p.2) r).length ≤ _
  rw [List.length_cons]; omega
structure M1 (X : Cx) (o : Expr) (m : Str) (apos : Pos) (e : Expr) (cpos : Pos) : Prop where
 base : attributeBase o m X.env (eval o X.env) = eval o X.env
 few : ((backTo cpos (starEach [e] X.env)).all (fun x => !x.1) && (backToKw cpos (keywordEach [] X.env)).all (fun x => x.1.isSome)
  && decide (([e] : List Expr).length + ([] : List Keyword).length + (if ([] : List Keyword).isEmpty then 0 else 1) < 30)) = true
 line : (apos.endLine == cpos.line) = true
 trees : backTo cpos (starEach [e] X.env) = [(false, eval e X.env)]
structure M2 (X : Cx) (o : Expr) (m : Str) (apos : Pos) (e f : Expr) (cpos : Pos) : Prop where
 base : attributeBase o m X.env (eval o X.env) = eval o X.env
 few : ((backTo cpos (starEach [e, f] X.env)).all (fun x => !x.1) && (backToKw cpos (keywordEach [] X.env)).all (fun x => x.1.isSome)
  && decide (([e, f] : List Expr).length + ([] : List Keyword).length + (if ([] : List Keyword).isEmpty then 0 else 1) < 30)) = true
 line : (apos.endLine == cpos.line) = true
 trees : backTo cpos (starEach [e, f] X.env) = [(false, eval e X.env), (false, eval f X.env)]
noncomputable def IsD (H : Hp) (a : Addr) : Prop := (∃ kvs, Rd H a (.dK kvs)) ∨ ∃ kvs, Rd H a (.dT kvs)
theorem ZnI {X : Cx} {pins : List (Addr × Obj)} {σ : St} {H : Hp} {s : Shared} {a : Addr} (I : Inv X pins σ H s) (d : IsD H a) :
  s.TypeIs (.ref a) "dict" ∧ (∀ b, Value.ref a = .ref b → ∃ ob, s.heap.get? b = some ob ∧ ob.dict = none) ∧ (a == sysModules) = false := by
 rcases d with ⟨kvs, e⟩ | ⟨kvs, e⟩
 ·obtain ⟨_, hd, vs, _, dd⟩ := ZkM I.hok e
  refine ⟨dd.typeIs, fun b q => ?_, hd⟩
  cases q
  obtain ⟨ob, _, _, h1, h2, _⟩ := dd
  exact ⟨ob, h1, h2.2.1⟩
 ·obtain ⟨_, hd, xs, _, dd⟩ := Zmw I.hok e
  refine ⟨dd.typeIs, fun b q => ?_, hd⟩
  cases q
  obtain ⟨ob, _, _, h1, h2, _⟩ := dd
  exact ⟨ob, h1, h2.2.1⟩
section
variable {X : Cx} {pins : List (Addr × Obj)} {σ : St} {H : Hp} {s : Shared} {a : Addr} {y d : V} {u r : Value} {o : Option V} {A : Around} {E : Value → Shared → Prop}
theorem ZnF {Q : Value → Shared → Prop} (hu : A.units + 1 < cLine) (I : Inv X pins σ H s) (g : ZjA H a y o) (ry : RelV y u) (rd : RelV d r) (h : ∀ w' s', Inv X pins σ H s' → RelV (o.getD d) w' → Q w' s') :
  wpAny (model X.prog X.w) A (call (.builtin "dict.get") [.ref a, u, r]) Q E s := by
 rcases g with ⟨kvs, k, e, ey, l⟩ | ⟨kvs, k, b, e, ey, eb, l⟩
 ·subst ey
  obtain ⟨z, hd, vs, rel, dd⟩ := ZkM I.hok e
  refine call_meetsIn PySem.F.slot_dict_get dd.typeIs PySem.F.entry_dict_get (PySem.F.args_dict_get_3 _ _ _) (meets_dict_get_default (ZaY X.prog X.w) a (Zkt ry) hd r) ⟨_, dd.mapOf, h _ _ (I.tok _) ?_⟩
  rw [l]
  exact (rel.val k).getD rd
 ·subst ey
  cases (show u = Value.ref b from ry)
  obtain ⟨z, hd, xs, rel, dd⟩ := Zmw I.hok e
  refine call_meetsIn PySem.F.slot_dict_get dd.typeIs PySem.F.entry_dict_get (PySem.F.args_dict_get_3 _ _ _) (meetsH_dict_get_default (tupleKind (ZaY X.prog X.w)) a b hd r) ⟨tupleKind_room_in1 hu, k, xs, Zkv I.hok eb, dd, h _ _ (I.tok _) ?_⟩
  rw [l]
  exact (rel.val k).getD rd
end
noncomputable def Zm8 (td ty tx : TE) : TE := fun σ H Q => td σ H fun x H1 => ∃ a, x = .ref a ∧ IsD H1 a ∧ ty σ H1 fun y H2 => tx σ H2 fun z H3 => ∃ o, ZjA H3 a y o ∧ Q (o.getD z) H3
section
variable {X : Cx} {o e f : Expr} {apos cpos : Pos} {td ty tx : TE}
theorem ZkE (hu : X.A.units + 1 < cLine) (ho : PE X o td) (he : PE X e ty) (hf : PE X f tx) (m : M2 X o "get" apos e f cpos) : PE X (.Call (.Attribute o "get" apos) [e, f] [] cpos) (Zm8 td ty tx) := by
 intro pins s σ H Q I h
 refine wpAny_Call_method m.base m.few m.line PySem.F.plainAttrs_dict PySem.F.slot_dict_get PySem.F.type_dict_get (thn (ho pins s σ H _ I h) fun u s1 ⟨x, H1, I1, rx, a, ex, d, q1⟩ => ?_)
 subst ex
 obtain rfl : u = Value.ref a := rx
 obtain ⟨t1, t2, _⟩ := ZnI I1 d
 refine ⟨t1, t2, ?_⟩
 rw [m.trees]
 refine Calls.callWith_builtin rfl (Calls.evalArgs_plain (Calls.spliced_cons (thn (he pins s1 σ H1 _ I1 q1) fun iv s2 ⟨y, H2, I2, ry, q2⟩ =>
  Calls.spliced_cons (thn (hf pins s2 σ H2 _ I2 q2) fun fv s3 ⟨z, H3, I3, rz, ov, g, q3⟩ => Calls.spliced_nil ?_))))
 exact ZnF hu I3 g ry rz fun w' s4 I4 rw' => ⟨_, H3, I4, rw', q3⟩
end
section
variable {X : Cx} {pins : List (Addr × Obj)} {σ : St} {H : Hp} {s : Shared} {a : Addr} {kvs : List (Key × V)} {A : Around} {E : Value → Shared → Prop}
theorem Zkr {Q : Value → Shared → Prop} (I : Inv X pins σ H s) (e : Rd H a (.dK kvs)) (h : ∀ p s', H p = none → Inv X pins σ (upd H p (.dK kvs)) s' → Q (.ref p) s') : wpAny (model X.prog X.w) A (call (.type "dict") [.ref a]) Q E s := by
 obtain ⟨z, hd, vs, rel, dd⟩ := ZkM I.hok e
 refine kt_call_dict hd dd (by rw [← rel.length]; exact z) fun h' dd' hs => ?_
 refine h _ _ (I.hok.fresh (Nat.le_refl _)) (I.laid (a := s.heap.objs.size) (o := .dK kvs) (t' := s.toks) (fun b q hq => ?_) (Nat.le_refl _) (Zkf z (beq_eq_false_iff_ne.mpr (Ne.symm (Nat.ne_of_lt I.big))) rel dd'))
 exact (hs.2 b (Nat.ne_of_lt (Heap.lt_size hq))).trans (Heap.get?_push_of_some _ hq)
end
section
variable {X : Cx} {pins : List (Addr × Obj)} {σ : St} {H : Hp} {s : Shared} {a : Addr} {y : V} {u : Value} {A : Around} {E : Value → Shared → Prop}
end
end L2
namespace L3
open PySem
noncomputable section
inductive D where
 | non | bl (b : Bool) | int (i : Int) | str (x : List Nat) | tup (ds : List D) | scr (ds : List D) | ref (n : Nat)
 deriving Inhabited
noncomputable abbrev Zbj := Sum Int (List Nat)
inductive MO where
 | lst (xs : List D) | dct (kvs : List (Zbj × D)) | fdct (kvs : List (Zbj × D))
 deriving Inhabited
noncomputable abbrev Store := List MO
structure X3 where
 cls : List Nat
 arg : D
inductive R3 (α : Type) where
 | ok (a : α) (M : Store) | exc (x : X3) (M : Store) | bad
@[simp] noncomputable def R3.bind {α β : Type} (r : R3 α) (k : α → Store → R3 β) : R3 β := match r with
 | .ok a M => k a M
 | .exc x M => .exc x M
 | .bad => .bad
theorem R3.bind_ok {α β : Type} (a : α) (M : Store) (k : α → Store → R3 β) : (R3.ok a M).bind k = k a M := rfl
noncomputable def Zag : Nat → D → Bool
 | _, .non => true | _, .bl _ => true | _, .int _ => true | _, .str _ => true
 | n + 1, .tup ds => ds.all (Zag n)
 | _, _ => false
noncomputable abbrev DEEP : Nat := 60
mutual
noncomputable def deq : D → D → Bool
 | .non, .non => true
 | .bl a, .bl b => a == b
 | .int a, .int b => a == b
 | .str a, .str b => a == b
 | .tup a, .tup b => ZbW a b
 | .bl a, .int b => (if a then 1 else 0) == b
 | .int a, .bl b => a == (if b then 1 else 0)
 | _, _ => false
noncomputable def ZbW : List D → List D → Bool
 | [], [] => true
 | a :: x, b :: y => deq a b && ZbW x y
 | _, _ => false
end
mutual
noncomputable def below (n : Nat) : D → Bool
 | .tup ds => belowL n ds
 | .scr ds => belowL n ds
 | .ref k => k < n
 | .non => true | .bl _ => true | .int _ => true | .str _ => true
noncomputable def belowL (n : Nat) : List D → Bool
 | [] => true
 | d :: ds => below n d && belowL n ds
end
mutual
noncomputable def same : D → D → Bool
 | .non, .non => true
 | .bl a, .bl b => a == b
 | .int a, .int b => a == b
 | .str a, .str b => a == b
 | .tup a, .tup b => Zf6 a b
 | .scr a, .scr b => Zf6 a b
 | .ref a, .ref b => a == b
 | _, _ => false
noncomputable def Zf6 : List D → List D → Bool
 | [], [] => true
 | a :: x, b :: y => same a b && Zf6 x y
 | _, _ => false
end
mutual
theorem same_iff : ∀ {a b : D}, same a b = true ↔ a = b
 | .non, b => by cases b <;> simp [same]
 | .bl a, b => by cases b <;> simp [same]
 | .int a, b => by cases b <;> simp [same]
 | .str a, b => by cases b <;> simp [same]
 | .tup a, b => by cases b <;> simp [same, Zfh (x := a)]
 | .scr a, b => by cases b <;> simp [same, Zfh (x := a)]
 | .ref a, b => by cases b <;> simp [same]
theorem Zfh : ∀ {x y : List D}, Zf6 x y = true ↔ x = y
 | [], y => by cases y <;> simp [Zf6]
 | a :: x, y => by
  cases y with
  | nil => simp [Zf6]
  | cons b y => simp [Zf6, same_iff (a := a), Zfh (x := x)]
end
noncomputable instance : DecidableEq D := fun a b => decidable_of_iff (same a b = true) same_iff
noncomputable instance : DecidableEq MO := fun a b => match a, b with
 | .lst x, .lst y => if h : x = y then isTrue (by rw [h]) else isFalse (by intro e; cases e; exact h rfl)
 | .dct x, .dct y => if h : x = y then isTrue (by rw [h]) else isFalse (by intro e; cases e; exact h rfl)
 | .fdct x, .fdct y => if h : x = y then isTrue (by rw [h]) else isFalse (by intro e; cases e; exact h rfl)
 | .lst _, .dct _ => isFalse (by intro e; cases e)
 | .lst _, .fdct _ => isFalse (by intro e; cases e)
 | .dct _, .lst _ => isFalse (by intro e; cases e)
 | .dct _, .fdct _ => isFalse (by intro e; cases e)
 | .fdct _, .lst _ => isFalse (by intro e; cases e)
 | .fdct _, .dct _ => isFalse (by intro e; cases e)
@[simp] noncomputable abbrev SZ : Nat := 1000000
noncomputable abbrev ZaC := List (Option D)
noncomputable abbrev E3 := ZaC → Store → R3 D
noncomputable abbrev EL3 := ZaC → Store → R3 (List D)
noncomputable abbrev F3 := List D → Store → R3 D
inductive O3 where
 | nx (env : ZaC) (M : Store) | rt (d : D) (M : Store) | bk (env : ZaC) (M : Store) | ct (env : ZaC) (M : Store) | exc (x : X3) (M : Store) | bad
noncomputable abbrev S3 := ZaC → Store → O3
@[simp] noncomputable def Zb (i : Nat) : E3 := fun env M => match env[i]? with
 | some (some d) => .ok d M
 | _ => .bad
@[simp] noncomputable def eC (d : D) : E3 := fun _ M => .ok d M
@[simp] noncomputable def e1 (op : D → Store → R3 D) (f : E3) : E3 := fun env M => (f env M).bind op
@[simp] noncomputable def e2 (op : D → D → Store → R3 D) (f g : E3) : E3 := fun env M => (f env M).bind fun a M1 => (g env M1).bind fun b M2 => op a b M2
@[simp] noncomputable def Zg : EL3 := fun _ M => .ok [] M
@[simp] noncomputable def Za (f : E3) (g : EL3) : EL3 := fun env M => (f env M).bind fun a M1 => (g env M1).bind fun b M2 => .ok (a :: b) M2
@[simp] noncomputable def alloc (o : MO) (M : Store) : R3 D := .ok (.ref M.length) (M ++ [o])
section
local instance (priority := 100000) clP1 (p : Prop) : Decidable p := Classical.propDecidable p
@[simp] noncomputable def Zba (g : EL3) : E3 := fun env M => (g env M).bind fun ds M1 => if ds.length ≤ SZ then .ok (.tup ds) M1 else .bad
end
section
local instance (priority := 100000) clP2 (p : Prop) : Decidable p := Classical.propDecidable p
@[simp] noncomputable def Zbk (g : EL3) : E3 := fun env M => (g env M).bind fun ds M1 => if ds.length ≤ SZ then alloc (.lst ds) M1 else .bad
end
@[simp] noncomputable def Zcs (f g : E3) : E3 := fun env M => (f env M).bind fun a M1 => match a with
 | .bl true => g env M1
 | .bl false => .ok (.bl false) M1
 | _ => .bad
@[simp] noncomputable def eOr (f g : E3) : E3 := fun env M => (f env M).bind fun a M1 => match a with
 | .bl false => g env M1
 | .bl true => .ok (.bl true) M1
 | _ => .bad
@[simp] noncomputable def Zck (a : D) (M : Store) : R3 D := match a with
 | .bl b => .ok (.bl (!b)) M
 | _ => .bad
@[simp] noncomputable def eIf (c f g : E3) : E3 := fun env M => (c env M).bind fun a M1 => match a with
 | .bl true => f env M1
 | .bl false => g env M1
 | _ => .bad
@[simp] noncomputable def Zu (F : F3) (g : EL3) : E3 := fun env M => (g env M).bind fun ds M1 => F ds M1
section
local instance (priority := 100000) clP3 (p : Prop) : Decidable p := Classical.propDecidable p
@[simp] noncomputable def Zr (a b : D) (M : Store) : R3 D := match a, b with
 | .int i, .int j => .ok (.int (i + j)) M
 | .str x, .str y => if x.length + y.length ≤ SZ then .ok (.str (x ++ y)) M else .bad
 | .tup x, .tup y => if x.length + y.length ≤ SZ then .ok (.tup (x ++ y)) M else .bad
 | .ref n, .ref m => match M[n]?, M[m]? with
  | some (.lst x), some (.lst y) => if x.length + y.length ≤ SZ then alloc (.lst (x ++ y)) M else .bad
  | _, _ => .bad
 | _, _ => .bad
end
@[simp] noncomputable def ZcP (a b : D) (M : Store) : R3 D := match a, b with
 | .int i, .int j => .ok (.int (i - j)) M
 | _, _ => .bad
section
local instance (priority := 100000) clP4 (p : Prop) : Decidable p := Classical.propDecidable p
noncomputable def Zdb (i j : Int) : Bool := (decide (-(2 ^ 64) < i) && decide (i < 2 ^ 64)) || (decide (-(2 ^ 64) < j) && decide (j < 2 ^ 64))
end
section
local instance (priority := 100000) clP5 (p : Prop) : Decidable p := Classical.propDecidable p
@[simp] noncomputable def Zgc (a b : D) (M : Store) : R3 D := match a, b with
 | .int i, .int j => if Zdb i j then .ok (.int (i * j)) M else .bad
 | .str x, .int k => if x.length * k.toNat ≤ SZ ∧ k < 1000000 ∧ -1000000 < k then .ok (.str (List.replicate k.toNat x).flatten) M else .bad
 | .ref n, .int k => match M[n]? with
  | some (.lst x) => if x.length * k.toNat ≤ SZ ∧ k < 1000000 ∧ -1000000 < k then alloc (.lst (List.replicate k.toNat x).flatten) M else .bad
  | _ => .bad
 | _, _ => .bad
end
@[simp] noncomputable def Zaq (a b : D) (M : Store) : R3 D := match a, b with
 | .int i, .int j => if 0 < j then .ok (.int (i % j)) M else .bad
 | _, _ => .bad
section
local instance (priority := 100000) clP6 (p : Prop) : Decidable p := Classical.propDecidable p
@[simp] noncomputable def ZaE (a b : D) (M : Store) : R3 D := match a, b with
 | .int i, .int j => if 0 < j ∧ j < 1073741824 then .ok (.int (i / j)) M else .bad
 | _, _ => .bad
end
@[simp] noncomputable def Zft (a b : D) (M : Store) : R3 D := match a, b with
 | .int i, .int j => if 0 ≤ j ∧ j ≤ 1000 ∧ i.natAbs < 1000 then .ok (.int (i ^ j.toNat)) M else .bad
 | _, _ => .bad
@[simp] noncomputable def Zdv (a : D) (M : Store) : R3 D := match a with
 | .int i => .ok (.int (-i)) M
 | _ => .bad
@[simp] noncomputable def Zkp (a b : D) (M : Store) : R3 D := match a, b with
 | .int i, .int j => .ok (.bl (decide (i < j))) M
 | _, _ => .bad
@[simp] noncomputable def ZkC (a b : D) (M : Store) : R3 D := match a, b with
 | .int i, .int j => .ok (.bl (decide (i ≤ j))) M
 | _, _ => .bad
@[simp] noncomputable def Zd5 (a b : D) (M : Store) : R3 D := match a, b with
 | .int i, .int j => .ok (.bl (decide (j < i))) M
 | _, _ => .bad
@[simp] noncomputable def ZoK (a b : D) (M : Store) : R3 D := match a, b with
 | .int i, .int j => .ok (.bl (decide (j ≤ i))) M
 | _, _ => .bad
@[simp] noncomputable def eqD (a b : D) (M : Store) : Option Bool := match a, b with
 | .ref n, .ref m => match M[n]?, M[m]? with
  | some (.lst x), some (.lst y) => if x.all (Zag DEEP) && y.all (Zag DEEP) then some (ZbW x y) else none
  | _, _ => none
 | .int i, .int j => some (decide (i = j))
 | .str x, .str y => some (decide (x = y))
 | .bl x, .bl y => some (decide (x = y))
 | .tup x, .tup y => if x.all (Zag DEEP) && y.all (Zag DEEP) then some (ZbW x y) else none
 | _, _ => none
@[simp] noncomputable def Zay (a b : D) (M : Store) : R3 D := match eqD a b M with
 | some r => .ok (.bl r) M
 | none => .bad
@[simp] noncomputable def Ze7 (a b : D) (M : Store) : R3 D := match eqD a b M with
 | some r => .ok (.bl (!r)) M
 | none => .bad
@[simp] noncomputable def Zm1 (a b : D) (M : Store) : R3 D := match b with
 | .non => .ok (.bl (decide (a = .non))) M
 | _ => .bad
@[simp] noncomputable def Zbm (a b : D) (M : Store) : R3 D := match b with
 | .non => .ok (.bl (!decide (a = .non))) M
 | _ => .bad
noncomputable def Zas : D → Bool
 | .non => true | .bl _ => true | .int _ => true | .str _ => true | _ => false
@[simp] noncomputable def inD (a b : D) : Option Bool := match a, b with
 | .str [c], .str y => some (decide (c ∈ y))
 | x, .tup ys => if Zas x && ys.all Zas then some (ys.any fun y => deq y x) else none
 | _, _ => none
@[simp] noncomputable def Zkh (a b : D) (M : Store) : R3 D := match inD a b with
 | some r => .ok (.bl r) M
 | none => .bad
@[simp] noncomputable def ZoX (a b : D) (M : Store) : R3 D := match inD a b with
 | some r => .ok (.bl (!r)) M
 | none => .bad
noncomputable def ixD (n : Nat) (i : Int) : Option Nat := if 0 ≤ i then (if i < n then some i.toNat else none) else if -(n : Int) ≤ i then some (i + n).toNat else none
noncomputable def ZaT {α : Type} (xs : List α) (i : Int) : Option α := (ixD xs.length i).bind fun j => xs[j]?
@[simp] noncomputable def Zfw : D → Option Zbj
 | .int i => some (.inl i)
 | .str x => some (.inr x)
 | _ => none
noncomputable def ZcD : List (Zbj × D) → Zbj → Option D
 | [], _ => none
 | (k, v) :: r, x => if k = x then some v else ZcD r x
section
local instance (priority := 100000) clP7 (p : Prop) : Decidable p := Classical.propDecidable p
@[simp] noncomputable def Zj (a b : D) (M : Store) : R3 D := match a, b with
 | .tup ds, .int i => match ZaT ds i with
  | some d => .ok d M
  | none => .bad
 | .scr ds, .int i => match ZaT ds i with
  | some d => .ok d M
  | none => .bad
 | .str x, .int i => match ZaT x i with
  | some c => if x.length ≤ SZ then .ok (.str [c]) M else .bad
  | none => .bad
 | .ref n, .int i => match M[n]? with
  | some (.lst ds) => match ZaT ds i with
   | some d => .ok d M
   | none => .bad
  | _ => .bad
 | _, _ => .bad
end
@[simp] noncomputable def ZdY : Option MO → Option (List (Zbj × D))
 | some (.dct kvs) => some kvs
 | some (.fdct kvs) => some kvs
 | _ => none
@[simp] noncomputable def Zpj (a b : D) (M : Store) : R3 D := match a with
 | .ref n => match ZdY M[n]?, Zfw b with
  | some kvs, some x => match ZcD kvs x with
   | some d => .ok d M
   | none => .bad
  | _, _ => .bad
 | _ => .bad
noncomputable def sIx (n d : Nat) : Option Int → Nat
 | none => d
 | some v => if v < 0 then (v + (n : Int)).toNat else min v.toNat n
noncomputable def cutD {α : Type} (xs : List α) (lo hi : Option Int) : List α := (xs.drop (sIx xs.length 0 lo)).take (sIx xs.length xs.length hi - sIx xs.length 0 lo)
noncomputable abbrev EO3 := ZaC → Store → R3 (Option Int)
@[simp] noncomputable def ZaB : EO3 := fun _ M => .ok none M
@[simp] noncomputable def Zaw (f : E3) : EO3 := fun env M => (f env M).bind fun a M1 => match a with
 | .int i => .ok (some i) M1
 | _ => .bad
section
local instance (priority := 100000) clP8 (p : Prop) : Decidable p := Classical.propDecidable p
@[simp] noncomputable def ZeA (a : D) (lo hi : Option Int) (M : Store) : R3 D := match a with
 | .tup ds => .ok (.tup (cutD ds lo hi)) M
 | .scr ds => alloc (.lst (cutD ds lo hi)) M
 | .str x => if x.length ≤ SZ then .ok (.str (cutD x lo hi)) M else .bad
 | .ref n => match M[n]? with
  | some (.lst ds) => alloc (.lst (cutD ds lo hi)) M
  | _ => .bad
 | _ => .bad
end
@[simp] noncomputable def eSl (f : E3) (lo hi : EO3) : E3 := fun env M => (f env M).bind fun a M1 => (lo env M1).bind fun l M2 => (hi env M2).bind fun h M3 => ZeA a l h M3
section
local instance (priority := 100000) clP9 (p : Prop) : Decidable p := Classical.propDecidable p
@[simp] noncomputable def ZaM (ds : List D) (M : Store) : R3 D := match ds with
 | [.tup x] => .ok (.int x.length) M
 | [.scr x] => .ok (.int x.length) M
 | [.str x] => if x.length ≤ SZ then .ok (.int x.length) M else .bad
 | [.ref n] => match M[n]? with
  | some (.lst x) => .ok (.int x.length) M
  | _ => .bad
 | _ => .bad
end
@[simp] noncomputable def ZbL (ds : List D) (M : Store) : R3 D := match ds with
 | [.tup x] => .ok (.tup x) M
 | [.scr x] => .ok (.tup x) M
 | [.ref n] => match M[n]? with
  | some (.lst x) => .ok (.tup x) M
  | _ => .bad
 | _ => .bad
@[simp] noncomputable def ZpU (ds : List D) (M : Store) : R3 D := match ds with
 | [.tup x] => alloc (.lst x) M
 | [.scr x] => alloc (.lst x) M
 | [.ref n] => match M[n]? with
  | some (.lst x) => alloc (.lst x) M
  | _ => .bad
 | _ => .bad
inductive Ty3 where
 | int | bool | str | list | tuple
 deriving DecidableEq
@[simp] noncomputable def ZfE (T : Ty3) (d : D) (M : Store) : Option Bool := match d with
 | .non => some false
 | .bl _ => some (T == .bool || T == .int)
 | .int _ => some (T == .int)
 | .str _ => some (T == .str)
 | .tup _ => some (T == .tuple)
 | .scr _ => none
 | .ref n => match M[n]? with
  | some (.lst _) => some (T == .list)
  | some (.dct _) => some false
  | some (.fdct _) => none
  | none => none
@[simp] noncomputable def Ze6 (T : Ty3) (d : D) (M : Store) : R3 D := match ZfE T d M with
 | some b => .ok (.bl b) M
 | none => .bad
noncomputable def isB : D → Bool
 | .bl _ => true
 | _ => false
noncomputable def isT : D → Bool
 | .bl b => b
 | _ => false
noncomputable def allB (l : List D) : Option Bool := if l.all isB then some (l.all isT) else none
@[simp] noncomputable def Zqm (ds : List D) (M : Store) : R3 D := match ds with
 | [.ref n] => match M[n]? with
  | some (.lst x) => match allB x with
   | some b => .ok (.bl b) M
   | none => .bad
  | _ => .bad
 | _ => .bad
@[simp] noncomputable def Zms (o : D) (ds : List D) (M : Store) : R3 D := match o, ds with
 | .str x, [.str y] => if x.length ≤ SZ ∧ y.length ≤ SZ then .ok (.bl (y.isPrefixOf x)) M else .bad
 | _, _ => .bad
section
local instance (priority := 100000) clP11 (p : Prop) : Decidable p := Classical.propDecidable p
@[simp] noncomputable def ZaK (o : D) (ds : List D) (M : Store) : R3 D := match o, ds with
 | .ref n, [d] => match M[n]? with
  | some (.lst x) => if x.length < SZ then .ok .non (M.set n (.lst (x ++ [d]))) else .bad
  | _ => .bad
 | _, _ => .bad
end
section
local instance (priority := 100000) clPp (p : Prop) : Decidable p := Classical.propDecidable p
@[simp] noncomputable def Zp9 (o : D) (ds : List D) (M : Store) : R3 D := match o, ds with
 | .ref n, [.int i] => match M[n]? with
  | some (.lst x) => if -1000000 ≤ i ∧ i ≤ 1000000 then match ixD x.length i with
   | some k => match x[k]? with
    | some d => .ok d (M.set n (.lst (x.eraseIdx k)))
    | none => .bad
   | none => .bad
   else .bad
  | _ => .bad
 | .ref n, [] => match M[n]? with
  | some (.lst x) => match x[x.length - 1]? with
   | some d => .ok d (M.set n (.lst x.dropLast))
   | none => .bad
  | _ => .bad
 | _, _ => .bad
end
@[simp] noncomputable def tyS (a : D) (_ : Store) : Bool := match a with
 | .str _ => true
 | _ => false
@[simp] noncomputable def tyL (a : D) (M : Store) : Bool := match a with
 | .ref n => match M[n]? with
  | some (.lst _) => true
  | _ => false
 | _ => false
@[simp] noncomputable def ZjZ (a : D) (M : Store) : Bool := match a with
 | .ref n => (ZdY M[n]?).isSome
 | _ => false
@[simp] noncomputable def Zcg (ty : D → Store → Bool) (m : D → List D → Store → R3 D) (o : E3) (g : EL3) : E3 := fun env M => (o env M).bind fun a M1 => if ty a M1 then (g env M1).bind fun ds M2 => m a ds M2 else .bad
@[simp] noncomputable def Zaz (b : List D → Store → R3 D) (g : EL3) : E3 := fun env M => (g env M).bind fun ds M1 => b ds M1
noncomputable def putD (k : Zbj) (v : D) (kvs : List (Zbj × D)) : List (Zbj × D) :=
 if (kvs.any fun p => decide (p.1 = k)) = true then kvs.map (fun p => if p.1 = k then (p.1, v) else p) else kvs ++ [(k, v)]
noncomputable abbrev EP3 := ZaC → Store → R3 (List (Zbj × D))
@[simp] noncomputable def Zqj : EP3 := fun _ M => .ok [] M
@[simp] noncomputable def Zp2 (f g : E3) (r : EP3) : EP3 := fun env M => (f env M).bind fun a M1 => (g env M1).bind fun b M2 => match Zfw a with
 | some k => (r env M2).bind fun l M3 => .ok ((k, b) :: l) M3
 | none => .bad
noncomputable def dictOf (l : List (Zbj × D)) : List (Zbj × D) := l.foldl (fun acc p => putD p.1 p.2 acc) []
@[simp] noncomputable def Zp7 (r : EP3) : E3 := fun env M => (r env (M ++ [.dct []])).bind fun l M1 => match M1[M.length]? with
 | some (.dct []) => if l.length ≤ 15 then .ok (.ref M.length) (M1.set M.length (.dct (dictOf l))) else .bad
 | _ => .bad
@[simp] noncomputable def ZpW : E3 := fun _ M => alloc (.dct []) M
@[simp] noncomputable def e3 (op : D → D → D → Store → R3 D) (f g h : E3) : E3 := fun env M => (f env M).bind fun a M1 => (g env M1).bind fun b M2 => (h env M2).bind fun c M3 => op a b c M3
section
local instance (priority := 100000) clP12 (p : Prop) : Decidable p := Classical.propDecidable p
@[simp] noncomputable def Zpn (v a b : D) (M : Store) : R3 D := match a with
 | .ref n => match M[n]?, Zfw b with
  | some (.dct kvs), some k => if kvs.length < SZ then .ok .non (M.set n (.dct (putD k v kvs))) else .bad
  | _, _ => .bad
 | _ => .bad
end
@[simp] noncomputable def ZkW (v a b : D) (M : Store) : R3 D := match a, b with
 | .ref n, .int i => match M[n]? with
  | some (.lst xs) => match ixD xs.length i with
   | some j => .ok .non (M.set n (.lst (xs.set j v)))
   | none => .bad
  | _ => .bad
 | _, _ => .bad
@[simp] noncomputable def Zkb (o : D) (ds : List D) (M : Store) : R3 D := match o, ds with
 | .ref n, [b] => match ZdY M[n]?, Zfw b with
  | some kvs, some k => .ok ((ZcD kvs k).getD .non) M
  | _, _ => .bad
 | .ref n, [b, d] => match ZdY M[n]?, Zfw b with
  | some kvs, some k => .ok ((ZcD kvs k).getD d) M
  | _, _ => .bad
 | _, _ => .bad
noncomputable def ZcQ : List D → Option (List (Zbj × D))
 | [] => some []
 | .tup [a, b] :: r => match Zfw a with
  | some k => (ZcQ r).map fun l => (k, b) :: l
  | none => none
 | _ :: _ => none
section
local instance (priority := 100000) clP13 (p : Prop) : Decidable p := Classical.propDecidable p
@[simp] noncomputable def Zfq (ds : List D) (M : Store) : R3 D := match ds with
 | [.ref n] => match ZdY M[n]? with
  | some kvs => alloc (.dct kvs) M
  | none => .bad
 | [.tup x] => match ZcQ x with
  | some l => if l.length ≤ 100000 then alloc (.dct (dictOf l)) M else .bad
  | none => .bad
 | _ => .bad
end
@[simp] noncomputable def Zor (ds : List D) (M : Store) : R3 D := match ds with
 | [.int i] => .ok (.int i) M
 | [.bl b] => .ok (.int (if b then 1 else 0)) M
 | _ => .bad
noncomputable def ltT : List D → List D → Option Bool
 | [], [] => some false
 | [], _ :: _ => some true
 | _ :: _, [] => some false
 | .int i :: x, .int j :: y => if i = j then ltT x y else some (decide (i < j))
 | .str a :: x, .str b :: y => if a = b then ltT x y else some (decide (a < b))
 | _ :: _, _ :: _ => none
noncomputable def ltD : D → D → Option Bool
 | .tup a, .tup b => ltT a b
 | .int i, .int j => some (decide (i < j))
 | _, _ => none
noncomputable def leD (a b : D) : Prop := ltD b a = some false
noncomputable def Znd (x y : List D) : Prop := y.Perm x ∧ y.Pairwise leD
noncomputable def ZlF : D → Bool
 | .tup (.int _ :: _) => true
 | _ => false
noncomputable def ZnK : D → Bool
 | .int _ => true
 | _ => false
structure ZnO (x : List D) : Prop where
 len : x.length < 64
 kind : x.all ZlF = true ∨ x.all ZnK = true
 cmp : ∀ a ∈ x, ∀ b ∈ x, (ltD a b).isSome = true
section
local instance (priority := 100000) clPs (p : Prop) : Decidable p := Classical.propDecidable p
noncomputable def ZoL (x : List D) : List D := if h : ∃ y, Znd x y then h.choose else x
@[simp] noncomputable def ZoV (ds : List D) (M : Store) : R3 D := match ds with
 | [.ref n] => match M[n]? with
  | some (.lst x) => if ZnO x then alloc (.lst (ZoL x)) M else .bad
  | _ => .bad
 | _ => .bad
end
noncomputable def Zk5 : List D → Option (List Int)
 | [] => some []
 | .int i :: r => (Zk5 r).map (i :: ·)
 | _ :: _ => none
@[simp] noncomputable def Zqf (ds : List D) (M : Store) : R3 D := match ds with
 | [.ref n] => match M[n]? with
  | some (.lst x) => match Zk5 x with
   | some ns => .ok (.int ns.sum) M
   | none => .bad
  | _ => .bad
 | [.scr x] => match Zk5 x with
  | some ns => .ok (.int ns.sum) M
  | none => .bad
 | _ => .bad
noncomputable def Zae : S3 := fun env M => .nx env M
noncomputable def Zgz : S3 := fun _ _ => .bad
noncomputable def Zy (f g : S3) : S3 := fun env M => match f env M with
 | .nx env' M' => g env' M'
 | o => o
noncomputable def sIf (c : E3) (f g : S3) : S3 := fun env M => match c env M with
 | .ok (.bl true) M1 => f env M1
 | .ok (.bl false) M1 => g env M1
 | .exc x M1 => .exc x M1
 | _ => .bad
noncomputable def Zal (f : E3) : S3 := fun env M => match f env M with
 | .ok d M1 => .rt d M1
 | .exc x M1 => .exc x M1
 | .bad => .bad
noncomputable def ZaA (f : E3) : S3 := fun env M => match f env M with
 | .ok _ M1 => .nx env M1
 | .exc x M1 => .exc x M1
 | .bad => .bad
noncomputable def Zaf (i : Nat) (f : E3) : S3 := fun env M => match f env M with
 | .ok d M1 => .nx (env.set i (some d)) M1
 | .exc x M1 => .exc x M1
 | .bad => .bad
noncomputable def ZhW (o i f : E3) : S3 := ZaA (e3 ZkW f o i)
noncomputable abbrev G3 := D → ZaC → Option ZaC
@[simp] noncomputable def Zb2 (i : Nat) : G3 := fun d env => some (env.set i (some d))
@[simp] noncomputable def bindAll : List Nat → List D → ZaC → Option ZaC
 | [], [], env => some env
 | i :: is, d :: ds, env => bindAll is ds (env.set i (some d))
 | _, _, _ => none
@[simp] noncomputable def Zc9 (is : List Nat) : G3 := fun d env => match d with
 | .tup ds => bindAll is ds env
 | _ => none
structure It3 where
 items : List D
 lock : Option Nat
noncomputable abbrev I3 := ZaC → Store → R3 It3
section
local instance (priority := 100000) clP14 (p : Prop) : Decidable p := Classical.propDecidable p
@[simp] noncomputable def ZfC (f : E3) : I3 := fun env M => (f env M).bind fun a M1 => match a with
 | .tup ds => .ok ⟨ds, none⟩ M1
 | .scr ds => .ok ⟨ds, none⟩ M1
 | .str x => if x.length ≤ SZ then .ok ⟨x.map fun c => .str [c], none⟩ M1 else .bad
 | .ref n => match M1[n]? with
  | some (.lst ds) => .ok ⟨ds, some n⟩ M1
  | _ => .bad
 | _ => .bad
end
noncomputable def Zcl (lo : Int) (n : Nat) : List D := (List.range n).map fun (k : Nat) => D.int (lo + (k : Int))
section
local instance (priority := 100000) clP15 (p : Prop) : Decidable p := Classical.propDecidable p
@[simp] noncomputable def ZbM (f : E3) : I3 := fun env M => (f env M).bind fun a M1 => match a with
 | .int j => if j ≤ 1000000 ∧ -1000000 ≤ j then .ok ⟨Zcl 0 j.toNat, none⟩ M1 else .bad
 | _ => .bad
end
section
local instance (priority := 100000) clP16 (p : Prop) : Decidable p := Classical.propDecidable p
@[simp] noncomputable def ZfH (f g : E3) : I3 := fun env M => (f env M).bind fun a M1 => (g env M1).bind fun b M2 => match a, b with
 | .int i, .int j => if (j ≤ 1000000 ∧ -1000000 ≤ j) ∧ (i ≤ 1000000 ∧ -1000000 ≤ i) then .ok ⟨Zcl i (j - i).toNat, none⟩ M2 else .bad
 | _, _ => .bad
end
noncomputable def locked (it : It3) (M : Store) : Bool := match it.lock with
 | none => true
 | some n => decide (M[n]? = some (.lst it.items))
noncomputable def ZbR (it : It3) (g : G3) (body : S3) : List D → ZaC → Store → O3
 | [], env, M => if locked it M then .nx env M else .bad
 | d :: ds, env, M => if locked it M then match g d env with
  | none => .bad
  | some env1 => match body env1 M with
   | .nx e M' => ZbR it g body ds e M'
   | .ct e M' => ZbR it g body ds e M'
   | .bk e M' => .nx e M'
   | o => o
  else .bad
noncomputable def ZeF (i : I3) (g : G3) (body : S3) : S3 := fun env M => match i env M with
 | .ok it M1 => ZbR it g body it.items env M1
 | .exc x M1 => .exc x M1
 | .bad => .bad
noncomputable def ZdB (c : E3) (body : S3) : Nat → ZaC → Store → O3
 | 0, _, _ => .bad
 | n + 1, env, M => match c env M with
  | .ok (.bl true) M1 => match body env M1 with
   | .nx e M' => ZdB c body n e M'
   | .ct e M' => ZdB c body n e M'
   | .bk e M' => .nx e M'
   | o => o
  | .ok (.bl false) M1 => .nx env M1
  | .exc x M1 => .exc x M1
  | _ => .bad
noncomputable def Zlk (c : E3) (body : S3) : S3 := ZdB c body 1000000
noncomputable def ZdT : List E3 → ZaC → Store → R3 Bool
 | [], _, M => .ok true M
 | c :: cs, env, M => (c env M).bind fun a M1 => match a with
  | .bl true => ZdT cs env M1
  | .bl false => .ok false M1
  | _ => .bad
section
local instance (priority := 100000) clP17 (p : Prop) : Decidable p := Classical.propDecidable p
noncomputable def Zds (it : It3) (g : G3) (ifs : List E3) (elt : E3) (n : Nat) : List D → ZaC → Store → R3 D
 | [], _, M => if locked it M then .ok (.ref n) M else .bad
 | d :: ds, env, M => if locked it M then match g d env with
  | none => .bad
  | some env1 => (ZdT ifs env1 M).bind fun b M1 => if b then (elt env1 M1).bind fun e M2 => match M2[n]? with
    | some (.lst x) => if x.length < SZ then Zds it g ifs elt n ds env1 (M2.set n (.lst (x ++ [e]))) else .bad
    | _ => .bad
   else Zds it g ifs elt n ds env1 M1
  else .bad
end
noncomputable def eLC (i : I3) (own : Nat) (g : G3) (ifs : List E3) (elt : E3) : E3 := fun env M => (i env M).bind fun it M1 =>
 Zds it g ifs elt M1.length it.items (env ++ List.replicate own none) (M1 ++ [.lst []])
noncomputable def Ze8 (n : Nat) : MO → Bool
 | .lst xs => belowL n xs
 | .dct kvs => belowL n (kvs.map (·.2))
 | .fdct kvs => belowL n (kvs.map (·.2))
noncomputable def ZcM (M : Store) (d : D) (M' : Store) : R3 D :=
 if below M.length d && (decide (M'.take M.length = M) || (M'.take M.length).all (Ze8 M.length)) then .ok d (M'.take M.length) else .ok d M'
noncomputable def mkF (ps n : Nat) (body : S3) : F3 := fun ds M => if ds.length = ps then match body (ds.map some ++ List.replicate (n - ps) none) M with
  | .nx _ M' => ZcM M .non M'
  | .rt d M' => ZcM M d M'
  | .exc x M' => .exc x M'
  | _ => .bad
 else .bad
end
end L3
namespace L3
theorem ZkI {it : It3} {i n : Nat} {elt : E3} {R : D → D → Prop} {env0 : ZaC} : ∀ (ds : List D) (acc : List D) (env : ZaC) (M : Store), (∀ d, env.set i (some d) = env0.set i (some d)) →
  (∀ d ∈ ds, ∀ x, ∃ e, elt (env0.set i (some d)) (M.set n (.lst x)) = .ok e (M.set n (.lst x)) ∧ R d e) → (∀ x, locked it (M.set n (.lst x)) = true) → M[n]? = some (.lst acc) → acc.length + ds.length ≤ SZ →
  ∃ es, es.length = ds.length ∧ (∀ (j : Nat) d e, ds[j]? = some d → es[j]? = some e → R d e) ∧ Zds it (Zb2 i) [] elt n ds env M = .ok (.ref n) (M.set n (.lst (acc ++ es))) := by
 intro ds
 induction ds with
 | nil =>
  intro acc env M _ _ hl hM _
  have e : M.set n (.lst acc) = M := by
   apply List.ext_getElem?
   intro j
   by_cases hj : j = n
   ·subst hj
    rw [List.getElem?_set_self (List.getElem?_eq_some_iff.mp hM).1, hM]
   ·rw [List.getElem?_set_ne (Ne.symm hj)]
  have hl' := hl acc
  rw [e] at hl'
  exact ⟨[], rfl, fun j d e h => by simp at h, by simp only [Zds, hl', if_true, List.append_nil, e]⟩
 | cons d ds ih =>
  intro acc env M he hf hl hM hz
  have hn : n < M.length := (List.getElem?_eq_some_iff.mp hM).1
  have e : M.set n (.lst acc) = M := by
   apply List.ext_getElem?
   intro j
   by_cases hj : j = n
   ·subst hj
    rw [List.getElem?_set_self hn, hM]
   ·rw [List.getElem?_set_ne (Ne.symm hj)]
  have hl' := hl acc
  rw [e] at hl'
  obtain ⟨v, hf', hR⟩ := hf d List.mem_cons_self acc
  rw [e] at hf'
  have hz' : acc.length < SZ := by simp at hz ⊢; omega
  obtain ⟨es, le, re, h⟩ := ih (acc ++ [v]) (env0.set i (some d)) (M.set n (.lst (acc ++ [v]))) (fun d' => by rw [List.set_set]) (fun d' hd' x => by rw [List.set_set]; exact hf d' (List.mem_cons_of_mem _ hd') x) (fun x => by rw [List.set_set]; exact hl x) (by rw [List.getElem?_set_self hn]) (by simp at hz ⊢; omega)
  refine ⟨v :: es, by simp [le], fun j d' e' h1 h2 => ?_, ?_⟩
  ·cases j with
   | zero => simp at h1 h2; subst h1 h2; exact hR
   | succ j => exact re j d' e' (by simpa using h1) (by simpa using h2)
  ·simp only [Zds, hl', if_true, Zb2, he d, ZdT, R3.bind_ok, hf', hM, hz']
   rw [h, List.set_set]
   simp
theorem Zed {it : It3} {g : G3} {body : S3} {P : Nat → ZaC → Store → Prop} : ∀ (ds : List D) (j : Nat) (env : ZaC) (M : Store), P j env M → (∀ j env M, P j env M → locked it M = true) →
  (∀ (k : Nat) d, ds[k]? = some d → ∀ env M, P (j + k) env M → ∃ env1 e' M', g d env = some env1 ∧ body env1 M = .nx e' M' ∧ P (j + k + 1) e' M') → ∃ e' M', ZbR it g body ds env M = .nx e' M' ∧ P (j + ds.length) e' M' := by
 intro ds
 induction ds with
 | nil => intro j env M p hl _; exact ⟨env, M, by simp only [ZbR, hl j env M p, if_true], p⟩
 | cons d ds ih =>
  intro j env M p hl hs
  obtain ⟨env1, e', M', h1, h2, p'⟩ := hs 0 d rfl env M p
  obtain ⟨e2, M2, h3, p2⟩ := ih (j + 1) e' M' p' hl fun k d' hd' env M p => by
   have := hs (k + 1) d' (by simpa using hd') env M (by rw [show j + (k + 1) = j + 1 + k by omega]; exact p)
   rw [show j + (k + 1) + 1 = j + 1 + k + 1 by omega] at this
   exact this
  exact ⟨e2, M2, by simp only [ZbR, hl j env M p, if_true, h1, h2, h3], by rw [List.length_cons, show j + (ds.length + 1) = j + 1 + ds.length by omega]; exact p2⟩
theorem Ze {f g : S3} {env env' : ZaC} {M M' : Store} (h : f env M = .nx env' M') : Zy f g env M = g env' M' := by rw [Zy, h]
theorem Zce {f g : S3} {env : ZaC} {M M' : Store} {d : D} (h : f env M = .rt d M') : Zy f g env M = .rt d M' := by rw [Zy, h]
theorem ZaQ {c : E3} {f g : S3} {env : ZaC} {M M' : Store} (h : c env M = .ok (.bl true) M') : sIf c f g env M = f env M' := by rw [sIf, h]
theorem ZcC {c : E3} {f g : S3} {env : ZaC} {M M' : Store} (h : c env M = .ok (.bl false) M') : sIf c f g env M = g env M' := by rw [sIf, h]
theorem ZaH {f : E3} {env : ZaC} {M M' : Store} {d : D} (h : f env M = .ok d M') : Zal f env M = .rt d M' := by rw [Zal, h]
theorem Zt {f : E3} {i : Nat} {env env' : ZaC} {M M' : Store} {d : D} (h : f env M = .ok d M') (he : env.set i (some d) = env' := by first | (dsimp only [List.set_cons_succ, List.set_cons_zero] <;> exact rfl) | exact rfl) : Zaf i f env M = .nx env' M' := by rw [Zaf, h]; simp only [he]
theorem Zn {c : E3} {f : S3} {env : ZaC} {M M' : Store} (h : c env M = .ok (.bl false) M') : sIf c f Zae env M = .nx env M' := by rw [sIf, h]; rfl
theorem Zc4 {f : E3} {env : ZaC} {M M' : Store} {d : D} (h : f env M = .ok d M') : ZaA f env M = .nx env M' := by rw [ZaA, h]
theorem Zdg {i : I3} {g : G3} {u : S3} {env : ZaC} {M M' : Store} {it : It3} (h : i env M = .ok it M') : ZeF i g u env M = ZbR it g u it.items env M' := by rw [ZeF, h]
theorem Zk8 {i : I3} {own : Nat} {g : G3} {ts : List E3} {f : E3} {env : ZaC} {M M' : Store} {it : It3} (h : i env M = .ok it M') : eLC i own g ts f env M = Zds it g ts f M'.length it.items (env ++ List.replicate own none) (M' ++ [.lst []]) := by rw [eLC, h]; rfl
theorem Zdo {ps n : Nat} {body : S3} {ds : List D} {env : ZaC} {M M' : Store} {d : D} (h : body env M = .rt d M') (hl : ds.length = ps := by rfl) (he : ds.map some ++ List.replicate (n - ps) none = env := by rfl) : mkF ps n body ds M = ZcM M d M' := by rw [mkF, if_pos hl, he, h]
theorem ZmA {ps n : Nat} {body : S3} {ds : List D} {env env' : ZaC} {M M' : Store} (h : body env M = .nx env' M') (hl : ds.length = ps := by rfl) (he : ds.map some ++ List.replicate (n - ps) none = env := by rfl) : mkF ps n body ds M = ZcM M .non M' := by rw [mkF, if_pos hl, he, h]
theorem ZkN {M G : Store} {d : D} (h : below M.length d = true) : ZcM M d (M ++ G) = .ok d M := by
 simp [ZcM, h]
theorem ZjN {M : Store} {d : D} (h : below M.length d = true) : ZcM M d M = .ok d M := by
 simp [ZcM, h]
end L3
namespace L3
theorem Za8 {α : Type} (M : List α) (x : α) (xs : List α) : (M ++ x :: xs)[M.length]? = some x := by simp
theorem ZcG {α : Type} (M xs : List α) (k : Nat) : (M ++ xs)[M.length + k]? = xs[k]? := by
 rw [List.getElem?_append_right (by omega)]; congr 1; omega
theorem Zao {α : Type} {M : List α} {n : Nat} {o : α} (h : M[n]? = some o) (xs : List α) : (M ++ xs)[n]? = some o := by
 rw [List.getElem?_append_left (List.getElem?_eq_some_iff.mp h).1, h]
theorem ZdF {α : Type} (xs : List α) (k : Nat) : ZaT xs (k : Int) = xs[k]? := by
 unfold ZaT ixD
 rw [if_pos (Int.natCast_nonneg k)]
 by_cases h : k < xs.length
 ·rw [if_pos (by omega)]; simp
 ·rw [if_neg (by omega)]; simp at h ⊢; omega
@[simp] theorem ZaW {α : Type} (xs : List α) (k : Nat) : ZaT xs (k : Int) = xs[k]? := ZdF xs k
@[simp] theorem Zod {α : Type} (xs : List α) (n : Nat) : ZaT xs (no_index (OfNat.ofNat n : Int)) = xs[(OfNat.ofNat n : Nat)]? := ZdF xs n
@[simp] theorem ZgY {α : Type} (xs : List α) : ZaT xs (-1) = xs.getLast? := by
 unfold ZaT ixD
 rw [if_neg (by decide), List.getLast?_eq_getElem?]
 by_cases h : 0 < xs.length
 ·rw [if_pos (by omega)]
  simp only [Option.bind_some]
  congr 1; omega
 ·have : xs = [] := by simpa using h
  subst this; rfl
theorem Zjd (n k : Nat) : ixD n (k : Int) = if k < n then some k else none := by
 unfold ixD
 rw [if_pos (Int.natCast_nonneg k)]
 by_cases h : k < n
 ·rw [if_pos (by omega), if_pos h]; simp
 ·rw [if_neg (by omega), if_neg h]
@[simp] theorem Zou (n k : Nat) : ixD n (k : Int) = if k < n then some k else none := Zjd n k
@[simp] theorem ZoY (m n : Nat) : ixD m (no_index (OfNat.ofNat n : Int)) = if (OfNat.ofNat n : Nat) < m then some (OfNat.ofNat n : Nat) else none := Zjd m n
theorem getD_last {α : Type} (xs : List α) (x : α) : ZaT (xs ++ [x]) (-1) = some x := by
 unfold ZaT ixD
 rw [if_neg (by decide), if_pos (by simp; omega)]
 have : (-1 + ((xs ++ [x]).length : Int)).toNat = xs.length := by simp; omega
 simp only [Option.bind_some, this]
 simp
theorem ZlO {α : Type} (xs : List α) (k : Nat) (h : xs.length ≤ k) : cutD xs none (some (k : Int)) = xs := by
 unfold cutD sIx
 simp only [List.drop_zero]
 rw [if_neg (by omega), List.take_of_length_le (by simp; omega)]
inductive Row where
 | put (a : Nat) (n : Int) | add (a b c : Nat) | sub (a b c : Nat) | more (a b c : Nat) | get (a b : Nat) | set (a b : Nat) | jump (k : Nat) | when (a k : Nat) | tell (a : Nat) | halt
 deriving Inhabited
noncomputable def Zf : Row → D
 | .put a n => .tup [.str [112, 117, 116], .int a, .int n]
 | .add a b c => .tup [.str [97, 100, 100], .int a, .int b, .int c]
 | .sub a b c => .tup [.str [115, 117, 98], .int a, .int b, .int c]
 | .more a b c => .tup [.str [109, 111, 114, 101], .int a, .int b, .int c]
 | .get a b => .tup [.str [103, 101, 116], .int a, .int b]
 | .set a b => .tup [.str [115, 101, 116], .int a, .int b]
 | .jump k => .tup [.str [106, 117, 109, 112], .int k]
 | .when a k => .tup [.str [119, 104, 101, 110], .int a, .int k]
 | .tell a => .tup [.str [116, 101, 108, 108], .int a]
 | .halt => .tup [.str [104, 97, 108, 116]]
noncomputable def Row.ok (many : Nat) : Row → Prop
 | .put a _ => a < 8
 | .add a b c => a < 8 ∧ b < 8 ∧ c < 8
 | .sub a b c => a < 8 ∧ b < 8 ∧ c < 8
 | .more a b c => a < 8 ∧ b < 8 ∧ c < 8
 | .get a b => a < 8 ∧ b < 8
 | .set a b => a < 8 ∧ b < 8
 | .jump k => k < many
 | .when a k => a < 8 ∧ k < many
 | .tell a => a < 8
 | .halt => True
noncomputable abbrev Zdl := List Row
noncomputable def Zw (r : Zdl) : D := .tup (r.map Zf)
structure Zdp (r : Zdl) : Prop where
 rows : ∀ x ∈ r, x.ok r.length
 last : ∃ q x, r = q ++ [x] ∧ (x = .halt ∨ ∃ k, x = .jump k)
structure Stt where
 place : Nat
 boxes : List Int
 cells : List (Int × Int)
 deriving Inhabited, DecidableEq
noncomputable def Zi (bs : List Int) : D := .tup (bs.map D.int)
noncomputable def Zhu (c : Int × Int) : D := .tup [.int c.1, .int c.2]
noncomputable def Za0 (cs : List (Int × Int)) : D := .tup (cs.map Zhu)
noncomputable def Stt.ok (r : Zdl) (s : Stt) : Prop := s.place < r.length ∧ s.boxes.length = 8
noncomputable def Row.tells (bs : List Int) : Row → Option Int
 | .tell a => bs[a]?
 | _ => none
noncomputable def Row.isHalt : Row → Bool
 | .halt => true
 | _ => false
@[simp] theorem ZnZ {a : Nat} {n : Int} {bs : List Int} : (Row.put a n).tells bs = none := rfl
@[simp] theorem Znp {a : Nat} {n : Int} : (Row.put a n).isHalt = false := rfl
@[simp] theorem Zn0 {a : Nat} {b : Nat} {c : Nat} {bs : List Int} : (Row.add a b c).tells bs = none := rfl
@[simp] theorem ZmZ {a : Nat} {b : Nat} {c : Nat} : (Row.add a b c).isHalt = false := rfl
@[simp] theorem ZnW {a : Nat} {b : Nat} {c : Nat} {bs : List Int} : (Row.sub a b c).tells bs = none := rfl
@[simp] theorem ZmS {a : Nat} {b : Nat} {c : Nat} : (Row.sub a b c).isHalt = false := rfl
@[simp] theorem Znm {a : Nat} {b : Nat} {c : Nat} {bs : List Int} : (Row.more a b c).tells bs = none := rfl
@[simp] theorem Zmj {a : Nat} {b : Nat} {c : Nat} : (Row.more a b c).isHalt = false := rfl
@[simp] theorem Zn1 {a : Nat} {b : Nat} {bs : List Int} : (Row.get a b).tells bs = none := rfl
@[simp] theorem Znf {a : Nat} {b : Nat} : (Row.get a b).isHalt = false := rfl
@[simp] theorem ZnX {a : Nat} {b : Nat} {bs : List Int} : (Row.set a b).tells bs = none := rfl
@[simp] theorem ZnH {a : Nat} {b : Nat} : (Row.set a b).isHalt = false := rfl
@[simp] theorem ZmE {k : Nat} {bs : List Int} : (Row.jump k).tells bs = none := rfl
@[simp] theorem Zml {k : Nat} : (Row.jump k).isHalt = false := rfl
@[simp] theorem ZnU {a : Nat} {k : Nat} {bs : List Int} : (Row.when a k).tells bs = none := rfl
@[simp] theorem Zmi {a : Nat} {k : Nat} : (Row.when a k).isHalt = false := rfl
@[simp] theorem ZmH {a : Nat} {bs : List Int} : (Row.tell a).tells bs = bs[a]? := rfl
@[simp] theorem Zmv {a : Nat} : (Row.tell a).isHalt = false := rfl
@[simp] theorem ZmL  {bs : List Int} : (Row.halt).tells bs = none := rfl
@[simp] theorem Zmf  : (Row.halt).isHalt = true := rfl
theorem ZdJ (n : Nat) (i : Int) : Zag n (.int i) = true := by cases n <;> rfl
theorem Zkx (n : Nat) (i : List Nat) : Zag n (.str i) = true := by cases n <;> rfl
theorem ZgU (n : Nat) (bs : List Int) : Zag (n + 1) (Zi bs) = true := by simp [Zi, Zag, ZdJ]
mutual
theorem Zjn : ∀ (n : Nat) (d : D), Zag n d = true → deq d d = true
 | _, .non, _ => rfl
 | _, .bl _, _ => by simp [deq]
 | _, .int _, _ => by simp [deq]
 | _, .str _, _ => by simp [deq]
 | 0, .tup _, h => by simp [Zag] at h
 | n + 1, .tup ds, h => by simp only [deq]; exact ZeD n ds (by simpa [Zag] using h)
 | _, .scr _, h => by simp [Zag] at h
 | _, .ref _, h => by simp [Zag] at h
theorem ZeD : ∀ (n : Nat) (ds : List D), (∀ d ∈ ds, Zag n d = true) → ZbW ds ds = true
 | _, [], _ => rfl
 | n, d :: ds, h => by
  simp only [ZbW, Bool.and_eq_true]
  exact ⟨Zjn n d (h d List.mem_cons_self), ZeD n ds fun x hx => h x (List.mem_cons_of_mem _ hx)⟩
end
theorem Ze9 {ds : List D} (h : ds.all (Zag DEEP) = true) : ZbW ds ds = true := ZeD DEEP ds (by simpa using h)
end L3
namespace L3
noncomputable def Rt (o : O3) (d : D) : Prop := ∃ M', o = .rt d M'
theorem Rt.set {i : Nat} {f : E3} {g : S3} {env env' : ZaC} {M M' : Store} {d r : D} (h : f env M = .ok d M') (k : Rt (g env' M') r) (he : env.set i (some d) = env' := by first | (dsimp only [List.set_cons_succ, List.set_cons_zero] <;> exact rfl) | exact rfl) : Rt (Zy (Zaf i f) g env M) r := by
 rw [Rt, Ze (Zt h he)]; exact k
theorem Rt.skip {c : E3} {u g : S3} {env : ZaC} {M M' : Store} {r : D} (h : c env M = .ok (.bl false) M') (k : Rt (g env M') r) : Rt (Zy (sIf c u Zae) g env M) r := by
 rw [Rt, Ze (Zn h)]; exact k
theorem Rt.loop {i : I3} {t : G3} {u g : S3} {env env' : ZaC} {M M' M1 : Store} {it : It3} {r : D} (h : i env M = .ok it M1) (hl : ZbR it t u it.items env M1 = .nx env' M') (k : Rt (g env' M') r) : Rt (Zy (ZeF i t u) g env M) r := by
 rw [Rt, Ze ((Zdg h).trans hl)]; exact k
theorem Rt.ret {f : E3} {env : ZaC} {M M' : Store} {d : D} (h : f env M = .ok d M') : Rt (Zal f env M) d := ⟨M', ZaH h⟩
theorem Rt.law {ps n : Nat} {body : S3} {ds : List D} {env : ZaC} {b : Bool} (h : Rt (body env []) (.bl b)) (hl : ds.length = ps := by rfl) (he : ds.map some ++ List.replicate (n - ps) none = env := by rfl) : ∃ M', mkF ps n body ds [] = .ok (.bl b) M' := by
 obtain ⟨M', h⟩ := h
 exact ⟨_, (Zdo h hl he).trans (by rw [ZcM, if_pos (by simp [below])])⟩
theorem Rt.pure {ps n : Nat} {body : S3} {ds : List D} {env : ZaC} {M G : Store} {d : D} (h : body env M = .rt d (M ++ G)) (hd : below M.length d = true) (hl : ds.length = ps := by rfl) (he : ds.map some ++ List.replicate (n - ps) none = env := by rfl) : mkF ps n body ds M = .ok d M :=
 (Zdo h hl he).trans (ZkN hd)
theorem Zl7 {n : Nat} {lo : Int} {j : Nat} {d : D} (h : (Zcl lo n)[j]? = some d) : d = .int (lo + j) ∧ j < n := by
 unfold Zcl at h
 rw [List.getElem?_map] at h
 cases q : (List.range n)[j]? with
 | none => rw [q] at h; cases h
 | some k =>
  rw [q] at h
  obtain ⟨hi, e⟩ := List.getElem?_eq_some_iff.mp q
  rw [List.getElem_range] at e
  subst e
  simp at h hi
  exact ⟨h.symm, hi⟩
theorem ZdQ (lo : Int) (n : Nat) : (Zcl lo n).length = n := by simp [Zcl]
end L3
namespace L3
theorem Zeg {o arg : E3} {env : ZaC} {M M2 : Store} {n : Nat} {xs ys : List D} {d : D} (ho : o env M = .ok (.ref n) M) (hM : M[n]? = some (.lst xs)) (ha : arg env M = .ok d M2) (hM2 : M2[n]? = some (.lst ys)) (hz : ys.length < 1000000) :
  Zcg tyL ZaK o (Za arg Zg) env M = .ok .non (M2.set n (.lst (ys ++ [d]))) := by
 simp [ho, hM, ha, hM2, hz]
theorem ZaR {op : D → D → Store → R3 D} {f g : E3} {env : ZaC} {M M1 M2 M3 : Store} {a b d : D} (h1 : f env M = .ok a M1) (h2 : g env M1 = .ok b M2) (h3 : op a b M2 = .ok d M3) : e2 op f g env M = .ok d M3 := by
 simp only [e2, h1, h2, h3, R3.bind]
theorem ZcV {F : F3} {f : E3} {env : ZaC} {M M1 M2 : Store} {a d : D} (h1 : f env M = .ok a M1) (h2 : F [a] M1 = .ok d M2) : Zu F (Za f Zg) env M = .ok d M2 := by
 simp only [Zu, Za, Zg, h1, h2, R3.bind]
theorem ZcZ {F : F3} {f g : E3} {env : ZaC} {M M1 M2 M3 : Store} {a b d : D} (h1 : f env M = .ok a M1) (h2 : g env M1 = .ok b M2) (h3 : F [a, b] M2 = .ok d M3) : Zu F (Za f (Za g Zg)) env M = .ok d M3 := by
 simp only [Zu, Za, Zg, h1, h2, h3, R3.bind]
theorem Zcm {F : F3} {f g h : E3} {env : ZaC} {M M1 M2 M3 M4 : Store} {a b c d : D} (h1 : f env M = .ok a M1) (h2 : g env M1 = .ok b M2) (h3 : h env M2 = .ok c M3) (h4 : F [a, b, c] M3 = .ok d M4) : Zu F (Za f (Za g (Za h Zg))) env M = .ok d M4 := by
 simp only [Zu, Za, Zg, h1, h2, h3, h4, R3.bind]
@[simp] theorem ZpL (a b : Ty3) : (a == b) = decide (a = b) := by cases a <;> cases b <;> rfl
theorem Zin {F : F3} {f g h k : E3} {env : ZaC} {M M1 M2 M3 M4 M5 : Store} {a b c d e : D} (h1 : f env M = .ok a M1) (h2 : g env M1 = .ok b M2) (h3 : h env M2 = .ok c M3) (h4 : k env M3 = .ok d M4) (h5 : F [a, b, c, d] M4 = .ok e M5) : Zu F (Za f (Za g (Za h (Za k Zg)))) env M = .ok e M5 := by
 simp only [Zu, Za, Zg, h1, h2, h3, h4, h5, R3.bind]
theorem Zmu {b : List D → Store → R3 D} {f : E3} {env : ZaC} {M M1 M2 : Store} {a d : D} (h1 : f env M = .ok a M1) (h2 : b [a] M1 = .ok d M2) : Zaz b (Za f Zg) env M = .ok d M2 := by
 simp only [Zaz, Za, Zg, h1, h2, R3.bind]
theorem ZiT {op : D → Store → R3 D} {f : E3} {env : ZaC} {M M1 M2 : Store} {a d : D} (h1 : f env M = .ok a M1) (h2 : op a M1 = .ok d M2) : e1 op f env M = .ok d M2 := by
 simp only [e1, h1, h2, R3.bind]
theorem Zkl {f g : E3} {env : ZaC} {M M1 : Store} (h1 : f env M = .ok (.bl false) M1) : eOr f g env M = g env M1 := by simp only [eOr, h1, R3.bind]
theorem Zoe {f g : E3} {env : ZaC} {M M1 : Store} (h1 : f env M = .ok (.bl true) M1) : eOr f g env M = .ok (.bl true) M1 := by simp only [eOr, h1, R3.bind]
theorem ZeH {f g : E3} {env : ZaC} {M M1 : Store} (h1 : f env M = .ok (.bl true) M1) : Zcs f g env M = g env M1 := by simp only [Zcs, h1, R3.bind]
theorem Zlc {f g : E3} {env : ZaC} {M M1 : Store} (h1 : f env M = .ok (.bl false) M1) : Zcs f g env M = .ok (.bl false) M1 := by simp only [Zcs, h1, R3.bind]
theorem Zmo {c f g : E3} {env : ZaC} {M M1 : Store} (h1 : c env M = .ok (.bl true) M1) : eIf c f g env M = f env M1 := by simp only [eIf, h1, R3.bind]
theorem Zmr {c f g : E3} {env : ZaC} {M M1 : Store} (h1 : c env M = .ok (.bl false) M1) : eIf c f g env M = g env M1 := by simp only [eIf, h1, R3.bind]
theorem ZnD {α : Type} {enc : α → D} {h : α → D} {own : Nat} {i : Nat} {it : I3} {elt : E3} {env : ZaC} {M M1 : Store} {lock : Option Nat} {as : List α} (hi : it env M = .ok ⟨as.map enc, lock⟩ M1) (hlock : ∀ n, lock = some n → M1[n]? = some (.lst (as.map enc)))
  (he : ∀ a ∈ as, ∀ M, elt ((env ++ List.replicate own none).set i (some (enc a))) M = .ok (h a) M) (hz : as.length ≤ 100000) : eLC it own (Zb2 i) [] elt env M = .ok (.ref M1.length) (M1 ++ [.lst (as.map h)]) := by
 rw [Zk8 hi]
 obtain ⟨es, le, re, hh⟩ := ZkI (it := ⟨as.map enc, lock⟩) (i := i) (n := M1.length) (elt := elt) (R := fun d e => ∀ a ∈ as, d = enc a → e = h a) (env0 := env ++ List.replicate own none) (as.map enc) [] (env ++ List.replicate own none) (M1 ++ [.lst []]) (fun _ => rfl)
  (fun d hd x => by
   obtain ⟨a, ha, rfl⟩ := List.mem_map.mp hd
   refine ⟨h a, he a ha _, fun b hb e => ?_⟩
   have h1 := he a ha []
   have h2 := he b hb []
   rw [e, h2] at h1
   injection h1 with h1 _
   exact h1.symm)
  (fun x => by
   cases lock with
   | none => rfl
   | some n =>
    have hn := hlock n rfl
    have hlt := (List.getElem?_eq_some_iff.mp hn).1
    simp only [locked, decide_eq_true_eq]
    rw [List.getElem?_set_ne (by omega), List.getElem?_append_left hlt, hn]) (by simp) (by simp; omega)
 rw [show (⟨as.map enc, lock⟩ : It3).items = as.map enc from rfl, hh]
 have : es = as.map h := by
  apply List.ext_getElem?
  intro j
  rw [List.getElem?_map]
  cases ha : as[j]? with
  | none =>
   have : as.length ≤ j := by simpa using ha
   simp [le]; exact this
  | some a =>
   have hj : j < es.length := by
    have := (List.getElem?_eq_some_iff.mp ha).1
    simpa [le] using this
   have h2 := re j (enc a) es[j] (by simp [ha]) (by simp [hj]) a (List.mem_of_getElem? ha) rfl
   rw [List.getElem?_eq_getElem hj, h2]; rfl
 rw [this]
 simp
end L3
namespace L3
noncomputable def Zfa (t : List (Int × Int)) : List (Zbj × D) := t.map fun p => (.inl p.1, .int p.2)
noncomputable def keysOk (t : List (Int × Int)) : Prop := (t.map (·.1)).Nodup
noncomputable def Zfz : List (Int × Int) → Int → Int
 | [], _ => 0
 | (k, v) :: r, n => if k = n then v else Zfz r n
theorem ZkJ (t : List (Int × Int)) (n : Int) : ZcD (Zfa t) (.inl n) = (if t.any (fun p => decide (p.1 = n)) = true then some (D.int (Zfz t n)) else none) := by
 induction t with
 | nil => rfl
 | cons p t ih =>
  obtain ⟨k, v⟩ := p
  show (if (Sum.inl k : Zbj) = Sum.inl n then some (D.int v) else ZcD (Zfa t) (.inl n)) = _
  by_cases e : k = n
  ·simp [e, Zfz]
  ·rw [if_neg (by simp [e]), ih]
   simp only [List.any_cons, Zfz, if_neg e, decide_eq_false e, Bool.false_or]
theorem ZjE {t : List (Int × Int)} {n : Int} (h : ¬ t.any (fun p => decide (p.1 = n)) = true) : Zfz t n = 0 := by
 induction t with
 | nil => rfl
 | cons p t ih =>
  obtain ⟨k, v⟩ := p
  simp only [List.any_cons, Bool.or_eq_true, decide_eq_true_eq, not_or] at h
  simp only [Zfz, if_neg h.1]
  exact ih (by simpa using h.2)
theorem Zke (t : List (Int × Int)) (n : Int) : (ZcD (Zfa t) (.inl n)).getD (.int 0) = .int (Zfz t n) := by
 rw [ZkJ]
 by_cases c : (t.any fun p => decide (p.1 = n)) = true
 ·rw [if_pos c]; rfl
 ·rw [if_neg c, ZjE c]; rfl
noncomputable def Zhg (cs : List (Int × Int)) : Prop := cs.Pairwise fun a b => a.1 < b.1
theorem Zhg.keys {cs : List (Int × Int)} (h : Zhg cs) : keysOk cs := by
 unfold keysOk Zhg at *
 rw [List.Nodup, List.pairwise_map]
 exact h.imp fun h => by omega
noncomputable def ZeQ (cs : List (Int × Int)) (n v : Int) : List (Int × Int) := cs.filter (fun c => decide (c.1 < n)) ++ (if v ≠ 0 then [(n, v)] else []) ++ cs.filter (fun c => decide (n < c.1))
theorem Zhr {cs : List (Int × Int)} {n v : Int} (h : Zhg cs) : Zhg (ZeQ cs n v) := by
 unfold ZeQ Zhg at *
 have hm : ∀ q ∈ (if v ≠ 0 then [(n, v)] else []), q.1 = n := fun q hq => by
  by_cases c : v ≠ 0
  ·rw [if_pos c] at hq; simp at hq; rw [hq]
  ·rw [if_neg c] at hq; simp at hq
 refine List.pairwise_append.mpr ⟨List.pairwise_append.mpr ⟨h.filter _, ?_, fun a ha b hb => ?_⟩, h.filter _, fun a ha b hb => ?_⟩
 ·by_cases c : v ≠ 0
  ·rw [if_pos c]; simp
  ·rw [if_neg c]; simp
 ·have h1 := (List.mem_filter.mp ha).2
  rw [hm b hb]; simpa using h1
 ·have h2 : n < b.1 := by simpa using (List.mem_filter.mp hb).2
  rcases List.mem_append.mp ha with ha | ha
  ·have : a.1 < n := by simpa using (List.mem_filter.mp ha).2
   omega
  ·rw [hm a ha]; exact h2
noncomputable def Row.place (bs : List Int) (p : Nat) : Row → Nat
 | .jump k => k
 | .when a k => if 0 < bs.getD a 0 then k else p + 1
 | _ => p + 1
noncomputable def Row.boxes (bs : List Int) (cs : List (Int × Int)) : Row → List Int
 | .put a n => bs.set a n
 | .add a b c => bs.set a (bs.getD b 0 + bs.getD c 0)
 | .sub a b c => bs.set a (bs.getD b 0 - bs.getD c 0)
 | .more a b c => bs.set a (if bs.getD c 0 < bs.getD b 0 then 1 else 0)
 | .get a b => bs.set a (Zfz cs (bs.getD b 0))
 | _ => bs
noncomputable def Row.cells (bs : List Int) (cs : List (Int × Int)) : Row → List (Int × Int)
 | .set a b => ZeQ cs (bs.getD a 0) (bs.getD b 0)
 | _ => cs
noncomputable def Zi4 (s : Stt) (r : Row) : Option Stt := if r.isHalt then none else some ⟨r.place s.boxes s.place, r.boxes s.boxes s.cells, r.cells s.boxes s.cells⟩
noncomputable def Zjh (roll : Zdl) (s : Stt) : Option Stt := (roll[s.place]?).bind (Zi4 s)
theorem Ziu (cs : List (Int × Int)) : ZcQ (cs.map Zhu) = some (Zfa cs) := by
 induction cs with
 | nil => rfl
 | cons p cs ih => simp only [List.map_cons, Zhu, ZcQ, Zfw, ih, Option.map_some, Zfa]
theorem Zk0 (kvs : List (Zbj × D)) (k j : Zbj) (v : D) : ZcD (putD k v kvs) j = if j = k then some v else ZcD kvs j := by
 have mp : ∀ l : List (Zbj × D), ZcD (l.map fun p => if p.1 = k then (p.1, v) else p) j = if j = k then (if l.any (fun p => decide (p.1 = k)) then some v else none) else ZcD l j := by
  intro l
  induction l with
  | nil => simp [ZcD]
  | cons p l ih =>
   obtain ⟨a, b⟩ := p
   rw [List.map_cons]
   by_cases e : a = k
   ·subst e
    simp only [if_true, ZcD]
    by_cases ej : a = j
    ·subst ej; simp
    ·rw [if_neg ej, ih, if_neg (Ne.symm ej), if_neg (Ne.symm ej), if_neg ej]
   ·simp only [if_neg e, ZcD]
    by_cases ej : a = j
    ·subst ej; simp [e]
    ·rw [if_neg ej, ih, if_neg ej]; simp only [List.any_cons, decide_eq_false e, Bool.false_or]
 have ap : ∀ l : List (Zbj × D), ¬ l.any (fun p => decide (p.1 = k)) = true → ZcD (l ++ [(k, v)]) j = if j = k then some v else ZcD l j := by
  intro l
  induction l with
  | nil => intro _; simp only [List.nil_append, ZcD]; by_cases e : k = j <;> simp [e, Ne.symm, eq_comm]
  | cons p l ih =>
   intro h
   obtain ⟨a, b⟩ := p
   simp only [List.any_cons, Bool.or_eq_true, decide_eq_true_eq, not_or] at h
   simp only [List.cons_append, ZcD]
   by_cases ej : a = j
   ·subst ej; rw [if_pos rfl, if_neg h.1, if_pos rfl]
   ·rw [if_neg ej, if_neg ej]; exact ih (by simpa using h.2)
 unfold putD
 by_cases c : (kvs.any fun p => decide (p.1 = k)) = true
 ·rw [if_pos c, mp, c]; simp
 ·rw [if_neg c]; exact ap kvs c
theorem ZgM : ∀ (l acc : List (Zbj × D)) (j : Zbj), (l.map (·.1)).Nodup → ZcD (l.foldl (fun a p => putD p.1 p.2 a) acc) j = (match ZcD l j with | some v => some v | none => ZcD acc j)
 | [], acc, j, _ => rfl
 | p :: l, acc, j, h => by
  obtain ⟨k, v⟩ := p
  simp only [List.map_cons, List.nodup_cons] at h
  rw [List.foldl_cons, ZgM l _ j h.2, Zk0]
  simp only [ZcD]
  by_cases e : k = j
  ·subst e
   have : ZcD l k = none := by
    have hn := h.1
    clear h
    induction l with
    | nil => rfl
    | cons q l ih =>
     simp only [List.map_cons, List.mem_cons, not_or] at hn
     simp only [ZcD]
     rw [if_neg (Ne.symm hn.1)]; exact ih hn.2
   rw [this]; simp
  ·rw [if_neg e, if_neg (Ne.symm e)]
theorem Zj4 {t : List (Int × Int)} (h : keysOk t) : ((Zfa t).map (·.1)).Nodup := by
 unfold keysOk at h
 simp only [Zfa, List.map_map]
 rw [List.Nodup, List.pairwise_map] at *
 exact h.imp fun h e => h (by simpa using e)
theorem ZjY {t : List (Int × Int)} (h : keysOk t) (n : Int) : (ZcD (dictOf (Zfa t)) (.inl n)).getD (.int 0) = .int (Zfz t n) := by
 unfold dictOf
 rw [ZgM _ _ _ (Zj4 h), ← Zke]
 cases ZcD (Zfa t) (.inl n) <;> rfl
end L3
namespace L3
theorem Zip {cs : List (Int × Int)} (h : Zhg cs) (n v : Int) : (ZeQ cs n v).length ≤ cs.length + 1 := by
 unfold ZeQ
 have f : (cs.filter (fun c => decide (c.1 < n))).length + (cs.filter (fun c => decide (n < c.1))).length ≤ cs.length := by
  clear h
  induction cs with
  | nil => simp
  | cons c cs ih =>
   simp only [List.filter_cons]
   by_cases h1 : c.1 < n
   ·have h2 : ¬ n < c.1 := by omega
    simp only [h1, h2, decide_true, decide_false, if_true, Bool.false_eq_true, if_false, List.length_cons]; omega
   ·by_cases h2 : n < c.1
    ·simp only [h1, h2, decide_true, decide_false, if_true, Bool.false_eq_true, if_false, List.length_cons]; omega
    ·simp only [h1, h2, decide_false, Bool.false_eq_true, if_false, List.length_cons]; omega
 rw [List.length_append, List.length_append]
 split <;> simp only [List.length_cons, List.length_nil] <;> omega
end L3
namespace L3
structure Good (roll : Zdl) (s : Stt) : Prop where
 pl : s.place < roll.length
 bx : s.boxes.length = 8
 rs : Zhg s.cells
theorem ZjX (r : Row) (bs : List Int) (cs : List (Int × Int)) : (r.boxes bs cs).length = bs.length := by cases r <;> simp [Row.boxes]
theorem ZjQ {roll : Zdl} (R : Zdp roll) {s s' : Stt} (g : Good roll s) (h : Zjh roll s = some s') : Good roll s' ∧ s'.cells.length ≤ s.cells.length + 1 := by
 obtain ⟨hp, hb, hc⟩ := g
 have hr : roll[s.place]? = some roll[s.place] := by simp [hp]
 have ro := R.rows _ (List.getElem_mem hp)
 unfold Zjh at h
 rw [hr] at h
 have h' : Zi4 s roll[s.place] = some s' := h
 unfold Zi4 at h'
 split at h'
 ·cases h'
 ·rename_i nh
  cases h'
  have nl : roll[s.place] ≠ .halt → (∀ k, roll[s.place] ≠ .jump k) → s.place + 1 < roll.length := fun n1 n2 => by
   obtain ⟨q, x, e, hx⟩ := R.last
   have hl : roll.length = q.length + 1 := by rw [e]; simp
   by_cases c : s.place = q.length
   ·have : roll[s.place] = x := by
     have := hr
     simp only [e, c] at this
     simp at this
     simp [c, e]
    rw [this] at n1 n2
    rcases hx with hx | ⟨k, hx⟩
    ·exact absurd hx n1
    ·exact absurd hx (n2 k)
   ·omega
  have nh' : roll[s.place] ≠ .halt := fun z => by rw [z] at nh; simp at nh
  refine ⟨⟨?_, by rw [ZjX]; exact hb, ?_⟩, ?_⟩
  ·generalize roll[s.place] = r at ro nl nh'
   cases r with
   | jump k => exact ro
   | when a k =>
    show (if 0 < s.boxes.getD a 0 then k else s.place + 1) < _
    split
    ·exact ro.2
    ·exact nl nh' (fun _ z => by cases z)
   | halt => exact absurd rfl nh'
   | _ => exact nl nh' (fun _ z => by cases z)
  ·generalize roll[s.place] = r
   cases r with
   | set a b => exact Zhr hc
   | _ => exact hc
  ·generalize roll[s.place] = r
   cases r with
   | set a b => exact Zip hc _ _
   | _ => exact Nat.le_succ _
end L3
namespace L3
noncomputable def ZlX (i : Int) : List Nat := (PySem.Str.ofString (toString i)).cps.toList
noncomputable section
local instance (priority := 100000) clQ1 (p : Prop) : Decidable p := Classical.propDecidable p
@[simp] noncomputable def Zqn (ds : List D) (M : Store) : R3 D := match ds with
 | [.int i] => if i.natAbs.log2 < 1920 then .ok (.str (ZlX i)) M else .bad
 | [.str x] => .ok (.str x) M
 | _ => .bad
noncomputable def Zme : List D → Option (List (List Nat))
 | [] => some []
 | .str x :: ds => (Zme ds).map (x :: ·)
 | _ => none
noncomputable def glue (sep : List Nat) : List (List Nat) → List Nat
 | [] => []
 | [x] => x
 | x :: y :: xs => x ++ sep ++ glue sep (y :: xs)
noncomputable def ZlS (sep : List Nat) (ts : List (List Nat)) : Nat := (ts.map fun t => t.length + sep.length).sum
@[simp] noncomputable def ZpQ (o : D) (ds : List D) (M : Store) : R3 D := match o, ds with
 | .str sep, [.ref n] => match M[n]? with
  | some (.lst x) => match Zme x with
   | some ts => if ZlS sep ts ≤ SZ then .ok (.str (glue sep ts)) M else .bad
   | none => .bad
  | _ => .bad
 | _, _ => .bad
noncomputable def Znl (x y : List Nat) : List (List Nat) := (PySem.Txt.split ⟨x.toArray⟩ ⟨y.toArray⟩).map fun t => t.cps.toList
@[simp] noncomputable def Zpb (o : D) (ds : List D) (M : Store) : R3 D := match o, ds with
 | .str x, [.str y] => if 0 < y.length ∧ x.length + 2 ≤ SZ then alloc (.lst ((Znl x y).map D.str)) M else .bad
 | _, _ => .bad
@[simp] noncomputable def Zli (ds : List D) (M : Store) : R3 D := match ds with
 | [.str x] => match PySem.intText? ⟨x.toArray⟩ with
  | some n => if x.length ≤ 640 then .ok (.int n) M else .bad
  | none => .bad
 | ds => Zor ds M
@[simp] noncomputable def ZoZ (T1 T2 : Ty3) (d : D) (M : Store) : R3 D := match ZfE T1 d M, ZfE T2 d M with
 | some a, some b => .ok (.bl (a || b)) M
 | _, _ => .bad
end
end L3
namespace L3
noncomputable section
noncomputable def Zie (f : E3) (g : G3) : S3 := fun env M => match f env M with
 | .ok d M1 => match g d env with
  | some env1 => .nx env1 M1
  | none => .bad
 | .exc x M1 => .exc x M1
 | .bad => .bad
structure ItL where
 items : List D
 lk : List (Nat × List D)
noncomputable def Zbp (lk : List (Nat × List D)) (M : Store) : Bool := lk.all fun q => decide (M[q.1]? = some (.lst q.2))
noncomputable def ZdD (lk : List (Nat × List D)) (g : G3) (body : S3) : List D → ZaC → Store → O3
 | [], env, M => if Zbp lk M then .nx env M else .bad
 | d :: ds, env, M => if Zbp lk M then match g d env with
  | none => .bad
  | some env1 => match body env1 M with
   | .nx e M' => ZdD lk g body ds e M'
   | .ct e M' => ZdD lk g body ds e M'
   | .bk e M' => .nx e M'
   | o => o
  else .bad
noncomputable abbrev IL3 := ZaC → Store → R3 ItL
noncomputable def Zf9 (i : IL3) (g : G3) (body : S3) : S3 := fun env M => match i env M with
 | .ok it M1 => ZdD it.lk g body it.items env M1
 | .exc x M1 => .exc x M1
 | .bad => .bad
noncomputable def Zdc : Nat → List D → List D
 | _, [] => []
 | k, d :: ds => .tup [.int k, d] :: Zdc (k + 1) ds
@[simp] noncomputable def ZhV (f : E3) : IL3 := fun env M => (f env M).bind fun a M1 => match a with
 | .tup ds => .ok ⟨Zdc 0 ds, []⟩ M1
 | .ref n => match M1[n]? with
  | some (.lst ds) => .ok ⟨Zdc 0 ds, [(n, ds)]⟩ M1
  | _ => .bad
 | _ => .bad
@[simp] noncomputable def ZiV (a b : D) (M : Store) : R3 D := match a, b with
 | .tup [.int i, .int j], .tup [.int k, .int l] => .ok (.bl (decide (i < k) || (decide (i = k) && decide (j ≤ l)))) M
 | _, _ => .bad
noncomputable def Zp0 (f : E3) (is : List Nat) : S3 := fun env M => match f env M with
 | .ok (.ref n) M1 => (match M1[n]? with
  | some (.lst ds) => (match bindAll is ds env with
   | some env1 => .nx env1 M1
   | none => .bad)
  | _ => .bad)
 | _ => .bad
@[simp] noncomputable def ZpY (ds : List D) (M : Store) : R3 D := match ds with
 | [.int i, .int j] => .ok (.int (if j > i then j else i)) M
 | _ => .bad
@[simp] noncomputable def Zp4 (ds : List D) (M : Store) : R3 D := match ds with
 | [.int i, .int j] => .ok (.int (if j < i then j else i)) M
 | _ => .bad
noncomputable def ZpA (a c : Int) (n : Nat) : List D := (List.range n).map fun (k : Nat) => D.int (a + (k : Int) * c)
noncomputable def Zpd (a b c : Int) : Nat := if a < b then ((b - a - 1) / c + 1).toNat else 0
@[simp] noncomputable def Zp8 (f g h : E3) : E3 := fun env M => (f env M).bind fun x M1 => (g env M1).bind fun y M2 => (h env M2).bind fun z M3 => match x, y, z with
 | .int a, .int b, .int c => if 0 < c ∧ c ≤ 1000 ∧ -1000000 ≤ a ∧ a ≤ 1000000 ∧ -1000000 ≤ b ∧ b ≤ 1000000 then alloc (.lst (ZpA a c (Zpd a b c))) M3 else .bad
 | _, _, _ => .bad
@[simp] noncomputable def ZpM (a b : D) (M : Store) : R3 D := match a, b with
 | .bl x, .bl y => .ok (.bl (decide (x = y))) M
 | _, _ => .bad
@[simp] noncomputable def ZgW (a b : D) (M : Store) : R3 D := match b with
 | .ref n => match M[n]? with
  | some (.lst ys) => if Zas a && ys.all Zas then .ok (.bl (ys.any fun y => deq y a)) M else .bad
  | _ => .bad
 | _ => .bad
theorem Zff : ∀ (k : Nat) (ds : List D) (i : Nat), (Zdc k ds)[i]? = (ds[i]?).map fun d => .tup [.int ((k + i : Nat) : Int), d]
 | _, [], _ => by simp [Zdc]
 | k, d :: ds, 0 => by simp [Zdc]
 | k, d :: ds, i + 1 => by
  simp only [Zdc, List.getElem?_cons_succ, Zff (k + 1) ds i]
  rw [show k + 1 + i = k + (i + 1) by omega]
theorem Zfd : ∀ (k : Nat) (ds : List D), (Zdc k ds).length = ds.length
 | _, [] => rfl
 | k, d :: ds => by simp [Zdc, Zfd (k + 1) ds]
end
end L3
namespace L3
noncomputable section
noncomputable def ZeL : List D → List D → List D
 | a :: x, b :: y => .tup [a, b] :: ZeL x y
 | _, _ => []
@[simp] noncomputable def Zj1 (f g : E3) : IL3 := fun env M => (f env M).bind fun a M1 => (g env M1).bind fun b M2 => match a, b with
 | .ref n, .ref m => match M2[n]?, M2[m]? with
  | some (.lst x), some (.lst y) => .ok ⟨ZeL x y, [(n, x), (m, y)]⟩ M2
  | _, _ => .bad
 | _, _ => .bad
section
local instance (priority := 100000) clZ1 (p : Prop) : Decidable p := Classical.propDecidable p
noncomputable def ZdA (lk : List (Nat × List D)) (g : G3) (ifs : List E3) (elt : E3) (n : Nat) : List D → ZaC → Store → R3 D
 | [], _, M => if Zbp lk M then .ok (.ref n) M else .bad
 | d :: ds, env, M => if Zbp lk M then match g d env with
  | none => .bad
  | some env1 => (ZdT ifs env1 M).bind fun b M1 => if b then (elt env1 M1).bind fun v M2 => match M2[n]? with
    | some (.lst xs) => if xs.length < SZ then ZdA lk g ifs elt n ds env1 (M2.set n (.lst (xs ++ [v]))) else .bad
    | _ => .bad
   else ZdA lk g ifs elt n ds env1 M1
  else .bad
end
noncomputable def Zll (i : IL3) (own : Nat) (g : G3) (ifs : List E3) (elt : E3) : E3 := fun env M => (i env M).bind fun it M1 => ZdA it.lk g ifs elt M1.length it.items (env ++ List.replicate own none) (M1 ++ [.lst []])
section
local instance (priority := 100000) clZ2 (p : Prop) : Decidable p := Classical.propDecidable p
@[simp] noncomputable def Zcp (o : D) (ds : List D) (M : Store) : R3 D := match o, ds with
 | .ref n, [.ref m] => match M[n]?, M[m]? with
  | some (.lst x), some (.lst y) => if n ≠ m ∧ x.length + y.length ≤ SZ then .ok .non (M.set n (.lst (x ++ y))) else .bad
  | _, _ => .bad
 | .ref n, [.tup y] => match M[n]? with
  | some (.lst x) => if x.length + y.length ≤ SZ then .ok .non (M.set n (.lst (x ++ y))) else .bad
  | _ => .bad
 | _, _ => .bad
end
@[simp] noncomputable def Zpm (o : D) (ds : List D) (M : Store) : R3 D := match o, ds with
 | .ref n, [] => match M[n]? with
  | some (.lst _) => .ok .non (M.set n (.lst []))
  | _ => .bad
 | _, _ => .bad
theorem Ze0 : ∀ (x y : List D) (i : Nat), (ZeL x y)[i]? = (match x[i]?, y[i]? with | some a, some b => some (D.tup [a, b]) | _, _ => none)
 | [], y, i => by cases y <;> simp [ZeL]
 | a :: x, [], i => by simp [ZeL]
 | a :: x, b :: y, 0 => by simp [ZeL]
 | a :: x, b :: y, i + 1 => by simp only [ZeL, List.getElem?_cons_succ, Ze0 x y i]
theorem Zge : ∀ (x y : List D), (ZeL x y).length = min x.length y.length
 | [], y => by cases y <;> simp [ZeL]
 | a :: x, [] => by simp [ZeL]
 | a :: x, b :: y => by simp only [ZeL, List.length_cons, Zge x y]; omega
end
end L3
namespace L3
open PySem PySem.Spec PyProof.Rows L2
noncomputable abbrev St := L2.St
theorem ZbK : SZ ≤ sizeLine := by rw [sizeLine_eq]; decide
noncomputable def SqF (K : PySem.W.Frag) (H : Hp) (a : Addr) (xs : List V) : Prop :=
 (∃ o, H a = some (.frz o (.lst xs))) ∨
  ∃ (o : Obj) (its : Array Value) (n : Nat), K.lookup a = some o ∧ o.cls = .type "list" ∧ o.dict = none ∧ o.data = .seq its n ∧ its.size ≤ sizeLine ∧ Vals xs its.toList
theorem SqF.sq {K : PySem.W.Frag} {H : Hp} {a : Addr} {xs : List V} (h : SqF K H a xs) : SqL K H a xs := by
 rcases h with ⟨o, h⟩ | h
 ·exact .inl (.inr ⟨o, h⟩)
 ·exact .inr h
mutual
noncomputable def Rep (K : PySem.W.Frag) (H : Hp) (ι : List Addr) : D → V → Prop
 | .non, v => v = .non
 | .bl b, v => v = .bl b
 | .int i, v => v = .int i
 | .str x, v => v = .str ⟨x.toArray⟩
 | .tup ds, v => ∃ a vs, v = .ref a ∧ SqT K H a vs ∧ Zaa K H ι ds vs
 | .scr ds, v => ∃ a vs, v = .ref a ∧ SqF K H a vs ∧ Zaa K H ι ds vs
 | .ref n, v => ∃ a, ι[n]? = some a ∧ v = .ref a
noncomputable def Zaa (K : PySem.W.Frag) (H : Hp) (ι : List Addr) : List D → List V → Prop
 | [], vs => vs = []
 | d :: ds, vs => ∃ v ws, vs = v :: ws ∧ Rep K H ι d v ∧ Zaa K H ι ds ws
end
structure Ext (K : PySem.W.Frag) (H : Hp) (ι : List Addr) (H' : Hp) (ι' : List Addr) : Prop where
 tup : ∀ a xs, SqT K H a xs → SqT K H' a xs
 scr : ∀ a xs, SqF K H a xs → SqF K H' a xs
 pre : ∀ (n : Nat) (a : Addr), ι[n]? = some a → ι'[n]? = some a
 frz : ∀ a o u, H a = some (.frz o u) → H' a = some (.frz o u)
section
variable {K : PySem.W.Frag} {H H' H1 H2 : Hp} {ι ι' ι1 ι2 : List Addr}
theorem Ext.refl : Ext K H ι H ι := ⟨fun _ _ h => h, fun _ _ h => h, fun _ _ h => h, fun _ _ _ h => h⟩
theorem Ext.trans (a : Ext K H ι H1 ι1) (b : Ext K H1 ι1 H2 ι2) : Ext K H ι H2 ι2 :=
 ⟨fun x xs h => b.tup x xs (a.tup x xs h), fun x xs h => b.scr x xs (a.scr x xs h), fun n x h => b.pre n x (a.pre n x h), fun x o u h => b.frz x o u (a.frz x o u h)⟩
mutual
theorem Rep.mono (e : Ext K H ι H' ι') : ∀ {d : D} {v : V}, Rep K H ι d v → Rep K H' ι' d v
 | .non, _, h => by simpa [Rep] using h
 | .bl _, _, h => by simpa [Rep] using h
 | .int _, _, h => by simpa [Rep] using h
 | .str _, _, h => by simpa [Rep] using h
 | .tup ds, _, h => by
  simp only [Rep] at h ⊢
  obtain ⟨a, vs, rfl, s, r⟩ := h
  exact ⟨a, vs, rfl, e.tup _ _ s, Zaa.mono e (ds := ds) r⟩
 | .scr ds, _, h => by
  simp only [Rep] at h ⊢
  obtain ⟨a, vs, rfl, s, r⟩ := h
  exact ⟨a, vs, rfl, e.scr _ _ s, Zaa.mono e (ds := ds) r⟩
 | .ref n, _, h => by
  simp only [Rep] at h ⊢
  obtain ⟨a, s, rfl⟩ := h
  exact ⟨a, e.pre _ _ s, rfl⟩
theorem Zaa.mono (e : Ext K H ι H' ι') : ∀ {ds : List D} {vs : List V}, Zaa K H ι ds vs → Zaa K H' ι' ds vs
 | [], _, h => by simpa [Zaa] using h
 | d :: ds, _, h => by
  simp only [Zaa] at h ⊢
  obtain ⟨v, ws, rfl, r, q⟩ := h
  exact ⟨v, ws, rfl, Rep.mono e (d := d) r, Zaa.mono e (ds := ds) q⟩
end
mutual
theorem Rep.keep (ht : ∀ a xs, SqT K H a xs → SqT K H' a xs) (hs : ∀ a xs, SqF K H a xs → SqF K H' a xs) : ∀ {d : D} {v : V}, Rep K H ι d v → Rep K H' ι d v
 | .non, _, h => by simpa [Rep] using h
 | .bl _, _, h => by simpa [Rep] using h
 | .int _, _, h => by simpa [Rep] using h
 | .str _, _, h => by simpa [Rep] using h
 | .tup ds, _, h => by
  simp only [Rep] at h ⊢
  obtain ⟨a, vs, rfl, s, r⟩ := h
  exact ⟨a, vs, rfl, ht _ _ s, Zaa.keep ht hs (ds := ds) r⟩
 | .scr ds, _, h => by
  simp only [Rep] at h ⊢
  obtain ⟨a, vs, rfl, s, r⟩ := h
  exact ⟨a, vs, rfl, hs _ _ s, Zaa.keep ht hs (ds := ds) r⟩
 | .ref n, _, h => by simpa [Rep] using h
theorem Zaa.keep (ht : ∀ a xs, SqT K H a xs → SqT K H' a xs) (hs : ∀ a xs, SqF K H a xs → SqF K H' a xs) : ∀ {ds : List D} {vs : List V}, Zaa K H ι ds vs → Zaa K H' ι ds vs
 | [], _, h => by simpa [Zaa] using h
 | d :: ds, _, h => by
  simp only [Zaa] at h ⊢
  obtain ⟨v, ws, rfl, r, q⟩ := h
  exact ⟨v, ws, rfl, Rep.keep ht hs (d := d) r, Zaa.keep ht hs (ds := ds) q⟩
end
theorem Zaa.nil : Zaa K H ι [] [] := by simp [Zaa]
theorem Zaa.cons {d : D} {ds : List D} {v : V} {vs : List V} (h : Rep K H ι d v) (t : Zaa K H ι ds vs) : Zaa K H ι (d :: ds) (v :: vs) := by
 simp only [Zaa]
 exact ⟨v, vs, rfl, h, t⟩
theorem Zaa.nil_inv {vs : List V} (h : Zaa K H ι [] vs) : vs = [] := by simpa [Zaa] using h
theorem Zaa.cons_inv {d : D} {ds : List D} {vs : List V} (h : Zaa K H ι (d :: ds) vs) : ∃ v ws, vs = v :: ws ∧ Rep K H ι d v ∧ Zaa K H ι ds ws := by simpa [Zaa] using h
theorem Zaa.length : ∀ {ds : List D} {vs : List V}, Zaa K H ι ds vs → vs.length = ds.length
 | [], _, h => by rw [h.nil_inv]; rfl
 | d :: ds, _, h => by
  obtain ⟨v, ws, rfl, _, q⟩ := h.cons_inv
  simp [q.length]
theorem Zaa.append : ∀ {ds es : List D} {vs ws : List V}, Zaa K H ι ds vs → Zaa K H ι es ws → Zaa K H ι (ds ++ es) (vs ++ ws)
 | [], _, _, _, h, q => by rw [h.nil_inv]; exact q
 | d :: ds, _, _, _, h, q => by
  obtain ⟨v, us, rfl, r, t⟩ := h.cons_inv
  exact Zaa.cons r (t.append q)
theorem Zaa.drop : ∀ {ds : List D} {vs : List V} (n : Nat), Zaa K H ι ds vs → Zaa K H ι (ds.drop n) (vs.drop n)
 | _, _, 0, h => h
 | [], _, n + 1, h => by rw [h.nil_inv]; exact Zaa.nil
 | d :: ds, _, n + 1, h => by
  obtain ⟨v, us, rfl, r, t⟩ := h.cons_inv
  exact t.drop n
theorem Zaa.take : ∀ {ds : List D} {vs : List V} (n : Nat), Zaa K H ι ds vs → Zaa K H ι (ds.take n) (vs.take n)
 | _, _, 0, h => Zaa.nil
 | [], _, n + 1, h => by rw [h.nil_inv]; exact Zaa.nil
 | d :: ds, _, n + 1, h => by
  obtain ⟨v, us, rfl, r, t⟩ := h.cons_inv
  exact Zaa.cons r (t.take n)
theorem Zaa.get : ∀ {ds : List D} {vs : List V} {i : Nat} {d : D}, Zaa K H ι ds vs → ds[i]? = some d → ∃ v, vs[i]? = some v ∧ Rep K H ι d v
 | [], _, _, _, _, e => by simp at e
 | d :: ds, _, 0, _, h, e => by
  obtain ⟨v, us, rfl, r, t⟩ := h.cons_inv
  simp at e; subst e
  exact ⟨v, rfl, r⟩
 | d :: ds, _, i + 1, _, h, e => by
  obtain ⟨v, us, rfl, r, t⟩ := h.cons_inv
  obtain ⟨w, q, z⟩ := t.get (i := i) (by simpa using e)
  exact ⟨w, by simpa using q, z⟩
theorem Zaa.set : ∀ {ds : List D} {vs : List V} {d : D} {v : V} (i : Nat), Zaa K H ι ds vs → Rep K H ι d v → Zaa K H ι (ds.set i d) (vs.set i v)
 | [], _, _, _, _, h, _ => by rw [h.nil_inv]; exact Zaa.nil
 | d :: ds, _, _, _, 0, h, q => by
  obtain ⟨v, us, rfl, r, t⟩ := h.cons_inv
  exact Zaa.cons q t
 | d :: ds, _, _, _, i + 1, h, q => by
  obtain ⟨v, us, rfl, r, t⟩ := h.cons_inv
  exact Zaa.cons r (t.set i q)
theorem Zaa.ints : ∀ (ns : List Int), Zaa K H ι (ns.map D.int) (ns.map V.int)
 | [] => Zaa.nil
 | n :: ns => Zaa.cons (by simp [Rep]) (Zaa.ints ns)
theorem Rep.non_inv {v : V} (h : Rep K H ι .non v) : v = .non := by simpa [Rep] using h
theorem Rep.bl_inv {v : V} {b : Bool} (h : Rep K H ι (.bl b) v) : v = .bl b := by simpa [Rep] using h
theorem Rep.int_inv {v : V} {i : Int} (h : Rep K H ι (.int i) v) : v = .int i := by simpa [Rep] using h
theorem Rep.str_inv {v : V} {x : List Nat} (h : Rep K H ι (.str x) v) : v = .str ⟨x.toArray⟩ := by simpa [Rep] using h
theorem Rep.tup_inv {v : V} {ds : List D} (h : Rep K H ι (.tup ds) v) : ∃ a vs, v = .ref a ∧ SqT K H a vs ∧ Zaa K H ι ds vs := by simpa [Rep] using h
theorem Rep.scr_inv {v : V} {ds : List D} (h : Rep K H ι (.scr ds) v) : ∃ a vs, v = .ref a ∧ SqF K H a vs ∧ Zaa K H ι ds vs := by simpa [Rep] using h
theorem Rep.ref_inv {v : V} {n : Nat} (h : Rep K H ι (.ref n) v) : ∃ a, ι[n]? = some a ∧ v = .ref a := by simpa [Rep] using h
theorem Rep.non : Rep K H ι .non .non := by simp [Rep]
theorem Rep.bl {b : Bool} : Rep K H ι (.bl b) (.bl b) := by simp [Rep]
theorem Rep.int {i : Int} : Rep K H ι (.int i) (.int i) := by simp [Rep]
theorem Rep.str {x : List Nat} : Rep K H ι (.str x) (.str ⟨x.toArray⟩) := by simp [Rep]
theorem Rep.tup {a : Addr} {vs : List V} {ds : List D} (s : SqT K H a vs) (r : Zaa K H ι ds vs) : Rep K H ι (.tup ds) (.ref a) := by
 simp only [Rep]; exact ⟨a, vs, rfl, s, r⟩
theorem Rep.ref {a : Addr} {n : Nat} (s : ι[n]? = some a) : Rep K H ι (.ref n) (.ref a) := by
 simp only [Rep]; exact ⟨a, s, rfl⟩
end
noncomputable def dk : Zbj → Key
 | .inl i => .inl i
 | .inr x => .inr ⟨x.toArray⟩
noncomputable def KvR (K : PySem.W.Frag) (H : Hp) (ι : List Addr) (kvs : List (Zbj × D)) (ws : List (Key × V)) : Prop :=
 ws.map (·.1) = kvs.map (fun p => dk p.1) ∧ Zaa K H ι (kvs.map (·.2)) (ws.map (·.2))
noncomputable def ZeK (K : PySem.W.Frag) (H : Hp) (ι : List Addr) : MO → Addr → Prop
 | .lst xs, a => ∃ vs, H a = some (.lst vs) ∧ Zaa K H ι xs vs
 | .dct kvs, a => ∃ ws, H a = some (.dK ws) ∧ KvR K H ι kvs ws
 | .fdct kvs, a => ∃ ws, (∃ o, H a = some (.frz o (.dK ws))) ∧ KvR K H ι kvs ws
structure Zax (K : PySem.W.Frag) (H : Hp) (ι : List Addr) (M : Store) : Prop where
 len : ι.length = M.length
 nd : ι.Nodup
 obj : ∀ (n : Nat) o a, M[n]? = some o → ι[n]? = some a → ZeK K H ι o a
noncomputable def Loose (H : Hp) (p : Addr) : Prop := H p = none ∨ (∃ vs, H p = some (.lst vs)) ∨ ∃ ws, H p = some (.dK ws)
section
variable {K : PySem.W.Frag} {H H' : Hp} {ι ι' : List Addr} {M : Store} {p : Addr} {o : HO}
theorem Loose.ne {a : Addr} {u : HO} (l : Loose H p) (h : H a = some u) (h1 : ∀ vs, u ≠ .lst vs) (h2 : ∀ ws, u ≠ .dK ws) : a ≠ p := by
 rintro rfl
 rcases l with l | ⟨vs, l⟩ | ⟨ws, l⟩
 ·rw [h] at l; cases l
 ·rw [h] at l; exact h1 vs (Option.some.inj l)
 ·rw [h] at l; exact h2 ws (Option.some.inj l)
theorem Loose.tup (l : Loose H p) {a : Addr} {xs : List V} (h : SqT K H a xs) : SqT K (upd H p o) a xs := by
 rcases h with (h | ⟨ob, h⟩) | h
 ·exact .inl (.inl (by rw [Za7 (l.ne h (fun _ z => nomatch z) (fun _ z => nomatch z))]; exact h))
 ·exact .inl (.inr ⟨ob, by rw [Za7 (l.ne h (fun _ z => nomatch z) (fun _ z => nomatch z))]; exact h⟩)
 ·exact .inr h
theorem Loose.scr (l : Loose H p) {a : Addr} {xs : List V} (h : SqF K H a xs) : SqF K (upd H p o) a xs := by
 rcases h with ⟨ob, h⟩ | h
 ·exact .inl ⟨ob, by rw [Za7 (l.ne h (fun _ z => nomatch z) (fun _ z => nomatch z))]; exact h⟩
 ·exact .inr h
theorem Loose.frz (l : Loose H p) {a : Addr} {ob : Obj} {u : HO} (h : H a = some (.frz ob u)) : upd H p o a = some (.frz ob u) := by
 rw [Za7 (l.ne h (fun _ z => nomatch z) (fun _ z => nomatch z))]; exact h
theorem Loose.ext (l : Loose H p) : Ext K H ι (upd H p o) ι := ⟨fun _ _ h => l.tup h, fun _ _ h => l.scr h, fun _ _ h => h, fun _ _ _ h => l.frz h⟩
theorem Loose.extA (l : Loose H p) : Ext K H ι (upd H p o) (ι ++ [p]) := ⟨fun _ _ h => l.tup h, fun _ _ h => l.scr h, fun n a h => by
 rw [List.getElem?_append_left (List.getElem?_eq_some_iff.mp h).1]; exact h, fun _ _ _ h => l.frz h⟩
theorem ZeK.mono {m : MO} {a : Addr} (e : Ext K H ι H' ι') (h : ZeK K H ι m a) (k : H' a = H a) : ZeK K H' ι' m a := by
 cases m with
 | lst xs => obtain ⟨vs, q, r⟩ := h; exact ⟨vs, k.trans q, r.mono e⟩
 | dct kvs => obtain ⟨ws, q, r1, r2⟩ := h; exact ⟨ws, k.trans q, r1, r2.mono e⟩
 | fdct kvs => obtain ⟨ws, ⟨o, q⟩, r1, r2⟩ := h; exact ⟨ws, ⟨o, k.trans q⟩, r1, r2.mono e⟩
theorem ZeK.ne {m : MO} {a : Addr} (h : ZeK K H ι m a) : H a ≠ none := by
 cases m with
 | lst xs => obtain ⟨vs, q, r⟩ := h; rw [q]; simp
 | dct kvs => obtain ⟨ws, q, r⟩ := h; rw [q]; simp
 | fdct kvs => obtain ⟨ws, ⟨o, q⟩, r⟩ := h; rw [q]; simp
theorem Zax.at (S : Zax K H ι M) {n : Nat} {m : MO} (h : M[n]? = some m) : ∃ a, ι[n]? = some a ∧ ZeK K H ι m a := by
 have hn : n < ι.length := by rw [S.len]; exact (List.getElem?_eq_some_iff.mp h).1
 exact ⟨ι[n], by simp [hn], S.obj n m _ h (by simp [hn])⟩
theorem Zax.there (S : Zax K H ι M) {n : Nat} {a : Addr} (h : ι[n]? = some a) : ∃ m, M[n]? = some m ∧ ZeK K H ι m a := by
 have hn : n < M.length := by rw [← S.len]; exact (List.getElem?_eq_some_iff.mp h).1
 exact ⟨M[n], by simp [hn], S.obj n _ _ (by simp [hn]) h⟩
theorem Zax.fresh (S : Zax K H ι M) (hp : H p = none) : p ∉ ι := fun h => by
 obtain ⟨n, hn⟩ := List.getElem?_of_mem h
 obtain ⟨m, _, q⟩ := S.there hn
 exact q.ne hp
theorem Zax.other (S : Zax K H ι M) (l : Loose H p) (hp : p ∉ ι) : Zax K (upd H p o) ι M :=
 ⟨S.len, S.nd, fun n m a h1 h2 => (S.obj n m a h1 h2).mono l.ext (by
  rw [Za7]; rintro rfl; exact hp (List.mem_of_getElem? h2))⟩
theorem Zax.new (S : Zax K H ι M) (hp : H p = none) {m : MO} (h : ZeK K (upd H p o) (ι ++ [p]) m p) : Zax K (upd H p o) (ι ++ [p]) (M ++ [m]) := by
 have hf := S.fresh hp
 refine ⟨by simp [S.len], ?_, fun n m' a h1 h2 => ?_⟩
 ·exact List.nodup_append.mpr ⟨S.nd, by simp, fun x hx y hy => by
   have e : y = p := by simpa using hy
   subst e
   rintro rfl
   exact hf hx⟩
 ·by_cases hn : n < ι.length
  ·rw [List.getElem?_append_left hn] at h2
   rw [List.getElem?_append_left (by rw [← S.len]; exact hn)] at h1
   refine (S.obj n m' a h1 h2).mono (Loose.extA (.inl hp)) ?_
   rw [Za7]
   rintro rfl
   exact hf (List.mem_of_getElem? h2)
  ·rw [List.getElem?_append_right (by omega)] at h2
   rw [List.getElem?_append_right (by rw [← S.len]; omega)] at h1
   have hlt : n - ι.length < 1 := by
    have := (List.getElem?_eq_some_iff.mp h2).1
    simpa using this
   have e0 : n - ι.length = 0 := by omega
   rw [e0] at h2
   rw [← S.len, e0] at h1
   simp at h1 h2
   subst h1 h2
   exact h
theorem Zax.put (S : Zax K H ι M) {n : Nat} (l0 : Loose H p) (hn : ι[n]? = some p) {m : MO} (h : ZeK K (upd H p o) ι m p) : Zax K (upd H p o) ι (M.set n m) := by
 obtain ⟨m0, hm0, q0⟩ := S.there hn
 refine ⟨by simp [S.len], S.nd, fun k m' a h1 h2 => ?_⟩
 by_cases hk : k = n
 ·subst hk
  rw [hn] at h2
  cases h2
  have hlt : k < M.length := (List.getElem?_eq_some_iff.mp hm0).1
  rw [List.getElem?_set_self hlt] at h1
  cases h1
  exact h
 ·rw [List.getElem?_set_ne (Ne.symm hk)] at h1
  refine (S.obj k m' a h1 h2).mono (Loose.ext l0) ?_
  rw [Za7]
  rintro rfl
  have hlt1 := (List.getElem?_eq_some_iff.mp h2)
  have hlt2 := (List.getElem?_eq_some_iff.mp hn)
  exact hk ((List.getElem_inj S.nd).mp (hlt1.2.trans hlt2.2.symm))
theorem Zax.lst (S : Zax K H ι M) (hp : H p = none) {xs : List D} {vs : List V} (r : Zaa K H ι xs vs) : Ext K H ι (upd H p (.lst vs)) (ι ++ [p]) ∧ Zax K (upd H p (.lst vs)) (ι ++ [p]) (M ++ [.lst xs]) ∧ Rep K (upd H p (.lst vs)) (ι ++ [p]) (.ref M.length) (.ref p) := by
 have e : Ext K H ι (upd H p (.lst vs)) (ι ++ [p]) := Loose.extA (.inl hp)
 refine ⟨e, S.new hp ⟨vs, ZdK, r.mono e⟩, Rep.ref ?_⟩
 rw [← S.len]; simp
theorem Zax.tupl (S : Zax K H ι M) (hp : H p = none) {xs : List D} {vs : List V} (r : Zaa K H ι xs vs) : Ext K H ι (upd H p (.tup vs)) ι ∧ Zax K (upd H p (.tup vs)) ι M ∧ Rep K (upd H p (.tup vs)) ι (.tup xs) (.ref p) := by
 have e : Ext K H ι (upd H p (.tup vs)) ι := Loose.ext (.inl hp)
 exact ⟨e, S.other (.inl hp) (S.fresh hp), Rep.tup (SqT.of ZdK) (r.mono e)⟩
theorem Zax.setl (S : Zax K H ι M) {n : Nat} (l0 : Loose H p) (hn : ι[n]? = some p) {xs : List D} {vs : List V} (r : Zaa K H ι xs vs) : Ext K H ι (upd H p (.lst vs)) ι ∧ Zax K (upd H p (.lst vs)) ι (M.set n (.lst xs)) := by
 have e : Ext K H ι (upd H p (.lst vs)) ι := Loose.ext l0
 exact ⟨e, S.put l0 hn ⟨vs, ZdK, r.mono e⟩⟩
end
noncomputable def ZbF (K : PySem.W.Frag) (H : Hp) (ι : List Addr) (env : ZaC) (σ : St) : Prop :=
 env.length = σ.length ∧ ∀ (i : Nat) d, env[i]? = some (some d) → ∃ v, σ[i]? = some (some v) ∧ Rep K H ι d v
theorem ZbF.mono {K : PySem.W.Frag} {H H' : Hp} {ι ι' : List Addr} {env : ZaC} {σ : St} (r : ZbF K H ι env σ) (e : Ext K H ι H' ι') : ZbF K H' ι' env σ :=
 ⟨r.1, fun i d h => let ⟨v, q, z⟩ := r.2 i d h; ⟨v, q, z.mono e⟩⟩
theorem ZbF.set {K : PySem.W.Frag} {H : Hp} {ι : List Addr} {env : ZaC} {σ : St} {d : D} {v : V} (r : ZbF K H ι env σ) (i : Nat) (h : Rep K H ι d v) : ZbF K H ι (env.set i (some d)) (σ.set i (some v)) := by
 refine ⟨by simp [r.1], fun j e hj => ?_⟩
 by_cases hij : j = i
 ·subst hij
  have hlt : j < env.length := by
   have := (List.getElem?_eq_some_iff.mp hj).1
   simpa using this
  rw [List.getElem?_set_self hlt] at hj
  cases hj
  exact ⟨v, by rw [List.getElem?_set_self (by rw [← r.1]; exact hlt)], h⟩
 ·rw [List.getElem?_set_ne (Ne.symm hij)] at hj
  obtain ⟨w, q, z⟩ := r.2 j e hj
  exact ⟨w, by rw [List.getElem?_set_ne (Ne.symm hij)]; exact q, z⟩
noncomputable def Zam (K : PySem.W.Frag) (H : Hp) (ι : List Addr) (Q : VK) (r : R3 D) : Prop := match r with
 | .ok d M' => ∀ v H' ι', Ext K H ι H' ι' → Zax K H' ι' M' → Rep K H' ι' d v → Q v H'
 | _ => False
noncomputable def tOf (K : PySem.W.Frag) (f : E3) : TE := fun σ H Q => ∃ ι M env, Zax K H ι M ∧ ZbF K H ι env σ ∧ Zam K H ι Q (f env M)
noncomputable def Zgh (K : PySem.W.Frag) (H : Hp) (ι : List Addr) (Q : Bool → Hp → Prop) (r : R3 D) : Prop := match r with
 | .ok (.bl b) M' => ∀ H' ι', Ext K H ι H' ι' → Zax K H' ι' M' → Q b H'
 | _ => False
noncomputable def tTf (K : PySem.W.Frag) (f : E3) : TT := fun σ H Q => ∃ ι M env, Zax K H ι M ∧ ZbF K H ι env σ ∧ Zgh K H ι Q (f env M)
noncomputable def Zj0 (K : PySem.W.Frag) (H : Hp) (ι : List Addr) (Q : List V → Hp → Prop) (r : R3 (List D)) : Prop := match r with
 | .ok ds M' => ∀ vs H' ι', Ext K H ι H' ι' → Zax K H' ι' M' → Zaa K H' ι' ds vs → Q vs H'
 | _ => False
noncomputable def tAf (K : PySem.W.Frag) (f : EL3) : TA := fun σ H Q => ∃ ι M env, Zax K H ι M ∧ ZbF K H ι env σ ∧ Zj0 K H ι Q (f env M)
noncomputable def ZkH (K : PySem.W.Frag) (H : Hp) (ι : List Addr) (Q : Option Int → Hp → Prop) (r : R3 (Option Int)) : Prop := match r with
 | .ok o M' => ∀ H' ι', Ext K H ι H' ι' → Zax K H' ι' M' → Q o H'
 | _ => False
noncomputable def tOo (K : PySem.W.Frag) (f : EO3) : TO := fun σ H Q => ∃ ι M env, Zax K H ι M ∧ ZbF K H ι env σ ∧ ZkH K H ι Q (f env M)
noncomputable def Zek (K : PySem.W.Frag) (H : Hp) (ι : List Addr) (E : Ends) (r : O3) : Prop := match r with
 | .nx env' M' => ∀ σ' H' ι', Ext K H ι H' ι' → Zax K H' ι' M' → ZbF K H' ι' env' σ' → E.nx σ' H'
 | .bk env' M' => ∀ σ' H' ι', Ext K H ι H' ι' → Zax K H' ι' M' → ZbF K H' ι' env' σ' → E.bk σ' H'
 | .ct env' M' => ∀ σ' H' ι', Ext K H ι H' ι' → Zax K H' ι' M' → ZbF K H' ι' env' σ' → E.ct σ' H'
 | .rt d M' => ∀ v H' ι', Ext K H ι H' ι' → Zax K H' ι' M' → Rep K H' ι' d v → E.rt v H'
 | _ => False
noncomputable def tSf (K : PySem.W.Frag) (f : S3) : TS := fun E σ H => ∃ ι M env, Zax K H ι M ∧ ZbF K H ι env σ ∧ Zek K H ι E (f env M)
noncomputable def C3 (X : Cx) (e : Expr) (f : E3) : Prop := PE X e (tOf X.K f)
noncomputable def CT (X : Cx) (e : Expr) (f : E3) : Prop := PT X e (tTf X.K f)
noncomputable def CA (X : Cx) (es : List Expr) (f : EL3) : Prop := PA X es (tAf X.K f)
noncomputable def CO (X : Cx) (e : Option Expr) (f : EO3) : Prop := PO X e (tOo X.K f)
noncomputable def CS (X : Cx) (st : Stmt) (f : S3) : Prop := PS X st (tSf X.K f)
noncomputable def CSs (X : Cx) (st : List Stmt) (f : S3) : Prop := PSs X st (tSf X.K f)
theorem _root_.L2.PE.imp {X : Cx} {e : Expr} {t t' : TE} (h : PE X e t) (i : ∀ σ H Q, t' σ H Q → t σ H Q) : PE X e t' := fun pins s σ H Q I q => h pins s σ H Q I (i σ H Q q)
theorem _root_.L2.PT.imp {X : Cx} {e : Expr} {t t' : TT} (h : PT X e t) (i : ∀ σ H Q, t' σ H Q → t σ H Q) : PT X e t' := fun pins s σ H Q I q => h pins s σ H Q I (i σ H Q q)
theorem _root_.L2.PA.imp {X : Cx} {e : List Expr} {t t' : TA} (h : PA X e t) (i : ∀ σ H Q, t' σ H Q → t σ H Q) : PA X e t' := fun pos pins s σ H Q I q => h pos pins s σ H Q I (i σ H Q q)
theorem _root_.L2.PO.imp {X : Cx} {e : Option Expr} {t t' : TO} (h : PO X e t) (i : ∀ σ H Q, t' σ H Q → t σ H Q) : PO X e t' := fun pins s σ H Q I q => h pins s σ H Q I (i σ H Q q)
theorem _root_.L2.PS.imp {X : Cx} {e : Stmt} {t t' : TS} (h : PS X e t) (i : ∀ D σ H, t' D σ H → t D σ H) : PS X e t' := fun pins s σ H D I q => h pins s σ H D I (i D σ H q)
theorem _root_.L2.PSs.imp {X : Cx} {e : List Stmt} {t t' : TS} (h : PSs X e t) (i : ∀ D σ H, t' D σ H → t D σ H) : PSs X e t' := fun pins s σ H D I q => h pins s σ H D I (i D σ H q)
theorem _root_.L2.OpR.imp {X : Cx} {f : Value → Value → Sem Value} {r r' : R2} (h : OpR X f r) (i : ∀ x y H Q, r' x y H Q → r x y H Q) : OpR X f r' := fun pins s σ H x y v u Q I rx ry q => h pins s σ H x y v u Q I rx ry (i x y H Q q)
theorem _root_.L2.UnR.imp {X : Cx} {f : Value → Sem Value} {r r' : V → Hp → VK → Prop} (h : UnR X f r) (i : ∀ x H Q, r' x H Q → r x H Q) : UnR X f r' := fun pins s σ H x v Q I rx q => h pins s σ H x v Q I rx (i x H Q q)
theorem _root_.L2.ZbG.imp {X : Cx} {f : Value} {r r' : List V → Hp → VK → Prop} (h : ZbG X f r) (i : ∀ x H Q, r' x H Q → r x H Q) : ZbG X f r' := fun pins s σ H xs us Q I rx q => h pins s σ H xs us Q I rx (i xs H Q q)
theorem _root_.L2.IxR.imp {X : Cx} {r r' : R2} (h : IxR X r) (i : ∀ x y H Q, r' x y H Q → r x y H Q) : IxR X r' := fun value slice pins s σ H x y v u Q I rx ry q hs => h value slice pins s σ H x y v u Q I rx ry (i x y H Q q) hs
theorem _root_.L2.SlR.imp {X : Cx} {r r' : V → Option Int → Option Int → Hp → VK → Prop} (h : SlR X r) (i : ∀ x lo hi H Q, r' x lo hi H Q → r x lo hi H Q) : SlR X r' := fun pins s σ H x v vl vu lo hi sl Q I rx hs pl pu q => h pins s σ H x v vl vu lo hi sl Q I rx hs pl pu (i x lo hi H Q q)
section
variable {K : PySem.W.Frag} {H H1 : Hp} {ι ι1 : List Addr}
theorem Zam.up {Q : VK} {r : R3 D} (e : Ext K H ι H1 ι1) (h : Zam K H ι Q r) : Zam K H1 ι1 Q r := by
 cases r with
 | ok d M => exact fun v H' ι' e' S r => h v H' ι' (e.trans e') S r
 | exc x M => exact h
 | bad => exact h
theorem Zgh.up {Q : Bool → Hp → Prop} {r : R3 D} (e : Ext K H ι H1 ι1) (h : Zgh K H ι Q r) : Zgh K H1 ι1 Q r := by
 cases r with
 | ok d M => cases d <;> first | exact h | exact fun H' ι' e' S => h H' ι' (e.trans e') S
 | exc x M => exact h
 | bad => exact h
theorem Zek.up {Q : Ends} {r : O3} (e : Ext K H ι H1 ι1) (h : Zek K H ι Q r) : Zek K H1 ι1 Q r := by
 cases r with
 | nx d M => exact fun v H' ι' e' S r => h v H' ι' (e.trans e') S r
 | bk d M => exact fun v H' ι' e' S r => h v H' ι' (e.trans e') S r
 | ct d M => exact fun v H' ι' e' S r => h v H' ι' (e.trans e') S r
 | rt d M => exact fun v H' ι' e' S r => h v H' ι' (e.trans e') S r
 | exc x M => exact h
 | bad => exact h
theorem Zam.ok {Q : VK} {d : D} {M : Store} {v : V} (h : Zam K H ι Q (.ok d M)) (S : Zax K H ι M) (r : Rep K H ι d v) : Q v H := h v H ι Ext.refl S r
theorem Zam.bind {α : Type} {Q : VK} {r : R3 α} {k : α → Store → R3 D} (h : Zam K H ι Q (r.bind k)) : ∃ a M, r = .ok a M ∧ Zam K H ι Q (k a M) := by
 cases r with
 | ok a M => exact ⟨a, M, rfl, h⟩
 | exc x M => exact h.elim
 | bad => exact h.elim
theorem Zj0.bind {α : Type} {Q : List V → Hp → Prop} {r : R3 α} {k : α → Store → R3 (List D)} (h : Zj0 K H ι Q (r.bind k)) : ∃ a M, r = .ok a M ∧ Zj0 K H ι Q (k a M) := by
 cases r with
 | ok a M => exact ⟨a, M, rfl, h⟩
 | exc x M => exact h.elim
 | bad => exact h.elim
theorem ZkH.bind {α : Type} {Q : Option Int → Hp → Prop} {r : R3 α} {k : α → Store → R3 (Option Int)} (h : ZkH K H ι Q (r.bind k)) : ∃ a M, r = .ok a M ∧ ZkH K H ι Q (k a M) := by
 cases r with
 | ok a M => exact ⟨a, M, rfl, h⟩
 | exc x M => exact h.elim
 | bad => exact h.elim
theorem Zgh.bind {α : Type} {Q : Bool → Hp → Prop} {r : R3 α} {k : α → Store → R3 D} (h : Zgh K H ι Q (r.bind k)) : ∃ a M, r = .ok a M ∧ Zgh K H ι Q (k a M) := by
 cases r with
 | ok a M => exact ⟨a, M, rfl, h⟩
 | exc x M => exact h.elim
 | bad => exact h.elim
end
noncomputable def r2 (K : PySem.W.Frag) (op : D → D → Store → R3 D) : R2 := fun x y H Q => ∃ ι M a b, Zax K H ι M ∧ Rep K H ι a x ∧ Rep K H ι b y ∧ Zam K H ι Q (op a b M)
noncomputable def r1 (K : PySem.W.Frag) (op : D → Store → R3 D) : V → Hp → VK → Prop := fun x H Q => ∃ ι M a, Zax K H ι M ∧ Rep K H ι a x ∧ Zam K H ι Q (op a M)
noncomputable def rB (K : PySem.W.Frag) (b : List D → Store → R3 D) : List V → Hp → VK → Prop := fun xs H Q => ∃ ι M ds, Zax K H ι M ∧ Zaa K H ι ds xs ∧ Zam K H ι Q (b ds M)
noncomputable def rM (K : PySem.W.Frag) (m : D → List D → Store → R3 D) : V → List V → Hp → VK → Prop := fun x xs H Q => ∃ ι M a ds, Zax K H ι M ∧ Rep K H ι a x ∧ Zaa K H ι ds xs ∧ Zam K H ι Q (m a ds M)
noncomputable def rS (K : PySem.W.Frag) : V → Option Int → Option Int → Hp → VK → Prop := fun x lo hi H Q => ∃ ι M a, Zax K H ι M ∧ Rep K H ι a x ∧ Zam K H ι Q (ZeA a lo hi M)
theorem Zhm {K : PySem.W.Frag} {op : D → D → Store → R3 D} {f g : E3} (σ : St) (H : Hp) (Q : VK) (h : tOf K (e2 op f g) σ H Q) : tOp (r2 K op) (tOf K f) (tOf K g) σ H Q := by
 obtain ⟨ι, M, env, S, E, h⟩ := h
 obtain ⟨a, M1, e1, h⟩ := Zam.bind h
 obtain ⟨b, M2, e2, h⟩ := Zam.bind h
 refine ⟨ι, M, env, S, E, ?_⟩
 rw [e1]
 intro v H1 ι1 x1 S1 r1
 refine ⟨ι1, M1, env, S1, E.mono x1, ?_⟩
 rw [e2]
 intro u H2 ι2 x2 S2 r2
 exact ⟨ι2, M2, a, b, S2, r1.mono x2, r2, (h.up x1).up x2⟩
theorem Zng {K : PySem.W.Frag} {op : D → Store → R3 D} {f : E3} (σ : St) (H : Hp) (Q : VK) (h : tOf K (e1 op f) σ H Q) : tUn (r1 K op) (tOf K f) σ H Q := by
 obtain ⟨ι, M, env, S, E, h⟩ := h
 obtain ⟨a, M1, e1, h⟩ := Zam.bind h
 refine ⟨ι, M, env, S, E, ?_⟩
 rw [e1]
 intro v H1 ι1 x1 S1 r1
 exact ⟨ι1, M1, a, S1, r1, h.up x1⟩
section
variable {X : Cx} {a b c e o : Expr} {es : List Expr} {pos p : Pos} {f g h : E3} {gl : EL3}
theorem Zd (i : Nat) {x : Str} (hN : X.N[i]? = some x := by rfl) (hv : Vis X.env.scope x := by first | exact Or.inl rfl | exact Or.inr (Or.inl rfl) | exact Or.inr (Or.inr rfl)) (hd : (x == ("__debug__" : Str)) = false := by decide)
  (hcd : (x == ("__classdict__" : Str)) = false := by decide) : C3 X (.Name x pos) (Zb i) := (Zm0 hN hv hd hcd).imp fun σ H Q ⟨ι, M, env, S, E, h⟩ => by
 unfold Zb at h
 cases q : env[i]? with
 | none => rw [q] at h; exact h.elim
 | some od =>
  cases od with
  | none => rw [q] at h; exact h.elim
  | some d =>
   rw [q] at h
   obtain ⟨v, e1, r⟩ := E.2 i d q
   exact ⟨v, e1, Zam.ok h S r⟩
theorem Zm {i j} : C3 X (.Constant (.int i) j pos) (eC (.int i)) := Znv.imp fun σ H Q ⟨ι, M, env, S, E, h⟩ => Zam.ok h S Rep.int
theorem ZjM {i j} : C3 X (.Constant (.bool i) j pos) (eC (.bl i)) := Zn2.imp fun σ H Q ⟨ι, M, env, S, E, h⟩ => Zam.ok h S Rep.bl
theorem ZdG {j} : C3 X (.Constant .none j pos) (eC .non) := ZmF.imp fun σ H Q ⟨ι, M, env, S, E, h⟩ => Zam.ok h S Rep.non
theorem ZaO {x : Str} {cs : List Nat} {j} (hx : x = ⟨cs.toArray⟩ := by decide +kernel) : C3 X (.Constant (.str x) j pos) (eC (.str cs)) := Zns.imp fun σ H Q ⟨ι, M, env, S, E, h⟩ => by
 subst hx
 exact Zam.ok h S Rep.str
theorem Zv {op : Operator} {q : D → D → Store → R3 D} (ho : OpR X (binaryOp op) (r2 X.K q)) (ha : C3 X a f) (hb : C3 X b g) : C3 X (.BinOp a op b pos) (e2 q f g) := (Zot ho ha hb).imp Zhm
theorem Zjz {op : UnaryOp} {q : D → Store → R3 D} (ho : UnR X (unaryOp op) (r1 X.K q)) (ha : C3 X a f) : C3 X (.UnaryOp op a pos) (e1 q f) := (ZoU ho ha).imp Zng
theorem ZdZ {op : CmpOp} {q : D → D → Store → R3 D} (ho : OpR X (compareOp op) (r2 X.K q)) (ha : C3 X a f) (hb : C3 X b g) (hm : behindInMarks op b = false := by rfl) : C3 X (.Compare a [op] [b] pos) (e2 q f g) := (ZlG ho ha hb hm).imp Zhm
theorem Zg0 {K : PySem.W.Frag} {H : Hp} {ι : List Addr} {Q : Bool → Hp → Prop} {r : R3 D} (h : Zgh K H ι Q r) : Zam K H ι (fun x H' => ∃ k, x = .bl k ∧ Q k H') r := by
 cases r with
 | ok d M =>
  cases d with
  | bl b => exact fun v H' ι' e S r => ⟨b, r.bl_inv, h H' ι' e S⟩
  | _ => exact h.elim
 | exc x M => exact h.elim
 | bad => exact h.elim
theorem Zea (h : C3 X e f) (he : ∀ whole, isTrue e X.env whole = (do let v ← whole; standAt e.pos; holding [v] (truthy v)) := by intro _; rfl) : CT X e f := (Zne h he).imp fun σ H Q ⟨ι, M, env, S, E, h⟩ => ⟨ι, M, env, S, E, Zg0 h⟩
theorem Zai {op : CmpOp} {q : D → D → Store → R3 D} (ho : OpR X (compareOp op) (r2 X.K q)) (ha : C3 X a f) (hb : C3 X b g) (hm : behindInMarks op b = false := by rfl) : CT X (.Compare a [op] [b] pos) (e2 q f g) :=
 (ZlA ho ha hb hm).imp fun σ H Q ⟨ι, M, env, S, E, h⟩ => Zhm σ H _ ⟨ι, M, env, S, E, Zg0 h⟩
end
end L3
namespace L3
open PySem PySem.Spec PyProof.Rows L2
section
variable {X : Cx} {a b c e o : Expr} {es rest : List Expr} {pos p : Pos} {f g h : E3} {gl : EL3}
theorem ZgL {op} (h : C3 X a f) : C3 X (.BoolOp op [a] pos) f := Znq h
theorem ZgI (ha : C3 X a f) (hb : C3 X (.BoolOp .And (b :: rest) pos) g) : C3 X (.BoolOp .And (a :: b :: rest) pos) (Zcs f g) := (ZmU ha hb).imp fun σ H Q ⟨ι, M, env, S, E, h⟩ => by
 obtain ⟨d, M1, e1, h⟩ := Zam.bind h
 refine ⟨ι, M, env, S, E, ?_⟩
 rw [e1]
 intro v H1 ι1 x1 S1 r1
 cases d with
 | bl k =>
  refine ⟨k, r1.bl_inv, ?_⟩
  cases k with
  | true => rw [if_pos rfl]; exact ⟨ι1, M1, env, S1, E.mono x1, h.up x1⟩
  | false => rw [if_neg (by decide)]; exact Zam.ok (h.up x1) S1 Rep.bl
 | _ => exact h.elim
theorem ZoO (ha : C3 X a f) : C3 X (.UnaryOp .Not a pos) (e1 Zck f) := (ZnP ha).imp fun σ H Q ⟨ι, M, env, S, E, h⟩ => by
 obtain ⟨d, M1, e1, h⟩ := Zam.bind h
 refine ⟨ι, M, env, S, E, ?_⟩
 rw [e1]
 intro v H1 ι1 x1 S1 r1
 cases d with
 | bl k => exact ⟨k, r1.bl_inv, Zam.ok (h.up x1) S1 Rep.bl⟩
 | _ => exact h.elim
noncomputable def CW (X : Cx) (e : Expr) (f : E3) : Prop := PW X e (tTf X.K f)
theorem CW.ct (h : CW X e f) : CT X e f := PW.pt h
theorem PW.imp {t t' : TT} (h : PW X e t) (i : ∀ σ H Q, t' σ H Q → t σ H Q) : PW X e t' := fun wh pins s σ H Q I q => h wh pins s σ H Q I (i σ H Q q)
theorem Zeh (ha : CT X a f) : CW X (.BoolOp .And [a] pos) f := Zl5 ha
theorem Zhn (ha : CT X a f) : CW X (.BoolOp .Or [a] pos) f := ZnL ha
theorem Ze5 (ha : CT X a f) (hb : CW X (.BoolOp .And (b :: rest) pos) g) : CW X (.BoolOp .And (a :: b :: rest) pos) (Zcs f g) := PW.imp (ZnA ha hb) fun σ H Q ⟨ι, M, env, S, E, h⟩ => by
 obtain ⟨d, M1, e1, h⟩ := Zgh.bind h
 refine ⟨ι, M, env, S, E, ?_⟩
 rw [e1]
 cases d with
 | bl k =>
  intro H1 ι1 x1 S1
  cases k with
  | true => rw [if_pos rfl]; exact ⟨ι1, M1, env, S1, E.mono x1, h.up x1⟩
  | false => rw [if_neg (by decide)]; exact h H1 ι1 x1 S1
 | _ => exact h.elim
theorem Zh2 (ha : CT X a f) (hb : CW X (.BoolOp .Or (b :: rest) pos) g) : CW X (.BoolOp .Or (a :: b :: rest) pos) (eOr f g) := PW.imp (Zoa ha hb) fun σ H Q ⟨ι, M, env, S, E, h⟩ => by
 obtain ⟨d, M1, e1, h⟩ := Zgh.bind h
 refine ⟨ι, M, env, S, E, ?_⟩
 rw [e1]
 cases d with
 | bl k =>
  intro H1 ι1 x1 S1
  cases k with
  | false => rw [if_neg (by decide)]; exact ⟨ι1, M1, env, S1, E.mono x1, h.up x1⟩
  | true => rw [if_pos rfl]; exact h H1 ι1 x1 S1
 | _ => exact h.elim
theorem Zfc (ha : CT X a f) : CT X (.UnaryOp .Not a pos) (e1 Zck f) := (Zni ha).imp fun σ H Q ⟨ι, M, env, S, E, h⟩ => by
 obtain ⟨d, M1, e1, h⟩ := Zgh.bind h
 refine ⟨ι, M, env, S, E, ?_⟩
 rw [e1]
 cases d with
 | bl k => exact fun H1 ι1 x1 S1 => h H1 ι1 x1 S1
 | _ => exact h.elim
theorem Zly (hc : CT X c f) (ha : C3 X a g) (hb : C3 X b h) : C3 X (.IfExp c a b pos) (eIf f g h) := (ZkT hc ha hb).imp fun σ H Q ⟨ι, M, env, S, E, h⟩ => by
 obtain ⟨d, M1, e1, h⟩ := Zam.bind h
 refine ⟨ι, M, env, S, E, ?_⟩
 rw [e1]
 cases d with
 | bl k =>
  intro H1 ι1 x1 S1
  cases k with
  | true => rw [if_pos rfl]; exact ⟨ι1, M1, env, S1, E.mono x1, h.up x1⟩
  | false => rw [if_neg (by decide)]; exact ⟨ι1, M1, env, S1, E.mono x1, h.up x1⟩
 | _ => exact h.elim
theorem Zk : CA X [] Zg := ZkF.imp fun σ H Q ⟨ι, M, env, S, E, h⟩ => h [] H ι Ext.refl S Zaa.nil
theorem Zc (ha : C3 X e f) (hr : CA X es gl) (hs : starEach (e :: es) X.env = (false, eval e X.env) :: starEach es X.env := by rfl) : CA X (e :: es) (Za f gl) := (Zhf ha hr hs).imp fun σ H Q ⟨ι, M, env, S, E, h⟩ => by
 obtain ⟨d, M1, e1, h⟩ := Zj0.bind h
 obtain ⟨ds, M2, e2, h⟩ := Zj0.bind h
 refine ⟨ι, M, env, S, E, ?_⟩
 rw [e1]
 intro v H1 ι1 x1 S1 r1
 refine ⟨ι1, M1, env, S1, E.mono x1, ?_⟩
 rw [e2]
 intro vs H2 ι2 x2 S2 r2
 exact h (v :: vs) H2 ι2 (x1.trans x2) S2 (Zaa.cons (r1.mono x2) r2)
theorem Zcj {x1} (h : CA X es gl) : C3 X (.Tuple es x1 pos) (Zba gl) := (Zm4 h).imp fun σ H Q ⟨ι, M, env, S, E, h⟩ => by
 obtain ⟨ds, M1, e1, h⟩ := Zam.bind h
 refine ⟨ι, M, env, S, E, ?_⟩
 rw [e1]
 intro vs H1 ι1 x1 S1 r1
 by_cases hz : ds.length ≤ SZ
 ·rw [if_pos hz] at h
  refine ⟨by rw [r1.length]; exact Nat.le_trans hz ZbK, fun p hp => ?_⟩
  obtain ⟨x2, S2, r2⟩ := S1.tupl hp r1
  exact h _ _ _ (x1.trans x2) S2 r2
 ·rw [if_neg hz] at h; exact h.elim
theorem Zci (h : CA X es gl) : C3 X (.List es pos) (Zbk gl) := (Znu h).imp fun σ H Q ⟨ι, M, env, S, E, h⟩ => by
 obtain ⟨ds, M1, e1, h⟩ := Zam.bind h
 refine ⟨ι, M, env, S, E, ?_⟩
 rw [e1]
 intro vs H1 ι1 x1 S1 r1
 by_cases hz : ds.length ≤ SZ
 ·rw [if_pos hz] at h
  refine ⟨by rw [r1.length]; exact Nat.le_trans hz ZbK, fun p hp => ?_⟩
  obtain ⟨x2, S2, r2⟩ := S1.lst hp r1
  exact h _ _ _ (x1.trans x2) S2 r2
 ·rw [if_neg hz] at h; exact h.elim
theorem Zlb {K : PySem.W.Frag} {q : List D → Store → R3 D} (σ : St) (H : Hp) (Q : VK) (h : tOf K (Zaz q gl) σ H Q) : tCB (rB K q) (tAf K gl) σ H Q := by
 obtain ⟨ι, M, env, S, E, h⟩ := h
 obtain ⟨ds, M1, e1, h⟩ := Zam.bind h
 refine ⟨ι, M, env, S, E, ?_⟩
 rw [e1]
 intro vs H1 ι1 x1 S1 r1
 exact ⟨ι1, M1, ds, S1, r1, h.up x1⟩
theorem Zb0 {x : Str} {id : String} {q : List D → Store → R3 D} (hc : ZbG X (.builtin id) (rB X.K q)) (hm : X.mg x = none) (hv : bootBuiltins x = some (.builtin id)) (ha : CA X (e :: es) gl) (hg : Gl X x := by rfl) (hn : x ≠ "__name__" := by decide) (hdb : (x == ("__debug__" : Str)) = false := by decide)
  (he : starEach (e :: es) X.env = (false, eval e X.env) :: starEach es X.env := by rfl) (hpl : (backTo pos (starEach es X.env)).any (·.1) = false := by rfl) : C3 X (.Call (.Name x p) (e :: es) [] pos) (Zaz q gl) := (ZhE hc hg hm hv ha hn hdb he hpl).imp Zlb
theorem Zf0 {x : Str} {T : String} {q : List D → Store → R3 D} (hc : ZbG X (.type T) (rB X.K q)) (hm : X.mg x = none) (hv : bootBuiltins x = some (.type T)) (ha : CA X (e :: es) gl) (hg : Gl X x := by rfl) (hn : x ≠ "__name__" := by decide) (hdb : (x == ("__debug__" : Str)) = false := by decide)
  (he : starEach (e :: es) X.env = (false, eval e X.env) :: starEach es X.env := by rfl) (hpl : (backTo pos (starEach es X.env)).any (·.1) = false := by rfl) : C3 X (.Call (.Name x p) (e :: es) [] pos) (Zaz q gl) := (Zjw hc hg hm hv ha hn hdb he hpl).imp Zlb
theorem Zab (hr : IxR X (r2 X.K Zj)) (ha : C3 X a f) (hb : C3 X b g) (hs : Zji b := by exact fun _ _ => rfl) : C3 X (.Subscript a b pos) (e2 Zj f g) := (Zoo hr ha hb hs).imp Zhm
theorem ZbZ : CO X none ZaB := Zl6.imp fun σ H Q ⟨ι, M, env, S, E, h⟩ => h H ι Ext.refl S
theorem Zbn (h : C3 X e f) : CO X (some e) (Zaw f) := (ZlW h).imp fun σ H Q ⟨ι, M, env, S, E, h⟩ => by
 obtain ⟨d, M1, e1, h⟩ := ZkH.bind h
 refine ⟨ι, M, env, S, E, ?_⟩
 rw [e1]
 intro v H1 ι1 x1 S1 r1
 cases d with
 | int i => exact ⟨i, r1.int_inv, h H1 ι1 x1 S1⟩
 | _ => exact h.elim
theorem Zeo {lo hi : Option Expr} {ol oh : EO3} {p2 : Pos} (hr : SlR X (rS X.K)) (he : C3 X e f) (hl : CO X lo ol) (hu : CO X hi oh) : C3 X (.Subscript e (.Slice lo hi none p2) pos) (eSl f ol oh) := (ZkX hr he hl hu).imp fun σ H Q ⟨ι, M, env, S, E, h⟩ => by
 obtain ⟨d, M1, e1, h⟩ := Zam.bind h
 obtain ⟨l, M2, e2, h⟩ := Zam.bind h
 obtain ⟨u, M3, e3, h⟩ := Zam.bind h
 refine ⟨ι, M, env, S, E, ?_⟩
 rw [e1]
 intro v H1 ι1 x1 S1 r1
 refine ⟨ι1, M1, env, S1, E.mono x1, ?_⟩
 rw [e2]
 intro H2 ι2 x2 S2
 refine ⟨ι2, M2, env, S2, (E.mono x1).mono x2, ?_⟩
 rw [e3]
 intro H3 ι3 x3 S3
 exact ⟨ι3, M3, d, S3, (r1.mono x2).mono x3, ((h.up x1).up x2).up x3⟩
theorem Zan : CSs X [] Zae := ZlR.imp fun D σ H ⟨ι, M, env, S, E, h⟩ => h σ H ι Ext.refl S E
theorem Zo {st : Stmt} {u : S3} (h : CS X st u) : CSs X [st] u := Zl4 h
theorem Zh {st : Stmt} {sts : List Stmt} {u w : S3} (h1 : CS X st u) (h2 : CSs X sts w) : CSs X (st :: sts) (Zy u w) := (ZkP h1 h2).imp fun D σ H ⟨ι, M, env, S, E, h⟩ => by
 refine ⟨ι, M, env, S, E, ?_⟩
 have h' : Zek X.K H ι D (match u env M with | .nx env' M' => w env' M' | o => o) := h
 cases q : u env M with
 | nx env' M' => rw [q] at h'; exact fun σ' H' ι' x S' E' => ⟨ι', M', env', S', E', h'.up x⟩
 | _ => rw [q] at h'; exact h'
theorem ZaJ {c1 : Expr} {x y : List Stmt} {u w : S3} (hc : CT X c1 f) (ha : CSs X x u) (hb : CSs X y w) : CS X (.If c1 x y pos) (sIf f u w) := (ZoD hc ha hb).imp fun D σ H ⟨ι, M, env, S, E, h⟩ => by
 refine ⟨ι, M, env, S, E, ?_⟩
 unfold sIf at h
 cases q : f env M with
 | ok d M1 =>
  rw [q] at h
  cases d with
  | bl k =>
   intro H1 ι1 x1 S1
   cases k with
   | true => rw [if_pos rfl]; exact ⟨ι1, M1, env, S1, E.mono x1, h.up x1⟩
   | false => rw [if_neg (by decide)]; exact ⟨ι1, M1, env, S1, E.mono x1, h.up x1⟩
  | _ => exact h.elim
 | exc x M1 => rw [q] at h; exact h.elim
 | bad => rw [q] at h; exact h.elim
theorem Zak (h : C3 X e f) : CS X (.Return (some e) pos) (Zal f) := (Znj h).imp fun D σ H ⟨ι, M, env, S, E, h⟩ => by
 refine ⟨ι, M, env, S, E, ?_⟩
 unfold Zal at h
 cases q : f env M with
 | ok d M1 => rw [q] at h; exact h
 | exc x M1 => rw [q] at h; exact h.elim
 | bad => rw [q] at h; exact h.elim
theorem Zca (h : C3 X e f) (hs : swapsWith e none pos.line X.env = pure false := by rfl) : CS X (.Expr e pos) (ZaA f) := (ZlD h hs).imp fun D σ H ⟨ι, M, env, S, E, h⟩ => by
 refine ⟨ι, M, env, S, E, ?_⟩
 unfold ZaA at h
 cases q : f env M with
 | ok d M1 => rw [q] at h; exact fun v H1 ι1 x1 S1 r1 => h σ H1 ι1 x1 S1 (E.mono x1)
 | exc x M1 => rw [q] at h; exact h.elim
 | bad => rw [q] at h; exact h.elim
theorem Zad (i : Nat) {x : Str} {pos' : Pos} (hN : X.N.Nodup) (he : C3 X e f) (hi : X.N[i]? = some x := by rfl) (hx : Loc X.env.scope x := by first | exact Or.inl rfl | exact Or.inr rfl) (hs : swapsWith e (some (.Name x pos')) pos.line X.env = pure false := by rfl)
  (hf : X.fn x = true ∨ X.env.scope.names.lookup x = some .local := by first | exact .inl rfl | exact .inr rfl) : CS X (.Assign [.Name x pos'] e pos) (Zaf i f) := (ZnQ hN hi hx he hs hf).imp fun D σ H ⟨ι, M, env, S, E, h⟩ => by
 refine ⟨ι, M, env, S, E, ?_⟩
 unfold Zaf at h
 cases q : f env M with
 | ok d M1 => rw [q] at h; exact fun v H1 ι1 x1 S1 r1 => h _ H1 ι1 x1 S1 ((E.mono x1).set i r1)
 | exc x M1 => rw [q] at h; exact h.elim
 | bad => rw [q] at h; exact h.elim
theorem ZfS {st : Stmt} : CS X st Zgz := fun _ _ _ _ _ _ ⟨_, _, _, _, _, h⟩ => h.elim
end
noncomputable def sp3 (K : PySem.W.Frag) (n : Nat) (F : F3) : Sp := fun vs H Q _ => ∃ ι M ds, Zax K H ι M ∧ Zaa K H ι ds vs ∧ ds.length = n ∧ Zam K H ι Q (F ds M)
section
variable {K : PySem.W.Frag} {H H' : Hp} {ι ι' : List Addr} {M M' : Store}
mutual
theorem Rep.below : ∀ {d : D} {v : V}, Rep K H ι d v → L3.below ι.length d = true
 | .non, _, _ => rfl
 | .bl _, _, _ => rfl
 | .int _, _, _ => rfl
 | .str _, _, _ => rfl
 | .tup ds, _, h => by
  obtain ⟨a, vs, _, _, r⟩ := h.tup_inv
  simp only [L3.below]
  exact Zaa.belowL (ds := ds) r
 | .scr ds, _, h => by
  obtain ⟨a, vs, _, _, r⟩ := h.scr_inv
  simp only [L3.below]
  exact Zaa.belowL (ds := ds) r
 | .ref n, _, h => by
  obtain ⟨a, q, _⟩ := h.ref_inv
  simp only [L3.below, decide_eq_true_eq]
  exact (List.getElem?_eq_some_iff.mp q).1
theorem Zaa.belowL : ∀ {ds : List D} {vs : List V}, Zaa K H ι ds vs → L3.belowL ι.length ds = true
 | [], _, _ => rfl
 | d :: ds, _, h => by
  obtain ⟨v, ws, _, r, q⟩ := h.cons_inv
  simp only [L3.belowL, Bool.and_eq_true]
  exact ⟨Rep.below (d := d) r, Zaa.belowL (ds := ds) q⟩
end
mutual
theorem Rep.cut {n : Nat} : ∀ {d : D} {v : V}, L3.below n d = true → Rep K H ι d v → Rep K H (ι.take n) d v
 | .non, _, _, h => by simpa [Rep] using h
 | .bl _, _, _, h => by simpa [Rep] using h
 | .int _, _, _, h => by simpa [Rep] using h
 | .str _, _, _, h => by simpa [Rep] using h
 | .tup ds, _, hb, h => by
  obtain ⟨a, vs, rfl, s, r⟩ := h.tup_inv
  exact Rep.tup s (Zaa.cut (ds := ds) (by simpa only [L3.below] using hb) r)
 | .scr ds, _, hb, h => by
  obtain ⟨a, vs, rfl, s, r⟩ := h.scr_inv
  simp only [Rep]
  exact ⟨a, vs, rfl, s, Zaa.cut (ds := ds) (by simpa only [L3.below] using hb) r⟩
 | .ref k, _, hb, h => by
  obtain ⟨a, q, rfl⟩ := h.ref_inv
  refine Rep.ref ?_
  rw [List.getElem?_take_of_lt (by simpa [L3.below] using hb)]
  exact q
theorem Zaa.cut {n : Nat} : ∀ {ds : List D} {vs : List V}, L3.belowL n ds = true → Zaa K H ι ds vs → Zaa K H (ι.take n) ds vs
 | [], _, _, h => by simpa [Zaa] using h
 | d :: ds, _, hb, h => by
  obtain ⟨v, ws, rfl, r, q⟩ := h.cons_inv
  simp only [L3.belowL, Bool.and_eq_true] at hb
  exact Zaa.cons (Rep.cut (d := d) hb.1 r) (Zaa.cut (ds := ds) hb.2 q)
end
theorem ZeK.below {m : MO} {a : Addr} (h : ZeK K H ι m a) : Ze8 ι.length m = true := by
 cases m with
 | lst xs => obtain ⟨vs, _, r⟩ := h; exact r.belowL
 | dct kvs => obtain ⟨ws, _, _, r⟩ := h; exact r.belowL
 | fdct kvs => obtain ⟨ws, _, _, r⟩ := h; exact r.belowL
theorem ZeK.cut {n : Nat} {m : MO} {a : Addr} (hb : Ze8 n m = true) (h : ZeK K H ι m a) : ZeK K H (ι.take n) m a := by
 cases m with
 | lst xs => obtain ⟨vs, q, r⟩ := h; exact ⟨vs, q, r.cut hb⟩
 | dct kvs => obtain ⟨ws, q, r1, r2⟩ := h; exact ⟨ws, q, r1, r2.cut hb⟩
 | fdct kvs => obtain ⟨ws, q, r1, r2⟩ := h; exact ⟨ws, q, r1, r2.cut hb⟩
theorem Zax.cut {n : Nat} (S : Zax K H ι M) (h : (M.take n).all (Ze8 n) = true) : Zax K H (ι.take n) (M.take n) := by
 refine ⟨by simp [S.len], S.nd.sublist (List.take_sublist _ _), fun k m a h1 h2 => ?_⟩
 have hk : k < n := by
  have := (List.getElem?_eq_some_iff.mp h1).1
  rw [List.length_take] at this
  omega
 have hb : Ze8 n m = true := List.all_eq_true.mp h m (List.mem_of_getElem? h1)
 rw [List.getElem?_take_of_lt hk] at h1 h2
 exact (S.obj k m a h1 h2).cut hb
theorem ZiS {Q : VK} {d : D} {v : V} (S : Zax K H ι M) (x : Ext K H ι H' ι') (S' : Zax K H' ι' M') (r : Rep K H' ι' d v) (h : Zam K H ι Q (ZcM M d M')) : Q v H' := by
 unfold ZcM at h
 split at h
 ·rename_i c
  simp only [Bool.and_eq_true, Bool.or_eq_true, decide_eq_true_eq] at c
  have hall : (M'.take M.length).all (Ze8 M.length) = true := by
   rcases c.2 with e | e
   ·rw [e, List.all_eq_true]
    intro m hm
    obtain ⟨n, hn⟩ := List.getElem?_of_mem hm
    obtain ⟨a, q, w⟩ := S.at hn
    rw [← S.len]
    exact w.below
   ·exact e
  refine h v H' (ι'.take M.length) ⟨x.tup, x.scr, fun n a q => ?_, x.frz⟩ (S'.cut hall) (r.cut c.1)
  rw [List.getElem?_take_of_lt (by rw [← S.len]; exact (List.getElem?_eq_some_iff.mp q).1)]
  exact x.pre n a q
 ·exact h v H' ι' x S' r
end
theorem ZbF.start {K : PySem.W.Frag} {H : Hp} {ι : List Addr} {ds : List D} {vs : List V} (r : Zaa K H ι ds vs) (n : Nat) : ZbF K H ι (ds.map some ++ List.replicate n none) (vs.map some ++ List.replicate n none) := by
 refine ⟨by simp [r.length], fun i d h => ?_⟩
 by_cases hi : i < ds.length
 ·rw [List.getElem?_append_left (by simpa using hi), List.getElem?_map] at h
  cases q : ds[i]? with
  | none => rw [q] at h; simp at h
  | some d' =>
   rw [q] at h
   simp at h
   subst h
   obtain ⟨v, e, z⟩ := r.get q
   refine ⟨v, ?_, z⟩
   rw [List.getElem?_append_left (by simpa [r.length] using hi), List.getElem?_map, e]
   rfl
 ·rw [List.getElem?_append_right (by simpa using hi), List.getElem?_replicate] at h
  split at h <;> simp at h
section
variable {P : Program} {w : World} {K : PySem.W.Frag} {mg : Str → Option Value} {base : Heap}
theorem fn3 {x qual : Str} {st : Stmt} {f : Addr} {fd : FuncData} {N ps : List Str} {k : Nat} {body : S3} (F : Fun K x qual st f fd) (S : Zav N ps (Zq st))
  (hb : ∀ (cdv : Value) (A : Around) (outer : List Env) (s : Shared) (H : Hp) (E : XK), Zc8 k (A.deeper (envOfC qual (Zq st) s.heap.objs.size f cdv)) → CSs (ZhJ CX0 P w K mg base N qual (Zq st) f cdv A outer s H E).nox (Zaj st) body) :
  Ze3 P w K mg base CX0 (k + 1) f fd ps (sp3 K ps.length (mkF ps.length N.length body)) := by
 refine F.ok S (fun vs H Q E ⟨ι, M, ds, _, r, l, _⟩ => by rw [r.length, l]) fun cdv A outer s H vs Q E hr ⟨ι, M, ds, SR, r, l, h⟩ => ?_
 refine ⟨_, hb cdv A outer s H E hr, ι, M, ds.map some ++ List.replicate (N.length - ps.length) none, SR, ?_, ?_⟩
 ·have e : L2.start N vs = vs.map some ++ List.replicate (N.length - ps.length) none := by unfold L2.start; rw [r.length, l]
  rw [e]
  exact ZbF.start r _
 ·unfold mkF at h
  rw [if_pos l] at h
  cases q : body (ds.map some ++ List.replicate (N.length - ps.length) none) M with
  | nx env' M' => rw [q] at h; exact fun σ' H' ι' x S' E' => ZiS SR x S' Rep.non h
  | rt d M' => rw [q] at h; exact fun v H' ι' x S' r' => ZiS SR x S' r' h
  | bk _ _ => rw [q] at h; exact h.elim
  | ct _ _ => rw [q] at h; exact h.elim
  | exc _ _ => rw [q] at h; exact h.elim
  | bad => rw [q] at h; exact h.elim
noncomputable def Fn3 (P : Program) (w : World) (K : PySem.W.Frag) (mg : Str → Option Value) (base : Heap) (k : Nat) (x : Str) (ps : List Str) (F : F3) : Prop :=
 (∀ ds M, ds.length ≠ ps.length → F ds M = .bad) ∧ ∃ f fd, mg x = some (.ref f) ∧ PySem.W.keepIn K (.ref f) = true ∧ Binds K fd ps [] ∧ Ze3 P w K mg base CX0 k f fd ps (sp3 K ps.length F)
noncomputable def Zat (K : PySem.W.Frag) (mg : Str → Option Value) (x : Str) (st : Stmt) (ps : List Str) : Prop := ∃ f fd, Fun K x x st f fd ∧ mg x = some (.ref f) ∧ Binds K fd ps []
theorem Fn3.of {x : Str} {st : Stmt} {N ps : List Str} {k : Nat} {body : S3} (d : Zat K mg x st ps) (S : Zav N ps (Zq st))
  (hb : ∀ (f : Addr) (cdv : Value) (A : Around) (outer : List Env) (s : Shared) (H : Hp) (E : XK), Zc8 k (A.deeper (envOfC x (Zq st) s.heap.objs.size f cdv)) → CSs (ZhJ CX0 P w K mg base N x (Zq st) f cdv A outer s H E).nox (Zaj st) body) :
  Fn3 P w K mg base (k + 1) x ps (mkF ps.length N.length body) := by
 obtain ⟨f, fd, F, m, bi⟩ := d
 exact ⟨fun ds M h => if_neg h, f, fd, m, F.kp, bi, fn3 F S (hb f)⟩
end
section
variable {X : Cx} {e : Expr} {es : List Expr} {pos p : Pos} {gl : EL3} {x : Str} {k : Nat} {ps : List Str} {F : F3}
theorem Zap (G : Fn3 X.prog X.w X.K X.mg X.base k x ps F) (hr : Zc8 k X.A) (ha : CA X (e :: es) gl) (hg : Gl X x := by rfl) (hdb : (x == ("__debug__" : Str)) = false := by decide)
  (he : starEach (e :: es) X.env = (false, eval e X.env) :: starEach es X.env := by rfl) (hpl : (backTo pos (starEach es X.env)).any (·.1) = false := by rfl) : C3 X (.Call (.Name x p) (e :: es) [] pos) (Zu F gl) := by
 obtain ⟨hn, f, fd, m, kp, bi, ok⟩ := G
 refine (ZlE ok hr hg m kp bi .nil ZoM ha hdb he hpl).imp fun σ H Q ⟨ι, M, env, S, E, h⟩ => ?_
 obtain ⟨ds, M1, e1, h⟩ := Zam.bind h
 refine ⟨ι, M, env, S, E, ?_⟩
 rw [e1]
 intro vs H1 ι1 x1 S1 r1
 have hl : ds.length = ps.length := by
  refine Decidable.byContradiction fun q => ?_
  rw [hn ds M1 q] at h
  exact h.elim
 exact ⟨ι1, M1, ds, S1, by rw [List.append_nil]; exact r1, hl, h.up x1⟩
end
end L3
namespace L3
open PySem PySem.Spec PyProof.Rows L2
noncomputable def tGf (K : PySem.W.Frag) (g : G3) : TG := fun v σ H Q => ∃ ι M env d env', Zax K H ι M ∧ ZbF K H ι env σ ∧ Rep K H ι d v ∧ g d env = some env' ∧ ∀ σ', ZbF K H ι env' σ' → Q σ' H
noncomputable def tGs (K : PySem.W.Frag) (is : List Nat) : TGs := fun vs σ H Q => ∃ ι M env ds env', Zax K H ι M ∧ ZbF K H ι env σ ∧ Zaa K H ι ds vs ∧ bindAll is ds env = some env' ∧ ∀ σ', ZbF K H ι env' σ' → Q σ' H
noncomputable def CG (X : Cx) (tg : Expr) (g : G3) : Prop := PG X tg (tGf X.K g)
noncomputable def CGs (X : Cx) (tg : List Expr) (is : List Nat) : Prop := PGs X tg (tGs X.K is)
theorem PG.imp {X : Cx} {e : Expr} {t t' : TG} (h : PG X e t) (i : ∀ v σ H Q, t' v σ H Q → t v σ H Q) : PG X e t' := fun pins s σ H v u Q I r q => h pins s σ H v u Q I r (i v σ H Q q)
theorem PGs.imp {X : Cx} {e : List Expr} {t t' : TGs} (h : PGs X e t) (i : ∀ v σ H Q, t' v σ H Q → t v σ H Q) : PGs X e t' := fun pins s σ H v u Q I r q => h pins s σ H v u Q I r (i v σ H Q q)
section
variable {X : Cx} {e : Expr} {es : List Expr} {pos : Pos}
theorem ZcE (i : Nat) {x : Str} (hN : X.N.Nodup) (hi : X.N[i]? = some x := by rfl) (hx : Loc X.env.scope x := by first | exact Or.inl rfl | exact Or.inr rfl)
  (hf : X.fn x = true ∨ X.env.scope.names.lookup x = some .local := by first | exact .inl rfl | exact .inr rfl) : CG X (.Name x pos) (Zb2 i) := PG.imp (Zja hN hi hx hf) fun v σ H Q ⟨ι, M, env, d, env', S, E, r, q, h⟩ => by
 cases q
 exact h _ (E.set i r)
theorem Zei : CGs X [] [] := PGs.imp Zl8 fun v σ H Q ⟨ι, M, env, ds, env', S, E, r, q, h⟩ => by
 cases ds with
 | nil => cases q; exact ⟨r.nil_inv, h σ E⟩
 | cons d ds => cases q
theorem ZbD (i : Nat) {is : List Nat} {x : Str} (hN : X.N.Nodup) (ht : CGs X es is) (hi : X.N[i]? = some x := by rfl) (hx : Loc X.env.scope x := by first | exact Or.inl rfl | exact Or.inr rfl)
  (hf : X.fn x = true ∨ X.env.scope.names.lookup x = some .local := by first | exact .inl rfl | exact .inr rfl) (hs : (assignEach (.Name x pos :: es) X.env).map (·.2) = assign (.Name x pos) X.env :: (assignEach es X.env).map (·.2) := by rfl) :
  CGs X (.Name x pos :: es) (i :: is) := PGs.imp (Zk4 (Zja hN hi hx hf) ht hs) fun v σ H Q ⟨ι, M, env, ds, env', S, E, r, q, h⟩ => by
 cases ds with
 | nil => cases q
 | cons d ds =>
  obtain ⟨v, ws, rfl, r1, r2⟩ := r.cons_inv
  exact ⟨v, ws, rfl, ι, M, env.set i (some d), ds, env', S, E.set i r1, r2, q, h⟩
theorem Zfi {is : List Nat} {k : Nat} (hc : X.calm = true) (h : CGs X es is) (hl : es.length = is.length := by rfl) (hn : (assignEach es X.env).length = is.length := by rfl) (hst : (assignEach es X.env).findIdx? (·.1) = none := by rfl) : CG X (.Tuple es k pos) (Zc9 is) :=
 PG.imp (Zm3 (n := is.length) hc h hn hst) fun v σ H Q ⟨ι, M, env, d, env', S, E, r, q, h⟩ => by
  cases d with
  | tup ds =>
   obtain ⟨a, vs, rfl, s, r⟩ := r.tup_inv
   have hlen : ∀ (is : List Nat) (ds : List D) (env env' : ZaC), bindAll is ds env = some env' → ds.length = is.length := by
    intro is
    induction is with
    | nil => intro ds env env' h; cases ds with | nil => rfl | cons d ds => cases h
    | cons i is ih => intro ds env env' h; cases ds with | nil => cases h | cons d ds => simp [ih ds _ _ h]
   exact ⟨a, vs, rfl, s, by rw [r.length]; exact hlen _ _ _ _ q, ι, M, env, ds, env', S, E, r, q, h⟩
  | _ => cases q
end
noncomputable def ZiM (K : PySem.W.Frag) (H : Hp) (ι : List Addr) (it : It3) (J : It) : Prop := ∀ (i : Nat) H2 ι2 M2, Ext K H ι H2 ι2 → Zax K H2 ι2 M2 → locked it M2 = true →
 (∀ d, it.items[i]? = some d → J.go i H2 ∧ ∀ x H3, J.yld i H2 x H3 → H3 = H2 ∧ Rep K H2 ι2 d x) ∧ (i = it.items.length → J.stop i H2)
noncomputable def ZhF (K : PySem.W.Frag) (H : Hp) (ι : List Addr) (R : It → Hp → Prop) (r : R3 It3) : Prop := match r with
 | .ok it M' => ∀ J H' ι', Ext K H ι H' ι' → Zax K H' ι' M' → ZiM K H' ι' it J → R J H'
 | _ => False
noncomputable def tIf (K : PySem.W.Frag) (g : I3) : TI := fun σ H R => ∃ ι M env, Zax K H ι M ∧ ZbF K H ι env σ ∧ ZhF K H ι R (g env M)
noncomputable def CI (X : Cx) (tg e : Expr) (g : I3) : Prop := PI X tg e (tIf X.K g)
theorem PI.imp {X : Cx} {tg e : Expr} {t t' : TI} (h : PI X tg e t) (i : ∀ σ H Q, t' σ H Q → t σ H Q) : PI X tg e t' := fun pins s σ H Q I q => h pins s σ H Q I (i σ H Q q)
theorem PI.or {X : Cx} {tg e : Expr} {t t' : TI} (h : PI X tg e t) (h' : PI X tg e t') : PI X tg e (fun σ H R => t σ H R ∨ t' σ H R) := fun pins s σ H Q I q => q.elim (h pins s σ H Q I) (h' pins s σ H Q I)
theorem ZhF.bind {K : PySem.W.Frag} {H : Hp} {ι : List Addr} {α : Type} {Q : It → Hp → Prop} {r : R3 α} {k : α → Store → R3 It3} (h : ZhF K H ι Q (r.bind k)) : ∃ a M, r = .ok a M ∧ ZhF K H ι Q (k a M) := by
 cases r with
 | ok a M => exact ⟨a, M, rfl, h⟩
 | exc x M => exact h.elim
 | bad => exact h.elim
section
variable {K : PySem.W.Frag} {H : Hp} {ι : List Addr}
end
section
variable {X : Cx} {tg e a b : Expr} {pos p : Pos} {f g : E3}
theorem ZnM (h : C3 X e f) (hs : PI X tg e (fun σ H R => tOf X.K f σ H fun x H1 => ∃ z : Str, x = .str z ∧ z.length ≤ SZ ∧ ∀ J, (∀ ι, ZiM X.K H1 ι ⟨z.cps.toList.map fun c => .str [c], none⟩ J) → R J H1)) : CI X tg e (ZfC f) :=
 PI.imp (PI.or (Zno h) (PI.or (Zlv h) hs)) fun σ H R ⟨ι, M, env, S, E, h⟩ => by
  obtain ⟨d, M1, e1, h⟩ := ZhF.bind h
  cases d with
  | tup ds =>
   refine .inl ⟨ι, M, env, S, E, ?_⟩
   rw [e1]
   intro v H1 ι1 x1 S1 r1
   obtain ⟨a, vs, rfl, s, r⟩ := r1.tup_inv
   refine ⟨a, rfl, ⟨vs, s⟩, h _ H1 ι1 x1 S1 ?_⟩
   intro i H2 ι2 M2 x S2 _
   refine ⟨fun d hd => ?_, fun hl => ⟨vs, x.tup _ _ s, by rw [r.length, hl]; exact Nat.le_refl _⟩⟩
   obtain ⟨v, hv, rv⟩ := r.get hd
   refine ⟨⟨vs, v, x.tup _ _ s, hv⟩, fun y H3 hy => ⟨hy.1, ?_⟩⟩
   have e := hy.2 vs (x.tup _ _ s)
   rw [hv] at e
   cases e
   exact rv.mono x
  | scr ds =>
   refine .inr (.inl ⟨ι, M, env, S, E, ?_⟩)
   rw [e1]
   intro v H1 ι1 x1 S1 r1
   obtain ⟨a, vs, rfl, s, r⟩ := r1.scr_inv
   refine ⟨a, rfl, ⟨vs, s.sq⟩, h _ H1 ι1 x1 S1 ?_⟩
   intro i H2 ι2 M2 x S2 _
   refine ⟨fun d hd => ?_, fun hl => ⟨vs, (x.scr _ _ s).sq, by rw [r.length, hl]; exact Nat.le_refl _⟩⟩
   obtain ⟨v, hv, rv⟩ := r.get hd
   refine ⟨⟨vs, v, (x.scr _ _ s).sq, hv⟩, fun y H3 hy => ⟨hy.1, ?_⟩⟩
   have e := hy.2 vs (x.scr _ _ s).sq
   rw [hv] at e
   cases e
   exact rv.mono x
  | ref n =>
   refine .inr (.inl ⟨ι, M, env, S, E, ?_⟩)
   rw [e1]
   intro v H1 ι1 x1 S1 r1
   cases hm : M1[n]? with
   | none => simp only [hm] at h; exact h.elim
   | some o =>
    cases o with
    | dct kvs => simp only [hm] at h; exact h.elim
    | fdct kvs => simp only [hm] at h; exact h.elim
    | lst ds =>
     simp only [hm] at h
     obtain ⟨a, ha, rfl⟩ := r1.ref_inv
     obtain ⟨vs, q, r⟩ := S1.obj n _ a hm ha
     refine ⟨a, rfl, ⟨vs, SqL.of q⟩, h _ H1 ι1 x1 S1 ?_⟩
     intro i H2 ι2 M2 x S2 lk
     have lk' : M2[n]? = some (.lst ds) := of_decide_eq_true lk
     obtain ⟨vs2, q2, r2⟩ := S2.obj n _ a lk' (x.pre _ _ ha)
     refine ⟨fun d hd => ?_, fun hl => ⟨vs2, SqL.of q2, by rw [r2.length, hl]; exact Nat.le_refl _⟩⟩
     obtain ⟨v, hv, rv⟩ := r2.get hd
     refine ⟨⟨vs2, v, SqL.of q2, hv⟩, fun y H3 hy => ⟨hy.1, ?_⟩⟩
     have e := hy.2 vs2 (SqL.of q2)
     rw [hv] at e
     cases e
     exact rv
  | str z =>
   refine .inr (.inr ⟨ι, M, env, S, E, ?_⟩)
   rw [e1]
   intro v H1 ι1 x1 S1 r1
   have hv := r1.str_inv
   subst hv
   by_cases hz : z.length ≤ SZ
   ·simp only [if_pos hz] at h
    refine ⟨_, rfl, by simpa [Str.length] using hz, fun J hJ => h J H1 ι1 x1 S1 ?_⟩
    simpa using hJ ι1
   ·simp only [if_neg hz] at h; exact h.elim
  | non => exact h.elim
  | bl b => exact h.elim
  | int i => exact h.elim
theorem Zib {K : PySem.W.Frag} {H : Hp} {ι : List Addr} (lo : Int) (n : Nat) : ZiM K H ι ⟨Zcl lo n, none⟩ (Itr lo n) := by
 intro i H2 ι2 M2 x S _
 refine ⟨fun d hd => ?_, fun hl => ?_⟩
 ·unfold Zcl at hd
  rw [List.getElem?_map] at hd
  cases q : (List.range n)[i]? with
  | none => rw [q] at hd; cases hd
  | some k =>
   rw [q] at hd
   obtain ⟨hi, e⟩ := List.getElem?_eq_some_iff.mp q
   rw [List.getElem_range] at e
   subst e
   have hd' : D.int (lo + (i : Int)) = d := by simpa using hd
   subst hd'
   exact ⟨(by show i < n; simpa using hi), fun y H3 hy => ⟨hy.1, by rw [hy.2]; exact Rep.int⟩⟩
 ·show n ≤ i
  rw [hl]
  simp [Zcl]
theorem ZdH (hm : X.mg "range" = none) (h : C3 X a f) (hg : Gl X "range" := by rfl) (hs : starEach [a] X.env = [(false, eval a X.env)] := by rfl) (hs' : starEach (a :: []) X.env = (false, eval a X.env) :: starEach [] X.env := by rfl) : CI X tg (.Call (.Name "range" p) [a] [] pos) (ZbM f) :=
 PI.imp (Zjp hg hm (Zc h Zk hs') hs) fun σ H R ⟨ι, M, env, S, E, h⟩ => by
  obtain ⟨d, M1, e1, h⟩ := ZhF.bind h
  refine ⟨ι, M, env, S, E, ?_⟩
  have e2 : Za f Zg env M = .ok [d] M1 := by unfold Za; rw [e1]; rfl
  rw [e2]
  intro vs H1 ι1 x1 S1 r1
  obtain ⟨v, ws, rfl, r, q⟩ := r1.cons_inv
  have := q.nil_inv
  subst this
  cases d with
  | int j =>
   have hv := r.int_inv
   subst hv
   by_cases hj : j ≤ 1000000 ∧ -1000000 ≤ j
   ·simp only [if_pos hj] at h
    exact ⟨j, rfl, by omega, by omega, h _ H1 ι1 x1 S1 (Zib 0 j.toNat)⟩
   ·simp only [if_neg hj] at h; exact h.elim
  | _ => exact h.elim
theorem Zjv (hm : X.mg "range" = none) (h : C3 X a f) (h' : C3 X b g) (hg : Gl X "range" := by rfl) (hs : starEach [a, b] X.env = [(false, eval a X.env), (false, eval b X.env)] := by rfl) (hs2 : starEach [b] X.env = [(false, eval b X.env)] := by rfl)
  (hs' : starEach (b :: []) X.env = (false, eval b X.env) :: starEach [] X.env := by rfl) (hs3 : starEach (a :: [b]) X.env = (false, eval a X.env) :: starEach [b] X.env := by rfl) : CI X tg (.Call (.Name "range" p) [a, b] [] pos) (ZfH f g) :=
 PI.imp (ZjV hg hm (Zc h (Zc h' Zk hs') hs3) hs hs2) fun σ H R ⟨ι, M, env, S, E, h⟩ => by
  obtain ⟨d, M1, e1, h⟩ := ZhF.bind h
  obtain ⟨d', M2, e2, h⟩ := ZhF.bind h
  refine ⟨ι, M, env, S, E, ?_⟩
  have e3 : Za f (Za g Zg) env M = .ok [d, d'] M2 := by
   unfold Za
   rw [e1]
   show ((Za g Zg env M1).bind _) = _
   unfold Za
   rw [e2]
   rfl
  rw [e3]
  intro vs H1 ι1 x1 S1 r1
  obtain ⟨v, ws, rfl, r, q⟩ := r1.cons_inv
  obtain ⟨v', ws', rfl, r', q⟩ := q.cons_inv
  have := q.nil_inv
  subst this
  cases d with
  | int i =>
   cases d' with
   | int j =>
    have hv := r.int_inv
    have hv' := r'.int_inv
    subst hv hv'
    by_cases hj : (j ≤ 1000000 ∧ -1000000 ≤ j) ∧ (i ≤ 1000000 ∧ -1000000 ≤ i)
    ·simp only [if_pos hj] at h
     exact ⟨i, j, rfl, ⟨by omega, by omega, by omega, by omega⟩, h _ H1 ι1 x1 S1 (Zib i (j - i).toNat)⟩
    ·simp only [if_neg hj] at h; exact h.elim
   | _ => exact h.elim
  | _ => exact h.elim
theorem ZdS {iter : Expr} {body : List Stmt} {i : I3} {g : G3} {u : S3} (hxe : X.xe = fun _ _ => False) (hc : X.calm = true) (hi : CI X tg iter i) (hg : CG X tg g) (hb : CSs X body u) (hs : ∀ x, foldedSetIterable iter X.env x = pure x := by intro _; rfl) :
  CS X (.For tg iter body [] pos) (ZeF i g u) := (Zks (by rw [hxe]; exact PassesOwn.never) hc hi hg hb hs).imp fun D σ H ⟨ι, M, env, S, E, h⟩ => by
 unfold ZeF at h
 cases q : i env M with
 | exc x M1 => rw [q] at h; exact h.elim
 | bad => rw [q] at h; exact h.elim
 | ok it M1 =>
  rw [q] at h
  refine ⟨ι, M, env, S, E, ?_⟩
  rw [q]
  intro J H1 ι1 x1 S1 ok
  refine ⟨fun i m σ2 H2 => m = it.items.length - i ∧ i ≤ it.items.length ∧ ∃ ι2 M2 env2, Ext X.K H1 ι1 H2 ι2 ∧ Zax X.K H2 ι2 M2 ∧ ZbF X.K H2 ι2 env2 σ2 ∧ Zek X.K H2 ι2 D (ZbR it g u (it.items.drop i) env2 M2),
   ⟨_, rfl, Nat.zero_le _, ι1, M1, env, Ext.refl, S1, E.mono x1, Zek.up x1 h⟩, ?_⟩
  rintro i m σ2 H2 ⟨rfl, hi, ι2, M2, env2, x2, S2, E2, h2⟩
  by_cases hlt : i < it.items.length
  ·have hd : it.items[i]? = some it.items[i] := by simp [hlt]
   rw [List.drop_eq_getElem_cons hlt] at h2
   unfold ZbR at h2
   by_cases lk : locked it M2 = true
   ·rw [if_pos lk] at h2
    obtain ⟨go, yl⟩ := (ok i H2 ι2 M2 x2 S2 lk).1 _ hd
    cases eg : g it.items[i] env2 with
    | none => rw [eg] at h2; exact h2.elim
    | some env3 =>
     rw [eg] at h2
     refine .inr ⟨go, fun σ' H' => ∃ ι3 M3 env4, Ext X.K H2 ι2 H' ι3 ∧ Zax X.K H' ι3 M3 ∧ ZbF X.K H' ι3 env4 σ' ∧ Zek X.K H' ι3 D (ZbR it g u (it.items.drop (i + 1)) env4 M3),
      fun σ' H' ⟨ι3, M3, env4, x3, S3, E3, h3⟩ => ⟨it.items.length - (i + 1), by omega, rfl, hlt, ι3, M3, env4, x2.trans x3, S3, E3, h3⟩, fun x H' hy => ?_⟩
     obtain ⟨rfl, rx⟩ := yl x H' hy
     refine ⟨ι2, M2, env2, _, env3, S2, E2, rx, eg, fun σ' E' => ⟨ι2, M2, env3, S2, E', ?_⟩⟩
     cases qu : u env3 M2 with
     | nx e' M' => simp only [qu] at h2; exact fun σ' H' ι' x' S' E' => ⟨ι', M', e', x', S', E', h2.up x'⟩
     | ct e' M' => simp only [qu] at h2; exact fun σ' H' ι' x' S' E' => ⟨ι', M', e', x', S', E', h2.up x'⟩
     | bk e' M' => simp only [qu] at h2; exact h2
     | rt d M' => simp only [qu] at h2; exact h2
     | exc x' M' => simp only [qu] at h2; exact h2.elim
     | bad => simp only [qu] at h2; exact h2.elim
   ·rw [if_neg lk] at h2; exact h2.elim
  ·have e0 : i = it.items.length := by omega
   subst e0
   rw [List.drop_length] at h2
   unfold ZbR at h2
   by_cases lk : locked it M2 = true
   ·rw [if_pos lk] at h2
    exact .inl ⟨(ok _ H2 ι2 M2 x2 S2 lk).2 rfl, h2 σ2 H2 ι2 Ext.refl S2 E2⟩
   ·rw [if_neg lk] at h2; exact h2.elim
theorem Zkq {c1 : Expr} {body : List Stmt} {u : S3} (hxe : X.xe = fun _ _ => False) (hc : CT X c1 f) (hb : CSs X body u) : CS X (.While c1 body [] pos) (Zlk f u) := (Zk7 (by rw [hxe]; exact PassesOwn.never) hc hb).imp fun D σ H ⟨ι, M, env, S, E, h⟩ => by
 refine ⟨fun m σ2 H2 => ∃ ι2 M2 env2, Zax X.K H2 ι2 M2 ∧ ZbF X.K H2 ι2 env2 σ2 ∧ Zek X.K H2 ι2 D (ZdB f u m env2 M2), ⟨1000000, ι, M, env, S, E, h⟩, ?_⟩
 rintro m σ2 H2 ⟨ι2, M2, env2, S2, E2, h2⟩
 cases m with
 | zero => exact h2.elim
 | succ m =>
  refine ⟨ι2, M2, env2, S2, E2, ?_⟩
  unfold ZdB at h2
  cases q : f env2 M2 with
  | exc x M1 => rw [q] at h2; exact h2.elim
  | bad => rw [q] at h2; exact h2.elim
  | ok d M1 =>
   rw [q] at h2
   cases d with
   | bl k =>
    cases k with
    | false =>
     intro H3 ι3 x3 S3
     rw [if_neg (by decide)]
     exact h2 σ2 H3 ι3 x3 S3 (E2.mono x3)
    | true =>
     intro H3 ι3 x3 S3
     rw [if_pos rfl]
     refine ⟨fun σ' H' => ∃ ι4 M4 env4, Zax X.K H' ι4 M4 ∧ ZbF X.K H' ι4 env4 σ' ∧ Zek X.K H' ι4 D (ZdB f u m env4 M4), fun σ' H' q => ⟨m, Nat.lt_succ_self _, q⟩, ι3, M1, env2, S3, E2.mono x3, ?_⟩
     have h3 := Zek.up x3 h2
     cases qu : u env2 M1 with
     | nx e' M' => simp only [qu] at h3; exact fun σ' H' ι' x' S' E' => ⟨ι', M', e', S', E', h3.up x'⟩
     | ct e' M' => simp only [qu] at h3; exact fun σ' H' ι' x' S' E' => ⟨ι', M', e', S', E', h3.up x'⟩
     | bk e' M' => simp only [qu] at h3; exact h3
     | rt d M' => simp only [qu] at h3; exact h3
     | exc x' M' => simp only [qu] at h3; exact h3.elim
     | bad => simp only [qu] at h3; exact h3.elim
   | _ => exact h2.elim
end
end L3
namespace L3
open PySem PySem.Spec PyProof.Rows L2
theorem Rep.non_iff {K : PySem.W.Frag} {H : Hp} {ι : List Addr} {d : D} {v : V} (r : Rep K H ι d v) : decide (v = V.non) = decide (d = D.non) := by
 cases d with
 | non => rw [r.non_inv]; rfl
 | bl b => rw [r.bl_inv]; simp
 | int i => rw [r.int_inv]; simp
 | str x => rw [r.str_inv]; simp
 | tup ds => obtain ⟨a, vs, rfl, _⟩ := r.tup_inv; simp
 | scr ds => obtain ⟨a, vs, rfl, _⟩ := r.scr_inv; simp
 | ref n => obtain ⟨a, _, rfl⟩ := r.ref_inv; simp
theorem Zex {x y : List Nat} : decide (V.str ⟨x.toArray⟩ = V.str ⟨y.toArray⟩) = (x == y) := by
 by_cases h : x = y
 ·subst h; simp
 ·rw [decide_eq_false (fun e => h (by injection e with e1; injection e1 with e2; simpa using congrArg Array.toList e2))]
  exact (beq_eq_false_iff_ne.mpr h).symm
section
variable {X : Cx}
theorem Zku : OpR X (binaryOp .Add) (fun x y H Q => ∃ a b ys, x = .ref a ∧ y = .ref b ∧ SqT X.K H a [] ∧ SqT X.K H b ys ∧ Q (.ref b) H) := by
 intro pins s σ H x y v u Q I rx ry h
 obtain ⟨a, b, ys, rfl, rfl, ha, hb, q⟩ := h
 cases rx
 cases ry
 obtain ⟨its, r1, p1, _⟩ := I.tuple ha
 obtain ⟨its2, r2, p2, _⟩ := I.tuple hb
 cases r1
 obtain ⟨⟨cls, dd, data, sl⟩, ho, hc, n, hd⟩ := id p1
 obtain ⟨⟨cls2, dd2, data2, sl2⟩, ho2, hc2, n2, hd2⟩ := id p2
 simp only at hc hd hc2 hd2
 subst hc hd hc2 hd2
 exact concat_meets ⟨_, ho, rfl⟩ ⟨_, ho2, rfl⟩ noFill_tuple_add seq_tuple_add PySem.F.slot_tuple_add PySem.F.entry_tuple_add (PySem.F.args_tuple_add_2 _ _)
   (tuple_addW0 a b _ its2.toArray n n2 dd dd2 sl sl2 (by simp)) ⟨ho, ho2, ⟨.ref b, H, I, rfl, q⟩⟩
theorem Zlp (x y : List Nat) : (⟨x.toArray⟩ : Str) ++ ⟨y.toArray⟩ = ⟨(x ++ y).toArray⟩ := by
 show Str.append _ _ = _
 unfold Str.append
 simp
theorem ZaI : OpR X (binaryOp .Add) (r2 X.K Zr) := OpR.imp (OpR.or ZmW (OpR.or Ziw (OpR.or Zmz (OpR.or ZlP Zku)))) fun x y H Q ⟨ι, M, a, b, S, ra, rb, h⟩ => by
 cases a with
 | int i => cases b with
  | int j => exact .inl ⟨i, j, ra.int_inv, rb.int_inv, Zam.ok h S Rep.int⟩
  | _ => exact h.elim
 | str x => cases b with
  | str y =>
   simp only [Zr] at h
   split at h
   ·rename_i hz
    refine .inr (.inl ⟨_, _, ra.str_inv, rb.str_inv, ?_, ?_⟩)
    ·have := ZbK
     simp only [Str.length, List.size_toArray]
     omega
    ·rw [Zlp]; exact Zam.ok h S Rep.str
   ·exact h.elim
  | _ => exact h.elim
 | tup x => cases b with
  | tup y =>
   simp only [Zr] at h
   split at h
   ·rename_i hz
    obtain ⟨p, vs, rfl, s, r⟩ := ra.tup_inv
    obtain ⟨q, ws, rfl, s', r'⟩ := rb.tup_inv
    by_cases hv : vs = []
    ·subst hv
     have hx : x = [] := by have := r.length; simpa using this.symm
     subst hx
     exact .inr (.inr (.inr (.inr ⟨p, q, ws, rfl, rfl, s, s', Zam.ok h S (Rep.tup s' r')⟩)))
    ·refine .inr (.inr (.inr (.inl ⟨p, q, vs, ws, rfl, rfl, s, s', hv, ?_, fun hw => ?_, fun hw p' hp => ?_⟩)))
     ·have := ZbK
      rw [r.length, r'.length]
      omega
     ·subst hw
      have hy : y = [] := by have := r'.length; simpa using this.symm
      subst hy
      rw [List.append_nil] at h
      exact Zam.ok h S (Rep.tup s r)
     ·obtain ⟨x2, S2, r2⟩ := S.tupl hp (r.append r')
      exact h _ _ _ x2 S2 r2
   ·exact h.elim
  | _ => exact h.elim
 | ref n => cases b with
  | ref m =>
   simp only [Zr] at h
   cases hn : M[n]? with
   | none => simp only [hn] at h; exact h.elim
   | some o =>
    cases o with
    | dct _ => simp only [hn] at h; exact h.elim
    | fdct _ => simp only [hn] at h; exact h.elim
    | lst x =>
     cases hm : M[m]? with
     | none => simp only [hn, hm] at h; exact h.elim
     | some o =>
      cases o with
      | dct _ => simp only [hn, hm] at h; exact h.elim
      | fdct _ => simp only [hn, hm] at h; exact h.elim
      | lst y =>
       simp only [hn, hm] at h
       split at h
       ·rename_i hz
        obtain ⟨p, hp, rfl⟩ := ra.ref_inv
        obtain ⟨q, hq, rfl⟩ := rb.ref_inv
        obtain ⟨vs, e1, r1⟩ := S.obj n _ p hn hp
        obtain ⟨ws, e2, r2⟩ := S.obj m _ q hm hq
        refine .inr (.inr (.inl ⟨p, q, vs, ws, rfl, rfl, e1, e2, ?_, fun p' hp' => ?_⟩))
        ·have := ZbK
         rw [r1.length, r2.length]
         omega
        ·obtain ⟨x2, S2, r3⟩ := S.lst hp' (r1.append r2)
         exact h _ _ _ x2 S2 r3
       ·exact h.elim
  | _ => exact h.elim
 | _ => cases b <;> exact h.elim
theorem Zet : OpR X (binaryOp .Sub) (r2 X.K ZcP) := OpR.imp Zm6 fun x y H Q ⟨ι, M, a, b, S, ra, rb, h⟩ => by
 cases a <;> cases b <;> first | exact h.elim | exact ⟨_, _, ra.int_inv, rb.int_inv, Zam.ok h S Rep.int⟩
theorem Zbg : OpR X (binaryOp .Mod) (r2 X.K Zaq) := OpR.imp Znz fun x y H Q ⟨ι, M, a, b, S, ra, rb, h⟩ => by
 cases a with
 | int i => cases b with
  | int j =>
   simp only [Zaq] at h
   split at h
   ·rename_i hj
    exact ⟨i, j, ra.int_inv, rb.int_inv, hj, Zam.ok h S Rep.int⟩
   ·exact h.elim
  | _ => exact h.elim
 | _ => cases b <;> exact h.elim
theorem ZbA : OpR X (binaryOp .FloorDiv) (r2 X.K ZaE) := OpR.imp Zlz fun x y H Q ⟨ι, M, a, b, S, ra, rb, h⟩ => by
 cases a with
 | int i => cases b with
  | int j =>
   simp only [ZaE] at h
   split at h
   ·rename_i hj
    exact ⟨i, j, ra.int_inv, rb.int_inv, hj, Zam.ok h S Rep.int⟩
   ·exact h.elim
  | _ => exact h.elim
 | _ => cases b <;> exact h.elim
theorem ZiZ : OpR X (binaryOp .Pow) (r2 X.K Zft) := OpR.imp ZmR fun x y H Q ⟨ι, M, a, b, S, ra, rb, h⟩ => by
 cases a with
 | int i => cases b with
  | int j =>
   simp only [Zft] at h
   split at h
   ·rename_i hj
    exact ⟨i, j, ra.int_inv, rb.int_inv, ⟨hj.1, by omega, by have := hj.2.2; omega⟩, Zam.ok h S Rep.int⟩
   ·exact h.elim
  | _ => exact h.elim
 | _ => cases b <;> exact h.elim
theorem ZgK : UnR X (unaryOp .USub) (r1 X.K Zdv) := UnR.imp Znh fun x H Q ⟨ι, M, a, S, ra, h⟩ => by
 cases a with
 | int i => exact ⟨i, ra.int_inv, Zam.ok h S Rep.int⟩
 | _ => exact h.elim
theorem Znc : OpR X (compareOp .Lt) (r2 X.K Zkp) := OpR.imp ZoS fun x y H Q ⟨ι, M, a, b, S, ra, rb, h⟩ => by
 cases a <;> cases b <;> first | exact h.elim | exact ⟨_, _, ra.int_inv, rb.int_inv, Zam.ok h S Rep.bl⟩
theorem Zpp : OpR X (compareOp .LtE) (r2 X.K ZkC) := OpR.imp ZoP fun x y H Q ⟨ι, M, a, b, S, ra, rb, h⟩ => by
 cases a <;> cases b <;> first | exact h.elim | exact ⟨_, _, ra.int_inv, rb.int_inv, Zam.ok h S Rep.bl⟩
theorem Zh8 : OpR X (compareOp .Gt) (r2 X.K Zd5) := OpR.imp ZoE fun x y H Q ⟨ι, M, a, b, S, ra, rb, h⟩ => by
 cases a <;> cases b <;> first | exact h.elim | exact ⟨_, _, ra.int_inv, rb.int_inv, Zam.ok h S Rep.bl⟩
theorem Zpx : OpR X (compareOp .GtE) (r2 X.K ZoK) := OpR.imp Zof fun x y H Q ⟨ι, M, a, b, S, ra, rb, h⟩ => by
 cases a <;> cases b <;> first | exact h.elim | exact ⟨_, _, ra.int_inv, rb.int_inv, Zam.ok h S Rep.bl⟩
theorem Zn3 : OpR X (compareOp .Is) (r2 X.K Zm1) := OpR.imp Znw fun x y H Q ⟨ι, M, a, b, S, ra, rb, h⟩ => by
 cases b with
 | non => exact ⟨rb.non_inv, by rw [ra.non_iff]; exact Zam.ok h S Rep.bl⟩
 | _ => exact h.elim
theorem ZeX : OpR X (compareOp .IsNot) (r2 X.K Zbm) := OpR.imp Zmb fun x y H Q ⟨ι, M, a, b, S, ra, rb, h⟩ => by
 cases b with
 | non => exact ⟨rb.non_inv, by rw [ra.non_iff]; exact Zam.ok h S Rep.bl⟩
 | _ => exact h.elim
end
theorem units_in1 (A : Around) : A.in1.units = A.units + 1 := rfl
section
variable {X : Cx} {pins : List (Addr × Obj)} {σ : St} {H : Hp} {s : Shared} {ι : List Addr}
theorem ZcI {e : Nat → Bool} : ∀ {x y : List D}, x.length = y.length → (∀ (j : Nat) a b, x[j]? = some a → y[j]? = some b → e j = deq a b) → (List.range x.length).all e = ZbW x y := by
 intro x
 induction x generalizing e with
 | nil => intro y h _; cases y with | nil => rfl | cons _ _ => simp at h
 | cons a x ih =>
  intro y h he
  cases y with
  | nil => simp at h
  | cons b y =>
   rw [List.length_cons, List.range_succ_eq_map, List.all_cons, List.all_map, he 0 a b rfl rfl]
   rw [ZbW]
   congr 1
   exact ih (e := e ∘ Nat.succ) (by simpa using h) fun j a' b' h1 h2 => he (j + 1) a' b' (by simpa using h1) (by simpa using h2)
theorem ZdI : ∀ {x y : List D}, ZbW x y = true → x.length = y.length
 | [], [], _ => rfl
 | [], _ :: _, h => by simp [ZbW] at h
 | _ :: _, [], h => by simp [ZbW] at h
 | a :: x, b :: y, h => by
  simp only [ZbW, Bool.and_eq_true] at h
  simp [ZdI h.2]
theorem Rep.fun1 (I : Inv X pins σ H s) : ∀ (n : Nat) (a b : D) (v : V), Zag n a = true → Zag n b = true → Rep X.K H ι a v → Rep X.K H ι b v → deq a b = true := by
 intro n
 induction n with
 | zero =>
  intro a b v ha hb r q
  cases a with
  | non => have := r.non_inv; subst this; cases b <;> simp_all [Zag, Rep, deq]
  | bl x => have := r.bl_inv; subst this; cases b <;> simp_all [Zag, Rep, deq]
  | int x => have := r.int_inv; subst this; cases b <;> simp_all [Zag, Rep, deq]
  | str x => have := r.str_inv; subst this; cases b <;> simp_all [Zag, Rep, deq]
  | _ => simp [Zag] at ha
 | succ n ih =>
  intro a b v ha hb r q
  cases a with
  | non => have := r.non_inv; subst this; cases b <;> simp_all [Zag, Rep, deq]
  | bl x => have := r.bl_inv; subst this; cases b <;> simp_all [Zag, Rep, deq]
  | int x => have := r.int_inv; subst this; cases b <;> simp_all [Zag, Rep, deq]
  | str x => have := r.str_inv; subst this; cases b <;> simp_all [Zag, Rep, deq]
  | tup ds =>
   obtain ⟨p, vs, rfl, s1, r1⟩ := r.tup_inv
   cases b with
   | tup es =>
    obtain ⟨p', ws, e, s2, r2⟩ := q.tup_inv
    cases e
    have e := I.tuple_inj s1 s2
    subst e
    rw [deq]
    have h1 : ds.all (Zag n) = true := ha
    have h2 : es.all (Zag n) = true := hb
    have key : ∀ (ds es : List D) (vs : List V), ds.all (Zag n) = true → es.all (Zag n) = true → Zaa X.K H ι ds vs → Zaa X.K H ι es vs → ZbW ds es = true := by
     intro ds
     induction ds with
     | nil => intro es vs _ _ r1 r2; have := r1.nil_inv; subst this; cases es with | nil => rfl | cons _ _ => obtain ⟨_, _, e, _⟩ := r2.cons_inv; cases e
     | cons d ds ih2 =>
      intro es vs h1 h2 r1 r2
      obtain ⟨v, ws, rfl, q1, q2⟩ := r1.cons_inv
      cases es with
      | nil => have := r2.nil_inv; cases this
      | cons e es =>
       obtain ⟨v', ws', z, q3, q4⟩ := r2.cons_inv
       cases z
       rw [List.all_cons, Bool.and_eq_true] at h1 h2
       rw [ZbW, ih d e v h1.1 h2.1 q1 q3, ih2 es ws h1.2 h2.2 q2 q4]
       rfl
    exact key ds es vs h1 h2 r1 r2
   | non => have := q.non_inv; cases this
   | bl _ => have := q.bl_inv; cases this
   | int _ => have := q.int_inv; cases this
   | str _ => have := q.str_inv; cases this
   | _ => simp [Zag] at hb
  | _ => simp [Zag] at ha
theorem Zdj (A : Around) (a b : D) (x y : V) (u v : Value) (ha : Zas a = true) (hb : Zas b = true) (ra : Rep X.K H ι a x) (rb : Rep X.K H ι b y) (ru : RelV x u) (rv : RelV y v) : SeqAt.EqAt A s u v (deq a b) := by
 cases a with
 | non => have := ra.non_inv; subst this; cases ru; cases b with
  | non => have := rb.non_inv; subst this; cases rv; exact SeqAt.EqAt.same _
  | bl k => have := rb.bl_inv; subst this; cases rv; exact SeqAt.EqAt.none_bool _
  | int k => have := rb.int_inv; subst this; obtain ⟨t, rfl⟩ := rv; exact SeqAt.EqAt.none_int _ _
  | str k => have := rb.str_inv; subst this; obtain ⟨t, rfl⟩ := rv; exact SeqAt.EqAt.none_str _ _
  | _ => simp [Zas] at hb
 | bl i => have := ra.bl_inv; subst this; cases ru; cases b with
  | non => have := rb.non_inv; subst this; cases rv; exact SeqAt.EqAt.bool_none _
  | bl k => have := rb.bl_inv; subst this; cases rv; exact SeqAt.EqAt.bool_bool _ _
  | int k => have := rb.int_inv; subst this; obtain ⟨t, rfl⟩ := rv; exact SeqAt.EqAt.bool_int _ _ _
  | str k => have := rb.str_inv; subst this; obtain ⟨t, rfl⟩ := rv; exact SeqAt.EqAt.bool_str _ _ _
  | _ => simp [Zas] at hb
 | int i => have := ra.int_inv; subst this; obtain ⟨t0, rfl⟩ := ru; cases b with
  | non => have := rb.non_inv; subst this; cases rv; exact SeqAt.EqAt.int_none _ _
  | bl k => have := rb.bl_inv; subst this; cases rv; exact SeqAt.EqAt.int_bool _ _ _
  | int k => have := rb.int_inv; subst this; obtain ⟨t, rfl⟩ := rv; exact SeqAt.EqAt.int_int _ _ _ _
  | str k => have := rb.str_inv; subst this; obtain ⟨t, rfl⟩ := rv; exact SeqAt.EqAt.int_str _ _ _ _
  | _ => simp [Zas] at hb
 | str i => have := ra.str_inv; subst this; obtain ⟨t0, rfl⟩ := ru; cases b with
  | non => have := rb.non_inv; subst this; cases rv; exact SeqAt.EqAt.str_none _ _
  | bl k => have := rb.bl_inv; subst this; cases rv; exact SeqAt.EqAt.str_bool _ _ _
  | int k => have := rb.int_inv; subst this; obtain ⟨t, rfl⟩ := rv; exact SeqAt.EqAt.str_int _ _ _ _
  | str k => have := rb.str_inv; subst this; obtain ⟨t, rfl⟩ := rv; exact (by
    have e : deq (.str i) (.str k) = ((⟨i.toArray⟩ : Str) == ⟨k.toArray⟩) := by
     rw [deq, ← Zex]
     by_cases h : (⟨i.toArray⟩ : Str) = ⟨k.toArray⟩
     ·simp [h]
     ·simp [h]
    rw [e]
    exact SeqAt.EqAt.str_str _ _ _ _)
  | _ => simp [Zas] at hb
 | _ => simp [Zas] at ha
theorem Zhh (I : Inv X pins σ H s) : ∀ (n : Nat) (A : Around) (a b : D) (x y : V) (u v : Value), A.units + n + 1 < cLine → Zag n a = true → Zag n b = true → Rep X.K H ι a x → Rep X.K H ι b y → RelV x u → RelV y v → SeqAt.EqAt A s u v (deq a b) := by
 intro n
 induction n with
 | zero =>
  intro A a b x y u v hu ha hb ra rb ru rv
  have f : ∀ d : D, Zag 0 d = true → Zas d = true := fun d h => by cases d <;> simp_all [Zag, Zas]
  exact Zdj A a b x y u v (f a ha) (f b hb) ra rb ru rv
 | succ n ih =>
  intro A a b x y u v hu ha hb ra rb ru rv
  have hu0 : A.units + 0 + 1 < cLine := by omega
  have hu1 : A.units < cLine := by omega
  cases a with
  | tup ds =>
   obtain ⟨p, vs, rfl, s1, r1⟩ := ra.tup_inv
   cases ru
   obtain ⟨its, rvs, ht, _⟩ := I.tuple s1
   have it1 : s.heap.IsTuple p its.toArray := ht
   cases b with
   | tup es =>
    obtain ⟨p', ws, rfl, s2, r2⟩ := rb.tup_inv
    cases rv
    obtain ⟨its2, rws, ht2, _⟩ := I.tuple s2
    have it2 : s.heap.IsTuple p' its2.toArray := ht2
    by_cases hp : p = p'
    ·subst hp
     rw [Rep.fun1 I (n + 1) _ _ _ ha hb ra rb]
     exact SeqAt.EqAt.same _
    ·refine SeqAt.EqAt.of_refs hp ?_
     have e1 : its.length = ds.length := by rw [← rvs.length, r1.length]
     have e2 : its2.length = es.length := by rw [← rws.length, r2.length]
     have key : ((List.range (min its.toArray.size its2.toArray.size)).all (fun j => match ds[j]?, es[j]? with | some a, some b => deq a b | _, _ => false) && its.toArray.size == its2.toArray.size) = deq (.tup ds) (.tup es) := by
      rw [deq, List.size_toArray, List.size_toArray, e1, e2]
      by_cases hl : ds.length = es.length
      ·rw [hl, Nat.min_self, beq_self_eq_true, Bool.and_true, ← hl]
       exact ZcI hl fun j a b h1 h2 => by rw [h1, h2]
      ·have z : ZbW ds es = false := by
        cases q : ZbW ds es with
        | false => rfl
        | true => exact absurd (ZdI q) hl
       rw [z, beq_eq_false_iff_ne.mpr hl, Bool.and_false]
     rw [← key]
     refine SeqAt.RcAt.tuples it1 it2 hu1 fun j h1 h2 => ?_
     have h1' : j < ds.length := by rw [← e1]; simpa using h1
     have h2' : j < es.length := by rw [← e2]; simpa using h2
     have q1 : ds[j]? = some ds[j] := by simp [h1']
     have q2 : es[j]? = some es[j] := by simp [h2']
     rw [q1, q2]
     obtain ⟨v1, g1, z1⟩ := r1.get q1
     obtain ⟨v2, g2, z2⟩ := r2.get q2
     obtain ⟨u1, k1, l1⟩ := rvs.get g1
     obtain ⟨u2, k2, l2⟩ := rws.get g2
     have m1 : its.toArray[j] = u1 := by
      have := List.getElem?_eq_some_iff.mp k1
      simpa using this.2
     have m2 : its2.toArray[j] = u2 := by
      have := List.getElem?_eq_some_iff.mp k2
      simpa using this.2
     rw [m1, m2]
     exact ih A.in1 ds[j] es[j] v1 v2 u1 u2 (by rw [units_in1]; omega) (List.all_eq_true.mp (show ds.all (Zag n) = true from ha) _ (List.getElem_mem h1')) (List.all_eq_true.mp (show es.all (Zag n) = true from hb) _ (List.getElem_mem h2')) z1 z2 l1 l2
   | non => have := rb.non_inv; subst this; cases rv; exact SeqAt.EqAt.tuple_none it1 hu1
   | bl k => have := rb.bl_inv; subst this; cases rv; exact SeqAt.EqAt.tuple_bool _ it1 hu1
   | int k => have := rb.int_inv; subst this; obtain ⟨t, rfl⟩ := rv; exact SeqAt.EqAt.tuple_int _ _ it1 hu1
   | str k => have := rb.str_inv; subst this; obtain ⟨t, rfl⟩ := rv; exact SeqAt.EqAt.tuple_str _ _ it1 hu1
   | _ => simp [Zag] at hb
  | non => cases b with
   | tup es =>
    have := ra.non_inv; subst this; cases ru
    obtain ⟨p', ws, rfl, s2, r2⟩ := rb.tup_inv
    cases rv
    obtain ⟨its2, rws, ht2, _⟩ := I.tuple s2
    exact SeqAt.EqAt.none_tuple (show s.heap.IsTuple p' its2.toArray from ht2) hu1
   | scr _ => simp [Zag] at hb
   | ref _ => simp [Zag] at hb
   | _ => exact Zdj A _ _ x y u v (by rfl) (by rfl) ra rb ru rv
  | bl i => cases b with
   | tup es =>
    have := ra.bl_inv; subst this; cases ru
    obtain ⟨p', ws, rfl, s2, r2⟩ := rb.tup_inv
    cases rv
    obtain ⟨its2, rws, ht2, _⟩ := I.tuple s2
    exact SeqAt.EqAt.bool_tuple _ (show s.heap.IsTuple p' its2.toArray from ht2) hu1
   | scr _ => simp [Zag] at hb
   | ref _ => simp [Zag] at hb
   | _ => exact Zdj A _ _ x y u v (by rfl) (by rfl) ra rb ru rv
  | int i => cases b with
   | tup es =>
    have := ra.int_inv; subst this; obtain ⟨t0, rfl⟩ := ru
    obtain ⟨p', ws, rfl, s2, r2⟩ := rb.tup_inv
    cases rv
    obtain ⟨its2, rws, ht2, _⟩ := I.tuple s2
    exact SeqAt.EqAt.int_tuple _ _ (show s.heap.IsTuple p' its2.toArray from ht2) hu1
   | scr _ => simp [Zag] at hb
   | ref _ => simp [Zag] at hb
   | _ => exact Zdj A _ _ x y u v (by rfl) (by rfl) ra rb ru rv
  | str i => cases b with
   | tup es =>
    have := ra.str_inv; subst this; obtain ⟨t0, rfl⟩ := ru
    obtain ⟨p', ws, rfl, s2, r2⟩ := rb.tup_inv
    cases rv
    obtain ⟨its2, rws, ht2, _⟩ := I.tuple s2
    exact SeqAt.EqAt.str_tuple _ _ (show s.heap.IsTuple p' its2.toArray from ht2) hu1
   | scr _ => simp [Zag] at hb
   | ref _ => simp [Zag] at hb
   | _ => exact Zdj A _ _ x y u v (by rfl) (by rfl) ra rb ru rv
  | _ => simp [Zag] at ha
end
end L3
namespace L3
open PySem PySem.Spec PyProof.Rows L2
section
variable {X : Cx}
theorem Znx {pins : List (Addr × Obj)} {σ : St} {H : Hp} {s : Shared} {ι : List Addr} {M : Store} {a b : D} {x y : V} {u v : Value} {k : Bool} (hu : X.A.units + 80 < cLine) (I : Inv X pins σ H s) (S : Zax X.K H ι M)
  (ra : Rep X.K H ι a x) (rb : Rep X.K H ι b y) (ru : RelV x u) (rv : RelV y v) (h : eqD a b M = some k) : SeqAt.RcAt X.A s u v k := by
 cases a with
 | ref n =>
  cases b with
  | ref m =>
   simp only [eqD] at h
   cases hn : M[n]? with
   | none => simp [hn] at h
   | some o =>
    cases o with
    | dct _ => simp [hn] at h
    | fdct _ => simp [hn] at h
    | lst ds =>
     cases hm : M[m]? with
     | none => simp [hn, hm] at h
     | some o =>
      cases o with
      | dct _ => simp [hn, hm] at h
      | fdct _ => simp [hn, hm] at h
      | lst es =>
       simp only [hn, hm] at h
       split at h
       ·rename_i hp
        cases h
        rw [Bool.and_eq_true] at hp
        obtain ⟨p, hp1, rfl⟩ := ra.ref_inv
        obtain ⟨q, hq1, rfl⟩ := rb.ref_inv
        cases ru
        cases rv
        obtain ⟨vs, e1, r1⟩ := S.obj n _ p hn hp1
        obtain ⟨ws, e2, r2⟩ := S.obj m _ q hm hq1
        obtain ⟨its, rvs, pl1, _⟩ := I.list (SqL.of e1)
        obtain ⟨its2, rws, pl2, _⟩ := I.list (SqL.of e2)
        have it1 := pl1.isList
        have it2 := pl2.isList
        have l1 : its.length = ds.length := by rw [← rvs.length, r1.length]
        have l2 : its2.length = es.length := by rw [← rws.length, r2.length]
        have hu1 : X.A.units < cLine := by omega
        by_cases hl : ds.length = es.length
        ·have key : (List.range its.toArray.size).all (fun j => match ds[j]?, es[j]? with | some a, some b => deq a b | _, _ => false) = ZbW ds es := by
          rw [List.size_toArray, l1]
          exact ZcI hl fun j a b h1 h2 => by rw [h1, h2]
         rw [← key]
         refine SeqAt.RcAt.lists it1 it2 (by rw [List.size_toArray, List.size_toArray, l1, l2, hl]) hu1 fun j h1 h2 => ?_
         have h1' : j < ds.length := by rw [← l1]; simpa using h1
         have h2' : j < es.length := by rw [← l2]; simpa using h2
         have q1 : ds[j]? = some ds[j] := by simp [h1']
         have q2 : es[j]? = some es[j] := by simp [h2']
         rw [q1, q2]
         obtain ⟨v1, g1, z1⟩ := r1.get q1
         obtain ⟨v2, g2, z2⟩ := r2.get q2
         obtain ⟨u1, k1, w1⟩ := rvs.get g1
         obtain ⟨u2, k2, w2⟩ := rws.get g2
         have m1 : its.toArray[j] = u1 := by
          have := List.getElem?_eq_some_iff.mp k1
          simpa using this.2
         have m2 : its2.toArray[j] = u2 := by
          have := List.getElem?_eq_some_iff.mp k2
          simpa using this.2
         rw [m1, m2]
         exact Zhh I DEEP X.A.in1 ds[j] es[j] v1 v2 u1 u2 (by rw [units_in1]; show X.A.units + 1 + 60 + 1 < cLine; omega) (List.all_eq_true.mp hp.1 _ (List.getElem_mem h1')) (List.all_eq_true.mp hp.2 _ (List.getElem_mem h2')) z1 z2 w1 w2
        ·have z : ZbW ds es = false := by
          cases q : ZbW ds es with
          | false => rfl
          | true => exact absurd (ZdI q) hl
         rw [z]
         exact SeqAt.RcAt.lists_lengths it1 it2 (by rw [List.size_toArray, List.size_toArray, l1, l2]; simpa using hl) hu1
       ·cases h
  | _ => simp [eqD] at h
 | int i => cases b with
  | int j =>
   simp only [eqD] at h
   cases h
   have := ra.int_inv; subst this; have := rb.int_inv; subst this
   obtain ⟨t, rfl⟩ := ru
   obtain ⟨t', rfl⟩ := rv
   rw [← Bool.beq_eq_decide_eq]
   exact SeqAt.RcAt.int_int _ _ _ _
  | _ => simp [eqD] at h
 | str i => cases b with
  | str j =>
   simp only [eqD] at h
   cases h
   have := ra.str_inv; subst this; have := rb.str_inv; subst this
   obtain ⟨t, rfl⟩ := ru
   obtain ⟨t', rfl⟩ := rv
   have e : decide (i = j) = ((⟨i.toArray⟩ : Str) == ⟨j.toArray⟩) := by
    rw [← Bool.beq_eq_decide_eq, ← Zex]
    by_cases h : (⟨i.toArray⟩ : Str) = ⟨j.toArray⟩
    ·simp [h]
    ·simp [h]
   rw [e]
   exact SeqAt.RcAt.str_str _ _ _ _
  | _ => simp [eqD] at h
 | bl i => cases b with
  | bl j =>
   simp only [eqD] at h
   cases h
   have := ra.bl_inv; subst this; have := rb.bl_inv; subst this
   cases ru
   cases rv
   rw [← Bool.beq_eq_decide_eq]
   exact SeqAt.RcAt.bool_bool _ _
  | _ => simp [eqD] at h
 | tup ds => cases b with
  | tup es =>
   simp only [eqD] at h
   split at h
   ·rename_i hp
    cases h
    rw [Bool.and_eq_true] at hp
    obtain ⟨p, vs, rfl, s1, r1⟩ := ra.tup_inv
    obtain ⟨p', ws, rfl, s2, r2⟩ := rb.tup_inv
    cases ru
    cases rv
    obtain ⟨its, rvs, ht, _⟩ := I.tuple s1
    obtain ⟨its2, rws, ht2, _⟩ := I.tuple s2
    have e1 : its.length = ds.length := by rw [← rvs.length, r1.length]
    have e2 : its2.length = es.length := by rw [← rws.length, r2.length]
    have hu1 : X.A.units < cLine := by omega
    have key : ((List.range (min its.toArray.size its2.toArray.size)).all (fun j => match ds[j]?, es[j]? with | some a, some b => deq a b | _, _ => false) && its.toArray.size == its2.toArray.size) = ZbW ds es := by
     rw [List.size_toArray, List.size_toArray, e1, e2]
     by_cases hl : ds.length = es.length
     ·rw [hl, Nat.min_self, beq_self_eq_true, Bool.and_true, ← hl]
      exact ZcI hl fun j a b h1 h2 => by rw [h1, h2]
     ·have z : ZbW ds es = false := by
       cases q : ZbW ds es with
       | false => rfl
       | true => exact absurd (ZdI q) hl
      rw [z, beq_eq_false_iff_ne.mpr hl, Bool.and_false]
    rw [← key]
    refine SeqAt.RcAt.tuples (show s.heap.IsTuple p its.toArray from ht) (show s.heap.IsTuple p' its2.toArray from ht2) hu1 fun j h1 h2 => ?_
    have h1' : j < ds.length := by rw [← e1]; simpa using h1
    have h2' : j < es.length := by rw [← e2]; simpa using h2
    have q1 : ds[j]? = some ds[j] := by simp [h1']
    have q2 : es[j]? = some es[j] := by simp [h2']
    rw [q1, q2]
    obtain ⟨v1, g1, z1⟩ := r1.get q1
    obtain ⟨v2, g2, z2⟩ := r2.get q2
    obtain ⟨u1, k1, w1⟩ := rvs.get g1
    obtain ⟨u2, k2, w2⟩ := rws.get g2
    have m1 : its.toArray[j] = u1 := by
     have := List.getElem?_eq_some_iff.mp k1
     simpa using this.2
    have m2 : its2.toArray[j] = u2 := by
     have := List.getElem?_eq_some_iff.mp k2
     simpa using this.2
    rw [m1, m2]
    exact Zhh I DEEP X.A.in1 ds[j] es[j] v1 v2 u1 u2 (by rw [units_in1]; show X.A.units + 1 + 60 + 1 < cLine; omega) (List.all_eq_true.mp hp.1 _ (List.getElem_mem h1')) (List.all_eq_true.mp hp.2 _ (List.getElem_mem h2')) z1 z2 w1 w2
   ·cases h
  | _ => simp [eqD] at h
 | _ => cases b <;> simp [eqD] at h
theorem ZbQ (hu : X.A.units + 80 < cLine) : OpR X (compareOp .Eq) (r2 X.K Zay) := by
 intro pins s σ H x y v u Q I rx ry h
 obtain ⟨ι, M, a, b, S, ra, rb, h⟩ := h
 unfold Zay at h
 cases q : eqD a b M with
 | none => rw [q] at h; exact h.elim
 | some k =>
  rw [q] at h
  exact Znx hu I S ra rb rx ry q X.prog X.w X.xe _ ⟨.bl k, H, I, rfl, Zam.ok h S Rep.bl⟩
theorem ZiH {K : PySem.W.Frag} {H : Hp} {ι : List Addr} {ds : List D} {vs : List V} {i : Int} {d : D} (r : Zaa K H ι ds vs) (h : ZaT ds i = some d) : ∃ v, atI vs i = some v ∧ Rep K H ι d v := by
 unfold ZaT at h
 unfold atI
 have e : ixN vs.length i = ixD ds.length i := by rw [r.length]; rfl
 rw [e]
 cases q : ixD ds.length i with
 | none => rw [q] at h; cases h
 | some j =>
  rw [q] at h
  exact r.get h
theorem Zac : IxR X (r2 X.K Zj) := IxR.imp ZnE fun x y H Q ⟨ι, M, a, b, S, ra, rb, h⟩ => by
 cases a with
 | tup ds => cases b with
  | int i =>
   simp only [Zj] at h
   cases q : ZaT ds i with
   | none => simp only [q] at h; exact h.elim
   | some d =>
    simp only [q] at h
    obtain ⟨p, vs, rfl, s1, r1⟩ := ra.tup_inv
    obtain ⟨v, e, rv⟩ := ZiH r1 q
    exact .inr (.inl ⟨p, vs, i, v, rfl, rb.int_inv, s1, e, Zam.ok h S rv⟩)
  | _ => exact h.elim
 | scr ds => cases b with
  | int i =>
   simp only [Zj] at h
   cases q : ZaT ds i with
   | none => simp only [q] at h; exact h.elim
   | some d =>
    simp only [q] at h
    obtain ⟨p, vs, rfl, s1, r1⟩ := ra.scr_inv
    obtain ⟨v, e, rv⟩ := ZiH r1 q
    exact .inl ⟨p, vs, i, v, rfl, rb.int_inv, s1.sq, e, Zam.ok h S rv⟩
  | _ => exact h.elim
 | str z => cases b with
  | int i =>
   simp only [Zj] at h
   cases q : ZaT z i with
   | none => simp only [q] at h; exact h.elim
   | some c =>
    simp only [q] at h
    split at h
    ·rename_i hz
     refine .inr (.inr ⟨_, i, c, ra.str_inv, rb.int_inv, ?_, ?_, Zam.ok h S Rep.str⟩)
     ·have := ZbK
      simp only [Str.length, List.size_toArray]
      omega
     ·simpa [atI, ixN, ZaT, ixD] using q
    ·exact h.elim
  | _ => exact h.elim
 | ref n => cases b with
  | int i =>
   cases hn : M[n]? with
   | none => simp only [Zj, hn] at h; exact h.elim
   | some o =>
    cases o with
    | dct _ => simp only [Zj, hn] at h; exact h.elim
    | fdct _ => simp only [Zj, hn] at h; exact h.elim
    | lst ds =>
     simp only [Zj, hn] at h
     cases q : ZaT ds i with
     | none => simp only [q] at h; exact h.elim
     | some d =>
      simp only [q] at h
      obtain ⟨p, hp, rfl⟩ := ra.ref_inv
      obtain ⟨vs, e1, r1⟩ := S.obj n _ p hn hp
      obtain ⟨v, e, rv⟩ := ZiH r1 q
      exact .inl ⟨p, vs, i, v, rfl, rb.int_inv, SqL.of e1, e, Zam.ok h S rv⟩
  | _ => exact h.elim
 | _ => cases b <;> exact h.elim
theorem Zis {K : PySem.W.Frag} {H : Hp} {ι : List Addr} {ds : List D} {vs : List V} (r : Zaa K H ι ds vs) (lo hi : Option Int) : Zaa K H ι (cutD ds lo hi) (ZhN vs lo hi) := by
 have e : ∀ n d o, HT.sIx n d o = sIx n d o := fun n d o => by cases o <;> rfl
 unfold cutD ZhN
 rw [e, e, r.length]
 exact (r.drop _).take _
end
end L3
namespace L3
open PySem PySem.Spec PyProof.Rows L2
noncomputable def Za9 (cells : List (Str × Addr)) : List (Str × NameKind) → List (Str × Addr) → List (Str × Addr)
 | [], cs => cs
 | (n, k) :: r, cs => Za9 cells r (if k == .free then (n, (cells.lookup n).getD 0) :: cs else cs)
theorem Zdz {scope : Scope} {env : Env} (h : ∀ y ∈ scope.names, y.2 = .free → ∃ c, env.cells.lookup y.1 = some c) : closureFor scope env = pure (Za9 env.cells scope.names []) := by
 unfold closureFor
 have key : ∀ (names : List (Str × NameKind)) (cs : List (Str × Addr)), (∀ y ∈ names, y.2 = .free → ∃ c, env.cells.lookup y.1 = some c) →
   (forIn names cs fun x r => match x with | (name, kind) => if (kind == NameKind.free) = true then do let c ← cellOf env name; pure (ForInStep.yield ((name, c) :: r)) else pure (ForInStep.yield r) : Sem (List (Str × Addr))) = pure (Za9 env.cells names cs) := by
  intro names
  induction names with
  | nil => intro cs _; rfl
  | cons y r ih =>
   intro cs hy
   obtain ⟨n, k⟩ := y
   rw [List.forIn_cons]
   by_cases hk : k = .free
   ·subst hk
    obtain ⟨c, hc⟩ := hy (n, .free) List.mem_cons_self rfl
    have e1 : cellOf env n = pure c := by unfold cellOf; rw [hc]
    simp only [beq_self_eq_true, if_true, e1, pure_bind]
    rw [ih _ fun z hz => hy z (List.mem_cons_of_mem _ hz)]
    simp [Za9, hc]
   ·have hb : (k == NameKind.free) = false := by simpa using hk
    simp only [hb, Bool.false_eq_true, if_false, pure_bind]
    rw [ih _ fun z hz => hy z (List.mem_cons_of_mem _ hz)]
    simp [Za9, hb]
 have := key scope.names [] h
 first
  | exact this
  | (simp only [bind_pure]; exact this)
theorem Zj5 {cells : List (Str × Addr)} {x : Str} {c : Addr} : ∀ (names : List (Str × NameKind)) (cs : List (Str × Addr)), (∀ y ∈ names, y.2 = .free → ∃ c, cells.lookup y.1 = some c) → (Za9 cells names cs).lookup x = some c → cs.lookup x = some c ∨ cells.lookup x = some c := by
 intro names
 induction names with
 | nil => intro cs _ h; exact .inl h
 | cons y r ih =>
  intro cs hy h
  obtain ⟨n, k⟩ := y
  rw [Za9] at h
  rcases ih _ (fun z hz => hy z (List.mem_cons_of_mem _ hz)) h with q | q
  ·by_cases hk : k = .free
   ·subst hk
    obtain ⟨c0, hc⟩ := hy (n, .free) List.mem_cons_self rfl
    simp only [beq_self_eq_true, if_true, hc, Option.getD_some, List.lookup_cons] at q
    cases hx : x == n with
    | true =>
     simp only [hx] at q
     cases q
     have : x = n := by simpa using hx
     subst this
     exact .inr hc
    | false => simp only [hx] at q; exact .inl q
   ·have hb : (k == NameKind.free) = false := by simpa using hk
    simp only [hb, Bool.false_eq_true, if_false] at q
    exact .inl q
  ·exact .inr q
theorem ZiK {cells : List (Str × Addr)} {x : Str} : ∀ (names : List (Str × NameKind)) (cs : List (Str × Addr)), (cs.lookup x).isSome = true → ((Za9 cells names cs).lookup x).isSome = true := by
 intro names
 induction names with
 | nil => intro cs h; exact h
 | cons y r ih =>
  intro cs h
  obtain ⟨n, k⟩ := y
  rw [Za9]
  refine ih _ ?_
  split
  ·rw [List.lookup_cons]
   split
   ·rfl
   ·exact h
  ·exact h
theorem ZgE {cells : List (Str × Addr)} {x : Str} : ∀ (names : List (Str × NameKind)) (cs : List (Str × Addr)), (x, NameKind.free) ∈ names → ((Za9 cells names cs).lookup x).isSome = true := by
 intro names
 induction names with
 | nil => intro cs h; cases h
 | cons y r ih =>
  intro cs h
  obtain ⟨n, k⟩ := y
  rw [Za9]
  rcases List.mem_cons.mp h with e | h
  ·cases e
   refine ZiK _ _ ?_
   simp
  ·exact ih _ h
noncomputable def ZaS (X : Cx) (scope : Scope) (N' : List Str) (C : Addr) (cl : List (Str × Addr)) (s : Shared) (H : Hp) (ex : List Addr) : Cx :=
 { X with N := N', s₀ := s, H₀ := H, env := compEnvC scope cl C X.env, outer := X.stack, stack := X.stack, ex := ex, fn := fun _ => false, pn := [], xe := fun _ _ => False }
noncomputable def Zk2 (N N' : List Str) (scope : Scope) : Bool := (List.range N.length).all fun i => match N'[i]? with
 | some x => (scope.names.lookup x).isNone || (decide (N[i]? = some x) && decide (scope.names.lookup x = some .free))
 | none => false
noncomputable def CTs (X : Cx) (ifs : List Expr) (ts : List E3) : Prop := ∀ (pins : List (Addr × Obj)) (s : Shared) (σ : St) (H : Hp) (Q : Bool → Hp → Prop), Inv X pins σ H s →
 (∃ ι M env, Zax X.K H ι M ∧ ZbF X.K H ι env σ ∧ match ZdT ts env M with | .ok b M' => ∀ H' ι', Ext X.K H ι H' ι' → Zax X.K H' ι' M' → Q b H' | _ => False) →
 wpAny (model X.prog X.w) X.A (forIn ifs true fun c r => if r = true then do let ok ← isTrue c X.env (eval c X.env); pure (ForInStep.yield ok) else pure (ForInStep.yield r)) (TP X pins σ Q) X.xe s
theorem ZfI {X : Cx} : CTs X [] [] := fun pins s σ H Q I ⟨ι, M, env, S, E, h⟩ => wpAny_tests_nil ⟨H, I, h H ι Ext.refl S⟩
section
variable {prog : Program} {w : World} {A : Around} {R : Result → Shared → Prop} {s : Shared}
theorem Ze2 {elt target iter : Expr} {ifs : List Expr} {scope : Scope} {pos : Pos} {it acc : Value} {env : Env} (I : Nat → Shared → Prop)
  (turn : ∀ n s, I n s → wpAny (model prog w) A (pyNext it) (fun r s₁ => match r with
   | none => R (.ok .next) s₁
   | some v => wpAny (model prog w) A (letOwnedTupleGo target it v) (fun _ s₁' => wpAny (model prog w) A (assign target env v) (fun _ s₂ =>
     wpAny (model prog w) A (forIn ifs true fun c r => if r = true then do let ok ← isTrue c env (eval c env); pure (ForInStep.yield ok) else pure (ForInStep.yield r)) (fun ok s₃ =>
      if ok = true then wpAny (model prog w) A (eval elt env) (fun x s₄ =>
       wpAny (model prog w) A (call (.builtin "list.append") [acc, x]) (fun _ s₅ => ∃ m, m < n ∧ I m s₅) (fun _ _ => False) s₄) (fun _ _ => False) s₃
      else ∃ m, m < n ∧ I m s₃) (fun _ _ => False) s₂) (fun _ _ => False) s₁') (fun _ _ => False) s₁) (fun _ _ => False) s)
  (n : Nat) (h : I n s) : codeAny (model prog w) A (.compLoop (.ListComp elt [⟨target, iter, ifs, 0⟩] scope pos) 0 it acc env) R s := by
 refine codeAny_loop rfl I (fun n s hI => ?_) n h
 show wpAny _ A ((compTurn (.ListComp elt [⟨target, iter, ifs, 0⟩] scope pos) 0 it acc env).onRaise (fun x => do noteFrame x env; theTreesLotGoes x)) _ _ s
 refine wpAny_noted ?_
 rw [compTurn_list]
 refine wpAny_bind (wpAny_standAt (wpAny_bind (wpAny_mono (turn n s hI) (fun r s₁ h₁ => ?_) fun _ _ h' => False.elim h')))
 cases r with
 | none => exact wpAny_pure h₁
 | some v =>
  refine wpAny_bind (wpAny_mono h₁ (fun _ s₁' h₁' => ?_) fun _ _ h' => False.elim h')
  refine wpAny_bind (wpAny_mono h₁' (fun _ s₂ h₂ => wpAny_bind (wpAny_mono h₂ (fun ok s₃ h₃ => ?_) fun _ _ h' => False.elim h')) fun _ _ h' => False.elim h')
  cases ok with
  | false => exact wpAny_pure ⟨rfl, h₃⟩
  | true =>
   exact wpAny_bind (wpAny_bind (wpAny_mono h₃ (fun x s₄ h₄ => wpAny_bind (wpAny_mono h₄ (fun _ s₅ h₅ => wpAny_pure (wpAny_pure ⟨rfl, h₅⟩)) fun _ _ h' => False.elim h')) fun _ _ h' => False.elim h'))
end
theorem Zdn {env : Env} {x : Str} {k : NameKind} : ∀ {names : List (Str × NameKind)}, (names.map fun (n, k) => if (k == NameKind.free && env.scope.kind == .function && env.kindOf n == some .cell) then (n, NameKind.cell) else (n, k)).lookup x = some k →
  ∃ k0, names.lookup x = some k0 ∧ (k0 = k ∨ (k0 = .free ∧ k = .cell)) := by
 intro names
 induction names with
 | nil => intro h; simp at h
 | cons y r ih =>
  intro h
  obtain ⟨n, k1⟩ := y
  rw [List.map_cons] at h
  cases hx : x == n with
  | true =>
   refine ⟨k1, by simp [List.lookup_cons, hx], ?_⟩
   by_cases hc : (k1 == NameKind.free && env.scope.kind == .function && env.kindOf n == some .cell) = true
   ·simp only [if_pos hc, List.lookup_cons, hx] at h
    cases h
    simp only [Bool.and_eq_true, beq_iff_eq] at hc
    exact .inr ⟨hc.1.1, rfl⟩
   ·simp only [if_neg hc, List.lookup_cons, hx] at h
    cases h
    exact .inl rfl
  | false =>
   have h' : (r.map fun (n, k) => if (k == NameKind.free && env.scope.kind == .function && env.kindOf n == some .cell) then (n, NameKind.cell) else (n, k)).lookup x = some k := by
    by_cases hc : (k1 == NameKind.free && env.scope.kind == .function && env.kindOf n == some .cell) = true
    ·simp only [if_pos hc, List.lookup_cons, hx] at h; exact h
    ·simp only [if_neg hc, List.lookup_cons, hx] at h; exact h
   obtain ⟨k0, e, q⟩ := ih h'
   exact ⟨k0, by simp [List.lookup_cons, hx, e], q⟩
theorem Zho {env : Env} {x : Str} : ∀ {names : List (Str × NameKind)}, names.lookup x = some .free →
  (names.map fun (n, k) => if (k == NameKind.free && env.scope.kind == .function && env.kindOf n == some .cell) then (n, NameKind.cell) else (n, k)).lookup x = some .free ∨
  (names.map fun (n, k) => if (k == NameKind.free && env.scope.kind == .function && env.kindOf n == some .cell) then (n, NameKind.cell) else (n, k)).lookup x = some .cell := by
 intro names
 induction names with
 | nil => intro h; simp at h
 | cons y r ih =>
  intro h
  obtain ⟨n, k1⟩ := y
  rw [List.map_cons]
  cases hx : x == n with
  | true =>
   simp only [List.lookup_cons, hx] at h
   cases h
   by_cases hc : (NameKind.free == NameKind.free && env.scope.kind == .function && env.kindOf n == some .cell) = true
   ·simp only [if_pos hc, List.lookup_cons, hx]; exact .inr trivial
   ·simp only [if_neg hc, List.lookup_cons, hx]; exact .inl trivial
  | false =>
   simp only [List.lookup_cons, hx] at h
   by_cases hc : (k1 == NameKind.free && env.scope.kind == .function && env.kindOf n == some .cell) = true
   ·simp only [if_pos hc, List.lookup_cons, hx]; exact ih h
   ·simp only [if_neg hc, List.lookup_cons, hx]; exact ih h
section
variable {X : Cx} {pins : List (Addr × Obj)} {σ : St} {H : Hp} {s : Shared} {scope : Scope} {N' : List Str} {own : Nat} {fp : List Addr}
theorem ZhD (I : Inv X pins σ H s) (hk : scope.kind = .function) (hcell : ∀ y ∈ scope.names, y.2 ≠ .cell) (hfree : ∀ y ∈ scope.names, y.2 = .free → X.env.kindOf y.1 = some .cell ∨ X.env.kindOf y.1 = some .free)
  (hN : N'.length = X.N.length + own) (hv : Zk2 X.N N' scope = true) (hfp : ∀ b ∈ fp, ZdC X pins H b) (hlt : ∀ b ∈ fp, b < s.heap.objs.size) {h1 : Heap} {tk : Nat}
  (hns : h1.Ns s.heap.objs.size fun _ => none) (keep : ∀ b o, s.heap.get? b = some o → h1.get? b = some o) :
  Inv (ZaS X scope N' s.heap.objs.size (Za9 X.env.cells scope.names []) s H fp) [] (σ ++ List.replicate own none) H { s with heap := h1, toks := tk } := by
 have hc0 : ∀ y ∈ scope.names, y.2 = .free → ∃ c, X.env.cells.lookup y.1 = some c := fun y hy e => I.ok.has y.1 (hfree y hy e)
 have sub : ∀ x c, (Za9 X.env.cells scope.names []).lookup x = some c → X.env.cells.lookup x = some c := fun x c h => by
  rcases Zj5 scope.names [] hc0 h with q | q
  ·simp at q
  ·exact q
 have cellK : ∀ {c : Addr} {v : Option Value}, s.heap.IsCell c v → h1.IsCell c v := fun ⟨o, ho, hd⟩ => ⟨o, keep _ o ho, hd⟩
 refine ⟨⟨I.ok.mod, hk, I.ok.glob, I.ok.blt, Nat.le_refl _, fun x y c h1 h2 => I.ok.inj x y c (sub x c h1) (sub y c h2), fun x hx => ?_, fun x c h => ?_, I.ok.hd, I.ok.frames, .inl rfl, fun b hb => ⟨Nat.ne_of_lt (hlt b hb), fun x c h => (hfp b hb).2.2.2.2.1 x c (sub x c h)⟩,
   I.bs, Nat.le_trans I.ok.bsz I.sz, fun b o e hb => ?_, fun b hb hz => ?_, I.stack, I.stkFree⟩, rfl, I.bare, Un.kept keep, ⟨_, hns, fun i x v h1 h2 h3 => ?_⟩, fun x c h => ?_, I.hok.fresh (Nat.le_refl _), fun x c h => I.freeC x c (sub x c h),
  fun p hp => absurd (show p ∈ ([] : List (Addr × Obj)) from hp) (by simp), I.hok.kept keep, ?_⟩
 ·have hx' : (relabel scope X.env).names.lookup x = some .cell ∨ (relabel scope X.env).names.lookup x = some .free := hx
  have : scope.names.lookup x = some .free := by
   rcases hx' with hx' | hx'
   ·obtain ⟨k0, e, q⟩ := Zdn (names := scope.names) hx'
    rcases q with q | ⟨q, _⟩
    ·subst q; exact absurd rfl (hcell _ (PySem.mem_of_lookup e))
    ·rw [e, q]
   ·obtain ⟨k0, e, q⟩ := Zdn (names := scope.names) hx'
    rcases q with q | ⟨_, q⟩
    ·rw [e, q]
    ·cases q
  exact Option.isSome_iff_exists.mp (ZgE scope.names [] (PySem.mem_of_lookup this))
 ·cases h
 ·obtain ⟨_, _, _, q, _⟩ := hfp b hb
  rcases q with q | q
  ·exact I.ok.noex b o e q
  ·exact absurd (Nat.lt_of_lt_of_le (Heap.lt_size e) (Nat.le_trans I.ok.bsz q)) (Nat.lt_irrefl _)
 ·have hz' : b ∈ frs X.stack := hz
  obtain ⟨_, q1, q2, _⟩ := hfp b hb
  rcases List.mem_cons.mp (I.stkSub b hz') with e | e
  ·exact q1 e
  ·exact q2 e
 ·have hi : i < σ.length := by
   by_cases hi : i < σ.length
   ·exact hi
   ·rw [List.getElem?_append_right (by omega), List.getElem?_replicate] at h2
    split at h2 <;> cases h2
  rw [List.getElem?_append_left hi] at h2
  have hiN : i < X.N.length := by rw [← I.len]; exact hi
  have hN' : N'[i]? = some x := h1
  have vq := List.all_eq_true.mp hv i (List.mem_range.mpr hiN)
  rw [hN'] at vq
  have h3' : (relabel scope X.env).names.lookup x = some .local ∨ (relabel scope X.env).names.lookup x = some .cell ∨ (relabel scope X.env).names.lookup x = some .free := h3
  have some_of : ∃ k0, scope.names.lookup x = some k0 := by
   rcases h3' with q | q | q <;> (obtain ⟨k0, e, _⟩ := Zdn (names := scope.names) q; exact ⟨k0, e⟩)
  obtain ⟨k0, ek⟩ := some_of
  simp only [ek, Option.isNone_some, Bool.false_or, Bool.and_eq_true, decide_eq_true_eq] at vq
  obtain ⟨vq1, vq2⟩ := vq
  cases vq2
  have hkind := hfree (x, .free) (PySem.mem_of_lookup ek) rfl
  obtain ⟨m, hn, hl⟩ := I.loc
  have hVis : Vis X.env.scope x := by
   rcases hkind with q | q
   ·exact .inr (.inl q)
   ·exact .inr (.inr q)
  obtain ⟨u, ru, lk⟩ := hl i x v vq1 h2 hVis
  refine ⟨u, ru, ?_⟩
  rcases lk with ⟨kl, _⟩ | ⟨_, c, ec, ic⟩
  ·rcases hkind with q | q <;> (rw [q] at kl; cases kl)
  ·have hkk : (compEnvC scope (Za9 X.env.cells scope.names []) s.heap.objs.size X.env).kindOf x = some .cell ∨ (compEnvC scope (Za9 X.env.cells scope.names []) s.heap.objs.size X.env).kindOf x = some .free := by
    rcases Zho (env := X.env) ek with q | q
    ·exact .inr q
    ·exact .inl q
   obtain ⟨c', ec'⟩ := Option.isSome_iff_exists.mp (ZgE (cells := X.env.cells) scope.names [] (PySem.mem_of_lookup ek))
   have e2 := sub x c' ec'
   rw [ec] at e2
   cases e2
   exact .inr ⟨hkk, c, ec', cellK ic⟩
 ·obtain ⟨v, ic⟩ := I.cell x c (sub x c h)
  exact ⟨v, cellK ic⟩
 ·show (σ ++ List.replicate own none).length = N'.length
  rw [List.length_append, List.length_replicate, I.len, hN]
theorem ZbF.grow {K : PySem.W.Frag} {H : Hp} {ι : List Addr} {env : ZaC} {σ : St} (E : ZbF K H ι env σ) (n : Nat) : ZbF K H ι (env ++ List.replicate n none) (σ ++ List.replicate n none) := by
 refine ⟨by simp [E.1], fun i d h => ?_⟩
 by_cases hi : i < env.length
 ·rw [List.getElem?_append_left hi] at h
  obtain ⟨v, e, r⟩ := E.2 i d h
  exact ⟨v, by rw [List.getElem?_append_left (by rw [← E.1]; exact hi)]; exact e, r⟩
 ·rw [List.getElem?_append_right (by omega), List.getElem?_replicate] at h
  split at h <;> cases h
end
section
variable {X : Cx} {elt tg iter : Expr} {ifs : List Expr} {scope : Scope} {pos : Pos} {i : I3} {own : Nat} {g : G3} {ts : List E3} {f : E3} {N' : List Str}
structure Zfg (X : Cx) (scope : Scope) (N' : List Str) (own : Nat) : Prop where
 kind : scope.kind = .function
 cell : ∀ y ∈ scope.names, y.2 ≠ .cell
 free : ∀ y ∈ scope.names, y.2 = .free → X.env.kindOf y.1 = some .cell ∨ X.env.kindOf y.1 = some .free
 names : ∀ y ∈ scope.names, y.2 = .local → scope.names.lookup y.1 = some .local
 len : N'.length = X.N.length + own
 vis : Zk2 X.N N' scope = true
theorem Zga {pins : List (Addr × Obj)} {σ : St} {s2 : Shared} {H2 : Hp} {ι2 : List Addr} {M2 : Store} {env : ZaC} {it : Addr} {fp : List Addr} {tn : Nat → Heap → Prop} {J : It} {itd : It3} {Q : VK} {E : Value → Shared → Prop} (O : Zfg X scope N' own) (hc : X.calm = true)
  (hb : ∀ C cl s H ex, CG (ZaS X scope N' C cl s H ex) tg g ∧ CTs (ZaS X scope N' C cl s H ex) ifs ts ∧ C3 (ZaS X scope N' C cl s H ex) elt f)
  (I2 : Inv X pins σ H2 s2) (T : Turn X.prog X.w X.K tg J fp it tn) (st0 : tn 0 s2.heap) (hfp : ∀ b ∈ fp, ZdC X pins H2 b) (S2 : Zax X.K H2 ι2 M2) (E2 : ZbF X.K H2 ι2 env σ) (ok : ZiM X.K H2 ι2 itd J)
  (h : Zam X.K H2 ι2 Q (Zds itd g ts f M2.length itd.items (env ++ List.replicate own none) (M2 ++ [.lst []])))
  (RR : Value → Addr → Result → Shared → Prop)
  (fin : ∀ (acc C : Addr) (s' : Shared) (m : Str → Option Value) (H' : Hp), s'.heap.Ns C m → ZdC X pins H' C → Inv X pins σ H' s' → Q (.ref acc) H' → RR (.ref acc) C (.ok .next) s') :
  wpAny (model X.prog X.w) X.A (newList []) (fun acc s₃ => wpAny (model X.prog X.w) X.A (newFunctionEnv scope X.env.globals (Za9 X.env.cells scope.names []) [] X.env.qual none .none (some X.env)) (fun cenv s₄ =>
   codeAny (model X.prog X.w) X.A (.compStart (.ListComp elt [⟨tg, iter, ifs, 0⟩] scope pos) 0 (.ref it) acc { cenv with scope := relabel scope X.env }) (RR acc cenv.locals) s₄) E s₃) E s2 := by
 refine wpAny_newObj_type ?_
 have hD : H2 s2.heap.objs.size = none := I2.hok.fresh (Nat.le_refl _)
 obtain ⟨x3, S3, r3⟩ := S2.lst hD (Zaa.nil (K := X.K) (H := H2) (ι := ι2))
 have I3 : Inv X pins σ (upd H2 s2.heap.objs.size (.lst [])) { s2 with heap := s2.heap.push { cls := .type "list", data := .seq ([] : List Value).toArray } } :=
  I2.laid (t' := s2.toks) (fun b u e => Heap.get?_push_of_some _ e) (Nat.le_refl _) ⟨Nat.zero_le _, [], 0, .nil, Heap.get?_push_size _ rfl⟩
 generalize hs3 : ({ s2 with heap := s2.heap.push { cls := .type "list", data := .seq ([] : List Value).toArray } } : Shared) = s3 at I3 ⊢
 have keep23 : ∀ b o, s2.heap.get? b = some o → s3.heap.get? b = some o := fun b o e => by rw [← hs3]; exact Heap.get?_push_of_some _ e
 have hfp3 : ∀ b ∈ fp, ZdC X pins (upd H2 s2.heap.objs.size (.lst [])) b := fun b hb => by
  refine ⟨?_, (hfp b hb).2⟩
  obtain ⟨o, e, _⟩ := T.obj _ _ st0 b hb
  rw [Za7 (Nat.ne_of_lt (Heap.lt_size e))]
  exact (hfp b hb).1
 have hlt3 : ∀ b ∈ fp, b < s3.heap.objs.size := fun b hb => by
  obtain ⟨o, e, _⟩ := T.obj _ _ st0 b hb
  exact Heap.lt_size (keep23 b o e)
 have st3 : tn 0 s3.heap := T.keep _ _ _ st0 fun b hb o e => keep23 b o e
 refine wpAny_newFunctionEnv O.cell (by intro y hy; cases hy) (fun h4 hns hsb => ?_) O.kind
 have keep34 : ∀ b o, s3.heap.get? b = some o → h4.get? b = some o := fun b o e => hsb.extBut b o (Nat.ne_of_lt (Heap.lt_size e)) (Heap.get?_push_of_some _ e)
 have I4 := ZhD (own := own) (N' := N') (tk := s3.toks + ([] : List (Str × Value)).length) I3 O.kind O.cell O.free O.len O.vis hfp3 hlt3 hns keep34
 have st4 : tn 0 h4 := T.keep _ _ _ st3 fun b hb o e => keep34 b o e
 have hfp4 : ∀ {H' : Hp}, (∀ b ∈ fp, H' b = none) → ∀ b ∈ fp, ZdC (ZaS X scope N' s3.heap.objs.size (Za9 X.env.cells scope.names []) s3 (upd H2 s2.heap.objs.size (.lst [])) fp) [] H' b := fun hn b hb => by
  have hc0 : ∀ y ∈ scope.names, y.2 = .free → ∃ c, X.env.cells.lookup y.1 = some c := fun y hy e => I2.ok.has y.1 (O.free y hy e)
  refine ⟨hn b hb, Nat.ne_of_lt (hlt3 b hb), fun hz => I4.ok.exfs b hb hz, .inl hb, fun x c hx => (I4.ok.exf b hb).2 x c hx, fun p hp => absurd (show p ∈ ([] : List (Addr × Obj)) from hp) (by simp)⟩
 obtain ⟨hg, hts, helt⟩ := hb s3.heap.objs.size (Za9 X.env.cells scope.names []) s3 (upd H2 s2.heap.objs.size (.lst [])) fp
 have loop : ∀ s₄ : Shared, s₄ = { s3 with heap := h4, toks := s3.toks + ([] : List (Str × Value)).length } →
   codeAny (model X.prog X.w) X.A (.compLoop (.ListComp elt [⟨tg, iter, ifs, 0⟩] scope pos) 0 (.ref it) (.ref s2.heap.objs.size) (compEnvC scope (Za9 X.env.cells scope.names []) s3.heap.objs.size X.env)) (RR (.ref s2.heap.objs.size) s3.heap.objs.size) s₄ := by
  rintro s₄ rfl
  refine Ze2 (fun n s' => ∃ k σ5 H5 ι5 M5 env5, Inv (ZaS X scope N' s3.heap.objs.size (Za9 X.env.cells scope.names []) s3 (upd H2 s2.heap.objs.size (.lst [])) fp) [] σ5 H5 s' ∧ tn k s'.heap ∧ (∀ b ∈ fp, H5 b = none) ∧ n = itd.items.length - k ∧ k ≤ itd.items.length ∧
   Ext X.K H2 ι2 H5 ι5 ∧ Zax X.K H5 ι5 M5 ∧ ZbF X.K H5 ι5 env5 σ5 ∧ ι5[M2.length]? = some s2.heap.objs.size ∧ Zam X.K H5 ι5 Q (Zds itd g ts f M2.length (itd.items.drop k) env5 M5)) ?_ itd.items.length
   ⟨0, _, _, _, _, _, I4, st4, fun b hb => (hfp3 b hb).1, rfl, Nat.zero_le _, x3, S3, (E2.mono x3).grow own, ?_, h.up x3⟩
  ·rintro n s5 ⟨k, σ5, H5, ι5, M5, env5, I5, st5, fr5, rfl, hk, x5, S5, E5, hι, h5⟩
   by_cases hlt : k < itd.items.length
   ·have hd : itd.items[k]? = some itd.items[k] := by simp [hlt]
    rw [List.drop_eq_getElem_cons hlt] at h5
    unfold Zds at h5
    by_cases lk : locked itd M5 = true
    ·rw [if_pos lk] at h5
     obtain ⟨go, yl⟩ := (ok k H5 ι5 M5 x5 S5 lk).1 _ hd
     cases eg : g itd.items[k] env5 with
     | none => rw [eg] at h5; exact h5.elim
     | some env6 =>
      rw [eg] at h5
      refine thn (T.item (ZaS X scope N' s3.heap.objs.size (Za9 X.env.cells scope.names []) s3 (upd H2 s2.heap.objs.size (.lst [])) fp) rfl rfl rfl hc k [] s5 σ5 H5 (fun _ _ => False) I5 (hfp4 fr5) st5 go) fun r s6 ⟨u, hr, h6⟩ => ?_
      subst hr
      refine thn h6 fun _ s7 ⟨x, H7, I7, r7, y7, st7, fr7⟩ => ?_
      obtain ⟨rfl, rx⟩ := yl x H7 y7
      have I7' := I7.pinned (hfp4 fr7) (T.obj _ _ st7)
      refine thn (hg _ s7 σ5 H7 x u (fun σ' H' => H' = H7 ∧ ZbF X.K H7 ι5 env6 σ') I7' r7 ⟨ι5, M5, env5, _, env6, S5, E5, rx, eg, fun σ' E' => ⟨rfl, E'⟩⟩) fun _ s8 ⟨σ8, H8, I8, e8, E8⟩ => ?_
      subst e8
      have back : ∀ {σ' : St} {H' : Hp} {s' : Shared}, Inv (ZaS X scope N' s3.heap.objs.size (Za9 X.env.cells scope.names []) s3 (upd H2 s2.heap.objs.size (.lst [])) fp) ([] ++ Zfb fp s7.heap) σ' H' s' →
        Inv (ZaS X scope N' s3.heap.objs.size (Za9 X.env.cells scope.names []) s3 (upd H2 s2.heap.objs.size (.lst [])) fp) [] σ' H' s' ∧ tn (k + 1) s'.heap ∧ ∀ b ∈ fp, H' b = none := fun {σ' H' s'} I' => by
       refine ⟨I'.unpinned, T.keep _ _ _ st7 fun b hb o e => (I'.pin (b, o) (List.mem_append_right _ (List.mem_append_right _ (ZcU hb e)))).1, fun b hb => ?_⟩
       obtain ⟨o, e, d⟩ := T.obj _ _ st7 b hb
       exact (I'.pin (b, o) (List.mem_append_right _ (List.mem_append_right _ (ZcU hb e)))).2.1
      obtain ⟨b, M9, e9, h9⟩ := Zam.bind h5
      refine thn (hts _ s8 σ8 H8 (fun b' H' => b' = b ∧ ∃ ι9, Ext X.K H8 ι5 H' ι9 ∧ Zax X.K H' ι9 M9) I8 ⟨ι5, M5, env6, S5, E8, by rw [e9]; exact fun H' ι' x' S' => ⟨rfl, ι', x', S'⟩⟩) fun b' s9 ⟨H9, I9, eb, ι9, x9, S9⟩ => ?_
      subst eb
      cases b' with
      | false =>
       rw [if_neg (by decide)] at h9 ⊢
       obtain ⟨I9', st9, fr9⟩ := back I9
       exact ⟨itd.items.length - (k + 1), by omega, k + 1, σ8, H9, ι9, M9, env6, I9', st9, fr9, rfl, hlt, x5.trans x9, S9, E8.mono x9, x9.pre _ _ hι, h9.up x9⟩
      | true =>
       rw [if_pos rfl] at h9 ⊢
       obtain ⟨d, M10, e10, h10⟩ := Zam.bind h9
       refine thn (helt _ s9 σ8 H9 (fun v H' => ∃ ι10, Ext X.K H9 ι9 H' ι10 ∧ Zax X.K H' ι10 M10 ∧ Rep X.K H' ι10 d v) I9 ⟨ι9, M9, env6, S9, E8.mono x9, by rw [e10]; exact fun v H' ι' x' S' r' => ⟨ι', x', S', r'⟩⟩) fun xv s10 ⟨v, H10, I10, r10, ι10, x10, S10, rd⟩ => ?_
       have hι10 : ι10[M2.length]? = some s2.heap.objs.size := x10.pre _ _ (x9.pre _ _ hι)
       cases hm : M10[M2.length]? with
       | none => rw [hm] at h10; exact h10.elim
       | some o =>
        cases o with
        | dct _ => rw [hm] at h10; exact h10.elim
        | fdct _ => rw [hm] at h10; exact h10.elim
        | lst xs =>
         rw [hm] at h10
         by_cases hz : xs.length < SZ
         ·simp only [if_pos hz] at h10
          obtain ⟨vs, ev, rvs⟩ := S10.obj _ _ _ hm hι10
          obtain ⟨x11, S11⟩ := S10.setl (.inr (.inl ⟨_, ev⟩)) hι10 (rvs.append (Zaa.cons rd Zaa.nil))
          refine thn (Zfk _ s10 σ8 H10 (.ref s2.heap.objs.size) [v] (.ref s2.heap.objs.size) [xv] (fun _ H' => H' = upd H10 s2.heap.objs.size (.lst (vs ++ [v]))) I10 rfl (.cons r10 .nil) ⟨_, vs, v, rfl, rfl, ev, by rw [rvs.length]; exact Nat.lt_of_lt_of_le hz ZbK, rfl⟩) fun _ s11 ⟨_, H11, I11, _, eH⟩ => ?_
          subst eH
          obtain ⟨I11', st11, fr11⟩ := back I11
          exact ⟨itd.items.length - (k + 1), by omega, k + 1, σ8, _, ι10, _, env6, I11', st11, fr11, rfl, hlt, ((x5.trans x9).trans x10).trans x11, S11, ((E8.mono x9).mono x10).mono x11, hι10, ((h10.up x9).up x10).up x11⟩
         ·simp only [if_neg hz] at h10; exact h10.elim
    ·rw [if_neg lk] at h5; exact h5.elim
   ·have e0 : k = itd.items.length := by omega
    subst e0
    rw [List.drop_length] at h5
    unfold Zds at h5
    by_cases lk : locked itd M5 = true
    ·rw [if_pos lk] at h5
     refine thn (T.done (ZaS X scope N' s3.heap.objs.size (Za9 X.env.cells scope.names []) s3 (upd H2 s2.heap.objs.size (.lst [])) fp) rfl rfl rfl hc _ [] s5 σ5 H5 (fun _ _ => False) I5 (hfp4 fr5) st5 ((ok _ H5 ι5 M5 x5 S5 lk).2 rfl)) fun r s6 ⟨hr, I6⟩ => ?_
     subst hr
     obtain ⟨m6, hn6, _⟩ := I6.loc
     have I7 : Inv X pins σ H5 s6 := I3.call' (ch := fp) I6.os I6.base I6.hok I6.bare fun b hb => ⟨(hfp3 b hb).2.2.2.1, (hfp3 b hb).2.1, (hfp3 b hb).2.2.2.2.1, (hfp3 b hb).2.2.2.2.2⟩
     exact fin _ _ s6 m6 H5 hn6 (I3.fpOk (Nat.le_refl _) I6.free) I7 (h5 _ H5 ι5 Ext.refl S5 (Rep.ref hι))
    ·rw [if_neg lk] at h5; exact h5.elim
  ·rw [← S2.len]; simp
 exact codeAny_compStart_list (loop _ rfl) (T.self _ 0 _ _ _ st4 (loop _ rfl))
theorem Zpa (O : Zfg X scope N' own) (hxe : X.xe = fun _ _ => False) (hc : X.calm = true) (hi : CI X tg iter i)
  (hb : ∀ C cl s H ex, CG (ZaS X scope N' C cl s H ex) tg g ∧ CTs (ZaS X scope N' C cl s H ex) ifs ts ∧ C3 (ZaS X scope N' C cl s H ex) elt f)
  (hs : ∀ x, foldedSetIterable iter X.env x = pure x := by intro _; rfl) : C3 X (.ListComp elt [⟨tg, iter, ifs, 0⟩] scope pos) (eLC i own g ts f) := by
 intro pins s σ H Q I h
 obtain ⟨ι, M, env, S, E, h⟩ := h
 obtain ⟨itd, M1, e1, h⟩ := Zam.bind h
 have hc0 : ∀ y ∈ scope.names, y.2 = .free → ∃ c, X.env.cells.lookup y.1 = some c := fun y hy e => I.ok.has y.1 (O.free y hy e)
 rw [eval_ListComp]
 refine wpAny_comprehension_free (use := none) rfl hs (Zdz hc0) O.kind O.names ?_
 refine thn (hi pins s σ H (fun J H' => ∃ ι', Ext X.K H ι H' ι' ∧ Zax X.K H' ι' M1 ∧ ZiM X.K H' ι' itd J) I ⟨ι, M, env, S, E, by rw [e1]; exact fun J H' ι' x S' o => ⟨ι', x, S', o⟩⟩) fun v s1 h1 => thn h1 fun itv s2 h2 => ?_
 obtain ⟨it, fp, tn, J, H2, rfl, I2, T, st2, f2, ι2, x2, S2, ok⟩ := h2
 refine Zga (own := own) (g := g) (ts := ts) (f := f) O hc hb I2 T st2 f2 S2 (E.mono x2) ok (h.up x2) (fun acc C => compPost (model X.prog X.w) X.A X.xe none (EP X pins σ Q) acc C) ?_
 intro acc C s' m H' hn hf I' hq
 obtain ⟨f0, f1, f2', f3, f4, f5⟩ := hf
 exact ⟨m, hn, fun h' sb => ⟨.ref acc, H', I'.turned (t' := s'.toks) (fun b o hb e => (sb.2 b hb).trans e) f0 f1 f3 f4 f5, rfl, hq⟩⟩
theorem ZkA (j : Nat) {x : Str} {pos' spos : Pos} (O : Zfg X scope N' own) (hxe : X.xe = fun _ _ => False) (hc : X.calm = true) (hN : X.N.Nodup) (hi : CI X tg iter i)
  (hb : ∀ C cl s H ex, CG (ZaS X scope N' C cl s H ex) tg g ∧ CTs (ZaS X scope N' C cl s H ex) ifs ts ∧ C3 (ZaS X scope N' C cl s H ex) elt f)
  (hj : X.N[j]? = some x := by rfl) (hx : Loc X.env.scope x := by first | exact Or.inl rfl | exact Or.inr rfl)
  (hf : X.fn x = true ∨ X.env.scope.names.lookup x = some .local := by first | exact .inl rfl | exact .inr rfl)
  (hsw : swapsWith (.ListComp elt [⟨tg, iter, ifs, 0⟩] scope pos) (some (.Name x pos')) spos.line X.env = pure true := by rfl)
  (hs : ∀ x, foldedSetIterable iter X.env x = pure x := by intro _; rfl) : CS X (.Assign [.Name x pos'] (.ListComp elt [⟨tg, iter, ifs, 0⟩] scope pos) spos) (Zaf j (eLC i own g ts f)) := by
 intro pins s σ H D I h
 obtain ⟨ι, M, env, S, E, h⟩ := h
 have h0 : Zam X.K H ι (fun v H' => D.nx (σ.set j (some v)) H') (eLC i own g ts f env M) := by
  unfold Zaf at h
  cases q : eLC i own g ts f env M with
  | ok d M1 => rw [q] at h; exact fun v H1 ι1 x1 S1 r1 => h _ H1 ι1 x1 S1 ((E.mono x1).set j r1)
  | exc _ _ => rw [q] at h; exact h.elim
  | bad => rw [q] at h; exact h.elim
 obtain ⟨itd, M1, e1, h1⟩ := Zam.bind h0
 have hc0 : ∀ y ∈ scope.names, y.2 = .free → ∃ c, X.env.cells.lookup y.1 = some c := fun y hy e => I.ok.has y.1 (O.free y hy e)
 rw [exec_Assign_Name_used _ _ _ _ hsw]
 refine wpAny_bind (wpAny_standAt (wpAny_bind ?_))
 show wpAny _ X.A (do let _ ← comprehension (.ListComp elt [⟨tg, iter, ifs, 0⟩] scope pos) scope X.env _ (newList []) false (eval iter X.env) (some (assign (.Name x pos') X.env))) _ _ s
 refine wpAny_bind (wpAny_mono (wpAny_comprehension_free (use := some (assign (.Name x pos') X.env)) (Q := fun _ s' => SP X pins D .next s') rfl hs (Zdz hc0) O.kind O.names ?_) (fun _ s' hq => wpAny_pure (wpAny_pure hq)) fun _ _ e => e)
 refine thn (hi pins s σ H (fun J H' => ∃ ι', Ext X.K H ι H' ι' ∧ Zax X.K H' ι' M1 ∧ ZiM X.K H' ι' itd J) I ⟨ι, M, env, S, E, by rw [e1]; exact fun J H' ι' x S' o => ⟨ι', x, S', o⟩⟩) fun v s1 h1' => thn h1' fun itv s2 h2 => ?_
 obtain ⟨it, fp, tn, J, H2, rfl, I2, T, st2, f2, ι2, x2, S2, ok⟩ := h2
 refine Zga (own := own) (g := g) (ts := ts) (f := f) O hc hb I2 T st2 f2 S2 (E.mono x2) ok (h1.up x2) (fun acc C => compPost (model X.prog X.w) X.A X.xe (some (assign (.Name x pos') X.env)) (fun _ s' => SP X pins D .next s') acc C) ?_
 intro acc C s' m H' hn hfC I' hq
 obtain ⟨f0, f1, f2', f3, f4, f5⟩ := hfC
 show wpAny _ X.A (assign (.Name x pos') X.env (.ref acc)) _ _ s'
 refine wpAny_assign_Name (ZgG I' hN hj hx (show RelV (.ref acc) (.ref acc) from rfl) (fun s'' I'' ⟨a, sb, ha⟩ => ?_) hf)
 have hCa : C ≠ a := by
  rcases ha with rfl | ha
  ·exact f1
  ·exact Ne.symm (f4 x a ha)
 exact ⟨m, hn.sameBut sb hCa, fun h' sb' => ⟨_, H', I''.turned (t' := s''.toks) (fun b o hb e => (sb'.2 b hb).trans e) f0 f1 f3 f4 f5, hq⟩⟩
end
end L3
namespace L3
open PySem PySem.Spec PyProof.Rows L2
theorem Zcq {k : Nat} {A : Around} (r : Zc8 k A) : A.units + 80 < cLine := by have := r.un; omega
noncomputable def Its (x : Str) : It := ⟨fun i _ => i < x.cps.size, fun i H y H' => H' = H ∧ ∃ c, x.cps[i]? = some c ∧ y = .str ⟨#[c]⟩, fun i _ => i = x.cps.size⟩
theorem Zlg {P : Program} {w : World} {K : PySem.W.Frag} {tg : Expr} {it : Addr} {x : Str} {t : Tok} {ty : String} (W : ∀ A' : Around, A'.handled = none → Walks P w A' it [it] [it] x.cps.size (SignAt x) (fun i h => h.IsStrIter it ty x t i))
  (hs : ∀ (A : Around) (i : Nat) (s : Shared) (Q : Value → Shared → Prop) (E : Value → Shared → Prop), s.heap.IsStrIter it ty x t i → Q (.ref it) s → wpAny (model P w) A (pyIter (.ref it)) Q E s)
  (hty : ["enumerate", "zip", "dict_itemiterator", "dict_reverseitemiterator", "odict_iterator", "itertools.zip_longest", "itertools.pairwise"].contains ty = false) : Turn P w K tg (Its x) [it] it (fun i h => h.IsStrIter it ty x t i) where
 mem := by simp
 obj := fun i h st b hb => by
  have e : b = it := by simpa using hb
  subst e
  obtain ⟨o, e, c, d⟩ := st
  exact ⟨o, e, fun v z => by rw [d] at z; cases z⟩
 keep := fun i h h' st k => let ⟨o, e, r⟩ := st; ⟨o, k it (by simp) o e, r⟩
 item := by
  intro X hP hw hK hc i pins s σ H E I hf st hg
  subst hP hw hK
  obtain ⟨f0, f1, f2, f3, f4, f5⟩ := hf it (by simp)
  refine (W X.A (I.ok.hd hc)).item i s _ _ hg st fun v h' tk hv st' kk => ?_
  obtain ⟨c, u, hx, rfl⟩ := hv
  have I1 : Inv X pins σ H { s with heap := h', toks := tk } := I.turned (fun b o hb e => kk b o (by simpa using hb) e) f0 f1 f3 f4 f5
  obtain ⟨o, e, cc, d⟩ := id st'
  exact ⟨_, rfl, ZiX (s := { s with heap := h', toks := tk }) e cc d hty ⟨.str ⟨#[c]⟩, H, I1, ⟨u, rfl⟩, ⟨rfl, c, hx, rfl⟩, st', fun b hb => (hf b hb).1⟩⟩
 done := by
  intro X hP hw hK hc i pins s σ H E I hf st hg
  subst hP hw hK
  obtain ⟨f0, f1, f2, f3, f4, f5⟩ := hf it (by simp)
  have e : i = x.cps.size := hg
  subst e
  exact (W X.A (I.ok.hd hc)).done s _ _ st fun h' tk kk => ⟨rfl, I.turned (fun b o hb e => kk b o (by simpa using hb) e) f0 f1 f3 f4 f5⟩
 self := hs
section
variable {X : Cx} {tg e o : Expr} {es : List Expr} {pos p apos cpos : Pos} {f : E3} {gl : EL3}
theorem ZnN (h : C3 X e f) : PI X tg e (fun σ H R => tOf X.K f σ H fun x H1 => ∃ z : Str, x = .str z ∧ z.length ≤ SZ ∧ ∀ J, (∀ ι, ZiM X.K H1 ι ⟨z.cps.toList.map fun c => .str [c], none⟩ J) → R J H1) := by
 intro pins s σ H R I hw
 refine thn (h pins s σ H _ I hw) fun v s1 ⟨x, H1, I1, r1, z, ex, hz, q⟩ => ?_
 subst ex
 obtain ⟨t, rfl⟩ := r1
 have key : ∀ (ty : String) (o : Obj), (∀ A' : Around, A'.handled = none → Walks X.prog X.w A' s1.heap.objs.size [s1.heap.objs.size] [s1.heap.objs.size] z.cps.size (SignAt z) (fun i h => h.IsStrIter s1.heap.objs.size ty z t i)) →
   (∀ (A : Around) (i : Nat) (s : Shared) (Q : Value → Shared → Prop) (E : Value → Shared → Prop), s.heap.IsStrIter s1.heap.objs.size ty z t i → Q (.ref s1.heap.objs.size) s → wpAny (model X.prog X.w) A (pyIter (.ref s1.heap.objs.size)) Q E s) →
   ["enumerate", "zip", "dict_itemiterator", "dict_reverseitemiterator", "odict_iterator", "itertools.zip_longest", "itertools.pairwise"].contains ty = false → (s1.heap.push o).IsStrIter s1.heap.objs.size ty z t 0 →
   PIE X pins σ tg R (.ref s1.heap.objs.size) { s1 with heap := s1.heap.push o } := by
  intro ty o W hs hty st
  refine ⟨s1.heap.objs.size, [s1.heap.objs.size], _, _, H1, rfl, I1.kept (t' := s1.toks) fun b o e => Heap.get?_push_of_some _ e, Zlg W hs hty, st, fun b hb => ?_, q _ fun ι => ?_⟩
  ·have e : b = s1.heap.objs.size := by simpa using hb
   subst e
   exact I1.fpOk (Nat.le_refl _) (I1.hok.fresh (Nat.le_refl _))
  ·intro i H2 ι2 M2 x S _
   refine ⟨fun d hd => ?_, fun hl => ?_⟩
   ·rw [List.getElem?_map] at hd
    cases hq : z.cps.toList[i]? with
    | none => rw [hq] at hd; cases hd
    | some c =>
     rw [hq] at hd
     have hd' : D.str [c] = d := by simpa using hd
     subst hd'
     have hi : i < z.cps.size := by
      have := (List.getElem?_eq_some_iff.mp hq).1
      simpa using this
     refine ⟨hi, fun y H3 hy => ⟨hy.1, ?_⟩⟩
     obtain ⟨_, c', hc', rfl⟩ := hy
     have : c' = c := by
      rw [← Array.getElem?_toList, hq] at hc'
      exact (Option.some.inj hc').symm
     subst this
     exact Rep.str
   ·show i = z.cps.size
    rw [hl]
    simp
 cases ha : z.cps.all (· < 128)
 ·exact wpAny_pyIter_wide ha (key "str_iterator" _ (fun A' hA => Walks.strWide hA _ z t) (fun _ _ _ _ _ st h => wpAny_pyIter_striter_wide st h) (by decide) ⟨_, Heap.get?_push_size _ rfl, rfl, rfl⟩)
 ·exact wpAny_pyIter_ascii ha (key "str_ascii_iterator" _ (fun A' hA => Walks.strAscii hA _ z t) (fun _ _ _ _ _ st h => wpAny_pyIter_striter_ascii st h) (by decide) ⟨_, Heap.get?_push_size _ rfl, rfl, rfl⟩)
theorem Zkn (h : C3 X e f) : CI X tg e (ZfC f) := ZnM h (ZnN h)
theorem Zkz {K : PySem.W.Frag} {T : String} {ty : D → Store → Bool} {m : D → List D → Store → R3 D} (hty : ∀ H ι M a x, Zax K H ι M → Rep K H ι a x → ty a M = true → tyV K T x H) (σ : St) (H : Hp) (Q : VK) (h : tOf K (Zcg ty m f gl) σ H Q) : tBM K T (rM K m) (tOf K f) (tAf K gl) σ H Q := by
 obtain ⟨ι, M, env, S, E, h⟩ := h
 obtain ⟨a, M1, e1, h⟩ := Zam.bind h
 refine ⟨ι, M, env, S, E, ?_⟩
 rw [e1]
 intro v H1 ι1 x1 S1 r1
 by_cases ht : ty a M1 = true
 ·rw [if_pos ht] at h
  obtain ⟨ds, M2, e2, h⟩ := Zam.bind h
  refine ⟨hty _ _ _ _ _ S1 r1 ht, ι1, M1, env, S1, E.mono x1, ?_⟩
  rw [e2]
  intro vs H2 ι2 x2 S2 r2
  exact ⟨ι2, M2, a, ds, S2, r1.mono x2, r2, (h.up x1).up x2⟩
 ·rw [if_neg ht] at h; exact h.elim
theorem Zka {K : PySem.W.Frag} (H : Hp) (ι : List Addr) (M : Store) (a : D) (x : V) (S : Zax K H ι M) (r : Rep K H ι a x) (h : tyL a M = true) : tyV K "list" x H := by
 cases a with
 | ref n =>
  simp only [tyL] at h
  cases hn : M[n]? with
  | none => simp [hn] at h
  | some o =>
   cases o with
   | dct _ => simp [hn] at h
   | fdct _ => simp [hn] at h
   | lst xs =>
    obtain ⟨p, hp, rfl⟩ := r.ref_inv
    obtain ⟨vs, e, _⟩ := S.obj n _ p hn hp
    exact .inl ⟨rfl, vs, SqL.of e⟩
 | _ => simp at h
theorem _root_.L2.MtR.imp {id : String} {r r' : V → List V → Hp → VK → Prop} (h : MtR X id r) (i : ∀ x xs H Q, r' x xs H Q → r x xs H Q) : MtR X id r' := fun pins s σ H x xs v us Q I rx rs q => h pins s σ H x xs v us Q I rx rs (i x xs H Q q)
theorem Zky : MtR X "list.append" (rM X.K ZaK) := MtR.imp (r := ZiU) Zfk fun x xs H Q ⟨ι, M, a, ds, S, ra, rd, h⟩ => by
 cases a with
 | ref n =>
  cases ds with
  | nil => exact h.elim
  | cons d ds =>
   cases ds with
   | cons _ _ => exact h.elim
   | nil =>
    simp only [ZaK] at h
    cases hn : M[n]? with
    | none => simp only [hn] at h; exact h.elim
    | some o =>
     cases o with
     | dct _ => simp only [hn] at h; exact h.elim
     | fdct _ => simp only [hn] at h; exact h.elim
     | lst z =>
      simp only [hn] at h
      split at h
      ·rename_i hz
       obtain ⟨p, hp, rfl⟩ := ra.ref_inv
       obtain ⟨v, ws, rfl, r1, r2⟩ := rd.cons_inv
       have := r2.nil_inv
       subst this
       obtain ⟨vs, e, rv⟩ := S.obj n _ p hn hp
       obtain ⟨x2, S2⟩ := S.setl (.inr (.inl ⟨_, e⟩)) hp (rv.append (Zaa.cons r1 Zaa.nil))
       exact ⟨p, vs, v, rfl, rfl, e, by rw [rv.length]; exact Nat.lt_of_lt_of_le hz ZbK, h _ _ _ x2 S2 Rep.non⟩
      ·exact h.elim
 | _ => exact h.elim
theorem ZaZ (ho : C3 X o f) (ha : CA X (e :: es) gl)
  (hbase : attributeBase o "append" X.env (eval o X.env) = eval o X.env := by rfl)
  (hfew : ((backTo cpos (starEach (e :: es) X.env)).all (fun x => !x.1) && (backToKw cpos (keywordEach [] X.env)).all (fun x => x.1.isSome)
   && decide ((e :: es).length + ([] : List Keyword).length + (if ([] : List Keyword).isEmpty then 0 else 1) < 30)) = true := by rfl)
  (hline : (apos.endLine == cpos.line) = true := by rfl) (hs : starEach (e :: es) X.env = (false, eval e X.env) :: starEach es X.env := by rfl) (hplain : (backTo cpos (starEach es X.env)).any (·.1) = false := by rfl) :
  C3 X (.Call (.Attribute o "append" apos) (e :: es) [] cpos) (Zcg tyL ZaK f gl) :=
 (Zmt PySem.F.plainAttrs_list PySem.F.slot_list_append PySem.F.type_list_append Zky ho ha hbase hfew hline hs hplain).imp (Zkz Zka)
theorem Zon : OpR X (compareOp .In) (r2 X.K fun a b M => match a, b with | .str [c], .str y => .ok (.bl (decide (c ∈ y))) M | _, _ => .bad) := OpR.imp ZjC fun x y H Q ⟨ι, M, a, b, S, ra, rb, h⟩ => by
 cases a with
 | str z =>
  cases z with
  | nil => cases b <;> exact h.elim
  | cons c z =>
   cases z with
   | cons _ _ => cases b <;> exact h.elim
   | nil =>
    cases b with
    | str y =>
     refine ⟨_, _, ra.str_inv, rb.str_inv, ?_⟩
     have e := StrLaws.found_one (⟨y.toArray⟩ : Str) c
     rw [show (⟨[c].toArray⟩ : Str) = ⟨#[c]⟩ from rfl, e]
     exact Zam.ok h S Rep.bl
    | _ => exact h.elim
 | _ => cases b <;> exact h.elim
end
end L3
namespace L3
open PySem PySem.Spec PyProof.Rows L2
section
variable {X : Cx}
theorem Zm9 {pins : List (Addr × Obj)} {σ : St} {H : Hp} {s : Shared} {ι : List Addr} {M : Store} {a b : D} {x y : V} {u v : Value} {k : Bool} (hu : X.A.units + 80 < cLine) (I : Inv X pins σ H s) (S : Zax X.K H ι M)
  (ra : Rep X.K H ι a x) (rb : Rep X.K H ι b y) (ru : RelV x u) (rv : RelV y v) (h : eqD a b M = some k) : SeqAt.RcNeAt X.A s u v (!k) := by
 cases a with
 | ref n =>
  cases b with
  | ref m =>
   simp only [eqD] at h
   cases hn : M[n]? with
   | none => simp [hn] at h
   | some o =>
    cases o with
    | dct _ => simp [hn] at h
    | fdct _ => simp [hn] at h
    | lst ds =>
     cases hm : M[m]? with
     | none => simp [hn, hm] at h
     | some o =>
      cases o with
      | dct _ => simp [hn, hm] at h
      | fdct _ => simp [hn, hm] at h
      | lst es =>
       simp only [hn, hm] at h
       split at h
       ·rename_i hp
        cases h
        rw [Bool.and_eq_true] at hp
        obtain ⟨p, hp1, rfl⟩ := ra.ref_inv
        obtain ⟨q, hq1, rfl⟩ := rb.ref_inv
        cases ru
        cases rv
        obtain ⟨vs, e1, r1⟩ := S.obj n _ p hn hp1
        obtain ⟨ws, e2, r2⟩ := S.obj m _ q hm hq1
        obtain ⟨its, rvs, pl1, _⟩ := I.list (SqL.of e1)
        obtain ⟨its2, rws, pl2, _⟩ := I.list (SqL.of e2)
        have it1 := pl1.isList
        have it2 := pl2.isList
        have l1 : its.length = ds.length := by rw [← rvs.length, r1.length]
        have l2 : its2.length = es.length := by rw [← rws.length, r2.length]
        have hu1 : X.A.units < cLine := by omega
        by_cases hl : ds.length = es.length
        ·have key : (List.range its.toArray.size).all (fun j => match ds[j]?, es[j]? with | some a, some b => deq a b | _, _ => false) = ZbW ds es := by
          rw [List.size_toArray, l1]
          exact ZcI hl fun j a b h1 h2 => by rw [h1, h2]
         rw [← key]
         refine SeqAt.RcNeAt.lists it1 it2 (by rw [List.size_toArray, List.size_toArray, l1, l2, hl]) hu1 fun j h1 h2 => ?_
         have h1' : j < ds.length := by rw [← l1]; simpa using h1
         have h2' : j < es.length := by rw [← l2]; simpa using h2
         have q1 : ds[j]? = some ds[j] := by simp [h1']
         have q2 : es[j]? = some es[j] := by simp [h2']
         rw [q1, q2]
         obtain ⟨v1, g1, z1⟩ := r1.get q1
         obtain ⟨v2, g2, z2⟩ := r2.get q2
         obtain ⟨u1, k1, w1⟩ := rvs.get g1
         obtain ⟨u2, k2, w2⟩ := rws.get g2
         have m1 : its.toArray[j] = u1 := by
          have := List.getElem?_eq_some_iff.mp k1
          simpa using this.2
         have m2 : its2.toArray[j] = u2 := by
          have := List.getElem?_eq_some_iff.mp k2
          simpa using this.2
         rw [m1, m2]
         exact Zhh I DEEP X.A.in1 ds[j] es[j] v1 v2 u1 u2 (by rw [units_in1]; show X.A.units + 1 + 60 + 1 < cLine; omega) (List.all_eq_true.mp hp.1 _ (List.getElem_mem h1')) (List.all_eq_true.mp hp.2 _ (List.getElem_mem h2')) z1 z2 w1 w2
        ·have z : ZbW ds es = false := by
          cases q : ZbW ds es with
          | false => rfl
          | true => exact absurd (ZdI q) hl
         rw [z]
         exact SeqAt.RcNeAt.lists_lengths it1 it2 (by rw [List.size_toArray, List.size_toArray, l1, l2]; simpa using hl) hu1
       ·cases h
  | _ => simp [eqD] at h
 | int i => cases b with
  | int j =>
   simp only [eqD] at h
   cases h
   have := ra.int_inv; subst this; have := rb.int_inv; subst this
   obtain ⟨t, rfl⟩ := ru
   obtain ⟨t', rfl⟩ := rv
   rw [← Bool.beq_eq_decide_eq]
   exact SeqAt.RcNeAt.int_int _ _ _ _
  | _ => simp [eqD] at h
 | str i => cases b with
  | str j =>
   simp only [eqD] at h
   cases h
   have := ra.str_inv; subst this; have := rb.str_inv; subst this
   obtain ⟨t, rfl⟩ := ru
   obtain ⟨t', rfl⟩ := rv
   have e : decide (i = j) = ((⟨i.toArray⟩ : Str) == ⟨j.toArray⟩) := by
    rw [← Bool.beq_eq_decide_eq, ← Zex]
    by_cases h : (⟨i.toArray⟩ : Str) = ⟨j.toArray⟩
    ·simp [h]
    ·simp [h]
   rw [e]
   exact SeqAt.RcNeAt.str_str _ _ _ _
  | _ => simp [eqD] at h
 | bl i => cases b with
  | bl j =>
   simp only [eqD] at h
   cases h
   have := ra.bl_inv; subst this; have := rb.bl_inv; subst this
   cases ru
   cases rv
   rw [← Bool.beq_eq_decide_eq]
   exact SeqAt.RcNeAt.bool_bool _ _
  | _ => simp [eqD] at h
 | tup ds => cases b with
  | tup es =>
   simp only [eqD] at h
   split at h
   ·rename_i hp
    cases h
    rw [Bool.and_eq_true] at hp
    obtain ⟨p, vs, rfl, s1, r1⟩ := ra.tup_inv
    obtain ⟨p', ws, rfl, s2, r2⟩ := rb.tup_inv
    cases ru
    cases rv
    obtain ⟨its, rvs, ht, _⟩ := I.tuple s1
    obtain ⟨its2, rws, ht2, _⟩ := I.tuple s2
    have e1 : its.length = ds.length := by rw [← rvs.length, r1.length]
    have e2 : its2.length = es.length := by rw [← rws.length, r2.length]
    have hu1 : X.A.units < cLine := by omega
    have key : ((List.range (min its.toArray.size its2.toArray.size)).all (fun j => match ds[j]?, es[j]? with | some a, some b => deq a b | _, _ => false) && its.toArray.size == its2.toArray.size) = ZbW ds es := by
     rw [List.size_toArray, List.size_toArray, e1, e2]
     by_cases hl : ds.length = es.length
     ·rw [hl, Nat.min_self, beq_self_eq_true, Bool.and_true, ← hl]
      exact ZcI hl fun j a b h1 h2 => by rw [h1, h2]
     ·have z : ZbW ds es = false := by
       cases q : ZbW ds es with
       | false => rfl
       | true => exact absurd (ZdI q) hl
      rw [z, beq_eq_false_iff_ne.mpr hl, Bool.and_false]
    rw [← key]
    refine SeqAt.RcNeAt.tuples (show s.heap.IsTuple p its.toArray from ht) (show s.heap.IsTuple p' its2.toArray from ht2) hu1 fun j h1 h2 => ?_
    have h1' : j < ds.length := by rw [← e1]; simpa using h1
    have h2' : j < es.length := by rw [← e2]; simpa using h2
    have q1 : ds[j]? = some ds[j] := by simp [h1']
    have q2 : es[j]? = some es[j] := by simp [h2']
    rw [q1, q2]
    obtain ⟨v1, g1, z1⟩ := r1.get q1
    obtain ⟨v2, g2, z2⟩ := r2.get q2
    obtain ⟨u1, k1, w1⟩ := rvs.get g1
    obtain ⟨u2, k2, w2⟩ := rws.get g2
    have m1 : its.toArray[j] = u1 := by
     have := List.getElem?_eq_some_iff.mp k1
     simpa using this.2
    have m2 : its2.toArray[j] = u2 := by
     have := List.getElem?_eq_some_iff.mp k2
     simpa using this.2
    rw [m1, m2]
    exact Zhh I DEEP X.A.in1 ds[j] es[j] v1 v2 u1 u2 (by rw [units_in1]; show X.A.units + 1 + 60 + 1 < cLine; omega) (List.all_eq_true.mp hp.1 _ (List.getElem_mem h1')) (List.all_eq_true.mp hp.2 _ (List.getElem_mem h2')) z1 z2 w1 w2
   ·cases h
  | _ => simp [eqD] at h
 | _ => cases b <;> simp [eqD] at h
theorem Znn (hu : X.A.units + 80 < cLine) : OpR X (compareOp .NotEq) (r2 X.K Ze7) := by
 intro pins s σ H x y v u Q I rx ry h
 obtain ⟨ι, M, a, b, S, ra, rb, h⟩ := h
 unfold Ze7 at h
 cases q : eqD a b M with
 | none => rw [q] at h; exact h.elim
 | some k =>
  rw [q] at h
  exact Zm9 hu I S ra rb rx ry q X.prog X.w X.xe _ ⟨.bl (!k), H, I, rfl, Zam.ok h S Rep.bl⟩
theorem Zh3 {K : PySem.W.Frag} {H : Hp} {ι : List Addr} {d : D} {v : V} (r : Rep K H ι d v) (h : Zas d = true) : Zew v = true := by
 cases d with
 | non => rw [r.non_inv]; rfl
 | bl b => rw [r.bl_inv]; rfl
 | int i => rw [r.int_inv]; rfl
 | str x => rw [r.str_inv]; rfl
 | _ => simp [Zas] at h
theorem ZlB (x y : List Nat) : ((⟨x.toArray⟩ : Str) == ⟨y.toArray⟩) = (x == y) := by
 rw [Bool.eq_iff_iff]
 simp
theorem Zlw {K : PySem.W.Frag} {H : Hp} {ι : List Addr} {d e : D} {v w : V} (r : Rep K H ι d v) (q : Rep K H ι e w) (h : Zas d = true) (h' : Zas e = true) : eqV v w = deq d e := by
 cases d with
 | non => have := r.non_inv; subst this; cases e with
  | non => have := q.non_inv; subst this; rfl
  | bl _ => have := q.bl_inv; subst this; rfl
  | int _ => have := q.int_inv; subst this; rfl
  | str _ => have := q.str_inv; subst this; rfl
  | _ => simp [Zas] at h'
 | bl _ => have := r.bl_inv; subst this; cases e with
  | non => have := q.non_inv; subst this; rfl
  | bl _ => have := q.bl_inv; subst this; rfl
  | int _ => have := q.int_inv; subst this; rfl
  | str _ => have := q.str_inv; subst this; rfl
  | _ => simp [Zas] at h'
 | int _ => have := r.int_inv; subst this; cases e with
  | non => have := q.non_inv; subst this; rfl
  | bl _ => have := q.bl_inv; subst this; rfl
  | int _ => have := q.int_inv; subst this; rfl
  | str _ => have := q.str_inv; subst this; rfl
  | _ => simp [Zas] at h'
 | str _ => have := r.str_inv; subst this; cases e with
  | non => have := q.non_inv; subst this; rfl
  | bl _ => have := q.bl_inv; subst this; rfl
  | int _ => have := q.int_inv; subst this; rfl
  | str _ => have := q.str_inv; subst this; exact ZlB _ _
  | _ => simp [Zas] at h'
 | _ => simp [Zas] at h
theorem Zi2 {K : PySem.W.Frag} {H : Hp} {ι : List Addr} {d : D} {v : V} (r : Rep K H ι d v) (h : Zas d = true) : ∀ {ds : List D} {vs : List V}, Zaa K H ι ds vs → ds.all Zas = true → vs.all Zew = true ∧ inV v vs = ds.any fun y => deq y d
 | [], _, q, _ => by rw [q.nil_inv]; exact ⟨rfl, rfl⟩
 | e :: ds, _, q, hd => by
  obtain ⟨w, ws, rfl, r1, r2⟩ := q.cons_inv
  rw [List.all_cons, Bool.and_eq_true] at hd
  obtain ⟨h1, h2⟩ := Zi2 r h r2 hd.2
  refine ⟨by rw [List.all_cons, Zh3 r1 hd.1, h1]; rfl, ?_⟩
  unfold inV at h2 ⊢
  rw [List.any_cons, List.any_cons, h2, Zlw r1 r hd.1 h]
theorem ZpE (hu : X.A.units + 80 < cLine) : OpR X (compareOp .In) (r2 X.K Zkh) := OpR.imp (OpR.or Zon ZjL) fun x y H Q ⟨ι, M, a, b, S, ra, rb, h⟩ => by
 have seq : ∀ (d : D) (ys : List D), b = .tup ys → (Zas d && ys.all Zas) = true → a = d → Q (.bl (ys.any fun y => deq y d)) H → rIn X.K false x y H Q := by
  rintro d ys rfl hf rfl q
  rw [Bool.and_eq_true] at hf
  obtain ⟨p, vs, rfl, s, r⟩ := rb.tup_inv
  obtain ⟨h1, h2⟩ := Zi2 ra hf.1 r hf.2
  exact ⟨p, vs, rfl, .inr s, Zh3 ra hf.1, h1, by rw [if_neg (by decide), h2]; exact q⟩
 cases b with
 | tup ys =>
  have h' : Zam X.K H ι Q (match (if Zas a && ys.all Zas then some (ys.any fun y => deq y a) else none) with | some r => .ok (.bl r) M | none => .bad) := by
   cases a with
   | str z => cases z with
    | nil => exact h
    | cons c z => cases z <;> exact h
   | _ => exact h
  by_cases hf : (Zas a && ys.all Zas) = true
  ·rw [if_pos hf] at h'
   exact .inr (seq a ys rfl hf rfl (Zam.ok h' S Rep.bl))
  ·rw [if_neg hf] at h'; exact h'.elim
 | str y => cases a with
  | str z => cases z with
   | nil => exact h.elim
   | cons c z => cases z with
    | nil => exact .inl ⟨ι, M, _, _, S, ra, rb, h⟩
    | cons _ _ => exact h.elim
  | _ => exact h.elim
 | _ => cases a with
  | str z => cases z with
   | nil => exact h.elim
   | cons c z => cases z <;> exact h.elim
  | _ => exact h.elim
theorem Zk9 (x : List Nat) (n : Nat) (a : List Nat) : (List.replicate n x.toArray).foldl (· ++ ·) a.toArray = (a ++ (List.replicate n x).flatten).toArray := by
 induction n generalizing a with
 | zero => simp
 | succ n ih =>
  rw [List.replicate_succ, List.foldl_cons, List.replicate_succ, List.flatten_cons]
  have := ih (a ++ x)
  simp only [List.append_toArray] at this ⊢
  rw [this]
  simp
theorem ZnR (x : List Nat) (k : Int) : Txt.mul (⟨x.toArray⟩ : Str) k = ⟨(List.replicate k.toNat x).flatten.toArray⟩ := by
 unfold Txt.mul
 split
 ·rename_i h
  have : k.toNat = 0 := by omega
  rw [this]; rfl
 ·split
  ·rename_i h1 h2
   simp only [Bool.or_eq_true, beq_iff_eq, Str.length, List.size_toArray] at h2
   rcases h2 with h2 | h2
   ·subst h2; simp
   ·have : x = [] := List.eq_nil_of_length_eq_zero h2
    subst this
    simp
  ·have := Zk9 x k.toNat []
   rw [List.nil_append] at this
   exact congrArg Str.mk this
theorem Zaa.repl {K : PySem.W.Frag} {H : Hp} {ι : List Addr} {ds : List D} {vs : List V} (r : Zaa K H ι ds vs) : ∀ k : Nat, Zaa K H ι (List.replicate k ds).flatten (List.replicate k vs).flatten
 | 0 => Zaa.nil
 | k + 1 => by rw [List.replicate_succ, List.replicate_succ, List.flatten_cons, List.flatten_cons]; exact r.append (Zaa.repl r k)
theorem Zk3 : OpR X (binaryOp .Mult) (r2 X.K Zgc) := by
 have hs : OpR X (binaryOp .Mult) (fun x y H Q => ∃ (z : List Nat) (k : Int), x = .str ⟨z.toArray⟩ ∧ y = .int k ∧ z.length * k.toNat ≤ 1000000 ∧ k < 1000000 ∧ -1000000 < k ∧ Q (.str ⟨(List.replicate k.toNat z).flatten.toArray⟩) H) := by
  intro pins s σ H x y v u Q I rx ry h
  obtain ⟨z, k, rfl, rfl, h1, h2, h3, q⟩ := h
  obtain ⟨t, rfl⟩ := rx
  obtain ⟨t', rfl⟩ := ry
  refine SB.mul ⟨?_, fun h4 h5 => ?_, fun h4 h5 => ?_⟩ fun t'' tk => ?_
  ·simp; omega
  ·simp only [Str.length, List.size_toArray]
   simp at h4 h5
   have hk : 2 ≤ k := by
    simp only [Str.length, List.size_toArray] at h5
    omega
   have e : (k.toNat : Int) = k := by omega
   have hm : (z.length : Int) * k ≤ 1000000 := by
    have h1' : ((z.length * k.toNat : Nat) : Int) ≤ 1000000 := Int.ofNat_le.mpr h1
    rw [Int.natCast_mul, e] at h1'
    exact h1'
   have hd : (z.length : Int) ≤ 9223372036854775807 / k := Int.le_ediv_of_mul_le (by omega) (by omega)
   show ¬ ((z.length : Int) > (2 ^ 63 - 1) / k)
   have e3 : ((2 : Int) ^ 63 - 1) = 9223372036854775807 := by decide
   rw [e3]
   omega
  ·unfold Builtin.Str.tooLong
   simp only [Str.length, List.size_toArray, decide_eq_false_iff_not]
   have hsz : (1000000 : Nat) ≤ sizeLine := ZbK
   omega
  ·rw [ZnR]
   exact ⟨.str _, H, I.tok _, ⟨_, rfl⟩, q⟩
 refine OpR.imp (OpR.or ZmM (OpR.or hs ZmN)) fun x y H Q ⟨ι, M, a, b, S, ra, rb, h⟩ => ?_
 cases a with
 | int i => cases b with
  | int j =>
   simp only [Zgc] at h
   split at h
   ·rename_i hm
    refine .inl ⟨i, j, ra.int_inv, rb.int_inv, ?_, Zam.ok h S Rep.int⟩
    simp only [Zdb, Bool.or_eq_true, Bool.and_eq_true, decide_eq_true_eq] at hm
    exact hm
   ·exact h.elim
  | _ => exact h.elim
 | str z => cases b with
  | int k =>
   simp only [Zgc] at h
   split at h
   ·rename_i hz
    exact .inr (.inl ⟨z, k, ra.str_inv, rb.int_inv, hz.1, hz.2.1, hz.2.2, Zam.ok h S Rep.str⟩)
   ·exact h.elim
  | _ => exact h.elim
 | ref n => cases b with
  | int k =>
   simp only [Zgc] at h
   cases hn : M[n]? with
   | none => simp only [hn] at h; exact h.elim
   | some o =>
    cases o with
    | dct _ => simp only [hn] at h; exact h.elim
    | fdct _ => simp only [hn] at h; exact h.elim
    | lst z =>
     simp only [hn] at h
     split at h
     ·rename_i hz
      obtain ⟨p, hp, rfl⟩ := ra.ref_inv
      obtain ⟨vs, e, r⟩ := S.obj n _ p hn hp
      refine .inr (.inr ⟨p, k, vs, rfl, rb.int_inv, e, by omega, by omega, by rw [r.length]; exact Nat.le_trans hz.1 ZbK, fun q hq => ?_⟩)
      obtain ⟨x2, S2, r2⟩ := S.lst hq (Zaa.repl r k.toNat)
      exact h _ _ _ x2 S2 r2
     ·exact h.elim
  | _ => exact h.elim
 | _ => cases b <;> exact h.elim
theorem Zi8 (n d : Nat) (hd : d ≤ n) (o : Option Int) : (match o with | none => (d : Int) | some i => max 0 (min (if i < 0 then i + (n : Int) else i) (n : Int))) = ((sIx n d o : Nat) : Int) := by
 cases o with
 | none => rfl
 | some v =>
  simp only [sIx]
  split <;> omega
theorem Zfu (lo hi : Option Int) (n : Nat) : Builtin.Str.strSliceIndices lo hi 1 n = (List.range (sIx n n hi - sIx n 0 lo)).map (fun k => sIx n 0 lo + k) := by
 have e1 := Zi8 n 0 (Nat.zero_le _) lo
 have e2 := Zi8 n n (Nat.le_refl _) hi
 have key : Builtin.Str.strSliceIndices lo hi 1 n = sliceRange ((sIx n 0 lo : Nat) : Int) ((sIx n n hi : Nat) : Int) 1 := by
  rw [← e1, ← e2]
  simp only [Builtin.Str.strSliceIndices, show ((1 : Int) > 0) = True from by simp, if_true]
  cases lo <;> cases hi <;> rfl
 rw [key]
 generalize sIx n 0 lo = a
 generalize sIx n n hi = b
 simp only [sliceRange, show ((1 : Int) > 0) = True from by simp, if_true]
 by_cases hlt : (a : Int) < b
 ·have e3 : (((b : Int) - a + 1 - 1) / 1).toNat = b - a := by first | omega | (simp; done) | (simp; omega)
  simp only [hlt, if_true, e3]
  refine List.map_congr_left fun k _ => ?_
  omega
 ·have : b - a = 0 := by omega
  simp [hlt, this]
theorem Zg4 (n d : Nat) (hd : d ≤ n) (o : Option Int) : sIx n d o ≤ n := by
 cases o with
 | none => exact hd
 | some v => simp only [sIx]; split <;> omega
theorem ZiJ (z : List Nat) (lo hi : Option Int) (l u : Option (Int × Tok)) (hl : l.map (·.1) = lo) (hu : u.map (·.1) = hi) :
  (if ((1 : Int) == 1 && (slicePicked ⟨z.toArray⟩ l u none).length == (⟨z.toArray⟩ : Str).length) = true then (⟨z.toArray⟩ : Str) else ⟨((slicePicked ⟨z.toArray⟩ l u none).filterMap ((⟨z.toArray⟩ : Str).cps[·]?)).toArray⟩) = ⟨(cutD z lo hi).toArray⟩ := by
 have e0 : slicePicked ⟨z.toArray⟩ l u none = (List.range (sIx z.length z.length hi - sIx z.length 0 lo)).map (fun k => sIx z.length 0 lo + k) := by
  unfold slicePicked
  rw [hl, hu]
  simp only [Str.length, List.size_toArray]
  exact Zfu lo hi z.length
 have hb := Zg4 z.length z.length (Nat.le_refl _) hi
 rw [e0]
 have pick : ((List.range (sIx z.length z.length hi - sIx z.length 0 lo)).map (fun k => sIx z.length 0 lo + k)).filterMap ((⟨z.toArray⟩ : Str).cps[·]?) = cutD z lo hi := by
  unfold cutD
  by_cases hab : sIx z.length 0 lo ≤ sIx z.length z.length hi
  ·have h := StrLaws.picks z (sIx z.length z.length hi - sIx z.length 0 lo) (sIx z.length 0 lo) (by omega)
   simpa using h
  ·have : sIx z.length z.length hi - sIx z.length 0 lo = 0 := by omega
   rw [this]
   simp
 rw [pick]
 split
 ·rename_i hc
  simp only [List.length_map, List.length_range, Str.length, List.size_toArray, Bool.and_eq_true, beq_iff_eq] at hc
  have hc2 := hc.2
  have h0 : sIx z.length 0 lo = 0 ∨ z.length = 0 := by omega
  have : cutD z lo hi = z := by
   unfold cutD
   rcases h0 with h0 | h0
   ·rw [h0, List.drop_zero, List.take_of_length_le (by omega)]
   ·have : z = [] := List.eq_nil_of_length_eq_zero h0
    subst this
    simp
  rw [this]
 ·rfl
theorem ZmB : SlR X (fun x lo hi H Q => ∃ z : List Nat, x = .str ⟨z.toArray⟩ ∧ z.length ≤ SZ ∧ Q (.str ⟨(cutD z lo hi).toArray⟩) H) := by
 intro pins s σ H x v vl vu lo hi sl Q I rx hs pl pu h
 obtain ⟨z, rfl, hz, q⟩ := h
 obtain ⟨t, rfl⟩ := rx
 have part : ∀ {v : Value} {o : Option Int}, IsPart v o → ∃ p : Option (Int × Tok), v = partValue p ∧ p.map (·.1) = o := by
  intro v o h
  cases h with
  | none => exact ⟨none, rfl, rfl⟩
  | int i t => exact ⟨some (i, t), rfl, rfl⟩
 obtain ⟨l, rfl, hl⟩ := part pl
 obtain ⟨u, rfl, hu⟩ := part pu
 refine ⟨"str", _, PySem.F.slot_str_getitem.lookup, typeIs_str _ _ _, ?_⟩
 refine wpAny_getItem_str_slice (l := l) (u := u) (st := none) hs rfl ?_
 unfold sliceMade
 refine post_val_or_made (fun _ => ?_) fun t' k => ?_
 ·show ((slicePicked ⟨z.toArray⟩ l u none).filterMap ((⟨z.toArray⟩ : Str).cps[·]?)).toArray.size ≤ sizeLine
  rw [List.size_toArray]
  refine Nat.le_trans (List.length_filterMap_le _ _) ?_
  show (Builtin.Str.strSliceIndices (l.map (·.1)) (u.map (·.1)) 1 (⟨z.toArray⟩ : Str).length).length ≤ sizeLine
  rw [Zfu]
  simp only [List.length_map, List.length_range, Str.length, List.size_toArray]
  have := Zg4 z.length z.length (Nat.le_refl _) (u.map (·.1))
  have := ZbK
  omega
 ·have e := ZiJ z lo hi l u hl hu
  have e' : (if (((none : Option (Int × Tok)).map (·.1)).getD 1 == 1 && (slicePicked ⟨z.toArray⟩ l u none).length == (⟨z.toArray⟩ : Str).length) = true then (⟨z.toArray⟩ : Str) else ⟨((slicePicked ⟨z.toArray⟩ l u none).filterMap ((⟨z.toArray⟩ : Str).cps[·]?)).toArray⟩) = ⟨(cutD z lo hi).toArray⟩ := e
  rw [e']
  exact ⟨.str _, H, I.tok _, ⟨_, rfl⟩, q⟩
theorem ZeC {prog : Program} {w : World} {A : Around} {E : Value → Shared → Prop} {s : Shared} {t sl : Addr} {items : Array Value} {vl vu : Value} {lo hi : Option Int} {Q : Value → Shared → Prop} (ht : IsTup s.heap t items) (hs : s.heap.IsSliceOf sl vl vu .none) (pl : IsPart vl lo) (pu : IsPart vu hi)
  (hw : HT.sIx items.size 0 lo = 0 ∧ HT.sIx items.size items.size hi = items.size) (h : Q (.ref t) s) : wpAny (model prog w) A (getItem (.ref t) (.ref sl)) Q E s := by
 obtain ⟨os, hos, hcs, hds⟩ := id hs
 have hTs : s.TypeIs (.ref sl) "slice" := ⟨os, hos, hcs⟩
 unfold getItem
 try with_reducible refine wpAny_holding ?_
 first | refine wpAny_bind (wpAny_pure ?_) | skip
 refine wpAny_bind (wpAny_sequenceKey ht.typeIs (by decide) ?_)
 refine wpAny_bind (wpAny_callSpecial?_slot (name := Str.ofString "__getitem__") ht.typeIs PyProof.Rows.slot_tuple_getitem
  (wpAny_call_entry PyProof.Rows.slot_tuple_getitem ht.typeIs entry_tuple_getitem ?_ (args_tuple_getitem _ _)))
 show wpAny _ _ (Builtin.Tuple.tupleItemsOf (.ref t) >>= _) _ _ s
 refine wpAny_bind (tupleItemsOf_ ht ?_)
 refine wpAny_bind (wpAny_typeOf hTs ?_)
 rw [if_pos (by decide)]
 refine wpAny_bind (HT.sliceApplied_gen hs pl pu ?_)
 have hyes : (((HT.sIx items.size 0 lo : Nat) : Int) == 0 && (1 : Int) == 1 && (HT.sIx items.size items.size hi - HT.sIx items.size 0 lo) == items.size) = true := by
  rw [hw.1, hw.2]; simp
 show wpAny _ _ (if (((HT.sIx items.size 0 lo : Nat) : Int) == 0 && (1 : Int) == 1 && (HT.sIx items.size items.size hi - HT.sIx items.size 0 lo) == items.size) = true then _ else _) _ _ s
 rw [if_pos hyes]
 unfold Builtin.Tuple.tupleIsExact
 refine wpAny_bind (wpAny_bind (wpAny_typeOf ht.typeIs (wpAny_pure ?_)))
 rw [if_pos (by decide)]
 exact wpAny_bind (wpAny_rule (wpAny_pure ⟨_, rfl, wpAny_pure h⟩))
theorem ZlY : SlR X (fun x lo hi H Q => ∃ a xs, x = .ref a ∧ SqT X.K H a xs ∧ (HT.sIx xs.length 0 lo = 0 ∧ HT.sIx xs.length xs.length hi = xs.length) ∧ Q (.ref a) H) := by
 intro pins s σ H x v vl vu lo hi sl Q I rx hs pl pu h
 obtain ⟨a, xs, rfl, hx, hw, q⟩ := h
 cases rx
 obtain ⟨its, r, ht, hz⟩ := I.tuple hx
 have hlen : its.toArray.size = xs.length := by rw [List.size_toArray]; exact r.length.symm
 refine ⟨"tuple", _, PyProof.Rows.slot_tuple_getitem.lookup, ht.typeIs, ?_⟩
 exact ZeC ht hs pl pu (by rw [hlen]; exact hw) ⟨.ref a, H, I, rfl, q⟩
theorem Zen : SlR X (rS X.K) := SlR.imp (SlR.or (SlR.or ZmV ZlY) (SlR.or Zlr ZmB)) fun x lo hi H Q ⟨ι, M, a, S, ra, h⟩ => by
 have ex : ∀ n d o, HT.sIx n d o = sIx n d o := fun n d o => by cases o <;> rfl
 cases a with
 | tup ds =>
  simp only [ZeA] at h
  obtain ⟨p, vs, rfl, s, r⟩ := ra.tup_inv
  by_cases hw : sIx ds.length 0 lo = 0 ∧ sIx ds.length ds.length hi = ds.length
  ·refine .inl (.inr ⟨p, vs, rfl, s, by rw [ex, ex, r.length]; exact hw, ?_⟩)
   have e : cutD ds lo hi = ds := by unfold cutD; rw [hw.1, hw.2]; simp
   rw [e] at h
   exact Zam.ok h S (Rep.tup s r)
  ·refine .inl (.inl ⟨p, vs, rfl, s, by rw [ex, ex, r.length]; exact hw, fun q hq => ?_⟩)
   obtain ⟨x2, S2, r2⟩ := S.tupl hq (Zis r lo hi)
   exact h _ _ _ x2 S2 r2
 | scr ds =>
  simp only [ZeA] at h
  obtain ⟨p, vs, rfl, s, r⟩ := ra.scr_inv
  refine .inr (.inl ⟨p, vs, rfl, s.sq, fun q hq => ?_⟩)
  obtain ⟨x2, S2, r2⟩ := S.lst hq (Zis r lo hi)
  exact h _ _ _ x2 S2 r2
 | str z =>
  simp only [ZeA] at h
  split at h
  ·rename_i hz
   exact .inr (.inr ⟨z, ra.str_inv, hz, Zam.ok h S Rep.str⟩)
  ·exact h.elim
 | ref n =>
  simp only [ZeA] at h
  cases hn : M[n]? with
  | none => simp only [hn] at h; exact h.elim
  | some o =>
   cases o with
   | dct _ => simp only [hn] at h; exact h.elim
   | fdct _ => simp only [hn] at h; exact h.elim
   | lst ds =>
    simp only [hn] at h
    obtain ⟨p, hp, rfl⟩ := ra.ref_inv
    obtain ⟨vs, e, r⟩ := S.obj n _ p hn hp
    refine .inr (.inl ⟨p, vs, rfl, SqL.of e, fun q hq => ?_⟩)
    obtain ⟨x2, S2, r2⟩ := S.lst hq (Zis r lo hi)
    exact h _ _ _ x2 S2 r2
 | _ => exact h.elim
theorem ZeS {K : PySem.W.Frag} {H : Hp} {ι : List Addr} {d : D} {xs : List V} (r : Zaa K H ι [d] xs) : ∃ x, xs = [x] ∧ Rep K H ι d x := by
 obtain ⟨v, ws, rfl, r1, r2⟩ := r.cons_inv
 have := r2.nil_inv
 subst this
 exact ⟨v, rfl, r1⟩
theorem Zb1 : ZbG X (.builtin "len") (rB X.K ZaM) := ZbG.imp Zkc fun xs H Q ⟨ι, M, ds, S, rd, h⟩ => by
 cases ds with
 | nil => exact h.elim
 | cons d ds =>
  cases ds with
  | cons _ _ => cases d <;> exact h.elim
  | nil =>
   obtain ⟨x, rfl, r⟩ := ZeS rd
   cases d with
   | tup z =>
    obtain ⟨p, vs, rfl, s, r'⟩ := r.tup_inv
    exact ⟨_, vs.length, rfl, .inr ⟨vs, s, rfl⟩, by rw [r'.length]; exact Zam.ok h S Rep.int⟩
   | scr z =>
    obtain ⟨p, vs, rfl, s, r'⟩ := r.scr_inv
    exact ⟨_, vs.length, rfl, .inl ⟨vs, s.sq, rfl⟩, by rw [r'.length]; exact Zam.ok h S Rep.int⟩
   | str z =>
    simp only [ZaM] at h
    split at h
    ·rename_i hz
     have := r.str_inv
     subst this
     refine ⟨_, z.length, rfl, ⟨?_, ?_⟩, Zam.ok h S Rep.int⟩
     ·show z.toArray.size ≤ sizeLine
      rw [List.size_toArray]
      exact Nat.le_trans hz ZbK
     ·show z.length = z.toArray.size
      rw [List.size_toArray]
    ·exact h.elim
   | ref n =>
    cases hn : M[n]? with
    | none => simp only [ZaM, hn] at h; exact h.elim
    | some o =>
     cases o with
     | dct _ => simp only [ZaM, hn] at h; exact h.elim
     | fdct _ => simp only [ZaM, hn] at h; exact h.elim
     | lst z =>
      simp only [ZaM, hn] at h
      obtain ⟨p, hp, rfl⟩ := r.ref_inv
      obtain ⟨vs, e, r'⟩ := S.obj n _ p hn hp
      exact ⟨_, vs.length, rfl, .inl ⟨vs, SqL.of e, rfl⟩, by rw [r'.length]; exact Zam.ok h S Rep.int⟩
   | _ => exact h.elim
theorem Ze1 : ZbG X (.type "tuple") (rB X.K ZbL) := ZbG.imp Zgo fun xs H Q ⟨ι, M, ds, S, rd, h⟩ => by
 cases ds with
 | nil => exact h.elim
 | cons d ds =>
  cases ds with
  | cons _ _ => cases d <;> exact h.elim
  | nil =>
   obtain ⟨x, rfl, r⟩ := ZeS rd
   cases d with
   | tup z =>
    obtain ⟨p, vs, rfl, s, r'⟩ := r.tup_inv
    exact ⟨p, vs, rfl, .inr ⟨s, Zam.ok h S (Rep.tup s r')⟩⟩
   | scr z =>
    obtain ⟨p, vs, rfl, s, r'⟩ := r.scr_inv
    refine ⟨p, vs, rfl, .inl ⟨s.sq, fun q hq => ?_⟩⟩
    obtain ⟨x2, S2, r2⟩ := S.tupl hq r'
    exact h _ _ _ x2 S2 r2
   | ref n =>
    cases hn : M[n]? with
    | none => simp only [ZbL, hn] at h; exact h.elim
    | some o =>
     cases o with
     | dct _ => simp only [ZbL, hn] at h; exact h.elim
     | fdct _ => simp only [ZbL, hn] at h; exact h.elim
     | lst z =>
      simp only [ZbL, hn] at h
      obtain ⟨p, hp, rfl⟩ := r.ref_inv
      obtain ⟨vs, e, r'⟩ := S.obj n _ p hn hp
      refine ⟨p, vs, rfl, .inl ⟨SqL.of e, fun q hq => ?_⟩⟩
      obtain ⟨x2, S2, r2⟩ := S.tupl hq r'
      exact h _ _ _ x2 S2 r2
   | _ => exact h.elim
end
end L3
namespace L3
open PySem PySem.Spec PyProof.Rows L2
theorem Zbe : bootBuiltins "len" = some (.builtin "len") := by decide +kernel
theorem Zgr : bootBuiltins "isinstance" = some (.builtin "isinstance") := by decide +kernel
theorem ZmG : bootBuiltins "int" = some (.type "int") := by decide +kernel
theorem Zd7 : bootBuiltins "tuple" = some (.type "tuple") := by decide +kernel
theorem Zls : bootBuiltins "dict" = some (.type "dict") := by decide +kernel
section
variable {X : Cx} {a : Expr} {pos p p2 : Pos} {f : E3}
noncomputable def tyN : Ty3 → String
 | .int => "int" | .bool => "bool" | .str => "str" | .list => "list" | .tuple => "tuple"
theorem ZeG (K : PySem.W.Frag) (t : String) (T : Ty3) (ht : t ∈ ["NoneType", "bool", "int", "str", "list", "tuple", "dict"]) :
  PySem.W.kitOne K (.type t) (.type (tyN T)) = some (t == tyN T || (t == "bool" && tyN T == "int")) := by
 simp only [List.mem_cons, List.not_mem_nil, or_false] at ht
 rcases ht with rfl | rfl | rfl | rfl | rfl | rfl | rfl <;> cases T <;> kernel_rfl
theorem Zoh (T : Ty3) : bootBuiltins (tyN T) = some (.type (tyN T)) := by cases T <;> decide +kernel
theorem Zl1 {pins : List (Addr × Obj)} {σ : St} {H : Hp} {s : Shared} {ι : List Addr} {M : Store} {A : Around} {E : Value → Shared → Prop} {Q : Value → Shared → Prop} {T : Ty3} {d : D} {x : V} {u : Value} {b : Bool} (I : Inv X pins σ H s) (S : Zax X.K H ι M) (r : Rep X.K H ι d x) (ru : RelV x u)
  (e : ZfE T d M = some b) (h : ∀ tk, Q (.bool b) { s with toks := tk }) : wpAny (model X.prog X.w) A (call (.builtin "isinstance") [u, .type (tyN T)]) Q E s := by
 cases d with
 | non =>
  have := r.non_inv; subst this
  have hb : b = false := by simpa [ZfE] using e.symm
  subst hb
  exact Zdi I ru (.non) ((ZeG X.K "NoneType" T (by simp)).trans (by cases T <;> rfl)) h
 | bl c =>
  have := r.bl_inv; subst this
  have hb : b = (T == .bool || T == .int) := by simpa [ZfE] using e.symm
  subst hb
  exact Zdi I ru (.bl c) ((ZeG X.K "bool" T (by simp)).trans (by cases T <;> rfl)) h
 | int i =>
  have := r.int_inv; subst this
  have hb : b = (T == .int) := by simpa [ZfE] using e.symm
  subst hb
  exact Zdi I ru (.int i) ((ZeG X.K "int" T (by simp)).trans (by cases T <;> rfl)) h
 | str z =>
  have := r.str_inv; subst this
  have hb : b = (T == .str) := by simpa [ZfE] using e.symm
  subst hb
  exact Zdi I ru (.str _) ((ZeG X.K "str" T (by simp)).trans (by cases T <;> rfl)) h
 | tup ds =>
  obtain ⟨a, vs, rfl, st, rr⟩ := r.tup_inv
  cases ru
  have hb : b = (T == .tuple) := by simpa [ZfE] using e.symm
  subst hb
  obtain ⟨its, _, pt, _⟩ := I.tuple st
  obtain ⟨o, h1, h2, _⟩ := pt
  exact PySem.W.kia_one PySem.W.kitx_tuple I.kIn ⟨o, h1, h2⟩ ((ZeG X.K "tuple" T (by simp)).trans (by cases T <;> rfl)) (fun z => nomatch z) h
 | scr ds => simp [ZfE] at e
 | ref n =>
  simp only [ZfE] at e
  cases hn : M[n]? with
  | none => simp [hn] at e
  | some o =>
   obtain ⟨a, ha, rfl⟩ := r.ref_inv
   cases o with
   | lst z =>
    have hb : b = (T == .list) := by simpa [hn] using e.symm
    subst hb
    obtain ⟨vs, ev, _⟩ := S.obj n _ a hn ha
    exact Zdi I ru (.lst ev) ((ZeG X.K "list" T (by simp)).trans (by cases T <;> rfl)) h
   | dct z =>
    have hb : b = false := by simpa [hn] using e.symm
    subst hb
    obtain ⟨vs, ev, _⟩ := S.obj n _ a hn ha
    exact Zdi I ru (.dK ev) ((ZeG X.K "dict" T (by simp)).trans (by cases T <;> rfl)) h
   | fdct z => simp [hn] at e
theorem Zir (T : Ty3) {x : Str} (hm : X.mg "isinstance" = none) (hm2 : X.mg x = none) (h : C3 X a f) (hx : x = (Str.ofString (tyN T)) := by rfl) (hg : Gl X "isinstance" := by rfl) (hg2 : Gl X x := by rfl)
  (hn : x ≠ "__name__" := by decide) (hd : (x == ("__debug__" : Str)) = false := by decide)
  (hs : starEach (a :: [.Name x p2]) X.env = (false, eval a X.env) :: starEach [.Name x p2] X.env := by rfl) (hs2 : starEach (.Name x p2 :: []) X.env = (false, eval (.Name x p2) X.env) :: starEach [] X.env := by rfl)
  (hpl : (backTo pos (starEach [.Name x p2] X.env)).any (·.1) = false := by rfl) : C3 X (.Call (.Name "isinstance" p) [a, .Name x p2] [] pos) (e1 (Ze6 T) f) := by
 subst hx
 have hc : ZbG X (.builtin "isinstance") (fun xs H Q => ∃ ι M d x, xs = [x, .ty (tyN T)] ∧ Zax X.K H ι M ∧ Rep X.K H ι d x ∧ Zam X.K H ι Q (Ze6 T d M)) := by
  intro pins s σ H xs us Q I r q
  obtain ⟨ι, M, d, x, rfl, S, rd, q⟩ := q
  obtain ⟨u, w', rfl, ru, rw'⟩ := vals2 r
  cases rw'
  unfold Ze6 at q
  cases e : ZfE T d M with
  | none => rw [e] at q; exact q.elim
  | some b =>
   rw [e] at q
   exact Zl1 I S rd ru e fun tk => ⟨.bl b, H, I.tok _, rfl, Zam.ok q S Rep.bl⟩
 refine (ZhE hc hg hm Zgr (Zhf h (Zhf (Zma hg2 hm2 (Zoh T) (v := .ty (tyN T)) rfl hn hd) ZkF hs2) hs) (by decide) (by decide) hs hpl).imp fun σ H Q ⟨ι, M, env, S, E, h⟩ => ?_
 obtain ⟨d, M1, e1, h⟩ := Zam.bind h
 refine ⟨ι, M, env, S, E, ?_⟩
 rw [e1]
 intro v H1 ι1 x1 S1 r1
 exact ⟨ι1, M1, d, v, rfl, S1, r1, h.up x1⟩
end
noncomputable def Zmh (outer : List (Str × NameKind)) (N : List Str) (scope : Scope) (N' : List Str) (own : Nat) : Bool :=
 (scope.names.all fun y => decide (y.2 ≠ .cell) && (decide (y.2 ≠ .free) || decide (outer.lookup y.1 = some .cell) || decide (outer.lookup y.1 = some .free)) && (decide (y.2 ≠ .local) || decide (scope.names.lookup y.1 = some .local))) &&
  decide (N'.length = N.length + own) && Zk2 N N' scope
theorem Zej {X : Cx} {scope : Scope} {N' : List Str} {own : Nat} (hk : scope.kind = .function) (h : Zmh X.env.scope.names X.N scope N' own = true) : Zfg X scope N' own := by
 simp only [Zmh, Bool.and_eq_true, decide_eq_true_eq, List.all_eq_true, Bool.or_eq_true] at h
 obtain ⟨⟨h1, h2⟩, h3⟩ := h
 refine ⟨hk, fun y hy => (h1 y hy).1.1, fun y hy e => ?_, fun y hy e => ?_, h2, h3⟩
 ·rcases (h1 y hy).1.2 with (q | q) | q
  ·exact absurd e q
  ·exact .inl q
  ·exact .inr q
 ·rcases (h1 y hy).2 with q | q
  ·exact absurd e q
  ·exact q
theorem Zau {K : PySem.W.Frag} {h : Heap} {mg : Str → Option Value} (KX : K.In h) (G : h.Ns mainGlobals mg) {x : Str} {st : Stmt} {f : Addr} {oc : Value} {od an : Option Addr} {osl : Array (Option Value)} {dV kV doc pm cdv ct : Value}
  (a : PySem.W.nsIn K mainGlobals x = some (some (.ref f))) (l : K.lookup f = some ⟨oc, od, .func (PySem.W.fnOf x x (Zar st) (Zaj st) (Zq st) dV kV doc pm an cdv ct), osl⟩)
  (c : PySem.W.codeIn K cdv x = true) (k : PySem.W.keepIn K (.ref f) = true) {ps : List Str} (b : Binds K (PySem.W.fnOf x x (Zar st) (Zaj st) (Zq st) dV kV doc pm an cdv ct) ps []) : Zat K mg x st ps := ⟨f, _, Zkg l c k, PySem.W.mg_of KX G a, b⟩
theorem ZoI {l : PySem.W.OpenLaw} {k : Nat} {q : Program} {loose : List Str} {XP : (Str → Option Value) → Heap → Prop} {YP : World → Heap → Prop} {d : DefRec} {K : Params → PySem.W.Frag} {F : F3} (hn : l.most = some 63) (hdf : d.params.defaults = []) (hr : Zc8 k callerA)
  (hY : ∀ (w : World) (h : Heap), YP w h → (K w.params).In h)
  (G : ∀ (w : World) (mg : Str → Option Value) (fa : Addr) (h : Heap), (K w.params).In h → h.Ns mainGlobals mg → mg d.name = some (.ref fa) →
   ∃ fd : FuncData, (∀ (s : Shared) (u : Value), BindsTo s fd ⟨[u], []⟩ [("script", u)]) ∧ ∀ base : Heap, (K w.params).In base → base.Ns mainGlobals mg → Ze3 l.prog w (K w.params) mg base CX0 k fa fd ["script"] (sp3 (K w.params) 1 F))
  (hF : ∀ ns : List Int, ns.length ≤ 63 → ∃ M', F [.scr (ns.map D.int)] [] = .ok (.bl true) M') :
  PySem.W.WalkO q loose XP YP l.row.toRowW d [] (fun f vs => PySem.call f vs) :=
 L2.Zjl (n := 63) (k := k) (x := "script") (CX := fun _ => CX0) (sp := fun w => sp3 (K w.params) 1 F) hn (by decide) hdf hr hY G (fun w H a ns hl hO hS => by
  obtain ⟨M', e⟩ := hF ns hl
  refine ⟨[], [], [.scr (ns.map D.int)], ⟨rfl, List.nodup_nil, fun n o a h => by simp at h⟩, Zaa.cons ?_ Zaa.nil, rfl, ?_⟩
  ·simp only [Rep]
   refine ⟨a, ns.map V.int, rfl, ?_, Zaa.ints ns⟩
   rcases hS with (h | ⟨o, h⟩) | h
   ·rcases hO a with z | ⟨ob, xs, z⟩
    ·rw [h] at z; cases z
    ·rw [h] at z; cases z
   ·exact .inl ⟨o, h⟩
   ·exact .inr h
  ·rw [e]
   exact fun v H' ι' _ _ r => r.bl_inv) fun _ _ _ _ _ z => z
end L3
namespace L3
open PySem PySem.Spec PyProof.Rows L2
theorem Zii {a b : Zbj} (h : dk a = dk b) : a = b := by
 cases a with
 | inl i => cases b with
  | inl j => simp only [dk, Sum.inl.injEq] at h; rw [h]
  | inr y => simp [dk] at h
 | inr x => cases b with
  | inl j => simp [dk] at h
  | inr y =>
   simp only [dk, Sum.inr.injEq, Str.mk.injEq] at h
   have := congrArg Array.toList h
   simp at this
   rw [this]
theorem Zjg {K : PySem.W.Frag} {H : Hp} {ι : List Addr} {b : D} {y : V} {k : Zbj} (h : Zfw b = some k) (r : Rep K H ι b y) : y = kV (dk k) := by
 cases b with
 | int i => cases h; exact r.int_inv
 | str x => cases h; exact r.str_inv
 | _ => simp [Zfw] at h
section
variable {K : PySem.W.Frag} {H H' : Hp} {ι ι' : List Addr} {M : Store} {p : Addr}
theorem KvR.nil : KvR K H ι [] [] := ⟨rfl, Zaa.nil⟩
theorem KvR.cons {k : Zbj} {d : D} {v : V} {kvs : List (Zbj × D)} {ws : List (Key × V)} (h : Rep K H ι d v) (r : KvR K H ι kvs ws) : KvR K H ι ((k, d) :: kvs) ((dk k, v) :: ws) :=
 ⟨by simp [r.1], Zaa.cons h r.2⟩
theorem KvR.cons_inv {q : Zbj × D} {kvs : List (Zbj × D)} {ws : List (Key × V)} (r : KvR K H ι (q :: kvs) ws) : ∃ v ws', ws = (dk q.1, v) :: ws' ∧ Rep K H ι q.2 v ∧ KvR K H ι kvs ws' := by
 obtain ⟨h1, h2⟩ := r
 cases ws with
 | nil => simp at h1
 | cons w ws =>
  simp only [List.map_cons, List.cons.injEq] at h1
  obtain ⟨v, us, e, r1, r2⟩ := Zaa.cons_inv h2
  simp only [List.map_cons, List.cons.injEq] at e
  exact ⟨w.2, ws, by rw [← h1.1], e.1 ▸ r1, h1.2, e.2 ▸ r2⟩
theorem KvR.nil_inv {ws : List (Key × V)} (r : KvR K H ι [] ws) : ws = [] := by simpa using r.1
theorem KvR.mono {kvs : List (Zbj × D)} {ws : List (Key × V)} (r : KvR K H ι kvs ws) (e : Ext K H ι H' ι') : KvR K H' ι' kvs ws := ⟨r.1, r.2.mono e⟩
theorem KvR.length {kvs : List (Zbj × D)} {ws : List (Key × V)} (r : KvR K H ι kvs ws) : ws.length = kvs.length := by
 have := congrArg List.length r.1
 simpa using this
theorem KvR.val {kvs : List (Zbj × D)} (k : Zbj) : ∀ {ws : List (Key × V)}, KvR K H ι kvs ws → match ZcD kvs k with | some d => ∃ v, Zel ws (dk k) = some v ∧ Rep K H ι d v | none => Zel ws (dk k) = none := by
 induction kvs with
 | nil => intro ws r; rw [r.nil_inv]; exact ZkS
 | cons q kvs ih =>
  intro ws r
  obtain ⟨v, ws', rfl, r1, r2⟩ := r.cons_inv
  obtain ⟨k', d⟩ := q
  unfold ZcD
  by_cases e : k' = k
  ·rw [if_pos e]
   exact ⟨v, Zf2 (by rw [e]), r1⟩
  ·rw [if_neg e, ZfX fun z => e (Zii z)]
   exact ih r2
theorem KvR.append {k1 k2 : List (Zbj × D)} {w1 w2 : List (Key × V)} (a : KvR K H ι k1 w1) (b : KvR K H ι k2 w2) : KvR K H ι (k1 ++ k2) (w1 ++ w2) :=
 ⟨by simp [a.1, b.1], by rw [List.map_append, List.map_append]; exact a.2.append b.2⟩
theorem KvR.any {kvs : List (Zbj × D)} (k : Zbj) : ∀ {ws : List (Key × V)}, KvR K H ι kvs ws → (ws.any fun kv => decide (kv.1 = dk k)) = (kvs.any fun q => decide (q.1 = k)) := by
 induction kvs with
 | nil => intro ws r; rw [r.nil_inv]; rfl
 | cons q kvs ih =>
  intro ws r
  obtain ⟨v, ws', rfl, r1, r2⟩ := r.cons_inv
  rw [List.any_cons, List.any_cons, ih r2]
  congr 1
  by_cases e : q.1 = k
  ·simp [e]
  ·simp [e]; exact fun z => e (Zii z)
theorem KvR.put {kvs : List (Zbj × D)} {k : Zbj} {d : D} {v : V} {ws : List (Key × V)} (r : KvR K H ι kvs ws) (rd : Rep K H ι d v) : KvR K H ι (putD k d kvs) (putK ws (dk k) v) := by
 unfold putD putK
 rw [r.any k]
 by_cases c : (kvs.any fun q => decide (q.1 = k)) = true
 ·rw [if_pos c, if_pos c]
  clear c
  induction kvs generalizing ws with
  | nil => rw [r.nil_inv]; exact KvR.nil
  | cons q kvs ih =>
   obtain ⟨u, ws', rfl, r1, r2⟩ := r.cons_inv
   rw [List.map_cons, List.map_cons]
   by_cases e : q.1 = k
   ·rw [if_pos e, if_pos (by rw [e])]; exact KvR.cons rd (ih r2)
   ·rw [if_neg e, if_neg fun z => e (Zii z)]; exact KvR.cons r1 (ih r2)
 ·rw [if_neg c, if_neg c]
  exact r.append (KvR.cons rd KvR.nil)
theorem KvR.merge {l : List (Zbj × D)} : ∀ {kvs : List (Zbj × D)} {ws us : List (Key × V)}, KvR K H ι l us → KvR K H ι kvs ws → KvR K H ι (l.foldl (fun acc p => putD p.1 p.2 acc) kvs) (ZfJ ws us) := by
 induction l with
 | nil => intro kvs ws us r r0; rw [r.nil_inv]; exact r0
 | cons q l ih =>
  intro kvs ws us r r0
  obtain ⟨v, us', rfl, r1, r2⟩ := r.cons_inv
  exact ih (ws := putK ws (dk q.1) v) (us := us') r2 (r0.put r1)
theorem Zax.dct (S : Zax K H ι M) (hp : H p = none) {kvs : List (Zbj × D)} {ws : List (Key × V)} (r : KvR K H ι kvs ws) : Ext K H ι (upd H p (.dK ws)) (ι ++ [p]) ∧ Zax K (upd H p (.dK ws)) (ι ++ [p]) (M ++ [.dct kvs]) ∧ Rep K (upd H p (.dK ws)) (ι ++ [p]) (.ref M.length) (.ref p) := by
 have e : Ext K H ι (upd H p (.dK ws)) (ι ++ [p]) := Loose.extA (.inl hp)
 exact ⟨e, S.new hp ⟨ws, ZdK, r.mono e⟩, Rep.ref (by rw [← S.len]; simp)⟩
end
section
variable {X : Cx} {a b c e o : Expr} {es : List Expr} {pos p pos' apos cpos : Pos} {f g h : E3} {gl : EL3}
noncomputable def ZmJ (K : PySem.W.Frag) (H : Hp) (ι : List Addr) (Q : List (V × V) → Hp → Prop) (r : R3 (List (Zbj × D))) : Prop := match r with
 | .ok l M' => ∀ ws H' ι', Ext K H ι H' ι' → Zax K H' ι' M' → KvR K H' ι' l ws → Q (ws.map fun kv => (kV kv.1, kv.2)) H'
 | _ => False
theorem ZmJ.bind {K : PySem.W.Frag} {H : Hp} {ι : List Addr} {α : Type} {Q : List (V × V) → Hp → Prop} {r : R3 α} {k : α → Store → R3 (List (Zbj × D))} (h : ZmJ K H ι Q (r.bind k)) : ∃ a M, r = .ok a M ∧ ZmJ K H ι Q (k a M) := by
 cases r with
 | ok a M => exact ⟨a, M, rfl, h⟩
 | exc x M => exact h.elim
 | bad => exact h.elim
theorem hu1 (hu : X.A.units + 80 < cLine) : X.A.units + 1 < cLine := by omega
theorem ZiN {K : PySem.W.Frag} {H : Hp} {ι : List Addr} {M : Store} (S : Zax K H ι M) {n : Nat} {kvs : List (Zbj × D)} {a : Addr} (h : ZdY M[n]? = some kvs) (ha : ι[n]? = some a) : ∃ ws, Rd H a (.dK ws) ∧ KvR K H ι kvs ws := by
 cases hn : M[n]? with
 | none => simp [hn] at h
 | some ob =>
  cases ob with
  | lst _ => simp [hn] at h
  | dct k =>
   have e : k = kvs := by simpa [hn] using h
   subst e
   obtain ⟨ws, hw, kr⟩ := S.obj n _ a hn ha
   exact ⟨ws, .inl hw, kr⟩
  | fdct k =>
   have e : k = kvs := by simpa [hn] using h
   subst e
   obtain ⟨ws, ⟨o, hw⟩, kr⟩ := S.obj n _ a hn ha
   exact ⟨ws, .inr ⟨o, hw⟩, kr⟩
theorem Zl3 {K : PySem.W.Frag} {op : D → D → D → Store → R3 D} {H : Hp} {ι : List Addr} {Q : VK} {env : ZaC} {M : Store} (h' : Zam K H ι Q (e3 op f g h env M)) :
  ∃ a M1 b M2 c M3, f env M = .ok a M1 ∧ g env M1 = .ok b M2 ∧ h env M2 = .ok c M3 ∧ Zam K H ι Q (op a b c M3) := by
 obtain ⟨a, M1, e1, h'⟩ := Zam.bind h'
 obtain ⟨b, M2, e2, h'⟩ := Zam.bind h'
 obtain ⟨c, M3, e3, h'⟩ := Zam.bind h'
 exact ⟨a, M1, b, M2, c, M3, e1, e2, e3, h'⟩
theorem Zk6 {K : PySem.W.Frag} {H : Hp} {ι : List Addr} {D' : Ends} {env : ZaC} {M : Store} {σ : St} (E : ZbF K H ι env σ) (h' : Zek K H ι D' (ZaA f env M)) : Zam K H ι (fun _ H' => D'.nx σ H') (f env M) := by
 unfold ZaA at h'
 cases q : f env M with
 | ok d M1 => rw [q] at h'; exact fun v H1 ι1 x1 S1 r1 => h' σ H1 ι1 x1 S1 (E.mono x1)
 | exc x M1 => rw [q] at h'; exact h'.elim
 | bad => rw [q] at h'; exact h'.elim
theorem Zlq {i : Expr} {spos : Pos} (ho : C3 X o f) (hi : C3 X i g) (hv : C3 X e h)
  (ha : ∀ v, assign (.Subscript o i spos) X.env v = (do
   let ov ← holding [v] (eval o X.env)
   let iv ← holding [v, ov] (eval i X.env)
   standAt spos
   holding [v, ov, iv] (setItem ov iv v)
   release [v, ov, iv] []) := by intro _; rfl)
  (hs : swapsWithSole [.Subscript o i spos] e pos.line X.env = pure false := by rfl) (hw : swappedStores [.Subscript o i spos] e X.env = pure none := by rfl)
  (h1 : (assignEach [.Subscript o i spos] X.env).map (·.2) = [assign (.Subscript o i spos) X.env] := by rfl) : CS X (.Assign [.Subscript o i spos] e pos) (ZhW f g h) := (Zkj hv (ZmC ho hi set_list ha) hs hw h1).imp fun D' σ H ⟨ι, M, env, S, E, hh⟩ => by
 obtain ⟨d, M1, b, M2, k, M3, e1, e2, e3, hh⟩ := Zl3 (Zk6 E hh)
 refine ⟨ι, M, env, S, E, ?_⟩
 rw [e1]
 intro v H1 ι1 x1 S1 r1
 refine ⟨ι1, M1, env, S1, E.mono x1, ?_⟩
 rw [e2]
 intro x H2 ι2 x2 S2 r2
 refine ⟨ι2, M2, env, S2, (E.mono x1).mono x2, ?_⟩
 rw [e3]
 intro y H3 ι3 x3 S3 r3
 cases b with
 | ref n =>
  cases k with
  | int j =>
   simp only [ZkW] at hh
   cases hn : M3[n]? with
   | none => simp only [hn] at hh; exact hh.elim
   | some ob =>
    cases ob with
    | dct _ => simp only [hn] at hh; exact hh.elim
    | fdct _ => simp only [hn] at hh; exact hh.elim
    | lst xs =>
     simp only [hn] at hh
     cases hj : ixD xs.length j with
     | none => simp only [hj] at hh; exact hh.elim
     | some q =>
      simp only [hj] at hh
      obtain ⟨ad, ha, rfl⟩ := (r2.mono x3).ref_inv
      obtain ⟨ws, hw, kr⟩ := S3.obj n _ ad hn ha
      obtain ⟨x4, S4⟩ := S3.setl (.inr (.inl ⟨_, hw⟩)) ha (kr.set q ((r1.mono x2).mono x3))
      exact ⟨ad, ws, j, q, rfl, r3.int_inv, hw, by rw [kr.length]; exact hj, hh .non _ _ (((x1.trans x2).trans x3).trans x4) S4 Rep.non⟩
  | _ => exact hh.elim
 | _ => exact hh.elim
end
end L3
namespace L3
open PySem PySem.W PyProof.Rows
section
variable {lt : Nat → Nat → Bool}
structure Zok (lt : Nat → Nat → Bool) : Prop where
 asym : ∀ {a b}, lt a b = true → lt b a = false
 tr : ∀ {a b c}, lt b a = false → lt c b = false → lt c a = false
theorem Zok.rf (o : Zok lt) (a : Nat) : lt a a = false := by
 cases h : lt a a
 ·rfl
 ·exact h ▸ o.asym h
noncomputable abbrev at' (p : Array Nat) (i : Nat) : Nat := p.getD i 0
end
end L3
namespace L3
open PySem PySem.W PyProof.Rows
section
noncomputable def Zko {α : Type} (n : Nat) (R : α → Prop) : KasT α → Prop
 | .ret a => R a
 | .ask i j k => i < n ∧ j < n ∧ ∀ b, Zko n R (k b)
theorem Zko.bind {α β : Type} {n : Nat} {R : α → Prop} {R' : β → Prop} {f : α → KasT β} (hf : ∀ a, R a → Zko n R' (f a)) : ∀ {t : KasT α}, Zko n R t → Zko n R' (t.bind f)
 | .ret a, h => hf a h
 | .ask _ _ _, ⟨h1, h2, h3⟩ => ⟨h1, h2, fun b => (h3 b).bind hf⟩
variable {n : Nat}
end
section
variable {prog : Program} {w : World} {A : Around} {E : Value → Shared → Prop} {s : Shared}
end
end L3
namespace L3
open PySem PySem.W PySem.Spec PyProof.Rows L2
section
variable {prog : Program} {w : World} {A : Around} {K : PySem.W.Frag} {H : Hp} {ι : List Addr}
end
section
variable {X : Cx}
theorem Zaa.pick {K : PySem.W.Frag} {H : Hp} {ι : List Addr} {x : List D} {vs : List V} (r : Zaa K H ι x vs) (d0 : D) (v0 : V) : ∀ (p : List Nat), (∀ i ∈ p, i < x.length) → Zaa K H ι (p.map fun i => x.getD i d0) (p.map fun i => vs.getD i v0)
 | [], _ => Zaa.nil
 | i :: p, h => by
  have hi := h i List.mem_cons_self
  obtain ⟨v, e, q⟩ := r.get (i := i) (d := x[i]) (by simp [hi])
  refine Zaa.cons ?_ (Zaa.pick r d0 v0 p fun j hj => h j (List.mem_cons_of_mem _ hj))
  dsimp only
  rw [List.getD_eq_getElem?_getD, List.getD_eq_getElem?_getD, e, List.getElem?_eq_getElem hi]; exact q
theorem Vals.pick {vs : List V} {us : List Value} (r : Vals vs us) (v0 : V) : ∀ (p : List Nat), (∀ i ∈ p, i < vs.length) → Vals (p.map fun i => vs.getD i v0) (p.map fun i => us.getD i Value.none)
 | [], _ => .nil
 | i :: p, h => by
  have hi := h i List.mem_cons_self
  obtain ⟨v, e, q⟩ := r.get (i := i) (x := vs[i]) (by simp [hi])
  refine .cons ?_ (Vals.pick r v0 p fun j hj => h j (List.mem_cons_of_mem _ hj))
  dsimp only
  rw [List.getD_eq_getElem?_getD, List.getD_eq_getElem?_getD, e, List.getElem?_eq_getElem hi]; exact q
end
end L3
namespace L3
open PySem PySem.Spec PyProof.Rows L2
section
variable {X : Cx} {a b c e o : Expr} {es : List Expr} {pos p apos cpos : Pos} {f g h : E3} {gl : EL3}
theorem ZoH : ZbG X (.type "int") (rB X.K Zor) := ZbG.imp Zj6 fun xs H Q ⟨ι, M, ds, S, rd, h⟩ => by
 cases ds with
 | nil => exact h.elim
 | cons d ds =>
  cases ds with
  | cons _ _ => cases d <;> exact h.elim
  | nil =>
   obtain ⟨x, rfl, r⟩ := ZeS rd
   cases d with
   | int i => exact .inl ⟨i, by rw [r.int_inv], Zam.ok h S Rep.int⟩
   | bl k => exact .inr ⟨k, by rw [r.bl_inv], Zam.ok h S Rep.int⟩
   | _ => exact h.elim
theorem Zm7 {K : PySem.W.Frag} {H : Hp} {ι : List Addr} {M : Store} (S : Zax K H ι M) {n : Nat} {a : Addr} (h : (ZdY M[n]?).isSome = true) (ha : ι[n]? = some a) : IsD H a := by
 cases hn : ZdY M[n]? with
 | none => rw [hn] at h; cases h
 | some kvs =>
  obtain ⟨ws, hw, _⟩ := ZiN S hn ha
  exact .inl ⟨ws, hw⟩
theorem ZkV {K : PySem.W.Frag} {H : Hp} {ι : List Addr} {kvs : List (Zbj × D)} {ws : List (Key × V)} {d : D} {z : V} (kr : KvR K H ι kvs ws) (k : Zbj) (rd : Rep K H ι d z) : Rep K H ι ((ZcD kvs k).getD d) ((Zel ws (dk k)).getD z) := by
 have hv := kr.val k
 cases q : ZcD kvs k with
 | none => rw [q] at hv; rw [hv]; exact rd
 | some w =>
  rw [q] at hv
  obtain ⟨v, ev, rv⟩ := hv
  rw [ev]; exact rv
theorem ZnT {e' : Expr} (hu : X.A.units + 80 < cLine) (ho : C3 X o f) (he : C3 X e g) (he' : C3 X e' h) (m : M2 X o "get" apos e e' cpos := by exact ⟨rfl, rfl, rfl, rfl⟩) : C3 X (.Call (.Attribute o "get" apos) [e, e'] [] cpos) (Zcg ZjZ Zkb f (Za g (Za h Zg))) := (ZkE (hu1 hu) ho he he' m).imp fun σ H Q ⟨ι, M, env, S, E, hh⟩ => by
 obtain ⟨d, M1, e1, hh⟩ := Zam.bind hh
 refine ⟨ι, M, env, S, E, ?_⟩
 rw [e1]
 intro x H1 ι1 x1 S1 r1
 cases d with
 | ref n =>
  by_cases hD : (ZdY M1[n]?).isSome = true
  ·simp only [ZjZ, hD, if_true] at hh
   obtain ⟨ad, ha, rfl⟩ := r1.ref_inv
   obtain ⟨ds, M2, e2, hh⟩ := Zam.bind hh
   refine ⟨ad, rfl, Zm7 S1 hD ha, ι1, M1, env, S1, E.mono x1, ?_⟩
   cases q : g env M1 with
   | bad => simp [q] at e2
   | exc x' M' => simp [q] at e2
   | ok b M2' =>
    cases q' : h env M2' with
    | bad => simp [q, q'] at e2
    | exc x' M' => simp [q, q'] at e2
    | ok b' M3' =>
     simp only [Za, q, q', R3.bind, Zg] at e2
     cases e2
     intro y H2 ι2 x2 S2 r2
     refine ⟨ι2, M2', env, S2, (E.mono x1).mono x2, ?_⟩
     rw [q']
     intro z H3 ι3 x3 S3 r3
     simp only [Zkb] at hh
     cases hn : ZdY M2[n]? with
     | none => simp only [hn] at hh; exact hh.elim
     | some kvs =>
      cases hk : Zfw b with
      | none => simp only [hn, hk] at hh; exact hh.elim
      | some kk =>
       simp only [hn, hk] at hh
       obtain ⟨ws, hw, kr⟩ := ZiN S3 hn (x3.pre _ _ (x2.pre _ _ ha))
       refine ⟨Zel ws (dk kk), .inl ⟨ws, dk kk, hw, Zjg hk r2, rfl⟩, hh _ H3 ι3 ((x1.trans x2).trans x3) S3 (ZkV kr kk r3)⟩
  ·simp only [ZjZ, hD] at hh; exact hh.elim
 | _ => exact hh.elim
end
section
variable {X : Cx} {pins : List (Addr × Obj)} {σ : St} {H : Hp} {s : Shared} {d : Addr} {ws : List (Key × V)} {ob : Obj}
end
section
variable {X : Cx} {tg e elt : Expr} {ifs : List Expr} {pos : Pos} {f fe : E3} {ts : List E3} {g : G3} {scope : Scope} {N' : List Str} {own : Nat}
end
end L3
namespace L3
open PySem PySem.Spec PyProof.Rows L2
section
variable {prog : Program} {w : World} {A : Around} {E : Value → Shared → Prop} {s : Shared}
theorem Zju : typeLookup (.type "tuple") (Str.ofString "keys") = pure none := by rw [typeLookup_type, builtinLookup_eq_fast]; kernel_rfl
set_option maxRecDepth 8000 in
theorem ZhC {a : Addr} {o : Obj} {xs : Array Value} {k : Nat} {Q : Option Value → Shared → Prop} (hx : s.heap.get? a = some o) (hc : o.cls = .type "tuple") (hdat : o.data = .seq xs k) (hd : o.dict = none) (hA : A.handled = none)
  (h : ∀ h' tk, (∀ b u, s.heap.get? b = some u → h'.get? b = some u) → Q none { s with heap := h', toks := tk }) : wpAny (model prog w) A (getAttr? (.ref a) (Str.ofString "keys")) Q E s := by
 obtain ⟨c, dct, dat, sl⟩ := o
 simp only at hc hdat hd
 subst hc hdat hd
 obtain ⟨hp, g, d, tk, os⟩ := s
 have hT : ∀ tk', (⟨hp, g, d, tk', os⟩ : Shared).TypeIs (.ref a) "tuple" := fun _ => ⟨_, hx, rfl⟩
 have f1 := sub_AttributeError; have f3 := F.slot_tuple_getattribute.lookup; have f4 := F.slot_tuple_getattribute.bind (.ref a); have f5 := am_tuple_getattr_none
 unfold getAttr? getAttrBy? getAttrBy
 repeat (any_goals (first | assumption | exact hT _ | ((with_reducible show wpAny _ _ (call (Value.builtin "tuple.__getattribute__") _ _) _ _ _); refine call_meets F.slot_tuple_getattribute (hT _) am_entry_tuple_getattribute (F.args_tuple_getattribute_2 _ _) (meets_getattribute_miss_tuple a xs k sl _ _ Zju (by decide) (by rw [sizeLine_eq]; decide)) ⟨hx, hA, fun h' tk' e hx' => ?_⟩) | wp_step))
 obtain ⟨t', u', he⟩ := hx'.there
 show wpAny _ _ (getattributeRaised _ _ _ _ _ _ _) _ _ _
 unfold getattributeRaised
 repeat (any_goals (first | assumption | wp_step))
 all_goals exact h _ _ hx'.of.keeps
theorem Zd9 : entryFor table "dict.update.loop" = some Builtin.«dict.update.loop» := entryFor_of_tree (by kernel_rfl)
theorem ZcH : plainId "dict.update.loop" = true := by decide +kernel
noncomputable def Ziz (prog : Program) (w : World) (h : Heap) (v : Value) (q : Key × Value) : Prop := ∃ a o key n, v = .ref a ∧ h.get? a = some o ∧ o.cls = .type "tuple" ∧ o.data = .seq #[key, q.2] n ∧ (ZaY prog w).is q.1 key = true
theorem Zlj {d I ax : Addr} {items : Array Value} {ps : List (Key × Value)} {res : Value} (hh : A.in1.handled = none) (hne : ax ≠ I) (hdI : d ≠ I) (hda : d ≠ ax) (hl : ps.length = items.size) (hz : ps.length ≤ 100000) :
  ∀ (k i : Nat) (s : Shared) (kvs : List (Key × Value)) {R : Result → Shared → Prop}, items.size - i = k → i ≤ items.size → s.heap.IsTupleIter I ax i → s.heap.IsTuple ax items → s.heap.DictOf (ZaY prog w) d kvs → kvs.length ≤ i →
   (∀ (j : Nat) v q, items[j]? = some v → ps[j]? = some q → Ziz prog w s.heap v q ∧ v ≠ .ref d ∧ v ≠ .ref I) →
   (∀ h' tk, h'.DictOf (ZaY prog w) d (merged kvs (ps.drop i)) → (∀ b o, b ≠ d → b ≠ I → s.heap.get? b = some o → h'.get? b = some o) → R (.ok (.ret res)) { s with heap := h', toks := tk }) →
   codeAny (model prog w) A (.builtin "dict.update.loop" ⟨[.ref d, .ref I, rawInt i, res], []⟩) R s := by
 have W := Walks.tuple (prog := prog) (w := w) hh I ax hne items
 intro k
 induction k with
 | zero =>
  intro i s kvs R hk hi st tup dd hkl hp hR
  have hin : i = items.size := by omega
  subst hin
  refine codeAny_builtin Zd9 ?_
  rw [Around.under_plainId ZcH _]
  show wpAny _ A.in1 (pyNext (.ref I) >>= _) _ _ s
  refine wpAny_bind (W.done s _ _ ⟨st, tup⟩ fun h' tk kk => ?_)
  show wpAny _ A.in1 (Builtin.Dict.addKeywords d [] >>= _) _ _ _
  refine wpAny_bind (wpAny_pure (wpAny_pure (hR h' tk ?_ fun b o hb hI e => kk b o (by simpa using hI) e)))
  rw [List.drop_of_length_le (by omega)]
  obtain ⟨o, es, ep, ho, r⟩ := dd
  exact ⟨o, es, ep, kk d o (by simpa using hdI) ho, r⟩
 | succ k ih =>
  intro i s kvs R hk hi st tup dd hkl hp hR
  have hlt : i < items.size := by omega
  have hv : items[i]? = some items[i] := by simp [hlt]
  have hq : ps[i]? = some (ps[i]'(by omega)) := by simp [show i < ps.length by omega]
  refine codeAny_builtin Zd9 ?_
  rw [Around.under_plainId ZcH _]
  show wpAny _ A.in1 (pyNext (.ref I) >>= _) _ _ s
  refine wpAny_bind (W.item i s _ _ hlt ⟨st, tup⟩ fun v h1 tk1 hP st1 kk1 => ?_)
  rw [hv] at hP
  cases hP
  obtain ⟨⟨a, o, key, n, ev, ho, hc, hd, hkey⟩, nd, nI⟩ := hp i _ _ hv hq
  have haI : a ≠ I := fun z => nI (by rw [ev, z])
  have had : a ≠ d := fun z => nd (by rw [ev, z])
  have ho1 : h1.get? a = some o := kk1 a o (by simpa using haI) ho
  have dd1 : h1.DictOf (ZaY prog w) d kvs := by
   obtain ⟨o', es, ep, ho', r⟩ := dd
   exact ⟨o', es, ep, kk1 d o' (by simpa using hdI) ho', r⟩
  rw [ev]
  generalize ps[i]'(by omega) = q at hq hkey hd
  dsimp only
  refine wpAny_bind (wpAny_holding (wpAny_bind (wpAny_tryCatch ?_)))
  unfold Builtin.Dict.pairItems
  refine wpAny_bind (wpAny_typeOf (T := "tuple") ⟨o, ho1, hc⟩ ?_)
  rw [if_pos (by decide)]
  refine wpAny_bind ?_
  unfold seqItems?
  refine wpAny_bind (wpAny_load ho1 ?_)
  rw [hd]
  refine wpAny_pure (wpAny_pure ?_)
  show wpAny _ A.in1 (holding [key, q.2] (dictSet d key q.2)) _ _ _
  refine wpAny_holding (wpAny_dictSet_pairs hkey dd1 (fun h2 dd2 sb => ?_) (by rw [sizeLine_eq]; omega))
  refine wpAny_pure ⟨plainId_quiet ZcH _, ?_⟩
  show codeAny (model prog w) A (.builtin "dict.update.loop" ⟨[.ref d, .ref I, rawInt ((i : Int) + 1), res], []⟩) R _
  have e1 : ((i : Int) + 1) = ((i + 1 : Nat) : Int) := by omega
  rw [e1]
  have k2 : ∀ b u, b ≠ d → b ≠ I → s.heap.get? b = some u → h2.get? b = some u := fun b u hb hI e => (sb.2 b hb).trans (kk1 b u (by simpa using hI) e)
  refine ih (i + 1) _ (stored kvs q.1 q.2) (by omega) hlt ?_ ?_ dd2 ?_ ?_ ?_
  ·obtain ⟨o', e', r⟩ := st1.1
   exact ⟨o', (sb.2 I (Ne.symm hdI)).trans e', r⟩
  ·obtain ⟨o', e', r⟩ := st1.2
   exact ⟨o', (sb.2 ax (Ne.symm hda)).trans e', r⟩
  ·have := (show (stored kvs q.1 q.2).length ≤ kvs.length + 1 from by unfold stored; split <;> simp)
   omega
  ·intro j v q' hj hq'
   obtain ⟨⟨a', o', key', n', ev', ho', r⟩, nd', nI'⟩ := hp j v q' hj hq'
   exact ⟨⟨a', o', key', n', ev', k2 a' o' (fun z => nd' (by rw [ev', z])) (fun z => nI' (by rw [ev', z])) ho', r⟩, nd', nI'⟩
  ·intro h' tk dd' kk'
   refine hR h' tk ?_ fun b u hb hI e => kk' b u hb hI (k2 b u hb hI e)
   have hq2 : ps.drop i = q :: ps.drop (i + 1) := by rw [List.drop_eq_getElem_cons (by omega)]; congr 1; rw [List.getElem?_eq_getElem (by omega)] at hq; exact Option.some.inj hq
   rw [hq2]
   exact dd'
theorem ZiC {ax : Addr} {items : Array Value} {ps : List (Key × Value)} {Q : Value → Shared → Prop} (hA : A.handled = none) (ht : Zc6 s.heap ax items) (hl : ps.length = items.size) (hz : ps.length ≤ 100000)
  (hp : ∀ (j : Nat) v q, items[j]? = some v → ps[j]? = some q → Ziz prog w s.heap v q)
  (h : ∀ h' tk, h'.DictOf (ZaY prog w) s.heap.objs.size (merged [] ps) → (∀ b o, s.heap.get? b = some o → h'.get? b = some o) → Q (.ref s.heap.objs.size) { s with heap := h', toks := tk }) :
  wpAny (model prog w) A (call (.type "dict") [.ref ax]) Q E s := by
 obtain ⟨o, ho, ⟨hc, hdn⟩, n, hdat⟩ := id ht
 have hlt : ax < s.heap.objs.size := Heap.lt_size ho
 refine callType_codes (Q₁ := fun obj s₁ => obj = .ref s.heap.objs.size ∧ s₁ = { s with heap := s.heap.push { cls := .type "dict", data := .dict #[] } }) F.kt_called_dict (F.kt_typeCall_dict_1 _) F.entry_dict_init (kt_code_dict_new _ ⟨rfl, rfl⟩) ?_
 rintro obj s₁ ⟨rfl, rfl⟩
 have hnew : (s.heap.push { cls := .type "dict", data := .dict #[] }).DictOf (ZaY prog w) s.heap.objs.size [] := Heap.DictOf.new s.heap
 have hk1 : ∀ b u, s.heap.get? b = some u → (s.heap.push { cls := .type "dict", data := .dict #[] }).get? b = some u := fun b u q => Heap.get?_push_of_some _ q
 refine ⟨hnew.typeIs, F.args_dict_init_2 _ _, ?_⟩
 unfold Builtin.«dict.__init__»
 refine wpAny_bind ?_; unfold Builtin.Dict.selfAndRest
 refine wpAny_bind (wpAny_notOrdered_dict hnew.typeIs ?_); show wpAny _ _ (pure (s.heap.objs.size, [Value.ref ax])) _ _ _
 refine wpAny_pure ?_; show wpAny _ _ (Builtin.Dict.updateFrom "dict.__init__" s.heap.objs.size (.ref ax) [] .none) _ _ _
 unfold Builtin.Dict.updateFrom
 refine wpAny_bind (wpAny_typeOf (T := "tuple") ⟨o, hk1 _ _ ho, hc⟩ ?_)
 rw [if_pos (by decide)]
 refine wpAny_bind (ZhC (hk1 _ _ ho) hc hdat hdn hA fun h2 tk2 k2 => ?_)
 simp only [Option.isNone_none, if_true]
 refine wpAny_bind (wpAny_rule ?_)
 have d2 : h2.DictOf (ZaY prog w) s.heap.objs.size [] := by
  obtain ⟨o', es, ep, ho', r⟩ := hnew
  exact ⟨o', es, ep, k2 _ _ ho', r⟩
 have t2 : h2.IsTuple ax items := ⟨o, k2 _ _ (hk1 _ _ ho), hc, n, hdat⟩
 have l2 : s.heap.objs.size < h2.objs.size := by obtain ⟨o', _, _, ho', _⟩ := d2; exact Heap.lt_size ho'
 refine wpAny_bind (wpAny_pyIter_tuple t2 ?_)
 have k3 : ∀ b u, h2.get? b = some u → (h2.push { cls := .type "tuple_iterator", data := .fields #[.ref ax, .int 0 0] }).get? b = some u := fun b u q => Heap.get?_push_of_some _ q
 have t3 : (h2.push { cls := .type "tuple_iterator", data := .fields #[.ref ax, .int 0 0] }).IsTuple ax items := by obtain ⟨o', e', r⟩ := t2; exact ⟨o', k3 _ _ e', r⟩
 have d3 : (h2.push { cls := .type "tuple_iterator", data := .fields #[.ref ax, .int 0 0] }).DictOf (ZaY prog w) s.heap.objs.size [] := by obtain ⟨o', es, ep, ho', r⟩ := d2; exact ⟨o', es, ep, k3 _ _ ho', r⟩
 refine wpAny_pure ⟨plainId_quiet ZcH _, Zlj (prog := prog) (w := w) (A := A.in1) (ax := ax) (items := items) (ps := ps) hA (Nat.ne_of_lt (Nat.lt_trans hlt l2)) (Nat.ne_of_lt l2) (Nat.ne_of_gt hlt) hl hz items.size 0 _ [] (by omega) (Nat.zero_le _) ⟨_, Heap.get?_push_size _ rfl, rfl, rfl⟩ t3 d3 (Nat.zero_le _) (fun j v q hj hq => ?_) fun h' tk dd' kk' => ?_⟩
 ·obtain ⟨a, o', key, n', ev, ho', r⟩ := hp j v q hj hq
  have hla : a < s.heap.objs.size := Heap.lt_size ho'
  refine ⟨⟨a, o', key, n', ev, k3 _ _ (k2 _ _ (hk1 _ _ ho')), r⟩, fun z => ?_, fun z => ?_⟩
  ·rw [ev] at z; injection z with z; exact absurd hla (by rw [z]; exact Nat.lt_irrefl _)
  ·rw [ev] at z; injection z with z; exact absurd (Nat.lt_trans hla l2) (by rw [z]; exact Nat.lt_irrefl _)
 ·refine ⟨rfl, h h' tk dd' fun b u q => kk' b u (Nat.ne_of_lt (Heap.lt_size q)) (Nat.ne_of_lt (Nat.lt_trans (Heap.lt_size q) l2)) (k3 _ _ (k2 _ _ (hk1 _ _ q)))⟩
end
section
variable {X : Cx}
theorem pairs_at {pins : List (Addr × Obj)} {σ : St} {H : Hp} {s : Shared} {ι : List Addr} (I : Inv X pins σ H s) : ∀ {x : List D} {l : List (Zbj × D)} {vs : List V} {us : List Value}, ZcQ x = some l → Zaa X.K H ι x vs → Vals vs us →
  ∃ (ws : List (Key × V)) (ps : List (Key × Value)), KvR X.K H ι l ws ∧ KV ws ps ∧ ps.length = us.length ∧ ∀ (j : Nat) v q, us[j]? = some v → ps[j]? = some q → Ziz X.prog X.w s.heap v q
 | [], l, vs, us, h, r, v => by
  have e := r.nil_inv; subst e; cases v
  have : l = [] := by simpa [ZcQ] using h.symm
  subst this
  exact ⟨[], [], KvR.nil, .nil, rfl, fun j v q h => by simp at h⟩
 | d :: x, l, vs, us, h, r, v => by
  obtain ⟨u, vs', rfl, r1, r2⟩ := r.cons_inv
  cases v with
  | @cons _ z _ us' rz rzs =>
  cases d with
  | tup ds =>
   match ds, h, r1 with
   | [a, b], h, r1 =>
    simp only [ZcQ] at h
    cases hk : Zfw a with
    | none => simp only [hk] at h; cases h
    | some kk =>
     simp only [hk] at h
     cases hx : ZcQ x with
     | none => rw [hx] at h; cases h
     | some l' =>
      rw [hx] at h
      have : l = (kk, b) :: l' := by simpa using h.symm
      subst this
      obtain ⟨ws, ps, kr, kv, lp, hp⟩ := pairs_at I hx r2 rzs
      obtain ⟨ad, xs, rfl, sq, rr⟩ := r1.tup_inv
      cases (show z = Value.ref ad from rz)
      obtain ⟨ya, ys, rfl, ra, rr⟩ := rr.cons_inv
      obtain ⟨yb, ys, rfl, rb, rr⟩ := rr.cons_inv
      have e := rr.nil_inv; subst e
      obtain ⟨its, rv, ⟨o, ho, hc, n, hd⟩, _⟩ := I.tuple sq
      cases rv with
      | @cons _ u1 _ _ q1 rv =>
      cases rv with
      | @cons _ u2 _ _ q2 rv =>
      cases rv
      refine ⟨(dk kk, yb) :: ws, (dk kk, u2) :: ps, KvR.cons rb kr, .cons ⟨rfl, q2⟩ kv, by simp [lp], fun j v q hj hq => ?_⟩
      cases j with
      | zero =>
       simp at hj hq
       subst hj hq
       exact ⟨ad, o, u1, n, rfl, ho, hc, hd, Zkt (by rw [← Zjg hk ra]; exact q1)⟩
      | succ j => exact hp j v q (by simpa using hj) (by simpa using hq)
   | [], h, _ => simp [ZcQ] at h
   | [_], h, _ => simp [ZcQ] at h
   | _ :: _ :: _ :: _, h, _ => simp [ZcQ] at h
  | _ => simp [ZcQ] at h
theorem ZnC (hc : X.calm = true) : ZbG X (.type "dict") (rB X.K Zfq) := by
 intro pins s σ H xs us Q I rs ⟨ι, M, ds, S, rd, h⟩
 cases ds with
 | nil => exact h.elim
 | cons d ds =>
  cases ds with
  | cons _ _ => cases d <;> exact h.elim
  | nil =>
   obtain ⟨x, rfl, r⟩ := ZeS rd
   obtain ⟨u, rfl, ru⟩ := vals1 rs
   cases d with
   | ref n =>
    cases hn : ZdY M[n]? with
    | none => simp only [Zfq, hn] at h; exact h.elim
    | some kvs =>
     simp only [Zfq, hn] at h
     obtain ⟨a, ha, rfl⟩ := r.ref_inv
     cases ru
     obtain ⟨ws, hw, kr⟩ := ZiN S hn ha
     refine Zkr I hw fun p s' hp I' => ⟨.ref p, _, I', rfl, ?_⟩
     obtain ⟨x2, S2, r2⟩ := S.dct hp kr
     exact h _ _ _ x2 S2 r2
   | tup z =>
    simp only [Zfq] at h
    cases hp : ZcQ z with
    | none => rw [hp] at h; exact h.elim
    | some l =>
     rw [hp] at h
     dsimp only at h
     split at h
     ·rename_i hz
      obtain ⟨a, vs, rfl, sq, rr⟩ := r.tup_inv
      cases ru
      obtain ⟨its, rv, ht, _⟩ := I.tupleN sq
      obtain ⟨ws, ps, kr, kv, lp, hpp⟩ := pairs_at I hp rr rv
      have hl : ps.length = l.length := by rw [← kv.length, kr.length]
      refine ZiC (ps := ps) (I.ok.hd hc) ht (by simpa using lp) (by rw [hl]; exact hz) (fun j v q hj hq => hpp j v q (by simpa using hj) hq) fun h' tk dd kk => ⟨.ref s.heap.objs.size, upd H s.heap.objs.size (.dK (ZfJ [] ws)), ?_, rfl, ?_⟩
      ·have hm := kv.merge (kvs := []) (vs := []) .nil
       refine I.laid kk (Nat.le_refl _) (Zkf ?_ (beq_eq_false_iff_ne.mpr (Ne.symm (Nat.ne_of_lt I.big))) hm dd)
       have h1 := Zer ws []
       rw [List.length_nil] at h1
       rw [sizeLine_eq]
       have := kr.length
       omega
      ·obtain ⟨x2, S2, r2⟩ := S.dct (I.hok.fresh (Nat.le_refl _)) (KvR.merge (kvs := []) (ws := []) kr KvR.nil)
       exact h _ _ _ x2 S2 r2
     ·exact h.elim
   | _ => exact h.elim
end
end L3
namespace L3
open PySem PySem.Spec PyProof.Rows L2
end L3
namespace L3
open PySem PySem.Spec PyProof.Rows L2
section
variable {X : Cx} {o e : Expr} {es : List Expr} {apos cpos : Pos} {f : E3} {gl : EL3}
theorem Zaa.dropLast {K : PySem.W.Frag} {H : Hp} {ι : List Addr} {ds : List D} {vs : List V} (r : Zaa K H ι ds vs) : Zaa K H ι ds.dropLast vs.dropLast := by
 rw [List.dropLast_eq_take, List.dropLast_eq_take, r.length]; exact r.take _
end
end L3
namespace L3
open PySem PySem.Spec PyProof.Rows L2
section
variable {X : Cx} {a b c e o : Expr} {es : List Expr} {pos p apos cpos : Pos} {f g h : E3} {gl : EL3}
end
end L3
namespace L3
open PySem PySem.Spec PyProof.Rows L2
section
variable {X : Cx} {a b c e o : Expr} {es : List Expr} {pos p apos cpos : Pos} {f g h : E3} {gl : EL3}
theorem Zgj : ZbG X (.type "int") (fun xs H Q => ∃ x n, xs = [.str x] ∧ intText? x = some n ∧ x.length ≤ 640 ∧ Q (.int n) H) := by
 intro pins s σ H xs us Q I r h
 obtain ⟨x, n, rfl, hn, hz, q⟩ := h
 obtain ⟨u, rfl, t, rfl⟩ := vals1 r
 exact PySem.W.KIN.call_text hn hz ⟨.int n, H, I.tok _, ⟨_, rfl⟩, q⟩
theorem ZmT : ZbG X (.type "int") (rB X.K Zli) := ZbG.imp (ZbG.or ZoH Zgj) fun xs H Q ⟨ι, M, ds, S, rd, h⟩ => by
 match ds, rd, h with
 | [.str x], rd, h =>
  obtain ⟨v, rfl, r⟩ := ZeS rd
  simp only [Zli] at h
  cases hn : PySem.intText? ⟨x.toArray⟩ with
  | none => rw [hn] at h; exact h.elim
  | some n =>
   rw [hn] at h
   dsimp only at h
   split at h
   ·rename_i hz
    exact .inr ⟨_, n, by rw [r.str_inv], hn, by simpa [Str.length] using hz, Zam.ok h S Rep.int⟩
   ·exact h.elim
 | [], rd, h => exact h.elim
 | [.int i], rd, h => exact .inl ⟨ι, M, _, S, rd, h⟩
 | [.bl i], rd, h => exact .inl ⟨ι, M, _, S, rd, h⟩
 | [.non], rd, h => exact h.elim
 | [.tup _], rd, h => exact h.elim
 | [.scr _], rd, h => exact h.elim
 | [.ref _], rd, h => exact h.elim
 | .str _ :: _ :: _, rd, h => exact h.elim
 | .int _ :: _ :: _, rd, h => exact h.elim
 | .bl _ :: _ :: _, rd, h => exact h.elim
 | .non :: _ :: _, rd, h => exact h.elim
 | .tup _ :: _ :: _, rd, h => exact h.elim
 | .scr _ :: _ :: _, rd, h => exact h.elim
 | .ref _ :: _ :: _, rd, h => exact h.elim
end
end L3
namespace L3
open PySem PySem.Spec PyProof.Rows L2
section
variable {X : Cx} {a b c e o : Expr} {es : List Expr} {pos p p1 p2 p3 pt apos cpos : Pos} {f g h : E3} {gl : EL3}
end
end L3
namespace L3
open PySem PySem.Spec PyProof.Rows L2
section
variable {X : Cx} {tg e : Expr} {pos : Pos} {f : E3} {g : G3}
theorem ZkK (he : C3 X e f) (hg : CG X tg g) (hs : swapsWithSole [tg] e pos.line X.env = pure false := by rfl) (hw : swappedStores [tg] e X.env = pure none := by rfl)
  (h1 : (assignEach [tg] X.env).map (·.2) = [assign tg X.env] := by rfl) : CS X (.Assign [tg] e pos) (Zie f g) := (Zkj he hg hs hw h1).imp fun D σ H ⟨ι, M, env, S, E, h⟩ => by
 refine ⟨ι, M, env, S, E, ?_⟩
 unfold Zie at h
 cases q : f env M with
 | ok d M1 =>
  rw [q] at h
  cases qg : g d env with
  | none => simp only [qg] at h; exact h.elim
  | some env1 =>
   simp only [qg] at h
   exact fun v H1 ι1 x1 S1 r1 => ⟨ι1, M1, env, d, env1, S1, E.mono x1, r1, qg, fun σ' E' => h σ' H1 ι1 x1 S1 E'⟩
 | exc x M1 => rw [q] at h; exact h.elim
 | bad => rw [q] at h; exact h.elim
end
section
variable {X : Cx} {tg e elt : Expr} {ifs : List Expr} {pos : Pos} {f fe : E3} {ts : List E3} {g : G3} {scope : Scope} {N' : List Str} {own : Nat}
end
noncomputable def Zld (K : PySem.W.Frag) (H : Hp) (ι : List Addr) (it : ItL) (J : It) : Prop := ∀ (i : Nat) H2 ι2 M2, Ext K H ι H2 ι2 → Zax K H2 ι2 M2 → Zbp it.lk M2 = true →
 (∀ d, it.items[i]? = some d → J.go i H2 ∧ ∀ x H3, J.yld i H2 x H3 → Ext K H2 ι2 H3 ι2 ∧ Zax K H3 ι2 M2 ∧ Rep K H3 ι2 d x) ∧ (i = it.items.length → J.stop i H2)
noncomputable def Zf8 (K : PySem.W.Frag) (H : Hp) (ι : List Addr) (R : It → Hp → Prop) (r : R3 ItL) : Prop := match r with
 | .ok it M' => ∀ J H' ι', Ext K H ι H' ι' → Zax K H' ι' M' → Zld K H' ι' it J → R J H'
 | _ => False
noncomputable def tIL (K : PySem.W.Frag) (g : IL3) : TI := fun σ H R => ∃ ι M env, Zax K H ι M ∧ ZbF K H ι env σ ∧ Zf8 K H ι R (g env M)
noncomputable def CIL (X : Cx) (tg e : Expr) (g : IL3) : Prop := PI X tg e (tIL X.K g)
theorem Zf8.bind {K : PySem.W.Frag} {H : Hp} {ι : List Addr} {α : Type} {Q : It → Hp → Prop} {r : R3 α} {k : α → Store → R3 ItL} (h : Zf8 K H ι Q (r.bind k)) : ∃ a M, r = .ok a M ∧ Zf8 K H ι Q (k a M) := by
 cases r with
 | ok a M => exact ⟨a, M, rfl, h⟩
 | exc x M => exact h.elim
 | bad => exact h.elim
section
variable {X : Cx} {tg : Expr} {pos : Pos}
theorem Zi1 {iter : Expr} {body : List Stmt} {i : IL3} {g : G3} {u : S3} (hxe : X.xe = fun _ _ => False) (hc : X.calm = true) (hi : CIL X tg iter i) (hg : CG X tg g) (hb : CSs X body u) (hs : ∀ x, foldedSetIterable iter X.env x = pure x := by intro _; rfl) :
  CS X (.For tg iter body [] pos) (Zf9 i g u) := (Zks (by rw [hxe]; exact PassesOwn.never) hc hi hg hb hs).imp fun D σ H ⟨ι, M, env, S, E, h⟩ => by
 unfold Zf9 at h
 cases q : i env M with
 | exc x M1 => rw [q] at h; exact h.elim
 | bad => rw [q] at h; exact h.elim
 | ok it M1 =>
  rw [q] at h
  refine ⟨ι, M, env, S, E, ?_⟩
  rw [q]
  intro J H1 ι1 x1 S1 ok
  refine ⟨fun i m σ2 H2 => m = it.items.length - i ∧ i ≤ it.items.length ∧ ∃ ι2 M2 env2, Ext X.K H1 ι1 H2 ι2 ∧ Zax X.K H2 ι2 M2 ∧ ZbF X.K H2 ι2 env2 σ2 ∧ Zek X.K H2 ι2 D (ZdD it.lk g u (it.items.drop i) env2 M2),
   ⟨_, rfl, Nat.zero_le _, ι1, M1, env, Ext.refl, S1, E.mono x1, Zek.up x1 h⟩, ?_⟩
  rintro i m σ2 H2 ⟨rfl, hi, ι2, M2, env2, x2, S2, E2, h2⟩
  by_cases hlt : i < it.items.length
  ·have hd : it.items[i]? = some it.items[i] := by simp [hlt]
   rw [List.drop_eq_getElem_cons hlt] at h2
   unfold ZdD at h2
   by_cases lk : Zbp it.lk M2 = true
   ·rw [if_pos lk] at h2
    obtain ⟨go, yl⟩ := (ok i H2 ι2 M2 x2 S2 lk).1 _ hd
    cases eg : g it.items[i] env2 with
    | none => rw [eg] at h2; exact h2.elim
    | some env3 =>
     rw [eg] at h2
     refine .inr ⟨go, fun σ' H' => ∃ ι3 M3 env4, Ext X.K H2 ι2 H' ι3 ∧ Zax X.K H' ι3 M3 ∧ ZbF X.K H' ι3 env4 σ' ∧ Zek X.K H' ι3 D (ZdD it.lk g u (it.items.drop (i + 1)) env4 M3),
      fun σ' H' ⟨ι3, M3, env4, x3, S3, E3, h3⟩ => ⟨it.items.length - (i + 1), by omega, rfl, hlt, ι3, M3, env4, x2.trans x3, S3, E3, h3⟩, fun x H' hy => ?_⟩
     obtain ⟨x7, S7, rx⟩ := yl x H' hy
     refine ⟨ι2, M2, env2, _, env3, S7, E2.mono x7, rx, eg, fun σ' E' => ⟨ι2, M2, env3, S7, E', ?_⟩⟩
     have h2' := Zek.up x7 h2
     cases qu : u env3 M2 with
     | nx e' M' => simp only [qu] at h2'; exact fun σ' H' ι' x' S' E' => ⟨ι', M', e', x7.trans x', S', E', h2'.up x'⟩
     | ct e' M' => simp only [qu] at h2'; exact fun σ' H' ι' x' S' E' => ⟨ι', M', e', x7.trans x', S', E', h2'.up x'⟩
     | bk e' M' => simp only [qu] at h2'; exact h2'
     | rt d M' => simp only [qu] at h2'; exact h2'
     | exc x' M' => simp only [qu] at h2'; exact h2'.elim
     | bad => simp only [qu] at h2'; exact h2'.elim
   ·rw [if_neg lk] at h2; exact h2.elim
  ·have e0 : i = it.items.length := by omega
   subst e0
   rw [List.drop_length] at h2
   unfold ZdD at h2
   by_cases lk : Zbp it.lk M2 = true
   ·rw [if_pos lk] at h2
    exact .inl ⟨(ok _ H2 ι2 M2 x2 S2 lk).2 rfl, h2 σ2 H2 ι2 Ext.refl S2 E2⟩
   ·rw [if_neg lk] at h2; exact h2.elim
end
theorem _root_.L2.Inv.turnedL {X : Cx} {pins : List (Addr × Obj)} {σ : St} {H : Hp} {s : Shared} {h' : Heap} {t' : Nat} {fp : List Addr} (I : Inv X pins σ H s) (k : ∀ b o, b ∉ fp → s.heap.get? b = some o → h'.get? b = some o) (hf : ∀ b ∈ fp, ZdC X pins H b) :
  Inv X pins σ H { s with heap := h', toks := t' } := by
 have nit : ∀ b u, H b = some u → b ∉ fp := fun b u e z => by rw [(hf b z).1] at e; cases e
 refine I.step (g' := s.gens) (d' := s.drawn) (ch := fp) (fun b hb => ⟨(hf b hb).2.2.2.1, (hf b hb).2.1, (hf b hb).2.2.2.2.1, (hf b hb).2.2.2.2.2⟩) (fun b o _ _ hc e _ => k b o hc e) (fun b o _ _ hc e _ => ⟨o.slots, k b o hc e⟩) (fun _ _ _ _ n => n)
  (fun b o hc e => ⟨o, k b o hc e⟩) (fun _ _ e => e) (fun _ _ _ e => e) (fun b ps e => ⟨#[], by rw [e]; simp⟩) (fun m hm => ?_) (fun b u e => ?_) I.bare
 ·obtain ⟨o, es, ep, ho, r⟩ := hm
  exact ⟨o, es, ep, k _ o (fun z => (hf _ z).2.1 rfl) ho, r⟩
 ·refine (I.hok b u e).stay (fun c v hc q => k c v ?_ q) (fun _ q => q) fun _ _ q => q
  rcases hc with z | z
  ·rw [z]; exact nit b u e
  ·exact nit c _ z
noncomputable def Ite (S : Hp → List V → Prop) : It := ⟨fun i H => ∃ xs x, S H xs ∧ xs[i]? = some x, fun i H x H' => ∃ T y, x = .ref T ∧ H T = none ∧ H' = upd H T (.tup [.int i, y]) ∧ ∀ xs, S H xs → xs[i]? = some y, fun i H => ∃ xs, S H xs ∧ xs.length ≤ i⟩
theorem ZgS {X : Cx} {pins : List (Addr × Obj)} {σ : St} {H : Hp} {s : Shared} {h' h'' : Heap} {e it : Addr} {i : Nat} {x : V} {u : Value} {tk tk' : Nat} (I : Inv X pins σ H s) (hf : ∀ b ∈ [e, it], ZdC X pins H b) (he : e < s.heap.objs.size) (hi : it < s.heap.objs.size) (ru : RelV x u)
  (hT : h'.get? s.heap.objs.size = some { cls := .type "tuple", data := .seq #[.int i tk, u] }) (hk : ∀ b o, b ≠ e → b ≠ it → s.heap.get? b = some o → h'.get? b = some o) (hs : Heap.SameBut e h' h'') :
  Inv X pins σ (upd H s.heap.objs.size (.tup [.int i, x])) { s with heap := h'', toks := tk' } ∧ ∀ b ∈ [e, it], upd H s.heap.objs.size (.tup [.int i, x]) b = none := by
 have hn : ∀ b ∈ [e, it], upd H s.heap.objs.size (.tup [.int i, x]) b = none := fun b hb => by
  have : b ≠ s.heap.objs.size := by
   simp only [List.mem_cons, List.not_mem_nil, or_false] at hb
   rcases hb with rfl | rfl
   ·exact Nat.ne_of_lt he
   ·exact Nat.ne_of_lt hi
  rw [Za7 this]; exact (hf b hb).1
 refine ⟨?_, hn⟩
 have I1 : Inv X pins σ (upd H s.heap.objs.size (.tup [.int i, x])) { s with heap := s.heap.push { cls := .type "tuple", data := .seq ([.int i tk, u] : List Value).toArray }, toks := s.toks } :=
  I.laid (t' := s.toks) (fun b o e => Heap.get?_push_of_some _ e) (Nat.le_refl _) (show ZbH X.prog X.w _ _ _ (.tup [.int i, x]) from ⟨by rw [sizeLine_eq]; show 2 ≤ _; decide, [.int i tk, u], .cons ⟨tk, rfl⟩ (.cons ru .nil), Zc6.new _ _⟩)
 have I3 := I1.turnedL (t' := tk') (h' := h'') (fp := [e, it]) (fun b o hb q => by
  have hbe : b ≠ e := fun z => hb (by simp [z])
  have hbi : b ≠ it := fun z => hb (by simp [z])
  rcases Heap.get?_push_cases q with ⟨rfl, rfl⟩ | q
  ·exact (hs.2 _ (Nat.ne_of_gt he)).trans hT
  ·exact (hs.2 _ hbe).trans (hk b o hbe hbi q)) fun b hb => ⟨hn b hb, (hf b hb).2⟩
 exact I3
theorem ZiB {P : Program} {w : World} {K : PySem.W.Frag} {es : List Expr} {k : Nat} {pos : Pos} (a e it : Addr) (hne : e ≠ it) :
  Turn P w K (.Tuple es k pos) (Ite fun H xs => SqL K H a xs) [e, it] e (fun i h => (∃ old, IsEnum h e it i old) ∧ h.IsListIter it a i) where
 mem := by simp
 obj := fun i h st b hb => by
  obtain ⟨⟨old, he⟩, o, ho, c, d⟩ := st
  simp only [List.mem_cons, List.not_mem_nil, or_false] at hb
  rcases hb with rfl | rfl
  ·exact ⟨_, he, fun v z => by cases z⟩
  ·exact ⟨o, ho, fun v z => by rw [d] at z; cases z⟩
 keep := fun i h h' st k => by
  obtain ⟨⟨old, he⟩, hit⟩ := st
  exact ⟨⟨old, k e (by simp) _ he⟩, hit.at fun o q => k it (by simp) o q⟩
 item := by
  intro X hP hw hK hc i pins s σ H E I hf st hg
  subst hP hw hK
  obtain ⟨xs, x, hq, hx⟩ := hg
  obtain ⟨its, rv, p, hz⟩ := I.list hq
  obtain ⟨u, hu, ru⟩ := rv.get hx
  obtain ⟨⟨old, he⟩, hit⟩ := st
  have hel := Heap.lt_size he
  have hil : it < s.heap.objs.size := by obtain ⟨o, ho, _⟩ := id hit; exact Heap.lt_size ho
  refine wpAny_pyNext_enum_item he hit p.isList (x := u) (by simpa using hu) hne fun h' ho hit' hT hsz hk => ?_
  refine ⟨_, rfl, wpAny_letOwnedTupleGo_enum (s := { s with heap := h', toks := s.toks + 1 }) ho fun h'' he'' hs'' => ?_⟩
  obtain ⟨I2, n2⟩ := ZgS (x := x) (tk' := s.toks + 1) I hf hel hil ru hT hk hs''
  exact ⟨.ref s.heap.objs.size, _, I2, rfl, ⟨_, x, rfl, I.hok.fresh (Nat.le_refl _), rfl, fun ys hy => by rw [I.list_inj hy hq]; exact hx⟩, ⟨⟨_, by simpa using he''⟩, hit'.extBut hs''.extBut (Ne.symm hne)⟩, n2⟩
 done := by
  intro X hP hw hK hc i pins s σ H E I hf st hg
  subst hP hw hK
  obtain ⟨xs, hq, hx⟩ := hg
  obtain ⟨its, rv, p, hz⟩ := I.list hq
  obtain ⟨⟨old, he⟩, hit⟩ := st
  have hl := rv.length
  exact wpAny_pyNext_enum_end (I.ok.hd hc) he hit p.isList (by simp; omega) fun h' eb => ⟨rfl, I.turnedL (t' := s.toks) (fun b o hb q => eb b o (fun z => hb (by simp [z])) q) hf⟩
 self := fun _ _ _ _ _ st h => by
  obtain ⟨⟨old, he⟩, _⟩ := st
  exact wpAny_pyIter_enum he h
theorem boot_enumerate : bootBuiltins "enumerate" = some (.type "enumerate") := by decide +kernel
end L3
namespace L3
open PySem PySem.Spec PyProof.Rows L2
open AutoSeq1 (wpAny_loadPart')
set_option maxRecDepth 100000
section
variable {prog : Program} {w : World} {A : Around} {E : Value → Shared → Prop} {s : Shared}
theorem ZeZ {it t : Addr} {i : Nat} {items : Array Value} {x : Value} {Q : Value → Shared → Prop} (hit : s.heap.IsTupleIter it t i) (ht : s.heap.IsTuple t items) (hx : items[i]? = some x)
  (hQ : ∀ h', h'.IsTupleIter it t (i + 1) → Heap.SameBut it s.heap h' → Q x { s with heap := h' }) : wpAny (model prog w) A (Builtin.SmallTypes.nextOf (.ref it)) Q E s := by
 obtain ⟨o, ho, hc, hd⟩ := id hit
 obtain ⟨ol, hol, _, nl, hdl⟩ := ht
 unfold Builtin.SmallTypes.nextOf
 refine wpAny_bind (wpAny_callSpecial?_slot (name := Str.ofString "__next__") hit.typeIs slot_tupleiter_next
  (wpAny_call_entry slot_tupleiter_next hit.typeIs entry_tupleiter_next ?_ (args_tupleiter_next _)))
 show wpAny _ _ (field (.ref it) 0 >>= _) _ _ s
 refine wpAny_bind (wpAny_field ho hd (x := .ref t) rfl ?_)
 show wpAny _ _ (if (Value.ref t == Value.none) = true then _ else _) _ _ s
 rw [if_neg (show ¬ ((Value.ref t == Value.none) = true) from Bool.false_ne_true)]
 show wpAny _ _ (field (.ref it) 1 >>= _) _ _ s
 refine wpAny_bind (wpAny_field ho hd (x := .int i 0) rfl ?_)
 show wpAny _ _ (seqItems? (.ref t) >>= _) _ _ s
 refine wpAny_bind (wpAny_seqItems hol hdl ?_)
 simp only [Int.toNat_natCast, hx]
 refine wpAny_bind (wpAny_setField ho hd (by simp) (wpAny_pure ⟨x, rfl, wpAny_pure (hQ _ ?_ (Heap.SameBut.update ..))⟩))
 exact ⟨_, Heap.get?_update_self _ ho (Obj.isFreed_of_fields (Obj.data_mapFields hd _)), (Obj.cls_mapFields ..).trans hc, by
  rw [Obj.data_mapFields hd]; simp [rawInt]⟩
theorem ZdN {it t : Addr} {i : Nat} {items : Array Value} {Q : Value → Shared → Prop} (hh : A.handled = none) (hit : s.heap.IsTupleIter it t i) (ht : s.heap.IsTuple t items) (hx : items[i]? = none)
  (hE : ∀ h' e, Heap.ExtBut it s.heap h' → (∃ o, h'.get? e = some o ∧ o.cls = .type "StopIteration") → E (.ref e) { s with heap := h' }) : wpAny (model prog w) A (Builtin.SmallTypes.nextOf (.ref it)) Q E s := by
 obtain ⟨o, ho, hc, hd⟩ := id hit
 obtain ⟨ol, hol, _, nl, hdl⟩ := ht
 unfold Builtin.SmallTypes.nextOf
 refine wpAny_bind (wpAny_callSpecial?_slot (name := Str.ofString "__next__") hit.typeIs slot_tupleiter_next
  (wpAny_call_entry slot_tupleiter_next hit.typeIs entry_tupleiter_next ?_ (args_tupleiter_next _)))
 show wpAny _ _ (field (.ref it) 0 >>= _) _ _ s
 refine wpAny_bind (wpAny_field ho hd (x := .ref t) rfl ?_)
 show wpAny _ _ (if (Value.ref t == Value.none) = true then _ else _) _ _ s
 rw [if_neg (show ¬ ((Value.ref t == Value.none) = true) from Bool.false_ne_true)]
 show wpAny _ _ (field (.ref it) 1 >>= _) _ _ s
 refine wpAny_bind (wpAny_field ho hd (x := .int i 0) rfl ?_)
 show wpAny _ _ (seqItems? (.ref t) >>= _) _ _ s
 refine wpAny_bind (wpAny_seqItems hol hdl ?_)
 simp only [Int.toNat_natCast, hx]
 refine wpAny_bind (wpAny_rule (wpAny_bind (wpAny_setField ho hd (by simp) ?_)))
 show wpAny _ _ (newExc (.type "StopIteration") [] >>= _) _ _ _
 refine wpAny_bind ?_
 simp only [newExc, newTuple]
 refine wpAny_bind (wpAny_newObj_type ?_ (by size_fits))
 refine wpAny_bind (m := firstArgMember _ _) (wpAny_of_eq (a := Value.none) (by first | rfl | (simp only [firstArgMember]; rfl)) ?_)
 refine wpAny_newObj_type ?_ (by size_fits)
 simp only [raiseNew]
 refine wpAny_bind (wpAny_handled ?_)
 first | rw [show A.in1.handled = none from hh] | rw [hh]
 refine wpAny_bind (wpAny_pure (wpAny_throw ?_))
 exact hE _ _ (((Heap.SameBut.update ..).extBut.push _).push _) ⟨_, Heap.get?_push_size _ rfl, rfl⟩
end
theorem ZhQ {prog : Program} {w : World} {A : Around} (hh : A.handled = none) (it l : Addr) (hne : l ≠ it) (items : Array Value) :
  Draws prog w A it [it, l] items.size (fun i v => items[i]? = some v) (fun i h => h.IsTupleIter it l i ∧ h.IsTuple l items) where
 live := fun _ _ st => let ⟨o, ho, _⟩ := st.1; ⟨o, ho⟩
 frame := fun _ _ _ st hk => ⟨st.1.at fun o e => hk it (by simp) o e, st.2.at fun o e => hk l (by simp) o e⟩
 item := fun i s Q E hi st hQ => by
  refine ZeZ st.1 st.2 (x := items[i]) (by simp [hi]) fun h' hit' hs' => ?_
  exact hQ _ h' s.toks (by simp [hi]) ⟨hit', st.2.extBut hs'.extBut hne⟩ hs'
 done := fun s Q E st hE => ZdN hh st.1 st.2 (by simp) hE
theorem Zeb (l : Addr) (items : Array Value) (n : Nat) (dct : Option Addr) (sl : Array (Option Value)) :
  Meets (Builtin.«enumerate.__new__» ⟨[.type "enumerate", .ref l], []⟩) (fun _ R s => s.heap.get? l = some { cls := .type "tuple", dict := dct, data := .seq items n, slots := sl } ∧
   R (.ok (.ret (.ref (s.heap.push { cls := .type "tuple_iterator", data := .fields #[.ref l, .int 0 0] }).objs.size)))
    { s with heap := (s.heap.push { cls := .type "tuple_iterator", data := .fields #[.ref l, .int 0 0] }).push { cls := .type "enumerate", data := .fields #[.none, .bool false, .ref s.heap.objs.size, rawInt 0, .none, .none] } }) :=
 .of_wp fun prog w A R s h => by
  obtain ⟨hp, g, d, tk, os⟩ := s; obtain ⟨hl, h⟩ := h
  have hsub := sub_enumerate
  have hL : Heap.IsTuple (Shared.heap ⟨hp, g, d, tk, os⟩) l items := ⟨_, hl, rfl, n, rfl⟩
  wp_walk using wpAny_loadPart' hl
  refine wpAny_stack_any fun st => wpAny_pure ?_
  split
  ·rename_i c _ _ _ _ _
   cases (c == Value.type "enumerate")
   ·wp_walk using wpAny_loadPart' hl, wpAny_pyIter_tuple hL
    exact ⟨_, rfl, h⟩
   ·wp_walk using wpAny_loadPart' hl, wpAny_pyIter_tuple hL
    exact ⟨_, rfl, h⟩
  ·wp_walk using wpAny_loadPart' hl, wpAny_pyIter_tuple hL
   exact ⟨_, rfl, h⟩
theorem Zef {prog : Program} {w : World} {A : Around} {E : Value → Shared → Prop} {s : Shared} {l : Addr} {items : Array Value} {Q : Value → Shared → Prop} (hL : s.heap.IsTuple l items)
  (h : ∀ h', IsEnum h' (s.heap.objs.size + 1) s.heap.objs.size 0 .none → h'.IsTupleIter s.heap.objs.size l 0 → h'.objs.size = s.heap.objs.size + 2 →
   (∀ b o, s.heap.get? b = some o → h'.get? b = some o) → Q (.ref (s.heap.objs.size + 1)) { s with heap := h' }) :
  wpAny (model prog w) A (call (.type "enumerate") [.ref l]) Q E s := by
 obtain ⟨⟨c, dct, dt, sl⟩, hl, hc, n, hd⟩ := hL
 replace hc : c = .type "tuple" := hc
 replace hd : dt = .seq items n := hd
 subst hc hd
 refine callType_new F.called_enumerate (by decide) (F.typeCall_enumerate_1 _) (F.newCall_enumerate_1 _) (fun obj => F.args_object_init_2 obj _) F.entry_enumerate_new
  (Zeb l items n dct sl) ⟨hl, ?_⟩
 have hz : (s.heap.push { cls := .type "tuple_iterator", data := .fields #[.ref l, .int 0 0] }).objs.size = s.heap.objs.size + 1 := Heap.size_push ..
 show _ ∧ _
 rw [hz]
 have he : IsEnum ((s.heap.push { cls := .type "tuple_iterator", data := .fields #[.ref l, .int 0 0] }).push
   { cls := .type "enumerate", data := .fields #[.none, .bool false, .ref s.heap.objs.size, rawInt 0, .none, .none] }) (s.heap.objs.size + 1) s.heap.objs.size 0 .none := by
  have := Heap.get?_push_size (s.heap.push { cls := .type "tuple_iterator", data := .fields #[.ref l, .int 0 0] })
   (o := { cls := .type "enumerate", data := .fields #[.none, .bool false, .ref s.heap.objs.size, rawInt 0, .none, .none] }) rfl
  rw [hz] at this; exact this
 refine ⟨⟨_, he, rfl⟩, h _ he ⟨_, Heap.get?_push_of_some _ (Heap.get?_push_size _ rfl), rfl, rfl⟩ (by rw [Heap.size_push, hz]) fun b o x => Heap.get?_push_of_some _ (Heap.get?_push_of_some _ x)⟩
theorem ZiD {P : Program} {w : World} {K : PySem.W.Frag} {es : List Expr} {k : Nat} {pos : Pos} (a e it : Addr) (hne : e ≠ it) :
  Turn P w K (.Tuple es k pos) (Ite fun H xs => SqT K H a xs) [e, it] e (fun i h => (∃ old, IsEnum h e it i old) ∧ h.IsTupleIter it a i) where
 mem := by simp
 obj := fun i h st b hb => by
  obtain ⟨⟨old, he⟩, o, ho, c, d⟩ := st
  simp only [List.mem_cons, List.not_mem_nil, or_false] at hb
  rcases hb with rfl | rfl
  ·exact ⟨_, he, fun v z => by cases z⟩
  ·exact ⟨o, ho, fun v z => by rw [d] at z; cases z⟩
 keep := fun i h h' st k => by
  obtain ⟨⟨old, he⟩, hit⟩ := st
  exact ⟨⟨old, k e (by simp) _ he⟩, hit.at fun o q => k it (by simp) o q⟩
 item := by
  intro X hP hw hK hc i pins s σ H E I hf st hg
  subst hP hw hK
  obtain ⟨xs, x, hq, hx⟩ := hg
  obtain ⟨its, rv, p, hz⟩ := I.tuple hq
  obtain ⟨u, hu, ru⟩ := rv.get hx
  obtain ⟨⟨old, he⟩, hit⟩ := st
  have hel := Heap.lt_size he
  have hil : it < s.heap.objs.size := by obtain ⟨o, ho, _⟩ := id hit; exact Heap.lt_size ho
  have pt : s.heap.IsTuple a its.toArray := p
  have hae : e ≠ a := by
   rintro rfl
   obtain ⟨o, ho, hc, _⟩ := pt
   rw [he] at ho; cases ho
   exact absurd hc (by simp)
  have hai : a ≠ it := by
   rintro rfl
   obtain ⟨o, ho, hc, _⟩ := pt
   obtain ⟨o', ho', hc', _⟩ := hit
   rw [ho'] at ho; cases ho
   rw [hc'] at hc
   exact absurd hc (by simp)
  have D := ZhQ (prog := X.prog) (w := X.w) (A := X.A.in1) (I.ok.hd hc) it a hai its.toArray
  refine wpAny_pyNext_enum_itemD D he ⟨hit, pt⟩ (by simpa using (List.getElem?_eq_some_iff.mp hu).1) hne (by simp [hne, hae]) fun y h' tk hy ho hst hT hsz hk => ?_
  have ey : y = u := by
   have : its.toArray[i]? = some u := by simpa using hu
   rw [this] at hy; cases hy; rfl
  subst ey
  refine ⟨_, rfl, wpAny_letOwnedTupleGo_enum (s := { s with heap := h', toks := tk + 1 }) ho fun h'' he'' hs'' => ?_⟩
  obtain ⟨I2, n2⟩ := ZgS (x := x) (tk' := tk + 1) I hf hel hil ru hT hk hs''
  exact ⟨.ref s.heap.objs.size, _, I2, rfl, ⟨_, x, rfl, I.hok.fresh (Nat.le_refl _), rfl, fun ys hy => by rw [I.tuple_inj hy hq]; exact hx⟩, ⟨⟨_, by simpa using he''⟩, hst.1.extBut hs''.extBut (Ne.symm hne)⟩, n2⟩
 done := by
  intro X hP hw hK hc i pins s σ H E I hf st hg
  subst hP hw hK
  obtain ⟨xs, hq, hx⟩ := hg
  obtain ⟨its, rv, p, hz⟩ := I.tuple hq
  obtain ⟨⟨old, he⟩, hit⟩ := st
  have hl := rv.length
  have pt : s.heap.IsTuple a its.toArray := p
  have hT : s.TypeIs (.ref e) "enumerate" := ⟨_, he, rfl⟩
  unfold pyNext
  refine wpAny_bind (wpAny_attempt (wpAny_callSpecial?_slot (name := Str.ofString "__next__") hT F.slot_enumerate_next
   (wpAny_call_entry F.slot_enumerate_next hT F.entry_enumerate_next ?_ (F.args_enumerate_next_1 _))))
  show wpAny _ _ (field (.ref e) 2 >>= _) _ _ _
  refine wpAny_bind (wpAny_field he rfl (x := .ref it) rfl ?_)
  refine wpAny_bind (ZdN (I.ok.hd hc) hit pt (by simp; omega) fun h' x he' hx' => ?_)
  obtain ⟨o, ho, hc⟩ := hx'
  refine wpAny_bind (wpAny_isInstance (T := "StopIteration") (b := true) ⟨o, ho, hc⟩ isSubtype_stop ?_)
  exact wpAny_pure ⟨rfl, I.turnedL (t' := s.toks) (fun b o hb q => he' b o (fun z => hb (by simp [z])) q) hf⟩
 self := fun _ _ _ _ _ st h => by
  obtain ⟨⟨old, he⟩, _⟩ := st
  exact wpAny_pyIter_enum he h
section
variable {X : Cx} {es : List Expr} {k : Nat} {a : Expr} {p pos tpos : Pos} {f : E3}
noncomputable def Zny (K : PySem.W.Frag) (ta : TA) : TI := fun σ H R => ta σ H fun vs H1 => ∃ b, vs = [.ref b] ∧ ((∃ xs, SqL K H1 b xs ∧ R (Ite fun H xs => SqL K H b xs) H1) ∨ ∃ xs, SqT K H1 b xs ∧ R (Ite fun H xs => SqT K H b xs) H1)
theorem ZlJ {ta : TA} (hg : Gl X "enumerate") (hm : X.mg "enumerate" = none) (ha : PA X [a] ta) (hs : starEach [a] X.env = [(false, eval a X.env)] := by rfl) : PI X (.Tuple es k tpos) (.Call (.Name "enumerate" p) [a] [] pos) (Zny X.K ta) := by
 intro pins s σ H R I h
 refine Call_ (ZeB I hg hm boot_enumerate (PyProof.Rows.callWith_type1 (thn (ha pos pins s σ H _ I h) fun us s1 ⟨vs, H1, I1, r1, q1⟩ => ?_) hs rfl))
 obtain ⟨b, e, q⟩ := q1
 subst e
 cases r1 with
 | cons r rr =>
  cases rr
  cases r
  have fp : ∀ {h' : Heap} {s2 : Shared}, ∀ c ∈ [s1.heap.objs.size + 1, s1.heap.objs.size], ZdC X pins H1 c := fun {h' s2} c hc => by
   have hc' : s1.heap.objs.size ≤ c := by
    simp only [List.mem_cons, List.not_mem_nil, or_false] at hc
    rcases hc with rfl | rfl <;> omega
   exact I1.fpOk hc' (I1.hok.fresh hc')
  rcases q with ⟨xs, hq, q⟩ | ⟨xs, hq, q⟩
  ·obtain ⟨its, rv, pl, hz⟩ := I1.list hq
   refine call_enumerate_list pl.isList fun h' hE hI hsz hk => ?_
   have I2 : Inv X pins σ H1 { s1 with heap := h' } := I1.kept (t' := s1.toks) hk
   exact wpAny_pyIter_enum (s := { s1 with heap := h' }) hE ⟨_, [s1.heap.objs.size + 1, s1.heap.objs.size], _, _, H1, rfl, I2, ZiB b _ _ (Nat.succ_ne_self _), ⟨⟨_, hE⟩, hI⟩, fp (h' := h') (s2 := s1), q⟩
  ·obtain ⟨its, rv, pl, hz⟩ := I1.tuple hq
   refine Zef (show s1.heap.IsTuple b its.toArray from pl) fun h' hE hI hsz hk => ?_
   have I2 : Inv X pins σ H1 { s1 with heap := h' } := I1.kept (t' := s1.toks) hk
   exact wpAny_pyIter_enum (s := { s1 with heap := h' }) hE ⟨_, [s1.heap.objs.size + 1, s1.heap.objs.size], _, _, H1, rfl, I2, ZiD b _ _ (Nat.succ_ne_self _), ⟨⟨_, hE⟩, hI⟩, fp (h' := h') (s2 := s1), q⟩
theorem Zi7 (hm : X.mg "enumerate" = none) (h : C3 X a f) (hg : Gl X "enumerate" := by rfl) (hs : starEach [a] X.env = [(false, eval a X.env)] := by rfl) (hs' : starEach (a :: []) X.env = (false, eval a X.env) :: starEach [] X.env := by rfl) : CIL X (.Tuple es k tpos) (.Call (.Name "enumerate" p) [a] [] pos) (ZhV f) :=
 PI.imp (ZlJ hg hm (Zc h Zk hs') hs) fun σ H R ⟨ι, M, env, S, E, h⟩ => by
  obtain ⟨d, M1, e1, h⟩ := Zf8.bind h
  refine ⟨ι, M, env, S, E, ?_⟩
  have e2 : Za f Zg env M = .ok [d] M1 := by unfold Za; rw [e1]; rfl
  rw [e2]
  intro vs H1 ι1 x1 S1 r1
  obtain ⟨v, ws, rfl, r, q⟩ := r1.cons_inv
  have := q.nil_inv
  subst this
  cases d with
  | tup ds =>
   obtain ⟨b, vs, rfl, s, r⟩ := r.tup_inv
   refine ⟨b, rfl, .inr ⟨vs, s, h _ H1 ι1 x1 S1 ?_⟩⟩
   intro i H2 ι2 M2 x S2 _
   refine ⟨fun d hd => ?_, fun hl => ⟨vs, x.tup _ _ s, by rw [r.length, hl, Zfd]; exact Nat.le_refl _⟩⟩
   rw [Zff] at hd
   cases hq : ds[i]? with
   | none => rw [hq] at hd; cases hd
   | some d0 =>
    rw [hq] at hd
    simp only [Option.map_some, Nat.zero_add, Option.some.injEq] at hd
    subst hd
    obtain ⟨v, hv, rv⟩ := r.get hq
    refine ⟨⟨vs, v, x.tup _ _ s, hv⟩, fun y H3 hy => ?_⟩
    obtain ⟨T, y', rfl, hT, rfl, hall⟩ := hy
    have e := hall vs (x.tup _ _ s)
    rw [hv] at e
    cases e
    exact S2.tupl hT (Zaa.cons Rep.int (Zaa.cons (rv.mono x) Zaa.nil))
  | ref n =>
   cases hm : M1[n]? with
   | none => simp only [hm] at h; exact h.elim
   | some o =>
    cases o with
    | dct kvs => simp only [hm] at h; exact h.elim
    | fdct kvs => simp only [hm] at h; exact h.elim
    | lst ds =>
     simp only [hm] at h
     obtain ⟨b, ha, rfl⟩ := r.ref_inv
     obtain ⟨vs, q, r⟩ := S1.obj n _ b hm ha
     refine ⟨b, rfl, .inl ⟨vs, SqL.of q, h _ H1 ι1 x1 S1 ?_⟩⟩
     intro i H2 ι2 M2 x S2 lk
     have lk' : M2[n]? = some (.lst ds) := by simpa [Zbp] using lk
     obtain ⟨vs2, q2, r2⟩ := S2.obj n _ b lk' (x.pre _ _ ha)
     refine ⟨fun d hd => ?_, fun hl => ⟨vs2, SqL.of q2, by rw [r2.length, hl, Zfd]; exact Nat.le_refl _⟩⟩
     rw [Zff] at hd
     cases hq : ds[i]? with
     | none => rw [hq] at hd; cases hd
     | some d0 =>
      rw [hq] at hd
      simp only [Option.map_some, Nat.zero_add, Option.some.injEq] at hd
      subst hd
      obtain ⟨v, hv, rv⟩ := r2.get hq
      refine ⟨⟨vs2, v, SqL.of q2, hv⟩, fun y H3 hy => ?_⟩
      obtain ⟨T, y', rfl, hT, rfl, hall⟩ := hy
      have e := hall vs2 (SqL.of q2)
      rw [hv] at e
      cases e
      exact S2.tupl hT (Zaa.cons Rep.int (Zaa.cons rv Zaa.nil))
  | _ => exact h.elim
end
end L3
namespace L3
open PySem PySem.Spec PyProof.Rows L2
open AutoSeq1 (wpAny_loadPart')
open PySem.SeqAt MeetsSeq
set_option maxRecDepth 100000
theorem ZjG (l b : Addr) (i j k m : Int) (t1 t2 t3 t4 : Tok) (n n2 : Nat) (dd dd2 : Option Addr) (sl sl2 : Array (Option Value)) :
  Meets (Builtin.«tuple.__le__» ⟨[.ref l, .ref b], []⟩)
   (fun A R s => s.heap.get? l = some { cls := .type "tuple", dict := dd, data := .seq #[.int i t1, .int j t2] n, slots := sl } ∧ s.heap.get? b = some { cls := .type "tuple", dict := dd2, data := .seq #[.int k t3, .int m t4] n2, slots := sl2 } ∧
    R (.ok (.ret (.bool (decide (i < k) || (decide (i = k) && decide (j ≤ m)))))) s) :=
 .of_wp fun prog w A R s h => by
  obtain ⟨hp, g, d, tk, os⟩ := s; obtain ⟨hl, hb, h⟩ := h
  have f2 := AutoSeq1.sub_tuple_tuple
  wp_walk using wpAny_loadPart' hl, wpAny_loadPart' hb, wpAny_forIn_list _ (fun rest b s' => b.1 = none ∧ s' = ⟨hp, g, d, tk, os⟩ ∧ ((rest = [(.int i t1, .int k t3), (.int j t2, .int m t4)]) ∨ (i = k ∧ rest = [(.int j t2, .int m t4)]) ∨ (i = k ∧ j = m ∧ rest = []))) _
  case turn =>
   rintro ⟨y, x⟩ rest b s' ⟨hb', rfl, hz⟩
   rcases hz with hz | ⟨rfl, hz⟩ | ⟨_, _, hz⟩
   ·cases hz
    refine wpAny_bind (EqAt.int_int i t1 k t3 prog w _ _ ?_)
    by_cases e : i = k
    ·subst e
     rw [beq_self_eq_true]
     wp_walk
     exact ⟨rfl, rfl, .inr (.inl ⟨rfl, rfl⟩)⟩
    ·rw [beq_eq_false_iff_ne.mpr e]
     rw [if_pos (by rfl)]
     show wpAny _ _ (do rule "tuple.compare.by-the-first-pair-that-differs"; let r ← richCompare .LtE _ _; let r ← ret r; pure (ForInStep.done (some r, ()))) _ _ _
     refine wpAny_bind (wpAny_rule (wpAny_bind (show wpAny _ _ (compareOp .LtE _ _) _ _ _ from PyProof.Rows.le_int ?_)))
     wp_walk
     refine ⟨_, rfl, ?_⟩
     have : decide (i ≤ k) = (decide (i < k) || decide (i = k) && decide (j ≤ m)) := by
      by_cases q : i < k
      ·simp [q, Int.le_of_lt q]
      ·have : ¬ i ≤ k := by omega
       simp [q, e, this]
     rw [this]; exact h
   ·cases hz
    refine wpAny_bind (EqAt.int_int j t2 m t4 prog w _ _ ?_)
    by_cases e : j = m
    ·subst e
     rw [beq_self_eq_true]
     wp_walk
     exact ⟨rfl, rfl, .inr (.inr ⟨rfl, rfl, rfl⟩)⟩
    ·rw [beq_eq_false_iff_ne.mpr e]
     rw [if_pos (by rfl)]
     show wpAny _ _ (do rule "tuple.compare.by-the-first-pair-that-differs"; let r ← richCompare .LtE _ _; let r ← ret r; pure (ForInStep.done (some r, ()))) _ _ _
     refine wpAny_bind (wpAny_rule (wpAny_bind (show wpAny _ _ (compareOp .LtE _ _) _ _ _ from PyProof.Rows.le_int ?_)))
     wp_walk
     exact ⟨_, rfl, by simpa using h⟩
   ·cases hz
  case fin =>
   rintro ⟨b1, b2⟩ s' ⟨hb', rfl, hz⟩
   simp only at hb'
   subst hb'
   rcases hz with hz | ⟨rfl, hz⟩ | ⟨rfl, rfl, hz⟩
   ·cases hz
   ·cases hz
   ·wp_walk
    exact ⟨_, rfl, by simpa [Builtin.Tuple.tupleCompareSizes] using h⟩
  case h =>
   exact ⟨rfl, rfl, .inl rfl⟩
theorem ZiY {K : PySem.W.Frag} {H : Hp} {ι : List Addr} {i j : Int} {vs : List V} {its : List Value} (r : Zaa K H ι [.int i, .int j] vs) (rv : Vals vs its) : ∃ t1 t2, its = [.int i t1, .int j t2] := by
 obtain ⟨v1, vs1, rfl, q1, r⟩ := r.cons_inv
 obtain ⟨v2, vs2, rfl, q2, r⟩ := r.cons_inv
 have := r.nil_inv
 subst this
 have e1 := q1.int_inv
 have e2 := q2.int_inv
 subst e1 e2
 cases rv with
 | cons a rv =>
  cases rv with
  | cons b rv =>
   cases rv
   obtain ⟨t1, rfl⟩ := a
   obtain ⟨t2, rfl⟩ := b
   exact ⟨t1, t2, rfl⟩
theorem Zoq {X : Cx} (hu : X.A.units + 80 < cLine) : OpR X (compareOp .LtE) (r2 X.K ZiV) := by
 intro pins s σ H x y v u Q I rx ry ⟨ι, M, a, b, S, ra, rb, h⟩
 unfold ZiV at h
 split at h
 ·rename_i i j k l
  obtain ⟨p, vs, rfl, s1, r1⟩ := ra.tup_inv
  cases rx
  obtain ⟨p', ws, rfl, s2, r2⟩ := rb.tup_inv
  cases ry
  obtain ⟨its, rvs, ht, _⟩ := I.tuple s1
  obtain ⟨its2, rws, ht2, _⟩ := I.tuple s2
  obtain ⟨t1, t2, rfl⟩ := ZiY r1 rvs
  obtain ⟨t3, t4, rfl⟩ := ZiY r2 rws
  obtain ⟨⟨cls, dd, data, sl⟩, ho, hc, n, hd⟩ := ht
  obtain ⟨⟨cls2, dd2, data2, sl2⟩, ho2, hc2, n2, hd2⟩ := ht2
  simp only at hc hd hc2 hd2
  subst hc hd hc2 hd2
  exact richCompare_meets_room (op := .LtE) ⟨_, ho, rfl⟩ ⟨_, ho2, rfl⟩ F.slot_tuple_le F.entry_tuple_le (F.args_tuple_le_2 _ _) (ZjG p p' i j k l t1 t2 t3 t4 n n2 dd dd2 sl sl2)
   ⟨ho, ho2, show Value.bool _ ≠ Value.notImplemented ∧ EP X pins σ Q (.bool _) s from ⟨(fun x => nomatch x), ⟨.bl _, H, I, rfl, h _ H ι Ext.refl S Rep.bl⟩⟩⟩ (by omega)
 ·exact h.elim
end L3
namespace L3
open PySem PySem.Spec PyProof.Rows L2
section
variable {X : Cx} {o i p j e : Expr} {pos : Pos} {f g h fo fi fp fj : E3}
end
end L3
namespace L3
open PySem PySem.Spec PyProof.Rows L2
section
variable {X : Cx}
noncomputable def ofV : Value → D
 | .int i _ => .int i
 | .bool b => .bl b
 | .str x _ => .str x.cps.toList
 | _ => .non
theorem ZiW {K : PySem.W.Frag} {H : Hp} {ι : List Addr} {d : D} {v : V} {y : Value} (hf : Zas d = true) (r : Rep K H ι d v) (rv : RelV v y) : ofV y = d := by
 cases d with
 | non => have := r.non_inv; subst this; cases rv; rfl
 | bl b => have := r.bl_inv; subst this; cases rv; rfl
 | int i => have := r.int_inv; subst this; obtain ⟨t, rfl⟩ := rv; rfl
 | str x => have := r.str_inv; subst this; obtain ⟨t, rfl⟩ := rv; rfl
 | _ => simp [Zas] at hf
theorem Zi6 {K : PySem.W.Frag} {H : Hp} {ι : List Addr} {a : D} : ∀ {ds : List D} {vs : List V} {its : List Value}, Zaa K H ι ds vs → Vals vs its → ds.all Zas = true → (ds.any fun y => deq y a) = its.any fun y => deq (ofV y) a
 | [], vs, its, r, rv, _ => by
  have := r.nil_inv
  subst this
  cases rv
  rfl
 | d :: ds, vs, its, r, rv, hf => by
  obtain ⟨v, ws, rfl, r1, r2⟩ := r.cons_inv
  cases rv with
  | cons q rv =>
   simp only [List.all_cons, Bool.and_eq_true] at hf
   simp only [List.any_cons, Zi6 r2 rv hf.2, ZiW hf.1 r1 q]
theorem Zmg : OpR X (compareOp .In) (r2 X.K ZgW) := by
 intro pins s σ H x y v u Q I rx ry ⟨ι, M, a, b, S, ra, rb, h⟩
 unfold ZgW at h
 cases b with
 | ref n =>
  cases hn : M[n]? with
  | none => simp only [hn] at h; exact h.elim
  | some ob =>
   cases ob with
   | dct _ => simp only [hn] at h; exact h.elim
   | fdct _ => simp only [hn] at h; exact h.elim
   | lst ds =>
    simp only [hn] at h
    by_cases hf : (Zas a && ds.all Zas) = true
    ·rw [if_pos hf] at h
     rw [Bool.and_eq_true] at hf
     obtain ⟨p, hp, rfl⟩ := rb.ref_inv
     cases ry
     obtain ⟨vs, e1, r1⟩ := S.obj n _ p hn hp
     obtain ⟨its, rvs, pl, _⟩ := I.list (SqL.of e1)
     have he : ∀ y, y ∈ its.toArray → SeqAt.EqAt X.A.in1 s y v (deq (ofV y) a) := fun y hy => by
      have hy : y ∈ its := by simpa using hy
      obtain ⟨j, hj⟩ := List.getElem?_of_mem hy
      have hjl : j < vs.length := by rw [rvs.length]; exact (List.getElem?_eq_some_iff.mp hj).1
      obtain ⟨w, hw, rw'⟩ := rvs.get (List.getElem?_eq_getElem hjl)
      rw [hj] at hw; cases hw
      have hjd : j < ds.length := by rw [← r1.length]; exact hjl
      obtain ⟨z, hz, rz⟩ := r1.get (List.getElem?_eq_getElem hjd)
      rw [List.getElem?_eq_getElem hjl] at hz; cases hz
      have hfl := List.all_eq_true.mp hf.2 _ (List.getElem_mem hjd)
      rw [ZiW hfl rz rw']
      exact Zdj X.A.in1 ds[j] a _ x y v hfl hf.1 rz ra rw' rx
     refine SeqAt.in_listAt (fun y => deq (ofV y) a) pl.isList he ⟨.bl (ds.any fun y => deq y a), H, I, ?_, h _ H ι Ext.refl S Rep.bl⟩
     show (.bool _ : Value) = .bool _
     rw [Zi6 r1 rvs hf.2]
     simp
    ·rw [if_neg hf] at h; exact h.elim
 | _ => exact h.elim
end
end L3
namespace L3
open PySem PySem.Spec PyProof.Rows L2
section
variable {prog : Program} {w : World} {A : Around} {E : Value → Shared → Prop} {s : Shared}
end
section
variable {X : Cx} {e : Expr} {es : List Expr} {pos : Pos} {f : E3}
end
end L3
namespace L3
open PySem PySem.Spec PyProof.Rows L2
section
variable {X : Cx} {a b c : Expr} {p p2 pos pos2 : Pos} {f g h : E3}
end
end L3
namespace L3
open PySem PySem.Spec PyProof.Rows L2
open AutoSeq1 (wpAny_loadPart')
set_option maxRecDepth 100000
theorem Zez (l : Addr) (items : Array Value) (n : Nat) (b : Addr) (items2 : Array Value) (n2 : Nat) (sl : Array (Option Value)) (hl : ¬ (!items.isEmpty && Builtin.List.listTooLong (items.size + items2.size)) = true) (hz : items.size ≤ sizeLine) (hz2 : items.size + items2.size ≤ sizeLine + 1) :
  Meets (Builtin.«list.extend» ⟨[.ref l, .ref b], []⟩) (fun _ R s => s.heap.get? l = some { cls := .type "list", data := .seq items n } ∧ s.heap.get? b = some { cls := .type "tuple", data := .seq items2 n2, slots := sl } ∧
   R (.ok (.ret .none)) { s with heap := s.heap.update l (Obj.mapSeq fun x => x ++ items2) }) :=
 .of_wp fun prog w A R s h => by
  obtain ⟨hp, g, d, tk, os⟩ := s; obtain ⟨h1, h2, h⟩ := h
  wp_walk using wpAny_loadPart' h1, wpAny_loadPart' h2
  rw [show (Obj.mapSeq (fun x => x ++ items2) { cls := Value.type "list", data := Data.seq items n }).data.pastItsLine = none by
   show (if (items ++ items2).size > sizeLine + 1 then some "sequence:memory" else none) = none
   rw [if_neg (by rw [Array.size_append]; omega)]]
  exact wpAny_pure (wpAny_pure ⟨_, rfl, h⟩)
section
variable {X : Cx} {o e : Expr} {es : List Expr} {apos cpos : Pos} {f : E3} {gl : EL3}
noncomputable def Zig (K : PySem.W.Frag) : V → List V → Hp → VK → Prop := fun x vs H Q => ∃ l b xs zs, x = .ref l ∧ vs = [.ref b] ∧ H l = some (.lst xs) ∧ SqT K H b zs ∧ xs.length + zs.length ≤ sizeLine ∧ Q .non (upd H l (.lst (xs ++ zs)))
theorem ZiE : MtR X "list.extend" (Zig X.K) := by
 intro pins s σ H x vs v us Q I rx rv h
 obtain ⟨l, b, xs, zs, rfl, rfl, hH, hB, hz, q⟩ := h
 cases rx
 obtain ⟨u, rfl, ru⟩ := rv.one
 cases ru
 obtain ⟨z, its, n, r, hl, e⟩ := I.lstM hH
 obtain ⟨its2, r2, ⟨⟨c, dc, dt, sl⟩, e2, ⟨hc, hd⟩, n2, hs⟩, z2⟩ := I.tupleN hB
 replace hc : c = .type "tuple" := hc
 replace hd : dc = none := hd
 replace hs : dt = .seq its2.toArray n2 := hs
 subst hc hd hs
 have hl2 := r2.length
 have hsz : its.toArray.size + its2.toArray.size ≤ sizeLine := by rw [List.size_toArray, List.size_toArray]; omega
 have hlong : ¬ (!its.toArray.isEmpty && Builtin.List.listTooLong (its.toArray.size + its2.toArray.size)) = true := by
  rw [ZfM hsz, Bool.and_false]
  exact Bool.false_ne_true
 refine call_meets F.slot_list_extend ⟨_, e, rfl⟩ F.entry_list_extend (F.args_list_extend_2 _ _)
  (Zez l its.toArray n b its2.toArray n2 sl hlong (by rw [List.size_toArray]; omega) (by omega)) ⟨e, e2, ?_⟩
 refine ⟨.non, _, I.lset (its' := its ++ its2) hH e (by simp) (r.append r2) ?_, rfl, q⟩
 rw [List.length_append]
 omega
theorem ZkB : MtR X "list.extend" (rM X.K Zcp) := MtR.imp (r := fun x xs H Q => Zi3 x xs H Q ∨ Zig X.K x xs H Q) (fun pins s σ H x xs v us Q I rx rs q => q.elim (Zjs pins s σ H x xs v us Q I rx rs) (ZiE pins s σ H x xs v us Q I rx rs)) fun x xs H Q ⟨ι, M, a, ds, S, ra, rd, h⟩ => by
 cases a with
 | ref n =>
  cases ds with
  | nil => exact h.elim
  | cons d ds =>
   cases ds with
   | cons _ _ => cases d <;> exact h.elim
   | nil =>
    obtain ⟨v, ws, rfl, r1, r2⟩ := rd.cons_inv
    have := r2.nil_inv
    subst this
    obtain ⟨p, hp, rfl⟩ := ra.ref_inv
    cases hn : M[n]? with
    | none => cases d <;> simp only [Zcp, hn] at h <;> exact h.elim
    | some o =>
     cases o with
     | dct _ => cases d <;> simp only [Zcp, hn] at h <;> exact h.elim
     | fdct _ => cases d <;> simp only [Zcp, hn] at h <;> exact h.elim
     | lst z =>
      obtain ⟨vs, e, rv⟩ := S.obj n _ p hn hp
      cases d with
      | tup y =>
       simp only [Zcp, hn] at h
       split at h
       ·rename_i hz
        obtain ⟨b, ys, rfl, sb, ry⟩ := r1.tup_inv
        obtain ⟨x2, S2⟩ := S.setl (.inr (.inl ⟨_, e⟩)) hp (rv.append ry)
        exact .inr ⟨p, b, vs, ys, rfl, rfl, e, sb, by rw [rv.length, ry.length]; exact Nat.le_trans hz (Nat.le_of_lt_succ (Nat.lt_succ_of_le ZbK)), h _ _ _ x2 S2 Rep.non⟩
       ·exact h.elim
      | ref m =>
       simp only [Zcp, hn] at h
       cases hm : M[m]? with
       | none => simp only [hm] at h; exact h.elim
       | some o2 =>
        cases o2 with
        | dct _ => simp only [hm] at h; exact h.elim
        | fdct _ => simp only [hm] at h; exact h.elim
        | lst y =>
         simp only [hm] at h
         split at h
         ·rename_i hz
          obtain ⟨b, hb, rfl⟩ := r1.ref_inv
          obtain ⟨ys, eb, ry⟩ := S.obj m _ b hm hb
          obtain ⟨x2, S2⟩ := S.setl (.inr (.inl ⟨_, e⟩)) hp (rv.append ry)
          exact .inl ⟨p, b, vs, ys, rfl, rfl, e, eb, by rw [rv.length, ry.length]; exact Nat.le_trans hz.2 (Nat.le_of_lt_succ (Nat.lt_succ_of_le ZbK)), h _ _ _ x2 S2 Rep.non⟩
         ·exact h.elim
      | _ => simp only [Zcp] at h; exact h.elim
 | _ => cases ds <;> exact h.elim
theorem Zhb (ho : C3 X o f) (ha : CA X (e :: es) gl)
  (hbase : attributeBase o "extend" X.env (eval o X.env) = eval o X.env := by rfl)
  (hfew : ((backTo cpos (starEach (e :: es) X.env)).all (fun x => !x.1) && (backToKw cpos (keywordEach [] X.env)).all (fun x => x.1.isSome)
   && decide ((e :: es).length + ([] : List Keyword).length + (if ([] : List Keyword).isEmpty then 0 else 1) < 30)) = true := by rfl)
  (hline : (apos.endLine == cpos.line) = true := by rfl) (hs : starEach (e :: es) X.env = (false, eval e X.env) :: starEach es X.env := by rfl) (hplain : (backTo cpos (starEach es X.env)).any (·.1) = false := by rfl) :
  C3 X (.Call (.Attribute o "extend" apos) (e :: es) [] cpos) (Zcg tyL Zcp f gl) :=
 (Zmt PySem.F.plainAttrs_list PySem.F.slot_list_extend PySem.F.type_list_extend ZkB ho ha hbase hfew hline hs hplain).imp (Zkz Zka)
end
end L3
namespace L3
open PySem PySem.Spec PyProof.Rows L2
set_option maxRecDepth 100000
noncomputable def Itz (S T : Hp → List V → Prop) : It := ⟨fun i H => ∃ xs ys x y, S H xs ∧ T H ys ∧ xs[i]? = some x ∧ ys[i]? = some y, fun i H x H' => ∃ A a b, x = .ref A ∧ H A = none ∧ H' = upd H A (.tup [a, b]) ∧ (∀ xs, S H xs → xs[i]? = some a) ∧ ∀ ys, T H ys → ys[i]? = some b,
 fun i H => ∃ xs ys, S H xs ∧ T H ys ∧ (xs.length ≤ i ∨ ys.length ≤ i)⟩
noncomputable def ZoR (z TI TO i1 i2 l1 l2 : Addr) (i : Nat) (h : Heap) : Prop := IsZip h z TI TO .none ∧ IsPair h TI (.ref i1) (.ref i2) ∧ (∃ a b, IsPair h TO a b) ∧ h.IsListIter i1 l1 i ∧ h.IsListIter i2 l2 i
theorem ZkU {X : Cx} {pins : List (Addr × Obj)} {σ : St} {H : Hp} {s : Shared} {h' h'' : Heap} {fp : List Addr} {x y : V} {u v : Value} {tk' : Nat} (I : Inv X pins σ H s) (hf : ∀ b ∈ fp, ZdC X pins H b) (hlt : ∀ b ∈ fp, b < s.heap.objs.size) (ru : RelV x u) (rv : RelV y v)
  (hT : h'.get? s.heap.objs.size = some { cls := .type "tuple", data := .seq #[u, v] }) (hk : ∀ b o, b ∉ fp → s.heap.get? b = some o → h'.get? b = some o) (hs : ∀ b o, b ∉ fp → h'.get? b = some o → h''.get? b = some o) :
  Inv X pins σ (upd H s.heap.objs.size (.tup [x, y])) { s with heap := h'', toks := tk' } ∧ ∀ b ∈ fp, upd H s.heap.objs.size (.tup [x, y]) b = none := by
 have hn : ∀ b ∈ fp, upd H s.heap.objs.size (.tup [x, y]) b = none := fun b hb => by
  rw [Za7 (Nat.ne_of_lt (hlt b hb))]; exact (hf b hb).1
 refine ⟨?_, hn⟩
 have I1 : Inv X pins σ (upd H s.heap.objs.size (.tup [x, y])) { s with heap := s.heap.push { cls := .type "tuple", data := .seq ([u, v] : List Value).toArray }, toks := s.toks } :=
  I.laid (t' := s.toks) (fun b o e => Heap.get?_push_of_some _ e) (Nat.le_refl _) (show ZbH X.prog X.w _ _ _ (.tup [x, y]) from ⟨by rw [sizeLine_eq]; show 2 ≤ _; decide, [u, v], .cons ru (.cons rv .nil), Zc6.new _ _⟩)
 have nT : s.heap.objs.size ∉ fp := fun z => Nat.lt_irrefl _ (hlt _ z)
 have I3 := I1.turnedL (t' := tk') (h' := h'') (fp := fp) (fun b o hb q => by
  rcases Heap.get?_push_cases q with ⟨rfl, rfl⟩ | q
  ·exact hs _ _ nT hT
  ·exact hs _ _ hb (hk b o hb q)) fun b hb => ⟨hn b hb, (hf b hb).2⟩
 exact I3
theorem Zjq {P : Program} {w : World} {K : PySem.W.Frag} {es : List Expr} {k : Nat} {pos : Pos} (l1 l2 z TI TO i1 i2 : Addr) (Z : ZipApart z TI TO i1 i2 l1 l2) :
  Turn P w K (.Tuple es k pos) (Itz (fun H xs => SqL K H l1 xs) (fun H ys => SqL K H l2 ys)) [z, TI, TO, i1, i2] z (ZoR z TI TO i1 i2 l1 l2) where
 mem := by simp
 obj := fun i h st b hb => by
  obtain ⟨hz, h1, ⟨a, c, h2⟩, ⟨o1, g1, _, d1⟩, ⟨o2, g2, _, d2⟩⟩ := st
  simp only [List.mem_cons, List.not_mem_nil, or_false] at hb
  rcases hb with rfl | rfl | rfl | rfl | rfl
  ·exact ⟨_, hz, fun v z => by cases z⟩
  ·exact ⟨_, h1, fun v z => by cases z⟩
  ·exact ⟨_, h2, fun v z => by cases z⟩
  ·exact ⟨o1, g1, fun v z => by rw [d1] at z; cases z⟩
  ·exact ⟨o2, g2, fun v z => by rw [d2] at z; cases z⟩
 keep := fun i h h' st k => by
  obtain ⟨hz, h1, ⟨a, c, h2⟩, g1, g2⟩ := st
  exact ⟨k z (by simp) _ hz, k TI (by simp) _ h1, ⟨a, c, k TO (by simp) _ h2⟩, g1.at fun o q => k i1 (by simp) o q, g2.at fun o q => k i2 (by simp) o q⟩
 item := by
  intro X hP hw hK hc i pins s σ H E I hf st hg
  subst hP hw hK
  obtain ⟨xs, ys, x, y, hx, hy, gx, gy⟩ := hg
  obtain ⟨its, rv, p, hzz⟩ := I.list hx
  obtain ⟨its2, rv2, p2, hzz2⟩ := I.list hy
  obtain ⟨u, hu, ru⟩ := rv.get gx
  obtain ⟨v, hv, rv'⟩ := rv2.get gy
  have st0 := st
  obtain ⟨hz, h1, ⟨a, c, h2⟩, g1, g2⟩ := st
  have hlt : ∀ b ∈ [z, TI, TO, i1, i2], b < s.heap.objs.size := fun b hb => by
   obtain ⟨o1, q1, _⟩ := id g1
   obtain ⟨o2, q2, _⟩ := id g2
   simp only [List.mem_cons, List.not_mem_nil, or_false] at hb
   rcases hb with rfl | rfl | rfl | rfl | rfl
   ·exact Heap.lt_size hz
   ·exact Heap.lt_size h1
   ·exact Heap.lt_size h2
   ·exact Heap.lt_size q1
   ·exact Heap.lt_size q2
  refine wpAny_pyNext_zip_item Z hz h1 h2 g1 g2 p.isList p2.isList (x := u) (y := v) (by simpa using hu) (by simpa using hv) fun h' hz' hTO hi1 hi2 hT hsz hk => ?_
  refine ⟨_, rfl, wpAny_letOwnedTupleGo_zip (s := { s with heap := h' }) hz' fun h'' hz'' hs'' => ?_⟩
  have hTI' : IsPair h' TI (.ref i1) (.ref i2) := hk TI _ Z.TIz Z.TITO Z.TIi1 Z.TIi2 h1
  obtain ⟨I2, n2⟩ := ZkU (x := x) (y := y) (tk' := s.toks) (fp := [z, TI, TO, i1, i2]) (h' := h') (h'' := h'') I hf hlt ru rv' hT
   (fun b o hb q => hk b o (fun e => hb (by simp [e])) (fun e => hb (by simp [e])) (fun e => hb (by simp [e])) (fun e => hb (by simp [e])) q)
   (fun b o hb q => (hs''.2 b fun e => hb (by simp [e])).trans q)
  refine ⟨.ref s.heap.objs.size, _, I2, rfl, ⟨_, x, y, rfl, I.hok.fresh (Nat.le_refl _), rfl, fun zs hq => by rw [I.list_inj hq hx]; exact gx, fun zs hq => by rw [I.list_inj hq hy]; exact gy⟩, ?_, n2⟩
  exact ⟨hz'', (hs''.2 _ Z.TIz).trans hTI', ⟨_, _, (hs''.2 _ Z.TOz).trans hTO⟩, hi1.extBut hs''.extBut Z.i1z, hi2.extBut hs''.extBut Z.i2z⟩
 done := by
  intro X hP hw hK hc i pins s σ H E I hf st hg
  subst hP hw hK
  obtain ⟨xs, ys, hx, hy, ho⟩ := hg
  obtain ⟨its, rv, p, hzz⟩ := I.list hx
  obtain ⟨its2, rv2, p2, hzz2⟩ := I.list hy
  have hl1 := rv.length
  have hl2 := rv2.length
  obtain ⟨hz, h1, ⟨a, c, h2⟩, g1, g2⟩ := st
  refine wpAny_pyNext_zip_end (I.ok.hd hc) Z hz h1 h2 g1 g2 p.isList p2.isList ?_ fun h' hk => ⟨rfl, I.turnedL (t' := s.toks) (fun b o hb q => hk b o (fun e => hb (by simp [e])) (fun e => hb (by simp [e])) (fun e => hb (by simp [e])) (fun e => hb (by simp [e])) q) hf⟩
  rcases ho with ho | ho
  ·left; simp; omega
  ·right; simp; omega
 self := fun _ _ _ _ _ st h => wpAny_pyIter_zip st.1 h
section
variable {X : Cx} {es : List Expr} {k : Nat} {a b : Expr} {p pos tpos : Pos} {f g : E3}
noncomputable def Zoi (K : PySem.W.Frag) (ta : TA) : TI := fun σ H R => ta σ H fun vs H1 => ∃ l1 l2, vs = [.ref l1, .ref l2] ∧ (∃ xs, SqL K H1 l1 xs) ∧ (∃ ys, SqL K H1 l2 ys) ∧ R (Itz (fun H xs => SqL K H l1 xs) (fun H ys => SqL K H l2 ys)) H1
theorem Zj3 : bootBuiltins "zip" = some (.type "zip") := by decide +kernel
theorem ZmX {ta : TA} (hg : Gl X "zip") (hm : X.mg "zip" = none) (ha : PA X [a, b] ta) (hs : starEach [a, b] X.env = [(false, eval a X.env), (false, eval b X.env)] := by rfl) (hs2 : starEach [b] X.env = [(false, eval b X.env)] := by rfl) : PI X (.Tuple es k tpos) (.Call (.Name "zip" p) [a, b] [] pos) (Zoi X.K ta) := by
 intro pins s σ H R I h
 refine Call_ (ZeB I hg hm Zj3 (PyProof.Rows.callWith_type1 (thn (ha pos pins s σ H _ I h) fun us s1 ⟨vs, H1, I1, r1, q1⟩ => ?_) (by rw [hs, hs2]) (by rw [hs2]; rfl)))
 obtain ⟨l1, l2, e, ⟨xs, hx⟩, ⟨ys, hy⟩, q⟩ := q1
 subst e
 cases r1 with
 | cons r rr =>
  cases rr with
  | cons r' rr =>
   cases rr
   cases r
   cases r'
   obtain ⟨its, rv, p1, hz⟩ := I1.list hx
   obtain ⟨its2, rv2, p2, hz2⟩ := I1.list hy
   have lt1 : l1 < s1.heap.objs.size := by obtain ⟨o, ho, _⟩ := p1.isList; exact Heap.lt_size ho
   have lt2 : l2 < s1.heap.objs.size := by obtain ⟨o, ho, _⟩ := p2.isList; exact Heap.lt_size ho
   refine call_zip_2 p1.isList p2.isList fun h' hZ hTI hTO hi1 hi2 hsz hk => ?_
   have I2 : Inv X pins σ H1 { s1 with heap := h' } := I1.kept (t' := s1.toks) hk
   have fp : ∀ c ∈ [s1.heap.objs.size + 4, s1.heap.objs.size + 2, s1.heap.objs.size + 3, s1.heap.objs.size, s1.heap.objs.size + 1], ZdC X pins H1 c := fun c hc => by
    have hc' : s1.heap.objs.size ≤ c := by
     simp only [List.mem_cons, List.not_mem_nil, or_false] at hc
     rcases hc with rfl | rfl | rfl | rfl | rfl <;> omega
    exact I1.fpOk hc' (I1.hok.fresh hc')
   exact wpAny_pyIter_zip (s := { s1 with heap := h' }) hZ ⟨_, _, _, _, H1, rfl, I2, Zjq l1 l2 _ _ _ _ _ (zipApart_new lt1 lt2), ⟨hZ, hTI, ⟨_, _, hTO⟩, hi1, hi2⟩, fp, q⟩
theorem ZkL (hm : X.mg "zip" = none) (h1 : C3 X a f) (h2 : C3 X b g) (hg : Gl X "zip" := by rfl) (hs : starEach [a, b] X.env = [(false, eval a X.env), (false, eval b X.env)] := by rfl) (hs2 : starEach [b] X.env = [(false, eval b X.env)] := by rfl)
  (hs' : starEach (a :: [b]) X.env = (false, eval a X.env) :: starEach [b] X.env := by rfl) (hs'' : starEach (b :: []) X.env = (false, eval b X.env) :: starEach [] X.env := by rfl) : CIL X (.Tuple es k tpos) (.Call (.Name "zip" p) [a, b] [] pos) (Zj1 f g) :=
 PI.imp (ZmX hg hm (Zc h1 (Zc h2 Zk hs'') hs') hs hs2) fun σ H R ⟨ι, M, env, S, E, h⟩ => by
  obtain ⟨d, M1, e1, h⟩ := Zf8.bind h
  obtain ⟨d2, M2, e2, h⟩ := Zf8.bind h
  refine ⟨ι, M, env, S, E, ?_⟩
  have e3 : Za f (Za g Zg) env M = .ok [d, d2] M2 := by simp only [Za, Zg, R3.bind, e1, e2]
  rw [e3]
  intro vs H1 ι1 x1 S1 r1
  obtain ⟨v, ws, rfl, r, q⟩ := r1.cons_inv
  obtain ⟨v2, ws2, rfl, r2, q2⟩ := q.cons_inv
  have := q2.nil_inv
  subst this
  cases d with
  | ref n =>
   cases d2 with
   | ref m =>
    cases hn : M2[n]? with
    | none => simp only [hn] at h; exact h.elim
    | some o =>
     cases o with
     | dct _ => simp only [hn] at h; exact h.elim
     | fdct _ => simp only [hn] at h; exact h.elim
     | lst ds =>
      cases hm : M2[m]? with
      | none => simp only [hn, hm] at h; exact h.elim
      | some o2 =>
       cases o2 with
       | dct _ => simp only [hn, hm] at h; exact h.elim
       | fdct _ => simp only [hn, hm] at h; exact h.elim
       | lst ds2 =>
        simp only [hn, hm] at h
        obtain ⟨b1, hb1, rfl⟩ := r.ref_inv
        obtain ⟨b2, hb2, rfl⟩ := r2.ref_inv
        obtain ⟨vs1, o1, rr1⟩ := S1.obj n _ b1 hn hb1
        obtain ⟨vs2, o2, rr2⟩ := S1.obj m _ b2 hm hb2
        refine ⟨b1, b2, rfl, ⟨vs1, SqL.of o1⟩, ⟨vs2, SqL.of o2⟩, h _ H1 ι1 x1 S1 ?_⟩
        intro i H2 ι2 M3 x S2 lk
        have lk' : M3[n]? = some (.lst ds) ∧ M3[m]? = some (.lst ds2) := by simpa [Zbp] using lk
        obtain ⟨ws1, p1, q1⟩ := S2.obj n _ b1 lk'.1 (x.pre _ _ hb1)
        obtain ⟨ws2, p2, q2⟩ := S2.obj m _ b2 lk'.2 (x.pre _ _ hb2)
        refine ⟨fun d hd => ?_, fun hl => ⟨ws1, ws2, SqL.of p1, SqL.of p2, by rw [q1.length, q2.length, hl, Zge]; omega⟩⟩
        rw [Ze0] at hd
        cases hq : ds[i]? with
        | none => rw [hq] at hd; cases hd
        | some a0 =>
         cases hq2 : ds2[i]? with
         | none => rw [hq, hq2] at hd; cases hd
         | some b0 =>
          rw [hq, hq2] at hd
          cases hd
          obtain ⟨v1, hv1, rv1⟩ := q1.get hq
          obtain ⟨v2, hv2, rv2⟩ := q2.get hq2
          refine ⟨⟨ws1, ws2, v1, v2, SqL.of p1, SqL.of p2, hv1, hv2⟩, fun y H3 hy => ?_⟩
          obtain ⟨T, y1, y2, rfl, hT, rfl, ha1, ha2⟩ := hy
          have e := ha1 ws1 (SqL.of p1)
          rw [hv1] at e
          cases e
          have e := ha2 ws2 (SqL.of p2)
          rw [hv2] at e
          cases e
          exact S2.tupl hT (Zaa.cons rv1 (Zaa.cons rv2 Zaa.nil))
   | _ => exact h.elim
  | _ => cases d2 <;> exact h.elim
end
end L3
namespace L3
open PySem PySem.Spec PyProof.Rows L2
set_option maxRecDepth 100000
section
variable {X : Cx} {elt tg iter : Expr} {ifs : List Expr} {scope : Scope} {pos : Pos} {i : IL3} {own : Nat} {g : G3} {ts : List E3} {f : E3} {N' : List Str}
theorem ZhS {pins : List (Addr × Obj)} {σ : St} {s2 : Shared} {H2 : Hp} {ι2 : List Addr} {M2 : Store} {env : ZaC} {it : Addr} {fp : List Addr} {tn : Nat → Heap → Prop} {J : It} {itd : ItL} {Q : VK} {E : Value → Shared → Prop} (O : Zfg X scope N' own) (hc : X.calm = true)
  (hb : ∀ C cl s H ex, CG (ZaS X scope N' C cl s H ex) tg g ∧ CTs (ZaS X scope N' C cl s H ex) ifs ts ∧ C3 (ZaS X scope N' C cl s H ex) elt f)
  (I2 : Inv X pins σ H2 s2) (T : Turn X.prog X.w X.K tg J fp it tn) (st0 : tn 0 s2.heap) (hfp : ∀ b ∈ fp, ZdC X pins H2 b) (S2 : Zax X.K H2 ι2 M2) (E2 : ZbF X.K H2 ι2 env σ) (ok : Zld X.K H2 ι2 itd J)
  (h : Zam X.K H2 ι2 Q (ZdA itd.lk g ts f M2.length itd.items (env ++ List.replicate own none) (M2 ++ [.lst []])))
  (RR : Value → Addr → Result → Shared → Prop)
  (fin : ∀ (acc C : Addr) (s' : Shared) (m : Str → Option Value) (H' : Hp), s'.heap.Ns C m → ZdC X pins H' C → Inv X pins σ H' s' → Q (.ref acc) H' → RR (.ref acc) C (.ok .next) s') :
  wpAny (model X.prog X.w) X.A (newList []) (fun acc s₃ => wpAny (model X.prog X.w) X.A (newFunctionEnv scope X.env.globals (Za9 X.env.cells scope.names []) [] X.env.qual none .none (some X.env)) (fun cenv s₄ =>
   codeAny (model X.prog X.w) X.A (.compStart (.ListComp elt [⟨tg, iter, ifs, 0⟩] scope pos) 0 (.ref it) acc { cenv with scope := relabel scope X.env }) (RR acc cenv.locals) s₄) E s₃) E s2 := by
 refine wpAny_newObj_type ?_
 have hD : H2 s2.heap.objs.size = none := I2.hok.fresh (Nat.le_refl _)
 obtain ⟨x3, S3, r3⟩ := S2.lst hD (Zaa.nil (K := X.K) (H := H2) (ι := ι2))
 have I3 : Inv X pins σ (upd H2 s2.heap.objs.size (.lst [])) { s2 with heap := s2.heap.push { cls := .type "list", data := .seq ([] : List Value).toArray } } :=
  I2.laid (t' := s2.toks) (fun b u e => Heap.get?_push_of_some _ e) (Nat.le_refl _) ⟨Nat.zero_le _, [], 0, .nil, Heap.get?_push_size _ rfl⟩
 generalize hs3 : ({ s2 with heap := s2.heap.push { cls := .type "list", data := .seq ([] : List Value).toArray } } : Shared) = s3 at I3 ⊢
 have keep23 : ∀ b o, s2.heap.get? b = some o → s3.heap.get? b = some o := fun b o e => by rw [← hs3]; exact Heap.get?_push_of_some _ e
 have hfp3 : ∀ b ∈ fp, ZdC X pins (upd H2 s2.heap.objs.size (.lst [])) b := fun b hb => by
  refine ⟨?_, (hfp b hb).2⟩
  obtain ⟨o, e, _⟩ := T.obj _ _ st0 b hb
  rw [Za7 (Nat.ne_of_lt (Heap.lt_size e))]
  exact (hfp b hb).1
 have hlt3 : ∀ b ∈ fp, b < s3.heap.objs.size := fun b hb => by
  obtain ⟨o, e, _⟩ := T.obj _ _ st0 b hb
  exact Heap.lt_size (keep23 b o e)
 have st3 : tn 0 s3.heap := T.keep _ _ _ st0 fun b hb o e => keep23 b o e
 refine wpAny_newFunctionEnv O.cell (by intro y hy; cases hy) (fun h4 hns hsb => ?_) O.kind
 have keep34 : ∀ b o, s3.heap.get? b = some o → h4.get? b = some o := fun b o e => hsb.extBut b o (Nat.ne_of_lt (Heap.lt_size e)) (Heap.get?_push_of_some _ e)
 have I4 := ZhD (own := own) (N' := N') (tk := s3.toks + ([] : List (Str × Value)).length) I3 O.kind O.cell O.free O.len O.vis hfp3 hlt3 hns keep34
 have st4 : tn 0 h4 := T.keep _ _ _ st3 fun b hb o e => keep34 b o e
 have hfp4 : ∀ {H' : Hp}, (∀ b ∈ fp, H' b = none) → ∀ b ∈ fp, ZdC (ZaS X scope N' s3.heap.objs.size (Za9 X.env.cells scope.names []) s3 (upd H2 s2.heap.objs.size (.lst [])) fp) [] H' b := fun hn b hb => by
  have hc0 : ∀ y ∈ scope.names, y.2 = .free → ∃ c, X.env.cells.lookup y.1 = some c := fun y hy e => I2.ok.has y.1 (O.free y hy e)
  refine ⟨hn b hb, Nat.ne_of_lt (hlt3 b hb), fun hz => I4.ok.exfs b hb hz, .inl hb, fun x c hx => (I4.ok.exf b hb).2 x c hx, fun p hp => absurd (show p ∈ ([] : List (Addr × Obj)) from hp) (by simp)⟩
 obtain ⟨hg, hts, helt⟩ := hb s3.heap.objs.size (Za9 X.env.cells scope.names []) s3 (upd H2 s2.heap.objs.size (.lst [])) fp
 have loop : ∀ s₄ : Shared, s₄ = { s3 with heap := h4, toks := s3.toks + ([] : List (Str × Value)).length } →
   codeAny (model X.prog X.w) X.A (.compLoop (.ListComp elt [⟨tg, iter, ifs, 0⟩] scope pos) 0 (.ref it) (.ref s2.heap.objs.size) (compEnvC scope (Za9 X.env.cells scope.names []) s3.heap.objs.size X.env)) (RR (.ref s2.heap.objs.size) s3.heap.objs.size) s₄ := by
  rintro s₄ rfl
  refine Ze2 (fun n s' => ∃ k σ5 H5 ι5 M5 env5, Inv (ZaS X scope N' s3.heap.objs.size (Za9 X.env.cells scope.names []) s3 (upd H2 s2.heap.objs.size (.lst [])) fp) [] σ5 H5 s' ∧ tn k s'.heap ∧ (∀ b ∈ fp, H5 b = none) ∧ n = itd.items.length - k ∧ k ≤ itd.items.length ∧
   Ext X.K H2 ι2 H5 ι5 ∧ Zax X.K H5 ι5 M5 ∧ ZbF X.K H5 ι5 env5 σ5 ∧ ι5[M2.length]? = some s2.heap.objs.size ∧ Zam X.K H5 ι5 Q (ZdA itd.lk g ts f M2.length (itd.items.drop k) env5 M5)) ?_ itd.items.length
   ⟨0, _, _, _, _, _, I4, st4, fun b hb => (hfp3 b hb).1, rfl, Nat.zero_le _, x3, S3, (E2.mono x3).grow own, ?_, h.up x3⟩
  ·rintro n s5 ⟨k, σ5, H5, ι5, M5, env5, I5, st5, fr5, rfl, hk, x5, S5, E5, hι, h5⟩
   by_cases hlt : k < itd.items.length
   ·have hd : itd.items[k]? = some itd.items[k] := by simp [hlt]
    rw [List.drop_eq_getElem_cons hlt] at h5
    unfold ZdA at h5
    by_cases lk : Zbp itd.lk M5 = true
    ·rw [if_pos lk] at h5
     obtain ⟨go, yl⟩ := (ok k H5 ι5 M5 x5 S5 lk).1 _ hd
     cases eg : g itd.items[k] env5 with
     | none => rw [eg] at h5; exact h5.elim
     | some env6 =>
      rw [eg] at h5
      refine thn (T.item (ZaS X scope N' s3.heap.objs.size (Za9 X.env.cells scope.names []) s3 (upd H2 s2.heap.objs.size (.lst [])) fp) rfl rfl rfl hc k [] s5 σ5 H5 (fun _ _ => False) I5 (hfp4 fr5) st5 go) fun r s6 ⟨u, hr, h6⟩ => ?_
      subst hr
      refine thn h6 fun _ s7 ⟨x, H7, I7, r7, y7, st7, fr7⟩ => ?_
      obtain ⟨y8, S7, rx⟩ := yl x H7 y7
      have I7' := I7.pinned (hfp4 fr7) (T.obj _ _ st7)
      refine thn (hg _ s7 σ5 H7 x u (fun σ' H' => H' = H7 ∧ ZbF X.K H7 ι5 env6 σ') I7' r7 ⟨ι5, M5, env5, _, env6, S7, E5.mono y8, rx, eg, fun σ' E' => ⟨rfl, E'⟩⟩) fun _ s8 ⟨σ8, H8, I8, e8, E8⟩ => ?_
      subst e8
      replace h5 := Zam.up y8 h5
      replace x5 := x5.trans y8
      replace S5 := S7
      have back : ∀ {σ' : St} {H' : Hp} {s' : Shared}, Inv (ZaS X scope N' s3.heap.objs.size (Za9 X.env.cells scope.names []) s3 (upd H2 s2.heap.objs.size (.lst [])) fp) ([] ++ Zfb fp s7.heap) σ' H' s' →
        Inv (ZaS X scope N' s3.heap.objs.size (Za9 X.env.cells scope.names []) s3 (upd H2 s2.heap.objs.size (.lst [])) fp) [] σ' H' s' ∧ tn (k + 1) s'.heap ∧ ∀ b ∈ fp, H' b = none := fun {σ' H' s'} I' => by
       refine ⟨I'.unpinned, T.keep _ _ _ st7 fun b hb o e => (I'.pin (b, o) (List.mem_append_right _ (List.mem_append_right _ (ZcU hb e)))).1, fun b hb => ?_⟩
       obtain ⟨o, e, d⟩ := T.obj _ _ st7 b hb
       exact (I'.pin (b, o) (List.mem_append_right _ (List.mem_append_right _ (ZcU hb e)))).2.1
      obtain ⟨b, M9, e9, h9⟩ := Zam.bind h5
      refine thn (hts _ s8 σ8 H8 (fun b' H' => b' = b ∧ ∃ ι9, Ext X.K H8 ι5 H' ι9 ∧ Zax X.K H' ι9 M9) I8 ⟨ι5, M5, env6, S5, E8, by rw [e9]; exact fun H' ι' x' S' => ⟨rfl, ι', x', S'⟩⟩) fun b' s9 ⟨H9, I9, eb, ι9, x9, S9⟩ => ?_
      subst eb
      cases b' with
      | false =>
       rw [if_neg (by decide)] at h9 ⊢
       obtain ⟨I9', st9, fr9⟩ := back I9
       exact ⟨itd.items.length - (k + 1), by omega, k + 1, σ8, H9, ι9, M9, env6, I9', st9, fr9, rfl, hlt, x5.trans x9, S9, E8.mono x9, x9.pre _ _ hι, h9.up x9⟩
      | true =>
       rw [if_pos rfl] at h9 ⊢
       obtain ⟨d, M10, e10, h10⟩ := Zam.bind h9
       refine thn (helt _ s9 σ8 H9 (fun v H' => ∃ ι10, Ext X.K H9 ι9 H' ι10 ∧ Zax X.K H' ι10 M10 ∧ Rep X.K H' ι10 d v) I9 ⟨ι9, M9, env6, S9, E8.mono x9, by rw [e10]; exact fun v H' ι' x' S' r' => ⟨ι', x', S', r'⟩⟩) fun xv s10 ⟨v, H10, I10, r10, ι10, x10, S10, rd⟩ => ?_
       have hι10 : ι10[M2.length]? = some s2.heap.objs.size := x10.pre _ _ (x9.pre _ _ hι)
       cases hm : M10[M2.length]? with
       | none => rw [hm] at h10; exact h10.elim
       | some o =>
        cases o with
        | dct _ => rw [hm] at h10; exact h10.elim
        | fdct _ => rw [hm] at h10; exact h10.elim
        | lst xs =>
         rw [hm] at h10
         by_cases hz : xs.length < SZ
         ·simp only [if_pos hz] at h10
          obtain ⟨vs, ev, rvs⟩ := S10.obj _ _ _ hm hι10
          obtain ⟨x11, S11⟩ := S10.setl (.inr (.inl ⟨_, ev⟩)) hι10 (rvs.append (Zaa.cons rd Zaa.nil))
          refine thn (Zfk _ s10 σ8 H10 (.ref s2.heap.objs.size) [v] (.ref s2.heap.objs.size) [xv] (fun _ H' => H' = upd H10 s2.heap.objs.size (.lst (vs ++ [v]))) I10 rfl (.cons r10 .nil) ⟨_, vs, v, rfl, rfl, ev, by rw [rvs.length]; exact Nat.lt_of_lt_of_le hz ZbK, rfl⟩) fun _ s11 ⟨_, H11, I11, _, eH⟩ => ?_
          subst eH
          obtain ⟨I11', st11, fr11⟩ := back I11
          exact ⟨itd.items.length - (k + 1), by omega, k + 1, σ8, _, ι10, _, env6, I11', st11, fr11, rfl, hlt, ((x5.trans x9).trans x10).trans x11, S11, ((E8.mono x9).mono x10).mono x11, hι10, ((h10.up x9).up x10).up x11⟩
         ·simp only [if_neg hz] at h10; exact h10.elim
    ·rw [if_neg lk] at h5; exact h5.elim
   ·have e0 : k = itd.items.length := by omega
    subst e0
    rw [List.drop_length] at h5
    unfold ZdA at h5
    by_cases lk : Zbp itd.lk M5 = true
    ·rw [if_pos lk] at h5
     refine thn (T.done (ZaS X scope N' s3.heap.objs.size (Za9 X.env.cells scope.names []) s3 (upd H2 s2.heap.objs.size (.lst [])) fp) rfl rfl rfl hc _ [] s5 σ5 H5 (fun _ _ => False) I5 (hfp4 fr5) st5 ((ok _ H5 ι5 M5 x5 S5 lk).2 rfl)) fun r s6 ⟨hr, I6⟩ => ?_
     subst hr
     obtain ⟨m6, hn6, _⟩ := I6.loc
     have I7 : Inv X pins σ H5 s6 := I3.call' (ch := fp) I6.os I6.base I6.hok I6.bare fun b hb => ⟨(hfp3 b hb).2.2.2.1, (hfp3 b hb).2.1, (hfp3 b hb).2.2.2.2.1, (hfp3 b hb).2.2.2.2.2⟩
     exact fin _ _ s6 m6 H5 hn6 (I3.fpOk (Nat.le_refl _) I6.free) I7 (h5 _ H5 ι5 Ext.refl S5 (Rep.ref hι))
    ·rw [if_neg lk] at h5; exact h5.elim
  ·rw [← S2.len]; simp
 exact codeAny_compStart_list (loop _ rfl) (T.self _ 0 _ _ _ st4 (loop _ rfl))
theorem Zmy (O : Zfg X scope N' own) (hxe : X.xe = fun _ _ => False) (hc : X.calm = true) (hi : CIL X tg iter i)
  (hb : ∀ C cl s H ex, CG (ZaS X scope N' C cl s H ex) tg g ∧ CTs (ZaS X scope N' C cl s H ex) ifs ts ∧ C3 (ZaS X scope N' C cl s H ex) elt f)
  (hs : ∀ x, foldedSetIterable iter X.env x = pure x := by intro _; rfl) : C3 X (.ListComp elt [⟨tg, iter, ifs, 0⟩] scope pos) (Zll i own g ts f) := by
 intro pins s σ H Q I h
 obtain ⟨ι, M, env, S, E, h⟩ := h
 obtain ⟨itd, M1, e1, h⟩ := Zam.bind h
 have hc0 : ∀ y ∈ scope.names, y.2 = .free → ∃ c, X.env.cells.lookup y.1 = some c := fun y hy e => I.ok.has y.1 (O.free y hy e)
 rw [eval_ListComp]
 refine wpAny_comprehension_free (use := none) rfl hs (Zdz hc0) O.kind O.names ?_
 refine thn (hi pins s σ H (fun J H' => ∃ ι', Ext X.K H ι H' ι' ∧ Zax X.K H' ι' M1 ∧ Zld X.K H' ι' itd J) I ⟨ι, M, env, S, E, by rw [e1]; exact fun J H' ι' x S' o => ⟨ι', x, S', o⟩⟩) fun v s1 h1 => thn h1 fun itv s2 h2 => ?_
 obtain ⟨it, fp, tn, J, H2, rfl, I2, T, st2, f2, ι2, x2, S2, ok⟩ := h2
 refine ZhS (own := own) (g := g) (ts := ts) (f := f) O hc hb I2 T st2 f2 S2 (E.mono x2) ok (h.up x2) (fun acc C => compPost (model X.prog X.w) X.A X.xe none (EP X pins σ Q) acc C) ?_
 intro acc C s' m H' hn hf I' hq
 obtain ⟨f0, f1, f2', f3, f4, f5⟩ := hf
 exact ⟨m, hn, fun h' sb => ⟨.ref acc, H', I'.turned (t' := s'.toks) (fun b o hb e => (sb.2 b hb).trans e) f0 f1 f3 f4 f5, rfl, hq⟩⟩
end
end L3
set_option maxHeartbeats 400000
namespace Law
open PySem L3
noncomputable section
noncomputable def ZeT : S3 := Zy (sIf (e2 Zay (e2 Zj (Zb 0) (eC (.int 0))) (eC (.str [106, 117, 109, 112]))) (Zal (e2 Zj (Zb 0) (eC (.int 1)))) (Zae)) (Zy (sIf (Zcs (e2 Zay (e2 Zj (Zb 0) (eC (.int 0))) (eC (.str [119, 104, 101, 110]))) (e2 Zd5 (e2 Zj (Zb 2) (e2 Zj (Zb 0) (eC (.int 1)))) (eC (.int 0)))) (Zal (e2 Zj (Zb 0) (eC (.int 2)))) (Zae)) (Zal (e2 Zr (Zb 1) (eC (.int 1)))))
noncomputable def Zcf : F3 := mkF 3 3 ZeT
noncomputable def Zd6 : S3 := Zy (sIf (e2 Zay (Zb 0) (eC (.str [97, 100, 100]))) (Zal (e2 Zr (Zb 1) (Zb 2))) (Zae)) (Zy (sIf (e2 Zay (Zb 0) (eC (.str [115, 117, 98]))) (Zal (e2 ZcP (Zb 1) (Zb 2))) (Zae)) (Zal (eIf (e2 Zd5 (Zb 1) (Zb 2)) (eC (.int 1)) (eC (.int 0)))))
noncomputable def Zb6 : F3 := mkF 3 3 Zd6
noncomputable def Zgd : S3 := Zal (e2 Zr (e2 Zr (eSl (Zb 0) (ZaB) (Zaw (Zb 1))) (Zba (Za (Zb 2) (Zg)))) (eSl (Zb 0) (Zaw (e2 Zr (Zb 1) (eC (.int 1)))) (ZaB)))
noncomputable def Zby : F3 := mkF 3 3 Zgd
noncomputable def ZeU : S3 := Zal (Zcg ZjZ Zkb (Zaz Zfq (Za (Zb 0) (Zg))) (Za (Zb 1) (Za (eC (.int 0)) (Zg))))
noncomputable def ZcF : F3 := mkF 2 2 ZeU
noncomputable def ZdP : S3 := Zy (Zaf 3 (e2 Zj (Zb 0) (eC (.int 0)))) (Zy (sIf (e2 Zay (Zb 3) (eC (.str [112, 117, 116]))) (Zal (Zu Zby (Za (Zb 1) (Za (e2 Zj (Zb 0) (eC (.int 1))) (Za (e2 Zj (Zb 0) (eC (.int 2))) (Zg)))))) (Zae)) (Zy (sIf (e2 Zay (Zb 3) (eC (.str [103, 101, 116]))) (Zal (Zu Zby (Za (Zb 1) (Za (e2 Zj (Zb 0) (eC (.int 1))) (Za (Zu ZcF (Za (Zb 2) (Za (e2 Zj (Zb 1) (e2 Zj (Zb 0) (eC (.int 2)))) (Zg)))) (Zg)))))) (Zae)) (Zy (sIf (e2 Zkh (Zb 3) (Zba (Za (eC (.str [97, 100, 100])) (Za (eC (.str [115, 117, 98])) (Za (eC (.str [109, 111, 114, 101])) (Zg)))))) (Zal (Zu Zby (Za (Zb 1) (Za (e2 Zj (Zb 0) (eC (.int 1))) (Za (Zu Zb6 (Za (Zb 3) (Za (e2 Zj (Zb 1) (e2 Zj (Zb 0) (eC (.int 2)))) (Za (e2 Zj (Zb 1) (e2 Zj (Zb 0) (eC (.int 3)))) (Zg))))) (Zg)))))) (Zae)) (Zal (Zb 1)))))
noncomputable def Zde : F3 := mkF 3 4 ZdP
noncomputable def Zd1 : S3 := Zal (Zcs (e2 ZoK (Zb 0) (eC (.int 0))) (e2 Zkp (Zb 0) (Zb 1)))
noncomputable def Zct : F3 := mkF 2 2 Zd1
noncomputable def ZhM : S3 := Zal (eIf (Zu Zct (Za (Zb 1) (Za (Zaz ZaM (Za (Zb 0) (Zg))) (Zg)))) (e2 Zj (Zb 0) (Zb 1)) (eC .non))
noncomputable def ZeY : F3 := mkF 2 2 ZhM
noncomputable def Zd2 : S3 := Zy (sIf (e2 Zay (e2 Zj (Zb 0) (eC (.int 0))) (eC (.str [103, 101, 116]))) (Zal (Zu Zby (Za (Zb 1) (Za (e2 Zj (Zb 0) (eC (.int 1))) (Za (e2 Zj (Zb 2) (e2 Zj (Zb 0) (eC (.int 1)))) (Zg)))))) (Zae)) (Zal (Zu Zde (Za (Zb 0) (Za (Zb 1) (Za (Zba (Zg)) (Zg))))))
noncomputable def Zbl : F3 := mkF 3 3 Zd2
noncomputable def Zfs : S3 := Zy (Zaf 3 (e2 Zj (Zb 1) (eC (.int 0)))) (Zy (Zaf 4 (e2 Zj (Zb 1) (eC (.int 1)))) (Zy (Zaf 5 (Zu ZeY (Za (Zb 0) (Za (Zb 3) (Zg))))) (Zy (sIf (eOr (e2 Zm1 (Zb 5) (eC .non)) (e2 Zay (e2 Zj (Zb 5) (eC (.int 0))) (eC (.str [104, 97, 108, 116])))) (Zal (eC (.bl false))) (Zae)) (Zal (e2 Zay (Zb 2) (Zba (Za (Zu Zcf (Za (Zb 5) (Za (Zb 3) (Za (Zb 4) (Zg))))) (Za (Zu Zbl (Za (Zb 5) (Za (Zb 4) (Za (e2 Zj (Zb 2) (eC (.int 1))) (Zg))))) (Zg)))))))))
noncomputable def Zc3 : F3 := mkF 3 6 Zfs
noncomputable def Zf7 : S3 := Zy (sIf (Zcs (e2 Zbm (Zb 0) (eC .non)) (e2 ZiV (eSl (Zb 1) (ZaB) (Zaw (eC (.int 2)))) (eSl (Zb 0) (ZaB) (Zaw (eC (.int 2)))))) (Zal (eC (.bl false))) (Zae)) (Zy (sIf (e2 Ze7 (e2 Zj (Zb 1) (eC (.int 2))) (eC (.str [103, 101, 116]))) (Zal (eC (.bl true))) (Zae)) (Zy (Zaf 2 (Zcs (e2 Zbm (Zb 0) (eC .non)) (e2 Zay (e2 Zj (Zb 0) (eC (.int 0))) (e2 Zj (Zb 1) (eC (.int 0)))))) (Zal (e2 Zay (e2 Zj (Zb 1) (eC (.int 3))) (eIf (Zb 2) (e2 Zj (Zb 0) (eC (.int 3))) (eC (.int 0)))))))
noncomputable def Zcr : F3 := mkF 2 3 Zf7
noncomputable def Zdm : S3 := Zy (ZeF (ZbM (e2 ZcP (Zaz ZaM (Za (Zb 1) (Zg))) (eC (.int 1)))) (Zb2 2) (sIf (e1 Zck (Zu Zc3 (Za (Zb 0) (Za (e2 Zj (Zb 1) (Zb 2)) (Za (e2 Zj (Zb 1) (e2 Zr (Zb 2) (eC (.int 1)))) (Zg)))))) (Zal (Zb 2)) (Zae))) (Zal (eC .non))
noncomputable def ZbN : F3 := mkF 2 3 Zdm
noncomputable def ZcK : S3 := Zy (Zaf 2 (Zb 0)) (Zy (Zf9 (ZhV (Zb 1)) (Zc9 [3, 4]) (Zy (sIf (e1 Zck (Zu Zcr (Za (Zb 2) (Za (Zb 4) (Zg))))) (Zal (Zb 3)) (Zae)) (Zaf 2 (Zb 4)))) (Zal (eC .non)))
noncomputable def ZbY : F3 := mkF 2 5 ZcK
noncomputable def Zey : S3 := Zal (Zcs (e1 (Ze6 .int) (Zb 0)) (e1 Zck (e1 (Ze6 .bool) (Zb 0))))
noncomputable def ZcR : F3 := mkF 1 1 Zey
noncomputable def Zdx : S3 := Zy (sIf (e1 Zck (e1 (Ze6 .list) (Zb 0))) (Zgz) (Zae)) (Zy (Zaf 3 (eC (.int 0))) (ZeF (ZfC (Zb 0)) (Zb2 4) (Zy (sIf (eOr (e1 Zck (Zu ZcR (Za (Zb 4) (Zg)))) (eOr (e2 Zkp (Zb 4) (e2 Zr (Zb 3) (Zb 1))) (e2 Zd5 (Zb 4) (Zb 2)))) (Zgz) (Zae)) (Zaf 3 (Zb 4)))))
noncomputable def Za3 : F3 := mkF 3 5 Zdx
noncomputable def Zfn : S3 := Zy (ZaA (Zu Za3 (Za (Zb 1) (Za (eC (.int 1)) (Za (e2 ZcP (Zaz ZaM (Za (Zb 0) (Zg))) (eC (.int 2))) (Zg)))))) (Zal (Zll (Zj1 (e2 Zr (Zbk (Za (eC (.int 0)) (Zg))) (Zb 1)) (e2 Zr (Zb 1) (Zbk (Za (e2 ZcP (Zaz ZaM (Za (Zb 0) (Zg))) (eC (.int 1))) (Zg))))) 2 (Zc9 [2, 3]) [] (eSl (Zb 0) (Zaw (Zb 2)) (Zaw (e2 Zr (Zb 3) (eC (.int 1)))))))
noncomputable def Zdt : F3 := mkF 2 2 Zfn
noncomputable def ZfZ : S3 := Zy (ZaA (Zu Za3 (Za (Zb 1) (Za (eC (.int 0)) (Za (Zaz ZaM (Za (Zb 0) (Zg))) (Zg)))))) (Zal (Zll (Zj1 (e2 Zr (Zbk (Za (eC (.int 0)) (Zg))) (Zb 1)) (e2 Zr (Zb 1) (Zbk (Za (Zaz ZaM (Za (Zb 0) (Zg))) (Zg))))) 2 (Zc9 [2, 3]) [] (eSl (Zb 0) (Zaw (Zb 2)) (Zaw (Zb 3)))))
noncomputable def ZcX : F3 := mkF 2 2 ZfZ
noncomputable def Zes : S3 := Zal (Zu ZbN (Za (Zb 0) (Za (Zb 1) (Zg))))
noncomputable def ZbU : F3 := mkF 2 2 Zes
noncomputable def ZeW : S3 := Zal (Zu ZbY (Za (Zb 0) (Za (Zb 1) (Zg))))
noncomputable def ZbJ : F3 := mkF 2 2 ZeW
noncomputable def Zec : S3 := Zy (sIf (e2 Zay (Zaz ZaM (Za (Zb 0) (Zg))) (eC (.int 0))) (Zgz) (Zae)) (Zy (Zaf 1 (Zbk (Zg))) (Zy (ZeF (ZfC (Zb 0)) (Zb2 2) (Zy (sIf (e2 Zay (Zaz ZaM (Za (Zb 2) (Zg))) (eC (.int 0))) (Zgz) (Zae)) (Zy (sIf (Zcs (e2 Zd5 (Zaz ZaM (Za (Zb 1) (Zg))) (eC (.int 0))) (e2 Ze7 (e2 Zj (Zb 2) (eC (.int 0))) (e2 Zj (Zb 1) (e1 Zdv (eC (.int 1)))))) (Zgz) (Zae)) (ZaA (Zcg tyL Zcp (Zb 1) (Za (eIf (e2 Zay (Zaz ZaM (Za (Zb 1) (Zg))) (eC (.int 0))) (Zb 2) (eSl (Zb 2) (Zaw (eC (.int 1))) (ZaB))) (Zg))))))) (Zal (Zaz ZbL (Za (Zb 1) (Zg))))))
noncomputable def ZcL : F3 := mkF 1 3 Zec
noncomputable def ZcA : S3 := Zy (Zaf 1 (e2 Zj (Zb 0) (eC (.int 0)))) (Zy (Zaf 2 (e2 Zj (Zb 0) (eC (.int 1)))) (Zy (ZhW (Zb 0) (eC (.int 1)) (e2 Zr (Zb 2) (eC (.int 1)))) (Zy (sIf (e2 Zkp (Zb 2) (Zaz ZaM (Za (Zb 1) (Zg)))) (Zal (e2 Zj (Zb 1) (Zb 2))) (Zae)) (Zy (sIf (e2 Zay (Zaz ZaM (Za (Zb 1) (Zg))) (eC (.int 0))) (Zal (e2 Zr (e2 Zgc (e2 Zgc (Zb 2) (Zb 2)) (eC (.int 3))) (Zb 2))) (Zae)) (Zal (e2 Zr (e2 ZaE (e2 Zj (Zb 1) (e2 Zaq (Zb 2) (Zaz ZaM (Za (Zb 1) (Zg))))) (eC (.int 2))) (e2 Zgc (Zb 2) (Zb 2))))))))
noncomputable def Zz : F3 := mkF 1 3 ZcA
noncomputable def Zd4 : S3 := Zy (Zaf 1 (Zbk (Zg))) (Zy (Zf9 (ZhV (Zb 0)) (Zc9 [2, 3]) (Zy (Zaf 4 (e2 Zj (Zbk (Za (eC (.str [112, 117, 116])) (Za (eC (.str [97, 100, 100])) (Za (eC (.str [115, 117, 98])) (Za (eC (.str [109, 111, 114, 101])) (Za (eC (.str [103, 101, 116])) (Za (eC (.str [115, 101, 116])) (Za (eC (.str [119, 104, 101, 110])) (Za (eC (.str [106, 117, 109, 112])) (Za (eC (.str [116, 101, 108, 108])) (Za (eC (.str [112, 117, 116])) (Zg)))))))))))) (e2 Zaq (Zb 3) (eC (.int 10))))) (Zy (Zaf 5 (e2 ZaE (Zb 3) (eC (.int 10)))) (Zy (Zaf 6 (e2 Zaq (Zb 5) (eC (.int 8)))) (Zy (Zaf 7 (e2 Zaq (e2 ZaE (Zb 5) (eC (.int 8))) (eC (.int 8)))) (Zy (Zaf 8 (e2 Zaq (e2 ZaE (Zb 5) (eC (.int 64))) (eC (.int 8)))) (Zy (Zaf 9 (e2 Zr (e2 Zr (Zb 2) (eC (.int 1))) (e2 Zaq (e2 ZaE (Zb 5) (eC (.int 512))) (e2 ZcP (Zaz ZaM (Za (Zb 0) (Zg))) (Zb 2))))) (Zy (sIf (e2 Zay (e2 Zaq (e2 ZaE (Zb 5) (eC (.int 5))) (eC (.int 4))) (eC (.int 1))) (Zaf 9 (e2 Zaq (e2 ZaE (Zb 5) (eC (.int 512))) (e2 Zr (Zaz ZaM (Za (Zb 0) (Zg))) (eC (.int 1))))) (Zae)) (sIf (e2 Zay (Zb 4) (eC (.str [112, 117, 116]))) (ZaA (Zcg tyL ZaK (Zb 1) (Za (Zba (Za (Zb 4) (Za (Zb 6) (Za (e2 Zj (Zbk (Za (e2 Zaq (e2 ZaE (Zb 5) (eC (.int 8))) (eC (.int 3))) (Za (e2 ZcP (eC (.int 0)) (e2 Zaq (e2 ZaE (Zb 5) (eC (.int 8))) (e2 Zft (eC (.int 10)) (eC (.int 40))))) (Za (e2 Zaq (e2 ZaE (Zb 5) (eC (.int 8))) (e2 Zft (eC (.int 10)) (eC (.int 40)))) (Zg))))) (e2 Zaq (Zb 7) (eC (.int 3)))) (Zg))))) (Zg)))) (sIf (e2 ZgW (Zb 4) (Zbk (Za (eC (.str [97, 100, 100])) (Za (eC (.str [115, 117, 98])) (Za (eC (.str [109, 111, 114, 101])) (Zg)))))) (ZaA (Zcg tyL ZaK (Zb 1) (Za (Zba (Za (Zb 4) (Za (Zb 6) (Za (Zb 7) (Za (Zb 8) (Zg)))))) (Zg)))) (sIf (e2 ZgW (Zb 4) (Zbk (Za (eC (.str [103, 101, 116])) (Za (eC (.str [115, 101, 116])) (Zg))))) (ZaA (Zcg tyL ZaK (Zb 1) (Za (Zba (Za (Zb 4) (Za (Zb 6) (Za (Zb 7) (Zg))))) (Zg)))) (sIf (e2 Zay (Zb 4) (eC (.str [119, 104, 101, 110]))) (ZaA (Zcg tyL ZaK (Zb 1) (Za (Zba (Za (Zb 4) (Za (Zb 6) (Za (Zb 9) (Zg))))) (Zg)))) (sIf (e2 Zay (Zb 4) (eC (.str [106, 117, 109, 112]))) (ZaA (Zcg tyL ZaK (Zb 1) (Za (Zba (Za (Zb 4) (Za (Zb 9) (Zg)))) (Zg)))) (ZaA (Zcg tyL ZaK (Zb 1) (Za (Zba (Za (Zb 4) (Za (Zb 6) (Zg)))) (Zg))))))))))))))))) (Zy (Zaf 10 (Zba (Za (eC (.str [104, 97, 108, 116])) (Zg)))) (Zy (sIf (Zcs (e2 Zd5 (Zaz ZaM (Za (Zb 0) (Zg))) (eC (.int 0))) (e2 Zay (e2 Zaq (e2 Zj (Zb 0) (e1 Zdv (eC (.int 1)))) (eC (.int 4))) (eC (.int 1)))) (Zaf 10 (Zba (Za (eC (.str [106, 117, 109, 112])) (Za (e2 Zaq (e2 ZaE (e2 Zj (Zb 0) (e1 Zdv (eC (.int 1)))) (eC (.int 4))) (e2 Zr (Zaz ZaM (Za (Zb 0) (Zg))) (eC (.int 1)))) (Zg))))) (Zae)) (Zal (Zaz ZbL (Za (e2 Zr (Zb 1) (Zbk (Za (Zb 10) (Zg)))) (Zg)))))))
noncomputable def Zdy : F3 := mkF 1 11 Zd4
noncomputable def ZaD : S3 := Zy (Zaf 1 (e2 Zr (Zb 1) (eC (.int 1)))) (Zy (Zaf 4 (eC .non)) (Zy (sIf (e2 Zay (e2 Zj (Zb 0) (eC (.int 0))) (eC (.str [112, 117, 116]))) (Zaf 4 (e2 Zj (Zb 0) (eC (.int 2)))) (Zae)) (Zy (sIf (e2 Zay (e2 Zj (Zb 0) (eC (.int 0))) (eC (.str [97, 100, 100]))) (Zaf 4 (e2 Zr (e2 Zj (Zb 2) (e2 Zj (Zb 0) (eC (.int 2)))) (e2 Zj (Zb 2) (e2 Zj (Zb 0) (eC (.int 3)))))) (Zae)) (Zy (sIf (e2 Zay (e2 Zj (Zb 0) (eC (.int 0))) (eC (.str [115, 117, 98]))) (Zaf 4 (e2 ZcP (e2 Zj (Zb 2) (e2 Zj (Zb 0) (eC (.int 2)))) (e2 Zj (Zb 2) (e2 Zj (Zb 0) (eC (.int 3)))))) (Zae)) (Zy (sIf (e2 Zay (e2 Zj (Zb 0) (eC (.int 0))) (eC (.str [109, 111, 114, 101]))) (Zaf 4 (e2 Zj (Zbk (Za (eC (.int 0)) (Za (eC (.int 1)) (Zg)))) (Zaz Zli (Za (e2 Zd5 (e2 Zj (Zb 2) (e2 Zj (Zb 0) (eC (.int 2)))) (e2 Zj (Zb 2) (e2 Zj (Zb 0) (eC (.int 3))))) (Zg))))) (Zae)) (Zy (sIf (e2 Zay (e2 Zj (Zb 0) (eC (.int 0))) (eC (.str [103, 101, 116]))) (Zaf 4 (Zb 3)) (Zae)) (Zy (sIf (eOr (e2 Zay (e2 Zj (Zb 0) (eC (.int 0))) (eC (.str [106, 117, 109, 112]))) (Zcs (e2 Zay (e2 Zj (Zb 0) (eC (.int 0))) (eC (.str [119, 104, 101, 110]))) (e2 Zd5 (e2 Zj (Zb 2) (e2 Zj (Zb 0) (eC (.int 1)))) (eC (.int 0))))) (Zaf 1 (e2 Zj (Zb 0) (e1 Zdv (eC (.int 1))))) (Zae)) (Zy (sIf (e2 Zbm (Zb 4) (eC .non)) (Zaf 2 (e2 Zr (e2 Zr (eSl (Zb 2) (ZaB) (Zaw (e2 Zj (Zb 0) (eC (.int 1))))) (Zba (Za (Zb 4) (Zg)))) (eSl (Zb 2) (Zaw (e2 Zr (e2 Zj (Zb 0) (eC (.int 1))) (eC (.int 1)))) (ZaB)))) (Zae)) (Zal (Zba (Za (Zb 1) (Za (Zb 2) (Zg)))))))))))))
noncomputable def Zbx : F3 := mkF 4 5 ZaD
noncomputable def Zco : S3 := Zy (sIf (e2 Zay (e2 Zaq (Zb 0) (eC (.int 4))) (eC (.int 0))) (Zal (e2 Zaq (e2 ZaE (Zb 0) (eC (.int 4))) (e2 Zft (eC (.int 10)) (eC (.int 40))))) (Zae)) (Zy (sIf (e2 Zay (e2 Zaq (Zb 0) (eC (.int 4))) (eC (.int 1))) (Zal (e2 ZcP (e1 Zdv (eC (.int 1))) (e2 Zaq (e2 ZaE (Zb 0) (eC (.int 4))) (e2 Zft (eC (.int 10)) (eC (.int 40)))))) (Zae)) (Zal (e2 Zaq (e2 ZaE (Zb 0) (eC (.int 4))) (eC (.int 5)))))
noncomputable def Zah : F3 := mkF 1 1 Zco
noncomputable def ZdR : S3 := Zy (Zaf 2 (e2 Zaq (Zu Zz (Za (Zb 0) (Zg))) (Zaz ZaM (Za (Zb 1) (Zg))))) (Zy (Zaf 3 (Zaz ZbL (Za (eLC (ZbM (eC (.int 8))) 1 (Zb2 6) [] (Zu Zah (Za (Zu Zz (Za (Zb 0) (Zg))) (Zg)))) (Zg)))) (Zy (Zaf 4 (Zbk (Za (Zba (Za (Zb 2) (Za (Zb 3) (Zg)))) (Zg)))) (Zy (Zaf 5 (e2 Zr (eC (.int 10)) (e2 Zaq (Zu Zz (Za (Zb 0) (Zg))) (eC (.int 51))))) (Zy (Zlk (Zcs (e2 ZkC (Zaz ZaM (Za (Zb 4) (Zg))) (Zb 5)) (e2 Ze7 (e2 Zj (e2 Zj (Zb 1) (Zb 2)) (eC (.int 0))) (eC (.str [104, 97, 108, 116])))) (Zy (Zie (Zu Zbx (Za (e2 Zj (Zb 1) (Zb 2)) (Za (Zb 2) (Za (Zb 3) (Za (Zu Zah (Za (Zu Zz (Za (Zb 0) (Zg))) (Zg))) (Zg)))))) (Zc9 [2, 3])) (ZaA (Zcg tyL ZaK (Zb 4) (Za (Zba (Za (Zb 2) (Za (Zb 3) (Zg)))) (Zg)))))) (Zal (Zb 4))))))
noncomputable def Zdd : F3 := mkF 2 6 ZdR
noncomputable def Zfp : S3 := Zy (Zaf 1 (Zbk (Zg))) (Zy (Zie (Zba (Za (eC (.int 0)) (Za (eC (.int 0)) (Za (eC (.int 0)) (Zg))))) (Zc9 [2, 3, 4])) (Zy (ZeF (ZfC (Zb 0)) (Zb2 5) (Zy (Zaf 6 (e2 ZaE (Zb 5) (eC (.int 16)))) (Zy (sIf (e2 Zay (e2 Zaq (Zb 5) (eC (.int 4))) (eC (.int 0))) (Zy (Zaf 2 (e2 Zr (e2 Zr (Zb 2) (eC (.int 1))) (e2 Zaq (Zb 6) (eC (.int 3))))) (Zaf 4 (eC (.int 0)))) (Zae)) (Zy (Zaf 3 (e2 Zr (e2 Zr (Zb 3) (eC (.int 1))) (e2 Zaq (Zb 6) (eC (.int 2))))) (Zy (Zaf 7 (e2 Zj (Zbk (Za (eC (.str [103, 101, 116])) (Za (eC (.str [115, 101, 116])) (Zg)))) (e2 Zaq (e2 ZaE (Zb 5) (eC (.int 4))) (eC (.int 2))))) (Zy (sIf (e2 Zay (Zb 7) (eC (.str [115, 101, 116]))) (Zaf 4 (Zu Zah (Za (Zb 6) (Zg)))) (Zae)) (ZaA (Zcg tyL ZaK (Zb 1) (Za (Zba (Za (Zb 2) (Za (Zb 3) (Za (Zb 7) (Za (Zb 4) (Zg)))))) (Zg)))))))))) (Zal (Zb 1))))
noncomputable def Zdw : F3 := mkF 1 8 Zfp
noncomputable def Zee : S3 := Zy (sIf (e2 Zay (Zb 0) (Zbk (Zg))) (Zal (Zb 0)) (Zae)) (Zy (Zaf 3 (e2 Zaq (Zb 1) (Zaz ZaM (Za (Zb 0) (Zg))))) (Zy (Zaf 4 (e2 Zj (Zb 0) (Zb 3))) (Zy (sIf (e2 Zay (Zb 2) (eC (.int 0))) (Zy (Zaf 5 (e2 Zaq (e2 ZaE (Zb 1) (eC (.int 61))) (eC (.int 8)))) (Zaf 4 (Zba (Za (e2 Zr (e2 Zj (Zb 4) (eC (.int 0))) (e2 Zaq (e2 ZaE (Zb 1) (eC (.int 500))) (eC (.int 2)))) (Za (e2 Zr (e2 Zr (eSl (e2 Zj (Zb 4) (eC (.int 1))) (ZaB) (Zaw (Zb 5))) (Zba (Za (e2 Zr (e2 Zj (e2 Zj (Zb 4) (eC (.int 1))) (Zb 5)) (eC (.int 1))) (Zg)))) (eSl (e2 Zj (Zb 4) (eC (.int 1))) (Zaw (e2 Zr (Zb 5) (eC (.int 1)))) (ZaB))) (Zg)))))) (Zaf 4 (Zba (Za (e2 Zj (Zb 4) (eC (.int 0))) (Za (e2 ZcP (e2 Zj (Zb 4) (eC (.int 1))) (e2 Zaq (e2 ZaE (Zb 1) (eC (.int 61))) (eC (.int 3)))) (Za (e2 Zj (Zb 4) (eC (.int 2))) (Za (e2 Zr (e2 Zr (e2 Zj (Zb 4) (eC (.int 3))) (eC (.int 1))) (e2 Zaq (e2 ZaE (Zb 1) (eC (.int 200))) (eC (.int 2)))) (Zg)))))))) (Zal (e2 Zr (e2 Zr (eSl (Zb 0) (ZaB) (Zaw (Zb 3))) (Zbk (Za (Zb 4) (Zg)))) (eSl (Zb 0) (Zaw (e2 Zr (Zb 3) (eC (.int 1)))) (ZaB)))))))
noncomputable def ZaN : F3 := mkF 3 6 Zee
noncomputable def Zfr : S3 := Zy (Zaf 4 (Zbk (Zg))) (Zy (ZeF (ZfH (Zb 1) (Zb 2)) (Zb2 5) (sIf (eOr (e2 Zay (Zb 3) (eC (.int 0))) (e2 Zay (e2 Zaq (Zu Zz (Za (Zb 0) (Zg))) (eC (.int 5))) (eC (.int 1)))) (ZaA (Zcg tyL ZaK (Zb 4) (Za (Zb 5) (Zg)))) (Zae))) (Zal (Zb 4)))
noncomputable def Zbf : F3 := mkF 4 6 Zfr
noncomputable def ZeO : S3 := Zy (ZeF (ZbM (Zaz ZaM (Za (Zb 1) (Zg)))) (Zb2 3) (sIf (e2 Zbm (e2 Zj (Zb 1) (Zb 3)) (eC .non)) (Zal (Zcs (e2 Zbm (Zb 0) (eC .non)) (e2 Zay (Zb 0) (e2 Zr (e2 Zj (Zb 2) (Zb 3)) (e2 Zj (Zb 1) (Zb 3)))))) (Zae))) (Zal (e2 Zm1 (Zb 0) (eC .non)))
noncomputable def ZbI : F3 := mkF 3 4 ZeO
noncomputable def ZdM : S3 := Zy (Zaf 3 (Zu Zdt (Za (Zb 1) (Za (Zb 2) (Zg))))) (Zy (Zaf 4 (eLC (ZfC (Zb 3)) 1 (Zb2 5) [] (Zu ZbU (Za (Zb 0) (Za (Zb 5) (Zg)))))) (Zal (Zcs (Zu ZbI (Za (Zu ZbU (Za (Zb 0) (Za (Zb 1) (Zg)))) (Za (Zb 4) (Za (e2 Zr (Zbk (Za (eC (.int 0)) (Zg))) (Zb 2)) (Zg))))) (e2 Zay (Zu ZcL (Za (Zb 3) (Zg))) (Zb 1)))))
noncomputable def ZaX : F3 := mkF 3 5 ZdM
noncomputable def ZdX : S3 := Zy (Zaf 2 (Zbk (Zg))) (Zy (Zaf 3 (Zba (Zg))) (Zy (Zaf 4 (eC .non)) (Zy (ZeF (ZfC (Zu ZcX (Za (Zb 0) (Za (Zb 1) (Zg))))) (Zb2 5) (Zy (ZaA (Zcg tyL ZaK (Zb 2) (Za (Zu ZbJ (Za (Zb 4) (Za (Zb 5) (Zg)))) (Zg)))) (Zy (Zaf 3 (e2 Zr (Zb 3) (Zb 5))) (sIf (e2 Zd5 (Zaz ZaM (Za (Zb 5) (Zg))) (eC (.int 0))) (Zaf 4 (e2 Zj (Zb 5) (e1 Zdv (eC (.int 1))))) (Zae))))) (Zal (Zcs (Zu ZbI (Za (Zu ZbJ (Za (eC .non) (Za (Zb 0) (Zg)))) (Za (Zb 2) (Za (e2 Zr (Zbk (Za (eC (.int 0)) (Zg))) (Zb 1)) (Zg))))) (e2 Zay (Zb 3) (Zb 0)))))))
noncomputable def Za6 : F3 := mkF 2 6 ZdX
noncomputable def Zkw : S3 := Zy (Zaf 1 (Zbk (Za (eSl (Zb 0) (ZaB) (Zaw (eC (.int 400)))) (Za (eC (.int 0)) (Zg))))) (Zy (Zaf 2 (Zu Zz (Za (Zb 1) (Zg)))) (Zy (Zaf 3 (Zu Zdy (Za (eSl (Zb 0) (ZaB) (Zaw (eC (.int 40)))) (Zg)))) (Zy (Zaf 4 (Zu Zdd (Za (Zb 1) (Za (Zb 3) (Zg))))) (Zy (Zaf 5 (Zu Zdw (Za (eSl (Zb 0) (ZaB) (Zaw (eC (.int 200)))) (Zg)))) (Zy (ZeF (ZbM (e2 Zaq (Zb 2) (eC (.int 3)))) (Zb2 6) (Zy (Zaf 4 (Zu ZaN (Za (Zb 4) (Za (Zu Zz (Za (Zb 1) (Zg))) (Za (eC (.int 0)) (Zg)))))) (Zaf 5 (Zu ZaN (Za (Zb 5) (Za (Zu Zz (Za (Zb 1) (Zg))) (Za (eC (.int 1)) (Zg)))))))) (Zy (ZeF (ZbM (eC (.int 3))) (Zb2 7) (Zy (Zaf 8 (Zu Zbf (Za (Zb 1) (Za (eC (.int 1)) (Za (e2 ZcP (Zaz ZaM (Za (Zb 4) (Zg))) (eC (.int 1))) (Za (Zb 7) (Zg))))))) (Zy (sIf (e1 Zck (Zu ZaX (Za (Zb 3) (Za (Zaz ZbL (Za (Zb 4) (Zg))) (Za (Zb 8) (Zg)))))) (Zal (eC (.bl false))) (Zae)) (Zy (Zaf 8 (Zu Zbf (Za (Zb 1) (Za (eC (.int 0)) (Za (e2 Zr (Zaz ZaM (Za (Zb 5) (Zg))) (eC (.int 1))) (Za (Zb 7) (Zg))))))) (sIf (e1 Zck (Zu Za6 (Za (Zaz ZbL (Za (Zb 5) (Zg))) (Za (Zb 8) (Zg))))) (Zal (eC (.bl false))) (Zae)))))) (Zal (eC (.bl true)))))))))
noncomputable def Zjm : F3 := mkF 1 9 Zkw
end
end Law
namespace Law
open PySem PySem.Spec PyProof.Rows L2 L3
noncomputable def top (i : Nat) : Stmt := PySem.Challenge.pw_stepledger_k45_whole_pieces_and_whole.main.body.getD i (.Pass ⟨0, 0, 0, 0⟩)
noncomputable abbrev Zb7 : Stmt := top 4
noncomputable abbrev Zb8 : Stmt := top 5
noncomputable abbrev ZdL : Stmt := top 6
noncomputable abbrev ZcT : Stmt := top 7
noncomputable abbrev Zcb : Stmt := top 8
noncomputable abbrev Zcy : Stmt := top 10
noncomputable abbrev ZcB : Stmt := top 12
noncomputable abbrev ZdE : Stmt := top 13
noncomputable abbrev ZbE : Stmt := top 14
noncomputable abbrev ZcY : Stmt := top 15
noncomputable abbrev ZaV : Stmt := top 16
noncomputable abbrev Za4 : Stmt := top 17
noncomputable abbrev Zcu : Stmt := top 19
noncomputable abbrev ZcS : Stmt := top 20
noncomputable abbrev Za2 : Stmt := top 21
noncomputable abbrev Zc1 : Stmt := top 22
noncomputable abbrev ZbS : Stmt := top 23
noncomputable abbrev Zcd : Stmt := top 24
noncomputable abbrev ZbC : Stmt := top 25
noncomputable abbrev Zcw : Stmt := top 27
noncomputable abbrev Zcx : Stmt := top 28
noncomputable abbrev ZbV : Stmt := top 29
noncomputable abbrev ZbT : Stmt := top 30
noncomputable abbrev Zcc : Stmt := top 31
noncomputable abbrev Zcv : Stmt := top 32
noncomputable abbrev ZbB : Stmt := top 33
noncomputable abbrev Zcz : Stmt := top 34
noncomputable abbrev Zb9 : Stmt := top 35
noncomputable abbrev Zbh : Stmt := top 36
noncomputable abbrev Zbt : Stmt := top 37
noncomputable abbrev ZeR : Stmt := top 38
structure Txt (K : W.Frag) (mg : Str → Option Value) : Prop where
  kin : True
  m_bool : mg "bool" = none
  m_dict : mg "dict" = none
  m_enumerate : mg "enumerate" = none
  m_int : mg "int" = none
  m_isinstance : mg "isinstance" = none
  m_len : mg "len" = none
  m_list : mg "list" = none
  m_range : mg "range" = none
  m_tuple : mg "tuple" = none
  m_zip : mg "zip" = none
section
variable {P : Program} {w : World} {K : W.Frag} {mg : Str → Option Value} {base : Heap}
theorem Zgp : Zav ["row", "place", "boxes"] ["row", "place", "boxes"] (Zq Zb7) := ⟨rfl, rfl, rfl, by decide +kernel, rfl, by decide +kernel, by decide +kernel⟩
theorem Zgk (A : Zat K mg "next_place" Zb7 ["row", "place", "boxes"]) (T : Txt K mg) : Fn3 P w K mg base 1 "next_place" ["row", "place", "boxes"] Zcf :=
  Fn3.of (N := ["row", "place", "boxes"]) (k := 0) A Zgp fun f cdv A outer s H E hr => by
    have hu := Zcq hr
    unfold ZeT
    refine Zh ?_ ?_
    ·refine ZaJ ?_ ?_ ?_
     ·refine Zai ?_ ?_ ?_
      ·exact (ZbQ hu)
      ·refine Zab ?_ ?_ ?_
       ·exact Zac
       ·exact Zd 0
       ·exact Zm
      ·exact ZaO
     ·refine Zo ?_
      refine Zak ?_
      refine Zab ?_ ?_ ?_
      ·exact Zac
      ·exact Zd 0
      ·exact Zm
     ·exact Zan
    ·refine Zh ?_ ?_
     ·refine ZaJ ?_ ?_ ?_
      ·refine CW.ct ?_
       refine Ze5 ?_ ?_
       ·refine Zai ?_ ?_ ?_
        ·exact (ZbQ hu)
        ·refine Zab ?_ ?_ ?_
         ·exact Zac
         ·exact Zd 0
         ·exact Zm
        ·exact ZaO
       ·refine Zeh ?_
        refine Zai ?_ ?_ ?_
        ·exact Zh8
        ·refine Zab ?_ ?_ ?_
         ·exact Zac
         ·exact Zd 2
         ·refine Zab ?_ ?_ ?_
          ·exact Zac
          ·exact Zd 0
          ·exact Zm
        ·exact Zm
      ·refine Zo ?_
       refine Zak ?_
       refine Zab ?_ ?_ ?_
       ·exact Zac
       ·exact Zd 0
       ·exact Zm
      ·exact Zan
     ·refine Zo ?_
      refine Zak ?_
      refine Zv ?_ ?_ ?_
      ·exact ZaI
      ·exact Zd 1
      ·exact Zm
theorem Zj2 : Zav ["name", "one", "other"] ["name", "one", "other"] (Zq ZdL) := ⟨rfl, rfl, rfl, by decide +kernel, rfl, by decide +kernel, by decide +kernel⟩
theorem Zjx (A : Zat K mg "worked" ZdL ["name", "one", "other"]) (T : Txt K mg) : Fn3 P w K mg base 1 "worked" ["name", "one", "other"] Zb6 :=
  Fn3.of (N := ["name", "one", "other"]) (k := 0) A Zj2 fun f cdv A outer s H E hr => by
    have hu := Zcq hr
    unfold Zd6
    refine Zh ?_ ?_
    ·refine ZaJ ?_ ?_ ?_
     ·refine Zai ?_ ?_ ?_
      ·exact (ZbQ hu)
      ·exact Zd 0
      ·exact ZaO
     ·refine Zo ?_
      refine Zak ?_
      refine Zv ?_ ?_ ?_
      ·exact ZaI
      ·exact Zd 1
      ·exact Zd 2
     ·exact Zan
    ·refine Zh ?_ ?_
     ·refine ZaJ ?_ ?_ ?_
      ·refine Zai ?_ ?_ ?_
       ·exact (ZbQ hu)
       ·exact Zd 0
       ·exact ZaO
      ·refine Zo ?_
       refine Zak ?_
       refine Zv ?_ ?_ ?_
       ·exact Zet
       ·exact Zd 1
       ·exact Zd 2
      ·exact Zan
     ·refine Zo ?_
      refine Zak ?_
      refine Zly ?_ ?_ ?_
      ·refine Zai ?_ ?_ ?_
       ·exact Zh8
       ·exact Zd 1
       ·exact Zd 2
      ·exact Zm
      ·exact Zm
theorem ZhR : Zav ["boxes", "box", "value"] ["boxes", "box", "value"] (Zq ZcT) := ⟨rfl, rfl, rfl, by decide +kernel, rfl, by decide +kernel, by decide +kernel⟩
theorem Zia (A : Zat K mg "with_box" ZcT ["boxes", "box", "value"]) (T : Txt K mg) : Fn3 P w K mg base 1 "with_box" ["boxes", "box", "value"] Zby :=
  Fn3.of (N := ["boxes", "box", "value"]) (k := 0) A ZhR fun f cdv A outer s H E hr => by
    have hu := Zcq hr
    unfold Zgd
    refine Zo ?_
    refine Zak ?_
    refine Zv ?_ ?_ ?_
    ·exact ZaI
    ·refine Zv ?_ ?_ ?_
     ·exact ZaI
     ·refine Zeo ?_ ?_ ?_ ?_
      ·exact Zen
      ·exact Zd 0
      ·exact ZbZ
      ·refine Zbn ?_
       exact Zd 1
     ·refine Zcj ?_
      refine Zc ?_ ?_
      ·exact Zd 2
      ·exact Zk
    ·refine Zeo ?_ ?_ ?_ ?_
     ·exact Zen
     ·exact Zd 0
     ·refine Zbn ?_
      refine Zv ?_ ?_ ?_
      ·exact ZaI
      ·exact Zd 1
      ·exact Zm
     ·exact ZbZ
theorem Zgs : Zav ["cells", "number"] ["cells", "number"] (Zq Zcb) := ⟨rfl, rfl, rfl, by decide +kernel, rfl, by decide +kernel, by decide +kernel⟩
theorem Zgi (A : Zat K mg "cell_value" Zcb ["cells", "number"]) (T : Txt K mg) : Fn3 P w K mg base 1 "cell_value" ["cells", "number"] ZcF :=
  Fn3.of (N := ["cells", "number"]) (k := 0) A Zgs fun f cdv A outer s H E hr => by
    have hu := Zcq hr
    unfold ZeU
    refine Zo ?_
    refine Zak ?_
    refine ZnT ?_ ?_ ?_ ?_
    ·exact hu
    ·refine Zf0 (T := "dict") ?_ ?_ ?_ ?_
     ·exact (ZnC rfl)
     ·exact T.m_dict
     ·exact Zls
     ·refine Zc ?_ ?_
      ·exact Zd 0
      ·exact Zk
    ·exact Zd 1
    ·exact Zm
theorem Zeq : Zav ["row", "boxes", "cells", "name"] ["row", "boxes", "cells"] (Zq Zb8) := ⟨rfl, rfl, rfl, by decide +kernel, rfl, by decide +kernel, by decide +kernel⟩
theorem Zgq (A : Zat K mg "next_boxes" Zb8 ["row", "boxes", "cells"]) (T : Txt K mg) (F_worked : Fn3 P w K mg base 1 "worked" ["name", "one", "other"] Zb6) (F_with_box : Fn3 P w K mg base 1 "with_box" ["boxes", "box", "value"] Zby) (F_cell_value : Fn3 P w K mg base 1 "cell_value" ["cells", "number"] ZcF) : Fn3 P w K mg base 2 "next_boxes" ["row", "boxes", "cells"] Zde :=
  Fn3.of (N := ["row", "boxes", "cells", "name"]) (k := 1) A Zeq fun f cdv A outer s H E hr => by
    have hu := Zcq hr
    unfold ZdP
    refine Zh ?_ ?_
    ·refine Zad 3 ?_ ?_
     ·exact Zeq.nd
     ·refine Zab ?_ ?_ ?_
      ·exact Zac
      ·exact Zd 0
      ·exact Zm
    ·refine Zh ?_ ?_
     ·refine ZaJ ?_ ?_ ?_
      ·refine Zai ?_ ?_ ?_
       ·exact (ZbQ hu)
       ·exact Zd 3
       ·exact ZaO
      ·refine Zo ?_
       refine Zak ?_
       refine Zap (k := 1) (ps := ["boxes", "box", "value"]) ?_ ?_ ?_
       ·exact F_with_box
       ·exact hr.mono (by decide)
       ·refine Zc ?_ ?_
        ·exact Zd 1
        ·refine Zc ?_ ?_
         ·refine Zab ?_ ?_ ?_
          ·exact Zac
          ·exact Zd 0
          ·exact Zm
         ·refine Zc ?_ ?_
          ·refine Zab ?_ ?_ ?_
           ·exact Zac
           ·exact Zd 0
           ·exact Zm
          ·exact Zk
      ·exact Zan
     ·refine Zh ?_ ?_
      ·refine ZaJ ?_ ?_ ?_
       ·refine Zai ?_ ?_ ?_
        ·exact (ZbQ hu)
        ·exact Zd 3
        ·exact ZaO
       ·refine Zo ?_
        refine Zak ?_
        refine Zap (k := 1) (ps := ["boxes", "box", "value"]) ?_ ?_ ?_
        ·exact F_with_box
        ·exact hr.mono (by decide)
        ·refine Zc ?_ ?_
         ·exact Zd 1
         ·refine Zc ?_ ?_
          ·refine Zab ?_ ?_ ?_
           ·exact Zac
           ·exact Zd 0
           ·exact Zm
          ·refine Zc ?_ ?_
           ·refine Zap (k := 1) (ps := ["cells", "number"]) ?_ ?_ ?_
            ·exact F_cell_value
            ·exact hr.mono (by decide)
            ·refine Zc ?_ ?_
             ·exact Zd 2
             ·refine Zc ?_ ?_
              ·refine Zab ?_ ?_ ?_
               ·exact Zac
               ·exact Zd 1
               ·refine Zab ?_ ?_ ?_
                ·exact Zac
                ·exact Zd 0
                ·exact Zm
              ·exact Zk
           ·exact Zk
       ·exact Zan
      ·refine Zh ?_ ?_
       ·refine ZaJ ?_ ?_ ?_
        ·refine Zai ?_ ?_ ?_
         ·exact (ZpE hu)
         ·exact Zd 3
         ·refine Zcj ?_
          refine Zc ?_ ?_
          ·exact ZaO
          ·refine Zc ?_ ?_
           ·exact ZaO
           ·refine Zc ?_ ?_
            ·exact ZaO
            ·exact Zk
        ·refine Zo ?_
         refine Zak ?_
         refine Zap (k := 1) (ps := ["boxes", "box", "value"]) ?_ ?_ ?_
         ·exact F_with_box
         ·exact hr.mono (by decide)
         ·refine Zc ?_ ?_
          ·exact Zd 1
          ·refine Zc ?_ ?_
           ·refine Zab ?_ ?_ ?_
            ·exact Zac
            ·exact Zd 0
            ·exact Zm
           ·refine Zc ?_ ?_
            ·refine Zap (k := 1) (ps := ["name", "one", "other"]) ?_ ?_ ?_
             ·exact F_worked
             ·exact hr.mono (by decide)
             ·refine Zc ?_ ?_
              ·exact Zd 3
              ·refine Zc ?_ ?_
               ·refine Zab ?_ ?_ ?_
                ·exact Zac
                ·exact Zd 1
                ·refine Zab ?_ ?_ ?_
                 ·exact Zac
                 ·exact Zd 0
                 ·exact Zm
               ·refine Zc ?_ ?_
                ·refine Zab ?_ ?_ ?_
                 ·exact Zac
                 ·exact Zd 1
                 ·refine Zab ?_ ?_ ?_
                  ·exact Zac
                  ·exact Zd 0
                  ·exact Zm
                ·exact Zk
            ·exact Zk
        ·exact Zan
       ·refine Zo ?_
        refine Zak ?_
        exact Zd 1
theorem Zhd : Zav ["number", "many"] ["number", "many"] (Zq Zcy) := ⟨rfl, rfl, rfl, by decide +kernel, rfl, by decide +kernel, by decide +kernel⟩
theorem Zhp (A : Zat K mg "is_within" Zcy ["number", "many"]) (T : Txt K mg) : Fn3 P w K mg base 1 "is_within" ["number", "many"] Zct :=
  Fn3.of (N := ["number", "many"]) (k := 0) A Zhd fun f cdv A outer s H E hr => by
    have hu := Zcq hr
    unfold Zd1
    refine Zo ?_
    refine Zak ?_
    refine ZgI ?_ ?_
    ·refine ZdZ ?_ ?_ ?_
     ·exact Zpx
     ·exact Zd 0
     ·exact Zm
    ·refine ZgL ?_
     refine ZdZ ?_ ?_ ?_
     ·exact Znc
     ·exact Zd 0
     ·exact Zd 1
theorem ZjB : Zav ["roll", "place"] ["roll", "place"] (Zq ZdE) := ⟨rfl, rfl, rfl, by decide +kernel, rfl, by decide +kernel, by decide +kernel⟩
theorem ZjD (A : Zat K mg "row_at" ZdE ["roll", "place"]) (T : Txt K mg) (F_is_within : Fn3 P w K mg base 1 "is_within" ["number", "many"] Zct) : Fn3 P w K mg base 2 "row_at" ["roll", "place"] ZeY :=
  Fn3.of (N := ["roll", "place"]) (k := 1) A ZjB fun f cdv A outer s H E hr => by
    have hu := Zcq hr
    unfold ZhM
    refine Zo ?_
    refine Zak ?_
    refine Zly ?_ ?_ ?_
    ·refine Zea ?_
     refine Zap (k := 1) (ps := ["number", "many"]) ?_ ?_ ?_
     ·exact F_is_within
     ·exact hr.mono (by decide)
     ·refine Zc ?_ ?_
      ·exact Zd 1
      ·refine Zc ?_ ?_
       ·refine Zb0 (id := "len") ?_ ?_ ?_ ?_
        ·exact Zb1
        ·exact T.m_len
        ·exact Zbe
        ·refine Zc ?_ ?_
         ·exact Zd 0
         ·exact Zk
       ·exact Zk
    ·refine Zab ?_ ?_ ?_
     ·exact Zac
     ·exact Zd 0
     ·exact Zd 1
    ·exact ZdG
theorem ZfF : Zav ["roll_row", "boxes", "told_boxes"] ["roll_row", "boxes", "told_boxes"] (Zq ZbE) := ⟨rfl, rfl, rfl, by decide +kernel, rfl, by decide +kernel, by decide +kernel⟩
theorem ZfG (A : Zat K mg "boxes_behind" ZbE ["roll_row", "boxes", "told_boxes"]) (T : Txt K mg) (F_next_boxes : Fn3 P w K mg base 2 "next_boxes" ["row", "boxes", "cells"] Zde) (F_with_box : Fn3 P w K mg base 1 "with_box" ["boxes", "box", "value"] Zby) : Fn3 P w K mg base 3 "boxes_behind" ["roll_row", "boxes", "told_boxes"] Zbl :=
  Fn3.of (N := ["roll_row", "boxes", "told_boxes"]) (k := 2) A ZfF fun f cdv A outer s H E hr => by
    have hu := Zcq hr
    unfold Zd2
    refine Zh ?_ ?_
    ·refine ZaJ ?_ ?_ ?_
     ·refine Zai ?_ ?_ ?_
      ·exact (ZbQ hu)
      ·refine Zab ?_ ?_ ?_
       ·exact Zac
       ·exact Zd 0
       ·exact Zm
      ·exact ZaO
     ·refine Zo ?_
      refine Zak ?_
      refine Zap (k := 1) (ps := ["boxes", "box", "value"]) ?_ ?_ ?_
      ·exact F_with_box
      ·exact hr.mono (by decide)
      ·refine Zc ?_ ?_
       ·exact Zd 1
       ·refine Zc ?_ ?_
        ·refine Zab ?_ ?_ ?_
         ·exact Zac
         ·exact Zd 0
         ·exact Zm
        ·refine Zc ?_ ?_
         ·refine Zab ?_ ?_ ?_
          ·exact Zac
          ·exact Zd 2
          ·refine Zab ?_ ?_ ?_
           ·exact Zac
           ·exact Zd 0
           ·exact Zm
         ·exact Zk
     ·exact Zan
    ·refine Zo ?_
     refine Zak ?_
     refine Zap (k := 2) (ps := ["row", "boxes", "cells"]) ?_ ?_ ?_
     ·exact F_next_boxes
     ·exact hr.mono (by decide)
     ·refine Zc ?_ ?_
      ·exact Zd 0
      ·refine Zc ?_ ?_
       ·exact Zd 1
       ·refine Zc ?_ ?_
        ·refine Zcj ?_
         exact Zk
        ·exact Zk
theorem Zdf : Zav ["roll", "row", "behind", "place", "boxes", "roll_row"] ["roll", "row", "behind"] (Zq ZcB) := ⟨rfl, rfl, rfl, by decide +kernel, rfl, by decide +kernel, by decide +kernel⟩
theorem Zhv (A : Zat K mg "step_fits" ZcB ["roll", "row", "behind"]) (T : Txt K mg) (F_next_place : Fn3 P w K mg base 1 "next_place" ["row", "place", "boxes"] Zcf) (F_row_at : Fn3 P w K mg base 2 "row_at" ["roll", "place"] ZeY) (F_boxes_behind : Fn3 P w K mg base 3 "boxes_behind" ["roll_row", "boxes", "told_boxes"] Zbl) : Fn3 P w K mg base 4 "step_fits" ["roll", "row", "behind"] Zc3 :=
  Fn3.of (N := ["roll", "row", "behind", "place", "boxes", "roll_row"]) (k := 3) A Zdf fun f cdv A outer s H E hr => by
    have hu := Zcq hr
    unfold Zfs
    refine Zh ?_ ?_
    ·refine Zad 3 ?_ ?_
     ·exact Zdf.nd
     ·refine Zab ?_ ?_ ?_
      ·exact Zac
      ·exact Zd 1
      ·exact Zm
    ·refine Zh ?_ ?_
     ·refine Zad 4 ?_ ?_
      ·exact Zdf.nd
      ·refine Zab ?_ ?_ ?_
       ·exact Zac
       ·exact Zd 1
       ·exact Zm
     ·refine Zh ?_ ?_
      ·refine Zad 5 ?_ ?_
       ·exact Zdf.nd
       ·refine Zap (k := 2) (ps := ["roll", "place"]) ?_ ?_ ?_
        ·exact F_row_at
        ·exact hr.mono (by decide)
        ·refine Zc ?_ ?_
         ·exact Zd 0
         ·refine Zc ?_ ?_
          ·exact Zd 3
          ·exact Zk
      ·refine Zh ?_ ?_
       ·refine ZaJ ?_ ?_ ?_
        ·refine CW.ct ?_
         refine Zh2 ?_ ?_
         ·refine Zai ?_ ?_ ?_
          ·exact Zn3
          ·exact Zd 5
          ·exact ZdG
         ·refine Zhn ?_
          refine Zai ?_ ?_ ?_
          ·exact (ZbQ hu)
          ·refine Zab ?_ ?_ ?_
           ·exact Zac
           ·exact Zd 5
           ·exact Zm
          ·exact ZaO
        ·refine Zo ?_
         refine Zak ?_
         exact ZjM
        ·exact Zan
       ·refine Zo ?_
        refine Zak ?_
        refine ZdZ ?_ ?_ ?_
        ·exact (ZbQ hu)
        ·exact Zd 2
        ·refine Zcj ?_
         refine Zc ?_ ?_
         ·refine Zap (k := 1) (ps := ["row", "place", "boxes"]) ?_ ?_ ?_
          ·exact F_next_place
          ·exact hr.mono (by decide)
          ·refine Zc ?_ ?_
           ·exact Zd 5
           ·refine Zc ?_ ?_
            ·exact Zd 3
            ·refine Zc ?_ ?_
             ·exact Zd 4
             ·exact Zk
         ·refine Zc ?_ ?_
          ·refine Zap (k := 3) (ps := ["roll_row", "boxes", "told_boxes"]) ?_ ?_ ?_
           ·exact F_boxes_behind
           ·exact hr.mono (by decide)
           ·refine Zc ?_ ?_
            ·exact Zd 5
            ·refine Zc ?_ ?_
             ·exact Zd 4
             ·refine Zc ?_ ?_
              ·refine Zab ?_ ?_ ?_
               ·exact Zac
               ·exact Zd 2
               ·exact Zm
              ·exact Zk
          ·exact Zk
theorem Zfl : Zav ["ahead", "row", "same"] ["ahead", "row"] (Zq ZcY) := ⟨rfl, rfl, rfl, by decide +kernel, rfl, by decide +kernel, by decide +kernel⟩
theorem Zh1 (A : Zat K mg "use_fits" ZcY ["ahead", "row"]) (T : Txt K mg) : Fn3 P w K mg base 1 "use_fits" ["ahead", "row"] Zcr :=
  Fn3.of (N := ["ahead", "row", "same"]) (k := 0) A Zfl fun f cdv A outer s H E hr => by
    have hu := Zcq hr
    unfold Zf7
    refine Zh ?_ ?_
    ·refine ZaJ ?_ ?_ ?_
     ·refine CW.ct ?_
      refine Ze5 ?_ ?_
      ·refine Zai ?_ ?_ ?_
       ·exact ZeX
       ·exact Zd 0
       ·exact ZdG
      ·refine Zeh ?_
       refine Zai ?_ ?_ ?_
       ·exact (Zoq hu)
       ·refine Zeo ?_ ?_ ?_ ?_
        ·exact Zen
        ·exact Zd 1
        ·exact ZbZ
        ·refine Zbn ?_
         exact Zm
       ·refine Zeo ?_ ?_ ?_ ?_
        ·exact Zen
        ·exact Zd 0
        ·exact ZbZ
        ·refine Zbn ?_
         exact Zm
     ·refine Zo ?_
      refine Zak ?_
      exact ZjM
     ·exact Zan
    ·refine Zh ?_ ?_
     ·refine ZaJ ?_ ?_ ?_
      ·refine Zai ?_ ?_ ?_
       ·exact (Znn hu)
       ·refine Zab ?_ ?_ ?_
        ·exact Zac
        ·exact Zd 1
        ·exact Zm
       ·exact ZaO
      ·refine Zo ?_
       refine Zak ?_
       exact ZjM
      ·exact Zan
     ·refine Zh ?_ ?_
      ·refine Zad 2 ?_ ?_
       ·exact Zfl.nd
       ·refine ZgI ?_ ?_
        ·refine ZdZ ?_ ?_ ?_
         ·exact ZeX
         ·exact Zd 0
         ·exact ZdG
        ·refine ZgL ?_
         refine ZdZ ?_ ?_ ?_
         ·exact (ZbQ hu)
         ·refine Zab ?_ ?_ ?_
          ·exact Zac
          ·exact Zd 0
          ·exact Zm
         ·refine Zab ?_ ?_ ?_
          ·exact Zac
          ·exact Zd 1
          ·exact Zm
      ·refine Zo ?_
       refine Zak ?_
       refine ZdZ ?_ ?_ ?_
       ·exact (ZbQ hu)
       ·refine Zab ?_ ?_ ?_
        ·exact Zac
        ·exact Zd 1
        ·exact Zm
       ·refine Zly ?_ ?_ ?_
        ·refine Zea ?_
         exact Zd 2
        ·refine Zab ?_ ?_ ?_
         ·exact Zac
         ·exact Zd 0
         ·exact Zm
        ·exact Zm
theorem Zda : Zav ["roll", "steps", "time"] ["roll", "steps"] (Zq ZaV) := ⟨rfl, rfl, rfl, by decide +kernel, rfl, by decide +kernel, by decide +kernel⟩
theorem Zem (A : Zat K mg "first_unfit_step" ZaV ["roll", "steps"]) (T : Txt K mg) (F_step_fits : Fn3 P w K mg base 4 "step_fits" ["roll", "row", "behind"] Zc3) : Fn3 P w K mg base 5 "first_unfit_step" ["roll", "steps"] ZbN :=
  Fn3.of (N := ["roll", "steps", "time"]) (k := 4) A Zda fun f cdv A outer s H E hr => by
    have hu := Zcq hr
    unfold Zdm
    refine Zh ?_ ?_
    ·refine ZdS ?_ ?_ ?_ ?_ ?_
     ·exact rfl
     ·exact rfl
     ·refine ZdH ?_ ?_
      ·exact T.m_range
      ·refine Zv ?_ ?_ ?_
       ·exact Zet
       ·refine Zb0 (id := "len") ?_ ?_ ?_ ?_
        ·exact Zb1
        ·exact T.m_len
        ·exact Zbe
        ·refine Zc ?_ ?_
         ·exact Zd 1
         ·exact Zk
       ·exact Zm
     ·refine ZcE 2 ?_
      exact Zda.nd
     ·refine Zo ?_
      refine ZaJ ?_ ?_ ?_
      ·refine Zfc ?_
       refine Zea ?_
       refine Zap (k := 4) (ps := ["roll", "row", "behind"]) ?_ ?_ ?_
       ·exact F_step_fits
       ·exact hr.mono (by decide)
       ·refine Zc ?_ ?_
        ·exact Zd 0
        ·refine Zc ?_ ?_
         ·refine Zab ?_ ?_ ?_
          ·exact Zac
          ·exact Zd 1
          ·exact Zd 2
         ·refine Zc ?_ ?_
          ·refine Zab ?_ ?_ ?_
           ·exact Zac
           ·exact Zd 1
           ·refine Zv ?_ ?_ ?_
            ·exact ZaI
            ·exact Zd 2
            ·exact Zm
          ·exact Zk
      ·refine Zo ?_
       refine Zak ?_
       exact Zd 2
      ·exact Zan
    ·refine Zo ?_
     refine Zak ?_
     exact ZdG
theorem Zbi : Zav ["ahead", "uses", "before", "number", "row"] ["ahead", "uses"] (Zq Za4) := ⟨rfl, rfl, rfl, by decide +kernel, rfl, by decide +kernel, by decide +kernel⟩
theorem ZeJ (A : Zat K mg "first_unfit_use" Za4 ["ahead", "uses"]) (T : Txt K mg) (F_use_fits : Fn3 P w K mg base 1 "use_fits" ["ahead", "row"] Zcr) : Fn3 P w K mg base 2 "first_unfit_use" ["ahead", "uses"] ZbY :=
  Fn3.of (N := ["ahead", "uses", "before", "number", "row"]) (k := 1) A Zbi fun f cdv A outer s H E hr => by
    have hu := Zcq hr
    unfold ZcK
    refine Zh ?_ ?_
    ·refine Zad 2 ?_ ?_
     ·exact Zbi.nd
     ·exact Zd 0
    ·refine Zh ?_ ?_
     ·refine Zi1 ?_ ?_ ?_ ?_ ?_
      ·exact rfl
      ·exact rfl
      ·refine Zi7 ?_ ?_
       ·exact T.m_enumerate
       ·exact Zd 1
      ·refine Zfi ?_ ?_
       ·exact rfl
       ·refine ZbD 3 ?_ ?_
        ·exact Zbi.nd
        ·refine ZbD 4 ?_ ?_
         ·exact Zbi.nd
         ·exact Zei
      ·refine Zh ?_ ?_
       ·refine ZaJ ?_ ?_ ?_
        ·refine Zfc ?_
         refine Zea ?_
         refine Zap (k := 1) (ps := ["ahead", "row"]) ?_ ?_ ?_
         ·exact F_use_fits
         ·exact hr.mono (by decide)
         ·refine Zc ?_ ?_
          ·exact Zd 2
          ·refine Zc ?_ ?_
           ·exact Zd 4
           ·exact Zk
        ·refine Zo ?_
         refine Zak ?_
         exact Zd 3
        ·exact Zan
       ·refine Zo ?_
        refine Zad 2 ?_ ?_
        ·exact Zbi.nd
        ·exact Zd 4
     ·refine Zo ?_
      refine Zak ?_
      exact ZdG
theorem ZhX : Zav ["number"] ["number"] (Zq Zc1) := ⟨rfl, rfl, rfl, by decide +kernel, rfl, by decide +kernel, by decide +kernel⟩
theorem ZhP (A : Zat K mg "is_whole" Zc1 ["number"]) (T : Txt K mg) : Fn3 P w K mg base 1 "is_whole" ["number"] ZcR :=
  Fn3.of (N := ["number"]) (k := 0) A ZhX fun f cdv A outer s H E hr => by
    have hu := Zcq hr
    unfold Zey
    refine Zo ?_
    refine Zak ?_
    refine ZgI ?_ ?_
    ·refine Zir .int ?_ ?_ ?_
     ·exact T.m_isinstance
     ·exact T.m_int
     ·exact Zd 0
    ·refine ZgL ?_
     refine ZoO ?_
     refine Zir .bool ?_ ?_ ?_
     ·exact T.m_isinstance
     ·exact T.m_bool
     ·exact Zd 0
theorem ZbO : Zav ["cuts", "apart", "most", "ahead", "cut"] ["cuts", "apart", "most"] (Zq Za2) := ⟨rfl, rfl, rfl, by decide +kernel, rfl, by decide +kernel, by decide +kernel⟩
theorem ZeI (A : Zat K mg "refuse_bad_cuts" Za2 ["cuts", "apart", "most"]) (T : Txt K mg) (F_is_whole : Fn3 P w K mg base 1 "is_whole" ["number"] ZcR) : Fn3 P w K mg base 2 "refuse_bad_cuts" ["cuts", "apart", "most"] Za3 :=
  Fn3.of (N := ["cuts", "apart", "most", "ahead", "cut"]) (k := 1) A ZbO fun f cdv A outer s H E hr => by
    have hu := Zcq hr
    unfold Zdx
    refine Zh ?_ ?_
    ·refine ZaJ ?_ ?_ ?_
     ·refine Zfc ?_
      refine Zea ?_
      refine Zir .list ?_ ?_ ?_
      ·exact T.m_isinstance
      ·exact T.m_list
      ·exact Zd 0
     ·refine Zo ?_
      exact ZfS
     ·exact Zan
    ·refine Zh ?_ ?_
     ·refine Zad 3 ?_ ?_
      ·exact ZbO.nd
      ·exact Zm
     ·refine Zo ?_
      refine ZdS ?_ ?_ ?_ ?_ ?_
      ·exact rfl
      ·exact rfl
      ·refine Zkn ?_
       exact Zd 0
      ·refine ZcE 4 ?_
       exact ZbO.nd
      ·refine Zh ?_ ?_
       ·refine ZaJ ?_ ?_ ?_
        ·refine CW.ct ?_
         refine Zh2 ?_ ?_
         ·refine Zfc ?_
          refine Zea ?_
          refine Zap (k := 1) (ps := ["number"]) ?_ ?_ ?_
          ·exact F_is_whole
          ·exact hr.mono (by decide)
          ·refine Zc ?_ ?_
           ·exact Zd 4
           ·exact Zk
         ·refine Zh2 ?_ ?_
          ·refine Zai ?_ ?_ ?_
           ·exact Znc
           ·exact Zd 4
           ·refine Zv ?_ ?_ ?_
            ·exact ZaI
            ·exact Zd 3
            ·exact Zd 1
          ·refine Zhn ?_
           refine Zai ?_ ?_ ?_
           ·exact Zh8
           ·exact Zd 4
           ·exact Zd 2
        ·refine Zo ?_
         exact ZfS
        ·exact Zan
       ·refine Zo ?_
        refine Zad 3 ?_ ?_
        ·exact ZbO.nd
        ·exact Zd 4
theorem Zg7 : Zav ["steps", "cuts"] ["steps", "cuts"] (Zq Zcu) := ⟨rfl, rfl, rfl, by decide +kernel, rfl, by decide +kernel, by decide +kernel⟩
theorem Zg1 (A : Zat K mg "cut_steps" Zcu ["steps", "cuts"]) (T : Txt K mg) (F_refuse_bad_cuts : Fn3 P w K mg base 2 "refuse_bad_cuts" ["cuts", "apart", "most"] Za3) : Fn3 P w K mg base 3 "cut_steps" ["steps", "cuts"] Zdt :=
  Fn3.of (N := ["steps", "cuts"]) (k := 2) A Zg7 fun f cdv A outer s H E hr => by
    have hu := Zcq hr
    unfold Zfn
    refine Zh ?_ ?_
    ·refine Zca ?_
     refine Zap (k := 2) (ps := ["cuts", "apart", "most"]) ?_ ?_ ?_
     ·exact F_refuse_bad_cuts
     ·exact hr.mono (by decide)
     ·refine Zc ?_ ?_
      ·exact Zd 1
      ·refine Zc ?_ ?_
       ·exact Zm
       ·refine Zc ?_ ?_
        ·refine Zv ?_ ?_ ?_
         ·exact Zet
         ·refine Zb0 (id := "len") ?_ ?_ ?_ ?_
          ·exact Zb1
          ·exact T.m_len
          ·exact Zbe
          ·refine Zc ?_ ?_
           ·exact Zd 0
           ·exact Zk
         ·exact Zm
        ·exact Zk
    ·refine Zo ?_
     refine Zak ?_
     refine Zmy (N' := ["steps", "cuts", "begin", "end"]) ?_ ?_ ?_ ?_ (fun C cl s H ex => ⟨?_, ?_, ?_⟩)
     ·exact Zej rfl (by kernel_rfl)
     ·exact rfl
     ·exact rfl
     ·refine ZkL ?_ ?_ ?_
      ·exact T.m_zip
      ·refine Zv ?_ ?_ ?_
       ·exact ZaI
       ·refine Zci ?_
        refine Zc ?_ ?_
        ·exact Zm
        ·exact Zk
       ·exact Zd 1
      ·refine Zv ?_ ?_ ?_
       ·exact ZaI
       ·exact Zd 1
       ·refine Zci ?_
        refine Zc ?_ ?_
        ·refine Zv ?_ ?_ ?_
         ·exact Zet
         ·refine Zb0 (id := "len") ?_ ?_ ?_ ?_
          ·exact Zb1
          ·exact T.m_len
          ·exact Zbe
          ·refine Zc ?_ ?_
           ·exact Zd 0
           ·exact Zk
         ·exact Zm
        ·exact Zk
     ·refine Zfi ?_ ?_
      ·exact rfl
      ·refine ZbD 2 ?_ ?_
       ·exact (show List.Nodup (["steps", "cuts", "begin", "end"] : List Str) by decide +kernel)
       ·refine ZbD 3 ?_ ?_
        ·exact (show List.Nodup (["steps", "cuts", "begin", "end"] : List Str) by decide +kernel)
        ·exact Zei
     ·exact ZfI
     ·refine Zeo ?_ ?_ ?_ ?_
      ·exact Zen
      ·exact Zd 0
      ·refine Zbn ?_
       exact Zd 2
      ·refine Zbn ?_
       refine Zv ?_ ?_ ?_
       ·exact ZaI
       ·exact Zd 3
       ·exact Zm
theorem Zid : Zav ["uses", "cuts"] ["uses", "cuts"] (Zq ZcS) := ⟨rfl, rfl, rfl, by decide +kernel, rfl, by decide +kernel, by decide +kernel⟩
theorem ZhB (A : Zat K mg "cut_uses" ZcS ["uses", "cuts"]) (T : Txt K mg) (F_refuse_bad_cuts : Fn3 P w K mg base 2 "refuse_bad_cuts" ["cuts", "apart", "most"] Za3) : Fn3 P w K mg base 3 "cut_uses" ["uses", "cuts"] ZcX :=
  Fn3.of (N := ["uses", "cuts"]) (k := 2) A Zid fun f cdv A outer s H E hr => by
    have hu := Zcq hr
    unfold ZfZ
    refine Zh ?_ ?_
    ·refine Zca ?_
     refine Zap (k := 2) (ps := ["cuts", "apart", "most"]) ?_ ?_ ?_
     ·exact F_refuse_bad_cuts
     ·exact hr.mono (by decide)
     ·refine Zc ?_ ?_
      ·exact Zd 1
      ·refine Zc ?_ ?_
       ·exact Zm
       ·refine Zc ?_ ?_
        ·refine Zb0 (id := "len") ?_ ?_ ?_ ?_
         ·exact Zb1
         ·exact T.m_len
         ·exact Zbe
         ·refine Zc ?_ ?_
          ·exact Zd 0
          ·exact Zk
        ·exact Zk
    ·refine Zo ?_
     refine Zak ?_
     refine Zmy (N' := ["uses", "cuts", "begin", "end"]) ?_ ?_ ?_ ?_ (fun C cl s H ex => ⟨?_, ?_, ?_⟩)
     ·exact Zej rfl (by kernel_rfl)
     ·exact rfl
     ·exact rfl
     ·refine ZkL ?_ ?_ ?_
      ·exact T.m_zip
      ·refine Zv ?_ ?_ ?_
       ·exact ZaI
       ·refine Zci ?_
        refine Zc ?_ ?_
        ·exact Zm
        ·exact Zk
       ·exact Zd 1
      ·refine Zv ?_ ?_ ?_
       ·exact ZaI
       ·exact Zd 1
       ·refine Zci ?_
        refine Zc ?_ ?_
        ·refine Zb0 (id := "len") ?_ ?_ ?_ ?_
         ·exact Zb1
         ·exact T.m_len
         ·exact Zbe
         ·refine Zc ?_ ?_
          ·exact Zd 0
          ·exact Zk
        ·exact Zk
     ·refine Zfi ?_ ?_
      ·exact rfl
      ·refine ZbD 2 ?_ ?_
       ·exact (show List.Nodup (["uses", "cuts", "begin", "end"] : List Str) by decide +kernel)
       ·refine ZbD 3 ?_ ?_
        ·exact (show List.Nodup (["uses", "cuts", "begin", "end"] : List Str) by decide +kernel)
        ·exact Zei
     ·exact ZfI
     ·refine Zeo ?_ ?_ ?_ ?_
      ·exact Zen
      ·exact Zd 0
      ·refine Zbn ?_
       exact Zd 2
      ·refine Zbn ?_
       exact Zd 3
theorem Zgg : Zav ["roll", "piece"] ["roll", "piece"] (Zq ZbS) := ⟨rfl, rfl, rfl, by decide +kernel, rfl, by decide +kernel, by decide +kernel⟩
theorem Zgb (A : Zat K mg "steps_fault" ZbS ["roll", "piece"]) (T : Txt K mg) (F_first_unfit_step : Fn3 P w K mg base 5 "first_unfit_step" ["roll", "steps"] ZbN) : Fn3 P w K mg base 6 "steps_fault" ["roll", "piece"] ZbU :=
  Fn3.of (N := ["roll", "piece"]) (k := 5) A Zgg fun f cdv A outer s H E hr => by
    have hu := Zcq hr
    unfold Zes
    refine Zo ?_
    refine Zak ?_
    refine Zap (k := 5) (ps := ["roll", "steps"]) ?_ ?_ ?_
    ·exact F_first_unfit_step
    ·exact hr.mono (by decide)
    ·refine Zc ?_ ?_
     ·exact Zd 0
     ·refine Zc ?_ ?_
      ·exact Zd 1
      ·exact Zk
theorem Zgu : Zav ["ahead", "piece"] ["ahead", "piece"] (Zq Zcd) := ⟨rfl, rfl, rfl, by decide +kernel, rfl, by decide +kernel, by decide +kernel⟩
theorem ZgB (A : Zat K mg "uses_fault" Zcd ["ahead", "piece"]) (T : Txt K mg) (F_first_unfit_use : Fn3 P w K mg base 2 "first_unfit_use" ["ahead", "uses"] ZbY) : Fn3 P w K mg base 3 "uses_fault" ["ahead", "piece"] ZbJ :=
  Fn3.of (N := ["ahead", "piece"]) (k := 2) A Zgu fun f cdv A outer s H E hr => by
    have hu := Zcq hr
    unfold ZeW
    refine Zo ?_
    refine Zak ?_
    refine Zap (k := 2) (ps := ["ahead", "uses"]) ?_ ?_ ?_
    ·exact F_first_unfit_use
    ·exact hr.mono (by decide)
    ·refine Zc ?_ ?_
     ·exact Zd 0
     ·refine Zc ?_ ?_
      ·exact Zd 1
      ·exact Zk
theorem Zc5 : Zav ["pieces", "steps", "piece"] ["pieces"] (Zq ZbC) := ⟨rfl, rfl, rfl, by decide +kernel, rfl, by decide +kernel, by decide +kernel⟩
theorem ZfB (A : Zat K mg "joined_steps" ZbC ["pieces"]) (T : Txt K mg) : Fn3 P w K mg base 1 "joined_steps" ["pieces"] ZcL :=
  Fn3.of (N := ["pieces", "steps", "piece"]) (k := 0) A Zc5 fun f cdv A outer s H E hr => by
    have hu := Zcq hr
    unfold Zec
    refine Zh ?_ ?_
    ·refine ZaJ ?_ ?_ ?_
     ·refine Zai ?_ ?_ ?_
      ·exact (ZbQ hu)
      ·refine Zb0 (id := "len") ?_ ?_ ?_ ?_
       ·exact Zb1
       ·exact T.m_len
       ·exact Zbe
       ·refine Zc ?_ ?_
        ·exact Zd 0
        ·exact Zk
      ·exact Zm
     ·refine Zo ?_
      exact ZfS
     ·exact Zan
    ·refine Zh ?_ ?_
     ·refine Zad 1 ?_ ?_
      ·exact Zc5.nd
      ·refine Zci ?_
       exact Zk
     ·refine Zh ?_ ?_
      ·refine ZdS ?_ ?_ ?_ ?_ ?_
       ·exact rfl
       ·exact rfl
       ·refine Zkn ?_
        exact Zd 0
       ·refine ZcE 2 ?_
        exact Zc5.nd
       ·refine Zh ?_ ?_
        ·refine ZaJ ?_ ?_ ?_
         ·refine Zai ?_ ?_ ?_
          ·exact (ZbQ hu)
          ·refine Zb0 (id := "len") ?_ ?_ ?_ ?_
           ·exact Zb1
           ·exact T.m_len
           ·exact Zbe
           ·refine Zc ?_ ?_
            ·exact Zd 2
            ·exact Zk
          ·exact Zm
         ·refine Zo ?_
          exact ZfS
         ·exact Zan
        ·refine Zh ?_ ?_
         ·refine ZaJ ?_ ?_ ?_
          ·refine CW.ct ?_
           refine Ze5 ?_ ?_
           ·refine Zai ?_ ?_ ?_
            ·exact Zh8
            ·refine Zb0 (id := "len") ?_ ?_ ?_ ?_
             ·exact Zb1
             ·exact T.m_len
             ·exact Zbe
             ·refine Zc ?_ ?_
              ·exact Zd 1
              ·exact Zk
            ·exact Zm
           ·refine Zeh ?_
            refine Zai ?_ ?_ ?_
            ·exact (Znn hu)
            ·refine Zab ?_ ?_ ?_
             ·exact Zac
             ·exact Zd 2
             ·exact Zm
            ·refine Zab ?_ ?_ ?_
             ·exact Zac
             ·exact Zd 1
             ·refine Zjz ?_ ?_
              ·exact ZgK
              ·exact Zm
          ·refine Zo ?_
           exact ZfS
          ·exact Zan
         ·refine Zo ?_
          refine Zca ?_
          refine Zhb ?_ ?_
          ·exact Zd 1
          ·refine Zc ?_ ?_
           ·refine Zly ?_ ?_ ?_
            ·refine Zai ?_ ?_ ?_
             ·exact (ZbQ hu)
             ·refine Zb0 (id := "len") ?_ ?_ ?_ ?_
              ·exact Zb1
              ·exact T.m_len
              ·exact Zbe
              ·refine Zc ?_ ?_
               ·exact Zd 1
               ·exact Zk
             ·exact Zm
            ·exact Zd 2
            ·refine Zeo ?_ ?_ ?_ ?_
             ·exact Zen
             ·exact Zd 2
             ·refine Zbn ?_
              exact Zm
             ·exact ZbZ
           ·exact Zk
      ·refine Zo ?_
       refine Zak ?_
       refine Zf0 (T := "tuple") ?_ ?_ ?_ ?_
       ·exact Ze1
       ·exact T.m_tuple
       ·exact Zd7
       ·refine Zc ?_ ?_
        ·exact Zd 1
        ·exact Zk
theorem ZdV : Zav ["deck", "cells", "at"] ["deck"] (Zq Zcw) := ⟨rfl, rfl, rfl, by decide +kernel, rfl, by decide +kernel, by decide +kernel⟩
theorem Zht (A : Zat K mg "_law_next" Zcw ["deck"]) (T : Txt K mg) : Fn3 P w K mg base 1 "_law_next" ["deck"] Zz :=
  Fn3.of (N := ["deck", "cells", "at"]) (k := 0) A ZdV fun f cdv A outer s H E hr => by
    have hu := Zcq hr
    unfold ZcA
    refine Zh ?_ ?_
    ·refine Zad 1 ?_ ?_
     ·exact ZdV.nd
     ·refine Zab ?_ ?_ ?_
      ·exact Zac
      ·exact Zd 0
      ·exact Zm
    ·refine Zh ?_ ?_
     ·refine Zad 2 ?_ ?_
      ·exact ZdV.nd
      ·refine Zab ?_ ?_ ?_
       ·exact Zac
       ·exact Zd 0
       ·exact Zm
     ·refine Zh ?_ ?_
      ·refine Zlq ?_ ?_ ?_
       ·exact Zd 0
       ·exact Zm
       ·refine Zv ?_ ?_ ?_
        ·exact ZaI
        ·exact Zd 2
        ·exact Zm
      ·refine Zh ?_ ?_
       ·refine ZaJ ?_ ?_ ?_
        ·refine Zai ?_ ?_ ?_
         ·exact Znc
         ·exact Zd 2
         ·refine Zb0 (id := "len") ?_ ?_ ?_ ?_
          ·exact Zb1
          ·exact T.m_len
          ·exact Zbe
          ·refine Zc ?_ ?_
           ·exact Zd 1
           ·exact Zk
        ·refine Zo ?_
         refine Zak ?_
         refine Zab ?_ ?_ ?_
         ·exact Zac
         ·exact Zd 1
         ·exact Zd 2
        ·exact Zan
       ·refine Zh ?_ ?_
        ·refine ZaJ ?_ ?_ ?_
         ·refine Zai ?_ ?_ ?_
          ·exact (ZbQ hu)
          ·refine Zb0 (id := "len") ?_ ?_ ?_ ?_
           ·exact Zb1
           ·exact T.m_len
           ·exact Zbe
           ·refine Zc ?_ ?_
            ·exact Zd 1
            ·exact Zk
          ·exact Zm
         ·refine Zo ?_
          refine Zak ?_
          refine Zv ?_ ?_ ?_
          ·exact ZaI
          ·refine Zv ?_ ?_ ?_
           ·exact Zk3
           ·refine Zv ?_ ?_ ?_
            ·exact Zk3
            ·exact Zd 2
            ·exact Zd 2
           ·exact Zm
          ·exact Zd 2
         ·exact Zan
        ·refine Zo ?_
         refine Zak ?_
         refine Zv ?_ ?_ ?_
         ·exact ZaI
         ·refine Zv ?_ ?_ ?_
          ·exact ZbA
          ·refine Zab ?_ ?_ ?_
           ·exact Zac
           ·exact Zd 1
           ·refine Zv ?_ ?_ ?_
            ·exact Zbg
            ·exact Zd 2
            ·refine Zb0 (id := "len") ?_ ?_ ?_ ?_
             ·exact Zb1
             ·exact T.m_len
             ·exact Zbe
             ·refine Zc ?_ ?_
              ·exact Zd 1
              ·exact Zk
          ·exact Zm
         ·refine Zv ?_ ?_ ?_
          ·exact Zk3
          ·exact Zd 2
          ·exact Zd 2
theorem ZaG : Zav ["cells", "roll", "k", "cell", "word", "more", "a", "b", "c", "goal", "last"] ["cells"] (Zq Zcx) := ⟨rfl, rfl, rfl, by decide +kernel, rfl, by decide +kernel, by decide +kernel⟩
theorem Zhl (A : Zat K mg "_law_roll" Zcx ["cells"]) (T : Txt K mg) : Fn3 P w K mg base 1 "_law_roll" ["cells"] Zdy :=
  Fn3.of (N := ["cells", "roll", "k", "cell", "word", "more", "a", "b", "c", "goal", "last"]) (k := 0) A ZaG fun f cdv A outer s H E hr => by
    have hu := Zcq hr
    unfold Zd4
    refine Zh ?_ ?_
    ·refine Zad 1 ?_ ?_
     ·exact ZaG.nd
     ·refine Zci ?_
      exact Zk
    ·refine Zh ?_ ?_
     ·refine Zi1 ?_ ?_ ?_ ?_ ?_
      ·exact rfl
      ·exact rfl
      ·refine Zi7 ?_ ?_
       ·exact T.m_enumerate
       ·exact Zd 0
      ·refine Zfi ?_ ?_
       ·exact rfl
       ·refine ZbD 2 ?_ ?_
        ·exact ZaG.nd
        ·refine ZbD 3 ?_ ?_
         ·exact ZaG.nd
         ·exact Zei
      ·refine Zh ?_ ?_
       ·refine Zad 4 ?_ ?_
        ·exact ZaG.nd
        ·refine Zab ?_ ?_ ?_
         ·exact Zac
         ·refine Zci ?_
          refine Zc ?_ ?_
          ·exact ZaO
          ·refine Zc ?_ ?_
           ·exact ZaO
           ·refine Zc ?_ ?_
            ·exact ZaO
            ·refine Zc ?_ ?_
             ·exact ZaO
             ·refine Zc ?_ ?_
              ·exact ZaO
              ·refine Zc ?_ ?_
               ·exact ZaO
               ·refine Zc ?_ ?_
                ·exact ZaO
                ·refine Zc ?_ ?_
                 ·exact ZaO
                 ·refine Zc ?_ ?_
                  ·exact ZaO
                  ·refine Zc ?_ ?_
                   ·exact ZaO
                   ·exact Zk
         ·refine Zv ?_ ?_ ?_
          ·exact Zbg
          ·exact Zd 3
          ·exact Zm
       ·refine Zh ?_ ?_
        ·refine Zad 5 ?_ ?_
         ·exact ZaG.nd
         ·refine Zv ?_ ?_ ?_
          ·exact ZbA
          ·exact Zd 3
          ·exact Zm
        ·refine Zh ?_ ?_
         ·refine Zad 6 ?_ ?_
          ·exact ZaG.nd
          ·refine Zv ?_ ?_ ?_
           ·exact Zbg
           ·exact Zd 5
           ·exact Zm
         ·refine Zh ?_ ?_
          ·refine Zad 7 ?_ ?_
           ·exact ZaG.nd
           ·refine Zv ?_ ?_ ?_
            ·exact Zbg
            ·refine Zv ?_ ?_ ?_
             ·exact ZbA
             ·exact Zd 5
             ·exact Zm
            ·exact Zm
          ·refine Zh ?_ ?_
           ·refine Zad 8 ?_ ?_
            ·exact ZaG.nd
            ·refine Zv ?_ ?_ ?_
             ·exact Zbg
             ·refine Zv ?_ ?_ ?_
              ·exact ZbA
              ·exact Zd 5
              ·exact Zm
             ·exact Zm
           ·refine Zh ?_ ?_
            ·refine Zad 9 ?_ ?_
             ·exact ZaG.nd
             ·refine Zv ?_ ?_ ?_
              ·exact ZaI
              ·refine Zv ?_ ?_ ?_
               ·exact ZaI
               ·exact Zd 2
               ·exact Zm
              ·refine Zv ?_ ?_ ?_
               ·exact Zbg
               ·refine Zv ?_ ?_ ?_
                ·exact ZbA
                ·exact Zd 5
                ·exact Zm
               ·refine Zv ?_ ?_ ?_
                ·exact Zet
                ·refine Zb0 (id := "len") ?_ ?_ ?_ ?_
                 ·exact Zb1
                 ·exact T.m_len
                 ·exact Zbe
                 ·refine Zc ?_ ?_
                  ·exact Zd 0
                  ·exact Zk
                ·exact Zd 2
            ·refine Zh ?_ ?_
             ·refine ZaJ ?_ ?_ ?_
              ·refine Zai ?_ ?_ ?_
               ·exact (ZbQ hu)
               ·refine Zv ?_ ?_ ?_
                ·exact Zbg
                ·refine Zv ?_ ?_ ?_
                 ·exact ZbA
                 ·exact Zd 5
                 ·exact Zm
                ·exact Zm
               ·exact Zm
              ·refine Zo ?_
               refine Zad 9 ?_ ?_
               ·exact ZaG.nd
               ·refine Zv ?_ ?_ ?_
                ·exact Zbg
                ·refine Zv ?_ ?_ ?_
                 ·exact ZbA
                 ·exact Zd 5
                 ·exact Zm
                ·refine Zv ?_ ?_ ?_
                 ·exact ZaI
                 ·refine Zb0 (id := "len") ?_ ?_ ?_ ?_
                  ·exact Zb1
                  ·exact T.m_len
                  ·exact Zbe
                  ·refine Zc ?_ ?_
                   ·exact Zd 0
                   ·exact Zk
                 ·exact Zm
              ·exact Zan
             ·refine Zo ?_
              refine ZaJ ?_ ?_ ?_
              ·refine Zai ?_ ?_ ?_
               ·exact (ZbQ hu)
               ·exact Zd 4
               ·exact ZaO
              ·refine Zo ?_
               refine Zca ?_
               refine ZaZ ?_ ?_
               ·exact Zd 1
               ·refine Zc ?_ ?_
                ·refine Zcj ?_
                 refine Zc ?_ ?_
                 ·exact Zd 4
                 ·refine Zc ?_ ?_
                  ·exact Zd 6
                  ·refine Zc ?_ ?_
                   ·refine Zab ?_ ?_ ?_
                    ·exact Zac
                    ·refine Zci ?_
                     refine Zc ?_ ?_
                     ·refine Zv ?_ ?_ ?_
                      ·exact Zbg
                      ·refine Zv ?_ ?_ ?_
                       ·exact ZbA
                       ·exact Zd 5
                       ·exact Zm
                      ·exact Zm
                     ·refine Zc ?_ ?_
                      ·refine Zv ?_ ?_ ?_
                       ·exact Zet
                       ·exact Zm
                       ·refine Zv ?_ ?_ ?_
                        ·exact Zbg
                        ·refine Zv ?_ ?_ ?_
                         ·exact ZbA
                         ·exact Zd 5
                         ·exact Zm
                        ·refine Zv ?_ ?_ ?_
                         ·exact ZiZ
                         ·exact Zm
                         ·exact Zm
                      ·refine Zc ?_ ?_
                       ·refine Zv ?_ ?_ ?_
                        ·exact Zbg
                        ·refine Zv ?_ ?_ ?_
                         ·exact ZbA
                         ·exact Zd 5
                         ·exact Zm
                        ·refine Zv ?_ ?_ ?_
                         ·exact ZiZ
                         ·exact Zm
                         ·exact Zm
                       ·exact Zk
                    ·refine Zv ?_ ?_ ?_
                     ·exact Zbg
                     ·exact Zd 7
                     ·exact Zm
                   ·exact Zk
                ·exact Zk
              ·refine Zo ?_
               refine ZaJ ?_ ?_ ?_
               ·refine Zai ?_ ?_ ?_
                ·exact Zmg
                ·exact Zd 4
                ·refine Zci ?_
                 refine Zc ?_ ?_
                 ·exact ZaO
                 ·refine Zc ?_ ?_
                  ·exact ZaO
                  ·refine Zc ?_ ?_
                   ·exact ZaO
                   ·exact Zk
               ·refine Zo ?_
                refine Zca ?_
                refine ZaZ ?_ ?_
                ·exact Zd 1
                ·refine Zc ?_ ?_
                 ·refine Zcj ?_
                  refine Zc ?_ ?_
                  ·exact Zd 4
                  ·refine Zc ?_ ?_
                   ·exact Zd 6
                   ·refine Zc ?_ ?_
                    ·exact Zd 7
                    ·refine Zc ?_ ?_
                     ·exact Zd 8
                     ·exact Zk
                 ·exact Zk
               ·refine Zo ?_
                refine ZaJ ?_ ?_ ?_
                ·refine Zai ?_ ?_ ?_
                 ·exact Zmg
                 ·exact Zd 4
                 ·refine Zci ?_
                  refine Zc ?_ ?_
                  ·exact ZaO
                  ·refine Zc ?_ ?_
                   ·exact ZaO
                   ·exact Zk
                ·refine Zo ?_
                 refine Zca ?_
                 refine ZaZ ?_ ?_
                 ·exact Zd 1
                 ·refine Zc ?_ ?_
                  ·refine Zcj ?_
                   refine Zc ?_ ?_
                   ·exact Zd 4
                   ·refine Zc ?_ ?_
                    ·exact Zd 6
                    ·refine Zc ?_ ?_
                     ·exact Zd 7
                     ·exact Zk
                  ·exact Zk
                ·refine Zo ?_
                 refine ZaJ ?_ ?_ ?_
                 ·refine Zai ?_ ?_ ?_
                  ·exact (ZbQ hu)
                  ·exact Zd 4
                  ·exact ZaO
                 ·refine Zo ?_
                  refine Zca ?_
                  refine ZaZ ?_ ?_
                  ·exact Zd 1
                  ·refine Zc ?_ ?_
                   ·refine Zcj ?_
                    refine Zc ?_ ?_
                    ·exact Zd 4
                    ·refine Zc ?_ ?_
                     ·exact Zd 6
                     ·refine Zc ?_ ?_
                      ·exact Zd 9
                      ·exact Zk
                   ·exact Zk
                 ·refine Zo ?_
                  refine ZaJ ?_ ?_ ?_
                  ·refine Zai ?_ ?_ ?_
                   ·exact (ZbQ hu)
                   ·exact Zd 4
                   ·exact ZaO
                  ·refine Zo ?_
                   refine Zca ?_
                   refine ZaZ ?_ ?_
                   ·exact Zd 1
                   ·refine Zc ?_ ?_
                    ·refine Zcj ?_
                     refine Zc ?_ ?_
                     ·exact Zd 4
                     ·refine Zc ?_ ?_
                      ·exact Zd 9
                      ·exact Zk
                    ·exact Zk
                  ·refine Zo ?_
                   refine Zca ?_
                   refine ZaZ ?_ ?_
                   ·exact Zd 1
                   ·refine Zc ?_ ?_
                    ·refine Zcj ?_
                     refine Zc ?_ ?_
                     ·exact Zd 4
                     ·refine Zc ?_ ?_
                      ·exact Zd 6
                      ·exact Zk
                    ·exact Zk
     ·refine Zh ?_ ?_
      ·refine Zad 10 ?_ ?_
       ·exact ZaG.nd
       ·refine Zcj ?_
        refine Zc ?_ ?_
        ·exact ZaO
        ·exact Zk
      ·refine Zh ?_ ?_
       ·refine ZaJ ?_ ?_ ?_
        ·refine CW.ct ?_
         refine Ze5 ?_ ?_
         ·refine Zai ?_ ?_ ?_
          ·exact Zh8
          ·refine Zb0 (id := "len") ?_ ?_ ?_ ?_
           ·exact Zb1
           ·exact T.m_len
           ·exact Zbe
           ·refine Zc ?_ ?_
            ·exact Zd 0
            ·exact Zk
          ·exact Zm
         ·refine Zeh ?_
          refine Zai ?_ ?_ ?_
          ·exact (ZbQ hu)
          ·refine Zv ?_ ?_ ?_
           ·exact Zbg
           ·refine Zab ?_ ?_ ?_
            ·exact Zac
            ·exact Zd 0
            ·refine Zjz ?_ ?_
             ·exact ZgK
             ·exact Zm
           ·exact Zm
          ·exact Zm
        ·refine Zo ?_
         refine Zad 10 ?_ ?_
         ·exact ZaG.nd
         ·refine Zcj ?_
          refine Zc ?_ ?_
          ·exact ZaO
          ·refine Zc ?_ ?_
           ·refine Zv ?_ ?_ ?_
            ·exact Zbg
            ·refine Zv ?_ ?_ ?_
             ·exact ZbA
             ·refine Zab ?_ ?_ ?_
              ·exact Zac
              ·exact Zd 0
              ·refine Zjz ?_ ?_
               ·exact ZgK
               ·exact Zm
             ·exact Zm
            ·refine Zv ?_ ?_ ?_
             ·exact ZaI
             ·refine Zb0 (id := "len") ?_ ?_ ?_ ?_
              ·exact Zb1
              ·exact T.m_len
              ·exact Zbe
              ·refine Zc ?_ ?_
               ·exact Zd 0
               ·exact Zk
             ·exact Zm
           ·exact Zk
        ·exact Zan
       ·refine Zo ?_
        refine Zak ?_
        refine Zf0 (T := "tuple") ?_ ?_ ?_ ?_
        ·exact Ze1
        ·exact T.m_tuple
        ·exact Zd7
        ·refine Zc ?_ ?_
         ·refine Zv ?_ ?_ ?_
          ·exact ZaI
          ·exact Zd 1
          ·refine Zci ?_
           refine Zc ?_ ?_
           ·exact Zd 10
           ·exact Zk
         ·exact Zk
theorem ZaL : Zav ["deed", "place", "boxes", "held", "value"] ["deed", "place", "boxes", "held"] (Zq ZbV) := ⟨rfl, rfl, rfl, by decide +kernel, rfl, by decide +kernel, by decide +kernel⟩
theorem ZfV (A : Zat K mg "_law_behind" ZbV ["deed", "place", "boxes", "held"]) (T : Txt K mg) : Fn3 P w K mg base 1 "_law_behind" ["deed", "place", "boxes", "held"] Zbx :=
  Fn3.of (N := ["deed", "place", "boxes", "held", "value"]) (k := 0) A ZaL fun f cdv A outer s H E hr => by
    have hu := Zcq hr
    unfold ZaD
    refine Zh ?_ ?_
    ·refine Zad 1 ?_ ?_
     ·exact ZaL.nd
     ·refine Zv ?_ ?_ ?_
      ·exact ZaI
      ·exact Zd 1
      ·exact Zm
    ·refine Zh ?_ ?_
     ·refine Zad 4 ?_ ?_
      ·exact ZaL.nd
      ·exact ZdG
     ·refine Zh ?_ ?_
      ·refine ZaJ ?_ ?_ ?_
       ·refine Zai ?_ ?_ ?_
        ·exact (ZbQ hu)
        ·refine Zab ?_ ?_ ?_
         ·exact Zac
         ·exact Zd 0
         ·exact Zm
        ·exact ZaO
       ·refine Zo ?_
        refine Zad 4 ?_ ?_
        ·exact ZaL.nd
        ·refine Zab ?_ ?_ ?_
         ·exact Zac
         ·exact Zd 0
         ·exact Zm
       ·exact Zan
      ·refine Zh ?_ ?_
       ·refine ZaJ ?_ ?_ ?_
        ·refine Zai ?_ ?_ ?_
         ·exact (ZbQ hu)
         ·refine Zab ?_ ?_ ?_
          ·exact Zac
          ·exact Zd 0
          ·exact Zm
         ·exact ZaO
        ·refine Zo ?_
         refine Zad 4 ?_ ?_
         ·exact ZaL.nd
         ·refine Zv ?_ ?_ ?_
          ·exact ZaI
          ·refine Zab ?_ ?_ ?_
           ·exact Zac
           ·exact Zd 2
           ·refine Zab ?_ ?_ ?_
            ·exact Zac
            ·exact Zd 0
            ·exact Zm
          ·refine Zab ?_ ?_ ?_
           ·exact Zac
           ·exact Zd 2
           ·refine Zab ?_ ?_ ?_
            ·exact Zac
            ·exact Zd 0
            ·exact Zm
        ·exact Zan
       ·refine Zh ?_ ?_
        ·refine ZaJ ?_ ?_ ?_
         ·refine Zai ?_ ?_ ?_
          ·exact (ZbQ hu)
          ·refine Zab ?_ ?_ ?_
           ·exact Zac
           ·exact Zd 0
           ·exact Zm
          ·exact ZaO
         ·refine Zo ?_
          refine Zad 4 ?_ ?_
          ·exact ZaL.nd
          ·refine Zv ?_ ?_ ?_
           ·exact Zet
           ·refine Zab ?_ ?_ ?_
            ·exact Zac
            ·exact Zd 2
            ·refine Zab ?_ ?_ ?_
             ·exact Zac
             ·exact Zd 0
             ·exact Zm
           ·refine Zab ?_ ?_ ?_
            ·exact Zac
            ·exact Zd 2
            ·refine Zab ?_ ?_ ?_
             ·exact Zac
             ·exact Zd 0
             ·exact Zm
         ·exact Zan
        ·refine Zh ?_ ?_
         ·refine ZaJ ?_ ?_ ?_
          ·refine Zai ?_ ?_ ?_
           ·exact (ZbQ hu)
           ·refine Zab ?_ ?_ ?_
            ·exact Zac
            ·exact Zd 0
            ·exact Zm
           ·exact ZaO
          ·refine Zo ?_
           refine Zad 4 ?_ ?_
           ·exact ZaL.nd
           ·refine Zab ?_ ?_ ?_
            ·exact Zac
            ·refine Zci ?_
             refine Zc ?_ ?_
             ·exact Zm
             ·refine Zc ?_ ?_
              ·exact Zm
              ·exact Zk
            ·refine Zf0 (T := "int") ?_ ?_ ?_ ?_
             ·exact ZmT
             ·exact T.m_int
             ·exact ZmG
             ·refine Zc ?_ ?_
              ·refine ZdZ ?_ ?_ ?_
               ·exact Zh8
               ·refine Zab ?_ ?_ ?_
                ·exact Zac
                ·exact Zd 2
                ·refine Zab ?_ ?_ ?_
                 ·exact Zac
                 ·exact Zd 0
                 ·exact Zm
               ·refine Zab ?_ ?_ ?_
                ·exact Zac
                ·exact Zd 2
                ·refine Zab ?_ ?_ ?_
                 ·exact Zac
                 ·exact Zd 0
                 ·exact Zm
              ·exact Zk
          ·exact Zan
         ·refine Zh ?_ ?_
          ·refine ZaJ ?_ ?_ ?_
           ·refine Zai ?_ ?_ ?_
            ·exact (ZbQ hu)
            ·refine Zab ?_ ?_ ?_
             ·exact Zac
             ·exact Zd 0
             ·exact Zm
            ·exact ZaO
           ·refine Zo ?_
            refine Zad 4 ?_ ?_
            ·exact ZaL.nd
            ·exact Zd 3
           ·exact Zan
          ·refine Zh ?_ ?_
           ·refine ZaJ ?_ ?_ ?_
            ·refine CW.ct ?_
             refine Zh2 ?_ ?_
             ·refine Zai ?_ ?_ ?_
              ·exact (ZbQ hu)
              ·refine Zab ?_ ?_ ?_
               ·exact Zac
               ·exact Zd 0
               ·exact Zm
              ·exact ZaO
             ·refine Zhn ?_
              refine CW.ct ?_
              refine Ze5 ?_ ?_
              ·refine Zai ?_ ?_ ?_
               ·exact (ZbQ hu)
               ·refine Zab ?_ ?_ ?_
                ·exact Zac
                ·exact Zd 0
                ·exact Zm
               ·exact ZaO
              ·refine Zeh ?_
               refine Zai ?_ ?_ ?_
               ·exact Zh8
               ·refine Zab ?_ ?_ ?_
                ·exact Zac
                ·exact Zd 2
                ·refine Zab ?_ ?_ ?_
                 ·exact Zac
                 ·exact Zd 0
                 ·exact Zm
               ·exact Zm
            ·refine Zo ?_
             refine Zad 1 ?_ ?_
             ·exact ZaL.nd
             ·refine Zab ?_ ?_ ?_
              ·exact Zac
              ·exact Zd 0
              ·refine Zjz ?_ ?_
               ·exact ZgK
               ·exact Zm
            ·exact Zan
           ·refine Zh ?_ ?_
            ·refine ZaJ ?_ ?_ ?_
             ·refine Zai ?_ ?_ ?_
              ·exact ZeX
              ·exact Zd 4
              ·exact ZdG
             ·refine Zo ?_
              refine Zad 2 ?_ ?_
              ·exact ZaL.nd
              ·refine Zv ?_ ?_ ?_
               ·exact ZaI
               ·refine Zv ?_ ?_ ?_
                ·exact ZaI
                ·refine Zeo ?_ ?_ ?_ ?_
                 ·exact Zen
                 ·exact Zd 2
                 ·exact ZbZ
                 ·refine Zbn ?_
                  refine Zab ?_ ?_ ?_
                  ·exact Zac
                  ·exact Zd 0
                  ·exact Zm
                ·refine Zcj ?_
                 refine Zc ?_ ?_
                 ·exact Zd 4
                 ·exact Zk
               ·refine Zeo ?_ ?_ ?_ ?_
                ·exact Zen
                ·exact Zd 2
                ·refine Zbn ?_
                 refine Zv ?_ ?_ ?_
                 ·exact ZaI
                 ·refine Zab ?_ ?_ ?_
                  ·exact Zac
                  ·exact Zd 0
                  ·exact Zm
                 ·exact Zm
                ·exact ZbZ
             ·exact Zan
            ·refine Zo ?_
             refine Zak ?_
             refine Zcj ?_
             refine Zc ?_ ?_
             ·exact Zd 1
             ·refine Zc ?_ ?_
              ·exact Zd 2
              ·exact Zk
theorem ZfQ : Zav ["cell"] ["cell"] (Zq ZbT) := ⟨rfl, rfl, rfl, by decide +kernel, rfl, by decide +kernel, by decide +kernel⟩
theorem ZfY (A : Zat K mg "_law_number" ZbT ["cell"]) (T : Txt K mg) : Fn3 P w K mg base 1 "_law_number" ["cell"] Zah :=
  Fn3.of (N := ["cell"]) (k := 0) A ZfQ fun f cdv A outer s H E hr => by
    have hu := Zcq hr
    unfold Zco
    refine Zh ?_ ?_
    ·refine ZaJ ?_ ?_ ?_
     ·refine Zai ?_ ?_ ?_
      ·exact (ZbQ hu)
      ·refine Zv ?_ ?_ ?_
       ·exact Zbg
       ·exact Zd 0
       ·exact Zm
      ·exact Zm
     ·refine Zo ?_
      refine Zak ?_
      refine Zv ?_ ?_ ?_
      ·exact Zbg
      ·refine Zv ?_ ?_ ?_
       ·exact ZbA
       ·exact Zd 0
       ·exact Zm
      ·refine Zv ?_ ?_ ?_
       ·exact ZiZ
       ·exact Zm
       ·exact Zm
     ·exact Zan
    ·refine Zh ?_ ?_
     ·refine ZaJ ?_ ?_ ?_
      ·refine Zai ?_ ?_ ?_
       ·exact (ZbQ hu)
       ·refine Zv ?_ ?_ ?_
        ·exact Zbg
        ·exact Zd 0
        ·exact Zm
       ·exact Zm
      ·refine Zo ?_
       refine Zak ?_
       refine Zv ?_ ?_ ?_
       ·exact Zet
       ·refine Zjz ?_ ?_
        ·exact ZgK
        ·exact Zm
       ·refine Zv ?_ ?_ ?_
        ·exact Zbg
        ·refine Zv ?_ ?_ ?_
         ·exact ZbA
         ·exact Zd 0
         ·exact Zm
        ·refine Zv ?_ ?_ ?_
         ·exact ZiZ
         ·exact Zm
         ·exact Zm
      ·exact Zan
     ·refine Zo ?_
      refine Zak ?_
      refine Zv ?_ ?_ ?_
      ·exact Zbg
      ·refine Zv ?_ ?_ ?_
       ·exact ZbA
       ·exact Zd 0
       ·exact Zm
      ·exact Zm
theorem Zbw : Zav ["deck", "roll", "place", "boxes", "found", "many"] ["deck", "roll"] (Zq Zcc) := ⟨rfl, rfl, rfl, by decide +kernel, rfl, by decide +kernel, by decide +kernel⟩
theorem Zgt (A : Zat K mg "_law_steps" Zcc ["deck", "roll"]) (T : Txt K mg) (F__law_next : Fn3 P w K mg base 1 "_law_next" ["deck"] Zz) (F__law_behind : Fn3 P w K mg base 1 "_law_behind" ["deed", "place", "boxes", "held"] Zbx) (F__law_number : Fn3 P w K mg base 1 "_law_number" ["cell"] Zah) : Fn3 P w K mg base 2 "_law_steps" ["deck", "roll"] Zdd :=
  Fn3.of (N := ["deck", "roll", "place", "boxes", "found", "many"]) (k := 1) A Zbw fun f cdv A outer s H E hr => by
    have hu := Zcq hr
    unfold ZdR
    refine Zh ?_ ?_
    ·refine Zad 2 ?_ ?_
     ·exact Zbw.nd
     ·refine Zv ?_ ?_ ?_
      ·exact Zbg
      ·refine Zap (k := 1) (ps := ["deck"]) ?_ ?_ ?_
       ·exact F__law_next
       ·exact hr.mono (by decide)
       ·refine Zc ?_ ?_
        ·exact Zd 0
        ·exact Zk
      ·refine Zb0 (id := "len") ?_ ?_ ?_ ?_
       ·exact Zb1
       ·exact T.m_len
       ·exact Zbe
       ·refine Zc ?_ ?_
        ·exact Zd 1
        ·exact Zk
    ·refine Zh ?_ ?_
     ·refine Zad 3 ?_ ?_
      ·exact Zbw.nd
      ·refine Zf0 (T := "tuple") ?_ ?_ ?_ ?_
       ·exact Ze1
       ·exact T.m_tuple
       ·exact Zd7
       ·refine Zc ?_ ?_
        ·refine Zpa (N' := ["deck", "roll", "place", "boxes", "found", "many", "k"]) ?_ ?_ ?_ ?_ (fun C cl s H ex => ⟨?_, ?_, ?_⟩)
         ·exact Zej rfl (by kernel_rfl)
         ·exact rfl
         ·exact rfl
         ·refine ZdH ?_ ?_
          ·exact T.m_range
          ·exact Zm
         ·refine ZcE 6 ?_
          exact (show List.Nodup (["deck", "roll", "place", "boxes", "found", "many", "k"] : List Str) by decide +kernel)
         ·exact ZfI
         ·refine Zap (k := 1) (ps := ["cell"]) ?_ ?_ ?_
          ·exact F__law_number
          ·exact hr.mono (by decide)
          ·refine Zc ?_ ?_
           ·refine Zap (k := 1) (ps := ["deck"]) ?_ ?_ ?_
            ·exact F__law_next
            ·exact hr.mono (by decide)
            ·refine Zc ?_ ?_
             ·exact Zd 0
             ·exact Zk
           ·exact Zk
        ·exact Zk
     ·refine Zh ?_ ?_
      ·refine Zad 4 ?_ ?_
       ·exact Zbw.nd
       ·refine Zci ?_
        refine Zc ?_ ?_
        ·refine Zcj ?_
         refine Zc ?_ ?_
         ·exact Zd 2
         ·refine Zc ?_ ?_
          ·exact Zd 3
          ·exact Zk
        ·exact Zk
      ·refine Zh ?_ ?_
       ·refine Zad 5 ?_ ?_
        ·exact Zbw.nd
        ·refine Zv ?_ ?_ ?_
         ·exact ZaI
         ·exact Zm
         ·refine Zv ?_ ?_ ?_
          ·exact Zbg
          ·refine Zap (k := 1) (ps := ["deck"]) ?_ ?_ ?_
           ·exact F__law_next
           ·exact hr.mono (by decide)
           ·refine Zc ?_ ?_
            ·exact Zd 0
            ·exact Zk
          ·exact Zm
       ·refine Zh ?_ ?_
        ·refine Zkq ?_ ?_ ?_
         ·exact rfl
         ·refine CW.ct ?_
          refine Ze5 ?_ ?_
          ·refine Zai ?_ ?_ ?_
           ·exact Zpp
           ·refine Zb0 (id := "len") ?_ ?_ ?_ ?_
            ·exact Zb1
            ·exact T.m_len
            ·exact Zbe
            ·refine Zc ?_ ?_
             ·exact Zd 4
             ·exact Zk
           ·exact Zd 5
          ·refine Zeh ?_
           refine Zai ?_ ?_ ?_
           ·exact (Znn hu)
           ·refine Zab ?_ ?_ ?_
            ·exact Zac
            ·refine Zab ?_ ?_ ?_
             ·exact Zac
             ·exact Zd 1
             ·exact Zd 2
            ·exact Zm
           ·exact ZaO
         ·refine Zh ?_ ?_
          ·refine ZkK ?_ ?_
           ·refine Zap (k := 1) (ps := ["deed", "place", "boxes", "held"]) ?_ ?_ ?_
            ·exact F__law_behind
            ·exact hr.mono (by decide)
            ·refine Zc ?_ ?_
             ·refine Zab ?_ ?_ ?_
              ·exact Zac
              ·exact Zd 1
              ·exact Zd 2
             ·refine Zc ?_ ?_
              ·exact Zd 2
              ·refine Zc ?_ ?_
               ·exact Zd 3
               ·refine Zc ?_ ?_
                ·refine Zap (k := 1) (ps := ["cell"]) ?_ ?_ ?_
                 ·exact F__law_number
                 ·exact hr.mono (by decide)
                 ·refine Zc ?_ ?_
                  ·refine Zap (k := 1) (ps := ["deck"]) ?_ ?_ ?_
                   ·exact F__law_next
                   ·exact hr.mono (by decide)
                   ·refine Zc ?_ ?_
                    ·exact Zd 0
                    ·exact Zk
                  ·exact Zk
                ·exact Zk
           ·refine Zfi ?_ ?_
            ·exact rfl
            ·refine ZbD 2 ?_ ?_
             ·exact Zbw.nd
             ·refine ZbD 3 ?_ ?_
              ·exact Zbw.nd
              ·exact Zei
          ·refine Zo ?_
           refine Zca ?_
           refine ZaZ ?_ ?_
           ·exact Zd 4
           ·refine Zc ?_ ?_
            ·refine Zcj ?_
             refine Zc ?_ ?_
             ·exact Zd 2
             ·refine Zc ?_ ?_
              ·exact Zd 3
              ·exact Zk
            ·exact Zk
        ·refine Zo ?_
         refine Zak ?_
         exact Zd 4
theorem ZaP : Zav ["cells", "found", "number", "time", "value", "cell", "more", "word"] ["cells"] (Zq Zcv) := ⟨rfl, rfl, rfl, by decide +kernel, rfl, by decide +kernel, by decide +kernel⟩
theorem Zhw (A : Zat K mg "_law_uses" Zcv ["cells"]) (T : Txt K mg) (F__law_number : Fn3 P w K mg base 1 "_law_number" ["cell"] Zah) : Fn3 P w K mg base 2 "_law_uses" ["cells"] Zdw :=
  Fn3.of (N := ["cells", "found", "number", "time", "value", "cell", "more", "word"]) (k := 1) A ZaP fun f cdv A outer s H E hr => by
    have hu := Zcq hr
    unfold Zfp
    refine Zh ?_ ?_
    ·refine Zad 1 ?_ ?_
     ·exact ZaP.nd
     ·refine Zci ?_
      exact Zk
    ·refine Zh ?_ ?_
     ·refine ZkK ?_ ?_
      ·refine Zcj ?_
       refine Zc ?_ ?_
       ·exact Zm
       ·refine Zc ?_ ?_
        ·exact Zm
        ·refine Zc ?_ ?_
         ·exact Zm
         ·exact Zk
      ·refine Zfi ?_ ?_
       ·exact rfl
       ·refine ZbD 2 ?_ ?_
        ·exact ZaP.nd
        ·refine ZbD 3 ?_ ?_
         ·exact ZaP.nd
         ·refine ZbD 4 ?_ ?_
          ·exact ZaP.nd
          ·exact Zei
     ·refine Zh ?_ ?_
      ·refine ZdS ?_ ?_ ?_ ?_ ?_
       ·exact rfl
       ·exact rfl
       ·refine Zkn ?_
        exact Zd 0
       ·refine ZcE 5 ?_
        exact ZaP.nd
       ·refine Zh ?_ ?_
        ·refine Zad 6 ?_ ?_
         ·exact ZaP.nd
         ·refine Zv ?_ ?_ ?_
          ·exact ZbA
          ·exact Zd 5
          ·exact Zm
        ·refine Zh ?_ ?_
         ·refine ZaJ ?_ ?_ ?_
          ·refine Zai ?_ ?_ ?_
           ·exact (ZbQ hu)
           ·refine Zv ?_ ?_ ?_
            ·exact Zbg
            ·exact Zd 5
            ·exact Zm
           ·exact Zm
          ·refine Zh ?_ ?_
           ·refine Zad 2 ?_ ?_
            ·exact ZaP.nd
            ·refine Zv ?_ ?_ ?_
             ·exact ZaI
             ·refine Zv ?_ ?_ ?_
              ·exact ZaI
              ·exact Zd 2
              ·exact Zm
             ·refine Zv ?_ ?_ ?_
              ·exact Zbg
              ·exact Zd 6
              ·exact Zm
           ·refine Zo ?_
            refine Zad 4 ?_ ?_
            ·exact ZaP.nd
            ·exact Zm
          ·exact Zan
         ·refine Zh ?_ ?_
          ·refine Zad 3 ?_ ?_
           ·exact ZaP.nd
           ·refine Zv ?_ ?_ ?_
            ·exact ZaI
            ·refine Zv ?_ ?_ ?_
             ·exact ZaI
             ·exact Zd 3
             ·exact Zm
            ·refine Zv ?_ ?_ ?_
             ·exact Zbg
             ·exact Zd 6
             ·exact Zm
          ·refine Zh ?_ ?_
           ·refine Zad 7 ?_ ?_
            ·exact ZaP.nd
            ·refine Zab ?_ ?_ ?_
             ·exact Zac
             ·refine Zci ?_
              refine Zc ?_ ?_
              ·exact ZaO
              ·refine Zc ?_ ?_
               ·exact ZaO
               ·exact Zk
             ·refine Zv ?_ ?_ ?_
              ·exact Zbg
              ·refine Zv ?_ ?_ ?_
               ·exact ZbA
               ·exact Zd 5
               ·exact Zm
              ·exact Zm
           ·refine Zh ?_ ?_
            ·refine ZaJ ?_ ?_ ?_
             ·refine Zai ?_ ?_ ?_
              ·exact (ZbQ hu)
              ·exact Zd 7
              ·exact ZaO
             ·refine Zo ?_
              refine Zad 4 ?_ ?_
              ·exact ZaP.nd
              ·refine Zap (k := 1) (ps := ["cell"]) ?_ ?_ ?_
               ·exact F__law_number
               ·exact hr.mono (by decide)
               ·refine Zc ?_ ?_
                ·exact Zd 6
                ·exact Zk
             ·exact Zan
            ·refine Zo ?_
             refine Zca ?_
             refine ZaZ ?_ ?_
             ·exact Zd 1
             ·refine Zc ?_ ?_
              ·refine Zcj ?_
               refine Zc ?_ ?_
               ·exact Zd 2
               ·refine Zc ?_ ?_
                ·exact Zd 3
                ·refine Zc ?_ ?_
                 ·exact Zd 7
                 ·refine Zc ?_ ?_
                  ·exact Zd 4
                  ·exact Zk
              ·exact Zk
      ·refine Zo ?_
       refine Zak ?_
       exact Zd 1
theorem Zbu : Zav ["rows", "cell", "way", "at", "row", "box"] ["rows", "cell", "way"] (Zq ZbB) := ⟨rfl, rfl, rfl, by decide +kernel, rfl, by decide +kernel, by decide +kernel⟩
theorem ZfA (A : Zat K mg "_law_changed" ZbB ["rows", "cell", "way"]) (T : Txt K mg) : Fn3 P w K mg base 1 "_law_changed" ["rows", "cell", "way"] ZaN :=
  Fn3.of (N := ["rows", "cell", "way", "at", "row", "box"]) (k := 0) A Zbu fun f cdv A outer s H E hr => by
    have hu := Zcq hr
    unfold Zee
    refine Zh ?_ ?_
    ·refine ZaJ ?_ ?_ ?_
     ·refine Zai ?_ ?_ ?_
      ·exact (ZbQ hu)
      ·exact Zd 0
      ·refine Zci ?_
       exact Zk
     ·refine Zo ?_
      refine Zak ?_
      exact Zd 0
     ·exact Zan
    ·refine Zh ?_ ?_
     ·refine Zad 3 ?_ ?_
      ·exact Zbu.nd
      ·refine Zv ?_ ?_ ?_
       ·exact Zbg
       ·exact Zd 1
       ·refine Zb0 (id := "len") ?_ ?_ ?_ ?_
        ·exact Zb1
        ·exact T.m_len
        ·exact Zbe
        ·refine Zc ?_ ?_
         ·exact Zd 0
         ·exact Zk
     ·refine Zh ?_ ?_
      ·refine Zad 4 ?_ ?_
       ·exact Zbu.nd
       ·refine Zab ?_ ?_ ?_
        ·exact Zac
        ·exact Zd 0
        ·exact Zd 3
      ·refine Zh ?_ ?_
       ·refine ZaJ ?_ ?_ ?_
        ·refine Zai ?_ ?_ ?_
         ·exact (ZbQ hu)
         ·exact Zd 2
         ·exact Zm
        ·refine Zh ?_ ?_
         ·refine Zad 5 ?_ ?_
          ·exact Zbu.nd
          ·refine Zv ?_ ?_ ?_
           ·exact Zbg
           ·refine Zv ?_ ?_ ?_
            ·exact ZbA
            ·exact Zd 1
            ·exact Zm
           ·exact Zm
         ·refine Zo ?_
          refine Zad 4 ?_ ?_
          ·exact Zbu.nd
          ·refine Zcj ?_
           refine Zc ?_ ?_
           ·refine Zv ?_ ?_ ?_
            ·exact ZaI
            ·refine Zab ?_ ?_ ?_
             ·exact Zac
             ·exact Zd 4
             ·exact Zm
            ·refine Zv ?_ ?_ ?_
             ·exact Zbg
             ·refine Zv ?_ ?_ ?_
              ·exact ZbA
              ·exact Zd 1
              ·exact Zm
             ·exact Zm
           ·refine Zc ?_ ?_
            ·refine Zv ?_ ?_ ?_
             ·exact ZaI
             ·refine Zv ?_ ?_ ?_
              ·exact ZaI
              ·refine Zeo ?_ ?_ ?_ ?_
               ·exact Zen
               ·refine Zab ?_ ?_ ?_
                ·exact Zac
                ·exact Zd 4
                ·exact Zm
               ·exact ZbZ
               ·refine Zbn ?_
                exact Zd 5
              ·refine Zcj ?_
               refine Zc ?_ ?_
               ·refine Zv ?_ ?_ ?_
                ·exact ZaI
                ·refine Zab ?_ ?_ ?_
                 ·exact Zac
                 ·refine Zab ?_ ?_ ?_
                  ·exact Zac
                  ·exact Zd 4
                  ·exact Zm
                 ·exact Zd 5
                ·exact Zm
               ·exact Zk
             ·refine Zeo ?_ ?_ ?_ ?_
              ·exact Zen
              ·refine Zab ?_ ?_ ?_
               ·exact Zac
               ·exact Zd 4
               ·exact Zm
              ·refine Zbn ?_
               refine Zv ?_ ?_ ?_
               ·exact ZaI
               ·exact Zd 5
               ·exact Zm
              ·exact ZbZ
            ·exact Zk
        ·refine Zo ?_
         refine Zad 4 ?_ ?_
         ·exact Zbu.nd
         ·refine Zcj ?_
          refine Zc ?_ ?_
          ·refine Zab ?_ ?_ ?_
           ·exact Zac
           ·exact Zd 4
           ·exact Zm
          ·refine Zc ?_ ?_
           ·refine Zv ?_ ?_ ?_
            ·exact Zet
            ·refine Zab ?_ ?_ ?_
             ·exact Zac
             ·exact Zd 4
             ·exact Zm
            ·refine Zv ?_ ?_ ?_
             ·exact Zbg
             ·refine Zv ?_ ?_ ?_
              ·exact ZbA
              ·exact Zd 1
              ·exact Zm
             ·exact Zm
           ·refine Zc ?_ ?_
            ·refine Zab ?_ ?_ ?_
             ·exact Zac
             ·exact Zd 4
             ·exact Zm
            ·refine Zc ?_ ?_
             ·refine Zv ?_ ?_ ?_
              ·exact ZaI
              ·refine Zv ?_ ?_ ?_
               ·exact ZaI
               ·refine Zab ?_ ?_ ?_
                ·exact Zac
                ·exact Zd 4
                ·exact Zm
               ·exact Zm
              ·refine Zv ?_ ?_ ?_
               ·exact Zbg
               ·refine Zv ?_ ?_ ?_
                ·exact ZbA
                ·exact Zd 1
                ·exact Zm
               ·exact Zm
             ·exact Zk
       ·refine Zo ?_
        refine Zak ?_
        refine Zv ?_ ?_ ?_
        ·exact ZaI
        ·refine Zv ?_ ?_ ?_
         ·exact ZaI
         ·refine Zeo ?_ ?_ ?_ ?_
          ·exact Zen
          ·exact Zd 0
          ·exact ZbZ
          ·refine Zbn ?_
           exact Zd 3
         ·refine Zci ?_
          refine Zc ?_ ?_
          ·exact Zd 4
          ·exact Zk
        ·refine Zeo ?_ ?_ ?_ ?_
         ·exact Zen
         ·exact Zd 0
         ·refine Zbn ?_
          refine Zv ?_ ?_ ?_
          ·exact ZaI
          ·exact Zd 3
          ·exact Zm
         ·exact ZbZ
theorem ZdO : Zav ["deck", "low", "high", "way", "found", "place"] ["deck", "low", "high", "way"] (Zq Zcz) := ⟨rfl, rfl, rfl, by decide +kernel, rfl, by decide +kernel, by decide +kernel⟩
theorem Zhx (A : Zat K mg "_law_cuts" Zcz ["deck", "low", "high", "way"]) (T : Txt K mg) (F__law_next : Fn3 P w K mg base 1 "_law_next" ["deck"] Zz) : Fn3 P w K mg base 2 "_law_cuts" ["deck", "low", "high", "way"] Zbf :=
  Fn3.of (N := ["deck", "low", "high", "way", "found", "place"]) (k := 1) A ZdO fun f cdv A outer s H E hr => by
    have hu := Zcq hr
    unfold Zfr
    refine Zh ?_ ?_
    ·refine Zad 4 ?_ ?_
     ·exact ZdO.nd
     ·refine Zci ?_
      exact Zk
    ·refine Zh ?_ ?_
     ·refine ZdS ?_ ?_ ?_ ?_ ?_
      ·exact rfl
      ·exact rfl
      ·refine Zjv ?_ ?_ ?_
       ·exact T.m_range
       ·exact Zd 1
       ·exact Zd 2
      ·refine ZcE 5 ?_
       exact ZdO.nd
      ·refine Zo ?_
       refine ZaJ ?_ ?_ ?_
       ·refine CW.ct ?_
        refine Zh2 ?_ ?_
        ·refine Zai ?_ ?_ ?_
         ·exact (ZbQ hu)
         ·exact Zd 3
         ·exact Zm
        ·refine Zhn ?_
         refine Zai ?_ ?_ ?_
         ·exact (ZbQ hu)
         ·refine Zv ?_ ?_ ?_
          ·exact Zbg
          ·refine Zap (k := 1) (ps := ["deck"]) ?_ ?_ ?_
           ·exact F__law_next
           ·exact hr.mono (by decide)
           ·refine Zc ?_ ?_
            ·exact Zd 0
            ·exact Zk
          ·exact Zm
         ·exact Zm
       ·refine Zo ?_
        refine Zca ?_
        refine ZaZ ?_ ?_
        ·exact Zd 4
        ·refine Zc ?_ ?_
         ·exact Zd 5
         ·exact Zk
       ·exact Zan
     ·refine Zo ?_
      refine Zak ?_
      exact Zd 4
theorem Zeu : Zav ["whole", "parts", "begins", "k"] ["whole", "parts", "begins"] (Zq Zb9) := ⟨rfl, rfl, rfl, by decide +kernel, rfl, by decide +kernel, by decide +kernel⟩
theorem ZgA (A : Zat K mg "_law_meets" Zb9 ["whole", "parts", "begins"]) (T : Txt K mg) : Fn3 P w K mg base 1 "_law_meets" ["whole", "parts", "begins"] ZbI :=
  Fn3.of (N := ["whole", "parts", "begins", "k"]) (k := 0) A Zeu fun f cdv A outer s H E hr => by
    have hu := Zcq hr
    unfold ZeO
    refine Zh ?_ ?_
    ·refine ZdS ?_ ?_ ?_ ?_ ?_
     ·exact rfl
     ·exact rfl
     ·refine ZdH ?_ ?_
      ·exact T.m_range
      ·refine Zb0 (id := "len") ?_ ?_ ?_ ?_
       ·exact Zb1
       ·exact T.m_len
       ·exact Zbe
       ·refine Zc ?_ ?_
        ·exact Zd 1
        ·exact Zk
     ·refine ZcE 3 ?_
      exact Zeu.nd
     ·refine Zo ?_
      refine ZaJ ?_ ?_ ?_
      ·refine Zai ?_ ?_ ?_
       ·exact ZeX
       ·refine Zab ?_ ?_ ?_
        ·exact Zac
        ·exact Zd 1
        ·exact Zd 3
       ·exact ZdG
      ·refine Zo ?_
       refine Zak ?_
       refine ZgI ?_ ?_
       ·refine ZdZ ?_ ?_ ?_
        ·exact ZeX
        ·exact Zd 0
        ·exact ZdG
       ·refine ZgL ?_
        refine ZdZ ?_ ?_ ?_
        ·exact (ZbQ hu)
        ·exact Zd 0
        ·refine Zv ?_ ?_ ?_
         ·exact ZaI
         ·refine Zab ?_ ?_ ?_
          ·exact Zac
          ·exact Zd 2
          ·exact Zd 3
         ·refine Zab ?_ ?_ ?_
          ·exact Zac
          ·exact Zd 1
          ·exact Zd 3
      ·exact Zan
    ·refine Zo ?_
     refine Zak ?_
     refine ZdZ ?_ ?_ ?_
     ·exact Zn3
     ·exact Zd 0
     ·exact ZdG
theorem ZcJ : Zav ["roll", "steps", "cuts", "pieces", "parts"] ["roll", "steps", "cuts"] (Zq Zbh) := ⟨rfl, rfl, rfl, by decide +kernel, rfl, by decide +kernel, by decide +kernel⟩
theorem ZeN (A : Zat K mg "_law_steps_met" Zbh ["roll", "steps", "cuts"]) (T : Txt K mg) (F_cut_steps : Fn3 P w K mg base 3 "cut_steps" ["steps", "cuts"] Zdt) (F_steps_fault : Fn3 P w K mg base 6 "steps_fault" ["roll", "piece"] ZbU) (F_joined_steps : Fn3 P w K mg base 1 "joined_steps" ["pieces"] ZcL) (F__law_meets : Fn3 P w K mg base 1 "_law_meets" ["whole", "parts", "begins"] ZbI) : Fn3 P w K mg base 7 "_law_steps_met" ["roll", "steps", "cuts"] ZaX :=
  Fn3.of (N := ["roll", "steps", "cuts", "pieces", "parts"]) (k := 6) A ZcJ fun f cdv A outer s H E hr => by
    have hu := Zcq hr
    unfold ZdM
    refine Zh ?_ ?_
    ·refine Zad 3 ?_ ?_
     ·exact ZcJ.nd
     ·refine Zap (k := 3) (ps := ["steps", "cuts"]) ?_ ?_ ?_
      ·exact F_cut_steps
      ·exact hr.mono (by decide)
      ·refine Zc ?_ ?_
       ·exact Zd 1
       ·refine Zc ?_ ?_
        ·exact Zd 2
        ·exact Zk
    ·refine Zh ?_ ?_
     ·refine ZkA (N' := ["roll", "steps", "cuts", "pieces", "parts", "piece"]) 4 ?_ ?_ ?_ ?_ ?_ (fun C cl s H ex => ⟨?_, ?_, ?_⟩)
      ·exact Zej rfl (by kernel_rfl)
      ·exact rfl
      ·exact rfl
      ·exact ZcJ.nd
      ·refine Zkn ?_
       exact Zd 3
      ·refine ZcE 5 ?_
       exact (show List.Nodup (["roll", "steps", "cuts", "pieces", "parts", "piece"] : List Str) by decide +kernel)
      ·exact ZfI
      ·refine Zap (k := 6) (ps := ["roll", "piece"]) ?_ ?_ ?_
       ·exact F_steps_fault
       ·exact hr.mono (by decide)
       ·refine Zc ?_ ?_
        ·exact Zd 0
        ·refine Zc ?_ ?_
         ·exact Zd 5
         ·exact Zk
     ·refine Zo ?_
      refine Zak ?_
      refine ZgI ?_ ?_
      ·refine Zap (k := 1) (ps := ["whole", "parts", "begins"]) ?_ ?_ ?_
       ·exact F__law_meets
       ·exact hr.mono (by decide)
       ·refine Zc ?_ ?_
        ·refine Zap (k := 6) (ps := ["roll", "piece"]) ?_ ?_ ?_
         ·exact F_steps_fault
         ·exact hr.mono (by decide)
         ·refine Zc ?_ ?_
          ·exact Zd 0
          ·refine Zc ?_ ?_
           ·exact Zd 1
           ·exact Zk
        ·refine Zc ?_ ?_
         ·exact Zd 4
         ·refine Zc ?_ ?_
          ·refine Zv ?_ ?_ ?_
           ·exact ZaI
           ·refine Zci ?_
            refine Zc ?_ ?_
            ·exact Zm
            ·exact Zk
           ·exact Zd 2
          ·exact Zk
      ·refine ZgL ?_
       refine ZdZ ?_ ?_ ?_
       ·exact (ZbQ hu)
       ·refine Zap (k := 1) (ps := ["pieces"]) ?_ ?_ ?_
        ·exact F_joined_steps
        ·exact hr.mono (by decide)
        ·refine Zc ?_ ?_
         ·exact Zd 3
         ·exact Zk
       ·exact Zd 1
theorem ZaU : Zav ["uses", "cuts", "parts", "chain", "ahead", "piece"] ["uses", "cuts"] (Zq Zbt) := ⟨rfl, rfl, rfl, by decide +kernel, rfl, by decide +kernel, by decide +kernel⟩
theorem Zfj (A : Zat K mg "_law_uses_met" Zbt ["uses", "cuts"]) (T : Txt K mg) (F_cut_uses : Fn3 P w K mg base 3 "cut_uses" ["uses", "cuts"] ZcX) (F_uses_fault : Fn3 P w K mg base 3 "uses_fault" ["ahead", "piece"] ZbJ) (F__law_meets : Fn3 P w K mg base 1 "_law_meets" ["whole", "parts", "begins"] ZbI) : Fn3 P w K mg base 4 "_law_uses_met" ["uses", "cuts"] Za6 :=
  Fn3.of (N := ["uses", "cuts", "parts", "chain", "ahead", "piece"]) (k := 3) A ZaU fun f cdv A outer s H E hr => by
    have hu := Zcq hr
    unfold ZdX
    refine Zh ?_ ?_
    ·refine Zad 2 ?_ ?_
     ·exact ZaU.nd
     ·refine Zci ?_
      exact Zk
    ·refine Zh ?_ ?_
     ·refine Zad 3 ?_ ?_
      ·exact ZaU.nd
      ·refine Zcj ?_
       exact Zk
     ·refine Zh ?_ ?_
      ·refine Zad 4 ?_ ?_
       ·exact ZaU.nd
       ·exact ZdG
      ·refine Zh ?_ ?_
       ·refine ZdS ?_ ?_ ?_ ?_ ?_
        ·exact rfl
        ·exact rfl
        ·refine Zkn ?_
         refine Zap (k := 3) (ps := ["uses", "cuts"]) ?_ ?_ ?_
         ·exact F_cut_uses
         ·exact hr.mono (by decide)
         ·refine Zc ?_ ?_
          ·exact Zd 0
          ·refine Zc ?_ ?_
           ·exact Zd 1
           ·exact Zk
        ·refine ZcE 5 ?_
         exact ZaU.nd
        ·refine Zh ?_ ?_
         ·refine Zca ?_
          refine ZaZ ?_ ?_
          ·exact Zd 2
          ·refine Zc ?_ ?_
           ·refine Zap (k := 3) (ps := ["ahead", "piece"]) ?_ ?_ ?_
            ·exact F_uses_fault
            ·exact hr.mono (by decide)
            ·refine Zc ?_ ?_
             ·exact Zd 4
             ·refine Zc ?_ ?_
              ·exact Zd 5
              ·exact Zk
           ·exact Zk
         ·refine Zh ?_ ?_
          ·refine Zad 3 ?_ ?_
           ·exact ZaU.nd
           ·refine Zv ?_ ?_ ?_
            ·exact ZaI
            ·exact Zd 3
            ·exact Zd 5
          ·refine Zo ?_
           refine ZaJ ?_ ?_ ?_
           ·refine Zai ?_ ?_ ?_
            ·exact Zh8
            ·refine Zb0 (id := "len") ?_ ?_ ?_ ?_
             ·exact Zb1
             ·exact T.m_len
             ·exact Zbe
             ·refine Zc ?_ ?_
              ·exact Zd 5
              ·exact Zk
            ·exact Zm
           ·refine Zo ?_
            refine Zad 4 ?_ ?_
            ·exact ZaU.nd
            ·refine Zab ?_ ?_ ?_
             ·exact Zac
             ·exact Zd 5
             ·refine Zjz ?_ ?_
              ·exact ZgK
              ·exact Zm
           ·exact Zan
       ·refine Zo ?_
        refine Zak ?_
        refine ZgI ?_ ?_
        ·refine Zap (k := 1) (ps := ["whole", "parts", "begins"]) ?_ ?_ ?_
         ·exact F__law_meets
         ·exact hr.mono (by decide)
         ·refine Zc ?_ ?_
          ·refine Zap (k := 3) (ps := ["ahead", "piece"]) ?_ ?_ ?_
           ·exact F_uses_fault
           ·exact hr.mono (by decide)
           ·refine Zc ?_ ?_
            ·exact ZdG
            ·refine Zc ?_ ?_
             ·exact Zd 0
             ·exact Zk
          ·refine Zc ?_ ?_
           ·exact Zd 2
           ·refine Zc ?_ ?_
            ·refine Zv ?_ ?_ ?_
             ·exact ZaI
             ·refine Zci ?_
              refine Zc ?_ ?_
              ·exact Zm
              ·exact Zk
             ·exact Zd 1
            ·exact Zk
        ·refine ZgL ?_
         refine ZdZ ?_ ?_ ?_
         ·exact (ZbQ hu)
         ·exact Zd 3
         ·exact Zd 0
theorem Zc7 : Zav ["script", "deck", "cell", "roll", "steps", "uses", "k", "way", "cuts"] ["script"] (Zq ZeR) := ⟨rfl, rfl, rfl, by decide +kernel, rfl, by decide +kernel, by decide +kernel⟩
theorem Zm5 {f : Addr} {fd : FuncData} (F : Fun K "law" "law" ZeR f fd) (T : Txt K mg) (F__law_next : Fn3 P w K mg base 1 "_law_next" ["deck"] Zz) (F__law_roll : Fn3 P w K mg base 1 "_law_roll" ["cells"] Zdy) (F__law_steps : Fn3 P w K mg base 2 "_law_steps" ["deck", "roll"] Zdd) (F__law_uses : Fn3 P w K mg base 2 "_law_uses" ["cells"] Zdw) (F__law_changed : Fn3 P w K mg base 1 "_law_changed" ["rows", "cell", "way"] ZaN) (F__law_cuts : Fn3 P w K mg base 2 "_law_cuts" ["deck", "low", "high", "way"] Zbf) (F__law_steps_met : Fn3 P w K mg base 7 "_law_steps_met" ["roll", "steps", "cuts"] ZaX) (F__law_uses_met : Fn3 P w K mg base 4 "_law_uses_met" ["uses", "cuts"] Za6) : Ze3 P w K mg base CX0 8 f fd ["script"] (sp3 K 1 Zjm) :=
  fn3 (N := ["script", "deck", "cell", "roll", "steps", "uses", "k", "way", "cuts"]) (k := 7) F Zc7 fun cdv A outer s H E hr => by
    have hu := Zcq hr
    unfold Zkw
    refine Zh ?_ ?_
    ·refine Zad 1 ?_ ?_
     ·exact Zc7.nd
     ·refine Zci ?_
      refine Zc ?_ ?_
      ·refine Zeo ?_ ?_ ?_ ?_
       ·exact Zen
       ·exact Zd 0
       ·exact ZbZ
       ·refine Zbn ?_
        exact Zm
      ·refine Zc ?_ ?_
       ·exact Zm
       ·exact Zk
    ·refine Zh ?_ ?_
     ·refine Zad 2 ?_ ?_
      ·exact Zc7.nd
      ·refine Zap (k := 1) (ps := ["deck"]) ?_ ?_ ?_
       ·exact F__law_next
       ·exact hr.mono (by decide)
       ·refine Zc ?_ ?_
        ·exact Zd 1
        ·exact Zk
     ·refine Zh ?_ ?_
      ·refine Zad 3 ?_ ?_
       ·exact Zc7.nd
       ·refine Zap (k := 1) (ps := ["cells"]) ?_ ?_ ?_
        ·exact F__law_roll
        ·exact hr.mono (by decide)
        ·refine Zc ?_ ?_
         ·refine Zeo ?_ ?_ ?_ ?_
          ·exact Zen
          ·exact Zd 0
          ·exact ZbZ
          ·refine Zbn ?_
           exact Zm
         ·exact Zk
      ·refine Zh ?_ ?_
       ·refine Zad 4 ?_ ?_
        ·exact Zc7.nd
        ·refine Zap (k := 2) (ps := ["deck", "roll"]) ?_ ?_ ?_
         ·exact F__law_steps
         ·exact hr.mono (by decide)
         ·refine Zc ?_ ?_
          ·exact Zd 1
          ·refine Zc ?_ ?_
           ·exact Zd 3
           ·exact Zk
       ·refine Zh ?_ ?_
        ·refine Zad 5 ?_ ?_
         ·exact Zc7.nd
         ·refine Zap (k := 2) (ps := ["cells"]) ?_ ?_ ?_
          ·exact F__law_uses
          ·exact hr.mono (by decide)
          ·refine Zc ?_ ?_
           ·refine Zeo ?_ ?_ ?_ ?_
            ·exact Zen
            ·exact Zd 0
            ·exact ZbZ
            ·refine Zbn ?_
             exact Zm
           ·exact Zk
        ·refine Zh ?_ ?_
         ·refine ZdS ?_ ?_ ?_ ?_ ?_
          ·exact rfl
          ·exact rfl
          ·refine ZdH ?_ ?_
           ·exact T.m_range
           ·refine Zv ?_ ?_ ?_
            ·exact Zbg
            ·exact Zd 2
            ·exact Zm
          ·refine ZcE 6 ?_
           exact Zc7.nd
          ·refine Zh ?_ ?_
           ·refine Zad 4 ?_ ?_
            ·exact Zc7.nd
            ·refine Zap (k := 1) (ps := ["rows", "cell", "way"]) ?_ ?_ ?_
             ·exact F__law_changed
             ·exact hr.mono (by decide)
             ·refine Zc ?_ ?_
              ·exact Zd 4
              ·refine Zc ?_ ?_
               ·refine Zap (k := 1) (ps := ["deck"]) ?_ ?_ ?_
                ·exact F__law_next
                ·exact hr.mono (by decide)
                ·refine Zc ?_ ?_
                 ·exact Zd 1
                 ·exact Zk
               ·refine Zc ?_ ?_
                ·exact Zm
                ·exact Zk
           ·refine Zo ?_
            refine Zad 5 ?_ ?_
            ·exact Zc7.nd
            ·refine Zap (k := 1) (ps := ["rows", "cell", "way"]) ?_ ?_ ?_
             ·exact F__law_changed
             ·exact hr.mono (by decide)
             ·refine Zc ?_ ?_
              ·exact Zd 5
              ·refine Zc ?_ ?_
               ·refine Zap (k := 1) (ps := ["deck"]) ?_ ?_ ?_
                ·exact F__law_next
                ·exact hr.mono (by decide)
                ·refine Zc ?_ ?_
                 ·exact Zd 1
                 ·exact Zk
               ·refine Zc ?_ ?_
                ·exact Zm
                ·exact Zk
         ·refine Zh ?_ ?_
          ·refine ZdS ?_ ?_ ?_ ?_ ?_
           ·exact rfl
           ·exact rfl
           ·refine ZdH ?_ ?_
            ·exact T.m_range
            ·exact Zm
           ·refine ZcE 7 ?_
            exact Zc7.nd
           ·refine Zh ?_ ?_
            ·refine Zad 8 ?_ ?_
             ·exact Zc7.nd
             ·refine Zap (k := 2) (ps := ["deck", "low", "high", "way"]) ?_ ?_ ?_
              ·exact F__law_cuts
              ·exact hr.mono (by decide)
              ·refine Zc ?_ ?_
               ·exact Zd 1
               ·refine Zc ?_ ?_
                ·exact Zm
                ·refine Zc ?_ ?_
                 ·refine Zv ?_ ?_ ?_
                  ·exact Zet
                  ·refine Zb0 (id := "len") ?_ ?_ ?_ ?_
                   ·exact Zb1
                   ·exact T.m_len
                   ·exact Zbe
                   ·refine Zc ?_ ?_
                    ·exact Zd 4
                    ·exact Zk
                  ·exact Zm
                 ·refine Zc ?_ ?_
                  ·exact Zd 7
                  ·exact Zk
            ·refine Zh ?_ ?_
             ·refine ZaJ ?_ ?_ ?_
              ·refine Zfc ?_
               refine Zea ?_
               refine Zap (k := 7) (ps := ["roll", "steps", "cuts"]) ?_ ?_ ?_
               ·exact F__law_steps_met
               ·exact hr.mono (by decide)
               ·refine Zc ?_ ?_
                ·exact Zd 3
                ·refine Zc ?_ ?_
                 ·refine Zf0 (T := "tuple") ?_ ?_ ?_ ?_
                  ·exact Ze1
                  ·exact T.m_tuple
                  ·exact Zd7
                  ·refine Zc ?_ ?_
                   ·exact Zd 4
                   ·exact Zk
                 ·refine Zc ?_ ?_
                  ·exact Zd 8
                  ·exact Zk
              ·refine Zo ?_
               refine Zak ?_
               exact ZjM
              ·exact Zan
             ·refine Zh ?_ ?_
              ·refine Zad 8 ?_ ?_
               ·exact Zc7.nd
               ·refine Zap (k := 2) (ps := ["deck", "low", "high", "way"]) ?_ ?_ ?_
                ·exact F__law_cuts
                ·exact hr.mono (by decide)
                ·refine Zc ?_ ?_
                 ·exact Zd 1
                 ·refine Zc ?_ ?_
                  ·exact Zm
                  ·refine Zc ?_ ?_
                   ·refine Zv ?_ ?_ ?_
                    ·exact ZaI
                    ·refine Zb0 (id := "len") ?_ ?_ ?_ ?_
                     ·exact Zb1
                     ·exact T.m_len
                     ·exact Zbe
                     ·refine Zc ?_ ?_
                      ·exact Zd 5
                      ·exact Zk
                    ·exact Zm
                   ·refine Zc ?_ ?_
                    ·exact Zd 7
                    ·exact Zk
              ·refine Zo ?_
               refine ZaJ ?_ ?_ ?_
               ·refine Zfc ?_
                refine Zea ?_
                refine Zap (k := 4) (ps := ["uses", "cuts"]) ?_ ?_ ?_
                ·exact F__law_uses_met
                ·exact hr.mono (by decide)
                ·refine Zc ?_ ?_
                 ·refine Zf0 (T := "tuple") ?_ ?_ ?_ ?_
                  ·exact Ze1
                  ·exact T.m_tuple
                  ·exact Zd7
                  ·refine Zc ?_ ?_
                   ·exact Zd 5
                   ·exact Zk
                 ·refine Zc ?_ ?_
                  ·exact Zd 8
                  ·exact Zk
               ·refine Zo ?_
                refine Zak ?_
                exact ZjM
               ·exact Zan
          ·refine Zo ?_
           refine Zak ?_
           exact ZjM
end
end Law
set_option maxHeartbeats 200000
namespace Law
open L3
theorem ZfU (n d : Nat) : sIx n d none = d := rfl
theorem ZeV (n d k : Nat) : sIx n d (some (k : Int)) = min k n := by
 have h : ¬ ((k : Int) < 0) := by omega
 simp only [sIx, if_neg h, Int.toNat_natCast]
theorem Zd3 {α : Type} (w : List α) (k : Nat) : cutD w (some (k : Int)) none = w.drop k := by
 unfold cutD
 rw [ZeV, ZfU]
 by_cases h : k ≤ w.length
 ·rw [Nat.min_eq_left h, List.take_of_length_le (by simp)]
 ·rw [Nat.min_eq_right (by omega), List.drop_eq_nil_of_le (Nat.le_refl _), List.drop_eq_nil_of_le (by omega)]; simp
theorem ZfK {α : Type} (w : List α) (k : Nat) : cutD w none (some (k : Int)) = w.take k := by
 unfold cutD
 rw [ZeV, ZfU]
 by_cases h : k ≤ w.length
 ·rw [Nat.min_eq_left h]; simp
 ·rw [Nat.min_eq_right (by omega), Nat.sub_zero, List.drop_zero, List.take_of_length_le (Nat.le_refl _), List.take_of_length_le (by omega)]
theorem Zc0 (n : Nat) (bs : List Int) : below n (Zi bs) = true := by
 unfold Zi below
 induction bs with
 | nil => rfl
 | cons b bs ih => simp only [List.map_cons, belowL, below, ih, Bool.and_self]
theorem Zom {bs : List Int} (h : bs.length = 8) {a : Nat} (ha : a < 8) : bs[a]? = some (bs.getD a 0) := by
 rw [List.getD_eq_getElem?_getD, List.getElem?_eq_getElem (by omega)]; rfl
theorem Zb3 {bs : List Int} (h : bs.length = 8) {a : Nat} (ha : a < 8) : ∃ x, bs.getD a 0 = x ∧ ZaT (bs.map D.int) (a : Int) = some (.int x) := ⟨bs.getD a 0, rfl, by rw [ZdF, List.getElem?_map, Zom h ha]; rfl⟩
theorem ZoQ {i j : Int} (h : -(2 ^ 64) < i ∧ i < 2 ^ 64) : Zdb i j = true := by
 unfold Zdb; rw [Bool.or_eq_true]; left; simp only [Bool.and_eq_true, decide_eq_true_eq]; exact h
theorem mul_r {i j : Int} (h : -(2 ^ 64) < j ∧ j < 2 ^ 64) : Zdb i j = true := by
 unfold Zdb; rw [Bool.or_eq_true]; right; simp only [Bool.and_eq_true, decide_eq_true_eq]; exact h
theorem Zch (x : Int) (m : Nat) (h : 0 < m) : ∃ a : Nat, x % (m : Int) = a ∧ a < m := by
 have h1 := Int.emod_nonneg x (b := (m : Int)) (by omega)
 have h2 := Int.emod_lt_of_pos x (b := (m : Int)) (by omega)
 exact ⟨(x % (m : Int)).toNat, (Int.toNat_of_nonneg h1).symm, by omega⟩
theorem ZiO (n : Nat) (r : Zdl) : below n (Zw r) = true := by
 unfold Zw below
 induction r with
 | nil => rfl
 | cons x r ih =>
  simp only [List.map_cons, belowL, ih, Bool.and_true]
  cases x <;> rfl
noncomputable def Zje : S3 := (sIf (e2 Zay (Zb 4) (eC (.str [112, 117, 116]))) (ZaA (Zcg tyL ZaK (Zb 1) (Za (Zba (Za (Zb 4) (Za (Zb 6) (Za (e2 Zj (Zbk (Za (e2 Zaq (e2 ZaE (Zb 5) (eC (.int 8))) (eC (.int 3))) (Za (e2 ZcP (eC (.int 0)) (e2 Zaq (e2 ZaE (Zb 5) (eC (.int 8))) (e2 Zft (eC (.int 10)) (eC (.int 40))))) (Za (e2 Zaq (e2 ZaE (Zb 5) (eC (.int 8))) (e2 Zft (eC (.int 10)) (eC (.int 40)))) (Zg))))) (e2 Zaq (Zb 7) (eC (.int 3)))) (Zg))))) (Zg)))) (sIf (e2 ZgW (Zb 4) (Zbk (Za (eC (.str [97, 100, 100])) (Za (eC (.str [115, 117, 98])) (Za (eC (.str [109, 111, 114, 101])) (Zg)))))) (ZaA (Zcg tyL ZaK (Zb 1) (Za (Zba (Za (Zb 4) (Za (Zb 6) (Za (Zb 7) (Za (Zb 8) (Zg)))))) (Zg)))) (sIf (e2 ZgW (Zb 4) (Zbk (Za (eC (.str [103, 101, 116])) (Za (eC (.str [115, 101, 116])) (Zg))))) (ZaA (Zcg tyL ZaK (Zb 1) (Za (Zba (Za (Zb 4) (Za (Zb 6) (Za (Zb 7) (Zg))))) (Zg)))) (sIf (e2 Zay (Zb 4) (eC (.str [119, 104, 101, 110]))) (ZaA (Zcg tyL ZaK (Zb 1) (Za (Zba (Za (Zb 4) (Za (Zb 6) (Za (Zb 9) (Zg))))) (Zg)))) (sIf (e2 Zay (Zb 4) (eC (.str [106, 117, 109, 112]))) (ZaA (Zcg tyL ZaK (Zb 1) (Za (Zba (Za (Zb 4) (Za (Zb 9) (Zg)))) (Zg)))) (ZaA (Zcg tyL ZaK (Zb 1) (Za (Zba (Za (Zb 4) (Za (Zb 6) (Zg)))) (Zg)))))))))
noncomputable def Zlx : S3 := (Zy (Zaf 4 (e2 Zj (Zbk (Za (eC (.str [112, 117, 116])) (Za (eC (.str [97, 100, 100])) (Za (eC (.str [115, 117, 98])) (Za (eC (.str [109, 111, 114, 101])) (Za (eC (.str [103, 101, 116])) (Za (eC (.str [115, 101, 116])) (Za (eC (.str [119, 104, 101, 110])) (Za (eC (.str [106, 117, 109, 112])) (Za (eC (.str [116, 101, 108, 108])) (Za (eC (.str [112, 117, 116])) (Zg)))))))))))) (e2 Zaq (Zb 3) (eC (.int 10))))) (Zy (Zaf 5 (e2 ZaE (Zb 3) (eC (.int 10)))) (Zy (Zaf 6 (e2 Zaq (Zb 5) (eC (.int 8)))) (Zy (Zaf 7 (e2 Zaq (e2 ZaE (Zb 5) (eC (.int 8))) (eC (.int 8)))) (Zy (Zaf 8 (e2 Zaq (e2 ZaE (Zb 5) (eC (.int 64))) (eC (.int 8)))) (Zy (Zaf 9 (e2 Zr (e2 Zr (Zb 2) (eC (.int 1))) (e2 Zaq (e2 ZaE (Zb 5) (eC (.int 512))) (e2 ZcP (Zaz ZaM (Za (Zb 0) (Zg))) (Zb 2))))) (Zy (sIf (e2 Zay (e2 Zaq (e2 ZaE (Zb 5) (eC (.int 5))) (eC (.int 4))) (eC (.int 1))) (Zaf 9 (e2 Zaq (e2 ZaE (Zb 5) (eC (.int 512))) (e2 Zr (Zaz ZaM (Za (Zb 0) (Zg))) (eC (.int 1))))) (Zae)) Zje)))))))
noncomputable def kindB (j : Nat) : List Nat := [[112, 117, 116], [97, 100, 100], [115, 117, 98], [109, 111, 114, 101], [103, 101, 116], [115, 101, 116], [119, 104, 101, 110], [106, 117, 109, 112], [116, 101, 108, 108], [112, 117, 116]].getD j []
theorem Zn9 (n m0 : Nat) (k c many : Int) (cs : List D) (M : Store) (hn : M[n]? = some (.lst cs)) (hl : (cs.length : Int) = many) (hk : k < many) (h0 : 0 ≤ k) (x4 x5 x6 x7 x8 x9 x10 : Option D) (j : Nat) (hj : c % 10 = j) :
  ∃ G, Zlx [some (.ref n), some (.ref m0), some (.int k), some (.int c), x4, x5, x6, x7, x8, x9, x10] M = Zje [some (.ref n), some (.ref m0), some (.int k), some (.int c), some (.str (kindB j)), some (.int (c / 10)), some (.int (c / 10 % 8)), some (.int (c / 10 / 8 % 8)), some (.int (c / 10 / 64 % 8)), some (.int (if c / 10 / 5 % 4 = 1 then c / 10 / 512 % (many + 1) else k + 1 + c / 10 / 512 % (many - k))), x10] (M ++ [G]) := by
 obtain ⟨G, hG⟩ : ∃ G : MO, G = .lst [.str [112, 117, 116], .str [97, 100, 100], .str [115, 117, 98], .str [109, 111, 114, 101], .str [103, 101, 116], .str [115, 101, 116], .str [119, 104, 101, 110], .str [106, 117, 109, 112], .str [116, 101, 108, 108], .str [112, 117, 116]] := ⟨_, rfl⟩
 refine ⟨G, ?_⟩
 unfold Zlx
 have hnG : (M ++ [G])[n]? = some (.lst cs) := Zao hn _
 have h : j = 0 ∨ j = 1 ∨ j = 2 ∨ j = 3 ∨ j = 4 ∨ j = 5 ∨ j = 6 ∨ j = 7 ∨ j = 8 ∨ j = 9 := by omega
 rw [Ze (Zt (M' := M ++ [G]) (d := .str (kindB j)) (by rcases h with h | h | h | h | h | h | h | h | h | h <;> subst h <;> simp [hj, kindB, hG, ZaT, ixD]))]
 rw [Ze (Zt (M' := M ++ [G]) (d := .int (c / 10)) (by simp))]
 rw [Ze (Zt (M' := M ++ [G]) (d := .int (c / 10 % 8)) (by simp))]
 rw [Ze (Zt (M' := M ++ [G]) (d := .int (c / 10 / 8 % 8)) (by simp))]
 rw [Ze (Zt (M' := M ++ [G]) (d := .int (c / 10 / 64 % 8)) (by simp))]
 have p1 : 0 < many - k := by omega
 have p2 : 0 < many + 1 := by omega
 rw [Ze (Zt (M' := M ++ [G]) (d := .int (k + 1 + c / 10 / 512 % (many - k))) (by simp [hnG, hl, hk]))]
 by_cases z : c / 10 / 5 % 4 = 1
 ·rw [Ze (M' := M ++ [G]) (env' := [some (.ref n), some (.ref m0), some (.int k), some (.int c), some (.str (kindB j)), some (.int (c / 10)), some (.int (c / 10 % 8)), some (.int (c / 10 / 8 % 8)), some (.int (c / 10 / 64 % 8)), some (.int (c / 10 / 512 % (many + 1))), x10]) (by rw [ZaQ (M' := M ++ [G]) (by simp [z])]; exact Zt (d := .int (c / 10 / 512 % (many + 1))) (by simp [hnG, hl, p2]))]
  rw [if_pos z]
 ·rw [Ze (Zn (M' := M ++ [G]) (by simp [z])), if_neg z]
theorem ZkR (n m0 many : Nat) (k c p : Int) (a b d q j : Nat) (rows : List Row) (M : Store) (x10 : Option D) (hm : M[m0]? = some (.lst (rows.map Zf))) (hr : rows.length ≤ 63) (la : a < 8) (lb : b < 8) (ld : d < 8) (lq : q < many) (hj : j < 10) :
  ∃ (r : Row) (G : Store), r.ok many ∧ Zje [some (.ref n), some (.ref m0), some (.int k), some (.int c), some (.str (kindB j)), some (.int p), some (.int a), some (.int b), some (.int d), some (.int q), x10] M = .nx [some (.ref n), some (.ref m0), some (.int k), some (.int c), some (.str (kindB j)), some (.int p), some (.int a), some (.int b), some (.int d), some (.int q), x10] ((M ++ G).set m0 (.lst (rows.map Zf ++ [Zf r]))) := by
 have hmG : ∀ G, (M ++ G)[m0]? = some (.lst (rows.map Zf)) := fun G => Zao hm G
 have lz : rows.length < 1000000 := by omega
 obtain ⟨v, hv⟩ : ∃ v : Int, ZaT [D.int (p / 8 % 3), D.int (-(p / 8 % 10000000000000000000000000000000000000000)), D.int (p / 8 % 10000000000000000000000000000000000000000)] ((b : Int) % 3) = some (.int v) := by
  have h : (b : Int) % 3 = 0 ∨ (b : Int) % 3 = 1 ∨ (b : Int) % 3 = 2 := by omega
  rcases h with h | h | h <;> rw [h] <;> exact ⟨_, rfl⟩
 have h : j = 0 ∨ j = 1 ∨ j = 2 ∨ j = 3 ∨ j = 4 ∨ j = 5 ∨ j = 6 ∨ j = 7 ∨ j = 8 ∨ j = 9 := by omega
 unfold Zje
 rcases h with h | h | h | h | h | h | h | h | h | h <;> subst h
 ·refine ⟨.put a v, [.lst [D.int (p / 8 % 3), D.int (-(p / 8 % 10000000000000000000000000000000000000000)), D.int (p / 8 % 10000000000000000000000000000000000000000)]], la, ?_⟩
  rw [ZaQ (M' := M) (by simp [kindB, Zas, deq])]
  simp [ZaA, kindB, hv, hm, hmG, lz, Zf]
 ·refine ⟨.add a b d, [.lst [.str [97, 100, 100], .str [115, 117, 98], .str [109, 111, 114, 101]]], ⟨la, lb, ld⟩, ?_⟩
  rw [ZcC (M' := M) (by simp [kindB, Zas, deq])]
  rw [ZaQ (M' := M ++ [.lst [.str [97, 100, 100], .str [115, 117, 98], .str [109, 111, 114, 101]]]) (by simp [kindB, Zas, deq])]
  simp [ZaA, kindB, hm, hmG, lz, Zf]
 ·refine ⟨.sub a b d, [.lst [.str [97, 100, 100], .str [115, 117, 98], .str [109, 111, 114, 101]]], ⟨la, lb, ld⟩, ?_⟩
  rw [ZcC (M' := M) (by simp [kindB, Zas, deq])]
  rw [ZaQ (M' := M ++ [.lst [.str [97, 100, 100], .str [115, 117, 98], .str [109, 111, 114, 101]]]) (by simp [kindB, Zas, deq])]
  simp [ZaA, kindB, hm, hmG, lz, Zf]
 ·refine ⟨.more a b d, [.lst [.str [97, 100, 100], .str [115, 117, 98], .str [109, 111, 114, 101]]], ⟨la, lb, ld⟩, ?_⟩
  rw [ZcC (M' := M) (by simp [kindB, Zas, deq])]
  rw [ZaQ (M' := M ++ [.lst [.str [97, 100, 100], .str [115, 117, 98], .str [109, 111, 114, 101]]]) (by simp [kindB, Zas, deq])]
  simp [ZaA, kindB, hm, hmG, lz, Zf]
 ·refine ⟨.get a b, [.lst [.str [97, 100, 100], .str [115, 117, 98], .str [109, 111, 114, 101]], .lst [.str [103, 101, 116], .str [115, 101, 116]]], ⟨la, lb⟩, ?_⟩
  rw [ZcC (M' := M) (by simp [kindB, Zas, deq])]
  rw [ZcC (M' := M ++ [.lst [.str [97, 100, 100], .str [115, 117, 98], .str [109, 111, 114, 101]]]) (by simp [kindB, Zas, deq])]
  rw [ZaQ (M' := M ++ [.lst [.str [97, 100, 100], .str [115, 117, 98], .str [109, 111, 114, 101]]] ++ [.lst [.str [103, 101, 116], .str [115, 101, 116]]]) (by simp [kindB, Zas, deq])]
  simp [ZaA, kindB, hm, hmG, lz, Zf]
 ·refine ⟨.set a b, [.lst [.str [97, 100, 100], .str [115, 117, 98], .str [109, 111, 114, 101]], .lst [.str [103, 101, 116], .str [115, 101, 116]]], ⟨la, lb⟩, ?_⟩
  rw [ZcC (M' := M) (by simp [kindB, Zas, deq])]
  rw [ZcC (M' := M ++ [.lst [.str [97, 100, 100], .str [115, 117, 98], .str [109, 111, 114, 101]]]) (by simp [kindB, Zas, deq])]
  rw [ZaQ (M' := M ++ [.lst [.str [97, 100, 100], .str [115, 117, 98], .str [109, 111, 114, 101]]] ++ [.lst [.str [103, 101, 116], .str [115, 101, 116]]]) (by simp [kindB, Zas, deq])]
  simp [ZaA, kindB, hm, hmG, lz, Zf]
 ·refine ⟨.when a q, [.lst [.str [97, 100, 100], .str [115, 117, 98], .str [109, 111, 114, 101]], .lst [.str [103, 101, 116], .str [115, 101, 116]]], ⟨la, lq⟩, ?_⟩
  rw [ZcC (M' := M) (by simp [kindB, Zas, deq])]
  rw [ZcC (M' := M ++ [.lst [.str [97, 100, 100], .str [115, 117, 98], .str [109, 111, 114, 101]]]) (by simp [kindB, Zas, deq])]
  rw [ZcC (M' := M ++ [.lst [.str [97, 100, 100], .str [115, 117, 98], .str [109, 111, 114, 101]]] ++ [.lst [.str [103, 101, 116], .str [115, 101, 116]]]) (by simp [kindB, Zas, deq])]
  rw [ZaQ (M' := M ++ [.lst [.str [97, 100, 100], .str [115, 117, 98], .str [109, 111, 114, 101]]] ++ [.lst [.str [103, 101, 116], .str [115, 101, 116]]]) (by simp [kindB, Zas, deq])]
  simp [ZaA, kindB, hm, hmG, lz, Zf]
 ·refine ⟨.jump q, [.lst [.str [97, 100, 100], .str [115, 117, 98], .str [109, 111, 114, 101]], .lst [.str [103, 101, 116], .str [115, 101, 116]]], lq, ?_⟩
  rw [ZcC (M' := M) (by simp [kindB, Zas, deq])]
  rw [ZcC (M' := M ++ [.lst [.str [97, 100, 100], .str [115, 117, 98], .str [109, 111, 114, 101]]]) (by simp [kindB, Zas, deq])]
  rw [ZcC (M' := M ++ [.lst [.str [97, 100, 100], .str [115, 117, 98], .str [109, 111, 114, 101]]] ++ [.lst [.str [103, 101, 116], .str [115, 101, 116]]]) (by simp [kindB, Zas, deq])]
  rw [ZcC (M' := M ++ [.lst [.str [97, 100, 100], .str [115, 117, 98], .str [109, 111, 114, 101]]] ++ [.lst [.str [103, 101, 116], .str [115, 101, 116]]]) (by simp [kindB, Zas, deq])]
  rw [ZaQ (M' := M ++ [.lst [.str [97, 100, 100], .str [115, 117, 98], .str [109, 111, 114, 101]]] ++ [.lst [.str [103, 101, 116], .str [115, 101, 116]]]) (by simp [kindB, Zas, deq])]
  simp [ZaA, kindB, hm, hmG, lz, Zf]
 ·refine ⟨.tell a, [.lst [.str [97, 100, 100], .str [115, 117, 98], .str [109, 111, 114, 101]], .lst [.str [103, 101, 116], .str [115, 101, 116]]], la, ?_⟩
  rw [ZcC (M' := M) (by simp [kindB, Zas, deq])]
  rw [ZcC (M' := M ++ [.lst [.str [97, 100, 100], .str [115, 117, 98], .str [109, 111, 114, 101]]]) (by simp [kindB, Zas, deq])]
  rw [ZcC (M' := M ++ [.lst [.str [97, 100, 100], .str [115, 117, 98], .str [109, 111, 114, 101]]] ++ [.lst [.str [103, 101, 116], .str [115, 101, 116]]]) (by simp [kindB, Zas, deq])]
  rw [ZcC (M' := M ++ [.lst [.str [97, 100, 100], .str [115, 117, 98], .str [109, 111, 114, 101]]] ++ [.lst [.str [103, 101, 116], .str [115, 101, 116]]]) (by simp [kindB, Zas, deq])]
  rw [ZcC (M' := M ++ [.lst [.str [97, 100, 100], .str [115, 117, 98], .str [109, 111, 114, 101]]] ++ [.lst [.str [103, 101, 116], .str [115, 101, 116]]]) (by simp [kindB, Zas, deq])]
  simp [ZaA, kindB, hm, hmG, lz, Zf]
 ·refine ⟨.put a v, [.lst [D.int (p / 8 % 3), D.int (-(p / 8 % 10000000000000000000000000000000000000000)), D.int (p / 8 % 10000000000000000000000000000000000000000)]], la, ?_⟩
  rw [ZaQ (M' := M) (by simp [kindB, Zas, deq])]
  simp [ZaA, kindB, hv, hm, hmG, lz, Zf]
theorem Zjy (cs : List D) (n k m0 : Nat) (c : Int) (rows : List Row) (M : Store) (x4 x5 x6 x7 x8 x9 x10 : Option D) (hn : M[n]? = some (.lst cs)) (hm : M[m0]? = some (.lst (rows.map Zf))) (hne : n ≠ m0) (hk : k < cs.length) (hr : rows.length ≤ 63) :
  ∃ (r : Row) (M' : Store) (y4 y5 y6 y7 y8 y9 : Option D), r.ok (cs.length + 1) ∧ Zlx [some (.ref n), some (.ref m0), some (.int (k : Int)), some (.int c), x4, x5, x6, x7, x8, x9, x10] M = .nx [some (.ref n), some (.ref m0), some (.int (k : Int)), some (.int c), y4, y5, y6, y7, y8, y9, x10] M' ∧ M'[n]? = some (.lst cs) ∧ M'[m0]? = some (.lst ((rows ++ [r]).map Zf)) ∧ M'.take m0 = M.take m0 := by
 have hnl := (List.getElem?_eq_some_iff.mp hn).1
 have hml := (List.getElem?_eq_some_iff.mp hm).1
 obtain ⟨a, ha, la⟩ := Zch (c / 10) 8 (by omega)
 obtain ⟨b, hb, lb⟩ := Zch (c / 10 / 8) 8 (by omega)
 obtain ⟨d, hd, ld⟩ := Zch (c / 10 / 64) 8 (by omega)
 obtain ⟨j, hj, lj⟩ := Zch c 10 (by omega)
 have b1 := Int.emod_nonneg (c / 10 / 512) (b := (cs.length : Int) - k) (by omega)
 have b2 := Int.emod_lt_of_pos (c / 10 / 512) (b := (cs.length : Int) - k) (by omega)
 have b3 := Int.emod_nonneg (c / 10 / 512) (b := (cs.length : Int) + 1) (by omega)
 have b4 := Int.emod_lt_of_pos (c / 10 / 512) (b := (cs.length : Int) + 1) (by omega)
 obtain ⟨q, hq, lq⟩ : ∃ q : Nat, (if c / 10 / 5 % 4 = 1 then c / 10 / 512 % ((cs.length : Int) + 1) else (k : Int) + 1 + c / 10 / 512 % ((cs.length : Int) - k)) = (q : Int) ∧ q < cs.length + 1 := by
  split
  ·exact ⟨(c / 10 / 512 % ((cs.length : Int) + 1)).toNat, by omega, by omega⟩
  ·exact ⟨((k : Int) + 1 + c / 10 / 512 % ((cs.length : Int) - k)).toNat, by omega, by omega⟩
 obtain ⟨G, h1⟩ := Zn9 n m0 k c cs.length cs M hn rfl (by omega) (by omega) x4 x5 x6 x7 x8 x9 x10 j hj
 rw [hq] at h1
 have ha' : c / 10 % 8 = (a : Int) := ha
 have hb' : c / 10 / 8 % 8 = (b : Int) := hb
 have hd' : c / 10 / 64 % 8 = (d : Int) := hd
 rw [ha', hb', hd'] at h1
 obtain ⟨r, G2, ok, h2⟩ := ZkR n m0 (cs.length + 1) k c (c / 10) a b d q j rows (M ++ [G]) x10 (Zao hm _) hr la lb ld lq lj
 refine ⟨r, _, _, _, _, _, _, _, ok, h1.trans h2, ?_, ?_, ?_⟩
 ·rw [List.getElem?_set_ne (Ne.symm hne)]; exact Zao (Zao hn _) G2
 ·rw [List.getElem?_set_self (by simp; omega)]; simp
 ·rw [List.take_set_of_le (Nat.le_refl _), List.append_assoc, List.take_append_of_le_length (by omega)]
theorem ZfL (cs : List Int) (n m0 : Nat) (hne : n ≠ m0) (hl : cs.length ≤ 63) (x10 : Option D) : ∀ (ds : List Int) (k : Nat) (rows : List Row) (M : Store) (x2 x3 x4 x5 x6 x7 x8 x9 : Option D), k + ds.length = cs.length → rows.length = k → (∀ r ∈ rows, r.ok (cs.length + 1)) → M[n]? = some (.lst (cs.map D.int)) → M[m0]? = some (.lst (rows.map Zf)) →
  ∃ (rows' : List Row) (M' : Store) (y2 y3 y4 y5 y6 y7 y8 y9 : Option D), rows'.length = cs.length ∧ (∀ r ∈ rows', r.ok (cs.length + 1)) ∧ ZdD [(n, cs.map D.int)] (Zc9 [2, 3]) Zlx (Zdc k (ds.map D.int)) [some (.ref n), some (.ref m0), x2, x3, x4, x5, x6, x7, x8, x9, x10] M = .nx [some (.ref n), some (.ref m0), y2, y3, y4, y5, y6, y7, y8, y9, x10] M' ∧ M'[n]? = some (.lst (cs.map D.int)) ∧ M'[m0]? = some (.lst (rows'.map Zf)) ∧ M'.take m0 = M.take m0
 | [], k, rows, M, x2, x3, x4, x5, x6, x7, x8, x9, hk, hr, ho, hn, hm => by
  simp only [List.length_nil] at hk
  refine ⟨rows, M, x2, x3, x4, x5, x6, x7, x8, x9, by omega, ho, ?_, hn, hm, rfl⟩
  simp [Zdc, ZdD, Zbp, hn]
 | c :: ds, k, rows, M, x2, x3, x4, x5, x6, x7, x8, x9, hk, hr, ho, hn, hm => by
  simp only [List.length_cons] at hk
  obtain ⟨r, M1, y4, y5, y6, y7, y8, y9, ok, h1, hn1, hm1, ht⟩ := Zjy (cs.map D.int) n k m0 c rows M x4 x5 x6 x7 x8 x9 x10 hn hm hne (by simp; omega) (by omega)
  rw [List.length_map] at ok
  obtain ⟨rows', M', z2, z3, z4, z5, z6, z7, z8, z9, l', o', h2, hn2, hm2, ht2⟩ := ZfL cs n m0 hne hl x10 ds (k + 1) (rows ++ [r]) M1 (some (.int (k : Int))) (some (.int c)) y4 y5 y6 y7 y8 y9 (by omega) (by simp [hr]) (fun q hq => by
   rcases List.mem_append.mp hq with h | h
   ·exact ho q h
   ·rw [List.mem_singleton.mp h]; exact ok) hn1 hm1
  refine ⟨rows', M', z2, z3, z4, z5, z6, z7, z8, z9, l', o', ?_, hn2, hm2, ht2.trans ht⟩
  have lk : Zbp [(n, cs.map D.int)] M = true := by simp [Zbp, hn]
  simp only [List.map_cons, Zdc, ZdD, lk, if_true, Zc9, bindAll, List.set_cons_succ, List.set_cons_zero]
  rw [h1]
  exact h2
theorem getD_last (q : List Int) (l : Int) : ZaT ((q ++ [l]).map D.int) (-1) = some (.int l) := by
 have h : ixD ((q ++ [l]).map D.int).length (-1) = some q.length := by
  simp [ixD] <;> omega
 rw [ZaT, h]
 simp
noncomputable def Zmk : S3 := (Zy (Zaf 10 (Zba (Za (eC (.str [104, 97, 108, 116])) (Zg)))) (Zy (sIf (Zcs (e2 Zd5 (Zaz ZaM (Za (Zb 0) (Zg))) (eC (.int 0))) (e2 Zay (e2 Zaq (e2 Zj (Zb 0) (e1 Zdv (eC (.int 1)))) (eC (.int 4))) (eC (.int 1)))) (Zaf 10 (Zba (Za (eC (.str [106, 117, 109, 112])) (Za (e2 Zaq (e2 ZaE (e2 Zj (Zb 0) (e1 Zdv (eC (.int 1)))) (eC (.int 4))) (e2 Zr (Zaz ZaM (Za (Zb 0) (Zg))) (eC (.int 1)))) (Zg))))) (Zae)) (Zal (Zaz ZbL (Za (e2 Zr (Zb 1) (Zbk (Za (Zb 10) (Zg)))) (Zg))))))
theorem Zki (cs : List Int) (n m0 : Nat) (rows : List Row) (M : Store) (hn : M[n]? = some (.lst (cs.map D.int))) (hm : M[m0]? = some (.lst (rows.map Zf))) (hl : cs.length ≤ 63) (hr : rows.length = cs.length) (x2 x3 x4 x5 x6 x7 x8 x9 : Option D) :
  ∃ (r : Row) (G : Store), r.ok (cs.length + 1) ∧ (r = .halt ∨ ∃ k, r = .jump k) ∧ Zmk [some (.ref n), some (.ref m0), x2, x3, x4, x5, x6, x7, x8, x9, none] M = .rt (Zw (rows ++ [r])) (M ++ G) := by
 have fin : ∀ r : Row, (Zal (Zaz ZbL (Za (e2 Zr (Zb 1) (Zbk (Za (Zb 10) (Zg)))) (Zg)))) [some (.ref n), some (.ref m0), x2, x3, x4, x5, x6, x7, x8, x9, some (Zf r)] M = .rt (Zw (rows ++ [r])) (M ++ [.lst [Zf r], .lst ((rows ++ [r]).map Zf)]) := fun r => by
  have g1 : (M ++ [MO.lst [Zf r]])[m0]? = some (.lst (rows.map Zf)) := Zao hm _
  have lz : rows.length + 1 ≤ 1000000 := by omega
  refine ZaH ?_
  simp [g1, Zw, lz]
 unfold Zmk
 rw [Ze (Zt (M' := M) (d := Zf .halt) (by simp [Zf]))]
 rcases List.eq_nil_or_concat cs with e | ⟨q, l, e⟩
 ·subst e
  refine ⟨.halt, [.lst [Zf .halt], .lst ((rows ++ [Row.halt]).map Zf)], trivial, .inl rfl, ?_⟩
  rw [Ze (Zn (M' := M) (by simp [hn]))]
  exact fin .halt
 ·rw [List.concat_eq_append] at e
  have e1 : ZaT (cs.map D.int) (-1) = some (.int l) := by rw [e]; exact getD_last q l
  have p0 : 0 < cs.length := by rw [e]; simp
  by_cases z : l % 4 = 1
  ·obtain ⟨k, hk, lk⟩ := Zch (l / 4) (cs.length + 1) (by omega)
   have hk' : l / 4 % ((cs.length : Int) + 1) = k := hk
   refine ⟨.jump k, [.lst [Zf (.jump k)], .lst ((rows ++ [Row.jump k]).map Zf)], lk, .inr ⟨k, rfl⟩, ?_⟩
   rw [Ze (env' := [some (.ref n), some (.ref m0), x2, x3, x4, x5, x6, x7, x8, x9, some (Zf (.jump k))]) (M' := M) (by rw [ZaQ (M' := M) (by simp [hn, e1, p0, z])]; exact Zt (d := Zf (.jump k)) (by simp [hn, e1, hk', Zf]))]
   exact fin (.jump k)
  ·refine ⟨.halt, [.lst [Zf .halt], .lst ((rows ++ [Row.halt]).map Zf)], trivial, .inl rfl, ?_⟩
   rw [Ze (Zn (M' := M) (by simp [hn, e1, p0, z]))]
   exact fin .halt
theorem Zlh (cs : List Int) (n : Nat) (M : Store) (hn : M[n]? = some (.lst (cs.map D.int))) (hl : cs.length ≤ 63) :
  ∃ roll : Zdl, roll.length = cs.length + 1 ∧ Zdp roll ∧ Zdy [.ref n] M = .ok (Zw roll) M := by
 have hnl := (List.getElem?_eq_some_iff.mp hn).1
 obtain ⟨rows, M', y2, y3, y4, y5, y6, y7, y8, y9, lr, ok, h, hn', hm', ht⟩ := ZfL cs n M.length (by omega) hl none cs 0 [] (M ++ [.lst []]) none none none none none none none none (by omega) rfl (by simp) (Zao hn _) (by simp)
 obtain ⟨r, G, rok, rl, h2⟩ := Zki cs n M.length rows M' hn' hm' hl lr y2 y3 y4 y5 y6 y7 y8 y9
 have hM' : M' = M ++ M'.drop M.length := by
  have e := List.take_append_drop M.length M'
  rw [ht] at e
  rw [← e]; simp
 have hb : Zd4 [some (.ref n), none, none, none, none, none, none, none, none, none, none] M = .rt (Zw (rows ++ [r])) (M ++ (M'.drop M.length ++ G)) := by
  rw [← List.append_assoc, ← hM', ← h2]
  refine (Ze (Zt (M' := M ++ [.lst []]) (d := .ref M.length) (by simp))).trans ?_
  refine Ze ?_
  rw [Zf9]
  have hi : ZhV (Zb 0) [some (.ref n), some (.ref M.length), none, none, none, none, none, none, none, none, none] (M ++ [.lst []]) = .ok ⟨Zdc 0 (cs.map D.int), [(n, cs.map D.int)]⟩ (M ++ [.lst []]) := by
   have := Zao hn [MO.lst []]
   simp [this]
  rw [hi]
  exact h
 refine ⟨rows ++ [r], by simp [lr], ⟨fun x hx => ?_, rows, r, rfl, rl⟩, Rt.pure hb (ZiO _ _)⟩
 rw [List.length_append, List.length_singleton, lr]
 rcases List.mem_append.mp hx with hx | hx
 ·exact ok x hx
 ·rw [List.mem_singleton.mp hx]; exact rok
theorem ZeP {fb fi fv : E3} {env : ZaC} {M : Store} {bs : List Int} {a : Nat} {v : Int} (hb : fb env M = .ok (Zi bs) M) (hi : fi env M = .ok (.int a) M) (hv : fv env M = .ok (.int v) M) (ha : a < bs.length) (hl : bs.length ≤ 1000) :
  (e2 Zr (e2 Zr (eSl fb (ZaB) (Zaw fi)) (Zba (Za fv (Zg)))) (eSl fb (Zaw (e2 Zr fi (eC (.int 1)))) (ZaB))) env M = .ok (Zi (bs.set a v)) M := by
 have c1 : cutD (bs.map D.int) none (some (a : Int)) = (bs.take a).map D.int := by rw [ZfK, List.map_take]
 have c2 : cutD (bs.map D.int) (some ((a : Int) + 1)) none = (bs.drop (a + 1)).map D.int := by
  rw [show ((a : Int) + 1) = ((a + 1 : Nat) : Int) by omega, Zd3, List.map_drop]
 have s1 : eSl fb (ZaB) (Zaw fi) env M = .ok (.tup ((bs.take a).map D.int)) M := by
  simp only [eSl, ZaB, Zaw, hb, hi, R3.bind, ZeA, Zi, c1]
 have s2 : eSl fb (Zaw (e2 Zr fi (eC (.int 1)))) (ZaB) env M = .ok (.tup ((bs.drop (a + 1)).map D.int)) M := by
  simp only [eSl, e2, eC, Zr, ZaB, Zaw, hb, hi, R3.bind, ZeA, Zi, c2]
 have s3 : Zba (Za fv (Zg)) env M = .ok (.tup [.int v]) M := by simp [hv]
 have a1 : Zr (.tup ((bs.take a).map D.int)) (.tup [.int v]) M = .ok (.tup ((bs.take a).map D.int ++ [.int v])) M := by
  simp only [Zr]; rw [if_pos (by simp; omega)]
 refine (ZaR (ZaR s1 s3 a1) s2 ?_)
 simp only [Zr]
 rw [if_pos (by simp; omega), Zi, List.set_eq_take_append_cons_drop, if_pos ha]
 simp
noncomputable def Zbb (r : Row) (bs : List Int) (held : Int) : List Int := match r with
 | .get a _ => bs.set a held
 | r => r.boxes bs []
theorem ZfT (c : Int) : ∃ v : Int, ∀ M, Zah [.int c] M = .ok (.int v) M := by
 by_cases h : c % 4 = 0
 ·exact ⟨c / 4 % 10 ^ 40, fun M => by simp [Zah, Zco, Zy, Zaf, Zal, sIf, Zae, ZaA, mkF, ZcM, below, belowL, Zdb, h]⟩
 ·by_cases h' : c % 4 = 1
  ·exact ⟨-1 - c / 4 % 10 ^ 40, fun M => by simp [Zah, Zco, Zy, Zaf, Zal, sIf, Zae, ZaA, mkF, ZcM, below, belowL, Zdb, h']⟩
  ·exact ⟨c / 4 % 5, fun M => by simp [Zah, Zco, Zy, Zaf, Zal, sIf, Zae, ZaA, mkF, ZcM, below, belowL, Zdb, h, h']⟩
theorem Zjt (r : Row) (p : Nat) (bs : List Int) (held : Int) (many : Nat) (hr : r.ok many) (hb : bs.length = 8) (M : Store) : Zbx [Zf r, .int p, Zi bs, .int held] M = .ok (.tup [.int (r.place bs p : Nat), Zi (Zbb r bs held)]) M := by
 have fin : ∀ G, ZaD [some (Zf r), some (.int p), some (Zi bs), some (.int held), none] M = .rt (.tup [.int (r.place bs p : Nat), Zi (Zbb r bs held)]) (M ++ G) → Zbx [Zf r, .int p, Zi bs, .int held] M = .ok (.tup [.int (r.place bs p : Nat), Zi (Zbb r bs held)]) M := fun G h => Rt.pure h (by simp [below, belowL, Zc0])
 have g0 : ZaT [D.int 0, D.int 1] 0 = some (.int 0) := rfl
 have g1 : ZaT [D.int 0, D.int 1] 1 = some (.int 1) := rfl
 cases r with
 | put a n =>
  refine fin [] ?_
  rw [List.append_nil]
  unfold ZaD
  rw [Ze (Zt (M' := M) (d := .int ((p + 1 : Nat) : Int)) (by simp))]
  rw [Ze (Zt (M' := M) (d := .non) (by simp))]
  rw [Ze (env' := [some (Zf (.put a n)), some (.int ((p + 1 : Nat) : Int)), some (Zi bs), some (.int held), some (.int (n))]) (M' := M) (by rw [ZaQ (M' := M) (by simp [Zf])]; exact Zt (d := .int (n)) (by simp [Zf, -ZaW]))]
  rw [Ze (Zn (M' := M) (by simp [Zf]))]
  rw [Ze (Zn (M' := M) (by simp [Zf]))]
  rw [Ze (Zn (M' := M) (by simp [Zf]))]
  rw [Ze (Zn (M' := M) (by simp [Zf]))]
  rw [Ze (Zn (M' := M) (by simp [Zf]))]
  rw [Ze (env' := [some (Zf (.put a n)), some (.int ((p + 1 : Nat) : Int)), some (Zi (bs.set a n)), some (.int held), some (.int (n))]) (M' := M) (by rw [ZaQ (M' := M) (by simp)]; exact Zt (ZeP (a := a) (v := n) rfl (by simp [Zf]) rfl (by rw [hb]; exact hr) (by omega)))]
  simp only [Zbb, Row.place, Row.boxes]
  simp [Zal]
 | add a b c =>
  obtain ⟨x, hx, gx⟩ := Zb3 hb hr.2.1
  obtain ⟨y, hy, gy⟩ := Zb3 hb hr.2.2
  refine fin [] ?_
  rw [List.append_nil]
  unfold ZaD
  rw [Ze (Zt (M' := M) (d := .int ((p + 1 : Nat) : Int)) (by simp))]
  rw [Ze (Zt (M' := M) (d := .non) (by simp))]
  rw [Ze (Zn (M' := M) (by simp [Zf]))]
  rw [Ze (env' := [some (Zf (.add a b c)), some (.int ((p + 1 : Nat) : Int)), some (Zi bs), some (.int held), some (.int (x + y))]) (M' := M) (by rw [ZaQ (M' := M) (by simp [Zf])]; exact Zt (d := .int (x + y)) (by simp [Zf, Zi, gx, gy, -ZaW]))]
  rw [Ze (Zn (M' := M) (by simp [Zf]))]
  rw [Ze (Zn (M' := M) (by simp [Zf]))]
  rw [Ze (Zn (M' := M) (by simp [Zf]))]
  rw [Ze (Zn (M' := M) (by simp [Zf]))]
  rw [Ze (env' := [some (Zf (.add a b c)), some (.int ((p + 1 : Nat) : Int)), some (Zi (bs.set a (x + y))), some (.int held), some (.int (x + y))]) (M' := M) (by rw [ZaQ (M' := M) (by simp)]; exact Zt (ZeP (a := a) (v := x + y) rfl (by simp [Zf]) rfl (by rw [hb]; exact hr.1) (by omega)))]
  simp only [Zbb, Row.place, Row.boxes, hx, hy]
  simp [Zal]
 | sub a b c =>
  obtain ⟨x, hx, gx⟩ := Zb3 hb hr.2.1
  obtain ⟨y, hy, gy⟩ := Zb3 hb hr.2.2
  refine fin [] ?_
  rw [List.append_nil]
  unfold ZaD
  rw [Ze (Zt (M' := M) (d := .int ((p + 1 : Nat) : Int)) (by simp))]
  rw [Ze (Zt (M' := M) (d := .non) (by simp))]
  rw [Ze (Zn (M' := M) (by simp [Zf]))]
  rw [Ze (Zn (M' := M) (by simp [Zf]))]
  rw [Ze (env' := [some (Zf (.sub a b c)), some (.int ((p + 1 : Nat) : Int)), some (Zi bs), some (.int held), some (.int (x - y))]) (M' := M) (by rw [ZaQ (M' := M) (by simp [Zf])]; exact Zt (d := .int (x - y)) (by simp [Zf, Zi, gx, gy, -ZaW]))]
  rw [Ze (Zn (M' := M) (by simp [Zf]))]
  rw [Ze (Zn (M' := M) (by simp [Zf]))]
  rw [Ze (Zn (M' := M) (by simp [Zf]))]
  rw [Ze (env' := [some (Zf (.sub a b c)), some (.int ((p + 1 : Nat) : Int)), some (Zi (bs.set a (x - y))), some (.int held), some (.int (x - y))]) (M' := M) (by rw [ZaQ (M' := M) (by simp)]; exact Zt (ZeP (a := a) (v := x - y) rfl (by simp [Zf]) rfl (by rw [hb]; exact hr.1) (by omega)))]
  simp only [Zbb, Row.place, Row.boxes, hx, hy]
  simp [Zal]
 | more a b c =>
  obtain ⟨x, hx, gx⟩ := Zb3 hb hr.2.1
  obtain ⟨y, hy, gy⟩ := Zb3 hb hr.2.2
  refine fin [.lst [.int 0, .int 1]] ?_
  unfold ZaD
  rw [Ze (Zt (M' := M) (d := .int ((p + 1 : Nat) : Int)) (by simp))]
  rw [Ze (Zt (M' := M) (d := .non) (by simp))]
  rw [Ze (Zn (M' := M) (by simp [Zf]))]
  rw [Ze (Zn (M' := M) (by simp [Zf]))]
  rw [Ze (Zn (M' := M) (by simp [Zf]))]
  rw [Ze (env' := [some (Zf (.more a b c)), some (.int ((p + 1 : Nat) : Int)), some (Zi bs), some (.int held), some (.int (if y < x then 1 else 0))]) (M' := M ++ [.lst [.int 0, .int 1]]) (by rw [ZaQ (M' := M) (by simp [Zf])]; exact Zt (d := .int (if y < x then 1 else 0)) (by by_cases q : y < x <;> simp [Zf, Zi, gx, gy, q, g0, g1, -ZaW]))]
  rw [Ze (Zn (M' := M ++ [.lst [.int 0, .int 1]]) (by simp [Zf]))]
  rw [Ze (Zn (M' := M ++ [.lst [.int 0, .int 1]]) (by simp [Zf]))]
  rw [Ze (env' := [some (Zf (.more a b c)), some (.int ((p + 1 : Nat) : Int)), some (Zi (bs.set a (if y < x then 1 else 0))), some (.int held), some (.int (if y < x then 1 else 0))]) (M' := M ++ [.lst [.int 0, .int 1]]) (by rw [ZaQ (M' := M ++ [.lst [.int 0, .int 1]]) (by simp)]; exact Zt (ZeP (a := a) (v := if y < x then 1 else 0) rfl (by simp [Zf]) rfl (by rw [hb]; exact hr.1) (by omega)))]
  simp only [Zbb, Row.place, Row.boxes, hx, hy]
  simp [Zal]
 | get a b =>
  refine fin [] ?_
  rw [List.append_nil]
  unfold ZaD
  rw [Ze (Zt (M' := M) (d := .int ((p + 1 : Nat) : Int)) (by simp))]
  rw [Ze (Zt (M' := M) (d := .non) (by simp))]
  rw [Ze (Zn (M' := M) (by simp [Zf]))]
  rw [Ze (Zn (M' := M) (by simp [Zf]))]
  rw [Ze (Zn (M' := M) (by simp [Zf]))]
  rw [Ze (Zn (M' := M) (by simp [Zf]))]
  rw [Ze (env' := [some (Zf (.get a b)), some (.int ((p + 1 : Nat) : Int)), some (Zi bs), some (.int held), some (.int (held))]) (M' := M) (by rw [ZaQ (M' := M) (by simp [Zf])]; exact Zt (d := .int (held)) (by simp [Zf, -ZaW]))]
  rw [Ze (Zn (M' := M) (by simp [Zf]))]
  rw [Ze (env' := [some (Zf (.get a b)), some (.int ((p + 1 : Nat) : Int)), some (Zi (bs.set a held)), some (.int held), some (.int (held))]) (M' := M) (by rw [ZaQ (M' := M) (by simp)]; exact Zt (ZeP (a := a) (v := held) rfl (by simp [Zf]) rfl (by rw [hb]; exact hr.1) (by omega)))]
  simp only [Zbb, Row.place, Row.boxes]
  simp [Zal]
 | set a b =>
  refine fin [] ?_
  rw [List.append_nil]
  unfold ZaD
  rw [Ze (Zt (M' := M) (d := .int ((p + 1 : Nat) : Int)) (by simp))]
  rw [Ze (Zt (M' := M) (d := .non) (by simp))]
  rw [Ze (Zn (M' := M) (by simp [Zf]))]
  rw [Ze (Zn (M' := M) (by simp [Zf]))]
  rw [Ze (Zn (M' := M) (by simp [Zf]))]
  rw [Ze (Zn (M' := M) (by simp [Zf]))]
  rw [Ze (Zn (M' := M) (by simp [Zf]))]
  rw [Ze (Zn (M' := M) (by simp [Zf]))]
  rw [Ze (Zn (M' := M) (by simp [Zf]))]
  simp only [Zbb, Row.place, Row.boxes]
  simp [Zal]
 | when a k =>
  refine fin [] ?_
  rw [List.append_nil]
  unfold ZaD
  rw [Ze (Zt (M' := M) (d := .int ((p + 1 : Nat) : Int)) (by simp))]
  rw [Ze (Zt (M' := M) (d := .non) (by simp))]
  rw [Ze (Zn (M' := M) (by simp [Zf]))]
  rw [Ze (Zn (M' := M) (by simp [Zf]))]
  rw [Ze (Zn (M' := M) (by simp [Zf]))]
  rw [Ze (Zn (M' := M) (by simp [Zf]))]
  rw [Ze (Zn (M' := M) (by simp [Zf]))]
  obtain ⟨x, hx, gx⟩ := Zb3 hb hr.1
  by_cases q : 0 < x
  ·rw [Ze (env' := [some (Zf (.when a k)), some (.int (k : Int)), some (Zi bs), some (.int held), some .non]) (M' := M) (by rw [ZaQ (M' := M) (by simp [Zf, Zi, gx, q, -ZaW])]; exact Zt (d := .int (k : Int)) (by simp [Zf, ZaT, ixD]))]
   rw [Ze (Zn (M' := M) (by simp [Zf]))]
   simp only [Zbb, Row.place, Row.boxes, hx, q, if_true, if_false]
   simp [Zal]
  ·rw [Ze (Zn (M' := M) (by simp [Zf, Zi, gx, q, -ZaW]))]
   rw [Ze (Zn (M' := M) (by simp [Zf]))]
   simp only [Zbb, Row.place, Row.boxes, hx, q, if_true, if_false]
   simp [Zal]
 | jump k =>
  refine fin [] ?_
  rw [List.append_nil]
  unfold ZaD
  rw [Ze (Zt (M' := M) (d := .int ((p + 1 : Nat) : Int)) (by simp))]
  rw [Ze (Zt (M' := M) (d := .non) (by simp))]
  rw [Ze (Zn (M' := M) (by simp [Zf]))]
  rw [Ze (Zn (M' := M) (by simp [Zf]))]
  rw [Ze (Zn (M' := M) (by simp [Zf]))]
  rw [Ze (Zn (M' := M) (by simp [Zf]))]
  rw [Ze (Zn (M' := M) (by simp [Zf]))]
  rw [Ze (env' := [some (Zf (.jump k)), some (.int (k : Int)), some (Zi bs), some (.int held), some .non]) (M' := M) (by rw [ZaQ (M' := M) (by simp [Zf])]; exact Zt (d := .int (k : Int)) (by simp [Zf, ZaT, ixD]))]
  rw [Ze (Zn (M' := M) (by simp [Zf]))]
  simp only [Zbb, Row.place, Row.boxes]
  simp [Zal]
 | tell a =>
  refine fin [] ?_
  rw [List.append_nil]
  unfold ZaD
  rw [Ze (Zt (M' := M) (d := .int ((p + 1 : Nat) : Int)) (by simp))]
  rw [Ze (Zt (M' := M) (d := .non) (by simp))]
  rw [Ze (Zn (M' := M) (by simp [Zf]))]
  rw [Ze (Zn (M' := M) (by simp [Zf]))]
  rw [Ze (Zn (M' := M) (by simp [Zf]))]
  rw [Ze (Zn (M' := M) (by simp [Zf]))]
  rw [Ze (Zn (M' := M) (by simp [Zf]))]
  rw [Ze (Zn (M' := M) (by simp [Zf]))]
  rw [Ze (Zn (M' := M) (by simp [Zf]))]
  simp only [Zbb, Row.place, Row.boxes]
  simp [Zal]
 | halt =>
  refine fin [] ?_
  rw [List.append_nil]
  unfold ZaD
  rw [Ze (Zt (M' := M) (d := .int ((p + 1 : Nat) : Int)) (by simp))]
  rw [Ze (Zt (M' := M) (d := .non) (by simp))]
  rw [Ze (Zn (M' := M) (by simp [Zf]))]
  rw [Ze (Zn (M' := M) (by simp [Zf]))]
  rw [Ze (Zn (M' := M) (by simp [Zf]))]
  rw [Ze (Zn (M' := M) (by simp [Zf]))]
  rw [Ze (Zn (M' := M) (by simp [Zf]))]
  rw [Ze (Zn (M' := M) (by simp [Zf]))]
  rw [Ze (Zn (M' := M) (by simp [Zf]))]
  simp only [Zbb, Row.place, Row.boxes]
  simp [Zal]
theorem Zfo (bs : List Int) (a : Nat) (v : Int) (M : Store) (ha : a < bs.length) (hl : bs.length ≤ 1000) : Zby [Zi bs, .int a, .int v] M = .ok (Zi (bs.set a v)) M := by
 have h1 : (e2 Zr (e2 Zr (eSl (Zb 0) (ZaB) (Zaw (Zb 1))) (Zba (Za (Zb 2) (Zg)))) (eSl (Zb 0) (Zaw (e2 Zr (Zb 1) (eC (.int 1)))) (ZaB))) [some (Zi bs), some (.int a), some (.int v)] M = .ok (Zi (bs.set a v)) M := by
  have c1 : cutD (bs.map D.int) none (some (a : Int)) = (bs.take a).map D.int := by rw [ZfK, List.map_take]
  have c2 : cutD (bs.map D.int) (some ((a : Int) + 1)) none = (bs.drop (a + 1)).map D.int := by
   rw [show ((a : Int) + 1) = ((a + 1 : Nat) : Int) by omega, Zd3, List.map_drop]
  have s1 : eSl (Zb 0) (ZaB) (Zaw (Zb 1)) [some (Zi bs), some (.int a), some (.int v)] M = .ok (.tup ((bs.take a).map D.int)) M := by
   simp only [eSl, Zb, ZaB, Zaw, Zi, List.getElem?_cons_zero, List.getElem?_cons_succ, R3.bind, ZeA, c1]
  have s2 : eSl (Zb 0) (Zaw (e2 Zr (Zb 1) (eC (.int 1)))) (ZaB) [some (Zi bs), some (.int a), some (.int v)] M = .ok (.tup ((bs.drop (a + 1)).map D.int)) M := by
   simp only [eSl, e2, eC, Zr, Zb, ZaB, Zaw, Zi, List.getElem?_cons_zero, List.getElem?_cons_succ, R3.bind, ZeA, c2]
  have s3 : Zba (Za (Zb 2) (Zg)) [some (Zi bs), some (.int a), some (.int v)] M = .ok (.tup [.int v]) M := by simp
  have a1 : Zr (.tup ((bs.take a).map D.int)) (.tup [.int v]) M = .ok (.tup ((bs.take a).map D.int ++ [.int v])) M := by
   simp only [Zr]; rw [if_pos (by simp; omega)]
  refine (ZaR (ZaR s1 s3 a1) s2 ?_)
  simp only [Zr]
  rw [if_pos (by simp; omega), Zi, List.set_eq_take_append_cons_drop, if_pos ha]
  simp
 exact Rt.pure (G := []) (env := [some (Zi bs), some (.int a), some (.int v)]) (by rw [List.append_nil]; exact ZaH h1) (Zc0 _ _)
theorem Zgw (cs : List (Int × Int)) (n : Int) (M : Store) (h : keysOk cs) (hl : cs.length ≤ 5000) : ZcF [Za0 cs, .int n] M = .ok (.int (Zfz cs n)) M := by
 have h1 : (Zcg ZjZ Zkb (Zaz Zfq (Za (Zb 0) (Zg))) (Za (Zb 1) (Za (eC (.int 0)) (Zg)))) [some (Za0 cs), some (.int n)] M = .ok (.int (Zfz cs n)) (M ++ [.dct (dictOf (Zfa cs))]) := by
  have hz : (Zfa cs).length ≤ 100000 := by simp [Zfa]; omega
  have b1 : Zaz Zfq (Za (Zb 0) (Zg)) [some (Za0 cs), some (.int n)] M = .ok (.ref M.length) (M ++ [.dct (dictOf (Zfa cs))]) := by
   refine Zmu (a := Za0 cs) (M1 := M) rfl ?_
   simp only [Za0, Zfq, Ziu]
   rw [if_pos hz]; rfl
  simp only [Zcg, b1, R3.bind, ZjZ, Za, Zb, eC, Zg, List.getElem?_cons_zero, List.getElem?_cons_succ]
  simp only [Za8, ZdY, Option.isSome_some, if_true, Zkb, Zfw]
  rw [ZjY h]
 exact Rt.pure (env := [some (Za0 cs), some (.int n)]) (ZaH h1) rfl
theorem Zgl (r : Row) (bs : List Int) (p many : Nat) (M : Store) (hb : bs.length = 8) (hr : r.ok many) : Zcf [Zf r, .int p, Zi bs] M = .ok (.int (r.place bs p)) M := by
 refine Rt.pure (G := []) (env := [some (Zf r), some (.int p), some (Zi bs)]) ?_ rfl
 rw [List.append_nil]
 cases r with
 | when a k =>
  obtain ⟨x, hx, gx⟩ := Zb3 hb hr.1
  have g : Zj (Zi bs) (.int (a : Int)) M = .ok (.int x) M := by simp only [Zi, Zj, gx]
  have cc : (Zcs (e2 Zay (e2 Zj (Zb 0) (eC (.int 0))) (eC (.str [119, 104, 101, 110]))) (e2 Zd5 (e2 Zj (Zb 2) (e2 Zj (Zb 0) (eC (.int 1)))) (eC (.int 0)))) [some (Zf (.when a k)), some (.int p), some (Zi bs)] M = .ok (.bl (decide (0 < x))) M := (ZeH (M1 := M) rfl).trans (ZaR (ZaR (b := .int (a : Int)) rfl rfl g) rfl rfl)
  have s0 : (e2 Zay (e2 Zj (Zb 0) (eC (.int 0))) (eC (.str [106, 117, 109, 112]))) [some (Zf (.when a k)), some (.int p), some (Zi bs)] M = .ok (.bl false) M := rfl
  simp only [Row.place, hx]
  by_cases c : 0 < x
  ·rw [decide_eq_true c] at cc
   rw [if_pos c]
   exact (Ze (Zn s0)).trans (Zce ((ZaQ cc).trans rfl))
  ·rw [decide_eq_false c] at cc
   rw [if_neg c]
   exact (Ze (Zn s0)).trans ((Ze (Zn cc)).trans rfl)
 | _ => rfl
theorem Zit (x y : Int) (M : Store) : Zb6 [.str [97, 100, 100], .int x, .int y] M = .ok (.int (x + y)) M := by simp [Zb6, Zd6, Zy, Zaf, Zal, sIf, Zae, ZaA, mkF, ZcM, below, belowL, Zdb]
theorem Zim (x y : Int) (M : Store) : Zb6 [.str [115, 117, 98], .int x, .int y] M = .ok (.int (x - y)) M := by simp [Zb6, Zd6, Zy, Zaf, Zal, sIf, Zae, ZaA, mkF, ZcM, below, belowL, Zdb]
theorem Zh6 (x y : Int) (M : Store) : Zb6 [.str [109, 111, 114, 101], .int x, .int y] M = .ok (.int (if y < x then 1 else 0)) M := by
 by_cases c : y < x <;> simp [Zb6, Zd6, Zy, Zaf, Zal, sIf, Zae, ZaA, mkF, ZcM, below, belowL, Zdb, c]
theorem Zgy (r : Row) (bs : List Int) (cs : List (Int × Int)) (many : Nat) (M : Store) (hb : bs.length = 8) (hr : r.ok many) (hk : keysOk cs) (hl : cs.length ≤ 5000) : Zde [Zf r, Zi bs, Za0 cs] M = .ok (Zi (r.boxes bs cs)) M := by
 have wb : ∀ (a : Nat) (v : Int), a < 8 → Zby [Zi bs, .int a, .int v] M = .ok (Zi (bs.set a v)) M := fun a v ha => Zfo bs a v M (by rw [hb]; exact ha) (by rw [hb]; decide)
 have cv : ∀ (n : Int), ZcF [Za0 cs, .int n] M = .ok (.int (Zfz cs n)) M := fun n => Zgw cs n M hk hl
 have gt : ∀ {a : Nat} {x : Int}, ZaT (bs.map D.int) (a : Int) = some (.int x) → Zj (Zi bs) (.int (a : Int)) M = .ok (.int x) M := fun {a x} g => by simp only [Zi, Zj, g]
 have tp : ∀ env, (Zba (Za (eC (.str [97, 100, 100])) (Za (eC (.str [115, 117, 98])) (Za (eC (.str [109, 111, 114, 101])) (Zg))))) env M = .ok (.tup [.str [97, 100, 100], .str [115, 117, 98], .str [109, 111, 114, 101]]) M := fun env => by simp
 refine Rt.pure (G := []) (env := [some (Zf r), some (Zi bs), some (Za0 cs), none]) ?_ (Zc0 _ _)
 rw [List.append_nil]
 have pre : ∀ {w : List Nat} {o : O3} {k : S3}, Zj (Zf r) (.int 0) M = .ok (.str w) M → k [some (Zf r), some (Zi bs), some (Za0 cs), some (.str w)] M = o → Zy (Zaf 3 (e2 Zj (Zb 0) (eC (.int 0)))) k [some (Zf r), some (Zi bs), some (Za0 cs), none] M = o := fun {w o k} h1 h => (Ze (Zt (ZaR rfl rfl h1))).trans h
 have sk : ∀ {w v : List Nat} {f k : S3} {o : O3}, decide (w = v) = false → k [some (Zf r), some (Zi bs), some (Za0 cs), some (.str w)] M = o → Zy (sIf (e2 Zay (Zb 3) (eC (.str v))) f Zae) k [some (Zf r), some (Zi bs), some (Za0 cs), some (.str w)] M = o := fun {w v f k o} h1 h => (Ze (Zn (M' := M) (ZaR rfl rfl (by simp only [Zay, eqD, h1])))).trans h
 have wk : ∀ {w : List Nat} {a b c : Nat} {x y z : Int}, Zf r = .tup [.str w, .int a, .int b, .int c] → Zb6 [.str w, .int x, .int y] M = .ok (.int z) M → a < 8 → ZaT (bs.map D.int) (b : Int) = some (.int x) → ZaT (bs.map D.int) (c : Int) = some (.int y) → Zkh (.str w) (.tup [.str [97, 100, 100], .str [115, 117, 98], .str [109, 111, 114, 101]]) M = .ok (.bl true) M →
   (Zy (sIf (e2 Zkh (Zb 3) (Zba (Za (eC (.str [97, 100, 100])) (Za (eC (.str [115, 117, 98])) (Za (eC (.str [109, 111, 114, 101])) (Zg)))))) (Zal (Zu Zby (Za (Zb 1) (Za (e2 Zj (Zb 0) (eC (.int 1))) (Za (Zu Zb6 (Za (Zb 3) (Za (e2 Zj (Zb 1) (e2 Zj (Zb 0) (eC (.int 2)))) (Za (e2 Zj (Zb 1) (e2 Zj (Zb 0) (eC (.int 3)))) (Zg))))) (Zg)))))) (Zae)) (Zal (Zb 1))) [some (Zf r), some (Zi bs), some (Za0 cs), some (.str w)] M = .rt (Zi (bs.set a z)) M := fun {w a b c x y z} he hw ha gx gy hin => by
  rw [he]
  exact Zce ((ZaQ (ZaR rfl (tp _) hin)).trans (ZaH (Zcm rfl (b := .int (a : Int)) (M2 := M) rfl (Zcm rfl (ZaR rfl (b := .int (b : Int)) (M2 := M) rfl (gt gx)) (ZaR rfl (b := .int (c : Int)) (M2 := M) rfl (gt gy)) hw) (wb a z ha))))
 have no : ∀ {w : List Nat}, Zj (Zf r) (.int 0) M = .ok (.str w) M → decide (w = [112, 117, 116]) = false → decide (w = [103, 101, 116]) = false → Zkh (.str w) (.tup [.str [97, 100, 100], .str [115, 117, 98], .str [109, 111, 114, 101]]) M = .ok (.bl false) M → ZdP [some (Zf r), some (Zi bs), some (Za0 cs), none] M = .rt (Zi bs) M := fun {w} h1 h2 h3 h4 =>
  pre h1 (sk h2 (sk h3 ((Ze (Zn (ZaR rfl (tp _) h4))).trans rfl)))
 cases r with
 | put a n => exact pre rfl (Zce ((ZaQ (M' := M) rfl).trans (ZaH (Zcm rfl rfl rfl (wb a n hr)))))
 | get a b =>
  obtain ⟨x, hx, gx⟩ := Zb3 hb hr.2
  simp only [Row.boxes, hx]
  exact pre rfl (sk rfl (Zce ((ZaQ (M' := M) rfl).trans (ZaH (Zcm rfl (b := .int (a : Int)) (M2 := M) rfl (ZcZ rfl (ZaR rfl (b := .int (b : Int)) (M2 := M) rfl (gt gx)) (cv x)) (wb a _ hr.1))))))
 | add a b c =>
  obtain ⟨x, hx, gx⟩ := Zb3 hb hr.2.1
  obtain ⟨y, hy, gy⟩ := Zb3 hb hr.2.2
  simp only [Row.boxes, hx, hy]
  exact pre rfl (sk rfl (sk rfl (wk rfl (Zit x y M) hr.1 gx gy rfl)))
 | sub a b c =>
  obtain ⟨x, hx, gx⟩ := Zb3 hb hr.2.1
  obtain ⟨y, hy, gy⟩ := Zb3 hb hr.2.2
  simp only [Row.boxes, hx, hy]
  exact pre rfl (sk rfl (sk rfl (wk rfl (Zim x y M) hr.1 gx gy rfl)))
 | more a b c =>
  obtain ⟨x, hx, gx⟩ := Zb3 hb hr.2.1
  obtain ⟨y, hy, gy⟩ := Zb3 hb hr.2.2
  simp only [Row.boxes, hx, hy]
  exact pre rfl (sk rfl (sk rfl (wk rfl (Zh6 x y M) hr.1 gx gy rfl)))
 | _ => exact no rfl rfl rfl rfl
noncomputable def Za1 (p : Int) (bs : List Int) : D := .tup [.int p, Zi bs]
theorem Zhe (a b : Int) (M : Store) : Zct [.int a, .int b] M = .ok (.bl (decide (0 ≤ a) && decide (a < b))) M := by
 by_cases h : 0 ≤ a <;> simp [Zct, Zd1, Zy, Zaf, Zal, sIf, Zae, ZaA, mkF, ZcM, below, belowL, Zdb, h]
theorem ZjF (roll : Zdl) (p : Int) (M : Store) : ZeY [Zw roll, .int p] M = .ok (if 0 ≤ p ∧ p < roll.length then (match roll[p.toNat]? with | some r => Zf r | none => .non) else .non) M := by
 have w := Zhe p roll.length M
 have e1 : Zu Zct (Za (Zb 1) (Za (Zaz ZaM (Za (Zb 0) (Zg))) (Zg))) [some (Zw roll), some (.int p)] M = .ok (.bl (decide (0 ≤ p) && decide (p < roll.length))) M := ZcZ rfl (by simp [Zw]) w
 by_cases h : 0 ≤ p ∧ p < roll.length
 ·rw [if_pos h]
  obtain ⟨k, rfl⟩ := Int.eq_ofNat_of_zero_le h.1
  have hk : k < roll.length := by omega
  have e2 : (e2 Zj (Zb 0) (Zb 1)) [some (Zw roll), some (.int (k : Int))] M = .ok (Zf roll[k]) M := by simp [Zw, hk]
  have hb : below M.length (Zf roll[k]) = true := by cases roll[k] <;> rfl
  refine (Rt.pure (G := []) (env := [some (Zw roll), some (.int (k : Int))]) (d := Zf roll[k]) ?_ hb).trans (by simp [hk])
  rw [List.append_nil]
  refine ZaH ((Zmo (M1 := M) ?_).trans e2)
  rw [e1]; simp [hk]
 ·rw [if_neg h]
  refine Rt.pure (G := []) (env := [some (Zw roll), some (.int p)]) ?_ rfl
  rw [List.append_nil]
  refine ZaH ((Zmr (M1 := M) ?_).trans rfl)
  rw [e1]
  have : (decide (0 ≤ p) && decide (p < roll.length)) = false := by
   rw [← Bool.decide_and]; exact decide_eq_false h
  rw [this]
theorem ZgN : ∀ a b : List Int, ZbW (a.map D.int) (b.map D.int) = decide (a = b)
 | [], [] => by simp [ZbW]
 | [], _ :: _ => by simp [ZbW]
 | _ :: _, [] => by simp [ZbW]
 | x :: a, y :: b => by
  simp only [List.map_cons, ZbW, deq, ZgN a b, List.cons.injEq, Bool.decide_and]
  rfl
theorem Zlf (a b : List Int) : deq (Zi a) (Zi b) = decide (a = b) := by
 simp only [Zi, deq]; exact ZgN a b
noncomputable def Zdu (r : Row) (bs bs' : List Int) : List Int := match r with
 | .get a _ => bs.set a (bs'.getD a 0)
 | r => r.boxes bs []
noncomputable def Zkd (roll : Zdl) (p : Int) (bs : List Int) (p' : Int) (bs' : List Int) : Bool := if 0 ≤ p ∧ p < roll.length then (match roll[p.toNat]? with
 | some r => if r.isHalt then false else decide (p' = (r.place bs p.toNat : Nat)) && decide (bs' = Zdu r bs bs')
 | none => false) else false
theorem ZfD (r : Row) (bs bs' : List Int) (many : Nat) (M : Store) (hr : r.ok many) (hb : bs.length = 8) (hb' : bs'.length = 8) : Zbl [Zf r, Zi bs, Zi bs'] M = .ok (Zi (Zdu r bs bs')) M := by
 have other : (∀ a b, r ≠ .get a b) → Zbl [Zf r, Zi bs, Zi bs'] M = .ok (Zi (r.boxes bs [])) M := fun hg => by
  have nb := Zgy r bs [] many M hb hr (by simp [keysOk]) (by simp)
  refine Rt.pure (G := []) (env := [some (Zf r), some (Zi bs), some (Zi bs')]) ?_ (Zc0 _ _)
  rw [List.append_nil]
  refine (Ze (Zn (M' := M) ?_)).trans (ZaH (Zcm (c := Za0 []) rfl rfl (by simp [Za0]) nb))
  cases r <;> simp [Zf] <;> exact absurd rfl (hg _ _)
 cases r with
 | get a b =>
  obtain ⟨x, hx, gx⟩ := Zb3 hb' hr.1
  have wb := Zfo bs a x M (by rw [hb]; exact hr.1) (by omega)
  refine Rt.pure (G := []) (env := [some (Zf (.get a b)), some (Zi bs), some (Zi bs')]) ?_ (Zc0 _ _)
  rw [List.append_nil]
  simp only [Zdu, hx]
  refine Zce ((ZaQ (M' := M) (by simp [Zf])).trans (ZaH (Zcm (a := Zi bs) (b := .int (a : Int)) (c := .int x) (M1 := M) (M2 := M) (M3 := M) rfl (by simp [Zf]) ?_ wb)))
  simp [Zf, Zi, -ZaW, gx]
 | _ => exact other (fun a b h => by cases h)
theorem Zhj (roll : Zdl) (R : Zdp roll) (p : Int) (bs : List Int) (p' : Int) (bs' : List Int) (M : Store) (hb : bs.length = 8) (hb' : bs'.length = 8) :
  Zc3 [Zw roll, Za1 p bs, Za1 p' bs'] M = .ok (.bl (Zkd roll p bs p' bs')) M := by
 have ra := ZjF roll p M
 refine Rt.pure (G := []) (env := [some (Zw roll), some (Za1 p bs), some (Za1 p' bs'), none, none, none]) ?_ rfl
 rw [List.append_nil]
 refine (Ze (Zt (d := .int p) (M' := M) (by simp [Za1]))).trans ((Ze (Zt (d := Zi bs) (M' := M) (by simp [Za1]))).trans ((Ze (Zt (ZcZ rfl rfl ra))).trans ?_))
 unfold Zkd
 by_cases h : 0 ≤ p ∧ p < roll.length
 ·rw [if_pos h, if_pos h]
  obtain ⟨k, rfl⟩ := Int.eq_ofNat_of_zero_le h.1
  have hk : k < roll.length := by omega
  have hr : roll[k]? = some roll[k] := by simp [hk]
  have ro := R.rows _ (List.getElem_mem hk)
  simp only [Int.ofNat_eq_natCast, Int.toNat_natCast, hr]
  generalize roll[k] = r at hr ro
  by_cases hh : r.isHalt = true
  ·rw [if_pos hh]
   have : r = .halt := by cases r <;> simp at hh ⊢
   subst this
   exact Zce ((ZaQ (M' := M) (by simp [Zf])).trans rfl)
  ·rw [if_neg hh]
   have np := Zgl r bs k roll.length M hb ro
   have bb := ZfD r bs bs' roll.length M ro hb hb'
   have hp1 : Zag DEEP (.int p') = true := ZdJ _ _
   have hp2 : Zag DEEP (Zi bs') = true := ZgU _ _
   have hp3 : Zag DEEP (Zi (Zdu r bs bs')) = true := ZgU _ _
   have hp4 : Zag DEEP (.int ((r.place bs k : Nat) : Int)) = true := ZdJ _ _
   refine (Ze (Zn (M' := M) ?_)).trans (ZaH ?_)
   ·cases r <;> simp [Zf] at hh ⊢
   ·refine ZaR (a := Za1 p' bs') (b := Za1 (r.place bs k : Nat) (Zdu r bs bs')) (M1 := M) (M2 := M) rfl ?_ ?_
    ·have x1 : Zu Zcf (Za (Zb 5) (Za (Zb 3) (Za (Zb 4) (Zg)))) [some (Zw roll), some (Za1 (k : Int) bs), some (Za1 p' bs'), some (.int (k : Int)), some (Zi bs), some (Zf r)] M = .ok (.int ((r.place bs k : Nat) : Int)) M := Zcm rfl rfl rfl np
     have x2 : Zu Zbl (Za (Zb 5) (Za (Zb 4) (Za (e2 Zj (Zb 2) (eC (.int 1))) (Zg)))) [some (Zw roll), some (Za1 (k : Int) bs), some (Za1 p' bs'), some (.int (k : Int)), some (Zi bs), some (Zf r)] M = .ok (Zi (Zdu r bs bs')) M := Zcm rfl rfl (by simp [Za1]) bb
     generalize Zu Zcf (Za (Zb 5) (Za (Zb 3) (Za (Zb 4) (Zg)))) = E1 at x1
     generalize Zu Zbl (Za (Zb 5) (Za (Zb 4) (Za (e2 Zj (Zb 2) (eC (.int 1))) (Zg)))) = E2 at x2
     simp only [Zba, Za, Zg, R3.bind, x1, x2]
     simp [Za1]
    ·have hd : ZbW [.int p', Zi bs'] [.int ((r.place bs k : Nat) : Int), Zi (Zdu r bs bs')] = (decide (p' = ((r.place bs k : Nat) : Int)) && decide (bs' = Zdu r bs bs')) := by
      simp only [ZbW, deq, Zlf, Bool.and_true]
      rfl
     simp only [Zay, eqD, Za1, List.all_cons, List.all_nil, hp1, hp2, hp3, hp4, Bool.and_self, if_true, hd]
 ·rw [if_neg h, if_neg h]
  exact Zce ((ZaQ (M' := M) (by simp)).trans rfl)
theorem ZgH (lo : Int) (n : Nat) : Zcl lo (n + 1) = .int lo :: Zcl (lo + 1) n := by
 unfold Zcl
 rw [List.range_succ_eq_map]
 simp only [List.map_cons, List.map_map, Int.add_zero, Int.natCast_zero, List.cons.injEq, true_and]
 apply List.map_congr_left
 intro k _
 simp only [Function.comp_apply, D.int.injEq]
 omega
noncomputable def ZaF : Option Nat → D
 | none => .non
 | some k => .int (k : Int)
theorem ZeM (n : Nat) (o : Option Nat) : below n (ZaF o) = true := by cases o <;> rfl
theorem ZgF {it : It3} (hit : it.lock = none) {i : Nat} {body : S3} {q : Nat → Bool} {I : ZaC → Prop} {M : Store} : ∀ (m j : Nat) (env : ZaC), I env →
  (∀ k env, j ≤ k → k < j + m → I env → (q k = true → body (env.set i (some (.int (k : Int)))) M = .rt (.int (k : Int)) M) ∧ (q k = false → ∃ e', I e' ∧ body (env.set i (some (.int (k : Int)))) M = .nx e' M)) →
  ∃ e', I e' ∧ ZbR it (Zb2 i) body (Zcl (j : Int) m) env M = (match (List.range' j m).find? q with | some k => .rt (.int (k : Int)) M | none => .nx e' M)
 | 0, j, env, hI, _ => ⟨env, hI, by simp [Zcl, ZbR, locked, hit]⟩
 | m + 1, j, env, hI, h => by
  obtain ⟨h1, h2⟩ := h j env (Nat.le_refl _) (by omega) hI
  rw [ZgH]
  simp only [ZbR, locked, hit, if_true, Zb2, List.range'_succ, List.find?_cons]
  cases hq : q j with
  | true => exact ⟨env, hI, by rw [h1 hq]⟩
  | false =>
   obtain ⟨e', hI', hb⟩ := h2 hq
   obtain ⟨e2, hI2, ih⟩ := ZgF hit m (j + 1) e' hI' fun k env a b c => h k env (by omega) (by omega) c
   refine ⟨e2, hI2, ?_⟩
   rw [hb]
   rw [show ((j : Int) + 1) = ((j + 1 : Nat) : Int) by omega]
   exact ih
theorem ZkQ (n : Nat) : List.range n = List.range' 0 n := by rw [List.range_eq_range']
noncomputable abbrev Stp := Int × List Int
noncomputable def Zbq (s : Stp) : D := Za1 s.1 s.2
noncomputable def Zdq (ts : List Stp) : D := .tup (ts.map Zbq)
theorem ZjS (n : Nat) (p : Int) (bs : List Int) : below n (Za1 p bs) = true := by simp [Za1, below, belowL, Zc0]
noncomputable def Zc2 (roll : Zdl) (ts : List Stp) (k : Nat) : Bool := match ts[k]?, ts[k + 1]? with
 | some s, some s' => Zkd roll s.1 s.2 s'.1 s'.2
 | _, _ => false
noncomputable def Zfe (roll : Zdl) (ts : List Stp) : Option Nat := (List.range (ts.length - 1)).find? fun k => !Zc2 roll ts k
theorem Zi0 {ts : List Stp} {k : Nat} (h : k < ts.length) : ZaT (ts.map Zbq) ((k : Nat) : Int) = some (Zbq ts[k]) := by rw [ZdF, List.getElem?_map, List.getElem?_eq_getElem h]; rfl
theorem Zjo (F : F3) (roll : Zdl) (ts : List Stp) (M : Store) (hz : ts.length ≤ 5000) (hF : ∀ k, (h : k + 1 < ts.length) → F [Zw roll, Zbq ts[k], Zbq ts[k + 1]] M = .ok (.bl (Zkd roll ts[k].1 ts[k].2 ts[k + 1].1 ts[k + 1].2)) M) :
  (Zy (ZeF (ZbM (e2 ZcP (Zaz ZaM (Za (Zb 1) (Zg))) (eC (.int 1)))) (Zb2 2) (sIf (e1 Zck (Zu F (Za (Zb 0) (Za (e2 Zj (Zb 1) (Zb 2)) (Za (e2 Zj (Zb 1) (e2 Zr (Zb 2) (eC (.int 1)))) (Zg)))))) (Zal (Zb 2)) (Zae))) (Zal (eC .non))) [some (Zw roll), some (Zdq ts), none] M = .rt (ZaF (Zfe roll ts)) M := by
 obtain ⟨e', ⟨y, rfl⟩, lp⟩ := ZgF (it := ⟨Zcl 0 (ts.length - 1), none⟩) rfl (i := 2) (body := (sIf (e1 Zck (Zu F (Za (Zb 0) (Za (e2 Zj (Zb 1) (Zb 2)) (Za (e2 Zj (Zb 1) (e2 Zr (Zb 2) (eC (.int 1)))) (Zg)))))) (Zal (Zb 2)) (Zae))) (q := fun k => !Zc2 roll ts k) (I := fun env => ∃ y, env = [some (Zw roll), some (Zdq ts), y]) (M := M) (ts.length - 1) 0 [some (Zw roll), some (Zdq ts), none] ⟨none, rfl⟩
  (fun k env _ hk ⟨y, he⟩ => by
   subst he
   have hk1 : k + 1 < ts.length := by omega
   have hk0 : k < ts.length := by omega
   have sf := hF k hk1
   have hf : Zc2 roll ts k = Zkd roll ts[k].1 ts[k].2 ts[k + 1].1 ts[k + 1].2 := by simp [Zc2, hk0, hk1]
   have g1 : (e2 Zj (Zb 1) (Zb 2)) [some (Zw roll), some (Zdq ts), some (.int (k : Int))] M = .ok (Zbq ts[k]) M := by simp only [e2, Zb, Zdq, List.getElem?_cons_succ, List.getElem?_cons_zero, R3.bind, Zj, Zi0 hk0]
   have g2 : (e2 Zj (Zb 1) (e2 Zr (Zb 2) (eC (.int 1)))) [some (Zw roll), some (Zdq ts), some (.int (k : Int))] M = .ok (Zbq ts[k + 1]) M := by
    simp only [e2, Zb, eC, Zdq, List.getElem?_cons_succ, List.getElem?_cons_zero, R3.bind, Zr, Zj, show ((k : Int) + 1) = ((k + 1 : Nat) : Int) by omega, Zi0 hk1]
   have cc : (e1 Zck (Zu F (Za (Zb 0) (Za (e2 Zj (Zb 1) (Zb 2)) (Za (e2 Zj (Zb 1) (e2 Zr (Zb 2) (eC (.int 1)))) (Zg)))))) [some (Zw roll), some (Zdq ts), some (.int (k : Int))] M = .ok (.bl (!Zc2 roll ts k)) M := by
    rw [hf]; exact ZiT (Zcm rfl g1 g2 sf) rfl
   refine ⟨fun hq => ?_, fun hq => ?_⟩
   ·exact (ZaQ (cc.trans (by rw [hq]))).trans rfl
   ·exact ⟨_, ⟨_, rfl⟩, Zn (cc.trans (by rw [hq]))⟩)
 have ir : (ZbM (e2 ZcP (Zaz ZaM (Za (Zb 1) (Zg))) (eC (.int 1)))) [some (Zw roll), some (Zdq ts), none] M = .ok ⟨Zcl 0 (ts.length - 1), none⟩ M := by
  have b : ((ts.length : Int) - 1) ≤ 1000000 ∧ -1000000 ≤ ((ts.length : Int) - 1) := by omega
  have e : ((ts.length : Int) - 1).toNat = ts.length - 1 := by omega
  simp [Zdq, b, e]
 have lp' := (Zdg (g := Zb2 2) ir).trans lp
 unfold Zfe
 rw [ZkQ]
 cases hf : (List.range' 0 (ts.length - 1)).find? fun k => !Zc2 roll ts k with
 | some j => rw [hf] at lp'; exact Zce lp'
 | none => rw [hf] at lp'; exact (Ze lp').trans rfl
theorem Zep (roll : Zdl) (R : Zdp roll) (ts : List Stp) (h8 : ∀ s ∈ ts, s.2.length = 8) (M : Store) (hz : ts.length ≤ 5000) : ZbN [Zw roll, Zdq ts] M = .ok (ZaF (Zfe roll ts)) M :=
 Rt.pure (G := []) (env := [some (Zw roll), some (Zdq ts), none]) (by rw [List.append_nil]; exact Zjo Zc3 roll ts M hz (fun k hk => Zhj roll R _ _ _ _ M (h8 _ (List.getElem_mem _)) (h8 _ (List.getElem_mem _)))) (ZeM _ _)
structure Use where
 num : Int
 time : Int
 word : List Nat
 val : Int
noncomputable abbrev GET : List Nat := [103, 101, 116]
noncomputable def Zx (u : Use) : D := .tup [.int u.num, .int u.time, .str u.word, .int u.val]
noncomputable def Zbr : Option Use → D
 | none => .non
 | some u => Zx u
noncomputable def Zf1 (a : Option Use) (r : Use) : Bool := match a with
 | none => decide (r.word ≠ GET) || decide (r.val = 0)
 | some a => if r.num < a.num ∨ (r.num = a.num ∧ r.time ≤ a.time) then false else if r.word ≠ GET then true else if a.num = r.num then decide (r.val = a.val) else decide (r.val = 0)
theorem ZhK (a : Option Use) (r : Use) (M : Store) (c : Bool) (v : Int) (h1 : (Zcs (e2 Zbm (Zb 0) (eC .non)) (e2 Zay (e2 Zj (Zb 0) (eC (.int 0))) (e2 Zj (Zb 1) (eC (.int 0))))) [some (Zbr a), some (Zx r), none] M = .ok (.bl c) M) (h2 : (eIf (Zb 2) (e2 Zj (Zb 0) (eC (.int 3))) (eC (.int 0))) [some (Zbr a), some (Zx r), some (.bl c)] M = .ok (.int v) M) :
  (Zy (sIf (e2 Ze7 (e2 Zj (Zb 1) (eC (.int 2))) (eC (.str [103, 101, 116]))) (Zal (eC (.bl true))) (Zae)) (Zy (Zaf 2 (Zcs (e2 Zbm (Zb 0) (eC .non)) (e2 Zay (e2 Zj (Zb 0) (eC (.int 0))) (e2 Zj (Zb 1) (eC (.int 0)))))) (Zal (e2 Zay (e2 Zj (Zb 1) (eC (.int 3))) (eIf (Zb 2) (e2 Zj (Zb 0) (eC (.int 3))) (eC (.int 0))))))) [some (Zbr a), some (Zx r), none] M = .rt (.bl (decide (r.word ≠ GET) || decide (r.val = v))) M := by
 have c2 : (e2 Ze7 (e2 Zj (Zb 1) (eC (.int 2))) (eC (.str [103, 101, 116]))) [some (Zbr a), some (Zx r), none] M = .ok (.bl (!decide (r.word = GET))) M := ZaR (a := .str r.word) rfl rfl rfl
 by_cases h : r.word = GET
 ·rw [decide_eq_true h] at c2
  refine (Ze (Zn c2)).trans ((Ze (Zt h1)).trans (ZaH (ZaR (a := .int r.val) rfl h2 ?_)))
  rw [decide_eq_false (fun z => z h)]; rfl
 ·rw [decide_eq_false h] at c2
  refine Zce ((ZaQ c2).trans ?_)
  rw [decide_eq_true h]; rfl
theorem Zh4 (a : Option Use) (r : Use) (M : Store) : Zcr [Zbr a, Zx r] M = .ok (.bl (Zf1 a r)) M := by
 refine Rt.pure (G := []) (env := [some (Zbr a), some (Zx r), none]) ?_ rfl
 rw [List.append_nil]
 cases a with
 | none => exact (Ze (Zn (M' := M) rfl)).trans (ZhK none r M false 0 rfl rfl)
 | some a =>
  have c1 : (Zcs (e2 Zbm (Zb 0) (eC .non)) (e2 ZiV (eSl (Zb 1) (ZaB) (Zaw (eC (.int 2)))) (eSl (Zb 0) (ZaB) (Zaw (eC (.int 2)))))) [some (Zbr (some a)), some (Zx r), none] M = .ok (.bl (decide (r.num < a.num) || (decide (r.num = a.num) && decide (r.time ≤ a.time)))) M := rfl
  have c3 : (Zcs (e2 Zbm (Zb 0) (eC .non)) (e2 Zay (e2 Zj (Zb 0) (eC (.int 0))) (e2 Zj (Zb 1) (eC (.int 0))))) [some (Zbr (some a)), some (Zx r), none] M = .ok (.bl (decide (a.num = r.num))) M := rfl
  simp only [Zf1]
  by_cases h : r.num < a.num ∨ (r.num = a.num ∧ r.time ≤ a.time)
  ·rw [show (decide (r.num < a.num) || (decide (r.num = a.num) && decide (r.time ≤ a.time))) = true by simpa using h] at c1
   rw [if_pos h]
   exact Zce (ZaQ c1)
  ·rw [show (decide (r.num < a.num) || (decide (r.num = a.num) && decide (r.time ≤ a.time))) = false by simpa using h] at c1
   rw [if_neg h]
   refine (Ze (Zn c1)).trans ((ZhK (some a) r M (decide (a.num = r.num)) (if a.num = r.num then a.val else 0) c3 ?_).trans ?_)
   ·by_cases z : a.num = r.num
    ·rw [decide_eq_true z, if_pos z]; rfl
    ·rw [decide_eq_false z, if_neg z]; rfl
   ·by_cases w : r.word ≠ GET
    ·rw [if_pos w, decide_eq_true w]; rfl
    ·rw [if_neg w, decide_eq_false w]
     split <;> rfl
noncomputable def ZcW : Option Use → List Use → Nat → Option Nat
 | _, [], _ => none
 | a, r :: rs, k => if Zf1 a r then ZcW (some r) rs (k + 1) else some k
theorem ZfO (d0 d1 : D) (M : Store) : ∀ (rs : List Use) (k : Nat) (a : Option Use) (x3 x4 : Option D),
  ZdD [] (Zc9 [3, 4]) (Zy (sIf (e1 Zck (Zu Zcr (Za (Zb 2) (Za (Zb 4) (Zg))))) (Zal (Zb 3)) (Zae)) (Zaf 2 (Zb 4))) (Zdc k (rs.map Zx)) [some d0, some d1, some (Zbr a), x3, x4] M =
   match ZcW a rs k with
   | none => (match rs.getLast? with | none => .nx [some d0, some d1, some (Zbr a), x3, x4] M | some r => .nx [some d0, some d1, some (Zx r), some (.int ((k + rs.length - 1 : Nat) : Int)), some (Zx r)] M)
   | some j => .rt (.int (j : Int)) M
 | [], k, a, x3, x4 => by simp [Zdc, ZdD, Zbp, ZcW]
 | r :: rs, k, a, x3, x4 => by
  have uf := Zh4 a r M
  have ih := ZfO d0 d1 M rs (k + 1) (some r) (some (.int (k : Int))) (some (Zx r))
  simp only [List.map_cons, Zdc, ZdD, Zbp, List.all_nil, if_true, Zc9, bindAll, List.set_cons_succ, List.set_cons_zero, ZcW]
  cases h : Zf1 a r with
  | false =>
   rw [h] at uf
   simp [Zy, sIf, Zal, uf]
  | true =>
   rw [h] at uf
   simp only [if_true]
   have b : (Zy (sIf (e1 Zck (Zu Zcr (Za (Zb 2) (Za (Zb 4) (Zg))))) (Zal (Zb 3)) (Zae)) (Zaf 2 (Zb 4))) [some d0, some d1, some (Zbr a), some (.int (k : Int)), some (Zx r)] M = .nx [some d0, some d1, some (Zx r), some (.int (k : Int)), some (Zx r)] M := by
    simp [Zy, sIf, Zae, Zaf, uf]
   rw [b]
   refine Eq.trans ih ?_
   cases hf : ZcW (some r) rs (k + 1) with
   | some j => rfl
   | none =>
    cases rs with
    | nil => simp [Zbr]
    | cons r2 rs =>
     cases hgl : (r2 :: rs).getLast? with
     | none => simp at hgl
     | some z =>
      have : (r :: r2 :: rs).getLast? = some z := by rw [List.getLast?_cons_cons]; exact hgl
      rw [this]
      simp only [List.length_cons]
      rw [show k + 1 + (rs.length + 1) - 1 = k + (rs.length + 1 + 1) - 1 by omega]
theorem Zev (a : Option Use) (rs : List Use) (M : Store) : ZbJ [Zbr a, .tup (rs.map Zx)] M = .ok (ZaF (ZcW a rs 0)) M := by
 have f1 : ZbY [Zbr a, .tup (rs.map Zx)] M = .ok (ZaF (ZcW a rs 0)) M := by
  have lp := ZfO (Zbr a) (.tup (rs.map Zx)) M rs 0 a none none
  have e0 : ZcK [some (Zbr a), some (.tup (rs.map Zx)), none, none, none] M = .rt (ZaF (ZcW a rs 0)) M := by
   refine (Ze (Zt (d := Zbr a) (M' := M) rfl)).trans ?_
   have e1 : (Zf9 (ZhV (Zb 1)) (Zc9 [3, 4]) (Zy (sIf (e1 Zck (Zu Zcr (Za (Zb 2) (Za (Zb 4) (Zg))))) (Zal (Zb 3)) (Zae)) (Zaf 2 (Zb 4)))) [some (Zbr a), some (.tup (rs.map Zx)), some (Zbr a), none, none] M = _ := Eq.trans (by simp [Zf9]) lp
   cases hf : ZcW a rs 0 with
   | some j => rw [hf] at e1; exact Zce e1
   | none =>
    rw [hf] at e1
    simp only at e1
    cases hl : rs.getLast? with
    | none => rw [hl] at e1; exact (Ze e1).trans rfl
    | some z => rw [hl] at e1; exact (Ze e1).trans rfl
  exact Rt.pure (G := []) (env := [some (Zbr a), some (.tup (rs.map Zx)), none, none, none]) (by rw [List.append_nil]; exact e0) (ZeM _ _)
 exact Rt.pure (G := []) (env := [some (Zbr a), some (.tup (rs.map Zx))]) (by rw [List.append_nil]; exact ZaH (ZcZ rfl rfl f1)) (ZeM _ _)
theorem ZlC (cs : List Int) (c d : Nat) (at_ : Nat) (M : Store) (hd : M[d]? = some (.lst [.ref c, .int (at_ : Int)])) (hc : M[c]? = some (.lst (cs.map D.int))) (ha : at_ < 1000000) (hne : c ≠ d) :
  ∃ v : Int, Zz [.ref d] M = .ok (.int v) (M.set d (.lst [.ref c, .int ((at_ + 1 : Nat) : Int)])) := by
 have hdl := (List.getElem?_eq_some_iff.mp hd).1
 have hc2 : (M.set d (.lst [.ref c, .int ((at_ : Int) + 1)]))[c]? = some (.lst (cs.map D.int)) := by rw [List.getElem?_set_ne (Ne.symm hne)]; exact hc
 have fin : ∀ v : Int, ZcA [some (.ref d), none, none] M = .rt (.int v) (M.set d (.lst [.ref c, .int ((at_ : Int) + 1)])) → ∃ v : Int, Zz [.ref d] M = .ok (.int v) (M.set d (.lst [.ref c, .int ((at_ + 1 : Nat) : Int)])) := fun v h => by
  refine ⟨v, (Zdo h).trans ?_⟩
  unfold ZcM
  rw [List.take_of_length_le (by simp)]
  split <;> simp
 have m1 : Zdb (at_ : Int) (at_ : Int) = true := ZoQ (by omega)
 have m2 : Zdb ((at_ : Int) * at_) 3 = true := mul_r (by omega)
 by_cases h1 : at_ < cs.length
 ·exact fin cs[at_] (by simp [ZcA, Zy, Zaf, Zal, sIf, Zae, ZaA, ZhW, hd, hc2, h1])
 ·by_cases h2 : cs.length = 0
  ·have n0 : ¬ ((at_ : Int) < 0) := by omega
   exact fin ((at_ : Int) * at_ * 3 + at_) (by simp [ZcA, Zy, Zaf, Zal, sIf, Zae, ZaA, ZhW, hd, hc2, h2, m1, m2, n0])
  ·obtain ⟨a, ha', la⟩ := Zch (at_ : Int) cs.length (by omega)
   have p0 : 0 < cs.length := by omega
   exact fin (cs[a] / 2 + (at_ : Int) * at_) (by simp [ZcA, Zy, Zaf, Zal, sIf, Zae, ZaA, ZhW, hd, hc2, h1, h2, m1, p0, ha', la])
structure Zbz (cs : List Int) (c d : Nat) (at_ : Nat) (M : Store) : Prop where
 hd : M[d]? = some (.lst [.ref c, .int (at_ : Int)])
 hc : M[c]? = some (.lst (cs.map D.int))
 ne : c ≠ d
theorem Zbz.next {cs : List Int} {c d at_ : Nat} {M : Store} (K : Zbz cs c d at_ M) (ha : at_ < 1000000) : ∃ (v : Int) (M' : Store), Zz [.ref d] M = .ok (.int v) M' ∧ Zbz cs c d (at_ + 1) M' ∧ M'.length = M.length ∧ ∀ j, j ≠ d → M'[j]? = M[j]? := by
 obtain ⟨v, h⟩ := ZlC cs c d at_ M K.hd K.hc ha K.ne
 have hdl := (List.getElem?_eq_some_iff.mp K.hd).1
 exact ⟨v, _, h, ⟨List.getElem?_set_self hdl, by rw [List.getElem?_set_ne (Ne.symm K.ne)]; exact K.hc, K.ne⟩, by simp, fun j hj => List.getElem?_set_ne (Ne.symm hj)⟩
theorem Zbz.number {cs : List Int} {c d at_ : Nat} {M : Store} {env : ZaC} (K : Zbz cs c d at_ M) (ha : at_ < 1000000) (h0 : env[0]? = some (some (.ref d))) : ∃ (v : Int) (M' : Store), (Zu Zah (Za (Zu Zz (Za (Zb 0) (Zg))) (Zg))) env M = .ok (.int v) M' ∧ Zbz cs c d (at_ + 1) M' ∧ M'.length = M.length ∧ ∀ j, j ≠ d → M'[j]? = M[j]? := by
 obtain ⟨v, M', h, K', l, o⟩ := K.next ha
 obtain ⟨w, hw⟩ := ZfT v
 exact ⟨w, M', ZcV (ZcV (a := .ref d) (M1 := M) (by simp [h0]) h) (hw M'), K', l, o⟩
theorem ZgC (cs : List Int) (c d n : Nat) (hn : n ≠ d) (hnc : n ≠ c) (it : It3) (hit : it.lock = none) : ∀ (ds : List D) (acc : List Int) (at_ : Nat) (env : ZaC) (M : Store), at_ + ds.length < 1000000 → acc.length + ds.length ≤ 1000 → env[0]? = some (some (.ref d)) → Zbz cs c d at_ M → M[n]? = some (.lst (acc.map D.int)) →
  ∃ (vs : List Int) (M' : Store), Zds it (Zb2 6) [] (Zu Zah (Za (Zu Zz (Za (Zb 0) (Zg))) (Zg))) n ds env M = .ok (.ref n) M' ∧ vs.length = acc.length + ds.length ∧ M'[n]? = some (.lst (vs.map D.int)) ∧ Zbz cs c d (at_ + ds.length) M' ∧ M'.length = M.length ∧ ∀ j, j ≠ d → j ≠ n → M'[j]? = M[j]?
 | [], acc, at_, env, M, _, _, _, K, hM => ⟨acc, M, by simp [Zds, locked, hit], rfl, hM, K, rfl, fun _ _ _ => rfl⟩
 | x :: ds, acc, at_, env, M, ha, hz, h0, K, hM => by
  simp only [List.length_cons] at ha hz
  have h1 : (env.set 6 (some x))[0]? = some (some (.ref d)) := by rw [List.getElem?_set_ne (by omega)]; exact h0
  obtain ⟨v, M1, e1, K1, l1, o1⟩ := K.number (env := env.set 6 (some x)) (by omega) h1
  have hM1 : M1[n]? = some (.lst (acc.map D.int)) := by rw [o1 n hn]; exact hM
  have hnl := (List.getElem?_eq_some_iff.mp hM1).1
  have K2 : Zbz cs c d (at_ + 1) (M1.set n (.lst ((acc ++ [v]).map D.int))) := ⟨by rw [List.getElem?_set_ne hn]; exact K1.hd, by rw [List.getElem?_set_ne hnc]; exact K1.hc, K1.ne⟩
  obtain ⟨vs, M', h, lv, hv, K', l', o'⟩ := ZgC cs c d n hn hnc it hit ds (acc ++ [v]) (at_ + 1) (env.set 6 (some x)) (M1.set n (.lst ((acc ++ [v]).map D.int))) (by omega) (by simp; omega) h1 K2 (List.getElem?_set_self hnl)
  refine ⟨vs, M', ?_, by simp at lv ⊢; omega, hv, by rw [List.length_cons, ← Nat.add_assoc, Nat.add_right_comm]; exact K', by rw [l']; simp [l1], fun j hj hjn => by rw [o' j hj hjn, List.getElem?_set_ne (Ne.symm hjn), o1 j hj]⟩
  have lk : locked it M = true := by simp [locked, hit]
  have lz : (acc.map D.int).length < SZ := by rw [List.length_map, SZ]; omega
  have e0 : Zb2 6 x env = some (env.set 6 (some x)) := rfl
  rw [Zds, if_pos lk, e0]
  simp only [ZdT, R3.bind, if_true]
  rw [e1]
  simp only [hM1, lz, if_true]
  rw [← h]
  simp
theorem ZkD {c : E3} {body : S3} {n : Nat} {env e : ZaC} {M M1 M' : Store} (h : c env M = .ok (.bl true) M1) (h' : body env M1 = .nx e M') : ZdB c body (n + 1) env M = ZdB c body n e M' := by
 show (match c env M with | .ok (.bl true) M1 => _ | .ok (.bl false) M1 => _ | .exc x M1 => _ | _ => _) = _
 rw [h]; simp only [h']
theorem ZhI {c : E3} {body : S3} {n : Nat} {env : ZaC} {M M1 : Store} (h : c env M = .ok (.bl false) M1) : ZdB c body (n + 1) env M = .nx env M1 := by
 show (match c env M with | .ok (.bl true) M1 => _ | .ok (.bl false) M1 => _ | .exc x M1 => _ | _ => _) = _
 rw [h]
theorem place_lt {roll : Zdl} (R : Zdp roll) {k : Nat} {r : Row} {bs : List Int} (hb : bs.length = 8) (hr : roll[k]? = some r) (hh : r.isHalt = false) : r.place bs k < roll.length := by
 have hk : k < roll.length := (List.getElem?_eq_some_iff.mp hr).1
 have g : Good roll ⟨k, bs, []⟩ := ⟨hk, hb, by simp [Zhg]⟩
 have st : Zjh roll ⟨k, bs, []⟩ = some ⟨r.place bs k, r.boxes bs [], r.cells bs []⟩ := by simp [Zjh, hr, Zi4, hh]
 exact (ZjQ R g st).1.pl
theorem ZhO (r : Row) (bs : List Int) (v : Int) : (Zbb r bs v).length = bs.length := by
 cases r <;> simp [Zbb, Row.boxes]
theorem ZiQ (cs : List Int) (c d n many : Nat) (hn : n ≠ d) (roll : Zdl) (R : Zdp roll) (p : Nat) (bs : List Int) (ts : List Stp) (at_ : Nat) (M : Store) (r : Row) (hr : roll[p]? = some r) (hb : bs.length = 8) (hz : ts.length ≤ 1000) (ha : at_ < 1000000) (K : Zbz cs c d at_ M) (hM : M[n]? = some (.lst (ts.map Zbq))) (hnc : n ≠ c) :
  ∃ (bs' : List Int) (M' : Store), bs'.length = 8 ∧ (Zy (Zie (Zu Zbx (Za (e2 Zj (Zb 1) (Zb 2)) (Za (Zb 2) (Za (Zb 3) (Za (Zu Zah (Za (Zu Zz (Za (Zb 0) (Zg))) (Zg))) (Zg)))))) (Zc9 [2, 3])) (ZaA (Zcg tyL ZaK (Zb 4) (Za (Zba (Za (Zb 2) (Za (Zb 3) (Zg)))) (Zg)))))
   [some (.ref d), some (Zw roll), some (.int (p : Int)), some (Zi bs), some (.ref n), some (.int (many : Int))] M = .nx [some (.ref d), some (Zw roll), some (.int ((r.place bs p : Nat) : Int)), some (Zi bs'), some (.ref n), some (.int (many : Int))] M' ∧ M'[n]? = some (.lst ((ts ++ [(((r.place bs p : Nat) : Int), bs')]).map Zbq)) ∧ Zbz cs c d (at_ + 1) M' ∧ M'.length = M.length ∧ ∀ j, j ≠ d → j ≠ n → M'[j]? = M[j]? := by
 obtain ⟨v, M1, e1, K1, l1, o1⟩ := K.number (env := [some (.ref d), some (Zw roll), some (.int (p : Int)), some (Zi bs), some (.ref n), some (.int (many : Int))]) ha rfl
 have hp := (List.getElem?_eq_some_iff.mp hr).1
 have ro : r.ok roll.length := R.rows _ (List.mem_of_getElem? hr)
 have be := Zjt r p bs v roll.length ro hb M1
 have gk : ZaT (roll.map Zf) ((p : Nat) : Int) = some (Zf r) := by rw [ZdF, List.getElem?_map, hr]; rfl
 have g1 : (e2 Zj (Zb 1) (Zb 2)) [some (.ref d), some (Zw roll), some (.int (p : Int)), some (Zi bs), some (.ref n), some (.int (many : Int))] M = .ok (Zf r) M := by simp [Zw, gk, -ZaW]
 have hM1 : M1[n]? = some (.lst (ts.map Zbq)) := by rw [o1 n hn]; exact hM
 have hnl := (List.getElem?_eq_some_iff.mp hM1).1
 refine ⟨Zbb r bs v, M1.set n (.lst (ts.map Zbq ++ [Zbq (((r.place bs p : Nat) : Int), Zbb r bs v)])), by rw [ZhO, hb], ?_, ?_, ⟨?_, ?_, K1.ne⟩, by simp [l1], fun j hj hjn => ?_⟩
 ·refine (Ze (env' := [some (.ref d), some (Zw roll), some (.int ((r.place bs p : Nat) : Int)), some (Zi (Zbb r bs v)), some (.ref n), some (.int (many : Int))]) (M' := M1) ?_).trans (Zc4 (Zeg (M2 := M1) rfl hM1 (by simp [Zbq, Za1]) hM1 (by simp; omega)))
  rw [Zie, Zin (M1 := M) (M2 := M) (M3 := M) (M4 := M1) g1 rfl rfl e1 be]
  simp
 ·rw [List.getElem?_set_self hnl]; simp
 ·rw [List.getElem?_set_ne hn]; exact K1.hd
 ·rw [List.getElem?_set_ne hnc]; exact K1.hc
 ·rw [List.getElem?_set_ne (Ne.symm hjn), o1 j hj]
theorem ZfR (cs : List Int) (c d n many : Nat) (hn : n ≠ d) (hnc : n ≠ c) (hmany : many ≤ 60) (roll : Zdl) (R : Zdp roll) : ∀ (fuel : Nat) (p : Nat) (bs : List Int) (ts : List Stp) (at_ : Nat) (M : Store), many + 1 - ts.length < fuel → p < roll.length → bs.length = 8 → (∀ s ∈ ts, s.2.length = 8) → 0 < ts.length → ts.length ≤ 61 → at_ + 61 < 1000000 + ts.length → Zbz cs c d at_ M → M[n]? = some (.lst (ts.map Zbq)) →
  ∃ (p' : Nat) (bs' : List Int) (ts' : List Stp) (at' : Nat) (M' : Store), ZdB (Zcs (e2 ZkC (Zaz ZaM (Za (Zb 4) (Zg))) (Zb 5)) (e2 Ze7 (e2 Zj (e2 Zj (Zb 1) (Zb 2)) (eC (.int 0))) (eC (.str [104, 97, 108, 116])))) (Zy (Zie (Zu Zbx (Za (e2 Zj (Zb 1) (Zb 2)) (Za (Zb 2) (Za (Zb 3) (Za (Zu Zah (Za (Zu Zz (Za (Zb 0) (Zg))) (Zg))) (Zg)))))) (Zc9 [2, 3])) (ZaA (Zcg tyL ZaK (Zb 4) (Za (Zba (Za (Zb 2) (Za (Zb 3) (Zg)))) (Zg))))) fuel
   [some (.ref d), some (Zw roll), some (.int (p : Int)), some (Zi bs), some (.ref n), some (.int (many : Int))] M = .nx [some (.ref d), some (Zw roll), some (.int (p' : Int)), some (Zi bs'), some (.ref n), some (.int (many : Int))] M' ∧ M'[n]? = some (.lst (ts'.map Zbq)) ∧ (∀ s ∈ ts', s.2.length = 8) ∧ 0 < ts'.length ∧ ts'.length ≤ 61 ∧ at' + ts.length = at_ + ts'.length ∧ Zbz cs c d at' M' ∧ M'.length = M.length ∧ ∀ j, j ≠ d → j ≠ n → M'[j]? = M[j]?
 | 0, p, bs, ts, at_, M, h, _, _, _, _, _, _, _, _ => absurd h (by omega)
 | fuel + 1, p, bs, ts, at_, M, hf, hp, hb, h8, h1, h61, ha, K, hM => by
  have hr : roll[p]? = some roll[p] := by simp [hp]
  have gk : ZaT (roll.map Zf) ((p : Nat) : Int) = some (Zf roll[p]) := by rw [ZdF, List.getElem?_map, hr]; rfl
  generalize roll[p] = r at hr gk
  have hh : ∀ b : Bool, r.isHalt = b → (e2 Ze7 (e2 Zj (e2 Zj (Zb 1) (Zb 2)) (eC (.int 0))) (eC (.str [104, 97, 108, 116]))) [some (.ref d), some (Zw roll), some (.int (p : Int)), some (Zi bs), some (.ref n), some (.int (many : Int))] M = .ok (.bl (!b)) M := fun b e => by
   subst e
   cases r <;> simp [Zw, gk, Zf, -ZaW, Row.isHalt]
  by_cases hq : ts.length ≤ many
  ·have c1 : (e2 ZkC (Zaz ZaM (Za (Zb 4) (Zg))) (Zb 5)) [some (.ref d), some (Zw roll), some (.int (p : Int)), some (Zi bs), some (.ref n), some (.int (many : Int))] M = .ok (.bl true) M := by simp [hM, hq]
   cases hb2 : r.isHalt with
   | true =>
    exact ⟨p, bs, ts, at_, M, ZhI (M1 := M) ((ZeH c1).trans (hh true hb2)), hM, h8, h1, h61, by omega, K, rfl, fun _ _ _ => rfl⟩
   | false =>
    obtain ⟨bs', M1, lb, e1, hM1, K1, l1, o1⟩ := ZiQ cs c d n many hn roll R p bs ts at_ M r hr hb (by omega) (by omega) K hM hnc
    obtain ⟨p2, bs2, ts2, at2, M2, e2, hM2, h82, hp2, h612, ha2, K2, l2, o2⟩ := ZfR cs c d n many hn hnc hmany roll R fuel (r.place bs p) bs' (ts ++ [(((r.place bs p : Nat) : Int), bs')]) (at_ + 1) M1 (by simp; omega) (place_lt R hb hr hb2) lb (fun s hs => by
     rcases List.mem_append.mp hs with h | h
     ·exact h8 s h
     ·rw [List.mem_singleton.mp h]; exact lb) (by simp) (by simp; omega) (by simp; omega) K1 hM1
    exact ⟨p2, bs2, ts2, at2, M2, (ZkD (M1 := M) ((ZeH c1).trans (hh false hb2)) e1).trans e2, hM2, h82, hp2, h612, by simp at ha2; omega, K2, by rw [l2, l1], fun j hj hjn => by rw [o2 j hj hjn, o1 j hj hjn]⟩
  ·have c1 : (e2 ZkC (Zaz ZaM (Za (Zb 4) (Zg))) (Zb 5)) [some (.ref d), some (Zw roll), some (.int (p : Int)), some (Zi bs), some (.ref n), some (.int (many : Int))] M = .ok (.bl false) M := by simp [hM]; omega
   exact ⟨p, bs, ts, at_, M, ZhI (M1 := M) (Zlc c1), hM, h8, h1, h61, by omega, K, rfl, fun _ _ _ => rfl⟩
theorem Zbz.more {cs : List Int} {c d at_ : Nat} {M : Store} (K : Zbz cs c d at_ M) (G : Store) : Zbz cs c d at_ (M ++ G) := ⟨Zao K.hd G, Zao K.hc G, K.ne⟩
theorem Zbz.dl {cs : List Int} {c d at_ : Nat} {M : Store} (K : Zbz cs c d at_ M) : d < M.length := (List.getElem?_eq_some_iff.mp K.hd).1
theorem Zbz.cl {cs : List Int} {c d at_ : Nat} {M : Store} (K : Zbz cs c d at_ M) : c < M.length := (List.getElem?_eq_some_iff.mp K.hc).1
theorem Zil (cs : List Int) (c d at_ : Nat) (M : Store) (K : Zbz cs c d at_ M) (ha : at_ ≤ 1000) (roll : Zdl) (R : Zdp roll) (lroll : 0 < roll.length) :
  ∃ (ts : List Stp) (n at' : Nat) (M' : Store), Zdd [.ref d, Zw roll] M = .ok (.ref n) M' ∧ M'[n]? = some (.lst (ts.map Zbq)) ∧ (∀ s ∈ ts, s.2.length = 8) ∧ 0 < ts.length ∧ ts.length ≤ 61 ∧ at' ≤ at_ + 80 ∧ Zbz cs c d at' M' ∧ n ≠ d ∧ n ≠ c := by
 obtain ⟨v, M1, e1, K1, l1, -⟩ := K.next (by omega)
 obtain ⟨p, hp, lp⟩ := Zch v roll.length lroll
 have s1 : (e2 Zaq (Zu Zz (Za (Zb 0) (Zg))) (Zaz ZaM (Za (Zb 1) (Zg)))) [some (.ref d), some (Zw roll), none, none, none, none] M = .ok (.int (p : Int)) M1 := by
  refine ZaR (a := .int v) (b := .int (roll.length : Int)) (M1 := M1) (M2 := M1) (ZcV (a := .ref d) rfl e1) (by simp [Zw]) ?_
  have : (0 : Int) < (roll.length : Int) := by omega
  simp [this, hp, lroll]
 obtain ⟨bs, M2, ee2, lb, hM2, K2, l2, -⟩ := ZgC cs c d M1.length (by have := K1.dl; omega) (by have := K1.cl; omega) ⟨Zcl 0 8, none⟩ rfl (Zcl 0 8) [] (at_ + 1) [some (.ref d), some (Zw roll), some (.int (p : Int)), none, none, none, none] (M1 ++ [.lst []]) (by simp [ZdQ]; omega) (by simp [ZdQ]) rfl (K1.more _) (by simp)
 have lb8 : bs.length = 8 := by rw [lb]; simp [ZdQ]
 have s2 : (Zaz ZbL (Za (eLC (ZbM (eC (.int 8))) 1 (Zb2 6) [] (Zu Zah (Za (Zu Zz (Za (Zb 0) (Zg))) (Zg)))) (Zg))) [some (.ref d), some (Zw roll), some (.int (p : Int)), none, none, none] M1 = .ok (Zi bs) M2 := by
  have x : (eLC (ZbM (eC (.int 8))) 1 (Zb2 6) [] (Zu Zah (Za (Zu Zz (Za (Zb 0) (Zg))) (Zg)))) [some (.ref d), some (Zw roll), some (.int (p : Int)), none, none, none] M1 = .ok (.ref M1.length) M2 := by
   rw [Zk8 (it := ⟨Zcl 0 8, none⟩) (M' := M1) (by simp)]
   exact ee2
  generalize (eLC (ZbM (eC (.int 8))) 1 (Zb2 6) [] (Zu Zah (Za (Zu Zz (Za (Zb 0) (Zg))) (Zg)))) = E at x
  simp [x, hM2, Zi]
 rw [ZdQ] at K2
 obtain ⟨w, M3, e3, K3, l3, o3⟩ := (K2.more [.lst [Zbq ((p : Int), bs)]]).next (by omega)
 obtain ⟨many0, hm, lm⟩ := Zch w 51 (by omega)
 have hM3 : M3[M2.length]? = some (.lst ([((p : Int), bs)].map Zbq)) := by rw [o3 M2.length (by have := K2.dl; omega)]; simp
 have s3 : (Zbk (Za (Zba (Za (Zb 2) (Za (Zb 3) (Zg)))) (Zg))) [some (.ref d), some (Zw roll), some (.int (p : Int)), some (Zi bs), none, none] M2 = .ok (.ref M2.length) (M2 ++ [.lst [Zbq ((p : Int), bs)]]) := by simp [Zbq, Za1]
 have s4 : (e2 Zr (eC (.int 10)) (e2 Zaq (Zu Zz (Za (Zb 0) (Zg))) (eC (.int 51)))) [some (.ref d), some (Zw roll), some (.int (p : Int)), some (Zi bs), some (.ref M2.length), none] (M2 ++ [.lst [Zbq ((p : Int), bs)]]) = .ok (.int ((10 + many0 : Nat) : Int)) M3 := by
  have hm' : w % 51 = (many0 : Int) := hm
  refine ZaR (a := .int 10) (b := .int (many0 : Int)) (M1 := M2 ++ [.lst [Zbq ((p : Int), bs)]]) (M2 := M3) rfl (ZaR (a := .int w) (b := .int 51) (M1 := M3) (M2 := M3) (ZcV (a := .ref d) rfl e3) rfl (by simp [hm'])) ?_
  simp
 obtain ⟨p', bs', ts, at', M', e5, hM', h8, h0, h61, hat, K', l', -⟩ := ZfR cs c d M2.length (10 + many0) (by have := K2.dl; omega) (by have := K2.cl; omega) (by omega) roll R 1000000 p bs [((p : Int), bs)] (at_ + 1 + 8 + 1) M3 (by simp; omega) lp lb8 (fun s hs => by rw [List.mem_singleton.mp hs]; exact lb8) (by simp) (by simp) (by simp; omega) K3 hM3
 refine ⟨ts, M2.length, at', M', ?_, hM', h8, h0, h61, by simp at hat; omega, K', by have := K2.dl; omega, by have := K2.cl; omega⟩
 have hb : ZdR [some (.ref d), some (Zw roll), none, none, none, none] M = .rt (.ref M2.length) M' :=
  (Ze (Zt s1)).trans ((Ze (Zt s2)).trans ((Ze (Zt s3)).trans ((Ze (Zt s4)).trans ((Ze e5).trans rfl))))
 refine (Zdo hb).trans ?_
 have nb : below M.length (.ref M2.length) = false := by
  have : ¬ (M2.length < M.length) := by rw [l2]; simp; omega
  simp [below, this]
 simp [ZcM, nb]
noncomputable def Zg3 : Nat → D → Bool
 | _, .int _ => true
 | _, .str _ => true
 | n + 1, .tup ds => decide (ds.length ≤ 1000) && ds.all (Zg3 n)
 | _, _ => false
structure Kp (d : Nat) (M M' : Store) : Prop where
 len : M.length ≤ M'.length
 old : ∀ j, j < M.length → j ≠ d → M'[j]? = M[j]?
theorem Kp.trans {d : Nat} {M M1 M2 : Store} (a : Kp d M M1) (b : Kp d M1 M2) : Kp d M M2 := ⟨Nat.le_trans a.len b.len, fun j h1 h2 => (b.old j (Nat.lt_of_lt_of_le h1 a.len) h2).trans (a.old j h1 h2)⟩
theorem Kp.app (d : Nat) (M G : Store) : Kp d M (M ++ G) := ⟨by simp, fun j h _ => List.getElem?_append_left h⟩
theorem Kp.get {d : Nat} {M M' : Store} (k : Kp d M M') {j : Nat} {o : MO} (h : M[j]? = some o) (hj : j ≠ d) : M'[j]? = some o := (k.old j (List.getElem?_eq_some_iff.mp h).1 hj).trans h
theorem Kp.put {d : Nat} {M M' : Store} (k : Kp d M M') {j : Nat} (hj : M.length ≤ j) (o : MO) : Kp d M (M'.set j o) := ⟨by rw [List.length_set]; exact k.len, fun i h1 h2 => by rw [List.getElem?_set_ne (by omega)]; exact k.old i h1 h2⟩
theorem Zbz.app {cs : List Int} {c d at_ : Nat} {M : Store} (K : Zbz cs c d at_ M) (G : Store) : Zbz cs c d at_ (M ++ G) := ⟨Zao K.hd G, Zao K.hc G, K.ne⟩
theorem Zbz.put {cs : List Int} {c d at_ : Nat} {M : Store} (K : Zbz cs c d at_ M) {j : Nat} (h1 : j ≠ d) (h2 : j ≠ c) (o : MO) : Zbz cs c d at_ (M.set j o) := ⟨by rw [List.getElem?_set_ne h1]; exact K.hd, by rw [List.getElem?_set_ne h2]; exact K.hc, K.ne⟩
theorem Zbz.lt {cs : List Int} {c d at_ : Nat} {M : Store} (K : Zbz cs c d at_ M) : c < M.length ∧ d < M.length := ⟨(List.getElem?_eq_some_iff.mp K.hc).1, (List.getElem?_eq_some_iff.mp K.hd).1⟩
theorem Zbz.draw {cs : List Int} {c d at_ : Nat} {M : Store} (K : Zbz cs c d at_ M) (ha : at_ < 1000000) : ∃ (v : Int) (M' : Store), Zz [.ref d] M = .ok (.int v) M' ∧ Zbz cs c d (at_ + 1) M' ∧ Kp d M M' ∧ M'.length = M.length := by
 obtain ⟨v, M', h, K', l, o⟩ := K.next ha
 exact ⟨v, M', h, K', ⟨by omega, fun j _ hj => o j hj⟩, l⟩
noncomputable def Plain (d : D) : Prop := (∃ ds, d = .tup ds) ∧ Zg3 3 d = true ∧ Zag 3 d = true ∧ ∀ n, below n d = true
theorem Zjj (cs : List Int) (c d : Nat) (lo hi : Int) (way : Int) (at_ : Nat) (M : Store) (K : Zbz cs c d at_ M) (hlo : 0 ≤ lo) (hlo2 : lo ≤ 1000) (hhi : -1 ≤ hi) (hhi2 : hi ≤ 1000) (ha : at_ ≤ 10000) :
  ∃ (ks : List Int) (n a2 : Nat) (M' : Store), Zbf [.ref d, .int lo, .int hi, .int way] M = .ok (.ref n) M' ∧ M'[n]? = some (.lst (ks.map D.int)) ∧ M.length ≤ n ∧ ks.Pairwise (· < ·) ∧ (∀ k ∈ ks, lo ≤ k ∧ k < hi) ∧ ks.length ≤ 1001 ∧ a2 ≤ at_ + 1001 ∧ Zbz cs c d a2 M' ∧ Kp d M M' := by
 obtain ⟨lc, ld⟩ := K.lt
 have nn : (hi - lo).toNat ≤ 1001 := by omega
 obtain ⟨e', M', lp, ks, x5, a2, rfl, K', la, g, lk', pw, bd, kp⟩ := Zed (it := ⟨Zcl lo (hi - lo).toNat, none⟩) (g := Zb2 5)
  (body := (sIf (eOr (e2 Zay (Zb 3) (eC (.int 0))) (e2 Zay (e2 Zaq (Zu Zz (Za (Zb 0) (Zg))) (eC (.int 5))) (eC (.int 1)))) (ZaA (Zcg tyL ZaK (Zb 4) (Za (Zb 5) (Zg)))) (Zae)))
  (P := fun j env M' => ∃ (ks : List Int) (x5 : Option D) (a2 : Nat), env = [some (.ref d), some (.int lo), some (.int hi), some (.int way), some (.ref M.length), x5] ∧ Zbz cs c d a2 M' ∧ a2 ≤ at_ + j ∧ M'[M.length]? = some (.lst (ks.map D.int)) ∧ ks.length ≤ j ∧ ks.Pairwise (· < ·) ∧ (∀ k ∈ ks, lo ≤ k ∧ k < lo + j) ∧ Kp d M M')
  (Zcl lo (hi - lo).toNat) 0 [some (.ref d), some (.int lo), some (.int hi), some (.int way), some (.ref M.length), none] (M ++ [.lst []]) ⟨[], none, at_, rfl, K.app _, Nat.le_refl _, Za8 _ _ _, Nat.le_refl _, List.Pairwise.nil, fun k hk => by simp at hk, Kp.app _ _ _⟩ (fun _ _ _ _ => rfl)
  (fun j dd hd env M' ⟨ks, x5, a2, he, K', la, g, lk, pw, bd, kp⟩ => by
   obtain ⟨rfl, lj⟩ := Zl7 hd
   subst he
   have key : ∀ (M1 : Store) (a3 : Nat), Zbz cs c d a3 M1 → a3 ≤ at_ + (j + 1) → M1[M.length]? = some (.lst (ks.map D.int)) → Kp d M M1 →
     ∃ M2, ZaA (Zcg tyL ZaK (Zb 4) (Za (Zb 5) (Zg))) [some (.ref d), some (.int lo), some (.int hi), some (.int way), some (.ref M.length), some (.int (lo + (j : Int)))] M1 = .nx [some (.ref d), some (.int lo), some (.int hi), some (.int way), some (.ref M.length), some (.int (lo + (j : Int)))] M2 ∧
     ∃ (ks : List Int) (x5 : Option D) (a2 : Nat), [some (.ref d), some (.int lo), some (.int hi), some (.int way), some (.ref M.length), some (.int (lo + (j : Int)))] = [some (.ref d), some (.int lo), some (.int hi), some (.int way), some (.ref M.length), x5] ∧ Zbz cs c d a2 M2 ∧ a2 ≤ at_ + (0 + j + 1) ∧ M2[M.length]? = some (.lst (ks.map D.int)) ∧ ks.length ≤ 0 + j + 1 ∧ ks.Pairwise (· < ·) ∧ (∀ k ∈ ks, lo ≤ k ∧ k < lo + ((0 + j + 1 : Nat) : Int)) ∧ Kp d M M2 := fun M1 a3 K1 la3 g1 kp1 => by
    have l3 : M.length < M1.length := (List.getElem?_eq_some_iff.mp g1).1
    refine ⟨_, Zc4 (Zeg (o := Zb 4) (arg := Zb 5) (d := .int (lo + (j : Int))) (n := M.length) rfl g1 rfl g1 (by rw [List.length_map]; omega)), ks ++ [lo + (j : Int)], _, a3, rfl, K1.put (by omega) (by omega) _, by omega, by rw [List.getElem?_set_self l3, List.map_append]; rfl, by simp; omega, ?_, fun k hk => ?_, kp1.put (Nat.le_refl _) _⟩
    ·refine List.pairwise_append.mpr ⟨pw, by simp, fun x hx y hy => ?_⟩
     rw [List.mem_singleton] at hy
     have := bd x hx
     omega
    ·rcases List.mem_append.mp hk with hk | hk
     ·have := bd k hk; omega
     ·rw [List.mem_singleton] at hk; omega
   have c1 : ∀ M', (e2 Zay (Zb 3) (eC (.int 0))) [some (.ref d), some (.int lo), some (.int hi), some (.int way), some (.ref M.length), some (.int (lo + (j : Int)))] M' = .ok (.bl (decide (way = 0))) M' := fun M' => rfl
   by_cases w1 : way = 0
   ·obtain ⟨M2, h, r⟩ := key M' a2 K' (by omega) g kp
    exact ⟨_, _, M2, rfl, (ZaQ (Zoe ((c1 M').trans (by rw [decide_eq_true w1])))).trans h, r⟩
   ·obtain ⟨v, M1, hv, K1, kp1, l1⟩ := K'.draw (by omega)
    have g1 := kp1.get g (by omega)
    have cc : (eOr (e2 Zay (Zb 3) (eC (.int 0))) (e2 Zay (e2 Zaq (Zu Zz (Za (Zb 0) (Zg))) (eC (.int 5))) (eC (.int 1)))) [some (.ref d), some (.int lo), some (.int hi), some (.int way), some (.ref M.length), some (.int (lo + (j : Int)))] M' = .ok (.bl (decide (v % 5 = 1))) M1 := by
     rw [Zkl ((c1 M').trans (by rw [decide_eq_false w1]))]
     exact ZaR (ZaR (ZcV rfl hv) rfl rfl) rfl rfl
    by_cases v1 : v % 5 = 1
    ·obtain ⟨M2, h, r⟩ := key M1 (a2 + 1) K1 (by omega) g1 (kp.trans kp1)
     exact ⟨_, _, M2, rfl, (ZaQ (cc.trans (by rw [decide_eq_true v1]))).trans h, r⟩
    ·exact ⟨_, _, M1, rfl, Zn (cc.trans (by rw [decide_eq_false v1])), ks, _, a2 + 1, rfl, K1, by omega, g1, by omega, pw, fun k hk => by have := bd k hk; omega, kp.trans kp1⟩)
 rw [ZdQ, Nat.zero_add] at lk' la bd
 have ir : ZfH (Zb 1) (Zb 2) [some (.ref d), some (.int lo), some (.int hi), some (.int way), some (.ref M.length), none] (M ++ [.lst []]) = .ok ⟨Zcl lo (hi - lo).toNat, none⟩ (M ++ [.lst []]) := by
  have b : (hi ≤ 1000000 ∧ -1000000 ≤ hi) ∧ (lo ≤ 1000000 ∧ -1000000 ≤ lo) := by omega
  simp only [ZfH, Zb, List.getElem?_cons_zero, List.getElem?_cons_succ, R3.bind, b, and_self, if_true]
 refine ⟨ks, M.length, a2, M', ?_, g, Nat.le_refl _, pw, fun k hk => by have := bd k hk; omega, by omega, by omega, K', kp⟩
 refine (Zdo (env := [some (.ref d), some (.int lo), some (.int hi), some (.int way), none, none]) ((Ze (Zt (d := .ref M.length) (M' := M ++ [.lst []]) (by simp))).trans ((Ze ((Zdg ir).trans lp)).trans (ZaH rfl)))).trans ?_
 simp [ZcM, below]
theorem ZhH (i : Int) (M : Store) : ZcR [.int i] M = .ok (.bl true) M := by simp [ZcR, Zey, Zy, Zaf, Zal, sIf, Zae, ZaA, mkF, ZcM, below, belowL, Zdb]
theorem refuse_eq (ks : List Int) (n : Nat) (apart most : Int) (M : Store) (hn : M[n]? = some (.lst (ks.map D.int))) (h : (0 :: ks).Pairwise fun a b => a + apart ≤ b) (hm : ∀ k ∈ ks, k ≤ most) : Za3 [.ref n, .int apart, .int most] M = .ok .non M := by
 obtain ⟨e', M', lp, x3, x4, rfl, rfl⟩ := Zed (it := ⟨ks.map D.int, some n⟩) (g := Zb2 4)
  (body := (Zy (sIf (eOr (e1 Zck (Zu ZcR (Za (Zb 4) (Zg)))) (eOr (e2 Zkp (Zb 4) (e2 Zr (Zb 3) (Zb 1))) (e2 Zd5 (Zb 4) (Zb 2)))) (Zgz) (Zae)) (Zaf 3 (Zb 4))))
  (P := fun j env M' => ∃ (x3 x4 : Option D), env = [some (.ref n), some (.int apart), some (.int most), (0 :: ks)[j]?.map D.int, x4] ∧ M' = M)
  (ks.map D.int) 0 [some (.ref n), some (.int apart), some (.int most), some (.int 0), none] M ⟨none, none, rfl, rfl⟩
  (fun j env M' ⟨_, _, _, hm⟩ => by subst hm; simp only [locked, hn, decide_true])
  (fun j dd hd env M' ⟨x3, x4, he, hM⟩ => by
   subst he hM
   rw [List.getElem?_map] at hd
   cases hj : ks[j]? with
   | none => rw [hj] at hd; cases hd
   | some k =>
    rw [hj] at hd
    cases hd
    have jl := (List.getElem?_eq_some_iff.mp hj).1
    have ha : (0 :: ks)[0 + j]? = some ((0 :: ks)[j]'(by simp; omega)) := by rw [Nat.zero_add]; exact List.getElem?_eq_getElem _
    have hb : (0 :: ks)[j + 1]? = some k := by simpa using hj
    have hb' : (0 :: ks)[j + 1]'(by simp; omega) = k := (List.getElem?_eq_some_iff.mp hb).2
    have ord := List.pairwise_iff_getElem.mp h j (j + 1) (by simp; omega) (by simp; omega) (by omega)
    rw [hb'] at ord
    have le := hm k (List.mem_of_getElem? hj)
    rw [ha]
    generalize (0 :: ks)[j]'(by simp; omega) = a at ord
    refine ⟨[some (.ref n), some (.int apart), some (.int most), some (.int a), some (.int k)], _, M', rfl, (Ze (Zn (M' := M') ?_)).trans (Zt (f := Zb 4) (d := .int k) (M' := M') rfl), none, some (.int k), by rw [Nat.zero_add, hb]; rfl, rfl⟩
    have w := ZhH k M'
    rw [Zkl (M1 := M') (ZiT (ZcV rfl w) rfl), Zkl (M1 := M') (by simp; omega)]
    simp; omega)
 refine (ZmA (env := [some (.ref n), some (.int apart), some (.int most), none, none]) ((Ze (Zn (M' := M') (by simp [hn]))).trans ((Ze (Zt (f := eC (.int 0)) (d := .int 0) (M' := M') rfl)).trans ((Zdg (it := ⟨ks.map D.int, some n⟩) (M' := M') (by simp [hn])).trans lp)))).trans ?_
 exact ZjN rfl
noncomputable def Zbo (rows : List D) (more : Int) (ends : List Int) : List D := (List.range (ends.length - 1)).map fun k => D.tup (cutD rows (some (ends.getD k 0)) (some (ends.getD (k + 1) 0 + more)))
theorem ZfW {lk : List (Nat × List D)} {g : G3} {elt : E3} {n : Nat} {I : ZaC → Prop} {M : Store} {hf : D → D} : ∀ (ds acc : List D) (env : ZaC), I env →
  (∀ a ∈ ds, ∀ env, I env → ∃ env1, g a env = some env1 ∧ I env1 ∧ ∀ x, elt env1 (M ++ [.lst x]) = .ok (hf a) (M ++ [.lst x])) → n = M.length → (∀ x, Zbp lk (M ++ [.lst x]) = true) → acc.length + ds.length ≤ 10000 →
  ZdA lk g [] elt n ds env (M ++ [.lst acc]) = .ok (.ref n) (M ++ [.lst (acc ++ ds.map hf)])
 | [], acc, env, _, _, hn, hl, _ => by simp only [ZdA, hl, if_true, List.map_nil, List.append_nil]
 | a :: ds, acc, env, hI, hs, hn, hl, hz => by
  obtain ⟨env1, hg, hI1, he⟩ := hs a List.mem_cons_self env hI
  have gt : (M ++ [MO.lst acc])[n]? = some (.lst acc) := by rw [hn]; exact Za8 _ _ _
  have lt : acc.length < SZ := by simp only [List.length_cons, SZ] at hz ⊢; omega
  have st : (M ++ [MO.lst acc]).set n (.lst (acc ++ [hf a])) = M ++ [.lst (acc ++ [hf a])] := by rw [hn]; simp
  have ih := ZfW ds (acc ++ [hf a]) env1 hI1 (fun b hb => hs b (List.mem_cons_of_mem _ hb)) hn hl (by simp only [List.length_append, List.length_cons, List.length_nil] at hz ⊢; omega)
  simp only [ZdA, hl, if_true, hg, ZdT, R3.bind, he, gt, lt, st]
  rw [ih]
  simp
noncomputable def pieceOf (rows : List D) (more : Int) : D → D
 | .tup [.int a, .int b] => .tup (cutD rows (some a) (some (b + more)))
 | _ => .non
theorem Zij (rows : List D) (more e : Int) (ks : List Int) : (ZeL ((0 :: ks).map D.int) ((ks ++ [e]).map D.int)).map (pieceOf rows more) = Zbo rows more (0 :: ks ++ [e]) := by
 apply List.ext_getElem?
 intro i
 have e1 : ((0 :: ks : List Int) ++ [e]).length - 1 = ks.length + 1 := by simp
 unfold Zbo
 rw [List.getElem?_map, List.getElem?_map, Ze0, e1, List.getElem?_map, List.getElem?_map]
 by_cases h : i < ks.length + 1
 ·have h1 : (0 :: ks)[i]? = some ((0 :: ks)[i]'(by simpa using h)) := List.getElem?_eq_getElem _
  have h2 : (ks ++ [e])[i]? = some ((ks ++ [e])[i]'(by simpa using h)) := List.getElem?_eq_getElem _
  have h3 : ((0 :: ks : List Int) ++ [e]).getD i 0 = (0 :: ks)[i]'(by simpa using h) := by
   rw [List.getD_eq_getElem?_getD, List.getElem?_append_left (by simpa using h), h1]; rfl
  have h4 : ((0 :: ks : List Int) ++ [e]).getD (i + 1) 0 = (ks ++ [e])[i]'(by simpa using h) := by
   rw [List.getD_eq_getElem?_getD, List.cons_append, List.getElem?_cons_succ, h2]; rfl
  have h5 : (List.range (ks.length + 1))[i]? = some i := by simp [h]
  rw [h1, h2, h5]
  simp only [Option.map_some, pieceOf]
  rw [h3, h4]
 ·have h1 : (0 :: ks)[i]? = none := by simp; omega
  have h5 : (List.range (ks.length + 1))[i]? = none := by simp; omega
  rw [h1, h5]
  rfl
theorem Zix (rows : List D) (more e : Int) (ks : List Int) : (Zbo rows more (0 :: ks ++ [e])).length = ks.length + 1 := by simp [Zbo]
theorem Zi5 (rows : List D) (ks : List Int) (n : Nat) (e more : Int) (eE elt : E3) (M : Store) (hn : M[n]? = some (.lst (ks.map D.int))) (he : ∀ M, eE [some (.tup rows), some (.ref n)] M = .ok (.int e) M)
  (hel : ∀ a b M, elt [some (.tup rows), some (.ref n), some (.int a), some (.int b)] M = .ok (.tup (cutD rows (some a) (some (b + more)))) M) (lk : ks.length ≤ 5000) :
  (Zll (Zj1 (e2 Zr (Zbk (Za (eC (.int 0)) (Zg))) (Zb 1)) (e2 Zr (Zb 1) (Zbk (Za eE (Zg))))) 2 (Zc9 [2, 3]) [] elt) [some (.tup rows), some (.ref n)] M = .ok (.ref (M.length + 4)) (M ++ [.lst [.int 0], .lst ((0 :: ks).map D.int), .lst [.int e], .lst ((ks ++ [e]).map D.int), .lst (Zbo rows more (0 :: ks ++ [e]))]) := by
 have hnl := (List.getElem?_eq_some_iff.mp hn).1
 have z1 : ([D.int 0].length + (ks.map D.int).length ≤ SZ) := by simp; omega
 have z2 : ((ks.map D.int).length + [D.int e].length ≤ SZ) := by simp; omega
 have a1 : e2 Zr (Zbk (Za (eC (.int 0)) (Zg))) (Zb 1) [some (.tup rows), some (.ref n)] M = .ok (.ref (M.length + 1)) (M ++ [.lst [.int 0], .lst ((0 :: ks).map D.int)]) := by
  refine ZaR (a := .ref M.length) (b := .ref n) (M1 := M ++ [.lst [.int 0]]) (M2 := M ++ [.lst [.int 0]]) (by simp) rfl ?_
  simp only [Zr, Za8, Zao hn, if_pos z1, alloc]
  simp
 have hn2 := Zao hn [.lst [.int 0], .lst ((0 :: ks).map D.int)]
 have a2 : e2 Zr (Zb 1) (Zbk (Za eE (Zg))) [some (.tup rows), some (.ref n)] (M ++ [.lst [.int 0], .lst ((0 :: ks).map D.int)]) = .ok (.ref (M.length + 3)) (M ++ [.lst [.int 0], .lst ((0 :: ks).map D.int), .lst [.int e], .lst ((ks ++ [e]).map D.int)]) := by
  refine ZaR (a := .ref n) (b := .ref (M.length + 2)) (M1 := M ++ [.lst [.int 0], .lst ((0 :: ks).map D.int)]) (M2 := M ++ [.lst [.int 0], .lst ((0 :: ks).map D.int), .lst [.int e]]) rfl (by simp [he]) ?_
  have g2 : (M ++ [MO.lst [.int 0], .lst ((0 :: ks).map D.int), .lst [.int e]])[M.length + 2]? = some (.lst [.int e]) := ZcG _ _ 2
  have g3 := Zao hn [.lst [.int 0], .lst ((0 :: ks).map D.int), .lst [.int e]]
  simp only [Zr, g2, g3, if_pos z2, alloc]
  simp
 generalize hM1 : M ++ [MO.lst [.int 0], .lst ((0 :: ks).map D.int), .lst [.int e], .lst ((ks ++ [e]).map D.int)] = M1 at a2
 have l1 : M1.length = M.length + 4 := by rw [← hM1]; simp
 have g1 : M1[M.length + 1]? = some (.lst ((0 :: ks).map D.int)) := by rw [← hM1]; exact ZcG _ _ 1
 have g3 : M1[M.length + 3]? = some (.lst ((ks ++ [e]).map D.int)) := by rw [← hM1]; exact ZcG _ _ 3
 have iz : Zj1 (e2 Zr (Zbk (Za (eC (.int 0)) (Zg))) (Zb 1)) (e2 Zr (Zb 1) (Zbk (Za eE (Zg)))) [some (.tup rows), some (.ref n)] M = .ok ⟨ZeL ((0 :: ks).map D.int) ((ks ++ [e]).map D.int), [(M.length + 1, (0 :: ks).map D.int), (M.length + 3, (ks ++ [e]).map D.int)]⟩ M1 := by
  generalize e2 Zr (Zbk (Za (eC (.int 0)) (Zg))) (Zb 1) = E1 at a1
  generalize e2 Zr (Zb 1) (Zbk (Za eE (Zg))) = E2 at a2
  simp only [Zj1, a1, R3.bind, a2, g1, g3]
 have lp := ZfW (lk := [(M.length + 1, (0 :: ks).map D.int), (M.length + 3, (ks ++ [e]).map D.int)]) (g := Zc9 [2, 3]) (elt := elt) (n := M1.length) (M := M1) (I := fun env => ∃ x2 x3, env = [some (.tup rows), some (.ref n), x2, x3]) (hf := pieceOf rows more)
  (ZeL ((0 :: ks).map D.int) ((ks ++ [e]).map D.int)) [] [some (.tup rows), some (.ref n), none, none] ⟨none, none, rfl⟩
  (fun d hd env ⟨x2, x3, he'⟩ => by
   subst he'
   obtain ⟨i, hi, ei⟩ := List.mem_iff_getElem.mp hd
   have q := Ze0 ((0 :: ks).map D.int) ((ks ++ [e]).map D.int) i
   rw [List.getElem?_eq_getElem hi, ei, List.getElem?_map, List.getElem?_map] at q
   cases h1 : (0 :: ks)[i]? with
   | none => rw [h1] at q; cases q
   | some a =>
    cases h2 : (ks ++ [e])[i]? with
    | none => rw [h1, h2] at q; cases q
    | some b =>
     rw [h1, h2] at q
     simp only [Option.map_some, Option.some.injEq] at q
     subst q
     exact ⟨[some (.tup rows), some (.ref n), some (.int a), some (.int b)], rfl, ⟨_, _, rfl⟩, fun x => hel a b _⟩)
  rfl (fun x => by simp only [Zbp, List.all_cons, List.all_nil, Zao g1, Zao g3, decide_true, Bool.and_self]) (by rw [Zge]; simp; omega)
 unfold Zll
 rw [iz]
 simp only [R3.bind]
 refine Eq.trans lp ?_
 rw [Zij, ← hM1]
 simp
theorem Zhi (rows : List D) (ks : List Int) (n : Nat) (M : Store) (hn : M[n]? = some (.lst (ks.map D.int))) (h : ks.Pairwise (· < ·)) (hb : ∀ k ∈ ks, 1 ≤ k ∧ k < (rows.length : Int) - 1) (lk : ks.length ≤ 5000) :
  ∃ G, Zdt [.tup rows, .ref n] M = .ok (.ref (M.length + 4)) (M ++ G) ∧ (M ++ G)[M.length + 4]? = some (.lst (Zbo rows 1 (0 :: ks ++ [(rows.length : Int) - 1]))) := by
 have rf := refuse_eq ks n 1 ((rows.length : Int) - 2) M hn (List.pairwise_cons.mpr ⟨fun k hk => by have := hb k hk; omega, h.imp fun h => by omega⟩) (fun k hk => by have := hb k hk; omega)
 have cz := Zi5 rows ks n ((rows.length : Int) - 1) 1 (e2 ZcP (Zaz ZaM (Za (Zb 0) (Zg))) (eC (.int 1))) (eSl (Zb 0) (Zaw (Zb 2)) (Zaw (e2 Zr (Zb 3) (eC (.int 1))))) M hn (fun M => rfl) (fun a b M => rfl) lk
 refine ⟨[.lst [.int 0], .lst ((0 :: ks).map D.int), .lst [.int ((rows.length : Int) - 1)], .lst ((ks ++ [(rows.length : Int) - 1]).map D.int), .lst (Zbo rows 1 (0 :: ks ++ [(rows.length : Int) - 1]))], ?_, ZcG _ _ 4⟩
 refine (Zdo (env := [some (.tup rows), some (.ref n)]) ((Ze (Zc4 (d := .non) (M' := M) (Zcm rfl rfl (c := .int ((rows.length : Int) - 2)) (M3 := M) rfl rf))).trans (ZaH cz))).trans ?_
 simp [ZcM, below]
theorem ZhL (rows : List D) (ks : List Int) (n : Nat) (M : Store) (hn : M[n]? = some (.lst (ks.map D.int))) (h : ks.Pairwise (· ≤ ·)) (hb : ∀ k ∈ ks, 0 ≤ k ∧ k < (rows.length : Int) + 1) (lk : ks.length ≤ 5000) :
  ∃ G, ZcX [.tup rows, .ref n] M = .ok (.ref (M.length + 4)) (M ++ G) ∧ (M ++ G)[M.length + 4]? = some (.lst (Zbo rows 0 (0 :: ks ++ [(rows.length : Int)]))) := by
 have rf := refuse_eq ks n 0 (rows.length : Int) M hn (List.pairwise_cons.mpr ⟨fun k hk => by have := hb k hk; omega, h.imp fun h => by omega⟩) (fun k hk => by have := hb k hk; omega)
 have cz := Zi5 rows ks n (rows.length : Int) 0 (Zaz ZaM (Za (Zb 0) (Zg))) (eSl (Zb 0) (Zaw (Zb 2)) (Zaw (Zb 3))) M hn (fun M => rfl) (fun a b M => by rw [Int.add_zero]; rfl) lk
 refine ⟨[.lst [.int 0], .lst ((0 :: ks).map D.int), .lst [.int (rows.length : Int)], .lst ((ks ++ [(rows.length : Int)]).map D.int), .lst (Zbo rows 0 (0 :: ks ++ [(rows.length : Int)]))], ?_, ZcG _ _ 4⟩
 refine (Zdo (env := [some (.tup rows), some (.ref n)]) ((Ze (Zc4 (d := .non) (M' := M) (Zcm rfl rfl (c := .int (rows.length : Int)) (M3 := M) rfl rf))).trans (ZaH cz))).trans ?_
 simp [ZcM, below]
theorem Zh5 (ks : List Int) (L : Nat) (h : ks.Pairwise (· ≤ ·)) (hb : ∀ k ∈ ks, 0 ≤ k ∧ k ≤ (L : Int)) : ∃ e : Nat → Nat, (∀ j, j ≤ ks.length + 1 → (0 :: ks ++ [(L : Int)]).getD j 0 = (e j : Int)) ∧ e 0 = 0 ∧ e (ks.length + 1) = L ∧ (∀ j, j ≤ ks.length → e j ≤ e (j + 1)) ∧ (∀ j, j ≤ ks.length + 1 → e j ≤ L) ∧ ∀ j, j ≤ ks.length → (0 :: ks)[j]? = some ((e j : Nat) : Int) := by
 have pw : (0 :: ks ++ [(L : Int)]).Pairwise (· ≤ ·) := by
  rw [List.cons_append]
  refine List.pairwise_cons.mpr ⟨fun x hx => ?_, List.pairwise_append.mpr ⟨h, by simp, fun x hx y hy => ?_⟩⟩
  ·rcases List.mem_append.mp hx with hx | hx
   ·exact (hb x hx).1
   ·rw [List.mem_singleton] at hx; omega
  ·rw [List.mem_singleton] at hy; rw [hy]; exact (hb x hx).2
 have len : (0 :: ks ++ [(L : Int)]).length = ks.length + 2 := by simp
 have gt : ∀ j, (hj : j < ks.length + 2) → (0 :: ks ++ [(L : Int)]).getD j 0 = (0 :: ks ++ [(L : Int)])[j]'(by rw [len]; exact hj) := fun j hj => by
  rw [List.getD_eq_getElem?_getD, List.getElem?_eq_getElem (by rw [len]; exact hj)]; rfl
 have le : ∀ i j, i ≤ j → j < ks.length + 2 → (0 :: ks ++ [(L : Int)]).getD i 0 ≤ (0 :: ks ++ [(L : Int)]).getD j 0 := fun i j hij hj => by
  rcases Nat.lt_or_eq_of_le hij with q | q
  ·rw [gt i (by omega), gt j hj]
   exact List.pairwise_iff_getElem.mp pw i j (by rw [len]; omega) (by rw [len]; omega) q
  ·rw [q]; exact Int.le_refl _
 have z0 : (0 :: ks ++ [(L : Int)]).getD 0 0 = 0 := rfl
 have zL : (0 :: ks ++ [(L : Int)]).getD (ks.length + 1) 0 = (L : Int) := by
  rw [List.getD_eq_getElem?_getD, List.cons_append, List.getElem?_cons_succ, List.getElem?_append_right (Nat.le_refl _)]; simp
 have nn : ∀ j, j ≤ ks.length + 1 → 0 ≤ (0 :: ks ++ [(L : Int)]).getD j 0 := fun j hj => by have := le 0 j (by omega) (by omega); omega
 refine ⟨fun j => ((0 :: ks ++ [(L : Int)]).getD j 0).toNat, fun j hj => (by have := nn j hj; show _ = ((((0 :: ks ++ [(L : Int)]).getD j 0).toNat : Nat) : Int); omega), rfl, by show ((0 :: ks ++ [(L : Int)]).getD (ks.length + 1) 0).toNat = L; omega, fun j hj => ?_, fun j hj => ?_, fun j hj => ?_⟩
 ·have := le j (j + 1) (by omega) (by omega)
  show ((0 :: ks ++ [(L : Int)]).getD j 0).toNat ≤ ((0 :: ks ++ [(L : Int)]).getD (j + 1) 0).toNat
  omega
 ·have := le j (ks.length + 1) hj (by omega)
  show ((0 :: ks ++ [(L : Int)]).getD j 0).toNat ≤ L
  omega
 ·have h1 : (0 :: ks ++ [(L : Int)]).getD j 0 = (0 :: ks)[j]'(by simp; omega) := by
   rw [List.getD_eq_getElem?_getD, List.getElem?_append_left (by simp; omega), List.getElem?_eq_getElem (by simp; omega)]; rfl
  rw [List.getElem?_eq_getElem (by simp; omega), ← h1]
  have := nn j (by omega)
  congr 1
  show _ = ((((0 :: ks ++ [(L : Int)]).getD j 0).toNat : Nat) : Int)
  omega
theorem Zg8 {α : Type} (xs : List α) (a b : Nat) (hb : b ≤ xs.length) (ha : a ≤ b) : cutD xs (some (a : Int)) (some (b : Int)) = (xs.drop a).take (b - a) := by
 unfold cutD
 rw [ZeV, ZeV, Nat.min_eq_left hb, Nat.min_eq_left (Nat.le_trans ha hb)]
theorem ZlN (d : D) (h : Zag 3 d = true) (ht : ∃ ds, d = .tup ds) (M : Store) : Ze7 d d M = .ok (.bl false) M := by
 obtain ⟨ds, rfl⟩ := ht
 have p : ds.all (Zag DEEP) = true := by
  simp only [Zag, List.all_eq_true] at h
  rw [List.all_eq_true]
  intro x hx
  have up : ∀ (n m : Nat) (d : D), n ≤ m → Zag n d = true → Zag m d = true := fun n => by
   induction n with
   | zero =>
    intro m d _ h
    cases d with
    | tup _ => simp [Zag] at h
    | scr _ => simp [Zag] at h
    | ref _ => simp [Zag] at h
    | _ => cases m <;> rfl
   | succ n ih =>
    intro m d hm h
    cases m with
    | zero => omega
    | succ m =>
     cases d with
     | tup ds =>
      simp only [Zag, List.all_eq_true] at h ⊢
      exact fun x hx => ih m x (by omega) (h x hx)
     | scr _ => simp [Zag] at h
     | ref _ => simp [Zag] at h
     | _ => rfl
  exact up 2 DEEP x (by decide) (h x hx)
 simp only [Ze7, eqD, p, Bool.and_self, if_true, Ze9 p, Bool.not_true]
theorem ZjW (rows : List D) (ks : List Int) (p : Nat) (M : Store) (hr : 0 < rows.length) (hl : rows.length ≤ 1000) (pl : ∀ r ∈ rows, Plain r) (e : Nat → Nat) (he : ∀ j, j ≤ ks.length + 1 → (0 :: ks ++ [(rows.length : Int) - 1]).getD j 0 = (e j : Int)) (e0 : e 0 = 0) (eL : e (ks.length + 1) = rows.length - 1) (em : ∀ j, j ≤ ks.length → e j ≤ e (j + 1)) (eb : ∀ j, j ≤ ks.length + 1 → e j ≤ rows.length - 1) (hp : M[p]? = some (.lst (Zbo rows 1 (0 :: ks ++ [(rows.length : Int) - 1])))) :
  ZcL [.ref p] M = .ok (.tup rows) M := by
 have pl0 := Zix rows 1 ((rows.length : Int) - 1) ks
 obtain ⟨e', M', lp, x2, rfl, rfl⟩ := Zed (it := ⟨Zbo rows 1 (0 :: ks ++ [(rows.length : Int) - 1]), some p⟩) (g := Zb2 2)
  (body := (Zy (sIf (e2 Zay (Zaz ZaM (Za (Zb 2) (Zg))) (eC (.int 0))) (Zgz) (Zae)) (Zy (sIf (Zcs (e2 Zd5 (Zaz ZaM (Za (Zb 1) (Zg))) (eC (.int 0))) (e2 Ze7 (e2 Zj (Zb 2) (eC (.int 0))) (e2 Zj (Zb 1) (e1 Zdv (eC (.int 1)))))) (Zgz) (Zae)) (ZaA (Zcg tyL Zcp (Zb 1) (Za (eIf (e2 Zay (Zaz ZaM (Za (Zb 1) (Zg))) (eC (.int 0))) (Zb 2) (eSl (Zb 2) (Zaw (eC (.int 1))) (ZaB))) (Zg)))))))
  (P := fun j env M' => ∃ (x2 : Option D), env = [some (.ref p), some (.ref M.length), x2] ∧ M' = M ++ [.lst (rows.take (if j = 0 then 0 else e j + 1))])
  (Zbo rows 1 (0 :: ks ++ [(rows.length : Int) - 1])) 0 [some (.ref p), some (.ref M.length), none] (M ++ [.lst []]) ⟨none, rfl, by simp⟩
  (fun j env M' ⟨_, _, hm⟩ => by subst hm; simp only [locked, Zao hp, decide_true])
  (fun j dd hd env M' ⟨x2, henv, hm⟩ => by
   subst henv hm
   rw [Nat.zero_add]
   have jl : j < ks.length + 1 := by have := (List.getElem?_eq_some_iff.mp hd).1; rw [pl0] at this; exact this
   have ha := he j (Nat.le_of_lt jl)
   have eb' := he (j + 1) jl
   have la := eb j (Nat.le_of_lt jl)
   have lb := eb (j + 1) jl
   have ab := em j (Nat.le_of_lt_succ jl)
   have z0 : j = 0 → e j = 0 := fun h => by rw [h]; exact e0
   generalize hea : e j = a at ha la ab z0
   generalize heb : e (j + 1) = b at eb' lb ab
   have la' : a < rows.length := by clear ha eb' hd jl; omega
   have lb' : b + 1 ≤ rows.length := by clear ha eb' hd jl; omega
   have hdd : dd = .tup ((rows.drop a).take (b + 1 - a)) := by
    unfold Zbo at hd
    rw [List.getElem?_map, show ((0 :: ks : List Int) ++ [(rows.length : Int) - 1]).length - 1 = ks.length + 1 by simp, List.getElem?_range jl] at hd
    simp only [Option.map_some, Option.some.injEq] at hd
    rw [← hd, ha, eb', show ((b : Int) + 1) = ((b + 1 : Nat) : Int) from rfl, Zg8 rows a (b + 1) lb' (Nat.le_succ_of_le ab)]
   subst hdd
   clear ha eb' hd jl
   have lp : ((rows.drop a).take (b + 1 - a)).length = b + 1 - a := by rw [List.length_take, List.length_drop]; omega
   have p0 : ((rows.drop a).take (b + 1 - a))[0]? = rows[a]? := by rw [List.getElem?_take_of_lt (by omega), List.getElem?_drop, Nat.add_zero]
   have ra : rows[a]? = some rows[a] := by simp
   have pa := pl _ (List.getElem_mem la')
   generalize rows[a] = r at ra pa
   rw [ra] at p0
   have c1 : ¬ ((((rows.drop a).take (b + 1 - a)).length : Int) = 0) := by omega
   have dr : cutD ((rows.drop a).take (b + 1 - a)) (some 1) none = (rows.drop (a + 1)).take (b - a) := by
    rw [show (1 : Int) = ((1 : Nat) : Int) from rfl, Zd3, List.drop_take, List.drop_drop, show b + 1 - a - 1 = b - a by omega]
   have eSk : (sIf (e2 Zay (Zaz ZaM (Za (Zb 2) (Zg))) (eC (.int 0))) (Zgz) (Zae)) [some (.ref p), some (.ref M.length), some (.tup ((rows.drop a).take (b + 1 - a)))] (M ++ [.lst (rows.take (if j = 0 then 0 else a + 1))]) = .nx [some (.ref p), some (.ref M.length), some (.tup ((rows.drop a).take (b + 1 - a)))] (M ++ [.lst (rows.take (if j = 0 then 0 else a + 1))]) := Zn (by
    generalize (rows.drop a).take (b + 1 - a) = pc at c1
    simp only [e2, Zaz, Za, Zg, Zb, eC, List.getElem?_cons_zero, List.getElem?_cons_succ, R3.bind, ZaM, Zay, eqD, c1, decide_false])
   have g0 : ∀ xs : List D, (M ++ [MO.lst xs])[M.length]? = some (.lst xs) := fun xs => Za8 _ _ _
   by_cases c0 : j = 0
   ·have za := z0 c0
    subst za
    rw [if_pos c0] at eSk ⊢
    refine ⟨[some (.ref p), some (.ref M.length), some (.tup ((rows.drop 0).take (b + 1 - 0)))], _, M ++ [.lst (rows.take (b + 1))], rfl, (Ze eSk).trans ((Ze (Zn (M' := M ++ [.lst (rows.take 0)]) (Zlc (by simp)))).trans (Zc4 (d := .non) ?_)), _, rfl, by simp [heb]⟩
    have z : ([] : List D).length + (rows.take (b + 1)).length ≤ SZ := by simp; omega
    simp only [Nat.sub_zero, List.drop_zero, List.take_zero]
    have ei : (eIf (e2 Zay (Zaz ZaM (Za (Zb 1) (Zg))) (eC (.int 0))) (Zb 2) (eSl (Zb 2) (Zaw (eC (.int 1))) (ZaB))) [some (.ref p), some (.ref M.length), some (.tup (rows.take (b + 1)))] (M ++ [.lst []]) = .ok (.tup (rows.take (b + 1))) (M ++ [.lst []]) := Zmo (by simp)
    generalize (eIf (e2 Zay (Zaz ZaM (Za (Zb 1) (Zg))) (eC (.int 0))) (Zb 2) (eSl (Zb 2) (Zaw (eC (.int 1))) (ZaB))) = E at ei
    simp only [Zcg, Zb, List.getElem?_cons_succ, List.getElem?_cons_zero, R3.bind, tyL, g0, if_true, Za, Zg, ei, Zcp, if_pos z]
    simp
   ·rw [if_neg c0] at eSk ⊢
    have ls : (rows.take (a + 1)).length = a + 1 := by rw [List.length_take]; omega
    have lst : (rows.take (a + 1)).getLast? = some r := by
     rw [List.getLast?_eq_getElem?, ls, List.getElem?_take_of_lt (by omega), show a + 1 - 1 = a by omega, ra]
    have tt : rows.take (a + 1) ++ (rows.drop (a + 1)).take (b - a) = rows.take (b + 1) := by
     rw [show b + 1 = (a + 1) + (b - a) by omega]
     exact List.take_add.symm
    generalize (rows.drop a).take (b + 1 - a) = pc at *
    generalize (rows.drop (a + 1)).take (b - a) = qc at *
    generalize rows.take (a + 1) = sc at *
    have ne := ZlN r pa.2.2.1 pa.1 (M ++ [.lst sc])
    have sk : (Zcs (e2 Zd5 (Zaz ZaM (Za (Zb 1) (Zg))) (eC (.int 0))) (e2 Ze7 (e2 Zj (Zb 2) (eC (.int 0))) (e2 Zj (Zb 1) (e1 Zdv (eC (.int 1)))))) [some (.ref p), some (.ref M.length), some (.tup pc)] (M ++ [.lst sc]) = .ok (.bl false) (M ++ [.lst sc]) := by
     rw [ZeH (M1 := M ++ [.lst sc]) (by simp [ls])]
     refine ZaR (a := r) (b := r) (M1 := M ++ [.lst sc]) (M2 := M ++ [.lst sc]) (by simp [p0]) ?_ ne
     have n1 : ZaT sc (-1) = some r := by rw [ZgY]; exact lst
     simp only [e2, e1, Zb, eC, Zdv, List.getElem?_cons_succ, List.getElem?_cons_zero, R3.bind, Zj, g0, n1]
    refine ⟨[some (.ref p), some (.ref M.length), some (.tup pc)], _, M ++ [.lst (rows.take (b + 1))], rfl, (Ze eSk).trans ((Ze (Zn sk)).trans (Zc4 (d := .non) ?_)), _, rfl, by simp [heb]⟩
    have z : sc.length + qc.length ≤ SZ := by
     have := congrArg List.length tt
     rw [List.length_append, List.length_take] at this
     rw [SZ]; omega
    have ei : (eIf (e2 Zay (Zaz ZaM (Za (Zb 1) (Zg))) (eC (.int 0))) (Zb 2) (eSl (Zb 2) (Zaw (eC (.int 1))) (ZaB))) [some (.ref p), some (.ref M.length), some (.tup pc)] (M ++ [.lst sc]) = .ok (.tup qc) (M ++ [.lst sc]) := (Zmr (M1 := M ++ [.lst sc]) (by simp [ls]; omega)).trans (by simp only [eSl, Zb, Zaw, ZaB, eC, List.getElem?_cons_succ, List.getElem?_cons_zero, R3.bind, ZeA, dr])
    generalize (eIf (e2 Zay (Zaz ZaM (Za (Zb 1) (Zg))) (eC (.int 0))) (Zb 2) (eSl (Zb 2) (Zaw (eC (.int 1))) (ZaB))) = E at ei
    simp only [Zcg, Zb, List.getElem?_cons_succ, List.getElem?_cons_zero, R3.bind, tyL, g0, if_true, Za, Zg, ei, Zcp, if_pos z, tt]
    simp)
 rw [Nat.zero_add, pl0, if_neg (Nat.succ_ne_zero _), eL] at lp
 rw [List.take_of_length_le (show rows.length ≤ rows.length - 1 + 1 by omega)] at lp
 have bl : below M.length (.tup rows) = true := by
  have : ∀ l : List D, (∀ r ∈ l, Plain r) → belowL M.length l = true := fun l => by
   induction l with
   | nil => intro _; rfl
   | cons x l ih => intro h; simp only [belowL, (h x List.mem_cons_self).2.2.2 M.length, ih fun y hy => h y (List.mem_cons_of_mem _ hy), Bool.and_self]
  simp only [below, this rows pl]
 refine Rt.pure (G := [.lst rows]) (env := [some (.ref p), none, none]) ?_ bl
 refine (Ze (Zn (M' := M) ?_)).trans ((Ze (Zt (d := .ref M.length) (M' := M ++ [.lst []]) (by simp))).trans ((Ze ((Zdg (it := ⟨Zbo rows 1 (0 :: ks ++ [(rows.length : Int) - 1]), some p⟩) (M' := M ++ [.lst []]) (by simp only [ZfC, Zb, List.getElem?_cons_zero, R3.bind, Zao hp])).trans lp)).trans (ZaH (Zmu (a := .ref M.length) (M1 := M ++ [.lst rows]) rfl (by simp)))))
 have n0 : ¬ (((ks.length + 1 : Nat) : Int) = 0) := by omega
 simp only [e2, Zaz, Za, Zg, Zb, eC, List.getElem?_cons_zero, R3.bind, ZaM, hp, Zay, eqD, pl0, n0, decide_false]
theorem ZgT {env : ZaC} {M : Store} {i j n a b : Nat} {xs : List D} {d : D} {E : E3} {lo : EO3} (h1 : env[i]? = some (some (.ref n))) (hM : M[n]? = some (.lst xs)) (ha : env[j]? = some (some (.int (a : Int)))) (hE : ∀ G, E env (M ++ G) = .ok d (M ++ G)) (hlo : ∀ M', lo env M' = .ok (some (b : Int)) M') (hz : xs.length ≤ 10000) :
  e2 Zr (e2 Zr (eSl (Zb i) ZaB (Zaw (Zb j))) (Zbk (Za E Zg))) (eSl (Zb i) lo ZaB) env M = .ok (.ref (M.length + 4)) (M ++ [.lst (xs.take a), .lst [d], .lst (xs.take a ++ [d]), .lst (xs.drop b), .lst (xs.take a ++ [d] ++ xs.drop b)]) := by
 have s1 : eSl (Zb i) ZaB (Zaw (Zb j)) env M = .ok (.ref M.length) (M ++ [.lst (xs.take a)]) := by
  simp only [eSl, Zb, ZaB, Zaw, h1, ha, R3.bind, ZeA, hM, ZfK, alloc]
 have s2 : Zbk (Za E Zg) env (M ++ [.lst (xs.take a)]) = .ok (.ref (M.length + 1)) (M ++ [.lst (xs.take a), .lst [d]]) := by
  simp only [Zbk, Za, Zg, R3.bind, hE]
  simp
 have a1 : Zr (.ref M.length) (.ref (M.length + 1)) (M ++ [.lst (xs.take a), .lst [d]]) = .ok (.ref (M.length + 2)) (M ++ [.lst (xs.take a), .lst [d], .lst (xs.take a ++ [d])]) := by
  have g1 : (M ++ [MO.lst (xs.take a), .lst [d]])[M.length]? = some (.lst (xs.take a)) := Za8 _ _ _
  have g2 : (M ++ [MO.lst (xs.take a), .lst [d]])[M.length + 1]? = some (.lst [d]) := ZcG _ _ 1
  simp only [Zr, g1, g2]
  rw [if_pos (by simp; omega)]
  simp
 have s3 : eSl (Zb i) lo ZaB env (M ++ [.lst (xs.take a), .lst [d], .lst (xs.take a ++ [d])]) = .ok (.ref (M.length + 3)) (M ++ [.lst (xs.take a), .lst [d], .lst (xs.take a ++ [d]), .lst (xs.drop b)]) := by
  simp only [eSl, Zb, ZaB, h1, hlo, R3.bind, ZeA, Zao hM, Zd3, alloc]
  simp
 refine ZaR (ZaR s1 s2 a1) s3 ?_
 have g1 : (M ++ [MO.lst (xs.take a), .lst [d], .lst (xs.take a ++ [d]), .lst (xs.drop b)])[M.length + 2]? = some (.lst (xs.take a ++ [d])) := ZcG _ _ 2
 have g2 : (M ++ [MO.lst (xs.take a), .lst [d], .lst (xs.take a ++ [d]), .lst (xs.drop b)])[M.length + 3]? = some (.lst (xs.drop b)) := ZcG _ _ 3
 simp only [Zr, g1, g2]
 rw [if_pos (by simp; omega)]
 simp
theorem Zkm {fb fi fv : E3} {env : ZaC} {M M' : Store} {bs : List Int} {a : Nat} {v : Int} (hb : ∀ M, fb env M = .ok (Zi bs) M) (hi : ∀ M, fi env M = .ok (.int a) M) (hv : fv env M = .ok (.int v) M') (ha : a < bs.length) (hl : bs.length ≤ 1000) :
  (e2 Zr (e2 Zr (eSl fb (ZaB) (Zaw fi)) (Zba (Za fv (Zg)))) (eSl fb (Zaw (e2 Zr fi (eC (.int 1)))) (ZaB))) env M = .ok (Zi (bs.set a v)) M' := by
 have c1 : cutD (bs.map D.int) none (some (a : Int)) = (bs.take a).map D.int := by rw [ZfK, List.map_take]
 have c2 : cutD (bs.map D.int) (some ((a : Int) + 1)) none = (bs.drop (a + 1)).map D.int := by
  rw [show ((a : Int) + 1) = ((a + 1 : Nat) : Int) by omega, Zd3, List.map_drop]
 have s1 : eSl fb (ZaB) (Zaw fi) env M = .ok (.tup ((bs.take a).map D.int)) M := by
  simp only [eSl, ZaB, Zaw, hb, hi, R3.bind, ZeA, Zi, c1]
 have s2 : eSl fb (Zaw (e2 Zr fi (eC (.int 1)))) (ZaB) env M' = .ok (.tup ((bs.drop (a + 1)).map D.int)) M' := by
  simp only [eSl, e2, eC, Zr, ZaB, Zaw, hb, hi, R3.bind, ZeA, Zi, c2]
 have s3 : Zba (Za fv (Zg)) env M = .ok (.tup [.int v]) M' := by simp [hv]
 have a1 : Zr (.tup ((bs.take a).map D.int)) (.tup [.int v]) M' = .ok (.tup ((bs.take a).map D.int ++ [.int v])) M' := by
  simp only [Zr]; rw [if_pos (by simp; omega)]
 refine (ZaR (ZaR s1 s3 a1) s2 ?_)
 simp only [Zr]
 rw [if_pos (by simp; omega), Zi, List.set_eq_take_append_cons_drop, if_pos ha]
 simp
theorem Zgx (cs : List Int) (c : Nat) (M : Store) (hc : M[c]? = some (.lst (cs.map D.int))) (hl : cs.length ≤ 63) :
  ∃ (us : List Use) (G : Store), us.length = cs.length ∧ Zdw [.ref c] M = .ok (.ref M.length) (M ++ G) ∧ (M ++ G)[M.length]? = some (.lst (us.map Zx)) := by
 obtain ⟨e', M', lp, us, G, n, t, v, x5, x6, x7, lu, rfl, rfl⟩ := Zed (it := ⟨cs.map D.int, some c⟩) (g := Zb2 5)
  (body := (Zy (Zaf 6 (e2 ZaE (Zb 5) (eC (.int 16)))) (Zy (sIf (e2 Zay (e2 Zaq (Zb 5) (eC (.int 4))) (eC (.int 0))) (Zy (Zaf 2 (e2 Zr (e2 Zr (Zb 2) (eC (.int 1))) (e2 Zaq (Zb 6) (eC (.int 3))))) (Zaf 4 (eC (.int 0)))) (Zae)) (Zy (Zaf 3 (e2 Zr (e2 Zr (Zb 3) (eC (.int 1))) (e2 Zaq (Zb 6) (eC (.int 2))))) (Zy (Zaf 7 (e2 Zj (Zbk (Za (eC (.str [103, 101, 116])) (Za (eC (.str [115, 101, 116])) (Zg)))) (e2 Zaq (e2 ZaE (Zb 5) (eC (.int 4))) (eC (.int 2))))) (Zy (sIf (e2 Zay (Zb 7) (eC (.str [115, 101, 116]))) (Zaf 4 (Zu Zah (Za (Zb 6) (Zg)))) (Zae)) (ZaA (Zcg tyL ZaK (Zb 1) (Za (Zba (Za (Zb 2) (Za (Zb 3) (Za (Zb 7) (Za (Zb 4) (Zg)))))) (Zg))))))))))
  (P := fun j env M' => ∃ (us : List Use) (G : Store) (n t v : Int) (x5 x6 x7 : Option D), us.length = j ∧ env = [some (.ref c), some (.ref M.length), some (.int n), some (.int t), some (.int v), x5, x6, x7] ∧ M' = M ++ .lst (us.map Zx) :: G)
  (cs.map D.int) 0 [some (.ref c), some (.ref M.length), some (.int 0), some (.int 0), some (.int 0), none, none, none] (M ++ [.lst []]) ⟨[], [], 0, 0, 0, none, none, none, rfl, rfl, rfl⟩
  (fun j env M' ⟨_, _, _, _, _, _, _, _, _, _, hm⟩ => by subst hm; simp only [locked, Zao hc, decide_true])
  (fun j dd hd env M' ⟨us, G, n, t, v, x5, x6, x7, lu, he, hm⟩ => by
   subst he hm
   rw [List.getElem?_map] at hd
   cases hj : cs[j]? with
   | none => rw [hj] at hd; cases hd
   | some cell =>
    rw [hj] at hd
    cases hd
    have jl := (List.getElem?_eq_some_iff.mp hj).1
    generalize hMM : M ++ MO.lst (us.map Zx) :: G = MM
    have g1 : MM[M.length]? = some (.lst (us.map Zx)) := by rw [← hMM]; exact Za8 _ _ _
    have s6 : (e2 ZaE (Zb 5) (eC (.int 16))) [some (.ref c), some (.ref M.length), some (.int n), some (.int t), some (.int v), some (.int cell), x6, x7] MM = .ok (.int (cell / 16)) MM := by simp
    obtain ⟨n2, v2, h2⟩ : ∃ n2 v2 : Int, (sIf (e2 Zay (e2 Zaq (Zb 5) (eC (.int 4))) (eC (.int 0))) (Zy (Zaf 2 (e2 Zr (e2 Zr (Zb 2) (eC (.int 1))) (e2 Zaq (Zb 6) (eC (.int 3))))) (Zaf 4 (eC (.int 0)))) (Zae)) [some (.ref c), some (.ref M.length), some (.int n), some (.int t), some (.int v), some (.int cell), some (.int (cell / 16)), x7] MM = .nx [some (.ref c), some (.ref M.length), some (.int n2), some (.int t), some (.int v2), some (.int cell), some (.int (cell / 16)), x7] MM := by
     by_cases z : cell % 4 = 0
     ·exact ⟨n + 1 + cell / 16 % 3, 0, (ZaQ (M' := MM) (by simp [z])).trans ((Ze (Zt (d := .int (n + 1 + cell / 16 % 3)) (M' := MM) (by simp))).trans (Zt (d := .int 0) (M' := MM) rfl))⟩
     ·exact ⟨n, v, Zn (M' := MM) (by simp [z])⟩
    obtain ⟨t2, ht2⟩ : ∃ t2 : Int, t2 = t + 1 + cell / 16 % 2 := ⟨_, rfl⟩
    have s3 : (e2 Zr (e2 Zr (Zb 3) (eC (.int 1))) (e2 Zaq (Zb 6) (eC (.int 2)))) [some (.ref c), some (.ref M.length), some (.int n2), some (.int t), some (.int v2), some (.int cell), some (.int (cell / 16)), x7] MM = .ok (.int t2) MM := by simp [ht2]
    obtain ⟨a, ha, la⟩ := Zch (cell / 4) 2 (by omega)
    have ha' : cell / 4 % 2 = (a : Int) := ha
    obtain ⟨w, hw⟩ : ∃ w, ([.str [103, 101, 116], .str [115, 101, 116]] : List D)[a]? = some (.str w) := by
     have : a = 0 ∨ a = 1 := by omega
     rcases this with rfl | rfl
     ·exact ⟨_, rfl⟩
     ·exact ⟨_, rfl⟩
    generalize hws : ([.str [103, 101, 116], .str [115, 101, 116]] : List D) = ws at hw
    have s7 : (e2 Zj (Zbk (Za (eC (.str [103, 101, 116])) (Za (eC (.str [115, 101, 116])) (Zg)))) (e2 Zaq (e2 ZaE (Zb 5) (eC (.int 4))) (eC (.int 2)))) [some (.ref c), some (.ref M.length), some (.int n2), some (.int t2), some (.int v2), some (.int cell), some (.int (cell / 16)), x7] MM = .ok (.str w) (MM ++ [.lst ws]) := by
     refine ZaR (a := .ref MM.length) (M1 := MM ++ [.lst ws]) (by rw [← hws]; simp) (b := .int (a : Int)) (M2 := MM ++ [.lst ws]) (by simp [ha']) ?_
     simp only [Zj, Za8, ZaW, hw]
    obtain ⟨v3, h4⟩ : ∃ v3 : Int, (sIf (e2 Zay (Zb 7) (eC (.str [115, 101, 116]))) (Zaf 4 (Zu Zah (Za (Zb 6) (Zg)))) (Zae)) [some (.ref c), some (.ref M.length), some (.int n2), some (.int t2), some (.int v2), some (.int cell), some (.int (cell / 16)), some (.str w)] (MM ++ [.lst ws]) = .nx [some (.ref c), some (.ref M.length), some (.int n2), some (.int t2), some (.int v3), some (.int cell), some (.int (cell / 16)), some (.str w)] (MM ++ [.lst ws]) := by
     obtain ⟨y, hy⟩ := ZfT (cell / 16)
     have cc : (e2 Zay (Zb 7) (eC (.str [115, 101, 116]))) [some (.ref c), some (.ref M.length), some (.int n2), some (.int t2), some (.int v2), some (.int cell), some (.int (cell / 16)), some (.str w)] (MM ++ [.lst ws]) = .ok (.bl (decide (w = [115, 101, 116]))) (MM ++ [.lst ws]) := rfl
     by_cases z : w = [115, 101, 116]
     ·exact ⟨y, (ZaQ (cc.trans (by rw [decide_eq_true z]))).trans (Zt (ZcV rfl (hy _)))⟩
     ·exact ⟨v2, Zn (cc.trans (by rw [decide_eq_false z]))⟩
    have g2 := Zao g1 [.lst ws]
    have ar : (Zba (Za (Zb 2) (Za (Zb 3) (Za (Zb 7) (Za (Zb 4) (Zg)))))) [some (.ref c), some (.ref M.length), some (.int n2), some (.int t2), some (.int v3), some (.int cell), some (.int (cell / 16)), some (.str w)] (MM ++ [.lst ws]) = .ok (Zx ⟨n2, t2, w, v3⟩) (MM ++ [.lst ws]) := by simp [Zx]
    have ap := Zc4 (Zeg (o := Zb 1) (n := M.length) rfl g2 ar g2 (by rw [List.length_map]; omega))
    refine ⟨_, _, _, rfl, (Ze (Zt s6)).trans ((Ze h2).trans ((Ze (Zt s3)).trans ((Ze (Zt s7)).trans ((Ze h4).trans ap)))), us ++ [⟨n2, t2, w, v3⟩], G ++ [.lst ws], n2, t2, v3, _, _, _, by simp [lu], rfl, ?_⟩
    rw [← hMM]
    simp)
 rw [List.length_map, Nat.zero_add] at lu
 refine ⟨us, .lst (us.map Zx) :: G, lu, ?_, Za8 _ _ _⟩
 refine (Zdo (env := [some (.ref c), none, none, none, none, none, none, none]) ((Ze (Zt (d := .ref M.length) (M' := M ++ [.lst []]) (by simp))).trans ((Ze (env' := [some (.ref c), some (.ref M.length), some (.int 0), some (.int 0), some (.int 0), none, none, none]) (M' := M ++ [.lst []]) (by simp [Zie])).trans ((Ze ((Zdg (it := ⟨cs.map D.int, some c⟩) (M' := M ++ [.lst []]) (by simp only [ZfC, Zb, List.getElem?_cons_zero, R3.bind, Zao hc])).trans lp)).trans (ZaH rfl))))).trans ?_
 simp [ZcM, below]
theorem Zjf (rows : List D) (n : Nat) (cell way : Int) (a : Nat) (r : D) (M : Store) (hM : M[n]? = some (.lst rows)) (pu : rows.all (Zag DEEP) = true) (ha : cell % (rows.length : Int) = (a : Int)) (hr : rows[a]? = some r) {k : S3} {o : O3} (h : k [some (.ref n), some (.int cell), some (.int way), some (.int (a : Int)), some r, none] (M ++ [.lst []]) = o) :
  Zy (sIf (e2 Zay (Zb 0) (Zbk (Zg))) (Zal (Zb 0)) (Zae)) (Zy (Zaf 3 (e2 Zaq (Zb 1) (Zaz ZaM (Za (Zb 0) (Zg))))) (Zy (Zaf 4 (e2 Zj (Zb 0) (Zb 3))) k)) [some (.ref n), some (.int cell), some (.int way), none, none, none] M = o := by
 have h0 : 0 < rows.length := by have := (List.getElem?_eq_some_iff.mp hr).1; omega
 have hM2 := Zao hM [.lst []]
 have c1 : (e2 Zay (Zb 0) (Zbk (Zg))) [some (.ref n), some (.int cell), some (.int way), none, none, none] M = .ok (.bl false) (M ++ [.lst []]) := by
  refine ZaR (a := .ref n) (b := .ref M.length) (M1 := M) (M2 := M ++ [.lst []]) rfl (by simp) ?_
  have e : ZbW rows [] = false := by
   cases rows with
   | nil => simp at h0
   | cons _ _ => rfl
  simp only [Zay, eqD, hM2, Za8, pu, List.all_nil, Bool.and_self, if_true, e]
 have p : (0 : Int) < (rows.length : Int) := by omega
 refine (Ze (Zn c1)).trans ((Ze (Zt (d := .int (a : Int)) (M' := M ++ [.lst []]) ?_)).trans ((Ze (Zt (d := r) (M' := M ++ [.lst []]) ?_)).trans h))
 ·simp only [e2, Zb, Zaz, Za, Zg, List.getElem?_cons_zero, List.getElem?_cons_succ, R3.bind, ZaM, hM2, Zaq, if_pos p, ha]
 ·simp only [e2, Zb, List.getElem?_cons_zero, List.getElem?_cons_succ, R3.bind, Zj, hM2, ZaW, hr]
theorem Zjk (rows : List D) (n : Nat) (x1 x2 x5 : Option D) (a : Nat) (r : D) (M : Store) (hM : M[n]? = some (.lst rows)) (la : a < rows.length) (hz : rows.length ≤ 1000) :
  ∃ G, (e2 Zr (e2 Zr (eSl (Zb 0) (ZaB) (Zaw (Zb 3))) (Zbk (Za (Zb 4) (Zg)))) (eSl (Zb 0) (Zaw (e2 Zr (Zb 3) (eC (.int 1)))) (ZaB))) [some (.ref n), x1, x2, some (.int (a : Int)), some r, x5] M = .ok (.ref (M.length + 4)) (M ++ G) ∧ (M ++ G)[M.length + 4]? = some (.lst (rows.set a r)) := by
 have sp := ZgT (env := [some (.ref n), x1, x2, some (.int (a : Int)), some r, x5]) (M := M) (i := 0) (j := 3) (n := n) (a := a) (b := a + 1) (xs := rows) (d := r) (E := Zb 4) (lo := Zaw (e2 Zr (Zb 3) (eC (.int 1)))) rfl hM rfl (fun _ => rfl) (fun _ => rfl) (by omega)
 refine ⟨_, sp, ?_⟩
 rw [ZcG]
 simp only [List.getElem?_cons_succ, List.getElem?_cons_zero]
 rw [List.set_eq_take_append_cons_drop, if_pos la, List.append_assoc]
 rfl
theorem Zn7 {f g : E3} {env : ZaC} {M M1 M2 : Store} {a b : D} (h1 : f env M = .ok a M1) (h2 : g env M1 = .ok b M2) : Zba (Za f (Za g Zg)) env M = .ok (.tup [a, b]) M2 := by
 simp only [Zba, Za, Zg, h1, h2, R3.bind]
 simp
theorem ZgJ (ts : List Stp) : (ts.map Zbq).all (Zag DEEP) = true := by
 simp only [List.all_map, List.all_eq_true]
 intro s _
 show Zag 60 (Za1 s.1 s.2) = true
 simp [Za1, Zag, ZdJ, Zi]
theorem ZgQ (us : List Use) : (us.map Zx).all (Zag DEEP) = true := by
 simp only [List.all_map, List.all_eq_true]
 intro s _
 show Zag 60 (Zx s) = true
 simp [Zx, Zag, ZdJ, Zkx]
theorem Zg2 (ts : List Stp) (n : Nat) (cell : Int) (M : Store) (hM : M[n]? = some (.lst (ts.map Zbq))) (h8 : ∀ s ∈ ts, s.2.length = 8) (h0 : 0 < ts.length) (hl : ts.length ≤ 61) :
  ∃ (ts' : List Stp) (m : Nat) (G : Store), ZaN [.ref n, .int cell, .int 0] M = .ok (.ref m) (M ++ G) ∧ M.length ≤ m ∧ (M ++ G)[m]? = some (.lst (ts'.map Zbq)) ∧ (∀ s ∈ ts', s.2.length = 8) ∧ 0 < ts'.length ∧ ts'.length ≤ 61 := by
 obtain ⟨a, ha, la⟩ := Zch cell ts.length h0
 obtain ⟨b, hb, lb⟩ := Zch (cell / 61) 8 (by omega)
 have hb' : cell / 61 % 8 = (b : Int) := hb
 have hs8 := h8 _ (List.getElem_mem la)
 have hr : (ts.map Zbq)[a]? = some (Zbq ts[a]) := by rw [List.getElem?_map, List.getElem?_eq_getElem la]; rfl
 generalize ts[a] = s at hs8 hr
 obtain ⟨x, hx, gx⟩ := Zb3 hs8 lb
 have hM2 := Zao hM [.lst []]
 obtain ⟨G, he, hg⟩ := Zjk (ts.map Zbq) n (some (.int cell)) (some (.int 0)) (some (.int (b : Int))) a (Zbq (s.1 + cell / 500 % 2, s.2.set b (x + 1))) (M ++ [.lst []]) hM2 (by rw [List.length_map]; exact la) (by rw [List.length_map]; omega)
 have up : (e2 Zr (e2 Zr (eSl (e2 Zj (Zb 4) (eC (.int 1))) (ZaB) (Zaw (Zb 5))) (Zba (Za (e2 Zr (e2 Zj (e2 Zj (Zb 4) (eC (.int 1))) (Zb 5)) (eC (.int 1))) (Zg)))) (eSl (e2 Zj (Zb 4) (eC (.int 1))) (Zaw (e2 Zr (Zb 5) (eC (.int 1)))) (ZaB))) [some (.ref n), some (.int cell), some (.int 0), some (.int (a : Int)), some (Zbq s), some (.int (b : Int))] (M ++ [.lst []]) = .ok (Zi (s.2.set b (x + 1))) (M ++ [.lst []]) := by
  refine Zkm (bs := s.2) (a := b) (v := x + 1) (fun M => by simp [Zbq, Za1]) (fun M => rfl) ?_ (by omega) (by omega)
  simp [Zbq, Za1, Zi, gx, -ZaW]
 have s4 : (Zba (Za (e2 Zr (e2 Zj (Zb 4) (eC (.int 0))) (e2 Zaq (e2 ZaE (Zb 1) (eC (.int 500))) (eC (.int 2)))) (Za (e2 Zr (e2 Zr (eSl (e2 Zj (Zb 4) (eC (.int 1))) (ZaB) (Zaw (Zb 5))) (Zba (Za (e2 Zr (e2 Zj (e2 Zj (Zb 4) (eC (.int 1))) (Zb 5)) (eC (.int 1))) (Zg)))) (eSl (e2 Zj (Zb 4) (eC (.int 1))) (Zaw (e2 Zr (Zb 5) (eC (.int 1)))) (ZaB))) (Zg)))) [some (.ref n), some (.int cell), some (.int 0), some (.int (a : Int)), some (Zbq s), some (.int (b : Int))] (M ++ [.lst []]) = .ok (Zbq (s.1 + cell / 500 % 2, s.2.set b (x + 1))) (M ++ [.lst []]) := by
  exact Zn7 (by simp [Zbq, Za1]) up
 refine ⟨ts.set a (s.1 + cell / 500 % 2, s.2.set b (x + 1)), (M ++ [MO.lst []]).length + 4, .lst [] :: G, (Zdo (env := [some (.ref n), some (.int cell), some (.int 0), none, none, none]) (Zjf (ts.map Zbq) n cell 0 a (Zbq s) M hM (ZgJ ts) (by rw [List.length_map]; exact ha) hr ((Ze ((ZaQ (M' := M ++ [.lst []]) (by simp)).trans ((Ze (Zt (d := .int (b : Int)) (M' := M ++ [.lst []]) (by simp [hb']))).trans (Zt s4)))).trans (ZaH he)))).trans ?_, by simp; omega, ?_, fun y hy => ?_, by simpa using h0, by simpa using hl⟩
 ·have : ¬ (M.length + 1 + 4 < M.length) := by omega
  simp [ZcM, below, this]
 ·rw [List.map_set]
  rw [List.append_cons]
  exact hg
 ·rcases List.mem_or_eq_of_mem_set hy with hy | rfl
  ·exact h8 y hy
  ·simp [hs8]
theorem ZhY (us : List Use) (n : Nat) (cell : Int) (M : Store) (hM : M[n]? = some (.lst (us.map Zx))) (hl : us.length ≤ 63) :
  ∃ (us' : List Use) (m : Nat) (G : Store), ZaN [.ref n, .int cell, .int 1] M = .ok (.ref m) (M ++ G) ∧ (m = n ∨ M.length ≤ m) ∧ (M ++ G)[m]? = some (.lst (us'.map Zx)) ∧ us'.length ≤ 63 := by
 have hM2 := Zao hM [.lst []]
 have hnl := (List.getElem?_eq_some_iff.mp hM).1
 by_cases h0 : us = []
 ·subst h0
  refine ⟨[], n, [], ?_, .inl rfl, by rw [List.append_nil]; exact hM, by simp⟩
  rw [List.append_nil]
  refine (Zdo (env := [some (.ref n), some (.int cell), some (.int 1), none, none, none]) (d := .ref n) (M' := M ++ [.lst []]) (Zce ((ZaQ (M' := M ++ [.lst []]) ?_).trans (ZaH rfl)))).trans ?_
  ·refine ZaR (a := .ref n) (b := .ref M.length) (M1 := M) (M2 := M ++ [.lst []]) rfl (by simp) ?_
   simp only [Zay, eqD, hM2, Za8]
   rfl
  ·simp [ZcM, below, hnl]
 ·have hp : 0 < us.length := List.length_pos_iff.mpr h0
  obtain ⟨a, ha, la⟩ := Zch cell us.length hp
  have hr : (us.map Zx)[a]? = some (Zx us[a]) := by rw [List.getElem?_map, List.getElem?_eq_getElem la]; rfl
  generalize us[a] = u at hr
  obtain ⟨G, he, hg⟩ := Zjk (us.map Zx) n (some (.int cell)) (some (.int 1)) none a (Zx ⟨u.num, u.time - cell / 61 % 3, u.word, u.val + 1 + cell / 200 % 2⟩) (M ++ [.lst []]) hM2 (by rw [List.length_map]; exact la) (by rw [List.length_map]; omega)
  refine ⟨us.set a ⟨u.num, u.time - cell / 61 % 3, u.word, u.val + 1 + cell / 200 % 2⟩, (M ++ [MO.lst []]).length + 4, .lst [] :: G, (Zdo (env := [some (.ref n), some (.int cell), some (.int 1), none, none, none]) (Zjf (us.map Zx) n cell 1 a (Zx u) M hM (ZgQ us) (by rw [List.length_map]; exact ha) hr ((Ze ((ZcC (M' := M ++ [.lst []]) (by simp)).trans (Zt (d := Zx ⟨u.num, u.time - cell / 61 % 3, u.word, u.val + 1 + cell / 200 % 2⟩) (M' := M ++ [.lst []]) (by simp [Zx])))).trans (ZaH he)))).trans ?_, .inr (by simp; omega), ?_, by simpa using hl⟩
  ·have : ¬ (M.length + 1 + 4 < M.length) := by omega
   simp [ZcM, below, this]
  ·rw [List.map_set]
   rw [List.append_cons]
   exact hg
theorem ZiA {p q : Nat → Bool} (n : Nat) (h : ∀ k, k < n → p k = q k) : (List.range n).find? p = (List.range n).find? q := by
 induction n with
 | zero => rfl
 | succ n ih =>
  rw [List.range_succ, List.find?_append, List.find?_append, ih fun k hk => h k (by omega)]
  congr 1
  simp [h n (by omega)]
theorem find_none {q : Nat → Bool} {n : Nat} (h : (List.range n).find? q = none) : ∀ k, k < n → q k = false := fun k hk => by
 have := List.find?_eq_none.mp h k (List.mem_range.mpr hk)
 simpa using this
theorem find_some {q : Nat → Bool} {n f : Nat} (h : (List.range n).find? q = some f) : q f = true ∧ f < n ∧ ∀ k, k < f → q k = false := by
 have h1 := List.find?_some h
 have h2 := List.mem_range.mp (List.mem_of_find?_eq_some h)
 refine ⟨h1, h2, fun k hk => ?_⟩
 cases hq : q k with
 | false => rfl
 | true =>
  have e : List.range n = List.range f ++ (List.range (n - f)).map (f + ·) := by
   rw [← List.range_add, show f + (n - f) = n by omega]
  rw [e, List.find?_append] at h
  cases h3 : (List.range f).find? q with
  | none => have := find_none h3 k hk; rw [this] at hq; cases hq
  | some g =>
   rw [h3] at h
   simp at h
   have := List.mem_range.mp (List.mem_of_find?_eq_some h3)
   omega
theorem Zlt {q : Nat → Bool} {n f : Nat} (h1 : q f = true) (h2 : f < n) (h3 : ∀ k, k < f → q k = false) : (List.range n).find? q = some f := by
 cases h : (List.range n).find? q with
 | none => have := find_none h f h2; rw [this] at h1; cases h1
 | some g =>
  obtain ⟨a, b, c⟩ := find_some h
  have : ¬ f < g := fun z => by have := c f z; rw [this] at h1; cases h1
  have : ¬ g < f := fun z => by have := h3 g z; rw [this] at a; cases a
  congr 1; omega
noncomputable def Zbs (q : Nat → Bool) (e : Nat → Nat) (j : Nat) : Option Nat := (List.range (e (j + 1) - e j)).find? fun k => q (e j + k)
theorem Ziy (q : Nat → Bool) (e : Nat → Nat) (m L : Nat) (h0 : e 0 = 0) (hL : e m = L) (hm : ∀ j, j < m → e j ≤ e (j + 1)) :
  (∀ j f, j < m → Zbs q e j = some f → (∀ i, i < j → Zbs q e i = none) → (List.range L).find? q = some (e j + f)) ∧ ((∀ i, i < m → Zbs q e i = none) → (List.range L).find? q = none) := by
 have clean : ∀ j, j ≤ m → (∀ i, i < j → Zbs q e i = none) → ∀ k, k < e j → q k = false := fun j => by
  induction j with
  | zero => intro _ _ k hk; omega
  | succ j ih =>
   intro hj hn k hk
   by_cases c : k < e j
   ·exact ih (by omega) (fun i hi => hn i (by omega)) k c
   ·have := find_none (hn j (by omega)) (k - e j) (by omega)
    rw [show e j + (k - e j) = k by omega] at this
    exact this
 have mono : ∀ i j, i ≤ j → j ≤ m → e i ≤ e j := fun i j => by
  induction j with
  | zero => intro h _; rw [show i = 0 by omega]; exact Nat.le_refl _
  | succ j ih =>
   intro h hj
   rcases Nat.lt_or_eq_of_le h with q | q
   ·exact Nat.le_trans (ih (by omega) (by omega)) (hm j (by omega))
   ·rw [q]; exact Nat.le_refl _
 refine ⟨fun j f hj hf hn => ?_, fun hn => ?_⟩
 ·obtain ⟨a, b, c⟩ := find_some hf
  have := mono (j + 1) m (by omega) (Nat.le_refl _)
  refine Zlt a (by omega) fun k hk => ?_
  by_cases ck : k < e j
  ·exact clean j (by omega) hn k ck
  ·have := c (k - e j) (by omega)
   rw [show e j + (k - e j) = k by omega] at this
   exact this
 ·have := clean m (Nat.le_refl _) hn
  rw [hL] at this
  exact List.find?_eq_none.mpr fun k hk => by rw [this k (List.mem_range.mp hk)]; simp
theorem ZfP (w : Option Nat) (ps : List (Option Nat)) (begins : List Int) (p b : Nat) (M : Store) (hp : M[p]? = some (.lst (ps.map ZaF))) (hb : M[b]? = some (.lst (begins.map D.int)))
  (H : ∀ (j : Nat) (f : Nat), ps[j]? = some (some f) → (∀ i, i < j → ps[i]? = some none) → ∃ (bg : Int) (w' : Nat), begins[j]? = some bg ∧ w = some w' ∧ (w' : Int) = bg + f) : ∀ (m j : Nat) (x3 : Option D), j + m = ps.length → (∀ i, i < j → ps[i]? = some none) →
  (ZbR ⟨Zcl 0 ps.length, none⟩ (Zb2 3) (sIf (e2 Zbm (e2 Zj (Zb 1) (Zb 3)) (eC .non)) (Zal (Zcs (e2 Zbm (Zb 0) (eC .non)) (e2 Zay (Zb 0) (e2 Zr (e2 Zj (Zb 2) (Zb 3)) (e2 Zj (Zb 1) (Zb 3)))))) (Zae)) (Zcl (j : Int) m) [some (ZaF w), some (.ref p), some (.ref b), x3] M = .rt (.bl true) M) ∨
  (∃ y3, ZbR ⟨Zcl 0 ps.length, none⟩ (Zb2 3) (sIf (e2 Zbm (e2 Zj (Zb 1) (Zb 3)) (eC .non)) (Zal (Zcs (e2 Zbm (Zb 0) (eC .non)) (e2 Zay (Zb 0) (e2 Zr (e2 Zj (Zb 2) (Zb 3)) (e2 Zj (Zb 1) (Zb 3)))))) (Zae)) (Zcl (j : Int) m) [some (ZaF w), some (.ref p), some (.ref b), x3] M = .nx [some (ZaF w), some (.ref p), some (.ref b), y3] M ∧ ∀ i, i < ps.length → ps[i]? = some none)
 | 0, j, x3, hj, hn => .inr ⟨x3, by simp [Zcl, ZbR, locked], fun i hi => hn i (by omega)⟩
 | m + 1, j, x3, hj, hn => by
  have hl : j < ps.length := by omega
  have hpj : ps[j]? = some ps[j] := by simp [hl]
  generalize ps[j] = o at hpj
  have gp : (e2 Zj (Zb 1) (Zb 3)) [some (ZaF w), some (.ref p), some (.ref b), some (.int (j : Int))] M = .ok (ZaF o) M := by
   simp only [e2, Zb, List.getElem?_cons_zero, List.getElem?_cons_succ, R3.bind, Zj, hp, ZaW, List.getElem?_map, hpj, Option.map_some]
  rw [ZgH, ZbR, if_pos (by simp [locked])]
  simp only [Zb2, List.set_cons_succ, List.set_cons_zero]
  cases o with
  | none =>
   have sk := Zn (c := e2 Zbm (e2 Zj (Zb 1) (Zb 3)) (eC .non)) (f := Zal (Zcs (e2 Zbm (Zb 0) (eC .non)) (e2 Zay (Zb 0) (e2 Zr (e2 Zj (Zb 2) (Zb 3)) (e2 Zj (Zb 1) (Zb 3)))))) (ZaR gp rfl (d := .bl false) (M3 := M) (by simp [ZaF]))
   rw [sk]
   have := ZfP w ps begins p b M hp hb H m (j + 1) (some (.int (j : Int))) (by omega) fun i hi => by
    by_cases c : i = j
    ·rw [c]; exact hpj
    ·exact hn i (by omega)
   rw [show ((j + 1 : Nat) : Int) = (j : Int) + 1 by omega] at this
   exact this
  | some f =>
   obtain ⟨bg, w', hbg, rfl, hw⟩ := H j f hpj hn
   have gb : (e2 Zj (Zb 2) (Zb 3)) [some (ZaF (some w')), some (.ref p), some (.ref b), some (.int (j : Int))] M = .ok (.int bg) M := by
    simp only [e2, Zb, List.getElem?_cons_zero, List.getElem?_cons_succ, R3.bind, Zj, hb, ZaW, List.getElem?_map, hbg, Option.map_some]
   left
   have tr := ZaQ (c := e2 Zbm (e2 Zj (Zb 1) (Zb 3)) (eC .non)) (f := Zal (Zcs (e2 Zbm (Zb 0) (eC .non)) (e2 Zay (Zb 0) (e2 Zr (e2 Zj (Zb 2) (Zb 3)) (e2 Zj (Zb 1) (Zb 3)))))) (g := Zae) (ZaR gp rfl (d := .bl true) (M3 := M) (by simp [ZaF]))
   rw [tr, ZaH (d := .bl true) (M' := M)]
   refine (ZeH (M1 := M) (by simp [ZaF])).trans (ZaR (a := .int (w' : Int)) rfl (ZaR gb gp rfl) ?_)
   simp [hw]
theorem Zle (w : Option Nat) (ps : List (Option Nat)) (begins : List Int) (p b : Nat) (M : Store) (hp : M[p]? = some (.lst (ps.map ZaF))) (hb : M[b]? = some (.lst (begins.map D.int))) (hz : ps.length ≤ 100000)
  (H : ∀ (j : Nat) (f : Nat), ps[j]? = some (some f) → (∀ i, i < j → ps[i]? = some none) → ∃ (bg : Int) (w' : Nat), begins[j]? = some bg ∧ w = some w' ∧ (w' : Int) = bg + f) (H0 : (∀ i, i < ps.length → ps[i]? = some none) → w = none) : ZbI [ZaF w, .ref p, .ref b] M = .ok (.bl true) M := by
 have bd : (ps.length : Int) ≤ 1000000 ∧ -1000000 ≤ (ps.length : Int) := by omega
 have ir : ZbM (Zaz ZaM (Za (Zb 1) (Zg))) [some (ZaF w), some (.ref p), some (.ref b), none] M = .ok ⟨Zcl 0 ps.length, none⟩ M := by simp [hp, bd]
 refine Rt.pure (G := []) (env := [some (ZaF w), some (.ref p), some (.ref b), none]) ?_ rfl
 rw [List.append_nil]
 rcases ZfP w ps begins p b M hp hb H ps.length 0 none (by omega) (fun i hi => by omega) with h | ⟨y3, h, hn⟩
 ·exact Zce ((Zdg ir).trans h)
 ·have := H0 hn
  subst this
  exact (Ze ((Zdg ir).trans h)).trans (ZaH (by simp [ZaF]))
theorem Zfm (q : Nat → Bool) (e : Nat → Nat) (m L : Nat) (ks : List Int) (h0 : e 0 = 0) (hL : e m = L) (hm : ∀ j, j < m → e j ≤ e (j + 1)) (hk : ∀ j, j < m → (0 :: ks)[j]? = some ((e j : Nat) : Int)) (p b : Nat) (M : Store) (hp : M[p]? = some (.lst (((List.range m).map (Zbs q e)).map ZaF))) (hb : M[b]? = some (.lst ((0 :: ks).map D.int))) (hz : m ≤ 100000) :
  ZbI [ZaF ((List.range L).find? q), .ref p, .ref b] M = .ok (.bl true) M := by
 obtain ⟨t1, t2⟩ := Ziy q e m L h0 hL hm
 have gp : ∀ i, i < m → ((List.range m).map (Zbs q e))[i]? = some (Zbs q e i) := fun i hi => by rw [List.getElem?_map, List.getElem?_range hi]; rfl
 refine Zle _ _ _ p b M hp hb (by simpa using hz) (fun j f hf hn => ?_) fun hn => ?_
 ·have hj : j < m := by have := (List.getElem?_eq_some_iff.mp hf).1; simpa using this
  rw [gp j hj] at hf
  refine ⟨((e j : Nat) : Int), e j + f, hk j hj, t1 j f hj (Option.some.inj hf) fun i hi => ?_, by omega⟩
  have := hn i hi
  rw [gp i (by omega)] at this
  exact Option.some.inj this
 ·refine t2 fun i hi => ?_
  have := hn i (by simpa using hi)
  rw [gp i hi] at this
  exact Option.some.inj this
theorem Zd8 (roll : Zdl) (R : Zdp roll) (ts : List Stp) (h8 : ∀ s ∈ ts, s.2.length = 8) (M : Store) (hz : ts.length ≤ 5000) : ZbU [Zw roll, Zdq ts] M = .ok (ZaF (Zfe roll ts)) M :=
 Rt.pure (G := []) (env := [some (Zw roll), some (Zdq ts)]) (by rw [List.append_nil]; exact ZaH (ZcZ rfl rfl (Zep roll R ts h8 M hz))) (ZeM _ _)
theorem Zg6 (roll : Zdl) (ts : List Stp) (a b : Nat) (hab : a ≤ b) (hb : b < ts.length) : Zfe roll ((ts.drop a).take (b + 1 - a)) = (List.range (b - a)).find? fun k => !Zc2 roll ts (a + k) := by
 have l : ((ts.drop a).take (b + 1 - a)).length - 1 = b - a := by rw [List.length_take, List.length_drop]; omega
 unfold Zfe
 rw [l]
 refine ZiA _ fun k hk => ?_
 unfold Zc2
 rw [List.getElem?_take_of_lt (by omega), List.getElem?_take_of_lt (by omega), List.getElem?_drop, List.getElem?_drop, show a + (k + 1) = a + k + 1 by omega]
theorem ZjT (s : Stp) (h : s.2.length = 8) : Plain (Zbq s) := by
 refine ⟨⟨_, rfl⟩, ?_, ?_, fun n => ?_⟩
 ·show Zg3 3 (.tup [.int s.1, Zi s.2]) = true
  simp [Zg3, Zi, h]
 ·show Zag 3 (.tup [.int s.1, Zi s.2]) = true
  simp [Zag, Zi, ZdJ]
 ·show below n (Za1 s.1 s.2) = true
  exact ZjS n _ _
theorem Zjc (ks : List Int) (n i : Nat) (env : ZaC) (M : Store) (hi : env[i]? = some (some (.ref n))) (hn : M[n]? = some (.lst (ks.map D.int))) (hz : ks.length ≤ 5000) : e2 Zr (Zbk (Za (eC (.int 0)) (Zg))) (Zb i) env M = .ok (.ref (M.length + 1)) (M ++ [.lst [.int 0], .lst ((0 :: ks).map D.int)]) := by
 have z1 : ([D.int 0].length + (ks.map D.int).length ≤ SZ) := by simp; omega
 refine ZaR (a := .ref M.length) (b := .ref n) (M1 := M ++ [.lst [.int 0]]) (M2 := M ++ [.lst [.int 0]]) (by simp) (by simp only [Zb, hi]) ?_
 simp only [Zr, Za8, Zao hn, if_pos z1, alloc]
 simp
theorem Zhk (roll : Zdl) (R : Zdp roll) (ts : List Stp) (h8 : ∀ s ∈ ts, s.2.length = 8) (h0 : 0 < ts.length) (hl : ts.length ≤ 61) (ks : List Int) (n : Nat) (M : Store) (hn : M[n]? = some (.lst (ks.map D.int))) (pk : ks.Pairwise (· < ·)) (bk : ∀ k ∈ ks, 1 ≤ k ∧ k < (ts.length : Int) - 1) (lk : ks.length ≤ 5000) :
  ZaX [Zw roll, Zdq ts, .ref n] M = .ok (.bl true) M := by
 have lr : (ts.map Zbq).length = ts.length := List.length_map ..
 obtain ⟨G, hc, hg⟩ := Zhi (ts.map Zbq) ks n M hn pk (fun k hk => by rw [lr]; exact bk k hk) lk
 rw [lr] at hg
 obtain ⟨e, he, e0, eL, em, eb, ek⟩ := Zh5 ks (ts.length - 1) (pk.imp fun h => by omega) (fun k hk => by have := bk k hk; omega)
 rw [show ((ts.length - 1 : Nat) : Int) = (ts.length : Int) - 1 by omega] at he
 have pe : Zbo (ts.map Zbq) 1 (0 :: ks ++ [(ts.length : Int) - 1]) = (List.range (ks.length + 1)).map fun k => Zdq ((ts.drop (e k)).take (e (k + 1) + 1 - e k)) := by
  unfold Zbo
  rw [show ((0 :: ks : List Int) ++ [(ts.length : Int) - 1]).length - 1 = ks.length + 1 by simp]
  refine List.map_congr_left fun k hk => ?_
  have lk' : k < ks.length + 1 := List.mem_range.mp hk
  have b1 := eb (k + 1) (by omega)
  rw [he k (by omega), he (k + 1) (by omega), show ((e (k + 1) : Nat) : Int) + 1 = ((e (k + 1) + 1 : Nat) : Int) by omega, Zg8 _ _ _ (by rw [lr]; omega) (by have := em k (by omega); omega), ← List.map_drop, ← List.map_take]
  rfl
 rw [pe] at hg
 have lc := ZnD (α := Nat) (enc := fun k => Zdq ((ts.drop (e k)).take (e (k + 1) + 1 - e k))) (h := fun k => ZaF (Zbs (fun k => !Zc2 roll ts k) e k)) (own := 1) (i := 5) (it := ZfC (Zb 3)) (elt := Zu ZbU (Za (Zb 0) (Za (Zb 5) (Zg)))) (env := [some (Zw roll), some (Zdq ts), some (.ref n), some (.ref (M.length + 4)), none]) (M := M ++ G) (M1 := M ++ G) (lock := some (M.length + 4)) (as := List.range (ks.length + 1))
  (by simp only [ZfC, Zb, List.getElem?_cons_zero, List.getElem?_cons_succ, R3.bind, hg]) (fun m h => by cases h; exact hg)
  (fun k hk M => by
   have lk' : k < ks.length + 1 := List.mem_range.mp hk
   have b1 := eb (k + 1) (by omega)
   have sf := Zd8 roll R ((ts.drop (e k)).take (e (k + 1) + 1 - e k)) (fun s hs => h8 s (List.mem_of_mem_drop (List.mem_of_mem_take hs))) M (by rw [List.length_take, List.length_drop]; omega)
   rw [Zg6 roll ts (e k) (e (k + 1)) (em k (by omega)) (by omega)] at sf
   exact ZcZ rfl rfl sf) (by simp; omega)
 have g4 : (M ++ G ++ [MO.lst ((List.range (ks.length + 1)).map fun k => ZaF (Zbs (fun k => !Zc2 roll ts k) e k))])[(M ++ G).length]? = some (.lst (((List.range (ks.length + 1)).map (Zbs (fun k => !Zc2 roll ts k) e)).map ZaF)) := by
  rw [Za8, List.map_map]; rfl
 have hn2 := Zao (Zao hn G) [.lst ((List.range (ks.length + 1)).map fun k => ZaF (Zbs (fun k => !Zc2 roll ts k) e k))]
 have hg2 := Zao hg [.lst ((List.range (ks.length + 1)).map fun k => ZaF (Zbs (fun k => !Zc2 roll ts k) e k))]
 generalize hp4 : (M ++ G).length = p4 at *
 generalize hM2 : M ++ G ++ [MO.lst ((List.range (ks.length + 1)).map fun k => ZaF (Zbs (fun k => !Zc2 roll ts k) e k))] = M2 at *
 have a0 := Zjc ks n 2 [some (Zw roll), some (Zdq ts), some (.ref n), some (.ref (M.length + 4)), some (.ref p4)] M2 rfl hn2 lk
 have g4' := Zao g4 [.lst [.int 0], .lst ((0 :: ks).map D.int)]
 have g5 : (M2 ++ [MO.lst [.int 0], .lst ((0 :: ks).map D.int)])[M2.length + 1]? = some (.lst ((0 :: ks).map D.int)) := ZcG _ _ 1
 have hg3 := Zao hg2 [.lst [.int 0], .lst ((0 :: ks).map D.int)]
 have sw := Zd8 roll R ts h8 M2 (by omega)
 have mt := Zfm (fun k => !Zc2 roll ts k) e (ks.length + 1) (ts.length - 1) ks e0 eL (fun j hj => em j (by omega)) (fun j hj => ek j (by omega)) p4 (M2.length + 1) _ g4' g5 (by omega)
 have jo3 := ZjW (ts.map Zbq) ks (M.length + 4) (M2 ++ [.lst [.int 0], .lst ((0 :: ks).map D.int)]) (by omega) (by omega) (fun r hr => by
  obtain ⟨s, hs, rfl⟩ := List.mem_map.mp hr
  exact ZjT s (h8 s hs)) e (by rw [lr]; exact he) e0 (by rw [lr]; exact eL) em (by rw [lr]; exact eb) (by rw [lr, pe]; exact hg3)
 have eM : M2 ++ [MO.lst [.int 0], .lst ((0 :: ks).map D.int)] = M ++ (G ++ [MO.lst ((List.range (ks.length + 1)).map fun k => ZaF (Zbs (fun k => !Zc2 roll ts k) e k))] ++ [MO.lst [.int 0], .lst ((0 :: ks).map D.int)]) := by
  rw [← hM2]; simp
 refine Rt.pure (G := (G ++ [MO.lst ((List.range (ks.length + 1)).map fun k => ZaF (Zbs (fun k => !Zc2 roll ts k) e k))] ++ [MO.lst [.int 0], .lst ((0 :: ks).map D.int)])) (env := [some (Zw roll), some (Zdq ts), some (.ref n), none, none]) ?_ rfl
 rw [← eM]
 refine (Ze (Zt (ZcZ rfl rfl hc))).trans ((Ze (Zt lc)).trans (ZaH ((ZeH (Zcm (ZcZ rfl rfl sw) rfl a0 mt)).trans (ZaR (ZcV rfl jo3) rfl ?_))))
 have pu : (ts.map Zbq).all (Zag DEEP) = true := ZgJ ts
 simp only [Zdq, Zay, eqD, pu, Bool.and_self, if_true, Ze9 pu]
noncomputable def Zb5 (us : List Use) (a : Nat) : Option Use := if a = 0 then none else us[a - 1]?
noncomputable def Za5 (us : List Use) (i : Nat) : Bool := match us[i]? with
 | some u => Zf1 (Zb5 us i) u
 | none => false
theorem ZdU (us : List Use) : ∀ (m a k : Nat), a + m ≤ us.length → ZcW (Zb5 us a) ((us.drop a).take m) k = ((List.range m).find? fun i => !Za5 us (a + i)).map (k + ·)
 | 0, a, k, _ => by simp [ZcW]
 | m + 1, a, k, h => by
  have ha : a < us.length := by omega
  have e1 : (us.drop a).take (m + 1) = us[a] :: (us.drop (a + 1)).take m := by rw [List.drop_eq_getElem_cons ha, List.take_succ_cons]
  have e2' : us[a]? = some us[a] := by simp [ha]
  have ih := ZdU us m (a + 1) (k + 1) (by omega)
  have e3 : Zb5 us (a + 1) = some us[a] := by simp [Zb5, ha]
  rw [e3] at ih
  have f0 : Za5 us (a + 0) = Zf1 (Zb5 us a) us[a] := by simp only [Za5, Nat.add_zero, e2']
  rw [e1, ZcW, List.range_succ_eq_map, List.find?_cons, f0]
  generalize us[a] = u at *
  cases hf : Zf1 (Zb5 us a) u with
  | true =>
   simp only [if_true, Bool.not_true]
   rw [ih, List.find?_map]
   have : ((fun i => !Za5 us (a + i)) ∘ Nat.succ) = fun i => !Za5 us (a + 1 + i) := funext fun i => by
    simp only [Function.comp_apply]
    rw [show a + Nat.succ i = a + 1 + i by omega]
   rw [this, Option.map_map]
   congr 1
   funext i
   simp only [Function.comp_apply]
   omega
  | false => simp
theorem Zhc (us : List Use) : ZcW none us 0 = (List.range us.length).find? fun i => !Za5 us i := by
 have := ZdU us us.length 0 0 (by omega)
 simp only [List.drop_zero, List.take_of_length_le (Nat.le_refl _), Nat.zero_add] at this
 rw [show Zb5 us 0 = none from rfl] at this
 rw [this]
 cases (List.range us.length).find? fun i => !Za5 us i <;> simp
theorem Zh7 (us : List Use) (hl : us.length ≤ 63) (ks : List Int) (n : Nat) (M : Store) (hn : M[n]? = some (.lst (ks.map D.int))) (pk : ks.Pairwise (· < ·)) (bk : ∀ k ∈ ks, 0 ≤ k ∧ k < (us.length : Int) + 1) (lk : ks.length ≤ 5000) :
  Za6 [.tup (us.map Zx), .ref n] M = .ok (.bl true) M := by
 have lr : (us.map Zx).length = us.length := List.length_map ..
 have pk' : ks.Pairwise (· ≤ ·) := pk.imp fun h => by omega
 have hn1 := Zao hn [.lst []]
 obtain ⟨G, hc, hg⟩ := ZhL (us.map Zx) ks n (M ++ [.lst []]) hn1 pk' (fun k hk => by rw [lr]; exact bk k hk) lk
 rw [lr] at hg
 obtain ⟨e, he, e0, eL, em, eb, ek⟩ := Zh5 ks us.length pk' (fun k hk => by have := bk k hk; omega)
 have pe : Zbo (us.map Zx) 0 (0 :: ks ++ [(us.length : Int)]) = (List.range (ks.length + 1)).map fun k => D.tup (((us.drop (e k)).take (e (k + 1) - e k)).map Zx) := by
  unfold Zbo
  rw [show ((0 :: ks : List Int) ++ [(us.length : Int)]).length - 1 = ks.length + 1 by simp]
  refine List.map_congr_left fun k hk => ?_
  have lk' : k < ks.length + 1 := List.mem_range.mp hk
  have b1 := eb (k + 1) (by omega)
  rw [he k (by omega), he (k + 1) (by omega), Int.add_zero, Zg8 _ _ _ (by rw [lr]; omega) (em k (by omega)), ← List.map_drop, ← List.map_take]
 rw [pe] at hg
 have l4 : (M ++ [MO.lst []]).length + 4 ≠ M.length := by simp; omega
 generalize h4 : (M ++ [MO.lst []]).length + 4 = p4 at hc hg l4
 have eM : ∀ x : List D, (M ++ [MO.lst []] ++ G).set M.length (.lst x) = M ++ .lst x :: G := fun x => by simp
 have gP : ∀ x : List D, (M ++ .lst x :: G)[p4]? = some (.lst ((List.range (ks.length + 1)).map fun k => D.tup (((us.drop (e k)).take (e (k + 1) - e k)).map Zx))) := fun x => by
  rw [← eM, List.getElem?_set_ne (Ne.symm l4)]; exact hg
 obtain ⟨e', M', lp, x5, rfl, rfl⟩ := Zed (it := ⟨(List.range (ks.length + 1)).map fun k => D.tup (((us.drop (e k)).take (e (k + 1) - e k)).map Zx), some p4⟩) (g := Zb2 5)
  (body := (Zy (ZaA (Zcg tyL ZaK (Zb 2) (Za (Zu ZbJ (Za (Zb 4) (Za (Zb 5) (Zg)))) (Zg)))) (Zy (Zaf 3 (e2 Zr (Zb 3) (Zb 5))) (sIf (e2 Zd5 (Zaz ZaM (Za (Zb 5) (Zg))) (eC (.int 0))) (Zaf 4 (e2 Zj (Zb 5) (e1 Zdv (eC (.int 1))))) (Zae)))))
  (P := fun j env M' => ∃ x5, env = [some (.tup (us.map Zx)), some (.ref n), some (.ref M.length), some (.tup ((us.take (e j)).map Zx)), some (Zbr (Zb5 us (e j))), x5] ∧ M' = M ++ .lst (((List.range j).map (Zbs (fun k => !Za5 us k) e)).map ZaF) :: G)
  ((List.range (ks.length + 1)).map fun k => D.tup (((us.drop (e k)).take (e (k + 1) - e k)).map Zx)) 0 [some (.tup (us.map Zx)), some (.ref n), some (.ref M.length), some (.tup []), some .non, none] (M ++ [.lst []] ++ G) ⟨none, by rw [e0]; rfl, by simp⟩
  (fun j env M' ⟨_, _, hm⟩ => by subst hm; simp only [locked, gP, decide_true])
  (fun j dd hd env M' ⟨x5, henv, hm⟩ => by
   subst henv hm
   rw [Nat.zero_add]
   have jl : j < ks.length + 1 := by have := (List.getElem?_eq_some_iff.mp hd).1; simpa using this
   rw [List.getElem?_map, List.getElem?_range jl] at hd
   simp only [Option.map_some, Option.some.injEq] at hd
   subst hd
   have b0 := eb j (by omega)
   have b1 := eb (j + 1) (by omega)
   have b2 := em j (by omega)
   have g1 : (M ++ MO.lst (((List.range j).map (Zbs (fun k => !Za5 us k) e)).map ZaF) :: G)[M.length]? = some (.lst (((List.range j).map (Zbs (fun k => !Za5 us k) e)).map ZaF)) := Za8 _ _ _
   generalize hMM : M ++ MO.lst (((List.range j).map (Zbs (fun k => !Za5 us k) e)).map ZaF) :: G = MM at g1
   have uf := Zev (Zb5 us (e j)) ((us.drop (e j)).take (e (j + 1) - e j)) MM
   rw [ZdU us (e (j + 1) - e j) (e j) 0 (by omega)] at uf
   have em0 : (((List.range (e (j + 1) - e j)).find? fun i => !Za5 us (e j + i)).map (0 + ·)) = Zbs (fun k => !Za5 us k) e j := by
    unfold Zbs
    cases (List.range (e (j + 1) - e j)).find? fun i => !Za5 us (e j + i) <;> simp
   rw [em0] at uf
   have ap := Zc4 (Zeg (o := Zb 2) (arg := Zu ZbJ (Za (Zb 4) (Za (Zb 5) (Zg)))) (env := [some (.tup (us.map Zx)), some (.ref n), some (.ref M.length), some (.tup ((us.take (e j)).map Zx)), some (Zbr (Zb5 us (e j))), some (.tup (((us.drop (e j)).take (e (j + 1) - e j)).map Zx))]) (M := MM) (n := M.length) rfl g1 (ZcZ rfl rfl uf) g1 (by simp; omega))
   have st : MM.set M.length (.lst (((List.range j).map (Zbs (fun k => !Za5 us k) e)).map ZaF ++ [ZaF (Zbs (fun k => !Za5 us k) e j)])) = M ++ .lst (((List.range (j + 1)).map (Zbs (fun k => !Za5 us k) e)).map ZaF) :: G := by
    rw [← hMM, List.range_succ]; simp
   rw [st] at ap
   generalize hM3 : M ++ MO.lst (((List.range (j + 1)).map (Zbs (fun k => !Za5 us k) e)).map ZaF) :: G = M3 at ap
   have ad : (us.take (e j)).map Zx ++ ((us.drop (e j)).take (e (j + 1) - e j)).map Zx = (us.take (e (j + 1))).map Zx := by
    rw [← List.map_append, show us.take (e (j + 1)) = us.take (e j + (e (j + 1) - e j)) by rw [show e j + (e (j + 1) - e j) = e (j + 1) by omega]]
    exact congrArg _ List.take_add.symm
   have zz : ((us.take (e j)).map Zx).length + (((us.drop (e j)).take (e (j + 1) - e j)).map Zx).length ≤ SZ := by simp; omega
   have s3 : (e2 Zr (Zb 3) (Zb 5)) [some (.tup (us.map Zx)), some (.ref n), some (.ref M.length), some (.tup ((us.take (e j)).map Zx)), some (Zbr (Zb5 us (e j))), some (.tup (((us.drop (e j)).take (e (j + 1) - e j)).map Zx))] M3 = .ok (.tup ((us.take (e (j + 1))).map Zx)) M3 := by
    simp only [e2, Zb, List.getElem?_cons_zero, List.getElem?_cons_succ, R3.bind, Zr, if_pos zz, ad]
   have lp : (((us.drop (e j)).take (e (j + 1) - e j)).map Zx).length = e (j + 1) - e j := by rw [List.length_map, List.length_take, List.length_drop]; omega
   refine ⟨_, _, M3, rfl, (Ze ap).trans ((Ze (Zt s3)).trans (?_ : _ = O3.nx [some (.tup (us.map Zx)), some (.ref n), some (.ref M.length), some (.tup ((us.take (e (j + 1))).map Zx)), some (Zbr (Zb5 us (e (j + 1)))), some (.tup (((us.drop (e j)).take (e (j + 1) - e j)).map Zx))] M3)), _, rfl, rfl⟩
   by_cases c : e j < e (j + 1)
   ·have lt : (((us.drop (e j)).take (e (j + 1) - e j)).map Zx).getLast? = some (Zbr (Zb5 us (e (j + 1)))) := by
     have n0 : e (j + 1) ≠ 0 := by omega
     have hu : us[e (j + 1) - 1]? = some us[e (j + 1) - 1] := by simp
     rw [List.getLast?_eq_getElem?, lp, List.getElem?_map, List.getElem?_take_of_lt (by omega), List.getElem?_drop, show e j + (e (j + 1) - e j - 1) = e (j + 1) - 1 by omega, Zb5, if_neg n0, hu]
     rfl
    have c1 : (0 : Int) < ((e (j + 1) - e j : Nat) : Int) := by omega
    have n1 : ZaT (((us.drop (e j)).take (e (j + 1) - e j)).map Zx) (-1) = some (Zbr (Zb5 us (e (j + 1)))) := by rw [ZgY]; exact lt
    refine (ZaQ (M' := M3) ?_).trans (Zt (d := Zbr (Zb5 us (e (j + 1)))) (M' := M3) ?_)
    ·simp only [e2, Zaz, Za, Zg, Zb, eC, List.getElem?_cons_zero, List.getElem?_cons_succ, R3.bind, ZaM, Zd5, lp, c1, decide_true]
    ·simp only [e2, e1, Zb, eC, Zdv, List.getElem?_cons_zero, List.getElem?_cons_succ, R3.bind, Zj, n1]
   ·have ee : e (j + 1) = e j := by omega
    have c1 : ¬ (0 : Int) < ((e (j + 1) - e j : Nat) : Int) := by omega
    refine (Zn (M' := M3) ?_).trans ?_
    ·simp only [e2, Zaz, Za, Zg, Zb, eC, List.getElem?_cons_zero, List.getElem?_cons_succ, R3.bind, ZaM, Zd5, lp, c1, decide_false]
    ·rw [ee])
 rw [List.length_map, List.length_range, Nat.zero_add, eL, List.take_of_length_le (Nat.le_refl _)] at lp
 have g4 : (M ++ MO.lst (((List.range (ks.length + 1)).map (Zbs (fun k => !Za5 us k) e)).map ZaF) :: G)[M.length]? = some (.lst (((List.range (ks.length + 1)).map (Zbs (fun k => !Za5 us k) e)).map ZaF)) := Za8 _ _ _
 have hn3 : (M ++ MO.lst (((List.range (ks.length + 1)).map (Zbs (fun k => !Za5 us k) e)).map ZaF) :: G)[n]? = some (.lst (ks.map D.int)) := Zao hn _
 generalize hM3 : M ++ MO.lst (((List.range (ks.length + 1)).map (Zbs (fun k => !Za5 us k) e)).map ZaF) :: G = M3 at *
 have a0 := Zjc ks n 1 [some (.tup (us.map Zx)), some (.ref n), some (.ref M.length), some (.tup (us.map Zx)), some (Zbr (Zb5 us us.length)), x5] M3 rfl hn3 lk
 have sw := Zev none us M3
 rw [Zhc] at sw
 have mt := Zfm (fun k => !Za5 us k) e (ks.length + 1) us.length ks e0 eL (fun j hj => em j (by omega)) (fun j hj => ek j (by omega)) M.length (M3.length + 1) _ (Zao g4 [.lst [.int 0], .lst ((0 :: ks).map D.int)]) (ZcG _ _ 1) (by omega)
 refine Rt.pure (G := (MO.lst (((List.range (ks.length + 1)).map (Zbs (fun k => !Za5 us k) e)).map ZaF) :: G) ++ [.lst [.int 0], .lst ((0 :: ks).map D.int)]) (env := [some (.tup (us.map Zx)), some (.ref n), none, none, none, none]) ?_ rfl
 rw [← List.append_assoc, hM3]
 refine (Ze (Zt (d := .ref M.length) (M' := M ++ [.lst []]) (by simp))).trans ((Ze (Zt (d := .tup []) (M' := M ++ [.lst []]) (by simp))).trans ((Ze (Zt (d := .non) (M' := M ++ [.lst []]) rfl)).trans ((Ze ((Zdg (it := ⟨(List.range (ks.length + 1)).map fun k => D.tup (((us.drop (e k)).take (e (k + 1) - e k)).map Zx), some p4⟩) (M' := M ++ [.lst []] ++ G) ?_).trans lp)).trans (ZaH ((ZeH (Zcm (a := ZaF ((List.range us.length).find? fun i => !Za5 us i)) (ZcZ (a := Zbr none) rfl rfl sw) rfl a0 mt)).trans (ZaR rfl rfl ?_))))))
 ·have cl : (Zu ZcX (Za (Zb 0) (Za (Zb 1) (Zg)))) [some (.tup (us.map Zx)), some (.ref n), some (.ref M.length), some (.tup []), some .non, none] (M ++ [.lst []]) = .ok (.ref p4) (M ++ [.lst []] ++ G) := ZcZ rfl rfl hc
  generalize (Zu ZcX (Za (Zb 0) (Za (Zb 1) (Zg)))) = E at cl
  simp only [ZfC, cl, R3.bind, hg]
 ·have pu : (us.map Zx).all (Zag DEEP) = true := ZgQ us
  simp only [Zay, eqD, pu, Bool.and_self, if_true, Ze9 pu]
theorem Zf4 (cs : List Int) (c d : Nat) (x0 x2 x3 x7 x8 : Option D) (it : It3) (hit : it.lock = none) : ∀ (ds : List D) (ts : List Stp) (us : List Use) (n m at_ : Nat) (x6 : Option D) (M : Store), Zbz cs c d at_ M → M[n]? = some (.lst (ts.map Zbq)) → M[m]? = some (.lst (us.map Zx)) → (∀ s ∈ ts, s.2.length = 8) → 0 < ts.length → ts.length ≤ 61 → us.length ≤ 63 → n ≠ d → m ≠ d → at_ + 2 * ds.length ≤ 5000 →
  ∃ (ts' : List Stp) (us' : List Use) (n' m' at' : Nat) (y6 : Option D) (M' : Store), ZbR it (Zb2 6) (Zy (Zaf 4 (Zu ZaN (Za (Zb 4) (Za (Zu Zz (Za (Zb 1) (Zg))) (Za (eC (.int 0)) (Zg)))))) (Zaf 5 (Zu ZaN (Za (Zb 5) (Za (Zu Zz (Za (Zb 1) (Zg))) (Za (eC (.int 1)) (Zg))))))) ds [x0, some (.ref d), x2, x3, some (.ref n), some (.ref m), x6, x7, x8] M = .nx [x0, some (.ref d), x2, x3, some (.ref n'), some (.ref m'), y6, x7, x8] M' ∧ Zbz cs c d at' M' ∧ at' ≤ at_ + 2 * ds.length ∧ M'[n']? = some (.lst (ts'.map Zbq)) ∧ M'[m']? = some (.lst (us'.map Zx)) ∧ (∀ s ∈ ts', s.2.length = 8) ∧ 0 < ts'.length ∧ ts'.length ≤ 61 ∧ us'.length ≤ 63 ∧ n' ≠ d ∧ m' ≠ d
 | [], ts, us, n, m, at_, x6, M, K, hM, hU, h8, h0, hl, hu, hn, hm, ha => ⟨ts, us, n, m, at_, x6, M, by simp [ZbR, locked, hit], K, by omega, hM, hU, h8, h0, hl, hu, hn, hm⟩
 | x :: ds, ts, us, n, m, at_, x6, M, K, hM, hU, h8, h0, hl, hu, hn, hm, ha => by
  simp only [List.length_cons] at ha
  obtain ⟨v, M1, e1, K1, kp1, l1⟩ := K.draw (by omega)
  obtain ⟨ts1, n1, G1, c1, ln1, g1, h81, h01, hl1⟩ := Zg2 ts n v M1 (kp1.get hM hn) h8 h0 hl
  have K2 := K1.app G1
  have hU1 := Zao (kp1.get hU hm) G1
  obtain ⟨v2, M2, e2', K3, kp2, l2⟩ := K2.draw (by omega)
  have hd := K1.lt
  have g1' := kp2.get g1 (by omega)
  obtain ⟨us1, m1, G2, c2, lm1, g2, hu1⟩ := ZhY us m v2 M2 (kp2.get hU1 hm) hu
  have hd2 := K3.lt
  have K4 := K3.app G2
  obtain ⟨ts2, us2, n2, m2, at2, y6, M3, e3, K5, la, gn, gm, a8, a0, al, au, an, am⟩ := Zf4 cs c d x0 x2 x3 x7 x8 it hit ds ts1 us1 n1 m1 (at_ + 1 + 1) (some x) (M2 ++ G2) K4 (Zao g1' G2) g2 h81 h01 hl1 hu1 (by omega) (by rcases lm1 with q | q <;> omega) (by omega)
  refine ⟨ts2, us2, n2, m2, at2, y6, M3, ?_, K5, by simp only [List.length_cons]; omega, gn, gm, a8, a0, al, au, an, am⟩
  have lk : locked it M = true := by simp [locked, hit]
  have e0 : Zb2 6 x [x0, some (.ref d), x2, x3, some (.ref n), some (.ref m), x6, x7, x8] = some [x0, some (.ref d), x2, x3, some (.ref n), some (.ref m), some x, x7, x8] := rfl
  have b1 : (Zy (Zaf 4 (Zu ZaN (Za (Zb 4) (Za (Zu Zz (Za (Zb 1) (Zg))) (Za (eC (.int 0)) (Zg)))))) (Zaf 5 (Zu ZaN (Za (Zb 5) (Za (Zu Zz (Za (Zb 1) (Zg))) (Za (eC (.int 1)) (Zg))))))) [x0, some (.ref d), x2, x3, some (.ref n), some (.ref m), some x, x7, x8] M = .nx [x0, some (.ref d), x2, x3, some (.ref n1), some (.ref m1), some x, x7, x8] (M2 ++ G2) :=
   (Ze (Zt (Zcm (a := .ref n) (b := .int v) (c := .int 0) (M1 := M) (M2 := M1) (M3 := M1) rfl (ZcV rfl e1) rfl c1))).trans (Zt (Zcm (a := .ref m) (b := .int v2) (c := .int 1) (M1 := M1 ++ G1) (M2 := M2) (M3 := M2) rfl (ZcV rfl e2') rfl c2))
  rw [ZbR, if_pos lk]
  simp only [e0, b1]
  exact e3
theorem Zgf (cs : List Int) (c d : Nat) (roll : Zdl) (R : Zdp roll) (ts : List Stp) (us : List Use) (h8 : ∀ s ∈ ts, s.2.length = 8) (h0 : 0 < ts.length) (hl : ts.length ≤ 61) (hu : us.length ≤ 63) (n m : Nat) (hn : n ≠ d) (hm : m ≠ d) (x0 x2 x6 : Option D) (it : It3) (hit : it.lock = none) : ∀ (ws : List Int) (at_ : Nat) (x7 x8 : Option D) (M : Store), Zbz cs c d at_ M → M[n]? = some (.lst (ts.map Zbq)) → M[m]? = some (.lst (us.map Zx)) → at_ + 2002 * ws.length ≤ 10000 →
  ∃ (y7 y8 : Option D) (M' : Store), ZbR it (Zb2 7) (Zy (Zaf 8 (Zu Zbf (Za (Zb 1) (Za (eC (.int 1)) (Za (e2 ZcP (Zaz ZaM (Za (Zb 4) (Zg))) (eC (.int 1))) (Za (Zb 7) (Zg))))))) (Zy (sIf (e1 Zck (Zu ZaX (Za (Zb 3) (Za (Zaz ZbL (Za (Zb 4) (Zg))) (Za (Zb 8) (Zg)))))) (Zal (eC (.bl false))) (Zae)) (Zy (Zaf 8 (Zu Zbf (Za (Zb 1) (Za (eC (.int 0)) (Za (e2 Zr (Zaz ZaM (Za (Zb 5) (Zg))) (eC (.int 1))) (Za (Zb 7) (Zg))))))) (sIf (e1 Zck (Zu Za6 (Za (Zaz ZbL (Za (Zb 5) (Zg))) (Za (Zb 8) (Zg))))) (Zal (eC (.bl false))) (Zae))))) (ws.map D.int) [x0, some (.ref d), x2, some (Zw roll), some (.ref n), some (.ref m), x6, x7, x8] M = .nx [x0, some (.ref d), x2, some (Zw roll), some (.ref n), some (.ref m), x6, y7, y8] M'
 | [], at_, x7, x8, M, K, hM, hU, ha => ⟨x7, x8, M, by simp [ZbR, locked, hit]⟩
 | w :: ws, at_, x7, x8, M, K, hM, hU, ha => by
  simp only [List.length_cons] at ha
  obtain ⟨ks, n8, a2, M1, h1, g1, l1, pk, bk, lk, la, K1, kp1⟩ := Zjj cs c d 1 ((ts.length : Int) - 1) w at_ M K (by omega) (by omega) (by omega) (by omega) (by omega)
  have hd := K.lt
  have s1 : (Zu Zbf (Za (Zb 1) (Za (eC (.int 1)) (Za (e2 ZcP (Zaz ZaM (Za (Zb 4) (Zg))) (eC (.int 1))) (Za (Zb 7) (Zg)))))) [x0, some (.ref d), x2, some (Zw roll), some (.ref n), some (.ref m), x6, some (.int w), x8] M = .ok (.ref n8) M1 := Zin (a := .ref d) (b := .int 1) (c := .int ((ts.length : Int) - 1)) (d := .int w) (M1 := M) (M2 := M) (M3 := M) (M4 := M) rfl rfl (by simp [hM]) rfl h1
  have hM1 := kp1.get hM hn
  have sm := Zhk roll R ts h8 h0 hl ks n8 M1 g1 pk bk (by omega)
  have c1 : (e1 Zck (Zu ZaX (Za (Zb 3) (Za (Zaz ZbL (Za (Zb 4) (Zg))) (Za (Zb 8) (Zg)))))) [x0, some (.ref d), x2, some (Zw roll), some (.ref n), some (.ref m), x6, some (.int w), some (.ref n8)] M1 = .ok (.bl false) M1 := ZiT (Zcm rfl (b := Zdq ts) (M2 := M1) (by simp [hM1, Zdq]) rfl sm) rfl
  obtain ⟨ks2, n9, a3, M2, h2, g2, l2, pk2, bk2, lk2, la2, K2, kp2⟩ := Zjj cs c d 0 ((us.length : Int) + 1) w a2 M1 K1 (by omega) (by omega) (by omega) (by omega) (by omega)
  have hU1 := kp1.get hU hm
  have s2 : (Zu Zbf (Za (Zb 1) (Za (eC (.int 0)) (Za (e2 Zr (Zaz ZaM (Za (Zb 5) (Zg))) (eC (.int 1))) (Za (Zb 7) (Zg)))))) [x0, some (.ref d), x2, some (Zw roll), some (.ref n), some (.ref m), x6, some (.int w), some (.ref n8)] M1 = .ok (.ref n9) M2 := Zin (a := .ref d) (b := .int 0) (c := .int ((us.length : Int) + 1)) (d := .int w) (M1 := M1) (M2 := M1) (M3 := M1) (M4 := M1) rfl rfl (by simp [hU1]) rfl h2
  have hU2 := kp2.get hU1 hm
  have um := Zh7 us hu ks2 n9 M2 g2 pk2 bk2 (by omega)
  have c2 : (e1 Zck (Zu Za6 (Za (Zaz ZbL (Za (Zb 5) (Zg))) (Za (Zb 8) (Zg))))) [x0, some (.ref d), x2, some (Zw roll), some (.ref n), some (.ref m), x6, some (.int w), some (.ref n9)] M2 = .ok (.bl false) M2 := ZiT (ZcZ (a := .tup (us.map Zx)) (M1 := M2) (by simp [hU2]) rfl um) rfl
  obtain ⟨y7, y8, M3, ih⟩ := Zgf cs c d roll R ts us h8 h0 hl hu n m hn hm x0 x2 x6 it hit ws a3 (some (.int w)) (some (.ref n9)) M2 K2 (kp2.get hM1 hn) hU2 (by omega)
  refine ⟨y7, y8, M3, ?_⟩
  have lk : locked it M = true := by simp [locked, hit]
  have e0 : Zb2 7 (.int w) [x0, some (.ref d), x2, some (Zw roll), some (.ref n), some (.ref m), x6, x7, x8] = some [x0, some (.ref d), x2, some (Zw roll), some (.ref n), some (.ref m), x6, some (.int w), x8] := rfl
  have b1 := (Ze (Zt (i := 8) s1) (g := (Zy (sIf (e1 Zck (Zu ZaX (Za (Zb 3) (Za (Zaz ZbL (Za (Zb 4) (Zg))) (Za (Zb 8) (Zg)))))) (Zal (eC (.bl false))) (Zae)) (Zy (Zaf 8 (Zu Zbf (Za (Zb 1) (Za (eC (.int 0)) (Za (e2 Zr (Zaz ZaM (Za (Zb 5) (Zg))) (eC (.int 1))) (Za (Zb 7) (Zg))))))) (sIf (e1 Zck (Zu Za6 (Za (Zaz ZbL (Za (Zb 5) (Zg))) (Za (Zb 8) (Zg))))) (Zal (eC (.bl false))) (Zae)))))).trans ((Ze (Zn c1)).trans ((Ze (Zt s2)).trans (Zn c2)))
  rw [List.map_cons, ZbR, if_pos lk]
  simp only [e0, b1]
  exact ih
theorem law_holds : ∀ ns : List Int, ns.length ≤ 63 → ∃ M', Zjm [.scr (ns.map D.int)] [] = .ok (.bl true) M' := by
 intro ns hns
 have ca : ∀ k : Nat, 63 ≤ k → cutD (ns.map D.int) none (some (k : Int)) = ns.map D.int := fun k hk => ZlO (ns.map D.int) k (by rw [List.length_map]; omega)
 have ca4 : cutD (ns.map D.int) none (some 400) = ns.map D.int := ca 400 (by omega)
 have ca2 : cutD (ns.map D.int) none (some 200) = ns.map D.int := ca 200 (by omega)
 have ec4 : cutD (ns.map D.int) none (some 40) = (ns.take 40).map D.int := by
  have := ZfK (ns.map D.int) 40
  rw [← List.map_take] at this
  exact this
 have K0 : Zbz ns 0 1 0 [.lst (ns.map D.int), .lst [.ref 0, .int 0]] := ⟨rfl, rfl, by omega⟩
 obtain ⟨cell, M1, e1, K1, kp1, l1⟩ := K0.draw (by omega)
 obtain ⟨roll, lroll, R, er⟩ := Zlh (ns.take 40) M1.length (M1 ++ [.lst ((ns.take 40).map D.int)]) (by simp) (by simp; omega)
 obtain ⟨ts, n, at2, M2, e3, hM2, h8, h0, hl, ha2, K2, hnd, hnc⟩ := Zil ns 0 1 1 (M1 ++ [.lst ((ns.take 40).map D.int)]) (K1.app _) (by omega) roll R (by omega)
 obtain ⟨us, G, lu, e4, gU⟩ := Zgx ns M2.length (M2 ++ [.lst (ns.map D.int)]) (Za8 _ _ _) hns
 obtain ⟨k3, hk3, lk3⟩ := Zch cell 3 (by omega)
 have hk3' : cell % 3 = (k3 : Int) := hk3
 have hd := K2.lt
 obtain ⟨ts2, us2, n2, m2, at3, y6, M3, e5, K3, la3, gn, gm, a8, a0, al, au, an, am⟩ := Zf4 ns 0 1 (some (.scr (ns.map D.int))) (some (.int cell)) (some (Zw roll)) none none ⟨Zcl 0 k3, none⟩ rfl (Zcl 0 k3) ts us n (M2 ++ [MO.lst (ns.map D.int)]).length at2 none (M2 ++ [.lst (ns.map D.int)] ++ G) ((K2.app _).app _) (Zao (Zao hM2 _) _) gU h8 h0 hl (by omega) hnd (by rw [List.length_append]; simp only [List.length_cons, List.length_nil]; omega) (by rw [ZdQ]; omega)
 rw [ZdQ] at la3
 obtain ⟨y7, y8, M4, e6⟩ := Zgf ns 0 1 roll R ts2 us2 a8 a0 al au n2 m2 an am (some (.scr (ns.map D.int))) (some (.int cell)) y6 ⟨Zcl 0 3, none⟩ rfl [0, 1, 2] at3 none none M3 K3 gn gm (by simp only [List.length_cons, List.length_nil]; omega)
 refine Rt.law (env := [some (.scr (ns.map D.int)), none, none, none, none, none, none, none, none]) ?_
 unfold Zkw
 refine Rt.set (d := .ref 1) (M' := [.lst (ns.map D.int), .lst [.ref 0, .int 0]]) (by simp [ca4]) ?_
 refine Rt.set (d := .int cell) (M' := M1) (ZcV rfl e1) ?_
 refine Rt.set (d := Zw roll) (M' := M1 ++ [.lst ((ns.take 40).map D.int)]) (ZcV (a := .ref M1.length) (by simp [ec4]) er) ?_
 refine Rt.set (d := .ref n) (M' := M2) (ZcZ rfl rfl e3) ?_
 refine Rt.set (d := .ref (M2 ++ [MO.lst (ns.map D.int)]).length) (M' := M2 ++ [.lst (ns.map D.int)] ++ G) (ZcV (a := .ref M2.length) (M1 := M2 ++ [.lst (ns.map D.int)]) (by simp [ca2]) e4) ?_
 have i1 : (ZbM (e2 Zaq (Zb 2) (eC (.int 3)))) [some (.scr (ns.map D.int)), some (.ref 1), some (.int cell), some (Zw roll), some (.ref n), some (.ref (M2 ++ [MO.lst (ns.map D.int)]).length), none, none, none] (M2 ++ [.lst (ns.map D.int)] ++ G) = .ok ⟨Zcl 0 k3, none⟩ (M2 ++ [.lst (ns.map D.int)] ++ G) := by
  have b : ((k3 : Int)) ≤ 1000000 ∧ -1000000 ≤ (k3 : Int) := by omega
  simp only [ZbM, e2, Zb, eC, List.getElem?_cons_zero, List.getElem?_cons_succ, R3.bind, Zaq, hk3']
  simp [b]
 refine Rt.loop i1 e5 ?_
 have i2 : (ZbM (eC (.int 3))) [some (.scr (ns.map D.int)), some (.ref 1), some (.int cell), some (Zw roll), some (.ref n2), some (.ref m2), y6, none, none] M3 = .ok ⟨Zcl 0 3, none⟩ M3 := by simp
 refine Rt.loop i2 e6 ?_
 exact Rt.ret (M' := M4) rfl
end Law
set_option maxHeartbeats 400000
namespace Law
open PySem PySem.Spec PyProof.Rows L2 L3
theorem Znt {l : PySem.W.OpenLaw} {w : World} {K : W.Frag} {h : Heap} {mg : Str → Option Value} {fa f0 f1 f2 f3 f4 f5 f6 f7 f8 f9 f10 f11 f12 f13 f14 f15 f16 f17 f18 f19 f20 f21 f22 f23 f24 f25 f26 f27 f28 f29 f30 : Addr} (X : K.In h) (G : h.Ns mainGlobals mg) (hfa : mg "law" = some (.ref fa))
  {od0 an0 od1 an1 od2 an2 od3 an3 od4 an4 od5 an5 od6 an6 od7 an7 od8 an8 od9 an9 od10 an10 od11 an11 od12 an12 od13 an13 od14 an14 od15 an15 od16 an16 od17 an17 od18 an18 od19 an19 od20 an20 od21 an21 od22 an22 od23 an23 od24 an24 od25 an25 od26 an26 od27 an27 od28 an28 od29 an29 od30 an30 : Option Addr} {sl0 sl1 sl2 sl3 sl4 sl5 sl6 sl7 sl8 sl9 sl10 sl11 sl12 sl13 sl14 sl15 sl16 sl17 sl18 sl19 sl20 sl21 sl22 sl23 sl24 sl25 sl26 sl27 sl28 sl29 sl30 : Array (Option Value)} {oc0 kV0 dc0 pm0 cd0 ct0 oc1 kV1 dc1 pm1 cd1 ct1 oc2 kV2 dc2 pm2 cd2 ct2 oc3 kV3 dc3 pm3 cd3 ct3 oc4 kV4 dc4 pm4 cd4 ct4 oc5 kV5 dc5 pm5 cd5 ct5 oc6 kV6 dc6 pm6 cd6 ct6 oc7 kV7 dc7 pm7 cd7 ct7 oc8 kV8 dc8 pm8 cd8 ct8 oc9 kV9 dc9 pm9 cd9 ct9 oc10 kV10 dc10 pm10 cd10 ct10 oc11 kV11 dc11 pm11 cd11 ct11 oc12 kV12 dc12 pm12 cd12 ct12 oc13 kV13 dc13 pm13 cd13 ct13 oc14 kV14 dc14 pm14 cd14 ct14 oc15 kV15 dc15 pm15 cd15 ct15 oc16 kV16 dc16 pm16 cd16 ct16 oc17 kV17 dc17 pm17 cd17 ct17 oc18 kV18 dc18 pm18 cd18 ct18 oc19 kV19 dc19 pm19 cd19 ct19 oc20 kV20 dc20 pm20 cd20 ct20 oc21 kV21 dc21 pm21 cd21 ct21 oc22 kV22 dc22 pm22 cd22 ct22 oc23 kV23 dc23 pm23 cd23 ct23 oc24 kV24 dc24 pm24 cd24 ct24 oc25 kV25 dc25 pm25 cd25 ct25 oc26 kV26 dc26 pm26 cd26 ct26 oc27 kV27 dc27 pm27 cd27 ct27 oc28 kV28 dc28 pm28 cd28 ct28 oc29 kV29 dc29 pm29 cd29 ct29 oc30 kV30 dc30 pm30 cd30 ct30 : Value}
  (a0 : W.nsIn K mainGlobals "next_place" = some (some (.ref f0))) (l0 : K.lookup f0 = some ⟨oc0, od0, .func (W.fnOf "next_place" "next_place" (Zar Zb7) (Zaj Zb7) (Zq Zb7) .none kV0 dc0 pm0 an0 cd0 ct0), sl0⟩) (c0 : W.codeIn K cd0 "next_place" = true) (k0 : W.keepIn K (.ref f0) = true)
  (a1 : W.nsIn K mainGlobals "worked" = some (some (.ref f1))) (l1 : K.lookup f1 = some ⟨oc1, od1, .func (W.fnOf "worked" "worked" (Zar ZdL) (Zaj ZdL) (Zq ZdL) .none kV1 dc1 pm1 an1 cd1 ct1), sl1⟩) (c1 : W.codeIn K cd1 "worked" = true) (k1 : W.keepIn K (.ref f1) = true)
  (a2 : W.nsIn K mainGlobals "with_box" = some (some (.ref f2))) (l2 : K.lookup f2 = some ⟨oc2, od2, .func (W.fnOf "with_box" "with_box" (Zar ZcT) (Zaj ZcT) (Zq ZcT) .none kV2 dc2 pm2 an2 cd2 ct2), sl2⟩) (c2 : W.codeIn K cd2 "with_box" = true) (k2 : W.keepIn K (.ref f2) = true)
  (a3 : W.nsIn K mainGlobals "cell_value" = some (some (.ref f3))) (l3 : K.lookup f3 = some ⟨oc3, od3, .func (W.fnOf "cell_value" "cell_value" (Zar Zcb) (Zaj Zcb) (Zq Zcb) .none kV3 dc3 pm3 an3 cd3 ct3), sl3⟩) (c3 : W.codeIn K cd3 "cell_value" = true) (k3 : W.keepIn K (.ref f3) = true)
  (a4 : W.nsIn K mainGlobals "next_boxes" = some (some (.ref f4))) (l4 : K.lookup f4 = some ⟨oc4, od4, .func (W.fnOf "next_boxes" "next_boxes" (Zar Zb8) (Zaj Zb8) (Zq Zb8) .none kV4 dc4 pm4 an4 cd4 ct4), sl4⟩) (c4 : W.codeIn K cd4 "next_boxes" = true) (k4 : W.keepIn K (.ref f4) = true)
  (a5 : W.nsIn K mainGlobals "is_within" = some (some (.ref f5))) (l5 : K.lookup f5 = some ⟨oc5, od5, .func (W.fnOf "is_within" "is_within" (Zar Zcy) (Zaj Zcy) (Zq Zcy) .none kV5 dc5 pm5 an5 cd5 ct5), sl5⟩) (c5 : W.codeIn K cd5 "is_within" = true) (k5 : W.keepIn K (.ref f5) = true)
  (a6 : W.nsIn K mainGlobals "row_at" = some (some (.ref f6))) (l6 : K.lookup f6 = some ⟨oc6, od6, .func (W.fnOf "row_at" "row_at" (Zar ZdE) (Zaj ZdE) (Zq ZdE) .none kV6 dc6 pm6 an6 cd6 ct6), sl6⟩) (c6 : W.codeIn K cd6 "row_at" = true) (k6 : W.keepIn K (.ref f6) = true)
  (a7 : W.nsIn K mainGlobals "boxes_behind" = some (some (.ref f7))) (l7 : K.lookup f7 = some ⟨oc7, od7, .func (W.fnOf "boxes_behind" "boxes_behind" (Zar ZbE) (Zaj ZbE) (Zq ZbE) .none kV7 dc7 pm7 an7 cd7 ct7), sl7⟩) (c7 : W.codeIn K cd7 "boxes_behind" = true) (k7 : W.keepIn K (.ref f7) = true)
  (a8 : W.nsIn K mainGlobals "step_fits" = some (some (.ref f8))) (l8 : K.lookup f8 = some ⟨oc8, od8, .func (W.fnOf "step_fits" "step_fits" (Zar ZcB) (Zaj ZcB) (Zq ZcB) .none kV8 dc8 pm8 an8 cd8 ct8), sl8⟩) (c8 : W.codeIn K cd8 "step_fits" = true) (k8 : W.keepIn K (.ref f8) = true)
  (a9 : W.nsIn K mainGlobals "use_fits" = some (some (.ref f9))) (l9 : K.lookup f9 = some ⟨oc9, od9, .func (W.fnOf "use_fits" "use_fits" (Zar ZcY) (Zaj ZcY) (Zq ZcY) .none kV9 dc9 pm9 an9 cd9 ct9), sl9⟩) (c9 : W.codeIn K cd9 "use_fits" = true) (k9 : W.keepIn K (.ref f9) = true)
  (a10 : W.nsIn K mainGlobals "first_unfit_step" = some (some (.ref f10))) (l10 : K.lookup f10 = some ⟨oc10, od10, .func (W.fnOf "first_unfit_step" "first_unfit_step" (Zar ZaV) (Zaj ZaV) (Zq ZaV) .none kV10 dc10 pm10 an10 cd10 ct10), sl10⟩) (c10 : W.codeIn K cd10 "first_unfit_step" = true) (k10 : W.keepIn K (.ref f10) = true)
  (a11 : W.nsIn K mainGlobals "first_unfit_use" = some (some (.ref f11))) (l11 : K.lookup f11 = some ⟨oc11, od11, .func (W.fnOf "first_unfit_use" "first_unfit_use" (Zar Za4) (Zaj Za4) (Zq Za4) .none kV11 dc11 pm11 an11 cd11 ct11), sl11⟩) (c11 : W.codeIn K cd11 "first_unfit_use" = true) (k11 : W.keepIn K (.ref f11) = true)
  (a12 : W.nsIn K mainGlobals "is_whole" = some (some (.ref f12))) (l12 : K.lookup f12 = some ⟨oc12, od12, .func (W.fnOf "is_whole" "is_whole" (Zar Zc1) (Zaj Zc1) (Zq Zc1) .none kV12 dc12 pm12 an12 cd12 ct12), sl12⟩) (c12 : W.codeIn K cd12 "is_whole" = true) (k12 : W.keepIn K (.ref f12) = true)
  (a13 : W.nsIn K mainGlobals "refuse_bad_cuts" = some (some (.ref f13))) (l13 : K.lookup f13 = some ⟨oc13, od13, .func (W.fnOf "refuse_bad_cuts" "refuse_bad_cuts" (Zar Za2) (Zaj Za2) (Zq Za2) .none kV13 dc13 pm13 an13 cd13 ct13), sl13⟩) (c13 : W.codeIn K cd13 "refuse_bad_cuts" = true) (k13 : W.keepIn K (.ref f13) = true)
  (a14 : W.nsIn K mainGlobals "cut_steps" = some (some (.ref f14))) (l14 : K.lookup f14 = some ⟨oc14, od14, .func (W.fnOf "cut_steps" "cut_steps" (Zar Zcu) (Zaj Zcu) (Zq Zcu) .none kV14 dc14 pm14 an14 cd14 ct14), sl14⟩) (c14 : W.codeIn K cd14 "cut_steps" = true) (k14 : W.keepIn K (.ref f14) = true)
  (a15 : W.nsIn K mainGlobals "cut_uses" = some (some (.ref f15))) (l15 : K.lookup f15 = some ⟨oc15, od15, .func (W.fnOf "cut_uses" "cut_uses" (Zar ZcS) (Zaj ZcS) (Zq ZcS) .none kV15 dc15 pm15 an15 cd15 ct15), sl15⟩) (c15 : W.codeIn K cd15 "cut_uses" = true) (k15 : W.keepIn K (.ref f15) = true)
  (a16 : W.nsIn K mainGlobals "steps_fault" = some (some (.ref f16))) (l16 : K.lookup f16 = some ⟨oc16, od16, .func (W.fnOf "steps_fault" "steps_fault" (Zar ZbS) (Zaj ZbS) (Zq ZbS) .none kV16 dc16 pm16 an16 cd16 ct16), sl16⟩) (c16 : W.codeIn K cd16 "steps_fault" = true) (k16 : W.keepIn K (.ref f16) = true)
  (a17 : W.nsIn K mainGlobals "uses_fault" = some (some (.ref f17))) (l17 : K.lookup f17 = some ⟨oc17, od17, .func (W.fnOf "uses_fault" "uses_fault" (Zar Zcd) (Zaj Zcd) (Zq Zcd) .none kV17 dc17 pm17 an17 cd17 ct17), sl17⟩) (c17 : W.codeIn K cd17 "uses_fault" = true) (k17 : W.keepIn K (.ref f17) = true)
  (a18 : W.nsIn K mainGlobals "joined_steps" = some (some (.ref f18))) (l18 : K.lookup f18 = some ⟨oc18, od18, .func (W.fnOf "joined_steps" "joined_steps" (Zar ZbC) (Zaj ZbC) (Zq ZbC) .none kV18 dc18 pm18 an18 cd18 ct18), sl18⟩) (c18 : W.codeIn K cd18 "joined_steps" = true) (k18 : W.keepIn K (.ref f18) = true)
  (a19 : W.nsIn K mainGlobals "_law_next" = some (some (.ref f19))) (l19 : K.lookup f19 = some ⟨oc19, od19, .func (W.fnOf "_law_next" "_law_next" (Zar Zcw) (Zaj Zcw) (Zq Zcw) .none kV19 dc19 pm19 an19 cd19 ct19), sl19⟩) (c19 : W.codeIn K cd19 "_law_next" = true) (k19 : W.keepIn K (.ref f19) = true)
  (a20 : W.nsIn K mainGlobals "_law_roll" = some (some (.ref f20))) (l20 : K.lookup f20 = some ⟨oc20, od20, .func (W.fnOf "_law_roll" "_law_roll" (Zar Zcx) (Zaj Zcx) (Zq Zcx) .none kV20 dc20 pm20 an20 cd20 ct20), sl20⟩) (c20 : W.codeIn K cd20 "_law_roll" = true) (k20 : W.keepIn K (.ref f20) = true)
  (a21 : W.nsIn K mainGlobals "_law_behind" = some (some (.ref f21))) (l21 : K.lookup f21 = some ⟨oc21, od21, .func (W.fnOf "_law_behind" "_law_behind" (Zar ZbV) (Zaj ZbV) (Zq ZbV) .none kV21 dc21 pm21 an21 cd21 ct21), sl21⟩) (c21 : W.codeIn K cd21 "_law_behind" = true) (k21 : W.keepIn K (.ref f21) = true)
  (a22 : W.nsIn K mainGlobals "_law_number" = some (some (.ref f22))) (l22 : K.lookup f22 = some ⟨oc22, od22, .func (W.fnOf "_law_number" "_law_number" (Zar ZbT) (Zaj ZbT) (Zq ZbT) .none kV22 dc22 pm22 an22 cd22 ct22), sl22⟩) (c22 : W.codeIn K cd22 "_law_number" = true) (k22 : W.keepIn K (.ref f22) = true)
  (a23 : W.nsIn K mainGlobals "_law_steps" = some (some (.ref f23))) (l23 : K.lookup f23 = some ⟨oc23, od23, .func (W.fnOf "_law_steps" "_law_steps" (Zar Zcc) (Zaj Zcc) (Zq Zcc) .none kV23 dc23 pm23 an23 cd23 ct23), sl23⟩) (c23 : W.codeIn K cd23 "_law_steps" = true) (k23 : W.keepIn K (.ref f23) = true)
  (a24 : W.nsIn K mainGlobals "_law_uses" = some (some (.ref f24))) (l24 : K.lookup f24 = some ⟨oc24, od24, .func (W.fnOf "_law_uses" "_law_uses" (Zar Zcv) (Zaj Zcv) (Zq Zcv) .none kV24 dc24 pm24 an24 cd24 ct24), sl24⟩) (c24 : W.codeIn K cd24 "_law_uses" = true) (k24 : W.keepIn K (.ref f24) = true)
  (a25 : W.nsIn K mainGlobals "_law_changed" = some (some (.ref f25))) (l25 : K.lookup f25 = some ⟨oc25, od25, .func (W.fnOf "_law_changed" "_law_changed" (Zar ZbB) (Zaj ZbB) (Zq ZbB) .none kV25 dc25 pm25 an25 cd25 ct25), sl25⟩) (c25 : W.codeIn K cd25 "_law_changed" = true) (k25 : W.keepIn K (.ref f25) = true)
  (a26 : W.nsIn K mainGlobals "_law_cuts" = some (some (.ref f26))) (l26 : K.lookup f26 = some ⟨oc26, od26, .func (W.fnOf "_law_cuts" "_law_cuts" (Zar Zcz) (Zaj Zcz) (Zq Zcz) .none kV26 dc26 pm26 an26 cd26 ct26), sl26⟩) (c26 : W.codeIn K cd26 "_law_cuts" = true) (k26 : W.keepIn K (.ref f26) = true)
  (a27 : W.nsIn K mainGlobals "_law_meets" = some (some (.ref f27))) (l27 : K.lookup f27 = some ⟨oc27, od27, .func (W.fnOf "_law_meets" "_law_meets" (Zar Zb9) (Zaj Zb9) (Zq Zb9) .none kV27 dc27 pm27 an27 cd27 ct27), sl27⟩) (c27 : W.codeIn K cd27 "_law_meets" = true) (k27 : W.keepIn K (.ref f27) = true)
  (a28 : W.nsIn K mainGlobals "_law_steps_met" = some (some (.ref f28))) (l28 : K.lookup f28 = some ⟨oc28, od28, .func (W.fnOf "_law_steps_met" "_law_steps_met" (Zar Zbh) (Zaj Zbh) (Zq Zbh) .none kV28 dc28 pm28 an28 cd28 ct28), sl28⟩) (c28 : W.codeIn K cd28 "_law_steps_met" = true) (k28 : W.keepIn K (.ref f28) = true)
  (a29 : W.nsIn K mainGlobals "_law_uses_met" = some (some (.ref f29))) (l29 : K.lookup f29 = some ⟨oc29, od29, .func (W.fnOf "_law_uses_met" "_law_uses_met" (Zar Zbt) (Zaj Zbt) (Zq Zbt) .none kV29 dc29 pm29 an29 cd29 ct29), sl29⟩) (c29 : W.codeIn K cd29 "_law_uses_met" = true) (k29 : W.keepIn K (.ref f29) = true)
  (a30 : W.nsIn K mainGlobals "law" = some (some (.ref f30))) (l30 : K.lookup f30 = some ⟨oc30, od30, .func (W.fnOf "law" "law" (Zar ZeR) (Zaj ZeR) (Zq ZeR) .none kV30 dc30 pm30 an30 cd30 ct30), sl30⟩) (c30 : W.codeIn K cd30 "law" = true) (k30 : W.keepIn K (.ref f30) = true)
  (z_bool : W.nsIn K mainGlobals "bool" = some none)
  (z_dict : W.nsIn K mainGlobals "dict" = some none)
  (z_enumerate : W.nsIn K mainGlobals "enumerate" = some none)
  (z_int : W.nsIn K mainGlobals "int" = some none)
  (z_isinstance : W.nsIn K mainGlobals "isinstance" = some none)
  (z_len : W.nsIn K mainGlobals "len" = some none)
  (z_list : W.nsIn K mainGlobals "list" = some none)
  (z_range : W.nsIn K mainGlobals "range" = some none)
  (z_tuple : W.nsIn K mainGlobals "tuple" = some none)
  (z_zip : W.nsIn K mainGlobals "zip" = some none) :
  ∃ fd : FuncData, (∀ (s : Shared) (v : Value), BindsTo s fd ⟨[v], []⟩ [("script", v)]) ∧ ∀ base : Heap, K.In base → base.Ns mainGlobals mg → Ze3 l.prog w K mg base CX0 8 fa fd ["script"] (sp3 K 1 Zjm) := by
 have e := hfa.symm.trans (W.mg_of X G a30)
 cases e
 have T : Txt K mg := ⟨trivial, W.mg_none_of X G z_bool, W.mg_none_of X G z_dict, W.mg_none_of X G z_enumerate, W.mg_none_of X G z_int, W.mg_none_of X G z_isinstance, W.mg_none_of X G z_len, W.mg_none_of X G z_list, W.mg_none_of X G z_range, W.mg_none_of X G z_tuple, W.mg_none_of X G z_zip⟩
 have D_next_place : Zat K mg "next_place" Zb7 ["row", "place", "boxes"] := Zau X G a0 l0 c0 k0 (Binds.all fun us hl => match us, hl with | [_, _, _], _ => rfl)
 have D_worked : Zat K mg "worked" ZdL ["name", "one", "other"] := Zau X G a1 l1 c1 k1 (Binds.all fun us hl => match us, hl with | [_, _, _], _ => rfl)
 have D_with_box : Zat K mg "with_box" ZcT ["boxes", "box", "value"] := Zau X G a2 l2 c2 k2 (Binds.all fun us hl => match us, hl with | [_, _, _], _ => rfl)
 have D_cell_value : Zat K mg "cell_value" Zcb ["cells", "number"] := Zau X G a3 l3 c3 k3 (Binds.all fun us hl => match us, hl with | [_, _], _ => rfl)
 have D_next_boxes : Zat K mg "next_boxes" Zb8 ["row", "boxes", "cells"] := Zau X G a4 l4 c4 k4 (Binds.all fun us hl => match us, hl with | [_, _, _], _ => rfl)
 have D_is_within : Zat K mg "is_within" Zcy ["number", "many"] := Zau X G a5 l5 c5 k5 (Binds.all fun us hl => match us, hl with | [_, _], _ => rfl)
 have D_row_at : Zat K mg "row_at" ZdE ["roll", "place"] := Zau X G a6 l6 c6 k6 (Binds.all fun us hl => match us, hl with | [_, _], _ => rfl)
 have D_boxes_behind : Zat K mg "boxes_behind" ZbE ["roll_row", "boxes", "told_boxes"] := Zau X G a7 l7 c7 k7 (Binds.all fun us hl => match us, hl with | [_, _, _], _ => rfl)
 have D_step_fits : Zat K mg "step_fits" ZcB ["roll", "row", "behind"] := Zau X G a8 l8 c8 k8 (Binds.all fun us hl => match us, hl with | [_, _, _], _ => rfl)
 have D_use_fits : Zat K mg "use_fits" ZcY ["ahead", "row"] := Zau X G a9 l9 c9 k9 (Binds.all fun us hl => match us, hl with | [_, _], _ => rfl)
 have D_first_unfit_step : Zat K mg "first_unfit_step" ZaV ["roll", "steps"] := Zau X G a10 l10 c10 k10 (Binds.all fun us hl => match us, hl with | [_, _], _ => rfl)
 have D_first_unfit_use : Zat K mg "first_unfit_use" Za4 ["ahead", "uses"] := Zau X G a11 l11 c11 k11 (Binds.all fun us hl => match us, hl with | [_, _], _ => rfl)
 have D_is_whole : Zat K mg "is_whole" Zc1 ["number"] := Zau X G a12 l12 c12 k12 (Binds.all fun us hl => match us, hl with | [_], _ => rfl)
 have D_refuse_bad_cuts : Zat K mg "refuse_bad_cuts" Za2 ["cuts", "apart", "most"] := Zau X G a13 l13 c13 k13 (Binds.all fun us hl => match us, hl with | [_, _, _], _ => rfl)
 have D_cut_steps : Zat K mg "cut_steps" Zcu ["steps", "cuts"] := Zau X G a14 l14 c14 k14 (Binds.all fun us hl => match us, hl with | [_, _], _ => rfl)
 have D_cut_uses : Zat K mg "cut_uses" ZcS ["uses", "cuts"] := Zau X G a15 l15 c15 k15 (Binds.all fun us hl => match us, hl with | [_, _], _ => rfl)
 have D_steps_fault : Zat K mg "steps_fault" ZbS ["roll", "piece"] := Zau X G a16 l16 c16 k16 (Binds.all fun us hl => match us, hl with | [_, _], _ => rfl)
 have D_uses_fault : Zat K mg "uses_fault" Zcd ["ahead", "piece"] := Zau X G a17 l17 c17 k17 (Binds.all fun us hl => match us, hl with | [_, _], _ => rfl)
 have D_joined_steps : Zat K mg "joined_steps" ZbC ["pieces"] := Zau X G a18 l18 c18 k18 (Binds.all fun us hl => match us, hl with | [_], _ => rfl)
 have D__law_next : Zat K mg "_law_next" Zcw ["deck"] := Zau X G a19 l19 c19 k19 (Binds.all fun us hl => match us, hl with | [_], _ => rfl)
 have D__law_roll : Zat K mg "_law_roll" Zcx ["cells"] := Zau X G a20 l20 c20 k20 (Binds.all fun us hl => match us, hl with | [_], _ => rfl)
 have D__law_behind : Zat K mg "_law_behind" ZbV ["deed", "place", "boxes", "held"] := Zau X G a21 l21 c21 k21 (Binds.all fun us hl => match us, hl with | [_, _, _, _], _ => rfl)
 have D__law_number : Zat K mg "_law_number" ZbT ["cell"] := Zau X G a22 l22 c22 k22 (Binds.all fun us hl => match us, hl with | [_], _ => rfl)
 have D__law_steps : Zat K mg "_law_steps" Zcc ["deck", "roll"] := Zau X G a23 l23 c23 k23 (Binds.all fun us hl => match us, hl with | [_, _], _ => rfl)
 have D__law_uses : Zat K mg "_law_uses" Zcv ["cells"] := Zau X G a24 l24 c24 k24 (Binds.all fun us hl => match us, hl with | [_], _ => rfl)
 have D__law_changed : Zat K mg "_law_changed" ZbB ["rows", "cell", "way"] := Zau X G a25 l25 c25 k25 (Binds.all fun us hl => match us, hl with | [_, _, _], _ => rfl)
 have D__law_cuts : Zat K mg "_law_cuts" Zcz ["deck", "low", "high", "way"] := Zau X G a26 l26 c26 k26 (Binds.all fun us hl => match us, hl with | [_, _, _, _], _ => rfl)
 have D__law_meets : Zat K mg "_law_meets" Zb9 ["whole", "parts", "begins"] := Zau X G a27 l27 c27 k27 (Binds.all fun us hl => match us, hl with | [_, _, _], _ => rfl)
 have D__law_steps_met : Zat K mg "_law_steps_met" Zbh ["roll", "steps", "cuts"] := Zau X G a28 l28 c28 k28 (Binds.all fun us hl => match us, hl with | [_, _, _], _ => rfl)
 have D__law_uses_met : Zat K mg "_law_uses_met" Zbt ["uses", "cuts"] := Zau X G a29 l29 c29 k29 (Binds.all fun us hl => match us, hl with | [_, _], _ => rfl)
 refine ⟨W.fnOf "law" "law" (Zar ZeR) (Zaj ZeR) (Zq ZeR) .none kV30 dc30 pm30 an30 cd30 ct30, fun s v => .of_eq rfl, fun base _ _ => ?_⟩
 have F_next_place := Zgk (P := l.prog) (w := w) (base := base) D_next_place T
 have F_worked := Zjx (P := l.prog) (w := w) (base := base) D_worked T
 have F_with_box := Zia (P := l.prog) (w := w) (base := base) D_with_box T
 have F_cell_value := Zgi (P := l.prog) (w := w) (base := base) D_cell_value T
 have F_next_boxes := Zgq (P := l.prog) (w := w) (base := base) D_next_boxes T F_worked F_with_box F_cell_value
 have F_is_within := Zhp (P := l.prog) (w := w) (base := base) D_is_within T
 have F_row_at := ZjD (P := l.prog) (w := w) (base := base) D_row_at T F_is_within
 have F_boxes_behind := ZfG (P := l.prog) (w := w) (base := base) D_boxes_behind T F_next_boxes F_with_box
 have F_step_fits := Zhv (P := l.prog) (w := w) (base := base) D_step_fits T F_next_place F_row_at F_boxes_behind
 have F_use_fits := Zh1 (P := l.prog) (w := w) (base := base) D_use_fits T
 have F_first_unfit_step := Zem (P := l.prog) (w := w) (base := base) D_first_unfit_step T F_step_fits
 have F_first_unfit_use := ZeJ (P := l.prog) (w := w) (base := base) D_first_unfit_use T F_use_fits
 have F_is_whole := ZhP (P := l.prog) (w := w) (base := base) D_is_whole T
 have F_refuse_bad_cuts := ZeI (P := l.prog) (w := w) (base := base) D_refuse_bad_cuts T F_is_whole
 have F_cut_steps := Zg1 (P := l.prog) (w := w) (base := base) D_cut_steps T F_refuse_bad_cuts
 have F_cut_uses := ZhB (P := l.prog) (w := w) (base := base) D_cut_uses T F_refuse_bad_cuts
 have F_steps_fault := Zgb (P := l.prog) (w := w) (base := base) D_steps_fault T F_first_unfit_step
 have F_uses_fault := ZgB (P := l.prog) (w := w) (base := base) D_uses_fault T F_first_unfit_use
 have F_joined_steps := ZfB (P := l.prog) (w := w) (base := base) D_joined_steps T
 have F__law_next := Zht (P := l.prog) (w := w) (base := base) D__law_next T
 have F__law_roll := Zhl (P := l.prog) (w := w) (base := base) D__law_roll T
 have F__law_behind := ZfV (P := l.prog) (w := w) (base := base) D__law_behind T
 have F__law_number := ZfY (P := l.prog) (w := w) (base := base) D__law_number T
 have F__law_steps := Zgt (P := l.prog) (w := w) (base := base) D__law_steps T F__law_next F__law_behind F__law_number
 have F__law_uses := Zhw (P := l.prog) (w := w) (base := base) D__law_uses T F__law_number
 have F__law_changed := ZfA (P := l.prog) (w := w) (base := base) D__law_changed T
 have F__law_cuts := Zhx (P := l.prog) (w := w) (base := base) D__law_cuts T F__law_next
 have F__law_meets := ZgA (P := l.prog) (w := w) (base := base) D__law_meets T
 have F__law_steps_met := ZeN (P := l.prog) (w := w) (base := base) D__law_steps_met T F_cut_steps F_steps_fault F_joined_steps F__law_meets
 have F__law_uses_met := Zfj (P := l.prog) (w := w) (base := base) D__law_uses_met T F_cut_uses F_uses_fault F__law_meets
 exact Zm5 (Zkg (st := ZeR) l30 c30 k30) T F__law_next F__law_roll F__law_steps F__law_uses F__law_changed F__law_cuts F__law_steps_met F__law_uses_met
end Law
open PySem PySem.W PyProof.Rows
set_option maxRecDepth 100000 in
set_option maxHeartbeats 0 in
theorem PySem.Challenge.cw_stepledger_k45_whole_pieces_and_whole_holds : PySem.Challenge.rw_stepledger_k45_whole_pieces_and_whole.Holds := by
 w_on; o_law; k_head; (case hw => w_witness2)
 k_fill
 refine L3.ZoI (l := PySem.Challenge.rw_stepledger_k45_whole_pieces_and_whole) (k := 8) (F := Law.Zjm) rfl rfl ⟨rfl, by decide, by decide⟩ (fun w h Y => W.kIn_of Y) ?G Law.law_holds
 case G =>
  intro w mg fa h KX G hmg
  refine' Law.Znt KX G hmg ?a0 ?l0 ?c0 ?k0 ?a1 ?l1 ?c1 ?k1 ?a2 ?l2 ?c2 ?k2 ?a3 ?l3 ?c3 ?k3 ?a4 ?l4 ?c4 ?k4 ?a5 ?l5 ?c5 ?k5 ?a6 ?l6 ?c6 ?k6 ?a7 ?l7 ?c7 ?k7 ?a8 ?l8 ?c8 ?k8 ?a9 ?l9 ?c9 ?k9 ?a10 ?l10 ?c10 ?k10 ?a11 ?l11 ?c11 ?k11 ?a12 ?l12 ?c12 ?k12 ?a13 ?l13 ?c13 ?k13 ?a14 ?l14 ?c14 ?k14 ?a15 ?l15 ?c15 ?k15 ?a16 ?l16 ?c16 ?k16 ?a17 ?l17 ?c17 ?k17 ?a18 ?l18 ?c18 ?k18 ?a19 ?l19 ?c19 ?k19 ?a20 ?l20 ?c20 ?k20 ?a21 ?l21 ?c21 ?k21 ?a22 ?l22 ?c22 ?k22 ?a23 ?l23 ?c23 ?k23 ?a24 ?l24 ?c24 ?k24 ?a25 ?l25 ?c25 ?k25 ?a26 ?l26 ?c26 ?k26 ?a27 ?l27 ?c27 ?k27 ?a28 ?l28 ?c28 ?k28 ?a29 ?l29 ?c29 ?k29 ?a30 ?l30 ?c30 ?k30 ?z_bool ?z_dict ?z_enumerate ?z_int ?z_isinstance ?z_len ?z_list ?z_range ?z_tuple ?z_zip
  (case a0 => k_is)
  (case l0 => k_is)
  (case c0 => k_is)
  (case k0 => k_is)
  (case a1 => k_is)
  (case l1 => k_is)
  (case c1 => k_is)
  (case k1 => k_is)
  (case a2 => k_is)
  (case l2 => k_is)
  (case c2 => k_is)
  (case k2 => k_is)
  (case a3 => k_is)
  (case l3 => k_is)
  (case c3 => k_is)
  (case k3 => k_is)
  (case a4 => k_is)
  (case l4 => k_is)
  (case c4 => k_is)
  (case k4 => k_is)
  (case a5 => k_is)
  (case l5 => k_is)
  (case c5 => k_is)
  (case k5 => k_is)
  (case a6 => k_is)
  (case l6 => k_is)
  (case c6 => k_is)
  (case k6 => k_is)
  (case a7 => k_is)
  (case l7 => k_is)
  (case c7 => k_is)
  (case k7 => k_is)
  (case a8 => k_is)
  (case l8 => k_is)
  (case c8 => k_is)
  (case k8 => k_is)
  (case a9 => k_is)
  (case l9 => k_is)
  (case c9 => k_is)
  (case k9 => k_is)
  (case a10 => k_is)
  (case l10 => k_is)
  (case c10 => k_is)
  (case k10 => k_is)
  (case a11 => k_is)
  (case l11 => k_is)
  (case c11 => k_is)
  (case k11 => k_is)
  (case a12 => k_is)
  (case l12 => k_is)
  (case c12 => k_is)
  (case k12 => k_is)
  (case a13 => k_is)
  (case l13 => k_is)
  (case c13 => k_is)
  (case k13 => k_is)
  (case a14 => k_is)
  (case l14 => k_is)
  (case c14 => k_is)
  (case k14 => k_is)
  (case a15 => k_is)
  (case l15 => k_is)
  (case c15 => k_is)
  (case k15 => k_is)
  (case a16 => k_is)
  (case l16 => k_is)
  (case c16 => k_is)
  (case k16 => k_is)
  (case a17 => k_is)
  (case l17 => k_is)
  (case c17 => k_is)
  (case k17 => k_is)
  (case a18 => k_is)
  (case l18 => k_is)
  (case c18 => k_is)
  (case k18 => k_is)
  (case a19 => k_is)
  (case l19 => k_is)
  (case c19 => k_is)
  (case k19 => k_is)
  (case a20 => k_is)
  (case l20 => k_is)
  (case c20 => k_is)
  (case k20 => k_is)
  (case a21 => k_is)
  (case l21 => k_is)
  (case c21 => k_is)
  (case k21 => k_is)
  (case a22 => k_is)
  (case l22 => k_is)
  (case c22 => k_is)
  (case k22 => k_is)
  (case a23 => k_is)
  (case l23 => k_is)
  (case c23 => k_is)
  (case k23 => k_is)
  (case a24 => k_is)
  (case l24 => k_is)
  (case c24 => k_is)
  (case k24 => k_is)
  (case a25 => k_is)
  (case l25 => k_is)
  (case c25 => k_is)
  (case k25 => k_is)
  (case a26 => k_is)
  (case l26 => k_is)
  (case c26 => k_is)
  (case k26 => k_is)
  (case a27 => k_is)
  (case l27 => k_is)
  (case c27 => k_is)
  (case k27 => k_is)
  (case a28 => k_is)
  (case l28 => k_is)
  (case c28 => k_is)
  (case k28 => k_is)
  (case a29 => k_is)
  (case l29 => k_is)
  (case c29 => k_is)
  (case k29 => k_is)
  (case a30 => k_is)
  (case l30 => k_is)
  (case c30 => k_is)
  (case k30 => k_is)
  (case z_bool => k_is)
  (case z_dict => k_is)
  (case z_enumerate => k_is)
  (case z_int => k_is)
  (case z_isinstance => k_is)
  (case z_len => k_is)
  (case z_list => k_is)
  (case z_range => k_is)
  (case z_tuple => k_is)
  (case z_zip => k_is)
