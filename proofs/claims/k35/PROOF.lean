import PyProof.Rows.All
import Wide.All
import OpenK.AllK
import Wide.FinOn
import Lean
import PyProof.EqAt
import PyProof.EqKinds
import PyProof.TupleCall
import PySem.Challenge.RW_stepledger_k35_whole_runs_fit
set_option compiler.extract_closed false
set_option Elab.async false
set_option linter.all false
set_option maxRecDepth 100000
namespace L2
open PySem PySem.Spec PyProof.Rows
noncomputable abbrev Key:=Sum Int Str
noncomputable def Zhn:Key → Value → Bool
 | .inl k,v=>Value.isInt k v
 | .inr x,v=>Value.isStrOf x v
noncomputable def Zsz (w:World):Key → Int
 | .inl k=>hashInt k
 | .inr x=>hashStr w x
theorem Zbl:∀ {k:Key} {v:Value},Zhn k v = true → (∃ i t,k = Sum.inl i ∧ v = Value.int i t) ∨ (∃ x t,k = Sum.inr x ∧ v = Value.str x t)
 | .inl i,v,h=>by
  obtain ⟨t,e⟩:=Value.isInt_shape (k:=i) (v:=v) h
  exact .inl ⟨i,t,rfl,e⟩
 | .inr x,v,h=>by
  obtain ⟨t,e⟩:=Value.isStrOf_shape (x:=x) (v:=v) h
  exact .inr ⟨x,t,rfl,e⟩
theorem Zl0 (i:Int) (t:Tok):Zhn (.inl i) (.int i t) = true:=by simp [Zhn,Value.isInt]
theorem Zl9 (x:Str) (t:Tok):Zhn (.inr x) (.str x t) = true:=by simp [Zhn,Value.isStrOf]
theorem Zqt (a b:Int):decide ((Sum.inl a:Key) = Sum.inl b) = (a == b):=by
 by_cases e:a = b
 ·subst e; simp
 ·have h:¬ (Sum.inl a:Key) = Sum.inl b:=fun q=>e (Sum.inl.inj q)
  rw [decide_eq_false h]
  exact (beq_eq_false_iff_ne.mpr e).symm
theorem ZpX (a b:Str):decide ((Sum.inr a:Key) = Sum.inr b) = decide (a = b):=by
 by_cases e:a = b
 ·subst e; simp
 ·have h:¬ (Sum.inr a:Key) = Sum.inr b:=fun q=>e (Sum.inr.inj q)
  rw [decide_eq_false h,decide_eq_false e]
theorem Zps (a:Int) (b:Str):decide ((Sum.inl a:Key) = Sum.inr b) = false:=decide_eq_false (fun q=>nomatch q)
theorem Zpe (a:Str) (b:Int):decide ((Sum.inr a:Key) = Sum.inl b) = false:=decide_eq_false (fun q=>nomatch q)
noncomputable def ZaP (prog:Program) (w:World):PySem.KeyKind prog w Key where
 is:=Zhn
 hash:=Zsz w
 inj:=fun v a b ha hb=>by
  rcases Zbl ha with ⟨i,t,rfl,rfl⟩ | ⟨x,t,rfl,rfl⟩
  ·rcases Zbl hb with ⟨j,u,rfl,e⟩ | ⟨y,u,rfl,e⟩
   ·injection e with e1 _; rw [e1]
   ·exact nomatch e
  ·rcases Zbl hb with ⟨j,u,rfl,e⟩ | ⟨y,u,rfl,e⟩
   ·exact nomatch e
   ·injection e with e1 _; rw [e1]
 byValue:=fun k v h=>by
  rcases Zbl h with ⟨i,t,rfl,rfl⟩ | ⟨x,t,rfl,rfl⟩ <;> rfl
 pyHash:=fun hv h=>by
  rcases Zbl hv with ⟨i,t,rfl,rfl⟩ | ⟨x,t,rfl,rfl⟩
  ·exact wpAny_pyHash_int h
  ·exact wpAny_pyHash_str h
 eqBool:=fun hu hv h=>by
  rcases Zbl hu with ⟨i,t,rfl,rfl⟩ | ⟨x,t,rfl,rfl⟩
  ·rcases Zbl hv with ⟨j,u,rfl,rfl⟩ | ⟨y,u,rfl,rfl⟩
   ·rw [Zqt] at h; exact wpAny_eqBool_int h
   ·rw [Zps] at h; exact SeqAt.EqAt.int_str i t y u _ _ _ _ h
  ·rcases Zbl hv with ⟨j,u,rfl,rfl⟩ | ⟨y,u,rfl,rfl⟩
   ·rw [Zpe] at h; exact SeqAt.EqAt.str_int x t j u _ _ _ _ h
   ·rw [ZpX] at h; exact wpAny_eqBool_str h
 «strs»:=fun k x t v h=>by
  rcases Zbl h with ⟨i,u,rfl,e⟩ | ⟨y,u,rfl,e⟩
  ·exact nomatch e
  ·injection e with e1 _
   subst e1
   cases v <;> rfl
theorem Zlc (prog:Program) (w:World) (k:Key) (v:Value):(ZaP prog w).is k v = Zhn k v:=rfl
theorem Zj4 (prog:Program) (w:World) (i:Int) (t:Tok):(ZaP prog w).is (.inl i) (.int i t) = true:=Zl0 i t
theorem Zj6 (prog:Program) (w:World) (x:Str) (t:Tok):(ZaP prog w).is (.inr x) (.str x t) = true:=Zl9 x t
end L2
namespace L2
open PySem PySem.Spec PyProof.Rows
inductive V where
 | non | bl (b:Bool) | int (i:Int) | str (x:Str) | byt (b:Array UInt8) | flt (b:UInt64) | ref (a:Addr) | ty (n:String)
 deriving DecidableEq
noncomputable def RelV:V → Value → Prop
 | .non,u=>u = Value.none
 | .bl b,u=>u = Value.bool b
 | .int i,u=>∃ t,u = Value.int i t
 | .str x,u=>∃ t,u = Value.str x t
 | .byt b,u=>∃ t,u = Value.bytes b t
 | .flt b,u=>∃ t,u = Value.float b t
 | .ref a,u=>u = Value.ref a
 | .ty n,u=>u = Value.type n
noncomputable abbrev Vals:List V → List Value → Prop:=Paired RelV
theorem Vals.length {xs:List V} {us:List Value} (r:Vals xs us):xs.length = us.length:=Paired.length r
theorem Vals.get:∀ {xs:List V} {us:List Value} {i:Nat} {x:V},Vals xs us → xs[i]? = some x → ∃ u,us[i]? = some u ∧ RelV x u
 | _,_,_,_,.nil,e=>by simp at e
 | _,_,0,_,.cons r _,e=>by simp at e; subst e; exact ⟨_,rfl,r⟩
 | _,_,i + 1,x,.cons _ t,e=>by
  obtain ⟨u,h1,h2⟩:=Vals.get (i:=i) (x:=x) t (by simpa using e)
  exact ⟨u,by simpa using h1,h2⟩
theorem Vals.set {x:V} {u:Value} (r:RelV x u):∀ {xs:List V} {us:List Value} (i:Nat),Vals xs us → Vals (xs.set i x) (us.set i u)
 | _,_,_,.nil=>.nil
 | _,_,0,.cons _ t=>.cons r t
 | _,_,i + 1,.cons q t=>.cons q (Vals.set r i t)
theorem Vals.append:∀ {xs ys:List V} {us ws:List Value},Vals xs us → Vals ys ws → Vals (xs ++ ys) (us ++ ws)
 | _,_,_,_,.nil,s=>s
 | _,_,_,_,.cons r t,s=>.cons r (Vals.append t s)
theorem Vals.take:∀ {xs:List V} {us:List Value} (n:Nat),Vals xs us → Vals (xs.take n) (us.take n)
 | _,_,0,_=>.nil
 | _,_,_ + 1,.nil=>.nil
 | _,_,n + 1,.cons r t=>.cons r (Vals.take n t)
theorem Vals.drop:∀ {xs:List V} {us:List Value} (n:Nat),Vals xs us → Vals (xs.drop n) (us.drop n)
 | _,_,0,r=>r
 | _,_,_ + 1,.nil=>.nil
 | _,_,n + 1,.cons _ t=>Vals.drop n t
noncomputable def ZgI:Option V → Option Value → Prop
 | some v,some u=>RelV v u
 | none,none=>True
 | _,_=>False
noncomputable def KV {κ:Type}:List (κ × V) → List (κ × Value) → Prop:=Paired fun (p:κ × V) (q:κ × Value)=>p.1 = q.1 ∧ RelV p.2 q.2
noncomputable def kV:Key → V
 | .inl i=>.int i
 | .inr x=>.str x
inductive HO where
 /-- a list -/
 | lst (xs:List V)
 /-- a tuple (never changes) -/
 | tup (xs:List V)
 /-- a dict whose keys are ints and texts; one whose keys are tuples of ints and texts (the empty one is both) -/
 | dK (kvs:List (Key × V)) | dT (kvs:List (List Key × V))
 /-- a set of ints: its members,its size -/
 | set (S:Int → Bool) (n:Nat)
 /-- an instance of the class at C,its dict at dx,its attributes -/
 | ins (C dx:Addr) (fs:List (Str × V))
 /-- the dict of the instance at x -/
 | own (x:Addr)
 /-- the dict of an exception -/
 | xd (fs:List (Str × V))
 /-- a bound method,f of x -/
 | met (f x:Addr)
 /-- a range object lo,lo + 1,.. below hi -/
 | rng (lo hi:Int)
 /-- a thing that is known to the object (the script; a dict while a loop walks it): read,never written while it is so -/
 | frz (o:Obj) (u:HO)
 /-- a code object's table -/
 | tbl (ps:Array Value)
 /-- any other thing,by what is true of its one object (a def of one's own: SetO a S n:=HO.ext fun h=>..) -/
 | ext (φ:Heap → Prop)
noncomputable abbrev Hp:=Addr → Option HO
noncomputable def upd (H:Hp) (a:Addr) (o:HO):Hp:=fun b=>if b = a then some o else H b
theorem ZbO {H:Hp} {a:Addr} {o:HO}:upd H a o a = some o:=by unfold upd; rw [if_pos rfl]
theorem Zap {H:Hp} {a b:Addr} {o:HO} (h:b ≠ a):upd H a o b = H b:=by unfold upd; rw [if_neg h]
theorem Ziu {H:Hp} {a b:Addr} {o u:HO} (h:H a = some o) (h':H b = some u) (d:o ≠ u):a ≠ b:=by
 intro e; subst e; rw [h] at h'; exact d (Option.some.inj h')
theorem ZdX {H:Hp} {a b:Addr} {o:HO} (h:H a = some o) (h':H b = none):a ≠ b:=by
 intro e; subst e; rw [h] at h'; cases h'
section
variable (P:Program) (w:World)
noncomputable def ZdS (h:Heap) (a:Addr) (items:Array Value):Prop:=∃ o,h.get? a = some o ∧ (o.cls = .type "tuple" ∧ o.dict = none) ∧ ∃ n,o.data = .seq items n
theorem ZdS.tup {h:Heap} {a:Addr} {items:Array Value} (x:ZdS h a items):IsTup h a items:=let ⟨o,e,c,d⟩:=x; ⟨o,e,c.1,d⟩
theorem ZdS.new (h:Heap) (items:Array Value):ZdS (h.push { cls:=.type "tuple",data:=.seq items }) h.objs.size items:=⟨_,Heap.get?_push_size _ rfl,⟨rfl,rfl⟩,0,rfl⟩
noncomputable def ZbG (H:Hp) (h:Heap) (a:Addr):HO → Prop
 | .lst xs=>xs.length ≤ sizeLine ∧ ∃ (its:List Value) (n:Nat),Vals xs its ∧ h.get? a = some { cls:=.type "list",data:=.seq its.toArray n }
 | .tup xs=>xs.length ≤ sizeLine ∧ ∃ its:List Value,Vals xs its ∧ ZdS h a its.toArray
 | .dK kvs=>kvs.length ≤ sizeLine ∧ (a == sysModules) = false ∧ ∃ vs,KV kvs vs ∧ h.DictOf (ZaP P w) a vs
 | .dT kvs=>kvs.length ≤ sizeLine ∧ (a == sysModules) = false ∧ ∃ xs:List (List Key × Addr × Value),
   Paired (fun (p:List Key × V) (q:List Key × Addr × Value)=>p.1 = q.1 ∧ H q.2.1 = some (.tup (p.1.map kV)) ∧ RelV p.2 q.2.2) kvs xs ∧
   ∃ o es ep,h.get? a = some o ∧ o.ExactDict ∧ o.data = .dict es ep ∧ es.toList = xs.map (entryOfKey (tupleKind (ZaP P w))) ∧ (xs.map (·.1)).Nodup
 | .set S n=>h.SetOf (intKind P w) a S n
 | .ins C dx fs=>H dx = some (.own a) ∧ fs.length ≤ 1000 ∧ dx ≠ a ∧ h.get? a = some (PySem.W.instObj C dx) ∧
   ∃ mA,h.Ns1 dx mA ∧ (∀ f,ZgI (fs.lookup f) (mA f)) ∧ PySem.Within mA (fs.map (·.1))
 | .own _=>∃ o,h.get? a = some o
 | .xd fs=>∃ mA,h.Ns1 a mA ∧ ∀ f,ZgI (fs.lookup f) (mA f)
 | .rng lo hi=>∃ t u v,h.get? a = some { cls:=.type "range",data:=.fields #[.int lo t,.int hi u,.int 1 v] }
 | .frz o u=>h.get? a = some o ∧ ZbG H h a u
 | .tbl ps=>h.get? a = some { cls:=.none,data:=.fields ps }
 | .met f x=>h.get? a = some (PySem.W.methodObj (.ref f) (.ref x))
 | .ext φ=>φ h ∧ (∃ o,h.get? a = some o) ∧ ∀ h1 h2:Heap,φ h1 → (∀ o,h1.get? a = some o → h2.get? a = some o) → φ h2
noncomputable def HOk (H:Hp) (h:Heap):Prop:=∀ a o,H a = some o → ZbG P w H h a o
end
section
variable {P:Program} {w:World} {H H':Hp} {h h':Heap} {a:Addr} {o:HO}
theorem ZbG.lt (x:ZbG P w H h a o):a < h.objs.size:=by
 cases o with
 | lst xs=>obtain ⟨_,_,_,_,e⟩:=x; exact Heap.lt_size e
 | tup xs=>obtain ⟨_,_,_,p⟩:=x; exact p.tup.lt
 | dK kvs=>obtain ⟨_,_,_,_,o,_,_,e,_⟩:=x; exact Heap.lt_size e
 | dT kvs=>obtain ⟨_,_,_,_,o,_,_,e,_⟩:=x; exact Heap.lt_size e
 | set S n=>obtain ⟨o,_,_,_,e,_⟩:=x; exact Heap.lt_size e
 | ins C dx fs=>obtain ⟨_,_,_,e,_⟩:=x; exact Heap.lt_size e
 | own y=>obtain ⟨_,e⟩:=x; exact Heap.lt_size e
 | xd fs=>obtain ⟨_,⟨_,_,_,e,_⟩,_⟩:=x; exact Heap.lt_size e
 | rng lo hi=>obtain ⟨_,_,_,e⟩:=x; exact Heap.lt_size e
 | frz ob u=>obtain ⟨e,_⟩:=x; exact Heap.lt_size e
 | tbl ps=>exact Heap.lt_size (show h.get? a = some _ from x)
 | met f y=>exact Heap.lt_size (show h.get? a = some _ from x)
 | ext φ=>obtain ⟨_,⟨_,e⟩,_⟩:=x; exact Heap.lt_size e
theorem Paired.mapP {α β:Type} {F G:α → β → Prop}:∀ {l₁:List α} {l₂:List β},Paired F l₁ l₂ → (∀ a b,F a b → G a b) → Paired G l₁ l₂
 | _,_,.nil,_=>.nil
 | _,_,.cons r t,f=>.cons (f _ _ r) (Paired.mapP t f)
theorem ZbG.stay (x:ZbG P w H h a o) (k:∀ b u,(b = a ∨ H b = some (.own a)) → h.get? b = some u → h'.get? b = some u)
  (ho:∀ b,H b = some (.own a) → H' b = some (.own a)) (ht:∀ b xs,H b = some (.tup xs) → H' b = some (.tup xs)):ZbG P w H' h' a o:=by
 induction o with
 | lst xs=>obtain ⟨z,its,n,r,e⟩:=x; exact ⟨z,its,n,r,k _ _ (.inl rfl) e⟩
 | tup xs=>obtain ⟨z,its,r,ob,e,c⟩:=x; exact ⟨z,its,r,ob,k _ _ (.inl rfl) e,c⟩
 | dK kvs=>obtain ⟨z,y,vs,r,ob,es,ep,e,c⟩:=x; exact ⟨z,y,vs,r,ob,es,ep,k _ _ (.inl rfl) e,c⟩
 | dT kvs=>
  obtain ⟨z,y,xs,r,ob,es,ep,e,c⟩:=x
  exact ⟨z,y,xs,Paired.mapP r fun p q z=>⟨z.1,ht _ _ z.2.1,z.2.2⟩,ob,es,ep,k _ _ (.inl rfl) e,c⟩
 | set S n=>obtain ⟨ob,es,ep,t,e,c⟩:=x; exact ⟨ob,es,ep,t,k _ _ (.inl rfl) e,c⟩
 | ins C dx fs=>
  obtain ⟨d,z,ne,e,mA,⟨od,es,ep,e2,c⟩,r⟩:=x
  exact ⟨ho _ d,z,ne,k _ _ (.inl rfl) e,mA,⟨od,es,ep,k _ _ (.inr d) e2,c⟩,r⟩
 | own y=>obtain ⟨ob,e⟩:=x; exact ⟨ob,k _ _ (.inl rfl) e⟩
 | xd fs=>obtain ⟨mA,⟨od,es,ep,e,c⟩,r⟩:=x; exact ⟨mA,⟨od,es,ep,k _ _ (.inl rfl) e,c⟩,r⟩
 | rng lo hi=>obtain ⟨t,u,v,e⟩:=x; exact ⟨t,u,v,k _ _ (.inl rfl) e⟩
 | frz ob u ih=>obtain ⟨e,q⟩:=x; exact ⟨k _ _ (.inl rfl) e,ih q⟩
 | tbl ps=>
  have e:h.get? a = some { cls:=.none,data:=.fields ps }:=x
  show h'.get? a = some { cls:=.none,data:=.fields ps }
  exact k a _ (.inl rfl) e
 | met f y=>
  have e:h.get? a = some (PySem.W.methodObj (.ref f) (.ref y)):=x
  show h'.get? a = some (PySem.W.methodObj (.ref f) (.ref y))
  exact k a _ (.inl rfl) e
 | ext φ=>obtain ⟨p,⟨o,e⟩,st⟩:=x; exact ⟨st _ _ p fun o q=>k _ _ (.inl rfl) q,⟨o,k _ _ (.inl rfl) e⟩,st⟩
theorem HOk.lt (x:HOk P w H h) (e:H a = some o):a < h.objs.size:=(x a o e).lt
theorem HOk.fresh (x:HOk P w H h) (e:h.objs.size ≤ a):H a = none:=by
 cases q:H a with
 | none=>rfl
 | some u=>exact absurd (Nat.lt_of_lt_of_le (x.lt q) e) (Nat.lt_irrefl _)
theorem HOk.kept (x:HOk P w H h) (k:∀ b u,h.get? b = some u → h'.get? b = some u):HOk P w H h':=fun a o e=>
 (x a o e).stay (fun b u _ q=>k b u q) (fun _ q=>q) fun _ _ q=>q
theorem HOk.laid (x:HOk P w H h) (k:∀ b u,h.get? b = some u → h'.get? b = some u) (hp:h.objs.size ≤ a) (new:ZbG P w (upd H a o) h' a o):HOk P w (upd H a o) h':=fun b u e=>by
 have hn:=x.fresh hp
 by_cases hb:b = a
 ·subst hb; rw [ZbO] at e; cases e; exact new
 ·rw [Zap hb] at e
  exact (x b u e).stay (fun c v _ q=>k c v q) (fun c q=>by rw [Zap (ZdX q hn)]; exact q) fun c xs q=>by rw [Zap (ZdX q hn)]; exact q
end
noncomputable def Rd (H:Hp) (a:Addr) (u:HO):Prop:=H a = some u ∨ ∃ o,H a = some (.frz o u)
theorem Rd.ok {P:Program} {w:World} {H:Hp} {h:Heap} {a:Addr} {u:HO} (r:Rd H a u) (x:HOk P w H h):ZbG P w H h a u:=by
 rcases r with r | ⟨o,r⟩
 ·exact x a u r
 ·obtain ⟨_,q⟩:=x a _ r
  exact q
noncomputable def Mut:Option HO → Prop
 | some (.lst _)=>True
 | some (.dK _)=>True
 | some (.dT _)=>True
 | some (.set _ _)=>True
 | some (.ins _ _ _)=>True
 | some (.ext _)=>True
 | _=>False
section
variable {P:Program} {w:World} {H:Hp} {h h':Heap} {x e:Addr} {o':HO}
theorem HOk.write (ok:HOk P w H h) (mu:Mut (H x)) (he:e = x ∨ H e = some (.own x)) (k:∀ b u,b ≠ e → h.get? b = some u → h'.get? b = some u) (heo:∃ u,h'.get? e = some u)
  (new:ZbG P w (upd H x o') h' x o'):HOk P w (upd H x o') h':=fun b u q=>by
 have nown:∀ c y,H c = some (.own y) → c ≠ x:=fun c y r z=>by subst z; rw [r] at mu; exact mu
 have ntup:∀ c xs,H c = some (.tup xs) → c ≠ x:=fun c xs r z=>by subst z; rw [r] at mu; exact mu
 by_cases hb:b = x
 ·subst hb; rw [ZbO] at q; cases q; exact new
 ·rw [Zap hb] at q
  by_cases hbe:b = e
  ·have q':H b = some (.own x):=by
    rcases he with z | z
    ·exact absurd (hbe.trans z) hb
    ·rw [hbe]; exact z
   rw [q] at q'; cases q'
   obtain ⟨v,hv⟩:=heo
   exact ⟨v,by rw [hbe]; exact hv⟩
  ·refine (ok b u q).stay (fun c v hc r=>k c v ?_ r) (fun c r=>by rw [Zap (nown c b r)]; exact r) fun c xs r=>by rw [Zap (ntup c xs r)]; exact r
   rcases hc with rfl | hc
   ·exact hbe
   ·rintro rfl
    rcases he with z | z
    ·exact nown c b hc z
    ·rw [hc] at z; cases z; exact hb rfl
end
structure Un (fs ex:List Addr) (H H':Hp) (h h':Heap):Prop where
 keep:∀ b o,h.get? b = some o → H b = none → b ∉ fs → b ∉ ex → h'.get? b = some o
 slot:∀ b o,h.get? b = some o → H b = none → b ∈ fs → b ∉ ex → ∃ sl,h'.get? b = some { o with slots:=sl }
 free:∀ b o,h.get? b = some o → H b = none → b ∉ ex → H' b = none
 there:∀ b o,h.get? b = some o → b ∉ ex → ∃ o',h'.get? b = some o'
 tups:∀ b xs,H b = some (.tup xs) → H' b = some (.tup xs)
 frzs:∀ b o u,H b = some (.frz o u) → H' b = some (.frz o u)
 tbls:∀ b ps,H b = some (.tbl ps) → ∃ more,H' b = some (.tbl (ps ++ more))
section
variable {fs fs' ex ex':List Addr} {H H1 H2:Hp} {h h1 h2 h':Heap} {a x e:Addr} {o:HO}
theorem Un.any (u:Un fs ex H H1 h h1) {b:Addr} {ob:Obj} (q:h.get? b = some ob) (n:H b = none) (hx:b ∉ ex):∃ sl,h1.get? b = some { ob with slots:=sl }:=by
 by_cases hb:b ∈ fs
 ·exact u.slot b ob q n hb hx
 ·exact ⟨ob.slots,u.keep b ob q n hb hx⟩
theorem Un.kept (k:∀ b u,h.get? b = some u → h'.get? b = some u):Un fs ex H H h h':=
 ⟨fun b ob q _ _ _=>k b ob q,fun b ob q _ _ _=>⟨ob.slots,k b ob q⟩,fun _ _ _ n _=>n,fun b ob q _=>⟨ob,k b ob q⟩,fun _ _ q=>q,fun _ _ _ q=>q,fun _ ps q=>⟨#[],by rw [q]; simp⟩⟩
theorem Un.refl:Un fs ex H H h h:=Un.kept fun _ _ q=>q
theorem Un.laid (k:∀ b u,h.get? b = some u → h'.get? b = some u) (hp:h.objs.size ≤ a) (hn:H a = none):Un fs ex H (upd H a o) h h' where
 keep:=fun b u q _ _ _=>k b u q
 slot:=fun b u q _ _ _=>⟨u.slots,k b u q⟩
 free:=fun b u q n _=>by rw [Zap (Nat.ne_of_lt (Nat.lt_of_lt_of_le (Heap.lt_size q) hp))]; exact n
 there:=fun b u q _=>⟨u,k b u q⟩
 tups:=fun b xs q=>by rw [Zap (ZdX q hn)]; exact q
 frzs:=fun b u xs q=>by rw [Zap (ZdX q hn)]; exact q
 tbls:=fun b ps q=>⟨#[],by rw [Zap (ZdX q hn),q]; simp⟩
theorem Un.write (mu:Mut (H x)) (he:e = x ∨ H e = some (.own x)) (k:∀ b u,b ≠ e → h.get? b = some u → h'.get? b = some u) (heo:∃ u,h'.get? e = some u):Un fs ex H (upd H x o) h h':=by
 have hx:∀ b,H b = none → b ≠ x:=fun b n z=>by subst z; rw [n] at mu; exact mu
 have hb:∀ b,H b = none → b ≠ e:=fun b n z=>by
  subst z
  rcases he with r | r
  ·exact hx b n r
  ·rw [n] at r; cases r
 have hm:∀ b u,H b = some u → ¬ Mut (some u) → b ≠ x:=fun b u q nm z=>by subst z; rw [q] at mu; exact nm mu
 refine ⟨fun b u q n _ _=>k b u (hb b n) q,fun b u q n _ _=>⟨u.slots,k b u (hb b n) q⟩,fun b u q n _=>by rw [Zap (hx b n)]; exact n,fun b u q _=>?_,
  fun b xs q=>by rw [Zap (hm b _ q fun z=>z)]; exact q,fun b u xs q=>by rw [Zap (hm b _ q fun z=>z)]; exact q,fun b ps q=>⟨#[],by rw [Zap (hm b _ q fun z=>z),q]; simp⟩⟩
 by_cases hbe:b = e
 ·subst hbe; exact heo
 ·exact ⟨u,k b u hbe q⟩
end
noncomputable def trk (h:Heap) (H:Hp):List Addr:=(List.range h.objs.size).filter fun a=>(H a).isSome
noncomputable def Zi7 (h:Heap) (H:Hp):Heap:=PySem.W.hideAll h (trk h H)
theorem Zl4 (h:Heap) (H:Hp):(Zi7 h H).objs.size = h.objs.size:=PySem.W.hideAll_size _ _
theorem ZnD {h:Heap} {H:Hp} {b:Addr} {o:Obj} (e:h.get? b = some o) (n:H b = none):(Zi7 h H).get? b = some o:=
 PySem.W.hideAll_get _ e fun hm=>by
  have q:(H b).isSome = true:=(List.mem_filter.mp hm).2
  rw [n] at q; simp at q
theorem Zob {h:Heap} {H:Hp} {b:Addr} {o:Obj} (e:(Zi7 h H).get? b = some o):h.get? b = some o ∧ H b = none:=by
 have e':h.get? b = some o:=PySem.W.of_hideAll (trk h H) e
 refine ⟨e',?_⟩
 cases q:H b with
 | none=>rfl
 | some x=>
  have hm:b ∈ trk h H:=List.mem_filter.mpr ⟨List.mem_range.mpr (Heap.lt_size e'),by simp [q]⟩
  have z:(Zi7 h H).get? b = none:=PySem.W.hideAll_none (trk h H) hm
  rw [z] at e; cases e
noncomputable def Zor (g h:Heap) (L:Addr):List (Addr × Obj):=(List.range h.objs.size).filterMap fun a=>if a = L ∨ (g.get? a).isSome = true then none else (h.get? a).map fun o=>(a,o)
noncomputable def rest (g h:Heap) (L d:Addr):List (Addr × Obj):=(Zor g h L).filter fun p=>decide (p.1 ≠ d)
end L2
namespace L2
open PySem PySem.Spec PyProof.Rows
structure Mod (K:PySem.W.Frag) (mg:Str → Option Value) (base:Heap):Prop where
 kin:K.In base
 glob:base.Ns mainGlobals mg
 blt:∃ mb,base.Ns builtinsNs mb ∧ ∀ x:Str,x ≠ "__name__" → mb x = bootBuiltins x
 nolimit:base.NoLimit
/-- the context: a def's body (or a comprehension's block) running. base: fixed through the whole law; s₀,H₀: the entry; outer: the frames whose slots others may change (a def's callers); stack: all frames that run;
  ex: iterators that were made ahead of the entry and are walked here (a comprehension's); fn: the names whose cells were made at the entry (a def: all; a comprehension's block: its own); calm: not within an except suite; pn: pins that every state bears; xe: what is wanted of an exception that leaves the code -/
structure Cx where
 prog:Program
 w:World
 K:PySem.W.Frag
 mg:Str → Option Value
 base:Heap
 A:Around
 N:List Str
 s₀:Shared
 H₀:Hp
 env:Env
 outer:List Env
 stack:List Env
 ex:List Addr
 fn:Str → Bool
 calm:Bool
 pn:List (Addr × Obj)
 xe:Value → Shared → Prop
noncomputable def frs (l:List Env):List Addr:=l.filterMap (·.frame)
noncomputable abbrev Cx.fs (X:Cx):List Addr:=frs X.outer
noncomputable def Vis (sc:Scope) (x:Str):Prop:=sc.names.lookup x = some .local ∨ sc.names.lookup x = some .cell ∨ sc.names.lookup x = some .free
noncomputable def Loc (sc:Scope) (x:Str):Prop:=sc.names.lookup x = some .local ∨ sc.names.lookup x = some .cell
noncomputable def Look (env:Env) (h:Heap) (m:Str → Option Value) (x:Str) (u:Value):Prop:=
 (env.kindOf x = some .local ∧ m x = some u) ∨ ((env.kindOf x = some .cell ∨ env.kindOf x = some .free) ∧ ∃ c,env.cells.lookup x = some c ∧ h.IsCell c (some u))
structure Cx.Ok (X:Cx):Prop where
 mod:Mod X.K X.mg X.base
 kind:X.env.scope.kind = .function
 glob:X.env.globals = mainGlobals
 blt:X.env.builtins = builtinsNs
 above:X.s₀.heap.objs.size ≤ X.env.locals
 inj:∀ x y c,X.env.cells.lookup x = some c → X.env.cells.lookup y = some c → x = y
 has:∀ x,(X.env.kindOf x = some .cell ∨ X.env.kindOf x = some .free) → ∃ c,X.env.cells.lookup x = some c
 cab:∀ x c,X.fn x = true → X.env.cells.lookup x = some c → X.s₀.heap.objs.size ≤ c
 hd:X.calm = true → X.A.handled = none
 frames:X.A.frames = some X.stack
 stk:X.stack = X.outer ∨ (X.stack = X.env :: X.outer ∧ X.env.frame = some X.env.locals)
 exf:∀ b ∈ X.ex,b ≠ X.env.locals ∧ ∀ x c,X.env.cells.lookup x = some c → c ≠ b
 bs:∀ b o,X.base.get? b = some o → X.s₀.heap.get? b = some o ∧ X.H₀ b = none
 bsz:X.base.objs.size ≤ X.s₀.heap.objs.size
 noex:∀ b o,X.base.get? b = some o → b ∉ X.ex
 exfs:∀ b ∈ X.ex,b ∉ X.fs
 funs:X.s₀.heap.FunFrames X.base X.outer
 frf:∀ b ∈ X.fs,X.H₀ b = none
structure Inv (X:Cx) (pins:List (Addr × Obj)) (σ:List (Option V)) (H:Hp) (s:Shared):Prop where
 ok:X.Ok
 os:s.os = X.s₀.os
 bare:AllBare s.gens
 base:Un X.fs X.ex X.H₀ H X.s₀.heap s.heap
 loc:∃ m,s.heap.Ns X.env.locals m ∧ ∀ (i:Nat) (x:Str) (v:V),X.N[i]? = some x → σ[i]? = some (some v) → Vis X.env.scope x → ∃ u,RelV v u ∧ Look X.env s.heap m x u
 cell:∀ x c,X.env.cells.lookup x = some c → ∃ v,s.heap.IsCell c v
 free:H X.env.locals = none
 freeC:∀ x c,X.env.cells.lookup x = some c → H c = none
 pin:∀ p ∈ X.pn ++ pins,s.heap.get? p.1 = some p.2 ∧ H p.1 = none ∧ p.1 ≠ X.env.locals ∧ p.1 ∉ X.fs ∧ ∀ v,p.2.data ≠ .cell v
 hok:HOk X.prog X.w H s.heap
 len:σ.length = X.N.length
section
variable {X:Cx} {pins:List (Addr × Obj)} {σ:List (Option V)} {H H':Hp} {s:Shared} {h':Heap}
theorem Cx.Ok.nofr (ok:X.Ok) {b:Addr} {o:Obj} (e:X.base.get? b = some o):b ∉ X.fs:=fun hb=>by
 have:=(ok.funs.mem hb).1
 rw [e] at this; cases this
theorem Inv.bs (I:Inv X pins σ H s):∀ b o,X.base.get? b = some o → s.heap.get? b = some o ∧ H b = none:=fun b o e=>
 ⟨I.base.keep b o (I.ok.bs b o e).1 (I.ok.bs b o e).2 (I.ok.nofr e) (I.ok.noex b o e),I.base.free b o (I.ok.bs b o e).1 (I.ok.bs b o e).2 (I.ok.noex b o e)⟩
theorem Inv.bk (I:Inv X pins σ H s):∀ b o,X.base.get? b = some o → s.heap.get? b = some o:=fun b o e=>(I.bs b o e).1
theorem Inv.mod (I:Inv X pins σ H s):Mod X.K X.mg X.base:=I.ok.mod
theorem Inv.kIn (I:Inv X pins σ H s):X.K.In s.heap:=I.ok.mod.kin.keeps I.bk
theorem Inv.nolimit (I:Inv X pins σ H s):s.heap.NoLimit:=I.ok.mod.nolimit.keeps I.bk
theorem Inv.lt (I:Inv X pins σ H s):X.env.locals < s.heap.objs.size:=let ⟨_,hn,_⟩:=I.loc; hn.lt
theorem Inv.sz (I:Inv X pins σ H s):X.s₀.heap.objs.size ≤ s.heap.objs.size:=Nat.le_trans I.ok.above (Nat.le_of_lt I.lt)
theorem Inv.nofs (I:Inv X pins σ H s) {a:Addr} (h:s.heap.objs.size ≤ a):a ∉ X.fs:=fun hb=>by
 obtain ⟨_,o,ho,_⟩:=I.ok.funs.mem hb
 exact absurd (Nat.lt_of_lt_of_le (Heap.lt_size ho) (Nat.le_trans I.sz h)) (Nat.lt_irrefl _)
theorem Inv.cne (I:Inv X pins σ H s):∀ x c,X.env.cells.lookup x = some c → c ≠ X.env.locals:=fun x c e z=>by
 obtain ⟨v,o,ho,hd⟩:=I.cell x c e
 obtain ⟨m,⟨o',es,ep,ho',hd',_⟩,_⟩:=I.loc
 rw [z,ho'] at ho; cases ho; rw [hd'] at hd; cases hd
theorem Inv.funs (I:Inv X pins σ H s):s.heap.FunFrames X.base X.outer:=by
 have all:∀ (l:List Env),(∀ b ∈ frs l,b ∈ X.fs) → X.s₀.heap.FunFrames X.base l → s.heap.FunFrames X.base l:=by
  intro l
  induction l with
  | nil=>intro _ _; trivial
  | cons env r ih=>
   intro hs hl
   obtain ⟨hk,⟨L,o,hf,hn,ho,hd⟩,hr⟩:=hl
   have hL:L ∈ X.fs:=hs L (by unfold frs; rw [List.filterMap_cons,hf]; exact List.mem_cons_self)
   obtain ⟨sl,e⟩:=I.base.slot L o ho (I.ok.frf L hL) hL fun z=>I.ok.exfs L z hL
   exact ⟨hk,⟨L,_,hf,hn,e,hd⟩,ih (fun b hb=>hs b (by unfold frs; rw [List.filterMap_cons,hf]; exact List.mem_cons_of_mem _ hb)) hr⟩
 exact all X.outer (fun _ hb=>hb) I.ok.funs
theorem Inv.stack (I:Inv X pins σ H s):s.heap.FunFrames X.base X.stack:=by
 rcases I.ok.stk with e | ⟨e,hf⟩
 ·rw [e]; exact I.funs
 ·rw [e]
  obtain ⟨m,hn,_⟩:=I.loc
  refine .cons (by rw [I.ok.kind]; decide) hf hn ?_ I.funs
  exact Heap.get?_none_of_le (Nat.le_trans I.ok.bsz I.ok.above)
theorem Inv.stkSub (I:Inv X pins σ H s):∀ b ∈ frs X.stack,b ∈ X.env.locals :: X.fs:=fun b hb=>by
 rcases I.ok.stk with e | ⟨e,hf⟩
 ·rw [e] at hb; exact List.mem_cons_of_mem _ hb
 ·rw [e] at hb
  unfold frs at hb
  rw [List.filterMap_cons,hf] at hb
  exact hb
theorem Inv.stkFree (I:Inv X pins σ H s):∀ b ∈ frs X.stack,H b = none:=fun b hb=>by
 rcases List.mem_cons.mp (I.stkSub b hb) with e | hb
 ·rw [e]; exact I.free
 ·obtain ⟨_,o,ho,_⟩:=I.ok.funs.mem hb
  exact I.base.free b o ho (I.ok.frf b hb) fun z=>I.ok.exfs b z hb
theorem Inv.step {g':Array GenState} {t':Nat} {d':Drawn} {ch:List Addr} (I:Inv X pins σ H s)
  (hch:∀ b ∈ ch,(b ∈ X.ex ∨ X.s₀.heap.objs.size ≤ b) ∧ b ≠ X.env.locals ∧ (∀ x c,X.env.cells.lookup x = some c → c ≠ b) ∧ ∀ p ∈ X.pn ++ pins,p.1 ≠ b)
  (keep:∀ b o,b ≠ X.env.locals → b ∉ X.fs → b ∉ ch → s.heap.get? b = some o → H b = none → h'.get? b = some o)
  (slot:∀ b o,b ≠ X.env.locals → b ∈ X.fs → b ∉ ch → s.heap.get? b = some o → H b = none → ∃ sl,h'.get? b = some { o with slots:=sl }) (free:∀ b o,b ∉ ch → s.heap.get? b = some o → H b = none → H' b = none)
  (there:∀ b o,b ∉ ch → s.heap.get? b = some o → ∃ o',h'.get? b = some o')
  (tups:∀ b xs,H b = some (.tup xs) → H' b = some (.tup xs)) (frzs:∀ b o u,H b = some (.frz o u) → H' b = some (.frz o u)) (tbls:∀ b ps,H b = some (.tbl ps) → ∃ more,H' b = some (.tbl (ps ++ more)))
  (ns:∀ m,s.heap.Ns X.env.locals m → h'.Ns X.env.locals m) (hok:HOk X.prog X.w H' h') (hg:AllBare g'):
  Inv X pins σ H' { s with heap:=h',gens:=g',drawn:=d',toks:=t' }:=by
 have neL:∀ b o,X.s₀.heap.get? b = some o → b ≠ X.env.locals:=fun b o e=>Nat.ne_of_lt (Nat.lt_of_lt_of_le (Heap.lt_size e) I.ok.above)
 have neC:∀ b o,X.s₀.heap.get? b = some o → b ∉ X.ex → b ∉ ch:=fun b o e hx hb=>by
  rcases (hch b hb).1 with z | z
  ·exact hx z
  ·exact absurd (Nat.lt_of_lt_of_le (Heap.lt_size e) z) (Nat.lt_irrefl _)
 have cellK:∀ x c,X.env.cells.lookup x = some c → ∀ v,s.heap.IsCell c v → h'.IsCell c v:=fun x c e v ⟨o,ho,hd⟩=>by
  have nch:c ∉ ch:=fun z=>(hch c z).2.2.1 x c e rfl
  by_cases hc:c ∈ X.fs
  ·obtain ⟨sl,q⟩:=slot c o (I.cne x c e) hc nch ho (I.freeC x c e)
   exact ⟨_,q,hd⟩
  ·exact ⟨o,keep c o (I.cne x c e) hc nch ho (I.freeC x c e),hd⟩
 refine ⟨I.ok,I.os,hg,⟨fun b o e n hb hx=>?_,fun b o e n hb hx=>?_,fun b o e n hx=>?_,fun b o e hx=>?_,fun b xs e=>tups b xs (I.base.tups b xs e),fun b o xs e=>frzs b o xs (I.base.frzs b o xs e),fun b ps e=>?_⟩,?_,fun x c e=>?_,?_,fun x c e=>?_,fun p hp=>?_,hok,I.len⟩
 ·exact keep b o (neL b o e) hb (neC b o e hx) (I.base.keep b o e n hb hx) (I.base.free b o e n hx)
 ·obtain ⟨sl,e1⟩:=I.base.slot b o e n hb hx
  obtain ⟨sl',e2⟩:=slot b _ (neL b o e) hb (neC b o e hx) e1 (I.base.free b o e n hx)
  exact ⟨sl',e2⟩
 ·obtain ⟨o',e1⟩:=I.base.there b o e hx
  exact free b o' (neC b o e hx) e1 (I.base.free b o e n hx)
 ·obtain ⟨o',e1⟩:=I.base.there b o e hx
  exact there b o' (neC b o e hx) e1
 ·obtain ⟨m1,e1⟩:=I.base.tbls b ps e
  obtain ⟨m2,e2⟩:=tbls b _ e1
  exact ⟨m1 ++ m2,by rw [e2,Array.append_assoc]⟩
 ·obtain ⟨m,hn,hl⟩:=I.loc
  refine ⟨m,ns m hn,fun i x v e1 e2 e3=>?_⟩
  obtain ⟨u,r,l⟩:=hl i x v e1 e2 e3
  refine ⟨u,r,?_⟩
  rcases l with l | ⟨k,c,e,z⟩
  ·exact .inl l
  ·exact .inr ⟨k,c,e,cellK x c e _ z⟩
 ·obtain ⟨v,z⟩:=I.cell x c e
  exact ⟨v,cellK x c e v z⟩
 ·obtain ⟨m,⟨o,_,_,ho,_⟩,_⟩:=I.loc
  exact free _ o (fun z=>(hch _ z).2.1 rfl) ho I.free
 ·obtain ⟨v,o,ho,hd⟩:=I.cell x c e
  exact free c o (fun z=>(hch c z).2.2.1 x c e rfl) ho (I.freeC x c e)
 ·obtain ⟨e,n,ne,nf,d⟩:=I.pin p hp
  have nch:p.1 ∉ ch:=fun z=>(hch p.1 z).2.2.2 p hp rfl
  exact ⟨keep p.1 p.2 ne nf nch e n,free p.1 p.2 nch e n,ne,nf,d⟩
theorem Inv.un {t':Nat} (I:Inv X pins σ H s) (u:Un X.fs [] H H' s.heap h') (hok:HOk X.prog X.w H' h'):Inv X pins σ H' { s with heap:=h',toks:=t' }:=by
 obtain ⟨m,⟨o,es,ep,ho,r⟩,_⟩:=id I.loc
 obtain ⟨sl,hL⟩:=u.any ho I.free (by simp)
 exact I.step (g':=s.gens) (d':=s.drawn) (ch:=[]) (fun _ z=>nomatch z) (fun b o _ hb _ e n=>u.keep b o e n hb (by simp)) (fun b o _ hb _ e n=>u.slot b o e n hb (by simp)) (fun b o _ e n=>u.free b o e n (by simp)) (fun b o _ e=>u.there b o e (by simp)) u.tups u.frzs u.tbls (fun m' hm=>by
  obtain ⟨o',es',ep',ho',r'⟩:=hm
  rw [ho] at ho'; cases ho'
  exact ⟨_,es',ep',hL,r'⟩) hok I.bare
theorem Inv.call {g':Array GenState} {t':Nat} {d':Drawn} {ch:List Addr} (I:Inv X pins σ H s) (u:Un (frs X.stack) ch H H' s.heap h') (hok:HOk X.prog X.w H' h') (hg:AllBare g')
  (hch:∀ b ∈ ch,(b ∈ X.ex ∨ X.s₀.heap.objs.size ≤ b) ∧ b ≠ X.env.locals ∧ (∀ x c,X.env.cells.lookup x = some c → c ≠ b) ∧ ∀ p ∈ X.pn ++ pins,p.1 ≠ b):
  Inv X pins σ H' { s with heap:=h',gens:=g',drawn:=d',toks:=t' }:=by
 obtain ⟨m,⟨o,es,ep,ho,r⟩,_⟩:=id I.loc
 obtain ⟨sl,hL⟩:=u.any ho I.free fun z=>(hch _ z).2.1 rfl
 exact I.step (ch:=ch) hch (fun b o hL hb hc e n=>u.keep b o e n (fun z=>(List.mem_cons.mp (I.stkSub b z)).elim hL hb) hc) (fun b o _ _ hc e n=>u.any e n hc) (fun b o hc e n=>u.free b o e n hc) (fun b o hc e=>u.there b o e hc) u.tups u.frzs u.tbls (fun m' hm=>by
  obtain ⟨o',es',ep',ho',r'⟩:=hm
  rw [ho] at ho'; cases ho'
  exact ⟨_,es',ep',hL,r'⟩) hok hg
theorem Inv.turned {t':Nat} {it:Addr} (I:Inv X pins σ H s) (k:∀ b o,b ≠ it → s.heap.get? b = some o → h'.get? b = some o) (hn:H it = none) (hL:it ≠ X.env.locals)
  (h1:it ∈ X.ex ∨ X.s₀.heap.objs.size ≤ it) (h2:∀ x c,X.env.cells.lookup x = some c → c ≠ it) (h3:∀ p ∈ X.pn ++ pins,p.1 ≠ it):Inv X pins σ H { s with heap:=h',toks:=t' }:=by
 have nit:∀ b u,H b = some u → b ≠ it:=fun b u e z=>by rw [z,hn] at e; cases e
 refine I.step (g':=s.gens) (d':=s.drawn) (ch:=[it]) (fun b hb=>?_) (fun b o _ _ hc e _=>k b o (fun z=>hc (by simp [z])) e) (fun b o _ _ hc e _=>⟨o.slots,k b o (fun z=>hc (by simp [z])) e⟩) (fun _ _ _ _ n=>n)
  (fun b o hc e=>⟨o,k b o (fun z=>hc (by simp [z])) e⟩) (fun _ _ e=>e) (fun _ _ _ e=>e) (fun b ps e=>⟨#[],by rw [e]; simp⟩) (fun m hm=>?_) (fun b u e=>?_) I.bare
 ·have e:b = it:=by simpa using hb
  subst e
  exact ⟨h1,hL,h2,h3⟩
 ·obtain ⟨o,es,ep,ho,r⟩:=hm
  exact ⟨o,es,ep,k _ o (Ne.symm hL) ho,r⟩
 ·refine (I.hok b u e).stay (fun c v hc q=>k c v ?_ q) (fun _ q=>q) fun _ _ q=>q
  rcases hc with z | z
  ·rw [z]; exact nit b u e
  ·exact nit c _ z
theorem Inv.tok (I:Inv X pins σ H s) (t:Nat):Inv X pins σ H { s with toks:=t }:=I.un (h':=s.heap) (t':=t) Un.refl I.hok
theorem Inv.kept {t':Nat} (I:Inv X pins σ H s) (k:∀ b u,s.heap.get? b = some u → h'.get? b = some u):Inv X pins σ H { s with heap:=h',toks:=t' }:=I.un (Un.kept k) (I.hok.kept k)
theorem Inv.laid {a:Addr} {o:HO} {t':Nat} (I:Inv X pins σ H s) (k:∀ b u,s.heap.get? b = some u → h'.get? b = some u) (hp:s.heap.objs.size ≤ a) (new:ZbG X.prog X.w (upd H a o) h' a o):
  Inv X pins σ (upd H a o) { s with heap:=h',toks:=t' }:=I.un (Un.laid k hp (I.hok.fresh hp)) (I.hok.laid k hp new)
theorem Inv.write {x e:Addr} {o:HO} {t':Nat} (I:Inv X pins σ H s) (mu:Mut (H x)) (he:e = x ∨ H e = some (.own x)) (k:∀ b u,b ≠ e → s.heap.get? b = some u → h'.get? b = some u) (heo:∃ u,h'.get? e = some u)
  (new:ZbG X.prog X.w (upd H x o) h' x o):Inv X pins σ (upd H x o) { s with heap:=h',toks:=t' }:=I.un (Un.write mu he k heo) (I.hok.write mu he k heo new)
theorem Inv.pins_of {pins':List (Addr × Obj)} (I:Inv X pins σ H s) (h:∀ p ∈ pins',s.heap.get? p.1 = some p.2 ∧ H p.1 = none ∧ p.1 ≠ X.env.locals ∧ p.1 ∉ X.fs ∧ ∀ v,p.2.data ≠ .cell v):Inv X pins' σ H s:=
 ⟨I.ok,I.os,I.bare,I.base,I.loc,I.cell,I.free,I.freeC,fun p hp=>(List.mem_append.mp hp).elim (fun z=>I.pin p (List.mem_append_left _ z)) (h p),I.hok,I.len⟩
theorem ZjO {N:List Str} (hN:N.Nodup) {i j:Nat} {x:Str} (a:N[i]? = some x) (b:N[j]? = some x):i = j:=by
 obtain ⟨h1,e1⟩:=List.getElem?_eq_some_iff.mp a
 obtain ⟨h2,e2⟩:=List.getElem?_eq_some_iff.mp b
 exact (List.getElem_inj hN).mp (e1.trans e2.symm)
theorem ZiC {M:Model} {A:Around} {E:Value → Shared → Prop} {i:Nat} {x:Str} {v:V} {u:Value} {Q:Unit → Shared → Prop} (I:Inv X pins σ H s) (hN:X.N.Nodup) (hi:X.N[i]? = some x) (hx:Loc X.env.scope x) (r:RelV v u)
  (h:∀ s',Inv X pins (σ.set i (some v)) H s' → (∃ a,Heap.SameBut a s.heap s'.heap ∧ (a = X.env.locals ∨ X.env.cells.lookup x = some a)) → Q () s') (hf:X.fn x = true ∨ X.env.scope.names.lookup x = some .local:=by first | exact .inl rfl | exact .inr rfl | assumption):wpAny M A (storeName X.env x u) Q E s:=by
 obtain ⟨m,hn,hl⟩:=id I.loc
 have hcls:(X.env.scope.kind == .class || (X.env.scope.kind == .module && X.env.locals != X.env.globals)) = false:=by rw [I.ok.kind]; rfl
 have hiσ:i < σ.length:=by rw [I.len]; exact (List.getElem?_eq_some_iff.mp hi).1
 have cne:=I.cne
 have tracked:∀ {a:Addr} {h':Heap},(∃ o,s.heap.get? a = some o ∧ H a = none) → Heap.SameBut a s.heap h' → HOk X.prog X.w H h':=fun {a h'} ha hs b ob e=>by
  obtain ⟨_,_,hfree⟩:=ha
  refine (I.hok b ob e).stay (fun c w' hc q=>(hs.2 c ?_).trans q) (fun _ q=>q) fun _ _ q=>q
  rintro rfl
  rcases hc with rfl | hc
  ·rw [hfree] at e; cases e
  ·rw [hfree] at hc; cases hc
 rcases hx with hk | hk
 ·refine wpAny_storeName_local hk hn (fun h' hn' hs=>?_) hcls
  obtain ⟨oL,_,_,hoL,_⟩:=id hn
  refine h _ ⟨I.ok,I.os,I.bare,⟨fun b o e n hb hx=>?_,fun b o e n hb hx=>?_,I.base.free,fun b o e hx=>?_,I.base.tups,I.base.frzs,I.base.tbls⟩,⟨_,hn',fun j y v' e1 e2 e3=>?_⟩,fun y c e=>?_,I.free,I.freeC,fun p hp=>?_,tracked ⟨oL,hoL,I.free⟩ hs,by simpa using I.len⟩ ⟨_,hs,.inl rfl⟩
  ·exact (hs.2 b (Nat.ne_of_lt (Nat.lt_of_lt_of_le (Heap.lt_size e) I.ok.above))).trans (I.base.keep b o e n hb hx)
  ·obtain ⟨sl,e1⟩:=I.base.slot b o e n hb hx
   exact ⟨sl,(hs.2 b (Nat.ne_of_lt (Nat.lt_of_lt_of_le (Heap.lt_size e) I.ok.above))).trans e1⟩
  ·obtain ⟨o',e1⟩:=I.base.there b o e hx
   exact ⟨o',(hs.2 b (Nat.ne_of_lt (Nat.lt_of_lt_of_le (Heap.lt_size e) I.ok.above))).trans e1⟩
  ·by_cases hj:j = i
   ·subst hj
    rw [hi] at e1; cases e1
    rw [List.getElem?_set_self hiσ] at e2
    cases e2
    exact ⟨u,r,.inl ⟨hk,by simp⟩⟩
   ·rw [List.getElem?_set_ne (Ne.symm hj)] at e2
    obtain ⟨u',r',q⟩:=hl j y v' e1 e2 e3
    refine ⟨u',r',?_⟩
    rcases q with ⟨k,e⟩ | ⟨k,c,e,z⟩
    ·refine .inl ⟨k,?_⟩
     have:y ≠ x:=fun e=>hj (ZjO hN e1 (e ▸ hi))
     simp [this,e]
    ·exact .inr ⟨k,c,e,z.sameBut hs (cne y c e)⟩
  ·obtain ⟨w',z⟩:=I.cell y c e
   exact ⟨w',z.sameBut hs (cne y c e)⟩
  ·obtain ⟨e,n,ne,nf,d⟩:=I.pin p hp
   exact ⟨(hs.2 p.1 ne).trans e,n,ne,nf,d⟩
 ·have hfn:X.fn x = true:=by
   rcases hf with z | z
   ·exact z
   ·rw [z] at hk; cases hk
  obtain ⟨c,hc⟩:=I.ok.has x (.inl hk)
  obtain ⟨w',z⟩:=I.cell x c hc
  refine wpAny_storeName_cell I.ok.kind hk hc z (fun h' hc' hs=>?_)
  obtain ⟨oc,hoc,hocd⟩:=id z
  refine h { s with heap:=h' } ⟨I.ok,I.os,I.bare,⟨fun b o e n hb hx=>?_,fun b o e n hb hx=>?_,I.base.free,fun b o e hx=>?_,I.base.tups,I.base.frzs,I.base.tbls⟩,⟨m,hn.sameBut hs (Ne.symm (cne x c hc)),fun j y v' e1 e2 e3=>?_⟩,fun y c' e=>?_,I.free,I.freeC,fun p hp=>?_,tracked ⟨oc,hoc,I.freeC x c hc⟩ hs,by simpa using I.len⟩ ⟨c,hs,.inr hc⟩
  ·exact (hs.2 b (Nat.ne_of_lt (Nat.lt_of_lt_of_le (Heap.lt_size e) (I.ok.cab x c hfn hc)))).trans (I.base.keep b o e n hb hx)
  ·obtain ⟨sl,e1⟩:=I.base.slot b o e n hb hx
   exact ⟨sl,(hs.2 b (Nat.ne_of_lt (Nat.lt_of_lt_of_le (Heap.lt_size e) (I.ok.cab x c hfn hc)))).trans e1⟩
  ·obtain ⟨o',e1⟩:=I.base.there b o e hx
   exact ⟨o',(hs.2 b (Nat.ne_of_lt (Nat.lt_of_lt_of_le (Heap.lt_size e) (I.ok.cab x c hfn hc)))).trans e1⟩
  ·by_cases hj:j = i
   ·subst hj
    rw [hi] at e1; cases e1
    rw [List.getElem?_set_self hiσ] at e2
    cases e2
    exact ⟨u,r,.inr ⟨.inl hk,c,hc,hc'⟩⟩
   ·rw [List.getElem?_set_ne (Ne.symm hj)] at e2
    obtain ⟨u',r',q⟩:=hl j y v' e1 e2 e3
    refine ⟨u',r',?_⟩
    rcases q with q | ⟨k,c',e,z'⟩
    ·exact .inl q
    ·refine .inr ⟨k,c',e,z'.sameBut hs ?_⟩
     rintro rfl
     exact hj (ZjO hN e1 (I.ok.inj _ _ _ e hc ▸ hi))
  ·by_cases hcc:c' = c
   ·subst hcc; exact ⟨_,hc'⟩
   ·obtain ⟨w2,z2⟩:=I.cell y c' e
    exact ⟨w2,z2.sameBut hs hcc⟩
  ·obtain ⟨e,n,ne,nf,d⟩:=I.pin p hp
   refine ⟨(hs.2 p.1 ?_).trans e,n,ne,nf,d⟩
   intro q
   rw [q,hoc] at e
   have q':oc = p.2:=Option.some.inj e
   exact d w' (by rw [← q']; exact hocd)
theorem ZjE {M:Model} {A:Around} {E:Value → Shared → Prop} {i:Nat} {x:Str} {v:V} {u:Value} {Q:Unit → Shared → Prop} (I:Inv X pins σ H s) (hN:X.N.Nodup) (hi:X.N[i]? = some x) (hx:Loc X.env.scope x) (r:RelV v u)
  (h:∀ s',Inv X pins (σ.set i (some v)) H s' → Q () s') (hf:X.fn x = true ∨ X.env.scope.names.lookup x = some .local:=by first | exact .inl rfl | exact .inr rfl | assumption):wpAny M A (storeName X.env x u) Q E s:=
 ZiC I hN hi hx r (fun s' I' _=>h s' I') hf
theorem Inv.call' {s':Shared} {ch:List Addr} (I:Inv X pins σ H s) (ho:s'.os = s.os) (u:Un (frs X.stack) ch H H' s.heap s'.heap) (hok:HOk X.prog X.w H' s'.heap) (hg:AllBare s'.gens)
  (hch:∀ b ∈ ch,(b ∈ X.ex ∨ X.s₀.heap.objs.size ≤ b) ∧ b ≠ X.env.locals ∧ (∀ x c,X.env.cells.lookup x = some c → c ≠ b) ∧ ∀ p ∈ X.pn ++ pins,p.1 ≠ b):Inv X pins σ H' s':=by
 obtain ⟨h',g',d',t',o'⟩:=s'
 have e:o' = s.os:=ho
 subst e
 exact I.call (g':=g') (t':=t') (d':=d') u hok hg hch
end
noncomputable abbrev XK:=Value → Option Addr → Hp → Prop
noncomputable abbrev St:=List (Option V)
noncomputable abbrev VK:=V → Hp → Prop
noncomputable abbrev TE:=St → Hp → VK → Prop
noncomputable abbrev TT:=St → Hp → (Bool → Hp → Prop) → Prop
noncomputable abbrev TA:=St → Hp → (List V → Hp → Prop) → Prop
structure Ends where
 nx:St → Hp → Prop
 rt:VK
 bk:St → Hp → Prop:=fun _ _=>False
 ct:St → Hp → Prop:=fun _ _=>False
noncomputable abbrev TS:=Ends → St → Hp → Prop
noncomputable def EP (X:Cx) (pins:List (Addr × Obj)) (σ:St) (Q:VK) (u:Value) (s':Shared):Prop:=∃ v H',Inv X pins σ H' s' ∧ RelV v u ∧ Q v H'
noncomputable def TP (X:Cx) (pins:List (Addr × Obj)) (σ:St) (Q:Bool → Hp → Prop) (b:Bool) (s':Shared):Prop:=∃ H',Inv X pins σ H' s' ∧ Q b H'
noncomputable def AP (X:Cx) (pins:List (Addr × Obj)) (σ:St) (Q:List V → Hp → Prop) (us:List Value) (s':Shared):Prop:=∃ vs H',Inv X pins σ H' s' ∧ Vals vs us ∧ Q vs H'
noncomputable def SP (X:Cx) (pins:List (Addr × Obj)) (D:Ends) (f:Flow) (s':Shared):Prop:=
 match f with
 | .next=>∃ σ' H',Inv X pins σ' H' s' ∧ D.nx σ' H'
 | .brk=>∃ σ' H',Inv X pins σ' H' s' ∧ D.bk σ' H'
 | .cont=>∃ σ' H',Inv X pins σ' H' s' ∧ D.ct σ' H'
 | .ret u=>∃ v σ' H',Inv X pins σ' H' s' ∧ RelV v u ∧ D.rt v H'
noncomputable def PE (X:Cx) (e:Expr) (t:TE):Prop:=
 ∀ (pins:List (Addr × Obj)) (s:Shared) (σ:St) (H:Hp) (Q:VK),Inv X pins σ H s → t σ H Q → wpAny (model X.prog X.w) X.A (eval e X.env) (EP X pins σ Q) X.xe s
noncomputable def PT (X:Cx) (e:Expr) (t:TT):Prop:=
 ∀ (pins:List (Addr × Obj)) (s:Shared) (σ:St) (H:Hp) (Q:Bool → Hp → Prop),Inv X pins σ H s → t σ H Q → wpAny (model X.prog X.w) X.A (isTrue e X.env (eval e X.env)) (TP X pins σ Q) X.xe s
noncomputable def PW (X:Cx) (e:Expr) (t:TT):Prop:=
 ∀ (whole:Sem Value) (pins:List (Addr × Obj)) (s:Shared) (σ:St) (H:Hp) (Q:Bool → Hp → Prop),Inv X pins σ H s → t σ H Q → wpAny (model X.prog X.w) X.A (isTrue e X.env whole) (TP X pins σ Q) X.xe s
theorem PW.pt {X:Cx} {e:Expr} {t:TT} (h:PW X e t):PT X e t:=h _
noncomputable def PA (X:Cx) (es:List Expr) (t:TA):Prop:=
 ∀ (pos:Pos) (pins:List (Addr × Obj)) (s:Shared) (σ:St) (H:Hp) (Q:List V → Hp → Prop),Inv X pins σ H s → t σ H Q → wpAny (model X.prog X.w) X.A (spliced (backTo pos (starEach es X.env))) (AP X pins σ Q) X.xe s
noncomputable def PS (X:Cx) (st:Stmt) (t:TS):Prop:=
 ∀ (pins:List (Addr × Obj)) (s:Shared) (σ:St) (H:Hp) (D:Ends),Inv X pins σ H s → t D σ H → wpAny (model X.prog X.w) X.A (exec st X.env) (SP X pins D) X.xe s
noncomputable def PSs (X:Cx) (st:List Stmt) (t:TS):Prop:=
 ∀ (pins:List (Addr × Obj)) (s:Shared) (σ:St) (H:Hp) (D:Ends),Inv X pins σ H s → t D σ H → wpAny (model X.prog X.w) X.A (execs st X.env) (SP X pins D) X.xe s
theorem thn {α:Type} {t:Sem α} {Q Q':α → Shared → Prop} {M:Model} {A:Around} {E:Value → Shared → Prop} {s:Shared} (h:wpAny M A t Q E s) (hQ:∀ a s,Q a s → Q' a s):wpAny M A t Q' E s:=wpAny_mono h hQ fun _ _ x=>x
end L2
namespace L2
open PySem PySem.Spec PyProof.Rows
section
variable {X:Cx}
theorem bin {a b:Expr} {ta tb:TE} (ha:PE X a ta) (hb:PE X b tb) {pins:List (Addr × Obj)} {s:Shared} {σ:St} {H:Hp} {R:V → V → Hp → Prop} (I:Inv X pins σ H s) (h:ta σ H fun x H1=>tb σ H1 fun y H2=>R x y H2)
  {α:Type} {Q:α → Shared → Prop} {f:Value → Value → Sem α}
  (hf:∀ v u s2 x y H2,Inv X pins σ H2 s2 → RelV x v → RelV y u → R x y H2 → wpAny (model X.prog X.w) X.A (f v u) Q X.xe s2):
  wpAny (model X.prog X.w) X.A (eval a X.env) (fun v s₁=>wpAny (model X.prog X.w) X.A (eval b X.env) (fun u s₂=>wpAny (model X.prog X.w) X.A (f v u) Q X.xe s₂) X.xe s₁) X.xe s:=by
 refine thn (ha pins s σ H _ I h) fun v s1 ⟨x,H1,I1,r1,q1⟩=>?_
 refine thn (hb pins s1 σ H1 _ I1 q1) fun u s2 ⟨y,H2,I2,r2,q2⟩=>?_
 exact hf v u s2 x y H2 I2 r1 r2 q2
noncomputable def ZsG (i:Nat):TE:=fun σ H Q=>∃ v,σ[i]? = some (some v) ∧ Q v H
noncomputable def tC (v:V):TE:=fun _ H Q=>Q v H
theorem ZpT {i:Nat} {x:Str} {pos:Pos} (hN:X.N[i]? = some x) (hv:Vis X.env.scope x) (hd:(x == ("__debug__":Str)) = false:=by decide) (hcd:(x == ("__classdict__":Str)) = false:=by decide):PE X (.Name x pos) (ZsG i):=by
 intro pins s σ H Q I h
 obtain ⟨v,e,h⟩:=h
 obtain ⟨m,hn,hl⟩:=I.loc
 obtain ⟨u,r,l⟩:=hl i x v hN e hv
 have fin:EP X pins σ Q u s:=⟨v,H,I,r,h⟩
 rcases l with ⟨hk,hm⟩ | ⟨hk,c,hc,hcell⟩
 ·exact wpAny_Name (wpAny_loadName_local I.ok.kind hk hn hm fin) hd
 ·rcases hk with hk | hk
  ·exact wpAny_Name (wpAny_loadName_cell I.ok.kind hk hc hcell fin) hd
  ·exact wpAny_Name (wpAny_loadName_free I.ok.kind hk hc hcell fin hcd) hd
theorem ZpQ {i j pos}:PE X (.Constant (.int i) j pos) (tC (.int i)):=fun _ _ _ H _ I h=>wpAny_Constant_int ⟨.int i,H,I.tok _,⟨_,rfl⟩,h⟩
theorem Zr1 {b j pos}:PE X (.Constant (.bool b) j pos) (tC (.bl b)):=fun _ _ _ H _ I h=>Constant_bool ⟨.bl b,H,I,rfl,h⟩
theorem Zpt {j pos}:PE X (.Constant .none j pos) (tC .non):=fun _ _ _ H _ I h=>Constant_none ⟨.non,H,I,rfl,h⟩
theorem ZqT {x j pos}:PE X (.Constant (.str x) j pos) (tC (.str x)):=fun _ _ _ H _ I h=>Calls.Constant_str ⟨.str x,H,I.tok _,⟨_,rfl⟩,h⟩
noncomputable def Gl (X:Cx) (x:Str):Prop:=X.env.kindOf x = some .globalImplicit
theorem Zn3 {E:Value → Shared → Prop} {pins:List (Addr × Obj)} {s:Shared} {σ:St} {H:Hp} {x:Str} {u:Value} {pos:Pos} {Q:Value → Shared → Prop} (I:Inv X pins σ H s) (hg:Gl X x) (hm:X.mg x = some u) (h:Q u s)
  (hd:(x == ("__debug__":Str)) = false:=by decide):wpAny (model X.prog X.w) X.A (eval (.Name x pos) X.env) Q E s:=
 Calls.Name_function_global I.ok.kind hg (Calls.loadGlobal_global (by rw [I.ok.glob]; exact I.mod.glob.keeps I.bk) hm h) hd
theorem Zjg {E:Value → Shared → Prop} {pins:List (Addr × Obj)} {s:Shared} {σ:St} {H:Hp} {x:Str} {u:Value} {pos:Pos} {Q:Value → Shared → Prop} (I:Inv X pins σ H s) (hg:Gl X x) (hm:X.mg x = none) (hv:bootBuiltins x = some u) (h:Q u s)
  (hn:x ≠ "__name__":=by decide) (hd:(x == ("__debug__":Str)) = false:=by decide):wpAny (model X.prog X.w) X.A (eval (.Name x pos) X.env) Q E s:=by
 obtain ⟨mb,h1,h2⟩:=I.mod.blt
 exact Calls.Name_function_global I.ok.kind hg (Calls.loadGlobal_builtin (by rw [I.ok.glob]; exact I.mod.glob.keeps I.bk) hm (by rw [I.ok.blt]; exact h1.keeps I.bk) ((h2 x hn).trans hv) h) hd
variable {a b:Expr} {ta tb:TE} {pos:Pos}
noncomputable def tB (t:TE):TT:=fun σ H Q=>t σ H fun x H1=>∃ c,x = .bl c ∧ Q c H1
theorem Zpl {e:Expr} {t:TE} (h:PE X e t) (he:∀ whole,isTrue e X.env whole = (do let v ← whole; standAt e.pos; holding [v] (truthy v)):=by intro _; rfl):PT X e (tB t):=by
 intro pins s σ H Q I hw
 refine isTrue_plain (thn (h pins s σ H _ I hw) fun v s1 ⟨x,H1,I1,r1,q1⟩=>?_) (he _)
 obtain ⟨d,rfl,q⟩:=q1
 cases r1
 exact wpAny_truthy_bool ⟨H1,I1,q⟩
variable {tA tB':TT} {rest:List Expr}
noncomputable def Zsy (t u:TT):TT:=fun σ H Q=>t σ H fun c H1=>if c = true then u σ H1 Q else Q false H1
noncomputable def tOr (t u:TT):TT:=fun σ H Q=>t σ H fun c H1=>if c = true then Q true H1 else u σ H1 Q
noncomputable def ZsK (t:TT):TT:=fun σ H Q=>t σ H fun c H1=>Q (!c) H1
theorem Zol (ha:PT X a tA):PW X (.BoolOp .And [a] pos) tA:=by
 intro wh pins s σ H Q I h
 refine isTrue_and (thn (ha pins s σ H Q I h) fun c s1 e=>?_)
 cases c with
 | true=>exact isTrue_and_nil e
 | false=>exact e
theorem ZpJ (ha:PT X a tA):PW X (.BoolOp .Or [a] pos) tA:=by
 intro wh pins s σ H Q I h
 refine isTrue_or (thn (ha pins s σ H Q I h) fun c s1 e=>?_)
 cases c with
 | false=>exact isTrue_or_nil e
 | true=>exact e
theorem ZqF (ha:PT X a tA) (hb:PW X (.BoolOp .And (b :: rest) pos) tB'):PW X (.BoolOp .And (a :: b :: rest) pos) (Zsy tA tB'):=by
 intro wh pins s σ H Q I h
 refine isTrue_and (thn (ha pins s σ H _ I h) fun c s1 ⟨H1,I1,q1⟩=>?_)
 cases c with
 | true=>exact hb wh pins s1 σ H1 Q I1 q1
 | false=>exact ⟨H1,I1,q1⟩
theorem ZrV (ha:PT X a tA) (hb:PW X (.BoolOp .Or (b :: rest) pos) tB'):PW X (.BoolOp .Or (a :: b :: rest) pos) (tOr tA tB'):=by
 intro wh pins s σ H Q I h
 refine isTrue_or (thn (ha pins s σ H _ I h) fun c s1 ⟨H1,I1,q1⟩=>?_)
 cases c with
 | true=>exact ⟨H1,I1,q1⟩
 | false=>exact hb wh pins s1 σ H1 Q I1 q1
theorem ZpK (ha:PT X a tA):PT X (.UnaryOp .Not a pos) (ZsK tA):=by
 intro pins s σ H Q I h
 exact isTrue_not (ha pins s σ H (fun c H1=>Q (!c) H1) I h)
noncomputable def Zr9 (ta tb:TE):TE:=fun σ H Q=>ta σ H fun x H1=>∃ c,x = .bl c ∧ if c = true then tb σ H1 Q else Q (.bl false) H1
theorem ZpW {op} {t:TE} (h:PE X a t):PE X (.BoolOp op [a] pos) t:=fun pins s σ H Q I hw=>BoolOp_one (h pins s σ H Q I hw)
theorem Zpo (ha:PE X a ta) (hb:PE X (.BoolOp .And (b :: rest) pos) tb):PE X (.BoolOp .And (a :: b :: rest) pos) (Zr9 ta tb):=by
 intro pins s σ H Q I h
 refine BoolOp_and (thn (ha pins s σ H _ I h) fun v s1 ⟨x,H1,I1,r1,q1⟩=>?_)
 obtain ⟨c,rfl,q1⟩:=q1
 cases r1
 refine wpAny_truthy_bool ?_
 cases c with
 | true=>exact hb pins s1 σ H1 Q I1 q1
 | false=>exact ⟨.bl false,H1,I1,rfl,q1⟩
noncomputable def tIf (t:TT) (ta tb:TE):TE:=fun σ H Q=>t σ H fun c H1=>if c = true then ta σ H1 Q else tb σ H1 Q
theorem Znp {c:Expr} (hc:PT X c tA) (ha:PE X a ta) (hb:PE X b tb):PE X (.IfExp c a b pos) (tIf tA ta tb):=by
 intro pins s σ H Q I h
 refine wpAny_IfExp (thn (hc pins s σ H _ I h) fun d s1 ⟨H1,I1,q1⟩=>?_)
 cases d with
 | true=>exact ha pins s1 σ H1 Q I1 q1
 | false=>exact hb pins s1 σ H1 Q I1 q1
end
end L2
namespace L2
open PySem PySem.Spec PyProof.Rows
noncomputable def SqL (K:PySem.W.Frag) (H:Hp) (a:Addr) (xs:List V):Prop:=
 Rd H a (.lst xs) ∨
  ∃ (o:Obj) (its:Array Value) (n:Nat),K.lookup a = some o ∧ o.cls = .type "list" ∧ o.dict = none ∧ o.data = .seq its n ∧ its.size ≤ sizeLine ∧ Vals xs its.toList
noncomputable def SqT (K:PySem.W.Frag) (H:Hp) (a:Addr) (xs:List V):Prop:=
 Rd H a (.tup xs) ∨
  ∃ (o:Obj) (its:Array Value) (n:Nat),K.lookup a = some o ∧ (o.cls = .type "tuple" ∧ o.dict = none) ∧ o.data = .seq its n ∧ its.size ≤ sizeLine ∧ Vals xs its.toList
noncomputable def Zsu:Value → Option V
 | .none=>some .non
 | .bool b=>some (.bl b)
 | .int i _=>some (.int i)
 | .str x _=>some (.str x)
 | .bytes b _=>some (.byt b)
 | .float b _=>some (.flt b)
 | .ref a=>some (.ref a)
 | .type n=>some (.ty n)
 | _=>none
theorem RelV.abs {x:V} {u:Value} (r:RelV x u):Zsu u = some x:=by
 cases x with
 | non=>cases r; rfl
 | bl _=>cases r; rfl
 | int _=>obtain ⟨t,rfl⟩:=r; rfl
 | str _=>obtain ⟨t,rfl⟩:=r; rfl
 | byt _=>obtain ⟨t,rfl⟩:=r; rfl
 | flt _=>obtain ⟨t,rfl⟩:=r; rfl
 | ref _=>cases r; rfl
 | ty _=>cases r; rfl
theorem RelV.inj {x y:V} {u:Value} (r:RelV x u) (q:RelV y u):x = y:=Option.some.inj (r.abs.symm.trans q.abs)
theorem Vals.inj:∀ {xs ys:List V} {us:List Value},Vals xs us → Vals ys us → xs = ys
 | _,_,_,.nil,.nil=>rfl
 | _,_,_,.cons r t,.cons r' t'=>by rw [r.inj r',Vals.inj t t']
section
variable {X:Cx} {pins:List (Addr × Obj)} {σ:St} {H:Hp} {s:Shared} {a:Addr} {xs ys:List V}
theorem SqL.of {K:PySem.W.Frag} (h:H a = some (.lst xs)):SqL K H a xs:=.inl (.inl h)
theorem SqT.of {K:PySem.W.Frag} (h:H a = some (.tup xs)):SqT K H a xs:=.inl (.inl h)
theorem Inv.list (I:Inv X pins σ H s) (h:SqL X.K H a xs):∃ its:List Value,Vals xs its ∧ PlainL s.heap a its.toArray ∧ xs.length ≤ sizeLine:=by
 rcases h with h | ⟨o,its,n,hk,hc,hd,hs,hz,r⟩
 ·obtain ⟨z,its,n,r,e⟩:=h.ok I.hok
  exact ⟨its,r,⟨_,n,e,rfl,rfl,rfl⟩,z⟩
 ·refine ⟨its.toList,r,⟨o,n,I.kIn a o hk,hc,hd,by simpa using hs⟩,?_⟩
  have e:=r.length
  simp only [Array.length_toList] at e
  omega
theorem Inv.tuple (I:Inv X pins σ H s) (h:SqT X.K H a xs):∃ its:List Value,Vals xs its ∧ IsTup s.heap a its.toArray ∧ xs.length ≤ sizeLine:=by
 rcases h with h | ⟨o,its,n,hk,hc,hs,hz,r⟩
 ·obtain ⟨z,its,r,p⟩:=h.ok I.hok
  exact ⟨its,r,p.tup,z⟩
 ·refine ⟨its.toList,r,⟨o,I.kIn a o hk,hc.1,n,by simpa using hs⟩,?_⟩
  have e:=r.length
  simp only [Array.length_toList] at e
  omega
theorem Inv.list_inj (I:Inv X pins σ H s) (h:SqL X.K H a xs) (h':SqL X.K H a ys):xs = ys:=by
 obtain ⟨its,r,⟨o,n,e,_,_,d⟩,_⟩:=I.list h
 obtain ⟨its',r',⟨o',n',e',_,_,d'⟩,_⟩:=I.list h'
 rw [e] at e'; cases e'
 rw [d] at d'
 injection d' with d1 _
 have:its = its':=by simpa using congrArg Array.toList d1
 subst this
 exact r.inj r'
theorem Inv.tupleN (I:Inv X pins σ H s) (h:SqT X.K H a xs):∃ its:List Value,Vals xs its ∧ ZdS s.heap a its.toArray ∧ xs.length ≤ sizeLine:=by
 rcases h with h | ⟨o,its,n,hk,hc,hs,hz,r⟩
 ·obtain ⟨z,its,r,p⟩:=h.ok I.hok; exact ⟨its,r,p,z⟩
 ·refine ⟨its.toList,r,⟨o,I.kIn a o hk,hc,n,by simpa using hs⟩,?_⟩; have e:=r.length; simp only [Array.length_toList] at e; omega
theorem Inv.tuple_inj (I:Inv X pins σ H s) (h:SqT X.K H a xs) (h':SqT X.K H a ys):xs = ys:=by
 obtain ⟨its,r,⟨o,e,_,n,d⟩,_⟩:=I.tuple h
 obtain ⟨its',r',⟨o',e',_,n',d'⟩,_⟩:=I.tuple h'
 rw [e] at e'; cases e'
 rw [d] at d'
 injection d' with d1 _
 have:its = its':=by simpa using congrArg Array.toList d1
 subst this
 exact r.inj r'
end
noncomputable abbrev Cx.wish (X:Cx) (E:Value → Shared → Prop):Cx:={ X with xe:=E }
noncomputable abbrev Cx.nox (X:Cx):Cx:=X.wish fun _ _=>False
theorem Cx.Ok.wish {X:Cx} (ok:X.Ok) (E:Value → Shared → Prop):(X.wish E).Ok:=
 ⟨ok.mod,ok.kind,ok.glob,ok.blt,ok.above,ok.inj,ok.has,ok.cab,ok.hd,ok.frames,ok.stk,ok.exf,ok.bs,ok.bsz,ok.noex,ok.exfs,ok.funs,ok.frf⟩
theorem Cx.Ok.unwish {X:Cx} {E:Value → Shared → Prop} (ok:(X.wish E).Ok):X.Ok:=
 ⟨ok.mod,ok.kind,ok.glob,ok.blt,ok.above,ok.inj,ok.has,ok.cab,ok.hd,ok.frames,ok.stk,ok.exf,ok.bs,ok.bsz,ok.noex,ok.exfs,ok.funs,ok.frf⟩
section
variable {X:Cx} {pins:List (Addr × Obj)} {σ:St} {H:Hp} {s:Shared} {E:Value → Shared → Prop}
theorem Inv.wish (I:Inv X pins σ H s) (E:Value → Shared → Prop):Inv (X.wish E) pins σ H s:=⟨I.ok.wish E,I.os,I.bare,I.base,I.loc,I.cell,I.free,I.freeC,I.pin,I.hok,I.len⟩
theorem Inv.unwish (I:Inv (X.wish E) pins σ H s):Inv X pins σ H s:=⟨I.ok.unwish,I.os,I.bare,I.base,I.loc,I.cell,I.free,I.freeC,I.pin,I.hok,I.len⟩
theorem SP.unwish {D:Ends} {f:Flow} {s':Shared} (h:SP (X.wish E) pins D f s'):SP X pins D f s':=by
 cases f with
 | next=>obtain ⟨σ',H',I,q⟩:=h; exact ⟨σ',H',I.unwish,q⟩
 | brk=>obtain ⟨σ',H',I,q⟩:=h; exact ⟨σ',H',I.unwish,q⟩
 | cont=>obtain ⟨σ',H',I,q⟩:=h; exact ⟨σ',H',I.unwish,q⟩
 | ret u=>obtain ⟨v,σ',H',I,r,q⟩:=h; exact ⟨v,σ',H',I.unwish,r,q⟩
theorem PSs.nox {st:List Stmt} {t:TS} (h:PSs X.nox st t):PSs X st t:=fun pins s σ H D I hw=>
 wpAny_mono (h pins s σ H D (I.wish _) hw) (fun _ _ q=>q.unwish) fun _ _ z=>False.elim z
end
section
variable {X:Cx} {st:Stmt} {rest:List Stmt} {t u:TS} {e:Expr} {te:TE} {pos:Pos}
noncomputable def Zrn:TS:=fun D σ H=>D.nx σ H
noncomputable def Zss (t u:TS):TS:=fun D σ H=>t { D with nx:=u D } σ H
theorem Zoq:PSs X [] Zrn:=fun _ _ σ H _ I h=>wpAny_execs_nil ⟨σ,H,I,h⟩
theorem ZmJ (h1:PS X st t) (h2:PSs X rest u):PSs X (st :: rest) (Zss t u):=by
 intro pins s σ H D I h
 refine wpAny_execs_cons (thn (h1 pins s σ H { D with nx:=u D } I h) fun f s1 q=>?_)
 cases f with
 | next=>
  obtain ⟨σ',H',I',q⟩:=q
  exact h2 pins s1 σ' H' D I' q
 | ret v=>exact q
 | brk=>exact q
 | cont=>exact q
theorem Zou (h1:PS X st t):PSs X [st] t:=by
 intro pins s σ H D I h
 refine wpAny_execs_cons (thn (h1 pins s σ H D I h) fun f s1 q=>?_)
 cases f with
 | next=>exact wpAny_execs_nil q
 | ret v=>exact q
 | brk=>exact q
 | cont=>exact q
theorem Inv.quiet {pins:List (Addr × Obj)} {σ:St} {H:Hp} {s:Shared} (I:Inv X pins σ H s):interactive X.env = false:=by simp [interactive,I.ok.kind]
noncomputable def Zr5 (te:TE):TS:=fun D σ H=>te σ H fun _ H1=>D.nx σ H1
theorem Zop (he:PE X e te) (hs:swapsWith e none pos.line X.env = pure false:=by rfl):PS X (.Expr e pos) (Zr5 te):=by
 intro pins s σ H D I h
 exact wpAny_Expr_any (thn (he pins s σ H _ I h) fun v s1 ⟨x,H1,I1,r1,q1⟩=>⟨σ,H1,I1,q1⟩) I.quiet hs
noncomputable def Zsq (te:TE):TS:=fun D σ H=>te σ H D.rt
theorem ZqU (he:PE X e te):PS X (.Return (some e) pos) (Zsq te):=by
 intro pins s σ H D I h
 exact wpAny_Return_some (thn (he pins s σ H _ I h) fun v s1 ⟨x,H1,I1,r1,q1⟩=>⟨x,σ,H1,I1,r1,q1⟩)
noncomputable def Zs7 (c:TT) (t u:TS):TS:=fun D σ H=>c σ H fun b H1=>if b = true then t D σ H1 else u D σ H1
theorem ZrE {c:Expr} {a b:List Stmt} {tc:TT} (hc:PT X c tc) (ha:PSs X a t) (hb:PSs X b u):PS X (.If c a b pos) (Zs7 tc t u):=by
 intro pins s σ H D I h
 refine wpAny_If (thn (hc pins s σ H _ I h) fun d s1 ⟨H1,I1,q1⟩=>?_)
 cases d with
 | true=>exact ha pins s1 σ H1 D I1 q1
 | false=>exact hb pins s1 σ H1 D I1 q1
end
noncomputable abbrev TG:=V → St → Hp → (St → Hp → Prop) → Prop
noncomputable abbrev TGs:=List V → St → Hp → (St → Hp → Prop) → Prop
noncomputable def PG (X:Cx) (target:Expr) (t:TG):Prop:=
 ∀ (pins:List (Addr × Obj)) (s:Shared) (σ:St) (H:Hp) (v:V) (u:Value) (Q:St → Hp → Prop),Inv X pins σ H s → RelV v u → t v σ H Q →
  wpAny (model X.prog X.w) X.A (assign target X.env u) (fun _ s'=>∃ σ' H',Inv X pins σ' H' s' ∧ Q σ' H') X.xe s
noncomputable def PGs (X:Cx) (ts:List Expr) (t:TGs):Prop:=
 ∀ (pins:List (Addr × Obj)) (s:Shared) (σ:St) (H:Hp) (vs:List V) (us:List Value) (Q:St → Hp → Prop),Inv X pins σ H s → Vals vs us → t vs σ H Q →
  wpAny (model X.prog X.w) X.A (assignInOrder ((assignEach ts X.env).map (·.2)) us) (fun _ s'=>∃ σ' H',Inv X pins σ' H' s' ∧ Q σ' H') X.xe s
noncomputable abbrev Zql:=V → V → V → Hp → (Hp → Prop) → Prop
noncomputable def ZrG (X:Cx) (t:Zql):Prop:=
 ∀ (pins:List (Addr × Obj)) (s:Shared) (σ:St) (H:Hp) (o i v:V) (ov iv u:Value) (Q:Hp → Prop),Inv X pins σ H s → RelV o ov → RelV i iv → RelV v u → t o i v H Q →
  wpAny (model X.prog X.w) X.A (setItem ov iv u) (fun _ s'=>∃ H',Inv X pins σ H' s' ∧ Q H') X.xe s
section
variable {X:Cx} {pos:Pos}
noncomputable def Zo6 (i:Nat):TG:=fun v σ H Q=>Q (σ.set i (some v)) H
theorem Zlj {i:Nat} {x:Str} (hN:X.N.Nodup) (hi:X.N[i]? = some x) (hx:Loc X.env.scope x) (hf:X.fn x = true ∨ X.env.scope.names.lookup x = some .local:=by first | exact .inl rfl | exact .inr rfl | assumption):PG X (.Name x pos) (Zo6 i):=by
 intro pins s σ H v u Q I r h
 exact wpAny_assign_Name (ZjE I hN hi hx r (fun s' I'=>⟨_,H,I',h⟩) hf)
noncomputable def ZsU:TGs:=fun vs σ H Q=>vs = [] ∧ Q σ H
noncomputable def ZrP (t:TG) (u:TGs):TGs:=fun vs σ H Q=>∃ v r,vs = v :: r ∧ t v σ H fun σ' H'=>u r σ' H' Q
theorem Zn8:PGs X [] ZsU:=by
 intro pins s σ H vs us Q I r h
 obtain ⟨e,h⟩:=h
 subst e
 cases r
 exact assignInOrder_nil ⟨σ,H,I,h⟩
theorem ZnF {e:Expr} {es:List Expr} {t:TG} {u:TGs} (h1:PG X e t) (h2:PGs X es u)
  (hs:(assignEach (e :: es) X.env).map (·.2) = assign e X.env :: (assignEach es X.env).map (·.2):=by rfl):PGs X (e :: es) (ZrP t u):=by
 intro pins s σ H vs us Q I r h
 obtain ⟨v,vr,e1,h⟩:=h
 subst e1
 cases r with
 | cons r rr=>
  rw [hs]
  refine assignInOrder_cons (thn (h1 pins s σ H _ _ _ I r h) fun _ s1 ⟨σ1,H1,I1,q1⟩=>?_)
  exact h2 pins s1 σ1 H1 _ _ Q I1 rr q1
noncomputable def ZsM (K:PySem.W.Frag) (n:Nat) (t:TGs):TG:=fun v σ H Q=>∃ a xs,v = .ref a ∧ SqT K H a xs ∧ xs.length = n ∧ t xs σ H Q
theorem ZqY {es:List Expr} {k:Nat} {t:TGs} {n:Nat} (hc:X.calm = true) (h:PGs X es t)
  (hn:(assignEach es X.env).length = n:=by rfl) (hst:(assignEach es X.env).findIdx? (·.1) = none:=by rfl):PG X (.Tuple es k pos) (ZsM X.K n t):=by
 intro pins s σ H v u Q I r hw
 obtain ⟨a,xs,e1,hq,hl,hw⟩:=hw
 subst e1
 cases r
 obtain ⟨its,rv,ht,hz⟩:=I.tuple hq
 refine assign_Tuple_tuple (I.ok.hd hc) ht (by simp [hn,← hl,rv.length]) hst fun h' hx=>?_
 have I1:Inv X pins σ H { s with heap:=h' }:=I.kept (t':=s.toks) fun b o e=>hx b o (Nat.ne_of_lt (Heap.lt_size e)) e
 exact h pins _ σ H xs _ Q I1 (by simpa using rv) hw
noncomputable def ZsJ (to ti:TE) (t:Zql):TG:=fun v σ H Q=>to σ H fun o H1=>ti σ H1 fun i H2=>t o i v H2 fun H3=>Q σ H3
theorem Zqq {o i:Expr} {to ti:TE} {t:Zql} (ho:PE X o to) (hi:PE X i ti) (hs:ZrG X t)
  (ha:∀ v,assign (.Subscript o i pos) X.env v = (do
   let ov ← holding [v] (eval o X.env)
   let iv ← holding [v,ov] (eval i X.env)
   standAt pos
   holding [v,ov,iv] (setItem ov iv v)
   release [v,ov,iv] []):=by intro _; rfl):PG X (.Subscript o i pos) (ZsJ to ti t):=by
 intro pins s σ H v u Q I r h
 rw [ha]
 refine wpAny_bind (wpAny_holding (thn (ho pins s σ H _ I h) fun ov s1 ⟨x,H1,I1,r1,q1⟩=>?_))
 refine wpAny_bind (wpAny_holding (thn (hi pins s1 σ H1 _ I1 q1) fun iv s2 ⟨y,H2,I2,r2,q2⟩=>?_))
 refine wpAny_bind (wpAny_standAt (wpAny_bind (wpAny_holding (thn (hs pins s2 σ H2 x y v ov iv u _ I2 r1 r2 r q2) fun _ s3 ⟨H3,I3,q3⟩=>?_))))
 exact wpAny_release ⟨σ,H3,I3,q3⟩
noncomputable def ZrB (te:TE) (g:TG):TS:=fun D σ H=>te σ H fun x H1=>g x σ H1 D.nx
theorem ZnH {tg e:Expr} {te:TE} {g:TG} (he:PE X e te) (hg:PG X tg g) (hs:swapsWithSole [tg] e pos.line X.env = pure false:=by rfl) (hw:swappedStores [tg] e X.env = pure none:=by rfl)
  (h1:(assignEach [tg] X.env).map (·.2) = [assign tg X.env]:=by rfl):PS X (.Assign [tg] e pos) (ZrB te g):=by
 intro pins s σ H D I h
 refine wpAny_Assign_stores (thn (he pins s σ H _ I h) fun v s1 ⟨x,H1,I1,r1,q1⟩=>?_) hs hw
 rw [h1]
 exact thn (hg pins s1 σ H1 x v _ I1 r1 q1) fun _ s2 q=>q
theorem Zqc {i:Nat} {x:Str} {e:Expr} {te:TE} {pos':Pos} (hN:X.N.Nodup) (hi:X.N[i]? = some x) (hx:Loc X.env.scope x) (he:PE X e te) (hs:swapsWith e (some (.Name x pos')) pos.line X.env = pure false:=by rfl) (hf:X.fn x = true ∨ X.env.scope.names.lookup x = some .local:=by first | exact .inl rfl | exact .inr rfl | assumption):
  PS X (.Assign [.Name x pos'] e pos) (ZrB te (Zo6 i)):=by
 intro pins s σ H D I h
 refine wpAny_Assign_Name (thn (he pins s σ H _ I h) fun v s1 ⟨y,H1,I1,r1,q1⟩=>?_) hs
 exact ZjE I1 hN hi hx r1 (fun s2 I2=>⟨_,H1,I2,q1⟩) hf
end
section
variable {X:Cx} {pos:Pos}
noncomputable def Zqg (c:TT) (tb:TS):TS:=fun D σ H=>∃ W:Nat → St → Hp → Prop,(∃ m,W m σ H) ∧ ∀ m σ H,W m σ H →
 c σ H fun b H1=>if b = true then ∃ N:St → Hp → Prop,(∀ σ' H',N σ' H' → ∃ m',m' < m ∧ W m' σ' H') ∧ tb { D with nx:=N,ct:=N,bk:=D.nx } σ H1 else D.nx σ H1
theorem Znq {c:Expr} {body:List Stmt} {tc:TT} {tb:TS} (hp:PassesOwn (model X.prog X.w) X.A X.env X.xe) (hc:PT X c tc) (hb:PSs X body tb):PS X (.While c body [] pos) (Zqg tc tb):=by
 intro pins s σ H D I h
 obtain ⟨W,⟨m0,w0⟩,turn⟩:=h
 refine wpAny_While (codeAny_whileLoop (fun n s'=>∃ σ' H',Inv X pins σ' H' s' ∧ W n σ' H') ?_ m0 ⟨σ,H,I,w0⟩)
 rintro n s1 ⟨σ1,H1,I1,w1⟩
 refine wpAny_passesOwn hp (thn (hc pins s1 σ1 H1 _ I1 (turn n σ1 H1 w1)) fun b s2 ⟨H2,I2,q2⟩=>?_)
 cases b with
 | true=>
  obtain ⟨N,hN,q2⟩:=q2
  rw [if_pos rfl]
  refine wpAny_passesOwn hp (thn (hb pins s2 σ1 H2 _ I2 q2) fun f s3 q3=>?_)
  cases f with
  | next=>
   obtain ⟨σ3,H3,I3,n3⟩:=q3
   obtain ⟨m',hm,w3⟩:=hN σ3 H3 n3
   exact ⟨m',hm,σ3,H3,I3,w3⟩
  | cont=>
   obtain ⟨σ3,H3,I3,n3⟩:=q3
   obtain ⟨m',hm,w3⟩:=hN σ3 H3 n3
   exact ⟨m',hm,σ3,H3,I3,w3⟩
  | brk=>exact q3
  | ret v=>exact q3
 | false=>
  rw [if_neg Bool.false_ne_true]
  exact wpAny_execs_nil ⟨σ1,H2,I2,q2⟩
end
structure It where
 go:Nat → Hp → Prop
 yld:Nat → Hp → V → Hp → Prop
 stop:Nat → Hp → Prop
noncomputable def Zf0 (X:Cx) (pins:List (Addr × Obj)) (H:Hp) (b:Addr):Prop:=
 H b = none ∧ b ≠ X.env.locals ∧ b ∉ X.fs ∧ (b ∈ X.ex ∨ X.s₀.heap.objs.size ≤ b) ∧ (∀ x c,X.env.cells.lookup x = some c → c ≠ b) ∧ ∀ p ∈ X.pn ++ pins,p.1 ≠ b
theorem Inv.fpOk {X:Cx} {pins:List (Addr × Obj)} {σ:St} {H H':Hp} {s:Shared} {b:Addr} (I:Inv X pins σ H s) (hb:s.heap.objs.size ≤ b) (hn:H' b = none):Zf0 X pins H' b:=by
 refine ⟨hn,Nat.ne_of_gt (Nat.lt_of_lt_of_le I.lt hb),I.nofs hb,.inr (Nat.le_trans I.sz hb),fun x c e z=>?_,fun p hp z=>?_⟩
 ·obtain ⟨v,q⟩:=I.cell x c e
  exact absurd (Nat.lt_of_lt_of_le q.lt (by rw [z]; exact hb)) (Nat.lt_irrefl _)
 ·exact absurd (Nat.lt_of_lt_of_le (Heap.lt_size (I.pin p hp).1) (by rw [z]; exact hb)) (Nat.lt_irrefl _)
structure Turn (P:Program) (w:World) (K:PySem.W.Frag) (tg:Expr) (J:It) (fp:List Addr) (it:Addr) (tn:Nat → Heap → Prop):Prop where
 mem:it ∈ fp
 obj:∀ i h,tn i h → ∀ b ∈ fp,∃ o,h.get? b = some o ∧ ∀ v,o.data ≠ .cell v
 keep:∀ i h h',tn i h → (∀ b ∈ fp,∀ o,h.get? b = some o → h'.get? b = some o) → tn i h'
 item:∀ (X:Cx),X.prog = P → X.w = w → X.K = K → X.calm = true → ∀ (i:Nat) (pins:List (Addr × Obj)) (s:Shared) (σ:St) (H:Hp) (E:Value → Shared → Prop),Inv X pins σ H s → (∀ b ∈ fp,Zf0 X pins H b) → tn i s.heap → J.go i H →
  wpAny (model P w) X.A (pyNext (.ref it)) (fun r s1=>∃ u,r = some u ∧
   wpAny (model P w) X.A (letOwnedTupleGo tg (.ref it) u) (fun _ s2=>∃ x H',Inv X pins σ H' s2 ∧ RelV x u ∧ J.yld i H x H' ∧ tn (i + 1) s2.heap ∧ ∀ b ∈ fp,H' b = none) E s1) E s
 done:∀ (X:Cx),X.prog = P → X.w = w → X.K = K → X.calm = true → ∀ (i:Nat) (pins:List (Addr × Obj)) (s:Shared) (σ:St) (H:Hp) (E:Value → Shared → Prop),Inv X pins σ H s → (∀ b ∈ fp,Zf0 X pins H b) → tn i s.heap → J.stop i H →
  wpAny (model P w) X.A (pyNext (.ref it)) (fun r s1=>r = none ∧ Inv X pins σ H s1) E s
 self:∀ (A:Around) (i:Nat) (s:Shared) (Q:Value → Shared → Prop) (E:Value → Shared → Prop),tn i s.heap → Q (.ref it) s → wpAny (model P w) A (pyIter (.ref it)) Q E s
noncomputable abbrev TI:=St → Hp → (It → Hp → Prop) → Prop
noncomputable def PIE (X:Cx) (pins:List (Addr × Obj)) (σ:St) (tg:Expr) (R:It → Hp → Prop) (itv:Value) (s2:Shared):Prop:=
 ∃ (it:Addr) (fp:List Addr) (tn:Nat → Heap → Prop) (J:It) (H':Hp),itv = .ref it ∧ Inv X pins σ H' s2 ∧ Turn X.prog X.w X.K tg J fp it tn ∧ tn 0 s2.heap ∧ (∀ b ∈ fp,Zf0 X pins H' b) ∧ R J H'
noncomputable def PI (X:Cx) (tg iter:Expr) (wi:TI):Prop:=
 ∀ (pins:List (Addr × Obj)) (s:Shared) (σ:St) (H:Hp) (R:It → Hp → Prop),Inv X pins σ H s → wi σ H R →
  wpAny (model X.prog X.w) X.A (eval iter X.env) (fun v s1=>wpAny (model X.prog X.w) X.A (pyIter v) (PIE X pins σ tg R) X.xe s1) X.xe s
theorem ZjK {M:Model} {A:Around} {E:Value → Shared → Prop} {s:Shared} {tg:Expr} {it:Addr} {u:Value} {o:Obj} {n:String} {vs:Array Value} {Q:Unit → Shared → Prop} (ho:s.heap.get? it = some o) (hc:o.cls = .type n) (hd:o.data = .fields vs)
  (hn:["enumerate","zip","dict_itemiterator","dict_reverseitemiterator","odict_iterator","itertools.zip_longest","itertools.pairwise"].contains n = false) (hQ:Q () s):wpAny M A (letOwnedTupleGo tg (.ref it) u) Q E s:=by
 unfold letOwnedTupleGo
 cases tg <;> first
  | exact wpAny_pure hQ
  | (cases u <;> first
    | exact wpAny_pure hQ
    | (refine wpAny_bind (wpAny_load ho ?_)
       rw [hc,hd]
       show wpAny M A (if (["enumerate","zip","dict_itemiterator","dict_reverseitemiterator","odict_iterator","itertools.zip_longest","itertools.pairwise"].contains n && vs[0]? == some (rawInt _)) = true then _ else _) Q E s
       rw [if_neg (by intro h; rw [hn,Bool.false_and] at h; cases h)]
       exact wpAny_pure hQ))
noncomputable def Itl (K:PySem.W.Frag) (a:Addr):It:=
 ⟨fun i H=>∃ xs x,SqL K H a xs ∧ xs[i]? = some x,fun i H x H'=>H' = H ∧ ∀ xs,SqL K H a xs → xs[i]? = some x,fun i H=>∃ xs,SqL K H a xs ∧ xs.length ≤ i⟩
noncomputable def Itt (K:PySem.W.Frag) (a:Addr):It:=
 ⟨fun i H=>∃ xs x,SqT K H a xs ∧ xs[i]? = some x,fun i H x H'=>H' = H ∧ ∀ xs,SqT K H a xs → xs[i]? = some x,fun i H=>∃ xs,SqT K H a xs ∧ xs.length ≤ i⟩
noncomputable def Itr (lo:Int) (n:Nat):It:=⟨fun i _=>i < n,fun i H x H'=>H' = H ∧ x = .int (lo + i),fun i _=>n ≤ i⟩
theorem Zml {P:Program} {w:World} {K:PySem.W.Frag} {tg:Expr} (a it:Addr):Turn P w K tg (Itl K a) [it] it (fun i h=>h.IsListIter it a i) where
 mem:=by simp
 obj:=fun i h st b hb=>by
  have e:b = it:=by simpa using hb
  subst e
  obtain ⟨o,e,c,d⟩:=st
  exact ⟨o,e,fun v z=>by rw [d] at z; cases z⟩
 keep:=fun i h h' st k=>st.at fun o e=>k it (by simp) o e
 item:=by
  intro X hP hw hK hc i pins s σ H E I hf st hg
  subst hP hw hK
  obtain ⟨xs,x,hq,hx⟩:=hg
  obtain ⟨its,rv,p,hz⟩:=I.list hq
  obtain ⟨u,hu,ru⟩:=rv.get hx
  obtain ⟨f0,f1,f2,f3,f4,f5⟩:=hf it (by simp)
  refine wpAny_pyNext_list_item st p.isList (x:=u) (by simpa using hu) fun h' st' sb=>?_
  have I1:Inv X pins σ H { s with heap:=h' }:=I.turned (t':=s.toks) (fun b o hb e=>(sb.2 b hb).trans e) f0 f1 f3 f4 f5
  obtain ⟨o,e,c,d⟩:=id st'
  exact ⟨u,rfl,ZjK (s:={ s with heap:=h' }) e c d (by decide) ⟨x,H,I1,ru,⟨rfl,fun ys hy=>by rw [I.list_inj hy hq]; exact hx⟩,st',fun b hb=>(hf b hb).1⟩⟩
 done:=by
  intro X hP hw hK hc i pins s σ H E I hf st hg
  subst hP hw hK
  obtain ⟨xs,hq,hx⟩:=hg
  obtain ⟨its,rv,p,hz⟩:=I.list hq
  obtain ⟨f0,f1,f2,f3,f4,f5⟩:=hf it (by simp)
  have hl:=rv.length
  exact wpAny_pyNext_list_end (I.ok.hd hc) st p.isList (by simp; omega) fun h' eb=>⟨rfl,I.turned (t':=s.toks) (fun b o hb e=>eb b o hb e) f0 f1 f3 f4 f5⟩
 self:=fun _ _ _ _ _ st h=>wpAny_pyIter_listiter st h
theorem ZkO {P:Program} {w:World} {K:PySem.W.Frag} {tg:Expr} (a it:Addr):Turn P w K tg (Itt K a) [it] it (fun i h=>h.IsTupleIter it a i) where
 mem:=by simp
 obj:=fun i h st b hb=>by
  have e:b = it:=by simpa using hb
  subst e
  obtain ⟨o,e,c,d⟩:=st
  exact ⟨o,e,fun v z=>by rw [d] at z; cases z⟩
 keep:=fun i h h' st k=>st.at fun o e=>k it (by simp) o e
 item:=by
  intro X hP hw hK hc i pins s σ H E I hf st hg
  subst hP hw hK
  obtain ⟨xs,x,hq,hx⟩:=hg
  obtain ⟨its,rv,p,hz⟩:=I.tuple hq
  obtain ⟨u,hu,ru⟩:=rv.get hx
  obtain ⟨f0,f1,f2,f3,f4,f5⟩:=hf it (by simp)
  refine wpAny_pyNext_tuple_item st (show s.heap.IsTuple a its.toArray from p) (x:=u) (by simpa using hu) fun h' st' sb=>?_
  have I1:Inv X pins σ H { s with heap:=h' }:=I.turned (t':=s.toks) (fun b o hb e=>(sb.2 b hb).trans e) f0 f1 f3 f4 f5
  obtain ⟨o,e,c,d⟩:=id st'
  exact ⟨u,rfl,ZjK (s:={ s with heap:=h' }) e c d (by decide) ⟨x,H,I1,ru,⟨rfl,fun ys hy=>by rw [I.tuple_inj hy hq]; exact hx⟩,st',fun b hb=>(hf b hb).1⟩⟩
 done:=by
  intro X hP hw hK hc i pins s σ H E I hf st hg
  subst hP hw hK
  obtain ⟨xs,hq,hx⟩:=hg
  obtain ⟨its,rv,p,hz⟩:=I.tuple hq
  obtain ⟨f0,f1,f2,f3,f4,f5⟩:=hf it (by simp)
  have hl:=rv.length
  exact wpAny_pyNext_tuple_end (I.ok.hd hc) st (show s.heap.IsTuple a its.toArray from p) (by simp; omega) fun h' eb=>⟨rfl,I.turned (t':=s.toks) (fun b o hb e=>eb b o hb e) f0 f1 f3 f4 f5⟩
 self:=fun _ _ _ _ _ st h=>wpAny_pyIter_tupleiter st h
theorem ZkD {P:Program} {w:World} {K:PySem.W.Frag} {tg:Expr} (it:Addr) (lo:Int) (n:Nat):Turn P w K tg (Itr lo n) [it] it (fun i h=>IsRangeIter h it (lo + (i:Nat) * 1) ((n:Int) - (i:Nat)) 1) where
 mem:=by simp
 obj:=fun i h st b hb=>by
  have e:b = it:=by simpa using hb
  subst e
  exact ⟨_,st,fun v z=>by
   have z':Data.fields _ = Data.cell v:=z
   cases z'⟩
 keep:=fun i h h' st k=>k it (by simp) _ st
 item:=by
  intro X hP hw hK hc i pins s σ H E I hf st hg
  subst hP hw hK
  obtain ⟨f0,f1,f2,f3,f4,f5⟩:=hf it (by simp)
  have W:=Walks.range (prog:=X.prog) (w:=X.w) (I.ok.hd hc) it lo 1 n
  refine W.item i s _ _ hg st fun v h' tk hv st' kk=>?_
  obtain ⟨t,rfl⟩:=hv
  have I1:Inv X pins σ H { s with heap:=h',toks:=tk }:=I.turned (fun b o hb e=>kk b o (by simpa using hb) e) f0 f1 f3 f4 f5
  refine ⟨_,rfl,ZjK (s:={ s with heap:=h',toks:=tk }) (n:="range_iterator") st' rfl rfl (by decide) ⟨.int (lo + i),H,I1,⟨t,?_⟩,⟨rfl,rfl⟩,st',fun b hb=>(hf b hb).1⟩⟩
  rw [Int.mul_one]
 done:=by
  intro X hP hw hK hc i pins s σ H E I hf st hg
  subst hP hw hK
  obtain ⟨f0,f1,f2,f3,f4,f5⟩:=hf it (by simp)
  exact wpAny_pyNext_range_end (I.ok.hd hc) st (by have:n ≤ i:=hg; omega) fun h' eb=>⟨rfl,I.turned (t':=s.toks) (fun b o hb e=>eb b o hb e) f0 f1 f3 f4 f5⟩
 self:=fun _ _ _ _ _ st h=>wpAny_pyIter_rangeiter st h
end L2
namespace L2
open PySem PySem.Spec PyProof.Rows
section
variable {X:Cx} {tg:Expr}
noncomputable def ZrW (K:PySem.W.Frag) (tl:TE):TI:=fun σ H R=>tl σ H fun x H1=>∃ a,x = .ref a ∧ (∃ xs,SqL K H1 a xs) ∧ R (Itl K a) H1
noncomputable def Zsp (K:PySem.W.Frag) (tl:TE):TI:=fun σ H R=>tl σ H fun x H1=>∃ a,x = .ref a ∧ (∃ xs,SqT K H1 a xs) ∧ R (Itt K a) H1
theorem ZoR {l:Expr} {tl:TE} (hl:PE X l tl):PI X tg l (ZrW X.K tl):=by
 intro pins s σ H R I h
 refine thn (hl pins s σ H _ I h) fun v s1 ⟨x,H1,I1,r1,q1⟩=>?_
 obtain ⟨a,e,⟨xs,hq⟩,q⟩:=q1
 subst e
 cases r1
 obtain ⟨its,rv,p,hz⟩:=I1.list hq
 refine wpAny_pyIter_list p.isList ?_
 refine ⟨s1.heap.objs.size,[s1.heap.objs.size],_,_,H1,rfl,I1.kept (t':=s1.toks) fun b o e=>Heap.get?_push_of_some _ e,Zml a _,⟨_,Heap.get?_push_size _ rfl,rfl,rfl⟩,fun b hb=>?_,q⟩
 have e:b = s1.heap.objs.size:=by simpa using hb
 subst e
 exact I1.fpOk (Nat.le_refl _) (I1.hok.fresh (Nat.le_refl _))
theorem Zqr {l:Expr} {tl:TE} (hl:PE X l tl):PI X tg l (Zsp X.K tl):=by
 intro pins s σ H R I h
 refine thn (hl pins s σ H _ I h) fun v s1 ⟨x,H1,I1,r1,q1⟩=>?_
 obtain ⟨a,e,⟨xs,hq⟩,q⟩:=q1
 subst e
 cases r1
 obtain ⟨its,rv,p,hz⟩:=I1.tuple hq
 refine wpAny_pyIter_tuple (show s1.heap.IsTuple a its.toArray from p) ?_
 refine ⟨s1.heap.objs.size,[s1.heap.objs.size],_,_,H1,rfl,I1.kept (t':=s1.toks) fun b o e=>Heap.get?_push_of_some _ e,ZkO a _,⟨_,Heap.get?_push_size _ rfl,rfl,rfl⟩,fun b hb=>?_,q⟩
 have e:b = s1.heap.objs.size:=by simpa using hb
 subst e
 exact I1.fpOk (Nat.le_refl _) (I1.hok.fresh (Nat.le_refl _))
theorem ZnO {pins:List (Addr × Obj)} {σ:St} {H:Hp} {s:Shared} {R:It → Hp → Prop} {E:Value → Shared → Prop} {lo hi:Int} {t u v:Tok} {tk:Nat} (I:Inv X pins σ H s) (h1:-(2 ^ 62) ≤ lo) (h2:lo < 2 ^ 62) (h3:-(2 ^ 62) ≤ hi) (h4:hi < 2 ^ 62)
  (q:R (Itr lo (hi - lo).toNat) H):wpAny (model X.prog X.w) X.A (pyIter (.ref s.heap.objs.size)) (PIE X pins σ tg R) E { s with heap:=s.heap.push { cls:=.type "range",data:=.fields #[.int lo t,.int hi u,.int 1 v] },toks:=tk }:=by
 refine wpAny_pyIter_range (IsRange.new ..) (small_one h1 h2 h3 h4) ?_
 have I1:Inv X pins σ H { s with heap:=s.heap.push { cls:=.type "range",data:=.fields #[.int lo t,.int hi u,.int 1 v] },toks:=tk }:=I.kept fun b o e=>Heap.get?_push_of_some _ e
 refine ⟨(s.heap.push { cls:=.type "range",data:=.fields #[.int lo t,.int hi u,.int 1 v] }).objs.size,[(s.heap.push { cls:=.type "range",data:=.fields #[.int lo t,.int hi u,.int 1 v] }).objs.size],_,_,H,rfl,
  I1.kept (t':=tk) fun b o e=>Heap.get?_push_of_some _ e,ZkD _ lo (hi - lo).toNat,?_,fun b hb=>?_,q⟩
 ·have e1:lo + ((0:Nat):Int) * 1 = lo:=by simp
  have e2:(((hi - lo).toNat:Nat):Int) - ((0:Nat):Int) = Builtin.Range.rangeSize lo hi 1:=by rw [rangeSize_one]; split <;> omega
  show IsRangeIter _ _ (lo + ((0:Nat):Int) * 1) ((((hi - lo).toNat:Nat):Int) - ((0:Nat):Int)) 1
  rw [e1,e2]
  exact Heap.get?_push_size _ rfl
 ·have e:b = (s.heap.push { cls:=.type "range",data:=.fields #[.int lo t,.int hi u,.int 1 v] }).objs.size:=by simpa using hb
  subst e
  exact I1.fpOk (Nat.le_refl _) (I1.hok.fresh (Nat.le_refl _))
noncomputable def ZrF (ta:TA):TI:=fun σ H R=>ta σ H fun vs H1=>∃ j:Int,vs = [.int j] ∧ -(2 ^ 62) ≤ j ∧ j < 2 ^ 62 ∧ R (Itr 0 j.toNat) H1
theorem Zl3 {a:Expr} {ta:TA} {p pos:Pos} (hg:Gl X "range") (hm:X.mg "range" = none) (ha:PA X [a] ta) (hs:starEach [a] X.env = [(false,eval a X.env)]:=by rfl):PI X tg (.Call (.Name "range" p) [a] [] pos) (ZrF ta):=by
 intro pins s σ H R I h
 refine Call_ (Zjg I hg hm boot_range (PyProof.Rows.callWith_type1 (thn (ha pos pins s σ H _ I h) fun us s1 ⟨vs,H1,I1,r1,q1⟩=>?_) hs rfl))
 obtain ⟨j,e,q1,q2,q⟩:=q1
 subst e
 cases r1 with
 | cons r rr=>
  cases rr
  obtain ⟨t,rfl⟩:=r
  exact call_range_1 (ZnO I1 (by omega) (by omega) q1 q2 (by simpa using q))
noncomputable def ZsD (wi:TI) (g:TG) (tb:TS):TS:=fun D σ H=>wi σ H fun J H1=>∃ W:Nat → Nat → St → Hp → Prop,(∃ m,W 0 m σ H1) ∧ ∀ i m σ H,W i m σ H →
 (J.stop i H ∧ D.nx σ H) ∨ (J.go i H ∧ ∃ N:St → Hp → Prop,(∀ σ' H',N σ' H' → ∃ m',m' < m ∧ W (i + 1) m' σ' H') ∧ ∀ x H',J.yld i H x H' → g x σ H' fun σ2 H2=>tb { D with nx:=N,ct:=N,bk:=D.nx } σ2 H2)
noncomputable def Zhz (fp:List Addr) (h:Heap):List (Addr × Obj):=fp.filterMap fun b=>(h.get? b).map fun o=>(b,o)
theorem ZeA {fp:List Addr} {h:Heap} {b:Addr} {o:Obj} (hb:b ∈ fp) (e:h.get? b = some o):(b,o) ∈ Zhz fp h:=List.mem_filterMap.mpr ⟨b,hb,by rw [e]; rfl⟩
theorem Zmw {fp:List Addr} {h:Heap} {p:Addr × Obj} (hp:p ∈ Zhz fp h):p.1 ∈ fp ∧ h.get? p.1 = some p.2:=by
 obtain ⟨b,hb,e⟩:=List.mem_filterMap.mp hp
 cases q:h.get? b with
 | none=>rw [q] at e; cases e
 | some o=>
  rw [q] at e
  have e':(b,o) = p:=Option.some.inj e
  subst e'
  exact ⟨hb,q⟩
theorem Inv.pinned {pins:List (Addr × Obj)} {σ:St} {H:Hp} {s:Shared} {fp:List Addr} (I:Inv X pins σ H s) (hf:∀ b ∈ fp,Zf0 X pins H b) (ho:∀ b ∈ fp,∃ o,s.heap.get? b = some o ∧ ∀ v,o.data ≠ .cell v):Inv X (pins ++ Zhz fp s.heap) σ H s:=
 I.pins_of fun p hp=>(List.mem_append.mp hp).elim (fun z=>I.pin p (List.mem_append_right _ z)) fun z=>by
  obtain ⟨hb,e⟩:=Zmw z
  obtain ⟨f0,f1,f2,_⟩:=hf p.1 hb
  obtain ⟨o,e',d⟩:=ho p.1 hb
  rw [e] at e'; cases e'
  exact ⟨e,f0,f1,f2,d⟩
theorem Inv.unpinned {pins pl:List (Addr × Obj)} {σ:St} {H:Hp} {s:Shared} (I:Inv X (pins ++ pl) σ H s):Inv X pins σ H s:=I.pins_of fun p hp=>I.pin p (List.mem_append_right _ (List.mem_append_left _ hp))
theorem Znb {iter:Expr} {body:List Stmt} {wi:TI} {g:TG} {tb:TS} {pos:Pos} (hp:PassesOwn (model X.prog X.w) X.A X.env X.xe) (hc:X.calm = true) (hi:PI X tg iter wi) (hg:PG X tg g) (hb:PSs X body tb)
  (hs:∀ x,foldedSetIterable iter X.env x = pure x:=by intro _; rfl):PS X (.For tg iter body [] pos) (ZsD wi g tb):=by
 intro pins s σ H D I h
 refine wpAny_For (thn (hi pins s σ H _ I h) fun v s1 h1=>thn h1 fun itv s2 h2=>?_) hs
 obtain ⟨it,fp,tn,J,H2,e,I2,T,st2,f2,W,⟨m0,w0⟩,turn⟩:=h2
 subst e
 have stat:∀ {H':Hp},(∀ b ∈ fp,H' b = none) → ∀ b ∈ fp,Zf0 X pins H' b:=fun hn b hb=>⟨hn b hb,(f2 b hb).2⟩
 refine codeAny_forLoop_any (fun n s'=>∃ i σ' H',Inv X pins σ' H' s' ∧ tn i s'.heap ∧ (∀ b ∈ fp,H' b = none) ∧ W i n σ' H') ?_ m0 ⟨0,σ,H2,I2,st2,fun b hb=>(f2 b hb).1,w0⟩
 rintro n s3 ⟨i,σ3,H3,I3,st3,fr3,w3⟩
 rcases turn i n σ3 H3 w3 with ⟨stop,qn⟩ | ⟨go,N,hN,step⟩
 ·refine wpAny_passesOwn hp (thn (T.done X rfl rfl rfl hc i pins s3 σ3 H3 X.xe I3 (stat fr3) st3 stop) fun r s4 ⟨hr,I4⟩=>?_)
  subst hr
  exact wpAny_execs_nil ⟨σ3,H3,I4,qn⟩
 ·refine wpAny_passesOwn hp (thn (T.item X rfl rfl rfl hc i pins s3 σ3 H3 X.xe I3 (stat fr3) st3 go) fun r s4 ⟨u,hr,h4⟩=>?_)
  subst hr
  refine wpAny_passesOwn hp (thn h4 fun _ s5 ⟨x,H5,I5,r5,y5,st5,fr5⟩=>?_)
  have I5':=I5.pinned (stat fr5) (T.obj _ _ st5)
  refine wpAny_passesOwn hp (thn (hg _ s5 σ3 H5 x u _ I5' r5 (step x H5 y5)) fun _ s6 ⟨σ6,H6,I6,q6⟩=>?_)
  refine wpAny_passesOwn hp (thn (hb _ s6 σ6 H6 _ I6 q6) fun f s7 q7=>?_)
  have again:∀ {σ7:St} {H7:Hp},Inv X (pins ++ Zhz fp s5.heap) σ7 H7 s7 → N σ7 H7 → ∃ m,m < n ∧ ∃ i σ' H',Inv X pins σ' H' s7 ∧ tn i s7.heap ∧ (∀ b ∈ fp,H' b = none) ∧ W i m σ' H':=fun {σ7 H7} I7 n7=>by
   obtain ⟨m',hm,w7⟩:=hN σ7 H7 n7
   refine ⟨m',hm,i + 1,σ7,H7,I7.unpinned,T.keep _ _ _ st5 fun b hb o e=>(I7.pin (b,o) (List.mem_append_right _ (List.mem_append_right _ (ZeA hb e)))).1,fun b hb=>?_,w7⟩
   obtain ⟨o,e,d⟩:=T.obj _ _ st5 b hb
   exact (I7.pin (b,o) (List.mem_append_right _ (List.mem_append_right _ (ZeA hb e)))).2.1
  cases f with
  | next=>obtain ⟨σ7,H7,I7,n7⟩:=q7; exact again I7 n7
  | cont=>obtain ⟨σ7,H7,I7,n7⟩:=q7; exact again I7 n7
  | brk=>obtain ⟨σ7,H7,I7,q7⟩:=q7; exact ⟨σ7,H7,I7.unpinned,q7⟩
  | ret v=>obtain ⟨x7,σ7,H7,I7,r7,q7⟩:=q7; exact ⟨x7,σ7,H7,I7.unpinned,r7,q7⟩
end
end L2
namespace L2
open PySem PySem.Spec PyProof.Rows
noncomputable abbrev R2:=V → V → Hp → VK → Prop
noncomputable def OpR (X:Cx) (f:Value → Value → Sem Value) (r:R2):Prop:=
 ∀ (pins:List (Addr × Obj)) (s:Shared) (σ:St) (H:Hp) (x y:V) (v u:Value) (Q:VK),Inv X pins σ H s → RelV x v → RelV y u → r x y H Q →
  wpAny (model X.prog X.w) X.A (f v u) (EP X pins σ Q) X.xe s
noncomputable def UnR (X:Cx) (f:Value → Sem Value) (r:V → Hp → VK → Prop):Prop:=
 ∀ (pins:List (Addr × Obj)) (s:Shared) (σ:St) (H:Hp) (x:V) (v:Value) (Q:VK),Inv X pins σ H s → RelV x v → r x H Q →
  wpAny (model X.prog X.w) X.A (f v) (EP X pins σ Q) X.xe s
noncomputable def Zbv (X:Cx) (f:Value) (r:List V → Hp → VK → Prop):Prop:=
 ∀ (pins:List (Addr × Obj)) (s:Shared) (σ:St) (H:Hp) (xs:List V) (us:List Value) (Q:VK),Inv X pins σ H s → Vals xs us → r xs H Q →
  wpAny (model X.prog X.w) X.A (call f us) (EP X pins σ Q) X.xe s
noncomputable def tOp (r:R2) (ta tb:TE):TE:=fun σ H Q=>ta σ H fun x H1=>tb σ H1 fun y H2=>r x y H2 Q
noncomputable def tUn (r:V → Hp → VK → Prop) (ta:TE):TE:=fun σ H Q=>ta σ H fun x H1=>r x H1 Q
noncomputable def rI (C:Int → Int → Prop) (g:Int → Int → V):R2:=fun x y H Q=>∃ i j,x = .int i ∧ y = .int j ∧ C i j ∧ Q (g i j) H
noncomputable def rI0 (g:Int → Int → V):R2:=fun x y H Q=>∃ i j,x = .int i ∧ y = .int j ∧ Q (g i j) H
noncomputable def rU (g:Int → V):V → Hp → VK → Prop:=fun x H Q=>∃ i,x = .int i ∧ Q (g i) H
section
variable {X:Cx} {a b c:Expr} {ta tb tc:TE} {pos:Pos}
theorem Zp1 (ha:PE X a ta) (hb:PE X b tb) {pins:List (Addr × Obj)} {s:Shared} {σ:St} {H:Hp} {R:V → V → Hp → Prop} (I:Inv X pins σ H s)
  (h:ta σ H fun x H1=>tb σ H1 fun y H2=>R x y H2) {Q:Value → Shared → Prop} {f:Value → Value → Sem Value}
  (hf:∀ v u s2 x y H2,Inv X pins σ H2 s2 → RelV x v → RelV y u → R x y H2 → wpAny (model X.prog X.w) X.A (f v u) Q X.xe s2):
  wpAny (model X.prog X.w) X.A (eval a X.env) (fun v s₁=>wpAny (model X.prog X.w) X.A (eval b X.env) (fun u s₂=>wpAny (model X.prog X.w) X.A (f v u) Q X.xe s₂) X.xe s₁) X.xe s:=by
 refine thn (ha pins s σ H _ I h) fun v s1 ⟨x,H1,I1,r1,q1⟩=>?_
 refine thn (hb pins s1 σ H1 _ I1 q1) fun u s2 ⟨y,H2,I2,r2,q2⟩=>?_
 exact hf v u s2 x y H2 I2 r1 r2 q2
theorem ZrU {op:Operator} {r:R2} (ho:OpR X (binaryOp op) r) (ha:PE X a ta) (hb:PE X b tb):PE X (.BinOp a op b pos) (tOp r ta tb):=by
 intro pins s σ H Q I h
 exact wpAny_BinOp (Zp1 ha hb I h fun v u s2 x y H2 I2 rx ry q=>ho pins s2 σ H2 x y v u Q I2 rx ry q)
theorem ZrX {op:UnaryOp} {r:V → Hp → VK → Prop} (ho:UnR X (unaryOp op) r) (ha:PE X a ta):PE X (.UnaryOp op a pos) (tUn r ta):=by
 intro pins s σ H Q I h
 exact UnaryOp_ (thn (ha pins s σ H _ I h) fun v s1 ⟨x,H1,I1,r1,q1⟩=>ho pins s1 σ H1 x v Q I1 r1 q1)
theorem opI {f:Value → Value → Sem Value} {C:Int → Int → Prop} {g:Int → Int → Int}
  (rule:∀ (i j:Int) (t u:Tok) (s:Shared) (Q:Value → Shared → Prop) (E:Value → Shared → Prop),C i j → Q (.int (g i j) s.toks) { s with toks:=s.toks + 1 } → wpAny (model X.prog X.w) X.A (f (.int i t) (.int j u)) Q E s):
  OpR X f (rI C fun i j=>.int (g i j)):=by
 intro pins s σ H x y v u Q I rx ry h
 obtain ⟨i,j,rfl,rfl,hc,q⟩:=h
 obtain ⟨t,rfl⟩:=rx
 obtain ⟨t',rfl⟩:=ry
 exact rule i j t t' s _ _ hc ⟨.int (g i j),H,I.tok _,⟨_,rfl⟩,q⟩
theorem Zsa {f:Value → Value → Sem Value} {g:Int → Int → Int}
  (rule:∀ (i j:Int) (t u:Tok) (s:Shared) (Q:Value → Shared → Prop) (E:Value → Shared → Prop),Q (.int (g i j) s.toks) { s with toks:=s.toks + 1 } → wpAny (model X.prog X.w) X.A (f (.int i t) (.int j u)) Q E s):
  OpR X f (rI0 fun i j=>.int (g i j)):=by
 intro pins s σ H x y v u Q I rx ry h
 obtain ⟨i,j,rfl,rfl,q⟩:=h
 obtain ⟨t,rfl⟩:=rx
 obtain ⟨t',rfl⟩:=ry
 exact rule i j t t' s _ _ ⟨.int (g i j),H,I.tok _,⟨_,rfl⟩,q⟩
theorem Zot {f:Value → Value → Sem Value} {g:Int → Int → Bool}
  (rule:∀ (i j:Int) (t u:Tok) (s:Shared) (Q:Value → Shared → Prop) (E:Value → Shared → Prop),Q (.bool (g i j)) s → wpAny (model X.prog X.w) X.A (f (.int i t) (.int j u)) Q E s):
  OpR X f (rI0 fun i j=>.bl (g i j)):=by
 intro pins s σ H x y v u Q I rx ry h
 obtain ⟨i,j,rfl,rfl,q⟩:=h
 obtain ⟨t,rfl⟩:=rx
 obtain ⟨t',rfl⟩:=ry
 exact rule i j t t' s _ _ ⟨.bl (g i j),H,I,rfl,q⟩
noncomputable def Zso (i j:Int):Prop:=0 < j ∧ j < 1073741824
noncomputable def ZsQ (i j:Int):Prop:=0 ≤ j ∧ j ≤ 1000000 ∧ i.natAbs < 2 ^ 64
noncomputable def Zqx (i j:Int):Prop:=(-(2 ^ 64) < i ∧ i < 2 ^ 64) ∨ (-(2 ^ 64) < j ∧ j < 2 ^ 64)
theorem Zqx.ok {i j:Int} (h:Zqx i j):IntMulOk i j:=by
 rcases h with ⟨h1,h2⟩ | ⟨h1,h2⟩
 ·exact .of_left (intBits_le_64 h1 h2)
 ·exact .of_right (intBits_le_64 h1 h2)
theorem Zpk:OpR X (binaryOp .Add) (rI0 fun i j=>.int (i + j)):=Zsa fun _ _ _ _ _ _ _ q=>add_int q
theorem Zqb:OpR X (binaryOp .Sub) (rI0 fun i j=>.int (i - j)):=Zsa fun _ _ _ _ _ _ _ q=>sub_int q
theorem ZqL:OpR X (binaryOp .Mult) (rI Zqx fun i j=>.int (i * j)):=opI fun _ _ _ _ _ _ _ hc q=>mul_int q hc.ok
theorem ZoQ:OpR X (binaryOp .FloorDiv) (rI Zso fun i j=>.int (i / j)):=opI fun i j _ _ _ _ _ hc q=>by
 have h1:(0:Int) < j:=hc.1
 have h2:j < 1073741824:=hc.2
 exact floordiv_int (by omega) (by rw [Int.fdiv_eq_ediv_of_nonneg i (by omega)]; exact q) (.inl (PyProof.noPylong_small (by omega)))
theorem ZpO:OpR X (binaryOp .Mod) (rI (fun _ j=>0 < j) fun i j=>.int (i % j)):=opI fun i j _ _ _ _ _ hc q=>by
 have h1:(0:Int) < j:=hc
 exact mod_int' (by omega) (by rw [Int.fmod_eq_emod_of_nonneg i (by omega)]; exact q)
theorem Zp8:OpR X (binaryOp .Pow) (rI ZsQ fun i j=>.int (i ^ j.toNat)):=opI fun _ _ _ _ _ _ _ hc q=>pow_int_small hc.1 hc.2.1 hc.2.2 q
theorem unI {f:Value → Sem Value} {g:Int → Int}
  (rule:∀ (i:Int) (t:Tok) (s:Shared) (Q:Value → Shared → Prop) (E:Value → Shared → Prop),Q (.int (g i) s.toks) { s with toks:=s.toks + 1 } → wpAny (model X.prog X.w) X.A (f (.int i t)) Q E s):
  UnR X f (rU fun i=>.int (g i)):=by
 intro pins s σ H x v Q I rx h
 obtain ⟨i,rfl,q⟩:=h
 obtain ⟨t,rfl⟩:=rx
 exact rule i t s _ _ ⟨.int (g i),H,I.tok _,⟨_,rfl⟩,q⟩
theorem Zqy:UnR X (unaryOp .USub) (rU fun i=>.int (-i)):=unI fun _ _ _ _ _ q=>neg_int q
end
section
variable {X:Cx} {a b c:Expr} {ta tb tc:TE} {pos:Pos}
theorem Zk6 {pins:List (Addr × Obj)} {σ:St} {H:Hp} {s:Shared} {Q:VK} {k k':Bool} (I:Inv X pins σ H s) (q:Q (.bl k) H) (e:k = k'):EP X pins σ Q (.bool k') s:=by
 subst e
 exact ⟨.bl k,H,I,rfl,q⟩
theorem Zro:OpR X (compareOp .Lt) (rI0 fun i j=>.bl (decide (i < j))):=Zot fun _ _ _ _ _ _ _ q=>lt_int q
theorem Zre:OpR X (compareOp .LtE) (rI0 fun i j=>.bl (decide (i ≤ j))):=Zot fun _ _ _ _ _ _ _ q=>le_int q
theorem Zrw:OpR X (compareOp .Gt) (rI0 fun i j=>.bl (decide (j < i))):=Zot fun _ _ _ _ _ _ _ q=>gt_int q
theorem ZrY:OpR X (compareOp .GtE) (rI0 fun i j=>.bl (decide (j ≤ i))):=Zot fun _ _ _ _ _ _ _ q=>ge_int q
theorem ZlN:OpR X (compareOp .In) (fun x y H Q=>∃ i j,x = .str i ∧ y = .str j ∧ Q (.bl (!(Builtin.Str.occurrences j i 0 j.length 1).isEmpty)) H):=by
 intro pins s σ H x y v u Q I rx ry h
 obtain ⟨i,j,rfl,rfl,q⟩:=h
 obtain ⟨t,rfl⟩:=rx
 obtain ⟨t',rfl⟩:=ry
 exact in_str (Zk6 I q rfl)
theorem ZqG:OpR X (compareOp .Is) (fun x y H Q=>y = .non ∧ Q (.bl (decide (x = .non))) H):=by
 intro pins s σ H x y v u Q I rx ry h
 obtain ⟨rfl,q⟩:=h
 cases ry
 refine is_none_gen (Zk6 I q ?_)
 cases x <;> first
  | (cases rx; rfl)
  | (obtain ⟨t,rfl⟩:=rx; rfl)
theorem Zoh:OpR X (compareOp .IsNot) (fun x y H Q=>y = .non ∧ Q (.bl (!decide (x = .non))) H):=by
 intro pins s σ H x y v u Q I rx ry h
 obtain ⟨rfl,q⟩:=h
 cases ry
 refine isnot_none_gen (Zk6 I q ?_)
 cases x <;> first
  | (cases rx; rfl)
  | (obtain ⟨t,rfl⟩:=rx; rfl)
theorem OpR.or {f:Value → Value → Sem Value} {r r':R2} (h:OpR X f r) (h':OpR X f r'):OpR X f (fun x y H Q=>r x y H Q ∨ r' x y H Q):=by
 intro pins s σ H x y v u Q I rx ry q
 rcases q with q | q
 ·exact h pins s σ H x y v u Q I rx ry q
 ·exact h' pins s σ H x y v u Q I rx ry q
theorem Zn9 {op:CmpOp} {r:R2} (ho:OpR X (compareOp op) r) (ha:PE X a ta) (hb:PE X b tb) (hm:behindInMarks op b = false):PE X (.Compare a [op] [b] pos) (tOp r ta tb):=by
 intro pins s σ H Q I h
 exact wpAny_Compare1 (Zp1 ha hb I h fun v u s2 x y H2 I2 rx ry q=>ho pins s2 σ H2 x y v u Q I2 rx ry q) hm
noncomputable def Zr3 (t:TE):TT:=fun σ H Q=>t σ H fun x H'=>∃ k,x = .bl k ∧ Q k H'
theorem Zoi {op:CmpOp} {r:R2} (ho:OpR X (compareOp op) r) (ha:PE X a ta) (hb:PE X b tb) (hm:behindInMarks op b = false):PT X (.Compare a [op] [b] pos) (Zr3 (tOp r ta tb)):=by
 intro pins s σ H Q I h
 refine wpAny_isTrue_Compare1 (thn (ha pins s σ H _ I h) fun v s1 ⟨x,H1,I1,r1,q1⟩=>thn (hb pins s1 σ H1 _ I1 q1) fun u s2 ⟨y,H2,I2,r2,q2⟩=>
  thn (ho pins s2 σ H2 x y v u _ I2 r1 r2 q2) fun c s3 ⟨z,H3,I3,r3,k,e,q3⟩=>?_) hm
 subst e
 cases r3
 exact wpAny_truthy_bool ⟨H3,I3,q3⟩
theorem Zg0:(sizeLine:Nat) < 2 ^ 63:=by rw [sizeLine_eq]; decide
theorem ZkH:OpR X (binaryOp .Add) (fun x y H Q=>∃ i j,x = .str i ∧ y = .str j ∧ i.length + j.length ≤ sizeLine ∧ Q (.str (i ++ j)) H):=by
 intro pins s σ H x y v u Q I rx ry h
 obtain ⟨i,j,rfl,rfl,hz,q⟩:=h
 obtain ⟨t,rfl⟩:=rx
 obtain ⟨t',rfl⟩:=ry
 exact add_str (fun t' tk=>⟨.str (i ++ j),H,I.tok _,⟨_,rfl⟩,q⟩) hz
theorem vals1 {x:V} {us:List Value} (r:Vals [x] us):∃ u,us = [u] ∧ RelV x u:=by
 cases r with
 | cons r1 r2=>cases r2; exact ⟨_,rfl,r1⟩
theorem Zma:Zbv X (.type "int") (fun xs H Q=>(∃ i,xs = [.int i] ∧ Q (.int i) H) ∨ ∃ k,xs = [.bl k] ∧ Q (.int (if k then 1 else 0)) H):=by
 intro pins s σ H xs us Q I r h
 rcases h with ⟨i,rfl,q⟩ | ⟨k,rfl,q⟩
 ·obtain ⟨u,rfl,t,rfl⟩:=vals1 r
  exact call_int_int ⟨.int i,H,I,⟨_,rfl⟩,q⟩
 ·obtain ⟨u,rfl,r1⟩:=vals1 r
  cases r1
  exact call_int_bool ⟨.int (if k then 1 else 0),H,I.tok _,⟨_,rfl⟩,q⟩
noncomputable def Zs0 (K:PySem.W.Frag) (x:V) (H:Hp) (n:Nat):Prop:=
 match x with
 | .str y=>y.length ≤ sizeLine ∧ n = y.length
 | .byt y=>y.size ≤ sizeLine ∧ n = y.size
 | .ref p=>(∃ xs,SqL K H p xs ∧ n = xs.length) ∨ ∃ xs,SqT K H p xs ∧ n = xs.length
 | _=>False
theorem ZmR:Zbv X (.builtin "len") (fun xs H Q=>∃ x n,xs = [x] ∧ Zs0 X.K x H n ∧ Q (.int n) H):=by
 intro pins s σ H xs us Q I r h
 obtain ⟨x,n,rfl,e,q⟩:=h
 obtain ⟨u,rfl,rx⟩:=vals1 r
 have hl:=Zg0
 have hs:sizeLine = 16777216:=sizeLine_eq
 cases x with
 | str y=>
  obtain ⟨t,rfl⟩:=rx
  obtain ⟨hy,e'⟩:y.length ≤ sizeLine ∧ n = y.length:=e
  subst e'
  exact len_str (by omega) ⟨.int _,H,I.tok _,⟨_,rfl⟩,q⟩
 | byt y=>
  obtain ⟨t,rfl⟩:=rx
  obtain ⟨hy,e'⟩:y.size ≤ sizeLine ∧ n = y.size:=e
  subst e'
  exact PySem.W.len_bytes (by omega) ⟨.int _,H,I.tok _,⟨_,rfl⟩,q⟩
 | ref p=>
  cases rx
  have e':(∃ xs,SqL X.K H p xs ∧ n = xs.length) ∨ ∃ xs,SqT X.K H p xs ∧ n = xs.length:=e
  rcases e' with ⟨xs,hx,e'⟩ | ⟨xs,hx,e'⟩
  ·subst e'
   obtain ⟨its,r',pl,hz⟩:=I.list hx
   have hlen:=r'.length
   exact Calls.call_len_list pl.isList (by simp only [List.size_toArray]; omega) ⟨.int xs.length,H,I.tok _,⟨_,by simp only [List.size_toArray]; rw [hlen]⟩,q⟩
  ·subst e'
   obtain ⟨its,r',pl,hz⟩:=I.tuple hx
   have hlen:=r'.length
   exact len_tuple pl (by simp only [List.size_toArray]; omega) ⟨.int xs.length,H,I.tok _,⟨_,by simp only [List.size_toArray]; rw [hlen]⟩,q⟩
 | _=>exact (show False from e).elim
end
end L2
namespace L2
open PySem PySem.Spec PyProof.Rows
section
variable {prog:Program} {w:World} {A:Around} {E:Value → Shared → Prop} {s:Shared} {K:PySem.W.Frag} {x dx C f:Addr} {mA:Str → Option Value} {name:Str} {v:Value}
end
theorem ZgI.some_of {v:V} {o:Option Value} (r:ZgI (some v) o):∃ u,o = some u ∧ RelV v u:=by
 cases o with
 | none=>exact (show False from r).elim
 | some u=>exact ⟨u,rfl,r⟩
section
variable {P:Program} {w:World} {H H':Hp} {h h':Heap} {a C dx:Addr} {fs fs':List (Str × V)}
end
structure Cls (K:PySem.W.Frag) (C:Addr):Prop where
 pg:PySem.W.plainGet K C Str.empty = true
 hd:PySem.W.hasDictIn K C = true
 po:PySem.W.plainOver K C = true
 sa:PySem.W.findIn K (.ref C) "__setattr__" = some (some (.builtin "object.__setattr__"))
section
variable {X:Cx} {pins:List (Addr × Obj)} {σ:St} {H:Hp} {s:Shared} {a C dx:Addr} {fs:List (Str × V)} {f:Str} {v:V} {A:Around} {E:Value → Shared → Prop}
end
section
variable {X:Cx} {o e value:Expr} {f:Str} {pos pos' tpos:Pos} {ta tv:TE}
end
section
variable {X:Cx} {pins:List (Addr × Obj)} {σ:St} {H:Hp} {s:Shared} {A:Around} {E:Value → Shared → Prop} {Q:Value → Shared → Prop} {c:Value} {b:Bool}
inductive ZgY (K:PySem.W.Frag) (H:Hp):V → Value → Prop where
 | non:ZgY K H .non (.type "NoneType")
 | bl (x:Bool):ZgY K H (.bl x) (.type "bool")
 | int (i:Int):ZgY K H (.int i) (.type "int")
 | str (x:Str):ZgY K H (.str x) (.type "str")
 | flt (x:UInt64):ZgY K H (.flt x) (.type "float")
 | lst {a:Addr} {xs:List V} (e:H a = some (.lst xs)):ZgY K H (.ref a) (.type "list")
 | frz {a:Addr} {o:Obj} {xs:List V} (e:H a = some (.frz o (.lst xs))):ZgY K H (.ref a) (.type "list")
 | tup {a:Addr} {xs:List V} (e:H a = some (.tup xs)):ZgY K H (.ref a) (.type "tuple")
 | dK {a:Addr} {kvs:List (Key × V)} (e:H a = some (.dK kvs)):ZgY K H (.ref a) (.type "dict")
 | dT {a:Addr} {kvs:List (List Key × V)} (e:H a = some (.dT kvs)):ZgY K H (.ref a) (.type "dict")
 | ins {a C dx:Addr} {fs:List (Str × V)} (e:H a = some (.ins C dx fs)) (cl:Cls K C) (ha:PySem.W.findIn K (.ref C) "__class__" = some (some (.builtin "object.__class__")))
   (hn:PySem.W.specialIn K (.builtin "object.__class__") "__get__" = some (some (.builtin "getset_descriptor.__get__"))) (htk:PySem.W.takesIn K (.builtin "object.__class__") = some true)
   (hm:PySem.W.mroIn K C (.type "object") = some true):ZgY K H (.ref a) (.ref C)
end
end L2
namespace L2
open PySem PySem.Spec PyProof.Rows
structure Zdv (k:Nat) (A:Around):Prop where
 hd:A.handled = none
 dp:A.depth + 3 * k + 5 < recursionLimit
 un:A.units + 16 * k + 200 < cLine
theorem Zdv.mono {j k:Nat} {A:Around} (r:Zdv k A) (h:j ≤ k):Zdv j A:=⟨r.hd,by have:=r.dp; omega,by have:=r.un; omega⟩
theorem Zdv.deeper {k:Nat} {A:Around} (r:Zdv (k + 1) A) (env:Env):Zdv k (A.deeper env):=
 ⟨r.hd,by have:=r.dp; show A.depth + 1 + 3 * k + 5 < _; omega,by have:=r.un; show A.units + 3 + 16 * k + 200 < _; omega⟩
theorem Zdv.in1 {k:Nat} {A:Around} (r:Zdv (k + 1) A):Zdv k A.in1:=
 ⟨r.hd,by have:=r.dp; show A.depth + 3 * k + 5 < _; omega,by have:=r.un; show A.units + 1 + 16 * k + 200 < _; omega⟩
theorem Zdv.depth {k:Nat} {A:Around} (r:Zdv k A):A.depth < recursionLimit:=by have:=r.dp; omega
theorem Zdv.units {k:Nat} {A:Around} (r:Zdv k A):A.units + 64 < cLine:=by have:=r.un; omega
noncomputable def Zsw:TA:=fun _ H Q=>Q [] H
noncomputable def Zrh (ta:TE) (tr:TA):TA:=fun σ H Q=>ta σ H fun x H1=>tr σ H1 fun xs H2=>Q (x :: xs) H2
section
variable {X:Cx} {e:Expr} {es:List Expr} {te:TE} {t:TA} {pos:Pos}
theorem ZqQ:PA X [] Zsw:=fun _ _ _ _ H Q I h=>Calls.spliced_nil ⟨[],H,I,.nil,h⟩
theorem ZoI (ha:PE X e te) (hr:PA X es t) (hs:starEach (e :: es) X.env = (false,eval e X.env) :: starEach es X.env:=by rfl):PA X (e :: es) (Zrh te t):=by
 intro pos pins s σ H Q I h
 rw [hs]
 show wpAny _ _ (spliced ((false,eval e X.env) :: backTo pos (starEach es X.env))) _ _ s
 refine Calls.spliced_cons (thn (ha pins s σ H _ I h) fun u s1 ⟨x,H1,I1,r1,q1⟩=>?_)
 exact thn (hr pos pins s1 σ H1 _ I1 q1) fun us s2 ⟨xs,H2,I2,r2,q2⟩=>⟨x :: xs,H2,I2,.cons r1 r2,q2⟩
noncomputable def Zs1 (t:TA):TE:=fun σ H Q=>t σ H fun xs H1=>xs.length ≤ sizeLine ∧ ∀ p,H1 p = none → Q (.ref p) (upd H1 p (.tup xs))
noncomputable def ZsZ (t:TA):TE:=fun σ H Q=>t σ H fun xs H1=>xs.length ≤ sizeLine ∧ ∀ p,H1 p = none → Q (.ref p) (upd H1 p (.lst xs))
theorem ZpN {x1} (h:PA X es t):PE X (.Tuple es x1 pos) (Zs1 t):=by
 intro pins s σ H Q I hq
 refine wpAny_Tuple_spliced (thn (h pos pins s σ H _ I hq) fun us s1 ⟨xs,H1,I1,r,z,q⟩=>⟨by rw [← r.length]; exact z,?_⟩)
 have hf:H1 s1.heap.objs.size = none:=I1.hok.fresh (Nat.le_refl _)
 refine ⟨.ref s1.heap.objs.size,upd H1 s1.heap.objs.size (.tup xs),I1.laid (t':=s1.toks) (fun b u e=>Heap.get?_push_of_some _ e) (Nat.le_refl _) ?_,rfl,q _ hf⟩
 exact ⟨z,us,r,⟨_,Heap.get?_push_size _ rfl,⟨rfl,rfl⟩,_,rfl⟩⟩
theorem ZqP (h:PA X es t):PE X (.List es pos) (ZsZ t):=by
 intro pins s σ H Q I hq
 refine wpAny_List_spliced (thn (h pos pins s σ H _ I hq) fun us s1 ⟨xs,H1,I1,r,z,q⟩=>⟨by rw [← r.length]; exact z,?_⟩)
 have hf:H1 s1.heap.objs.size = none:=I1.hok.fresh (Nat.le_refl _)
 refine ⟨.ref s1.heap.objs.size,upd H1 s1.heap.objs.size (.lst xs),I1.laid (t':=s1.toks) (fun b u e=>Heap.get?_push_of_some _ e) (Nat.le_refl _) ?_,rfl,q _ hf⟩
 exact ⟨z,us,0,r,Heap.get?_push_size _ rfl⟩
end
noncomputable abbrev Sp:=List V → Hp → VK → XK → Prop
noncomputable abbrev CXT:=List Env → Hp → Shared → XK → Value → Shared → Prop
structure ZkK (P:Program) (w:World) (K:PySem.W.Frag) (mg:Str → Option Value) (base:Heap) (A:Around) (outer:List Env) (s:Shared) (H:Hp):Prop where
 frames:A.frames = some outer
 mod:Mod K mg base
 bs:∀ b o,base.get? b = some o → s.heap.get? b = some o ∧ H b = none
 bsz:base.objs.size ≤ s.heap.objs.size
 funs:s.heap.FunFrames base outer
 frf:∀ b ∈ frs outer,H b = none
 hok:HOk P w H s.heap
 bare:AllBare s.gens
noncomputable def CE (outer:List Env) (P:Program) (w:World) (H:Hp) (s:Shared) (Q:VK) (u:Value) (s':Shared):Prop:=
 ∃ v H',s'.os = s.os ∧ AllBare s'.gens ∧ Un (frs outer) [] H H' s.heap s'.heap ∧ HOk P w H' s'.heap ∧ RelV v u ∧ Q v H'
noncomputable def CR (CX:CXT) (outer:List Env) (P:Program) (w:World) (H:Hp) (s:Shared) (Q:VK) (E:XK) (r:Result) (s':Shared):Prop:=
 match r with
 | .ok (.ret u)=>CE outer P w H s Q u s'
 | .ok _=>False
 | .error e=>CX outer H s E e s'
structure ZgL (P:Program) (w:World) (K:PySem.W.Frag) (mg:Str → Option Value) (base:Heap) (CX:CXT) (k:Nat) (f:Addr) (fd:FuncData) (ps:List Str) (sp:Sp):Prop where
 len:∀ vs H Q E,sp vs H Q E → vs.length = ps.length
 run:∀ (A:Around) (outer:List Env) (s:Shared) (H:Hp) (args:Args) (us:List Value) (vs:List V) (Q:VK) (E:XK),Zdv k A → ZkK P w K mg base A outer s H → BindsTo s fd args (ps.zip us) → Vals vs us → sp vs H Q E →
  codeAny (model P w) A (.call (.ref f) args) (CR CX outer P w H s Q E) s
theorem ZkK.in1 {P:Program} {w:World} {K:PySem.W.Frag} {mg:Str → Option Value} {base:Heap} {A:Around} {outer:List Env} {s:Shared} {H:Hp} (e:ZkK P w K mg base A outer s H):
  ZkK P w K mg base A.in1 outer s H:=⟨e.frames,e.mod,e.bs,e.bsz,e.funs,e.frf,e.hok,e.bare⟩
section
variable {X:Cx} {pins:List (Addr × Obj)} {σ:St} {H:Hp} {s s':Shared}
theorem Inv.env0 (I:Inv X pins σ H s):ZkK X.prog X.w X.K X.mg X.base X.A X.stack s H:=
 ⟨I.ok.frames,I.ok.mod,I.bs,Nat.le_trans I.ok.bsz I.sz,I.stack,I.stkFree,I.hok,I.bare⟩
theorem Inv.after {Q:VK} {u:Value} (I:Inv X pins σ H s) (h:CE X.stack X.prog X.w H s Q u s'):EP X pins σ Q u s':=by
 obtain ⟨v,H',os,bare,un,hok,r,q⟩:=h
 obtain ⟨hh,g,d,t,os'⟩:=s'
 obtain rfl:os' = s.os:=os
 exact ⟨v,H',I.call (h':=hh) (g':=g) (d':=d) (t':=t) (ch:=[]) un hok bare (fun b z=>absurd z (by simp)),r,q⟩
end
noncomputable def Zrg (sp:Sp) (dvs:List V) (E:XK) (t:TA):TE:=fun σ H Q=>t σ H fun vs H1=>sp (vs ++ dvs) H1 Q E
noncomputable def Binds (K:PySem.W.Frag) (fd:FuncData) (ps:List Str) (ds:List Value):Prop:=
 ∀ (s:Shared) (us:List Value),K.In s.heap → (us ++ ds).length = ps.length → BindsTo s fd ⟨us,[]⟩ (ps.zip (us ++ ds))
theorem Binds.all {K:PySem.W.Frag} {fd:FuncData} {ps:List Str} (h:∀ us:List Value,us.length = ps.length → bindArgs fd ⟨us,[]⟩ = pure (ps.zip us)):Binds K fd ps []:=fun s us _ hl=>by
 rw [List.append_nil] at hl ⊢
 exact .of_eq (h us hl)
noncomputable def Zkp (CX:CXT) (X:Cx) (E:XK):Prop:=∀ (pins:List (Addr × Obj)) (σ:St) (H:Hp) (s:Shared) (e:Value) (s':Shared),Inv X pins σ H s → CX X.stack H s E e s' → X.xe e s'
section
variable {X:Cx} {CX:CXT} {k:Nat} {f C:Addr} {fd:FuncData} {ps:List Str} {sp:Sp} {dvs:List V} {ds:List Value} {E:XK} {x m:Str} {p pos apos:Pos} {e o:Expr} {es:List Expr} {ta:TE} {t:TA}
theorem Zqk {pins:List (Addr × Obj)} {σ:St} {H:Hp} {s:Shared} {Q:VK} {us:List Value} {vs:List V} (F:ZgL X.prog X.w X.K X.mg X.base CX k f fd ps sp) (hr:Zdv k X.A) (hb:Binds X.K fd ps ds) (hd:Vals dvs ds) (hx:Zkp CX X E)
  (I:Inv X pins σ H s) (r:Vals vs us) (h:sp (vs ++ dvs) H Q E):wpAny (model X.prog X.w) X.A (call (.ref f) us) (EP X pins σ Q) X.xe s:=by
 have r2:Vals (vs ++ dvs) (us ++ ds):=r.append hd
 have hl:(us ++ ds).length = ps.length:=by rw [← r2.length]; exact F.len _ _ _ _ h
 refine wpAny_call (codeAny_mono (F.run X.A X.stack s H ⟨us,[]⟩ (us ++ ds) (vs ++ dvs) Q E hr I.env0 (hb s us I.kIn hl) r2 h) fun r s' hq=>?_)
 cases r with
 | error e=>exact hx pins σ H s e s' I hq
 | ok fl=>
  cases fl with
  | ret u=>exact I.after hq
  | next=>exact False.elim hq
  | brk=>exact False.elim hq
  | cont=>exact False.elim hq
theorem Zn1 (F:ZgL X.prog X.w X.K X.mg X.base CX k f fd ps sp) (hr:Zdv k X.A) (hg:Gl X x) (hm:X.mg x = some (.ref f)) (hk:PySem.W.keepIn X.K (.ref f) = true) (hb:Binds X.K fd ps ds) (hd:Vals dvs ds) (hx:Zkp CX X E)
  (ha:PA X (e :: es) t) (hdb:(x == ("__debug__":Str)) = false:=by decide) (he:starEach (e :: es) X.env = (false,eval e X.env) :: starEach es X.env:=by rfl) (hpl:(backTo pos (starEach es X.env)).any (·.1) = false:=by rfl):
  PE X (.Call (.Name x p) (e :: es) [] pos) (Zrg sp dvs E t):=by
 intro pins s σ H Q I h
 refine wpAny_Call_Name_kw (Zn3 I hg hm ?_ hdb)
 refine PySem.W.callWith_K (h₀:=X.base) I.ok.mod.kin hk (thn (ha pos pins s σ H _ I h) fun us s1 ⟨vs,H1,I1,r,q⟩=>⟨I1.kIn,?_⟩) he hpl
 exact Zqk F hr hb hd hx I1 r q
end
section
variable {X:Cx} {CX:CXT} {k:Nat} {f C:Addr} {fd:FuncData} {ps ks:List Str} {sp:Sp} {E:XK} {x m:Str} {p pos apos kpos:Pos} {e o:Expr} {es:List Expr} {kws:List Keyword} {te ta:TE} {t tk:TA} {nm:Option Str}
structure Zpv (K:PySem.W.Frag) (fd:FuncData) (ps ks:List Str) (g:List Value → List Value → List Value) (gV:List V → List V → List V):Prop where
 to:∀ (s:Shared) (us ws:List Value),K.In s.heap → (g us ws).length = ps.length → BindsTo s fd ⟨us,ks.zip ws⟩ (ps.zip (g us ws))
 rel:∀ {vs:List V} {us:List Value} {zs:List V} {ws:List Value},Vals vs us → Vals zs ws → Vals (gV vs zs) (g us ws)
variable {g:List Value → List Value → List Value} {gV:List V → List V → List V}
end
structure Zaz (N P:List Str) (sc:Scope):Prop where
 kind:sc.kind = .function
 co:sc.isCoroutine = false
 gen:sc.isGenerator = false
 nd:N.Nodup
 pre:N.take P.length = P
 par:∀ x ∈ P,sc.names.lookup x = some .local ∨ sc.names.lookup x = some .cell
 nofree:∀ y ∈ sc.names,y.2 ≠ .free
theorem Zim {kindOf:Str → Option NameKind} {x:Str}:∀ {binds:List (Str × Value)} {m:Str → Option Value},(∀ v,(x,v) ∉ binds) → bindL kindOf binds m x = m x
 | [],_,_=>rfl
 | (n,v) :: r,m,h=>by
  unfold bindL
  rw [Zim fun w hw=>h w (List.mem_cons_of_mem _ hw)]
  split
  ·have:x ≠ n:=by rintro rfl; exact h v List.mem_cons_self
   simp [this]
  ·rfl
theorem Zh1 {kindOf:Str → Option NameKind} {x:Str}:∀ {binds:List (Str × Value)} {m:Str → Option Value},(∀ v,(x,v) ∉ binds) → bindC kindOf binds m x = m x
 | [],_,_=>rfl
 | (n,v) :: r,m,h=>by
  unfold bindC
  rw [Zh1 fun w hw=>h w (List.mem_cons_of_mem _ hw)]
  split
  ·rfl
  ·have:x ≠ n:=by rintro rfl; exact h v List.mem_cons_self
   simp [this]
theorem ZhZ {kindOf:Str → Option NameKind} {x:Str} {v:Value}:∀ {P:List Str} {vs:List Value} {i:Nat} {m:Str → Option Value},P.Nodup → P[i]? = some x → vs[i]? = some v → kindOf x = some .local →
  bindL kindOf (P.zip vs) m x = some v
 | [],_,_,_,_,h,_,_=>by simp at h
 | _ :: _,[],_,_,_,_,h,_=>by simp at h
 | p :: P,w :: vs,0,m,nd,h1,h2,hk=>by
  simp at h1 h2; subst h1; subst h2
  show bindL kindOf ((p,w) :: P.zip vs) m p = _
  unfold bindL
  rw [Zim fun v hv=>(List.nodup_cons.mp nd).1 (List.of_mem_zip hv).1,if_pos hk]
  simp
 | p :: P,w :: vs,i + 1,m,nd,h1,h2,hk=>by
  show bindL kindOf ((p,w) :: P.zip vs) m x = _
  unfold bindL
  exact ZhZ (i:=i) (List.nodup_cons.mp nd).2 (by simpa using h1) (by simpa using h2) hk
theorem ZiE {kindOf:Str → Option NameKind} {x:Str} {v:Value}:∀ {P:List Str} {vs:List Value} {i:Nat} {m:Str → Option Value},P.Nodup → P[i]? = some x → vs[i]? = some v → kindOf x ≠ some .local →
  bindC kindOf (P.zip vs) m x = some v
 | [],_,_,_,_,h,_,_=>by simp at h
 | _ :: _,[],_,_,_,_,h,_=>by simp at h
 | p :: P,w :: vs,0,m,nd,h1,h2,hk=>by
  simp at h1 h2; subst h1; subst h2
  show bindC kindOf ((p,w) :: P.zip vs) m p = _
  unfold bindC
  rw [Zh1 fun v hv=>(List.nodup_cons.mp nd).1 (List.of_mem_zip hv).1,if_neg hk]
  simp
 | p :: P,w :: vs,i + 1,m,nd,h1,h2,hk=>by
  show bindC kindOf ((p,w) :: P.zip vs) m x = _
  unfold bindC
  exact ZiE (i:=i) (List.nodup_cons.mp nd).2 (by simpa using h1) (by simpa using h2) hk
noncomputable def start (N:List Str) (vs:List V):St:=vs.map some ++ List.replicate (N.length - vs.length) none
noncomputable def ZjB (CX:CXT) (P:Program) (w:World) (K:PySem.W.Frag) (mg:Str → Option Value) (base:Heap) (N:List Str) (qual:Str) (scope:Scope) (f:Addr) (cd:Value) (A:Around) (outer:List Env) (s:Shared) (H:Hp) (E:XK):Cx where
 prog:=P
 w:=w
 K:=K
 mg:=mg
 base:=base
 A:=A.deeper (envOfC qual scope s.heap.objs.size f cd)
 N:=N
 s₀:=s
 H₀:=H
 env:=envOfC qual scope s.heap.objs.size f cd
 outer:=outer
 stack:=envOfC qual scope s.heap.objs.size f cd :: outer
 ex:=[]
 calm:=true
 fn:=fun _=>true
 pn:=[]
 xe:=fun e s'=>wpAny (model P w) (A.deeper (envOfC qual scope s.heap.objs.size f cd)) (leaving (envOfC qual scope s.heap.objs.size f cd) e) (fun _ s''=>CX outer H s E e s'') (fun e' s''=>CX outer H s E e' s'') s'
theorem ZjF {sc:Scope} {n:Nat} {x:Str} (h:sc.names.lookup x = some .cell):∃ c,(cellsFrom n sc.names []).lookup x = some c:=by
 have q:=PySem.W.cellsFrom_some sc.names n [] (.inl h)
 exact Option.isSome_iff_exists.mp q
theorem ZlV {CX:CXT} {P:Program} {w:World} {K:PySem.W.Frag} {mg:Str → Option Value} {base:Heap} {N ps:List Str} {qual:Str} {scope:Scope} {f:Addr} {cd:Value} {A:Around} {outer:List Env} {s s1:Shared} {H:Hp} {E:XK} {us:List Value} {vs:List V}
  (S:Zaz N ps scope) (hd:A.handled = none) (e0:ZkK P w K mg base A outer s H) (hl:vs.length = ps.length) (r:Vals vs us)
  (x:InCallC s s.heap.objs.size (bindL (envOfC qual scope s.heap.objs.size f cd).kindOf (ps.zip us) fun _=>none) (cellsFrom (s.heap.objs.size + 1) scope.names []) (bindC (envOfC qual scope s.heap.objs.size f cd).kindOf (ps.zip us) fun _=>none) s1):
  Inv (ZjB CX P w K mg base N qual scope f cd A outer s H E) [] (start N vs) H s1:=by
 have hpl:ps.length ≤ N.length:=by have:=congrArg List.length S.pre; rw [List.length_take] at this; omega
 obtain ⟨h1,tk,rfl,hk⟩:=x.done
 have noA:∀ b:Addr,b ∉ (ZjB CX P w K mg base N qual scope f cd A outer s H E).ex:=fun b z=>absurd (show b ∈ ([]:List Addr) from z) (by simp)
 refine ⟨⟨e0.mod,S.kind,rfl,rfl,Nat.le_refl _,fun y z c h1 h2=>?_,fun y hy=>?_,fun y c _ h=>?_,fun _=>hd,Around.frames_deeper e0.frames,.inr ⟨rfl,rfl⟩,fun b z=>absurd z (noA b),e0.bs,e0.bsz,fun b _ _=>noA b,fun b z=>absurd z (noA b),e0.funs,e0.frf⟩,
  rfl,e0.bare,Un.kept hk,⟨_,x.toInCall.ns,fun i y v h1 h2 h3=>?_⟩,fun y c h=>⟨_,x.cell y c h⟩,e0.hok.fresh (Nat.le_refl _),fun y c h=>?_,fun p hp=>absurd (show p ∈ ([]:List (Addr × Obj)) from hp) (by simp),e0.hok.kept hk,?_⟩
 ·exact name_of_addr x.apart (PySem.mem_of_lookup h1) (PySem.mem_of_lookup h2)
 ·have hy:scope.names.lookup y = some .cell ∨ scope.names.lookup y = some .free:=hy
  rcases hy with hy | hy
  ·exact ZjF hy
  ·exact absurd rfl (S.nofree _ (PySem.mem_of_lookup hy))
 ·exact Nat.le_of_lt (x.above y c (PySem.mem_of_lookup h))
 ·have hi:i < vs.length:=by
   unfold start at h2
   by_cases hi:i < vs.length
   ·exact hi
   ·rw [List.getElem?_append_right (by simpa using hi)] at h2
    rw [List.getElem?_replicate] at h2
    split at h2 <;> cases h2
  have ha:vs[i]? = some v:=by
   unfold start at h2
   rw [List.getElem?_append_left (by simpa using hi),List.getElem?_map] at h2
   cases e:vs[i]? with
   | none=>rw [e] at h2; cases h2
   | some a=>rw [e] at h2; cases h2; rfl
  obtain ⟨u,hu,rv⟩:=r.get ha
  have hp:ps[i]? = some y:=by
   rw [← S.pre,List.getElem?_take_of_lt (by omega)]; exact h1
  have ndP:ps.Nodup:=by rw [← S.pre]; exact S.nd.sublist (List.take_sublist _ _)
  refine ⟨u,rv,?_⟩
  rcases S.par y (List.mem_of_getElem? hp) with k | k
  ·exact .inl ⟨k,ZhZ ndP hp hu k⟩
  ·obtain ⟨c,e⟩:=ZjF (n:=s.heap.objs.size + 1) k
   refine .inr ⟨.inl k,c,e,?_⟩
   have q:=x.cell y c e
   rw [ZiE ndP hp hu (by show scope.names.lookup y ≠ _; rw [k]; decide)] at q
   exact q
 ·exact e0.hok.fresh (Nat.le_of_lt (x.above y c (PySem.mem_of_lookup h)))
 ·unfold start
  show _ = N.length
  rw [List.length_append,List.length_map,List.length_replicate]
  omega
theorem ZrR {CX:CXT} {P:Program} {w:World} {K:PySem.W.Frag} {mg:Str → Option Value} {base:Heap} {k:Nat} {f:Addr} {name qual:Str} {params:Arguments} {body:List Stmt} {scope:Scope} {dV kV doc pm cdv ct oc:Value} {an od:Option Addr}
  {osl:Array (Option Value)} {N ps:List Str} {sp:Sp} (lk:K.lookup f = some ⟨oc,od,.func (PySem.W.fnOf name qual params body scope dV kV doc pm an cdv ct),osl⟩) (hcd:PySem.W.codeIn K cdv qual = true) (S:Zaz N ps scope)
  (len:∀ vs H Q E,sp vs H Q E → vs.length = ps.length)
  (hbody:∀ (A:Around) (outer:List Env) (s:Shared) (H:Hp) (vs:List V) (Q:VK) (E:XK),Zdv k (A.deeper (envOfC qual scope s.heap.objs.size f cdv)) → sp vs H Q E →
   ∃ t,PSs (ZjB CX P w K mg base N qual scope f cdv A outer s H E) body t ∧ t { nx:=fun _ H'=>Q .non H',rt:=Q } (start N vs) H):
  ZgL P w K mg base CX (k + 1) f (PySem.W.fnOf name qual params body scope dV kV doc pm an cdv ct) ps sp:=by
 refine ⟨len,fun A outer s H args us vs Q E hr e0 hb r hsp=>?_⟩
 have hl:=len _ _ _ _ hsp
 have KX:K.In s.heap:=e0.mod.kin.keeps fun b o e=>(e0.bs b o e).1
 have lim:s.heap.NoLimit:=e0.mod.nolimit.keeps fun b o e=>(e0.bs b o e).1
 have hkind:∀ y ∈ ps.zip us,scope.names.lookup y.1 = some .local ∨ (scope.names.lookup y.1 = some .cell ∧ ((cellsFrom (s.heap.objs.size + 1) scope.names []).lookup y.1).isSome = true):=fun ⟨n,v⟩ hy=>by
  rcases S.par n (List.of_mem_zip hy).1 with q | q
  ·exact .inl q
  ·exact .inr ⟨q,PySem.W.cellsFrom_some _ _ _ (.inl q)⟩
 refine codeAny_call_function hr.depth (KX _ _ lk) rfl S.co S.gen rfl (PySem.W.codeRec_of KX hcd) (hb _ _ _ _ ?_)
 refine wpAny_newFunctionEnv_cells S.kind hkind fun env he s1 x=>?_
 subst he
 refine ⟨lim.keeps x.toInCall.keep,codeAny_func ?_⟩
 obtain ⟨t,ht,hq⟩:=hbody A outer s H vs Q E (hr.deeper _) hsp
 have I:Inv (ZjB CX P w K mg base N qual scope f cdv A outer s H E) [] (start N vs) H s1:=ZlV S hr.hd e0 hl r x
 refine wpAny_mono (ht [] s1 (start N vs) H _ I hq) (fun fl s' hs=>?_) fun e s' hs=>hs
 have fin:∀ {σ':St} {H':Hp} {v:V} {u:Value},Inv (ZjB CX P w K mg base N qual scope f cdv A outer s H E) [] σ' H' s' → RelV v u → Q v H' → CE outer P w H s Q u s':=
  fun {σ' H' v u} J rv q=>⟨v,H',J.os,J.bare,J.base,J.hok,rv,q⟩
 cases fl with
 | ret u=>
  obtain ⟨v,σ',H',J,rv,q⟩:=hs
  exact fin J rv q
 | next=>
  obtain ⟨σ',H',J,q⟩:=hs
  exact fin (v:=V.non) (u:=Value.none) J rfl q
 | brk=>
  obtain ⟨_,_,_,q⟩:=hs
  exact False.elim q
 | cont=>
  obtain ⟨_,_,_,q⟩:=hs
  exact False.elim q
end L2
namespace L2
open PySem PySem.Spec PyProof.Rows
section
variable {X:Cx} {x:Str} {p pos:Pos} {e:Expr} {es:List Expr} {t:TA} {id T:String} {r:List V → Hp → VK → Prop}
noncomputable def tCB (r:List V → Hp → VK → Prop) (t:TA):TE:=fun σ H Q=>t σ H fun vs H1=>r vs H1 Q
theorem ZmM (hc:Zbv X (.builtin id) r) (hg:Gl X x) (hm:X.mg x = none) (hv:bootBuiltins x = some (.builtin id)) (ha:PA X (e :: es) t) (hn:x ≠ "__name__":=by decide) (hdb:(x == ("__debug__":Str)) = false:=by decide)
  (he:starEach (e :: es) X.env = (false,eval e X.env) :: starEach es X.env:=by rfl) (hpl:(backTo pos (starEach es X.env)).any (·.1) = false:=by rfl):PE X (.Call (.Name x p) (e :: es) [] pos) (tCB r t):=by
 intro pins s σ H Q I h
 refine wpAny_Call_Name_kw (Zjg I hg hm hv ?_ hn hdb)
 exact PyProof.Rows.callWith_builtin1 (thn (ha pos pins s σ H _ I h) fun us s1 ⟨vs,H1,I1,r1,q1⟩=>hc pins s1 σ H1 vs us Q I1 r1 q1) he hpl
theorem Zmk (hc:Zbv X (.type T) r) (hg:Gl X x) (hm:X.mg x = none) (hv:bootBuiltins x = some (.type T)) (ha:PA X (e :: es) t) (hn:x ≠ "__name__":=by decide) (hdb:(x == ("__debug__":Str)) = false:=by decide)
  (he:starEach (e :: es) X.env = (false,eval e X.env) :: starEach es X.env:=by rfl) (hpl:(backTo pos (starEach es X.env)).any (·.1) = false:=by rfl):PE X (.Call (.Name x p) (e :: es) [] pos) (tCB r t):=by
 intro pins s σ H Q I h
 refine wpAny_Call_Name_kw (Zjg I hg hm hv ?_ hn hdb)
 exact PyProof.Rows.callWith_type1 (thn (ha pos pins s σ H _ I h) fun us s1 ⟨vs,H1,I1,r1,q1⟩=>hc pins s1 σ H1 vs us Q I1 r1 q1) he hpl
end
end L2
namespace HT
open PySem PyProof.Rows
section
open PySem.SeqAt
open PySem.AutoSeq1 (wpAny_loadPart')
open PySem.MeetsSeq PySem.MeetsSeq2 PySem.MeetsSeq3
end
section
variable {prog:Program} {w:World} {A:Around} {E:Value → Shared → Prop} {s:Shared}
theorem cat_tup {t b:Addr} {vs ws:List Value} {Q:Value → Shared → Prop} (ht:IsTup s.heap t vs.toArray) (hb:IsTup s.heap b ws.toArray) (hv:vs ≠ [])
  (h1:ws = [] → Q (.ref t) s) (h2:ws ≠ [] → Q (.ref s.heap.objs.size) { s with heap:=s.heap.push { cls:=.type "tuple",data:=.seq (vs ++ ws).toArray } })
  (hsz:vs.length + ws.length ≤ sizeLine):wpAny (model prog w) A (binaryOp .Add (.ref t) (.ref b)) Q E s:=by
 obtain ⟨⟨cls,dd,data,sl⟩,ho,hc,n,hd⟩:=id ht
 obtain ⟨⟨cls2,dd2,data2,sl2⟩,ho2,hc2,n2,hd2⟩:=id hb
 simp only at hc hd hc2 hd2
 subst hc hd hc2 hd2
 have e:vs.toArray ++ ws.toArray = (vs ++ ws).toArray:=by simp
 by_cases hw:ws = []
 ·exact concat_meets ⟨_,ho,rfl⟩ ⟨_,ho2,rfl⟩ noFill_tuple_add seq_tuple_add PySem.F.slot_tuple_add PySem.F.entry_tuple_add (PySem.F.args_tuple_add_2 _ _)
   (tuple_addW1 t b vs.toArray ws.toArray n n2 dd dd2 sl sl2 (by simpa using hv) (by simp [hw])) ⟨ho,ho2,h1 hw⟩
 ·refine concat_meets ⟨_,ho,rfl⟩ ⟨_,ho2,rfl⟩ noFill_tuple_add seq_tuple_add PySem.F.slot_tuple_add PySem.F.entry_tuple_add (PySem.F.args_tuple_add_2 _ _)
   (tuple_addW2 t b vs.toArray ws.toArray n n2 dd dd2 sl sl2 (by simpa using hv) (by simpa using hw) (by rw [List.size_toArray,List.size_toArray]; exact hsz)) ⟨ho,ho2,?_⟩
  rw [e]
  exact h2 hw
noncomputable def sIx (n d:Nat):Option Int → Nat
 | none=>d
 | some v=>if v < 0 then (v + (n:Int)).toNat else min v.toNat n
theorem Zhj (n d:Nat):sIx n d none = d:=rfl
theorem Zi8 (n d k:Nat):sIx n d (some (k:Int)) = min k n:=by
 show (if (k:Int) < 0 then ((k:Int) + (n:Int)).toNat else min (k:Int).toNat n) = min k n
 rw [if_neg (by omega),Int.toNat_natCast]
theorem ZiX (n d:Nat) (hd:d ≤ n) (o:Option Int):sIx n d o ≤ n:=by
 cases o with
 | none=>exact hd
 | some v=>
  show (if v < 0 then (v + (n:Int)).toNat else min v.toNat n) ≤ n
  by_cases hv:v < 0
  ·rw [if_pos hv]; omega
  ·rw [if_neg hv]; exact Nat.min_le_right _ _
theorem Zlz (v:Int) (n d:Nat):(if v < 0 then max (v + (n:Int)) 0 else min v (n:Int)) = ((sIx n d (some v):Nat):Int):=by
 show (if v < 0 then max (v + (n:Int)) 0 else min v (n:Int)) = (((if v < 0 then (v + (n:Int)).toNat else min v.toNat n):Nat):Int)
 by_cases hv:v < 0
 ·simp only [if_pos hv]; omega
 ·simp only [if_neg hv]; omega
theorem Zk9 (lo hi:Option Int) (n:Nat):Builtin.Slice.sliceAdjust lo hi 1 (n:Int) = (((sIx n 0 lo:Nat):Int),((sIx n n hi:Nat):Int)):=by
 have h1:¬ ((1:Int) < 0):=by omega
 unfold Builtin.Slice.sliceAdjust
 simp only [h1,if_false]
 refine Prod.ext ?_ ?_
 ·cases lo with
  | none=>rfl
  | some v=>exact Zlz v n 0
 ·cases hi with
  | none=>rfl
  | some v=>exact Zlz v n n
theorem ZkG (i j:Nat):Builtin.Slice.slicePlaces (i:Int) (j:Int) 1 = j - i:=by
 unfold Builtin.Slice.slicePlaces
 have h1:(1:Int) > 0:=by omega
 simp only [h1,if_true,Int.ediv_one]
 split <;> omega
theorem Zha {v:Value} {o:Option Int} {Q:Option Int → Shared → Prop} (p:IsPart v o) (h:Q o s):wpAny (model prog w) A (Builtin.Slice.slicePartIndex v) Q E s:=by
 cases p with
 | none=>exact slicePart_none h
 | int i t=>exact slicePart_int h
theorem sliceApplied_gen {sl:Addr} {vl vu:Value} {lo hi:Option Int} {n:Nat} {Q:Int × Int × Nat → Shared → Prop} (hs:s.heap.IsSliceOf sl vl vu .none) (pl:IsPart vl lo) (pu:IsPart vu hi)
  (h:Q (((sIx n 0 lo:Nat):Int),1,sIx n n hi - sIx n 0 lo) s):wpAny (model prog w) A (Builtin.Slice.sliceApplied (.ref sl) (pure (n:Int))) Q E s:=by
 obtain ⟨os,hos,hcs,hds⟩:=id hs
 unfold Builtin.Slice.sliceApplied Builtin.Slice.sliceFields
 refine wpAny_bind (wpAny_bind (wpAny_field hos hds (x:=vl) rfl (wpAny_bind (wpAny_field hos hds (x:=vu) rfl (wpAny_bind (wpAny_field hos hds (x:=.none) rfl (wpAny_pure ?_)))))))
 refine wpAny_bind (slicePart_none ?_)
 show wpAny _ _ (if ((1:Int) == 0) = true then _ else _) _ _ s
 rw [if_neg (by decide)]
 refine wpAny_bind (Zha pl (wpAny_bind (Zha pu (wpAny_bind (wpAny_pure ?_)))))
 show wpAny _ _ (match Builtin.Slice.sliceAdjust lo hi 1 (n:Int) with | (lo,hi)=>pure (lo,(1:Int),Builtin.Slice.slicePlaces lo hi 1)) _ _ s
 rw [Zk9 lo hi n]
 show wpAny _ _ (pure (((sIx n 0 lo:Nat):Int),(1:Int),Builtin.Slice.slicePlaces ((sIx n 0 lo:Nat):Int) ((sIx n n hi:Nat):Int) 1)) _ _ s
 rw [ZkG]
 exact wpAny_pure h
theorem ZnE (xs:Array Value) (i k:Nat):((List.range k).filterMap fun (m:Nat)=>xs[((i:Int) + (m:Int) * 1).toNat]?).toArray = ((xs.toList.drop i).take k).toArray:=by
 have e:(fun (m:Nat)=>xs[((i:Int) + (m:Int) * 1).toNat]?) = fun m=>xs[i + m]?:=by
  funext m
  have:((i:Int) + (m:Int) * 1).toNat = i + m:=by omega
  rw [this]
 rw [e]
 have:=pick_run xs i k
 rw [List.filterMap_map] at this
 have e2:((fun x=>xs[x]?) ∘ fun x=>i + x) = fun m=>xs[i + m]?:=rfl
 rw [e2] at this
 rw [this]
theorem getItem_tuple_cut {t sl:Addr} {items:Array Value} {vl vu:Value} {lo hi:Option Int} {Q:Value → Shared → Prop} (ht:IsTup s.heap t items) (hs:s.heap.IsSliceOf sl vl vu .none) (pl:IsPart vl lo) (pu:IsPart vu hi)
  (hw:¬ (sIx items.size 0 lo = 0 ∧ sIx items.size items.size hi = items.size))
  (h:Q (.ref s.heap.objs.size) { s with heap:=s.heap.push { cls:=.type "tuple",data:=.seq ((items.toList.drop (sIx items.size 0 lo)).take (sIx items.size items.size hi - sIx items.size 0 lo)).toArray } })
  (hsz:items.size ≤ sizeLine):wpAny (model prog w) A (getItem (.ref t) (.ref sl)) Q E s:=by
 have htake:sizeOk (.seq ((items.toList.drop (sIx items.size 0 lo)).take (sIx items.size items.size hi - sIx items.size 0 lo)).toArray):=by
  show ((items.toList.drop (sIx items.size 0 lo)).take (sIx items.size items.size hi - sIx items.size 0 lo)).toArray.size ≤ sizeLine
  rw [List.size_toArray,List.length_take,List.length_drop,Array.length_toList]
  omega
 have hj:sIx items.size items.size hi ≤ items.size:=ZiX _ _ (Nat.le_refl _) hi
 obtain ⟨os,hos,hcs,hds⟩:=id hs
 have hTs:s.TypeIs (.ref sl) "slice":=⟨os,hos,hcs⟩
 unfold getItem
 try with_reducible refine wpAny_holding ?_
 first | refine wpAny_bind (wpAny_pure ?_) | skip
 refine wpAny_bind (wpAny_sequenceKey ht.typeIs (by decide) ?_)
 refine wpAny_bind (wpAny_callSpecial?_slot (name:=Str.ofString "__getitem__") ht.typeIs PyProof.Rows.slot_tuple_getitem
  (wpAny_call_entry PyProof.Rows.slot_tuple_getitem ht.typeIs entry_tuple_getitem ?_ (args_tuple_getitem _ _)))
 show wpAny _ _ (Builtin.Tuple.tupleItemsOf (.ref t) >>= _) _ _ s
 refine wpAny_bind (tupleItemsOf_ ht ?_)
 refine wpAny_bind (wpAny_typeOf hTs ?_)
 rw [if_pos (by decide)]
 refine wpAny_bind (sliceApplied_gen hs pl pu ?_)
 have hno:¬ ((((sIx items.size 0 lo:Nat):Int) == 0 && (1:Int) == 1 && (sIx items.size items.size hi - sIx items.size 0 lo) == items.size) = true):=by
  intro q
  rw [Bool.and_eq_true,Bool.and_eq_true] at q
  have q1:((sIx items.size 0 lo:Nat):Int) = 0:=eq_of_beq q.1.1
  have q2:sIx items.size items.size hi - sIx items.size 0 lo = items.size:=eq_of_beq q.2
  exact hw ⟨by omega,by omega⟩
 show wpAny _ _ (if (((sIx items.size 0 lo:Nat):Int) == 0 && (1:Int) == 1 && (sIx items.size items.size hi - sIx items.size 0 lo) == items.size) = true then _ else _) _ _ s
 rw [if_neg hno,ZnE]
 first
  | exact wpAny_bind (m:=Builtin.Tuple.tupleExact _) (wpAny_newObj_type (wpAny_pure ⟨_,rfl,wpAny_pure h⟩) htake)
  | exact wpAny_bind (m:=Builtin.Tuple.tupleExact _) (wpAny_newObj_type (wpAny_bind (wpAny_pure (wpAny_pure ⟨_,rfl,wpAny_pure h⟩))) htake)
  | exact wpAny_bind (wpAny_bind (m:=Builtin.Tuple.tupleExact _) (wpAny_newObj_type (wpAny_pure (wpAny_pure ⟨_,rfl,wpAny_pure h⟩)) htake))
  | exact wpAny_bind (wpAny_bind (m:=Builtin.Tuple.tupleExact _) (wpAny_newObj_type (wpAny_pure ⟨_,rfl,wpAny_pure h⟩) htake))
end
end HT
namespace L2
open PySem PySem.Spec PyProof.Rows
noncomputable abbrev TO:=St → Hp → (Option Int → Hp → Prop) → Prop
noncomputable def PO (X:Cx) (e:Option Expr) (t:TO):Prop:=
 ∀ (pins:List (Addr × Obj)) (s:Shared) (σ:St) (H:Hp) (Q:Option Int → Hp → Prop),Inv X pins σ H s → t σ H Q →
  wpAny (model X.prog X.w) X.A (evalPart e X.env) (fun u s'=>∃ o H',Inv X pins σ H' s' ∧ IsPart u o ∧ Q o H') X.xe s
noncomputable def Zog:TO:=fun _ H Q=>Q none H
noncomputable def Zrt (t:TE):TO:=fun σ H Q=>t σ H fun x H1=>∃ i,x = .int i ∧ Q (some i) H1
section
variable {X:Cx} {e:Expr} {te:TE} {lo hi:Option Expr} {tl th:TO} {pos p2:Pos}
theorem Zoa:PO X none Zog:=by
 intro pins s σ H Q I h
 rw [evalPart_none]
 exact wpAny_pure ⟨none,H,I,.none,h⟩
theorem ZoB (h:PE X e te):PO X (some e) (Zrt te):=by
 intro pins s σ H Q I hw
 rw [evalPart_some]
 refine thn (h pins s σ H _ I hw) fun u s1 ⟨x,H1,I1,r1,q1⟩=>?_
 obtain ⟨i,rfl,q⟩:=q1
 obtain ⟨t,rfl⟩:=r1
 exact ⟨some i,H1,I1,.int i t,q⟩
noncomputable def SlR (X:Cx) (r:V → Option Int → Option Int → Hp → VK → Prop):Prop:=
 ∀ (pins:List (Addr × Obj)) (s:Shared) (σ:St) (H:Hp) (x:V) (v vl vu:Value) (lo hi:Option Int) (sl:Addr) (Q:VK),Inv X pins σ H s → RelV x v → s.heap.IsSliceOf sl vl vu .none → IsPart vl lo → IsPart vu hi → r x lo hi H Q →
  ∃ T id,typeLookup (.type T) "__getitem__" = pure (some (.builtin id)) ∧ s.TypeIs v T ∧ wpAny (model X.prog X.w) X.A (getItem v (.ref sl)) (EP X pins σ Q) X.xe s
theorem SlR.or {r r':V → Option Int → Option Int → Hp → VK → Prop} (h:SlR X r) (h':SlR X r'):SlR X (fun x lo hi H Q=>r x lo hi H Q ∨ r' x lo hi H Q):=by
 intro pins s σ H x v vl vu lo hi sl Q I rx hs pl pu q
 rcases q with q | q
 ·exact h pins s σ H x v vl vu lo hi sl Q I rx hs pl pu q
 ·exact h' pins s σ H x v vl vu lo hi sl Q I rx hs pl pu q
noncomputable def tSl (r:V → Option Int → Option Int → Hp → VK → Prop) (te:TE) (tl th:TO):TE:=fun σ H Q=>te σ H fun x H1=>tl σ H1 fun l H2=>th σ H2 fun u H3=>r x l u H3 Q
theorem Zno {r:V → Option Int → Option Int → Hp → VK → Prop} (hr:SlR X r) (he:PE X e te) (hl:PO X lo tl) (hu:PO X hi th):PE X (.Subscript e (.Slice lo hi none p2) pos) (tSl r te tl th):=by
 intro pins s σ H Q I h
 refine Subscript_ (thn (he pins s σ H _ I h) fun v s1 ⟨x,H1,I1,r1,q1⟩=>?_)
 refine wpAny_Slice (thn (hl pins s1 σ H1 _ I1 q1) fun vl s2 ⟨l,H2,I2,pl,q2⟩=>thn (hu pins s2 σ H2 _ I2 q2) fun vu s3 ⟨u,H3,I3,pu,q3⟩=>?_)
 rw [evalPart_none]
 refine wpAny_pure ?_
 have I4:Inv X pins σ H3 { s3 with heap:=s3.heap.push { cls:=.type "slice",data:=.fields #[vl,vu,.none] } }:=I3.kept (t':=s3.toks) fun b ob q=>Heap.get?_push_of_some _ q
 obtain ⟨T,id,hT,ht,hg⟩:=hr pins { s3 with heap:=s3.heap.push { cls:=.type "slice",data:=.fields #[vl,vu,.none] } } σ H3 x v vl vu l u s3.heap.objs.size Q I4 r1 (Heap.IsSliceOf.new ..) pl pu q3
 show wpAny (model X.prog X.w) X.A (subscriptTail e (.Slice lo hi none p2) v (.ref s3.heap.objs.size)) (EP X pins σ Q) X.xe { s3 with heap:=s3.heap.push { cls:=.type "slice",data:=.fields #[vl,vu,.none] } }
 exact tail_any (ops:=[.ref s3.heap.objs.size,v]) ht hT hg (by with_unfolding_all rfl)
noncomputable def ZjD (xs:List V) (lo hi:Option Int):List V:=(xs.drop (HT.sIx xs.length 0 lo)).take (HT.sIx xs.length xs.length hi - HT.sIx xs.length 0 lo)
theorem Zgy (xs:List V) (lo hi:Option Int):(ZjD xs lo hi).length ≤ xs.length:=by
 unfold ZjD
 rw [List.length_take,List.length_drop]
 omega
noncomputable def ZsV (K:PySem.W.Frag):V → Option Int → Option Int → Hp → VK → Prop:=fun x lo hi H Q=>∃ a xs,x = .ref a ∧ SqT K H a xs ∧
 ¬ (HT.sIx xs.length 0 lo = 0 ∧ HT.sIx xs.length xs.length hi = xs.length) ∧ ∀ p,H p = none → Q (.ref p) (upd H p (.tup (ZjD xs lo hi)))
theorem Zpx:SlR X (ZsV X.K):=by
 intro pins s σ H x v vl vu lo hi sl Q I rx hs pl pu h
 obtain ⟨a,xs,rfl,hx,hw,q⟩:=h
 cases rx
 obtain ⟨its,r,ht,hz⟩:=I.tuple hx
 have hlen:its.toArray.size = xs.length:=by rw [List.size_toArray]; exact r.length.symm
 refine ⟨"tuple",_,PyProof.Rows.slot_tuple_getitem.lookup,ht.typeIs,?_⟩
 refine HT.getItem_tuple_cut ht hs pl pu (by rw [hlen]; exact hw) ?_ (by rw [hlen]; exact hz)
 rw [hlen]
 refine ⟨.ref s.heap.objs.size,_,I.laid (t':=s.toks) (o:=.tup (ZjD xs lo hi)) (fun b ob q=>Heap.get?_push_of_some _ q) (Nat.le_refl _) ?_,rfl,q _ (I.hok.fresh (Nat.le_refl _))⟩
 exact ⟨Nat.le_trans (Zgy xs lo hi) hz,_,(r.drop (HT.sIx xs.length 0 lo)).take (HT.sIx xs.length xs.length hi - HT.sIx xs.length 0 lo),ZdS.new _ _⟩
noncomputable def Zrl (K:PySem.W.Frag):R2:=fun x y H Q=>∃ a b xs ys,x = .ref a ∧ y = .ref b ∧ SqT K H a xs ∧ SqT K H b ys ∧ xs ≠ [] ∧ xs.length + ys.length ≤ sizeLine ∧
 (ys = [] → Q (.ref a) H) ∧ (ys ≠ [] → ∀ p,H p = none → Q (.ref p) (upd H p (.tup (xs ++ ys))))
theorem Vals.nil_iff {xs:List V} {us:List Value} (r:Vals xs us):us = [] ↔ xs = []:=by
 cases r with
 | nil=>simp
 | cons _ _=>simp
theorem Zoz:OpR X (binaryOp .Add) (Zrl X.K):=by
 intro pins s σ H x y v u Q I rx ry h
 obtain ⟨a,b,xs,ys,rfl,rfl,ha,hb,hx,hz,q1,q2⟩:=h
 cases rx
 cases ry
 obtain ⟨its,r1,p1,_⟩:=I.tuple ha
 obtain ⟨its2,r2,p2,_⟩:=I.tuple hb
 refine HT.cat_tup p1 p2 (fun z=>hx (r1.nil_iff.mp z)) (fun z=>⟨.ref a,H,I,rfl,q1 (r2.nil_iff.mp z)⟩) (fun z=>?_) (by rw [← r1.length,← r2.length]; exact hz)
 refine ⟨.ref s.heap.objs.size,_,I.laid (t':=s.toks) (o:=.tup (xs ++ ys)) (fun b ob q=>Heap.get?_push_of_some _ q) (Nat.le_refl _) ?_,rfl,q2 (fun w=>z (r2.nil_iff.mpr w)) _ (I.hok.fresh (Nat.le_refl _))⟩
 exact ⟨by rw [List.length_append]; exact hz,_,r1.append r2,ZdS.new _ _⟩
end
end L2
namespace L2
open PySem PySem.Spec PyProof.Rows
noncomputable def ixN (n:Nat) (i:Int):Option Nat:=if 0 ≤ i then (if i < n then some i.toNat else none) else if -(n:Int) ≤ i then some (i + n).toNat else none
noncomputable def atI {α:Type} (xs:List α) (i:Int):Option α:=(ixN xs.length i).bind fun j=>xs[j]?
theorem Zlx {n:Nat} {i:Int} {j:Nat} (h:ixN n i = some j):seqIndex? i n = some j ∧ j < n ∧ -(n:Int) ≤ i ∧ i < n:=by
 unfold ixN at h
 by_cases h0:0 ≤ i
 ·rw [if_pos h0] at h
  by_cases h1:i < n
  ·rw [if_pos h1] at h
   have e:i.toNat = j:=Option.some.inj h
   exact ⟨by rw [seqIndex_of h0 h1,e],by omega,by omega,h1⟩
  ·rw [if_neg h1] at h; cases h
 ·rw [if_neg h0] at h
  by_cases h1:-(n:Int) ≤ i
  ·rw [if_pos h1] at h
   have e:(i + n).toNat = j:=Option.some.inj h
   exact ⟨by rw [seqIndex_neg (by omega) h1,e],by omega,h1,by omega⟩
  ·rw [if_neg h1] at h; cases h
theorem ZiO {α:Type} {xs:List α} {i:Int} {v:α} (h:atI xs i = some v):∃ j,seqIndex? i xs.length = some j ∧ xs[j]? = some v ∧ j < xs.length ∧ -(xs.length:Int) ≤ i ∧ i < xs.length:=by
 unfold atI at h
 cases e:ixN xs.length i with
 | none=>rw [e] at h; cases h
 | some j=>
  rw [e] at h
  obtain ⟨h1,h2,h3,h4⟩:=Zlx e
  exact ⟨j,h1,h,h2,h3,h4⟩
noncomputable def ZlK (b:Expr):Prop:=∀ o i,subscripted b false o i = operate [o,i] (getItem o i)
noncomputable def IxR (X:Cx) (r:R2):Prop:=
 ∀ (value slice:Expr) (pins:List (Addr × Obj)) (s:Shared) (σ:St) (H:Hp) (x y:V) (v u:Value) (Q:VK),Inv X pins σ H s → RelV x v → RelV y u → r x y H Q →
  subscripted slice false v u = operate [v,u] (getItem v u) → wpAny (model X.prog X.w) X.A (subscriptTail value slice v u) (EP X pins σ Q) X.xe s
noncomputable def MtR (X:Cx) (id:String) (r:V → List V → Hp → VK → Prop):Prop:=
 ∀ (pins:List (Addr × Obj)) (s:Shared) (σ:St) (H:Hp) (x:V) (xs:List V) (v:Value) (us:List Value) (Q:VK),Inv X pins σ H s → RelV x v → Vals xs us → r x xs H Q →
  wpAny (model X.prog X.w) X.A (call (.builtin id) (v :: us)) (EP X pins σ Q) X.xe s
section
variable {X:Cx} {a b:Expr} {ta tb:TE} {pos:Pos}
theorem IxR.or {r r':R2} (h:IxR X r) (h':IxR X r'):IxR X (fun x y H Q=>r x y H Q ∨ r' x y H Q):=by
 intro value slice pins s σ H x y v u Q I rx ry q hs
 rcases q with q | q
 ·exact h value slice pins s σ H x y v u Q I rx ry q hs
 ·exact h' value slice pins s σ H x y v u Q I rx ry q hs
theorem Zrm {r:R2} (hr:IxR X r) (ha:PE X a ta) (hb:PE X b tb) (hs:ZlK b):PE X (.Subscript a b pos) (tOp r ta tb):=by
 intro pins s σ H Q I h
 exact Subscript_ (Zp1 ha hb I h fun v u s2 x y H2 I2 rx ry q=>hr a b pins s2 σ H2 x y v u Q I2 rx ry q (hs _ _))
noncomputable def Zr4 (K:PySem.W.Frag):R2:=fun x y H Q=>∃ p xs i v,x = .ref p ∧ y = .int i ∧ SqL K H p xs ∧ atI xs i = some v ∧ Q v H
noncomputable def Zrj (K:PySem.W.Frag):R2:=fun x y H Q=>∃ p xs i v,x = .ref p ∧ y = .int i ∧ SqT K H p xs ∧ atI xs i = some v ∧ Q v H
noncomputable def Zrv:R2:=fun x y H Q=>∃ z i c,x = .str z ∧ y = .int i ∧ z.length ≤ sizeLine ∧ atI z.cps.toList i = some c ∧ Q (.str ⟨#[c]⟩) H
theorem Zox:IxR X (Zr4 X.K):=by
 intro value slice pins s σ H x y v u Q I rx ry h hs
 obtain ⟨p,xs,i,z,rfl,rfl,hq,he,q⟩:=h
 cases rx
 obtain ⟨t,rfl⟩:=ry
 obtain ⟨its,r,pl,hz⟩:=I.list hq
 obtain ⟨j,h1,h2,h3,h4,h5⟩:=ZiO he
 obtain ⟨w,ew,rw'⟩:=r.get h2
 have hl:=r.length
 have hn:=Zg0
 have fin:EP X pins σ Q w s:=⟨z,H,I,rw',q⟩
 by_cases h0:0 ≤ i
 ·have hj:i.toNat = j:=by
   rw [seqIndex_of h0 h5] at h1
   exact Option.some.inj h1
  exact item_listR pl.isList h0 (by omega) (by rw [hj]; simpa using ew) fin hs
 ·have hj:(i + (its.toArray.size:Int)).toNat = j:=by
   rw [seqIndex_neg (by omega) h4] at h1
   rw [List.size_toArray,← hl]
   exact Option.some.inj h1
  exact subscriptTail_builtinR (x:=w) pl.isList.typeIs slot_list_getitem.lookup
   (wpAny_getItem_list_neg (Q:=fun r s'=>r = w ∧ EP X pins σ Q r s') pl.isList (by omega) (by rw [List.size_toArray] <;> omega) (by omega) (by rw [hj]; simpa using ew) ⟨rfl,fin⟩) hs
theorem Zpg:IxR X (Zrj X.K):=by
 intro value slice pins s σ H x y v u Q I rx ry h hs
 obtain ⟨p,xs,i,z,rfl,rfl,hq,he,q⟩:=h
 cases rx
 obtain ⟨t,rfl⟩:=ry
 obtain ⟨its,r,pl,hz⟩:=I.tuple hq
 obtain ⟨j,h1,h2,h3,h4,h5⟩:=ZiO he
 obtain ⟨w,ew,rw'⟩:=r.get h2
 have hl:=r.length
 have hn:=Zg0
 have fin:EP X pins σ Q w s:=⟨z,H,I,rw',q⟩
 exact subscriptTail_builtinR (x:=w) pl.typeIs slot_tuple_getitem.lookup
  (getItem_tuple (j:=j) (Q:=fun r s'=>r = w ∧ EP X pins σ Q r s') pl (by omega) (by omega) (by rw [List.size_toArray,← hl]; exact h1) (by simpa using ew) ⟨rfl,fin⟩) hs
theorem ZpE:IxR X Zrv:=by
 intro value slice pins s σ H x y v u Q I rx ry h hs
 obtain ⟨z,i,c,rfl,rfl,hz,he,q⟩:=h
 obtain ⟨t,rfl⟩:=rx
 obtain ⟨t',rfl⟩:=ry
 obtain ⟨j,h1,h2,h3,h4,h5⟩:=ZiO he
 have hl:z.cps.toList.length = z.length:=by simp [Str.length]
 rw [hl] at h1 h4 h5
 have hn:=Zg0
 exact tail_any (typeIs_str s z t) slot_str_getitem.lookup (getItem_str (c:=c) (by
  have e1:decide (i < -(2 ^ 63:Int)) = false:=decide_eq_false (by omega)
  have e2:decide (i ≥ 2 ^ 63) = false:=decide_eq_false (by omega)
  rw [e1,e2,Bool.or_false]) (by rw [h1]; simpa using h2) ⟨.str ⟨#[c]⟩,H,I.tok _,⟨_,rfl⟩,q⟩) hs
noncomputable def rIx (K:PySem.W.Frag):R2:=fun x y H Q=>Zr4 K x y H Q ∨ Zrj K x y H Q ∨ Zrv x y H Q
theorem ZqW:IxR X (rIx X.K):=Zox.or (Zpg.or ZpE)
theorem Zkq (its:List Value) (n j:Nat) (u:Value):Obj.mapSeq (·.setIfInBounds j u) { cls:=.type "list",data:=.seq its.toArray n } = { cls:=.type "list",data:=.seq (its.set j u).toArray n }:=by
 simp [Obj.mapSeq]
theorem Inv.lst {pins:List (Addr × Obj)} {σ:St} {H:Hp} {s:Shared} {p:Addr} {xs:List V} (I:Inv X pins σ H s) (h:H p = some (.lst xs)):
  ∃ (its:List Value) (n:Nat),Vals xs its ∧ s.heap.get? p = some { cls:=.type "list",data:=.seq its.toArray n } ∧ xs.length ≤ sizeLine:=by
 obtain ⟨z,its,n,r,e⟩:=I.hok p _ h
 exact ⟨its,n,r,e,z⟩
theorem Inv.lstUpd {pins:List (Addr × Obj)} {σ:St} {H:Hp} {s:Shared} {p:Addr} {xs ys:List V} {its its':List Value} {n n':Nat} {f:Obj → Obj} (I:Inv X pins σ H s) (h:H p = some (.lst xs))
  (ho:s.heap.get? p = some { cls:=.type "list",data:=.seq its.toArray n }) (hf:f { cls:=.type "list",data:=.seq its.toArray n } = { cls:=.type "list",data:=.seq its'.toArray n' }) (r:Vals ys its') (hz:ys.length ≤ sizeLine) (t:Nat):
  Inv X pins σ (upd H p (.lst ys)) { s with heap:=s.heap.update p f,toks:=t }:=by
 have e:(s.heap.update p f).get? p = some { cls:=.type "list",data:=.seq its'.toArray n' }:=by
  rw [Heap.get?_update_self f ho (by rw [hf] <;> rfl),hf]
 refine I.write (x:=p) (e:=p) (by rw [h]; trivial) (.inl rfl) (fun b u hb q=>(Heap.get?_update_other _ _ (Ne.symm hb)).trans q) ⟨_,e⟩ ?_
 exact ⟨hz,its',n',r,e⟩
noncomputable def Zry:V → V → V → Hp → (Hp → Prop) → Prop:=fun o i v H Q=>∃ p xs k j,o = .ref p ∧ i = .int k ∧ H p = some (.lst xs) ∧ ixN xs.length k = some j ∧ Q (upd H p (.lst (xs.set j v)))
theorem set_list:ZrG X Zry:=by
 intro pins s σ H o i v ov iv u Q I ro ri rv h
 obtain ⟨p,xs,k,j,rfl,rfl,hp,hj,q⟩:=h
 cases ro
 obtain ⟨t,rfl⟩:=ri
 obtain ⟨its,n,r,ho,hz⟩:=I.lst hp
 obtain ⟨h1,h2,h3,h4⟩:=Zlx hj
 have hl:=r.length
 have hn:=Zg0
 have I':Inv X pins σ (upd H p (.lst (xs.set j v))) { s with heap:=s.heap.update p (Obj.mapSeq (·.setIfInBounds j u)) }:=
  I.lstUpd hp ho (Zkq its n j u) (r.set rv j) (by rw [List.length_set]; exact hz) s.toks
 by_cases h0:0 ≤ k
 ·have hk:k.toNat = j:=by
   rw [seqIndex_of h0 h4] at h1
   exact Option.some.inj h1
  exact PySem.W.ki_setAt ho h0 (by omega) (by rw [List.size_toArray,← hl]; exact h4) (by rw [hk]; exact ⟨_,I',q⟩)
 ·have hk:(k + (its.toArray.size:Int)).toNat = j:=by
   rw [seqIndex_neg (by omega) h3] at h1
   rw [List.size_toArray,← hl]
   exact Option.some.inj h1
  exact PySem.W.ki_setBack ho (by omega) (by rw [List.size_toArray,← hl]; exact h3) (by omega) (by rw [hk]; exact ⟨_,I',q⟩)
theorem ZiK (lo hi:Option Int) (n:Nat):(sliceBounds lo hi none n).1 = ((HT.sIx n 0 lo:Nat):Int) ∧ (sliceBounds lo hi none n).2.1 = ((HT.sIx n n hi:Nat):Int) ∧ (sliceBounds lo hi none n).2.2 = 1:=by
 refine ⟨?_,?_,rfl⟩
 ·cases lo with
  | none=>simp [sliceBounds,HT.sIx]
  | some i=>
   simp only [sliceBounds,HT.sIx,Option.getD_none,show (1:Int) > 0 by decide,if_true]
   by_cases h:i < 0
   ·simp only [h,if_true] <;> omega
   ·simp only [h,if_false] <;> omega
 ·cases hi with
  | none=>simp [sliceBounds,HT.sIx]
  | some i=>
   simp only [sliceBounds,HT.sIx,Option.getD_none,show (1:Int) > 0 by decide,if_true]
   by_cases h:i < 0
   ·simp only [h,if_true] <;> omega
   ·simp only [h,if_false] <;> omega
theorem ZhQ (its:List Value) (lo hi:Option Int):slicePick its.toArray lo hi none = ((its.drop (HT.sIx its.length 0 lo)).take (HT.sIx its.length its.length hi - HT.sIx its.length 0 lo)).toArray:=by
 obtain ⟨h1,h2,h3⟩:=ZiK lo hi its.toArray.size
 unfold slicePick
 rw [h1,h2,h3]
 simp only [sliceRange_one,pick_run,List.size_toArray] <;> rfl
noncomputable def Zsx (K:PySem.W.Frag):V → Option Int → Option Int → Hp → VK → Prop:=fun x lo hi H Q=>∃ a xs,x = .ref a ∧ SqL K H a xs ∧ ∀ p,H p = none → Q (.ref p) (upd H p (.lst (ZjD xs lo hi)))
theorem Zow:SlR X (Zsx X.K):=by
 intro pins s σ H x v vl vu lo hi sl Q I rx hs pl pu h
 obtain ⟨a,xs,rfl,hx,q⟩:=h
 cases rx
 obtain ⟨its,r,ht,hz⟩:=I.list hx
 have hlen:=r.length
 refine ⟨"list",_,slot_list_getitem.lookup,ht.isList.typeIs,?_⟩
 refine wpAny_getItem_list_slice ht.isList hs pl pu .none (by simp) ?_ (by rw [List.size_toArray] <;> omega)
 rw [ZhQ,← hlen]
 refine ⟨.ref s.heap.objs.size,_,I.laid (t':=s.toks) (o:=.lst (ZjD xs lo hi)) (fun b ob q=>Heap.get?_push_of_some _ q) (Nat.le_refl _) ?_,rfl,q _ (I.hok.fresh (Nat.le_refl _))⟩
 exact ⟨Nat.le_trans (Zgy xs lo hi) hz,_,0,(r.drop (HT.sIx xs.length 0 lo)).take (HT.sIx xs.length xs.length hi - HT.sIx xs.length 0 lo),Heap.get?_push_size _ rfl⟩
noncomputable def Zfw:V → Bool
 | .non=>true
 | .bl _=>true
 | .int _=>true
 | .str _=>true
 | _=>false
noncomputable def eqV:V → V → Bool
 | .non,.non=>true
 | .bl a,.bl b=>a == b
 | .bl a,.int b=>(if a then 1 else 0) == b
 | .int a,.bl b=>a == (if b then 1 else 0)
 | .int a,.int b=>a == b
 | .str a,.str b=>a == b
 | _,_=>false
theorem Zp3 {A:Around} {s:Shared} {y x:V} {u v:Value} (ry:RelV y u) (rx:RelV x v) (fy:Zfw y = true) (fx:Zfw x = true):SeqAt.EqAt A s u v (eqV y x):=by
 cases y with
 | non=>
  cases ry
  cases x with
  | non=>cases rx; exact SeqAt.EqAt.same _
  | bl b=>cases rx; exact SeqAt.EqAt.none_bool b
  | int b=>obtain ⟨t,rfl⟩:=rx; exact SeqAt.EqAt.none_int b t
  | str b=>obtain ⟨t,rfl⟩:=rx; exact SeqAt.EqAt.none_str b t
  | _=>exact absurd (show false = true from fx) Bool.false_ne_true
 | bl a=>
  cases ry
  cases x with
  | non=>cases rx; exact SeqAt.EqAt.bool_none a
  | bl b=>cases rx; exact SeqAt.EqAt.bool_bool a b
  | int b=>obtain ⟨t,rfl⟩:=rx; exact SeqAt.EqAt.bool_int a b t
  | str b=>obtain ⟨t,rfl⟩:=rx; exact SeqAt.EqAt.bool_str a b t
  | _=>exact absurd (show false = true from fx) Bool.false_ne_true
 | int a=>
  obtain ⟨t',rfl⟩:=ry
  cases x with
  | non=>cases rx; exact SeqAt.EqAt.int_none a t'
  | bl b=>cases rx; exact SeqAt.EqAt.int_bool a t' b
  | int b=>obtain ⟨t,rfl⟩:=rx; exact SeqAt.EqAt.int_int a t' b t
  | str b=>obtain ⟨t,rfl⟩:=rx; exact SeqAt.EqAt.int_str a t' b t
  | _=>exact absurd (show false = true from fx) Bool.false_ne_true
 | str a=>
  obtain ⟨t',rfl⟩:=ry
  cases x with
  | non=>cases rx; exact SeqAt.EqAt.str_none a t'
  | bl b=>cases rx; exact SeqAt.EqAt.str_bool a t' b
  | int b=>obtain ⟨t,rfl⟩:=rx; exact SeqAt.EqAt.str_int a t' b t
  | str b=>obtain ⟨t,rfl⟩:=rx; exact SeqAt.EqAt.str_str a t' b t
  | _=>exact absurd (show false = true from fx) Bool.false_ne_true
 | _=>exact absurd (show false = true from fy) Bool.false_ne_true
noncomputable def eqU (x:V) (u:Value):Bool:=match u with
 | .none=>eqV .non x
 | .bool b=>eqV (.bl b) x
 | .int i _=>eqV (.int i) x
 | .str z _=>eqV (.str z) x
 | _=>false
theorem Zm3 {x y:V} {u:Value} (r:RelV y u) (f:Zfw y = true):eqU x u = eqV y x:=by
 cases y with
 | non=>cases r; rfl
 | bl b=>cases r; rfl
 | int i=>obtain ⟨t,rfl⟩:=r; rfl
 | str z=>obtain ⟨t,rfl⟩:=r; rfl
 | _=>exact absurd (show false = true from f) Bool.false_ne_true
theorem Zi9 {x:V}:∀ {xs:List V} {us:List Value},Vals xs us → xs.all Zfw = true → us.any (eqU x) = xs.any fun y=>eqV y x
 | _,_,.nil,_=>rfl
 | y :: xs,u :: us,.cons r t,f=>by
  rw [List.all_cons,Bool.and_eq_true] at f
  rw [List.any_cons,List.any_cons,Zm3 r f.1,Zi9 t f.2]
theorem Zhw {A:Around} {s:Shared} {x:V} {v:Value} (rx:RelV x v) (fx:Zfw x = true):∀ {xs:List V} {us:List Value},Vals xs us → xs.all Zfw = true → ∀ u ∈ us,SeqAt.EqAt A s u v (eqU x u)
 | _,_,.nil,_=>fun u hu=>by cases hu
 | y :: xs,u :: us,.cons r t,f=>fun u' hu=>by
  rw [List.all_cons,Bool.and_eq_true] at f
  rcases List.mem_cons.mp hu with rfl | hu
  ·rw [Zm3 r f.1]; exact Zp3 r rx f.1 fx
  ·exact Zhw rx fx t f.2 u' hu
noncomputable def inV (x:V) (xs:List V):Bool:=xs.any fun y=>eqV y x
noncomputable def rIn (K:PySem.W.Frag) (neg:Bool):R2:=fun x y H Q=>∃ p xs,y = .ref p ∧ (SqL K H p xs ∨ SqT K H p xs) ∧ Zfw x = true ∧ xs.all Zfw = true ∧ Q (.bl (if neg then !inV x xs else inV x xs)) H
theorem ZlO:OpR X (compareOp .In) (rIn X.K false):=by
 intro pins s σ H x y v u Q I rx ry h
 obtain ⟨p,xs,rfl,hq,fx,fs,q⟩:=h
 cases ry
 rcases hq with hq | hq
 ·obtain ⟨its,r,pl,hz⟩:=I.list hq
  refine SeqAt.in_listAt (eqU x) pl.isList (fun w hw=>Zhw rx fx r fs w (by simpa using hw)) ⟨.bl _,H,I,rfl,?_⟩
  rw [show its.toArray.any (eqU x) = its.any (eqU x) by simp,Zi9 r fs]
  exact q
 ·obtain ⟨its,r,pl,hz⟩:=I.tuple hq
  refine SeqAt.in_tupleAt (eqU x) pl (fun w hw=>Zhw rx fx r fs w (by simpa using hw)) ⟨.bl _,H,I,rfl,?_⟩
  rw [show its.toArray.any (eqU x) = its.any (eqU x) by simp,Zi9 r fs]
  exact q
theorem Zbv.or {f:Value} {r r':List V → Hp → VK → Prop} (h:Zbv X f r) (h':Zbv X f r'):Zbv X f (fun xs H Q=>r xs H Q ∨ r' xs H Q):=by
 intro pins s σ H xs us Q I rs q
 rcases q with q | q
 ·exact h pins s σ H xs us Q I rs q
 ·exact h' pins s σ H xs us Q I rs q
theorem Zje:Zbv X (.type "list") (fun xs H Q=>∃ p ys,xs = [.ref p] ∧ (SqL X.K H p ys ∨ SqT X.K H p ys) ∧ ∀ l,H l = none → Q (.ref l) (upd H l (.lst ys))):=by
 intro pins s σ H xs us Q I r h
 obtain ⟨p,ys,rfl,hq,q⟩:=h
 obtain ⟨u,rfl,rx⟩:=vals1 r
 cases rx
 have fin:∀ (its:List Value),Vals ys its → ys.length ≤ sizeLine → ∀ (h':Heap) (c':Nat),(∀ b o',s.heap.get? b = some o' → h'.get? b = some o') →
   h'.get? s.heap.objs.size = some { cls:=.type "list",dict:=none,data:=.seq its.toArray c',slots:=#[] } → EP X pins σ Q (.ref s.heap.objs.size) { s with heap:=h' }:=fun its r' hz h' c' kp e=>
  ⟨.ref s.heap.objs.size,_,I.laid (t':=s.toks) kp (Nat.le_refl _) (show ZbG X.prog X.w _ h' _ (.lst ys) from ⟨hz,its,c',r',e⟩),rfl,q _ (I.hok.fresh (Nat.le_refl _))⟩
 rcases hq with hq | hq
 ·obtain ⟨its,r',pl,hz⟩:=I.list hq
  have hlen:=r'.length
  obtain ⟨o,ho,hc,n,hd⟩:=pl.isList
  exact call_list_seq p (.inl rfl) ho hc hd (fun h' c' kp e=>fin its r' hz h' c' kp e) (by simp only [List.size_toArray] <;> omega)
 ·obtain ⟨its,r',pl,hz⟩:=I.tuple hq
  have hlen:=r'.length
  obtain ⟨o,ho,hc,n,hd⟩:=pl
  exact call_list_seq p (.inr rfl) ho hc hd (fun h' c' kp e=>fin its r' hz h' c' kp e) (by simp only [List.size_toArray] <;> omega)
theorem ZhR:Zbv X (.type "tuple") (fun xs H Q=>∃ p ys,xs = [.ref p] ∧ ((SqL X.K H p ys ∧ ∀ l,H l = none → Q (.ref l) (upd H l (.tup ys))) ∨ (SqT X.K H p ys ∧ Q (.ref p) H))):=by
 intro pins s σ H xs us Q I r h
 obtain ⟨p,ys,rfl,h⟩:=h
 obtain ⟨u,rfl,rx⟩:=vals1 r
 cases rx
 rcases h with ⟨hq,q⟩ | ⟨hq,q⟩
 ·obtain ⟨its,r',pl,hz⟩:=I.list hq
  have hlen:=r'.length
  refine call_tuple_list pl.isList (fun h' kp=>?_) (by simp only [List.size_toArray] <;> omega)
  have I1:Inv X pins σ H { s with heap:=h' }:=I.kept (t':=s.toks) kp
  have I2:Inv X pins σ (upd H h'.objs.size (.tup ys)) { s with heap:=h'.push { cls:=.type "tuple",data:=.seq its.toArray } }:=
   I1.laid (t':=s.toks) (fun b o e=>Heap.get?_push_of_some _ e) (Nat.le_refl _) (show ZbG X.prog X.w _ _ _ (.tup ys) from ⟨hz,its,r',ZdS.new _ _⟩)
  exact ⟨.ref h'.objs.size,_,I2,rfl,q _ (I1.hok.fresh (Nat.le_refl _))⟩
 ·obtain ⟨its,r',pl,hz⟩:=I.tuple hq
  exact call_tuple_same pl ⟨.ref p,H,I,rfl,q⟩
noncomputable def tyV (K:PySem.W.Frag) (T:String) (x:V) (H:Hp):Prop:=match x with
 | .str _=>T = "str"
 | .int _=>T = "int"
 | .ref p=>(T = "list" ∧ ∃ xs,SqL K H p xs) ∨ (T = "tuple" ∧ ∃ o,K.lookup p = some o ∧ o.cls = .type "tuple" ∧ o.dict = none) ∨
   (T = "dict" ∧ ((∃ kvs,H p = some (.dK kvs)) ∨ ∃ kvs,H p = some (.dT kvs))) ∨ (T = "set" ∧ ∃ S n,H p = some (.set S n))
 | _=>False
theorem ZqZ {pins:List (Addr × Obj)} {σ:St} {H:Hp} {s:Shared} {T:String} {x:V} {v:Value} (I:Inv X pins σ H s) (r:RelV x v) (ty:tyV X.K T x H):
  s.TypeIs v T ∧ ∀ a,v = .ref a → ∃ ob,s.heap.get? a = some ob ∧ ob.dict = none:=by
 cases x with
 | str z=>
  obtain ⟨t,rfl⟩:=r
  cases (show T = "str" from ty)
  exact ⟨typeIs_str s z t,fun _ e=>nomatch e⟩
 | int i=>
  obtain ⟨t,rfl⟩:=r
  cases (show T = "int" from ty)
  exact ⟨typeIs_int s i t,fun _ e=>nomatch e⟩
 | ref p=>
  cases r
  rcases ty with ⟨rfl,xs,hq⟩ | ⟨rfl,o,hk,hc,hd⟩ | ⟨rfl,hk⟩ | ⟨rfl,S,n,hk⟩
  ·obtain ⟨its,_,pl,_⟩:=I.list hq
   refine ⟨pl.isList.typeIs,fun a e=>?_⟩
   cases e
   obtain ⟨o,n,e,c,hd,_⟩:=pl
   exact ⟨o,e,hd⟩
  ·refine ⟨⟨o,I.kIn p o hk,hc⟩,fun a e=>?_⟩
   cases e
   exact ⟨o,I.kIn _ o hk,hd⟩
  ·have z:∃ o,s.heap.get? p = some o ∧ o.ExactDict:=by
    rcases hk with ⟨kvs,hk⟩ | ⟨kvs,hk⟩
    ·obtain ⟨_,_,_,_,o,_,_,e,ex,_⟩:=I.hok p _ hk
     exact ⟨o,e,ex⟩
    ·obtain ⟨_,_,_,_,o,_,_,e,ex,_⟩:=I.hok p _ hk
     exact ⟨o,e,ex⟩
   obtain ⟨o,e,ex⟩:=z
   refine ⟨⟨o,e,ex.1⟩,fun a e2=>?_⟩
   cases e2
   exact ⟨o,e,ex.2.1⟩
  ·obtain ⟨o,_,_,_,e,ex,_⟩:=I.hok p _ hk
   refine ⟨⟨o,e,ex.1⟩,fun a e2=>?_⟩
   cases e2
   exact ⟨o,e,ex.2.1⟩
 | _=>exact False.elim ty
noncomputable def tBM (K:PySem.W.Frag) (T:String) (r:V → List V → Hp → VK → Prop) (to:TE) (t:TA):TE:=fun σ H Q=>to σ H fun x H1=>tyV K T x H1 ∧ t σ H1 fun xs H2=>r x xs H2 Q
variable {o e:Expr} {es:List Expr} {to:TE} {t:TA} {name:Str} {apos cpos:Pos} {T id:String} {r:V → List V → Hp → VK → Prop}
theorem Zr7 (pa:PlainAttrs T) (slot:Slot T name id) (hty:typeOf (.builtin id) = pure (.type "method_descriptor")) (hm:MtR X id r) (ho:PE X o to) (ha:PA X (e :: es) t)
  (hbase:attributeBase o name X.env (eval o X.env) = eval o X.env:=by rfl)
  (hfew:((backTo cpos (starEach (e :: es) X.env)).all (fun x=>!x.1) && (backToKw cpos (keywordEach [] X.env)).all (fun x=>x.1.isSome)
   && decide ((e :: es).length + ([]:List Keyword).length + (if ([]:List Keyword).isEmpty then 0 else 1) < 30)) = true:=by rfl)
  (hline:(apos.endLine == cpos.line) = true:=by rfl) (hs:starEach (e :: es) X.env = (false,eval e X.env) :: starEach es X.env:=by rfl) (hplain:(backTo cpos (starEach es X.env)).any (·.1) = false:=by rfl):
  PE X (.Call (.Attribute o name apos) (e :: es) [] cpos) (tBM X.K T r to t):=by
 intro pins s σ H Q I h
 refine wpAny_Call_method_late hbase hfew hline rfl (thn (ho pins s σ H _ I h) fun v s1 ⟨x,H1,I1,r1,ty,q1⟩=>?_)
 obtain ⟨h1,h2⟩:=ZqZ I1 r1 ty
 refine ⟨T,id,pa,slot,hty,h1,h2,?_⟩
 have hA:=ha cpos pins s1 σ H1 _ I1 q1
 rw [hs] at hA ⊢
 refine Calls.callWith_builtin (by show (false || (backTo cpos (starEach es X.env)).any (·.1)) = false; rw [hplain] <;> rfl) (Calls.evalArgs_plain ?_)
 exact thn hA fun us s2 ⟨vs,H2,I2,r2,q2⟩=>hm pins s2 σ H2 x vs v us Q I2 r1 r2 q2
/- xs.append(e),list.index on a module's tuple .. are MtR facts of 06m -/
end
end L2
namespace L2
open PySem PySem.Spec PyProof.Rows
noncomputable def MtM (X:Cx) (id:String) (r:V → List V → Hp → VK → Prop):Prop:=
 ∀ (pins:List (Addr × Obj)) (s:Shared) (σ:St) (H:Hp) (x:V) (xs:List V) (v:Value) (us:List Value) (Q:VK),Inv X pins σ H s → RelV x v → Vals xs us → r x xs H Q →
  wpAny (model X.prog X.w) X.A (call (.builtin id) (v :: us)) (EP X pins σ Q) X.xe s
theorem Vals.one:∀ {x:V} {us:List Value},Vals [x] us → ∃ u,us = [u] ∧ RelV x u
 | _,_,.cons r .nil=>⟨_,rfl,r⟩
theorem Vals.zero:∀ {us:List Value},Vals [] us → us = []
 | _,.nil=>rfl
theorem Vals.dropLast {xs:List V} {us:List Value} (h:Vals xs us):Vals xs.dropLast us.dropLast:=by
 induction h with
 | nil=>exact .nil
 | cons r t ih=>
  cases t with
  | nil=>exact .nil
  | cons q t'=>exact .cons r ih
theorem Vals.eraseIdx:∀ {xs:List V} {us:List Value} (i:Nat),Vals xs us → Vals (xs.eraseIdx i) (us.eraseIdx i)
 | _,_,_,.nil=>.nil
 | _,_,0,.cons _ t=>t
 | _,_,i + 1,.cons r t=>.cons r (Vals.eraseIdx i t)
theorem Vals.reverse {xs:List V} {us:List Value} (h:Vals xs us):Vals xs.reverse us.reverse:=by
 induction h with
 | nil=>exact .nil
 | cons r t ih=>rw [List.reverse_cons,List.reverse_cons]; exact Vals.append ih (.cons r .nil)
theorem Vals.rep {xs:List V} {us:List Value} (h:Vals xs us):∀ k:Nat,Vals (List.replicate k xs).flatten (List.replicate k us).flatten
 | 0=>.nil
 | k + 1=>by
  rw [List.replicate_succ,List.replicate_succ,List.flatten_cons,List.flatten_cons]
  exact Vals.append h (Vals.rep h k)
theorem foldl_rep (its:List Value):∀ (k:Nat) (acc:List Value),
  List.foldl (fun x1 x2=>x1 ++ x2) acc.toArray (List.replicate k its.toArray) = (acc ++ (List.replicate k its).flatten).toArray
 | 0,acc=>by simp
 | k + 1,acc=>by
  have e:acc.toArray ++ its.toArray = (acc ++ its).toArray:=by simp
  have e2:(acc ++ its) ++ (List.replicate k its).flatten = acc ++ (List.replicate (k + 1) its).flatten:=by
   rw [List.replicate_succ,List.flatten_cons,List.append_assoc]
  rw [← e2,← foldl_rep its k (acc ++ its),← e,List.replicate_succ,List.foldl_cons]
section
variable {X:Cx} {pins:List (Addr × Obj)} {σ:St} {H:Hp} {s:Shared} {l b:Addr} {xs ys zs:List V}
theorem Inv.lset {its its':List Value} {n:Nat} {f:Array Value → Array Value} {t':Nat} (I:Inv X pins σ H s) (hH:H l = some (.lst xs))
  (e:s.heap.get? l = some { cls:=.type "list",data:=.seq its.toArray n }) (hf:f its.toArray = its'.toArray) (hv:Vals ys its') (hz:ys.length ≤ sizeLine):
  Inv X pins σ (upd H l (.lst ys)) { s with heap:=s.heap.update l (Obj.mapSeq f),toks:=t' }:=by
 have q:=PySem.IsL.update e f
 rw [hf] at q
 refine I.write (x:=l) (e:=l) (by rw [hH]; exact trivial) (.inl rfl) (fun b' u hb hu=>(Heap.get?_update_other s.heap (Obj.mapSeq f) (Ne.symm hb)).trans hu) ⟨_,q⟩ ?_
 exact ⟨hz,its',_,hv,q⟩
theorem Inv.lnew {its:List Value} {t':Nat} (I:Inv X pins σ H s) (hv:Vals ys its) (hz:ys.length ≤ sizeLine):
  Inv X pins σ (upd H s.heap.objs.size (.lst ys)) { s with heap:=s.heap.push { cls:=.type "list",data:=.seq its.toArray },toks:=t' }:=
 I.laid (fun _ _ q=>Heap.get?_push_of_some _ q) (Nat.le_refl _) ⟨hz,its,0,hv,Heap.get?_push_size _ rfl⟩
theorem Inv.fresh (I:Inv X pins σ H s):H s.heap.objs.size = none:=I.hok.fresh (Nat.le_refl _)
theorem Inv.lstM (I:Inv X pins σ H s) (hH:H l = some (.lst xs)):xs.length ≤ sizeLine ∧ ∃ (its:List Value) (n:Nat),Vals xs its ∧ xs.length = its.length ∧ s.heap.get? l = some { cls:=.type "list",data:=.seq its.toArray n }:=by
 obtain ⟨z,its,n,r,e⟩:=I.hok l _ hH
 exact ⟨z,its,n,r,r.length,e⟩
theorem ZnL {n:Nat} (h:n ≤ sizeLine):Builtin.List.listTooLong n = false:=by
 unfold Builtin.List.listTooLong
 exact decide_eq_false (by omega)
end
section
variable {X:Cx}
noncomputable def Zlh:V → List V → Hp → VK → Prop:=fun x vs H Q=>∃ l xs y,x = .ref l ∧ vs = [y] ∧ H l = some (.lst xs) ∧ xs.length < sizeLine ∧ Q .non (upd H l (.lst (xs ++ [y])))
theorem Zil:MtM X "list.append" Zlh:=by
 intro pins s σ H x vs v us Q I rx rv h
 obtain ⟨l,xs,y,rfl,rfl,hH,hz,q⟩:=h
 cases rx
 obtain ⟨u,rfl,ru⟩:=rv.one
 obtain ⟨z,its,n,r,hl,e⟩:=I.lstM hH
 refine call_meets F.slot_list_append ⟨_,e,rfl⟩ F.entry_list_append (F.args_list_append_2 _ _) (PySem.list_append l its.toArray n u (by rw [List.size_toArray]; omega)) ⟨e,?_⟩
 refine ⟨.non,_,I.lset (its':=its ++ [u]) hH e (by simp) (r.append (.cons ru .nil)) ?_,rfl,q⟩
 rw [List.length_append,List.length_singleton]
 omega
noncomputable def Zst:R2:=fun x y H Q=>∃ l b xs zs,x = .ref l ∧ y = .ref b ∧ H l = some (.lst xs) ∧ H b = some (.lst zs) ∧ xs.length + zs.length ≤ sizeLine ∧ ∀ p,H p = none → Q (.ref p) (upd H p (.lst (xs ++ zs)))
theorem Zqh:OpR X (binaryOp .Add) Zst:=by
 intro pins s σ H x y v u Q I rx ry h
 obtain ⟨l,b,xs,zs,rfl,rfl,hH,hB,hz,q⟩:=h
 cases rx
 cases ry
 obtain ⟨z,its,n,r,hl,e⟩:=I.lstM hH
 obtain ⟨z2,its2,n2,r2,hl2,e2⟩:=I.lstM hB
 refine PySem.P.add_list e e2 ?_ (by rw [List.size_toArray,List.size_toArray]; omega)
 have ea:its.toArray ++ its2.toArray = (its ++ its2).toArray:=by simp
 rw [ea]
 exact ⟨.ref _,_,I.lnew (t':=s.toks) (r.append r2) (by rw [List.length_append]; omega),rfl,q _ I.fresh⟩
noncomputable def Zs9:R2:=fun x y H Q=>∃ l k xs,x = .ref l ∧ y = .int k ∧ H l = some (.lst xs) ∧ -(2 ^ 63) ≤ k ∧ k < 2 ^ 63 ∧ xs.length * k.toNat ≤ sizeLine ∧
 ∀ p,H p = none → Q (.ref p) (upd H p (.lst (List.replicate k.toNat xs).flatten))
theorem len_rep {α:Type} (xs:List α) (k:Nat):(List.replicate k xs).flatten.length = k * xs.length:=by
 induction k with
 | zero=>simp
 | succ k ih=>rw [List.replicate_succ,List.flatten_cons,List.length_append,ih,Nat.succ_mul,Nat.add_comm]
theorem ZpL:OpR X (binaryOp .Mult) Zs9:=by
 intro pins s σ H x y v u Q I rx ry h
 obtain ⟨l,k,xs,rfl,rfl,hH,h1,h2,hz,q⟩:=h
 cases rx
 obtain ⟨t,rfl⟩:=ry
 obtain ⟨z,its,n,r,hl,e⟩:=I.lstM hH
 have hlen:its.toArray.size * k.toNat ≤ sizeLine:=by rw [List.size_toArray,← hl]; exact hz
 have hcap:¬ its.toArray.size * k.toNat > (2 ^ 63 - 1) / 8:=by
  have:(sizeLine:Nat) ≤ (2 ^ 63 - 1) / 8:=by decide
  omega
 have hfit:¬ (!Builtin.List.listFitsIndex k) = true:=by
  rw [fitsIndex_both h1 h2]
  exact Bool.false_ne_true
 have hlong:¬ Builtin.List.listTooLong (its.toArray.size * k.toNat) = true:=by
  rw [ZnL hlen]
  exact Bool.false_ne_true
 have hnew:List.foldl (fun x1 x2=>x1 ++ x2) #[] (List.replicate (if its.toArray.isEmpty = true then 0 else k.toNat) its.toArray) = (List.replicate k.toNat its).flatten.toArray:=by
  have f0:∀ m:Nat,List.foldl (fun x1 x2=>x1 ++ x2) #[] (List.replicate m its.toArray) = (List.replicate m its).flatten.toArray:=fun m=>by
   have:=foldl_rep its m []
   rw [List.nil_append] at this
   exact this
  rw [f0]
  cases its with
  | nil=>simp
  | cons a r'=>rw [if_neg (by simp)]
 refine wpAny_binaryOp_repeat_ref (T:="list") (U:="int") (by decide) ⟨_,e,rfl⟩ (fun s'=>typeIs_int s' k t) noFill_list_mul F.fills_int_mul F.slot_int_rmul repeat_list F.slot_int_index.lookup
  (call_meets F.slot_int_rmul (typeIs_int s k t) F.entry_int_rmul (F.args_int_rmul_2 _ _) (int___rmul___int_list k t l its.toArray n)
   ⟨e,rfl,⟨_,e,rfl⟩,call_meets F.slot_list_mul ⟨_,e,rfl⟩ F.entry_list_mul (F.args_list_mul_2 _ _) (AutoListH.list___mul___list_int_3 l its.toArray n k t hfit hcap hlong) ⟨e,?_⟩⟩)
 rw [hnew]
 exact ⟨.ref _,_,I.lnew (t':=s.toks) (r.rep k.toNat) (by rw [len_rep,Nat.mul_comm]; exact hz),rfl,q _ I.fresh⟩
end
section
variable {prog:Program} {w:World} {A:Around} {E:Value → Shared → Prop} {s:Shared}
end
section
variable {X:Cx}
end
end L2
namespace Att
open PySem PySem.W PySem.Calls PyProof.Rows
theorem ZgK {P:Params} {h:Heap}:∀ (ns:List Int) (vs:List Value),WellAll P h vs (ns.map WData.int) → IntsAre vs ns:=by
 intro ns
 induction ns with
 | nil=>
  intro vs w
  rw [List.map_nil] at w
  cases w
  exact .nil
 | cons n ns ih=>
  intro vs w
  rw [List.map_cons] at w
  cases w with
  | cons a b=>
   cases a
   exact .cons _ _ (ih _ b)
theorem Zms {l:OpenLaw} {n:Nat} (hn:l.most = some n) {P:Params} {h:Heap} {args:List WData} {vals:List Value}
  (hpre:l.row.toRowW.claim.pre args = true) (hwl:WellAll P h vals args):
  ∃ a vs ns,vals = [Value.ref a] ∧ args = [WData.list (ns.map WData.int)] ∧ h.get? a = some { cls:=.type "list",data:=.seq vs.toArray } ∧ IntsAre vs ns ∧ ns.length ≤ n:=by
 have hsh:WShape.hasAll [] args [.list .int] = true:=(pre_splitW hpre).1
 have hc:l.pre.holds [] { args:=args } = true:=(pre_splitW hpre).2
 obtain ⟨d,r,rfl,h1,h2⟩:=hasAllW_cons hsh
 obtain rfl:=hasAllW_nil h2
 obtain ⟨xs,rfl,h3⟩:=hasW_list h1
 obtain ⟨ns,rfl⟩:=items_int h3
 have hlen:ns.length ≤ n:=by
  unfold OpenLaw.pre at hc
  have h4:(WTm.not (.lt (.lit (.int (n:Int))) (.len (.arg 0)))).holds [] { args:=[.list (ns.map .int)] } = true:=by
   have h4:=(holds_andW hc).1
   rw [hn] at h4
   exact h4
  have h5:=condW_of h4 (w_not (w_lt w_lit (w_len_list (w_arg rfl))))
  rw [List.length_map] at h5
  refine Nat.le_of_not_lt fun q=>?_
  have q':(n:Int) < ((ns.length:Nat):Int):=by omega
  first
   | (rw [decide_eq_true q'] at h5; exact absurd h5 (by decide))
   | (simp at h5; omega)
 cases hwl with
 | cons w1 w2=>
  cases w2
  cases w1 with
  | list ho hall=>exact ⟨_,_,ns,rfl,rfl,ho,ZgK ns _ hall,hlen⟩
theorem Zmu (l:OpenLaw) (args:List WData):l.row.toRowW.claim.post args (.bool true) args = true:=
 postW_of (r:=l.row.toRowW) (X:=(true == true))
  (show WShape.has [] (.bool true) .bool = true by first | rfl | decide | simp [WShape.has,WShape.arms,WShape.armsAll])
  (show (WTm.eq .res (.lit (.bool true))).value [] { args:=args,res:=some (.bool true),after:=args } = some (.bool (true == true)) from w_eq_bool (w_res rfl) w_lit) rfl
theorem attach_call {l:OpenLaw} {n:Nat} {q:Program} {loose:List Str} {XP:(Str → Option Value) → Heap → Prop} {YP:World → Heap → Prop} {d:DefRec}
  (hn:l.most = some n) (hdf:d.params.defaults = [])
  (call:∀ (w:World) (s₀ s₁:Shared) (mg mb:Str → Option Value) (fa:Addr) (o:Obj) (pm cd doc:Value) (a:Addr) (vs:List Value) (ns:List Int),
   Ground q loose [] XP w s₀ mg mb s₁.heap → YP w s₁.heap →
   s₁.heap.get? fa = some o → o.data = .func (docDef d.name d.params d.body d.scope pm cd doc) → s₁.heap.CodeRec cd d.name → mg d.name = some (.ref fa) →
   s₁.heap.get? a = some { cls:=.type "list",data:=.seq vs.toArray } → IntsAre vs ns → ns.length ≤ n → s₁.gens = #[] →
   codeAny (model l.prog w) callerA (.call (.ref fa) ⟨[.ref a],[]⟩) (fun r s'=>r = .ok (.ret (.bool true)) ∧ OldK s₁.heap s'.heap ∧ s'.os = s₁.os ∧ AllBare s'.gens) s₁):
  WalkO q loose XP YP l.row.toRowW d [] (fun f vs=>PySem.call f vs):=by
 intro w s₀ s₁ mg mb G Y fa o pm cd doc dV kV ho hd hcd hD hmg hg args vals as hpre hlay hrd hwl hlo
 obtain rfl:dV = .none:=Dflts.none hD hdf
 obtain rfl:kV = .none:=Dflts.noKw hD
 obtain ⟨a,vs,ns,rfl,rfl,hobj,hints,hlen⟩:=Zms hn hpre hwl
 refine enter_call (codeAny_mono (call w s₀ s₁ mg mb fa o pm cd doc a vs ns G Y ho (fd_plain hd) hcd hmg hobj hints hlen hg) fun r s' hq=>?_)
 obtain ⟨rfl,h2,h3,h4⟩:=hq
 exact ⟨.inl ⟨.bool true,.bool true,[],rfl,fun _=>rfl,.bool true,Zmu l _,fun _=>⟨List.Pairwise.nil,fun _ hm=>(nomatch hm)⟩⟩,h2,h3,h4⟩
section
variable {prog:Program} {w:World} {A:Around} {E:Value → Shared → Prop} {s:Shared} {K:Frag}
end
end Att
namespace L2
open PySem PySem.Spec PyProof.Rows
theorem Zip:∀ {vs:List Value} {ns:List Int},IntsAre vs ns → Vals (ns.map V.int) vs
 | _,_,.nil=>.nil
 | _,_,.cons n t h=>.cons ⟨t,rfl⟩ (Zip h)
noncomputable def Only (H:Hp):Prop:=∀ b,H b = none ∨ ∃ o xs,H b = some (.frz o (.lst xs))
theorem ZmP {P:Program} {w:World} {K:PySem.W.Frag} {mg mb:Str → Option Value} {CX:CXT} {k:Nat} {fa a:Addr} {fd:FuncData} {x:Str} {sp:Sp} {s₁:Shared} {vs:List Value} {ns:List Int}
  (KX:K.In s₁.heap) (hns:s₁.heap.Ns mainGlobals mg) (hb:s₁.heap.Ns builtinsNs mb) (hbb:∀ x:Str,x ≠ "__name__" → mb x = bootBuiltins x) (hlim:s₁.heap.NoLimit) (hg:s₁.gens = #[])
  (ha:s₁.heap.get? a = some { cls:=.type "list",data:=.seq vs.toArray }) (hi:IntsAre vs ns) (hl:ns.length ≤ sizeLine) (hr:Zdv k callerA)
  (F:∀ base:Heap,K.In base → base.Ns mainGlobals mg → ZgL P w K mg base CX k fa fd [x] sp) (hbind:∀ (s:Shared) (u:Value),BindsTo s fd ⟨[u],[]⟩ [(x,u)])
  (hsp:∀ H:Hp,Only H → SqL K H a (ns.map V.int) → sp [.ref a] H (fun v _=>v = .bl true) fun _ _ _=>False)
  (hCX:∀ H e s',CX [] H s₁ (fun _ _ _=>False) e s' → False):
  codeAny (model P w) callerA (.call (.ref fa) ⟨[.ref a],[]⟩) (fun r s'=>r = .ok (.ret (.bool true)) ∧ OldK s₁.heap s'.heap ∧ s'.os = s₁.os ∧ AllBare s'.gens) s₁:=by
 have rv:=Zip hi
 have lenV:=hi.length
 have core:∀ H:Hp,Only H → SqL K H a (ns.map V.int) → HOk P w H s₁.heap → (∀ b,H b ≠ none → b = a) → (H a ≠ none → K.lookup a = none) →
   codeAny (model P w) callerA (.call (.ref fa) ⟨[.ref a],[]⟩) (fun r s'=>r = .ok (.ret (.bool true)) ∧ OldK s₁.heap s'.heap ∧ s'.os = s₁.os ∧ AllBare s'.gens) s₁:=by
  intro H hO hS hok hA hK
  have base_of:∀ {b:Addr} {o:Obj},s₁.heap.get? b = some o → H b = none → (Zi7 s₁.heap H).get? b = some o:=fun e n=>ZnD e n
  have noA:∀ {b:Addr} {o:Obj} {es:Array DictEntry} {ep:Nat},s₁.heap.get? b = some o → o.data = .dict es ep → H b = none:=fun {b o es ep} e d=>by
   cases q:H b with
   | none=>rfl
   | some u=>
    have e':b = a:=hA b (by rw [q]; simp)
    subst e'
    rw [ha] at e; cases e
    have d':Data.seq vs.toArray _ = Data.dict es ep:=d
    cases d'
  have nsK:∀ {b:Addr} {m:Str → Option Value},s₁.heap.Ns b m → (Zi7 s₁.heap H).Ns b m:=fun {b m} ⟨o,es,ep,e,d,r⟩=>⟨o,es,ep,base_of e (noA e d),d,r⟩
  have hKb:K.In (Zi7 s₁.heap H):=fun b o e=>base_of (KX b o e) (by
   cases q:H b with
   | none=>rfl
   | some u=>
    have e':b = a:=hA b (by rw [q]; simp)
    subst e'
    rw [hK (by rw [q]; simp)] at e; cases e)
  have hM:Mod K mg (Zi7 s₁.heap H):=⟨hKb,nsK hns,⟨mb,nsK hb,hbb⟩,let ⟨mc,h1,h2⟩:=hlim; ⟨mc,nsK h1,h2⟩⟩
  have e0:ZkK P w K mg (Zi7 s₁.heap H) callerA [] s₁ H:=⟨rfl,hM,fun b o e=>Zob e,Nat.le_of_eq (Zl4 _ _),trivial,fun b hb=>absurd (show b ∈ ([]:List Addr) from hb) (by simp),hok,.of_eq hg⟩
  refine codeAny_mono ((F _ hKb (nsK hns)).run callerA [] s₁ H ⟨[.ref a],[]⟩ [.ref a] [.ref a] _ _ hr e0 (hbind s₁ (.ref a)) (.cons rfl .nil) (hsp H hO hS)) fun r s' h=>?_
  cases r with
  | error e=>exact (hCX H e s' h).elim
  | ok fl=>
   cases fl with
   | next=>exact False.elim h
   | brk=>exact False.elim h
   | cont=>exact False.elim h
   | ret u=>
    obtain ⟨v,H',os,bare,un,hok',r',q⟩:=h
    have q':v = .bl true:=q
    subst q'
    obtain rfl:u = Value.bool true:=r'
    refine ⟨rfl,OldK.of_keep fun b o e=>?_,os,bare⟩
    cases q:H b with
    | none=>exact un.keep b o e q (by intro z; exact absurd (show b ∈ ([]:List Addr) from z) (by simp)) (by simp)
    | some u=>
     rcases hO b with z | ⟨ob,xs,z⟩
     ·rw [q] at z; cases z
     ·have z2:=un.frzs b ob _ z
      obtain ⟨e1,_⟩:=hok b _ z
      obtain ⟨e2,_⟩:=hok' b _ z2
      rw [e] at e1; cases e1
      exact e2
 cases hk:K.lookup a with
 | some o=>
  have e:=KX a o hk
  rw [ha] at e
  cases e
  refine core (fun _=>none) (fun _=>.inl rfl) (.inr ⟨_,vs.toArray,_,hk,rfl,rfl,rfl,by rw [List.size_toArray,lenV]; exact hl,by simpa using rv⟩) (fun b u z=>by have z':(none:Option HO) = some u:=z; cases z') (fun b z=>absurd rfl z) fun z=>absurd rfl z
 | none=>
  refine core (fun b=>if b = a then some (.frz { cls:=.type "list",data:=.seq vs.toArray } (.lst (ns.map V.int))) else none) (fun b=>?_) (.inl (.inr ⟨{ cls:=.type "list",data:=.seq vs.toArray },if_pos rfl⟩)) (fun b u z=>?_) (fun b z=>?_) fun _=>hk
  ·by_cases hb:b = a
   ·exact .inr ⟨_,_,if_pos hb⟩
   ·exact .inl (if_neg hb)
  ·by_cases hb:b = a
   ·have z':=(if_pos hb).symm.trans z
    cases z'
    subst hb
    exact ⟨ha,by rw [List.length_map]; exact hl,vs,_,rv,ha⟩
   ·have z':=(if_neg hb).symm.trans z
    cases z'
  ·by_cases hb:b = a
   ·exact hb
   ·exact absurd (if_neg hb) z
end L2
namespace L2
open PySem PySem.Spec PyProof.Rows
theorem Zlr {l:PySem.W.OpenLaw} {n k:Nat} {q:Program} {loose:List Str} {XP:(Str → Option Value) → Heap → Prop} {YP:World → Heap → Prop} {d:DefRec} {K:Params → PySem.W.Frag} {CX:World → CXT} {sp:World → Sp} {x:Str}
  (hn:l.most = some n) (hn2:n ≤ sizeLine) (hdf:d.params.defaults = []) (hr:Zdv k callerA)
  (hY:∀ (w:World) (h:Heap),YP w h → (K w.params).In h)
  (F:∀ (w:World) (mg:Str → Option Value) (fa:Addr) (h:Heap),(K w.params).In h → h.Ns mainGlobals mg → mg d.name = some (.ref fa) →
   ∃ fd:FuncData,(∀ (s:Shared) (u:Value),BindsTo s fd ⟨[u],[]⟩ [(x,u)]) ∧
    ∀ base:Heap,(K w.params).In base → base.Ns mainGlobals mg → ZgL l.prog w (K w.params) mg base (CX w) k fa fd [x] (sp w))
  (hsp:∀ (w:World) (H:Hp) (a:Addr) (ns:List Int),ns.length ≤ n → Only H → SqL (K w.params) H a (ns.map V.int) → sp w [.ref a] H (fun v _=>v = .bl true) fun _ _ _=>False)
  (hCX:∀ (w:World) (H:Hp) (s:Shared) (e:Value) (s':Shared),CX w [] H s (fun _ _ _=>False) e s' → False):
  PySem.W.WalkO q loose XP YP l.row.toRowW d [] (fun f vs=>PySem.call f vs):=by
 refine Att.attach_call hn hdf fun w s₀ s₁ mg mb fa o pm cd doc a vs ns G Y ho hd hcd hmg hobj hints hlen hg=>?_
 have KX:=hY w _ Y
 obtain ⟨fd,hb,hF⟩:=F w mg fa _ KX G.T.g hmg
 exact ZmP KX G.T.g G.T.b G.T.builtins G.T.nolimit hg hobj hints (Nat.le_trans hlen hn2) hr hF hb (fun H hO hS=>hsp w H a ns hlen hO hS) fun H e s'=>hCX w H s₁ e s'
end L2
/- THE LAST THEOREM (shape; LID,My.* are yours):
  My.Adr: a structure of the addresses that your layer names (classes,functions); My.Txt K t: a structure (Prop) of the equations over K;
  My.txt_mk:{K} {implicit addresses ..} (e1:nsIn K mainGlobals "law" = some (some (.ref f))) (e2:K.lookup f = some ⟨oc,od,.func (fnOf "law" "law" params body scope dV kV doc pm an cdv ct),sl⟩) (e3:codeIn K cdv "law" = true) ..:∃ t,My.Txt K t
set_option maxRecDepth 100000 in
set_option maxHeartbeats 0 in
theorem PySem.Challenge.cw_LID_holds : PySem.Challenge.rw_LID.Holds := by
 w_on; o_law; k_head; (case hw=>w_witness2)
 k_fill
 refine L2.Zlr (l:=PySem.Challenge.rw_LID) (n:=63) (k:=40) (x:="script") (CX:=fun w=>..) (sp:=fun _=>My.sp_law) rfl (by decide) rfl ⟨rfl,by decide,by decide⟩ (fun w h Y=>PySem.W.kIn_of Y) ?F ?S ?C
 case F=>
  intro w mg fa h KX G hmg
  have T:∃ t,My.Txt (L2.KOf KX) t:=by
   dsimp only [L2.KOf]                          -- K must stand as «<heap const> w.params» for k_is
   refine' My.txt_mk ?e1 ?e2 ?e3 ..
   (case e1=>PySem.W.k_is)                    -- in the order: a name -> its address -> its object -> its parts
   (case e2=>PySem.W.k_is)
   ..
  obtain ⟨t,T⟩:=T
  have e0:=hmg.symm.trans (PySem.W.mg_of KX G T.law)
  cases e0                                       -- fa is the law's own address
  exact ⟨_,fun s u=>.of_eq rfl,fun base kb nb=>My.law_fn T kb nb⟩     -- if «.of_eq rfl» comes too early: refine' ⟨_,?b,fun base kb nb=>My.law_fn T kb nb⟩; exact fun s u=>.of_eq rfl
 case S=>exact fun w H a ns hl hO hS=>..
 case C=>exact ..
(the tactic k_is has no namespace: write k_is) -/
namespace L2
open PySem PySem.Spec PyProof.Rows
noncomputable def Zat (s:Stmt):Arguments:=match s with
 | .FunctionDef _ a _ _ _ _ _ _ _ _=>a
 | _=>{ posonlyargs:=[],args:=[],vararg:=none,kwonlyargs:=[],kw_defaults:=[],kwarg:=none,defaults:=[] }
noncomputable def Zaq (s:Stmt):List Stmt:=match s with
 | .FunctionDef _ _ b _ _ _ _ _ _ _=>b
 | _=>[]
noncomputable def Zr (s:Stmt):Scope:=match s with
 | .FunctionDef _ _ _ _ _ _ sc _ _ _=>sc
 | _=>{ kind:=.function,names:=[],isGenerator:=false,isCoroutine:=false }
noncomputable abbrev CX0:CXT:=fun _ _ _ _ _ _=>False
noncomputable abbrev E0:XK:=fun _ _ _=>False
theorem Zr0 {X:Cx}:Zkp CX0 X E0:=fun _ _ _ _ _ _ _ h=>h.elim
structure Fun (K:PySem.W.Frag) (x qual:Str) (st:Stmt) (f:Addr) (fd:FuncData):Prop where
 ex:∃ (oc:Value) (od:Option Addr) (dV kV doc pm:Value) (an:Option Addr) (cdv ct:Value) (osl:Array (Option Value)),
  fd = PySem.W.fnOf x qual (Zat st) (Zaq st) (Zr st) dV kV doc pm an cdv ct ∧ K.lookup f = some ⟨oc,od,.func fd,osl⟩ ∧ PySem.W.codeIn K cdv qual = true
 kp:PySem.W.keepIn K (.ref f) = true
section
variable {P:Program} {w:World} {K:PySem.W.Frag} {mg:Str → Option Value} {base:Heap}
theorem Fun.ok {x qual:Str} {st:Stmt} {f:Addr} {fd:FuncData} {N ps:List Str} {k:Nat} {sp:Sp} (F:Fun K x qual st f fd) (S:Zaz N ps (Zr st)) (len:∀ vs H Q E,sp vs H Q E → vs.length = ps.length)
  (hbody:∀ (cdv:Value) (A:Around) (outer:List Env) (s:Shared) (H:Hp) (vs:List V) (Q:VK) (E:XK),Zdv k (A.deeper (envOfC qual (Zr st) s.heap.objs.size f cdv)) → sp vs H Q E →
   ∃ t,PSs (ZjB CX0 P w K mg base N qual (Zr st) f cdv A outer s H E).nox (Zaq st) t ∧ t { nx:=fun _ H'=>Q .non H',rt:=Q } (start N vs) H):ZgL P w K mg base CX0 (k + 1) f fd ps sp:=by
 obtain ⟨oc,od,dV,kV,doc,pm,an,cdv,ct,osl,rfl,lk,hcd⟩:=F.ex
 refine ZrR lk hcd S len fun A outer s H vs Q E hr hsp=>?_
 obtain ⟨t,h,q⟩:=hbody cdv A outer s H vs Q E hr hsp
 exact ⟨t,h.nox,q⟩
theorem Fun.binds {x qual:Str} {st:Stmt} {f:Addr} {fd:FuncData} {ps:List Str} (F:Fun K x qual st f fd)
  (h:∀ (dV kV doc pm:Value) (an:Option Addr) (cdv ct:Value) (us:List Value),us.length = ps.length → bindArgs (PySem.W.fnOf x qual (Zat st) (Zaq st) (Zr st) dV kV doc pm an cdv ct) ⟨us,[]⟩ = pure (ps.zip us)):Binds K fd ps []:=by
 obtain ⟨oc,od,dV,kV,doc,pm,an,cdv,ct,osl,rfl,lk,hcd⟩:=F.ex
 exact .all (h dV kV doc pm an cdv ct)
theorem ZmS {x qual:Str} {st:Stmt} {f:Addr} {oc:Value} {od an:Option Addr} {osl:Array (Option Value)} {dV kV doc pm cdv ct:Value} (l:K.lookup f = some ⟨oc,od,.func (PySem.W.fnOf x qual (Zat st) (Zaq st) (Zr st) dV kV doc pm an cdv ct),osl⟩)
  (c:PySem.W.codeIn K cdv qual = true) (k:PySem.W.keepIn K (.ref f) = true):Fun K x qual st f (PySem.W.fnOf x qual (Zat st) (Zaq st) (Zr st) dV kV doc pm an cdv ct):=⟨⟨oc,od,dV,kV,doc,pm,an,cdv,ct,osl,rfl,l,c⟩,k⟩
end
section
variable {X:Cx}
end
noncomputable def ZnY (H H':Hp):Prop:=∀ b o,H b = some o → H' b = some o
theorem ZnY.free {H H':Hp} (e:ZnY H H') {l:Addr} (h:H' l = Option.none):H l = Option.none:=by
 cases q:H l with
 | none=>rfl
 | some o=>
  rw [e l o q] at h
  cases h
theorem ZnY.seq {K:PySem.W.Frag} {H H':Hp} {a:Addr} {xs:List V} (e:ZnY H H') (h:SqL K H a xs):SqL K H' a xs:=by
 rcases h with (h | ⟨o,h⟩) | h
 ·exact .inl (.inl (e _ _ h))
 ·exact .inl (.inr ⟨o,e _ _ h⟩)
 ·exact .inr h
end L2
namespace L2
open PySem PySem.Spec PyProof.Rows
section
variable {κ:Type} [DecidableEq κ]
noncomputable def Ze2 (kvs:List (κ × V)) (k:κ):Option V:=(kvs.find? fun kv=>decide (kv.1 = k)).map (·.2)
noncomputable def putK (kvs:List (κ × V)) (k:κ) (v:V):List (κ × V):=
 if (kvs.any fun kv=>decide (kv.1 = k)) = true then kvs.map (fun kv=>if kv.1 = k then (kv.1,v) else kv) else kvs ++ [(k,v)]
theorem Zm6 {k:κ}:Ze2 ([]:List (κ × V)) k = none:=rfl
theorem ZfW {p:κ × V} {r:List (κ × V)} {k:κ} (e:p.1 = k):Ze2 (p :: r) k = some p.2:=by simp [Ze2,List.find?_cons,e]
theorem ZfL {p:κ × V} {r:List (κ × V)} {k:κ} (e:¬ p.1 = k):Ze2 (p :: r) k = Ze2 r k:=by simp [Ze2,List.find?_cons,e]
theorem ZjM (k:κ):∀ kvs:List (κ × V),(kvs.any fun kv=>decide (kv.1 = k)) = (Ze2 kvs k).isSome
 | []=>rfl
 | p :: r=>by
  rw [List.any_cons]
  by_cases e:p.1 = k
  ·simp only [ZfW e,decide_eq_true e,Bool.true_or,Option.isSome_some]
  ·rw [ZfL e,decide_eq_false e,Bool.false_or]; exact ZjM k r
theorem ZeY (kvs:List (κ × V)) (k:κ) (v:V):(putK kvs k v).length ≤ kvs.length + 1:=by
 unfold putK
 split
 ·rw [List.length_map]; omega
 ·rw [List.length_append,List.length_cons,List.length_nil]; omega
theorem ZgI.isSome_eq {o:Option V} {u:Option Value} (r:ZgI o u):o.isSome = u.isSome:=by
 cases o with
 | none=>cases u with
  | none=>rfl
  | some _=>exact (show False from r).elim
 | some _=>cases u with
  | none=>exact (show False from r).elim
  | some _=>rfl
theorem ZgI.getD {o:Option V} {u:Option Value} {d:V} {d':Value} (r:ZgI o u) (rd:RelV d d'):RelV (o.getD d) (u.getD d'):=by
 cases o with
 | none=>cases u with
  | none=>exact rd
  | some _=>exact (show False from r).elim
 | some _=>cases u with
  | none=>exact (show False from r).elim
  | some _=>exact r
theorem KV.val {kvs:List (κ × V)} {vs:List (κ × Value)} (r:KV kvs vs) (k:κ):ZgI (Ze2 kvs k) (valueAt vs k):=by
 unfold KV at r
 induction r with
 | nil=>exact True.intro
 | @cons p q ps qs h t ih=>
  obtain ⟨h1,h2⟩:=h
  by_cases e:p.1 = k
  ·have e':q.1 = k:=h1.symm.trans e
   have b:valueAt (q :: qs) k = some q.2:=by simp [valueAt,List.find?_cons,e']
   rw [ZfW e,b]; exact h2
  ·have e':¬ q.1 = k:=fun z=>e (h1.trans z)
   have b:valueAt (q :: qs) k = valueAt qs k:=by simp [valueAt,List.find?_cons,e']
   rw [ZfL e,b]; exact ih
theorem KV.any {kvs:List (κ × V)} {vs:List (κ × Value)} (r:KV kvs vs) (k:κ):(kvs.any fun kv=>decide (kv.1 = k)) = vs.any fun kv=>decide (kv.1 = k):=by
 unfold KV at r
 induction r with
 | nil=>rfl
 | cons h t ih=>rw [List.any_cons,List.any_cons,ih,h.1]
theorem KV.repl {kvs:List (κ × V)} {vs:List (κ × Value)} (r:KV kvs vs) (k:κ) {y:V} {u:Value} (ry:RelV y u):
  KV (kvs.map fun kv=>if kv.1 = k then (kv.1,y) else kv) (vs.map fun kv=>if kv.1 = k then (kv.1,u) else kv):=by
 unfold KV at r ⊢
 induction r with
 | nil=>exact .nil
 | @cons p q ps qs h t ih=>
  rw [List.map_cons,List.map_cons]
  refine .cons ?_ ih
  obtain ⟨h1,h2⟩:=h
  by_cases e:p.1 = k
  ·rw [if_pos e,if_pos (h1.symm.trans e)]; exact ⟨h1,ry⟩
  ·rw [if_neg e,if_neg (fun z=>e (h1.trans z))]; exact ⟨h1,h2⟩
theorem KV.put {kvs:List (κ × V)} {vs:List (κ × Value)} (r:KV kvs vs) (k:κ) {y:V} {u:Value} (ry:RelV y u):KV (putK kvs k y) (stored vs k u):=by
 unfold putK stored
 rw [r.any k]
 by_cases e:(vs.any fun kv=>decide (kv.1 = k)) = true
 ·rw [if_pos e,if_pos e]; exact r.repl k ry
 ·rw [if_neg e,if_neg e]; exact Paired.snoc r ⟨rfl,ry⟩
theorem KV.keys {kvs:List (κ × V)} {vs:List (κ × Value)} (r:KV kvs vs):kvs.map (·.1) = vs.map (·.1):=by
 unfold KV at r
 induction r with
 | nil=>rfl
 | cons h t ih=>rw [List.map_cons,List.map_cons,ih,h.1]
theorem KV.length {kvs:List (κ × V)} {vs:List (κ × Value)} (r:KV kvs vs):kvs.length = vs.length:=Paired.length r
end
theorem ZjZ {P:Program} {w:World} {k:Key} {u:Value} (r:RelV (kV k) u):(ZaP P w).is k u = true:=by
 cases k with
 | inl i=>obtain ⟨t,e⟩:=(show ∃ t,u = Value.int i t from r); subst e; exact Zj4 P w i t
 | inr x=>obtain ⟨t,e⟩:=(show ∃ t,u = Value.str x t from r); subst e; exact Zj6 P w x t
theorem Zin {P:Program} {w:World}:∀ {ks:List Key} {us:List Value},Vals (ks.map kV) us → ItemsAre (ZaP P w) ks us
 | [],_,r=>by rw [List.map_nil] at r; cases r; exact .nil
 | k :: ks,_,r=>by
  rw [List.map_cons] at r
  cases r with
  | cons h t=>exact .cons (ZjZ h) (Zin t)
noncomputable abbrev KT (H:Hp):List (List Key × V) → List (List Key × Addr × Value) → Prop:=Paired fun p q=>p.1 = q.1 ∧ H q.2.1 = some (.tup (p.1.map kV)) ∧ RelV p.2 q.2.2
theorem KT.val {H:Hp} {kvs:List (List Key × V)} {xs:List (List Key × Addr × Value)} (r:KT H kvs xs) (k:List Key):ZgI (Ze2 kvs k) ((atKey xs k).map (·.2)):=by
 induction r with
 | nil=>exact True.intro
 | @cons p q ps qs h t ih=>
  obtain ⟨h1,_,h2⟩:=h
  by_cases e:p.1 = k
  ·have e':q.1 = k:=h1.symm.trans e
   have b:atKey (q :: qs) k = some q.2:=by simp [atKey,List.find?_cons,e']
   rw [ZfW e,b]; exact h2
  ·have e':¬ q.1 = k:=fun z=>e (h1.trans z)
   have b:atKey (q :: qs) k = atKey qs k:=by simp [atKey,List.find?_cons,e']
   rw [ZfL e,b]; exact ih
theorem KT.repl {H:Hp} {kvs:List (List Key × V)} {xs:List (List Key × Addr × Value)} (r:KT H kvs xs) (k:List Key) {y:V} {u:Value} (ry:RelV y u):
  KT H (kvs.map fun kv=>if kv.1 = k then (kv.1,y) else kv) (xs.map (putAt k u)):=by
 induction r with
 | nil=>exact .nil
 | @cons p q ps qs h t ih=>
  rw [List.map_cons,List.map_cons]
  refine .cons ?_ ih
  obtain ⟨h1,h2,h3⟩:=h
  unfold putAt
  by_cases e:p.1 = k
  ·rw [if_pos e,if_pos (h1.symm.trans e)]; exact ⟨h1,h2,ry⟩
  ·rw [if_neg e,if_neg (fun z=>e (h1.trans z))]; exact ⟨h1,h2,h3⟩
theorem KT.put {H:Hp} {kvs:List (List Key × V)} {xs:List (List Key × Addr × Value)} (r:KT H kvs xs) (k:List Key) {b:Addr} {y:V} {u:Value} (hb:H b = some (.tup (k.map kV))) (ry:RelV y u):
  KT H (putK kvs k y) (storedH xs k b u):=by
 have e:(kvs.any fun kv=>decide (kv.1 = k)) = (atKey xs k).isSome:=by
  rw [ZjM,(r.val k).isSome_eq,Option.isSome_map]
 unfold putK storedH
 rw [e]
 by_cases q:(atKey xs k).isSome = true
 ·rw [if_pos q,if_pos q]; exact r.repl k ry
 ·rw [if_neg q,if_neg q]; exact Paired.snoc r ⟨rfl,hb,ry⟩
theorem KT.keeps {H H':Hp} {kvs:List (List Key × V)} {xs:List (List Key × Addr × Value)} (r:KT H kvs xs) (ht:∀ b ys,H b = some (.tup ys) → H' b = some (.tup ys)):KT H' kvs xs:=
 Paired.mapP r fun _ _ z=>⟨z.1,ht _ _ z.2.1,z.2.2⟩
section
variable {P:Program} {w:World} {H:Hp} {h:Heap} {a:Addr}
theorem Zpb {u:HO} (ok:HOk P w H h) (e:Rd H a u):ZbG P w H h a u:=e.ok ok
theorem Zij {kvs:List (Key × V)} (ok:HOk P w H h) (e:Rd H a (.dK kvs)):kvs.length ≤ sizeLine ∧ (a == sysModules) = false ∧ ∃ vs,KV kvs vs ∧ h.DictOf (ZaP P w) a vs:=
 show ZbG P w H h a (.dK kvs) from Zpb ok e
theorem ZoY {kvs:List (Key × V)} (ok:HOk P w H h) (e:H a = some (.dK kvs)):kvs.length ≤ sizeLine ∧ (a == sysModules) = false ∧ ∃ vs,KV kvs vs ∧ h.DictOf (ZaP P w) a vs:=Zij ok (.inl e)
theorem ZiJ {ks:List Key} (ok:HOk P w H h) (e:H a = some (.tup (ks.map kV))):(tupleKind (ZaP P w)).is h ks a:=by
 obtain ⟨_,its,r,o,h1,h2,n,h3⟩:=(show ZbG P w H h a (.tup (ks.map kV)) from ok a _ e)
 exact ⟨o,its.toArray,n,h1,h2.1,h3,by simpa using Zin r⟩
theorem Zj0 {kvs:List (List Key × V)} (ok:HOk P w H h) (e:Rd H a (.dT kvs)):kvs.length ≤ sizeLine ∧ (a == sysModules) = false ∧
  ∃ xs,KT H kvs xs ∧ h.DictOfH (tupleKind (ZaP P w)) a xs:=by
 obtain ⟨z,y,xs,r,o,es,ep,h1,h2,h3,h4,h5⟩:=(show ZbG P w H h a (.dT kvs) from Zpb ok e)
 refine ⟨z,y,xs,r,o,es,ep,h1,h2,h3,h4,fun x hx=>?_,h5⟩
 have all:∀ {l:List (List Key × V)} {m:List (List Key × Addr × Value)},KT H l m → ∀ x ∈ m,(tupleKind (ZaP P w)).is h x.1 x.2.1:=by
  intro l m q
  induction q with
  | nil=>intro x hx; exact nomatch hx
  | @cons p q ps qs hq t ih=>
   intro x hx
   rcases List.mem_cons.mp hx with e | hx
   ·subst e
    exact ZiJ ok (by rw [← hq.1]; exact hq.2.1)
   ·exact ih x hx
 exact all r x hx
theorem ZrI {kvs:List (List Key × V)} (ok:HOk P w H h) (e:H a = some (.dT kvs)):kvs.length ≤ sizeLine ∧ (a == sysModules) = false ∧
  ∃ xs,KT H kvs xs ∧ h.DictOfH (tupleKind (ZaP P w)) a xs:=Zj0 ok (.inl e)
end
noncomputable def ZiW (H:Hp) (a:Addr) (y:V) (r:Option V):Prop:=
 (∃ kvs k,Rd H a (.dK kvs) ∧ y = kV k ∧ r = Ze2 kvs k) ∨ ∃ kvs k b,Rd H a (.dT kvs) ∧ y = .ref b ∧ H b = some (.tup (k.map kV)) ∧ r = Ze2 kvs k
noncomputable def ZkA (H:Hp) (a:Addr) (y v:V) (H':Hp):Prop:=
 (∃ kvs k,H a = some (.dK kvs) ∧ y = kV k ∧ kvs.length < sizeLine ∧ H' = upd H a (.dK (putK kvs k v))) ∨
 ∃ kvs k b,H a = some (.dT kvs) ∧ y = .ref b ∧ H b = some (.tup (k.map kV)) ∧ kvs.length < sizeLine ∧ H' = upd H a (.dT (putK kvs k v))
theorem ZiW.k {H:Hp} {a:Addr} {kvs:List (Key × V)} {k:Key} (e:H a = some (.dK kvs)):ZiW H a (kV k) (Ze2 kvs k):=.inl ⟨kvs,k,.inl e,rfl,rfl⟩
theorem ZiW.t {H:Hp} {a b:Addr} {kvs:List (List Key × V)} {k:List Key} (e:H a = some (.dT kvs)) (eb:H b = some (.tup (k.map kV))):ZiW H a (.ref b) (Ze2 kvs k):=.inr ⟨kvs,k,b,.inl e,rfl,eb,rfl⟩
theorem ZkA.k {H:Hp} {a:Addr} {kvs:List (Key × V)} {k:Key} {v:V} (e:H a = some (.dK kvs)) (hl:kvs.length < sizeLine):ZkA H a (kV k) v (upd H a (.dK (putK kvs k v))):=.inl ⟨kvs,k,e,rfl,hl,rfl⟩
theorem ZkA.t {H:Hp} {a b:Addr} {kvs:List (List Key × V)} {k:List Key} {v:V} (e:H a = some (.dT kvs)) (eb:H b = some (.tup (k.map kV))) (hl:kvs.length < sizeLine):
  ZkA H a (.ref b) v (upd H a (.dT (putK kvs k v))):=.inr ⟨kvs,k,b,e,rfl,eb,hl,rfl⟩
section
variable {X:Cx} {pins:List (Addr × Obj)} {σ:St} {H:Hp} {s:Shared} {a:Addr} {y v:V} {u r:Value} {o:Option V} {A:Around} {E:Value → Shared → Prop}
theorem Inv.big (I:Inv X pins σ H s):sysModules < s.heap.objs.size:=by
 have h:mainGlobals < s.heap.objs.size:=(I.mod.glob.keeps I.bk).lt
 exact Nat.lt_trans (by decide) h
theorem Zmt {Q:Value → Shared → Prop} (hu:A.units + 1 < cLine) (I:Inv X pins σ H s) (g:ZiW H a y (some v)) (ry:RelV y u) (h:∀ w' s',Inv X pins σ H s' → RelV v w' → Q w' s'):
  wpAny (model X.prog X.w) A (getItem (.ref a) u) Q E s:=by
 rcases g with ⟨kvs,k,e,ey,l⟩ | ⟨kvs,k,b,e,ey,eb,l⟩
 ·subst ey
  obtain ⟨z,hd,vs,rel,dd⟩:=Zij I.hok e
  obtain ⟨w',hw,rw'⟩:=ZgI.some_of (v:=v) (o:=valueAt vs k) (by rw [l]; exact rel.val k)
  exact wpAny_getItem_of (ZjZ ry) dd.mapOf hw (h w' _ (I.tok _) rw')
 ·subst ey
  cases (show u = Value.ref b from ry)
  obtain ⟨z,hd,xs,rel,dd⟩:=Zj0 I.hok e
  obtain ⟨w',hw,rw'⟩:=ZgI.some_of (v:=v) (o:=(atKey xs k).map (·.2)) (by rw [l]; exact rel.val k)
  obtain ⟨p,hp,hp2⟩:=Option.map_eq_some_iff.mp hw
  refine wpAny_getItem_heap (tupleKind_room_in1 hu) (ZiJ I.hok eb) dd hp ?_
  rw [hp2]
  exact h w' _ (I.tok _) rw'
theorem Zln {h':Heap} {t':Nat} {ob:HO} (I:Inv X pins σ H s) (mu:Mut (H a)) (hs:Heap.SameBut a s.heap h') (he:∃ q,h'.get? a = some q) (new:ZbG X.prog X.w (upd H a ob) h' a ob):
  Inv X pins σ (upd H a ob) { s with heap:=h',toks:=t' }:=
 I.write (x:=a) (e:=a) mu (.inl rfl) (fun b q hb z=>(hs.2 b hb).trans z) he new
theorem ZkM {P:Program} {w:World} {H':Hp} {h':Heap} {kvs:List (Key × V)} {vs:List (Key × Value)} (z:kvs.length ≤ sizeLine) (hd:(a == sysModules) = false) (rel:KV kvs vs) (dd:h'.DictOf (ZaP P w) a vs):
  ZbG P w H' h' a (.dK kvs):=⟨z,hd,vs,rel,dd⟩
theorem ZlU {H':Hp} {Q:Unit → Shared → Prop} (hu:A.units + 1 < cLine) (I:Inv X pins σ H s) (g:ZkA H a y v H') (ry:RelV y u) (rv:RelV v r) (h:∀ s',Inv X pins σ H' s' → Q () s'):
  wpAny (model X.prog X.w) A (setItem (.ref a) u r) Q E s:=by
 rcases g with ⟨kvs,k,e,ey,l,eH⟩ | ⟨kvs,k,b,e,ey,eb,l,eH⟩
 ·subst ey eH
  obtain ⟨z,hd,vs,rel,dd⟩:=ZoY I.hok e
  have hz:vs.length ≤ sizeLine:=by rw [← rel.length]; exact z
  have hl:(putK kvs k v).length ≤ sizeLine:=by have:=ZeY kvs k v; omega
  refine wpAny_setItem_pairs (hsz:=hz) (ZjZ ry) dd fun h' dd' hs=>h _ ?_
  have he:∃ q,h'.get? a = some q:=let ⟨q,_,_,hq,_⟩:=dd'; ⟨q,hq⟩
  exact Zln I (by rw [e]; exact True.intro) hs he (ZkM hl hd (rel.put k rv) dd')
 ·subst ey eH
  cases (show u = Value.ref b from ry)
  obtain ⟨z,hd,xs,rel,dd⟩:=ZrI I.hok e
  have hz:xs.length ≤ sizeLine:=by rw [← Paired.length rel]; exact z
  have hl:(putK kvs k v).length ≤ sizeLine:=by have:=ZeY kvs k v; omega
  refine wpAny_setItem_heap (hsz:=hz) (tupleKind_room_in1 hu) (ZiJ I.hok eb) dd fun h' dd' hs=>h _ ?_
  obtain ⟨q,es,ep,hq,h2,h3,h4,_,h5⟩:=dd'
  refine Zln I (by rw [e]; exact True.intro) hs ⟨q,hq⟩ ⟨hl,hd,_,(rel.put k eb rv).keeps fun c ys ec=>?_,q,es,ep,hq,h2,h3,h4,h5⟩
  rw [Zap (Ziu ec e (fun z=>nomatch z))]
  exact ec
end
section
variable {X:Cx} {pins:List (Addr × Obj)} {σ:St} {H:Hp} {s:Shared} {a:Addr} {kvs:List (Key × V)} {k:Key} {u:Value} {A:Around} {E:Value → Shared → Prop}
end
noncomputable def ZpP (i:Expr):Prop:=∀ ov iv,subscripted i false ov iv = operate [ov,iv] (getItem ov iv)
theorem Zom {prog:Program} {w:World} {A:Around} {E:Value → Shared → Prop} {s:Shared} {env:Env} {value slice:Expr} {pos:Pos} {T id:String} {Q:Value → Shared → Prop}
  (hl:typeLookup (.type T) "__getitem__" = pure (some (.builtin id))) (hs:ZpP slice)
  (h:wpAny (model prog w) A (eval value env) (fun o s₁=>wpAny (model prog w) A (eval slice env) (fun i s₂=>s₂.TypeIs o T ∧ wpAny (model prog w) A (getItem o i) Q E s₂) E s₁) E s):
  wpAny (model prog w) A (eval (.Subscript value slice pos) env) Q E s:=by
 refine Subscript_ (wpAny_mono h (fun o s₁ h₁=>wpAny_mono h₁ (fun i s₂ h₂=>?_) fun _ _ x=>x) fun _ _ x=>x)
 obtain ⟨hT,h₂⟩:=h₂
 unfold subscriptTail
 refine wpAny_bind ?_
 rw [getitemInPython_of_ne hT.not_modules]
 refine wpAny_bind (wpAny_specialOf hT hl ?_)
 have fin:wpAny (model prog w) A (subscripted slice false o i) (fun r s₃=>wpAny (model prog w) A (letTemporaryGo value o r >>= fun _=>pure r) Q E s₃) E s₂:=by
  rw [hs o i]
  exact wpAny_operating (wpAny_mono h₂ (fun r s₃ h₃=>wpAny_bind (wpAny_letTemporaryGo (wpAny_pure h₃))) fun _ _ x=>x)
 first
  | exact wpAny_pure (wpAny_bind fin)
  | exact wpAny_bind (wpAny_pure (wpAny_bind fin))
  | exact wpAny_bind fin
theorem ZjV {X:Cx} {pins:List (Addr × Obj)} {σ:St} {H:Hp} {s:Shared} {a:Addr} {y:V} {o:Option V} (I:Inv X pins σ H s) (g:ZiW H a y o):s.TypeIs (.ref a) "dict":=by
 rcases g with ⟨kvs,k,e,_,_⟩ | ⟨kvs,k,b,e,_,_,_⟩
 ·obtain ⟨_,_,vs,_,dd⟩:=Zij I.hok e
  exact dd.typeIs
 ·obtain ⟨_,_,xs,_,dd⟩:=Zj0 I.hok e
  exact dd.typeIs
noncomputable def Zrp (td ty:TE):TE:=fun σ H Q=>td σ H fun x H1=>ty σ H1 fun y H2=>∃ a v,x = .ref a ∧ ZiW H2 a y (some v) ∧ Q v H2
noncomputable def Zrc (td ty tv:TE):TS:=fun D σ H=>tv σ H fun v H1=>td σ H1 fun x H2=>ty σ H2 fun y H3=>∃ a H4,x = .ref a ∧ ZkA H3 a y v H4 ∧ D.nx σ H4
section
variable {X:Cx} {o i e value:Expr} {pos pos' tpos:Pos} {td ty tv:TE}
theorem ZoK (hu:X.A.units + 1 < cLine) (ho:PE X o td) (hi:PE X i ty) (hs:ZpP i):PE X (.Subscript o i pos) (Zrp td ty):=by
 intro pins s σ H Q I h
 refine Zom PySem.F.slot_dict_getitem.lookup hs (thn (ho pins s σ H _ I h) fun u s1 ⟨x,H1,I1,rx,q1⟩=>thn (hi pins s1 σ H1 _ I1 q1) fun iv s2 ⟨y,H2,I2,ry,a,v,ex,g,q2⟩=>?_)
 subst ex
 obtain rfl:u = Value.ref a:=rx
 exact ⟨ZjV I2 g,Zmt hu I2 g ry fun w' s3 I3 rw'=>⟨v,H2,I3,rw',q2⟩⟩
theorem Zoy (hu:X.A.units + 1 < cLine) (ho:PE X o td) (hi:PE X i ty) (hv:PE X value tv) (hs:swapsWith value (some (.Subscript o i pos')) pos.line X.env = pure false):
  PS X (.Assign [.Subscript o i pos'] value pos) (Zrc td ty tv):=by
 intro pins s σ H D I h
 refine wpAny_Assign_Subscript (thn (hv pins s σ H _ I h) fun r s1 ⟨v,H1,I1,rv,q1⟩=>thn (ho pins s1 σ H1 _ I1 q1) fun u s2 ⟨x,H2,I2,rx,q2⟩=>thn (hi pins s2 σ H2 _ I2 q2) fun iv s3 ⟨y,H3,I3,ry,a,H4,ex,g,q3⟩=>?_) hs
 subst ex
 obtain rfl:u = Value.ref a:=rx
 exact ZlU hu I3 g ry rv fun s4 I4=>⟨σ,H4,I4,q3⟩
end
theorem ZmE {P:Program} {w:World} {H:Hp} (h:Heap) (hb:sysModules < h.objs.size):ZbG P w H (h.push { cls:=.type "dict",data:=.dict #[] }) h.objs.size (.dK []):=
 ⟨Nat.zero_le _,beq_eq_false_iff_ne.mpr (Ne.symm (Nat.ne_of_lt hb)),[],.nil,Heap.DictOf.new h⟩
noncomputable def Zp9:TE:=fun _ H Q=>∀ p,H p = none → Q (.ref p) (upd H p (.dK []))
section
variable {X:Cx} {pos:Pos}
theorem ZmG:PE X (.Dict [] [] pos) Zp9:=fun pins s σ H Q I h=>
 wpAny_Dict_empty ⟨.ref s.heap.objs.size,_,I.laid (a:=s.heap.objs.size) (o:=.dK []) (t':=s.toks) (fun _ _ q=>Heap.get?_push_of_some _ q) (Nat.le_refl _) (ZmE s.heap I.big),rfl,h _ (I.hok.fresh (Nat.le_refl _))⟩
end
noncomputable def ZhE (kvs more:List (Key × V)):List (Key × V):=more.foldl (fun acc kv=>putK acc kv.1 kv.2) kvs
theorem KV.merge:∀ {more:List (Key × V)} {rs:List (Key × Value)} {kvs:List (Key × V)} {vs:List (Key × Value)},KV more rs → KV kvs vs → KV (ZhE kvs more) (merged vs rs):=by
 intro more rs kvs vs r
 unfold KV at r
 induction r generalizing kvs vs with
 | nil=>intro q; exact q
 | @cons p q ps qs h t ih=>
  intro r0
  have e:KV (putK kvs p.1 p.2) (stored vs q.1 q.2):=by
   have:=r0.put p.1 h.2
   rw [← h.1]; exact this
  exact ih e
theorem Zfs:∀ (more kvs:List (Key × V)),(ZhE kvs more).length ≤ kvs.length + more.length
 | [],kvs=>by show kvs.length ≤ kvs.length + 0; omega
 | p :: r,kvs=>by
  have h1:=Zfs r (putK kvs p.1 p.2)
  have h2:=ZeY kvs p.1 p.2
  show (ZhE (putK kvs p.1 p.2) r).length ≤ _
  rw [List.length_cons]; omega
structure M1 (X:Cx) (o:Expr) (m:Str) (apos:Pos) (e:Expr) (cpos:Pos):Prop where
 base:attributeBase o m X.env (eval o X.env) = eval o X.env
 few:((backTo cpos (starEach [e] X.env)).all (fun x=>!x.1) && (backToKw cpos (keywordEach [] X.env)).all (fun x=>x.1.isSome)
  && decide (([e]:List Expr).length + ([]:List Keyword).length + (if ([]:List Keyword).isEmpty then 0 else 1) < 30)) = true
 line:(apos.endLine == cpos.line) = true
 trees:backTo cpos (starEach [e] X.env) = [(false,eval e X.env)]
structure M2 (X:Cx) (o:Expr) (m:Str) (apos:Pos) (e f:Expr) (cpos:Pos):Prop where
 base:attributeBase o m X.env (eval o X.env) = eval o X.env
 few:((backTo cpos (starEach [e,f] X.env)).all (fun x=>!x.1) && (backToKw cpos (keywordEach [] X.env)).all (fun x=>x.1.isSome)
  && decide (([e,f]:List Expr).length + ([]:List Keyword).length + (if ([]:List Keyword).isEmpty then 0 else 1) < 30)) = true
 line:(apos.endLine == cpos.line) = true
 trees:backTo cpos (starEach [e,f] X.env) = [(false,eval e X.env),(false,eval f X.env)]
noncomputable def IsD (H:Hp) (a:Addr):Prop:=(∃ kvs,Rd H a (.dK kvs)) ∨ ∃ kvs,Rd H a (.dT kvs)
theorem Zpu {X:Cx} {pins:List (Addr × Obj)} {σ:St} {H:Hp} {s:Shared} {a:Addr} (I:Inv X pins σ H s) (d:IsD H a):
  s.TypeIs (.ref a) "dict" ∧ (∀ b,Value.ref a = .ref b → ∃ ob,s.heap.get? b = some ob ∧ ob.dict = none) ∧ (a == sysModules) = false:=by
 rcases d with ⟨kvs,e⟩ | ⟨kvs,e⟩
 ·obtain ⟨_,hd,vs,_,dd⟩:=Zij I.hok e
  refine ⟨dd.typeIs,fun b q=>?_,hd⟩
  cases q
  obtain ⟨ob,_,_,h1,h2,_⟩:=dd
  exact ⟨ob,h1,h2.2.1⟩
 ·obtain ⟨_,hd,xs,_,dd⟩:=Zj0 I.hok e
  refine ⟨dd.typeIs,fun b q=>?_,hd⟩
  cases q
  obtain ⟨ob,_,_,h1,h2,_⟩:=dd
  exact ⟨ob,h1,h2.2.1⟩
section
variable {X:Cx} {pins:List (Addr × Obj)} {σ:St} {H:Hp} {s:Shared} {a:Addr} {y d:V} {u r:Value} {o:Option V} {A:Around} {E:Value → Shared → Prop}
theorem Zqs {Q:Value → Shared → Prop} (hu:A.units + 1 < cLine) (I:Inv X pins σ H s) (g:ZiW H a y o) (ry:RelV y u) (rd:RelV d r) (h:∀ w' s',Inv X pins σ H s' → RelV (o.getD d) w' → Q w' s'):
  wpAny (model X.prog X.w) A (call (.builtin "dict.get") [.ref a,u,r]) Q E s:=by
 rcases g with ⟨kvs,k,e,ey,l⟩ | ⟨kvs,k,b,e,ey,eb,l⟩
 ·subst ey
  obtain ⟨z,hd,vs,rel,dd⟩:=Zij I.hok e
  refine call_meetsIn PySem.F.slot_dict_get dd.typeIs PySem.F.entry_dict_get (PySem.F.args_dict_get_3 _ _ _) (meets_dict_get_default (ZaP X.prog X.w) a (ZjZ ry) hd r) ⟨_,dd.mapOf,h _ _ (I.tok _) ?_⟩
  rw [l]
  exact (rel.val k).getD rd
 ·subst ey
  cases (show u = Value.ref b from ry)
  obtain ⟨z,hd,xs,rel,dd⟩:=Zj0 I.hok e
  refine call_meetsIn PySem.F.slot_dict_get dd.typeIs PySem.F.entry_dict_get (PySem.F.args_dict_get_3 _ _ _) (meetsH_dict_get_default (tupleKind (ZaP X.prog X.w)) a b hd r) ⟨tupleKind_room_in1 hu,k,xs,ZiJ I.hok eb,dd,h _ _ (I.tok _) ?_⟩
  rw [l]
  exact (rel.val k).getD rd
end
noncomputable def ZpR (td ty tx:TE):TE:=fun σ H Q=>td σ H fun x H1=>∃ a,x = .ref a ∧ IsD H1 a ∧ ty σ H1 fun y H2=>tx σ H2 fun z H3=>∃ o,ZiW H3 a y o ∧ Q (o.getD z) H3
section
variable {X:Cx} {o e f:Expr} {apos cpos:Pos} {td ty tx:TE}
theorem ZnQ (hu:X.A.units + 1 < cLine) (ho:PE X o td) (he:PE X e ty) (hf:PE X f tx) (m:M2 X o "get" apos e f cpos):PE X (.Call (.Attribute o "get" apos) [e,f] [] cpos) (ZpR td ty tx):=by
 intro pins s σ H Q I h
 refine wpAny_Call_method m.base m.few m.line PySem.F.plainAttrs_dict PySem.F.slot_dict_get PySem.F.type_dict_get (thn (ho pins s σ H _ I h) fun u s1 ⟨x,H1,I1,rx,a,ex,d,q1⟩=>?_)
 subst ex
 obtain rfl:u = Value.ref a:=rx
 obtain ⟨t1,t2,_⟩:=Zpu I1 d
 refine ⟨t1,t2,?_⟩
 rw [m.trees]
 refine Calls.callWith_builtin rfl (Calls.evalArgs_plain (Calls.spliced_cons (thn (he pins s1 σ H1 _ I1 q1) fun iv s2 ⟨y,H2,I2,ry,q2⟩=>
  Calls.spliced_cons (thn (hf pins s2 σ H2 _ I2 q2) fun fv s3 ⟨z,H3,I3,rz,ov,g,q3⟩=>Calls.spliced_nil ?_))))
 exact Zqs hu I3 g ry rz fun w' s4 I4 rw'=>⟨_,H3,I4,rw',q3⟩
end
section
variable {X:Cx} {pins:List (Addr × Obj)} {σ:St} {H:Hp} {s:Shared} {a:Addr} {kvs:List (Key × V)} {A:Around} {E:Value → Shared → Prop}
theorem Znn {Q:Value → Shared → Prop} (I:Inv X pins σ H s) (e:Rd H a (.dK kvs)) (h:∀ p s',H p = none → Inv X pins σ (upd H p (.dK kvs)) s' → Q (.ref p) s'):wpAny (model X.prog X.w) A (call (.type "dict") [.ref a]) Q E s:=by
 obtain ⟨z,hd,vs,rel,dd⟩:=Zij I.hok e
 refine kt_call_dict hd dd (by rw [← rel.length]; exact z) fun h' dd' hs=>?_
 refine h _ _ (I.hok.fresh (Nat.le_refl _)) (I.laid (a:=s.heap.objs.size) (o:=.dK kvs) (t':=s.toks) (fun b q hq=>?_) (Nat.le_refl _) (ZkM z (beq_eq_false_iff_ne.mpr (Ne.symm (Nat.ne_of_lt I.big))) rel dd'))
 exact (hs.2 b (Nat.ne_of_lt (Heap.lt_size hq))).trans (Heap.get?_push_of_some _ hq)
end
section
variable {X:Cx} {pins:List (Addr × Obj)} {σ:St} {H:Hp} {s:Shared} {a:Addr} {y:V} {u:Value} {A:Around} {E:Value → Shared → Prop}
end
end L2
namespace L3
open PySem
noncomputable section
inductive D where
 | non | bl (b:Bool) | int (i:Int) | str (x:List Nat) | tup (ds:List D) | scr (ds:List D) | ref (n:Nat)
 deriving Inhabited
noncomputable abbrev Zbc:=Sum Int (List Nat)
inductive MO where
 | lst (xs:List D) | dct (kvs:List (Zbc × D)) | fdct (kvs:List (Zbc × D))
 deriving Inhabited
noncomputable abbrev Store:=List MO
structure X3 where
 cls:List Nat
 arg:D
inductive R3 (α:Type) where
 | ok (a:α) (M:Store) | exc (x:X3) (M:Store) | bad
@[simp] noncomputable def R3.bind {α β:Type} (r:R3 α) (k:α → Store → R3 β):R3 β:=match r with
 | .ok a M=>k a M
 | .exc x M=>.exc x M
 | .bad=>.bad
theorem R3.bind_ok {α β:Type} (a:α) (M:Store) (k:α → Store → R3 β):(R3.ok a M).bind k = k a M:=rfl
noncomputable def Zax:Nat → D → Bool
 | _,.non=>true | _,.bl _=>true | _,.int _=>true | _,.str _=>true
 | n + 1,.tup ds=>ds.all (Zax n)
 | _,_=>false
noncomputable abbrev DEEP:Nat:=60
mutual
noncomputable def deq:D → D → Bool
 | .non,.non=>true
 | .bl a,.bl b=>a == b
 | .int a,.int b=>a == b
 | .str a,.str b=>a == b
 | .tup a,.tup b=>Zb1 a b
 | .bl a,.int b=>(if a then 1 else 0) == b
 | .int a,.bl b=>a == (if b then 1 else 0)
 | _,_=>false
noncomputable def Zb1:List D → List D → Bool
 | [],[]=>true
 | a :: x,b :: y=>deq a b && Zb1 x y
 | _,_=>false
end
mutual
noncomputable def below (n:Nat):D → Bool
 | .tup ds=>belowL n ds
 | .scr ds=>belowL n ds
 | .ref k=>k < n
 | .non=>true | .bl _=>true | .int _=>true | .str _=>true
noncomputable def belowL (n:Nat):List D → Bool
 | []=>true
 | d :: ds=>below n d && belowL n ds
end
mutual
noncomputable def same:D → D → Bool
 | .non,.non=>true
 | .bl a,.bl b=>a == b
 | .int a,.int b=>a == b
 | .str a,.str b=>a == b
 | .tup a,.tup b=>Zg8 a b
 | .scr a,.scr b=>Zg8 a b
 | .ref a,.ref b=>a == b
 | _,_=>false
noncomputable def Zg8:List D → List D → Bool
 | [],[]=>true
 | a :: x,b :: y=>same a b && Zg8 x y
 | _,_=>false
end
mutual
theorem same_iff:∀ {a b:D},same a b = true ↔ a = b
 | .non,b=>by cases b <;> simp [same]
 | .bl a,b=>by cases b <;> simp [same]
 | .int a,b=>by cases b <;> simp [same]
 | .str a,b=>by cases b <;> simp [same]
 | .tup a,b=>by cases b <;> simp [same,Zgc (x:=a)]
 | .scr a,b=>by cases b <;> simp [same,Zgc (x:=a)]
 | .ref a,b=>by cases b <;> simp [same]
theorem Zgc:∀ {x y:List D},Zg8 x y = true ↔ x = y
 | [],y=>by cases y <;> simp [Zg8]
 | a :: x,y=>by
  cases y with
  | nil=>simp [Zg8]
  | cons b y=>simp [Zg8,same_iff (a:=a),Zgc (x:=x)]
end
noncomputable instance:DecidableEq D:=fun a b=>decidable_of_iff (same a b = true) same_iff
noncomputable instance:DecidableEq MO:=fun a b=>match a,b with
 | .lst x,.lst y=>if h:x = y then isTrue (by rw [h]) else isFalse (by intro e; cases e; exact h rfl)
 | .dct x,.dct y=>if h:x = y then isTrue (by rw [h]) else isFalse (by intro e; cases e; exact h rfl)
 | .fdct x,.fdct y=>if h:x = y then isTrue (by rw [h]) else isFalse (by intro e; cases e; exact h rfl)
 | .lst _,.dct _=>isFalse (by intro e; cases e)
 | .lst _,.fdct _=>isFalse (by intro e; cases e)
 | .dct _,.lst _=>isFalse (by intro e; cases e)
 | .dct _,.fdct _=>isFalse (by intro e; cases e)
 | .fdct _,.lst _=>isFalse (by intro e; cases e)
 | .fdct _,.dct _=>isFalse (by intro e; cases e)
@[simp] noncomputable abbrev SZ:Nat:=1000000
noncomputable abbrev ZaE:=List (Option D)
noncomputable abbrev E3:=ZaE → Store → R3 D
noncomputable abbrev EL3:=ZaE → Store → R3 (List D)
noncomputable abbrev F3:=List D → Store → R3 D
inductive O3 where
 | nx (env:ZaE) (M:Store) | rt (d:D) (M:Store) | bk (env:ZaE) (M:Store) | ct (env:ZaE) (M:Store) | exc (x:X3) (M:Store) | bad
noncomputable abbrev S3:=ZaE → Store → O3
@[simp] noncomputable def Za (i:Nat):E3:=fun env M=>match env[i]? with
 | some (some d)=>.ok d M
 | _=>.bad
@[simp] noncomputable def eC (d:D):E3:=fun _ M=>.ok d M
@[simp] noncomputable def e1 (op:D → Store → R3 D) (f:E3):E3:=fun env M=>(f env M).bind op
@[simp] noncomputable def e2 (op:D → D → Store → R3 D) (f g:E3):E3:=fun env M=>(f env M).bind fun a M1=>(g env M1).bind fun b M2=>op a b M2
@[simp] noncomputable def Zg:EL3:=fun _ M=>.ok [] M
@[simp] noncomputable def Zb (f:E3) (g:EL3):EL3:=fun env M=>(f env M).bind fun a M1=>(g env M1).bind fun b M2=>.ok (a :: b) M2
@[simp] noncomputable def alloc (o:MO) (M:Store):R3 D:=.ok (.ref M.length) (M ++ [o])
section
local instance (priority:=100000) clP1 (p:Prop):Decidable p:=Classical.propDecidable p
@[simp] noncomputable def ZaD (g:EL3):E3:=fun env M=>(g env M).bind fun ds M1=>if ds.length ≤ SZ then .ok (.tup ds) M1 else .bad
end
section
local instance (priority:=100000) clP2 (p:Prop):Decidable p:=Classical.propDecidable p
@[simp] noncomputable def ZgS (g:EL3):E3:=fun env M=>(g env M).bind fun ds M1=>if ds.length ≤ SZ then alloc (.lst ds) M1 else .bad
end
@[simp] noncomputable def Zdx (f g:E3):E3:=fun env M=>(f env M).bind fun a M1=>match a with
 | .bl true=>g env M1
 | .bl false=>.ok (.bl false) M1
 | _=>.bad
@[simp] noncomputable def eOr (f g:E3):E3:=fun env M=>(f env M).bind fun a M1=>match a with
 | .bl false=>g env M1
 | .bl true=>.ok (.bl true) M1
 | _=>.bad
@[simp] noncomputable def Zdn (a:D) (M:Store):R3 D:=match a with
 | .bl b=>.ok (.bl (!b)) M
 | _=>.bad
@[simp] noncomputable def eIf (c f g:E3):E3:=fun env M=>(c env M).bind fun a M1=>match a with
 | .bl true=>f env M1
 | .bl false=>g env M1
 | _=>.bad
@[simp] noncomputable def Zac (F:F3) (g:EL3):E3:=fun env M=>(g env M).bind fun ds M1=>F ds M1
section
local instance (priority:=100000) clP3 (p:Prop):Decidable p:=Classical.propDecidable p
@[simp] noncomputable def Zar (a b:D) (M:Store):R3 D:=match a,b with
 | .int i,.int j=>.ok (.int (i + j)) M
 | .str x,.str y=>if x.length + y.length ≤ SZ then .ok (.str (x ++ y)) M else .bad
 | .tup x,.tup y=>if x.length + y.length ≤ SZ then .ok (.tup (x ++ y)) M else .bad
 | .ref n,.ref m=>match M[n]?,M[m]? with
  | some (.lst x),some (.lst y)=>if x.length + y.length ≤ SZ then alloc (.lst (x ++ y)) M else .bad
  | _,_=>.bad
 | _,_=>.bad
end
@[simp] noncomputable def Zds (a b:D) (M:Store):R3 D:=match a,b with
 | .int i,.int j=>.ok (.int (i - j)) M
 | _,_=>.bad
section
local instance (priority:=100000) clP4 (p:Prop):Decidable p:=Classical.propDecidable p
noncomputable def Zck (i j:Int):Bool:=(decide (-(2 ^ 64) < i) && decide (i < 2 ^ 64)) || (decide (-(2 ^ 64) < j) && decide (j < 2 ^ 64))
end
section
local instance (priority:=100000) clP5 (p:Prop):Decidable p:=Classical.propDecidable p
@[simp] noncomputable def ZeP (a b:D) (M:Store):R3 D:=match a,b with
 | .int i,.int j=>if Zck i j then .ok (.int (i * j)) M else .bad
 | .str x,.int k=>if x.length * k.toNat ≤ SZ ∧ k < 1000000 ∧ -1000000 < k then .ok (.str (List.replicate k.toNat x).flatten) M else .bad
 | .ref n,.int k=>match M[n]? with
  | some (.lst x)=>if x.length * k.toNat ≤ SZ ∧ k < 1000000 ∧ -1000000 < k then alloc (.lst (List.replicate k.toNat x).flatten) M else .bad
  | _=>.bad
 | _,_=>.bad
end
@[simp] noncomputable def Za3 (a b:D) (M:Store):R3 D:=match a,b with
 | .int i,.int j=>if 0 < j then .ok (.int (i % j)) M else .bad
 | _,_=>.bad
section
local instance (priority:=100000) clP6 (p:Prop):Decidable p:=Classical.propDecidable p
@[simp] noncomputable def Zbj (a b:D) (M:Store):R3 D:=match a,b with
 | .int i,.int j=>if 0 < j ∧ j < 1073741824 then .ok (.int (i / j)) M else .bad
 | _,_=>.bad
end
@[simp] noncomputable def Ziq (a b:D) (M:Store):R3 D:=match a,b with
 | .int i,.int j=>if 0 ≤ j ∧ j ≤ 1000 ∧ i.natAbs < 1000 then .ok (.int (i ^ j.toNat)) M else .bad
 | _,_=>.bad
@[simp] noncomputable def ZeF (a:D) (M:Store):R3 D:=match a with
 | .int i=>.ok (.int (-i)) M
 | _=>.bad
@[simp] noncomputable def ZkW (a b:D) (M:Store):R3 D:=match a,b with
 | .int i,.int j=>.ok (.bl (decide (i < j))) M
 | _,_=>.bad
@[simp] noncomputable def Zg6 (a b:D) (M:Store):R3 D:=match a,b with
 | .int i,.int j=>.ok (.bl (decide (i ≤ j))) M
 | _,_=>.bad
@[simp] noncomputable def Zfk (a b:D) (M:Store):R3 D:=match a,b with
 | .int i,.int j=>.ok (.bl (decide (j < i))) M
 | _,_=>.bad
@[simp] noncomputable def Zqo (a b:D) (M:Store):R3 D:=match a,b with
 | .int i,.int j=>.ok (.bl (decide (j ≤ i))) M
 | _,_=>.bad
@[simp] noncomputable def eqD (a b:D) (M:Store):Option Bool:=match a,b with
 | .ref n,.ref m=>match M[n]?,M[m]? with
  | some (.lst x),some (.lst y)=>if x.all (Zax DEEP) && y.all (Zax DEEP) then some (Zb1 x y) else none
  | _,_=>none
 | .int i,.int j=>some (decide (i = j))
 | .str x,.str y=>some (decide (x = y))
 | .bl x,.bl y=>some (decide (x = y))
 | .tup x,.tup y=>if x.all (Zax DEEP) && y.all (Zax DEEP) then some (Zb1 x y) else none
 | _,_=>none
@[simp] noncomputable def ZaF (a b:D) (M:Store):R3 D:=match eqD a b M with
 | some r=>.ok (.bl r) M
 | none=>.bad
@[simp] noncomputable def ZbE (a b:D) (M:Store):R3 D:=match eqD a b M with
 | some r=>.ok (.bl (!r)) M
 | none=>.bad
@[simp] noncomputable def Zjq (a b:D) (M:Store):R3 D:=match b with
 | .non=>.ok (.bl (decide (a = .non))) M
 | _=>.bad
@[simp] noncomputable def Zcf (a b:D) (M:Store):R3 D:=match b with
 | .non=>.ok (.bl (!decide (a = .non))) M
 | _=>.bad
noncomputable def Zbt:D → Bool
 | .non=>true | .bl _=>true | .int _=>true | .str _=>true | _=>false
@[simp] noncomputable def inD (a b:D):Option Bool:=match a,b with
 | .str [c],.str y=>some (decide (c ∈ y))
 | x,.tup ys=>if Zbt x && ys.all Zbt then some (ys.any fun y=>deq y x) else none
 | _,_=>none
@[simp] noncomputable def Zi4 (a b:D) (M:Store):R3 D:=match inD a b with
 | some r=>.ok (.bl r) M
 | none=>.bad
noncomputable def ixD (n:Nat) (i:Int):Option Nat:=if 0 ≤ i then (if i < n then some i.toNat else none) else if -(n:Int) ≤ i then some (i + n).toNat else none
noncomputable def Zbi {α:Type} (xs:List α) (i:Int):Option α:=(ixD xs.length i).bind fun j=>xs[j]?
@[simp] noncomputable def ZeU:D → Option Zbc
 | .int i=>some (.inl i)
 | .str x=>some (.inr x)
 | _=>none
noncomputable def Zcq:List (Zbc × D) → Zbc → Option D
 | [],_=>none
 | (k,v) :: r,x=>if k = x then some v else Zcq r x
section
local instance (priority:=100000) clP7 (p:Prop):Decidable p:=Classical.propDecidable p
@[simp] noncomputable def Ze (a b:D) (M:Store):R3 D:=match a,b with
 | .tup ds,.int i=>match Zbi ds i with
  | some d=>.ok d M
  | none=>.bad
 | .scr ds,.int i=>match Zbi ds i with
  | some d=>.ok d M
  | none=>.bad
 | .str x,.int i=>match Zbi x i with
  | some c=>if x.length ≤ SZ then .ok (.str [c]) M else .bad
  | none=>.bad
 | .ref n,.int i=>match M[n]? with
  | some (.lst ds)=>match Zbi ds i with
   | some d=>.ok d M
   | none=>.bad
  | _=>.bad
 | _,_=>.bad
end
@[simp] noncomputable def Zc2:Option MO → Option (List (Zbc × D))
 | some (.dct kvs)=>some kvs
 | some (.fdct kvs)=>some kvs
 | _=>none
@[simp] noncomputable def Zc6 (a b:D) (M:Store):R3 D:=match a with
 | .ref n=>match Zc2 M[n]?,ZeU b with
  | some kvs,some x=>match Zcq kvs x with
   | some d=>.ok d M
   | none=>.bad
  | _,_=>.bad
 | _=>.bad
noncomputable def sIx (n d:Nat):Option Int → Nat
 | none=>d
 | some v=>if v < 0 then (v + (n:Int)).toNat else min v.toNat n
noncomputable def cutD {α:Type} (xs:List α) (lo hi:Option Int):List α:=(xs.drop (sIx xs.length 0 lo)).take (sIx xs.length xs.length hi - sIx xs.length 0 lo)
noncomputable abbrev EO3:=ZaE → Store → R3 (Option Int)
@[simp] noncomputable def ZaW:EO3:=fun _ M=>.ok none M
@[simp] noncomputable def ZaX (f:E3):EO3:=fun env M=>(f env M).bind fun a M1=>match a with
 | .int i=>.ok (some i) M1
 | _=>.bad
section
local instance (priority:=100000) clP8 (p:Prop):Decidable p:=Classical.propDecidable p
@[simp] noncomputable def ZfP (a:D) (lo hi:Option Int) (M:Store):R3 D:=match a with
 | .tup ds=>.ok (.tup (cutD ds lo hi)) M
 | .scr ds=>alloc (.lst (cutD ds lo hi)) M
 | .str x=>if x.length ≤ SZ then .ok (.str (cutD x lo hi)) M else .bad
 | .ref n=>match M[n]? with
  | some (.lst ds)=>alloc (.lst (cutD ds lo hi)) M
  | _=>.bad
 | _=>.bad
end
@[simp] noncomputable def eSl (f:E3) (lo hi:EO3):E3:=fun env M=>(f env M).bind fun a M1=>(lo env M1).bind fun l M2=>(hi env M2).bind fun h M3=>ZfP a l h M3
section
local instance (priority:=100000) clP9 (p:Prop):Decidable p:=Classical.propDecidable p
@[simp] noncomputable def ZaY (ds:List D) (M:Store):R3 D:=match ds with
 | [.tup x]=>.ok (.int x.length) M
 | [.scr x]=>.ok (.int x.length) M
 | [.str x]=>if x.length ≤ SZ then .ok (.int x.length) M else .bad
 | [.ref n]=>match M[n]? with
  | some (.lst x)=>.ok (.int x.length) M
  | _=>.bad
 | _=>.bad
end
@[simp] noncomputable def Za7 (ds:List D) (M:Store):R3 D:=match ds with
 | [.tup x]=>.ok (.tup x) M
 | [.scr x]=>.ok (.tup x) M
 | [.ref n]=>match M[n]? with
  | some (.lst x)=>.ok (.tup x) M
  | _=>.bad
 | _=>.bad
@[simp] noncomputable def ZiD (ds:List D) (M:Store):R3 D:=match ds with
 | [.tup x]=>alloc (.lst x) M
 | [.scr x]=>alloc (.lst x) M
 | [.ref n]=>match M[n]? with
  | some (.lst x)=>alloc (.lst x) M
  | _=>.bad
 | _=>.bad
inductive Ty3 where
 | int | bool | str | list | tuple
 deriving DecidableEq
section
local instance (priority:=100000) clP11 (p:Prop):Decidable p:=Classical.propDecidable p
@[simp] noncomputable def Zbz (o:D) (ds:List D) (M:Store):R3 D:=match o,ds with
 | .ref n,[d]=>match M[n]? with
  | some (.lst x)=>if x.length < SZ then .ok .non (M.set n (.lst (x ++ [d]))) else .bad
  | _=>.bad
 | _,_=>.bad
end
section
local instance (priority:=100000) clPp (p:Prop):Decidable p:=Classical.propDecidable p
end
@[simp] noncomputable def tyL (a:D) (M:Store):Bool:=match a with
 | .ref n=>match M[n]? with
  | some (.lst _)=>true
  | _=>false
 | _=>false
@[simp] noncomputable def ZiL (a:D) (M:Store):Bool:=match a with
 | .ref n=>(Zc2 M[n]?).isSome
 | _=>false
@[simp] noncomputable def ZdV (ty:D → Store → Bool) (m:D → List D → Store → R3 D) (o:E3) (g:EL3):E3:=fun env M=>(o env M).bind fun a M1=>if ty a M1 then (g env M1).bind fun ds M2=>m a ds M2 else .bad
@[simp] noncomputable def Zas (b:List D → Store → R3 D) (g:EL3):E3:=fun env M=>(g env M).bind fun ds M1=>b ds M1
noncomputable def putD (k:Zbc) (v:D) (kvs:List (Zbc × D)):List (Zbc × D):=
 if (kvs.any fun p=>decide (p.1 = k)) = true then kvs.map (fun p=>if p.1 = k then (p.1,v) else p) else kvs ++ [(k,v)]
noncomputable abbrev EP3:=ZaE → Store → R3 (List (Zbc × D))
@[simp] noncomputable def Ztp (f g:E3) (r:EP3):EP3:=fun env M=>(f env M).bind fun a M1=>(g env M1).bind fun b M2=>match ZeU a with
 | some k=>(r env M2).bind fun l M3=>.ok ((k,b) :: l) M3
 | none=>.bad
noncomputable def dictOf (l:List (Zbc × D)):List (Zbc × D):=l.foldl (fun acc p=>putD p.1 p.2 acc) []
@[simp] noncomputable def ZtZ (r:EP3):E3:=fun env M=>(r env (M ++ [.dct []])).bind fun l M1=>match M1[M.length]? with
 | some (.dct [])=>if l.length ≤ 15 then .ok (.ref M.length) (M1.set M.length (.dct (dictOf l))) else .bad
 | _=>.bad
@[simp] noncomputable def Zo7:E3:=fun _ M=>alloc (.dct []) M
@[simp] noncomputable def e3 (op:D → D → D → Store → R3 D) (f g h:E3):E3:=fun env M=>(f env M).bind fun a M1=>(g env M1).bind fun b M2=>(h env M2).bind fun c M3=>op a b c M3
section
local instance (priority:=100000) clP12 (p:Prop):Decidable p:=Classical.propDecidable p
@[simp] noncomputable def ZkC (v a b:D) (M:Store):R3 D:=match a with
 | .ref n=>match M[n]?,ZeU b with
  | some (.dct kvs),some k=>if kvs.length < SZ then .ok .non (M.set n (.dct (putD k v kvs))) else .bad
  | _,_=>.bad
 | _=>.bad
end
@[simp] noncomputable def Zgj (v a b:D) (M:Store):R3 D:=match a,b with
 | .ref n,.int i=>match M[n]? with
  | some (.lst xs)=>match ixD xs.length i with
   | some j=>.ok .non (M.set n (.lst (xs.set j v)))
   | none=>.bad
  | _=>.bad
 | _,_=>.bad
@[simp] noncomputable def ZjW (o:D) (ds:List D) (M:Store):R3 D:=match o,ds with
 | .ref n,[b]=>match Zc2 M[n]?,ZeU b with
  | some kvs,some k=>.ok ((Zcq kvs k).getD .non) M
  | _,_=>.bad
 | .ref n,[b,d]=>match Zc2 M[n]?,ZeU b with
  | some kvs,some k=>.ok ((Zcq kvs k).getD d) M
  | _,_=>.bad
 | _,_=>.bad
noncomputable def Zdc:List D → Option (List (Zbc × D))
 | []=>some []
 | .tup [a,b] :: r=>match ZeU a with
  | some k=>(Zdc r).map fun l=>(k,b) :: l
  | none=>none
 | _ :: _=>none
section
local instance (priority:=100000) clP13 (p:Prop):Decidable p:=Classical.propDecidable p
@[simp] noncomputable def ZgF (ds:List D) (M:Store):R3 D:=match ds with
 | [.ref n]=>match Zc2 M[n]? with
  | some kvs=>alloc (.dct kvs) M
  | none=>.bad
 | [.tup x]=>match Zdc x with
  | some l=>if l.length ≤ 100000 then alloc (.dct (dictOf l)) M else .bad
  | none=>.bad
 | _=>.bad
end
@[simp] noncomputable def Zr8 (ds:List D) (M:Store):R3 D:=match ds with
 | [.int i]=>.ok (.int i) M
 | [.bl b]=>.ok (.int (if b then 1 else 0)) M
 | _=>.bad
noncomputable def ltT:List D → List D → Option Bool
 | [],[]=>some false
 | [],_ :: _=>some true
 | _ :: _,[]=>some false
 | .int i :: x,.int j :: y=>if i = j then ltT x y else some (decide (i < j))
 | .str a :: x,.str b :: y=>if a = b then ltT x y else some (decide (a < b))
 | _ :: _,_ :: _=>none
noncomputable def ltD:D → D → Option Bool
 | .tup a,.tup b=>ltT a b
 | .int i,.int j=>some (decide (i < j))
 | _,_=>none
noncomputable def leD (a b:D):Prop:=ltD b a = some false
noncomputable def Zhf (x y:List D):Prop:=y.Perm x ∧ y.Pairwise leD
noncomputable def Zdj:D → Bool
 | .tup (.int _ :: _)=>true
 | _=>false
noncomputable def ZfF:D → Bool
 | .int _=>true
 | _=>false
section
local instance (priority:=100000) clPs (p:Prop):Decidable p:=Classical.propDecidable p
noncomputable def Zjw (x:List D):List D:=if h:∃ y,Zhf x y then h.choose else x
end
noncomputable def Zaa:S3:=fun env M=>.nx env M
noncomputable def Zw (f g:S3):S3:=fun env M=>match f env M with
 | .nx env' M'=>g env' M'
 | o=>o
noncomputable def sIf (c:E3) (f g:S3):S3:=fun env M=>match c env M with
 | .ok (.bl true) M1=>f env M1
 | .ok (.bl false) M1=>g env M1
 | .exc x M1=>.exc x M1
 | _=>.bad
noncomputable def Zak (f:E3):S3:=fun env M=>match f env M with
 | .ok d M1=>.rt d M1
 | .exc x M1=>.exc x M1
 | .bad=>.bad
noncomputable def Za9 (f:E3):S3:=fun env M=>match f env M with
 | .ok _ M1=>.nx env M1
 | .exc x M1=>.exc x M1
 | .bad=>.bad
noncomputable def Zan (i:Nat) (f:E3):S3:=fun env M=>match f env M with
 | .ok d M1=>.nx (env.set i (some d)) M1
 | .exc x M1=>.exc x M1
 | .bad=>.bad
noncomputable def Zlv (o i f:E3):S3:=Za9 (e3 ZkC f o i)
noncomputable def ZfN (o i f:E3):S3:=Za9 (e3 Zgj f o i)
noncomputable abbrev G3:=D → ZaE → Option ZaE
@[simp] noncomputable def Zcw (i:Nat):G3:=fun d env=>some (env.set i (some d))
@[simp] noncomputable def bindAll:List Nat → List D → ZaE → Option ZaE
 | [],[],env=>some env
 | i :: is,d :: ds,env=>bindAll is ds (env.set i (some d))
 | _,_,_=>none
@[simp] noncomputable def Zd4 (is:List Nat):G3:=fun d env=>match d with
 | .tup ds=>bindAll is ds env
 | _=>none
structure It3 where
 items:List D
 lock:Option Nat
noncomputable abbrev I3:=ZaE → Store → R3 It3
section
local instance (priority:=100000) clP14 (p:Prop):Decidable p:=Classical.propDecidable p
@[simp] noncomputable def ZiM (f:E3):I3:=fun env M=>(f env M).bind fun a M1=>match a with
 | .tup ds=>.ok ⟨ds,none⟩ M1
 | .scr ds=>.ok ⟨ds,none⟩ M1
 | .str x=>if x.length ≤ SZ then .ok ⟨x.map fun c=>.str [c],none⟩ M1 else .bad
 | .ref n=>match M1[n]? with
  | some (.lst ds)=>.ok ⟨ds,some n⟩ M1
  | _=>.bad
 | _=>.bad
end
noncomputable def Zc9 (lo:Int) (n:Nat):List D:=(List.range n).map fun (k:Nat)=>D.int (lo + (k:Int))
section
local instance (priority:=100000) clP15 (p:Prop):Decidable p:=Classical.propDecidable p
@[simp] noncomputable def ZdD (f:E3):I3:=fun env M=>(f env M).bind fun a M1=>match a with
 | .int j=>if j ≤ 1000000 ∧ -1000000 ≤ j then .ok ⟨Zc9 0 j.toNat,none⟩ M1 else .bad
 | _=>.bad
end
section
local instance (priority:=100000) clP16 (p:Prop):Decidable p:=Classical.propDecidable p
end
noncomputable def locked (it:It3) (M:Store):Bool:=match it.lock with
 | none=>true
 | some n=>decide (M[n]? = some (.lst it.items))
noncomputable def ZdW (it:It3) (g:G3) (body:S3):List D → ZaE → Store → O3
 | [],env,M=>if locked it M then .nx env M else .bad
 | d :: ds,env,M=>if locked it M then match g d env with
  | none=>.bad
  | some env1=>match body env1 M with
   | .nx e M'=>ZdW it g body ds e M'
   | .ct e M'=>ZdW it g body ds e M'
   | .bk e M'=>.nx e M'
   | o=>o
  else .bad
noncomputable def Zjc (i:I3) (g:G3) (body:S3):S3:=fun env M=>match i env M with
 | .ok it M1=>ZdW it g body it.items env M1
 | .exc x M1=>.exc x M1
 | .bad=>.bad
noncomputable def Zea (c:E3) (body:S3):Nat → ZaE → Store → O3
 | 0,_,_=>.bad
 | n + 1,env,M=>match c env M with
  | .ok (.bl true) M1=>match body env M1 with
   | .nx e M'=>Zea c body n e M'
   | .ct e M'=>Zea c body n e M'
   | .bk e M'=>.nx e M'
   | o=>o
  | .ok (.bl false) M1=>.nx env M1
  | .exc x M1=>.exc x M1
  | _=>.bad
noncomputable def ZkI (c:E3) (body:S3):S3:=Zea c body 1000000
noncomputable def ZeB:List E3 → ZaE → Store → R3 Bool
 | [],_,M=>.ok true M
 | c :: cs,env,M=>(c env M).bind fun a M1=>match a with
  | .bl true=>ZeB cs env M1
  | .bl false=>.ok false M1
  | _=>.bad
section
local instance (priority:=100000) clP17 (p:Prop):Decidable p:=Classical.propDecidable p
noncomputable def Zc4 (it:It3) (g:G3) (ifs:List E3) (elt:E3) (n:Nat):List D → ZaE → Store → R3 D
 | [],_,M=>if locked it M then .ok (.ref n) M else .bad
 | d :: ds,env,M=>if locked it M then match g d env with
  | none=>.bad
  | some env1=>(ZeB ifs env1 M).bind fun b M1=>if b then (elt env1 M1).bind fun e M2=>match M2[n]? with
    | some (.lst x)=>if x.length < SZ then Zc4 it g ifs elt n ds env1 (M2.set n (.lst (x ++ [e]))) else .bad
    | _=>.bad
   else Zc4 it g ifs elt n ds env1 M1
  else .bad
end
noncomputable def eLC (i:I3) (own:Nat) (g:G3) (ifs:List E3) (elt:E3):E3:=fun env M=>(i env M).bind fun it M1=>
 Zc4 it g ifs elt M1.length it.items (env ++ List.replicate own none) (M1 ++ [.lst []])
noncomputable def keyV:Zbc → D
 | .inl i=>.int i
 | .inr x=>.str x
noncomputable def Zk2 (f:E3) (own:Nat) (g:G3) (ifs:List E3) (elt:E3):E3:=fun env M=>(f env M).bind fun a M1=>match a with
 | .ref n=>match M1[n]? with
  | some (.dct kvs)=>(Zc4 ⟨kvs.map fun q=>keyV q.1,none⟩ g ifs elt M1.length (kvs.map fun q=>keyV q.1) (env ++ List.replicate own none) (M1.set n (.fdct kvs) ++ [.lst []])).bind fun v M2=>match M2[n]? with
   | some (.fdct kvs')=>.ok v (M2.set n (.dct kvs'))
   | _=>.bad
  | _=>.bad
 | _=>.bad
noncomputable def Zge (n:Nat):MO → Bool
 | .lst xs=>belowL n xs
 | .dct kvs=>belowL n (kvs.map (·.2))
 | .fdct kvs=>belowL n (kvs.map (·.2))
noncomputable def ZdB (M:Store) (d:D) (M':Store):R3 D:=
 if below M.length d && (decide (M'.take M.length = M) || (M'.take M.length).all (Zge M.length)) then .ok d (M'.take M.length) else .ok d M'
noncomputable def mkF (ps n:Nat) (body:S3):F3:=fun ds M=>if ds.length = ps then match body (ds.map some ++ List.replicate (n - ps) none) M with
  | .nx _ M'=>ZdB M .non M'
  | .rt d M'=>ZdB M d M'
  | .exc x M'=>.exc x M'
  | _=>.bad
 else .bad
end
theorem ZhD:∀ (a b:List D),ltT a b = some true → ltT b a = some false
 | [],[],h=>by simp [ltT] at h
 | [],_ :: _,_=>by simp [ltT]
 | _ :: _,[],h=>by simp [ltT] at h
 | .int i :: x,.int j :: y,h=>by
  simp only [ltT] at h ⊢
  by_cases e:i = j
  ·subst e; simp only [if_true] at h ⊢; exact ZhD x y h
  ·rw [if_neg e] at h
   rw [if_neg (Ne.symm e)]
   simp only [Option.some.injEq,decide_eq_true_eq,decide_eq_false_iff_not] at h ⊢
   omega
 | .str p :: x,.str q :: y,h=>by
  simp only [ltT] at h ⊢
  by_cases e:p = q
  ·subst e; simp only [if_true] at h ⊢; exact ZhD x y h
  ·rw [if_neg e] at h
   rw [if_neg (Ne.symm e)]
   simp only [Option.some.injEq,decide_eq_true_eq,decide_eq_false_iff_not] at h ⊢
   exact fun z=>List.lt_irrefl _ (List.lt_trans h z)
 | .non :: _,_ :: _,h=>by simp [ltT] at h
 | .bl _ :: _,_ :: _,h=>by simp [ltT] at h
 | .tup _ :: _,_ :: _,h=>by simp [ltT] at h
 | .scr _ :: _,_ :: _,h=>by simp [ltT] at h
 | .ref _ :: _,_ :: _,h=>by simp [ltT] at h
 | .int _ :: _,.non :: _,h=>by simp [ltT] at h
 | .int _ :: _,.bl _ :: _,h=>by simp [ltT] at h
 | .int _ :: _,.str _ :: _,h=>by simp [ltT] at h
 | .int _ :: _,.tup _ :: _,h=>by simp [ltT] at h
 | .int _ :: _,.scr _ :: _,h=>by simp [ltT] at h
 | .int _ :: _,.ref _ :: _,h=>by simp [ltT] at h
 | .str _ :: _,.non :: _,h=>by simp [ltT] at h
 | .str _ :: _,.bl _ :: _,h=>by simp [ltT] at h
 | .str _ :: _,.int _ :: _,h=>by simp [ltT] at h
 | .str _ :: _,.tup _ :: _,h=>by simp [ltT] at h
 | .str _ :: _,.scr _ :: _,h=>by simp [ltT] at h
 | .str _ :: _,.ref _ :: _,h=>by simp [ltT] at h
theorem Zd5 {p:Prop} {b:Bool} (h:(none:Option Bool) = some b):p:=by cases h
theorem Zei {d e:D} {x y:List D} {r:Bool} (h:ltT (d :: x) (e :: y) = some r):(∃ i j,d = .int i ∧ e = .int j) ∨ ∃ i j,d = .str i ∧ e = .str j:=by
 cases d with
 | int i=>cases e with
  | int j=>exact .inl ⟨_,_,rfl,rfl⟩
  | _=>exact Zd5 h
 | str i=>cases e with
  | str j=>exact .inr ⟨_,_,rfl,rfl⟩
  | _=>exact Zd5 h
 | _=>cases e <;> exact Zd5 h
theorem ZkF:∀ (a b c:List D),ltT b a = some false → ltT c b = some false → ltT c a = some false
 | [],b,c,h1,h2=>by cases c <;> simp [ltT]
 | _ :: _,[],c,h1,h2=>by simp [ltT] at h1
 | _ :: _,_ :: _,[],h1,h2=>by simp [ltT] at h2
 | d :: x,e :: y,f :: z,h1,h2=>by
  rcases Zei h1 with ⟨j,i,rfl,rfl⟩ | ⟨j,i,rfl,rfl⟩
  ·rcases Zei h2 with ⟨k,j',rfl,e⟩ | ⟨k,j',rfl,e⟩
   ·cases e
    simp only [ltT] at h1 h2 ⊢
    by_cases e1:j = i
    ·subst e1
     simp only [if_true] at h1
     by_cases e2:k = j
     ·subst e2; simp only [if_true] at h2 ⊢; exact ZkF x y z h1 h2
     ·rw [if_neg e2] at h2 ⊢; exact h2
    ·rw [if_neg e1] at h1
     by_cases e2:k = j
     ·subst e2; rw [if_neg e1]; exact h1
     ·rw [if_neg e2] at h2
      simp only [Option.some.injEq,decide_eq_false_iff_not] at h1 h2
      rw [if_neg (by omega)]
      simp only [Option.some.injEq,decide_eq_false_iff_not]; omega
   ·cases e
  ·rcases Zei h2 with ⟨k,j',rfl,e⟩ | ⟨k,j',rfl,e⟩
   ·cases e
   ·cases e
    simp only [ltT] at h1 h2 ⊢
    by_cases e1:j = i
    ·subst e1
     simp only [if_true] at h1
     by_cases e2:k = j
     ·subst e2; simp only [if_true] at h2 ⊢; exact ZkF x y z h1 h2
     ·rw [if_neg e2] at h2 ⊢; exact h2
    ·rw [if_neg e1] at h1
     by_cases e2:k = j
     ·subst e2; rw [if_neg e1]; exact h1
     ·rw [if_neg e2] at h2
      simp only [Option.some.injEq,decide_eq_false_iff_not,List.not_lt] at h1 h2
      have h3:i ≤ k:=List.le_trans h1 h2
      have ne:k ≠ i:=fun z=>by subst z; exact e1 (List.le_antisymm h2 h1)
      rw [if_neg ne]
      simp only [Option.some.injEq,decide_eq_false_iff_not,List.not_lt]; exact h3
theorem Zht:∀ (a b:List D),ltT a b = some false → ltT b a = some false → a = b
 | [],[],_,_=>rfl
 | [],_ :: _,h,_=>by simp [ltT] at h
 | _ :: _,[],_,h=>by simp [ltT] at h
 | d :: x,e :: y,h1,h2=>by
  rcases Zei h1 with ⟨i,j,rfl,rfl⟩ | ⟨i,j,rfl,rfl⟩
  ·simp only [ltT] at h1 h2
   by_cases e1:i = j
   ·subst e1; simp only [if_true] at h1 h2; rw [Zht x y h1 h2]
   ·rw [if_neg e1] at h1
    rw [if_neg (Ne.symm e1)] at h2
    simp only [Option.some.injEq,decide_eq_false_iff_not] at h1 h2
    omega
  ·simp only [ltT] at h1 h2
   by_cases e1:i = j
   ·subst e1; simp only [if_true] at h1 h2; rw [Zht x y h1 h2]
   ·rw [if_neg e1] at h1
    rw [if_neg (Ne.symm e1)] at h2
    simp only [Option.some.injEq,decide_eq_false_iff_not,List.not_lt] at h1 h2
    exact absurd (List.le_antisymm h2 h1) e1
theorem Zhi {a b:D} (h:ltD a b = some true):ltD b a = some false:=by
 cases a with
 | int i=>cases b with
  | int j=>
   simp only [ltD,Option.some.injEq,decide_eq_true_eq,decide_eq_false_iff_not] at h ⊢; omega
  | _=>exact Zd5 h
 | tup x=>cases b with
  | tup y=>exact ZhD _ _ h
  | _=>exact Zd5 h
 | _=>exact Zd5 h
theorem Zng {a b c:D} (h1:ltD b a = some false) (h2:ltD c b = some false):ltD c a = some false:=by
 cases b with
 | int j=>cases a with
  | int i=>cases c with
   | int k=>
    simp only [ltD,Option.some.injEq,decide_eq_false_iff_not] at h1 h2 ⊢; omega
   | _=>exact Zd5 h2
  | _=>exact Zd5 h1
 | tup y=>cases a with
  | tup x=>cases c with
   | tup z=>exact ZkF _ _ _ h1 h2
   | _=>exact Zd5 h2
  | _=>exact Zd5 h1
 | _=>exact Zd5 h1
theorem ZmU {a b:D} (h1:ltD a b = some false) (h2:ltD b a = some false):a = b:=by
 cases a with
 | int i=>cases b with
  | int j=>
   simp only [ltD,Option.some.injEq,decide_eq_false_iff_not] at h1 h2; rw [show i = j by omega]
  | _=>exact Zd5 h1
 | tup x=>cases b with
  | tup y=>rw [Zht _ _ h1 h2]
  | _=>exact Zd5 h1
 | _=>exact Zd5 h1
theorem Zic:∀ {x y:List D},y.Perm x → x.Pairwise leD → y.Pairwise leD → y = x
 | [],y,p,_,_=>p.eq_nil
 | a :: x,y,p,hx,hy=>by
  cases y with
  | nil=>exact (p.symm.eq_nil).symm ▸ rfl
  | cons b y=>
   have hx':=List.pairwise_cons.mp hx
   have hy':=List.pairwise_cons.mp hy
   have e:b = a:=by
    rcases List.mem_cons.mp (p.mem_iff.mp List.mem_cons_self) with h | h
    ·exact h
    ·rcases List.mem_cons.mp (p.mem_iff.mpr (List.mem_cons_self (a:=a) (l:=x))) with h' | h'
     ·exact h'.symm
     ·exact ZmU (hx'.1 b h) (hy'.1 a h')
   subst e
   rw [Zic (List.Perm.cons_inv p) hx'.2 hy'.2]
theorem Zhe {x y:List D} (h:Zhf x y):Zjw x = y:=by
 unfold Zjw
 rw [dif_pos ⟨y,h⟩]
 have hc:=Exists.choose_spec (⟨y,h⟩:∃ y,Zhf x y)
 exact Zic (hc.1.trans h.1.symm) h.2 hc.2
end L3
namespace L3
theorem ZjY {it:It3} {i n:Nat} {elt:E3} {R:D → D → Prop} {env0:ZaE}:∀ (ds:List D) (acc:List D) (env:ZaE) (M:Store),(∀ d,env.set i (some d) = env0.set i (some d)) →
  (∀ d ∈ ds,∀ x,∃ e,elt (env0.set i (some d)) (M.set n (.lst x)) = .ok e (M.set n (.lst x)) ∧ R d e) → (∀ x,locked it (M.set n (.lst x)) = true) → M[n]? = some (.lst acc) → acc.length + ds.length ≤ SZ →
  ∃ es,es.length = ds.length ∧ (∀ (j:Nat) d e,ds[j]? = some d → es[j]? = some e → R d e) ∧ Zc4 it (Zcw i) [] elt n ds env M = .ok (.ref n) (M.set n (.lst (acc ++ es))):=by
 intro ds
 induction ds with
 | nil=>
  intro acc env M _ _ hl hM _
  have e:M.set n (.lst acc) = M:=by
   apply List.ext_getElem?
   intro j
   by_cases hj:j = n
   ·subst hj
    rw [List.getElem?_set_self (List.getElem?_eq_some_iff.mp hM).1,hM]
   ·rw [List.getElem?_set_ne (Ne.symm hj)]
  have hl':=hl acc
  rw [e] at hl'
  exact ⟨[],rfl,fun j d e h=>by simp at h,by simp only [Zc4,hl',if_true,List.append_nil,e]⟩
 | cons d ds ih=>
  intro acc env M he hf hl hM hz
  have hn:n < M.length:=(List.getElem?_eq_some_iff.mp hM).1
  have e:M.set n (.lst acc) = M:=by
   apply List.ext_getElem?
   intro j
   by_cases hj:j = n
   ·subst hj
    rw [List.getElem?_set_self hn,hM]
   ·rw [List.getElem?_set_ne (Ne.symm hj)]
  have hl':=hl acc
  rw [e] at hl'
  obtain ⟨v,hf',hR⟩:=hf d List.mem_cons_self acc
  rw [e] at hf'
  have hz':acc.length < SZ:=by simp at hz ⊢; omega
  obtain ⟨es,le,re,h⟩:=ih (acc ++ [v]) (env0.set i (some d)) (M.set n (.lst (acc ++ [v]))) (fun d'=>by rw [List.set_set]) (fun d' hd' x=>by rw [List.set_set]; exact hf d' (List.mem_cons_of_mem _ hd') x) (fun x=>by rw [List.set_set]; exact hl x) (by rw [List.getElem?_set_self hn]) (by simp at hz ⊢; omega)
  refine ⟨v :: es,by simp [le],fun j d' e' h1 h2=>?_,?_⟩
  ·cases j with
   | zero=>simp at h1 h2; subst h1 h2; exact hR
   | succ j=>exact re j d' e' (by simpa using h1) (by simpa using h2)
  ·simp only [Zc4,hl',if_true,Zcw,he d,ZeB,R3.bind_ok,hf',hM,hz']
   rw [h,List.set_set]
   simp
theorem ZhH {it:It3} {g:G3} {body:S3} {P:Nat → ZaE → Store → Prop}:∀ (ds:List D) (j:Nat) (env:ZaE) (M:Store),P j env M → (∀ j env M,P j env M → locked it M = true) →
  (∀ (k:Nat) d,ds[k]? = some d → ∀ env M,P (j + k) env M → ∃ env1 e' M',g d env = some env1 ∧ body env1 M = .nx e' M' ∧ P (j + k + 1) e' M') → ∃ e' M',ZdW it g body ds env M = .nx e' M' ∧ P (j + ds.length) e' M':=by
 intro ds
 induction ds with
 | nil=>intro j env M p hl _; exact ⟨env,M,by simp only [ZdW,hl j env M p,if_true],p⟩
 | cons d ds ih=>
  intro j env M p hl hs
  obtain ⟨env1,e',M',h1,h2,p'⟩:=hs 0 d rfl env M p
  obtain ⟨e2,M2,h3,p2⟩:=ih (j + 1) e' M' p' hl fun k d' hd' env M p=>by
   have:=hs (k + 1) d' (by simpa using hd') env M (by rw [show j + (k + 1) = j + 1 + k by omega]; exact p)
   rw [show j + (k + 1) + 1 = j + 1 + k + 1 by omega] at this
   exact this
  exact ⟨e2,M2,by simp only [ZdW,hl j env M p,if_true,h1,h2,h3],by rw [List.length_cons,show j + (ds.length + 1) = j + 1 + ds.length by omega]; exact p2⟩
theorem Zk {f g:S3} {env env':ZaE} {M M':Store} (h:f env M = .nx env' M'):Zw f g env M = g env' M':=by rw [Zw,h]
theorem Zaw {f g:S3} {env:ZaE} {M M':Store} {d:D} (h:f env M = .rt d M'):Zw f g env M = .rt d M':=by rw [Zw,h]
theorem ZaM {c:E3} {f g:S3} {env:ZaE} {M M':Store} (h:c env M = .ok (.bl true) M'):sIf c f g env M = f env M':=by rw [sIf,h]
theorem Zbg {c:E3} {f g:S3} {env:ZaE} {M M':Store} (h:c env M = .ok (.bl false) M'):sIf c f g env M = g env M':=by rw [sIf,h]
theorem ZaO {f:E3} {env:ZaE} {M M':Store} {d:D} (h:f env M = .ok d M'):Zak f env M = .rt d M':=by rw [Zak,h]
theorem Zag {f:E3} {i:Nat} {env env':ZaE} {M M':Store} {d:D} (h:f env M = .ok d M') (he:env.set i (some d) = env':=by first | (dsimp only [List.set_cons_succ,List.set_cons_zero] <;> exact rfl) | exact rfl):Zan i f env M = .nx env' M':=by rw [Zan,h]; simp only [he]
theorem Zy {c:E3} {f:S3} {env:ZaE} {M M':Store} (h:c env M = .ok (.bl false) M'):sIf c f Zaa env M = .nx env M':=by rw [sIf,h]; rfl
theorem ZeT {f:E3} {env:ZaE} {M M':Store} {d:D} (h:f env M = .ok d M'):Za9 f env M = .nx env M':=by rw [Za9,h]
theorem ZgV {i:I3} {g:G3} {u:S3} {env:ZaE} {M M':Store} {it:It3} (h:i env M = .ok it M'):Zjc i g u env M = ZdW it g u it.items env M':=by rw [Zjc,h]
theorem ZkE {i:I3} {own:Nat} {g:G3} {ts:List E3} {f:E3} {env:ZaE} {M M':Store} {it:It3} (h:i env M = .ok it M'):eLC i own g ts f env M = Zc4 it g ts f M'.length it.items (env ++ List.replicate own none) (M' ++ [.lst []]):=by rw [eLC,h]; rfl
theorem Zda {ps n:Nat} {body:S3} {ds:List D} {env:ZaE} {M M':Store} {d:D} (h:body env M = .rt d M') (hl:ds.length = ps:=by rfl) (he:ds.map some ++ List.replicate (n - ps) none = env:=by rfl):mkF ps n body ds M = ZdB M d M':=by rw [mkF,if_pos hl,he,h]
theorem Zhx {M G:Store} {d:D} (h:below M.length d = true):ZdB M d (M ++ G) = .ok d M:=by
 simp [ZdB,h]
end L3
namespace L3
theorem Zb4 {α:Type} (M:List α) (x:α) (xs:List α):(M ++ x :: xs)[M.length]? = some x:=by simp
theorem ZaV {α:Type} (M xs:List α) (k:Nat):(M ++ xs)[M.length + k]? = xs[k]?:=by
 rw [List.getElem?_append_right (by omega)]; congr 1; omega
theorem Zff {α:Type} (M xs:List α) (k:Nat) (o:α):(M ++ xs).set (M.length + k) o = M ++ xs.set k o:=by
 rw [List.set_append_right _ _ (by omega)]; congr 2; omega
theorem ZcZ {α:Type} {M:List α} {n:Nat} {o:α} (h:M[n]? = some o) (xs:List α):(M ++ xs)[n]? = some o:=by
 rw [List.getElem?_append_left (List.getElem?_eq_some_iff.mp h).1,h]
theorem Zdp {α:Type} (xs:List α) (k:Nat):Zbi xs (k:Int) = xs[k]?:=by
 unfold Zbi ixD
 rw [if_pos (Int.natCast_nonneg k)]
 by_cases h:k < xs.length
 ·rw [if_pos (by omega)]; simp
 ·rw [if_neg (by omega)]; simp at h ⊢; omega
@[simp] theorem Zfd {α:Type} (xs:List α) (k:Nat):Zbi xs (k:Int) = xs[k]?:=Zdp xs k
@[simp] theorem ZhI {α:Type} (xs:List α) (n:Nat):Zbi xs (no_index (OfNat.ofNat n:Int)) = xs[(OfNat.ofNat n:Nat)]?:=Zdp xs n
@[simp] theorem Zq2 {α:Type} (xs:List α):Zbi xs (-1) = xs.getLast?:=by
 unfold Zbi ixD
 rw [if_neg (by decide),List.getLast?_eq_getElem?]
 by_cases h:0 < xs.length
 ·rw [if_pos (by omega)]
  simp only [Option.bind_some]
  congr 1; omega
 ·have:xs = []:=by simpa using h
  subst this; rfl
theorem ZlC (n k:Nat):ixD n (k:Int) = if k < n then some k else none:=by
 unfold ixD
 rw [if_pos (Int.natCast_nonneg k)]
 by_cases h:k < n
 ·rw [if_pos (by omega),if_pos h]; simp
 ·rw [if_neg (by omega),if_neg h]
@[simp] theorem ZnT (n k:Nat):ixD n (k:Int) = if k < n then some k else none:=ZlC n k
@[simp] theorem Zsk (m n:Nat):ixD m (no_index (OfNat.ofNat n:Int)) = if (OfNat.ofNat n:Nat) < m then some (OfNat.ofNat n:Nat) else none:=ZlC m n
theorem getD_last {α:Type} (xs:List α) (x:α):Zbi (xs ++ [x]) (-1) = some x:=by
 unfold Zbi ixD
 rw [if_neg (by decide),if_pos (by simp; omega)]
 have:(-1 + ((xs ++ [x]).length:Int)).toNat = xs.length:=by simp; omega
 simp only [Option.bind_some,this]
 simp
theorem ZnG {α:Type} (xs:List α):cutD xs none (some (-1)) = xs.dropLast:=by
 unfold cutD sIx
 simp only [List.drop_zero]
 rw [if_pos (by decide),List.dropLast_eq_take]
 congr 1
 omega
inductive Row where
 | put (a:Nat) (n:Int) | add (a b c:Nat) | sub (a b c:Nat) | more (a b c:Nat) | get (a b:Nat) | set (a b:Nat) | jump (k:Nat) | when (a k:Nat) | tell (a:Nat) | halt
 deriving Inhabited
noncomputable def Zn:Row → D
 | .put a n=>.tup [.str [112,117,116],.int a,.int n]
 | .add a b c=>.tup [.str [97,100,100],.int a,.int b,.int c]
 | .sub a b c=>.tup [.str [115,117,98],.int a,.int b,.int c]
 | .more a b c=>.tup [.str [109,111,114,101],.int a,.int b,.int c]
 | .get a b=>.tup [.str [103,101,116],.int a,.int b]
 | .set a b=>.tup [.str [115,101,116],.int a,.int b]
 | .jump k=>.tup [.str [106,117,109,112],.int k]
 | .when a k=>.tup [.str [119,104,101,110],.int a,.int k]
 | .tell a=>.tup [.str [116,101,108,108],.int a]
 | .halt=>.tup [.str [104,97,108,116]]
noncomputable def Row.ok (many:Nat):Row → Prop
 | .put a _=>a < 8
 | .add a b c=>a < 8 ∧ b < 8 ∧ c < 8
 | .sub a b c=>a < 8 ∧ b < 8 ∧ c < 8
 | .more a b c=>a < 8 ∧ b < 8 ∧ c < 8
 | .get a b=>a < 8 ∧ b < 8
 | .set a b=>a < 8 ∧ b < 8
 | .jump k=>k < many
 | .when a k=>a < 8 ∧ k < many
 | .tell a=>a < 8
 | .halt=>True
noncomputable abbrev ZaK:=List Row
noncomputable def Zh (r:ZaK):D:=.tup (r.map Zn)
structure Za0 (r:ZaK):Prop where
 rows:∀ x ∈ r,x.ok r.length
 last:∃ q x,r = q ++ [x] ∧ (x = .halt ∨ ∃ k,x = .jump k)
structure Stt where
 place:Nat
 boxes:List Int
 cells:List (Int × Int)
 deriving Inhabited,DecidableEq
noncomputable def Zi (bs:List Int):D:=.tup (bs.map D.int)
noncomputable def ZaL (c:Int × Int):D:=.tup [.int c.1,.int c.2]
noncomputable def ZaR (cs:List (Int × Int)):D:=.tup (cs.map ZaL)
noncomputable def Zaf (s:Stt):D:=.tup [.int s.place,Zi s.boxes,ZaR s.cells]
noncomputable def Stt.ok (r:ZaK) (s:Stt):Prop:=s.place < r.length ∧ s.boxes.length = 8
noncomputable def Row.tells (bs:List Int):Row → Option Int
 | .tell a=>bs[a]?
 | _=>none
noncomputable def Row.isHalt:Row → Bool
 | .halt=>true
 | _=>false
@[simp] theorem Zq1 {a:Nat} {n:Int} {bs:List Int}:(Row.put a n).tells bs = none:=rfl
@[simp] theorem Zqm {a:Nat} {n:Int}:(Row.put a n).isHalt = false:=rfl
@[simp] theorem Zq8 {a:Nat} {b:Nat} {c:Nat} {bs:List Int}:(Row.add a b c).tells bs = none:=rfl
@[simp] theorem Zqd {a:Nat} {b:Nat} {c:Nat}:(Row.add a b c).isHalt = false:=rfl
@[simp] theorem Zq6 {a:Nat} {b:Nat} {c:Nat} {bs:List Int}:(Row.sub a b c).tells bs = none:=rfl
@[simp] theorem Zpw {a:Nat} {b:Nat} {c:Nat}:(Row.sub a b c).isHalt = false:=rfl
@[simp] theorem ZqJ {a:Nat} {b:Nat} {c:Nat} {bs:List Int}:(Row.more a b c).tells bs = none:=rfl
@[simp] theorem Zo2 {a:Nat} {b:Nat} {c:Nat}:(Row.more a b c).isHalt = false:=rfl
@[simp] theorem Zq3 {a:Nat} {b:Nat} {bs:List Int}:(Row.get a b).tells bs = none:=rfl
@[simp] theorem ZpG {a:Nat} {b:Nat}:(Row.get a b).isHalt = false:=rfl
@[simp] theorem Zra {a:Nat} {b:Nat} {bs:List Int}:(Row.set a b).tells bs = none:=rfl
@[simp] theorem ZpA {a:Nat} {b:Nat}:(Row.set a b).isHalt = false:=rfl
@[simp] theorem Zp2 {k:Nat} {bs:List Int}:(Row.jump k).tells bs = none:=rfl
@[simp] theorem Zo8 {k:Nat}:(Row.jump k).isHalt = false:=rfl
@[simp] theorem Zqf {a:Nat} {k:Nat} {bs:List Int}:(Row.when a k).tells bs = none:=rfl
@[simp] theorem ZoX {a:Nat} {k:Nat}:(Row.when a k).isHalt = false:=rfl
@[simp] theorem ZpY {a:Nat} {bs:List Int}:(Row.tell a).tells bs = bs[a]?:=rfl
@[simp] theorem ZoW {a:Nat}:(Row.tell a).isHalt = false:=rfl
@[simp] theorem Zqe  {bs:List Int}:(Row.halt).tells bs = none:=rfl
@[simp] theorem Zo3 :(Row.halt).isHalt = true:=rfl
noncomputable def ZdL (r:ZaK) (s:Stt):Bool:=match r[s.place]? with
 | some x=>x.isHalt
 | none=>false
theorem ZeM (n:Nat) (i:Int):Zax n (.int i) = true:=by cases n <;> rfl
theorem ZnR (n:Nat) (i:List Nat):Zax n (.str i) = true:=by cases n <;> rfl
theorem Zgk (n:Nat) (bs:List Int):Zax (n + 1) (Zi bs) = true:=by simp [Zi,Zax,ZeM]
mutual
theorem Zmq:∀ (n:Nat) (d:D),Zax n d = true → deq d d = true
 | _,.non,_=>rfl
 | _,.bl _,_=>by simp [deq]
 | _,.int _,_=>by simp [deq]
 | _,.str _,_=>by simp [deq]
 | 0,.tup _,h=>by simp [Zax] at h
 | n + 1,.tup ds,h=>by simp only [deq]; exact ZfE n ds (by simpa [Zax] using h)
 | _,.scr _,h=>by simp [Zax] at h
 | _,.ref _,h=>by simp [Zax] at h
theorem ZfE:∀ (n:Nat) (ds:List D),(∀ d ∈ ds,Zax n d = true) → Zb1 ds ds = true
 | _,[],_=>rfl
 | n,d :: ds,h=>by
  simp only [Zb1,Bool.and_eq_true]
  exact ⟨Zmq n d (h d List.mem_cons_self),ZfE n ds fun x hx=>h x (List.mem_cons_of_mem _ hx)⟩
end
theorem Zh4 {ds:List D} (h:ds.all (Zax DEEP) = true):Zb1 ds ds = true:=ZfE DEEP ds (by simpa using h)
end L3
namespace L3
noncomputable def Rt (o:O3) (d:D):Prop:=∃ M',o = .rt d M'
theorem Rt.set {i:Nat} {f:E3} {g:S3} {env env':ZaE} {M M':Store} {d r:D} (h:f env M = .ok d M') (k:Rt (g env' M') r) (he:env.set i (some d) = env':=by first | (dsimp only [List.set_cons_succ,List.set_cons_zero] <;> exact rfl) | exact rfl):Rt (Zw (Zan i f) g env M) r:=by
 rw [Rt,Zk (Zag h he)]; exact k
theorem Rt.skip {c:E3} {u g:S3} {env:ZaE} {M M':Store} {r:D} (h:c env M = .ok (.bl false) M') (k:Rt (g env M') r):Rt (Zw (sIf c u Zaa) g env M) r:=by
 rw [Rt,Zk (Zy h)]; exact k
theorem Rt.loop {i:I3} {t:G3} {u g:S3} {env env':ZaE} {M M' M1:Store} {it:It3} {r:D} (h:i env M = .ok it M1) (hl:ZdW it t u it.items env M1 = .nx env' M') (k:Rt (g env' M') r):Rt (Zw (Zjc i t u) g env M) r:=by
 rw [Rt,Zk ((ZgV h).trans hl)]; exact k
theorem Rt.step {f g:S3} {env env':ZaE} {M M':Store} {r:D} (h:f env M = .nx env' M') (k:Rt (g env' M') r):Rt (Zw f g env M) r:=by
 rw [Rt,Zk h]; exact k
theorem Rt.ret {f:E3} {env:ZaE} {M M':Store} {d:D} (h:f env M = .ok d M'):Rt (Zak f env M) d:=⟨M',ZaO h⟩
theorem Rt.law {ps n:Nat} {body:S3} {ds:List D} {env:ZaE} {b:Bool} (h:Rt (body env []) (.bl b)) (hl:ds.length = ps:=by rfl) (he:ds.map some ++ List.replicate (n - ps) none = env:=by rfl):∃ M',mkF ps n body ds [] = .ok (.bl b) M':=by
 obtain ⟨M',h⟩:=h
 exact ⟨_,(Zda h hl he).trans (by rw [ZdB,if_pos (by simp [below])])⟩
theorem Rt.pure {ps n:Nat} {body:S3} {ds:List D} {env:ZaE} {M G:Store} {d:D} (h:body env M = .rt d (M ++ G)) (hd:below M.length d = true) (hl:ds.length = ps:=by rfl) (he:ds.map some ++ List.replicate (n - ps) none = env:=by rfl):mkF ps n body ds M = .ok d M:=
 (Zda h hl he).trans (Zhx hd)
theorem Zkn {α:Type} {enc:α → D} {P:Nat → α → Prop}:∀ (es:List D),(∀ (j:Nat) e,es[j]? = some e → ∃ a,e = enc a ∧ P j a) → ∃ as:List α,es = as.map enc ∧ ∀ (j:Nat) a,as[j]? = some a → P j a
 | [],_=>⟨[],rfl,fun j a h=>by simp at h⟩
 | e :: es,h=>by
  obtain ⟨a,rfl,pa⟩:=h 0 e rfl
  obtain ⟨as,rfl,ps⟩:=Zkn (enc:=enc) (P:=fun j=>P (j + 1)) es fun j e he=>h (j + 1) e (by simpa using he)
  refine ⟨a :: as,rfl,fun j b hb=>?_⟩
  cases j with
  | zero=>simp at hb; subst hb; exact pa
  | succ j=>exact ps j b (by simpa using hb)
theorem Zov {n:Nat} {lo:Int} {j:Nat} {d:D} (h:(Zc9 lo n)[j]? = some d):d = .int (lo + j) ∧ j < n:=by
 unfold Zc9 at h
 rw [List.getElem?_map] at h
 cases q:(List.range n)[j]? with
 | none=>rw [q] at h; cases h
 | some k=>
  rw [q] at h
  obtain ⟨hi,e⟩:=List.getElem?_eq_some_iff.mp q
  rw [List.getElem_range] at e
  subst e
  simp at h hi
  exact ⟨h.symm,hi⟩
theorem ZgZ {n:Nat} {j:Nat} {d:D} (h:(Zc9 0 n)[j]? = some d):d = .int (j:Int) ∧ j < n:=by
 obtain ⟨e,l⟩:=Zov h
 exact ⟨by rw [e,Int.zero_add],l⟩
theorem ZgX (lo:Int) (n:Nat):(Zc9 lo n).length = n:=by simp [Zc9]
end L3
namespace L3
theorem Zgd {o arg:E3} {env:ZaE} {M M2:Store} {n:Nat} {xs ys:List D} {d:D} (ho:o env M = .ok (.ref n) M) (hM:M[n]? = some (.lst xs)) (ha:arg env M = .ok d M2) (hM2:M2[n]? = some (.lst ys)) (hz:ys.length < 1000000):
  ZdV tyL Zbz o (Zb arg Zg) env M = .ok .non (M2.set n (.lst (ys ++ [d]))):=by
 simp [ho,hM,ha,hM2,hz]
theorem Zai {op:D → D → Store → R3 D} {f g:E3} {env:ZaE} {M M1 M2 M3:Store} {a b d:D} (h1:f env M = .ok a M1) (h2:g env M1 = .ok b M2) (h3:op a b M2 = .ok d M3):e2 op f g env M = .ok d M3:=by
 simp only [e2,h1,h2,h3,R3.bind]
theorem ZfC {F:F3} {f:E3} {env:ZaE} {M M1 M2:Store} {a d:D} (h1:f env M = .ok a M1) (h2:F [a] M1 = .ok d M2):Zac F (Zb f Zg) env M = .ok d M2:=by
 simp only [Zac,Zb,Zg,h1,h2,R3.bind]
theorem ZcA {F:F3} {f g:E3} {env:ZaE} {M M1 M2 M3:Store} {a b d:D} (h1:f env M = .ok a M1) (h2:g env M1 = .ok b M2) (h3:F [a,b] M2 = .ok d M3):Zac F (Zb f (Zb g Zg)) env M = .ok d M3:=by
 simp only [Zac,Zb,Zg,h1,h2,h3,R3.bind]
theorem Zcl {F:F3} {f g h:E3} {env:ZaE} {M M1 M2 M3 M4:Store} {a b c d:D} (h1:f env M = .ok a M1) (h2:g env M1 = .ok b M2) (h3:h env M2 = .ok c M3) (h4:F [a,b,c] M3 = .ok d M4):Zac F (Zb f (Zb g (Zb h Zg))) env M = .ok d M4:=by
 simp only [Zac,Zb,Zg,h1,h2,h3,h4,R3.bind]
@[simp] theorem ZsH (a b:Ty3):(a == b) = decide (a = b):=by cases a <;> cases b <;> rfl
theorem ZhA {F:F3} {f g h k:E3} {env:ZaE} {M M1 M2 M3 M4 M5:Store} {a b c d e:D} (h1:f env M = .ok a M1) (h2:g env M1 = .ok b M2) (h3:h env M2 = .ok c M3) (h4:k env M3 = .ok d M4) (h5:F [a,b,c,d] M4 = .ok e M5):Zac F (Zb f (Zb g (Zb h (Zb k Zg)))) env M = .ok e M5:=by
 simp only [Zac,Zb,Zg,h1,h2,h3,h4,h5,R3.bind]
theorem Zd6 {b:List D → Store → R3 D} {f:E3} {env:ZaE} {M M1 M2:Store} {a d:D} (h1:f env M = .ok a M1) (h2:b [a] M1 = .ok d M2):Zas b (Zb f Zg) env M = .ok d M2:=by
 simp only [Zas,Zb,Zg,h1,h2,R3.bind]
theorem Zhp {op:D → Store → R3 D} {f:E3} {env:ZaE} {M M1 M2:Store} {a d:D} (h1:f env M = .ok a M1) (h2:op a M1 = .ok d M2):e1 op f env M = .ok d M2:=by
 simp only [e1,h1,h2,R3.bind]
theorem ZdM {f:E3} {g:EL3} {env:ZaE} {M M1 M2:Store} {d:D} {ds:List D} (h1:f env M = .ok d M1) (h2:g env M1 = .ok ds M2):Zb f g env M = .ok (d :: ds) M2:=by
 simp only [Zb,h1,h2,R3.bind]
theorem Zdi {g:EL3} {env:ZaE} {M M':Store} {ds:List D} (h:g env M = .ok ds M') (hl:decide (ds.length ≤ 100) = true):ZaD g env M = .ok (.tup ds) M':=by
 have:=of_decide_eq_true hl
 simp only [ZaD,h,R3.bind]
 rw [if_pos (Nat.le_trans this (by decide))]
theorem ZfV {n:Nat} {M:Store} {xs:List D} (h:M[n]? = some (.lst xs)):ZaY [.ref n] M = .ok (.int (xs.length:Int)) M:=by simp only [ZaY,h]
theorem ZiU {n:Nat} {M:Store} {xs:List D} (h:M[n]? = some (.lst xs)):Za7 [.ref n] M = .ok (.tup xs) M:=by simp only [Za7,h]
theorem Zn2 {n:Nat} {M:Store} {xs:List D} {i:Int} {d:D} (h:M[n]? = some (.lst xs)) (hd:Zbi xs i = some d):Ze (.ref n) (.int i) M = .ok d M:=by simp only [Ze,h,hd]
theorem Zn0 {M:Store} {xs:List D} {i:Int} {d:D} (hd:Zbi xs i = some d):Ze (.tup xs) (.int i) M = .ok d M:=by simp only [Ze,hd]
theorem Zsv {a b:Int} {M:Store} (h:a ≤ b):Zg6 (.int a) (.int b) M = .ok (.bl true) M:=by simp only [Zg6,decide_eq_true h]
theorem ZsI {a b:Int} {M:Store} (h:¬ a ≤ b):Zg6 (.int a) (.int b) M = .ok (.bl false) M:=by simp only [Zg6,decide_eq_false h]
theorem Zs2 {a b:Int} {M:Store} (h:a = b):ZaF (.int a) (.int b) M = .ok (.bl true) M:=by simp only [ZaF,eqD,decide_eq_true h]
theorem ZrC {a b:List Nat} {M:Store} (h:¬ a = b):ZbE (.str a) (.str b) M = .ok (.bl true) M:=by simp only [ZbE,eqD,decide_eq_false h]; rfl
theorem Zo1 {a b:List Nat} {M:Store} (h:a = b):ZbE (.str a) (.str b) M = .ok (.bl false) M:=by simp only [ZbE,eqD,decide_eq_true h]; rfl
theorem ZkN {i j:Int} {M:Store} (h:0 < j):Za3 (.int i) (.int j) M = .ok (.int (i % j)) M:=by simp only [Za3,if_pos h]
theorem Zg4 {f g:E3} {env:ZaE} {M M1:Store} (h1:f env M = .ok (.bl false) M1):eOr f g env M = g env M1:=by simp only [eOr,h1,R3.bind]
theorem Zr6 {f g:E3} {env:ZaE} {M M1:Store} (h1:f env M = .ok (.bl true) M1):eOr f g env M = .ok (.bl true) M1:=by simp only [eOr,h1,R3.bind]
theorem ZfD {f g:E3} {env:ZaE} {M M1:Store} (h1:f env M = .ok (.bl true) M1):Zdx f g env M = g env M1:=by simp only [Zdx,h1,R3.bind]
theorem Zm1 {f g:E3} {env:ZaE} {M M1:Store} (h1:f env M = .ok (.bl false) M1):Zdx f g env M = .ok (.bl false) M1:=by simp only [Zdx,h1,R3.bind]
theorem Zpd {c f g:E3} {env:ZaE} {M M1:Store} (h1:c env M = .ok (.bl true) M1):eIf c f g env M = f env M1:=by simp only [eIf,h1,R3.bind]
theorem Zpa {c f g:E3} {env:ZaE} {M M1:Store} (h1:c env M = .ok (.bl false) M1):eIf c f g env M = g env M1:=by simp only [eIf,h1,R3.bind]
theorem Zqz {α:Type} {enc:α → D} {h:α → D} {own:Nat} {i:Nat} {it:I3} {elt:E3} {env:ZaE} {M M1:Store} {lock:Option Nat} {as:List α} (hi:it env M = .ok ⟨as.map enc,lock⟩ M1) (hlock:∀ n,lock = some n → M1[n]? = some (.lst (as.map enc)))
  (he:∀ a ∈ as,∀ M,elt ((env ++ List.replicate own none).set i (some (enc a))) M = .ok (h a) M) (hz:as.length ≤ 100000):eLC it own (Zcw i) [] elt env M = .ok (.ref M1.length) (M1 ++ [.lst (as.map h)]):=by
 rw [ZkE hi]
 obtain ⟨es,le,re,hh⟩:=ZjY (it:=⟨as.map enc,lock⟩) (i:=i) (n:=M1.length) (elt:=elt) (R:=fun d e=>∀ a ∈ as,d = enc a → e = h a) (env0:=env ++ List.replicate own none) (as.map enc) [] (env ++ List.replicate own none) (M1 ++ [.lst []]) (fun _=>rfl)
  (fun d hd x=>by
   obtain ⟨a,ha,rfl⟩:=List.mem_map.mp hd
   refine ⟨h a,he a ha _,fun b hb e=>?_⟩
   have h1:=he a ha []
   have h2:=he b hb []
   rw [e,h2] at h1
   injection h1 with h1 _
   exact h1.symm)
  (fun x=>by
   cases lock with
   | none=>rfl
   | some n=>
    have hn:=hlock n rfl
    have hlt:=(List.getElem?_eq_some_iff.mp hn).1
    simp only [locked,decide_eq_true_eq]
    rw [List.getElem?_set_ne (by omega),List.getElem?_append_left hlt,hn]) (by simp) (by simp; omega)
 rw [show (⟨as.map enc,lock⟩:It3).items = as.map enc from rfl,hh]
 have:es = as.map h:=by
  apply List.ext_getElem?
  intro j
  rw [List.getElem?_map]
  cases ha:as[j]? with
  | none=>
   have:as.length ≤ j:=by simpa using ha
   simp [le]; exact this
  | some a=>
   have hj:j < es.length:=by
    have:=(List.getElem?_eq_some_iff.mp ha).1
    simpa [le] using this
   have h2:=re j (enc a) es[j] (by simp [ha]) (by simp [hj]) a (List.mem_of_getElem? ha) rfl
   rw [List.getElem?_eq_getElem hj,h2]; rfl
 rw [this]
 simp
end L3
namespace L3
noncomputable def ZeK (t:List (Int × Int)) (n v:Int):List (Int × Int):=if t.any (fun p=>decide (p.1 = n)) = true then t.map (fun p=>if p.1 = n then (p.1,v) else p) else t ++ [(n,v)]
noncomputable def Za4 (t:List (Int × Int)):List (Zbc × D):=t.map fun p=>(.inl p.1,.int p.2)
noncomputable def keysOk (t:List (Int × Int)):Prop:=(t.map (·.1)).Nodup
noncomputable def Zcn:List (Int × Int) → Int → Int
 | [],_=>0
 | (k,v) :: r,n=>if k = n then v else Zcn r n
theorem Zjx (t:List (Int × Int)) (n v:Int):putD (.inl n) (.int v) (Za4 t) = Za4 (ZeK t n v):=by
 have ha:((Za4 t).any fun p=>decide (p.1 = (.inl n:Zbc))) = t.any fun p=>decide (p.1 = n):=by
  simp [Za4,List.any_map,Function.comp_def]
 unfold putD ZeK
 rw [ha]
 by_cases c:(t.any fun p=>decide (p.1 = n)) = true
 ·rw [if_pos c,if_pos c]
  simp only [Za4,List.map_map]
  apply List.map_congr_left
  intro p _
  by_cases e:p.1 = n
  ·simp [e]
  ·simp [e]
 ·rw [if_neg c,if_neg c]
  simp [Za4]
theorem Zkb (t:List (Int × Int)) (n:Int):Zcq (Za4 t) (.inl n) = (if t.any (fun p=>decide (p.1 = n)) = true then some (D.int (Zcn t n)) else none):=by
 induction t with
 | nil=>rfl
 | cons p t ih=>
  obtain ⟨k,v⟩:=p
  show (if (Sum.inl k:Zbc) = Sum.inl n then some (D.int v) else Zcq (Za4 t) (.inl n)) = _
  by_cases e:k = n
  ·simp [e,Zcn]
  ·rw [if_neg (by simp [e]),ih]
   simp only [List.any_cons,Zcn,if_neg e,decide_eq_false e,Bool.false_or]
theorem Zdd {t:List (Int × Int)} {n:Int} (h:¬ t.any (fun p=>decide (p.1 = n)) = true):Zcn t n = 0:=by
 induction t with
 | nil=>rfl
 | cons p t ih=>
  obtain ⟨k,v⟩:=p
  simp only [List.any_cons,Bool.or_eq_true,decide_eq_true_eq,not_or] at h
  simp only [Zcn,if_neg h.1]
  exact ih (by simpa using h.2)
theorem ZfJ (t:List (Int × Int)) (n:Int):(Zcq (Za4 t) (.inl n)).getD (.int 0) = .int (Zcn t n):=by
 rw [Zkb]
 by_cases c:(t.any fun p=>decide (p.1 = n)) = true
 ·rw [if_pos c]; rfl
 ·rw [if_neg c,Zdd c]; rfl
theorem Zfg {t:List (Int × Int)} (n v:Int) (h:keysOk t):keysOk (ZeK t n v):=by
 unfold keysOk ZeK at *
 by_cases c:(t.any fun p=>decide (p.1 = n)) = true
 ·rw [if_pos c,List.map_map]
  have:(t.map ((fun x=>x.1) ∘ fun p=>if p.1 = n then (p.1,v) else p)) = t.map (·.1):=by
   apply List.map_congr_left
   intro p _
   by_cases e:p.1 = n <;> simp [e]
  rw [this]; exact h
 ·rw [if_neg c,List.map_append]
  refine List.nodup_append.mpr ⟨h,by simp,fun x hx y hy=>?_⟩
  simp at hy
  subst hy
  rintro rfl
  obtain ⟨p,hp,e⟩:=List.mem_map.mp hx
  exact c (List.any_eq_true.mpr ⟨p,hp,by simp [e]⟩)
theorem Znl {t:List (Int × Int)} {n v:Int} (q:Int × Int):q ∈ ZeK t n v ↔ (q = (n,v)) ∨ (q.1 ≠ n ∧ q ∈ t):=by
 obtain ⟨a,b⟩:=q
 unfold ZeK
 by_cases c:(t.any fun p=>decide (p.1 = n)) = true
 ·rw [if_pos c,List.mem_map]
  constructor
  ·rintro ⟨p,hp,e⟩
   by_cases ep:p.1 = n
   ·rw [if_pos ep] at e
    left; rw [← e,ep]
   ·rw [if_neg ep] at e
    right; rw [← e]; exact ⟨ep,hp⟩
  ·rintro (e | ⟨h1,h2⟩)
   ·obtain ⟨p,hp,ep⟩:=List.any_eq_true.mp c
    have ep:p.1 = n:=by simpa using ep
    exact ⟨p,hp,by rw [if_pos ep,e,ep]⟩
   ·exact ⟨(a,b),h2,by rw [if_neg h1]⟩
 ·rw [if_neg c,List.mem_append,List.mem_singleton]
  constructor
  ·rintro (h | h)
   ·right
    refine ⟨fun z=>c (List.any_eq_true.mpr ⟨(a,b),h,by simpa using z⟩),h⟩
   ·left; exact h
  ·rintro (h | ⟨_,h⟩)
   ·right; exact h
   ·left; exact h
theorem Zdq {t:List (Int × Int)} (h:keysOk t) {k v:Int} (hm:(k,v) ∈ t):Zcn t k = v:=by
 induction t with
 | nil=>simp at hm
 | cons p t ih=>
  obtain ⟨a,b⟩:=p
  unfold keysOk at h
  simp only [List.map_cons,List.nodup_cons] at h
  rcases List.mem_cons.mp hm with e | e
  ·cases e; simp [Zcn]
  ·have:a ≠ k:=fun z=>h.1 (List.mem_map.mpr ⟨(k,v),e,z.symm⟩)
   simp only [Zcn,if_neg this]
   exact ih h.2 e
noncomputable def Zel (cs:List (Int × Int)):Prop:=cs.Pairwise fun a b=>a.1 < b.1
theorem Zel.keys {cs:List (Int × Int)} (h:Zel cs):keysOk cs:=by
 unfold keysOk Zel at *
 rw [List.Nodup,List.pairwise_map]
 exact h.imp fun h=>by omega
theorem ZjU:∀ {x y:List (Int × Int)},Zel x → Zel y → (∀ q,q ∈ x ↔ q ∈ y) → x = y
 | [],[],_,_,_=>rfl
 | [],b :: y,_,_,h=>by have:=(h b).mpr List.mem_cons_self; simp at this
 | a :: x,[],_,_,h=>by have:=(h a).mp List.mem_cons_self; simp at this
 | a :: x,b :: y,hx,hy,h=>by
  have hx':=List.pairwise_cons.mp hx
  have hy':=List.pairwise_cons.mp hy
  have e:a = b:=by
   rcases List.mem_cons.mp ((h a).mp List.mem_cons_self) with e | e
   ·exact e
   ·rcases List.mem_cons.mp ((h b).mpr List.mem_cons_self) with e' | e'
    ·exact e'.symm
    ·have h1:=hy'.1 a e
     have h2:=hx'.1 b e'
     omega
  subst e
  congr 1
  refine ZjU hx'.2 hy'.2 fun q=>?_
  constructor
  ·intro hq
   rcases List.mem_cons.mp ((h q).mp (List.mem_cons_of_mem _ hq)) with e | e
   ·subst e; have:=hx'.1 q hq; omega
   ·exact e
  ·intro hq
   rcases List.mem_cons.mp ((h q).mpr (List.mem_cons_of_mem _ hq)) with e | e
   ·subst e; have:=hy'.1 q hq; omega
   ·exact e
noncomputable def Zlf (p:Int × Int):List (Int × Int) → List (Int × Int)
 | []=>[p]
 | q :: r=>if p.1 < q.1 then p :: q :: r else q :: Zlf p r
theorem Zgl (p:Int × Int):∀ r,(Zlf p r).Perm (p :: r)
 | []=>.refl _
 | q :: r=>by
  unfold Zlf
  split
  ·exact .refl _
  ·exact ((Zgl p r).cons q).trans (.swap p q r)
theorem Ziv {p:Int × Int}:∀ {r:List (Int × Int)},Zel r → (∀ q ∈ r,q.1 ≠ p.1) → Zel (Zlf p r)
 | [],_,_=>by simp [Zlf,Zel]
 | q :: r,h,hn=>by
  have h':=List.pairwise_cons.mp h
  unfold Zlf
  split
  ·rename_i c
   refine List.pairwise_cons.mpr ⟨fun x hx=>?_,h⟩
   rcases List.mem_cons.mp hx with e | e
   ·subst e; exact c
   ·have:=h'.1 x e; omega
  ·rename_i c
   refine List.pairwise_cons.mpr ⟨fun x hx=>?_,Ziv h'.2 fun x hx=>hn x (List.mem_cons_of_mem _ hx)⟩
   rcases List.mem_cons.mp ((Zgl p r).mem_iff.mp hx) with e | e
   ·subst e; have:=hn q List.mem_cons_self; omega
   ·exact h'.1 x e
noncomputable def ZaU:List (Int × Int) → List (Int × Int)
 | []=>[]
 | p :: t=>if p.2 ≠ 0 then Zlf p (ZaU t) else ZaU t
theorem Zew:∀ t:List (Int × Int),(ZaU t).Perm (t.filter fun p=>decide (p.2 ≠ 0))
 | []=>.refl _
 | p :: t=>by
  unfold ZaU
  by_cases c:p.2 ≠ 0
  ·rw [if_pos c,List.filter_cons_of_pos (by simpa using c)]
   exact (Zgl p _).trans ((Zew t).cons p)
  ·rw [if_neg c,List.filter_cons_of_neg (by simpa using c)]
   exact Zew t
theorem Zde {t:List (Int × Int)} {q:Int × Int}:q ∈ ZaU t ↔ q ∈ t ∧ q.2 ≠ 0:=by
 rw [(Zew t).mem_iff,List.mem_filter]; simp
theorem Zdf:∀ {t:List (Int × Int)},keysOk t → Zel (ZaU t)
 | [],_=>by simp [ZaU,Zel]
 | p :: t,h=>by
  unfold keysOk at h
  simp only [List.map_cons,List.nodup_cons] at h
  unfold ZaU
  split
  ·refine Ziv (Zdf h.2) fun q hq=>?_
   intro e
   exact h.1 (List.mem_map.mpr ⟨q,(Zde.mp hq).1,e⟩)
  ·exact Zdf h.2
noncomputable def ZdA (cs:List (Int × Int)) (n v:Int):List (Int × Int):=cs.filter (fun c=>decide (c.1 < n)) ++ (if v ≠ 0 then [(n,v)] else []) ++ cs.filter (fun c=>decide (n < c.1))
theorem ZcF {cs:List (Int × Int)} {n v:Int} {q:Int × Int}:q ∈ ZdA cs n v ↔ (q = (n,v) ∧ v ≠ 0) ∨ (q.1 ≠ n ∧ q ∈ cs):=by
 unfold ZdA
 simp only [List.mem_append,List.mem_filter,decide_eq_true_eq]
 have hm:q ∈ (if v ≠ 0 then [(n,v)] else []) ↔ (q = (n,v) ∧ v ≠ 0):=by
  by_cases c:v ≠ 0
  ·rw [if_pos c]; simp [c]
  ·rw [if_neg c]; simp [c]
 rw [hm]
 constructor
 ·rintro ((⟨h1,h2⟩ | h) | ⟨h1,h2⟩)
  ·right; exact ⟨by omega,h1⟩
  ·left; exact h
  ·right; exact ⟨by omega,h1⟩
 ·rintro (h | ⟨h1,h2⟩)
  ·left; right; exact h
  ·rcases Int.lt_or_gt_of_ne h1 with c | c
   ·left; left; exact ⟨h2,c⟩
   ·right; exact ⟨h2,c⟩
theorem Zeu {cs:List (Int × Int)} {n v:Int} (h:Zel cs):Zel (ZdA cs n v):=by
 unfold ZdA Zel at *
 have hm:∀ q ∈ (if v ≠ 0 then [(n,v)] else []),q.1 = n:=fun q hq=>by
  by_cases c:v ≠ 0
  ·rw [if_pos c] at hq; simp at hq; rw [hq]
  ·rw [if_neg c] at hq; simp at hq
 refine List.pairwise_append.mpr ⟨List.pairwise_append.mpr ⟨h.filter _,?_,fun a ha b hb=>?_⟩,h.filter _,fun a ha b hb=>?_⟩
 ·by_cases c:v ≠ 0
  ·rw [if_pos c]; simp
  ·rw [if_neg c]; simp
 ·have h1:=(List.mem_filter.mp ha).2
  rw [hm b hb]; simpa using h1
 ·have h2:n < b.1:=by simpa using (List.mem_filter.mp hb).2
  rcases List.mem_append.mp ha with ha | ha
  ·have:a.1 < n:=by simpa using (List.mem_filter.mp ha).2
   omega
  ·rw [hm a ha]; exact h2
theorem ZlS {t:List (Int × Int)} (h:keysOk t) (n v:Int):ZaU (ZeK t n v) = ZdA (ZaU t) n v:=by
 refine ZjU (Zdf (Zfg n v h)) (Zeu (Zdf h)) fun q=>?_
 rw [Zde,ZcF,Znl,Zde]
 constructor
 ·rintro ⟨h1 | ⟨h1,h2⟩,h3⟩
  ·left; refine ⟨h1,?_⟩; rw [h1] at h3; exact h3
  ·right; exact ⟨h1,h2,h3⟩
 ·rintro (⟨h1,h2⟩ | ⟨h1,h2,h3⟩)
  ·exact ⟨.inl h1,by rw [h1]; exact h2⟩
  ·exact ⟨.inr ⟨h1,h2⟩,h3⟩
theorem Zmm {t:List (Int × Int)} (h:keysOk t) (n:Int):Zcn (ZaU t) n = Zcn t n:=by
 by_cases c:(t.any fun p=>decide (p.1 = n)) = true
 ·obtain ⟨p,hp,e⟩:=List.any_eq_true.mp c
  have e:p.1 = n:=by simpa using e
  obtain ⟨a,b⟩:=p
  simp only at e
  subst e
  rw [Zdq h hp]
  by_cases z:b = 0
  ·subst z
   rw [Zdd]
   intro q
   obtain ⟨p',hp',e'⟩:=List.any_eq_true.mp q
   have e':p'.1 = a:=by simpa using e'
   obtain ⟨a',b'⟩:=p'
   simp only at e'
   subst e'
   have h1:=(Zde.mp hp').1
   have h2:=(Zde.mp hp').2
   have:=Zdq h h1
   rw [Zdq h hp] at this
   exact h2 this.symm
  ·exact Zdq (Zdf h).keys (Zde.mpr ⟨hp,z⟩)
 ·rw [Zdd c,Zdd]
  intro q
  obtain ⟨p',hp',e'⟩:=List.any_eq_true.mp q
  exact c (List.any_eq_true.mpr ⟨p',(Zde.mp hp').1,e'⟩)
noncomputable def Row.place (bs:List Int) (p:Nat):Row → Nat
 | .jump k=>k
 | .when a k=>if 0 < bs.getD a 0 then k else p + 1
 | _=>p + 1
noncomputable def Row.boxes (bs:List Int) (cs:List (Int × Int)):Row → List Int
 | .put a n=>bs.set a n
 | .add a b c=>bs.set a (bs.getD b 0 + bs.getD c 0)
 | .sub a b c=>bs.set a (bs.getD b 0 - bs.getD c 0)
 | .more a b c=>bs.set a (if bs.getD c 0 < bs.getD b 0 then 1 else 0)
 | .get a b=>bs.set a (Zcn cs (bs.getD b 0))
 | _=>bs
noncomputable def Row.cells (bs:List Int) (cs:List (Int × Int)):Row → List (Int × Int)
 | .set a b=>ZdA cs (bs.getD a 0) (bs.getD b 0)
 | _=>cs
noncomputable def Zfq (s:Stt) (r:Row):Option Stt:=if r.isHalt then none else some ⟨r.place s.boxes s.place,r.boxes s.boxes s.cells,r.cells s.boxes s.cells⟩
noncomputable def Zcs (roll:ZaK) (s:Stt):Option Stt:=(roll[s.place]?).bind (Zfq s)
noncomputable def ZtE:Option Stt → D
 | none=>.non
 | some s=>Zaf s
theorem ZkT (cs:List (Int × Int)):Zdc (cs.map ZaL) = some (Za4 cs):=by
 induction cs with
 | nil=>rfl
 | cons p cs ih=>simp only [List.map_cons,ZaL,Zdc,ZeU,ih,Option.map_some,Za4]
theorem Zjn (kvs:List (Zbc × D)) (k j:Zbc) (v:D):Zcq (putD k v kvs) j = if j = k then some v else Zcq kvs j:=by
 have mp:∀ l:List (Zbc × D),Zcq (l.map fun p=>if p.1 = k then (p.1,v) else p) j = if j = k then (if l.any (fun p=>decide (p.1 = k)) then some v else none) else Zcq l j:=by
  intro l
  induction l with
  | nil=>simp [Zcq]
  | cons p l ih=>
   obtain ⟨a,b⟩:=p
   rw [List.map_cons]
   by_cases e:a = k
   ·subst e
    simp only [if_true,Zcq]
    by_cases ej:a = j
    ·subst ej; simp
    ·rw [if_neg ej,ih,if_neg (Ne.symm ej),if_neg (Ne.symm ej),if_neg ej]
   ·simp only [if_neg e,Zcq]
    by_cases ej:a = j
    ·subst ej; simp [e]
    ·rw [if_neg ej,ih,if_neg ej]; simp only [List.any_cons,decide_eq_false e,Bool.false_or]
 have ap:∀ l:List (Zbc × D),¬ l.any (fun p=>decide (p.1 = k)) = true → Zcq (l ++ [(k,v)]) j = if j = k then some v else Zcq l j:=by
  intro l
  induction l with
  | nil=>intro _; simp only [List.nil_append,Zcq]; by_cases e:k = j <;> simp [e,Ne.symm,eq_comm]
  | cons p l ih=>
   intro h
   obtain ⟨a,b⟩:=p
   simp only [List.any_cons,Bool.or_eq_true,decide_eq_true_eq,not_or] at h
   simp only [List.cons_append,Zcq]
   by_cases ej:a = j
   ·subst ej; rw [if_pos rfl,if_neg h.1,if_pos rfl]
   ·rw [if_neg ej,if_neg ej]; exact ih (by simpa using h.2)
 unfold putD
 by_cases c:(kvs.any fun p=>decide (p.1 = k)) = true
 ·rw [if_pos c,mp,c]; simp
 ·rw [if_neg c]; exact ap kvs c
theorem Ziw:∀ (l acc:List (Zbc × D)) (j:Zbc),(l.map (·.1)).Nodup → Zcq (l.foldl (fun a p=>putD p.1 p.2 a) acc) j = (match Zcq l j with | some v=>some v | none=>Zcq acc j)
 | [],acc,j,_=>rfl
 | p :: l,acc,j,h=>by
  obtain ⟨k,v⟩:=p
  simp only [List.map_cons,List.nodup_cons] at h
  rw [List.foldl_cons,Ziw l _ j h.2,Zjn]
  simp only [Zcq]
  by_cases e:k = j
  ·subst e
   have:Zcq l k = none:=by
    have hn:=h.1
    clear h
    induction l with
    | nil=>rfl
    | cons q l ih=>
     simp only [List.map_cons,List.mem_cons,not_or] at hn
     simp only [Zcq]
     rw [if_neg (Ne.symm hn.1)]; exact ih hn.2
   rw [this]; simp
  ·rw [if_neg e,if_neg (Ne.symm e)]
theorem ZlY {t:List (Int × Int)} (h:keysOk t):((Za4 t).map (·.1)).Nodup:=by
 unfold keysOk at h
 simp only [Za4,List.map_map]
 rw [List.Nodup,List.pairwise_map] at *
 exact h.imp fun h e=>h (by simpa using e)
theorem Zmd {t:List (Int × Int)} (h:keysOk t) (n:Int):(Zcq (dictOf (Za4 t)) (.inl n)).getD (.int 0) = .int (Zcn t n):=by
 unfold dictOf
 rw [Ziw _ _ _ (ZlY h),← ZfJ]
 cases Zcq (Za4 t) (.inl n) <;> rfl
theorem ZfQ {α:Type} {enc h:α → D} {p:α → Bool} {it:It3} {i n:Nat} {c elt:E3} {env0:ZaE}:∀ (as:List α) (acc:List D) (env:ZaE) (M:Store),(∀ d,env.set i (some d) = env0.set i (some d)) →
  (∀ a ∈ as,∀ x,c (env0.set i (some (enc a))) (M.set n (.lst x)) = .ok (.bl (p a)) (M.set n (.lst x))) → (∀ a ∈ as,p a = true → ∀ x,elt (env0.set i (some (enc a))) (M.set n (.lst x)) = .ok (h a) (M.set n (.lst x))) →
  (∀ x,locked it (M.set n (.lst x)) = true) → M[n]? = some (.lst acc) → acc.length + as.length ≤ SZ →
  Zc4 it (Zcw i) [c] elt n (as.map enc) env M = .ok (.ref n) (M.set n (.lst (acc ++ (as.filter p).map h))):=by
 intro as
 induction as with
 | nil=>
  intro acc env M _ _ _ hl hM _
  have e:M.set n (.lst acc) = M:=by
   apply List.ext_getElem?
   intro j
   by_cases hj:j = n
   ·subst hj; rw [List.getElem?_set_self (List.getElem?_eq_some_iff.mp hM).1,hM]
   ·rw [List.getElem?_set_ne (Ne.symm hj)]
  have hl':=hl acc
  rw [e] at hl'
  simp only [List.map_nil,Zc4,hl',if_true,List.filter_nil,List.append_nil,e]
 | cons a as ih=>
  intro acc env M he hc hf hl hM hz
  have hn:n < M.length:=(List.getElem?_eq_some_iff.mp hM).1
  have e:M.set n (.lst acc) = M:=by
   apply List.ext_getElem?
   intro j
   by_cases hj:j = n
   ·subst hj; rw [List.getElem?_set_self hn,hM]
   ·rw [List.getElem?_set_ne (Ne.symm hj)]
  have hl':=hl acc
  rw [e] at hl'
  have hc':=hc a List.mem_cons_self acc
  rw [e] at hc'
  rw [List.map_cons]
  cases hp:p a with
  | false=>
   rw [hp] at hc'
   simp only [Zc4,hl',if_true,Zcw,he (enc a),ZeB,hc',R3.bind,Bool.false_eq_true,if_false]
   rw [ih acc (env0.set i (some (enc a))) M (fun d'=>by rw [List.set_set]) (fun b hb x=>hc b (List.mem_cons_of_mem _ hb) x) (fun b hb=>hf b (List.mem_cons_of_mem _ hb)) hl hM (by simp at hz ⊢; omega),List.filter_cons_of_neg (by simp [hp])]
  | true=>
   rw [hp] at hc'
   have hf':=hf a List.mem_cons_self hp acc
   rw [e] at hf'
   have hz':acc.length < SZ:=by simp at hz ⊢; omega
   simp only [Zc4,hl',if_true,Zcw,he (enc a),ZeB,hc',R3.bind,hf',hM,hz']
   rw [ih (acc ++ [h a]) (env0.set i (some (enc a))) (M.set n (.lst (acc ++ [h a]))) (fun d'=>by rw [List.set_set]) (fun b hb x=>by rw [List.set_set]; exact hc b (List.mem_cons_of_mem _ hb) x) (fun b hb hpb x=>by rw [List.set_set]; exact hf b (List.mem_cons_of_mem _ hb) hpb x) (fun x=>by rw [List.set_set]; exact hl x) (by rw [List.getElem?_set_self hn]) (by simp at hz ⊢; omega),List.filter_cons_of_pos hp,List.set_set]
   simp
theorem Zl2 {α:Type} {enc h:α → D} {p:α → Bool} {own:Nat} {i:Nat} {it:I3} {c elt:E3} {env:ZaE} {M M1:Store} {lock:Option Nat} {as:List α} (hi:it env M = .ok ⟨as.map enc,lock⟩ M1) (hlock:∀ n,lock = some n → M1[n]? = some (.lst (as.map enc)))
  (hc:∀ a ∈ as,∀ M,c ((env ++ List.replicate own none).set i (some (enc a))) M = .ok (.bl (p a)) M) (he:∀ a ∈ as,p a = true → ∀ M,elt ((env ++ List.replicate own none).set i (some (enc a))) M = .ok (h a) M) (hz:as.length ≤ 100000):
  eLC it own (Zcw i) [c] elt env M = .ok (.ref M1.length) (M1 ++ [.lst ((as.filter p).map h)]):=by
 rw [ZkE hi]
 have:=ZfQ (it:=⟨as.map enc,lock⟩) (i:=i) (n:=M1.length) (c:=c) (elt:=elt) (env0:=env ++ List.replicate own none) as [] (env ++ List.replicate own none) (M1 ++ [.lst []]) (fun _=>rfl) (fun a ha x=>hc a ha _) (fun a ha hp x=>he a ha hp _)
  (fun x=>by
   cases lock with
   | none=>rfl
   | some n=>
    have hn:=hlock n rfl
    have hlt:=(List.getElem?_eq_some_iff.mp hn).1
    simp only [locked,decide_eq_true_eq]
    rw [List.getElem?_set_ne (by omega),List.getElem?_append_left hlt,hn]) (by simp) (by simp; omega)
 refine this.trans ?_
 simp
theorem ZkZ {x y:List (Int × Int)} (hp:y.Perm x) (hr:Zel y):Zhf (x.map ZaL) (y.map ZaL):=by
 refine ⟨hp.map _,?_⟩
 rw [List.pairwise_map]
 refine hr.imp fun {a b} h=>?_
 show (if b.1 = a.1 then _ else _) = _
 rw [if_neg (by omega),decide_eq_false (by omega)]
end L3
namespace L3
theorem Zkv {cs:List (Int × Int)} (h:Zel cs) (n v:Int):(ZdA cs n v).length ≤ cs.length + 1:=by
 unfold ZdA
 have f:(cs.filter (fun c=>decide (c.1 < n))).length + (cs.filter (fun c=>decide (n < c.1))).length ≤ cs.length:=by
  clear h
  induction cs with
  | nil=>simp
  | cons c cs ih=>
   simp only [List.filter_cons]
   by_cases h1:c.1 < n
   ·have h2:¬ n < c.1:=by omega
    simp only [h1,h2,decide_true,decide_false,if_true,Bool.false_eq_true,if_false,List.length_cons]; omega
   ·by_cases h2:n < c.1
    ·simp only [h1,h2,decide_true,decide_false,if_true,Bool.false_eq_true,if_false,List.length_cons]; omega
    ·simp only [h1,h2,decide_false,Bool.false_eq_true,if_false,List.length_cons]; omega
 rw [List.length_append,List.length_append]
 split <;> simp only [List.length_cons,List.length_nil] <;> omega
end L3
namespace L3
noncomputable def ZcO (roll:ZaK):Nat → Stt → List Stt
 | 0,s=>[s]
 | k + 1,s=>match Zcs roll s with
  | none=>[s]
  | some s'=>s :: ZcO roll k s'
theorem Zmn {roll:ZaK} {s s':Stt} (k:Nat) (h:Zcs roll s = some s'):ZcO roll (k + 1) s = s :: ZcO roll k s':=by
 show (match Zcs roll s with | none=>[s] | some s'=>s :: ZcO roll k s') = _
 rw [h]
theorem Zmh {roll:ZaK} {s:Stt} (k:Nat) (h:Zcs roll s = none):ZcO roll (k + 1) s = [s]:=by
 show (match Zcs roll s with | none=>[s] | some s'=>s :: ZcO roll k s') = _
 rw [h]
structure Good (roll:ZaK) (s:Stt):Prop where
 pl:s.place < roll.length
 bx:s.boxes.length = 8
 rs:Zel s.cells
theorem ZlZ (r:Row) (bs:List Int) (cs:List (Int × Int)):(r.boxes bs cs).length = bs.length:=by cases r <;> simp [Row.boxes]
theorem Zgg {roll:ZaK} (R:Za0 roll) {s s':Stt} (g:Good roll s) (h:Zcs roll s = some s'):Good roll s' ∧ s'.cells.length ≤ s.cells.length + 1:=by
 obtain ⟨hp,hb,hc⟩:=g
 have hr:roll[s.place]? = some roll[s.place]:=by simp [hp]
 have ro:=R.rows _ (List.getElem_mem hp)
 unfold Zcs at h
 rw [hr] at h
 have h':Zfq s roll[s.place] = some s':=h
 unfold Zfq at h'
 split at h'
 ·cases h'
 ·rename_i nh
  cases h'
  have nl:roll[s.place] ≠ .halt → (∀ k,roll[s.place] ≠ .jump k) → s.place + 1 < roll.length:=fun n1 n2=>by
   obtain ⟨q,x,e,hx⟩:=R.last
   have hl:roll.length = q.length + 1:=by rw [e]; simp
   by_cases c:s.place = q.length
   ·have:roll[s.place] = x:=by
     have:=hr
     simp only [e,c] at this
     simp at this
     simp [c,e]
    rw [this] at n1 n2
    rcases hx with hx | ⟨k,hx⟩
    ·exact absurd hx n1
    ·exact absurd hx (n2 k)
   ·omega
  have nh':roll[s.place] ≠ .halt:=fun z=>by rw [z] at nh; simp at nh
  refine ⟨⟨?_,by rw [ZlZ]; exact hb,?_⟩,?_⟩
  ·generalize roll[s.place] = r at ro nl nh'
   cases r with
   | jump k=>exact ro
   | when a k=>
    show (if 0 < s.boxes.getD a 0 then k else s.place + 1) < _
    split
    ·exact ro.2
    ·exact nl nh' (fun _ z=>by cases z)
   | halt=>exact absurd rfl nh'
   | _=>exact nl nh' (fun _ z=>by cases z)
  ·generalize roll[s.place] = r
   cases r with
   | set a b=>exact Zeu hc
   | _=>exact hc
  ·generalize roll[s.place] = r
   cases r with
   | set a b=>exact Zkv hc _ _
   | _=>exact Nat.le_succ _
theorem Zkk (roll:ZaK):∀ k s,(ZcO roll k s).length ≤ k + 1
 | 0,s=>by simp [ZcO]
 | k + 1,s=>by
  unfold ZcO
  split
  ·simp
  ·have:=Zkk roll k ‹_›; simp; omega
theorem ZoO (roll:ZaK) (k:Nat) (s:Stt):ZcO roll k s ≠ []:=by
 cases k with
 | zero=>simp [ZcO]
 | succ k=>unfold ZcO; split <;> simp
theorem Zh7 {roll:ZaK} (R:Za0 roll):∀ k s,Good roll s → ∀ x ∈ ZcO roll k s,Good roll x
 | 0,s,g,x,hx=>by simp [ZcO] at hx; subst hx; exact g
 | k + 1,s,g,x,hx=>by
  unfold ZcO at hx
  split at hx
  ·simp at hx; subst hx; exact g
  ·rename_i s' h
   rcases List.mem_cons.mp hx with e | e
   ·subst e; exact g
   ·exact Zh7 R k s' (Zgg R g h).1 x e
end L3
namespace L3
noncomputable def ZnX (i:Int):List Nat:=(PySem.Str.ofString (toString i)).cps.toList
noncomputable section
local instance (priority:=100000) clQ1 (p:Prop):Decidable p:=Classical.propDecidable p
@[simp] noncomputable def Zt0 (ds:List D) (M:Store):R3 D:=match ds with
 | [.int i]=>if i.natAbs.log2 < 1920 then .ok (.str (ZnX i)) M else .bad
 | [.str x]=>.ok (.str x) M
 | _=>.bad
noncomputable def Zri:List D → Option (List (List Nat))
 | []=>some []
 | .str x :: ds=>(Zri ds).map (x :: ·)
 | _=>none
@[simp] noncomputable def Zis (ds:List D) (M:Store):R3 D:=match ds with
 | [.str x]=>match PySem.intText? ⟨x.toArray⟩ with
  | some n=>if x.length ≤ 640 then .ok (.int n) M else .bad
  | none=>.bad
 | ds=>Zr8 ds M
end
end L3
namespace L3
noncomputable section
noncomputable def ZkB (f:E3) (g:G3):S3:=fun env M=>match f env M with
 | .ok d M1=>match g d env with
  | some env1=>.nx env1 M1
  | none=>.bad
 | .exc x M1=>.exc x M1
 | .bad=>.bad
structure ItL where
 items:List D
 lk:List (Nat × List D)
noncomputable def ZdI (lk:List (Nat × List D)) (M:Store):Bool:=lk.all fun q=>decide (M[q.1]? = some (.lst q.2))
noncomputable def ZeE (lk:List (Nat × List D)) (g:G3) (body:S3):List D → ZaE → Store → O3
 | [],env,M=>if ZdI lk M then .nx env M else .bad
 | d :: ds,env,M=>if ZdI lk M then match g d env with
  | none=>.bad
  | some env1=>match body env1 M with
   | .nx e M'=>ZeE lk g body ds e M'
   | .ct e M'=>ZeE lk g body ds e M'
   | .bk e M'=>.nx e M'
   | o=>o
  else .bad
noncomputable abbrev IL3:=ZaE → Store → R3 ItL
noncomputable def Zh8 (i:IL3) (g:G3) (body:S3):S3:=fun env M=>match i env M with
 | .ok it M1=>ZeE it.lk g body it.items env M1
 | .exc x M1=>.exc x M1
 | .bad=>.bad
noncomputable def Zd1:Nat → List D → List D
 | _,[]=>[]
 | k,d :: ds=>.tup [.int k,d] :: Zd1 (k + 1) ds
@[simp] noncomputable def Zjm (f:E3):IL3:=fun env M=>(f env M).bind fun a M1=>match a with
 | .tup ds=>.ok ⟨Zd1 0 ds,[]⟩ M1
 | .ref n=>match M1[n]? with
  | some (.lst ds)=>.ok ⟨Zd1 0 ds,[(n,ds)]⟩ M1
  | _=>.bad
 | _=>.bad
@[simp] noncomputable def Zlt (a b:D) (M:Store):R3 D:=match a,b with
 | .tup [.int i,.int j],.tup [.int k,.int l]=>.ok (.bl (decide (i < k) || (decide (i = k) && decide (j ≤ l)))) M
 | _,_=>.bad
theorem Zgn:∀ (k:Nat) (ds:List D) (i:Nat),(Zd1 k ds)[i]? = (ds[i]?).map fun d=>.tup [.int ((k + i:Nat):Int),d]
 | _,[],_=>by simp [Zd1]
 | k,d :: ds,0=>by simp [Zd1]
 | k,d :: ds,i + 1=>by
  simp only [Zd1,List.getElem?_cons_succ,Zgn (k + 1) ds i]
  rw [show k + 1 + i = k + (i + 1) by omega]
theorem Zgp:∀ (k:Nat) (ds:List D),(Zd1 k ds).length = ds.length
 | _,[]=>rfl
 | k,d :: ds=>by simp [Zd1,Zgp (k + 1) ds]
end
end L3
namespace L3
noncomputable section
section
local instance (priority:=100000) clZ1 (p:Prop):Decidable p:=Classical.propDecidable p
end
section
local instance (priority:=100000) clZ2 (p:Prop):Decidable p:=Classical.propDecidable p
end
end
end L3
namespace L3
noncomputable section
structure ZiH (x:List D):Prop where
 len:x.length ≤ 99999
 kind:x.all Zdj = true ∨ x.all ZfF = true
 cmp:∀ a ∈ x,∀ b ∈ x,(ltD a b).isSome = true
section
local instance (priority:=100000) clPg (p:Prop):Decidable p:=Classical.propDecidable p
@[simp] noncomputable def Zbh (ds:List D) (M:Store):R3 D:=match ds with
 | [.ref n]=>match M[n]? with
  | some (.lst x)=>if ZiH x then alloc (.lst (Zjw x)) M else .bad
  | _=>.bad
 | _=>.bad
end
end
theorem ZhP {x:List (Int × Int)} (h:x.length ≤ 99999):ZiH (x.map ZaL):=by
 refine ⟨by simpa using h,.inl (by simp [ZaL,Zdj]),fun a ha b hb=>?_⟩
 obtain ⟨p,_,rfl⟩:=List.mem_map.mp ha
 obtain ⟨q,_,rfl⟩:=List.mem_map.mp hb
 simp only [ltD,ZaL,ltT]
 split
 ·split
  ·rfl
  ·rfl
 ·rfl
end L3
namespace L3
open PySem PySem.Spec PyProof.Rows L2
noncomputable abbrev St:=L2.St
theorem Zcg:SZ ≤ sizeLine:=by rw [sizeLine_eq]; decide
noncomputable def SqF (K:PySem.W.Frag) (H:Hp) (a:Addr) (xs:List V):Prop:=
 (∃ o,H a = some (.frz o (.lst xs))) ∨
  ∃ (o:Obj) (its:Array Value) (n:Nat),K.lookup a = some o ∧ o.cls = .type "list" ∧ o.dict = none ∧ o.data = .seq its n ∧ its.size ≤ sizeLine ∧ Vals xs its.toList
theorem SqF.sq {K:PySem.W.Frag} {H:Hp} {a:Addr} {xs:List V} (h:SqF K H a xs):SqL K H a xs:=by
 rcases h with ⟨o,h⟩ | h
 ·exact .inl (.inr ⟨o,h⟩)
 ·exact .inr h
mutual
noncomputable def Rep (K:PySem.W.Frag) (H:Hp) (ι:List Addr):D → V → Prop
 | .non,v=>v = .non
 | .bl b,v=>v = .bl b
 | .int i,v=>v = .int i
 | .str x,v=>v = .str ⟨x.toArray⟩
 | .tup ds,v=>∃ a vs,v = .ref a ∧ SqT K H a vs ∧ Zab K H ι ds vs
 | .scr ds,v=>∃ a vs,v = .ref a ∧ SqF K H a vs ∧ Zab K H ι ds vs
 | .ref n,v=>∃ a,ι[n]? = some a ∧ v = .ref a
noncomputable def Zab (K:PySem.W.Frag) (H:Hp) (ι:List Addr):List D → List V → Prop
 | [],vs=>vs = []
 | d :: ds,vs=>∃ v ws,vs = v :: ws ∧ Rep K H ι d v ∧ Zab K H ι ds ws
end
structure Ext (K:PySem.W.Frag) (H:Hp) (ι:List Addr) (H':Hp) (ι':List Addr):Prop where
 tup:∀ a xs,SqT K H a xs → SqT K H' a xs
 scr:∀ a xs,SqF K H a xs → SqF K H' a xs
 pre:∀ (n:Nat) (a:Addr),ι[n]? = some a → ι'[n]? = some a
 frz:∀ a o u,H a = some (.frz o u) → H' a = some (.frz o u)
section
variable {K:PySem.W.Frag} {H H' H1 H2:Hp} {ι ι' ι1 ι2:List Addr}
theorem Ext.refl:Ext K H ι H ι:=⟨fun _ _ h=>h,fun _ _ h=>h,fun _ _ h=>h,fun _ _ _ h=>h⟩
theorem Ext.trans (a:Ext K H ι H1 ι1) (b:Ext K H1 ι1 H2 ι2):Ext K H ι H2 ι2:=
 ⟨fun x xs h=>b.tup x xs (a.tup x xs h),fun x xs h=>b.scr x xs (a.scr x xs h),fun n x h=>b.pre n x (a.pre n x h),fun x o u h=>b.frz x o u (a.frz x o u h)⟩
mutual
theorem Rep.mono (e:Ext K H ι H' ι'):∀ {d:D} {v:V},Rep K H ι d v → Rep K H' ι' d v
 | .non,_,h=>by simpa [Rep] using h
 | .bl _,_,h=>by simpa [Rep] using h
 | .int _,_,h=>by simpa [Rep] using h
 | .str _,_,h=>by simpa [Rep] using h
 | .tup ds,_,h=>by
  simp only [Rep] at h ⊢
  obtain ⟨a,vs,rfl,s,r⟩:=h
  exact ⟨a,vs,rfl,e.tup _ _ s,Zab.mono e (ds:=ds) r⟩
 | .scr ds,_,h=>by
  simp only [Rep] at h ⊢
  obtain ⟨a,vs,rfl,s,r⟩:=h
  exact ⟨a,vs,rfl,e.scr _ _ s,Zab.mono e (ds:=ds) r⟩
 | .ref n,_,h=>by
  simp only [Rep] at h ⊢
  obtain ⟨a,s,rfl⟩:=h
  exact ⟨a,e.pre _ _ s,rfl⟩
theorem Zab.mono (e:Ext K H ι H' ι'):∀ {ds:List D} {vs:List V},Zab K H ι ds vs → Zab K H' ι' ds vs
 | [],_,h=>by simpa [Zab] using h
 | d :: ds,_,h=>by
  simp only [Zab] at h ⊢
  obtain ⟨v,ws,rfl,r,q⟩:=h
  exact ⟨v,ws,rfl,Rep.mono e (d:=d) r,Zab.mono e (ds:=ds) q⟩
end
mutual
theorem Rep.keep (ht:∀ a xs,SqT K H a xs → SqT K H' a xs) (hs:∀ a xs,SqF K H a xs → SqF K H' a xs):∀ {d:D} {v:V},Rep K H ι d v → Rep K H' ι d v
 | .non,_,h=>by simpa [Rep] using h
 | .bl _,_,h=>by simpa [Rep] using h
 | .int _,_,h=>by simpa [Rep] using h
 | .str _,_,h=>by simpa [Rep] using h
 | .tup ds,_,h=>by
  simp only [Rep] at h ⊢
  obtain ⟨a,vs,rfl,s,r⟩:=h
  exact ⟨a,vs,rfl,ht _ _ s,Zab.keep ht hs (ds:=ds) r⟩
 | .scr ds,_,h=>by
  simp only [Rep] at h ⊢
  obtain ⟨a,vs,rfl,s,r⟩:=h
  exact ⟨a,vs,rfl,hs _ _ s,Zab.keep ht hs (ds:=ds) r⟩
 | .ref n,_,h=>by simpa [Rep] using h
theorem Zab.keep (ht:∀ a xs,SqT K H a xs → SqT K H' a xs) (hs:∀ a xs,SqF K H a xs → SqF K H' a xs):∀ {ds:List D} {vs:List V},Zab K H ι ds vs → Zab K H' ι ds vs
 | [],_,h=>by simpa [Zab] using h
 | d :: ds,_,h=>by
  simp only [Zab] at h ⊢
  obtain ⟨v,ws,rfl,r,q⟩:=h
  exact ⟨v,ws,rfl,Rep.keep ht hs (d:=d) r,Zab.keep ht hs (ds:=ds) q⟩
end
theorem Zab.nil:Zab K H ι [] []:=by simp [Zab]
theorem Zab.cons {d:D} {ds:List D} {v:V} {vs:List V} (h:Rep K H ι d v) (t:Zab K H ι ds vs):Zab K H ι (d :: ds) (v :: vs):=by
 simp only [Zab]
 exact ⟨v,vs,rfl,h,t⟩
theorem Zab.nil_inv {vs:List V} (h:Zab K H ι [] vs):vs = []:=by simpa [Zab] using h
theorem Zab.cons_inv {d:D} {ds:List D} {vs:List V} (h:Zab K H ι (d :: ds) vs):∃ v ws,vs = v :: ws ∧ Rep K H ι d v ∧ Zab K H ι ds ws:=by simpa [Zab] using h
theorem Zab.length:∀ {ds:List D} {vs:List V},Zab K H ι ds vs → vs.length = ds.length
 | [],_,h=>by rw [h.nil_inv]; rfl
 | d :: ds,_,h=>by
  obtain ⟨v,ws,rfl,_,q⟩:=h.cons_inv
  simp [q.length]
theorem Zab.append:∀ {ds es:List D} {vs ws:List V},Zab K H ι ds vs → Zab K H ι es ws → Zab K H ι (ds ++ es) (vs ++ ws)
 | [],_,_,_,h,q=>by rw [h.nil_inv]; exact q
 | d :: ds,_,_,_,h,q=>by
  obtain ⟨v,us,rfl,r,t⟩:=h.cons_inv
  exact Zab.cons r (t.append q)
theorem Zab.drop:∀ {ds:List D} {vs:List V} (n:Nat),Zab K H ι ds vs → Zab K H ι (ds.drop n) (vs.drop n)
 | _,_,0,h=>h
 | [],_,n + 1,h=>by rw [h.nil_inv]; exact Zab.nil
 | d :: ds,_,n + 1,h=>by
  obtain ⟨v,us,rfl,r,t⟩:=h.cons_inv
  exact t.drop n
theorem Zab.take:∀ {ds:List D} {vs:List V} (n:Nat),Zab K H ι ds vs → Zab K H ι (ds.take n) (vs.take n)
 | _,_,0,h=>Zab.nil
 | [],_,n + 1,h=>by rw [h.nil_inv]; exact Zab.nil
 | d :: ds,_,n + 1,h=>by
  obtain ⟨v,us,rfl,r,t⟩:=h.cons_inv
  exact Zab.cons r (t.take n)
theorem Zab.get:∀ {ds:List D} {vs:List V} {i:Nat} {d:D},Zab K H ι ds vs → ds[i]? = some d → ∃ v,vs[i]? = some v ∧ Rep K H ι d v
 | [],_,_,_,_,e=>by simp at e
 | d :: ds,_,0,_,h,e=>by
  obtain ⟨v,us,rfl,r,t⟩:=h.cons_inv
  simp at e; subst e
  exact ⟨v,rfl,r⟩
 | d :: ds,_,i + 1,_,h,e=>by
  obtain ⟨v,us,rfl,r,t⟩:=h.cons_inv
  obtain ⟨w,q,z⟩:=t.get (i:=i) (by simpa using e)
  exact ⟨w,by simpa using q,z⟩
theorem Zab.set:∀ {ds:List D} {vs:List V} {d:D} {v:V} (i:Nat),Zab K H ι ds vs → Rep K H ι d v → Zab K H ι (ds.set i d) (vs.set i v)
 | [],_,_,_,_,h,_=>by rw [h.nil_inv]; exact Zab.nil
 | d :: ds,_,_,_,0,h,q=>by
  obtain ⟨v,us,rfl,r,t⟩:=h.cons_inv
  exact Zab.cons q t
 | d :: ds,_,_,_,i + 1,h,q=>by
  obtain ⟨v,us,rfl,r,t⟩:=h.cons_inv
  exact Zab.cons r (t.set i q)
theorem Zab.ints:∀ (ns:List Int),Zab K H ι (ns.map D.int) (ns.map V.int)
 | []=>Zab.nil
 | n :: ns=>Zab.cons (by simp [Rep]) (Zab.ints ns)
theorem Rep.non_inv {v:V} (h:Rep K H ι .non v):v = .non:=by simpa [Rep] using h
theorem Rep.bl_inv {v:V} {b:Bool} (h:Rep K H ι (.bl b) v):v = .bl b:=by simpa [Rep] using h
theorem Rep.int_inv {v:V} {i:Int} (h:Rep K H ι (.int i) v):v = .int i:=by simpa [Rep] using h
theorem Rep.str_inv {v:V} {x:List Nat} (h:Rep K H ι (.str x) v):v = .str ⟨x.toArray⟩:=by simpa [Rep] using h
theorem Rep.tup_inv {v:V} {ds:List D} (h:Rep K H ι (.tup ds) v):∃ a vs,v = .ref a ∧ SqT K H a vs ∧ Zab K H ι ds vs:=by simpa [Rep] using h
theorem Rep.scr_inv {v:V} {ds:List D} (h:Rep K H ι (.scr ds) v):∃ a vs,v = .ref a ∧ SqF K H a vs ∧ Zab K H ι ds vs:=by simpa [Rep] using h
theorem Rep.ref_inv {v:V} {n:Nat} (h:Rep K H ι (.ref n) v):∃ a,ι[n]? = some a ∧ v = .ref a:=by simpa [Rep] using h
theorem Rep.non:Rep K H ι .non .non:=by simp [Rep]
theorem Rep.bl {b:Bool}:Rep K H ι (.bl b) (.bl b):=by simp [Rep]
theorem Rep.int {i:Int}:Rep K H ι (.int i) (.int i):=by simp [Rep]
theorem Rep.str {x:List Nat}:Rep K H ι (.str x) (.str ⟨x.toArray⟩):=by simp [Rep]
theorem Rep.tup {a:Addr} {vs:List V} {ds:List D} (s:SqT K H a vs) (r:Zab K H ι ds vs):Rep K H ι (.tup ds) (.ref a):=by
 simp only [Rep]; exact ⟨a,vs,rfl,s,r⟩
theorem Rep.ref {a:Addr} {n:Nat} (s:ι[n]? = some a):Rep K H ι (.ref n) (.ref a):=by
 simp only [Rep]; exact ⟨a,s,rfl⟩
end
noncomputable def dk:Zbc → Key
 | .inl i=>.inl i
 | .inr x=>.inr ⟨x.toArray⟩
noncomputable def KvR (K:PySem.W.Frag) (H:Hp) (ι:List Addr) (kvs:List (Zbc × D)) (ws:List (Key × V)):Prop:=
 ws.map (·.1) = kvs.map (fun p=>dk p.1) ∧ Zab K H ι (kvs.map (·.2)) (ws.map (·.2))
noncomputable def Zfm (K:PySem.W.Frag) (H:Hp) (ι:List Addr):MO → Addr → Prop
 | .lst xs,a=>∃ vs,H a = some (.lst vs) ∧ Zab K H ι xs vs
 | .dct kvs,a=>∃ ws,H a = some (.dK ws) ∧ KvR K H ι kvs ws
 | .fdct kvs,a=>∃ ws,(∃ o,H a = some (.frz o (.dK ws))) ∧ KvR K H ι kvs ws
structure Zav (K:PySem.W.Frag) (H:Hp) (ι:List Addr) (M:Store):Prop where
 len:ι.length = M.length
 nd:ι.Nodup
 obj:∀ (n:Nat) o a,M[n]? = some o → ι[n]? = some a → Zfm K H ι o a
noncomputable def Loose (H:Hp) (p:Addr):Prop:=H p = none ∨ (∃ vs,H p = some (.lst vs)) ∨ ∃ ws,H p = some (.dK ws)
section
variable {K:PySem.W.Frag} {H H':Hp} {ι ι':List Addr} {M:Store} {p:Addr} {o:HO}
theorem Loose.ne {a:Addr} {u:HO} (l:Loose H p) (h:H a = some u) (h1:∀ vs,u ≠ .lst vs) (h2:∀ ws,u ≠ .dK ws):a ≠ p:=by
 rintro rfl
 rcases l with l | ⟨vs,l⟩ | ⟨ws,l⟩
 ·rw [h] at l; cases l
 ·rw [h] at l; exact h1 vs (Option.some.inj l)
 ·rw [h] at l; exact h2 ws (Option.some.inj l)
theorem Loose.tup (l:Loose H p) {a:Addr} {xs:List V} (h:SqT K H a xs):SqT K (upd H p o) a xs:=by
 rcases h with (h | ⟨ob,h⟩) | h
 ·exact .inl (.inl (by rw [Zap (l.ne h (fun _ z=>nomatch z) (fun _ z=>nomatch z))]; exact h))
 ·exact .inl (.inr ⟨ob,by rw [Zap (l.ne h (fun _ z=>nomatch z) (fun _ z=>nomatch z))]; exact h⟩)
 ·exact .inr h
theorem Loose.scr (l:Loose H p) {a:Addr} {xs:List V} (h:SqF K H a xs):SqF K (upd H p o) a xs:=by
 rcases h with ⟨ob,h⟩ | h
 ·exact .inl ⟨ob,by rw [Zap (l.ne h (fun _ z=>nomatch z) (fun _ z=>nomatch z))]; exact h⟩
 ·exact .inr h
theorem Loose.frz (l:Loose H p) {a:Addr} {ob:Obj} {u:HO} (h:H a = some (.frz ob u)):upd H p o a = some (.frz ob u):=by
 rw [Zap (l.ne h (fun _ z=>nomatch z) (fun _ z=>nomatch z))]; exact h
theorem Loose.ext (l:Loose H p):Ext K H ι (upd H p o) ι:=⟨fun _ _ h=>l.tup h,fun _ _ h=>l.scr h,fun _ _ h=>h,fun _ _ _ h=>l.frz h⟩
theorem Loose.extA (l:Loose H p):Ext K H ι (upd H p o) (ι ++ [p]):=⟨fun _ _ h=>l.tup h,fun _ _ h=>l.scr h,fun n a h=>by
 rw [List.getElem?_append_left (List.getElem?_eq_some_iff.mp h).1]; exact h,fun _ _ _ h=>l.frz h⟩
theorem Zfm.mono {m:MO} {a:Addr} (e:Ext K H ι H' ι') (h:Zfm K H ι m a) (k:H' a = H a):Zfm K H' ι' m a:=by
 cases m with
 | lst xs=>obtain ⟨vs,q,r⟩:=h; exact ⟨vs,k.trans q,r.mono e⟩
 | dct kvs=>obtain ⟨ws,q,r1,r2⟩:=h; exact ⟨ws,k.trans q,r1,r2.mono e⟩
 | fdct kvs=>obtain ⟨ws,⟨o,q⟩,r1,r2⟩:=h; exact ⟨ws,⟨o,k.trans q⟩,r1,r2.mono e⟩
theorem Zfm.ne {m:MO} {a:Addr} (h:Zfm K H ι m a):H a ≠ none:=by
 cases m with
 | lst xs=>obtain ⟨vs,q,r⟩:=h; rw [q]; simp
 | dct kvs=>obtain ⟨ws,q,r⟩:=h; rw [q]; simp
 | fdct kvs=>obtain ⟨ws,⟨o,q⟩,r⟩:=h; rw [q]; simp
theorem Zav.at (S:Zav K H ι M) {n:Nat} {m:MO} (h:M[n]? = some m):∃ a,ι[n]? = some a ∧ Zfm K H ι m a:=by
 have hn:n < ι.length:=by rw [S.len]; exact (List.getElem?_eq_some_iff.mp h).1
 exact ⟨ι[n],by simp [hn],S.obj n m _ h (by simp [hn])⟩
theorem Zav.there (S:Zav K H ι M) {n:Nat} {a:Addr} (h:ι[n]? = some a):∃ m,M[n]? = some m ∧ Zfm K H ι m a:=by
 have hn:n < M.length:=by rw [← S.len]; exact (List.getElem?_eq_some_iff.mp h).1
 exact ⟨M[n],by simp [hn],S.obj n _ _ (by simp [hn]) h⟩
theorem Zav.fresh (S:Zav K H ι M) (hp:H p = none):p ∉ ι:=fun h=>by
 obtain ⟨n,hn⟩:=List.getElem?_of_mem h
 obtain ⟨m,_,q⟩:=S.there hn
 exact q.ne hp
theorem Zav.other (S:Zav K H ι M) (l:Loose H p) (hp:p ∉ ι):Zav K (upd H p o) ι M:=
 ⟨S.len,S.nd,fun n m a h1 h2=>(S.obj n m a h1 h2).mono l.ext (by
  rw [Zap]; rintro rfl; exact hp (List.mem_of_getElem? h2))⟩
theorem Zav.new (S:Zav K H ι M) (hp:H p = none) {m:MO} (h:Zfm K (upd H p o) (ι ++ [p]) m p):Zav K (upd H p o) (ι ++ [p]) (M ++ [m]):=by
 have hf:=S.fresh hp
 refine ⟨by simp [S.len],?_,fun n m' a h1 h2=>?_⟩
 ·exact List.nodup_append.mpr ⟨S.nd,by simp,fun x hx y hy=>by
   have e:y = p:=by simpa using hy
   subst e
   rintro rfl
   exact hf hx⟩
 ·by_cases hn:n < ι.length
  ·rw [List.getElem?_append_left hn] at h2
   rw [List.getElem?_append_left (by rw [← S.len]; exact hn)] at h1
   refine (S.obj n m' a h1 h2).mono (Loose.extA (.inl hp)) ?_
   rw [Zap]
   rintro rfl
   exact hf (List.mem_of_getElem? h2)
  ·rw [List.getElem?_append_right (by omega)] at h2
   rw [List.getElem?_append_right (by rw [← S.len]; omega)] at h1
   have hlt:n - ι.length < 1:=by
    have:=(List.getElem?_eq_some_iff.mp h2).1
    simpa using this
   have e0:n - ι.length = 0:=by omega
   rw [e0] at h2
   rw [← S.len,e0] at h1
   simp at h1 h2
   subst h1 h2
   exact h
theorem Zav.put (S:Zav K H ι M) {n:Nat} (l0:Loose H p) (hn:ι[n]? = some p) {m:MO} (h:Zfm K (upd H p o) ι m p):Zav K (upd H p o) ι (M.set n m):=by
 obtain ⟨m0,hm0,q0⟩:=S.there hn
 refine ⟨by simp [S.len],S.nd,fun k m' a h1 h2=>?_⟩
 by_cases hk:k = n
 ·subst hk
  rw [hn] at h2
  cases h2
  have hlt:k < M.length:=(List.getElem?_eq_some_iff.mp hm0).1
  rw [List.getElem?_set_self hlt] at h1
  cases h1
  exact h
 ·rw [List.getElem?_set_ne (Ne.symm hk)] at h1
  refine (S.obj k m' a h1 h2).mono (Loose.ext l0) ?_
  rw [Zap]
  rintro rfl
  have hlt1:=(List.getElem?_eq_some_iff.mp h2)
  have hlt2:=(List.getElem?_eq_some_iff.mp hn)
  exact hk ((List.getElem_inj S.nd).mp (hlt1.2.trans hlt2.2.symm))
theorem Zav.lst (S:Zav K H ι M) (hp:H p = none) {xs:List D} {vs:List V} (r:Zab K H ι xs vs):Ext K H ι (upd H p (.lst vs)) (ι ++ [p]) ∧ Zav K (upd H p (.lst vs)) (ι ++ [p]) (M ++ [.lst xs]) ∧ Rep K (upd H p (.lst vs)) (ι ++ [p]) (.ref M.length) (.ref p):=by
 have e:Ext K H ι (upd H p (.lst vs)) (ι ++ [p]):=Loose.extA (.inl hp)
 refine ⟨e,S.new hp ⟨vs,ZbO,r.mono e⟩,Rep.ref ?_⟩
 rw [← S.len]; simp
theorem Zav.tupl (S:Zav K H ι M) (hp:H p = none) {xs:List D} {vs:List V} (r:Zab K H ι xs vs):Ext K H ι (upd H p (.tup vs)) ι ∧ Zav K (upd H p (.tup vs)) ι M ∧ Rep K (upd H p (.tup vs)) ι (.tup xs) (.ref p):=by
 have e:Ext K H ι (upd H p (.tup vs)) ι:=Loose.ext (.inl hp)
 exact ⟨e,S.other (.inl hp) (S.fresh hp),Rep.tup (SqT.of ZbO) (r.mono e)⟩
theorem Zav.setl (S:Zav K H ι M) {n:Nat} (l0:Loose H p) (hn:ι[n]? = some p) {xs:List D} {vs:List V} (r:Zab K H ι xs vs):Ext K H ι (upd H p (.lst vs)) ι ∧ Zav K (upd H p (.lst vs)) ι (M.set n (.lst xs)):=by
 have e:Ext K H ι (upd H p (.lst vs)) ι:=Loose.ext l0
 exact ⟨e,S.put l0 hn ⟨vs,ZbO,r.mono e⟩⟩
end
noncomputable def ZbQ (K:PySem.W.Frag) (H:Hp) (ι:List Addr) (env:ZaE) (σ:St):Prop:=
 env.length = σ.length ∧ ∀ (i:Nat) d,env[i]? = some (some d) → ∃ v,σ[i]? = some (some v) ∧ Rep K H ι d v
theorem ZbQ.mono {K:PySem.W.Frag} {H H':Hp} {ι ι':List Addr} {env:ZaE} {σ:St} (r:ZbQ K H ι env σ) (e:Ext K H ι H' ι'):ZbQ K H' ι' env σ:=
 ⟨r.1,fun i d h=>let ⟨v,q,z⟩:=r.2 i d h; ⟨v,q,z.mono e⟩⟩
theorem ZbQ.set {K:PySem.W.Frag} {H:Hp} {ι:List Addr} {env:ZaE} {σ:St} {d:D} {v:V} (r:ZbQ K H ι env σ) (i:Nat) (h:Rep K H ι d v):ZbQ K H ι (env.set i (some d)) (σ.set i (some v)):=by
 refine ⟨by simp [r.1],fun j e hj=>?_⟩
 by_cases hij:j = i
 ·subst hij
  have hlt:j < env.length:=by
   have:=(List.getElem?_eq_some_iff.mp hj).1
   simpa using this
  rw [List.getElem?_set_self hlt] at hj
  cases hj
  exact ⟨v,by rw [List.getElem?_set_self (by rw [← r.1]; exact hlt)],h⟩
 ·rw [List.getElem?_set_ne (Ne.symm hij)] at hj
  obtain ⟨w,q,z⟩:=r.2 j e hj
  exact ⟨w,by rw [List.getElem?_set_ne (Ne.symm hij)]; exact q,z⟩
noncomputable def Zau (K:PySem.W.Frag) (H:Hp) (ι:List Addr) (Q:VK) (r:R3 D):Prop:=match r with
 | .ok d M'=>∀ v H' ι',Ext K H ι H' ι' → Zav K H' ι' M' → Rep K H' ι' d v → Q v H'
 | _=>False
noncomputable def tOf (K:PySem.W.Frag) (f:E3):TE:=fun σ H Q=>∃ ι M env,Zav K H ι M ∧ ZbQ K H ι env σ ∧ Zau K H ι Q (f env M)
noncomputable def Zhl (K:PySem.W.Frag) (H:Hp) (ι:List Addr) (Q:Bool → Hp → Prop) (r:R3 D):Prop:=match r with
 | .ok (.bl b) M'=>∀ H' ι',Ext K H ι H' ι' → Zav K H' ι' M' → Q b H'
 | _=>False
noncomputable def tTf (K:PySem.W.Frag) (f:E3):TT:=fun σ H Q=>∃ ι M env,Zav K H ι M ∧ ZbQ K H ι env σ ∧ Zhl K H ι Q (f env M)
noncomputable def Zmi (K:PySem.W.Frag) (H:Hp) (ι:List Addr) (Q:List V → Hp → Prop) (r:R3 (List D)):Prop:=match r with
 | .ok ds M'=>∀ vs H' ι',Ext K H ι H' ι' → Zav K H' ι' M' → Zab K H' ι' ds vs → Q vs H'
 | _=>False
noncomputable def tAf (K:PySem.W.Frag) (f:EL3):TA:=fun σ H Q=>∃ ι M env,Zav K H ι M ∧ ZbQ K H ι env σ ∧ Zmi K H ι Q (f env M)
noncomputable def ZmK (K:PySem.W.Frag) (H:Hp) (ι:List Addr) (Q:Option Int → Hp → Prop) (r:R3 (Option Int)):Prop:=match r with
 | .ok o M'=>∀ H' ι',Ext K H ι H' ι' → Zav K H' ι' M' → Q o H'
 | _=>False
noncomputable def tOo (K:PySem.W.Frag) (f:EO3):TO:=fun σ H Q=>∃ ι M env,Zav K H ι M ∧ ZbQ K H ι env σ ∧ ZmK K H ι Q (f env M)
noncomputable def Zfo (K:PySem.W.Frag) (H:Hp) (ι:List Addr) (E:Ends) (r:O3):Prop:=match r with
 | .nx env' M'=>∀ σ' H' ι',Ext K H ι H' ι' → Zav K H' ι' M' → ZbQ K H' ι' env' σ' → E.nx σ' H'
 | .bk env' M'=>∀ σ' H' ι',Ext K H ι H' ι' → Zav K H' ι' M' → ZbQ K H' ι' env' σ' → E.bk σ' H'
 | .ct env' M'=>∀ σ' H' ι',Ext K H ι H' ι' → Zav K H' ι' M' → ZbQ K H' ι' env' σ' → E.ct σ' H'
 | .rt d M'=>∀ v H' ι',Ext K H ι H' ι' → Zav K H' ι' M' → Rep K H' ι' d v → E.rt v H'
 | _=>False
noncomputable def tSf (K:PySem.W.Frag) (f:S3):TS:=fun E σ H=>∃ ι M env,Zav K H ι M ∧ ZbQ K H ι env σ ∧ Zfo K H ι E (f env M)
noncomputable def C3 (X:Cx) (e:Expr) (f:E3):Prop:=PE X e (tOf X.K f)
noncomputable def CT (X:Cx) (e:Expr) (f:E3):Prop:=PT X e (tTf X.K f)
noncomputable def CA (X:Cx) (es:List Expr) (f:EL3):Prop:=PA X es (tAf X.K f)
noncomputable def CO (X:Cx) (e:Option Expr) (f:EO3):Prop:=PO X e (tOo X.K f)
noncomputable def CS (X:Cx) (st:Stmt) (f:S3):Prop:=PS X st (tSf X.K f)
noncomputable def CSs (X:Cx) (st:List Stmt) (f:S3):Prop:=PSs X st (tSf X.K f)
theorem _root_.L2.PE.imp {X:Cx} {e:Expr} {t t':TE} (h:PE X e t) (i:∀ σ H Q,t' σ H Q → t σ H Q):PE X e t':=fun pins s σ H Q I q=>h pins s σ H Q I (i σ H Q q)
theorem _root_.L2.PT.imp {X:Cx} {e:Expr} {t t':TT} (h:PT X e t) (i:∀ σ H Q,t' σ H Q → t σ H Q):PT X e t':=fun pins s σ H Q I q=>h pins s σ H Q I (i σ H Q q)
theorem _root_.L2.PA.imp {X:Cx} {e:List Expr} {t t':TA} (h:PA X e t) (i:∀ σ H Q,t' σ H Q → t σ H Q):PA X e t':=fun pos pins s σ H Q I q=>h pos pins s σ H Q I (i σ H Q q)
theorem _root_.L2.PO.imp {X:Cx} {e:Option Expr} {t t':TO} (h:PO X e t) (i:∀ σ H Q,t' σ H Q → t σ H Q):PO X e t':=fun pins s σ H Q I q=>h pins s σ H Q I (i σ H Q q)
theorem _root_.L2.PS.imp {X:Cx} {e:Stmt} {t t':TS} (h:PS X e t) (i:∀ D σ H,t' D σ H → t D σ H):PS X e t':=fun pins s σ H D I q=>h pins s σ H D I (i D σ H q)
theorem _root_.L2.PSs.imp {X:Cx} {e:List Stmt} {t t':TS} (h:PSs X e t) (i:∀ D σ H,t' D σ H → t D σ H):PSs X e t':=fun pins s σ H D I q=>h pins s σ H D I (i D σ H q)
theorem _root_.L2.OpR.imp {X:Cx} {f:Value → Value → Sem Value} {r r':R2} (h:OpR X f r) (i:∀ x y H Q,r' x y H Q → r x y H Q):OpR X f r':=fun pins s σ H x y v u Q I rx ry q=>h pins s σ H x y v u Q I rx ry (i x y H Q q)
theorem _root_.L2.UnR.imp {X:Cx} {f:Value → Sem Value} {r r':V → Hp → VK → Prop} (h:UnR X f r) (i:∀ x H Q,r' x H Q → r x H Q):UnR X f r':=fun pins s σ H x v Q I rx q=>h pins s σ H x v Q I rx (i x H Q q)
theorem _root_.L2.Zbv.imp {X:Cx} {f:Value} {r r':List V → Hp → VK → Prop} (h:Zbv X f r) (i:∀ x H Q,r' x H Q → r x H Q):Zbv X f r':=fun pins s σ H xs us Q I rx q=>h pins s σ H xs us Q I rx (i xs H Q q)
theorem _root_.L2.IxR.imp {X:Cx} {r r':R2} (h:IxR X r) (i:∀ x y H Q,r' x y H Q → r x y H Q):IxR X r':=fun value slice pins s σ H x y v u Q I rx ry q hs=>h value slice pins s σ H x y v u Q I rx ry (i x y H Q q) hs
theorem _root_.L2.SlR.imp {X:Cx} {r r':V → Option Int → Option Int → Hp → VK → Prop} (h:SlR X r) (i:∀ x lo hi H Q,r' x lo hi H Q → r x lo hi H Q):SlR X r':=fun pins s σ H x v vl vu lo hi sl Q I rx hs pl pu q=>h pins s σ H x v vl vu lo hi sl Q I rx hs pl pu (i x lo hi H Q q)
section
variable {K:PySem.W.Frag} {H H1:Hp} {ι ι1:List Addr}
theorem Zau.up {Q:VK} {r:R3 D} (e:Ext K H ι H1 ι1) (h:Zau K H ι Q r):Zau K H1 ι1 Q r:=by
 cases r with
 | ok d M=>exact fun v H' ι' e' S r=>h v H' ι' (e.trans e') S r
 | exc x M=>exact h
 | bad=>exact h
theorem Zhl.up {Q:Bool → Hp → Prop} {r:R3 D} (e:Ext K H ι H1 ι1) (h:Zhl K H ι Q r):Zhl K H1 ι1 Q r:=by
 cases r with
 | ok d M=>cases d <;> first | exact h | exact fun H' ι' e' S=>h H' ι' (e.trans e') S
 | exc x M=>exact h
 | bad=>exact h
theorem Zfo.up {Q:Ends} {r:O3} (e:Ext K H ι H1 ι1) (h:Zfo K H ι Q r):Zfo K H1 ι1 Q r:=by
 cases r with
 | nx d M=>exact fun v H' ι' e' S r=>h v H' ι' (e.trans e') S r
 | bk d M=>exact fun v H' ι' e' S r=>h v H' ι' (e.trans e') S r
 | ct d M=>exact fun v H' ι' e' S r=>h v H' ι' (e.trans e') S r
 | rt d M=>exact fun v H' ι' e' S r=>h v H' ι' (e.trans e') S r
 | exc x M=>exact h
 | bad=>exact h
theorem Zau.ok {Q:VK} {d:D} {M:Store} {v:V} (h:Zau K H ι Q (.ok d M)) (S:Zav K H ι M) (r:Rep K H ι d v):Q v H:=h v H ι Ext.refl S r
theorem Zau.bind {α:Type} {Q:VK} {r:R3 α} {k:α → Store → R3 D} (h:Zau K H ι Q (r.bind k)):∃ a M,r = .ok a M ∧ Zau K H ι Q (k a M):=by
 cases r with
 | ok a M=>exact ⟨a,M,rfl,h⟩
 | exc x M=>exact h.elim
 | bad=>exact h.elim
theorem Zmi.bind {α:Type} {Q:List V → Hp → Prop} {r:R3 α} {k:α → Store → R3 (List D)} (h:Zmi K H ι Q (r.bind k)):∃ a M,r = .ok a M ∧ Zmi K H ι Q (k a M):=by
 cases r with
 | ok a M=>exact ⟨a,M,rfl,h⟩
 | exc x M=>exact h.elim
 | bad=>exact h.elim
theorem ZmK.bind {α:Type} {Q:Option Int → Hp → Prop} {r:R3 α} {k:α → Store → R3 (Option Int)} (h:ZmK K H ι Q (r.bind k)):∃ a M,r = .ok a M ∧ ZmK K H ι Q (k a M):=by
 cases r with
 | ok a M=>exact ⟨a,M,rfl,h⟩
 | exc x M=>exact h.elim
 | bad=>exact h.elim
theorem Zhl.bind {α:Type} {Q:Bool → Hp → Prop} {r:R3 α} {k:α → Store → R3 D} (h:Zhl K H ι Q (r.bind k)):∃ a M,r = .ok a M ∧ Zhl K H ι Q (k a M):=by
 cases r with
 | ok a M=>exact ⟨a,M,rfl,h⟩
 | exc x M=>exact h.elim
 | bad=>exact h.elim
end
noncomputable def r2 (K:PySem.W.Frag) (op:D → D → Store → R3 D):R2:=fun x y H Q=>∃ ι M a b,Zav K H ι M ∧ Rep K H ι a x ∧ Rep K H ι b y ∧ Zau K H ι Q (op a b M)
noncomputable def r1 (K:PySem.W.Frag) (op:D → Store → R3 D):V → Hp → VK → Prop:=fun x H Q=>∃ ι M a,Zav K H ι M ∧ Rep K H ι a x ∧ Zau K H ι Q (op a M)
noncomputable def rB (K:PySem.W.Frag) (b:List D → Store → R3 D):List V → Hp → VK → Prop:=fun xs H Q=>∃ ι M ds,Zav K H ι M ∧ Zab K H ι ds xs ∧ Zau K H ι Q (b ds M)
noncomputable def rM (K:PySem.W.Frag) (m:D → List D → Store → R3 D):V → List V → Hp → VK → Prop:=fun x xs H Q=>∃ ι M a ds,Zav K H ι M ∧ Rep K H ι a x ∧ Zab K H ι ds xs ∧ Zau K H ι Q (m a ds M)
noncomputable def rS (K:PySem.W.Frag):V → Option Int → Option Int → Hp → VK → Prop:=fun x lo hi H Q=>∃ ι M a,Zav K H ι M ∧ Rep K H ι a x ∧ Zau K H ι Q (ZfP a lo hi M)
theorem ZiS {K:PySem.W.Frag} {op:D → D → Store → R3 D} {f g:E3} (σ:St) (H:Hp) (Q:VK) (h:tOf K (e2 op f g) σ H Q):tOp (r2 K op) (tOf K f) (tOf K g) σ H Q:=by
 obtain ⟨ι,M,env,S,E,h⟩:=h
 obtain ⟨a,M1,e1,h⟩:=Zau.bind h
 obtain ⟨b,M2,e2,h⟩:=Zau.bind h
 refine ⟨ι,M,env,S,E,?_⟩
 rw [e1]
 intro v H1 ι1 x1 S1 r1
 refine ⟨ι1,M1,env,S1,E.mono x1,?_⟩
 rw [e2]
 intro u H2 ι2 x2 S2 r2
 exact ⟨ι2,M2,a,b,S2,r1.mono x2,r2,(h.up x1).up x2⟩
theorem Zpr {K:PySem.W.Frag} {op:D → Store → R3 D} {f:E3} (σ:St) (H:Hp) (Q:VK) (h:tOf K (e1 op f) σ H Q):tUn (r1 K op) (tOf K f) σ H Q:=by
 obtain ⟨ι,M,env,S,E,h⟩:=h
 obtain ⟨a,M1,e1,h⟩:=Zau.bind h
 refine ⟨ι,M,env,S,E,?_⟩
 rw [e1]
 intro v H1 ι1 x1 S1 r1
 exact ⟨ι1,M1,a,S1,r1,h.up x1⟩
section
variable {X:Cx} {a b c e o:Expr} {es:List Expr} {pos p:Pos} {f g h:E3} {gl:EL3}
theorem Zd (i:Nat) {x:Str} (hN:X.N[i]? = some x:=by rfl) (hv:Vis X.env.scope x:=by first | exact Or.inl rfl | exact Or.inr (Or.inl rfl) | exact Or.inr (Or.inr rfl)) (hd:(x == ("__debug__":Str)) = false:=by decide)
  (hcd:(x == ("__classdict__":Str)) = false:=by decide):C3 X (.Name x pos) (Za i):=(ZpT hN hv hd hcd).imp fun σ H Q ⟨ι,M,env,S,E,h⟩=>by
 unfold Za at h
 cases q:env[i]? with
 | none=>rw [q] at h; exact h.elim
 | some od=>
  cases od with
  | none=>rw [q] at h; exact h.elim
  | some d=>
   rw [q] at h
   obtain ⟨v,e1,r⟩:=E.2 i d q
   exact ⟨v,e1,Zau.ok h S r⟩
theorem Zj {i j}:C3 X (.Constant (.int i) j pos) (eC (.int i)):=ZpQ.imp fun σ H Q ⟨ι,M,env,S,E,h⟩=>Zau.ok h S Rep.int
theorem Zi6 {i j}:C3 X (.Constant (.bool i) j pos) (eC (.bl i)):=Zr1.imp fun σ H Q ⟨ι,M,env,S,E,h⟩=>Zau.ok h S Rep.bl
theorem Zdk {j}:C3 X (.Constant .none j pos) (eC .non):=Zpt.imp fun σ H Q ⟨ι,M,env,S,E,h⟩=>Zau.ok h S Rep.non
theorem Zal {x:Str} {cs:List Nat} {j} (hx:x = ⟨cs.toArray⟩:=by decide +kernel):C3 X (.Constant (.str x) j pos) (eC (.str cs)):=ZqT.imp fun σ H Q ⟨ι,M,env,S,E,h⟩=>by
 subst hx
 exact Zau.ok h S Rep.str
theorem Zaj {op:Operator} {q:D → D → Store → R3 D} (ho:OpR X (binaryOp op) (r2 X.K q)) (ha:C3 X a f) (hb:C3 X b g):C3 X (.BinOp a op b pos) (e2 q f g):=(ZrU ho ha hb).imp ZiS
theorem Zm9 {op:UnaryOp} {q:D → Store → R3 D} (ho:UnR X (unaryOp op) (r1 X.K q)) (ha:C3 X a f):C3 X (.UnaryOp op a pos) (e1 q f):=(ZrX ho ha).imp Zpr
theorem ZeH {op:CmpOp} {q:D → D → Store → R3 D} (ho:OpR X (compareOp op) (r2 X.K q)) (ha:C3 X a f) (hb:C3 X b g) (hm:behindInMarks op b = false:=by rfl):C3 X (.Compare a [op] [b] pos) (e2 q f g):=(Zn9 ho ha hb hm).imp ZiS
theorem Zix {K:PySem.W.Frag} {H:Hp} {ι:List Addr} {Q:Bool → Hp → Prop} {r:R3 D} (h:Zhl K H ι Q r):Zau K H ι (fun x H'=>∃ k,x = .bl k ∧ Q k H') r:=by
 cases r with
 | ok d M=>
  cases d with
  | bl b=>exact fun v H' ι' e S r=>⟨b,r.bl_inv,h H' ι' e S⟩
  | _=>exact h.elim
 | exc x M=>exact h.elim
 | bad=>exact h.elim
theorem ZeQ (h:C3 X e f) (he:∀ whole,isTrue e X.env whole = (do let v ← whole; standAt e.pos; holding [v] (truthy v)):=by intro _; rfl):CT X e f:=(Zpl h he).imp fun σ H Q ⟨ι,M,env,S,E,h⟩=>⟨ι,M,env,S,E,Zix h⟩
theorem Zah {op:CmpOp} {q:D → D → Store → R3 D} (ho:OpR X (compareOp op) (r2 X.K q)) (ha:C3 X a f) (hb:C3 X b g) (hm:behindInMarks op b = false:=by rfl):CT X (.Compare a [op] [b] pos) (e2 q f g):=
 (Zoi ho ha hb hm).imp fun σ H Q ⟨ι,M,env,S,E,h⟩=>ZiS σ H _ ⟨ι,M,env,S,E,Zix h⟩
end
end L3
namespace L3
open PySem PySem.Spec PyProof.Rows L2
section
variable {X:Cx} {a b c e o:Expr} {es rest:List Expr} {pos p:Pos} {f g h:E3} {gl:EL3}
theorem Zo4 {op} (h:C3 X a f):C3 X (.BoolOp op [a] pos) f:=ZpW h
theorem Zo9 (ha:C3 X a f) (hb:C3 X (.BoolOp .And (b :: rest) pos) g):C3 X (.BoolOp .And (a :: b :: rest) pos) (Zdx f g):=(Zpo ha hb).imp fun σ H Q ⟨ι,M,env,S,E,h⟩=>by
 obtain ⟨d,M1,e1,h⟩:=Zau.bind h
 refine ⟨ι,M,env,S,E,?_⟩
 rw [e1]
 intro v H1 ι1 x1 S1 r1
 cases d with
 | bl k=>
  refine ⟨k,r1.bl_inv,?_⟩
  cases k with
  | true=>rw [if_pos rfl]; exact ⟨ι1,M1,env,S1,E.mono x1,h.up x1⟩
  | false=>rw [if_neg (by decide)]; exact Zau.ok (h.up x1) S1 Rep.bl
 | _=>exact h.elim
noncomputable def CW (X:Cx) (e:Expr) (f:E3):Prop:=PW X e (tTf X.K f)
theorem CW.ct (h:CW X e f):CT X e f:=PW.pt h
theorem PW.imp {t t':TT} (h:PW X e t) (i:∀ σ H Q,t' σ H Q → t σ H Q):PW X e t':=fun wh pins s σ H Q I q=>h wh pins s σ H Q I (i σ H Q q)
theorem Zfc (ha:CT X a f):CW X (.BoolOp .And [a] pos) f:=Zol ha
theorem ZhC (ha:CT X a f):CW X (.BoolOp .Or [a] pos) f:=ZpJ ha
theorem Zgf (ha:CT X a f) (hb:CW X (.BoolOp .And (b :: rest) pos) g):CW X (.BoolOp .And (a :: b :: rest) pos) (Zdx f g):=PW.imp (ZqF ha hb) fun σ H Q ⟨ι,M,env,S,E,h⟩=>by
 obtain ⟨d,M1,e1,h⟩:=Zhl.bind h
 refine ⟨ι,M,env,S,E,?_⟩
 rw [e1]
 cases d with
 | bl k=>
  intro H1 ι1 x1 S1
  cases k with
  | true=>rw [if_pos rfl]; exact ⟨ι1,M1,env,S1,E.mono x1,h.up x1⟩
  | false=>rw [if_neg (by decide)]; exact h H1 ι1 x1 S1
 | _=>exact h.elim
theorem Zih (ha:CT X a f) (hb:CW X (.BoolOp .Or (b :: rest) pos) g):CW X (.BoolOp .Or (a :: b :: rest) pos) (eOr f g):=PW.imp (ZrV ha hb) fun σ H Q ⟨ι,M,env,S,E,h⟩=>by
 obtain ⟨d,M1,e1,h⟩:=Zhl.bind h
 refine ⟨ι,M,env,S,E,?_⟩
 rw [e1]
 cases d with
 | bl k=>
  intro H1 ι1 x1 S1
  cases k with
  | false=>rw [if_neg (by decide)]; exact ⟨ι1,M1,env,S1,E.mono x1,h.up x1⟩
  | true=>rw [if_pos rfl]; exact h H1 ι1 x1 S1
 | _=>exact h.elim
theorem Zhq (ha:CT X a f):CT X (.UnaryOp .Not a pos) (e1 Zdn f):=(ZpK ha).imp fun σ H Q ⟨ι,M,env,S,E,h⟩=>by
 obtain ⟨d,M1,e1,h⟩:=Zhl.bind h
 refine ⟨ι,M,env,S,E,?_⟩
 rw [e1]
 cases d with
 | bl k=>exact fun H1 ι1 x1 S1=>h H1 ι1 x1 S1
 | _=>exact h.elim
theorem Zni (hc:CT X c f) (ha:C3 X a g) (hb:C3 X b h):C3 X (.IfExp c a b pos) (eIf f g h):=(Znp hc ha hb).imp fun σ H Q ⟨ι,M,env,S,E,h⟩=>by
 obtain ⟨d,M1,e1,h⟩:=Zau.bind h
 refine ⟨ι,M,env,S,E,?_⟩
 rw [e1]
 cases d with
 | bl k=>
  intro H1 ι1 x1 S1
  cases k with
  | true=>rw [if_pos rfl]; exact ⟨ι1,M1,env,S1,E.mono x1,h.up x1⟩
  | false=>rw [if_neg (by decide)]; exact ⟨ι1,M1,env,S1,E.mono x1,h.up x1⟩
 | _=>exact h.elim
theorem Zm:CA X [] Zg:=ZqQ.imp fun σ H Q ⟨ι,M,env,S,E,h⟩=>h [] H ι Ext.refl S Zab.nil
theorem Zc (ha:C3 X e f) (hr:CA X es gl) (hs:starEach (e :: es) X.env = (false,eval e X.env) :: starEach es X.env:=by rfl):CA X (e :: es) (Zb f gl):=(ZoI ha hr hs).imp fun σ H Q ⟨ι,M,env,S,E,h⟩=>by
 obtain ⟨d,M1,e1,h⟩:=Zmi.bind h
 obtain ⟨ds,M2,e2,h⟩:=Zmi.bind h
 refine ⟨ι,M,env,S,E,?_⟩
 rw [e1]
 intro v H1 ι1 x1 S1 r1
 refine ⟨ι1,M1,env,S1,E.mono x1,?_⟩
 rw [e2]
 intro vs H2 ι2 x2 S2 r2
 exact h (v :: vs) H2 ι2 (x1.trans x2) S2 (Zab.cons (r1.mono x2) r2)
theorem ZaS {x1} (h:CA X es gl):C3 X (.Tuple es x1 pos) (ZaD gl):=(ZpN h).imp fun σ H Q ⟨ι,M,env,S,E,h⟩=>by
 obtain ⟨ds,M1,e1,h⟩:=Zau.bind h
 refine ⟨ι,M,env,S,E,?_⟩
 rw [e1]
 intro vs H1 ι1 x1 S1 r1
 by_cases hz:ds.length ≤ SZ
 ·rw [if_pos hz] at h
  refine ⟨by rw [r1.length]; exact Nat.le_trans hz Zcg,fun p hp=>?_⟩
  obtain ⟨x2,S2,r2⟩:=S1.tupl hp r1
  exact h _ _ _ (x1.trans x2) S2 r2
 ·rw [if_neg hz] at h; exact h.elim
theorem Zf1 (h:CA X es gl):C3 X (.List es pos) (ZgS gl):=(ZqP h).imp fun σ H Q ⟨ι,M,env,S,E,h⟩=>by
 obtain ⟨ds,M1,e1,h⟩:=Zau.bind h
 refine ⟨ι,M,env,S,E,?_⟩
 rw [e1]
 intro vs H1 ι1 x1 S1 r1
 by_cases hz:ds.length ≤ SZ
 ·rw [if_pos hz] at h
  refine ⟨by rw [r1.length]; exact Nat.le_trans hz Zcg,fun p hp=>?_⟩
  obtain ⟨x2,S2,r2⟩:=S1.lst hp r1
  exact h _ _ _ (x1.trans x2) S2 r2
 ·rw [if_neg hz] at h; exact h.elim
theorem ZnB {K:PySem.W.Frag} {q:List D → Store → R3 D} (σ:St) (H:Hp) (Q:VK) (h:tOf K (Zas q gl) σ H Q):tCB (rB K q) (tAf K gl) σ H Q:=by
 obtain ⟨ι,M,env,S,E,h⟩:=h
 obtain ⟨ds,M1,e1,h⟩:=Zau.bind h
 refine ⟨ι,M,env,S,E,?_⟩
 rw [e1]
 intro vs H1 ι1 x1 S1 r1
 exact ⟨ι1,M1,ds,S1,r1,h.up x1⟩
theorem Zb5 {x:Str} {id:String} {q:List D → Store → R3 D} (hc:Zbv X (.builtin id) (rB X.K q)) (hm:X.mg x = none) (hv:bootBuiltins x = some (.builtin id)) (ha:CA X (e :: es) gl) (hg:Gl X x:=by rfl) (hn:x ≠ "__name__":=by decide) (hdb:(x == ("__debug__":Str)) = false:=by decide)
  (he:starEach (e :: es) X.env = (false,eval e X.env) :: starEach es X.env:=by rfl) (hpl:(backTo pos (starEach es X.env)).any (·.1) = false:=by rfl):C3 X (.Call (.Name x p) (e :: es) [] pos) (Zas q gl):=(ZmM hc hg hm hv ha hn hdb he hpl).imp ZnB
theorem ZeG {x:Str} {T:String} {q:List D → Store → R3 D} (hc:Zbv X (.type T) (rB X.K q)) (hm:X.mg x = none) (hv:bootBuiltins x = some (.type T)) (ha:CA X (e :: es) gl) (hg:Gl X x:=by rfl) (hn:x ≠ "__name__":=by decide) (hdb:(x == ("__debug__":Str)) = false:=by decide)
  (he:starEach (e :: es) X.env = (false,eval e X.env) :: starEach es X.env:=by rfl) (hpl:(backTo pos (starEach es X.env)).any (·.1) = false:=by rfl):C3 X (.Call (.Name x p) (e :: es) [] pos) (Zas q gl):=(Zmk hc hg hm hv ha hn hdb he hpl).imp ZnB
theorem Zv (hr:IxR X (r2 X.K Ze)) (ha:C3 X a f) (hb:C3 X b g) (hs:ZlK b:=by exact fun _ _=>rfl):C3 X (.Subscript a b pos) (e2 Ze f g):=(Zrm hr ha hb hs).imp ZiS
theorem Zcy:CO X none ZaW:=Zoa.imp fun σ H Q ⟨ι,M,env,S,E,h⟩=>h H ι Ext.refl S
theorem Zcx (h:C3 X e f):CO X (some e) (ZaX f):=(ZoB h).imp fun σ H Q ⟨ι,M,env,S,E,h⟩=>by
 obtain ⟨d,M1,e1,h⟩:=ZmK.bind h
 refine ⟨ι,M,env,S,E,?_⟩
 rw [e1]
 intro v H1 ι1 x1 S1 r1
 cases d with
 | int i=>exact ⟨i,r1.int_inv,h H1 ι1 x1 S1⟩
 | _=>exact h.elim
theorem ZgM {lo hi:Option Expr} {ol oh:EO3} {p2:Pos} (hr:SlR X (rS X.K)) (he:C3 X e f) (hl:CO X lo ol) (hu:CO X hi oh):C3 X (.Subscript e (.Slice lo hi none p2) pos) (eSl f ol oh):=(Zno hr he hl hu).imp fun σ H Q ⟨ι,M,env,S,E,h⟩=>by
 obtain ⟨d,M1,e1,h⟩:=Zau.bind h
 obtain ⟨l,M2,e2,h⟩:=Zau.bind h
 obtain ⟨u,M3,e3,h⟩:=Zau.bind h
 refine ⟨ι,M,env,S,E,?_⟩
 rw [e1]
 intro v H1 ι1 x1 S1 r1
 refine ⟨ι1,M1,env,S1,E.mono x1,?_⟩
 rw [e2]
 intro H2 ι2 x2 S2
 refine ⟨ι2,M2,env,S2,(E.mono x1).mono x2,?_⟩
 rw [e3]
 intro H3 ι3 x3 S3
 exact ⟨ι3,M3,d,S3,(r1.mono x2).mono x3,((h.up x1).up x2).up x3⟩
theorem Zam:CSs X [] Zaa:=Zoq.imp fun D σ H ⟨ι,M,env,S,E,h⟩=>h σ H ι Ext.refl S E
theorem Zq {st:Stmt} {u:S3} (h:CS X st u):CSs X [st] u:=Zou h
theorem Zf {st:Stmt} {sts:List Stmt} {u w:S3} (h1:CS X st u) (h2:CSs X sts w):CSs X (st :: sts) (Zw u w):=(ZmJ h1 h2).imp fun D σ H ⟨ι,M,env,S,E,h⟩=>by
 refine ⟨ι,M,env,S,E,?_⟩
 have h':Zfo X.K H ι D (match u env M with | .nx env' M'=>w env' M' | o=>o):=h
 cases q:u env M with
 | nx env' M'=>rw [q] at h'; exact fun σ' H' ι' x S' E'=>⟨ι',M',env',S',E',h'.up x⟩
 | _=>rw [q] at h'; exact h'
theorem ZaJ {c1:Expr} {x y:List Stmt} {u w:S3} (hc:CT X c1 f) (ha:CSs X x u) (hb:CSs X y w):CS X (.If c1 x y pos) (sIf f u w):=(ZrE hc ha hb).imp fun D σ H ⟨ι,M,env,S,E,h⟩=>by
 refine ⟨ι,M,env,S,E,?_⟩
 unfold sIf at h
 cases q:f env M with
 | ok d M1=>
  rw [q] at h
  cases d with
  | bl k=>
   intro H1 ι1 x1 S1
   cases k with
   | true=>rw [if_pos rfl]; exact ⟨ι1,M1,env,S1,E.mono x1,h.up x1⟩
   | false=>rw [if_neg (by decide)]; exact ⟨ι1,M1,env,S1,E.mono x1,h.up x1⟩
  | _=>exact h.elim
 | exc x M1=>rw [q] at h; exact h.elim
 | bad=>rw [q] at h; exact h.elim
theorem Zae (h:C3 X e f):CS X (.Return (some e) pos) (Zak f):=(ZqU h).imp fun D σ H ⟨ι,M,env,S,E,h⟩=>by
 refine ⟨ι,M,env,S,E,?_⟩
 unfold Zak at h
 cases q:f env M with
 | ok d M1=>rw [q] at h; exact h
 | exc x M1=>rw [q] at h; exact h.elim
 | bad=>rw [q] at h; exact h.elim
theorem ZgU (h:C3 X e f) (hs:swapsWith e none pos.line X.env = pure false:=by rfl):CS X (.Expr e pos) (Za9 f):=(Zop h hs).imp fun D σ H ⟨ι,M,env,S,E,h⟩=>by
 refine ⟨ι,M,env,S,E,?_⟩
 unfold Za9 at h
 cases q:f env M with
 | ok d M1=>rw [q] at h; exact fun v H1 ι1 x1 S1 r1=>h σ H1 ι1 x1 S1 (E.mono x1)
 | exc x M1=>rw [q] at h; exact h.elim
 | bad=>rw [q] at h; exact h.elim
theorem Zao (i:Nat) {x:Str} {pos':Pos} (hN:X.N.Nodup) (he:C3 X e f) (hi:X.N[i]? = some x:=by rfl) (hx:Loc X.env.scope x:=by first | exact Or.inl rfl | exact Or.inr rfl) (hs:swapsWith e (some (.Name x pos')) pos.line X.env = pure false:=by rfl)
  (hf:X.fn x = true ∨ X.env.scope.names.lookup x = some .local:=by first | exact .inl rfl | exact .inr rfl):CS X (.Assign [.Name x pos'] e pos) (Zan i f):=(Zqc hN hi hx he hs hf).imp fun D σ H ⟨ι,M,env,S,E,h⟩=>by
 refine ⟨ι,M,env,S,E,?_⟩
 unfold Zan at h
 cases q:f env M with
 | ok d M1=>rw [q] at h; exact fun v H1 ι1 x1 S1 r1=>h _ H1 ι1 x1 S1 ((E.mono x1).set i r1)
 | exc x M1=>rw [q] at h; exact h.elim
 | bad=>rw [q] at h; exact h.elim
end
noncomputable def sp3 (K:PySem.W.Frag) (n:Nat) (F:F3):Sp:=fun vs H Q _=>∃ ι M ds,Zav K H ι M ∧ Zab K H ι ds vs ∧ ds.length = n ∧ Zau K H ι Q (F ds M)
section
variable {K:PySem.W.Frag} {H H':Hp} {ι ι':List Addr} {M M':Store}
mutual
theorem Rep.below:∀ {d:D} {v:V},Rep K H ι d v → L3.below ι.length d = true
 | .non,_,_=>rfl
 | .bl _,_,_=>rfl
 | .int _,_,_=>rfl
 | .str _,_,_=>rfl
 | .tup ds,_,h=>by
  obtain ⟨a,vs,_,_,r⟩:=h.tup_inv
  simp only [L3.below]
  exact Zab.belowL (ds:=ds) r
 | .scr ds,_,h=>by
  obtain ⟨a,vs,_,_,r⟩:=h.scr_inv
  simp only [L3.below]
  exact Zab.belowL (ds:=ds) r
 | .ref n,_,h=>by
  obtain ⟨a,q,_⟩:=h.ref_inv
  simp only [L3.below,decide_eq_true_eq]
  exact (List.getElem?_eq_some_iff.mp q).1
theorem Zab.belowL:∀ {ds:List D} {vs:List V},Zab K H ι ds vs → L3.belowL ι.length ds = true
 | [],_,_=>rfl
 | d :: ds,_,h=>by
  obtain ⟨v,ws,_,r,q⟩:=h.cons_inv
  simp only [L3.belowL,Bool.and_eq_true]
  exact ⟨Rep.below (d:=d) r,Zab.belowL (ds:=ds) q⟩
end
mutual
theorem Rep.cut {n:Nat}:∀ {d:D} {v:V},L3.below n d = true → Rep K H ι d v → Rep K H (ι.take n) d v
 | .non,_,_,h=>by simpa [Rep] using h
 | .bl _,_,_,h=>by simpa [Rep] using h
 | .int _,_,_,h=>by simpa [Rep] using h
 | .str _,_,_,h=>by simpa [Rep] using h
 | .tup ds,_,hb,h=>by
  obtain ⟨a,vs,rfl,s,r⟩:=h.tup_inv
  exact Rep.tup s (Zab.cut (ds:=ds) (by simpa only [L3.below] using hb) r)
 | .scr ds,_,hb,h=>by
  obtain ⟨a,vs,rfl,s,r⟩:=h.scr_inv
  simp only [Rep]
  exact ⟨a,vs,rfl,s,Zab.cut (ds:=ds) (by simpa only [L3.below] using hb) r⟩
 | .ref k,_,hb,h=>by
  obtain ⟨a,q,rfl⟩:=h.ref_inv
  refine Rep.ref ?_
  rw [List.getElem?_take_of_lt (by simpa [L3.below] using hb)]
  exact q
theorem Zab.cut {n:Nat}:∀ {ds:List D} {vs:List V},L3.belowL n ds = true → Zab K H ι ds vs → Zab K H (ι.take n) ds vs
 | [],_,_,h=>by simpa [Zab] using h
 | d :: ds,_,hb,h=>by
  obtain ⟨v,ws,rfl,r,q⟩:=h.cons_inv
  simp only [L3.belowL,Bool.and_eq_true] at hb
  exact Zab.cons (Rep.cut (d:=d) hb.1 r) (Zab.cut (ds:=ds) hb.2 q)
end
theorem Zfm.below {m:MO} {a:Addr} (h:Zfm K H ι m a):Zge ι.length m = true:=by
 cases m with
 | lst xs=>obtain ⟨vs,_,r⟩:=h; exact r.belowL
 | dct kvs=>obtain ⟨ws,_,_,r⟩:=h; exact r.belowL
 | fdct kvs=>obtain ⟨ws,_,_,r⟩:=h; exact r.belowL
theorem Zfm.cut {n:Nat} {m:MO} {a:Addr} (hb:Zge n m = true) (h:Zfm K H ι m a):Zfm K H (ι.take n) m a:=by
 cases m with
 | lst xs=>obtain ⟨vs,q,r⟩:=h; exact ⟨vs,q,r.cut hb⟩
 | dct kvs=>obtain ⟨ws,q,r1,r2⟩:=h; exact ⟨ws,q,r1,r2.cut hb⟩
 | fdct kvs=>obtain ⟨ws,q,r1,r2⟩:=h; exact ⟨ws,q,r1,r2.cut hb⟩
theorem Zav.cut {n:Nat} (S:Zav K H ι M) (h:(M.take n).all (Zge n) = true):Zav K H (ι.take n) (M.take n):=by
 refine ⟨by simp [S.len],S.nd.sublist (List.take_sublist _ _),fun k m a h1 h2=>?_⟩
 have hk:k < n:=by
  have:=(List.getElem?_eq_some_iff.mp h1).1
  rw [List.length_take] at this
  omega
 have hb:Zge n m = true:=List.all_eq_true.mp h m (List.mem_of_getElem? h1)
 rw [List.getElem?_take_of_lt hk] at h1 h2
 exact (S.obj k m a h1 h2).cut hb
theorem ZlA {Q:VK} {d:D} {v:V} (S:Zav K H ι M) (x:Ext K H ι H' ι') (S':Zav K H' ι' M') (r:Rep K H' ι' d v) (h:Zau K H ι Q (ZdB M d M')):Q v H':=by
 unfold ZdB at h
 split at h
 ·rename_i c
  simp only [Bool.and_eq_true,Bool.or_eq_true,decide_eq_true_eq] at c
  have hall:(M'.take M.length).all (Zge M.length) = true:=by
   rcases c.2 with e | e
   ·rw [e,List.all_eq_true]
    intro m hm
    obtain ⟨n,hn⟩:=List.getElem?_of_mem hm
    obtain ⟨a,q,w⟩:=S.at hn
    rw [← S.len]
    exact w.below
   ·exact e
  refine h v H' (ι'.take M.length) ⟨x.tup,x.scr,fun n a q=>?_,x.frz⟩ (S'.cut hall) (r.cut c.1)
  rw [List.getElem?_take_of_lt (by rw [← S.len]; exact (List.getElem?_eq_some_iff.mp q).1)]
  exact x.pre n a q
 ·exact h v H' ι' x S' r
end
theorem ZbQ.start {K:PySem.W.Frag} {H:Hp} {ι:List Addr} {ds:List D} {vs:List V} (r:Zab K H ι ds vs) (n:Nat):ZbQ K H ι (ds.map some ++ List.replicate n none) (vs.map some ++ List.replicate n none):=by
 refine ⟨by simp [r.length],fun i d h=>?_⟩
 by_cases hi:i < ds.length
 ·rw [List.getElem?_append_left (by simpa using hi),List.getElem?_map] at h
  cases q:ds[i]? with
  | none=>rw [q] at h; simp at h
  | some d'=>
   rw [q] at h
   simp at h
   subst h
   obtain ⟨v,e,z⟩:=r.get q
   refine ⟨v,?_,z⟩
   rw [List.getElem?_append_left (by simpa [r.length] using hi),List.getElem?_map,e]
   rfl
 ·rw [List.getElem?_append_right (by simpa using hi),List.getElem?_replicate] at h
  split at h <;> simp at h
section
variable {P:Program} {w:World} {K:PySem.W.Frag} {mg:Str → Option Value} {base:Heap}
theorem fn3 {x qual:Str} {st:Stmt} {f:Addr} {fd:FuncData} {N ps:List Str} {k:Nat} {body:S3} (F:Fun K x qual st f fd) (S:Zaz N ps (Zr st))
  (hb:∀ (cdv:Value) (A:Around) (outer:List Env) (s:Shared) (H:Hp) (E:XK),Zdv k (A.deeper (envOfC qual (Zr st) s.heap.objs.size f cdv)) → CSs (ZjB CX0 P w K mg base N qual (Zr st) f cdv A outer s H E).nox (Zaq st) body):
  ZgL P w K mg base CX0 (k + 1) f fd ps (sp3 K ps.length (mkF ps.length N.length body)):=by
 refine F.ok S (fun vs H Q E ⟨ι,M,ds,_,r,l,_⟩=>by rw [r.length,l]) fun cdv A outer s H vs Q E hr ⟨ι,M,ds,SR,r,l,h⟩=>?_
 refine ⟨_,hb cdv A outer s H E hr,ι,M,ds.map some ++ List.replicate (N.length - ps.length) none,SR,?_,?_⟩
 ·have e:L2.start N vs = vs.map some ++ List.replicate (N.length - ps.length) none:=by unfold L2.start; rw [r.length,l]
  rw [e]
  exact ZbQ.start r _
 ·unfold mkF at h
  rw [if_pos l] at h
  cases q:body (ds.map some ++ List.replicate (N.length - ps.length) none) M with
  | nx env' M'=>rw [q] at h; exact fun σ' H' ι' x S' E'=>ZlA SR x S' Rep.non h
  | rt d M'=>rw [q] at h; exact fun v H' ι' x S' r'=>ZlA SR x S' r' h
  | bk _ _=>rw [q] at h; exact h.elim
  | ct _ _=>rw [q] at h; exact h.elim
  | exc _ _=>rw [q] at h; exact h.elim
  | bad=>rw [q] at h; exact h.elim
noncomputable def Fn3 (P:Program) (w:World) (K:PySem.W.Frag) (mg:Str → Option Value) (base:Heap) (k:Nat) (x:Str) (ps:List Str) (F:F3):Prop:=
 (∀ ds M,ds.length ≠ ps.length → F ds M = .bad) ∧ ∃ f fd,mg x = some (.ref f) ∧ PySem.W.keepIn K (.ref f) = true ∧ Binds K fd ps [] ∧ ZgL P w K mg base CX0 k f fd ps (sp3 K ps.length F)
noncomputable def Zay (K:PySem.W.Frag) (mg:Str → Option Value) (x:Str) (st:Stmt) (ps:List Str):Prop:=∃ f fd,Fun K x x st f fd ∧ mg x = some (.ref f) ∧ Binds K fd ps []
theorem Fn3.of {x:Str} {st:Stmt} {N ps:List Str} {k:Nat} {body:S3} (d:Zay K mg x st ps) (S:Zaz N ps (Zr st))
  (hb:∀ (f:Addr) (cdv:Value) (A:Around) (outer:List Env) (s:Shared) (H:Hp) (E:XK),Zdv k (A.deeper (envOfC x (Zr st) s.heap.objs.size f cdv)) → CSs (ZjB CX0 P w K mg base N x (Zr st) f cdv A outer s H E).nox (Zaq st) body):
  Fn3 P w K mg base (k + 1) x ps (mkF ps.length N.length body):=by
 obtain ⟨f,fd,F,m,bi⟩:=d
 exact ⟨fun ds M h=>if_neg h,f,fd,m,F.kp,bi,fn3 F S (hb f)⟩
end
section
variable {X:Cx} {e:Expr} {es:List Expr} {pos p:Pos} {gl:EL3} {x:Str} {k:Nat} {ps:List Str} {F:F3}
theorem ZaB (G:Fn3 X.prog X.w X.K X.mg X.base k x ps F) (hr:Zdv k X.A) (ha:CA X (e :: es) gl) (hg:Gl X x:=by rfl) (hdb:(x == ("__debug__":Str)) = false:=by decide)
  (he:starEach (e :: es) X.env = (false,eval e X.env) :: starEach es X.env:=by rfl) (hpl:(backTo pos (starEach es X.env)).any (·.1) = false:=by rfl):C3 X (.Call (.Name x p) (e :: es) [] pos) (Zac F gl):=by
 obtain ⟨hn,f,fd,m,kp,bi,ok⟩:=G
 refine (Zn1 ok hr hg m kp bi .nil Zr0 ha hdb he hpl).imp fun σ H Q ⟨ι,M,env,S,E,h⟩=>?_
 obtain ⟨ds,M1,e1,h⟩:=Zau.bind h
 refine ⟨ι,M,env,S,E,?_⟩
 rw [e1]
 intro vs H1 ι1 x1 S1 r1
 have hl:ds.length = ps.length:=by
  refine Decidable.byContradiction fun q=>?_
  rw [hn ds M1 q] at h
  exact h.elim
 exact ⟨ι1,M1,ds,S1,by rw [List.append_nil]; exact r1,hl,h.up x1⟩
end
end L3
namespace L3
open PySem PySem.Spec PyProof.Rows L2
noncomputable def tGf (K:PySem.W.Frag) (g:G3):TG:=fun v σ H Q=>∃ ι M env d env',Zav K H ι M ∧ ZbQ K H ι env σ ∧ Rep K H ι d v ∧ g d env = some env' ∧ ∀ σ',ZbQ K H ι env' σ' → Q σ' H
noncomputable def tGs (K:PySem.W.Frag) (is:List Nat):TGs:=fun vs σ H Q=>∃ ι M env ds env',Zav K H ι M ∧ ZbQ K H ι env σ ∧ Zab K H ι ds vs ∧ bindAll is ds env = some env' ∧ ∀ σ',ZbQ K H ι env' σ' → Q σ' H
noncomputable def CG (X:Cx) (tg:Expr) (g:G3):Prop:=PG X tg (tGf X.K g)
noncomputable def CGs (X:Cx) (tg:List Expr) (is:List Nat):Prop:=PGs X tg (tGs X.K is)
theorem PG.imp {X:Cx} {e:Expr} {t t':TG} (h:PG X e t) (i:∀ v σ H Q,t' v σ H Q → t v σ H Q):PG X e t':=fun pins s σ H v u Q I r q=>h pins s σ H v u Q I r (i v σ H Q q)
theorem PGs.imp {X:Cx} {e:List Expr} {t t':TGs} (h:PGs X e t) (i:∀ v σ H Q,t' v σ H Q → t v σ H Q):PGs X e t':=fun pins s σ H v u Q I r q=>h pins s σ H v u Q I r (i v σ H Q q)
section
variable {X:Cx} {e:Expr} {es:List Expr} {pos:Pos}
theorem Zd0 (i:Nat) {x:Str} (hN:X.N.Nodup) (hi:X.N[i]? = some x:=by rfl) (hx:Loc X.env.scope x:=by first | exact Or.inl rfl | exact Or.inr rfl)
  (hf:X.fn x = true ∨ X.env.scope.names.lookup x = some .local:=by first | exact .inl rfl | exact .inr rfl):CG X (.Name x pos) (Zcw i):=PG.imp (Zlj hN hi hx hf) fun v σ H Q ⟨ι,M,env,d,env',S,E,r,q,h⟩=>by
 cases q
 exact h _ (E.set i r)
theorem Zi0:CGs X [] []:=PGs.imp Zn8 fun v σ H Q ⟨ι,M,env,ds,env',S,E,r,q,h⟩=>by
 cases ds with
 | nil=>cases q; exact ⟨r.nil_inv,h σ E⟩
 | cons d ds=>cases q
theorem Zek (i:Nat) {is:List Nat} {x:Str} (hN:X.N.Nodup) (ht:CGs X es is) (hi:X.N[i]? = some x:=by rfl) (hx:Loc X.env.scope x:=by first | exact Or.inl rfl | exact Or.inr rfl)
  (hf:X.fn x = true ∨ X.env.scope.names.lookup x = some .local:=by first | exact .inl rfl | exact .inr rfl) (hs:(assignEach (.Name x pos :: es) X.env).map (·.2) = assign (.Name x pos) X.env :: (assignEach es X.env).map (·.2):=by rfl):
  CGs X (.Name x pos :: es) (i :: is):=PGs.imp (ZnF (Zlj hN hi hx hf) ht hs) fun v σ H Q ⟨ι,M,env,ds,env',S,E,r,q,h⟩=>by
 cases ds with
 | nil=>cases q
 | cons d ds=>
  obtain ⟨v,ws,rfl,r1,r2⟩:=r.cons_inv
  exact ⟨v,ws,rfl,ι,M,env.set i (some d),ds,env',S,E.set i r1,r2,q,h⟩
theorem Zk7 {is:List Nat} {k:Nat} (hc:X.calm = true) (h:CGs X es is) (hl:es.length = is.length:=by rfl) (hn:(assignEach es X.env).length = is.length:=by rfl) (hst:(assignEach es X.env).findIdx? (·.1) = none:=by rfl):CG X (.Tuple es k pos) (Zd4 is):=
 PG.imp (ZqY (n:=is.length) hc h hn hst) fun v σ H Q ⟨ι,M,env,d,env',S,E,r,q,h⟩=>by
  cases d with
  | tup ds=>
   obtain ⟨a,vs,rfl,s,r⟩:=r.tup_inv
   have hlen:∀ (is:List Nat) (ds:List D) (env env':ZaE),bindAll is ds env = some env' → ds.length = is.length:=by
    intro is
    induction is with
    | nil=>intro ds env env' h; cases ds with | nil=>rfl | cons d ds=>cases h
    | cons i is ih=>intro ds env env' h; cases ds with | nil=>cases h | cons d ds=>simp [ih ds _ _ h]
   exact ⟨a,vs,rfl,s,by rw [r.length]; exact hlen _ _ _ _ q,ι,M,env,ds,env',S,E,r,q,h⟩
  | _=>cases q
end
noncomputable def Zle (K:PySem.W.Frag) (H:Hp) (ι:List Addr) (it:It3) (J:It):Prop:=∀ (i:Nat) H2 ι2 M2,Ext K H ι H2 ι2 → Zav K H2 ι2 M2 → locked it M2 = true →
 (∀ d,it.items[i]? = some d → J.go i H2 ∧ ∀ x H3,J.yld i H2 x H3 → H3 = H2 ∧ Rep K H2 ι2 d x) ∧ (i = it.items.length → J.stop i H2)
noncomputable def ZkR (K:PySem.W.Frag) (H:Hp) (ι:List Addr) (R:It → Hp → Prop) (r:R3 It3):Prop:=match r with
 | .ok it M'=>∀ J H' ι',Ext K H ι H' ι' → Zav K H' ι' M' → Zle K H' ι' it J → R J H'
 | _=>False
noncomputable def tIf (K:PySem.W.Frag) (g:I3):TI:=fun σ H R=>∃ ι M env,Zav K H ι M ∧ ZbQ K H ι env σ ∧ ZkR K H ι R (g env M)
noncomputable def CI (X:Cx) (tg e:Expr) (g:I3):Prop:=PI X tg e (tIf X.K g)
theorem PI.imp {X:Cx} {tg e:Expr} {t t':TI} (h:PI X tg e t) (i:∀ σ H Q,t' σ H Q → t σ H Q):PI X tg e t':=fun pins s σ H Q I q=>h pins s σ H Q I (i σ H Q q)
theorem PI.or {X:Cx} {tg e:Expr} {t t':TI} (h:PI X tg e t) (h':PI X tg e t'):PI X tg e (fun σ H R=>t σ H R ∨ t' σ H R):=fun pins s σ H Q I q=>q.elim (h pins s σ H Q I) (h' pins s σ H Q I)
theorem ZkR.bind {K:PySem.W.Frag} {H:Hp} {ι:List Addr} {α:Type} {Q:It → Hp → Prop} {r:R3 α} {k:α → Store → R3 It3} (h:ZkR K H ι Q (r.bind k)):∃ a M,r = .ok a M ∧ ZkR K H ι Q (k a M):=by
 cases r with
 | ok a M=>exact ⟨a,M,rfl,h⟩
 | exc x M=>exact h.elim
 | bad=>exact h.elim
section
variable {K:PySem.W.Frag} {H:Hp} {ι:List Addr}
end
section
variable {X:Cx} {tg e a b:Expr} {pos p:Pos} {f g:E3}
theorem ZqS (h:C3 X e f) (hs:PI X tg e (fun σ H R=>tOf X.K f σ H fun x H1=>∃ z:Str,x = .str z ∧ z.length ≤ SZ ∧ ∀ J,(∀ ι,Zle X.K H1 ι ⟨z.cps.toList.map fun c=>.str [c],none⟩ J) → R J H1)):CI X tg e (ZiM f):=
 PI.imp (PI.or (Zqr h) (PI.or (ZoR h) hs)) fun σ H R ⟨ι,M,env,S,E,h⟩=>by
  obtain ⟨d,M1,e1,h⟩:=ZkR.bind h
  cases d with
  | tup ds=>
   refine .inl ⟨ι,M,env,S,E,?_⟩
   rw [e1]
   intro v H1 ι1 x1 S1 r1
   obtain ⟨a,vs,rfl,s,r⟩:=r1.tup_inv
   refine ⟨a,rfl,⟨vs,s⟩,h _ H1 ι1 x1 S1 ?_⟩
   intro i H2 ι2 M2 x S2 _
   refine ⟨fun d hd=>?_,fun hl=>⟨vs,x.tup _ _ s,by rw [r.length,hl]; exact Nat.le_refl _⟩⟩
   obtain ⟨v,hv,rv⟩:=r.get hd
   refine ⟨⟨vs,v,x.tup _ _ s,hv⟩,fun y H3 hy=>⟨hy.1,?_⟩⟩
   have e:=hy.2 vs (x.tup _ _ s)
   rw [hv] at e
   cases e
   exact rv.mono x
  | scr ds=>
   refine .inr (.inl ⟨ι,M,env,S,E,?_⟩)
   rw [e1]
   intro v H1 ι1 x1 S1 r1
   obtain ⟨a,vs,rfl,s,r⟩:=r1.scr_inv
   refine ⟨a,rfl,⟨vs,s.sq⟩,h _ H1 ι1 x1 S1 ?_⟩
   intro i H2 ι2 M2 x S2 _
   refine ⟨fun d hd=>?_,fun hl=>⟨vs,(x.scr _ _ s).sq,by rw [r.length,hl]; exact Nat.le_refl _⟩⟩
   obtain ⟨v,hv,rv⟩:=r.get hd
   refine ⟨⟨vs,v,(x.scr _ _ s).sq,hv⟩,fun y H3 hy=>⟨hy.1,?_⟩⟩
   have e:=hy.2 vs (x.scr _ _ s).sq
   rw [hv] at e
   cases e
   exact rv.mono x
  | ref n=>
   refine .inr (.inl ⟨ι,M,env,S,E,?_⟩)
   rw [e1]
   intro v H1 ι1 x1 S1 r1
   cases hm:M1[n]? with
   | none=>simp only [hm] at h; exact h.elim
   | some o=>
    cases o with
    | dct kvs=>simp only [hm] at h; exact h.elim
    | fdct kvs=>simp only [hm] at h; exact h.elim
    | lst ds=>
     simp only [hm] at h
     obtain ⟨a,ha,rfl⟩:=r1.ref_inv
     obtain ⟨vs,q,r⟩:=S1.obj n _ a hm ha
     refine ⟨a,rfl,⟨vs,SqL.of q⟩,h _ H1 ι1 x1 S1 ?_⟩
     intro i H2 ι2 M2 x S2 lk
     have lk':M2[n]? = some (.lst ds):=of_decide_eq_true lk
     obtain ⟨vs2,q2,r2⟩:=S2.obj n _ a lk' (x.pre _ _ ha)
     refine ⟨fun d hd=>?_,fun hl=>⟨vs2,SqL.of q2,by rw [r2.length,hl]; exact Nat.le_refl _⟩⟩
     obtain ⟨v,hv,rv⟩:=r2.get hd
     refine ⟨⟨vs2,v,SqL.of q2,hv⟩,fun y H3 hy=>⟨hy.1,?_⟩⟩
     have e:=hy.2 vs2 (SqL.of q2)
     rw [hv] at e
     cases e
     exact rv
  | str z=>
   refine .inr (.inr ⟨ι,M,env,S,E,?_⟩)
   rw [e1]
   intro v H1 ι1 x1 S1 r1
   have hv:=r1.str_inv
   subst hv
   by_cases hz:z.length ≤ SZ
   ·simp only [if_pos hz] at h
    refine ⟨_,rfl,by simpa [Str.length] using hz,fun J hJ=>h J H1 ι1 x1 S1 ?_⟩
    simpa using hJ ι1
   ·simp only [if_neg hz] at h; exact h.elim
  | non=>exact h.elim
  | bl b=>exact h.elim
  | int i=>exact h.elim
theorem Znu {K:PySem.W.Frag} {H:Hp} {ι:List Addr} (lo:Int) (n:Nat):Zle K H ι ⟨Zc9 lo n,none⟩ (Itr lo n):=by
 intro i H2 ι2 M2 x S _
 refine ⟨fun d hd=>?_,fun hl=>?_⟩
 ·unfold Zc9 at hd
  rw [List.getElem?_map] at hd
  cases q:(List.range n)[i]? with
  | none=>rw [q] at hd; cases hd
  | some k=>
   rw [q] at hd
   obtain ⟨hi,e⟩:=List.getElem?_eq_some_iff.mp q
   rw [List.getElem_range] at e
   subst e
   have hd':D.int (lo + (i:Int)) = d:=by simpa using hd
   subst hd'
   exact ⟨(by show i < n; simpa using hi),fun y H3 hy=>⟨hy.1,by rw [hy.2]; exact Rep.int⟩⟩
 ·show n ≤ i
  rw [hl]
  simp [Zc9]
theorem Zfb (hm:X.mg "range" = none) (h:C3 X a f) (hg:Gl X "range":=by rfl) (hs:starEach [a] X.env = [(false,eval a X.env)]:=by rfl) (hs':starEach (a :: []) X.env = (false,eval a X.env) :: starEach [] X.env:=by rfl):CI X tg (.Call (.Name "range" p) [a] [] pos) (ZdD f):=
 PI.imp (Zl3 hg hm (Zc h Zm hs') hs) fun σ H R ⟨ι,M,env,S,E,h⟩=>by
  obtain ⟨d,M1,e1,h⟩:=ZkR.bind h
  refine ⟨ι,M,env,S,E,?_⟩
  have e2:Zb f Zg env M = .ok [d] M1:=by unfold Zb; rw [e1]; rfl
  rw [e2]
  intro vs H1 ι1 x1 S1 r1
  obtain ⟨v,ws,rfl,r,q⟩:=r1.cons_inv
  have:=q.nil_inv
  subst this
  cases d with
  | int j=>
   have hv:=r.int_inv
   subst hv
   by_cases hj:j ≤ 1000000 ∧ -1000000 ≤ j
   ·simp only [if_pos hj] at h
    exact ⟨j,rfl,by omega,by omega,h _ H1 ι1 x1 S1 (Znu 0 j.toNat)⟩
   ·simp only [if_neg hj] at h; exact h.elim
  | _=>exact h.elim
theorem Zjf {iter:Expr} {body:List Stmt} {i:I3} {g:G3} {u:S3} (hxe:X.xe = fun _ _=>False) (hc:X.calm = true) (hi:CI X tg iter i) (hg:CG X tg g) (hb:CSs X body u) (hs:∀ x,foldedSetIterable iter X.env x = pure x:=by intro _; rfl):
  CS X (.For tg iter body [] pos) (Zjc i g u):=(Znb (by rw [hxe]; exact PassesOwn.never) hc hi hg hb hs).imp fun D σ H ⟨ι,M,env,S,E,h⟩=>by
 unfold Zjc at h
 cases q:i env M with
 | exc x M1=>rw [q] at h; exact h.elim
 | bad=>rw [q] at h; exact h.elim
 | ok it M1=>
  rw [q] at h
  refine ⟨ι,M,env,S,E,?_⟩
  rw [q]
  intro J H1 ι1 x1 S1 ok
  refine ⟨fun i m σ2 H2=>m = it.items.length - i ∧ i ≤ it.items.length ∧ ∃ ι2 M2 env2,Ext X.K H1 ι1 H2 ι2 ∧ Zav X.K H2 ι2 M2 ∧ ZbQ X.K H2 ι2 env2 σ2 ∧ Zfo X.K H2 ι2 D (ZdW it g u (it.items.drop i) env2 M2),
   ⟨_,rfl,Nat.zero_le _,ι1,M1,env,Ext.refl,S1,E.mono x1,Zfo.up x1 h⟩,?_⟩
  rintro i m σ2 H2 ⟨rfl,hi,ι2,M2,env2,x2,S2,E2,h2⟩
  by_cases hlt:i < it.items.length
  ·have hd:it.items[i]? = some it.items[i]:=by simp [hlt]
   rw [List.drop_eq_getElem_cons hlt] at h2
   unfold ZdW at h2
   by_cases lk:locked it M2 = true
   ·rw [if_pos lk] at h2
    obtain ⟨go,yl⟩:=(ok i H2 ι2 M2 x2 S2 lk).1 _ hd
    cases eg:g it.items[i] env2 with
    | none=>rw [eg] at h2; exact h2.elim
    | some env3=>
     rw [eg] at h2
     refine .inr ⟨go,fun σ' H'=>∃ ι3 M3 env4,Ext X.K H2 ι2 H' ι3 ∧ Zav X.K H' ι3 M3 ∧ ZbQ X.K H' ι3 env4 σ' ∧ Zfo X.K H' ι3 D (ZdW it g u (it.items.drop (i + 1)) env4 M3),
      fun σ' H' ⟨ι3,M3,env4,x3,S3,E3,h3⟩=>⟨it.items.length - (i + 1),by omega,rfl,hlt,ι3,M3,env4,x2.trans x3,S3,E3,h3⟩,fun x H' hy=>?_⟩
     obtain ⟨rfl,rx⟩:=yl x H' hy
     refine ⟨ι2,M2,env2,_,env3,S2,E2,rx,eg,fun σ' E'=>⟨ι2,M2,env3,S2,E',?_⟩⟩
     cases qu:u env3 M2 with
     | nx e' M'=>simp only [qu] at h2; exact fun σ' H' ι' x' S' E'=>⟨ι',M',e',x',S',E',h2.up x'⟩
     | ct e' M'=>simp only [qu] at h2; exact fun σ' H' ι' x' S' E'=>⟨ι',M',e',x',S',E',h2.up x'⟩
     | bk e' M'=>simp only [qu] at h2; exact h2
     | rt d M'=>simp only [qu] at h2; exact h2
     | exc x' M'=>simp only [qu] at h2; exact h2.elim
     | bad=>simp only [qu] at h2; exact h2.elim
   ·rw [if_neg lk] at h2; exact h2.elim
  ·have e0:i = it.items.length:=by omega
   subst e0
   rw [List.drop_length] at h2
   unfold ZdW at h2
   by_cases lk:locked it M2 = true
   ·rw [if_pos lk] at h2
    exact .inl ⟨(ok _ H2 ι2 M2 x2 S2 lk).2 rfl,h2 σ2 H2 ι2 Ext.refl S2 E2⟩
   ·rw [if_neg lk] at h2; exact h2.elim
theorem ZmI {c1:Expr} {body:List Stmt} {u:S3} (hxe:X.xe = fun _ _=>False) (hc:CT X c1 f) (hb:CSs X body u):CS X (.While c1 body [] pos) (ZkI f u):=(Znq (by rw [hxe]; exact PassesOwn.never) hc hb).imp fun D σ H ⟨ι,M,env,S,E,h⟩=>by
 refine ⟨fun m σ2 H2=>∃ ι2 M2 env2,Zav X.K H2 ι2 M2 ∧ ZbQ X.K H2 ι2 env2 σ2 ∧ Zfo X.K H2 ι2 D (Zea f u m env2 M2),⟨1000000,ι,M,env,S,E,h⟩,?_⟩
 rintro m σ2 H2 ⟨ι2,M2,env2,S2,E2,h2⟩
 cases m with
 | zero=>exact h2.elim
 | succ m=>
  refine ⟨ι2,M2,env2,S2,E2,?_⟩
  unfold Zea at h2
  cases q:f env2 M2 with
  | exc x M1=>rw [q] at h2; exact h2.elim
  | bad=>rw [q] at h2; exact h2.elim
  | ok d M1=>
   rw [q] at h2
   cases d with
   | bl k=>
    cases k with
    | false=>
     intro H3 ι3 x3 S3
     rw [if_neg (by decide)]
     exact h2 σ2 H3 ι3 x3 S3 (E2.mono x3)
    | true=>
     intro H3 ι3 x3 S3
     rw [if_pos rfl]
     refine ⟨fun σ' H'=>∃ ι4 M4 env4,Zav X.K H' ι4 M4 ∧ ZbQ X.K H' ι4 env4 σ' ∧ Zfo X.K H' ι4 D (Zea f u m env4 M4),fun σ' H' q=>⟨m,Nat.lt_succ_self _,q⟩,ι3,M1,env2,S3,E2.mono x3,?_⟩
     have h3:=Zfo.up x3 h2
     cases qu:u env2 M1 with
     | nx e' M'=>simp only [qu] at h3; exact fun σ' H' ι' x' S' E'=>⟨ι',M',e',S',E',h3.up x'⟩
     | ct e' M'=>simp only [qu] at h3; exact fun σ' H' ι' x' S' E'=>⟨ι',M',e',S',E',h3.up x'⟩
     | bk e' M'=>simp only [qu] at h3; exact h3
     | rt d M'=>simp only [qu] at h3; exact h3
     | exc x' M'=>simp only [qu] at h3; exact h3.elim
     | bad=>simp only [qu] at h3; exact h3.elim
   | _=>exact h2.elim
end
end L3
namespace L3
open PySem PySem.Spec PyProof.Rows L2
theorem Rep.non_iff {K:PySem.W.Frag} {H:Hp} {ι:List Addr} {d:D} {v:V} (r:Rep K H ι d v):decide (v = V.non) = decide (d = D.non):=by
 cases d with
 | non=>rw [r.non_inv]; rfl
 | bl b=>rw [r.bl_inv]; simp
 | int i=>rw [r.int_inv]; simp
 | str x=>rw [r.str_inv]; simp
 | tup ds=>obtain ⟨a,vs,rfl,_⟩:=r.tup_inv; simp
 | scr ds=>obtain ⟨a,vs,rfl,_⟩:=r.scr_inv; simp
 | ref n=>obtain ⟨a,_,rfl⟩:=r.ref_inv; simp
theorem Zfy {x y:List Nat}:decide (V.str ⟨x.toArray⟩ = V.str ⟨y.toArray⟩) = (x == y):=by
 by_cases h:x = y
 ·subst h; simp
 ·rw [decide_eq_false (fun e=>h (by injection e with e1; injection e1 with e2; simpa using congrArg Array.toList e2))]
  exact (beq_eq_false_iff_ne.mpr h).symm
section
variable {X:Cx}
theorem Znz:OpR X (binaryOp .Add) (fun x y H Q=>∃ a b ys,x = .ref a ∧ y = .ref b ∧ SqT X.K H a [] ∧ SqT X.K H b ys ∧ Q (.ref b) H):=by
 intro pins s σ H x y v u Q I rx ry h
 obtain ⟨a,b,ys,rfl,rfl,ha,hb,q⟩:=h
 cases rx
 cases ry
 obtain ⟨its,r1,p1,_⟩:=I.tuple ha
 obtain ⟨its2,r2,p2,_⟩:=I.tuple hb
 cases r1
 obtain ⟨⟨cls,dd,data,sl⟩,ho,hc,n,hd⟩:=id p1
 obtain ⟨⟨cls2,dd2,data2,sl2⟩,ho2,hc2,n2,hd2⟩:=id p2
 simp only at hc hd hc2 hd2
 subst hc hd hc2 hd2
 exact concat_meets ⟨_,ho,rfl⟩ ⟨_,ho2,rfl⟩ noFill_tuple_add seq_tuple_add PySem.F.slot_tuple_add PySem.F.entry_tuple_add (PySem.F.args_tuple_add_2 _ _)
   (tuple_addW0 a b _ its2.toArray n n2 dd dd2 sl sl2 (by simp)) ⟨ho,ho2,⟨.ref b,H,I,rfl,q⟩⟩
theorem Zod (x y:List Nat):(⟨x.toArray⟩:Str) ++ ⟨y.toArray⟩ = ⟨(x ++ y).toArray⟩:=by
 show Str.append _ _ = _
 unfold Str.append
 simp
theorem ZbI:OpR X (binaryOp .Add) (r2 X.K Zar):=OpR.imp (OpR.or Zpk (OpR.or ZkH (OpR.or Zqh (OpR.or Zoz Znz)))) fun x y H Q ⟨ι,M,a,b,S,ra,rb,h⟩=>by
 cases a with
 | int i=>cases b with
  | int j=>exact .inl ⟨i,j,ra.int_inv,rb.int_inv,Zau.ok h S Rep.int⟩
  | _=>exact h.elim
 | str x=>cases b with
  | str y=>
   simp only [Zar] at h
   split at h
   ·rename_i hz
    refine .inr (.inl ⟨_,_,ra.str_inv,rb.str_inv,?_,?_⟩)
    ·have:=Zcg
     simp only [Str.length,List.size_toArray]
     omega
    ·rw [Zod]; exact Zau.ok h S Rep.str
   ·exact h.elim
  | _=>exact h.elim
 | tup x=>cases b with
  | tup y=>
   simp only [Zar] at h
   split at h
   ·rename_i hz
    obtain ⟨p,vs,rfl,s,r⟩:=ra.tup_inv
    obtain ⟨q,ws,rfl,s',r'⟩:=rb.tup_inv
    by_cases hv:vs = []
    ·subst hv
     have hx:x = []:=by have:=r.length; simpa using this.symm
     subst hx
     exact .inr (.inr (.inr (.inr ⟨p,q,ws,rfl,rfl,s,s',Zau.ok h S (Rep.tup s' r')⟩)))
    ·refine .inr (.inr (.inr (.inl ⟨p,q,vs,ws,rfl,rfl,s,s',hv,?_,fun hw=>?_,fun hw p' hp=>?_⟩)))
     ·have:=Zcg
      rw [r.length,r'.length]
      omega
     ·subst hw
      have hy:y = []:=by have:=r'.length; simpa using this.symm
      subst hy
      rw [List.append_nil] at h
      exact Zau.ok h S (Rep.tup s r)
     ·obtain ⟨x2,S2,r2⟩:=S.tupl hp (r.append r')
      exact h _ _ _ x2 S2 r2
   ·exact h.elim
  | _=>exact h.elim
 | ref n=>cases b with
  | ref m=>
   simp only [Zar] at h
   cases hn:M[n]? with
   | none=>simp only [hn] at h; exact h.elim
   | some o=>
    cases o with
    | dct _=>simp only [hn] at h; exact h.elim
    | fdct _=>simp only [hn] at h; exact h.elim
    | lst x=>
     cases hm:M[m]? with
     | none=>simp only [hn,hm] at h; exact h.elim
     | some o=>
      cases o with
      | dct _=>simp only [hn,hm] at h; exact h.elim
      | fdct _=>simp only [hn,hm] at h; exact h.elim
      | lst y=>
       simp only [hn,hm] at h
       split at h
       ·rename_i hz
        obtain ⟨p,hp,rfl⟩:=ra.ref_inv
        obtain ⟨q,hq,rfl⟩:=rb.ref_inv
        obtain ⟨vs,e1,r1⟩:=S.obj n _ p hn hp
        obtain ⟨ws,e2,r2⟩:=S.obj m _ q hm hq
        refine .inr (.inr (.inl ⟨p,q,vs,ws,rfl,rfl,e1,e2,?_,fun p' hp'=>?_⟩))
        ·have:=Zcg
         rw [r1.length,r2.length]
         omega
        ·obtain ⟨x2,S2,r3⟩:=S.lst hp' (r1.append r2)
         exact h _ _ _ x2 S2 r3
       ·exact h.elim
  | _=>exact h.elim
 | _=>cases b <;> exact h.elim
theorem Zfp:OpR X (binaryOp .Sub) (r2 X.K Zds):=OpR.imp Zqb fun x y H Q ⟨ι,M,a,b,S,ra,rb,h⟩=>by
 cases a <;> cases b <;> first | exact h.elim | exact ⟨_,_,ra.int_inv,rb.int_inv,Zau.ok h S Rep.int⟩
theorem Zcp:OpR X (binaryOp .Mod) (r2 X.K Za3):=OpR.imp ZpO fun x y H Q ⟨ι,M,a,b,S,ra,rb,h⟩=>by
 cases a with
 | int i=>cases b with
  | int j=>
   simp only [Za3] at h
   split at h
   ·rename_i hj
    exact ⟨i,j,ra.int_inv,rb.int_inv,hj,Zau.ok h S Rep.int⟩
   ·exact h.elim
  | _=>exact h.elim
 | _=>cases b <;> exact h.elim
theorem ZcT:OpR X (binaryOp .FloorDiv) (r2 X.K Zbj):=OpR.imp ZoQ fun x y H Q ⟨ι,M,a,b,S,ra,rb,h⟩=>by
 cases a with
 | int i=>cases b with
  | int j=>
   simp only [Zbj] at h
   split at h
   ·rename_i hj
    exact ⟨i,j,ra.int_inv,rb.int_inv,hj,Zau.ok h S Rep.int⟩
   ·exact h.elim
  | _=>exact h.elim
 | _=>cases b <;> exact h.elim
theorem Zlk:OpR X (binaryOp .Pow) (r2 X.K Ziq):=OpR.imp Zp8 fun x y H Q ⟨ι,M,a,b,S,ra,rb,h⟩=>by
 cases a with
 | int i=>cases b with
  | int j=>
   simp only [Ziq] at h
   split at h
   ·rename_i hj
    exact ⟨i,j,ra.int_inv,rb.int_inv,⟨hj.1,by omega,by have:=hj.2.2; omega⟩,Zau.ok h S Rep.int⟩
   ·exact h.elim
  | _=>exact h.elim
 | _=>cases b <;> exact h.elim
theorem Zjo:UnR X (unaryOp .USub) (r1 X.K ZeF):=UnR.imp Zqy fun x H Q ⟨ι,M,a,S,ra,h⟩=>by
 cases a with
 | int i=>exact ⟨i,ra.int_inv,Zau.ok h S Rep.int⟩
 | _=>exact h.elim
theorem ZpC:OpR X (compareOp .Lt) (r2 X.K ZkW):=OpR.imp Zro fun x y H Q ⟨ι,M,a,b,S,ra,rb,h⟩=>by
 cases a <;> cases b <;> first | exact h.elim | exact ⟨_,_,ra.int_inv,rb.int_inv,Zau.ok h S Rep.bl⟩
theorem ZrN:OpR X (compareOp .LtE) (r2 X.K Zg6):=OpR.imp Zre fun x y H Q ⟨ι,M,a,b,S,ra,rb,h⟩=>by
 cases a <;> cases b <;> first | exact h.elim | exact ⟨_,_,ra.int_inv,rb.int_inv,Zau.ok h S Rep.bl⟩
theorem Zla:OpR X (compareOp .Gt) (r2 X.K Zfk):=OpR.imp Zrw fun x y H Q ⟨ι,M,a,b,S,ra,rb,h⟩=>by
 cases a <;> cases b <;> first | exact h.elim | exact ⟨_,_,ra.int_inv,rb.int_inv,Zau.ok h S Rep.bl⟩
theorem ZrZ:OpR X (compareOp .GtE) (r2 X.K Zqo):=OpR.imp ZrY fun x y H Q ⟨ι,M,a,b,S,ra,rb,h⟩=>by
 cases a <;> cases b <;> first | exact h.elim | exact ⟨_,_,ra.int_inv,rb.int_inv,Zau.ok h S Rep.bl⟩
theorem Zpq:OpR X (compareOp .Is) (r2 X.K Zjq):=OpR.imp ZqG fun x y H Q ⟨ι,M,a,b,S,ra,rb,h⟩=>by
 cases b with
 | non=>exact ⟨rb.non_inv,by rw [ra.non_iff]; exact Zau.ok h S Rep.bl⟩
 | _=>exact h.elim
theorem Ze5:OpR X (compareOp .IsNot) (r2 X.K Zcf):=OpR.imp Zoh fun x y H Q ⟨ι,M,a,b,S,ra,rb,h⟩=>by
 cases b with
 | non=>exact ⟨rb.non_inv,by rw [ra.non_iff]; exact Zau.ok h S Rep.bl⟩
 | _=>exact h.elim
end
theorem units_in1 (A:Around):A.in1.units = A.units + 1:=rfl
section
variable {X:Cx} {pins:List (Addr × Obj)} {σ:St} {H:Hp} {s:Shared} {ι:List Addr}
theorem ZcU {e:Nat → Bool}:∀ {x y:List D},x.length = y.length → (∀ (j:Nat) a b,x[j]? = some a → y[j]? = some b → e j = deq a b) → (List.range x.length).all e = Zb1 x y:=by
 intro x
 induction x generalizing e with
 | nil=>intro y h _; cases y with | nil=>rfl | cons _ _=>simp at h
 | cons a x ih=>
  intro y h he
  cases y with
  | nil=>simp at h
  | cons b y=>
   rw [List.length_cons,List.range_succ_eq_map,List.all_cons,List.all_map,he 0 a b rfl rfl]
   rw [Zb1]
   congr 1
   exact ih (e:=e ∘ Nat.succ) (by simpa using h) fun j a' b' h1 h2=>he (j + 1) a' b' (by simpa using h1) (by simpa using h2)
theorem Zen:∀ {x y:List D},Zb1 x y = true → x.length = y.length
 | [],[],_=>rfl
 | [],_ :: _,h=>by simp [Zb1] at h
 | _ :: _,[],h=>by simp [Zb1] at h
 | a :: x,b :: y,h=>by
  simp only [Zb1,Bool.and_eq_true] at h
  simp [Zen h.2]
theorem Rep.fun1 (I:Inv X pins σ H s):∀ (n:Nat) (a b:D) (v:V),Zax n a = true → Zax n b = true → Rep X.K H ι a v → Rep X.K H ι b v → deq a b = true:=by
 intro n
 induction n with
 | zero=>
  intro a b v ha hb r q
  cases a with
  | non=>have:=r.non_inv; subst this; cases b <;> simp_all [Zax,Rep,deq]
  | bl x=>have:=r.bl_inv; subst this; cases b <;> simp_all [Zax,Rep,deq]
  | int x=>have:=r.int_inv; subst this; cases b <;> simp_all [Zax,Rep,deq]
  | str x=>have:=r.str_inv; subst this; cases b <;> simp_all [Zax,Rep,deq]
  | _=>simp [Zax] at ha
 | succ n ih=>
  intro a b v ha hb r q
  cases a with
  | non=>have:=r.non_inv; subst this; cases b <;> simp_all [Zax,Rep,deq]
  | bl x=>have:=r.bl_inv; subst this; cases b <;> simp_all [Zax,Rep,deq]
  | int x=>have:=r.int_inv; subst this; cases b <;> simp_all [Zax,Rep,deq]
  | str x=>have:=r.str_inv; subst this; cases b <;> simp_all [Zax,Rep,deq]
  | tup ds=>
   obtain ⟨p,vs,rfl,s1,r1⟩:=r.tup_inv
   cases b with
   | tup es=>
    obtain ⟨p',ws,e,s2,r2⟩:=q.tup_inv
    cases e
    have e:=I.tuple_inj s1 s2
    subst e
    rw [deq]
    have h1:ds.all (Zax n) = true:=ha
    have h2:es.all (Zax n) = true:=hb
    have key:∀ (ds es:List D) (vs:List V),ds.all (Zax n) = true → es.all (Zax n) = true → Zab X.K H ι ds vs → Zab X.K H ι es vs → Zb1 ds es = true:=by
     intro ds
     induction ds with
     | nil=>intro es vs _ _ r1 r2; have:=r1.nil_inv; subst this; cases es with | nil=>rfl | cons _ _=>obtain ⟨_,_,e,_⟩:=r2.cons_inv; cases e
     | cons d ds ih2=>
      intro es vs h1 h2 r1 r2
      obtain ⟨v,ws,rfl,q1,q2⟩:=r1.cons_inv
      cases es with
      | nil=>have:=r2.nil_inv; cases this
      | cons e es=>
       obtain ⟨v',ws',z,q3,q4⟩:=r2.cons_inv
       cases z
       rw [List.all_cons,Bool.and_eq_true] at h1 h2
       rw [Zb1,ih d e v h1.1 h2.1 q1 q3,ih2 es ws h1.2 h2.2 q2 q4]
       rfl
    exact key ds es vs h1 h2 r1 r2
   | non=>have:=q.non_inv; cases this
   | bl _=>have:=q.bl_inv; cases this
   | int _=>have:=q.int_inv; cases this
   | str _=>have:=q.str_inv; cases this
   | _=>simp [Zax] at hb
  | _=>simp [Zax] at ha
theorem Zed (A:Around) (a b:D) (x y:V) (u v:Value) (ha:Zbt a = true) (hb:Zbt b = true) (ra:Rep X.K H ι a x) (rb:Rep X.K H ι b y) (ru:RelV x u) (rv:RelV y v):SeqAt.EqAt A s u v (deq a b):=by
 cases a with
 | non=>have:=ra.non_inv; subst this; cases ru; cases b with
  | non=>have:=rb.non_inv; subst this; cases rv; exact SeqAt.EqAt.same _
  | bl k=>have:=rb.bl_inv; subst this; cases rv; exact SeqAt.EqAt.none_bool _
  | int k=>have:=rb.int_inv; subst this; obtain ⟨t,rfl⟩:=rv; exact SeqAt.EqAt.none_int _ _
  | str k=>have:=rb.str_inv; subst this; obtain ⟨t,rfl⟩:=rv; exact SeqAt.EqAt.none_str _ _
  | _=>simp [Zbt] at hb
 | bl i=>have:=ra.bl_inv; subst this; cases ru; cases b with
  | non=>have:=rb.non_inv; subst this; cases rv; exact SeqAt.EqAt.bool_none _
  | bl k=>have:=rb.bl_inv; subst this; cases rv; exact SeqAt.EqAt.bool_bool _ _
  | int k=>have:=rb.int_inv; subst this; obtain ⟨t,rfl⟩:=rv; exact SeqAt.EqAt.bool_int _ _ _
  | str k=>have:=rb.str_inv; subst this; obtain ⟨t,rfl⟩:=rv; exact SeqAt.EqAt.bool_str _ _ _
  | _=>simp [Zbt] at hb
 | int i=>have:=ra.int_inv; subst this; obtain ⟨t0,rfl⟩:=ru; cases b with
  | non=>have:=rb.non_inv; subst this; cases rv; exact SeqAt.EqAt.int_none _ _
  | bl k=>have:=rb.bl_inv; subst this; cases rv; exact SeqAt.EqAt.int_bool _ _ _
  | int k=>have:=rb.int_inv; subst this; obtain ⟨t,rfl⟩:=rv; exact SeqAt.EqAt.int_int _ _ _ _
  | str k=>have:=rb.str_inv; subst this; obtain ⟨t,rfl⟩:=rv; exact SeqAt.EqAt.int_str _ _ _ _
  | _=>simp [Zbt] at hb
 | str i=>have:=ra.str_inv; subst this; obtain ⟨t0,rfl⟩:=ru; cases b with
  | non=>have:=rb.non_inv; subst this; cases rv; exact SeqAt.EqAt.str_none _ _
  | bl k=>have:=rb.bl_inv; subst this; cases rv; exact SeqAt.EqAt.str_bool _ _ _
  | int k=>have:=rb.int_inv; subst this; obtain ⟨t,rfl⟩:=rv; exact SeqAt.EqAt.str_int _ _ _ _
  | str k=>have:=rb.str_inv; subst this; obtain ⟨t,rfl⟩:=rv; exact (by
    have e:deq (.str i) (.str k) = ((⟨i.toArray⟩:Str) == ⟨k.toArray⟩):=by
     rw [deq,← Zfy]
     by_cases h:(⟨i.toArray⟩:Str) = ⟨k.toArray⟩
     ·simp [h]
     ·simp [h]
    rw [e]
    exact SeqAt.EqAt.str_str _ _ _ _)
  | _=>simp [Zbt] at hb
 | _=>simp [Zbt] at ha
theorem Zjb (I:Inv X pins σ H s):∀ (n:Nat) (A:Around) (a b:D) (x y:V) (u v:Value),A.units + n + 1 < cLine → Zax n a = true → Zax n b = true → Rep X.K H ι a x → Rep X.K H ι b y → RelV x u → RelV y v → SeqAt.EqAt A s u v (deq a b):=by
 intro n
 induction n with
 | zero=>
  intro A a b x y u v hu ha hb ra rb ru rv
  have f:∀ d:D,Zax 0 d = true → Zbt d = true:=fun d h=>by cases d <;> simp_all [Zax,Zbt]
  exact Zed A a b x y u v (f a ha) (f b hb) ra rb ru rv
 | succ n ih=>
  intro A a b x y u v hu ha hb ra rb ru rv
  have hu0:A.units + 0 + 1 < cLine:=by omega
  have hu1:A.units < cLine:=by omega
  cases a with
  | tup ds=>
   obtain ⟨p,vs,rfl,s1,r1⟩:=ra.tup_inv
   cases ru
   obtain ⟨its,rvs,ht,_⟩:=I.tuple s1
   have it1:s.heap.IsTuple p its.toArray:=ht
   cases b with
   | tup es=>
    obtain ⟨p',ws,rfl,s2,r2⟩:=rb.tup_inv
    cases rv
    obtain ⟨its2,rws,ht2,_⟩:=I.tuple s2
    have it2:s.heap.IsTuple p' its2.toArray:=ht2
    by_cases hp:p = p'
    ·subst hp
     rw [Rep.fun1 I (n + 1) _ _ _ ha hb ra rb]
     exact SeqAt.EqAt.same _
    ·refine SeqAt.EqAt.of_refs hp ?_
     have e1:its.length = ds.length:=by rw [← rvs.length,r1.length]
     have e2:its2.length = es.length:=by rw [← rws.length,r2.length]
     have key:((List.range (min its.toArray.size its2.toArray.size)).all (fun j=>match ds[j]?,es[j]? with | some a,some b=>deq a b | _,_=>false) && its.toArray.size == its2.toArray.size) = deq (.tup ds) (.tup es):=by
      rw [deq,List.size_toArray,List.size_toArray,e1,e2]
      by_cases hl:ds.length = es.length
      ·rw [hl,Nat.min_self,beq_self_eq_true,Bool.and_true,← hl]
       exact ZcU hl fun j a b h1 h2=>by rw [h1,h2]
      ·have z:Zb1 ds es = false:=by
        cases q:Zb1 ds es with
        | false=>rfl
        | true=>exact absurd (Zen q) hl
       rw [z,beq_eq_false_iff_ne.mpr hl,Bool.and_false]
     rw [← key]
     refine SeqAt.RcAt.tuples it1 it2 hu1 fun j h1 h2=>?_
     have h1':j < ds.length:=by rw [← e1]; simpa using h1
     have h2':j < es.length:=by rw [← e2]; simpa using h2
     have q1:ds[j]? = some ds[j]:=by simp [h1']
     have q2:es[j]? = some es[j]:=by simp [h2']
     rw [q1,q2]
     obtain ⟨v1,g1,z1⟩:=r1.get q1
     obtain ⟨v2,g2,z2⟩:=r2.get q2
     obtain ⟨u1,k1,l1⟩:=rvs.get g1
     obtain ⟨u2,k2,l2⟩:=rws.get g2
     have m1:its.toArray[j] = u1:=by
      have:=List.getElem?_eq_some_iff.mp k1
      simpa using this.2
     have m2:its2.toArray[j] = u2:=by
      have:=List.getElem?_eq_some_iff.mp k2
      simpa using this.2
     rw [m1,m2]
     exact ih A.in1 ds[j] es[j] v1 v2 u1 u2 (by rw [units_in1]; omega) (List.all_eq_true.mp (show ds.all (Zax n) = true from ha) _ (List.getElem_mem h1')) (List.all_eq_true.mp (show es.all (Zax n) = true from hb) _ (List.getElem_mem h2')) z1 z2 l1 l2
   | non=>have:=rb.non_inv; subst this; cases rv; exact SeqAt.EqAt.tuple_none it1 hu1
   | bl k=>have:=rb.bl_inv; subst this; cases rv; exact SeqAt.EqAt.tuple_bool _ it1 hu1
   | int k=>have:=rb.int_inv; subst this; obtain ⟨t,rfl⟩:=rv; exact SeqAt.EqAt.tuple_int _ _ it1 hu1
   | str k=>have:=rb.str_inv; subst this; obtain ⟨t,rfl⟩:=rv; exact SeqAt.EqAt.tuple_str _ _ it1 hu1
   | _=>simp [Zax] at hb
  | non=>cases b with
   | tup es=>
    have:=ra.non_inv; subst this; cases ru
    obtain ⟨p',ws,rfl,s2,r2⟩:=rb.tup_inv
    cases rv
    obtain ⟨its2,rws,ht2,_⟩:=I.tuple s2
    exact SeqAt.EqAt.none_tuple (show s.heap.IsTuple p' its2.toArray from ht2) hu1
   | scr _=>simp [Zax] at hb
   | ref _=>simp [Zax] at hb
   | _=>exact Zed A _ _ x y u v (by rfl) (by rfl) ra rb ru rv
  | bl i=>cases b with
   | tup es=>
    have:=ra.bl_inv; subst this; cases ru
    obtain ⟨p',ws,rfl,s2,r2⟩:=rb.tup_inv
    cases rv
    obtain ⟨its2,rws,ht2,_⟩:=I.tuple s2
    exact SeqAt.EqAt.bool_tuple _ (show s.heap.IsTuple p' its2.toArray from ht2) hu1
   | scr _=>simp [Zax] at hb
   | ref _=>simp [Zax] at hb
   | _=>exact Zed A _ _ x y u v (by rfl) (by rfl) ra rb ru rv
  | int i=>cases b with
   | tup es=>
    have:=ra.int_inv; subst this; obtain ⟨t0,rfl⟩:=ru
    obtain ⟨p',ws,rfl,s2,r2⟩:=rb.tup_inv
    cases rv
    obtain ⟨its2,rws,ht2,_⟩:=I.tuple s2
    exact SeqAt.EqAt.int_tuple _ _ (show s.heap.IsTuple p' its2.toArray from ht2) hu1
   | scr _=>simp [Zax] at hb
   | ref _=>simp [Zax] at hb
   | _=>exact Zed A _ _ x y u v (by rfl) (by rfl) ra rb ru rv
  | str i=>cases b with
   | tup es=>
    have:=ra.str_inv; subst this; obtain ⟨t0,rfl⟩:=ru
    obtain ⟨p',ws,rfl,s2,r2⟩:=rb.tup_inv
    cases rv
    obtain ⟨its2,rws,ht2,_⟩:=I.tuple s2
    exact SeqAt.EqAt.str_tuple _ _ (show s.heap.IsTuple p' its2.toArray from ht2) hu1
   | scr _=>simp [Zax] at hb
   | ref _=>simp [Zax] at hb
   | _=>exact Zed A _ _ x y u v (by rfl) (by rfl) ra rb ru rv
  | _=>simp [Zax] at ha
end
end L3
namespace L3
open PySem PySem.Spec PyProof.Rows L2
section
variable {X:Cx}
theorem ZpF {pins:List (Addr × Obj)} {σ:St} {H:Hp} {s:Shared} {ι:List Addr} {M:Store} {a b:D} {x y:V} {u v:Value} {k:Bool} (hu:X.A.units + 80 < cLine) (I:Inv X pins σ H s) (S:Zav X.K H ι M)
  (ra:Rep X.K H ι a x) (rb:Rep X.K H ι b y) (ru:RelV x u) (rv:RelV y v) (h:eqD a b M = some k):SeqAt.RcAt X.A s u v k:=by
 cases a with
 | ref n=>
  cases b with
  | ref m=>
   simp only [eqD] at h
   cases hn:M[n]? with
   | none=>simp [hn] at h
   | some o=>
    cases o with
    | dct _=>simp [hn] at h
    | fdct _=>simp [hn] at h
    | lst ds=>
     cases hm:M[m]? with
     | none=>simp [hn,hm] at h
     | some o=>
      cases o with
      | dct _=>simp [hn,hm] at h
      | fdct _=>simp [hn,hm] at h
      | lst es=>
       simp only [hn,hm] at h
       split at h
       ·rename_i hp
        cases h
        rw [Bool.and_eq_true] at hp
        obtain ⟨p,hp1,rfl⟩:=ra.ref_inv
        obtain ⟨q,hq1,rfl⟩:=rb.ref_inv
        cases ru
        cases rv
        obtain ⟨vs,e1,r1⟩:=S.obj n _ p hn hp1
        obtain ⟨ws,e2,r2⟩:=S.obj m _ q hm hq1
        obtain ⟨its,rvs,pl1,_⟩:=I.list (SqL.of e1)
        obtain ⟨its2,rws,pl2,_⟩:=I.list (SqL.of e2)
        have it1:=pl1.isList
        have it2:=pl2.isList
        have l1:its.length = ds.length:=by rw [← rvs.length,r1.length]
        have l2:its2.length = es.length:=by rw [← rws.length,r2.length]
        have hu1:X.A.units < cLine:=by omega
        by_cases hl:ds.length = es.length
        ·have key:(List.range its.toArray.size).all (fun j=>match ds[j]?,es[j]? with | some a,some b=>deq a b | _,_=>false) = Zb1 ds es:=by
          rw [List.size_toArray,l1]
          exact ZcU hl fun j a b h1 h2=>by rw [h1,h2]
         rw [← key]
         refine SeqAt.RcAt.lists it1 it2 (by rw [List.size_toArray,List.size_toArray,l1,l2,hl]) hu1 fun j h1 h2=>?_
         have h1':j < ds.length:=by rw [← l1]; simpa using h1
         have h2':j < es.length:=by rw [← l2]; simpa using h2
         have q1:ds[j]? = some ds[j]:=by simp [h1']
         have q2:es[j]? = some es[j]:=by simp [h2']
         rw [q1,q2]
         obtain ⟨v1,g1,z1⟩:=r1.get q1
         obtain ⟨v2,g2,z2⟩:=r2.get q2
         obtain ⟨u1,k1,w1⟩:=rvs.get g1
         obtain ⟨u2,k2,w2⟩:=rws.get g2
         have m1:its.toArray[j] = u1:=by
          have:=List.getElem?_eq_some_iff.mp k1
          simpa using this.2
         have m2:its2.toArray[j] = u2:=by
          have:=List.getElem?_eq_some_iff.mp k2
          simpa using this.2
         rw [m1,m2]
         exact Zjb I DEEP X.A.in1 ds[j] es[j] v1 v2 u1 u2 (by rw [units_in1]; show X.A.units + 1 + 60 + 1 < cLine; omega) (List.all_eq_true.mp hp.1 _ (List.getElem_mem h1')) (List.all_eq_true.mp hp.2 _ (List.getElem_mem h2')) z1 z2 w1 w2
        ·have z:Zb1 ds es = false:=by
          cases q:Zb1 ds es with
          | false=>rfl
          | true=>exact absurd (Zen q) hl
         rw [z]
         exact SeqAt.RcAt.lists_lengths it1 it2 (by rw [List.size_toArray,List.size_toArray,l1,l2]; simpa using hl) hu1
       ·cases h
  | _=>simp [eqD] at h
 | int i=>cases b with
  | int j=>
   simp only [eqD] at h
   cases h
   have:=ra.int_inv; subst this; have:=rb.int_inv; subst this
   obtain ⟨t,rfl⟩:=ru
   obtain ⟨t',rfl⟩:=rv
   rw [← Bool.beq_eq_decide_eq]
   exact SeqAt.RcAt.int_int _ _ _ _
  | _=>simp [eqD] at h
 | str i=>cases b with
  | str j=>
   simp only [eqD] at h
   cases h
   have:=ra.str_inv; subst this; have:=rb.str_inv; subst this
   obtain ⟨t,rfl⟩:=ru
   obtain ⟨t',rfl⟩:=rv
   have e:decide (i = j) = ((⟨i.toArray⟩:Str) == ⟨j.toArray⟩):=by
    rw [← Bool.beq_eq_decide_eq,← Zfy]
    by_cases h:(⟨i.toArray⟩:Str) = ⟨j.toArray⟩
    ·simp [h]
    ·simp [h]
   rw [e]
   exact SeqAt.RcAt.str_str _ _ _ _
  | _=>simp [eqD] at h
 | bl i=>cases b with
  | bl j=>
   simp only [eqD] at h
   cases h
   have:=ra.bl_inv; subst this; have:=rb.bl_inv; subst this
   cases ru
   cases rv
   rw [← Bool.beq_eq_decide_eq]
   exact SeqAt.RcAt.bool_bool _ _
  | _=>simp [eqD] at h
 | tup ds=>cases b with
  | tup es=>
   simp only [eqD] at h
   split at h
   ·rename_i hp
    cases h
    rw [Bool.and_eq_true] at hp
    obtain ⟨p,vs,rfl,s1,r1⟩:=ra.tup_inv
    obtain ⟨p',ws,rfl,s2,r2⟩:=rb.tup_inv
    cases ru
    cases rv
    obtain ⟨its,rvs,ht,_⟩:=I.tuple s1
    obtain ⟨its2,rws,ht2,_⟩:=I.tuple s2
    have e1:its.length = ds.length:=by rw [← rvs.length,r1.length]
    have e2:its2.length = es.length:=by rw [← rws.length,r2.length]
    have hu1:X.A.units < cLine:=by omega
    have key:((List.range (min its.toArray.size its2.toArray.size)).all (fun j=>match ds[j]?,es[j]? with | some a,some b=>deq a b | _,_=>false) && its.toArray.size == its2.toArray.size) = Zb1 ds es:=by
     rw [List.size_toArray,List.size_toArray,e1,e2]
     by_cases hl:ds.length = es.length
     ·rw [hl,Nat.min_self,beq_self_eq_true,Bool.and_true,← hl]
      exact ZcU hl fun j a b h1 h2=>by rw [h1,h2]
     ·have z:Zb1 ds es = false:=by
       cases q:Zb1 ds es with
       | false=>rfl
       | true=>exact absurd (Zen q) hl
      rw [z,beq_eq_false_iff_ne.mpr hl,Bool.and_false]
    rw [← key]
    refine SeqAt.RcAt.tuples (show s.heap.IsTuple p its.toArray from ht) (show s.heap.IsTuple p' its2.toArray from ht2) hu1 fun j h1 h2=>?_
    have h1':j < ds.length:=by rw [← e1]; simpa using h1
    have h2':j < es.length:=by rw [← e2]; simpa using h2
    have q1:ds[j]? = some ds[j]:=by simp [h1']
    have q2:es[j]? = some es[j]:=by simp [h2']
    rw [q1,q2]
    obtain ⟨v1,g1,z1⟩:=r1.get q1
    obtain ⟨v2,g2,z2⟩:=r2.get q2
    obtain ⟨u1,k1,w1⟩:=rvs.get g1
    obtain ⟨u2,k2,w2⟩:=rws.get g2
    have m1:its.toArray[j] = u1:=by
     have:=List.getElem?_eq_some_iff.mp k1
     simpa using this.2
    have m2:its2.toArray[j] = u2:=by
     have:=List.getElem?_eq_some_iff.mp k2
     simpa using this.2
    rw [m1,m2]
    exact Zjb I DEEP X.A.in1 ds[j] es[j] v1 v2 u1 u2 (by rw [units_in1]; show X.A.units + 1 + 60 + 1 < cLine; omega) (List.all_eq_true.mp hp.1 _ (List.getElem_mem h1')) (List.all_eq_true.mp hp.2 _ (List.getElem_mem h2')) z1 z2 w1 w2
   ·cases h
  | _=>simp [eqD] at h
 | _=>cases b <;> simp [eqD] at h
theorem ZbY (hu:X.A.units + 80 < cLine):OpR X (compareOp .Eq) (r2 X.K ZaF):=by
 intro pins s σ H x y v u Q I rx ry h
 obtain ⟨ι,M,a,b,S,ra,rb,h⟩:=h
 unfold ZaF at h
 cases q:eqD a b M with
 | none=>rw [q] at h; exact h.elim
 | some k=>
  rw [q] at h
  exact ZpF hu I S ra rb rx ry q X.prog X.w X.xe _ ⟨.bl k,H,I,rfl,Zau.ok h S Rep.bl⟩
theorem Zku {K:PySem.W.Frag} {H:Hp} {ι:List Addr} {ds:List D} {vs:List V} {i:Int} {d:D} (r:Zab K H ι ds vs) (h:Zbi ds i = some d):∃ v,atI vs i = some v ∧ Rep K H ι d v:=by
 unfold Zbi at h
 unfold atI
 have e:ixN vs.length i = ixD ds.length i:=by rw [r.length]; rfl
 rw [e]
 cases q:ixD ds.length i with
 | none=>rw [q] at h; cases h
 | some j=>
  rw [q] at h
  exact r.get h
theorem Zu:IxR X (r2 X.K Ze):=IxR.imp ZqW fun x y H Q ⟨ι,M,a,b,S,ra,rb,h⟩=>by
 cases a with
 | tup ds=>cases b with
  | int i=>
   simp only [Ze] at h
   cases q:Zbi ds i with
   | none=>simp only [q] at h; exact h.elim
   | some d=>
    simp only [q] at h
    obtain ⟨p,vs,rfl,s1,r1⟩:=ra.tup_inv
    obtain ⟨v,e,rv⟩:=Zku r1 q
    exact .inr (.inl ⟨p,vs,i,v,rfl,rb.int_inv,s1,e,Zau.ok h S rv⟩)
  | _=>exact h.elim
 | scr ds=>cases b with
  | int i=>
   simp only [Ze] at h
   cases q:Zbi ds i with
   | none=>simp only [q] at h; exact h.elim
   | some d=>
    simp only [q] at h
    obtain ⟨p,vs,rfl,s1,r1⟩:=ra.scr_inv
    obtain ⟨v,e,rv⟩:=Zku r1 q
    exact .inl ⟨p,vs,i,v,rfl,rb.int_inv,s1.sq,e,Zau.ok h S rv⟩
  | _=>exact h.elim
 | str z=>cases b with
  | int i=>
   simp only [Ze] at h
   cases q:Zbi z i with
   | none=>simp only [q] at h; exact h.elim
   | some c=>
    simp only [q] at h
    split at h
    ·rename_i hz
     refine .inr (.inr ⟨_,i,c,ra.str_inv,rb.int_inv,?_,?_,Zau.ok h S Rep.str⟩)
     ·have:=Zcg
      simp only [Str.length,List.size_toArray]
      omega
     ·simpa [atI,ixN,Zbi,ixD] using q
    ·exact h.elim
  | _=>exact h.elim
 | ref n=>cases b with
  | int i=>
   cases hn:M[n]? with
   | none=>simp only [Ze,hn] at h; exact h.elim
   | some o=>
    cases o with
    | dct _=>simp only [Ze,hn] at h; exact h.elim
    | fdct _=>simp only [Ze,hn] at h; exact h.elim
    | lst ds=>
     simp only [Ze,hn] at h
     cases q:Zbi ds i with
     | none=>simp only [q] at h; exact h.elim
     | some d=>
      simp only [q] at h
      obtain ⟨p,hp,rfl⟩:=ra.ref_inv
      obtain ⟨vs,e1,r1⟩:=S.obj n _ p hn hp
      obtain ⟨v,e,rv⟩:=Zku r1 q
      exact .inl ⟨p,vs,i,v,rfl,rb.int_inv,SqL.of e1,e,Zau.ok h S rv⟩
  | _=>exact h.elim
 | _=>cases b <;> exact h.elim
theorem Zk5 {K:PySem.W.Frag} {H:Hp} {ι:List Addr} {ds:List D} {vs:List V} (r:Zab K H ι ds vs) (lo hi:Option Int):Zab K H ι (cutD ds lo hi) (ZjD vs lo hi):=by
 have e:∀ n d o,HT.sIx n d o = sIx n d o:=fun n d o=>by cases o <;> rfl
 unfold cutD ZjD
 rw [e,e,r.length]
 exact (r.drop _).take _
end
end L3
namespace L3
open PySem PySem.Spec PyProof.Rows L2
noncomputable def Zb0 (cells:List (Str × Addr)):List (Str × NameKind) → List (Str × Addr) → List (Str × Addr)
 | [],cs=>cs
 | (n,k) :: r,cs=>Zb0 cells r (if k == .free then (n,(cells.lookup n).getD 0) :: cs else cs)
theorem Zft {scope:Scope} {env:Env} (h:∀ y ∈ scope.names,y.2 = .free → ∃ c,env.cells.lookup y.1 = some c):closureFor scope env = pure (Zb0 env.cells scope.names []):=by
 unfold closureFor
 have key:∀ (names:List (Str × NameKind)) (cs:List (Str × Addr)),(∀ y ∈ names,y.2 = .free → ∃ c,env.cells.lookup y.1 = some c) →
   (forIn names cs fun x r=>match x with | (name,kind)=>if (kind == NameKind.free) = true then do let c ← cellOf env name; pure (ForInStep.yield ((name,c) :: r)) else pure (ForInStep.yield r):Sem (List (Str × Addr))) = pure (Zb0 env.cells names cs):=by
  intro names
  induction names with
  | nil=>intro cs _; rfl
  | cons y r ih=>
   intro cs hy
   obtain ⟨n,k⟩:=y
   rw [List.forIn_cons]
   by_cases hk:k = .free
   ·subst hk
    obtain ⟨c,hc⟩:=hy (n,.free) List.mem_cons_self rfl
    have e1:cellOf env n = pure c:=by unfold cellOf; rw [hc]
    simp only [beq_self_eq_true,if_true,e1,pure_bind]
    rw [ih _ fun z hz=>hy z (List.mem_cons_of_mem _ hz)]
    simp [Zb0,hc]
   ·have hb:(k == NameKind.free) = false:=by simpa using hk
    simp only [hb,Bool.false_eq_true,if_false,pure_bind]
    rw [ih _ fun z hz=>hy z (List.mem_cons_of_mem _ hz)]
    simp [Zb0,hb]
 have:=key scope.names [] h
 first
  | exact this
  | (simp only [bind_pure]; exact this)
theorem Zmp {cells:List (Str × Addr)} {x:Str} {c:Addr}:∀ (names:List (Str × NameKind)) (cs:List (Str × Addr)),(∀ y ∈ names,y.2 = .free → ∃ c,cells.lookup y.1 = some c) → (Zb0 cells names cs).lookup x = some c → cs.lookup x = some c ∨ cells.lookup x = some c:=by
 intro names
 induction names with
 | nil=>intro cs _ h; exact .inl h
 | cons y r ih=>
  intro cs hy h
  obtain ⟨n,k⟩:=y
  rw [Zb0] at h
  rcases ih _ (fun z hz=>hy z (List.mem_cons_of_mem _ hz)) h with q | q
  ·by_cases hk:k = .free
   ·subst hk
    obtain ⟨c0,hc⟩:=hy (n,.free) List.mem_cons_self rfl
    simp only [beq_self_eq_true,if_true,hc,Option.getD_some,List.lookup_cons] at q
    cases hx:x == n with
    | true=>
     simp only [hx] at q
     cases q
     have:x = n:=by simpa using hx
     subst this
     exact .inr hc
    | false=>simp only [hx] at q; exact .inl q
   ·have hb:(k == NameKind.free) = false:=by simpa using hk
    simp only [hb,Bool.false_eq_true,if_false] at q
    exact .inl q
  ·exact .inr q
theorem ZkL {cells:List (Str × Addr)} {x:Str}:∀ (names:List (Str × NameKind)) (cs:List (Str × Addr)),(cs.lookup x).isSome = true → ((Zb0 cells names cs).lookup x).isSome = true:=by
 intro names
 induction names with
 | nil=>intro cs h; exact h
 | cons y r ih=>
  intro cs h
  obtain ⟨n,k⟩:=y
  rw [Zb0]
  refine ih _ ?_
  split
  ·rw [List.lookup_cons]
   split
   ·rfl
   ·exact h
  ·exact h
theorem Zh3 {cells:List (Str × Addr)} {x:Str}:∀ (names:List (Str × NameKind)) (cs:List (Str × Addr)),(x,NameKind.free) ∈ names → ((Zb0 cells names cs).lookup x).isSome = true:=by
 intro names
 induction names with
 | nil=>intro cs h; cases h
 | cons y r ih=>
  intro cs h
  obtain ⟨n,k⟩:=y
  rw [Zb0]
  rcases List.mem_cons.mp h with e | h
  ·cases e
   refine ZkL _ _ ?_
   simp
  ·exact ih _ h
noncomputable def ZbK (X:Cx) (scope:Scope) (N':List Str) (C:Addr) (cl:List (Str × Addr)) (s:Shared) (H:Hp) (ex:List Addr):Cx:=
 { X with N:=N',s₀:=s,H₀:=H,env:=compEnvC scope cl C X.env,outer:=X.stack,stack:=X.stack,ex:=ex,fn:=fun _=>false,pn:=[],xe:=fun _ _=>False }
noncomputable def ZmQ (N N':List Str) (scope:Scope):Bool:=(List.range N.length).all fun i=>match N'[i]? with
 | some x=>(scope.names.lookup x).isNone || (decide (N[i]? = some x) && decide (scope.names.lookup x = some .free))
 | none=>false
noncomputable def CTs (X:Cx) (ifs:List Expr) (ts:List E3):Prop:=∀ (pins:List (Addr × Obj)) (s:Shared) (σ:St) (H:Hp) (Q:Bool → Hp → Prop),Inv X pins σ H s →
 (∃ ι M env,Zav X.K H ι M ∧ ZbQ X.K H ι env σ ∧ match ZeB ts env M with | .ok b M'=>∀ H' ι',Ext X.K H ι H' ι' → Zav X.K H' ι' M' → Q b H' | _=>False) →
 wpAny (model X.prog X.w) X.A (forIn ifs true fun c r=>if r = true then do let ok ← isTrue c X.env (eval c X.env); pure (ForInStep.yield ok) else pure (ForInStep.yield r)) (TP X pins σ Q) X.xe s
theorem ZlF {X:Cx}:CTs X [] []:=fun pins s σ H Q I ⟨ι,M,env,S,E,h⟩=>wpAny_tests_nil ⟨H,I,h H ι Ext.refl S⟩
theorem Zlu {X:Cx} {c:Expr} {f:E3} (hc:CT X c f):CTs X [c] [f]:=fun pins s σ H Q I ⟨ι,M,env,S,E,h⟩=>by
 refine wpAny_tests_one (hc pins s σ H Q I ⟨ι,M,env,S,E,?_⟩)
 unfold ZeB at h
 cases q:f env M with
 | ok d M1=>
  rw [q] at h
  cases d with
  | bl b=>cases b with
   | true=>exact h
   | false=>exact h
  | _=>exact h.elim
 | exc x M1=>rw [q] at h; exact h.elim
 | bad=>rw [q] at h; exact h.elim
section
variable {prog:Program} {w:World} {A:Around} {R:Result → Shared → Prop} {s:Shared}
theorem Zi3 {elt target iter:Expr} {ifs:List Expr} {scope:Scope} {pos:Pos} {it acc:Value} {env:Env} (I:Nat → Shared → Prop)
  (turn:∀ n s,I n s → wpAny (model prog w) A (pyNext it) (fun r s₁=>match r with
   | none=>R (.ok .next) s₁
   | some v=>wpAny (model prog w) A (letOwnedTupleGo target it v) (fun _ s₁'=>wpAny (model prog w) A (assign target env v) (fun _ s₂=>
     wpAny (model prog w) A (forIn ifs true fun c r=>if r = true then do let ok ← isTrue c env (eval c env); pure (ForInStep.yield ok) else pure (ForInStep.yield r)) (fun ok s₃=>
      if ok = true then wpAny (model prog w) A (eval elt env) (fun x s₄=>
       wpAny (model prog w) A (call (.builtin "list.append") [acc,x]) (fun _ s₅=>∃ m,m < n ∧ I m s₅) (fun _ _=>False) s₄) (fun _ _=>False) s₃
      else ∃ m,m < n ∧ I m s₃) (fun _ _=>False) s₂) (fun _ _=>False) s₁') (fun _ _=>False) s₁) (fun _ _=>False) s)
  (n:Nat) (h:I n s):codeAny (model prog w) A (.compLoop (.ListComp elt [⟨target,iter,ifs,0⟩] scope pos) 0 it acc env) R s:=by
 refine codeAny_loop rfl I (fun n s hI=>?_) n h
 show wpAny _ A ((compTurn (.ListComp elt [⟨target,iter,ifs,0⟩] scope pos) 0 it acc env).onRaise (fun x=>do noteFrame x env; theTreesLotGoes x)) _ _ s
 refine wpAny_noted ?_
 rw [compTurn_list]
 refine wpAny_bind (wpAny_standAt (wpAny_bind (wpAny_mono (turn n s hI) (fun r s₁ h₁=>?_) fun _ _ h'=>False.elim h')))
 cases r with
 | none=>exact wpAny_pure h₁
 | some v=>
  refine wpAny_bind (wpAny_mono h₁ (fun _ s₁' h₁'=>?_) fun _ _ h'=>False.elim h')
  refine wpAny_bind (wpAny_mono h₁' (fun _ s₂ h₂=>wpAny_bind (wpAny_mono h₂ (fun ok s₃ h₃=>?_) fun _ _ h'=>False.elim h')) fun _ _ h'=>False.elim h')
  cases ok with
  | false=>exact wpAny_pure ⟨rfl,h₃⟩
  | true=>
   exact wpAny_bind (wpAny_bind (wpAny_mono h₃ (fun x s₄ h₄=>wpAny_bind (wpAny_mono h₄ (fun _ s₅ h₅=>wpAny_pure (wpAny_pure ⟨rfl,h₅⟩)) fun _ _ h'=>False.elim h')) fun _ _ h'=>False.elim h'))
end
theorem ZdP {env:Env} {x:Str} {k:NameKind}:∀ {names:List (Str × NameKind)},(names.map fun (n,k)=>if (k == NameKind.free && env.scope.kind == .function && env.kindOf n == some .cell) then (n,NameKind.cell) else (n,k)).lookup x = some k →
  ∃ k0,names.lookup x = some k0 ∧ (k0 = k ∨ (k0 = .free ∧ k = .cell)):=by
 intro names
 induction names with
 | nil=>intro h; simp at h
 | cons y r ih=>
  intro h
  obtain ⟨n,k1⟩:=y
  rw [List.map_cons] at h
  cases hx:x == n with
  | true=>
   refine ⟨k1,by simp [List.lookup_cons,hx],?_⟩
   by_cases hc:(k1 == NameKind.free && env.scope.kind == .function && env.kindOf n == some .cell) = true
   ·simp only [if_pos hc,List.lookup_cons,hx] at h
    cases h
    simp only [Bool.and_eq_true,beq_iff_eq] at hc
    exact .inr ⟨hc.1.1,rfl⟩
   ·simp only [if_neg hc,List.lookup_cons,hx] at h
    cases h
    exact .inl rfl
  | false=>
   have h':(r.map fun (n,k)=>if (k == NameKind.free && env.scope.kind == .function && env.kindOf n == some .cell) then (n,NameKind.cell) else (n,k)).lookup x = some k:=by
    by_cases hc:(k1 == NameKind.free && env.scope.kind == .function && env.kindOf n == some .cell) = true
    ·simp only [if_pos hc,List.lookup_cons,hx] at h; exact h
    ·simp only [if_neg hc,List.lookup_cons,hx] at h; exact h
   obtain ⟨k0,e,q⟩:=ih h'
   exact ⟨k0,by simp [List.lookup_cons,hx,e],q⟩
theorem ZiR {env:Env} {x:Str}:∀ {names:List (Str × NameKind)},names.lookup x = some .free →
  (names.map fun (n,k)=>if (k == NameKind.free && env.scope.kind == .function && env.kindOf n == some .cell) then (n,NameKind.cell) else (n,k)).lookup x = some .free ∨
  (names.map fun (n,k)=>if (k == NameKind.free && env.scope.kind == .function && env.kindOf n == some .cell) then (n,NameKind.cell) else (n,k)).lookup x = some .cell:=by
 intro names
 induction names with
 | nil=>intro h; simp at h
 | cons y r ih=>
  intro h
  obtain ⟨n,k1⟩:=y
  rw [List.map_cons]
  cases hx:x == n with
  | true=>
   simp only [List.lookup_cons,hx] at h
   cases h
   by_cases hc:(NameKind.free == NameKind.free && env.scope.kind == .function && env.kindOf n == some .cell) = true
   ·simp only [if_pos hc,List.lookup_cons,hx]; exact .inr trivial
   ·simp only [if_neg hc,List.lookup_cons,hx]; exact .inl trivial
  | false=>
   simp only [List.lookup_cons,hx] at h
   by_cases hc:(k1 == NameKind.free && env.scope.kind == .function && env.kindOf n == some .cell) = true
   ·simp only [if_pos hc,List.lookup_cons,hx]; exact ih h
   ·simp only [if_neg hc,List.lookup_cons,hx]; exact ih h
section
variable {X:Cx} {pins:List (Addr × Obj)} {σ:St} {H:Hp} {s:Shared} {scope:Scope} {N':List Str} {own:Nat} {fp:List Addr}
theorem ZmF (I:Inv X pins σ H s) (hk:scope.kind = .function) (hcell:∀ y ∈ scope.names,y.2 ≠ .cell) (hfree:∀ y ∈ scope.names,y.2 = .free → X.env.kindOf y.1 = some .cell ∨ X.env.kindOf y.1 = some .free)
  (hN:N'.length = X.N.length + own) (hv:ZmQ X.N N' scope = true) (hfp:∀ b ∈ fp,Zf0 X pins H b) (hlt:∀ b ∈ fp,b < s.heap.objs.size) {h1:Heap} {tk:Nat}
  (hns:h1.Ns s.heap.objs.size fun _=>none) (keep:∀ b o,s.heap.get? b = some o → h1.get? b = some o):
  Inv (ZbK X scope N' s.heap.objs.size (Zb0 X.env.cells scope.names []) s H fp) [] (σ ++ List.replicate own none) H { s with heap:=h1,toks:=tk }:=by
 have hc0:∀ y ∈ scope.names,y.2 = .free → ∃ c,X.env.cells.lookup y.1 = some c:=fun y hy e=>I.ok.has y.1 (hfree y hy e)
 have sub:∀ x c,(Zb0 X.env.cells scope.names []).lookup x = some c → X.env.cells.lookup x = some c:=fun x c h=>by
  rcases Zmp scope.names [] hc0 h with q | q
  ·simp at q
  ·exact q
 have cellK:∀ {c:Addr} {v:Option Value},s.heap.IsCell c v → h1.IsCell c v:=fun ⟨o,ho,hd⟩=>⟨o,keep _ o ho,hd⟩
 refine ⟨⟨I.ok.mod,hk,I.ok.glob,I.ok.blt,Nat.le_refl _,fun x y c h1 h2=>I.ok.inj x y c (sub x c h1) (sub y c h2),fun x hx=>?_,fun x c h=>?_,I.ok.hd,I.ok.frames,.inl rfl,fun b hb=>⟨Nat.ne_of_lt (hlt b hb),fun x c h=>(hfp b hb).2.2.2.2.1 x c (sub x c h)⟩,
   I.bs,Nat.le_trans I.ok.bsz I.sz,fun b o e hb=>?_,fun b hb hz=>?_,I.stack,I.stkFree⟩,rfl,I.bare,Un.kept keep,⟨_,hns,fun i x v h1 h2 h3=>?_⟩,fun x c h=>?_,I.hok.fresh (Nat.le_refl _),fun x c h=>I.freeC x c (sub x c h),
  fun p hp=>absurd (show p ∈ ([]:List (Addr × Obj)) from hp) (by simp),I.hok.kept keep,?_⟩
 ·have hx':(relabel scope X.env).names.lookup x = some .cell ∨ (relabel scope X.env).names.lookup x = some .free:=hx
  have:scope.names.lookup x = some .free:=by
   rcases hx' with hx' | hx'
   ·obtain ⟨k0,e,q⟩:=ZdP (names:=scope.names) hx'
    rcases q with q | ⟨q,_⟩
    ·subst q; exact absurd rfl (hcell _ (PySem.mem_of_lookup e))
    ·rw [e,q]
   ·obtain ⟨k0,e,q⟩:=ZdP (names:=scope.names) hx'
    rcases q with q | ⟨_,q⟩
    ·rw [e,q]
    ·cases q
  exact Option.isSome_iff_exists.mp (Zh3 scope.names [] (PySem.mem_of_lookup this))
 ·cases h
 ·obtain ⟨_,_,_,q,_⟩:=hfp b hb
  rcases q with q | q
  ·exact I.ok.noex b o e q
  ·exact absurd (Nat.lt_of_lt_of_le (Heap.lt_size e) (Nat.le_trans I.ok.bsz q)) (Nat.lt_irrefl _)
 ·have hz':b ∈ frs X.stack:=hz
  obtain ⟨_,q1,q2,_⟩:=hfp b hb
  rcases List.mem_cons.mp (I.stkSub b hz') with e | e
  ·exact q1 e
  ·exact q2 e
 ·have hi:i < σ.length:=by
   by_cases hi:i < σ.length
   ·exact hi
   ·rw [List.getElem?_append_right (by omega),List.getElem?_replicate] at h2
    split at h2 <;> cases h2
  rw [List.getElem?_append_left hi] at h2
  have hiN:i < X.N.length:=by rw [← I.len]; exact hi
  have hN':N'[i]? = some x:=h1
  have vq:=List.all_eq_true.mp hv i (List.mem_range.mpr hiN)
  rw [hN'] at vq
  have h3':(relabel scope X.env).names.lookup x = some .local ∨ (relabel scope X.env).names.lookup x = some .cell ∨ (relabel scope X.env).names.lookup x = some .free:=h3
  have some_of:∃ k0,scope.names.lookup x = some k0:=by
   rcases h3' with q | q | q <;> (obtain ⟨k0,e,_⟩:=ZdP (names:=scope.names) q; exact ⟨k0,e⟩)
  obtain ⟨k0,ek⟩:=some_of
  simp only [ek,Option.isNone_some,Bool.false_or,Bool.and_eq_true,decide_eq_true_eq] at vq
  obtain ⟨vq1,vq2⟩:=vq
  cases vq2
  have hkind:=hfree (x,.free) (PySem.mem_of_lookup ek) rfl
  obtain ⟨m,hn,hl⟩:=I.loc
  have hVis:Vis X.env.scope x:=by
   rcases hkind with q | q
   ·exact .inr (.inl q)
   ·exact .inr (.inr q)
  obtain ⟨u,ru,lk⟩:=hl i x v vq1 h2 hVis
  refine ⟨u,ru,?_⟩
  rcases lk with ⟨kl,_⟩ | ⟨_,c,ec,ic⟩
  ·rcases hkind with q | q <;> (rw [q] at kl; cases kl)
  ·have hkk:(compEnvC scope (Zb0 X.env.cells scope.names []) s.heap.objs.size X.env).kindOf x = some .cell ∨ (compEnvC scope (Zb0 X.env.cells scope.names []) s.heap.objs.size X.env).kindOf x = some .free:=by
    rcases ZiR (env:=X.env) ek with q | q
    ·exact .inr q
    ·exact .inl q
   obtain ⟨c',ec'⟩:=Option.isSome_iff_exists.mp (Zh3 (cells:=X.env.cells) scope.names [] (PySem.mem_of_lookup ek))
   have e2:=sub x c' ec'
   rw [ec] at e2
   cases e2
   exact .inr ⟨hkk,c,ec',cellK ic⟩
 ·obtain ⟨v,ic⟩:=I.cell x c (sub x c h)
  exact ⟨v,cellK ic⟩
 ·show (σ ++ List.replicate own none).length = N'.length
  rw [List.length_append,List.length_replicate,I.len,hN]
theorem ZbQ.grow {K:PySem.W.Frag} {H:Hp} {ι:List Addr} {env:ZaE} {σ:St} (E:ZbQ K H ι env σ) (n:Nat):ZbQ K H ι (env ++ List.replicate n none) (σ ++ List.replicate n none):=by
 refine ⟨by simp [E.1],fun i d h=>?_⟩
 by_cases hi:i < env.length
 ·rw [List.getElem?_append_left hi] at h
  obtain ⟨v,e,r⟩:=E.2 i d h
  exact ⟨v,by rw [List.getElem?_append_left (by rw [← E.1]; exact hi)]; exact e,r⟩
 ·rw [List.getElem?_append_right (by omega),List.getElem?_replicate] at h
  split at h <;> cases h
end
section
variable {X:Cx} {elt tg iter:Expr} {ifs:List Expr} {scope:Scope} {pos:Pos} {i:I3} {own:Nat} {g:G3} {ts:List E3} {f:E3} {N':List Str}
structure Zhu (X:Cx) (scope:Scope) (N':List Str) (own:Nat):Prop where
 kind:scope.kind = .function
 cell:∀ y ∈ scope.names,y.2 ≠ .cell
 free:∀ y ∈ scope.names,y.2 = .free → X.env.kindOf y.1 = some .cell ∨ X.env.kindOf y.1 = some .free
 names:∀ y ∈ scope.names,y.2 = .local → scope.names.lookup y.1 = some .local
 len:N'.length = X.N.length + own
 vis:ZmQ X.N N' scope = true
inductive CbI (Y:Cx) (K:PySem.W.Frag) (fp:List Addr) (tn:Nat → Heap → Prop) (itd:It3) (H2:Hp) (ι2:List Addr) (Q:VK) (g:G3) (ts:List E3) (f:E3) (nM:Nat) (acc:Addr) (n:Nat) (s':Shared):Prop
 | mk (k:Nat) (σ5:St) (H5:Hp) (ι5:List Addr) (M5:Store) (env5:ZaE) (I5:Inv Y [] σ5 H5 s') (st5:tn k s'.heap) (fr5:∀ b ∈ fp,H5 b = none) (hn:n = itd.items.length - k) (hk:k ≤ itd.items.length)
   (x5:Ext K H2 ι2 H5 ι5) (S5:Zav K H5 ι5 M5) (E5:ZbQ K H5 ι5 env5 σ5) (hι:ι5[nM]? = some acc) (h5:Zau K H5 ι5 Q (Zc4 itd g ts f nM (itd.items.drop k) env5 M5))
theorem ZhJ {pins:List (Addr × Obj)} {σ:St} {s2:Shared} {H2:Hp} {ι2:List Addr} {M2:Store} {env:ZaE} {it:Addr} {fp:List Addr} {tn:Nat → Heap → Prop} {J:It} {itd:It3} {Q:VK} {E:Value → Shared → Prop} (O:Zhu X scope N' own) (hc:X.calm = true)
  (hb:∀ C cl s H ex,CG (ZbK X scope N' C cl s H ex) tg g ∧ CTs (ZbK X scope N' C cl s H ex) ifs ts ∧ C3 (ZbK X scope N' C cl s H ex) elt f)
  (I2:Inv X pins σ H2 s2) (T:Turn X.prog X.w X.K tg J fp it tn) (st0:tn 0 s2.heap) (hfp:∀ b ∈ fp,Zf0 X pins H2 b) (S2:Zav X.K H2 ι2 M2) (E2:ZbQ X.K H2 ι2 env σ) (ok:Zle X.K H2 ι2 itd J)
  (h:Zau X.K H2 ι2 Q (Zc4 itd g ts f M2.length itd.items (env ++ List.replicate own none) (M2 ++ [.lst []])))
  (RR:Value → Addr → Result → Shared → Prop)
  (fin:∀ (acc C:Addr) (s':Shared) (m:Str → Option Value) (H':Hp),s'.heap.Ns C m → Zf0 X pins H' C → Inv X pins σ H' s' → Q (.ref acc) H' → RR (.ref acc) C (.ok .next) s'):
  wpAny (model X.prog X.w) X.A (newList []) (fun acc s₃=>wpAny (model X.prog X.w) X.A (newFunctionEnv scope X.env.globals (Zb0 X.env.cells scope.names []) [] X.env.qual none .none (some X.env)) (fun cenv s₄=>
   codeAny (model X.prog X.w) X.A (.compStart (.ListComp elt [⟨tg,iter,ifs,0⟩] scope pos) 0 (.ref it) acc { cenv with scope:=relabel scope X.env }) (RR acc cenv.locals) s₄) E s₃) E s2:=by
 refine wpAny_newObj_type ?_
 have hD:H2 s2.heap.objs.size = none:=I2.hok.fresh (Nat.le_refl _)
 obtain ⟨x3,S3,r3⟩:=S2.lst hD (Zab.nil (K:=X.K) (H:=H2) (ι:=ι2))
 have I3:Inv X pins σ (upd H2 s2.heap.objs.size (.lst [])) { s2 with heap:=s2.heap.push { cls:=.type "list",data:=.seq ([]:List Value).toArray } }:=
  I2.laid (t':=s2.toks) (fun b u e=>Heap.get?_push_of_some _ e) (Nat.le_refl _) ⟨Nat.zero_le _,[],0,.nil,Heap.get?_push_size _ rfl⟩
 generalize hs3:({ s2 with heap:=s2.heap.push { cls:=.type "list",data:=.seq ([]:List Value).toArray } }:Shared) = s3 at I3 ⊢
 have keep23:∀ b o,s2.heap.get? b = some o → s3.heap.get? b = some o:=fun b o e=>by rw [← hs3]; exact Heap.get?_push_of_some _ e
 have hfp3:∀ b ∈ fp,Zf0 X pins (upd H2 s2.heap.objs.size (.lst [])) b:=fun b hb=>by
  refine ⟨?_,(hfp b hb).2⟩
  obtain ⟨o,e,_⟩:=T.obj _ _ st0 b hb
  rw [Zap (Nat.ne_of_lt (Heap.lt_size e))]
  exact (hfp b hb).1
 have hlt3:∀ b ∈ fp,b < s3.heap.objs.size:=fun b hb=>by
  obtain ⟨o,e,_⟩:=T.obj _ _ st0 b hb
  exact Heap.lt_size (keep23 b o e)
 have st3:tn 0 s3.heap:=T.keep _ _ _ st0 fun b hb o e=>keep23 b o e
 refine wpAny_newFunctionEnv O.cell (by intro y hy; cases hy) (fun h4 hns hsb=>?_) O.kind
 have keep34:∀ b o,s3.heap.get? b = some o → h4.get? b = some o:=fun b o e=>hsb.extBut b o (Nat.ne_of_lt (Heap.lt_size e)) (Heap.get?_push_of_some _ e)
 have I4:=ZmF (own:=own) (N':=N') (tk:=s3.toks + ([]:List (Str × Value)).length) I3 O.kind O.cell O.free O.len O.vis hfp3 hlt3 hns keep34
 have st4:tn 0 h4:=T.keep _ _ _ st3 fun b hb o e=>keep34 b o e
 have hfp4:∀ {H':Hp},(∀ b ∈ fp,H' b = none) → ∀ b ∈ fp,Zf0 (ZbK X scope N' s3.heap.objs.size (Zb0 X.env.cells scope.names []) s3 (upd H2 s2.heap.objs.size (.lst [])) fp) [] H' b:=fun hn b hb=>by
  have hc0:∀ y ∈ scope.names,y.2 = .free → ∃ c,X.env.cells.lookup y.1 = some c:=fun y hy e=>I2.ok.has y.1 (O.free y hy e)
  refine ⟨hn b hb,Nat.ne_of_lt (hlt3 b hb),fun hz=>I4.ok.exfs b hb hz,.inl hb,fun x c hx=>(I4.ok.exf b hb).2 x c hx,fun p hp=>absurd (show p ∈ ([]:List (Addr × Obj)) from hp) (by simp)⟩
 obtain ⟨hg,hts,helt⟩:=hb s3.heap.objs.size (Zb0 X.env.cells scope.names []) s3 (upd H2 s2.heap.objs.size (.lst [])) fp
 have loop:∀ s₄:Shared,s₄ = { s3 with heap:=h4,toks:=s3.toks + ([]:List (Str × Value)).length } →
   codeAny (model X.prog X.w) X.A (.compLoop (.ListComp elt [⟨tg,iter,ifs,0⟩] scope pos) 0 (.ref it) (.ref s2.heap.objs.size) (compEnvC scope (Zb0 X.env.cells scope.names []) s3.heap.objs.size X.env)) (RR (.ref s2.heap.objs.size) s3.heap.objs.size) s₄:=by
  rintro s₄ rfl
  refine Zi3 (CbI (ZbK X scope N' s3.heap.objs.size (Zb0 X.env.cells scope.names []) s3 (upd H2 s2.heap.objs.size (.lst [])) fp) X.K fp tn itd H2 ι2 Q g ts f M2.length s2.heap.objs.size) ?_ itd.items.length
   ⟨0,_,_,_,_,_,I4,st4,fun b hb=>(hfp3 b hb).1,rfl,Nat.zero_le _,x3,S3,(E2.mono x3).grow own,?_,h.up x3⟩
  ·rintro n s5 ⟨k,σ5,H5,ι5,M5,env5,I5,st5,fr5,rfl,hk,x5,S5,E5,hι,h5⟩
   by_cases hlt:k < itd.items.length
   ·have hd:itd.items[k]? = some itd.items[k]:=by simp [hlt]
    rw [List.drop_eq_getElem_cons hlt] at h5
    unfold Zc4 at h5
    by_cases lk:locked itd M5 = true
    ·rw [if_pos lk] at h5
     obtain ⟨go,yl⟩:=(ok k H5 ι5 M5 x5 S5 lk).1 _ hd
     cases eg:g itd.items[k] env5 with
     | none=>rw [eg] at h5; exact h5.elim
     | some env6=>
      rw [eg] at h5
      refine thn (T.item (ZbK X scope N' s3.heap.objs.size (Zb0 X.env.cells scope.names []) s3 (upd H2 s2.heap.objs.size (.lst [])) fp) rfl rfl rfl hc k [] s5 σ5 H5 (fun _ _=>False) I5 (hfp4 fr5) st5 go) fun r s6 ⟨u,hr,h6⟩=>?_
      subst hr
      refine thn h6 fun _ s7 ⟨x,H7,I7,r7,y7,st7,fr7⟩=>?_
      obtain ⟨rfl,rx⟩:=yl x H7 y7
      have I7':=I7.pinned (hfp4 fr7) (T.obj _ _ st7)
      refine thn (hg _ s7 σ5 H7 x u (fun σ' H'=>H' = H7 ∧ ZbQ X.K H7 ι5 env6 σ') I7' r7 ⟨ι5,M5,env5,_,env6,S5,E5,rx,eg,fun σ' E'=>⟨rfl,E'⟩⟩) fun _ s8 ⟨σ8,H8,I8,e8,E8⟩=>?_
      subst e8
      have back:∀ {σ':St} {H':Hp} {s':Shared},Inv (ZbK X scope N' s3.heap.objs.size (Zb0 X.env.cells scope.names []) s3 (upd H2 s2.heap.objs.size (.lst [])) fp) ([] ++ Zhz fp s7.heap) σ' H' s' →
        Inv (ZbK X scope N' s3.heap.objs.size (Zb0 X.env.cells scope.names []) s3 (upd H2 s2.heap.objs.size (.lst [])) fp) [] σ' H' s' ∧ tn (k + 1) s'.heap ∧ ∀ b ∈ fp,H' b = none:=fun {σ' H' s'} I'=>by
       refine ⟨I'.unpinned,T.keep _ _ _ st7 fun b hb o e=>(I'.pin (b,o) (List.mem_append_right _ (List.mem_append_right _ (ZeA hb e)))).1,fun b hb=>?_⟩
       obtain ⟨o,e,d⟩:=T.obj _ _ st7 b hb
       exact (I'.pin (b,o) (List.mem_append_right _ (List.mem_append_right _ (ZeA hb e)))).2.1
      obtain ⟨b,M9,e9,h9⟩:=Zau.bind h5
      refine thn (hts _ s8 σ8 H8 (fun b' H'=>b' = b ∧ ∃ ι9,Ext X.K H8 ι5 H' ι9 ∧ Zav X.K H' ι9 M9) I8 ⟨ι5,M5,env6,S5,E8,by rw [e9]; exact fun H' ι' x' S'=>⟨rfl,ι',x',S'⟩⟩) fun b' s9 ⟨H9,I9,eb,ι9,x9,S9⟩=>?_
      subst eb
      cases b' with
      | false=>
       rw [if_neg (by decide)] at h9 ⊢
       obtain ⟨I9',st9,fr9⟩:=back I9
       exact ⟨itd.items.length - (k + 1),by omega,⟨k + 1,σ8,H9,ι9,M9,env6,I9',st9,fr9,rfl,hlt,x5.trans x9,S9,E8.mono x9,x9.pre _ _ hι,h9.up x9⟩⟩
      | true=>
       rw [if_pos rfl] at h9 ⊢
       obtain ⟨d,M10,e10,h10⟩:=Zau.bind h9
       refine thn (helt _ s9 σ8 H9 (fun v H'=>∃ ι10,Ext X.K H9 ι9 H' ι10 ∧ Zav X.K H' ι10 M10 ∧ Rep X.K H' ι10 d v) I9 ⟨ι9,M9,env6,S9,E8.mono x9,by rw [e10]; exact fun v H' ι' x' S' r'=>⟨ι',x',S',r'⟩⟩) fun xv s10 ⟨v,H10,I10,r10,ι10,x10,S10,rd⟩=>?_
       have hι10:ι10[M2.length]? = some s2.heap.objs.size:=x10.pre _ _ (x9.pre _ _ hι)
       cases hm:M10[M2.length]? with
       | none=>rw [hm] at h10; exact h10.elim
       | some o=>
        cases o with
        | dct _=>rw [hm] at h10; exact h10.elim
        | fdct _=>rw [hm] at h10; exact h10.elim
        | lst xs=>
         rw [hm] at h10
         by_cases hz:xs.length < SZ
         ·simp only [if_pos hz] at h10
          obtain ⟨vs,ev,rvs⟩:=S10.obj _ _ _ hm hι10
          obtain ⟨x11,S11⟩:=S10.setl (.inr (.inl ⟨_,ev⟩)) hι10 (rvs.append (Zab.cons rd Zab.nil))
          refine thn (Zil _ s10 σ8 H10 (.ref s2.heap.objs.size) [v] (.ref s2.heap.objs.size) [xv] (fun _ H'=>H' = upd H10 s2.heap.objs.size (.lst (vs ++ [v]))) I10 rfl (.cons r10 .nil) ⟨_,vs,v,rfl,rfl,ev,by rw [rvs.length]; exact Nat.lt_of_lt_of_le hz Zcg,rfl⟩) fun _ s11 ⟨_,H11,I11,_,eH⟩=>?_
          subst eH
          obtain ⟨I11',st11,fr11⟩:=back I11
          exact ⟨itd.items.length - (k + 1),by omega,⟨k + 1,σ8,_,ι10,_,env6,I11',st11,fr11,rfl,hlt,((x5.trans x9).trans x10).trans x11,S11,((E8.mono x9).mono x10).mono x11,hι10,((h10.up x9).up x10).up x11⟩⟩
         ·simp only [if_neg hz] at h10; exact h10.elim
    ·rw [if_neg lk] at h5; exact h5.elim
   ·have e0:k = itd.items.length:=by omega
    subst e0
    rw [List.drop_length] at h5
    unfold Zc4 at h5
    by_cases lk:locked itd M5 = true
    ·rw [if_pos lk] at h5
     refine thn (T.done (ZbK X scope N' s3.heap.objs.size (Zb0 X.env.cells scope.names []) s3 (upd H2 s2.heap.objs.size (.lst [])) fp) rfl rfl rfl hc _ [] s5 σ5 H5 (fun _ _=>False) I5 (hfp4 fr5) st5 ((ok _ H5 ι5 M5 x5 S5 lk).2 rfl)) fun r s6 ⟨hr,I6⟩=>?_
     subst hr
     obtain ⟨m6,hn6,_⟩:=I6.loc
     have I7:Inv X pins σ H5 s6:=I3.call' (ch:=fp) I6.os I6.base I6.hok I6.bare fun b hb=>⟨(hfp3 b hb).2.2.2.1,(hfp3 b hb).2.1,(hfp3 b hb).2.2.2.2.1,(hfp3 b hb).2.2.2.2.2⟩
     exact fin _ _ s6 m6 H5 hn6 (I3.fpOk (Nat.le_refl _) I6.free) I7 (h5 _ H5 ι5 Ext.refl S5 (Rep.ref hι))
    ·rw [if_neg lk] at h5; exact h5.elim
  ·rw [← S2.len]; simp
 exact codeAny_compStart_list (loop _ rfl) (T.self _ 0 _ _ _ st4 (loop _ rfl))
theorem Zs4 (O:Zhu X scope N' own) (hxe:X.xe = fun _ _=>False) (hc:X.calm = true) (hi:CI X tg iter i)
  (hb:∀ C cl s H ex,CG (ZbK X scope N' C cl s H ex) tg g ∧ CTs (ZbK X scope N' C cl s H ex) ifs ts ∧ C3 (ZbK X scope N' C cl s H ex) elt f)
  (hs:∀ x,foldedSetIterable iter X.env x = pure x:=by intro _; rfl):C3 X (.ListComp elt [⟨tg,iter,ifs,0⟩] scope pos) (eLC i own g ts f):=by
 intro pins s σ H Q I h
 obtain ⟨ι,M,env,S,E,h⟩:=h
 obtain ⟨itd,M1,e1,h⟩:=Zau.bind h
 have hc0:∀ y ∈ scope.names,y.2 = .free → ∃ c,X.env.cells.lookup y.1 = some c:=fun y hy e=>I.ok.has y.1 (O.free y hy e)
 rw [eval_ListComp]
 refine wpAny_comprehension_free (use:=none) rfl hs (Zft hc0) O.kind O.names ?_
 refine thn (hi pins s σ H (fun J H'=>∃ ι',Ext X.K H ι H' ι' ∧ Zav X.K H' ι' M1 ∧ Zle X.K H' ι' itd J) I ⟨ι,M,env,S,E,by rw [e1]; exact fun J H' ι' x S' o=>⟨ι',x,S',o⟩⟩) fun v s1 h1=>thn h1 fun itv s2 h2=>?_
 obtain ⟨it,fp,tn,J,H2,rfl,I2,T,st2,f2,ι2,x2,S2,ok⟩:=h2
 refine ZhJ (own:=own) (g:=g) (ts:=ts) (f:=f) O hc hb I2 T st2 f2 S2 (E.mono x2) ok (h.up x2) (fun acc C=>compPost (model X.prog X.w) X.A X.xe none (EP X pins σ Q) acc C) ?_
 intro acc C s' m H' hn hf I' hq
 obtain ⟨f0,f1,f2',f3,f4,f5⟩:=hf
 exact ⟨m,hn,fun h' sb=>⟨.ref acc,H',I'.turned (t':=s'.toks) (fun b o hb e=>(sb.2 b hb).trans e) f0 f1 f3 f4 f5,rfl,hq⟩⟩
theorem Zhk (j:Nat) {x:Str} {pos' spos:Pos} (O:Zhu X scope N' own) (hxe:X.xe = fun _ _=>False) (hc:X.calm = true) (hN:X.N.Nodup) (hi:CI X tg iter i)
  (hb:∀ C cl s H ex,CG (ZbK X scope N' C cl s H ex) tg g ∧ CTs (ZbK X scope N' C cl s H ex) ifs ts ∧ C3 (ZbK X scope N' C cl s H ex) elt f)
  (hj:X.N[j]? = some x:=by rfl) (hx:Loc X.env.scope x:=by first | exact Or.inl rfl | exact Or.inr rfl)
  (hf:X.fn x = true ∨ X.env.scope.names.lookup x = some .local:=by first | exact .inl rfl | exact .inr rfl)
  (hsw:swapsWith (.ListComp elt [⟨tg,iter,ifs,0⟩] scope pos) (some (.Name x pos')) spos.line X.env = pure true:=by rfl)
  (hs:∀ x,foldedSetIterable iter X.env x = pure x:=by intro _; rfl):CS X (.Assign [.Name x pos'] (.ListComp elt [⟨tg,iter,ifs,0⟩] scope pos) spos) (Zan j (eLC i own g ts f)):=by
 intro pins s σ H D I h
 obtain ⟨ι,M,env,S,E,h⟩:=h
 have h0:Zau X.K H ι (fun v H'=>D.nx (σ.set j (some v)) H') (eLC i own g ts f env M):=by
  unfold Zan at h
  cases q:eLC i own g ts f env M with
  | ok d M1=>rw [q] at h; exact fun v H1 ι1 x1 S1 r1=>h _ H1 ι1 x1 S1 ((E.mono x1).set j r1)
  | exc _ _=>rw [q] at h; exact h.elim
  | bad=>rw [q] at h; exact h.elim
 obtain ⟨itd,M1,e1,h1⟩:=Zau.bind h0
 have hc0:∀ y ∈ scope.names,y.2 = .free → ∃ c,X.env.cells.lookup y.1 = some c:=fun y hy e=>I.ok.has y.1 (O.free y hy e)
 rw [exec_Assign_Name_used _ _ _ _ hsw]
 refine wpAny_bind (wpAny_standAt (wpAny_bind ?_))
 show wpAny _ X.A (do let _ ← comprehension (.ListComp elt [⟨tg,iter,ifs,0⟩] scope pos) scope X.env _ (newList []) false (eval iter X.env) (some (assign (.Name x pos') X.env))) _ _ s
 refine wpAny_bind (wpAny_mono (wpAny_comprehension_free (use:=some (assign (.Name x pos') X.env)) (Q:=fun _ s'=>SP X pins D .next s') rfl hs (Zft hc0) O.kind O.names ?_) (fun _ s' hq=>wpAny_pure (wpAny_pure hq)) fun _ _ e=>e)
 refine thn (hi pins s σ H (fun J H'=>∃ ι',Ext X.K H ι H' ι' ∧ Zav X.K H' ι' M1 ∧ Zle X.K H' ι' itd J) I ⟨ι,M,env,S,E,by rw [e1]; exact fun J H' ι' x S' o=>⟨ι',x,S',o⟩⟩) fun v s1 h1'=>thn h1' fun itv s2 h2=>?_
 obtain ⟨it,fp,tn,J,H2,rfl,I2,T,st2,f2,ι2,x2,S2,ok⟩:=h2
 refine ZhJ (own:=own) (g:=g) (ts:=ts) (f:=f) O hc hb I2 T st2 f2 S2 (E.mono x2) ok (h1.up x2) (fun acc C=>compPost (model X.prog X.w) X.A X.xe (some (assign (.Name x pos') X.env)) (fun _ s'=>SP X pins D .next s') acc C) ?_
 intro acc C s' m H' hn hfC I' hq
 obtain ⟨f0,f1,f2',f3,f4,f5⟩:=hfC
 show wpAny _ X.A (assign (.Name x pos') X.env (.ref acc)) _ _ s'
 refine wpAny_assign_Name (ZiC I' hN hj hx (show RelV (.ref acc) (.ref acc) from rfl) (fun s'' I'' ⟨a,sb,ha⟩=>?_) hf)
 have hCa:C ≠ a:=by
  rcases ha with rfl | ha
  ·exact f1
  ·exact Ne.symm (f4 x a ha)
 exact ⟨m,hn.sameBut sb hCa,fun h' sb'=>⟨_,H',I''.turned (t':=s''.toks) (fun b o hb e=>(sb'.2 b hb).trans e) f0 f1 f3 f4 f5,hq⟩⟩
end
end L3
namespace L3
open PySem PySem.Spec PyProof.Rows L2
theorem ZcQ {k:Nat} {A:Around} (r:Zdv k A):A.units + 80 < cLine:=by have:=r.un; omega
noncomputable def Its (x:Str):It:=⟨fun i _=>i < x.cps.size,fun i H y H'=>H' = H ∧ ∃ c,x.cps[i]? = some c ∧ y = .str ⟨#[c]⟩,fun i _=>i = x.cps.size⟩
theorem Znm {P:Program} {w:World} {K:PySem.W.Frag} {tg:Expr} {it:Addr} {x:Str} {t:Tok} {ty:String} (W:∀ A':Around,A'.handled = none → Walks P w A' it [it] [it] x.cps.size (SignAt x) (fun i h=>h.IsStrIter it ty x t i))
  (hs:∀ (A:Around) (i:Nat) (s:Shared) (Q:Value → Shared → Prop) (E:Value → Shared → Prop),s.heap.IsStrIter it ty x t i → Q (.ref it) s → wpAny (model P w) A (pyIter (.ref it)) Q E s)
  (hty:["enumerate","zip","dict_itemiterator","dict_reverseitemiterator","odict_iterator","itertools.zip_longest","itertools.pairwise"].contains ty = false):Turn P w K tg (Its x) [it] it (fun i h=>h.IsStrIter it ty x t i) where
 mem:=by simp
 obj:=fun i h st b hb=>by
  have e:b = it:=by simpa using hb
  subst e
  obtain ⟨o,e,c,d⟩:=st
  exact ⟨o,e,fun v z=>by rw [d] at z; cases z⟩
 keep:=fun i h h' st k=>let ⟨o,e,r⟩:=st; ⟨o,k it (by simp) o e,r⟩
 item:=by
  intro X hP hw hK hc i pins s σ H E I hf st hg
  subst hP hw hK
  obtain ⟨f0,f1,f2,f3,f4,f5⟩:=hf it (by simp)
  refine (W X.A (I.ok.hd hc)).item i s _ _ hg st fun v h' tk hv st' kk=>?_
  obtain ⟨c,u,hx,rfl⟩:=hv
  have I1:Inv X pins σ H { s with heap:=h',toks:=tk }:=I.turned (fun b o hb e=>kk b o (by simpa using hb) e) f0 f1 f3 f4 f5
  obtain ⟨o,e,cc,d⟩:=id st'
  exact ⟨_,rfl,ZjK (s:={ s with heap:=h',toks:=tk }) e cc d hty ⟨.str ⟨#[c]⟩,H,I1,⟨u,rfl⟩,⟨rfl,c,hx,rfl⟩,st',fun b hb=>(hf b hb).1⟩⟩
 done:=by
  intro X hP hw hK hc i pins s σ H E I hf st hg
  subst hP hw hK
  obtain ⟨f0,f1,f2,f3,f4,f5⟩:=hf it (by simp)
  have e:i = x.cps.size:=hg
  subst e
  exact (W X.A (I.ok.hd hc)).done s _ _ st fun h' tk kk=>⟨rfl,I.turned (fun b o hb e=>kk b o (by simpa using hb) e) f0 f1 f3 f4 f5⟩
 self:=hs
section
variable {X:Cx} {tg e o:Expr} {es:List Expr} {pos p apos cpos:Pos} {f:E3} {gl:EL3}
theorem Zp6 (h:C3 X e f):PI X tg e (fun σ H R=>tOf X.K f σ H fun x H1=>∃ z:Str,x = .str z ∧ z.length ≤ SZ ∧ ∀ J,(∀ ι,Zle X.K H1 ι ⟨z.cps.toList.map fun c=>.str [c],none⟩ J) → R J H1):=by
 intro pins s σ H R I hw
 refine thn (h pins s σ H _ I hw) fun v s1 ⟨x,H1,I1,r1,z,ex,hz,q⟩=>?_
 subst ex
 obtain ⟨t,rfl⟩:=r1
 have key:∀ (ty:String) (o:Obj),(∀ A':Around,A'.handled = none → Walks X.prog X.w A' s1.heap.objs.size [s1.heap.objs.size] [s1.heap.objs.size] z.cps.size (SignAt z) (fun i h=>h.IsStrIter s1.heap.objs.size ty z t i)) →
   (∀ (A:Around) (i:Nat) (s:Shared) (Q:Value → Shared → Prop) (E:Value → Shared → Prop),s.heap.IsStrIter s1.heap.objs.size ty z t i → Q (.ref s1.heap.objs.size) s → wpAny (model X.prog X.w) A (pyIter (.ref s1.heap.objs.size)) Q E s) →
   ["enumerate","zip","dict_itemiterator","dict_reverseitemiterator","odict_iterator","itertools.zip_longest","itertools.pairwise"].contains ty = false → (s1.heap.push o).IsStrIter s1.heap.objs.size ty z t 0 →
   PIE X pins σ tg R (.ref s1.heap.objs.size) { s1 with heap:=s1.heap.push o }:=by
  intro ty o W hs hty st
  refine ⟨s1.heap.objs.size,[s1.heap.objs.size],_,_,H1,rfl,I1.kept (t':=s1.toks) fun b o e=>Heap.get?_push_of_some _ e,Znm W hs hty,st,fun b hb=>?_,q _ fun ι=>?_⟩
  ·have e:b = s1.heap.objs.size:=by simpa using hb
   subst e
   exact I1.fpOk (Nat.le_refl _) (I1.hok.fresh (Nat.le_refl _))
  ·intro i H2 ι2 M2 x S _
   refine ⟨fun d hd=>?_,fun hl=>?_⟩
   ·rw [List.getElem?_map] at hd
    cases hq:z.cps.toList[i]? with
    | none=>rw [hq] at hd; cases hd
    | some c=>
     rw [hq] at hd
     have hd':D.str [c] = d:=by simpa using hd
     subst hd'
     have hi:i < z.cps.size:=by
      have:=(List.getElem?_eq_some_iff.mp hq).1
      simpa using this
     refine ⟨hi,fun y H3 hy=>⟨hy.1,?_⟩⟩
     obtain ⟨_,c',hc',rfl⟩:=hy
     have:c' = c:=by
      rw [← Array.getElem?_toList,hq] at hc'
      exact (Option.some.inj hc').symm
     subst this
     exact Rep.str
   ·show i = z.cps.size
    rw [hl]
    simp
 cases ha:z.cps.all (· < 128)
 ·exact wpAny_pyIter_wide ha (key "str_iterator" _ (fun A' hA=>Walks.strWide hA _ z t) (fun _ _ _ _ _ st h=>wpAny_pyIter_striter_wide st h) (by decide) ⟨_,Heap.get?_push_size _ rfl,rfl,rfl⟩)
 ·exact wpAny_pyIter_ascii ha (key "str_ascii_iterator" _ (fun A' hA=>Walks.strAscii hA _ z t) (fun _ _ _ _ _ st h=>wpAny_pyIter_striter_ascii st h) (by decide) ⟨_,Heap.get?_push_size _ rfl,rfl,rfl⟩)
theorem Zp5 (h:C3 X e f):CI X tg e (ZiM f):=ZqS h (Zp6 h)
theorem ZpD {K:PySem.W.Frag} {T:String} {ty:D → Store → Bool} {m:D → List D → Store → R3 D} (hty:∀ H ι M a x,Zav K H ι M → Rep K H ι a x → ty a M = true → tyV K T x H) (σ:St) (H:Hp) (Q:VK) (h:tOf K (ZdV ty m f gl) σ H Q):tBM K T (rM K m) (tOf K f) (tAf K gl) σ H Q:=by
 obtain ⟨ι,M,env,S,E,h⟩:=h
 obtain ⟨a,M1,e1,h⟩:=Zau.bind h
 refine ⟨ι,M,env,S,E,?_⟩
 rw [e1]
 intro v H1 ι1 x1 S1 r1
 by_cases ht:ty a M1 = true
 ·rw [if_pos ht] at h
  obtain ⟨ds,M2,e2,h⟩:=Zau.bind h
  refine ⟨hty _ _ _ _ _ S1 r1 ht,ι1,M1,env,S1,E.mono x1,?_⟩
  rw [e2]
  intro vs H2 ι2 x2 S2 r2
  exact ⟨ι2,M2,a,ds,S2,r1.mono x2,r2,(h.up x1).up x2⟩
 ·rw [if_neg ht] at h; exact h.elim
theorem Zpz {K:PySem.W.Frag} (H:Hp) (ι:List Addr) (M:Store) (a:D) (x:V) (S:Zav K H ι M) (r:Rep K H ι a x) (h:tyL a M = true):tyV K "list" x H:=by
 cases a with
 | ref n=>
  simp only [tyL] at h
  cases hn:M[n]? with
  | none=>simp [hn] at h
  | some o=>
   cases o with
   | dct _=>simp [hn] at h
   | fdct _=>simp [hn] at h
   | lst xs=>
    obtain ⟨p,hp,rfl⟩:=r.ref_inv
    obtain ⟨vs,e,_⟩:=S.obj n _ p hn hp
    exact .inl ⟨rfl,vs,SqL.of e⟩
 | _=>simp at h
theorem _root_.L2.MtR.imp {id:String} {r r':V → List V → Hp → VK → Prop} (h:MtR X id r) (i:∀ x xs H Q,r' x xs H Q → r x xs H Q):MtR X id r':=fun pins s σ H x xs v us Q I rx rs q=>h pins s σ H x xs v us Q I rx rs (i x xs H Q q)
theorem Zm2:MtR X "list.append" (rM X.K Zbz):=MtR.imp (r:=Zlh) Zil fun x xs H Q ⟨ι,M,a,ds,S,ra,rd,h⟩=>by
 cases a with
 | ref n=>
  cases ds with
  | nil=>exact h.elim
  | cons d ds=>
   cases ds with
   | cons _ _=>exact h.elim
   | nil=>
    simp only [Zbz] at h
    cases hn:M[n]? with
    | none=>simp only [hn] at h; exact h.elim
    | some o=>
     cases o with
     | dct _=>simp only [hn] at h; exact h.elim
     | fdct _=>simp only [hn] at h; exact h.elim
     | lst z=>
      simp only [hn] at h
      split at h
      ·rename_i hz
       obtain ⟨p,hp,rfl⟩:=ra.ref_inv
       obtain ⟨v,ws,rfl,r1,r2⟩:=rd.cons_inv
       have:=r2.nil_inv
       subst this
       obtain ⟨vs,e,rv⟩:=S.obj n _ p hn hp
       obtain ⟨x2,S2⟩:=S.setl (.inr (.inl ⟨_,e⟩)) hp (rv.append (Zab.cons r1 Zab.nil))
       exact ⟨p,vs,v,rfl,rfl,e,by rw [rv.length]; exact Nat.lt_of_lt_of_le hz Zcg,h _ _ _ x2 S2 Rep.non⟩
      ·exact h.elim
 | _=>exact h.elim
theorem ZdF (ho:C3 X o f) (ha:CA X (e :: es) gl)
  (hbase:attributeBase o "append" X.env (eval o X.env) = eval o X.env:=by rfl)
  (hfew:((backTo cpos (starEach (e :: es) X.env)).all (fun x=>!x.1) && (backToKw cpos (keywordEach [] X.env)).all (fun x=>x.1.isSome)
   && decide ((e :: es).length + ([]:List Keyword).length + (if ([]:List Keyword).isEmpty then 0 else 1) < 30)) = true:=by rfl)
  (hline:(apos.endLine == cpos.line) = true:=by rfl) (hs:starEach (e :: es) X.env = (false,eval e X.env) :: starEach es X.env:=by rfl) (hplain:(backTo cpos (starEach es X.env)).any (·.1) = false:=by rfl):
  C3 X (.Call (.Attribute o "append" apos) (e :: es) [] cpos) (ZdV tyL Zbz f gl):=
 (Zr7 PySem.F.plainAttrs_list PySem.F.slot_list_append PySem.F.type_list_append Zm2 ho ha hbase hfew hline hs hplain).imp (ZpD Zpz)
theorem Zrx:OpR X (compareOp .In) (r2 X.K fun a b M=>match a,b with | .str [c],.str y=>.ok (.bl (decide (c ∈ y))) M | _,_=>.bad):=OpR.imp ZlN fun x y H Q ⟨ι,M,a,b,S,ra,rb,h⟩=>by
 cases a with
 | str z=>
  cases z with
  | nil=>cases b <;> exact h.elim
  | cons c z=>
   cases z with
   | cons _ _=>cases b <;> exact h.elim
   | nil=>
    cases b with
    | str y=>
     refine ⟨_,_,ra.str_inv,rb.str_inv,?_⟩
     have e:=StrLaws.found_one (⟨y.toArray⟩:Str) c
     rw [show (⟨[c].toArray⟩:Str) = ⟨#[c]⟩ from rfl,e]
     exact Zau.ok h S Rep.bl
    | _=>exact h.elim
 | _=>cases b <;> exact h.elim
end
end L3
namespace L3
open PySem PySem.Spec PyProof.Rows L2
section
variable {X:Cx}
theorem Zp0 {pins:List (Addr × Obj)} {σ:St} {H:Hp} {s:Shared} {ι:List Addr} {M:Store} {a b:D} {x y:V} {u v:Value} {k:Bool} (hu:X.A.units + 80 < cLine) (I:Inv X pins σ H s) (S:Zav X.K H ι M)
  (ra:Rep X.K H ι a x) (rb:Rep X.K H ι b y) (ru:RelV x u) (rv:RelV y v) (h:eqD a b M = some k):SeqAt.RcNeAt X.A s u v (!k):=by
 cases a with
 | ref n=>
  cases b with
  | ref m=>
   simp only [eqD] at h
   cases hn:M[n]? with
   | none=>simp [hn] at h
   | some o=>
    cases o with
    | dct _=>simp [hn] at h
    | fdct _=>simp [hn] at h
    | lst ds=>
     cases hm:M[m]? with
     | none=>simp [hn,hm] at h
     | some o=>
      cases o with
      | dct _=>simp [hn,hm] at h
      | fdct _=>simp [hn,hm] at h
      | lst es=>
       simp only [hn,hm] at h
       split at h
       ·rename_i hp
        cases h
        rw [Bool.and_eq_true] at hp
        obtain ⟨p,hp1,rfl⟩:=ra.ref_inv
        obtain ⟨q,hq1,rfl⟩:=rb.ref_inv
        cases ru
        cases rv
        obtain ⟨vs,e1,r1⟩:=S.obj n _ p hn hp1
        obtain ⟨ws,e2,r2⟩:=S.obj m _ q hm hq1
        obtain ⟨its,rvs,pl1,_⟩:=I.list (SqL.of e1)
        obtain ⟨its2,rws,pl2,_⟩:=I.list (SqL.of e2)
        have it1:=pl1.isList
        have it2:=pl2.isList
        have l1:its.length = ds.length:=by rw [← rvs.length,r1.length]
        have l2:its2.length = es.length:=by rw [← rws.length,r2.length]
        have hu1:X.A.units < cLine:=by omega
        by_cases hl:ds.length = es.length
        ·have key:(List.range its.toArray.size).all (fun j=>match ds[j]?,es[j]? with | some a,some b=>deq a b | _,_=>false) = Zb1 ds es:=by
          rw [List.size_toArray,l1]
          exact ZcU hl fun j a b h1 h2=>by rw [h1,h2]
         rw [← key]
         refine SeqAt.RcNeAt.lists it1 it2 (by rw [List.size_toArray,List.size_toArray,l1,l2,hl]) hu1 fun j h1 h2=>?_
         have h1':j < ds.length:=by rw [← l1]; simpa using h1
         have h2':j < es.length:=by rw [← l2]; simpa using h2
         have q1:ds[j]? = some ds[j]:=by simp [h1']
         have q2:es[j]? = some es[j]:=by simp [h2']
         rw [q1,q2]
         obtain ⟨v1,g1,z1⟩:=r1.get q1
         obtain ⟨v2,g2,z2⟩:=r2.get q2
         obtain ⟨u1,k1,w1⟩:=rvs.get g1
         obtain ⟨u2,k2,w2⟩:=rws.get g2
         have m1:its.toArray[j] = u1:=by
          have:=List.getElem?_eq_some_iff.mp k1
          simpa using this.2
         have m2:its2.toArray[j] = u2:=by
          have:=List.getElem?_eq_some_iff.mp k2
          simpa using this.2
         rw [m1,m2]
         exact Zjb I DEEP X.A.in1 ds[j] es[j] v1 v2 u1 u2 (by rw [units_in1]; show X.A.units + 1 + 60 + 1 < cLine; omega) (List.all_eq_true.mp hp.1 _ (List.getElem_mem h1')) (List.all_eq_true.mp hp.2 _ (List.getElem_mem h2')) z1 z2 w1 w2
        ·have z:Zb1 ds es = false:=by
          cases q:Zb1 ds es with
          | false=>rfl
          | true=>exact absurd (Zen q) hl
         rw [z]
         exact SeqAt.RcNeAt.lists_lengths it1 it2 (by rw [List.size_toArray,List.size_toArray,l1,l2]; simpa using hl) hu1
       ·cases h
  | _=>simp [eqD] at h
 | int i=>cases b with
  | int j=>
   simp only [eqD] at h
   cases h
   have:=ra.int_inv; subst this; have:=rb.int_inv; subst this
   obtain ⟨t,rfl⟩:=ru
   obtain ⟨t',rfl⟩:=rv
   rw [← Bool.beq_eq_decide_eq]
   exact SeqAt.RcNeAt.int_int _ _ _ _
  | _=>simp [eqD] at h
 | str i=>cases b with
  | str j=>
   simp only [eqD] at h
   cases h
   have:=ra.str_inv; subst this; have:=rb.str_inv; subst this
   obtain ⟨t,rfl⟩:=ru
   obtain ⟨t',rfl⟩:=rv
   have e:decide (i = j) = ((⟨i.toArray⟩:Str) == ⟨j.toArray⟩):=by
    rw [← Bool.beq_eq_decide_eq,← Zfy]
    by_cases h:(⟨i.toArray⟩:Str) = ⟨j.toArray⟩
    ·simp [h]
    ·simp [h]
   rw [e]
   exact SeqAt.RcNeAt.str_str _ _ _ _
  | _=>simp [eqD] at h
 | bl i=>cases b with
  | bl j=>
   simp only [eqD] at h
   cases h
   have:=ra.bl_inv; subst this; have:=rb.bl_inv; subst this
   cases ru
   cases rv
   rw [← Bool.beq_eq_decide_eq]
   exact SeqAt.RcNeAt.bool_bool _ _
  | _=>simp [eqD] at h
 | tup ds=>cases b with
  | tup es=>
   simp only [eqD] at h
   split at h
   ·rename_i hp
    cases h
    rw [Bool.and_eq_true] at hp
    obtain ⟨p,vs,rfl,s1,r1⟩:=ra.tup_inv
    obtain ⟨p',ws,rfl,s2,r2⟩:=rb.tup_inv
    cases ru
    cases rv
    obtain ⟨its,rvs,ht,_⟩:=I.tuple s1
    obtain ⟨its2,rws,ht2,_⟩:=I.tuple s2
    have e1:its.length = ds.length:=by rw [← rvs.length,r1.length]
    have e2:its2.length = es.length:=by rw [← rws.length,r2.length]
    have hu1:X.A.units < cLine:=by omega
    have key:((List.range (min its.toArray.size its2.toArray.size)).all (fun j=>match ds[j]?,es[j]? with | some a,some b=>deq a b | _,_=>false) && its.toArray.size == its2.toArray.size) = Zb1 ds es:=by
     rw [List.size_toArray,List.size_toArray,e1,e2]
     by_cases hl:ds.length = es.length
     ·rw [hl,Nat.min_self,beq_self_eq_true,Bool.and_true,← hl]
      exact ZcU hl fun j a b h1 h2=>by rw [h1,h2]
     ·have z:Zb1 ds es = false:=by
       cases q:Zb1 ds es with
       | false=>rfl
       | true=>exact absurd (Zen q) hl
      rw [z,beq_eq_false_iff_ne.mpr hl,Bool.and_false]
    rw [← key]
    refine SeqAt.RcNeAt.tuples (show s.heap.IsTuple p its.toArray from ht) (show s.heap.IsTuple p' its2.toArray from ht2) hu1 fun j h1 h2=>?_
    have h1':j < ds.length:=by rw [← e1]; simpa using h1
    have h2':j < es.length:=by rw [← e2]; simpa using h2
    have q1:ds[j]? = some ds[j]:=by simp [h1']
    have q2:es[j]? = some es[j]:=by simp [h2']
    rw [q1,q2]
    obtain ⟨v1,g1,z1⟩:=r1.get q1
    obtain ⟨v2,g2,z2⟩:=r2.get q2
    obtain ⟨u1,k1,w1⟩:=rvs.get g1
    obtain ⟨u2,k2,w2⟩:=rws.get g2
    have m1:its.toArray[j] = u1:=by
     have:=List.getElem?_eq_some_iff.mp k1
     simpa using this.2
    have m2:its2.toArray[j] = u2:=by
     have:=List.getElem?_eq_some_iff.mp k2
     simpa using this.2
    rw [m1,m2]
    exact Zjb I DEEP X.A.in1 ds[j] es[j] v1 v2 u1 u2 (by rw [units_in1]; show X.A.units + 1 + 60 + 1 < cLine; omega) (List.all_eq_true.mp hp.1 _ (List.getElem_mem h1')) (List.all_eq_true.mp hp.2 _ (List.getElem_mem h2')) z1 z2 w1 w2
   ·cases h
  | _=>simp [eqD] at h
 | _=>cases b <;> simp [eqD] at h
theorem ZhX (hu:X.A.units + 80 < cLine):OpR X (compareOp .NotEq) (r2 X.K ZbE):=by
 intro pins s σ H x y v u Q I rx ry h
 obtain ⟨ι,M,a,b,S,ra,rb,h⟩:=h
 unfold ZbE at h
 cases q:eqD a b M with
 | none=>rw [q] at h; exact h.elim
 | some k=>
  rw [q] at h
  exact Zp0 hu I S ra rb rx ry q X.prog X.w X.xe _ ⟨.bl (!k),H,I,rfl,Zau.ok h S Rep.bl⟩
theorem Zka {K:PySem.W.Frag} {H:Hp} {ι:List Addr} {d:D} {v:V} (r:Rep K H ι d v) (h:Zbt d = true):Zfw v = true:=by
 cases d with
 | non=>rw [r.non_inv]; rfl
 | bl b=>rw [r.bl_inv]; rfl
 | int i=>rw [r.int_inv]; rfl
 | str x=>rw [r.str_inv]; rfl
 | _=>simp [Zbt] at h
theorem ZoG (x y:List Nat):((⟨x.toArray⟩:Str) == ⟨y.toArray⟩) = (x == y):=by
 rw [Bool.eq_iff_iff]
 simp
theorem Zof {K:PySem.W.Frag} {H:Hp} {ι:List Addr} {d e:D} {v w:V} (r:Rep K H ι d v) (q:Rep K H ι e w) (h:Zbt d = true) (h':Zbt e = true):eqV v w = deq d e:=by
 cases d with
 | non=>have:=r.non_inv; subst this; cases e with
  | non=>have:=q.non_inv; subst this; rfl
  | bl _=>have:=q.bl_inv; subst this; rfl
  | int _=>have:=q.int_inv; subst this; rfl
  | str _=>have:=q.str_inv; subst this; rfl
  | _=>simp [Zbt] at h'
 | bl _=>have:=r.bl_inv; subst this; cases e with
  | non=>have:=q.non_inv; subst this; rfl
  | bl _=>have:=q.bl_inv; subst this; rfl
  | int _=>have:=q.int_inv; subst this; rfl
  | str _=>have:=q.str_inv; subst this; rfl
  | _=>simp [Zbt] at h'
 | int _=>have:=r.int_inv; subst this; cases e with
  | non=>have:=q.non_inv; subst this; rfl
  | bl _=>have:=q.bl_inv; subst this; rfl
  | int _=>have:=q.int_inv; subst this; rfl
  | str _=>have:=q.str_inv; subst this; rfl
  | _=>simp [Zbt] at h'
 | str _=>have:=r.str_inv; subst this; cases e with
  | non=>have:=q.non_inv; subst this; rfl
  | bl _=>have:=q.bl_inv; subst this; rfl
  | int _=>have:=q.int_inv; subst this; rfl
  | str _=>have:=q.str_inv; subst this; exact ZoG _ _
  | _=>simp [Zbt] at h'
 | _=>simp [Zbt] at h
theorem Zll {K:PySem.W.Frag} {H:Hp} {ι:List Addr} {d:D} {v:V} (r:Rep K H ι d v) (h:Zbt d = true):∀ {ds:List D} {vs:List V},Zab K H ι ds vs → ds.all Zbt = true → vs.all Zfw = true ∧ inV v vs = ds.any fun y=>deq y d
 | [],_,q,_=>by rw [q.nil_inv]; exact ⟨rfl,rfl⟩
 | e :: ds,_,q,hd=>by
  obtain ⟨w,ws,rfl,r1,r2⟩:=q.cons_inv
  rw [List.all_cons,Bool.and_eq_true] at hd
  obtain ⟨h1,h2⟩:=Zll r h r2 hd.2
  refine ⟨by rw [List.all_cons,Zka r1 hd.1,h1]; rfl,?_⟩
  unfold inV at h2 ⊢
  rw [List.any_cons,List.any_cons,h2,Zof r1 r hd.1 h]
theorem Zqn (hu:X.A.units + 80 < cLine):OpR X (compareOp .In) (r2 X.K Zi4):=OpR.imp (OpR.or Zrx ZlO) fun x y H Q ⟨ι,M,a,b,S,ra,rb,h⟩=>by
 have seq:∀ (d:D) (ys:List D),b = .tup ys → (Zbt d && ys.all Zbt) = true → a = d → Q (.bl (ys.any fun y=>deq y d)) H → rIn X.K false x y H Q:=by
  rintro d ys rfl hf rfl q
  rw [Bool.and_eq_true] at hf
  obtain ⟨p,vs,rfl,s,r⟩:=rb.tup_inv
  obtain ⟨h1,h2⟩:=Zll ra hf.1 r hf.2
  exact ⟨p,vs,rfl,.inr s,Zka ra hf.1,h1,by rw [if_neg (by decide),h2]; exact q⟩
 cases b with
 | tup ys=>
  have h':Zau X.K H ι Q (match (if Zbt a && ys.all Zbt then some (ys.any fun y=>deq y a) else none) with | some r=>.ok (.bl r) M | none=>.bad):=by
   cases a with
   | str z=>cases z with
    | nil=>exact h
    | cons c z=>cases z <;> exact h
   | _=>exact h
  by_cases hf:(Zbt a && ys.all Zbt) = true
  ·rw [if_pos hf] at h'
   exact .inr (seq a ys rfl hf rfl (Zau.ok h' S Rep.bl))
  ·rw [if_neg hf] at h'; exact h'.elim
 | str y=>cases a with
  | str z=>cases z with
   | nil=>exact h.elim
   | cons c z=>cases z with
    | nil=>exact .inl ⟨ι,M,_,_,S,ra,rb,h⟩
    | cons _ _=>exact h.elim
  | _=>exact h.elim
 | _=>cases a with
  | str z=>cases z with
   | nil=>exact h.elim
   | cons c z=>cases z <;> exact h.elim
  | _=>exact h.elim
theorem ZmW (x:List Nat) (n:Nat) (a:List Nat):(List.replicate n x.toArray).foldl (· ++ ·) a.toArray = (a ++ (List.replicate n x).flatten).toArray:=by
 induction n generalizing a with
 | zero=>simp
 | succ n ih=>
  rw [List.replicate_succ,List.foldl_cons,List.replicate_succ,List.flatten_cons]
  have:=ih (a ++ x)
  simp only [List.append_toArray] at this ⊢
  rw [this]
  simp
theorem Zpj (x:List Nat) (k:Int):Txt.mul (⟨x.toArray⟩:Str) k = ⟨(List.replicate k.toNat x).flatten.toArray⟩:=by
 unfold Txt.mul
 split
 ·rename_i h
  have:k.toNat = 0:=by omega
  rw [this]; rfl
 ·split
  ·rename_i h1 h2
   simp only [Bool.or_eq_true,beq_iff_eq,Str.length,List.size_toArray] at h2
   rcases h2 with h2 | h2
   ·subst h2; simp
   ·have:x = []:=List.eq_nil_of_length_eq_zero h2
    subst this
    simp
  ·have:=ZmW x k.toNat []
   rw [List.nil_append] at this
   exact congrArg Str.mk this
theorem Zab.repl {K:PySem.W.Frag} {H:Hp} {ι:List Addr} {ds:List D} {vs:List V} (r:Zab K H ι ds vs):∀ k:Nat,Zab K H ι (List.replicate k ds).flatten (List.replicate k vs).flatten
 | 0=>Zab.nil
 | k + 1=>by rw [List.replicate_succ,List.replicate_succ,List.flatten_cons,List.flatten_cons]; exact r.append (Zab.repl r k)
theorem Zh5:OpR X (binaryOp .Mult) (r2 X.K ZeP):=by
 have hs:OpR X (binaryOp .Mult) (fun x y H Q=>∃ (z:List Nat) (k:Int),x = .str ⟨z.toArray⟩ ∧ y = .int k ∧ z.length * k.toNat ≤ 1000000 ∧ k < 1000000 ∧ -1000000 < k ∧ Q (.str ⟨(List.replicate k.toNat z).flatten.toArray⟩) H):=by
  intro pins s σ H x y v u Q I rx ry h
  obtain ⟨z,k,rfl,rfl,h1,h2,h3,q⟩:=h
  obtain ⟨t,rfl⟩:=rx
  obtain ⟨t',rfl⟩:=ry
  refine SB.mul ⟨?_,fun h4 h5=>?_,fun h4 h5=>?_⟩ fun t'' tk=>?_
  ·simp; omega
  ·simp only [Str.length,List.size_toArray]
   simp at h4 h5
   have hk:2 ≤ k:=by
    simp only [Str.length,List.size_toArray] at h5
    omega
   have e:(k.toNat:Int) = k:=by omega
   have hm:(z.length:Int) * k ≤ 1000000:=by
    have h1':((z.length * k.toNat:Nat):Int) ≤ 1000000:=Int.ofNat_le.mpr h1
    rw [Int.natCast_mul,e] at h1'
    exact h1'
   have hd:(z.length:Int) ≤ 9223372036854775807 / k:=Int.le_ediv_of_mul_le (by omega) (by omega)
   show ¬ ((z.length:Int) > (2 ^ 63 - 1) / k)
   have e3:((2:Int) ^ 63 - 1) = 9223372036854775807:=by decide
   rw [e3]
   omega
  ·unfold Builtin.Str.tooLong
   simp only [Str.length,List.size_toArray,decide_eq_false_iff_not]
   have hsz:(1000000:Nat) ≤ sizeLine:=Zcg
   omega
  ·rw [Zpj]
   exact ⟨.str _,H,I.tok _,⟨_,rfl⟩,q⟩
 refine OpR.imp (OpR.or ZqL (OpR.or hs ZpL)) fun x y H Q ⟨ι,M,a,b,S,ra,rb,h⟩=>?_
 cases a with
 | int i=>cases b with
  | int j=>
   simp only [ZeP] at h
   split at h
   ·rename_i hm
    refine .inl ⟨i,j,ra.int_inv,rb.int_inv,?_,Zau.ok h S Rep.int⟩
    simp only [Zck,Bool.or_eq_true,Bool.and_eq_true,decide_eq_true_eq] at hm
    exact hm
   ·exact h.elim
  | _=>exact h.elim
 | str z=>cases b with
  | int k=>
   simp only [ZeP] at h
   split at h
   ·rename_i hz
    exact .inr (.inl ⟨z,k,ra.str_inv,rb.int_inv,hz.1,hz.2.1,hz.2.2,Zau.ok h S Rep.str⟩)
   ·exact h.elim
  | _=>exact h.elim
 | ref n=>cases b with
  | int k=>
   simp only [ZeP] at h
   cases hn:M[n]? with
   | none=>simp only [hn] at h; exact h.elim
   | some o=>
    cases o with
    | dct _=>simp only [hn] at h; exact h.elim
    | fdct _=>simp only [hn] at h; exact h.elim
    | lst z=>
     simp only [hn] at h
     split at h
     ·rename_i hz
      obtain ⟨p,hp,rfl⟩:=ra.ref_inv
      obtain ⟨vs,e,r⟩:=S.obj n _ p hn hp
      refine .inr (.inr ⟨p,k,vs,rfl,rb.int_inv,e,by omega,by omega,by rw [r.length]; exact Nat.le_trans hz.1 Zcg,fun q hq=>?_⟩)
      obtain ⟨x2,S2,r2⟩:=S.lst hq (Zab.repl r k.toNat)
      exact h _ _ _ x2 S2 r2
     ·exact h.elim
  | _=>exact h.elim
 | _=>cases b <;> exact h.elim
theorem ZlM (n d:Nat) (hd:d ≤ n) (o:Option Int):(match o with | none=>(d:Int) | some i=>max 0 (min (if i < 0 then i + (n:Int) else i) (n:Int))) = ((sIx n d o:Nat):Int):=by
 cases o with
 | none=>rfl
 | some v=>
  simp only [sIx]
  split <;> omega
theorem Zgx (lo hi:Option Int) (n:Nat):Builtin.Str.strSliceIndices lo hi 1 n = (List.range (sIx n n hi - sIx n 0 lo)).map (fun k=>sIx n 0 lo + k):=by
 have e1:=ZlM n 0 (Nat.zero_le _) lo
 have e2:=ZlM n n (Nat.le_refl _) hi
 have key:Builtin.Str.strSliceIndices lo hi 1 n = sliceRange ((sIx n 0 lo:Nat):Int) ((sIx n n hi:Nat):Int) 1:=by
  rw [← e1,← e2]
  simp only [Builtin.Str.strSliceIndices,show ((1:Int) > 0) = True from by simp,if_true]
  cases lo <;> cases hi <;> rfl
 rw [key]
 generalize sIx n 0 lo = a
 generalize sIx n n hi = b
 simp only [sliceRange,show ((1:Int) > 0) = True from by simp,if_true]
 by_cases hlt:(a:Int) < b
 ·have e3:(((b:Int) - a + 1 - 1) / 1).toNat = b - a:=by first | omega | (simp; done) | (simp; omega)
  simp only [hlt,if_true,e3]
  refine List.map_congr_left fun k _=>?_
  omega
 ·have:b - a = 0:=by omega
  simp [hlt,this]
theorem ZiX (n d:Nat) (hd:d ≤ n) (o:Option Int):sIx n d o ≤ n:=by
 cases o with
 | none=>exact hd
 | some v=>simp only [sIx]; split <;> omega
theorem Zk0 (z:List Nat) (lo hi:Option Int) (l u:Option (Int × Tok)) (hl:l.map (·.1) = lo) (hu:u.map (·.1) = hi):
  (if ((1:Int) == 1 && (slicePicked ⟨z.toArray⟩ l u none).length == (⟨z.toArray⟩:Str).length) = true then (⟨z.toArray⟩:Str) else ⟨((slicePicked ⟨z.toArray⟩ l u none).filterMap ((⟨z.toArray⟩:Str).cps[·]?)).toArray⟩) = ⟨(cutD z lo hi).toArray⟩:=by
 have e0:slicePicked ⟨z.toArray⟩ l u none = (List.range (sIx z.length z.length hi - sIx z.length 0 lo)).map (fun k=>sIx z.length 0 lo + k):=by
  unfold slicePicked
  rw [hl,hu]
  simp only [Str.length,List.size_toArray]
  exact Zgx lo hi z.length
 have hb:=ZiX z.length z.length (Nat.le_refl _) hi
 rw [e0]
 have pick:((List.range (sIx z.length z.length hi - sIx z.length 0 lo)).map (fun k=>sIx z.length 0 lo + k)).filterMap ((⟨z.toArray⟩:Str).cps[·]?) = cutD z lo hi:=by
  unfold cutD
  by_cases hab:sIx z.length 0 lo ≤ sIx z.length z.length hi
  ·have h:=StrLaws.picks z (sIx z.length z.length hi - sIx z.length 0 lo) (sIx z.length 0 lo) (by omega)
   simpa using h
  ·have:sIx z.length z.length hi - sIx z.length 0 lo = 0:=by omega
   rw [this]
   simp
 rw [pick]
 split
 ·rename_i hc
  simp only [List.length_map,List.length_range,Str.length,List.size_toArray,Bool.and_eq_true,beq_iff_eq] at hc
  have hc2:=hc.2
  have h0:sIx z.length 0 lo = 0 ∨ z.length = 0:=by omega
  have:cutD z lo hi = z:=by
   unfold cutD
   rcases h0 with h0 | h0
   ·rw [h0,List.drop_zero,List.take_of_length_le (by omega)]
   ·have:z = []:=List.eq_nil_of_length_eq_zero h0
    subst this
    simp
  rw [this]
 ·rfl
theorem ZpS:SlR X (fun x lo hi H Q=>∃ z:List Nat,x = .str ⟨z.toArray⟩ ∧ z.length ≤ SZ ∧ Q (.str ⟨(cutD z lo hi).toArray⟩) H):=by
 intro pins s σ H x v vl vu lo hi sl Q I rx hs pl pu h
 obtain ⟨z,rfl,hz,q⟩:=h
 obtain ⟨t,rfl⟩:=rx
 have part:∀ {v:Value} {o:Option Int},IsPart v o → ∃ p:Option (Int × Tok),v = partValue p ∧ p.map (·.1) = o:=by
  intro v o h
  cases h with
  | none=>exact ⟨none,rfl,rfl⟩
  | int i t=>exact ⟨some (i,t),rfl,rfl⟩
 obtain ⟨l,rfl,hl⟩:=part pl
 obtain ⟨u,rfl,hu⟩:=part pu
 refine ⟨"str",_,PySem.F.slot_str_getitem.lookup,typeIs_str _ _ _,?_⟩
 refine wpAny_getItem_str_slice (l:=l) (u:=u) (st:=none) hs rfl ?_
 unfold sliceMade
 refine post_val_or_made (fun _=>?_) fun t' k=>?_
 ·show ((slicePicked ⟨z.toArray⟩ l u none).filterMap ((⟨z.toArray⟩:Str).cps[·]?)).toArray.size ≤ sizeLine
  rw [List.size_toArray]
  refine Nat.le_trans (List.length_filterMap_le _ _) ?_
  show (Builtin.Str.strSliceIndices (l.map (·.1)) (u.map (·.1)) 1 (⟨z.toArray⟩:Str).length).length ≤ sizeLine
  rw [Zgx]
  simp only [List.length_map,List.length_range,Str.length,List.size_toArray]
  have:=ZiX z.length z.length (Nat.le_refl _) (u.map (·.1))
  have:=Zcg
  omega
 ·have e:=Zk0 z lo hi l u hl hu
  have e':(if (((none:Option (Int × Tok)).map (·.1)).getD 1 == 1 && (slicePicked ⟨z.toArray⟩ l u none).length == (⟨z.toArray⟩:Str).length) = true then (⟨z.toArray⟩:Str) else ⟨((slicePicked ⟨z.toArray⟩ l u none).filterMap ((⟨z.toArray⟩:Str).cps[·]?)).toArray⟩) = ⟨(cutD z lo hi).toArray⟩:=e
  rw [e']
  exact ⟨.str _,H,I.tok _,⟨_,rfl⟩,q⟩
theorem ZfA {prog:Program} {w:World} {A:Around} {E:Value → Shared → Prop} {s:Shared} {t sl:Addr} {items:Array Value} {vl vu:Value} {lo hi:Option Int} {Q:Value → Shared → Prop} (ht:IsTup s.heap t items) (hs:s.heap.IsSliceOf sl vl vu .none) (pl:IsPart vl lo) (pu:IsPart vu hi)
  (hw:HT.sIx items.size 0 lo = 0 ∧ HT.sIx items.size items.size hi = items.size) (h:Q (.ref t) s):wpAny (model prog w) A (getItem (.ref t) (.ref sl)) Q E s:=by
 obtain ⟨os,hos,hcs,hds⟩:=id hs
 have hTs:s.TypeIs (.ref sl) "slice":=⟨os,hos,hcs⟩
 unfold getItem
 try with_reducible refine wpAny_holding ?_
 first | refine wpAny_bind (wpAny_pure ?_) | skip
 refine wpAny_bind (wpAny_sequenceKey ht.typeIs (by decide) ?_)
 refine wpAny_bind (wpAny_callSpecial?_slot (name:=Str.ofString "__getitem__") ht.typeIs PyProof.Rows.slot_tuple_getitem
  (wpAny_call_entry PyProof.Rows.slot_tuple_getitem ht.typeIs entry_tuple_getitem ?_ (args_tuple_getitem _ _)))
 show wpAny _ _ (Builtin.Tuple.tupleItemsOf (.ref t) >>= _) _ _ s
 refine wpAny_bind (tupleItemsOf_ ht ?_)
 refine wpAny_bind (wpAny_typeOf hTs ?_)
 rw [if_pos (by decide)]
 refine wpAny_bind (HT.sliceApplied_gen hs pl pu ?_)
 have hyes:(((HT.sIx items.size 0 lo:Nat):Int) == 0 && (1:Int) == 1 && (HT.sIx items.size items.size hi - HT.sIx items.size 0 lo) == items.size) = true:=by
  rw [hw.1,hw.2]; simp
 show wpAny _ _ (if (((HT.sIx items.size 0 lo:Nat):Int) == 0 && (1:Int) == 1 && (HT.sIx items.size items.size hi - HT.sIx items.size 0 lo) == items.size) = true then _ else _) _ _ s
 rw [if_pos hyes]
 unfold Builtin.Tuple.tupleIsExact
 refine wpAny_bind (wpAny_bind (wpAny_typeOf ht.typeIs (wpAny_pure ?_)))
 rw [if_pos (by decide)]
 exact wpAny_bind (wpAny_rule (wpAny_pure ⟨_,rfl,wpAny_pure h⟩))
theorem ZoP:SlR X (fun x lo hi H Q=>∃ a xs,x = .ref a ∧ SqT X.K H a xs ∧ (HT.sIx xs.length 0 lo = 0 ∧ HT.sIx xs.length xs.length hi = xs.length) ∧ Q (.ref a) H):=by
 intro pins s σ H x v vl vu lo hi sl Q I rx hs pl pu h
 obtain ⟨a,xs,rfl,hx,hw,q⟩:=h
 cases rx
 obtain ⟨its,r,ht,hz⟩:=I.tuple hx
 have hlen:its.toArray.size = xs.length:=by rw [List.size_toArray]; exact r.length.symm
 refine ⟨"tuple",_,PyProof.Rows.slot_tuple_getitem.lookup,ht.typeIs,?_⟩
 exact ZfA ht hs pl pu (by rw [hlen]; exact hw) ⟨.ref a,H,I,rfl,q⟩
theorem ZgQ:SlR X (rS X.K):=SlR.imp (SlR.or (SlR.or Zpx ZoP) (SlR.or Zow ZpS)) fun x lo hi H Q ⟨ι,M,a,S,ra,h⟩=>by
 have ex:∀ n d o,HT.sIx n d o = sIx n d o:=fun n d o=>by cases o <;> rfl
 cases a with
 | tup ds=>
  simp only [ZfP] at h
  obtain ⟨p,vs,rfl,s,r⟩:=ra.tup_inv
  by_cases hw:sIx ds.length 0 lo = 0 ∧ sIx ds.length ds.length hi = ds.length
  ·refine .inl (.inr ⟨p,vs,rfl,s,by rw [ex,ex,r.length]; exact hw,?_⟩)
   have e:cutD ds lo hi = ds:=by unfold cutD; rw [hw.1,hw.2]; simp
   rw [e] at h
   exact Zau.ok h S (Rep.tup s r)
  ·refine .inl (.inl ⟨p,vs,rfl,s,by rw [ex,ex,r.length]; exact hw,fun q hq=>?_⟩)
   obtain ⟨x2,S2,r2⟩:=S.tupl hq (Zk5 r lo hi)
   exact h _ _ _ x2 S2 r2
 | scr ds=>
  simp only [ZfP] at h
  obtain ⟨p,vs,rfl,s,r⟩:=ra.scr_inv
  refine .inr (.inl ⟨p,vs,rfl,s.sq,fun q hq=>?_⟩)
  obtain ⟨x2,S2,r2⟩:=S.lst hq (Zk5 r lo hi)
  exact h _ _ _ x2 S2 r2
 | str z=>
  simp only [ZfP] at h
  split at h
  ·rename_i hz
   exact .inr (.inr ⟨z,ra.str_inv,hz,Zau.ok h S Rep.str⟩)
  ·exact h.elim
 | ref n=>
  simp only [ZfP] at h
  cases hn:M[n]? with
  | none=>simp only [hn] at h; exact h.elim
  | some o=>
   cases o with
   | dct _=>simp only [hn] at h; exact h.elim
   | fdct _=>simp only [hn] at h; exact h.elim
   | lst ds=>
    simp only [hn] at h
    obtain ⟨p,hp,rfl⟩:=ra.ref_inv
    obtain ⟨vs,e,r⟩:=S.obj n _ p hn hp
    refine .inr (.inl ⟨p,vs,rfl,SqL.of e,fun q hq=>?_⟩)
    obtain ⟨x2,S2,r2⟩:=S.lst hq (Zk5 r lo hi)
    exact h _ _ _ x2 S2 r2
 | _=>exact h.elim
theorem Zey {K:PySem.W.Frag} {H:Hp} {ι:List Addr} {d:D} {xs:List V} (r:Zab K H ι [d] xs):∃ x,xs = [x] ∧ Rep K H ι d x:=by
 obtain ⟨v,ws,rfl,r1,r2⟩:=r.cons_inv
 have:=r2.nil_inv
 subst this
 exact ⟨v,rfl,r1⟩
theorem Zcu:Zbv X (.builtin "len") (rB X.K ZaY):=Zbv.imp ZmR fun xs H Q ⟨ι,M,ds,S,rd,h⟩=>by
 cases ds with
 | nil=>exact h.elim
 | cons d ds=>
  cases ds with
  | cons _ _=>cases d <;> exact h.elim
  | nil=>
   obtain ⟨x,rfl,r⟩:=Zey rd
   cases d with
   | tup z=>
    obtain ⟨p,vs,rfl,s,r'⟩:=r.tup_inv
    exact ⟨_,vs.length,rfl,.inr ⟨vs,s,rfl⟩,by rw [r'.length]; exact Zau.ok h S Rep.int⟩
   | scr z=>
    obtain ⟨p,vs,rfl,s,r'⟩:=r.scr_inv
    exact ⟨_,vs.length,rfl,.inl ⟨vs,s.sq,rfl⟩,by rw [r'.length]; exact Zau.ok h S Rep.int⟩
   | str z=>
    simp only [ZaY] at h
    split at h
    ·rename_i hz
     have:=r.str_inv
     subst this
     refine ⟨_,z.length,rfl,⟨?_,?_⟩,Zau.ok h S Rep.int⟩
     ·show z.toArray.size ≤ sizeLine
      rw [List.size_toArray]
      exact Nat.le_trans hz Zcg
     ·show z.length = z.toArray.size
      rw [List.size_toArray]
    ·exact h.elim
   | ref n=>
    cases hn:M[n]? with
    | none=>simp only [ZaY,hn] at h; exact h.elim
    | some o=>
     cases o with
     | dct _=>simp only [ZaY,hn] at h; exact h.elim
     | fdct _=>simp only [ZaY,hn] at h; exact h.elim
     | lst z=>
      simp only [ZaY,hn] at h
      obtain ⟨p,hp,rfl⟩:=r.ref_inv
      obtain ⟨vs,e,r'⟩:=S.obj n _ p hn hp
      exact ⟨_,vs.length,rfl,.inl ⟨vs,SqL.of e,rfl⟩,by rw [r'.length]; exact Zau.ok h S Rep.int⟩
   | _=>exact h.elim
theorem Zd7:Zbv X (.type "tuple") (rB X.K Za7):=Zbv.imp ZhR fun xs H Q ⟨ι,M,ds,S,rd,h⟩=>by
 cases ds with
 | nil=>exact h.elim
 | cons d ds=>
  cases ds with
  | cons _ _=>cases d <;> exact h.elim
  | nil=>
   obtain ⟨x,rfl,r⟩:=Zey rd
   cases d with
   | tup z=>
    obtain ⟨p,vs,rfl,s,r'⟩:=r.tup_inv
    exact ⟨p,vs,rfl,.inr ⟨s,Zau.ok h S (Rep.tup s r')⟩⟩
   | scr z=>
    obtain ⟨p,vs,rfl,s,r'⟩:=r.scr_inv
    refine ⟨p,vs,rfl,.inl ⟨s.sq,fun q hq=>?_⟩⟩
    obtain ⟨x2,S2,r2⟩:=S.tupl hq r'
    exact h _ _ _ x2 S2 r2
   | ref n=>
    cases hn:M[n]? with
    | none=>simp only [Za7,hn] at h; exact h.elim
    | some o=>
     cases o with
     | dct _=>simp only [Za7,hn] at h; exact h.elim
     | fdct _=>simp only [Za7,hn] at h; exact h.elim
     | lst z=>
      simp only [Za7,hn] at h
      obtain ⟨p,hp,rfl⟩:=r.ref_inv
      obtain ⟨vs,e,r'⟩:=S.obj n _ p hn hp
      refine ⟨p,vs,rfl,.inl ⟨SqL.of e,fun q hq=>?_⟩⟩
      obtain ⟨x2,S2,r2⟩:=S.tupl hq r'
      exact h _ _ _ x2 S2 r2
   | _=>exact h.elim
theorem ZpU:Zbv X (.type "list") (rB X.K ZiD):=Zbv.imp Zje fun xs H Q ⟨ι,M,ds,S,rd,h⟩=>by
 cases ds with
 | nil=>exact h.elim
 | cons d ds=>
  cases ds with
  | cons _ _=>cases d <;> exact h.elim
  | nil=>
   obtain ⟨x,rfl,r⟩:=Zey rd
   cases d with
   | tup z=>
    obtain ⟨p,vs,rfl,s,r'⟩:=r.tup_inv
    refine ⟨p,vs,rfl,.inr s,fun q hq=>?_⟩
    obtain ⟨x2,S2,r2⟩:=S.lst hq r'
    exact h _ _ _ x2 S2 r2
   | scr z=>
    obtain ⟨p,vs,rfl,s,r'⟩:=r.scr_inv
    refine ⟨p,vs,rfl,.inl s.sq,fun q hq=>?_⟩
    obtain ⟨x2,S2,r2⟩:=S.lst hq r'
    exact h _ _ _ x2 S2 r2
   | ref n=>
    cases hn:M[n]? with
    | none=>simp only [ZiD,hn] at h; exact h.elim
    | some o=>
     cases o with
     | dct _=>simp only [ZiD,hn] at h; exact h.elim
     | fdct _=>simp only [ZiD,hn] at h; exact h.elim
     | lst z=>
      simp only [ZiD,hn] at h
      obtain ⟨p,hp,rfl⟩:=r.ref_inv
      obtain ⟨vs,e,r'⟩:=S.obj n _ p hn hp
      refine ⟨p,vs,rfl,.inl (SqL.of e),fun q hq=>?_⟩
      obtain ⟨x2,S2,r2⟩:=S.lst hq r'
      exact h _ _ _ x2 S2 r2
   | _=>exact h.elim
end
end L3
namespace L3
open PySem PySem.Spec PyProof.Rows L2
theorem ZbA:bootBuiltins "len" = some (.builtin "len"):=by decide +kernel
theorem Ziz:bootBuiltins "sorted" = some (.builtin "sorted"):=by decide +kernel
theorem Znr:bootBuiltins "int" = some (.type "int"):=by decide +kernel
theorem Zn6:bootBuiltins "list" = some (.type "list"):=by decide +kernel
theorem Zdt:bootBuiltins "tuple" = some (.type "tuple"):=by decide +kernel
theorem ZoM:bootBuiltins "dict" = some (.type "dict"):=by decide +kernel
section
variable {X:Cx} {a:Expr} {pos p p2:Pos} {f:E3}
end
noncomputable def ZoV (outer:List (Str × NameKind)) (N:List Str) (scope:Scope) (N':List Str) (own:Nat):Bool:=
 (scope.names.all fun y=>decide (y.2 ≠ .cell) && (decide (y.2 ≠ .free) || decide (outer.lookup y.1 = some .cell) || decide (outer.lookup y.1 = some .free)) && (decide (y.2 ≠ .local) || decide (scope.names.lookup y.1 = some .local))) &&
  decide (N'.length = N.length + own) && ZmQ N N' scope
theorem Ze8 {X:Cx} {scope:Scope} {N':List Str} {own:Nat} (hk:scope.kind = .function) (h:ZoV X.env.scope.names X.N scope N' own = true):Zhu X scope N' own:=by
 simp only [ZoV,Bool.and_eq_true,decide_eq_true_eq,List.all_eq_true,Bool.or_eq_true] at h
 obtain ⟨⟨h1,h2⟩,h3⟩:=h
 refine ⟨hk,fun y hy=>(h1 y hy).1.1,fun y hy e=>?_,fun y hy e=>?_,h2,h3⟩
 ·rcases (h1 y hy).1.2 with (q | q) | q
  ·exact absurd e q
  ·exact .inl q
  ·exact .inr q
 ·rcases (h1 y hy).2 with q | q
  ·exact absurd e q
  ·exact q
theorem ZaA {K:PySem.W.Frag} {h:Heap} {mg:Str → Option Value} (KX:K.In h) (G:h.Ns mainGlobals mg) {x:Str} {st:Stmt} {f:Addr} {oc:Value} {od an:Option Addr} {osl:Array (Option Value)} {dV kV doc pm cdv ct:Value}
  (a:PySem.W.nsIn K mainGlobals x = some (some (.ref f))) (l:K.lookup f = some ⟨oc,od,.func (PySem.W.fnOf x x (Zat st) (Zaq st) (Zr st) dV kV doc pm an cdv ct),osl⟩)
  (c:PySem.W.codeIn K cdv x = true) (k:PySem.W.keepIn K (.ref f) = true) {ps:List Str} (b:Binds K (PySem.W.fnOf x x (Zat st) (Zaq st) (Zr st) dV kV doc pm an cdv ct) ps []):Zay K mg x st ps:=⟨f,_,ZmS l c k,PySem.W.mg_of KX G a,b⟩
theorem ZrH {l:PySem.W.OpenLaw} {k:Nat} {q:Program} {loose:List Str} {XP:(Str → Option Value) → Heap → Prop} {YP:World → Heap → Prop} {d:DefRec} {K:Params → PySem.W.Frag} {F:F3} (hn:l.most = some 63) (hdf:d.params.defaults = []) (hr:Zdv k callerA)
  (hY:∀ (w:World) (h:Heap),YP w h → (K w.params).In h)
  (G:∀ (w:World) (mg:Str → Option Value) (fa:Addr) (h:Heap),(K w.params).In h → h.Ns mainGlobals mg → mg d.name = some (.ref fa) →
   ∃ fd:FuncData,(∀ (s:Shared) (u:Value),BindsTo s fd ⟨[u],[]⟩ [("script",u)]) ∧ ∀ base:Heap,(K w.params).In base → base.Ns mainGlobals mg → ZgL l.prog w (K w.params) mg base CX0 k fa fd ["script"] (sp3 (K w.params) 1 F))
  (hF:∀ ns:List Int,ns.length ≤ 63 → ∃ M',F [.scr (ns.map D.int)] [] = .ok (.bl true) M'):
  PySem.W.WalkO q loose XP YP l.row.toRowW d [] (fun f vs=>PySem.call f vs):=
 L2.Zlr (n:=63) (k:=k) (x:="script") (CX:=fun _=>CX0) (sp:=fun w=>sp3 (K w.params) 1 F) hn (by decide) hdf hr hY G (fun w H a ns hl hO hS=>by
  obtain ⟨M',e⟩:=hF ns hl
  refine ⟨[],[],[.scr (ns.map D.int)],⟨rfl,List.nodup_nil,fun n o a h=>by simp at h⟩,Zab.cons ?_ Zab.nil,rfl,?_⟩
  ·simp only [Rep]
   refine ⟨a,ns.map V.int,rfl,?_,Zab.ints ns⟩
   rcases hS with (h | ⟨o,h⟩) | h
   ·rcases hO a with z | ⟨ob,xs,z⟩
    ·rw [h] at z; cases z
    ·rw [h] at z; cases z
   ·exact .inl ⟨o,h⟩
   ·exact .inr h
  ·rw [e]
   exact fun v H' ι' _ _ r=>r.bl_inv) fun _ _ _ _ _ z=>z
end L3
namespace L3
open PySem PySem.Spec PyProof.Rows L2
theorem Zk4 {a b:Zbc} (h:dk a = dk b):a = b:=by
 cases a with
 | inl i=>cases b with
  | inl j=>simp only [dk,Sum.inl.injEq] at h; rw [h]
  | inr y=>simp [dk] at h
 | inr x=>cases b with
  | inl j=>simp [dk] at h
  | inr y=>
   simp only [dk,Sum.inr.injEq,Str.mk.injEq] at h
   have:=congrArg Array.toList h
   simp at this
   rw [this]
theorem ZgT {K:PySem.W.Frag} {H:Hp} {ι:List Addr} {b:D} {y:V} {k:Zbc} (h:ZeU b = some k) (r:Rep K H ι b y):y = kV (dk k):=by
 cases b with
 | int i=>cases h; exact r.int_inv
 | str x=>cases h; exact r.str_inv
 | _=>simp [ZeU] at h
section
variable {K:PySem.W.Frag} {H H':Hp} {ι ι':List Addr} {M:Store} {p:Addr}
theorem KvR.nil:KvR K H ι [] []:=⟨rfl,Zab.nil⟩
theorem KvR.cons {k:Zbc} {d:D} {v:V} {kvs:List (Zbc × D)} {ws:List (Key × V)} (h:Rep K H ι d v) (r:KvR K H ι kvs ws):KvR K H ι ((k,d) :: kvs) ((dk k,v) :: ws):=
 ⟨by simp [r.1],Zab.cons h r.2⟩
theorem KvR.cons_inv {q:Zbc × D} {kvs:List (Zbc × D)} {ws:List (Key × V)} (r:KvR K H ι (q :: kvs) ws):∃ v ws',ws = (dk q.1,v) :: ws' ∧ Rep K H ι q.2 v ∧ KvR K H ι kvs ws':=by
 obtain ⟨h1,h2⟩:=r
 cases ws with
 | nil=>simp at h1
 | cons w ws=>
  simp only [List.map_cons,List.cons.injEq] at h1
  obtain ⟨v,us,e,r1,r2⟩:=Zab.cons_inv h2
  simp only [List.map_cons,List.cons.injEq] at e
  exact ⟨w.2,ws,by rw [← h1.1],e.1 ▸ r1,h1.2,e.2 ▸ r2⟩
theorem KvR.nil_inv {ws:List (Key × V)} (r:KvR K H ι [] ws):ws = []:=by simpa using r.1
theorem KvR.mono {kvs:List (Zbc × D)} {ws:List (Key × V)} (r:KvR K H ι kvs ws) (e:Ext K H ι H' ι'):KvR K H' ι' kvs ws:=⟨r.1,r.2.mono e⟩
theorem KvR.length {kvs:List (Zbc × D)} {ws:List (Key × V)} (r:KvR K H ι kvs ws):ws.length = kvs.length:=by
 have:=congrArg List.length r.1
 simpa using this
theorem KvR.val {kvs:List (Zbc × D)} (k:Zbc):∀ {ws:List (Key × V)},KvR K H ι kvs ws → match Zcq kvs k with | some d=>∃ v,Ze2 ws (dk k) = some v ∧ Rep K H ι d v | none=>Ze2 ws (dk k) = none:=by
 induction kvs with
 | nil=>intro ws r; rw [r.nil_inv]; exact Zm6
 | cons q kvs ih=>
  intro ws r
  obtain ⟨v,ws',rfl,r1,r2⟩:=r.cons_inv
  obtain ⟨k',d⟩:=q
  unfold Zcq
  by_cases e:k' = k
  ·rw [if_pos e]
   exact ⟨v,ZfW (by rw [e]),r1⟩
  ·rw [if_neg e,ZfL fun z=>e (Zk4 z)]
   exact ih r2
theorem KvR.append {k1 k2:List (Zbc × D)} {w1 w2:List (Key × V)} (a:KvR K H ι k1 w1) (b:KvR K H ι k2 w2):KvR K H ι (k1 ++ k2) (w1 ++ w2):=
 ⟨by simp [a.1,b.1],by rw [List.map_append,List.map_append]; exact a.2.append b.2⟩
theorem KvR.any {kvs:List (Zbc × D)} (k:Zbc):∀ {ws:List (Key × V)},KvR K H ι kvs ws → (ws.any fun kv=>decide (kv.1 = dk k)) = (kvs.any fun q=>decide (q.1 = k)):=by
 induction kvs with
 | nil=>intro ws r; rw [r.nil_inv]; rfl
 | cons q kvs ih=>
  intro ws r
  obtain ⟨v,ws',rfl,r1,r2⟩:=r.cons_inv
  rw [List.any_cons,List.any_cons,ih r2]
  congr 1
  by_cases e:q.1 = k
  ·simp [e]
  ·simp [e]; exact fun z=>e (Zk4 z)
theorem KvR.put {kvs:List (Zbc × D)} {k:Zbc} {d:D} {v:V} {ws:List (Key × V)} (r:KvR K H ι kvs ws) (rd:Rep K H ι d v):KvR K H ι (putD k d kvs) (putK ws (dk k) v):=by
 unfold putD putK
 rw [r.any k]
 by_cases c:(kvs.any fun q=>decide (q.1 = k)) = true
 ·rw [if_pos c,if_pos c]
  clear c
  induction kvs generalizing ws with
  | nil=>rw [r.nil_inv]; exact KvR.nil
  | cons q kvs ih=>
   obtain ⟨u,ws',rfl,r1,r2⟩:=r.cons_inv
   rw [List.map_cons,List.map_cons]
   by_cases e:q.1 = k
   ·rw [if_pos e,if_pos (by rw [e])]; exact KvR.cons rd (ih r2)
   ·rw [if_neg e,if_neg fun z=>e (Zk4 z)]; exact KvR.cons r1 (ih r2)
 ·rw [if_neg c,if_neg c]
  exact r.append (KvR.cons rd KvR.nil)
theorem KvR.merge {l:List (Zbc × D)}:∀ {kvs:List (Zbc × D)} {ws us:List (Key × V)},KvR K H ι l us → KvR K H ι kvs ws → KvR K H ι (l.foldl (fun acc p=>putD p.1 p.2 acc) kvs) (ZhE ws us):=by
 induction l with
 | nil=>intro kvs ws us r r0; rw [r.nil_inv]; exact r0
 | cons q l ih=>
  intro kvs ws us r r0
  obtain ⟨v,us',rfl,r1,r2⟩:=r.cons_inv
  exact ih (ws:=putK ws (dk q.1) v) (us:=us') r2 (r0.put r1)
theorem Zav.dct (S:Zav K H ι M) (hp:H p = none) {kvs:List (Zbc × D)} {ws:List (Key × V)} (r:KvR K H ι kvs ws):Ext K H ι (upd H p (.dK ws)) (ι ++ [p]) ∧ Zav K (upd H p (.dK ws)) (ι ++ [p]) (M ++ [.dct kvs]) ∧ Rep K (upd H p (.dK ws)) (ι ++ [p]) (.ref M.length) (.ref p):=by
 have e:Ext K H ι (upd H p (.dK ws)) (ι ++ [p]):=Loose.extA (.inl hp)
 exact ⟨e,S.new hp ⟨ws,ZbO,r.mono e⟩,Rep.ref (by rw [← S.len]; simp)⟩
theorem Zav.setd (S:Zav K H ι M) {n:Nat} (l0:Loose H p) (hn:ι[n]? = some p) {kvs:List (Zbc × D)} {ws:List (Key × V)} (r:KvR K H ι kvs ws):Ext K H ι (upd H p (.dK ws)) ι ∧ Zav K (upd H p (.dK ws)) ι (M.set n (.dct kvs)):=by
 have e:Ext K H ι (upd H p (.dK ws)) ι:=Loose.ext l0
 exact ⟨e,S.put l0 hn ⟨ws,ZbO,r.mono e⟩⟩
end
section
variable {X:Cx} {a b c e o:Expr} {es:List Expr} {pos p pos' apos cpos:Pos} {f g h:E3} {gl:EL3}
noncomputable def Zpf (K:PySem.W.Frag) (H:Hp) (ι:List Addr) (Q:List (V × V) → Hp → Prop) (r:R3 (List (Zbc × D))):Prop:=match r with
 | .ok l M'=>∀ ws H' ι',Ext K H ι H' ι' → Zav K H' ι' M' → KvR K H' ι' l ws → Q (ws.map fun kv=>(kV kv.1,kv.2)) H'
 | _=>False
theorem Zpf.bind {K:PySem.W.Frag} {H:Hp} {ι:List Addr} {α:Type} {Q:List (V × V) → Hp → Prop} {r:R3 α} {k:α → Store → R3 (List (Zbc × D))} (h:Zpf K H ι Q (r.bind k)):∃ a M,r = .ok a M ∧ Zpf K H ι Q (k a M):=by
 cases r with
 | ok a M=>exact ⟨a,M,rfl,h⟩
 | exc x M=>exact h.elim
 | bad=>exact h.elim
theorem Zph:C3 X (.Dict [] [] pos) Zo7:=ZmG.imp fun σ H Q ⟨ι,M,env,S,E,h⟩ p hp=>by
 obtain ⟨x1,S1,r1⟩:=S.dct hp KvR.nil
 exact h _ _ _ x1 S1 r1
theorem hu1 (hu:X.A.units + 80 < cLine):X.A.units + 1 < cLine:=by omega
theorem ZiY {K:PySem.W.Frag} {H:Hp} {ι:List Addr} {M:Store} (S:Zav K H ι M) {n:Nat} {kvs:List (Zbc × D)} {a:Addr} (h:Zc2 M[n]? = some kvs) (ha:ι[n]? = some a):∃ ws,Rd H a (.dK ws) ∧ KvR K H ι kvs ws:=by
 cases hn:M[n]? with
 | none=>simp [hn] at h
 | some ob=>
  cases ob with
  | lst _=>simp [hn] at h
  | dct k=>
   have e:k = kvs:=by simpa [hn] using h
   subst e
   obtain ⟨ws,hw,kr⟩:=S.obj n _ a hn ha
   exact ⟨ws,.inl hw,kr⟩
  | fdct k=>
   have e:k = kvs:=by simpa [hn] using h
   subst e
   obtain ⟨ws,⟨o,hw⟩,kr⟩:=S.obj n _ a hn ha
   exact ⟨ws,.inr ⟨o,hw⟩,kr⟩
theorem Zny (hu:X.A.units + 80 < cLine) (ha:C3 X a f) (hb:C3 X b g) (hs:ZpP b:=by exact fun _ _=>rfl):C3 X (.Subscript a b pos) (e2 Zc6 f g):=(ZoK (hu1 hu) ha hb hs).imp fun σ H Q ⟨ι,M,env,S,E,h⟩=>by
 obtain ⟨d,M1,e1,h⟩:=Zau.bind h
 obtain ⟨k,M2,e2,h⟩:=Zau.bind h
 refine ⟨ι,M,env,S,E,?_⟩
 rw [e1]
 intro x H1 ι1 x1 S1 r1
 refine ⟨ι1,M1,env,S1,E.mono x1,?_⟩
 rw [e2]
 intro y H2 ι2 x2 S2 r2
 cases d with
 | ref n=>
  simp only [Zc6] at h
  cases hn:Zc2 M2[n]? with
  | none=>simp only [hn] at h; exact h.elim
  | some kvs=>
   cases hk:ZeU k with
   | none=>simp only [hn,hk] at h; exact h.elim
   | some kk=>
    simp only [hn,hk] at h
    cases hv:Zcq kvs kk with
    | none=>simp only [hv] at h; exact h.elim
    | some w=>
     simp only [hv] at h
     obtain ⟨ad,ha,rfl⟩:=(r1.mono x2).ref_inv
     obtain ⟨ws,hw,kr⟩:=ZiY S2 hn ha
     have hv':=kr.val kk
     rw [hv] at hv'
     obtain ⟨v,ev,rv⟩:=hv'
     refine ⟨ad,v,rfl,?_,h v H2 ι2 (x1.trans x2) S2 rv⟩
     rw [ZgT hk r2,← ev]
     exact .inl ⟨ws,dk kk,hw,rfl,rfl⟩
 | _=>exact h.elim
theorem ZlH {K:PySem.W.Frag} {op:D → D → D → Store → R3 D} {H:Hp} {ι:List Addr} {Q:VK} {env:ZaE} {M:Store} (h':Zau K H ι Q (e3 op f g h env M)):
  ∃ a M1 b M2 c M3,f env M = .ok a M1 ∧ g env M1 = .ok b M2 ∧ h env M2 = .ok c M3 ∧ Zau K H ι Q (op a b c M3):=by
 obtain ⟨a,M1,e1,h'⟩:=Zau.bind h'
 obtain ⟨b,M2,e2,h'⟩:=Zau.bind h'
 obtain ⟨c,M3,e3,h'⟩:=Zau.bind h'
 exact ⟨a,M1,b,M2,c,M3,e1,e2,e3,h'⟩
theorem ZjX {K:PySem.W.Frag} {H:Hp} {ι:List Addr} {D':Ends} {env:ZaE} {M:Store} {σ:St} (E:ZbQ K H ι env σ) (h':Zfo K H ι D' (Za9 f env M)):Zau K H ι (fun _ H'=>D'.nx σ H') (f env M):=by
 unfold Za9 at h'
 cases q:f env M with
 | ok d M1=>rw [q] at h'; exact fun v H1 ι1 x1 S1 r1=>h' σ H1 ι1 x1 S1 (E.mono x1)
 | exc x M1=>rw [q] at h'; exact h'.elim
 | bad=>rw [q] at h'; exact h'.elim
theorem ZoS {i:Expr} (hu:X.A.units + 80 < cLine) (ho:C3 X o f) (hi:C3 X i g) (hv:C3 X e h) (hs:swapsWith e (some (.Subscript o i pos')) pos.line X.env = pure false:=by rfl):CS X (.Assign [.Subscript o i pos'] e pos) (Zlv f g h):=(Zoy (hu1 hu) ho hi hv hs).imp fun D' σ H ⟨ι,M,env,S,E,hh⟩=>by
 obtain ⟨d,M1,b,M2,k,M3,e1,e2,e3,hh⟩:=ZlH (ZjX E hh)
 refine ⟨ι,M,env,S,E,?_⟩
 rw [e1]
 intro v H1 ι1 x1 S1 r1
 refine ⟨ι1,M1,env,S1,E.mono x1,?_⟩
 rw [e2]
 intro x H2 ι2 x2 S2 r2
 refine ⟨ι2,M2,env,S2,(E.mono x1).mono x2,?_⟩
 rw [e3]
 intro y H3 ι3 x3 S3 r3
 cases b with
 | ref n=>
  simp only [ZkC] at hh
  cases hn:M3[n]? with
  | none=>simp only [hn] at hh; exact hh.elim
  | some ob=>
   cases ob with
   | lst _=>simp only [hn] at hh; exact hh.elim
   | fdct _=>simp only [hn] at hh; exact hh.elim
   | dct kvs=>
    cases hk:ZeU k with
    | none=>simp only [hn,hk] at hh; exact hh.elim
    | some kk=>
     simp only [hn,hk] at hh
     split at hh
     ·rename_i hz
      obtain ⟨ad,ha,rfl⟩:=(r2.mono x3).ref_inv
      obtain ⟨ws,hw,kr⟩:=S3.obj n _ ad hn ha
      obtain ⟨x4,S4⟩:=S3.setd (.inr (.inr ⟨_,hw⟩)) ha (kr.put (k:=kk) ((r1.mono x2).mono x3))
      refine ⟨ad,_,rfl,?_,hh .non _ _ (((x1.trans x2).trans x3).trans x4) S4 Rep.non⟩
      rw [ZgT hk r3]
      exact ZkA.k hw (by rw [kr.length]; exact Nat.lt_of_lt_of_le hz Zcg)
     ·exact hh.elim
 | _=>exact hh.elim
theorem Zfe {i:Expr} {spos:Pos} (ho:C3 X o f) (hi:C3 X i g) (hv:C3 X e h)
  (ha:∀ v,assign (.Subscript o i spos) X.env v = (do
   let ov ← holding [v] (eval o X.env)
   let iv ← holding [v,ov] (eval i X.env)
   standAt spos
   holding [v,ov,iv] (setItem ov iv v)
   release [v,ov,iv] []):=by intro _; rfl)
  (hs:swapsWithSole [.Subscript o i spos] e pos.line X.env = pure false:=by rfl) (hw:swappedStores [.Subscript o i spos] e X.env = pure none:=by rfl)
  (h1:(assignEach [.Subscript o i spos] X.env).map (·.2) = [assign (.Subscript o i spos) X.env]:=by rfl):CS X (.Assign [.Subscript o i spos] e pos) (ZfN f g h):=(ZnH hv (Zqq ho hi set_list ha) hs hw h1).imp fun D' σ H ⟨ι,M,env,S,E,hh⟩=>by
 obtain ⟨d,M1,b,M2,k,M3,e1,e2,e3,hh⟩:=ZlH (ZjX E hh)
 refine ⟨ι,M,env,S,E,?_⟩
 rw [e1]
 intro v H1 ι1 x1 S1 r1
 refine ⟨ι1,M1,env,S1,E.mono x1,?_⟩
 rw [e2]
 intro x H2 ι2 x2 S2 r2
 refine ⟨ι2,M2,env,S2,(E.mono x1).mono x2,?_⟩
 rw [e3]
 intro y H3 ι3 x3 S3 r3
 cases b with
 | ref n=>
  cases k with
  | int j=>
   simp only [Zgj] at hh
   cases hn:M3[n]? with
   | none=>simp only [hn] at hh; exact hh.elim
   | some ob=>
    cases ob with
    | dct _=>simp only [hn] at hh; exact hh.elim
    | fdct _=>simp only [hn] at hh; exact hh.elim
    | lst xs=>
     simp only [hn] at hh
     cases hj:ixD xs.length j with
     | none=>simp only [hj] at hh; exact hh.elim
     | some q=>
      simp only [hj] at hh
      obtain ⟨ad,ha,rfl⟩:=(r2.mono x3).ref_inv
      obtain ⟨ws,hw,kr⟩:=S3.obj n _ ad hn ha
      obtain ⟨x4,S4⟩:=S3.setl (.inr (.inl ⟨_,hw⟩)) ha (kr.set q ((r1.mono x2).mono x3))
      exact ⟨ad,ws,j,q,rfl,r3.int_inv,hw,by rw [kr.length]; exact hj,hh .non _ _ (((x1.trans x2).trans x3).trans x4) S4 Rep.non⟩
  | _=>exact hh.elim
 | _=>exact hh.elim
end
end L3
namespace L3
open PySem PySem.W PyProof.Rows
section
variable {lt:Nat → Nat → Bool}
structure ZfK (lt:Nat → Nat → Bool):Prop where
 asym:∀ {a b},lt a b = true → lt b a = false
 tr:∀ {a b c},lt b a = false → lt c b = false → lt c a = false
theorem ZfK.rf (o:ZfK lt) (a:Nat):lt a a = false:=by
 cases h:lt a a
 ·rfl
 ·exact h ▸ o.asym h
noncomputable abbrev at' (p:Array Nat) (i:Nat):Nat:=p.getD i 0
end
end L3
namespace L3
open PySem PySem.W PyProof.Rows
section
noncomputable def ZnK {α:Type} (n:Nat) (R:α → Prop):KasT α → Prop
 | .ret a=>R a
 | .ask i j k=>i < n ∧ j < n ∧ ∀ b,ZnK n R (k b)
theorem ZnK.bind {α β:Type} {n:Nat} {R:α → Prop} {R':β → Prop} {f:α → KasT β} (hf:∀ a,R a → ZnK n R' (f a)):∀ {t:KasT α},ZnK n R t → ZnK n R' (t.bind f)
 | .ret a,h=>hf a h
 | .ask _ _ _,⟨h1,h2,h3⟩=>⟨h1,h2,fun b=>(h3 b).bind hf⟩
variable {n:Nat}
noncomputable def Low (n:Nat) (p:Array Nat):Prop:=∀ i,at' p i < n
theorem Low.perm {p q:Array Nat} (h0:0 < n) (l:Low n p) (e:q.Perm p):Low n q:=by
 intro i
 unfold at'
 rw [Array.getD_eq_getD_getElem?]
 cases h:q[i]? with
 | none=>simpa using h0
 | some x=>
  have hx:x ∈ p:=e.mem_iff.mp (Array.mem_of_getElem? h)
  obtain ⟨j,hj,e2⟩:=Array.mem_iff_getElem.mp hx
  have:=l j
  unfold at' at this
  rw [Array.getD_eq_getD_getElem?,Array.getElem?_eq_getElem hj,e2] at this
  simpa using this
end
section
variable {prog:Program} {w:World} {A:Around} {E:Value → Shared → Prop} {s:Shared}
noncomputable def ZhF (h:Heap) (a:Addr) (vs:List Value):Heap:=((h.update a (Obj.mapSeq fun _=>#[])).push (seqObj "tuple" vs.toArray 0)).push (seqObj "list" #[] 0)
noncomputable def ZfZ (s s':Shared):Prop:=∃ t,s' = { s with toks:=t }
theorem ZnM {h:Heap} {a b:Addr} {vs:List Value} (hb:b ≠ a) (hlt:b < h.objs.size):(ZhF h a vs).get? b = h.get? b:=by
 unfold ZhF
 rw [Heap.get?_push_ne _ _ _ (by rw [size_push',Heap.size_update]; exact Nat.ne_of_lt (Nat.lt_succ_of_lt hlt)),Heap.get?_push_ne _ _ _ (by rw [Heap.size_update]; exact Nat.ne_of_lt hlt),Heap.get?_update_ne _ _ _ _ hb]
end
end L3
namespace L3
open PySem PySem.W PySem.Spec PyProof.Rows L2
section
variable {prog:Program} {w:World} {A:Around} {K:PySem.W.Frag} {H:Hp} {ι:List Addr}
theorem ZmX {s:Shared} {C:Bool → Shared → Prop} {r:Bool} (hC:C r s):∀ (x y:List D) (xs ys:List V) (us ws:List Value) (k:Nat) (fin:Bool),Zab K H ι x xs → Zab K H ι y ys → Vals xs us → Vals ys ws → fin = decide (x.length < y.length) →
  (k = 0 → (∀ d,x.head? = some d → ZfF d = true)) → ltT x y = some r → KatLex prog w A true fin C (us.zip ws) k s
 | [],[],xs,ys,us,ws,k,fin,rx,ry,vx,vy,hf,_,h=>by
  have e1:=rx.nil_inv; have e2:=ry.nil_inv; subst e1 e2; cases vx; cases vy
  refine kat_nil ?_
  simp [ltT] at h; subst hf; simpa [h] using hC
 | [],d :: y,xs,ys,us,ws,k,fin,rx,ry,vx,vy,hf,_,h=>by
  have e1:=rx.nil_inv; subst e1; cases vx
  refine kat_nil ?_
  simp [ltT] at h; subst hf; simpa [h] using hC
 | d :: x,[],xs,ys,us,ws,k,fin,rx,ry,vx,vy,hf,_,h=>by
  have e1:=ry.nil_inv; subst e1; cases vy
  rw [List.zip_nil_right]
  refine kat_nil ?_
  simp [ltT] at h; subst hf; simpa [h] using hC
 | d :: x,e :: y,xs,ys,us,ws,k,fin,rx,ry,vx,vy,hf,h0,h=>by
  obtain ⟨v,xs',rfl,r1,r2⟩:=rx.cons_inv
  obtain ⟨v',ys',rfl,r1',r2'⟩:=ry.cons_inv
  cases vx with
  | @cons _ u _ us' ru rus=>
  cases vy with
  | @cons _ u' _ ws' ru' rus'=>
  rw [List.zip_cons_cons]
  have hfin:fin = decide (x.length < y.length):=by rw [hf]; simp
  rcases Zei h with ⟨i,j,rfl,rfl⟩ | ⟨i,j,rfl,rfl⟩
  ·have ev:=r1.int_inv; have ev':=r1'.int_inv
   subst ev ev'
   obtain ⟨t,rfl⟩:=ru
   obtain ⟨t',rfl⟩:=ru'
   refine kat_cons (wpAny_eqBool_int ?_)
   simp only [ltT] at h
   by_cases e:i = j
   ·subst e
    rw [if_pos rfl] at h
    rw [beq_self_eq_true]
    exact kat_yes (ZmX hC x y xs' ys' us' ws' (k + 1) fin r2 r2' rus rus' hfin (fun z=>by omega) h)
   ·rw [if_neg e] at h
    have hb:(i == j) = false:=by simpa using e
    rw [hb]
    refine kat_no ?_
    have hr:decide (i < j) = r:=by simpa using h
    cases hk:(true && k == 0) with
    | true=>exact oneLt_int (by rw [hr]; exact hC)
    | false=>exact kat_one _ _ (lt_int (by show C _ s; rw [hr]; exact hC))
  ·have ev:=r1.str_inv; have ev':=r1'.str_inv
   subst ev ev'
   obtain ⟨t,rfl⟩:=ru
   obtain ⟨t',rfl⟩:=ru'
   refine kat_cons (wpAny_eqBool_str ?_)
   simp only [ltT] at h
   by_cases e:i = j
   ·subst e
    rw [if_pos rfl] at h
    rw [decide_eq_true rfl]
    exact kat_yes (ZmX hC x y xs' ys' us' ws' (k + 1) fin r2 r2' rus rus' hfin (fun z=>by omega) h)
   ·rw [if_neg e] at h
    have hb:decide ((⟨i.toArray⟩:Str) = ⟨j.toArray⟩) = false:=by
     rw [decide_eq_false_iff_not]; intro z; injection z with z; exact e (by simpa using congrArg Array.toList z)
    rw [hb]
    refine kat_no ?_
    have hr:decide (i < j) = r:=by simpa using h
    have hk0:k ≠ 0:=fun z=>by have:=h0 z _ rfl; simp [ZfF] at this
    have hk:(true && k == 0) = false:=by simp [hk0]
    rw [hk]
    exact kat_one _ _ (lt_str (by show C _ s; rw [show decide ((⟨i.toArray⟩:Str).cps.toList < (⟨j.toArray⟩:Str).cps.toList) = r from hr]; exact hC))
end
section
variable {X:Cx}
theorem Zee {x:List D} {vs:List V} {its:List Value} {K:PySem.W.Frag} {H:Hp} {ι:List Addr} (r:Zab K H ι x vs) (v:Vals vs its) {i:Nat} {d:D} (h:x[i]? = some d):∃ u,RelV u (its.getD i Value.none) ∧ Rep K H ι d u ∧ vs[i]? = some u:=by
 obtain ⟨u,e1,r1⟩:=r.get h
 obtain ⟨z,e2,r2⟩:=v.get e1
 refine ⟨u,?_,r1,e1⟩
 rw [List.getD_eq_getElem?_getD,e2]; exact r2
theorem ZgB {pins:List (Addr × Obj)} {σ:St} {H:Hp} {s:Shared} {ι:List Addr} (I:Inv X pins σ H s) {h':Heap} (k:∀ b u,s.heap.get? b = some u → h'.get? b = some u):∀ (x:List D) (vs:List V) (its:List Value),Zab X.K H ι x vs → Vals vs its → x.all Zdj = true →
  ∃ fs:List Value,KatTups h' its fs ∧ fs.length = x.length ∧ ∀ f ∈ fs,∃ i t,f = .int i t
 | [],vs,its,r,v,_=>by have e:=r.nil_inv; subst e; cases v; exact ⟨[],.nil,rfl,fun f h=>by simp at h⟩
 | d :: x,vs,its,r,v,h=>by
  obtain ⟨u,vs',rfl,r1,r2⟩:=r.cons_inv
  cases v with
  | @cons _ z _ its' rz rzs=>
  simp only [List.all_cons,Bool.and_eq_true] at h
  obtain ⟨fs,t,l,hf⟩:=ZgB I k x vs' its' r2 rzs h.2
  have hd:=h.1
  cases d with
  | tup ds=>
   cases ds with
   | nil=>simp [Zdj] at hd
   | cons e ds=>
    cases e with
    | int i=>
     obtain ⟨a,ws,rfl,sq,rr⟩:=r1.tup_inv
     cases (show z = Value.ref a from rz)
     obtain ⟨its2,rv,⟨o,ho,hc,n,hdat⟩,_⟩:=I.tuple sq
     obtain ⟨u0,ws',rfl,q1,q2⟩:=rr.cons_inv
     have e0:=q1.int_inv
     subst e0
     cases rv with
     | @cons _ y0 _ ys ry0 _=>
     obtain ⟨tk,rfl⟩:=ry0
     refine ⟨.int i tk :: fs,KatTups.cons (k a o ho) hc hdat (by simp) t,by simp [l],fun f hm=>?_⟩
     rcases List.mem_cons.mp hm with rfl | hm
     ·exact ⟨i,tk,rfl⟩
     ·exact hf f hm
    | _=>simp [Zdj] at hd
  | _=>simp [Zdj] at hd
theorem Zab.pick {K:PySem.W.Frag} {H:Hp} {ι:List Addr} {x:List D} {vs:List V} (r:Zab K H ι x vs) (d0:D) (v0:V):∀ (p:List Nat),(∀ i ∈ p,i < x.length) → Zab K H ι (p.map fun i=>x.getD i d0) (p.map fun i=>vs.getD i v0)
 | [],_=>Zab.nil
 | i :: p,h=>by
  have hi:=h i List.mem_cons_self
  obtain ⟨v,e,q⟩:=r.get (i:=i) (d:=x[i]) (by simp [hi])
  refine Zab.cons ?_ (Zab.pick r d0 v0 p fun j hj=>h j (List.mem_cons_of_mem _ hj))
  dsimp only
  rw [List.getD_eq_getElem?_getD,List.getD_eq_getElem?_getD,e,List.getElem?_eq_getElem hi]; exact q
theorem Vals.pick {vs:List V} {us:List Value} (r:Vals vs us) (v0:V):∀ (p:List Nat),(∀ i ∈ p,i < vs.length) → Vals (p.map fun i=>vs.getD i v0) (p.map fun i=>us.getD i Value.none)
 | [],_=>.nil
 | i :: p,h=>by
  have hi:=h i List.mem_cons_self
  obtain ⟨v,e,q⟩:=r.get (i:=i) (x:=vs[i]) (by simp [hi])
  refine .cons ?_ (Vals.pick r v0 p fun j hj=>h j (List.mem_cons_of_mem _ hj))
  dsimp only
  rw [List.getD_eq_getElem?_getD,List.getD_eq_getElem?_getD,e,List.getElem?_eq_getElem hi]; exact q
theorem ZlW {x:List D} (d0:D) {p:List Nat} (h:p.Perm (List.range x.length)):(p.map fun i=>x.getD i d0).Perm x:=by
 have h1:=h.map (fun i=>x.getD i d0)
 have h2:(List.range x.length).map (fun i=>x.getD i d0) = x:=by
  apply List.ext_getElem?
  intro i
  rw [List.getElem?_map]
  by_cases hi:i < x.length
  ·simp [hi]
  ·simp [hi]
 rwa [h2] at h1
end
end L3
namespace L3
open PySem PySem.Spec PyProof.Rows L2
section
variable {X:Cx} {a b c e o:Expr} {es:List Expr} {pos p apos cpos:Pos} {f g h:E3} {gl:EL3}
theorem Zrk:Zbv X (.type "int") (rB X.K Zr8):=Zbv.imp Zma fun xs H Q ⟨ι,M,ds,S,rd,h⟩=>by
 cases ds with
 | nil=>exact h.elim
 | cons d ds=>
  cases ds with
  | cons _ _=>cases d <;> exact h.elim
  | nil=>
   obtain ⟨x,rfl,r⟩:=Zey rd
   cases d with
   | int i=>exact .inl ⟨i,by rw [r.int_inv],Zau.ok h S Rep.int⟩
   | bl k=>exact .inr ⟨k,by rw [r.bl_inv],Zau.ok h S Rep.int⟩
   | _=>exact h.elim
theorem ZpH {K:PySem.W.Frag} {H:Hp} {ι:List Addr} {M:Store} (S:Zav K H ι M) {n:Nat} {a:Addr} (h:(Zc2 M[n]?).isSome = true) (ha:ι[n]? = some a):IsD H a:=by
 cases hn:Zc2 M[n]? with
 | none=>rw [hn] at h; cases h
 | some kvs=>
  obtain ⟨ws,hw,_⟩:=ZiY S hn ha
  exact .inl ⟨ws,hw⟩
theorem Zm7 {K:PySem.W.Frag} {H:Hp} {ι:List Addr} {kvs:List (Zbc × D)} {ws:List (Key × V)} {d:D} {z:V} (kr:KvR K H ι kvs ws) (k:Zbc) (rd:Rep K H ι d z):Rep K H ι ((Zcq kvs k).getD d) ((Ze2 ws (dk k)).getD z):=by
 have hv:=kr.val k
 cases q:Zcq kvs k with
 | none=>rw [q] at hv; rw [hv]; exact rd
 | some w=>
  rw [q] at hv
  obtain ⟨v,ev,rv⟩:=hv
  rw [ev]; exact rv
theorem ZmZ {e':Expr} (hu:X.A.units + 80 < cLine) (ho:C3 X o f) (he:C3 X e g) (he':C3 X e' h) (m:M2 X o "get" apos e e' cpos:=by exact ⟨rfl,rfl,rfl,rfl⟩):C3 X (.Call (.Attribute o "get" apos) [e,e'] [] cpos) (ZdV ZiL ZjW f (Zb g (Zb h Zg))):=(ZnQ (hu1 hu) ho he he' m).imp fun σ H Q ⟨ι,M,env,S,E,hh⟩=>by
 obtain ⟨d,M1,e1,hh⟩:=Zau.bind hh
 refine ⟨ι,M,env,S,E,?_⟩
 rw [e1]
 intro x H1 ι1 x1 S1 r1
 cases d with
 | ref n=>
  by_cases hD:(Zc2 M1[n]?).isSome = true
  ·simp only [ZiL,hD,if_true] at hh
   obtain ⟨ad,ha,rfl⟩:=r1.ref_inv
   obtain ⟨ds,M2,e2,hh⟩:=Zau.bind hh
   refine ⟨ad,rfl,ZpH S1 hD ha,ι1,M1,env,S1,E.mono x1,?_⟩
   cases q:g env M1 with
   | bad=>simp [q] at e2
   | exc x' M'=>simp [q] at e2
   | ok b M2'=>
    cases q':h env M2' with
    | bad=>simp [q,q'] at e2
    | exc x' M'=>simp [q,q'] at e2
    | ok b' M3'=>
     simp only [Zb,q,q',R3.bind,Zg] at e2
     cases e2
     intro y H2 ι2 x2 S2 r2
     refine ⟨ι2,M2',env,S2,(E.mono x1).mono x2,?_⟩
     rw [q']
     intro z H3 ι3 x3 S3 r3
     simp only [ZjW] at hh
     cases hn:Zc2 M2[n]? with
     | none=>simp only [hn] at hh; exact hh.elim
     | some kvs=>
      cases hk:ZeU b with
      | none=>simp only [hn,hk] at hh; exact hh.elim
      | some kk=>
       simp only [hn,hk] at hh
       obtain ⟨ws,hw,kr⟩:=ZiY S3 hn (x3.pre _ _ (x2.pre _ _ ha))
       refine ⟨Ze2 ws (dk kk),.inl ⟨ws,dk kk,hw,ZgT hk r2,rfl⟩,hh _ H3 ι3 ((x1.trans x2).trans x3) S3 (Zm7 kr kk r3)⟩
  ·simp only [ZiL,hD] at hh; exact hh.elim
 | _=>exact hh.elim
end
section
variable {X:Cx} {pins:List (Addr × Obj)} {σ:St} {H:Hp} {s:Shared} {d:Addr} {ws:List (Key × V)} {ob:Obj}
theorem Zl7 (hk:HOk X.prog X.w H s.heap) (h:H d = some (.dK ws)) (ho:s.heap.get? d = some ob):HOk X.prog X.w (upd H d (.frz ob (.dK ws))) s.heap:=fun b u e=>by
 have stay:∀ {b u},H b = some u → ZbG X.prog X.w (upd H d (.frz ob (.dK ws))) s.heap b u:=fun {b u} e=>(hk b u e).stay (fun _ _ _ q=>q) (fun c q=>by rw [Zap (Ziu q h (by intro z; cases z))]; exact q) fun c xs q=>by rw [Zap (Ziu q h (by intro z; cases z))]; exact q
 by_cases eb:b = d
 ·subst eb
  rw [ZbO] at e
  cases e
  exact ⟨ho,stay h⟩
 ·rw [Zap eb] at e
  exact stay e
theorem _root_.L2.Inv.still (I:Inv X pins σ H s) (h:H d = some (.dK ws)) (ho:s.heap.get? d = some ob):Inv X pins σ (upd H d (.frz ob (.dK ws))) s:=by
 have nd:∀ b,H b = none → b ≠ d:=fun b n z=>by rw [z,h] at n; cases n
 exact I.step (h':=s.heap) (g':=s.gens) (t':=s.toks) (d':=s.drawn) (ch:=[]) (fun _ z=>nomatch z) (fun b o _ _ _ e _=>e) (fun b o _ _ _ e _=>⟨o.slots,e⟩) (fun b o _ _ n=>by rw [Zap (nd b n)]; exact n) (fun b o _ e=>⟨o,e⟩)
  (fun b xs q=>by rw [Zap (Ziu q h (by intro z; cases z))]; exact q) (fun b o u q=>by rw [Zap (Ziu q h (by intro z; cases z))]; exact q) (fun b ps q=>⟨#[],by rw [Zap (Ziu q h (by intro z; cases z)),q]; simp⟩) (fun _ hm=>hm) (Zl7 I.hok h ho) I.bare
theorem _root_.L2.Inv.thaw (I:Inv X pins σ H s) (h:H d = some (.frz ob (.dK ws))) (h0:∀ o u,X.H₀ d ≠ some (.frz o u)):Inv X pins σ (upd H d (.dK ws)) s:=by
 have nd:∀ b,H b = none → b ≠ d:=fun b n z=>by rw [z,h] at n; cases n
 have nt:∀ {b u},H b = some u → (∀ o v,u ≠ .frz o v) → b ≠ d:=fun q nz z=>by rw [z,h] at q; cases q; exact nz _ _ rfl
 have stay:∀ {b u},H b = some u → ZbG X.prog X.w (upd H d (.dK ws)) s.heap b u:=fun {b u} e=>(I.hok b u e).stay (fun _ _ _ q=>q) (fun c q=>by rw [Zap (nt q fun _ _ z=>nomatch z)]; exact q) fun c xs q=>by rw [Zap (nt q fun _ _ z=>nomatch z)]; exact q
 refine ⟨I.ok,I.os,I.bare,⟨I.base.keep,I.base.slot,fun b o e n hx=>?_,I.base.there,fun b xs e=>?_,fun b o u e=>?_,fun b ps e=>?_⟩,I.loc,I.cell,?_,fun x c e=>?_,fun p hp=>?_,fun b u e=>?_,I.len⟩
 ·have:=I.base.free b o e n hx
  rw [Zap (nd b this)]; exact this
 ·have:=I.base.tups b xs e
  rw [Zap (nt this fun _ _ z=>nomatch z)]; exact this
 ·have hb:b ≠ d:=fun z=>by subst z; exact h0 o u e
  rw [Zap hb]; exact I.base.frzs b o u e
 ·obtain ⟨more,q⟩:=I.base.tbls b ps e
  exact ⟨more,by rw [Zap (nt q fun _ _ z=>nomatch z)]; exact q⟩
 ·rw [Zap (nd _ I.free)]; exact I.free
 ·rw [Zap (nd _ (I.freeC x c e))]; exact I.freeC x c e
 ·obtain ⟨e,n,r⟩:=I.pin p hp
  exact ⟨e,by rw [Zap (nd _ n)]; exact n,r⟩
 ·by_cases eb:b = d
  ·subst eb
   rw [ZbO] at e
   cases e
   obtain ⟨_,q⟩:=(show ZbG X.prog X.w H s.heap b (.frz ob (.dK ws)) from I.hok b _ h)
   exact q.stay (fun _ _ _ q=>q) (fun c q=>by rw [Zap (nt q fun _ _ z=>nomatch z)]; exact q) fun c xs q=>by rw [Zap (nt q fun _ _ z=>nomatch z)]; exact q
  ·rw [Zap eb] at e
   exact stay e
end
noncomputable def Itd (d:Addr) (ob:Obj) (ws:List (Key × V)):It:=
 ⟨fun i H=>H d = some (.frz ob (.dK ws)) ∧ i < ws.length,fun i H x H'=>H' = H ∧ ∃ q,ws[i]? = some q ∧ x = kV q.1,fun i H=>H d = some (.frz ob (.dK ws)) ∧ i = ws.length⟩
theorem Zrf {P:Program} {w:World} {k:Key} {v:Value} (h:(ZaP P w).is k v = true):RelV (kV k) v:=by
 rw [Zlc] at h
 rcases Zbl h with ⟨i,t,rfl,rfl⟩ | ⟨x,t,rfl,rfl⟩
 ·exact ⟨t,rfl⟩
 ·exact ⟨t,rfl⟩
theorem ZlQ {P:Program} {w:World} {K:PySem.W.Frag} {tg:Expr} {it d:Addr} {ob:Obj} {ws:List (Key × V)} {vs:List (Key × Value)} {ep:Nat} (hne:d ≠ it) (hD:∀ h:Heap,h.get? d = some ob → h.DictAt (ZaP P w) d vs ep) (kv:KV ws vs):
  Turn P w K tg (Itd d ob ws) [it] it (fun i h=>h.IsKeyIter it d i vs.length ep) where
 mem:=by simp
 obj:=fun i h st b hb=>by
  have e:b = it:=by simpa using hb
  subst e
  obtain ⟨o,e,c,d⟩:=st
  exact ⟨o,e,fun v z=>by rw [d] at z; cases z⟩
 keep:=fun i h h' st k=>st.at fun o e=>k it (by simp) o e
 item:=by
  intro X hP hw hK hc i pins s σ H E I hf st hg
  subst hP hw hK
  obtain ⟨f0,f1,f2,f3,f4,f5⟩:=hf it (by simp)
  have hob:=(show ZbG X.prog X.w H s.heap d (.frz ob (.dK ws)) from I.hok d _ hg.1).1
  refine (Walks.dictKeys (I.ok.hd hc) it d hne vs ep).item i s _ _ (by rw [← kv.length]; exact hg.2) ⟨st,hD _ hob⟩ fun v h' tk hv st' kk=>?_
  obtain ⟨k,x,hx,hk⟩:=hv
  have I1:Inv X pins σ H { s with heap:=h',toks:=tk }:=I.turned (fun b o hb e=>kk b o (by simpa using hb) e) f0 f1 f3 f4 f5
  obtain ⟨o,e,cc,dd⟩:=id st'.1
  have hil:i < ws.length:=hg.2
  have hq:ws[i]? = some ws[i]:=by simp [hil]
  have ek:ws[i].1 = k:=by
   have:=congrArg (fun l=>l[i]?) kv.keys
   simp only [List.getElem?_map,hq,hx,Option.map_some,Option.some.injEq] at this
   exact this
  exact ⟨_,rfl,ZjK (s:={ s with heap:=h',toks:=tk }) e cc dd (by decide) ⟨kV k,H,I1,Zrf hk,⟨rfl,ws[i],hq,by rw [ek]⟩,st'.1,fun b hb=>(hf b hb).1⟩⟩
 done:=by
  intro X hP hw hK hc i pins s σ H E I hf st hg
  subst hP hw hK
  obtain ⟨f0,f1,f2,f3,f4,f5⟩:=hf it (by simp)
  have hob:=(show ZbG X.prog X.w H s.heap d (.frz ob (.dK ws)) from I.hok d _ hg.1).1
  have ei:i = vs.length:=by rw [hg.2,kv.length]
  subst ei
  exact (Walks.dictKeys (I.ok.hd hc) it d hne vs ep).done s _ _ ⟨st,hD _ hob⟩ fun h' tk kk=>⟨rfl,I.turned (fun b o hb e=>kk b o (by simpa using hb) e) f0 f1 f3 f4 f5⟩
 self:=fun _ _ _ _ _ st h=>wpAny_pyIter_keyiter st h
noncomputable def ZiV (f:E3):I3:=fun env M=>(f env M).bind fun a M1=>match a with
 | .ref n=>match M1[n]? with
  | some (.dct kvs)=>.ok ⟨kvs.map fun q=>keyV q.1,none⟩ (M1.set n (.fdct kvs))
  | _=>.bad
 | _=>.bad
theorem Znc {K:PySem.W.Frag} {H:Hp} {ι:List Addr} (k:Zbc):Rep K H ι (keyV k) (kV (dk k)):=by
 cases k with
 | inl i=>exact Rep.int
 | inr x=>exact Rep.str
section
variable {X:Cx} {tg e elt:Expr} {ifs:List Expr} {pos:Pos} {f fe:E3} {ts:List E3} {g:G3} {scope:Scope} {N':List Str} {own:Nat}
theorem ZmT (h:C3 X e f):CI X tg e (ZiV f):=by
 intro pins s σ H R I ⟨ι,M,env,S,E,hw⟩
 obtain ⟨d,M1,e1,hw⟩:=ZkR.bind hw
 refine thn (h pins s σ H (fun v H'=>∃ ι',Ext X.K H ι H' ι' ∧ Zav X.K H' ι' M1 ∧ Rep X.K H' ι' d v) I ⟨ι,M,env,S,E,by rw [e1]; exact fun v H' ι' x S' r=>⟨ι',x,S',r⟩⟩) fun v s1 ⟨x,H1,I1,r1,ι1,x1,S1,rd⟩=>?_
 cases d with
 | ref n=>
  cases hn:M1[n]? with
  | none=>simp only [hn] at hw; exact hw.elim
  | some ob=>
   cases ob with
   | lst _=>simp only [hn] at hw; exact hw.elim
   | fdct _=>simp only [hn] at hw; exact hw.elim
   | dct kvs=>
    simp only [hn] at hw
    obtain ⟨a,ha,rfl⟩:=rd.ref_inv
    cases r1
    obtain ⟨ws,hws,kr⟩:=S1.obj n _ a hn ha
    obtain ⟨zl,hsys,vs,kv,o,es,ep,ho,hrest⟩:=ZoY I1.hok hws
    have hlt:a < s1.heap.objs.size:=Heap.lt_size ho
    refine wpAny_pyIter_dict (kvs:=vs) (ep:=ep) hsys ⟨o,es,ho,hrest⟩ ?_
    have I2:Inv X pins σ H1 { s1 with heap:=s1.heap.push { cls:=.type "dict_keyiterator",data:=.fields #[.ref a,.int 0 0,.int vs.length 0,.int ep 0] } }:=I1.kept (t':=s1.toks) fun b u q=>Heap.get?_push_of_some _ q
    have I3:=I2.still hws (Heap.get?_push_of_some _ ho)
    have l0:Loose H1 a:=.inr (.inr ⟨ws,hws⟩)
    have x2:Ext X.K H1 ι1 (upd H1 a (.frz o (.dK ws))) ι1:=l0.ext
    have S2:Zav X.K (upd H1 a (.frz o (.dK ws))) ι1 (M1.set n (.fdct kvs)):=S1.put l0 ha ⟨ws,⟨o,ZbO⟩,kr.mono x2⟩
    refine ⟨s1.heap.objs.size,[s1.heap.objs.size],_,Itd a o ws,_,rfl,I3,ZlQ (vs:=vs) (ep:=ep) (Nat.ne_of_lt hlt) (fun h' hh=>⟨o,es,hh,hrest⟩) kv,⟨_,Heap.get?_push_size _ rfl,rfl,rfl⟩,fun b hb=>?_,hw _ _ ι1 (x1.trans x2) S2 ?_⟩
    ·have eb:b = s1.heap.objs.size:=by simpa using hb
     subst eb
     exact I1.fpOk (Nat.le_refl _) (by rw [Zap (Nat.ne_of_gt hlt)]; exact I1.hok.fresh (Nat.le_refl _))
    ·intro i H2 ι2 M2 x S3 _
     have hz:=x.frz a o _ ZbO
     refine ⟨fun dd hd=>?_,fun hl=>⟨hz,by rw [hl,List.length_map,kr.length]⟩⟩
     rw [List.getElem?_map] at hd
     cases hq:kvs[i]? with
     | none=>rw [hq] at hd; cases hd
     | some q=>
      rw [hq] at hd
      have hd':keyV q.1 = dd:=by simpa using hd
      subst hd'
      have hi:i < ws.length:=by rw [kr.length]; exact (List.getElem?_eq_some_iff.mp hq).1
      refine ⟨⟨hz,hi⟩,fun y H3 hy=>⟨hy.1,?_⟩⟩
      obtain ⟨_,w',hw',rfl⟩:=hy
      have ek:w'.1 = dk q.1:=by
       have:=congrArg (fun l=>l[i]?) kr.1
       simp only [List.getElem?_map,hw',hq,Option.map_some,Option.some.injEq] at this
       exact this
      rw [ek]
      exact Znc q.1
 | _=>exact hw.elim
end
end L3
namespace L3
open PySem PySem.Spec PyProof.Rows L2
section
variable {prog:Program} {w:World} {A:Around} {E:Value → Shared → Prop} {s:Shared}
theorem Zmz:typeLookup (.type "tuple") (Str.ofString "keys") = pure none:=by rw [typeLookup_type,builtinLookup_eq_fast]; kernel_rfl
set_option maxRecDepth 8000 in
theorem ZjN {a:Addr} {o:Obj} {xs:Array Value} {k:Nat} {Q:Option Value → Shared → Prop} (hx:s.heap.get? a = some o) (hc:o.cls = .type "tuple") (hdat:o.data = .seq xs k) (hd:o.dict = none) (hA:A.handled = none)
  (h:∀ h' tk,(∀ b u,s.heap.get? b = some u → h'.get? b = some u) → Q none { s with heap:=h',toks:=tk }):wpAny (model prog w) A (getAttr? (.ref a) (Str.ofString "keys")) Q E s:=by
 obtain ⟨c,dct,dat,sl⟩:=o
 simp only at hc hdat hd
 subst hc hdat hd
 obtain ⟨hp,g,d,tk,os⟩:=s
 have hT:∀ tk',(⟨hp,g,d,tk',os⟩:Shared).TypeIs (.ref a) "tuple":=fun _=>⟨_,hx,rfl⟩
 have f1:=sub_AttributeError; have f3:=F.slot_tuple_getattribute.lookup; have f4:=F.slot_tuple_getattribute.bind (.ref a); have f5:=am_tuple_getattr_none
 unfold getAttr? getAttrBy? getAttrBy
 repeat (any_goals (first | assumption | exact hT _ | ((with_reducible show wpAny _ _ (call (Value.builtin "tuple.__getattribute__") _ _) _ _ _); refine call_meets F.slot_tuple_getattribute (hT _) am_entry_tuple_getattribute (F.args_tuple_getattribute_2 _ _) (meets_getattribute_miss_tuple a xs k sl _ _ Zmz (by decide) (by rw [sizeLine_eq]; decide)) ⟨hx,hA,fun h' tk' e hx'=>?_⟩) | wp_step))
 obtain ⟨t',u',he⟩:=hx'.there
 show wpAny _ _ (getattributeRaised _ _ _ _ _ _ _) _ _ _
 unfold getattributeRaised
 repeat (any_goals (first | assumption | wp_step))
 all_goals exact h _ _ hx'.of.keeps
theorem ZeZ:entryFor table "dict.update.loop" = some Builtin.«dict.update.loop»:=entryFor_of_tree (by kernel_rfl)
theorem ZcW:plainId "dict.update.loop" = true:=by decide +kernel
noncomputable def Zkw (prog:Program) (w:World) (h:Heap) (v:Value) (q:Key × Value):Prop:=∃ a o key n,v = .ref a ∧ h.get? a = some o ∧ o.cls = .type "tuple" ∧ o.data = .seq #[key,q.2] n ∧ (ZaP prog w).is q.1 key = true
theorem ZnU {d I ax:Addr} {items:Array Value} {ps:List (Key × Value)} {res:Value} (hh:A.in1.handled = none) (hne:ax ≠ I) (hdI:d ≠ I) (hda:d ≠ ax) (hl:ps.length = items.size) (hz:ps.length ≤ 100000):
  ∀ (k i:Nat) (s:Shared) (kvs:List (Key × Value)) {R:Result → Shared → Prop},items.size - i = k → i ≤ items.size → s.heap.IsTupleIter I ax i → s.heap.IsTuple ax items → s.heap.DictOf (ZaP prog w) d kvs → kvs.length ≤ i →
   (∀ (j:Nat) v q,items[j]? = some v → ps[j]? = some q → Zkw prog w s.heap v q ∧ v ≠ .ref d ∧ v ≠ .ref I) →
   (∀ h' tk,h'.DictOf (ZaP prog w) d (merged kvs (ps.drop i)) → (∀ b o,b ≠ d → b ≠ I → s.heap.get? b = some o → h'.get? b = some o) → R (.ok (.ret res)) { s with heap:=h',toks:=tk }) →
   codeAny (model prog w) A (.builtin "dict.update.loop" ⟨[.ref d,.ref I,rawInt i,res],[]⟩) R s:=by
 have W:=Walks.tuple (prog:=prog) (w:=w) hh I ax hne items
 intro k
 induction k with
 | zero=>
  intro i s kvs R hk hi st tup dd hkl hp hR
  have hin:i = items.size:=by omega
  subst hin
  refine codeAny_builtin ZeZ ?_
  rw [Around.under_plainId ZcW _]
  show wpAny _ A.in1 (pyNext (.ref I) >>= _) _ _ s
  refine wpAny_bind (W.done s _ _ ⟨st,tup⟩ fun h' tk kk=>?_)
  show wpAny _ A.in1 (Builtin.Dict.addKeywords d [] >>= _) _ _ _
  refine wpAny_bind (wpAny_pure (wpAny_pure (hR h' tk ?_ fun b o hb hI e=>kk b o (by simpa using hI) e)))
  rw [List.drop_of_length_le (by omega)]
  obtain ⟨o,es,ep,ho,r⟩:=dd
  exact ⟨o,es,ep,kk d o (by simpa using hdI) ho,r⟩
 | succ k ih=>
  intro i s kvs R hk hi st tup dd hkl hp hR
  have hlt:i < items.size:=by omega
  have hv:items[i]? = some items[i]:=by simp [hlt]
  have hq:ps[i]? = some (ps[i]'(by omega)):=by simp [show i < ps.length by omega]
  refine codeAny_builtin ZeZ ?_
  rw [Around.under_plainId ZcW _]
  show wpAny _ A.in1 (pyNext (.ref I) >>= _) _ _ s
  refine wpAny_bind (W.item i s _ _ hlt ⟨st,tup⟩ fun v h1 tk1 hP st1 kk1=>?_)
  rw [hv] at hP
  cases hP
  obtain ⟨⟨a,o,key,n,ev,ho,hc,hd,hkey⟩,nd,nI⟩:=hp i _ _ hv hq
  have haI:a ≠ I:=fun z=>nI (by rw [ev,z])
  have had:a ≠ d:=fun z=>nd (by rw [ev,z])
  have ho1:h1.get? a = some o:=kk1 a o (by simpa using haI) ho
  have dd1:h1.DictOf (ZaP prog w) d kvs:=by
   obtain ⟨o',es,ep,ho',r⟩:=dd
   exact ⟨o',es,ep,kk1 d o' (by simpa using hdI) ho',r⟩
  rw [ev]
  generalize ps[i]'(by omega) = q at hq hkey hd
  dsimp only
  refine wpAny_bind (wpAny_holding (wpAny_bind (wpAny_tryCatch ?_)))
  unfold Builtin.Dict.pairItems
  refine wpAny_bind (wpAny_typeOf (T:="tuple") ⟨o,ho1,hc⟩ ?_)
  rw [if_pos (by decide)]
  refine wpAny_bind ?_
  unfold seqItems?
  refine wpAny_bind (wpAny_load ho1 ?_)
  rw [hd]
  refine wpAny_pure (wpAny_pure ?_)
  show wpAny _ A.in1 (holding [key,q.2] (dictSet d key q.2)) _ _ _
  refine wpAny_holding (wpAny_dictSet_pairs hkey dd1 (fun h2 dd2 sb=>?_) (by rw [sizeLine_eq]; omega))
  refine wpAny_pure ⟨plainId_quiet ZcW _,?_⟩
  show codeAny (model prog w) A (.builtin "dict.update.loop" ⟨[.ref d,.ref I,rawInt ((i:Int) + 1),res],[]⟩) R _
  have e1:((i:Int) + 1) = ((i + 1:Nat):Int):=by omega
  rw [e1]
  have k2:∀ b u,b ≠ d → b ≠ I → s.heap.get? b = some u → h2.get? b = some u:=fun b u hb hI e=>(sb.2 b hb).trans (kk1 b u (by simpa using hI) e)
  refine ih (i + 1) _ (stored kvs q.1 q.2) (by omega) hlt ?_ ?_ dd2 ?_ ?_ ?_
  ·obtain ⟨o',e',r⟩:=st1.1
   exact ⟨o',(sb.2 I (Ne.symm hdI)).trans e',r⟩
  ·obtain ⟨o',e',r⟩:=st1.2
   exact ⟨o',(sb.2 ax (Ne.symm hda)).trans e',r⟩
  ·have:=(show (stored kvs q.1 q.2).length ≤ kvs.length + 1 from by unfold stored; split <;> simp)
   omega
  ·intro j v q' hj hq'
   obtain ⟨⟨a',o',key',n',ev',ho',r⟩,nd',nI'⟩:=hp j v q' hj hq'
   exact ⟨⟨a',o',key',n',ev',k2 a' o' (fun z=>nd' (by rw [ev',z])) (fun z=>nI' (by rw [ev',z])) ho',r⟩,nd',nI'⟩
  ·intro h' tk dd' kk'
   refine hR h' tk ?_ fun b u hb hI e=>kk' b u hb hI (k2 b u hb hI e)
   have hq2:ps.drop i = q :: ps.drop (i + 1):=by rw [List.drop_eq_getElem_cons (by omega)]; congr 1; rw [List.getElem?_eq_getElem (by omega)] at hq; exact Option.some.inj hq
   rw [hq2]
   exact dd'
theorem Zkz {ax:Addr} {items:Array Value} {ps:List (Key × Value)} {Q:Value → Shared → Prop} (hA:A.handled = none) (ht:ZdS s.heap ax items) (hl:ps.length = items.size) (hz:ps.length ≤ 100000)
  (hp:∀ (j:Nat) v q,items[j]? = some v → ps[j]? = some q → Zkw prog w s.heap v q)
  (h:∀ h' tk,h'.DictOf (ZaP prog w) s.heap.objs.size (merged [] ps) → (∀ b o,s.heap.get? b = some o → h'.get? b = some o) → Q (.ref s.heap.objs.size) { s with heap:=h',toks:=tk }):
  wpAny (model prog w) A (call (.type "dict") [.ref ax]) Q E s:=by
 obtain ⟨o,ho,⟨hc,hdn⟩,n,hdat⟩:=id ht
 have hlt:ax < s.heap.objs.size:=Heap.lt_size ho
 refine callType_codes (Q₁:=fun obj s₁=>obj = .ref s.heap.objs.size ∧ s₁ = { s with heap:=s.heap.push { cls:=.type "dict",data:=.dict #[] } }) F.kt_called_dict (F.kt_typeCall_dict_1 _) F.entry_dict_init (kt_code_dict_new _ ⟨rfl,rfl⟩) ?_
 rintro obj s₁ ⟨rfl,rfl⟩
 have hnew:(s.heap.push { cls:=.type "dict",data:=.dict #[] }).DictOf (ZaP prog w) s.heap.objs.size []:=Heap.DictOf.new s.heap
 have hk1:∀ b u,s.heap.get? b = some u → (s.heap.push { cls:=.type "dict",data:=.dict #[] }).get? b = some u:=fun b u q=>Heap.get?_push_of_some _ q
 refine ⟨hnew.typeIs,F.args_dict_init_2 _ _,?_⟩
 unfold Builtin.«dict.__init__»
 refine wpAny_bind ?_; unfold Builtin.Dict.selfAndRest
 refine wpAny_bind (wpAny_notOrdered_dict hnew.typeIs ?_); show wpAny _ _ (pure (s.heap.objs.size,[Value.ref ax])) _ _ _
 refine wpAny_pure ?_; show wpAny _ _ (Builtin.Dict.updateFrom "dict.__init__" s.heap.objs.size (.ref ax) [] .none) _ _ _
 unfold Builtin.Dict.updateFrom
 refine wpAny_bind (wpAny_typeOf (T:="tuple") ⟨o,hk1 _ _ ho,hc⟩ ?_)
 rw [if_pos (by decide)]
 refine wpAny_bind (ZjN (hk1 _ _ ho) hc hdat hdn hA fun h2 tk2 k2=>?_)
 simp only [Option.isNone_none,if_true]
 refine wpAny_bind (wpAny_rule ?_)
 have d2:h2.DictOf (ZaP prog w) s.heap.objs.size []:=by
  obtain ⟨o',es,ep,ho',r⟩:=hnew
  exact ⟨o',es,ep,k2 _ _ ho',r⟩
 have t2:h2.IsTuple ax items:=⟨o,k2 _ _ (hk1 _ _ ho),hc,n,hdat⟩
 have l2:s.heap.objs.size < h2.objs.size:=by obtain ⟨o',_,_,ho',_⟩:=d2; exact Heap.lt_size ho'
 refine wpAny_bind (wpAny_pyIter_tuple t2 ?_)
 have k3:∀ b u,h2.get? b = some u → (h2.push { cls:=.type "tuple_iterator",data:=.fields #[.ref ax,.int 0 0] }).get? b = some u:=fun b u q=>Heap.get?_push_of_some _ q
 have t3:(h2.push { cls:=.type "tuple_iterator",data:=.fields #[.ref ax,.int 0 0] }).IsTuple ax items:=by obtain ⟨o',e',r⟩:=t2; exact ⟨o',k3 _ _ e',r⟩
 have d3:(h2.push { cls:=.type "tuple_iterator",data:=.fields #[.ref ax,.int 0 0] }).DictOf (ZaP prog w) s.heap.objs.size []:=by obtain ⟨o',es,ep,ho',r⟩:=d2; exact ⟨o',es,ep,k3 _ _ ho',r⟩
 refine wpAny_pure ⟨plainId_quiet ZcW _,ZnU (prog:=prog) (w:=w) (A:=A.in1) (ax:=ax) (items:=items) (ps:=ps) hA (Nat.ne_of_lt (Nat.lt_trans hlt l2)) (Nat.ne_of_lt l2) (Nat.ne_of_gt hlt) hl hz items.size 0 _ [] (by omega) (Nat.zero_le _) ⟨_,Heap.get?_push_size _ rfl,rfl,rfl⟩ t3 d3 (Nat.zero_le _) (fun j v q hj hq=>?_) fun h' tk dd' kk'=>?_⟩
 ·obtain ⟨a,o',key,n',ev,ho',r⟩:=hp j v q hj hq
  have hla:a < s.heap.objs.size:=Heap.lt_size ho'
  refine ⟨⟨a,o',key,n',ev,k3 _ _ (k2 _ _ (hk1 _ _ ho')),r⟩,fun z=>?_,fun z=>?_⟩
  ·rw [ev] at z; injection z with z; exact absurd hla (by rw [z]; exact Nat.lt_irrefl _)
  ·rw [ev] at z; injection z with z; exact absurd (Nat.lt_trans hla l2) (by rw [z]; exact Nat.lt_irrefl _)
 ·refine ⟨rfl,h h' tk dd' fun b u q=>kk' b u (Nat.ne_of_lt (Heap.lt_size q)) (Nat.ne_of_lt (Nat.lt_trans (Heap.lt_size q) l2)) (k3 _ _ (k2 _ _ (hk1 _ _ q)))⟩
end
section
variable {X:Cx}
theorem pairs_at {pins:List (Addr × Obj)} {σ:St} {H:Hp} {s:Shared} {ι:List Addr} (I:Inv X pins σ H s):∀ {x:List D} {l:List (Zbc × D)} {vs:List V} {us:List Value},Zdc x = some l → Zab X.K H ι x vs → Vals vs us →
  ∃ (ws:List (Key × V)) (ps:List (Key × Value)),KvR X.K H ι l ws ∧ KV ws ps ∧ ps.length = us.length ∧ ∀ (j:Nat) v q,us[j]? = some v → ps[j]? = some q → Zkw X.prog X.w s.heap v q
 | [],l,vs,us,h,r,v=>by
  have e:=r.nil_inv; subst e; cases v
  have:l = []:=by simpa [Zdc] using h.symm
  subst this
  exact ⟨[],[],KvR.nil,.nil,rfl,fun j v q h=>by simp at h⟩
 | d :: x,l,vs,us,h,r,v=>by
  obtain ⟨u,vs',rfl,r1,r2⟩:=r.cons_inv
  cases v with
  | @cons _ z _ us' rz rzs=>
  cases d with
  | tup ds=>
   match ds,h,r1 with
   | [a,b],h,r1=>
    simp only [Zdc] at h
    cases hk:ZeU a with
    | none=>simp only [hk] at h; cases h
    | some kk=>
     simp only [hk] at h
     cases hx:Zdc x with
     | none=>rw [hx] at h; cases h
     | some l'=>
      rw [hx] at h
      have:l = (kk,b) :: l':=by simpa using h.symm
      subst this
      obtain ⟨ws,ps,kr,kv,lp,hp⟩:=pairs_at I hx r2 rzs
      obtain ⟨ad,xs,rfl,sq,rr⟩:=r1.tup_inv
      cases (show z = Value.ref ad from rz)
      obtain ⟨ya,ys,rfl,ra,rr⟩:=rr.cons_inv
      obtain ⟨yb,ys,rfl,rb,rr⟩:=rr.cons_inv
      have e:=rr.nil_inv; subst e
      obtain ⟨its,rv,⟨o,ho,hc,n,hd⟩,_⟩:=I.tuple sq
      cases rv with
      | @cons _ u1 _ _ q1 rv=>
      cases rv with
      | @cons _ u2 _ _ q2 rv=>
      cases rv
      refine ⟨(dk kk,yb) :: ws,(dk kk,u2) :: ps,KvR.cons rb kr,.cons ⟨rfl,q2⟩ kv,by simp [lp],fun j v q hj hq=>?_⟩
      cases j with
      | zero=>
       simp at hj hq
       subst hj hq
       exact ⟨ad,o,u1,n,rfl,ho,hc,hd,ZjZ (by rw [← ZgT hk ra]; exact q1)⟩
      | succ j=>exact hp j v q (by simpa using hj) (by simpa using hq)
   | [],h,_=>simp [Zdc] at h
   | [_],h,_=>simp [Zdc] at h
   | _ :: _ :: _ :: _,h,_=>simp [Zdc] at h
  | _=>simp [Zdc] at h
theorem ZpV (hc:X.calm = true):Zbv X (.type "dict") (rB X.K ZgF):=by
 intro pins s σ H xs us Q I rs ⟨ι,M,ds,S,rd,h⟩
 cases ds with
 | nil=>exact h.elim
 | cons d ds=>
  cases ds with
  | cons _ _=>cases d <;> exact h.elim
  | nil=>
   obtain ⟨x,rfl,r⟩:=Zey rd
   obtain ⟨u,rfl,ru⟩:=vals1 rs
   cases d with
   | ref n=>
    cases hn:Zc2 M[n]? with
    | none=>simp only [ZgF,hn] at h; exact h.elim
    | some kvs=>
     simp only [ZgF,hn] at h
     obtain ⟨a,ha,rfl⟩:=r.ref_inv
     cases ru
     obtain ⟨ws,hw,kr⟩:=ZiY S hn ha
     refine Znn I hw fun p s' hp I'=>⟨.ref p,_,I',rfl,?_⟩
     obtain ⟨x2,S2,r2⟩:=S.dct hp kr
     exact h _ _ _ x2 S2 r2
   | tup z=>
    simp only [ZgF] at h
    cases hp:Zdc z with
    | none=>rw [hp] at h; exact h.elim
    | some l=>
     rw [hp] at h
     dsimp only at h
     split at h
     ·rename_i hz
      obtain ⟨a,vs,rfl,sq,rr⟩:=r.tup_inv
      cases ru
      obtain ⟨its,rv,ht,_⟩:=I.tupleN sq
      obtain ⟨ws,ps,kr,kv,lp,hpp⟩:=pairs_at I hp rr rv
      have hl:ps.length = l.length:=by rw [← kv.length,kr.length]
      refine Zkz (ps:=ps) (I.ok.hd hc) ht (by simpa using lp) (by rw [hl]; exact hz) (fun j v q hj hq=>hpp j v q (by simpa using hj) hq) fun h' tk dd kk=>⟨.ref s.heap.objs.size,upd H s.heap.objs.size (.dK (ZhE [] ws)),?_,rfl,?_⟩
      ·have hm:=kv.merge (kvs:=[]) (vs:=[]) .nil
       refine I.laid kk (Nat.le_refl _) (ZkM ?_ (beq_eq_false_iff_ne.mpr (Ne.symm (Nat.ne_of_lt I.big))) hm dd)
       have h1:=Zfs ws []
       rw [List.length_nil] at h1
       rw [sizeLine_eq]
       have:=kr.length
       omega
      ·obtain ⟨x2,S2,r2⟩:=S.dct (I.hok.fresh (Nat.le_refl _)) (KvR.merge (kvs:=[]) (ws:=[]) kr KvR.nil)
       exact h _ _ _ x2 S2 r2
     ·exact h.elim
   | _=>exact h.elim
end
end L3
namespace L3
open PySem PySem.Spec PyProof.Rows L2
end L3
namespace L3
open PySem PySem.Spec PyProof.Rows L2
section
variable {X:Cx} {o e:Expr} {es:List Expr} {apos cpos:Pos} {f:E3} {gl:EL3}
theorem Zab.dropLast {K:PySem.W.Frag} {H:Hp} {ι:List Addr} {ds:List D} {vs:List V} (r:Zab K H ι ds vs):Zab K H ι ds.dropLast vs.dropLast:=by
 rw [List.dropLast_eq_take,List.dropLast_eq_take,r.length]; exact r.take _
end
end L3
namespace L3
open PySem PySem.Spec PyProof.Rows L2
section
variable {X:Cx} {a b c e o:Expr} {es:List Expr} {pos p apos cpos:Pos} {f g h:E3} {gl:EL3}
end
end L3
namespace L3
open PySem PySem.Spec PyProof.Rows L2
section
variable {X:Cx} {a b c e o:Expr} {es:List Expr} {pos p apos cpos:Pos} {f g h:E3} {gl:EL3}
theorem ZhY:Zbv X (.type "int") (fun xs H Q=>∃ x n,xs = [.str x] ∧ intText? x = some n ∧ x.length ≤ 640 ∧ Q (.int n) H):=by
 intro pins s σ H xs us Q I r h
 obtain ⟨x,n,rfl,hn,hz,q⟩:=h
 obtain ⟨u,rfl,t,rfl⟩:=vals1 r
 exact PySem.W.KIN.call_text hn hz ⟨.int n,H,I.tok _,⟨_,rfl⟩,q⟩
theorem ZmL:Zbv X (.type "int") (rB X.K Zis):=Zbv.imp (Zbv.or Zrk ZhY) fun xs H Q ⟨ι,M,ds,S,rd,h⟩=>by
 match ds,rd,h with
 | [.str x],rd,h=>
  obtain ⟨v,rfl,r⟩:=Zey rd
  simp only [Zis] at h
  cases hn:PySem.intText? ⟨x.toArray⟩ with
  | none=>rw [hn] at h; exact h.elim
  | some n=>
   rw [hn] at h
   dsimp only at h
   split at h
   ·rename_i hz
    exact .inr ⟨_,n,by rw [r.str_inv],hn,by simpa [Str.length] using hz,Zau.ok h S Rep.int⟩
   ·exact h.elim
 | [],rd,h=>exact h.elim
 | [.int i],rd,h=>exact .inl ⟨ι,M,_,S,rd,h⟩
 | [.bl i],rd,h=>exact .inl ⟨ι,M,_,S,rd,h⟩
 | [.non],rd,h=>exact h.elim
 | [.tup _],rd,h=>exact h.elim
 | [.scr _],rd,h=>exact h.elim
 | [.ref _],rd,h=>exact h.elim
 | .str _ :: _ :: _,rd,h=>exact h.elim
 | .int _ :: _ :: _,rd,h=>exact h.elim
 | .bl _ :: _ :: _,rd,h=>exact h.elim
 | .non :: _ :: _,rd,h=>exact h.elim
 | .tup _ :: _ :: _,rd,h=>exact h.elim
 | .scr _ :: _ :: _,rd,h=>exact h.elim
 | .ref _ :: _ :: _,rd,h=>exact h.elim
end
end L3
namespace L3
open PySem PySem.Spec PyProof.Rows L2
section
variable {X:Cx} {a b c e o:Expr} {es:List Expr} {pos p p1 p2 p3 pt apos cpos:Pos} {f g h:E3} {gl:EL3}
end
end L3
namespace L3
open PySem PySem.Spec PyProof.Rows L2
section
variable {X:Cx} {tg e:Expr} {pos:Pos} {f:E3} {g:G3}
theorem ZqC (he:C3 X e f) (hg:CG X tg g) (hs:swapsWithSole [tg] e pos.line X.env = pure false:=by rfl) (hw:swappedStores [tg] e X.env = pure none:=by rfl)
  (h1:(assignEach [tg] X.env).map (·.2) = [assign tg X.env]:=by rfl):CS X (.Assign [tg] e pos) (ZkB f g):=(ZnH he hg hs hw h1).imp fun D σ H ⟨ι,M,env,S,E,h⟩=>by
 refine ⟨ι,M,env,S,E,?_⟩
 unfold ZkB at h
 cases q:f env M with
 | ok d M1=>
  rw [q] at h
  cases qg:g d env with
  | none=>simp only [qg] at h; exact h.elim
  | some env1=>
   simp only [qg] at h
   exact fun v H1 ι1 x1 S1 r1=>⟨ι1,M1,env,d,env1,S1,E.mono x1,r1,qg,fun σ' E'=>h σ' H1 ι1 x1 S1 E'⟩
 | exc x M1=>rw [q] at h; exact h.elim
 | bad=>rw [q] at h; exact h.elim
end
section
variable {X:Cx} {tg e elt:Expr} {ifs:List Expr} {pos:Pos} {f fe:E3} {ts:List E3} {g:G3} {scope:Scope} {N':List Str} {own:Nat}
theorem Zqa {pins:List (Addr × Obj)} {σ σ':St} {H H':Hp} {s s':Shared} {ι ι':List Addr} {M2:Store} {n:Nat} {a:Addr} {ws0:List (Key × V)} {kvs':List (Zbc × D)} (I:Inv X pins σ H s) (ha:ι[n]? = some a) (hw0:H a = some (.dK ws0)) (I':Inv X pins σ' H' s')
  (xx:Ext X.K H ι H' ι') (S':Zav X.K H' ι' M2) (hm:M2[n]? = some (.fdct kvs')):
  ∃ H2,Inv X pins σ' H2 s' ∧ Ext X.K H ι H2 ι' ∧ Zav X.K H2 ι' (M2.set n (.dct kvs')) ∧ ∀ d v,Rep X.K H' ι' d v → Rep X.K H2 ι' d v:=by
 have ha':=xx.pre _ _ ha
 obtain ⟨ws,⟨o,hw⟩,kr⟩:=S'.obj n _ a hm ha'
 have I2:=I'.thaw hw fun o u z=>by
  have:=I.base.frzs a o u z
  rw [hw0] at this; cases this
 have nz:∀ {b u},H' b = some u → (∀ o v,u ≠ .frz o v) → upd H' a (.dK ws) b = some u:=fun {b u} q nf=>by
  rw [Zap]; · exact q
  ·rintro rfl; rw [hw] at q; cases q; exact nf _ _ rfl
 have tp:∀ b xs,SqT X.K H' b xs → SqT X.K (upd H' a (.dK ws)) b xs:=fun b xs q=>by
  rcases q with (q | ⟨o',q⟩) | q
  ·exact .inl (.inl (nz q fun _ _ z=>nomatch z))
  ·refine .inl (.inr ⟨o',?_⟩)
   rw [Zap]; · exact q
   ·rintro rfl; rw [hw] at q; cases q
  ·exact .inr q
 have sc:∀ b xs,SqF X.K H' b xs → SqF X.K (upd H' a (.dK ws)) b xs:=fun b xs q=>by
  rcases q with ⟨o',q⟩ | q
  ·refine .inl ⟨o',?_⟩
   rw [Zap]; · exact q
   ·rintro rfl; rw [hw] at q; cases q
  ·exact .inr q
 have mono:∀ {d':D} {u:V},Rep X.K H' ι' d' u → Rep X.K (upd H' a (.dK ws)) ι' d' u:=fun {d' u} r=>Rep.keep tp sc r
 have monoL:∀ {ds:List D} {us:List V},Zab X.K H' ι' ds us → Zab X.K (upd H' a (.dK ws)) ι' ds us:=fun {ds us} r=>Zab.keep tp sc r
 have S2:Zav X.K (upd H' a (.dK ws)) ι' (M2.set n (.dct kvs')):=by
  refine ⟨by simp [S'.len],S'.nd,fun k m b h1 h2=>?_⟩
  by_cases hk:k = n
  ·subst hk
   rw [ha'] at h2; cases h2
   rw [List.getElem?_set_self (List.getElem?_eq_some_iff.mp hm).1] at h1
   cases h1
   exact ⟨ws,ZbO,kr.1,monoL kr.2⟩
  ·rw [List.getElem?_set_ne (Ne.symm hk)] at h1
   have hb':b ≠ a:=by
    rintro rfl
    have q1:=List.getElem?_eq_some_iff.mp h2
    have q2:=List.getElem?_eq_some_iff.mp ha'
    exact hk ((List.getElem_inj S'.nd).mp (q1.2.trans q2.2.symm))
   have:=S'.obj k m b h1 h2
   cases m with
   | lst xs=>obtain ⟨vs,q,r⟩:=this; exact ⟨vs,by rw [Zap hb']; exact q,monoL r⟩
   | dct xs=>obtain ⟨vs,q,r⟩:=this; exact ⟨vs,by rw [Zap hb']; exact q,r.1,monoL r.2⟩
   | fdct xs=>obtain ⟨vs,⟨o',q⟩,r⟩:=this; exact ⟨vs,⟨o',by rw [Zap hb']; exact q⟩,r.1,monoL r.2⟩
 refine ⟨_,I2,⟨fun b xs q=>tp b xs (xx.tup b xs q),fun b xs q=>sc b xs (xx.scr b xs q),xx.pre,fun b o' u q=>?_⟩,S2,fun d v r=>mono r⟩
 have hb':b ≠ a:=by rintro rfl; rw [hw0] at q; cases q
 rw [Zap hb']
 exact xx.frz b o' u q
theorem ZlX {x y:Str} {pos' pos2 spos:Pos} (j i:Nat) (O:Zhu X scope N' own) (hxe:X.xe = fun _ _=>False) (hc:X.calm = true) (hN:X.N.Nodup) (hi:C3 X (.Name x pos2) (Za i))
  (hb:∀ C cl s H ex,CG (ZbK X scope N' C cl s H ex) tg g ∧ CTs (ZbK X scope N' C cl s H ex) ifs ts ∧ C3 (ZbK X scope N' C cl s H ex) elt fe)
  (hj:X.N[j]? = some y:=by rfl) (hx:Loc X.env.scope y:=by first | exact Or.inl rfl | exact Or.inr rfl)
  (hf:X.fn y = true ∨ X.env.scope.names.lookup y = some .local:=by first | exact .inl rfl | exact .inr rfl)
  (hsw:swapsWith (.ListComp elt [⟨tg,.Name x pos2,ifs,0⟩] scope pos) (some (.Name y pos')) spos.line X.env = pure true:=by rfl)
  (hs:∀ z,foldedSetIterable (.Name x pos2) X.env z = pure z:=by intro _; rfl):CS X (.Assign [.Name y pos'] (.ListComp elt [⟨tg,.Name x pos2,ifs,0⟩] scope pos) spos) (Zan j (Zk2 (Za i) own g ts fe)):=by
 intro pins s σ H D I ⟨ι,M,env,S,E,h⟩
 unfold Zan at h
 cases q:Zk2 (Za i) own g ts fe env M with
 | exc _ _=>rw [q] at h; exact h.elim
 | bad=>rw [q] at h; exact h.elim
 | ok v M3=>
  rw [q] at h
  unfold Zk2 at q
  cases e1:Za i env M with
  | exc _ _=>rw [e1] at q; cases q
  | bad=>rw [e1] at q; cases q
  | ok d M1=>
   have eM:M1 = M:=by
    simp only [Za] at e1
    split at e1
    ·cases e1; rfl
    ·cases e1
   subst eM
   rw [e1] at q
   cases d with
   | ref n=>
    simp only [R3.bind] at q
    cases hn:M1[n]? with
    | none=>simp only [hn] at q; cases q
    | some ob=>
     cases ob with
     | lst _=>simp only [hn] at q; cases q
     | fdct _=>simp only [hn] at q; cases q
     | dct kvs=>
      simp only [hn] at q
      cases e2:Zc4 ⟨kvs.map fun q=>keyV q.1,none⟩ g ts fe M1.length (kvs.map fun q=>keyV q.1) (env ++ List.replicate own none) (M1.set n (.fdct kvs) ++ [.lst []]) with
      | exc _ _=>rw [e2] at q; cases q
      | bad=>rw [e2] at q; cases q
      | ok v' M2=>
       rw [e2] at q
       simp only at q
       cases hm:M2[n]? with
       | none=>simp only [hm] at q; cases q
       | some ob2=>
        cases ob2 with
        | lst _=>simp only [hm] at q; cases q
        | dct _=>simp only [hm] at q; cases q
        | fdct kvs'=>
         simp only [hm] at q
         cases q
         obtain ⟨a,ha,ws0,hw0,_⟩:∃ a,ι[n]? = some a ∧ Zfm X.K H ι (.dct kvs) a:=S.at hn
         have eL:eLC (ZiV (Za i)) own g ts fe env M1 = .ok v M2:=by
          unfold eLC ZiV
          rw [e1]
          simp only [R3.bind,hn]
          rw [List.length_set]
          exact e2
         refine thn (Zhk j (i:=ZiV (Za i)) O hxe hc hN (ZmT hi) hb hj hx hf hsw hs pins s σ H { nx:=fun σ' H'=>∃ ι',Ext X.K H ι H' ι' ∧ Zav X.K H' ι' M2 ∧ ZbQ X.K H' ι' (env.set j (some v)) σ',rt:=fun _ _=>False } I
          ⟨ι,M1,env,S,E,by unfold Zan; rw [eL]; exact fun σ' H' ι' x S' E'=>⟨ι',x,S',E'⟩⟩) fun fl s' hq=>?_
         cases fl with
         | next=>
          obtain ⟨σ',H',I',ι',xx,S',E'⟩:=hq
          obtain ⟨H2,I2,x2,S2,mono⟩:=Zqa I ha hw0 I' xx S' hm
          exact ⟨σ',H2,I2,h σ' H2 ι' x2 S2 ⟨E'.1,fun i d hd=>let ⟨v,e,r⟩:=E'.2 i d hd; ⟨v,e,mono _ _ r⟩⟩⟩
         | brk=>obtain ⟨_,_,_,z⟩:=hq; exact z.elim
         | cont=>obtain ⟨_,_,_,z⟩:=hq; exact z.elim
         | ret _=>obtain ⟨_,_,_,_,_,z⟩:=hq; exact z.elim
   | _=>simp only [R3.bind] at q; cases q
end
noncomputable def ZrT (K:PySem.W.Frag) (H:Hp) (ι:List Addr) (it:ItL) (J:It):Prop:=∀ (i:Nat) H2 ι2 M2,Ext K H ι H2 ι2 → Zav K H2 ι2 M2 → ZdI it.lk M2 = true →
 (∀ d,it.items[i]? = some d → J.go i H2 ∧ ∀ x H3,J.yld i H2 x H3 → Ext K H2 ι2 H3 ι2 ∧ Zav K H3 ι2 M2 ∧ Rep K H3 ι2 d x) ∧ (i = it.items.length → J.stop i H2)
noncomputable def Zkf (K:PySem.W.Frag) (H:Hp) (ι:List Addr) (R:It → Hp → Prop) (r:R3 ItL):Prop:=match r with
 | .ok it M'=>∀ J H' ι',Ext K H ι H' ι' → Zav K H' ι' M' → ZrT K H' ι' it J → R J H'
 | _=>False
noncomputable def tIL (K:PySem.W.Frag) (g:IL3):TI:=fun σ H R=>∃ ι M env,Zav K H ι M ∧ ZbQ K H ι env σ ∧ Zkf K H ι R (g env M)
noncomputable def CIL (X:Cx) (tg e:Expr) (g:IL3):Prop:=PI X tg e (tIL X.K g)
theorem Zkf.bind {K:PySem.W.Frag} {H:Hp} {ι:List Addr} {α:Type} {Q:It → Hp → Prop} {r:R3 α} {k:α → Store → R3 ItL} (h:Zkf K H ι Q (r.bind k)):∃ a M,r = .ok a M ∧ Zkf K H ι Q (k a M):=by
 cases r with
 | ok a M=>exact ⟨a,M,rfl,h⟩
 | exc x M=>exact h.elim
 | bad=>exact h.elim
section
variable {X:Cx} {tg:Expr} {pos:Pos}
theorem ZlD {iter:Expr} {body:List Stmt} {i:IL3} {g:G3} {u:S3} (hxe:X.xe = fun _ _=>False) (hc:X.calm = true) (hi:CIL X tg iter i) (hg:CG X tg g) (hb:CSs X body u) (hs:∀ x,foldedSetIterable iter X.env x = pure x:=by intro _; rfl):
  CS X (.For tg iter body [] pos) (Zh8 i g u):=(Znb (by rw [hxe]; exact PassesOwn.never) hc hi hg hb hs).imp fun D σ H ⟨ι,M,env,S,E,h⟩=>by
 unfold Zh8 at h
 cases q:i env M with
 | exc x M1=>rw [q] at h; exact h.elim
 | bad=>rw [q] at h; exact h.elim
 | ok it M1=>
  rw [q] at h
  refine ⟨ι,M,env,S,E,?_⟩
  rw [q]
  intro J H1 ι1 x1 S1 ok
  refine ⟨fun i m σ2 H2=>m = it.items.length - i ∧ i ≤ it.items.length ∧ ∃ ι2 M2 env2,Ext X.K H1 ι1 H2 ι2 ∧ Zav X.K H2 ι2 M2 ∧ ZbQ X.K H2 ι2 env2 σ2 ∧ Zfo X.K H2 ι2 D (ZeE it.lk g u (it.items.drop i) env2 M2),
   ⟨_,rfl,Nat.zero_le _,ι1,M1,env,Ext.refl,S1,E.mono x1,Zfo.up x1 h⟩,?_⟩
  rintro i m σ2 H2 ⟨rfl,hi,ι2,M2,env2,x2,S2,E2,h2⟩
  by_cases hlt:i < it.items.length
  ·have hd:it.items[i]? = some it.items[i]:=by simp [hlt]
   rw [List.drop_eq_getElem_cons hlt] at h2
   unfold ZeE at h2
   by_cases lk:ZdI it.lk M2 = true
   ·rw [if_pos lk] at h2
    obtain ⟨go,yl⟩:=(ok i H2 ι2 M2 x2 S2 lk).1 _ hd
    cases eg:g it.items[i] env2 with
    | none=>rw [eg] at h2; exact h2.elim
    | some env3=>
     rw [eg] at h2
     refine .inr ⟨go,fun σ' H'=>∃ ι3 M3 env4,Ext X.K H2 ι2 H' ι3 ∧ Zav X.K H' ι3 M3 ∧ ZbQ X.K H' ι3 env4 σ' ∧ Zfo X.K H' ι3 D (ZeE it.lk g u (it.items.drop (i + 1)) env4 M3),
      fun σ' H' ⟨ι3,M3,env4,x3,S3,E3,h3⟩=>⟨it.items.length - (i + 1),by omega,rfl,hlt,ι3,M3,env4,x2.trans x3,S3,E3,h3⟩,fun x H' hy=>?_⟩
     obtain ⟨x7,S7,rx⟩:=yl x H' hy
     refine ⟨ι2,M2,env2,_,env3,S7,E2.mono x7,rx,eg,fun σ' E'=>⟨ι2,M2,env3,S7,E',?_⟩⟩
     have h2':=Zfo.up x7 h2
     cases qu:u env3 M2 with
     | nx e' M'=>simp only [qu] at h2'; exact fun σ' H' ι' x' S' E'=>⟨ι',M',e',x7.trans x',S',E',h2'.up x'⟩
     | ct e' M'=>simp only [qu] at h2'; exact fun σ' H' ι' x' S' E'=>⟨ι',M',e',x7.trans x',S',E',h2'.up x'⟩
     | bk e' M'=>simp only [qu] at h2'; exact h2'
     | rt d M'=>simp only [qu] at h2'; exact h2'
     | exc x' M'=>simp only [qu] at h2'; exact h2'.elim
     | bad=>simp only [qu] at h2'; exact h2'.elim
   ·rw [if_neg lk] at h2; exact h2.elim
  ·have e0:i = it.items.length:=by omega
   subst e0
   rw [List.drop_length] at h2
   unfold ZeE at h2
   by_cases lk:ZdI it.lk M2 = true
   ·rw [if_pos lk] at h2
    exact .inl ⟨(ok _ H2 ι2 M2 x2 S2 lk).2 rfl,h2 σ2 H2 ι2 Ext.refl S2 E2⟩
   ·rw [if_neg lk] at h2; exact h2.elim
end
theorem _root_.L2.Inv.turnedL {X:Cx} {pins:List (Addr × Obj)} {σ:St} {H:Hp} {s:Shared} {h':Heap} {t':Nat} {fp:List Addr} (I:Inv X pins σ H s) (k:∀ b o,b ∉ fp → s.heap.get? b = some o → h'.get? b = some o) (hf:∀ b ∈ fp,Zf0 X pins H b):
  Inv X pins σ H { s with heap:=h',toks:=t' }:=by
 have nit:∀ b u,H b = some u → b ∉ fp:=fun b u e z=>by rw [(hf b z).1] at e; cases e
 refine I.step (g':=s.gens) (d':=s.drawn) (ch:=fp) (fun b hb=>⟨(hf b hb).2.2.2.1,(hf b hb).2.1,(hf b hb).2.2.2.2.1,(hf b hb).2.2.2.2.2⟩) (fun b o _ _ hc e _=>k b o hc e) (fun b o _ _ hc e _=>⟨o.slots,k b o hc e⟩) (fun _ _ _ _ n=>n)
  (fun b o hc e=>⟨o,k b o hc e⟩) (fun _ _ e=>e) (fun _ _ _ e=>e) (fun b ps e=>⟨#[],by rw [e]; simp⟩) (fun m hm=>?_) (fun b u e=>?_) I.bare
 ·obtain ⟨o,es,ep,ho,r⟩:=hm
  exact ⟨o,es,ep,k _ o (fun z=>(hf _ z).2.1 rfl) ho,r⟩
 ·refine (I.hok b u e).stay (fun c v hc q=>k c v ?_ q) (fun _ q=>q) fun _ _ q=>q
  rcases hc with z | z
  ·rw [z]; exact nit b u e
  ·exact nit c _ z
noncomputable def Ite (S:Hp → List V → Prop):It:=⟨fun i H=>∃ xs x,S H xs ∧ xs[i]? = some x,fun i H x H'=>∃ T y,x = .ref T ∧ H T = none ∧ H' = upd H T (.tup [.int i,y]) ∧ ∀ xs,S H xs → xs[i]? = some y,fun i H=>∃ xs,S H xs ∧ xs.length ≤ i⟩
theorem ZiB {X:Cx} {pins:List (Addr × Obj)} {σ:St} {H:Hp} {s:Shared} {h' h'':Heap} {e it:Addr} {i:Nat} {x:V} {u:Value} {tk tk':Nat} (I:Inv X pins σ H s) (hf:∀ b ∈ [e,it],Zf0 X pins H b) (he:e < s.heap.objs.size) (hi:it < s.heap.objs.size) (ru:RelV x u)
  (hT:h'.get? s.heap.objs.size = some { cls:=.type "tuple",data:=.seq #[.int i tk,u] }) (hk:∀ b o,b ≠ e → b ≠ it → s.heap.get? b = some o → h'.get? b = some o) (hs:Heap.SameBut e h' h''):
  Inv X pins σ (upd H s.heap.objs.size (.tup [.int i,x])) { s with heap:=h'',toks:=tk' } ∧ ∀ b ∈ [e,it],upd H s.heap.objs.size (.tup [.int i,x]) b = none:=by
 have hn:∀ b ∈ [e,it],upd H s.heap.objs.size (.tup [.int i,x]) b = none:=fun b hb=>by
  have:b ≠ s.heap.objs.size:=by
   simp only [List.mem_cons,List.not_mem_nil,or_false] at hb
   rcases hb with rfl | rfl
   ·exact Nat.ne_of_lt he
   ·exact Nat.ne_of_lt hi
  rw [Zap this]; exact (hf b hb).1
 refine ⟨?_,hn⟩
 have I1:Inv X pins σ (upd H s.heap.objs.size (.tup [.int i,x])) { s with heap:=s.heap.push { cls:=.type "tuple",data:=.seq ([.int i tk,u]:List Value).toArray },toks:=s.toks }:=
  I.laid (t':=s.toks) (fun b o e=>Heap.get?_push_of_some _ e) (Nat.le_refl _) (show ZbG X.prog X.w _ _ _ (.tup [.int i,x]) from ⟨by rw [sizeLine_eq]; show 2 ≤ _; decide,[.int i tk,u],.cons ⟨tk,rfl⟩ (.cons ru .nil),ZdS.new _ _⟩)
 have I3:=I1.turnedL (t':=tk') (h':=h'') (fp:=[e,it]) (fun b o hb q=>by
  have hbe:b ≠ e:=fun z=>hb (by simp [z])
  have hbi:b ≠ it:=fun z=>hb (by simp [z])
  rcases Heap.get?_push_cases q with ⟨rfl,rfl⟩ | q
  ·exact (hs.2 _ (Nat.ne_of_gt he)).trans hT
  ·exact (hs.2 _ hbe).trans (hk b o hbe hbi q)) fun b hb=>⟨hn b hb,(hf b hb).2⟩
 exact I3
theorem ZkQ {P:Program} {w:World} {K:PySem.W.Frag} {es:List Expr} {k:Nat} {pos:Pos} (a e it:Addr) (hne:e ≠ it):
  Turn P w K (.Tuple es k pos) (Ite fun H xs=>SqL K H a xs) [e,it] e (fun i h=>(∃ old,IsEnum h e it i old) ∧ h.IsListIter it a i) where
 mem:=by simp
 obj:=fun i h st b hb=>by
  obtain ⟨⟨old,he⟩,o,ho,c,d⟩:=st
  simp only [List.mem_cons,List.not_mem_nil,or_false] at hb
  rcases hb with rfl | rfl
  ·exact ⟨_,he,fun v z=>by cases z⟩
  ·exact ⟨o,ho,fun v z=>by rw [d] at z; cases z⟩
 keep:=fun i h h' st k=>by
  obtain ⟨⟨old,he⟩,hit⟩:=st
  exact ⟨⟨old,k e (by simp) _ he⟩,hit.at fun o q=>k it (by simp) o q⟩
 item:=by
  intro X hP hw hK hc i pins s σ H E I hf st hg
  subst hP hw hK
  obtain ⟨xs,x,hq,hx⟩:=hg
  obtain ⟨its,rv,p,hz⟩:=I.list hq
  obtain ⟨u,hu,ru⟩:=rv.get hx
  obtain ⟨⟨old,he⟩,hit⟩:=st
  have hel:=Heap.lt_size he
  have hil:it < s.heap.objs.size:=by obtain ⟨o,ho,_⟩:=id hit; exact Heap.lt_size ho
  refine wpAny_pyNext_enum_item he hit p.isList (x:=u) (by simpa using hu) hne fun h' ho hit' hT hsz hk=>?_
  refine ⟨_,rfl,wpAny_letOwnedTupleGo_enum (s:={ s with heap:=h',toks:=s.toks + 1 }) ho fun h'' he'' hs''=>?_⟩
  obtain ⟨I2,n2⟩:=ZiB (x:=x) (tk':=s.toks + 1) I hf hel hil ru hT hk hs''
  exact ⟨.ref s.heap.objs.size,_,I2,rfl,⟨_,x,rfl,I.hok.fresh (Nat.le_refl _),rfl,fun ys hy=>by rw [I.list_inj hy hq]; exact hx⟩,⟨⟨_,by simpa using he''⟩,hit'.extBut hs''.extBut (Ne.symm hne)⟩,n2⟩
 done:=by
  intro X hP hw hK hc i pins s σ H E I hf st hg
  subst hP hw hK
  obtain ⟨xs,hq,hx⟩:=hg
  obtain ⟨its,rv,p,hz⟩:=I.list hq
  obtain ⟨⟨old,he⟩,hit⟩:=st
  have hl:=rv.length
  exact wpAny_pyNext_enum_end (I.ok.hd hc) he hit p.isList (by simp; omega) fun h' eb=>⟨rfl,I.turnedL (t':=s.toks) (fun b o hb q=>eb b o (fun z=>hb (by simp [z])) q) hf⟩
 self:=fun _ _ _ _ _ st h=>by
  obtain ⟨⟨old,he⟩,_⟩:=st
  exact wpAny_pyIter_enum he h
theorem boot_enumerate:bootBuiltins "enumerate" = some (.type "enumerate"):=by decide +kernel
end L3
namespace L3
open PySem PySem.Spec PyProof.Rows L2
open AutoSeq1 (wpAny_loadPart')
set_option maxRecDepth 100000
section
variable {prog:Program} {w:World} {A:Around} {E:Value → Shared → Prop} {s:Shared}
theorem Zga {it t:Addr} {i:Nat} {items:Array Value} {x:Value} {Q:Value → Shared → Prop} (hit:s.heap.IsTupleIter it t i) (ht:s.heap.IsTuple t items) (hx:items[i]? = some x)
  (hQ:∀ h',h'.IsTupleIter it t (i + 1) → Heap.SameBut it s.heap h' → Q x { s with heap:=h' }):wpAny (model prog w) A (Builtin.SmallTypes.nextOf (.ref it)) Q E s:=by
 obtain ⟨o,ho,hc,hd⟩:=id hit
 obtain ⟨ol,hol,_,nl,hdl⟩:=ht
 unfold Builtin.SmallTypes.nextOf
 refine wpAny_bind (wpAny_callSpecial?_slot (name:=Str.ofString "__next__") hit.typeIs slot_tupleiter_next
  (wpAny_call_entry slot_tupleiter_next hit.typeIs entry_tupleiter_next ?_ (args_tupleiter_next _)))
 show wpAny _ _ (field (.ref it) 0 >>= _) _ _ s
 refine wpAny_bind (wpAny_field ho hd (x:=.ref t) rfl ?_)
 show wpAny _ _ (if (Value.ref t == Value.none) = true then _ else _) _ _ s
 rw [if_neg (show ¬ ((Value.ref t == Value.none) = true) from Bool.false_ne_true)]
 show wpAny _ _ (field (.ref it) 1 >>= _) _ _ s
 refine wpAny_bind (wpAny_field ho hd (x:=.int i 0) rfl ?_)
 show wpAny _ _ (seqItems? (.ref t) >>= _) _ _ s
 refine wpAny_bind (wpAny_seqItems hol hdl ?_)
 simp only [Int.toNat_natCast,hx]
 refine wpAny_bind (wpAny_setField ho hd (by simp) (wpAny_pure ⟨x,rfl,wpAny_pure (hQ _ ?_ (Heap.SameBut.update ..))⟩))
 exact ⟨_,Heap.get?_update_self _ ho (Obj.isFreed_of_fields (Obj.data_mapFields hd _)),(Obj.cls_mapFields ..).trans hc,by
  rw [Obj.data_mapFields hd]; simp [rawInt]⟩
theorem Zef {it t:Addr} {i:Nat} {items:Array Value} {Q:Value → Shared → Prop} (hh:A.handled = none) (hit:s.heap.IsTupleIter it t i) (ht:s.heap.IsTuple t items) (hx:items[i]? = none)
  (hE:∀ h' e,Heap.ExtBut it s.heap h' → (∃ o,h'.get? e = some o ∧ o.cls = .type "StopIteration") → E (.ref e) { s with heap:=h' }):wpAny (model prog w) A (Builtin.SmallTypes.nextOf (.ref it)) Q E s:=by
 obtain ⟨o,ho,hc,hd⟩:=id hit
 obtain ⟨ol,hol,_,nl,hdl⟩:=ht
 unfold Builtin.SmallTypes.nextOf
 refine wpAny_bind (wpAny_callSpecial?_slot (name:=Str.ofString "__next__") hit.typeIs slot_tupleiter_next
  (wpAny_call_entry slot_tupleiter_next hit.typeIs entry_tupleiter_next ?_ (args_tupleiter_next _)))
 show wpAny _ _ (field (.ref it) 0 >>= _) _ _ s
 refine wpAny_bind (wpAny_field ho hd (x:=.ref t) rfl ?_)
 show wpAny _ _ (if (Value.ref t == Value.none) = true then _ else _) _ _ s
 rw [if_neg (show ¬ ((Value.ref t == Value.none) = true) from Bool.false_ne_true)]
 show wpAny _ _ (field (.ref it) 1 >>= _) _ _ s
 refine wpAny_bind (wpAny_field ho hd (x:=.int i 0) rfl ?_)
 show wpAny _ _ (seqItems? (.ref t) >>= _) _ _ s
 refine wpAny_bind (wpAny_seqItems hol hdl ?_)
 simp only [Int.toNat_natCast,hx]
 refine wpAny_bind (wpAny_rule (wpAny_bind (wpAny_setField ho hd (by simp) ?_)))
 show wpAny _ _ (newExc (.type "StopIteration") [] >>= _) _ _ _
 refine wpAny_bind ?_
 simp only [newExc,newTuple]
 refine wpAny_bind (wpAny_newObj_type ?_ (by size_fits))
 refine wpAny_bind (m:=firstArgMember _ _) (wpAny_of_eq (a:=Value.none) (by first | rfl | (simp only [firstArgMember]; rfl)) ?_)
 refine wpAny_newObj_type ?_ (by size_fits)
 simp only [raiseNew]
 refine wpAny_bind (wpAny_handled ?_)
 first | rw [show A.in1.handled = none from hh] | rw [hh]
 refine wpAny_bind (wpAny_pure (wpAny_throw ?_))
 exact hE _ _ (((Heap.SameBut.update ..).extBut.push _).push _) ⟨_,Heap.get?_push_size _ rfl,rfl⟩
end
theorem ZjI {prog:Program} {w:World} {A:Around} (hh:A.handled = none) (it l:Addr) (hne:l ≠ it) (items:Array Value):
  Draws prog w A it [it,l] items.size (fun i v=>items[i]? = some v) (fun i h=>h.IsTupleIter it l i ∧ h.IsTuple l items) where
 live:=fun _ _ st=>let ⟨o,ho,_⟩:=st.1; ⟨o,ho⟩
 frame:=fun _ _ _ st hk=>⟨st.1.at fun o e=>hk it (by simp) o e,st.2.at fun o e=>hk l (by simp) o e⟩
 item:=fun i s Q E hi st hQ=>by
  refine Zga st.1 st.2 (x:=items[i]) (by simp [hi]) fun h' hit' hs'=>?_
  exact hQ _ h' s.toks (by simp [hi]) ⟨hit',st.2.extBut hs'.extBut hne⟩ hs'
 done:=fun s Q E st hE=>Zef hh st.1 st.2 (by simp) hE
theorem ZeN (l:Addr) (items:Array Value) (n:Nat) (dct:Option Addr) (sl:Array (Option Value)):
  Meets (Builtin.«enumerate.__new__» ⟨[.type "enumerate",.ref l],[]⟩) (fun _ R s=>s.heap.get? l = some { cls:=.type "tuple",dict:=dct,data:=.seq items n,slots:=sl } ∧
   R (.ok (.ret (.ref (s.heap.push { cls:=.type "tuple_iterator",data:=.fields #[.ref l,.int 0 0] }).objs.size)))
    { s with heap:=(s.heap.push { cls:=.type "tuple_iterator",data:=.fields #[.ref l,.int 0 0] }).push { cls:=.type "enumerate",data:=.fields #[.none,.bool false,.ref s.heap.objs.size,rawInt 0,.none,.none] } }):=
 .of_wp fun prog w A R s h=>by
  obtain ⟨hp,g,d,tk,os⟩:=s; obtain ⟨hl,h⟩:=h
  have hsub:=sub_enumerate
  have hL:Heap.IsTuple (Shared.heap ⟨hp,g,d,tk,os⟩) l items:=⟨_,hl,rfl,n,rfl⟩
  wp_walk using wpAny_loadPart' hl
  refine wpAny_stack_any fun st=>wpAny_pure ?_
  split
  ·rename_i c _ _ _ _ _
   cases (c == Value.type "enumerate")
   ·wp_walk using wpAny_loadPart' hl,wpAny_pyIter_tuple hL
    exact ⟨_,rfl,h⟩
   ·wp_walk using wpAny_loadPart' hl,wpAny_pyIter_tuple hL
    exact ⟨_,rfl,h⟩
  ·wp_walk using wpAny_loadPart' hl,wpAny_pyIter_tuple hL
   exact ⟨_,rfl,h⟩
theorem ZeL {prog:Program} {w:World} {A:Around} {E:Value → Shared → Prop} {s:Shared} {l:Addr} {items:Array Value} {Q:Value → Shared → Prop} (hL:s.heap.IsTuple l items)
  (h:∀ h',IsEnum h' (s.heap.objs.size + 1) s.heap.objs.size 0 .none → h'.IsTupleIter s.heap.objs.size l 0 → h'.objs.size = s.heap.objs.size + 2 →
   (∀ b o,s.heap.get? b = some o → h'.get? b = some o) → Q (.ref (s.heap.objs.size + 1)) { s with heap:=h' }):
  wpAny (model prog w) A (call (.type "enumerate") [.ref l]) Q E s:=by
 obtain ⟨⟨c,dct,dt,sl⟩,hl,hc,n,hd⟩:=hL
 replace hc:c = .type "tuple":=hc
 replace hd:dt = .seq items n:=hd
 subst hc hd
 refine callType_new F.called_enumerate (by decide) (F.typeCall_enumerate_1 _) (F.newCall_enumerate_1 _) (fun obj=>F.args_object_init_2 obj _) F.entry_enumerate_new
  (ZeN l items n dct sl) ⟨hl,?_⟩
 have hz:(s.heap.push { cls:=.type "tuple_iterator",data:=.fields #[.ref l,.int 0 0] }).objs.size = s.heap.objs.size + 1:=Heap.size_push ..
 show _ ∧ _
 rw [hz]
 have he:IsEnum ((s.heap.push { cls:=.type "tuple_iterator",data:=.fields #[.ref l,.int 0 0] }).push
   { cls:=.type "enumerate",data:=.fields #[.none,.bool false,.ref s.heap.objs.size,rawInt 0,.none,.none] }) (s.heap.objs.size + 1) s.heap.objs.size 0 .none:=by
  have:=Heap.get?_push_size (s.heap.push { cls:=.type "tuple_iterator",data:=.fields #[.ref l,.int 0 0] })
   (o:={ cls:=.type "enumerate",data:=.fields #[.none,.bool false,.ref s.heap.objs.size,rawInt 0,.none,.none] }) rfl
  rw [hz] at this; exact this
 refine ⟨⟨_,he,rfl⟩,h _ he ⟨_,Heap.get?_push_of_some _ (Heap.get?_push_size _ rfl),rfl,rfl⟩ (by rw [Heap.size_push,hz]) fun b o x=>Heap.get?_push_of_some _ (Heap.get?_push_of_some _ x)⟩
theorem Zld {P:Program} {w:World} {K:PySem.W.Frag} {es:List Expr} {k:Nat} {pos:Pos} (a e it:Addr) (hne:e ≠ it):
  Turn P w K (.Tuple es k pos) (Ite fun H xs=>SqT K H a xs) [e,it] e (fun i h=>(∃ old,IsEnum h e it i old) ∧ h.IsTupleIter it a i) where
 mem:=by simp
 obj:=fun i h st b hb=>by
  obtain ⟨⟨old,he⟩,o,ho,c,d⟩:=st
  simp only [List.mem_cons,List.not_mem_nil,or_false] at hb
  rcases hb with rfl | rfl
  ·exact ⟨_,he,fun v z=>by cases z⟩
  ·exact ⟨o,ho,fun v z=>by rw [d] at z; cases z⟩
 keep:=fun i h h' st k=>by
  obtain ⟨⟨old,he⟩,hit⟩:=st
  exact ⟨⟨old,k e (by simp) _ he⟩,hit.at fun o q=>k it (by simp) o q⟩
 item:=by
  intro X hP hw hK hc i pins s σ H E I hf st hg
  subst hP hw hK
  obtain ⟨xs,x,hq,hx⟩:=hg
  obtain ⟨its,rv,p,hz⟩:=I.tuple hq
  obtain ⟨u,hu,ru⟩:=rv.get hx
  obtain ⟨⟨old,he⟩,hit⟩:=st
  have hel:=Heap.lt_size he
  have hil:it < s.heap.objs.size:=by obtain ⟨o,ho,_⟩:=id hit; exact Heap.lt_size ho
  have pt:s.heap.IsTuple a its.toArray:=p
  have hae:e ≠ a:=by
   rintro rfl
   obtain ⟨o,ho,hc,_⟩:=pt
   rw [he] at ho; cases ho
   exact absurd hc (by simp)
  have hai:a ≠ it:=by
   rintro rfl
   obtain ⟨o,ho,hc,_⟩:=pt
   obtain ⟨o',ho',hc',_⟩:=hit
   rw [ho'] at ho; cases ho
   rw [hc'] at hc
   exact absurd hc (by simp)
  have D:=ZjI (prog:=X.prog) (w:=X.w) (A:=X.A.in1) (I.ok.hd hc) it a hai its.toArray
  refine wpAny_pyNext_enum_itemD D he ⟨hit,pt⟩ (by simpa using (List.getElem?_eq_some_iff.mp hu).1) hne (by simp [hne,hae]) fun y h' tk hy ho hst hT hsz hk=>?_
  have ey:y = u:=by
   have:its.toArray[i]? = some u:=by simpa using hu
   rw [this] at hy; cases hy; rfl
  subst ey
  refine ⟨_,rfl,wpAny_letOwnedTupleGo_enum (s:={ s with heap:=h',toks:=tk + 1 }) ho fun h'' he'' hs''=>?_⟩
  obtain ⟨I2,n2⟩:=ZiB (x:=x) (tk':=tk + 1) I hf hel hil ru hT hk hs''
  exact ⟨.ref s.heap.objs.size,_,I2,rfl,⟨_,x,rfl,I.hok.fresh (Nat.le_refl _),rfl,fun ys hy=>by rw [I.tuple_inj hy hq]; exact hx⟩,⟨⟨_,by simpa using he''⟩,hst.1.extBut hs''.extBut (Ne.symm hne)⟩,n2⟩
 done:=by
  intro X hP hw hK hc i pins s σ H E I hf st hg
  subst hP hw hK
  obtain ⟨xs,hq,hx⟩:=hg
  obtain ⟨its,rv,p,hz⟩:=I.tuple hq
  obtain ⟨⟨old,he⟩,hit⟩:=st
  have hl:=rv.length
  have pt:s.heap.IsTuple a its.toArray:=p
  have hT:s.TypeIs (.ref e) "enumerate":=⟨_,he,rfl⟩
  unfold pyNext
  refine wpAny_bind (wpAny_attempt (wpAny_callSpecial?_slot (name:=Str.ofString "__next__") hT F.slot_enumerate_next
   (wpAny_call_entry F.slot_enumerate_next hT F.entry_enumerate_next ?_ (F.args_enumerate_next_1 _))))
  show wpAny _ _ (field (.ref e) 2 >>= _) _ _ _
  refine wpAny_bind (wpAny_field he rfl (x:=.ref it) rfl ?_)
  refine wpAny_bind (Zef (I.ok.hd hc) hit pt (by simp; omega) fun h' x he' hx'=>?_)
  obtain ⟨o,ho,hc⟩:=hx'
  refine wpAny_bind (wpAny_isInstance (T:="StopIteration") (b:=true) ⟨o,ho,hc⟩ isSubtype_stop ?_)
  exact wpAny_pure ⟨rfl,I.turnedL (t':=s.toks) (fun b o hb q=>he' b o (fun z=>hb (by simp [z])) q) hf⟩
 self:=fun _ _ _ _ _ st h=>by
  obtain ⟨⟨old,he⟩,_⟩:=st
  exact wpAny_pyIter_enum he h
section
variable {X:Cx} {es:List Expr} {k:Nat} {a:Expr} {p pos tpos:Pos} {f:E3}
noncomputable def Zqi (K:PySem.W.Frag) (ta:TA):TI:=fun σ H R=>ta σ H fun vs H1=>∃ b,vs = [.ref b] ∧ ((∃ xs,SqL K H1 b xs ∧ R (Ite fun H xs=>SqL K H b xs) H1) ∨ ∃ xs,SqT K H1 b xs ∧ R (Ite fun H xs=>SqT K H b xs) H1)
theorem ZoL {ta:TA} (hg:Gl X "enumerate") (hm:X.mg "enumerate" = none) (ha:PA X [a] ta) (hs:starEach [a] X.env = [(false,eval a X.env)]:=by rfl):PI X (.Tuple es k tpos) (.Call (.Name "enumerate" p) [a] [] pos) (Zqi X.K ta):=by
 intro pins s σ H R I h
 refine Call_ (Zjg I hg hm boot_enumerate (PyProof.Rows.callWith_type1 (thn (ha pos pins s σ H _ I h) fun us s1 ⟨vs,H1,I1,r1,q1⟩=>?_) hs rfl))
 obtain ⟨b,e,q⟩:=q1
 subst e
 cases r1 with
 | cons r rr=>
  cases rr
  cases r
  have fp:∀ {h':Heap} {s2:Shared},∀ c ∈ [s1.heap.objs.size + 1,s1.heap.objs.size],Zf0 X pins H1 c:=fun {h' s2} c hc=>by
   have hc':s1.heap.objs.size ≤ c:=by
    simp only [List.mem_cons,List.not_mem_nil,or_false] at hc
    rcases hc with rfl | rfl <;> omega
   exact I1.fpOk hc' (I1.hok.fresh hc')
  rcases q with ⟨xs,hq,q⟩ | ⟨xs,hq,q⟩
  ·obtain ⟨its,rv,pl,hz⟩:=I1.list hq
   refine call_enumerate_list pl.isList fun h' hE hI hsz hk=>?_
   have I2:Inv X pins σ H1 { s1 with heap:=h' }:=I1.kept (t':=s1.toks) hk
   exact wpAny_pyIter_enum (s:={ s1 with heap:=h' }) hE ⟨_,[s1.heap.objs.size + 1,s1.heap.objs.size],_,_,H1,rfl,I2,ZkQ b _ _ (Nat.succ_ne_self _),⟨⟨_,hE⟩,hI⟩,fp (h':=h') (s2:=s1),q⟩
  ·obtain ⟨its,rv,pl,hz⟩:=I1.tuple hq
   refine ZeL (show s1.heap.IsTuple b its.toArray from pl) fun h' hE hI hsz hk=>?_
   have I2:Inv X pins σ H1 { s1 with heap:=h' }:=I1.kept (t':=s1.toks) hk
   exact wpAny_pyIter_enum (s:={ s1 with heap:=h' }) hE ⟨_,[s1.heap.objs.size + 1,s1.heap.objs.size],_,_,H1,rfl,I2,Zld b _ _ (Nat.succ_ne_self _),⟨⟨_,hE⟩,hI⟩,fp (h':=h') (s2:=s1),q⟩
theorem ZlE (hm:X.mg "enumerate" = none) (h:C3 X a f) (hg:Gl X "enumerate":=by rfl) (hs:starEach [a] X.env = [(false,eval a X.env)]:=by rfl) (hs':starEach (a :: []) X.env = (false,eval a X.env) :: starEach [] X.env:=by rfl):CIL X (.Tuple es k tpos) (.Call (.Name "enumerate" p) [a] [] pos) (Zjm f):=
 PI.imp (ZoL hg hm (Zc h Zm hs') hs) fun σ H R ⟨ι,M,env,S,E,h⟩=>by
  obtain ⟨d,M1,e1,h⟩:=Zkf.bind h
  refine ⟨ι,M,env,S,E,?_⟩
  have e2:Zb f Zg env M = .ok [d] M1:=by unfold Zb; rw [e1]; rfl
  rw [e2]
  intro vs H1 ι1 x1 S1 r1
  obtain ⟨v,ws,rfl,r,q⟩:=r1.cons_inv
  have:=q.nil_inv
  subst this
  cases d with
  | tup ds=>
   obtain ⟨b,vs,rfl,s,r⟩:=r.tup_inv
   refine ⟨b,rfl,.inr ⟨vs,s,h _ H1 ι1 x1 S1 ?_⟩⟩
   intro i H2 ι2 M2 x S2 _
   refine ⟨fun d hd=>?_,fun hl=>⟨vs,x.tup _ _ s,by rw [r.length,hl,Zgp]; exact Nat.le_refl _⟩⟩
   rw [Zgn] at hd
   cases hq:ds[i]? with
   | none=>rw [hq] at hd; cases hd
   | some d0=>
    rw [hq] at hd
    simp only [Option.map_some,Nat.zero_add,Option.some.injEq] at hd
    subst hd
    obtain ⟨v,hv,rv⟩:=r.get hq
    refine ⟨⟨vs,v,x.tup _ _ s,hv⟩,fun y H3 hy=>?_⟩
    obtain ⟨T,y',rfl,hT,rfl,hall⟩:=hy
    have e:=hall vs (x.tup _ _ s)
    rw [hv] at e
    cases e
    exact S2.tupl hT (Zab.cons Rep.int (Zab.cons (rv.mono x) Zab.nil))
  | ref n=>
   cases hm:M1[n]? with
   | none=>simp only [hm] at h; exact h.elim
   | some o=>
    cases o with
    | dct kvs=>simp only [hm] at h; exact h.elim
    | fdct kvs=>simp only [hm] at h; exact h.elim
    | lst ds=>
     simp only [hm] at h
     obtain ⟨b,ha,rfl⟩:=r.ref_inv
     obtain ⟨vs,q,r⟩:=S1.obj n _ b hm ha
     refine ⟨b,rfl,.inl ⟨vs,SqL.of q,h _ H1 ι1 x1 S1 ?_⟩⟩
     intro i H2 ι2 M2 x S2 lk
     have lk':M2[n]? = some (.lst ds):=by simpa [ZdI] using lk
     obtain ⟨vs2,q2,r2⟩:=S2.obj n _ b lk' (x.pre _ _ ha)
     refine ⟨fun d hd=>?_,fun hl=>⟨vs2,SqL.of q2,by rw [r2.length,hl,Zgp]; exact Nat.le_refl _⟩⟩
     rw [Zgn] at hd
     cases hq:ds[i]? with
     | none=>rw [hq] at hd; cases hd
     | some d0=>
      rw [hq] at hd
      simp only [Option.map_some,Nat.zero_add,Option.some.injEq] at hd
      subst hd
      obtain ⟨v,hv,rv⟩:=r2.get hq
      refine ⟨⟨vs2,v,SqL.of q2,hv⟩,fun y H3 hy=>?_⟩
      obtain ⟨T,y',rfl,hT,rfl,hall⟩:=hy
      have e:=hall vs2 (SqL.of q2)
      rw [hv] at e
      cases e
      exact S2.tupl hT (Zab.cons Rep.int (Zab.cons rv Zab.nil))
  | _=>exact h.elim
end
end L3
namespace L3
open PySem PySem.Spec PyProof.Rows L2
open AutoSeq1 (wpAny_loadPart')
open PySem.SeqAt MeetsSeq
set_option maxRecDepth 100000
theorem Zmv (l b:Addr) (i j k m:Int) (t1 t2 t3 t4:Tok) (n n2:Nat) (dd dd2:Option Addr) (sl sl2:Array (Option Value)):
  Meets (Builtin.«tuple.__le__» ⟨[.ref l,.ref b],[]⟩)
   (fun A R s=>s.heap.get? l = some { cls:=.type "tuple",dict:=dd,data:=.seq #[.int i t1,.int j t2] n,slots:=sl } ∧ s.heap.get? b = some { cls:=.type "tuple",dict:=dd2,data:=.seq #[.int k t3,.int m t4] n2,slots:=sl2 } ∧
    R (.ok (.ret (.bool (decide (i < k) || (decide (i = k) && decide (j ≤ m)))))) s):=
 .of_wp fun prog w A R s h=>by
  obtain ⟨hp,g,d,tk,os⟩:=s; obtain ⟨hl,hb,h⟩:=h
  have f2:=AutoSeq1.sub_tuple_tuple
  wp_walk using wpAny_loadPart' hl,wpAny_loadPart' hb,wpAny_forIn_list _ (fun rest b s'=>b.1 = none ∧ s' = ⟨hp,g,d,tk,os⟩ ∧ ((rest = [(.int i t1,.int k t3),(.int j t2,.int m t4)]) ∨ (i = k ∧ rest = [(.int j t2,.int m t4)]) ∨ (i = k ∧ j = m ∧ rest = []))) _
  case turn=>
   rintro ⟨y,x⟩ rest b s' ⟨hb',rfl,hz⟩
   rcases hz with hz | ⟨rfl,hz⟩ | ⟨_,_,hz⟩
   ·cases hz
    refine wpAny_bind (EqAt.int_int i t1 k t3 prog w _ _ ?_)
    by_cases e:i = k
    ·subst e
     rw [beq_self_eq_true]
     wp_walk
     exact ⟨rfl,rfl,.inr (.inl ⟨rfl,rfl⟩)⟩
    ·rw [beq_eq_false_iff_ne.mpr e]
     rw [if_pos (by rfl)]
     show wpAny _ _ (do rule "tuple.compare.by-the-first-pair-that-differs"; let r ← richCompare .LtE _ _; let r ← ret r; pure (ForInStep.done (some r,()))) _ _ _
     refine wpAny_bind (wpAny_rule (wpAny_bind (show wpAny _ _ (compareOp .LtE _ _) _ _ _ from PyProof.Rows.le_int ?_)))
     wp_walk
     refine ⟨_,rfl,?_⟩
     have:decide (i ≤ k) = (decide (i < k) || decide (i = k) && decide (j ≤ m)):=by
      by_cases q:i < k
      ·simp [q,Int.le_of_lt q]
      ·have:¬ i ≤ k:=by omega
       simp [q,e,this]
     rw [this]; exact h
   ·cases hz
    refine wpAny_bind (EqAt.int_int j t2 m t4 prog w _ _ ?_)
    by_cases e:j = m
    ·subst e
     rw [beq_self_eq_true]
     wp_walk
     exact ⟨rfl,rfl,.inr (.inr ⟨rfl,rfl,rfl⟩)⟩
    ·rw [beq_eq_false_iff_ne.mpr e]
     rw [if_pos (by rfl)]
     show wpAny _ _ (do rule "tuple.compare.by-the-first-pair-that-differs"; let r ← richCompare .LtE _ _; let r ← ret r; pure (ForInStep.done (some r,()))) _ _ _
     refine wpAny_bind (wpAny_rule (wpAny_bind (show wpAny _ _ (compareOp .LtE _ _) _ _ _ from PyProof.Rows.le_int ?_)))
     wp_walk
     exact ⟨_,rfl,by simpa using h⟩
   ·cases hz
  case fin=>
   rintro ⟨b1,b2⟩ s' ⟨hb',rfl,hz⟩
   simp only at hb'
   subst hb'
   rcases hz with hz | ⟨rfl,hz⟩ | ⟨rfl,rfl,hz⟩
   ·cases hz
   ·cases hz
   ·wp_walk
    exact ⟨_,rfl,by simpa [Builtin.Tuple.tupleCompareSizes] using h⟩
  case h=>
   exact ⟨rfl,rfl,.inl rfl⟩
theorem Zly {K:PySem.W.Frag} {H:Hp} {ι:List Addr} {i j:Int} {vs:List V} {its:List Value} (r:Zab K H ι [.int i,.int j] vs) (rv:Vals vs its):∃ t1 t2,its = [.int i t1,.int j t2]:=by
 obtain ⟨v1,vs1,rfl,q1,r⟩:=r.cons_inv
 obtain ⟨v2,vs2,rfl,q2,r⟩:=r.cons_inv
 have:=r.nil_inv
 subst this
 have e1:=q1.int_inv
 have e2:=q2.int_inv
 subst e1 e2
 cases rv with
 | cons a rv=>
  cases rv with
  | cons b rv=>
   cases rv
   obtain ⟨t1,rfl⟩:=a
   obtain ⟨t2,rfl⟩:=b
   exact ⟨t1,t2,rfl⟩
theorem ZrS {X:Cx} (hu:X.A.units + 80 < cLine):OpR X (compareOp .LtE) (r2 X.K Zlt):=by
 intro pins s σ H x y v u Q I rx ry ⟨ι,M,a,b,S,ra,rb,h⟩
 unfold Zlt at h
 split at h
 ·rename_i i j k l
  obtain ⟨p,vs,rfl,s1,r1⟩:=ra.tup_inv
  cases rx
  obtain ⟨p',ws,rfl,s2,r2⟩:=rb.tup_inv
  cases ry
  obtain ⟨its,rvs,ht,_⟩:=I.tuple s1
  obtain ⟨its2,rws,ht2,_⟩:=I.tuple s2
  obtain ⟨t1,t2,rfl⟩:=Zly r1 rvs
  obtain ⟨t3,t4,rfl⟩:=Zly r2 rws
  obtain ⟨⟨cls,dd,data,sl⟩,ho,hc,n,hd⟩:=ht
  obtain ⟨⟨cls2,dd2,data2,sl2⟩,ho2,hc2,n2,hd2⟩:=ht2
  simp only at hc hd hc2 hd2
  subst hc hd hc2 hd2
  exact richCompare_meets_room (op:=.LtE) ⟨_,ho,rfl⟩ ⟨_,ho2,rfl⟩ F.slot_tuple_le F.entry_tuple_le (F.args_tuple_le_2 _ _) (Zmv p p' i j k l t1 t2 t3 t4 n n2 dd dd2 sl sl2)
   ⟨ho,ho2,show Value.bool _ ≠ Value.notImplemented ∧ EP X pins σ Q (.bool _) s from ⟨(fun x=>nomatch x),⟨.bl _,H,I,rfl,h _ H ι Ext.refl S Rep.bl⟩⟩⟩ (by omega)
 ·exact h.elim
end L3
namespace L3
open PySem PySem.Spec PyProof.Rows L2
section
variable {X:Cx} {o i p j e:Expr} {pos:Pos} {f g h fo fi fp fj:E3}
end
end L3
namespace L3
open PySem PySem.Spec PyProof.Rows L2
section
variable {X:Cx}
end
end L3
namespace L3
open PySem PySem.Spec PyProof.Rows L2
section
variable {prog:Program} {w:World} {A:Around} {E:Value → Shared → Prop} {s:Shared}
end
section
variable {X:Cx} {e:Expr} {es:List Expr} {pos:Pos} {f:E3}
end
end L3
namespace L3
open PySem PySem.Spec PyProof.Rows L2
section
variable {X:Cx} {a b c:Expr} {p p2 pos pos2:Pos} {f g h:E3}
end
end L3
namespace L3
open PySem PySem.Spec PyProof.Rows L2
open AutoSeq1 (wpAny_loadPart')
set_option maxRecDepth 100000
section
variable {X:Cx} {o e:Expr} {es:List Expr} {apos cpos:Pos} {f:E3} {gl:EL3}
end
end L3
namespace L3
open PySem PySem.Spec PyProof.Rows L2
set_option maxRecDepth 100000
section
variable {X:Cx} {es:List Expr} {k:Nat} {a b:Expr} {p pos tpos:Pos} {f g:E3}
end
end L3
namespace L3
open PySem PySem.Spec PyProof.Rows L2
set_option maxRecDepth 100000
section
variable {X:Cx} {elt tg iter:Expr} {ifs:List Expr} {scope:Scope} {pos:Pos} {i:IL3} {own:Nat} {g:G3} {ts:List E3} {f:E3} {N':List Str}
end
end L3
namespace L3
open PySem PySem.W PyProof.Rows
section
variable {M:Model} {A:Around} {E:Value → Shared → Prop} {G:Shared → Prop}
noncomputable def TT (M:Model) (A:Around) (E:Value → Shared → Prop) (G:Shared → Prop) {α:Type} (m:StateT SortSt Sem α) (Q:α → SortSt → Prop) (st:SortSt):Prop:=∀ s,G s → kasC M A E m (fun a st' s'=>Q a st' ∧ G s') st s
theorem Zt {α:Type} {a:α} {Q:α → SortSt → Prop} {st:SortSt} (h:Q a st):TT M A E G (pure a:StateT SortSt Sem α) Q st:=fun _ g=>kasC_pure ⟨h,g⟩
theorem Zo {α β:Type} {m:StateT SortSt Sem α} {f:α → StateT SortSt Sem β} {Q:β → SortSt → Prop} {st:SortSt} (h:TT M A E G m (fun a st'=>TT M A E G (f a) Q st') st):TT M A E G (m >>= f) Q st:=fun s g=>
 kasC_bind (wpAny_mono (h s g) (fun r s' hr=>hr.1 s' hr.2) fun _ _ e=>e)
theorem ZaT {α:Type} {m:StateT SortSt Sem α} {Q Q':α → SortSt → Prop} {st:SortSt} (h:TT M A E G m Q st) (hq:∀ a st',Q a st' → Q' a st'):TT M A E G m Q' st:=fun s g=>wpAny_mono (h s g) (fun _ _ hr=>⟨hq _ _ hr.1,hr.2⟩) fun _ _ e=>e
theorem ZeC {Q:SortSt → SortSt → Prop} {st:SortSt} (h:Q st st):TT M A E G (get:StateT SortSt Sem SortSt) Q st:=fun _ g=>kasC_get ⟨h,g⟩
theorem ZbV {f:SortSt → SortSt} {Q:PUnit → SortSt → Prop} {st:SortSt} (h:Q ⟨⟩ (f st)):TT M A E G (modify f:StateT SortSt Sem PUnit) Q st:=fun _ g=>kasC_modify ⟨h,g⟩
theorem ZqX {x:SortSt} {Q:PUnit → SortSt → Prop} {st:SortSt} (h:Q ⟨⟩ x):TT M A E G (set x:StateT SortSt Sem PUnit) Q st:=fun s g=>by
 unfold kasC
 rw [StateT.run_set]
 exact wpAny_pure ⟨h,g⟩
theorem Ze7 {x:String} {Q:Unit → SortSt → Prop} {st:SortSt} (h:Q () st):TT M A E G (liftM (rule x):StateT SortSt Sem Unit) Q st:=fun _ g=>kasC_lift (wpAny_rule ⟨h,g⟩)
theorem ZlB {β:Type} (f:Nat → β → StateT SortSt Sem (ForInStep β)) (I:List Nat → β → SortSt → Prop) (Q:β → SortSt → Prop)
  (hs:∀ x rest b st,I (x :: rest) b st → TT M A E G (f x b) (fun r st'=>match r with | .done b'=>Q b' st' | .yield b'=>I rest b' st') st)
  (he:∀ b st,I [] b st → Q b st):∀ (l:List Nat) (b:β) (st:SortSt),I l b st → TT M A E G (forIn l b f) Q st
 | [],b,st,h=>by rw [List.forIn_nil]; exact Zt (he _ _ h)
 | x :: rest,b,st,h=>by
  rw [List.forIn_cons]
  refine Zo (ZaT (hs x rest b st h) fun r st' h'=>?_)
  cases r with
  | done b'=>exact Zt h'
  | yield b'=>exact ZlB f I Q hs he rest b' st' h'
theorem Zbf {β:Type} {a b:Nat} {f:Nat → β → StateT SortSt Sem (ForInStep β)} (I:Nat → β → SortSt → Prop) {Q:β → SortSt → Prop}
  (hs:∀ i c st,a ≤ i → i < b → I i c st → TT M A E G (f i c) (fun r st'=>match r with | .done c'=>Q c' st' | .yield c'=>I (i + 1) c' st') st)
  (he:∀ c st,I (max a b) c st → Q c st) {c:β} {st:SortSt} (h:I a c st):TT M A E G (forIn [a:b] c f) Q st:=by
 rw [Std.Legacy.Range.forIn_eq_forIn_range']
 have hsz:([a:b]:Std.Legacy.Range).size = b - a:=by simp [Std.Legacy.Range.size]
 show TT M A E G (forIn (List.range' a ([a:b]:Std.Legacy.Range).size 1) c f) Q st
 rw [hsz]
 refine ZlB f (fun l c st=>∃ i,a ≤ i ∧ i ≤ max a b ∧ l = List.range' i (max a b - i) 1 ∧ I i c st) Q ?_ ?_ _ c st ⟨a,Nat.le_refl _,by omega,by congr 1; omega,h⟩
 ·rintro x rest c st ⟨i,hai,hib,hl,hI⟩
  have hlt:i < max a b:=by
   rcases Nat.lt_or_ge i (max a b) with h' | h'
   ·exact h'
   ·rw [show max a b - i = 0 by omega] at hl; simp at hl
  obtain ⟨n,hn⟩:∃ n,max a b - i = n + 1:=⟨max a b - i - 1,by omega⟩
  rw [hn,List.range'_succ] at hl
  obtain ⟨rfl,rfl⟩:=List.cons.inj hl
  refine ZaT (hs x c st hai (by omega) hI) fun r st' h'=>?_
  cases r with
  | done c'=>exact h'
  | yield c'=>exact ⟨x + 1,by omega,by omega,by congr 1; omega,h'⟩
 ·rintro c st ⟨i,hai,hib,hl,hI⟩
  have:i = max a b:=by
   rcases Nat.lt_or_ge i (max a b) with h' | h'
   ·obtain ⟨n,hn⟩:∃ n,max a b - i = n + 1:=⟨max a b - i - 1,by omega⟩
    rw [hn,List.range'_succ] at hl; simp at hl
   ·omega
  subst this; exact he _ _ hI
theorem Za1 {arr:Array Keyed} {i:Nat} {x:Keyed} {Q:Keyed → SortSt → Prop} {st:SortSt} (hx:arr[i]? = some x) (h:Q x st):TT M A E G (elem' arr i) Q st:=by
 rw [elem'_eq,hx]; exact Zt h
end
structure Cmp (prog:Program) (w:World) (A:Around) (E:Value → Shared → Prop) (G:Shared → Prop) (κ:SortKind) (it:Array Keyed) (lt:Nat → Nat → Bool) (N:Nat):Prop where
 ok:ZfK lt
 ask:∀ i j (C:Bool → Shared → Prop) s,i < N → j < N → G s → (∀ s',G s' → C (lt i j) s') → kas_cmp prog w A κ it i j C s
section
variable {prog:Program} {w:World} {A:Around} {E:Value → Shared → Prop} {G:Shared → Prop} {κ:SortKind} {it:Array Keyed} {lt:Nat → Nat → Bool} {N:Nat}
theorem Zj9 (K:Cmp prog w A E G κ it lt N) {i j:Nat} {Q:Option Bool → SortSt → Prop} {st:SortSt} (hk:kindOf st = κ) (hi:i < N) (hj:j < N) (h:Q (some (lt i j)) st):TT (model prog w) A E G (lt' (kas_item it i) (kas_item it j)) Q st:=fun s g=>by
 rw [lt'_eq]
 refine kasC_bind (kasC_get ?_)
 rw [hk]
 refine kasC_bind (kasC_lift (wpAny_attempt (wpAny_mono (K.ask i j (fun c s'=>c = lt i j ∧ G s') s hi hj g fun s' g'=>⟨rfl,g'⟩) (fun c s' hc=>?_) fun _ _ hF=>hF.elim)))
 obtain ⟨rfl,g'⟩:=hc
 exact kasC_pure ⟨h,g'⟩
noncomputable abbrev Zad (it:Array Keyed) (l:List Nat):Array Keyed:=(l.map (kas_item it)).toArray
theorem ZaN {l:List Nat} {i x:Nat} (h:l[i]? = some x):(Zad it l)[i]? = some (kas_item it x):=by
 rw [Zad,List.getElem?_toArray,List.getElem?_map,h]; rfl
noncomputable def Srt (lt:Nat → Nat → Bool) (l:List Nat):Prop:=l.Pairwise fun x y=>lt y x = false
noncomputable def Ze6:Bool → Keyed → Array Keyed → Nat → Nat → Nat → StateT SortSt Sem (Option Nat):=sortPriv% PySem.Builtin.gallop
noncomputable def byd (left:Bool) (key:Keyed) (arr:Array Keyed) (base i:Nat):StateT SortSt Sem (Option Bool):=do
 let z ← elem' arr (base + i)
 if left = true then lt' z key else do
  let r ← lt' key z
  pure (Option.map (fun q=>!q) r)
noncomputable def Znw (left:Bool) (key:Keyed) (arr:Array Keyed) (base n lo hi:Nat):StateT SortSt Sem (Option Nat):=do
 let z ← forIn [:n] ((none,lo,hi):Option (Option Nat) × Nat × Nat) fun _ z=>
  if z.2.1 ≥ z.2.2 then pure (ForInStep.done (none,z.2.1,z.2.2)) else do
   let q ← byd left key arr base (z.2.1 + (z.2.2 - z.2.1) / 2)
   match q with
   | some u=>if u = true then pure (ForInStep.yield (none,z.2.1 + (z.2.2 - z.2.1) / 2 + 1,z.2.2)) else pure (ForInStep.yield (none,z.2.1,z.2.1 + (z.2.2 - z.2.1) / 2))
   | _=>pure (ForInStep.done (some none,z.2.1,z.2.2))
 match z.1 with
 | some r=>pure r
 | none=>pure (some z.2.2)
noncomputable def ZnW (left:Bool) (key:Keyed) (arr:Array Keyed) (base n:Nat) (place:Nat → Nat) (stop:Bool → Bool) (most:Nat) (k:Nat → Nat → StateT SortSt Sem (Option Nat)):StateT SortSt Sem (Option Nat):=do
 let z ← forIn [:n] ((none,0,1):Option (Option Nat) × Nat × Nat) fun _ z=>
  if z.2.2 ≥ most then pure (ForInStep.done (none,z.2.1,z.2.2)) else do
   let q ← byd left key arr base (place z.2.2)
   match q with
   | some u=>if stop u = true then pure (ForInStep.done (none,z.2.1,z.2.2)) else pure (ForInStep.yield (none,z.2.2,2 * z.2.2 + 1))
   | _=>pure (ForInStep.done (some none,z.2.1,z.2.2))
 match z.1 with
 | some r=>pure r
 | none=>k z.2.1 z.2.2
theorem Zmg (left:Bool) (key:Keyed) (arr:Array Keyed) (base n hint:Nat):Ze6 left key arr base n hint = (do
  let q ← byd left key arr base hint
  match q with
  | some r=>if r = true then ZnW left key arr base n (fun o=>hint + o) (fun u=>!u) (n - hint) (fun a b=>Znw left key arr base n (hint + a + 1) (hint + min b (n - hint))) else ZnW left key arr base n (fun o=>hint - o) (fun u=>u) (hint + 1) (fun a b=>Znw left key arr base n (hint + 1 - min b (hint + 1)) (hint - a))
  | _=>pure none):=by
 refine congrArg (bind (byd left key arr base hint)) (funext fun q=>?_)
 cases q with
 | none=>rfl
 | some r=>
  cases r with
  | true=>
   dsimp only
   first | rw [if_pos rfl,if_pos rfl] | rw [if_neg (by decide),if_neg (by decide)]
   unfold ZnW
   refine congr (congrArg bind ?_) (funext fun z=>?_)
   ·refine congrArg (forIn [:n] (none,0,1)) (funext fun i=>funext fun z=>?_)
    rfl
   ·obtain ⟨z1,z2,z3⟩:=z
    cases z1 with
    | some r=>rfl
    | none=>
     dsimp only
     unfold Znw
     refine congr (congrArg bind rfl) (funext fun z=>?_)
     obtain ⟨y1,y2,y3⟩:=z
     cases y1 <;> rfl
  | false=>
   dsimp only
   first | rw [if_pos rfl,if_pos rfl] | rw [if_neg (by decide),if_neg (by decide)]
   unfold ZnW
   refine congr (congrArg bind ?_) (funext fun z=>?_)
   ·refine congrArg (forIn [:n] (none,0,1)) (funext fun i=>funext fun z=>?_)
    rfl
   ·obtain ⟨z1,z2,z3⟩:=z
    cases z1 with
    | some r=>rfl
    | none=>
     dsimp only
     unfold Znw
     refine congr (congrArg bind rfl) (funext fun z=>?_)
     obtain ⟨y1,y2,y3⟩:=z
     cases y1 <;> rfl
section
variable {left:Bool} {key:Nat} {l:List Nat} {base n:Nat} {st:SortSt} {B:Nat → Bool}
structure Gal (prog:Program) (w:World) (A:Around) (E:Value → Shared → Prop) (G:Shared → Prop) (κ:SortKind) (it:Array Keyed) (lt:Nat → Nat → Bool) (N:Nat) (left:Bool) (key:Nat) (l:List Nat) (base n:Nat) (st:SortSt) (B:Nat → Bool):Prop where
 K:Cmp prog w A E G κ it lt N
 hk:kindOf st = κ
 hkey:key < N
 hl:∀ x ∈ l,x < N
 hn:base + n ≤ l.length
 hB:∀ i x,i < n → l[base + i]? = some x → B i = if left then lt x key else !lt key x
 mono:∀ i j,i ≤ j → j < n → B j = true → B i = true
theorem Gal.byd (g:Gal prog w A E G κ it lt N left key l base n st B) {i:Nat} {Q:Option Bool → SortSt → Prop} (hi:i < n) (hq:Q (some (B i)) st):TT (model prog w) A E G (L3.byd left (kas_item it key) (Zad it l) base i) Q st:=by
 have hn:=g.hn
 have hx:l[base + i]? = some (l[base + i]'(by omega)):=List.getElem?_eq_getElem _
 have hb:=g.hB i _ hi hx
 have hlt:=g.hl _ (List.mem_of_getElem? hx)
 refine Zo (Za1 (ZaN hx) ?_)
 generalize l[base + i]'(by omega) = x at hb hlt
 cases left with
 | true=>rw [if_pos rfl]; exact Zj9 g.K g.hk hlt g.hkey (by rw [if_pos rfl] at hb; rw [← hb]; exact hq)
 | false=>
  rw [if_neg (by decide)]
  exact Zo (Zj9 g.K g.hk g.hkey hlt (Zt (by rw [if_neg (by decide)] at hb; show Q (some (!lt key x)) st; rw [← hb]; exact hq)))
theorem Gal.bin (g:Gal prog w A E G κ it lt N left key l base n st B) {Q:Option Nat → SortSt → Prop} (h:∀ k,k ≤ n → (∀ i,i < k → B i = true) → (∀ i,k ≤ i → i < n → B i = false) → Q (some k) st) {lo hi:Nat} (h1:lo ≤ hi) (h2:hi ≤ n) (h3:∀ i,i < lo → B i = true) (h4:∀ i,hi ≤ i → i < n → B i = false):
  TT (model prog w) A E G (Znw left (kas_item it key) (Zad it l) base n lo hi) Q st:=by
 refine Zo (ZaT (Zbf (I:=fun x c st'=>st' = st ∧ ∃ lo hi,c = (none,lo,hi) ∧ lo ≤ hi ∧ hi ≤ n ∧ hi - lo ≤ n - x ∧ (∀ i,i < lo → B i = true) ∧ (∀ i,hi ≤ i → i < n → B i = false))
  (Q:=fun c st'=>st' = st ∧ ∃ hi,c.1 = none ∧ c.2.2 = hi ∧ hi ≤ n ∧ (∀ i,i < hi → B i = true) ∧ (∀ i,hi ≤ i → i < n → B i = false)) ?_ ?_ ⟨rfl,lo,hi,rfl,h1,h2,by omega,h3,h4⟩) ?_)
 ·rintro x c st' _ hx ⟨rfl,lo,hi,rfl,a1,a2,a3,a4,a5⟩
  dsimp only
  by_cases c0:lo ≥ hi
  ·rw [if_pos c0]
   have:lo = hi:=by omega
   subst this
   exact Zt ⟨rfl,lo,rfl,rfl,a2,a4,a5⟩
  ·rw [if_neg c0]
   refine Zo (g.byd (i:=lo + (hi - lo) / 2) (by omega) ?_)
   dsimp only
   cases hb:B (lo + (hi - lo) / 2) with
   | true=>
    rw [if_pos rfl]
    exact Zt ⟨rfl,_,_,rfl,by omega,a2,by omega,fun i hi'=>g.mono i _ (by omega) (by omega) hb,a5⟩
   | false=>
    rw [if_neg (by decide)]
    refine Zt ⟨rfl,_,_,rfl,by omega,by omega,by omega,a4,fun i hi1 hi2=>?_⟩
    cases hbi:B i with
    | false=>rfl
    | true=>rw [g.mono _ i hi1 hi2 hbi] at hb; cases hb
 ·rintro c st' ⟨rfl,lo,hi,rfl,a1,a2,a3,a4,a5⟩
  have:max 0 n = n:=by omega
  have:lo = hi:=by omega
  subst this
  exact ⟨rfl,lo,rfl,rfl,a2,a4,a5⟩
 ·rintro ⟨c1,c2,c3⟩ st' ⟨rfl,hi,rfl,rfl,a1,a2,a3⟩
  exact Zt (h _ a1 a2 a3)
theorem Gal.gallop (g:Gal prog w A E G κ it lt N left key l base n st B) {hint:Nat} {Q:Option Nat → SortSt → Prop} (hh:hint < n) (h:∀ k,k ≤ n → (∀ i,i < k → B i = true) → (∀ i,k ≤ i → i < n → B i = false) → Q (some k) st):
  TT (model prog w) A E G (Ze6 left (kas_item it key) (Zad it l) base n hint) Q st:=by
 rw [Zmg]
 refine Zo (g.byd hh ?_)
 dsimp only
 cases hb:B hint with
 | true=>
  rw [if_pos rfl]
  refine Zo (ZaT (Zbf (I:=fun x c st'=>st' = st ∧ ∃ a b,c = (none,a,b) ∧ a < b ∧ x + 1 ≤ b ∧ hint + a < n ∧ B (hint + a) = true)
   (Q:=fun c st'=>st' = st ∧ ∃ a b,c = (none,a,b) ∧ a < b ∧ hint + a < n ∧ B (hint + a) = true ∧ (n - hint ≤ b ∨ (hint + b < n ∧ B (hint + b) = false))) ?_ ?_ ⟨rfl,0,1,rfl,by omega,by omega,by omega,hb⟩) ?_)
  ·rintro x c st' _ hx ⟨rfl,a,b,rfl,a1,a2,a3,a4⟩
   dsimp only
   by_cases c0:b ≥ n - hint
   ·rw [if_pos c0]
    exact Zt ⟨rfl,a,b,rfl,a1,a3,a4,.inl c0⟩
   ·rw [if_neg c0]
    refine Zo (g.byd (i:=hint + b) (by omega) ?_)
    dsimp only
    cases hb2:B (hint + b) with
    | true=>
     rw [if_neg (by decide)]
     exact Zt ⟨rfl,b,2 * b + 1,rfl,by omega,by omega,by omega,hb2⟩
    | false=>
     rw [if_pos (by decide)]
     exact Zt ⟨rfl,a,b,rfl,a1,a3,a4,.inr ⟨by omega,hb2⟩⟩
  ·rintro c st' ⟨rfl,a,b,rfl,a1,a2,a3,a4⟩
   have:max 0 n = n:=by omega
   exact ⟨rfl,a,b,rfl,a1,a3,a4,.inl (by omega)⟩
  ·rintro c st' ⟨rfl,a,b,rfl,a1,a3,a4,a5⟩
   dsimp only
   refine g.bin h (by omega) (by omega) (fun i hi=>g.mono i _ (by omega) a3 a4) fun i h1 h2=>?_
   rcases a5 with q | ⟨q1,q2⟩
   ·omega
   ·cases hbi:B i with
    | false=>rfl
    | true=>rw [g.mono (hint + b) i (by omega) h2 hbi] at q2; cases q2
 | false=>
  rw [if_neg (by decide)]
  refine Zo (ZaT (Zbf (I:=fun x c st'=>st' = st ∧ ∃ a b,c = (none,a,b) ∧ a < b ∧ x + 1 ≤ b ∧ a ≤ hint ∧ B (hint - a) = false)
   (Q:=fun c st'=>st' = st ∧ ∃ a b,c = (none,a,b) ∧ a < b ∧ a ≤ hint ∧ B (hint - a) = false ∧ (hint + 1 ≤ b ∨ (b ≤ hint ∧ B (hint - b) = true))) ?_ ?_ ⟨rfl,0,1,rfl,by omega,by omega,by omega,hb⟩) ?_)
  ·rintro x c st' _ hx ⟨rfl,a,b,rfl,a1,a2,a3,a4⟩
   dsimp only
   by_cases c0:b ≥ hint + 1
   ·rw [if_pos c0]
    exact Zt ⟨rfl,a,b,rfl,a1,a3,a4,.inl c0⟩
   ·rw [if_neg c0]
    refine Zo (g.byd (i:=hint - b) (by omega) ?_)
    dsimp only
    cases hb2:B (hint - b) with
    | true=>
     rw [if_pos rfl]
     exact Zt ⟨rfl,a,b,rfl,a1,a3,a4,.inr ⟨by omega,hb2⟩⟩
    | false=>
     rw [if_neg (by decide)]
     exact Zt ⟨rfl,b,2 * b + 1,rfl,by omega,by omega,by omega,hb2⟩
  ·rintro c st' ⟨rfl,a,b,rfl,a1,a2,a3,a4⟩
   have:max 0 n = n:=by omega
   exact ⟨rfl,a,b,rfl,a1,a3,a4,.inl (by omega)⟩
  ·rintro c st' ⟨rfl,a,b,rfl,a1,a3,a4,a5⟩
   dsimp only
   refine g.bin h (by omega) (by omega) (fun i hi=>?_) fun i h1 h2=>?_
   ·rcases a5 with q | ⟨q1,q2⟩
    ·omega
    ·exact g.mono i (hint - b) (by omega) (by omega) q2
   ·cases hbi:B i with
    | false=>rfl
    | true=>rw [g.mono (hint - a) i h1 h2 hbi] at a4; cases a4
end
end
end L3
namespace L3
open PySem PySem.W PyProof.Rows
section
variable {lt:Nat → Nat → Bool}
structure W (lt:Nat → Nat → Bool) (la lb out:List Nat) (ia ib:Nat):Prop where
 p:out.Perm (la.take ia ++ lb.take ib)
 s:Srt lt out
 a:∀ x ∈ out,∀ y ∈ la.drop ia,lt y x = false
 b:∀ x ∈ out,∀ y ∈ lb.drop ib,lt y x = false
 ha:ia ≤ la.length
 hb:ib ≤ lb.length
noncomputable def RR (lt:Nat → Nat → Bool) (la lb r:List Nat):Prop:=r.Perm (la ++ lb) ∧ Srt lt r
theorem RR.swap {la lb r:List Nat} (h:RR lt la lb r):RR lt lb la r:=⟨h.1.trans List.perm_append_comm,h.2⟩
theorem W.swap {la lb out:List Nat} {ia ib:Nat} (w:W lt la lb out ia ib):W lt lb la out ib ia:=⟨w.p.trans List.perm_append_comm,w.s,w.b,w.a,w.hb,w.ha⟩
theorem W.takeA {la lb out:List Nat} {ia ib x:Nat} (sa:Srt lt la) (w:W lt la lb out ia ib) (hx:la[ia]? = some x) (h:∀ y ∈ lb.drop ib,lt y x = false):W lt la lb (out ++ [x]) (ia + 1) ib:=by
 obtain ⟨hl,e⟩:=List.getElem?_eq_some_iff.mp hx
 have d:la.drop ia = x :: la.drop (ia + 1):=by rw [List.drop_eq_getElem_cons hl,e]
 have tk:la.take (ia + 1) = la.take ia ++ [x]:=by rw [List.take_add_one,hx]; rfl
 have sd:(x :: la.drop (ia + 1)).Pairwise fun x y=>lt y x = false:=by rw [← d]; exact List.Pairwise.sublist (List.drop_sublist _ _) sa
 refine ⟨?_,?_,fun u hu y hy=>?_,fun u hu y hy=>?_,hl,w.hb⟩
 ·rw [tk,List.append_assoc]
  exact (w.p.append_right [x]).trans (by rw [List.append_assoc]; exact List.Perm.append_left _ List.perm_append_comm)
 ·refine List.pairwise_append.mpr ⟨w.s,by simp,fun u hu y hy=>?_⟩
  rw [List.mem_singleton] at hy
  rw [hy]
  exact w.a u hu x (by rw [d]; exact List.mem_cons_self)
 ·rcases List.mem_append.mp hu with hu | hu
  ·exact w.a u hu y (by rw [d]; exact List.mem_cons_of_mem _ hy)
  ·rw [List.mem_singleton] at hu; rw [hu]; exact (List.pairwise_cons.mp sd).1 y hy
 ·rcases List.mem_append.mp hu with hu | hu
  ·exact w.b u hu y hy
  ·rw [List.mem_singleton] at hu; rw [hu]; exact h y hy
theorem W.takeAs {la lb out:List Nat} {ia ib:Nat} (sa:Srt lt la) (w:W lt la lb out ia ib):∀ k,ia + k ≤ la.length → (∀ i x,i < k → la[ia + i]? = some x → ∀ y ∈ lb.drop ib,lt y x = false) → W lt la lb (out ++ (la.drop ia).take k) (ia + k) ib
 | 0,_,_=>by simpa using w
 | k + 1,hk,h=>by
  have ih:=W.takeAs sa w k (by omega) fun i x hi=>h i x (by omega)
  have hx:la[ia + k]? = some (la[ia + k]'(by omega)):=List.getElem?_eq_getElem _
  have:=ih.takeA sa hx (h k _ (by omega) hx)
  have e:(la.drop ia).take (k + 1) = (la.drop ia).take k ++ [la[ia + k]'(by omega)]:=by
   rw [List.take_add_one,List.getElem?_drop,hx]; rfl
  rw [e,← List.append_assoc]
  exact this
theorem W.takeB {la lb out:List Nat} {ia ib x:Nat} (sb:Srt lt lb) (w:W lt la lb out ia ib) (hx:lb[ib]? = some x) (h:∀ y ∈ la.drop ia,lt y x = false):W lt la lb (out ++ [x]) ia (ib + 1):=(w.swap.takeA sb hx h).swap
theorem W.takeBs {la lb out:List Nat} {ia ib:Nat} (sb:Srt lt lb) (w:W lt la lb out ia ib) (k:Nat) (hk:ib + k ≤ lb.length) (h:∀ i x,i < k → lb[ib + i]? = some x → ∀ y ∈ la.drop ia,lt y x = false):W lt la lb (out ++ (lb.drop ib).take k) ia (ib + k):=(w.swap.takeAs sb k hk h).swap
theorem W.doneB {la lb out:List Nat} {ia ib:Nat} (sa:Srt lt la) (w:W lt la lb out ia ib) (h:ib = lb.length):RR lt la lb (out ++ la.drop ia ++ lb.drop ib):=by
 subst h
 rw [List.drop_length,List.append_nil]
 have p:=w.p
 rw [List.take_length] at p
 refine ⟨(p.append_right _).trans ?_,List.pairwise_append.mpr ⟨w.s,List.Pairwise.sublist (List.drop_sublist _ _) sa,w.a⟩⟩
 rw [List.append_assoc]
 refine (List.Perm.append_left _ List.perm_append_comm).trans ?_
 rw [← List.append_assoc,List.take_append_drop]
theorem W.doneA {la lb out:List Nat} {ia ib:Nat} (sb:Srt lt lb) (w:W lt la lb out ia ib) (h:ia = la.length):RR lt la lb (out ++ la.drop ia ++ lb.drop ib):=by
 have:=w.swap.doneB sb h
 subst h
 rw [List.drop_length,List.append_nil] at this ⊢
 exact this.swap
theorem W.last {la lb out:List Nat} {ia ib x:Nat} (sb:Srt lt lb) (w:W lt la lb out ia ib) (h:ia + 1 = la.length) (hx:la[ia]? = some x) (hm:∀ y ∈ lb,lt x y = false):RR lt la lb (out ++ lb.drop ib ++ la.drop ia):=by
 obtain ⟨hl,e⟩:=List.getElem?_eq_some_iff.mp hx
 have d:la.drop ia = [x]:=by rw [List.drop_eq_getElem_cons hl,e,h,List.drop_length]
 have p:=w.p
 refine ⟨?_,?_⟩
 ·refine ((p.append_right _).append_right _).trans ?_
  rw [List.append_assoc (la.take ia),List.take_append_drop,List.append_assoc]
  refine (List.Perm.append_left _ List.perm_append_comm).trans ?_
  rw [← List.append_assoc,List.take_append_drop]
 ·refine List.pairwise_append.mpr ⟨List.pairwise_append.mpr ⟨w.s,List.Pairwise.sublist (List.drop_sublist _ _) sb,w.b⟩,by rw [d]; simp,fun u hu y hy=>?_⟩
  rw [d,List.mem_singleton] at hy
  rw [hy]
  rcases List.mem_append.mp hu with hu | hu
  ·exact w.a u hu x (by rw [d]; simp)
  ·exact hm u (List.mem_of_mem_drop hu)
end
section
variable {prog:Program} {w:World} {A:Around} {E:Value → Shared → Prop} {G:Shared → Prop} {κ:SortKind} {it:Array Keyed} {lt:Nat → Nat → Bool} {N:Nat}
theorem Zz (l:List Nat):(Zad it l).size = l.length:=by simp [Zad]
theorem Zby (l:List Nat) (i:Nat):(Zad it l).extract i l.length = Zad it (l.drop i):=by
 apply Array.toList_inj.mp
 simp only [Zad,List.extract_toArray,List.extract_eq_take_drop,← List.map_drop,← List.map_take]
 rw [List.take_of_length_le (by simp)]
theorem Zh9 (l:List Nat) (i k:Nat):(Zad it l).extract i (i + k) = Zad it ((l.drop i).take k):=by
 apply Array.toList_inj.mp
 simp [Zad,List.map_drop,List.extract_eq_take_drop,List.map_take]
theorem ZaH (l m:List Nat):Zad it l ++ Zad it m = Zad it (l ++ m):=by simp [Zad]
theorem ZcL (l:List Nat) (x:Nat):(Zad it l).push (kas_item it x) = Zad it (l ++ [x]):=by simp [Zad]
noncomputable def ZaG (st st':SortSt):Prop:=∃ g,st' = SortSt.mk' (kindOf st) (arrOf st) (pendingOf st) g (failedOf st)
theorem ZaG.refl (st:SortSt):ZaG st st:=⟨gallopOf st,rfl⟩
theorem ZaG.kind {st st':SortSt} (h:ZaG st st'):kindOf st' = kindOf st:=by obtain ⟨g,rfl⟩:=h; rfl
theorem ZaG.gal {st st':SortSt} (h:ZaG st st') (g:Nat):ZaG st (SortSt.mk' (kindOf st') (arrOf st') (pendingOf st') g (failedOf st')):=by obtain ⟨g',rfl⟩:=h; exact ⟨g,rfl⟩
noncomputable def Zjz:Array Keyed → Array Keyed → StateT SortSt Sem (Array Keyed):=sortPriv% PySem.Builtin.mergeLo
structure Two (lt:Nat → Nat → Bool) (N:Nat) (la lb:List Nat):Prop where
 sa:Srt lt la
 sb:Srt lt lb
 na:∀ x ∈ la,x < N
 nb:∀ x ∈ lb,x < N
theorem ZaC {M:Model} {α:Type} {c:Prop} [Decidable c] {m1 m2:StateT SortSt Sem α} {Q:α → SortSt → Prop} {st:SortSt} (h1:c → TT M A E G m1 Q st) (h2:¬ c → TT M A E G m2 Q st):TT M A E G (if c then m1 else m2) Q st:=by
 split
 ·exact h1 ‹_›
 ·exact h2 ‹_›
structure Mid (lt:Nat → Nat → Bool) (la lb:List Nat) (n:Nat) (out:List Nat) (ia ib:Nat):Prop where
 w:W lt la lb out ia ib
 a:ia + 1 < la.length
 b:ib < lb.length
 n:n ≤ ia + ib
noncomputable def DD (lt:Nat → Nat → Bool) (it:Array Keyed) (la lb:List Nat) (n:Nat) (r:Option (Array Keyed)) (o:Array Keyed) (ia ib:Nat):Prop:=(∃ l,r = some (Zad it l) ∧ RR lt la lb l) ∨ (r = none ∧ ∃ out,o = Zad it out ∧ Mid lt la lb n out ia ib)
noncomputable def YY (lt:Nat → Nat → Bool) (it:Array Keyed) (la lb:List Nat) (n:Nat) (r:Option (Array Keyed)) (o:Array Keyed) (ia ib:Nat):Prop:=r = none ∧ ∃ out,o = Zad it out ∧ Mid lt la lb n out ia ib
noncomputable abbrev St6:=Option (Array Keyed) × Array Keyed × Nat × Nat × Nat × Nat
noncomputable abbrev St7:=Option (Array Keyed) × Array Keyed × Nat × Nat × Nat × Nat × Nat
noncomputable def okD {α:Type} (lt:Nat → Nat → Bool) (it:Array Keyed) (la lb:List Nat) (n:Nat) (st:SortSt) (r:ForInStep (Option (Array Keyed) × Array Keyed × Nat × Nat × α)) (st':SortSt):Prop:=ZaG st st' ∧ match r with
 | .done c=>DD lt it la lb n c.1 c.2.1 c.2.2.1 c.2.2.2.1
 | .yield c=>YY lt it la lb n c.1 c.2.1 c.2.2.1 c.2.2.2.1
structure Lo (prog:Program) (w:World) (A:Around) (E:Value → Shared → Prop) (G:Shared → Prop) (κ:SortKind) (it:Array Keyed) (lt:Nat → Nat → Bool) (N:Nat) (la lb:List Nat) (st:SortSt):Prop where
 K:Cmp prog w A E G κ it lt N
 T:Two lt N la lb
 hm:∀ x,la[la.length - 1]? = some x → ∀ y ∈ lb,lt x y = false
 hk:kindOf st = κ
section
variable {la lb:List Nat} {st st':SortSt} {n:Nat} {out:List Nat} {ia ib:Nat}
theorem Srt.from {l:List Nat} (s:Srt lt l) (o:ZfK lt) {i x y:Nat} (hx:l[i]? = some x) (h:lt x y = false):∀ z ∈ l.drop i,lt z y = false:=fun z hz=>by
 obtain ⟨hl,e⟩:=List.getElem?_eq_some_iff.mp hx
 rw [List.drop_eq_getElem_cons hl,e] at hz
 rcases List.mem_cons.mp hz with rfl | hz
 ·exact h
 ·have sd:(x :: l.drop (i + 1)).Pairwise fun x y=>lt y x = false:=by
   have:=List.Pairwise.sublist (List.drop_sublist i _) s
   rw [List.drop_eq_getElem_cons hl,e] at this
   exact this
  exact o.tr h ((List.pairwise_cons.mp sd).1 z hz)
noncomputable def loA (a b:Array Keyed) (mg:Nat) (z:St6):StateT SortSt Sem (ForInStep St6):=
 elem' b z.2.2.2.1 >>= fun u=>elem' a z.2.2.1 >>= fun v=>lt' u v >>= fun q=>match q with
 | some y=>if y = true then elem' b z.2.2.2.1 >>= fun u=>
    (if (z.2.2.2.1 + 1 == b.size) = true then pure (ForInStep.done (some (z.2.1.push u ++ a.extract z.2.2.1 a.size ++ b.extract (z.2.2.2.1 + 1) b.size),z.2.1.push u,z.2.2.1,z.2.2.2.1 + 1,0,z.2.2.2.2.2 + 1))
     else if z.2.2.2.2.2 + 1 ≥ mg then pure (ForInStep.done (none,z.2.1.push u,z.2.2.1,z.2.2.2.1 + 1,0,z.2.2.2.2.2 + 1)) else pure (ForInStep.yield (none,z.2.1.push u,z.2.2.1,z.2.2.2.1 + 1,0,z.2.2.2.2.2 + 1)))
   else elem' a z.2.2.1 >>= fun u=>
    (if (z.2.2.1 + 1 + 1 == a.size) = true then pure (ForInStep.done (some (z.2.1.push u ++ b.extract z.2.2.2.1 b.size ++ a.extract (z.2.2.1 + 1) a.size),z.2.1.push u,z.2.2.1 + 1,z.2.2.2.1,z.2.2.2.2.1 + 1,0))
     else if z.2.2.2.2.1 + 1 ≥ mg then pure (ForInStep.done (none,z.2.1.push u,z.2.2.1 + 1,z.2.2.2.1,z.2.2.2.2.1 + 1,0)) else pure (ForInStep.yield (none,z.2.1.push u,z.2.2.1 + 1,z.2.2.2.1,z.2.2.2.2.1 + 1,0)))
 | _=>pure (ForInStep.done (some (z.2.1 ++ a.extract z.2.2.1 a.size ++ b.extract z.2.2.2.1 b.size),z.2.1,z.2.2.1,z.2.2.2.1,z.2.2.2.2.1,z.2.2.2.2.2))
theorem ZpM (L:Lo prog w A E G κ it lt N la lb st) (hs:ZaG st st') (m:Mid lt la lb n out ia ib) (mg ac bc:Nat):TT (model prog w) A E G (loA (Zad it la) (Zad it lb) mg (none,Zad it out,ia,ib,ac,bc)) (okD lt it la lb (n + 1) st) st':=by
 have hk:kindOf st' = κ:=hs.kind.trans L.hk
 have ma:=m.a
 have mb:=m.b
 have mn:=m.n
 have hx:la[ia]? = some (la[ia]'(by omega)):=List.getElem?_eq_getElem _
 have hy:lb[ib]? = some (lb[ib]'mb):=List.getElem?_eq_getElem _
 generalize la[ia]'(by omega) = x at hx
 generalize lb[ib]'mb = y at hy
 have xN:=L.T.na x (List.mem_of_getElem? hx)
 have yN:=L.T.nb y (List.mem_of_getElem? hy)
 refine Zo (Za1 (ZaN hy) (Zo (Za1 (ZaN hx) (Zo (Zj9 L.K hk yN xN ?_)))))
 cases c:lt y x with
 | true=>
  have w1:W lt la lb (out ++ [y]) ia (ib + 1):=m.w.takeB L.T.sb hy (L.T.sa.from L.K.ok hx (L.K.ok.asym c))
  show TT _ _ _ _ (if true = true then _ else _) _ _
  rw [if_pos rfl]
  refine Zo (Za1 (ZaN hy) ?_)
  show TT _ _ _ _ (if ((ib + 1 == (Zad it lb).size) = true) then _ else _) _ _
  rw [ZcL,Zz,Zz,Zby,Zby,ZaH,ZaH]
  refine ZaC (fun q=>Zt ⟨hs,.inl ⟨_,rfl,w1.doneB L.T.sa (by simpa using q)⟩⟩) fun q=>?_
  have q':ib + 1 < lb.length:=by
   have:¬ ib + 1 = lb.length:=by simpa using q
   omega
  have p1:n + 1 ≤ ia + (ib + 1):=by omega
  exact ZaC (fun _=>Zt ⟨hs,.inr ⟨rfl,_,rfl,w1,ma,q',p1⟩⟩) fun _=>Zt ⟨hs,rfl,_,rfl,w1,ma,q',p1⟩
 | false=>
  have w1:W lt la lb (out ++ [x]) (ia + 1) ib:=m.w.takeA L.T.sa hx (L.T.sb.from L.K.ok hy c)
  show TT _ _ _ _ (if false = true then _ else _) _ _
  rw [if_neg (by decide)]
  refine Zo (Za1 (ZaN hx) ?_)
  show TT _ _ _ _ (if ((ia + 1 + 1 == (Zad it la).size) = true) then _ else _) _ _
  rw [ZcL,Zz,Zz,Zby,Zby,ZaH,ZaH]
  refine ZaC (fun q=>?_) fun q=>?_
  ·have q':ia + 1 + 1 = la.length:=by simpa using q
   have hz:la[ia + 1]? = some (la[ia + 1]'(by omega)):=List.getElem?_eq_getElem _
   exact Zt ⟨hs,.inl ⟨_,rfl,w1.last L.T.sb q' hz (L.hm _ (by rw [show la.length - 1 = ia + 1 by omega]; exact hz))⟩⟩
  ·have q':ia + 1 + 1 < la.length:=by
    have:¬ ia + 1 + 1 = la.length:=by simpa using q
    omega
   have p1:n + 1 ≤ ia + 1 + ib:=by omega
   exact ZaC (fun _=>Zt ⟨hs,.inr ⟨rfl,_,rfl,w1,q',mb,p1⟩⟩) fun _=>Zt ⟨hs,rfl,_,rfl,w1,q',mb,p1⟩
noncomputable def ZqN (a b:Array Keyed) (mg ac bc:Nat) (o:Array Keyed) (ia ib:Nat):StateT SortSt Sem (ForInStep St7):=
 elem' a ia >>= fun u=>if (ia + 1 + 1 == a.size) = true then pure (ForInStep.done (some (o.push u ++ b.extract ib b.size ++ a.extract (ia + 1) a.size),o.push u,ia + 1,ib,mg,ac,bc))
  else if (decide (ac < 7) && decide (bc < 7)) = true then pure (ForInStep.done (none,o.push u,ia + 1,ib,mg,ac,bc)) else pure (ForInStep.yield (none,o.push u,ia + 1,ib,mg,ac,bc))
noncomputable def ZqH (a b:Array Keyed) (mg ac bc:Nat) (o:Array Keyed) (ia ib:Nat):StateT SortSt Sem (ForInStep St7):=
 elem' b ib >>= fun u=>if (ib + 1 == b.size) = true then pure (ForInStep.done (some (o.push u ++ a.extract ia a.size ++ b.extract (ib + 1) b.size),o.push u,ia,ib + 1,mg,ac,bc))
  else elem' a ia >>= fun v=>Ze6 true v b (ib + 1) (b.size - (ib + 1)) 0 >>= fun q=>match q with
   | some k=>if k > 0 then (if (ib + 1 + k == b.size) = true then pure (ForInStep.done (some (o.push u ++ b.extract (ib + 1) (ib + 1 + k) ++ a.extract ia a.size ++ b.extract (ib + 1 + k) b.size),o.push u ++ b.extract (ib + 1) (ib + 1 + k),ia,ib + 1 + k,mg,ac,k))
     else ZqN a b mg ac k (o.push u ++ b.extract (ib + 1) (ib + 1 + k)) ia (ib + 1 + k)) else ZqN a b mg ac k (o.push u) ia (ib + 1)
   | _=>pure (ForInStep.done (some (o.push u ++ a.extract ia a.size ++ b.extract (ib + 1) b.size),o.push u,ia,ib + 1,mg,ac,bc))
noncomputable def setG:Nat → StateT SortSt Sem Unit:=sortPriv% PySem.Builtin.setMinGallop
noncomputable def loC (a b:Array Keyed) (mg:Nat) (z:St7):StateT SortSt Sem (ForInStep St7):=
 setG mg >>= fun _=>elem' b z.2.2.2.1 >>= fun u=>Ze6 false u a z.2.2.1 (a.size - z.2.2.1) 0 >>= fun q=>match q with
  | some k=>if k > 0 then (if (z.2.2.1 + k + 1 == a.size) = true then pure (ForInStep.done (some (z.2.1 ++ a.extract z.2.2.1 (z.2.2.1 + k) ++ b.extract z.2.2.2.1 b.size ++ a.extract (z.2.2.1 + k) a.size),z.2.1 ++ a.extract z.2.2.1 (z.2.2.1 + k),z.2.2.1 + k,z.2.2.2.1,mg,k,z.2.2.2.2.2.2))
    else if (z.2.2.1 + k == a.size) = true then pure (ForInStep.done (some (z.2.1 ++ a.extract z.2.2.1 (z.2.2.1 + k) ++ a.extract (z.2.2.1 + k) a.size ++ b.extract z.2.2.2.1 b.size),z.2.1 ++ a.extract z.2.2.1 (z.2.2.1 + k),z.2.2.1 + k,z.2.2.2.1,mg,k,z.2.2.2.2.2.2))
    else ZqH a b mg k z.2.2.2.2.2.2 (z.2.1 ++ a.extract z.2.2.1 (z.2.2.1 + k)) (z.2.2.1 + k) z.2.2.2.1) else ZqH a b mg k z.2.2.2.2.2.2 z.2.1 z.2.2.1 z.2.2.2.1
  | _=>pure (ForInStep.done (some (z.2.1 ++ a.extract z.2.2.1 a.size ++ b.extract z.2.2.2.1 b.size),z.2.1,z.2.2.1,z.2.2.2.1,mg,z.2.2.2.2.2.1,z.2.2.2.2.2.2))
theorem Zlp (L:Lo prog w A E G κ it lt N la lb st) (hs:ZaG st st') (m:Mid lt la lb n out ia ib) {x:Nat} (hx:la[ia]? = some x) (hq:∀ y ∈ lb.drop ib,lt y x = false) (mg ac bc:Nat):TT (model prog w) A E G (ZqN (Zad it la) (Zad it lb) mg ac bc (Zad it out) ia ib) (okD lt it la lb n st) st':=by
 have ma:=m.a
 have mn:=m.n
 have w1:W lt la lb (out ++ [x]) (ia + 1) ib:=m.w.takeA L.T.sa hx hq
 refine Zo (Za1 (ZaN hx) ?_)
 rw [ZcL,Zz,Zz,Zby,Zby,ZaH,ZaH]
 refine ZaC (fun q=>?_) fun q=>?_
 ·have q':ia + 1 + 1 = la.length:=by simpa using q
  have hz:la[ia + 1]? = some (la[ia + 1]'(by omega)):=List.getElem?_eq_getElem _
  exact Zt ⟨hs,.inl ⟨_,rfl,w1.last L.T.sb q' hz (L.hm _ (by rw [show la.length - 1 = ia + 1 by omega]; exact hz))⟩⟩
 ·have q':ia + 1 + 1 < la.length:=by
   have:¬ ia + 1 + 1 = la.length:=by simpa using q
   omega
  have p1:n ≤ ia + 1 + ib:=by omega
  exact ZaC (fun _=>Zt ⟨hs,.inr ⟨rfl,_,rfl,w1,q',m.b,p1⟩⟩) fun _=>Zt ⟨hs,rfl,_,rfl,w1,q',m.b,p1⟩
theorem Zli (L:Lo prog w A E G κ it lt N la lb st) (hs:ZaG st st') (m:Mid lt la lb n out ia ib) {y:Nat} (hy:lb[ib]? = some y) (hq:∀ z ∈ la.drop ia,lt z y = false) (mg ac bc:Nat):TT (model prog w) A E G (ZqH (Zad it la) (Zad it lb) mg ac bc (Zad it out) ia ib) (okD lt it la lb n st) st':=by
 have hk:kindOf st' = κ:=hs.kind.trans L.hk
 have ma:=m.a
 have mb:=m.b
 have mn:=m.n
 have w1:W lt la lb (out ++ [y]) ia (ib + 1):=m.w.takeB L.T.sb hy hq
 refine Zo (Za1 (ZaN hy) ?_)
 rw [ZcL,Zz,Zz,Zby,Zby,ZaH,ZaH]
 refine ZaC (fun q=>Zt ⟨hs,.inl ⟨_,rfl,w1.doneB L.T.sa (by simpa using q)⟩⟩) fun q=>?_
 have q':ib + 1 < lb.length:=by
  have:¬ ib + 1 = lb.length:=by simpa using q
  omega
 have hx:la[ia]? = some (la[ia]'(by omega)):=List.getElem?_eq_getElem _
 generalize la[ia]'(by omega) = x at hx
 have xN:=L.T.na x (List.mem_of_getElem? hx)
 have o:=L.K.ok
 refine Zo (Za1 (ZaN hx) (Zo ?_))
 have at_:∀ i,i < lb.length - (ib + 1) → lb[ib + 1 + i]? = some (lb.getD (ib + 1 + i) 0):=fun i hi=>by
  rw [List.getD_eq_getElem?_getD,List.getElem?_eq_getElem (by omega)]; rfl
 have g:Gal prog w A E G κ it lt N true x lb (ib + 1) (lb.length - (ib + 1)) st' (fun i=>lt (lb.getD (ib + 1 + i) 0) x):=⟨L.K,hk,xN,L.T.nb,by omega,fun i z hi hz=>by
   rw [at_ i hi] at hz; cases hz; rfl,fun i j hij hj hb=>by
   have s:lt (lb.getD (ib + 1 + j) 0) (lb.getD (ib + 1 + i) 0) = false:=by
    rcases Nat.lt_or_eq_of_le hij with c | c
    ·have:=List.pairwise_iff_getElem.mp L.T.sb (ib + 1 + i) (ib + 1 + j) (by omega) (by omega) (by omega)
     have e1:=at_ i (by omega)
     have e2:=at_ j hj
     rw [List.getElem?_eq_getElem (by omega)] at e1 e2
     rw [← Option.some.inj e1,← Option.some.inj e2]; exact this
    ·rw [c]; exact o.rf _
   cases c:lt (lb.getD (ib + 1 + i) 0) x with
   | true=>rfl
   | false=>rw [o.tr c s] at hb; cases hb⟩
 refine g.gallop (by omega) fun k kn kt kf=>?_
 have w2:W lt la lb (out ++ [y] ++ (lb.drop (ib + 1)).take k) ia (ib + 1 + k):=w1.takeBs L.T.sb k (by omega) fun i z hi hz u hu=>by
  have:=kt i hi
  rw [at_ i (by omega)] at hz
  cases hz
  exact L.T.sa.from o hx (o.asym this) u hu
 have nx:ib + 1 + k < lb.length → ∀ u ∈ lb.drop (ib + 1 + k),lt u x = false:=fun hlt=>L.T.sb.from o (at_ k (by omega)) (kf k (Nat.le_refl _) (by omega))
 show TT _ _ _ _ (if k > 0 then _ else _) _ _
 refine ZaC (fun k0=>?_) fun k0=>?_
 ·rw [Zh9,ZaH,Zby,ZaH,ZaH]
  refine ZaC (fun q2=>Zt ⟨hs,.inl ⟨_,rfl,w2.doneB L.T.sa (by simpa using q2)⟩⟩) fun q2=>?_
  have q3:ib + 1 + k < lb.length:=by
   have:¬ ib + 1 + k = lb.length:=by simpa using q2
   omega
  exact Zlp L hs ⟨w2,ma,q3,by omega⟩ hx (nx q3) mg ac k
 ·have:k = 0:=by omega
  subst this
  exact Zlp L hs ⟨w1,ma,q',by omega⟩ hx (nx q') mg ac 0
theorem Zne (L:Lo prog w A E G κ it lt N la lb st) (hs:ZaG st st') (m:Mid lt la lb n out ia ib) (mg mg' ac bc:Nat):TT (model prog w) A E G (loC (Zad it la) (Zad it lb) mg (none,Zad it out,ia,ib,mg',ac,bc)) (okD lt it la lb n st) st':=by
 have ma:=m.a
 have mb:=m.b
 have mn:=m.n
 have o:=L.K.ok
 refine Zo (ZbV ?_)
 have hs':=hs.gal mg
 have hk:kindOf (SortSt.mk' (kindOf st') (arrOf st') (pendingOf st') mg (failedOf st')) = κ:=hs'.kind.trans L.hk
 show TT _ _ _ _ _ _ (SortSt.mk' (kindOf st') (arrOf st') (pendingOf st') mg (failedOf st'))
 generalize SortSt.mk' (kindOf st') (arrOf st') (pendingOf st') mg (failedOf st') = st'' at hs' hk
 have hy:lb[ib]? = some (lb[ib]'mb):=List.getElem?_eq_getElem _
 generalize lb[ib]'mb = y at hy
 have yN:=L.T.nb y (List.mem_of_getElem? hy)
 refine Zo (Za1 (ZaN hy) (Zo ?_))
 have at_:∀ i,i < la.length - ia → la[ia + i]? = some (la.getD (ia + i) 0):=fun i hi=>by
  rw [List.getD_eq_getElem?_getD,List.getElem?_eq_getElem (by omega)]; rfl
 have g:Gal prog w A E G κ it lt N false y la ia (la.length - ia) st'' (fun i=>!lt y (la.getD (ia + i) 0)):=⟨L.K,hk,yN,L.T.na,by omega,fun i z hi hz=>by
   rw [at_ i hi] at hz; cases hz; rfl,fun i j hij hj hb=>by
   have s:lt (la.getD (ia + j) 0) (la.getD (ia + i) 0) = false:=by
    rcases Nat.lt_or_eq_of_le hij with c | c
    ·have:=List.pairwise_iff_getElem.mp L.T.sa (ia + i) (ia + j) (by omega) (by omega) (by omega)
     have e1:=at_ i (by omega)
     have e2:=at_ j hj
     rw [List.getElem?_eq_getElem (by omega)] at e1 e2
     rw [← Option.some.inj e1,← Option.some.inj e2]; exact this
    ·rw [c]; exact o.rf _
   have hb':lt y (la.getD (ia + j) 0) = false:=by simpa using hb
   show (!lt y (la.getD (ia + i) 0)) = true
   rw [o.tr s hb']; rfl⟩
 rw [Zz]
 refine g.gallop (by omega) fun k kn kt kf=>?_
 have w2:W lt la lb (out ++ (la.drop ia).take k) (ia + k) ib:=m.w.takeAs L.T.sa k (by omega) fun i z hi hz u hu=>by
  have:=kt i hi
  rw [at_ i (by omega)] at hz
  cases hz
  exact L.T.sb.from o hy (by simpa using this) u hu
 have nx:ia + k < la.length → ∀ u ∈ la.drop (ia + k),lt u y = false:=fun hlt=>L.T.sa.from o (at_ k (by omega)) (o.asym (by have:=kf k (Nat.le_refl _) (by omega); simpa using this))
 show TT _ _ _ _ (if k > 0 then _ else _) _ _
 refine ZaC (fun k0=>?_) fun k0=>?_
 ·dsimp only
  simp only [Zh9,ZaH,Zz,Zby]
  refine ZaC (fun q2=>?_) fun q2=>ZaC (fun q3=>Zt ⟨hs',.inl ⟨_,rfl,w2.doneA L.T.sb (by simpa using q3)⟩⟩) fun q3=>?_
  ·have q':ia + k + 1 = la.length:=by simpa using q2
   have hz:=at_ k (by omega)
   exact Zt ⟨hs',.inl ⟨_,rfl,w2.last L.T.sb q' hz (L.hm _ (by rw [show la.length - 1 = ia + k by omega]; exact hz))⟩⟩
  ·have n1:¬ ia + k + 1 = la.length:=by simpa using q2
   have n2:¬ ia + k = la.length:=by simpa using q3
   exact Zli L hs' ⟨w2,by omega,mb,by omega⟩ hy (nx (by omega)) mg k bc
 ·have:k = 0:=by omega
  subst this
  exact Zli L hs' m hy (nx (by omega)) mg 0 bc
theorem Mid.le {m:Nat} (h:Mid lt la lb n out ia ib) (hm:m ≤ n):Mid lt la lb m out ia ib:=⟨h.w,h.a,h.b,Nat.le_trans hm h.n⟩
theorem DD.le {m:Nat} {r:Option (Array Keyed)} {o:Array Keyed} (h:DD lt it la lb n r o ia ib) (hm:m ≤ n):DD lt it la lb m r o ia ib:=by
 rcases h with h | ⟨h1,out,h2,h3⟩
 ·exact .inl h
 ·exact .inr ⟨h1,out,h2,h3.le hm⟩
theorem YY.le {m:Nat} {r:Option (Array Keyed)} {o:Array Keyed} (h:YY lt it la lb n r o ia ib) (hm:m ≤ n):YY lt it la lb m r o ia ib:=⟨h.1,h.2.elim fun out h=>⟨out,h.1,h.2.le hm⟩⟩
noncomputable abbrev St5:=Option (Array Keyed) × Array Keyed × Nat × Nat × Nat
noncomputable def loS (a b:Array Keyed) (n:Nat) (z0:St7):StateT SortSt Sem St7:=forIn [0:n] z0 fun _ z=>if z.2.2.2.2.1 > 1 then loC a b (z.2.2.2.2.1 - 1) z else loC a b z.2.2.2.2.1 z
noncomputable def ZsL (z:St7):StateT SortSt Sem (ForInStep St5):=match z.1 with
 | some r=>pure (ForInStep.done (some r,z.2.1,z.2.2.1,z.2.2.2.1,z.2.2.2.2.1))
 | none=>setG (z.2.2.2.2.1 + 1) >>= fun _=>pure (ForInStep.yield (none,z.2.1,z.2.2.1,z.2.2.2.1,z.2.2.2.2.1 + 1))
noncomputable def ZsW (a b:Array Keyed) (n mg:Nat) (s:St6):StateT SortSt Sem (ForInStep St5):=match s.1 with
 | some r=>pure (ForInStep.done (some r,s.2.1,s.2.2.1,s.2.2.2.1,mg))
 | none=>(liftM (rule "list.sort.gallop"):StateT SortSt Sem Unit) >>= fun _=>loS a b n (none,s.2.1,s.2.2.1,s.2.2.2.1,mg + 1,s.2.2.2.2.1,s.2.2.2.2.2) >>= ZsL
noncomputable def loF (a b:Array Keyed) (n mg:Nat) (z0:St6):StateT SortSt Sem St6:=forIn [0:n] z0 fun _ z=>loA a b mg z
noncomputable def loO (a b:Array Keyed) (n:Nat) (c:St5):StateT SortSt Sem (ForInStep St5):=loF a b n c.2.2.2.2 (none,c.2.1,c.2.2.1,c.2.2.2.1,0,0) >>= ZsW a b n c.2.2.2.2
noncomputable def loE (s:St5):StateT SortSt Sem (Array Keyed):=match s.1 with
 | some r=>pure r
 | none=>liftM (unsupported "internal:list.sort.merge-bound":Sem (Array Keyed))
noncomputable def loM (a b:Array Keyed) (n:Nat) (z0:St5):StateT SortSt Sem (Array Keyed):=(forIn [0:n] z0 fun _ c=>loO a b n c) >>= loE
noncomputable def ZrD (a b:Array Keyed):StateT SortSt Sem (Array Keyed):=(liftM (rule "list.sort.merge-lo"):StateT SortSt Sem Unit) >>= fun _=>elem' b 0 >>= fun x=>if (1 == b.size) = true then pure (#[x] ++ a.extract 0 a.size ++ b.extract 1 b.size) else if (0 + 1 == a.size) = true then pure (#[x] ++ b.extract 1 b.size ++ a.extract 0 a.size) else get >>= fun s=>loM a b (a.size + b.size) (none,#[x],0,1,gallopOf s)
set_option smartUnfolding false in
theorem Zko (a b:Array Keyed):Zjz a b = ZrD a b:=by rfl
theorem ZqV (L:Lo prog w A E G κ it lt N la lb st) (hs:ZaG st st') (m:Mid lt la lb n out ia ib) (t mg ac bc:Nat):TT (model prog w) A E G (loS (Zad it la) (Zad it lb) t (none,Zad it out,ia,ib,mg,ac,bc)) (fun c st3=>ZaG st st3 ∧ DD lt it la lb n c.1 c.2.1 c.2.2.1 c.2.2.2.1) st':=by
 refine Zbf (I:=fun _ c st3=>ZaG st st3 ∧ YY lt it la lb n c.1 c.2.1 c.2.2.1 c.2.2.2.1) ?_ (fun c st3 h=>⟨h.1,.inr h.2⟩) ⟨hs,rfl,out,rfl,m⟩
 rintro y ⟨e1,e2,e3,e4,e5,e6,e7⟩ st3 _ _ ⟨hs,hr,out,ho,m⟩
 dsimp only at hr ho m
 subst hr ho
 refine ZaC (fun _=>ZaT (Zne L hs m (e5 - 1) e5 e6 e7) fun r st4 h=>?_) fun _=>ZaT (Zne L hs m e5 e5 e6 e7) fun r st4 h=>?_
 ·cases r with
  | done c=>exact h
  | yield c=>exact h
 ·cases r with
  | done c=>exact h
  | yield c=>exact h
theorem Zpm (L:Lo prog w A E G κ it lt N la lb st) (hs:ZaG st st') (m:Mid lt la lb n out ia ib) (mg:Nat):TT (model prog w) A E G (loF (Zad it la) (Zad it lb) ((Zad it la).size + (Zad it lb).size) mg (none,Zad it out,ia,ib,0,0)) (fun c st3=>ZaG st st3 ∧ DD lt it la lb (n + 1) c.1 c.2.1 c.2.2.1 c.2.2.2.1) st':=by
 refine Zbf (I:=fun y c st3=>ZaG st st3 ∧ YY lt it la lb (n + y) c.1 c.2.1 c.2.2.1 c.2.2.2.1) ?_ ?_ ⟨hs,rfl,out,rfl,m⟩
 ·rintro y ⟨d1,d2,d3,d4,d5,d6⟩ st'' _ hy ⟨hs,hr,out,ho,m⟩
  dsimp only at hr ho m
  subst hr ho
  refine ZaT (ZpM L hs m mg d5 d6) fun r st3 h=>?_
  cases r with
  | done c=>exact ⟨h.1,DD.le h.2 (by omega)⟩
  | yield c=>exact h
 ·rintro c st'' ⟨hs,y⟩
  have:=m.a
  rw [Nat.zero_max,Zz,Zz] at y
  exact ⟨hs,.inr (YY.le y (by omega))⟩
theorem ZqA (L:Lo prog w A E G κ it lt N la lb st) (hs:ZaG st st') (m:Mid lt la lb n out ia ib) (mg:Nat):TT (model prog w) A E G (loO (Zad it la) (Zad it lb) ((Zad it la).size + (Zad it lb).size) (none,Zad it out,ia,ib,mg))
  (fun r st3=>match r with | .done c=>ZaG st st3 ∧ ∃ l,c.1 = some (Zad it l) ∧ RR lt la lb l | .yield c=>ZaG st st3 ∧ YY lt it la lb (n + 1) c.1 c.2.1 c.2.2.1 c.2.2.2.1) st':=by
 refine Zo (ZaT (Zpm L hs m mg) ?_)
 rintro ⟨d1,d2,d3,d4,d5,d6⟩ st'' ⟨hs,⟨l,hl',rr⟩ | ⟨hn,out,ho,m⟩⟩
 ·dsimp only at hl'
  subst hl'
  exact Zt ⟨hs,l,rfl,rr⟩
 ·dsimp only at hn ho m
  subst hn ho
  refine Zo (Ze7 (Zo (ZaT (ZqV L hs m _ _ _ _) ?_)))
  rintro ⟨e1,e2,e3,e4,e5,e6,e7⟩ st3 ⟨hs,⟨l,hl',rr⟩ | ⟨hn,out,ho,m⟩⟩
  ·dsimp only at hl'
   subst hl'
   exact Zt ⟨hs,l,rfl,rr⟩
  ·dsimp only at hn ho m
   subst hn ho
   exact Zo (ZbV (Zt ⟨hs.gal _,rfl,out,rfl,m⟩))
theorem Zp4 (L:Lo prog w A E G κ it lt N la lb st) (hs:ZaG st st') (m:Mid lt la lb (0 + 1) out ia ib) (mg:Nat) {Q:Array Keyed → SortSt → Prop} (h:∀ r st',RR lt la lb r → ZaG st st' → Q (Zad it r) st'):TT (model prog w) A E G (loM (Zad it la) (Zad it lb) ((Zad it la).size + (Zad it lb).size) (none,Zad it out,ia,ib,mg)) Q st':=by
 refine Zo (ZaT (Zbf (I:=fun x c st'=>ZaG st st' ∧ YY lt it la lb (x + 1) c.1 c.2.1 c.2.2.1 c.2.2.2.1) (Q:=fun c st'=>ZaG st st' ∧ ∃ l,c.1 = some (Zad it l) ∧ RR lt la lb l) ?_ ?_ ⟨hs,rfl,out,rfl,m⟩) ?_)
 ·rintro x ⟨c1,c2,c3,c4,c5⟩ st' _ hx ⟨hs,hr,out,ho,m⟩
  dsimp only at hr ho m
  subst hr ho
  refine ZaT (ZqA L hs m c5) fun r st3 h=>?_
  cases r <;> exact h
 ·rintro c st' ⟨hs,hr,out,ho,m⟩
  have m1:=m.n
  have m2:=m.a
  have m3:=m.b
  rw [Nat.zero_max,Zz,Zz] at m1
  clear h hs hr ho L
  omega
 ·rintro ⟨d1,d2,d3,d4,d5⟩ st' ⟨hs,l,hl',rr⟩
  dsimp only at hl'
  subst hl'
  exact Zt (h l st' rr hs)
theorem Zlb (L:Lo prog w A E G κ it lt N la lb st) {b0:Nat} (h0:lb[0]? = some b0) (hf:∀ x ∈ la,lt x b0 = false) (hl:0 < la.length) {Q:Array Keyed → SortSt → Prop}
  (h:∀ r st',RR lt la lb r → ZaG st st' → Q (Zad it r) st'):TT (model prog w) A E G (Zjz (Zad it la) (Zad it lb)) Q st:=by
 have lb0:0 < lb.length:=(List.getElem?_eq_some_iff.mp h0).1
 have w0:W lt la lb [b0] 0 1:=by
  have:=W.takeB (la:=la) (lb:=lb) (out:=[]) (ia:=0) (ib:=0) L.T.sb ⟨by simp,by simp [Srt],by simp,by simp,Nat.zero_le _,Nat.zero_le _⟩ h0 (by simpa using hf)
  simpa using this
 rw [Zko]
 refine Zo (Ze7 (Zo (Za1 (ZaN h0) (ZaC (fun c1=>?_) fun c1=>ZaC (fun c2=>?_) fun c2=>Zo (ZeC (Zp4 L (ZaG.refl _) ⟨w0,?_,?_,Nat.le_refl _⟩ _ h))))))
 ·have e:1 = lb.length:=by rw [Zz] at c1; simpa using c1
  have:=h _ _ (w0.doneB L.T.sa e) (ZaG.refl _)
  rw [← ZaH,← ZaH,← Zby,← Zby,← Zz (it:=it) la,← Zz (it:=it) lb] at this
  exact Zt this
 ·have e:0 + 1 = la.length:=by rw [Zz] at c2; simpa using c2
  have hx:la[0]? = some la[0]:=by simp
  have:=h _ _ (w0.last L.T.sb e hx (L.hm _ (by rw [← e]; exact hx))) (ZaG.refl _)
  rw [← ZaH,← ZaH,← Zby,← Zby,← Zz (it:=it) la,← Zz (it:=it) lb] at this
  exact Zt this
 ·have:¬ 0 + 1 = la.length:=by rw [Zz] at c2; simpa using c2
  clear c1 c2 h w0 hf h0 L
  omega
 ·have:¬ 1 = lb.length:=by rw [Zz] at c1; simpa using c1
  clear c1 c2 h w0 hf h0 L
  omega
end
end
end L3
namespace L3
open PySem PySem.W PyProof.Rows
section
variable {prog:Program} {w:World} {A:Around} {E:Value → Shared → Prop} {G:Shared → Prop} {κ:SortKind} {it:Array Keyed} {lt:Nat → Nat → Bool} {N:Nat}
noncomputable abbrev fl (lt:Nat → Nat → Bool):Nat → Nat → Bool:=fun x y=>lt y x
theorem Srt.rev {l:List Nat} (h:Srt lt l):Srt (fl lt) l.reverse:=List.pairwise_reverse.mpr h
theorem RR.rev {la lb r:List Nat} (h:RR (fl lt) lb.reverse la.reverse r):RR lt la lb r.reverse:=by
 refine ⟨(List.reverse_perm r).trans (h.1.trans ?_),List.pairwise_reverse.mpr h.2⟩
 exact ((List.reverse_perm lb).append (List.reverse_perm la)).trans List.perm_append_comm
theorem Zrd (o:ZfK lt):ZfK (fl lt):=⟨fun h=>o.asym h,fun h1 h2=>o.tr h2 h1⟩
theorem Zdy {l:List Nat} {k x:Nat} (h0:0 < k) (hk:k ≤ l.length) (hx:l[k - 1]? = some x):l.reverse[l.length - k]? = some x:=by
 rw [List.getElem?_reverse (by omega),show l.length - 1 - (l.length - k) = k - 1 by omega,hx]
theorem ZeS {l:List Nat} {k:Nat} (hk:k ≤ l.length):l.reverse.drop (l.length - k) = (l.take k).reverse:=by
 rw [List.drop_reverse,show l.length - (l.length - k) = k by omega]
theorem Zjp {l:List Nat} {k i:Nat} (hk:k ≤ l.length) (hi:i ≤ k):(l.reverse.drop (l.length - k)).take (k - i) = ((l.drop i).take (k - i)).reverse:=by
 rw [ZeS hk,List.take_reverse,List.length_take,Nat.min_eq_left hk,show k - (k - i) = i by omega,List.drop_take]
theorem Zcj (l:List Nat) (k:Nat):(Zad it l).extract 0 k = Zad it (l.take k):=by
 apply Array.toList_inj.mp
 simp [Zad,List.extract_eq_take_drop,List.map_take]
theorem Zik (l:List Nat) (i j:Nat):(Zad it l).extract i j = Zad it ((l.drop i).take (j - i)):=by
 apply Array.toList_inj.mp
 simp [Zad,List.map_drop,List.extract_eq_take_drop,List.map_take]
theorem ZdR (l:List Nat):(Zad it l).reverse = Zad it l.reverse:=by simp [Zad]
section
variable {la lb:List Nat} {st st':SortSt} {n:Nat} {out:List Nat} {na nb:Nat}
structure ZfY (lt:Nat → Nat → Bool) (la lb:List Nat) (n:Nat) (out:List Nat) (na nb:Nat):Prop where
 w:W (fl lt) lb.reverse la.reverse out (lb.length - nb) (la.length - na)
 a:0 < na
 b:1 < nb
 ha:na ≤ la.length
 hb:nb ≤ lb.length
 n:n + na + nb ≤ la.length + lb.length
theorem Zlq (h:RR (fl lt) lb.reverse la.reverse (out ++ lb.reverse.drop (lb.length - nb) ++ la.reverse.drop (la.length - na))) (ha:na ≤ la.length) (hb:nb ≤ lb.length):RR lt la lb (la.take na ++ lb.take nb ++ out.reverse):=by
 have:=h.rev
 rw [ZeS ha,ZeS hb] at this
 simpa using this
theorem Zoe (h:RR (fl lt) lb.reverse la.reverse (out ++ la.reverse.drop (la.length - na) ++ lb.reverse.drop (lb.length - nb))) (ha:na ≤ la.length) (hb:nb ≤ lb.length):RR lt la lb (lb.take nb ++ la.take na ++ out.reverse):=by
 have:=h.rev
 rw [ZeS ha,ZeS hb] at this
 simpa using this
noncomputable def DH (lt:Nat → Nat → Bool) (it:Array Keyed) (la lb:List Nat) (n:Nat) (r:Option (Array Keyed)) (na nb:Nat) (o:Array Keyed):Prop:=(∃ l,r = some (Zad it l) ∧ RR lt la lb l) ∨ (r = none ∧ ∃ out,o = Zad it out ∧ ZfY lt la lb n out na nb)
noncomputable def YH (lt:Nat → Nat → Bool) (it:Array Keyed) (la lb:List Nat) (n:Nat) (r:Option (Array Keyed)) (na nb:Nat) (o:Array Keyed):Prop:=r = none ∧ ∃ out,o = Zad it out ∧ ZfY lt la lb n out na nb
noncomputable abbrev Sh6:=Option (Array Keyed) × Nat × Nat × Array Keyed × Nat × Nat
noncomputable abbrev Sh7:=Option (Array Keyed) × Nat × Nat × Array Keyed × Nat × Nat × Nat
noncomputable def okH {α:Type} (lt:Nat → Nat → Bool) (it:Array Keyed) (la lb:List Nat) (n:Nat) (st:SortSt) (r:ForInStep (Option (Array Keyed) × Nat × Nat × Array Keyed × α)) (st':SortSt):Prop:=ZaG st st' ∧ match r with
 | .done c=>DH lt it la lb n c.1 c.2.1 c.2.2.1 c.2.2.2.1
 | .yield c=>YH lt it la lb n c.1 c.2.1 c.2.2.1 c.2.2.2.1
structure Hi (prog:Program) (w:World) (A:Around) (E:Value → Shared → Prop) (G:Shared → Prop) (κ:SortKind) (it:Array Keyed) (lt:Nat → Nat → Bool) (N:Nat) (la lb:List Nat) (st:SortSt):Prop where
 K:Cmp prog w A E G κ it lt N
 T:Two lt N la lb
 hm:∀ x,lb[0]? = some x → ∀ y ∈ la,lt y x = false
 hk:kindOf st = κ
theorem Hi.o (H:Hi prog w A E G κ it lt N la lb st):ZfK (fl lt):=Zrd H.K.ok
theorem Hi.putA (H:Hi prog w A E G κ it lt N la lb st) (hw:W (fl lt) lb.reverse la.reverse out (lb.length - nb) (la.length - na)) (h0:0 < na) (ha:na ≤ la.length) {x:Nat} (hx:la[na - 1]? = some x) (hq:∀ z ∈ lb.reverse.drop (lb.length - nb),fl lt z x = false):W (fl lt) lb.reverse la.reverse (out ++ [x]) (lb.length - nb) (la.length - (na - 1)):=by
 have:=hw.takeB H.T.sa.rev (Zdy h0 ha hx) hq
 rwa [show la.length - na + 1 = la.length - (na - 1) by omega] at this
theorem Hi.putB (H:Hi prog w A E G κ it lt N la lb st) (hw:W (fl lt) lb.reverse la.reverse out (lb.length - nb) (la.length - na)) (h0:0 < nb) (hb:nb ≤ lb.length) {y:Nat} (hy:lb[nb - 1]? = some y) (hq:∀ z ∈ la.reverse.drop (la.length - na),fl lt z y = false):W (fl lt) lb.reverse la.reverse (out ++ [y]) (lb.length - (nb - 1)) (la.length - na):=by
 have:=hw.takeA H.T.sb.rev (Zdy h0 hb hy) hq
 rwa [show lb.length - nb + 1 = lb.length - (nb - 1) by omega] at this
theorem Hi.endA (H:Hi prog w A E G κ it lt N la lb st) (hw:W (fl lt) lb.reverse la.reverse out (lb.length - nb) (la.length - na)) (h0:na = 0) (hb:nb ≤ lb.length):RR lt la lb (la.take na ++ lb.take nb ++ out.reverse):=
 Zlq (hw.doneB H.T.sb.rev (by rw [h0]; simp)) (by omega) hb
theorem Hi.endB (H:Hi prog w A E G κ it lt N la lb st) (hw:W (fl lt) lb.reverse la.reverse out (lb.length - nb) (la.length - na)) (h0:nb = 0) (ha:na ≤ la.length):RR lt la lb (la.take na ++ lb.take nb ++ out.reverse):=
 Zlq (hw.doneA H.T.sa.rev (by rw [h0]; simp)) ha (by omega)
theorem Hi.first (H:Hi prog w A E G κ it lt N la lb st) (hw:W (fl lt) lb.reverse la.reverse out (lb.length - nb) (la.length - na)) (h1:nb = 1) (ha:na ≤ la.length) (hb:0 < lb.length):RR lt la lb (lb.take nb ++ la.take na ++ out.reverse):=by
 subst h1
 have hx:lb[0]? = some lb[0]:=by simp
 refine Zoe (hw.last H.T.sa.rev (by rw [List.length_reverse]; omega) (Zdy (by omega) hb hx) fun y hy=>H.hm _ hx y (List.mem_reverse.mp hy)) ha hb
noncomputable def hiA (a b:Array Keyed) (mg:Nat) (z:Sh6):StateT SortSt Sem (ForInStep Sh6):=
 elem' b (z.2.2.1 - 1) >>= fun u=>elem' a (z.2.1 - 1) >>= fun v=>lt' u v >>= fun q=>match q with
 | some y=>if y = true then elem' a (z.2.1 - 1) >>= fun u=>
    (if (z.2.1 - 1 == 0) = true then pure (ForInStep.done (some (a.extract 0 (z.2.1 - 1) ++ b.extract 0 z.2.2.1 ++ (z.2.2.2.1.push u).reverse),z.2.1 - 1,z.2.2.1,z.2.2.2.1.push u,z.2.2.2.2.1 + 1,0))
     else if z.2.2.2.2.1 + 1 ≥ mg then pure (ForInStep.done (none,z.2.1 - 1,z.2.2.1,z.2.2.2.1.push u,z.2.2.2.2.1 + 1,0)) else pure (ForInStep.yield (none,z.2.1 - 1,z.2.2.1,z.2.2.2.1.push u,z.2.2.2.2.1 + 1,0)))
   else elem' b (z.2.2.1 - 1) >>= fun u=>
    (if (z.2.2.1 - 1 == 1) = true then pure (ForInStep.done (some (b.extract 0 (z.2.2.1 - 1) ++ a.extract 0 z.2.1 ++ (z.2.2.2.1.push u).reverse),z.2.1,z.2.2.1 - 1,z.2.2.2.1.push u,0,z.2.2.2.2.2 + 1))
     else if z.2.2.2.2.2 + 1 ≥ mg then pure (ForInStep.done (none,z.2.1,z.2.2.1 - 1,z.2.2.2.1.push u,0,z.2.2.2.2.2 + 1)) else pure (ForInStep.yield (none,z.2.1,z.2.2.1 - 1,z.2.2.2.1.push u,0,z.2.2.2.2.2 + 1)))
 | _=>pure (ForInStep.done (some (a.extract 0 z.2.1 ++ b.extract 0 z.2.2.1 ++ z.2.2.2.1.reverse),z.2.1,z.2.2.1,z.2.2.2.1,z.2.2.2.2.1,z.2.2.2.2.2))
theorem Zp7 (H:Hi prog w A E G κ it lt N la lb st) (hs:ZaG st st') (m:ZfY lt la lb n out na nb) (mg ac bc:Nat):TT (model prog w) A E G (hiA (Zad it la) (Zad it lb) mg (none,na,nb,Zad it out,ac,bc)) (okH lt it la lb (n + 1) st) st':=by
 have hk:kindOf st' = κ:=hs.kind.trans H.hk
 obtain ⟨mw,ma,mb,mha,mhb,mn⟩:=m
 have hx:la[na - 1]? = some (la[na - 1]'(by omega)):=List.getElem?_eq_getElem _
 have hy:lb[nb - 1]? = some (lb[nb - 1]'(by omega)):=List.getElem?_eq_getElem _
 generalize la[na - 1]'(by omega) = x at hx
 generalize lb[nb - 1]'(by omega) = y at hy
 have xN:=H.T.na x (List.mem_of_getElem? hx)
 have yN:=H.T.nb y (List.mem_of_getElem? hy)
 refine Zo (Za1 (ZaN hy) (Zo (Za1 (ZaN hx) (Zo (Zj9 H.K hk yN xN ?_)))))
 cases c:lt y x with
 | true=>
  have w1:=H.putA mw ma mha hx (H.T.sb.rev.from H.o (Zdy (by omega) mhb hy) (H.K.ok.asym c))
  show TT _ _ _ _ (if true = true then _ else _) _ _
  rw [if_pos rfl]
  refine Zo (Za1 (ZaN hx) ?_)
  dsimp only
  simp only [ZcL,Zcj,ZdR,ZaH]
  refine ZaC (fun q=>Zt ⟨hs,.inl ⟨_,rfl,H.endA w1 (by simpa using q) mhb⟩⟩) fun q=>?_
  have q':¬ na - 1 = 0:=by simpa using q
  have m1:ZfY lt la lb (n + 1) (out ++ [x]) (na - 1) nb:=⟨w1,by omega,mb,by omega,mhb,by omega⟩
  exact ZaC (fun _=>Zt ⟨hs,.inr ⟨rfl,_,rfl,m1⟩⟩) fun _=>Zt ⟨hs,rfl,_,rfl,m1⟩
 | false=>
  have w1:=H.putB mw (by omega) mhb hy (H.T.sa.rev.from H.o (Zdy ma mha hx) c)
  show TT _ _ _ _ (if false = true then _ else _) _ _
  rw [if_neg (by decide)]
  refine Zo (Za1 (ZaN hy) ?_)
  dsimp only
  simp only [ZcL,Zcj,ZdR,ZaH]
  refine ZaC (fun q=>Zt ⟨hs,.inl ⟨_,rfl,H.first w1 (by simpa using q) mha (by omega)⟩⟩) fun q=>?_
  have q':¬ nb - 1 = 1:=by simpa using q
  have m1:ZfY lt la lb (n + 1) (out ++ [y]) na (nb - 1):=⟨w1,ma,by omega,mha,by omega,by omega⟩
  exact ZaC (fun _=>Zt ⟨hs,.inr ⟨rfl,_,rfl,m1⟩⟩) fun _=>Zt ⟨hs,rfl,_,rfl,m1⟩
noncomputable def Zpn (a b:Array Keyed) (mg ac bc:Nat) (na nb:Nat) (o:Array Keyed):StateT SortSt Sem (ForInStep Sh7):=
 elem' a (na - 1) >>= fun u=>if (na - 1 == 0) = true then pure (ForInStep.done (some (a.extract 0 (na - 1) ++ b.extract 0 nb ++ (o.push u).reverse),na - 1,nb,o.push u,mg,ac,bc))
  else if (decide (ac < 7) && decide (bc < 7)) = true then pure (ForInStep.done (none,na - 1,nb,o.push u,mg,ac,bc)) else pure (ForInStep.yield (none,na - 1,nb,o.push u,mg,ac,bc))
noncomputable def Zqp (a b:Array Keyed) (mg ac bc:Nat) (na nb:Nat) (o:Array Keyed):StateT SortSt Sem (ForInStep Sh7):=
 elem' b (nb - 1) >>= fun u=>if (nb - 1 == 1) = true then pure (ForInStep.done (some (b.extract 0 (nb - 1) ++ a.extract 0 na ++ (o.push u).reverse),na,nb - 1,o.push u,mg,ac,bc))
  else elem' a (na - 1) >>= fun v=>Ze6 true v b 0 (nb - 1) (nb - 1 - 1) >>= fun q=>match q with
   | some k=>if nb - 1 - k > 0 then (if (k == 1) = true then pure (ForInStep.done (some (b.extract 0 k ++ a.extract 0 na ++ (o.push u ++ (b.extract k (nb - 1)).reverse).reverse),na,k,o.push u ++ (b.extract k (nb - 1)).reverse,mg,ac,nb - 1 - k))
     else if (k == 0) = true then pure (ForInStep.done (some (a.extract 0 na ++ b.extract 0 k ++ (o.push u ++ (b.extract k (nb - 1)).reverse).reverse),na,k,o.push u ++ (b.extract k (nb - 1)).reverse,mg,ac,nb - 1 - k))
     else Zpn a b mg ac (nb - 1 - k) na k (o.push u ++ (b.extract k (nb - 1)).reverse)) else Zpn a b mg ac (nb - 1 - k) na (nb - 1) (o.push u)
   | _=>pure (ForInStep.done (some (a.extract 0 na ++ b.extract 0 (nb - 1) ++ (o.push u).reverse),na,nb - 1,o.push u,mg,ac,bc))
noncomputable def hiC (a b:Array Keyed) (mg:Nat) (z:Sh7):StateT SortSt Sem (ForInStep Sh7):=
 setG mg >>= fun _=>elem' b (z.2.2.1 - 1) >>= fun u=>Ze6 false u a 0 z.2.1 (z.2.1 - 1) >>= fun q=>match q with
  | some k=>if z.2.1 - k > 0 then (if (k == 0) = true then pure (ForInStep.done (some (a.extract 0 k ++ b.extract 0 z.2.2.1 ++ (z.2.2.2.1 ++ (a.extract k z.2.1).reverse).reverse),k,z.2.2.1,z.2.2.2.1 ++ (a.extract k z.2.1).reverse,mg,z.2.1 - k,z.2.2.2.2.2.2))
    else Zqp a b mg (z.2.1 - k) z.2.2.2.2.2.2 k z.2.2.1 (z.2.2.2.1 ++ (a.extract k z.2.1).reverse)) else Zqp a b mg (z.2.1 - k) z.2.2.2.2.2.2 z.2.1 z.2.2.1 z.2.2.2.1
  | _=>pure (ForInStep.done (some (a.extract 0 z.2.1 ++ b.extract 0 z.2.2.1 ++ z.2.2.2.1.reverse),z.2.1,z.2.2.1,z.2.2.2.1,mg,z.2.2.2.2.2.1,z.2.2.2.2.2.2))
theorem Srt.at {l:List Nat} (s:Srt lt l) (o:ZfK lt) {i j:Nat} (hij:i ≤ j) (hj:j < l.length):lt (l.getD j 0) (l.getD i 0) = false:=by
 have e:∀ k,(hk:k < l.length) → l.getD k 0 = l[k]:=fun k hk=>by rw [List.getD_eq_getElem?_getD,List.getElem?_eq_getElem hk]; rfl
 rcases Nat.lt_or_eq_of_le hij with c | c
 ·rw [e i (by omega),e j hj]
  exact List.pairwise_iff_getElem.mp s i j (by omega) hj c
 ·rw [c]; exact o.rf _
theorem hr1 {L m i:Nat} (hm:m ≤ L) (hi:i < m):L - 1 - (L - m + i) = m - 1 - i:=by omega
theorem hr2 {L m i:Nat} (hm:m ≤ L) (hi:i < m):L - m + i < L:=by omega
theorem hr3 {m i k:Nat} (hi:i < m - k):i < m:=by omega
theorem hr4 {m i k:Nat} (hi:i < m - k):m - 1 - i < m:=by omega
theorem hr5 {m i k:Nat} (hi:i < m - k):k ≤ m - 1 - i:=by omega
theorem hr6 {L m k:Nat} (hm:m ≤ L) (hk:k ≤ m):L - m + (m - k) = L - k:=by omega
theorem hr7 {L m k:Nat} (hm:m ≤ L):L - m + (m - k) ≤ L:=by omega
theorem hr8 {m k:Nat} (h0:0 < k) (hk:k ≤ m):k - 1 < m:=by omega
theorem hr9 {k:Nat} (h0:0 < k):k - 1 < k:=by omega
theorem Zlm (H:Hi prog w A E G κ it lt N la lb st) (hs:ZaG st st') (hw:W (fl lt) lb.reverse la.reverse out (lb.length - nb) (la.length - na)) (h0:0 < na) (hb1:1 < nb) (ha:na ≤ la.length) (hb:nb ≤ lb.length) (hn:n + na + nb ≤ la.length + lb.length) {x:Nat} (hx:la[na - 1]? = some x) (hq:∀ z ∈ lb.reverse.drop (lb.length - nb),fl lt z x = false) (mg ac bc:Nat):
  TT (model prog w) A E G (Zpn (Zad it la) (Zad it lb) mg ac bc na nb (Zad it out)) (okH lt it la lb n st) st':=by
 have w1:=H.putA hw h0 ha hx hq
 refine Zo (Za1 (ZaN hx) ?_)
 simp only [ZcL,Zcj,ZdR,ZaH]
 refine ZaC (fun q=>Zt ⟨hs,.inl ⟨_,rfl,H.endA w1 (by simpa using q) hb⟩⟩) fun q=>?_
 have q':¬ na - 1 = 0:=by simpa using q
 have m1:ZfY lt la lb n (out ++ [x]) (na - 1) nb:=⟨w1,by omega,hb1,by omega,hb,by omega⟩
 exact ZaC (fun _=>Zt ⟨hs,.inr ⟨rfl,_,rfl,m1⟩⟩) fun _=>Zt ⟨hs,rfl,_,rfl,m1⟩
theorem Zls (H:Hi prog w A E G κ it lt N la lb st) (hs:ZaG st st') (hw:W (fl lt) lb.reverse la.reverse out (lb.length - nb) (la.length - na)) (h0:0 < na) (hb1:1 < nb) (ha:na ≤ la.length) (hb:nb ≤ lb.length) (hn:n + na + nb ≤ la.length + lb.length) {y:Nat} (hy:lb[nb - 1]? = some y) (hq:∀ z ∈ la.reverse.drop (la.length - na),fl lt z y = false) (mg ac bc:Nat):
  TT (model prog w) A E G (Zqp (Zad it la) (Zad it lb) mg ac bc na nb (Zad it out)) (okH lt it la lb n st) st':=by
 have hk:kindOf st' = κ:=hs.kind.trans H.hk
 have w1:=H.putB hw (by omega) hb hy hq
 have o:=H.K.ok
 have hb2:nb - 1 ≤ lb.length:=Nat.le_trans (Nat.sub_le _ _) hb
 refine Zo (Za1 (ZaN hy) ?_)
 simp only [ZcL,Zcj,Zik,ZdR,ZaH]
 refine ZaC (fun q=>Zt ⟨hs,.inl ⟨_,rfl,H.first w1 (by simpa using q) ha (by omega)⟩⟩) fun q=>?_
 have q':¬ nb - 1 = 1:=by simpa using q
 have hx:la[na - 1]? = some (la[na - 1]'(by omega)):=List.getElem?_eq_getElem _
 generalize la[na - 1]'(by omega) = x at hx
 have xN:=H.T.na x (List.mem_of_getElem? hx)
 refine Zo (Za1 (ZaN hx) (Zo ?_))
 have at_:∀ i,i < nb - 1 → lb[0 + i]? = some (lb.getD i 0):=fun i hi=>by
  rw [Nat.zero_add,List.getD_eq_getElem?_getD,List.getElem?_eq_getElem (Nat.lt_of_lt_of_le hi hb2)]; rfl
 have g:Gal prog w A E G κ it lt N true x lb 0 (nb - 1) st' (fun i=>lt (lb.getD i 0) x):=⟨H.K,hk,xN,H.T.nb,by omega,fun i z hi hz=>by
   rw [at_ i hi] at hz; cases hz; rfl,fun i j hij hj hb'=>by
   have s:=H.T.sb.at o hij (Nat.lt_of_lt_of_le hj hb2)
   cases c:lt (lb.getD i 0) x with
   | true=>rfl
   | false=>rw [o.tr c s] at hb'; cases hb'⟩
 refine g.gallop (by omega) fun k kn kt kf=>?_
 have w2:W (fl lt) lb.reverse la.reverse (out ++ [y] ++ ((lb.drop k).take (nb - 1 - k)).reverse) (lb.length - k) (la.length - na):=by
  have:=w1.takeAs H.T.sb.rev (nb - 1 - k) (by rw [List.length_reverse]; exact hr7 hb2) fun i z hi hz u hu=>by
   rw [List.getElem?_reverse (hr2 hb2 (hr3 hi)),hr1 hb2 (hr3 hi)] at hz
   have e:=at_ (nb - 1 - 1 - i) (hr4 hi)
   rw [Nat.zero_add,hz] at e
   have:=kf (nb - 1 - 1 - i) (hr5 hi) (hr4 hi)
   rw [Option.some.inj e]
   exact H.T.sa.rev.from H.o (Zdy h0 ha hx) this u hu
  rw [Zjp hb2 kn,hr6 hb2 kn] at this
  exact this
 have nx:0 < k → ∀ u ∈ lb.reverse.drop (lb.length - k),fl lt u x = false:=fun h0'=>by
  have e:=at_ (k - 1) (hr8 h0' kn)
  rw [Nat.zero_add] at e
  exact H.T.sb.rev.from H.o (Zdy h0' (Nat.le_trans kn hb2) e) (o.asym (kt (k - 1) (hr9 h0')))
 show TT _ _ _ _ (if nb - 1 - k > 0 then _ else _) _ _
 refine ZaC (fun k0=>?_) fun k0=>?_
 ·refine ZaC (fun q2=>Zt ⟨hs,.inl ⟨_,rfl,H.first w2 (by simpa using q2) ha (by omega)⟩⟩) fun q2=>ZaC (fun q3=>Zt ⟨hs,.inl ⟨_,rfl,H.endB w2 (by simpa using q3) ha⟩⟩) fun q3=>?_
  have n1:¬ k = 1:=by simpa using q2
  have n2:¬ k = 0:=by simpa using q3
  exact Zlm H hs w2 h0 (by omega) ha (by omega) (by omega) hx (nx (by omega)) mg ac (nb - 1 - k)
 ·have e:k = nb - 1:=by omega
  subst e
  exact Zlm H hs w1 h0 (by omega) ha (by omega) (by omega) hx (nx (by omega)) mg ac _
theorem ZnA (H:Hi prog w A E G κ it lt N la lb st) (hs:ZaG st st') (m:ZfY lt la lb n out na nb) (mg mg' ac bc:Nat):TT (model prog w) A E G (hiC (Zad it la) (Zad it lb) mg (none,na,nb,Zad it out,mg',ac,bc)) (okH lt it la lb n st) st':=by
 obtain ⟨mw,ma,mb,mha,mhb,mn⟩:=m
 have o:=H.K.ok
 refine Zo (ZbV ?_)
 have hs':=hs.gal mg
 have hk:kindOf (SortSt.mk' (kindOf st') (arrOf st') (pendingOf st') mg (failedOf st')) = κ:=hs'.kind.trans H.hk
 show TT _ _ _ _ _ _ (SortSt.mk' (kindOf st') (arrOf st') (pendingOf st') mg (failedOf st'))
 generalize SortSt.mk' (kindOf st') (arrOf st') (pendingOf st') mg (failedOf st') = st'' at hs' hk
 have hy:lb[nb - 1]? = some (lb[nb - 1]'(by omega)):=List.getElem?_eq_getElem _
 generalize lb[nb - 1]'(by omega) = y at hy
 have yN:=H.T.nb y (List.mem_of_getElem? hy)
 refine Zo (Za1 (ZaN hy) (Zo ?_))
 have at_:∀ i,i < na → la[0 + i]? = some (la.getD i 0):=fun i hi=>by
  rw [Nat.zero_add,List.getD_eq_getElem?_getD,List.getElem?_eq_getElem (Nat.lt_of_lt_of_le hi mha)]; rfl
 have g:Gal prog w A E G κ it lt N false y la 0 na st'' (fun i=>!lt y (la.getD i 0)):=⟨H.K,hk,yN,H.T.na,by omega,fun i z hi hz=>by
   rw [at_ i hi] at hz; cases hz; rfl,fun i j hij hj hb'=>by
   have s:=H.T.sa.at o hij (Nat.lt_of_lt_of_le hj mha)
   have hb'':lt y (la.getD j 0) = false:=by simpa using hb'
   show (!lt y (la.getD i 0)) = true
   rw [o.tr s hb'']; rfl⟩
 have hh:na - 1 < na:=by omega
 refine g.gallop hh fun k kn kt kf=>?_
 have w2:W (fl lt) lb.reverse la.reverse (out ++ ((la.drop k).take (na - k)).reverse) (lb.length - nb) (la.length - k):=by
  have:=mw.takeBs H.T.sa.rev (na - k) (by rw [List.length_reverse]; exact hr7 mha) fun i z hi hz u hu=>by
   rw [List.getElem?_reverse (hr2 mha (hr3 hi)),hr1 mha (hr3 hi)] at hz
   have e:=at_ (na - 1 - i) (hr4 hi)
   rw [Nat.zero_add,hz] at e
   have:=kf (na - 1 - i) (hr5 hi) (hr4 hi)
   rw [Option.some.inj e]
   exact H.T.sb.rev.from H.o (Zdy (by omega) mhb hy) (o.asym (by simpa using this)) u hu
  rw [Zjp mha kn,hr6 mha kn] at this
  exact this
 have nx:0 < k → ∀ u ∈ la.reverse.drop (la.length - k),fl lt u y = false:=fun h0'=>by
  have e:=at_ (k - 1) (hr8 h0' kn)
  rw [Nat.zero_add] at e
  exact H.T.sa.rev.from H.o (Zdy h0' (Nat.le_trans kn mha) e) (by have:=kt (k - 1) (hr9 h0'); simpa using this)
 dsimp only
 simp only [Zcj,Zik,ZdR,ZaH]
 refine ZaC (fun k0=>?_) fun k0=>?_
 ·refine ZaC (fun q2=>Zt ⟨hs',.inl ⟨_,rfl,H.endA w2 (by simpa using q2) mhb⟩⟩) fun q2=>?_
  have n1:¬ k = 0:=by simpa using q2
  exact Zls H hs' w2 (by omega) mb (by omega) mhb (by omega) hy (nx (by omega)) mg (na - k) bc
 ·have e:k = na:=by omega
  subst e
  exact Zls H hs' mw ma mb mha mhb mn hy (nx ma) mg _ bc
noncomputable def Zjt:Array Keyed → Array Keyed → StateT SortSt Sem (Array Keyed):=sortPriv% PySem.Builtin.mergeHi
theorem ZfY.le {m:Nat} (h:ZfY lt la lb n out na nb) (hm:m ≤ n):ZfY lt la lb m out na nb:=⟨h.w,h.a,h.b,h.ha,h.hb,by have:=h.n; omega⟩
theorem DH.le {m:Nat} {r:Option (Array Keyed)} {o:Array Keyed} (h:DH lt it la lb n r na nb o) (hm:m ≤ n):DH lt it la lb m r na nb o:=by
 rcases h with h | ⟨h1,out,h2,h3⟩
 ·exact .inl h
 ·exact .inr ⟨h1,out,h2,h3.le hm⟩
theorem YH.le {m:Nat} {r:Option (Array Keyed)} {o:Array Keyed} (h:YH lt it la lb n r na nb o) (hm:m ≤ n):YH lt it la lb m r na nb o:=⟨h.1,h.2.elim fun out h=>⟨out,h.1,h.2.le hm⟩⟩
noncomputable abbrev Sh5:=Option (Array Keyed) × Nat × Nat × Array Keyed × Nat
noncomputable def hiS (a b:Array Keyed) (n:Nat) (z0:Sh7):StateT SortSt Sem Sh7:=forIn [0:n] z0 fun _ z=>if z.2.2.2.2.1 > 1 then hiC a b (z.2.2.2.2.1 - 1) z else hiC a b z.2.2.2.2.1 z
noncomputable def ZsB (z:Sh7):StateT SortSt Sem (ForInStep Sh5):=match z.1 with
 | some r=>pure (ForInStep.done (some r,z.2.1,z.2.2.1,z.2.2.2.1,z.2.2.2.2.1))
 | none=>setG (z.2.2.2.2.1 + 1) >>= fun _=>pure (ForInStep.yield (none,z.2.1,z.2.2.1,z.2.2.2.1,z.2.2.2.2.1 + 1))
noncomputable def Zs6 (a b:Array Keyed) (n mg:Nat) (s:Sh6):StateT SortSt Sem (ForInStep Sh5):=match s.1 with
 | some r=>pure (ForInStep.done (some r,s.2.1,s.2.2.1,s.2.2.2.1,mg))
 | none=>(liftM (rule "list.sort.gallop"):StateT SortSt Sem Unit) >>= fun _=>hiS a b n (none,s.2.1,s.2.2.1,s.2.2.2.1,mg + 1,s.2.2.2.2.1,s.2.2.2.2.2) >>= ZsB
noncomputable def hiF (a b:Array Keyed) (n mg:Nat) (z0:Sh6):StateT SortSt Sem Sh6:=forIn [0:n] z0 fun _ z=>hiA a b mg z
noncomputable def hiO (a b:Array Keyed) (n:Nat) (c:Sh5):StateT SortSt Sem (ForInStep Sh5):=hiF a b n c.2.2.2.2 (none,c.2.1,c.2.2.1,c.2.2.2.1,0,0) >>= Zs6 a b n c.2.2.2.2
noncomputable def hiE (s:Sh5):StateT SortSt Sem (Array Keyed):=match s.1 with
 | some r=>pure r
 | none=>liftM (unsupported "internal:list.sort.merge-bound":Sem (Array Keyed))
noncomputable def hiM (a b:Array Keyed) (n:Nat) (z0:Sh5):StateT SortSt Sem (Array Keyed):=(forIn [0:n] z0 fun _ c=>hiO a b n c) >>= hiE
noncomputable def Zrq (a b:Array Keyed):StateT SortSt Sem (Array Keyed):=(liftM (rule "list.sort.merge-hi"):StateT SortSt Sem Unit) >>= fun _=>elem' a (a.size - 1) >>= fun x=>if (a.size - 1 == 0) = true then pure (a.extract 0 (a.size - 1) ++ b.extract 0 b.size ++ #[x].reverse) else if (b.size == 1) = true then pure (b.extract 0 b.size ++ a.extract 0 (a.size - 1) ++ #[x].reverse) else get >>= fun s=>hiM a b (a.size + b.size) (none,a.size - 1,b.size,#[x],gallopOf s)
set_option smartUnfolding false in
theorem Zj7 (a b:Array Keyed):Zjt a b = Zrq a b:=by rfl
theorem Zpy (H:Hi prog w A E G κ it lt N la lb st) (hs:ZaG st st') (m:ZfY lt la lb n out na nb) (t mg ac bc:Nat):TT (model prog w) A E G (hiS (Zad it la) (Zad it lb) t (none,na,nb,Zad it out,mg,ac,bc)) (fun c st3=>ZaG st st3 ∧ DH lt it la lb n c.1 c.2.1 c.2.2.1 c.2.2.2.1) st':=by
 refine Zbf (I:=fun _ c st3=>ZaG st st3 ∧ YH lt it la lb n c.1 c.2.1 c.2.2.1 c.2.2.2.1) ?_ (fun c st3 h=>⟨h.1,.inr h.2⟩) ⟨hs,rfl,out,rfl,m⟩
 rintro y ⟨e1,e2,e3,e4,e5,e6,e7⟩ st3 _ _ ⟨hs,hr,out,ho,m⟩
 dsimp only at hr ho m
 subst hr ho
 refine ZaC (fun _=>ZaT (ZnA H hs m (e5 - 1) e5 e6 e7) fun r st4 h=>?_) fun _=>ZaT (ZnA H hs m e5 e5 e6 e7) fun r st4 h=>?_
 ·cases r with
  | done c=>exact h
  | yield c=>exact h
 ·cases r with
  | done c=>exact h
  | yield c=>exact h
theorem ZqO (H:Hi prog w A E G κ it lt N la lb st) (hs:ZaG st st') (m:ZfY lt la lb n out na nb) (mg:Nat):TT (model prog w) A E G (hiF (Zad it la) (Zad it lb) ((Zad it la).size + (Zad it lb).size) mg (none,na,nb,Zad it out,0,0)) (fun c st3=>ZaG st st3 ∧ DH lt it la lb (n + 1) c.1 c.2.1 c.2.2.1 c.2.2.2.1) st':=by
 refine Zbf (I:=fun y c st3=>ZaG st st3 ∧ YH lt it la lb (n + y) c.1 c.2.1 c.2.2.1 c.2.2.2.1) ?_ ?_ ⟨hs,rfl,out,rfl,m⟩
 ·rintro y ⟨d1,d2,d3,d4,d5,d6⟩ st'' _ hy ⟨hs,hr,out,ho,m⟩
  dsimp only at hr ho m
  subst hr ho
  refine ZaT (Zp7 H hs m mg d5 d6) fun r st3 h=>?_
  cases r with
  | done c=>exact ⟨h.1,DH.le h.2 (by omega)⟩
  | yield c=>exact h
 ·rintro c st'' ⟨hs,y⟩
  have m1:=m.a
  have m2:=m.ha
  rw [Nat.zero_max,Zz,Zz] at y
  exact ⟨hs,.inr (YH.le y (by omega))⟩
theorem ZqE (H:Hi prog w A E G κ it lt N la lb st) (hs:ZaG st st') (m:ZfY lt la lb n out na nb) (mg:Nat):TT (model prog w) A E G (hiO (Zad it la) (Zad it lb) ((Zad it la).size + (Zad it lb).size) (none,na,nb,Zad it out,mg))
  (fun r st3=>match r with | .done c=>ZaG st st3 ∧ ∃ l,c.1 = some (Zad it l) ∧ RR lt la lb l | .yield c=>ZaG st st3 ∧ YH lt it la lb (n + 1) c.1 c.2.1 c.2.2.1 c.2.2.2.1) st':=by
 refine Zo (ZaT (ZqO H hs m mg) ?_)
 rintro ⟨d1,d2,d3,d4,d5,d6⟩ st'' ⟨hs,⟨l,hl',rr⟩ | ⟨hn,out,ho,m⟩⟩
 ·dsimp only at hl'
  subst hl'
  exact Zt ⟨hs,l,rfl,rr⟩
 ·dsimp only at hn ho m
  subst hn ho
  refine Zo (Ze7 (Zo (ZaT (Zpy H hs m _ _ _ _) ?_)))
  rintro ⟨e1,e2,e3,e4,e5,e6,e7⟩ st3 ⟨hs,⟨l,hl',rr⟩ | ⟨hn,out,ho,m⟩⟩
  ·dsimp only at hl'
   subst hl'
   exact Zt ⟨hs,l,rfl,rr⟩
  ·dsimp only at hn ho m
   subst hn ho
   exact Zo (ZbV (Zt ⟨hs.gal _,rfl,out,rfl,m⟩))
theorem Zqu (H:Hi prog w A E G κ it lt N la lb st) (hs:ZaG st st') (m:ZfY lt la lb (0 + 1) out na nb) (mg:Nat) {Q:Array Keyed → SortSt → Prop} (h:∀ r st',RR lt la lb r → ZaG st st' → Q (Zad it r) st'):TT (model prog w) A E G (hiM (Zad it la) (Zad it lb) ((Zad it la).size + (Zad it lb).size) (none,na,nb,Zad it out,mg)) Q st':=by
 refine Zo (ZaT (Zbf (I:=fun x c st'=>ZaG st st' ∧ YH lt it la lb (x + 1) c.1 c.2.1 c.2.2.1 c.2.2.2.1) (Q:=fun c st'=>ZaG st st' ∧ ∃ l,c.1 = some (Zad it l) ∧ RR lt la lb l) ?_ ?_ ⟨hs,rfl,out,rfl,m⟩) ?_)
 ·rintro x ⟨c1,c2,c3,c4,c5⟩ st' _ hx ⟨hs,hr,out,ho,m⟩
  dsimp only at hr ho m
  subst hr ho
  refine ZaT (ZqE H hs m c5) fun r st3 h=>?_
  cases r <;> exact h
 ·rintro c st' ⟨hs,hr,out,ho,m⟩
  have m1:=m.n
  have m2:=m.a
  have m3:=m.b
  rw [Nat.zero_max,Zz,Zz] at m1
  clear h hs hr ho H
  omega
 ·rintro ⟨d1,d2,d3,d4,d5⟩ st' ⟨hs,l,hl',rr⟩
  dsimp only at hl'
  subst hl'
  exact Zt (h l st' rr hs)
theorem Zlg (H:Hi prog w A E G κ it lt N la lb st) {a1:Nat} (h0:la[la.length - 1]? = some a1) (hf:∀ y ∈ lb,lt a1 y = false) (hl:0 < lb.length) {Q:Array Keyed → SortSt → Prop}
  (h:∀ r st',RR lt la lb r → ZaG st st' → Q (Zad it r) st'):TT (model prog w) A E G (Zjt (Zad it la) (Zad it lb)) Q st:=by
 have la0:0 < la.length:=by have:=(List.getElem?_eq_some_iff.mp h0).1; omega
 have w0:W (fl lt) lb.reverse la.reverse [a1] (lb.length - lb.length) (la.length - (la.length - 1)):=by
  have:=H.putA (out:=[]) (na:=la.length) (nb:=lb.length) ⟨by simp,by simp [Srt],by simp,by simp,by simp,by simp⟩ la0 (Nat.le_refl _) h0 (by
   intro z hz
   rw [Nat.sub_self,List.drop_zero] at hz
   exact hf z (List.mem_reverse.mp hz))
  simpa using this
 have h0':(Zad it la)[(Zad it la).size - 1]? = some (kas_item it a1):=by rw [Zz]; exact ZaN h0
 rw [Zj7]
 refine Zo (Ze7 (Zo (Za1 h0' (ZaC (fun c1=>?_) fun c1=>ZaC (fun c2=>?_) fun c2=>Zo (ZeC (Zqu H (out:=[a1]) (ZaG.refl _) ?_ _ h))))))
 ·have e:la.length - 1 = 0:=by rw [Zz] at c1; simpa using c1
  have:=h _ _ (H.endA w0 e (Nat.le_refl _)) (ZaG.refl _)
  rw [← ZaH,← ZaH,← ZdR,← Zcj,← Zcj,← Zz (it:=it) la,← Zz (it:=it) lb] at this
  exact Zt this
 ·have e:lb.length = 1:=by rw [Zz] at c2; simpa using c2
  have:=h _ _ (H.first w0 e (by omega) hl) (ZaG.refl _)
  rw [← ZaH,← ZaH,← ZdR,← Zcj,← Zcj,← Zz (it:=it) la,← Zz (it:=it) lb] at this
  exact Zt this
 ·have l1:¬ la.length - 1 = 0:=by rw [Zz] at c1; simpa using c1
  have l2:¬ lb.length = 1:=by rw [Zz] at c2; simpa using c2
  rw [Zz,Zz]
  clear c1 c2 h hf h0 h0' H
  exact ⟨w0,by omega,by omega,by omega,Nat.le_refl _,by omega⟩
end
end
end L3
namespace L3
open PySem PySem.W PyProof.Rows
section
variable {prog:Program} {w:World} {A:Around} {E:Value → Shared → Prop} {G:Shared → Prop} {κ:SortKind} {it:Array Keyed} {lt:Nat → Nat → Bool} {N:Nat}
structure SS (κ:SortKind) (it:Array Keyed) (st:SortSt) (l:List Nat) (pd:Array (Nat × Nat × Nat)):Prop where
 kind:kindOf st = κ
 arr:arrOf st = Zad it l
 pend:pendingOf st = pd
 fail:failedOf st = none
section
variable {st:SortSt} {l:List Nat} {pd:Array (Nat × Nat × Nat)}
theorem ZfX (K:Cmp prog w A E G κ it lt N) (S:SS κ it st l pd) {i j x y:Nat} (hi:l[i]? = some x) (hj:l[j]? = some y) (xN:x < N) (yN:y < N) {Q:Option Bool → SortSt → Prop} (h:Q (some (lt x y)) st):TT (model prog w) A E G (ltAt' i j) Q st:=by
 rw [ltAt'_eq]
 refine Zo (ZeC ?_)
 show TT _ _ _ _ (elem' (arrOf st) i >>= fun a=>elem' (arrOf st) j >>= fun b=>lt' a b) _ _
 rw [S.arr]
 exact Zo (Za1 (ZaN hi) (Zo (Za1 (ZaN hj) (Zj9 K S.kind xN yN h))))
theorem Zkd (X B C:List Nat):mirror (Zad it (X ++ B ++ C)) X.length (X.length + B.length) ((X.length + B.length - X.length) / 2) = Zad it (X ++ B.reverse ++ C):=by
 apply Array.ext_getElem?
 intro k
 rw [getElem?_mirror_all (by rw [Zz]; simp)]
 simp only [Zad,List.getElem?_toArray,List.getElem?_map]
 congr 1
 by_cases h:X.length ≤ k ∧ k < X.length + B.length
 ·obtain ⟨j,rfl⟩:∃ j,k = X.length + j:=⟨k - X.length,by omega⟩
  rw [if_pos h,show X.length + (X.length + B.length) - 1 - (X.length + j) = X.length + (B.length - 1 - j) by omega,List.append_assoc,List.append_assoc,ZaV,ZaV,List.getElem?_append_left (by omega),List.getElem?_append_left (by rw [List.length_reverse]; omega),List.getElem?_reverse (by omega)]
 ·rw [if_neg h]
  by_cases h2:k < X.length
  ·rw [List.append_assoc,List.append_assoc,List.getElem?_append_left h2,List.getElem?_append_left h2]
  ·rw [List.getElem?_append_right (by simp; omega),List.getElem?_append_right (by simp; omega)]
   simp
theorem Zjh (X B C:List Nat) (S:SS κ it st (X ++ B ++ C) pd) {i j:Nat} (hi:i = X.length) (hj:j = X.length + B.length) {Q:Unit → SortSt → Prop} (h:∀ st',SS κ it st' (X ++ B.reverse ++ C) pd → Q () st') {M:Model}:TT M A E G (reverseSlice' i j) Q st:=by
 subst hi hj
 rw [reverseSlice'_eq]
 refine ZbV (h _ ⟨S.kind,?_,S.pend,S.fail⟩)
 show mirror (arrOf st) _ _ _ = _
 rw [S.arr]; exact Zkd X B C
theorem ZjP (X B C:List Nat) (x:Nat):bubble (Zad it (X ++ B ++ x :: C)) (X.length + B.length) (X.length + B.length - X.length) = Zad it (X ++ x :: B ++ C):=by
 apply Array.ext_getElem?
 intro k
 rw [getElem?_bubble (by rw [Zz]; simp) _ (by omega)]
 simp only [Zad,List.getElem?_toArray,List.getElem?_map,← apply_ite (Option.map (kas_item it))]
 congr 1
 rw [show X.length + B.length - (X.length + B.length - X.length) = X.length by omega]
 by_cases h1:k = X.length
 ·subst h1
  rw [if_pos rfl,List.getElem?_append_right (by simp)]
  simp
 ·rw [if_neg h1]
  by_cases h2:X.length < k ∧ k ≤ X.length + B.length
  ·obtain ⟨j,rfl⟩:∃ j,k = X.length + (j + 1):=⟨k - X.length - 1,by omega⟩
   rw [if_pos h2,show X.length + (j + 1) - 1 = X.length + j by omega,List.append_assoc,List.append_assoc,ZaV,ZaV,List.getElem?_append_left (by omega),List.cons_append,List.getElem?_cons_succ,List.getElem?_append_left (by omega)]
  ·rw [if_neg h2]
   by_cases h3:k < X.length
   ·rw [List.append_assoc,List.append_assoc,List.getElem?_append_left h3,List.getElem?_append_left h3]
   ·obtain ⟨j,rfl⟩:∃ j,k = X.length + B.length + (j + 1):=⟨k - X.length - B.length - 1,by omega⟩
    have e1:(X ++ B ++ x :: C)[X.length + B.length + (j + 1)]? = (x :: C)[j + 1]?:=by rw [← List.length_append]; exact ZaV _ _ _
    have e2:(X ++ x :: B ++ C)[X.length + B.length + (j + 1)]? = C[j]?:=by
     rw [show X.length + B.length + (j + 1) = (X ++ x :: B).length + j by simp; omega]; exact ZaV _ _ _
    rw [e1,e2]; rfl
theorem Zok (X B C:List Nat) (x:Nat) (S:SS κ it st (X ++ B ++ x :: C) pd) {i j:Nat} (hi:i = X.length + B.length) (hj:j = X.length) {Q:Unit → SortSt → Prop} (h:∀ st',SS κ it st' (X ++ x :: B ++ C) pd → Q () st') {M:Model}:TT M A E G (moveDown' i j) Q st:=by
 subst hi hj
 rw [moveDown'_eq]
 refine ZbV (h _ ⟨S.kind,?_,S.pend,S.fail⟩)
 show bubble (arrOf st) _ _ = _
 rw [S.arr]; exact ZjP X B C x
theorem Zns (o:ZfK lt) {U:List Nat} {n x y:Nat} (s:Srt lt (U.take n)) (h1:1 ≤ n) (hx:U[n - 1]? = some x) (hy:U[n]? = some y) (h:lt y x = false):Srt lt (U.take (n + 1)):=by
 have tk:U.take (n + 1) = U.take n ++ [y]:=by rw [List.take_add_one,hy]; rfl
 have tk':U.take n = U.take (n - 1) ++ [x]:=by
  have:U.take (n - 1 + 1) = U.take (n - 1) ++ [x]:=by rw [List.take_add_one,hx]; rfl
  rwa [show n - 1 + 1 = n by omega] at this
 rw [tk]
 refine List.pairwise_append.mpr ⟨s,by simp,fun u hu z hz=>?_⟩
 rw [List.mem_singleton] at hz
 subst hz
 rw [tk'] at hu
 rcases List.mem_append.mp hu with hu | hu
 ·have s':Srt lt (U.take (n - 1) ++ [x]):=by rw [← tk']; exact s
  exact o.tr ((List.pairwise_append.mp s').2.2 u hu x (by simp)) h
 ·rw [List.mem_singleton] at hu; rw [hu]; exact h
theorem Zm0 (K:Cmp prog w A E G κ it lt N) {P0 U:List Nat} (S:SS κ it st (P0 ++ U) pd) (hN:∀ x ∈ P0 ++ U,x < N) {lo a nrem:Nat} (hlo:lo = P0.length) (hn:nrem = U.length) (h1:1 ≤ a) (ha:a ≤ nrem) (s:Srt lt (U.take a)) {Q:Option (Option Nat) × Nat → SortSt → Prop}
  (h:∀ n,a ≤ n → n ≤ nrem → Srt lt (U.take n) → (n < nrem → ∀ x y,U[n - 1]? = some x → U[n]? = some y → lt y x = true) → Q (none,n) st):
  TT (model prog w) A E G (forIn [a:nrem] ((none,a):Option (Option Nat) × Nat) fun _ z=>ltAt' (lo + z.2) (lo + z.2 - 1) >>= fun q=>match q with
   | some y=>if y = true then pure (ForInStep.done (none,z.2)) else pure (ForInStep.yield (none,z.2 + 1))
   | _=>pure (ForInStep.done (some none,z.2))) Q st:=by
 subst hlo hn
 refine Zbf (I:=fun x c st'=>st' = st ∧ c = (none,x) ∧ x ≤ U.length ∧ Srt lt (U.take x)) ?_ ?_ ⟨rfl,rfl,ha,s⟩
 ·rintro x c st' hx1 hx ⟨rfl,rfl,hx2,sx⟩
  have e1:U[x]? = some U[x]:=List.getElem?_eq_getElem _
  have e0:U[x - 1]? = some (U[x - 1]'(by omega)):=List.getElem?_eq_getElem _
  have g1:(P0 ++ U)[P0.length + x]? = some U[x]:=by rw [List.getElem?_append_right (by omega),Nat.add_sub_cancel_left,e1]
  have g0:(P0 ++ U)[P0.length + x - 1]? = some (U[x - 1]'(by omega)):=by rw [List.getElem?_append_right (by omega),show P0.length + x - 1 - P0.length = x - 1 by omega,e0]
  generalize U[x] = u at e1 g1
  generalize U[x - 1]'(by omega) = v at e0 g0
  refine Zo (ZfX K S g1 g0 (hN u (List.mem_of_getElem? g1)) (hN v (List.mem_of_getElem? g0)) ?_)
  cases c:lt u v with
  | true=>
   show TT _ _ _ _ (if true = true then _ else _) _ _
   rw [if_pos rfl]
   refine Zt (h x (by omega) hx2 sx fun _ x' y' hx' hy'=>?_)
   rw [e0] at hx'; cases hx'
   rw [e1] at hy'; cases hy'
   exact c
  | false=>
   show TT _ _ _ _ (if false = true then _ else _) _ _
   rw [if_neg (by decide)]
   exact Zt ⟨rfl,rfl,hx,Zns K.ok sx (by omega) e0 e1 c⟩
 ·rintro c st' ⟨rfl,rfl,hx2,sx⟩
  rw [Nat.max_eq_right ha] at sx hx2 ⊢
  exact h _ ha (Nat.le_refl _) sx fun hlt=>absurd hlt (Nat.lt_irrefl _)
end
end
end L3
namespace L3
open PySem PySem.W PyProof.Rows
section
variable {prog:Program} {w:World} {A:Around} {E:Value → Shared → Prop} {G:Shared → Prop} {κ:SortKind} {it:Array Keyed} {lt:Nat → Nat → Bool} {N:Nat}
variable {st:SortSt} {pd:Array (Nat × Nat × Nat)}
structure Dn (lt:Nat → Nat → Bool) (T X B:List Nat) (neq:Nat):Prop where
 e:T = X ++ B
 len:B.length = neq + 1
 s:Srt (fl lt) T
 eq:∀ x ∈ B,∀ y ∈ B,lt x y = false
theorem Dn.rev {T X B:List Nat} {neq:Nat} (d:Dn lt T X B neq):Srt (fl lt) (X ++ B.reverse):=by
 have s:=d.s
 rw [d.e] at s
 obtain ⟨s1,s2,s3⟩:=List.pairwise_append.mp s
 refine List.pairwise_append.mpr ⟨s1,?_,fun x hx y hy=>s3 x hx y (List.mem_reverse.mp hy)⟩
 exact List.pairwise_of_forall_mem_list fun x hx y hy=>d.eq x (List.mem_reverse.mp hx) y (List.mem_reverse.mp hy)
theorem Dn.last {T X B:List Nat} {neq z:Nat} (d:Dn lt T X B neq) (hz:B[neq]? = some z):∀ x ∈ T,lt x z = false:=fun x hx=>by
 have zB:=List.mem_of_getElem? hz
 rw [d.e] at hx
 rcases List.mem_append.mp hx with hx | hx
 ·have s:=d.s
  rw [d.e] at s
  exact (List.pairwise_append.mp s).2.2 x hx z zB
 ·exact d.eq x hx z zB
theorem ZlI (o:ZfK lt) {T:List Nat} {u z:Nat} (s:Srt (fl lt) T) (h:∀ x ∈ T,lt x z = false) (hu:lt z u = false):Srt (fl lt) (T ++ [u]):=by
 refine List.pairwise_append.mpr ⟨s,by simp,fun x hx y hy=>?_⟩
 rw [List.mem_singleton] at hy
 rw [hy]
 exact o.tr hu (h x hx)
theorem ZoA (K:Cmp prog w A E G κ it lt N) {P0 R T X B:List Nat} {n:Nat} (S:SS κ it st (P0 ++ T ++ R.drop n) pd) (hN:∀ x ∈ P0 ++ R,x < N) (hp:T.Perm (R.take n)) (hT:T.length = n) (d:Dn lt T X B 0) {lo nrem:Nat} (hlo:lo = P0.length) (hn:nrem = R.length) (h1:n ≤ nrem) {Q:Option (Option Nat) × Nat × Nat → SortSt → Prop}
  (h:∀ n T X B neq st',n ≤ nrem → SS κ it st' (P0 ++ T ++ R.drop n) pd → T.Perm (R.take n) → T.length = n → Dn lt T X B neq → Q (none,n,neq) st'):
  TT (model prog w) A E G (forIn [n:nrem] ((none,n,0):Option (Option Nat) × Nat × Nat) fun _ z=>ltAt' (lo + z.2.1) (lo + z.2.1 - 1) >>= fun q=>match q with
   | some y=>if y = true then (if z.2.2 > 0 then reverseSlice' (lo + z.2.1 - (z.2.2 + 1)) (lo + z.2.1) >>= fun _=>pure (ForInStep.yield (none,z.2.1 + 1,0)) else pure (ForInStep.yield (none,z.2.1 + 1,0)))
    else ltAt' (lo + z.2.1 - 1) (lo + z.2.1) >>= fun q=>match q with
     | some y=>if y = true then pure (ForInStep.done (none,z.2.1,z.2.2)) else pure (ForInStep.yield (none,z.2.1 + 1,z.2.2 + 1))
     | _=>pure (ForInStep.done (some none,z.2.1,z.2.2))
   | _=>pure (ForInStep.done (some none,z.2.1,z.2.2))) Q st:=by
 subst hlo hn
 have o:=K.ok
 refine Zbf (I:=fun x c st'=>x ≤ R.length ∧ ∃ T X B neq,c = (none,x,neq) ∧ SS κ it st' (P0 ++ T ++ R.drop x) pd ∧ T.Perm (R.take x) ∧ T.length = x ∧ Dn lt T X B neq) ?_ ?_ ⟨h1,T,X,B,0,rfl,S,hp,hT,d⟩
 ·rintro x c st' _ hx ⟨_,T,X,B,neq,rfl,S,hp,hT,d⟩
  have bl:=d.len
  have hu:R[x]? = some R[x]:=List.getElem?_eq_getElem _
  have hz:B[neq]? = some (B[neq]'(by omega)):=List.getElem?_eq_getElem _
  have dr:R.drop x = R[x] :: R.drop (x + 1):=List.drop_eq_getElem_cons hx
  have tk:R.take (x + 1) = R.take x ++ [R[x]]:=by rw [List.take_add_one,hu]; rfl
  have uN:=hN R[x] (List.mem_append_right _ (List.getElem_mem hx))
  generalize R[x] = u at hu dr tk uN
  generalize B[neq]'(by omega) = z at hz
  have zN:z < N:=by
   have:z ∈ T:=by rw [d.e]; exact List.mem_append_right _ (List.mem_of_getElem? hz)
   exact hN z (List.mem_append_right _ (List.mem_of_mem_take (hp.mem_iff.mp this)))
  have g1:(P0 ++ T ++ R.drop x)[P0.length + x]? = some u:=by
   rw [dr,show P0.length + x = (P0 ++ T).length + 0 by simp [hT],ZaV]; rfl
  have g0:(P0 ++ T ++ R.drop x)[P0.length + x - 1]? = some z:=by
   have xl:X.length + (neq + 1) = x:=by rw [← hT,d.e,List.length_append,bl]
   rw [List.append_assoc,show P0.length + x - 1 = P0.length + (X.length + neq) by omega,ZaV,d.e,List.append_assoc,ZaV,List.getElem?_append_left (by omega),hz]
  have lz:=d.last hz
  refine Zo (ZfX K S g1 g0 uN zN ?_)
  cases c:lt u z with
  | true=>
   show TT _ _ _ _ (if true = true then _ else _) _ _
   rw [if_pos rfl]
   have zu:=o.asym c
   have fin:∀ st'' B',(∀ y,y ∈ B' ↔ y ∈ B) → Srt (fl lt) (X ++ B') → B'.length = B.length → (X ++ B').Perm (R.take x) → SS κ it st'' (P0 ++ (X ++ B') ++ R.drop x) pd → x + 1 ≤ R.length ∧ ∃ T X B neq,((none,x + 1,0):Option (Option Nat) × Nat × Nat) = (none,x + 1,neq) ∧ SS κ it st'' (P0 ++ T ++ R.drop (x + 1)) pd ∧ T.Perm (R.take (x + 1)) ∧ T.length = x + 1 ∧ Dn lt T X B neq:=fun st'' B' hm hs hl hpp S'=>by
    refine ⟨hx,X ++ B' ++ [u],X ++ B',[u],0,rfl,?_,?_,?_,rfl,rfl,?_,?_⟩
    ·rw [dr] at S'
     simpa using S'
    ·rw [tk]; exact hpp.append_right [u]
    ·have:=congrArg List.length d.e
     rw [List.length_append] at this
     rw [List.length_append,List.length_append,hl]
     show _ + 1 = _
     omega
    ·exact ZlI o hs (fun y hy=>lz y (by
      rw [d.e]
      rcases List.mem_append.mp hy with hy | hy
      ·exact List.mem_append_left _ hy
      ·exact List.mem_append_right _ ((hm y).mp hy))) zu
    ·intro a ha b hb
     rw [List.mem_singleton] at ha hb
     rw [ha,hb]; exact o.rf _
   refine ZaC (fun n0=>?_) fun n0=>?_
   ·have S':SS κ it st' (P0 ++ X ++ B ++ R.drop x) pd:=by
     have:=S
     rw [d.e] at this
     simpa using this
    have xl:X.length + (neq + 1) = x:=by rw [← hT,d.e,List.length_append,bl]
    refine Zo (Zjh (P0 ++ X) B (R.drop x) S' (by simp; omega) (by simp; omega) fun st'' S''=>Zt (fin st'' B.reverse (fun y=>List.mem_reverse) d.rev (by simp) ?_ (by simpa using S'')))
    rw [d.e] at hp
    exact (List.Perm.append_left _ (List.reverse_perm B)).trans hp
   ·have:neq = 0:=by dsimp only at n0; omega
    subst this
    refine Zt (fin st' B (fun _=>Iff.rfl) (by rw [← d.e]; exact d.s) rfl (by rw [← d.e]; exact hp) (by rw [← d.e]; exact S))
  | false=>
   show TT _ _ _ _ (if false = true then _ else _) _ _
   rw [if_neg (by decide)]
   refine Zo (ZfX K S g0 g1 zN uN ?_)
   cases c2:lt z u with
   | true=>
    show TT _ _ _ _ (if true = true then _ else _) _ _
    rw [if_pos rfl]
    exact Zt (h x T X B neq st' (by omega) S hp hT d)
   | false=>
    show TT _ _ _ _ (if false = true then _ else _) _ _
    rw [if_neg (by decide)]
    refine Zt ⟨hx,T ++ [u],X,B ++ [u],neq + 1,rfl,?_,?_,by simp [hT],by rw [d.e,List.append_assoc],by simp [bl],ZlI o d.s lz c2,?_⟩
    ·have:=S
     rw [dr] at this
     simpa using this
    ·rw [tk]; exact hp.append_right [u]
    ·have zB:=List.mem_of_getElem? hz
     intro a ha b hb
     rcases List.mem_append.mp ha with ha | ha <;> rcases List.mem_append.mp hb with hb | hb
     ·exact d.eq a ha b hb
     ·rw [List.mem_singleton] at hb; rw [hb]; exact o.tr c2 (d.eq a ha z zB)
     ·rw [List.mem_singleton] at ha; rw [ha]; exact o.tr (d.eq z zB b hb) c
     ·rw [List.mem_singleton] at ha hb; rw [ha,hb]; exact o.rf _
 ·rintro c st' ⟨_,T,X,B,neq,rfl,S,hp,hT,d⟩
  rw [Nat.max_eq_right h1] at S hp hT ⊢
  exact h _ T X B neq st' (Nat.le_refl _) S hp hT d
end
end L3
namespace L3
open PySem PySem.W PyProof.Rows
section
variable {prog:Program} {w:World} {A:Around} {E:Value → Shared → Prop} {G:Shared → Prop} {κ:SortKind} {it:Array Keyed} {lt:Nat → Nat → Bool} {N:Nat}
variable {st:SortSt} {l':List Nat} {pd:Array (Nat × Nat × Nat)}
theorem Zl8 (R:List Nat):Srt lt (R.take 1):=by
 cases R <;> simp [Srt]
theorem ZeD {l:List Nat} (s:Srt lt l) {i j x y:Nat} (h:i < j) (hi:l[i]? = some x) (hj:l[j]? = some y):lt y x = false:=by
 obtain ⟨a,rfl⟩:=List.getElem?_eq_some_iff.mp hi
 obtain ⟨b,rfl⟩:=List.getElem?_eq_some_iff.mp hj
 exact List.pairwise_iff_getElem.mp s i j a b h
theorem take_snoc {R:List Nat} {n u:Nat} (h:R[n]? = some u):R.take (n + 1) = R.take n ++ [u]:=by rw [List.take_add_one,h]; rfl
theorem Zn4 (K:Cmp prog w A E G κ it lt N) {P0 R:List Nat} (S:SS κ it st (P0 ++ R) pd) (hN:∀ x ∈ P0 ++ R,x < N) {lo n:Nat} (hlo:lo = P0.length) (h1:1 ≤ n) (hn:n ≤ R.length) (s:Srt lt (R.take n)) {jp:PUnit → StateT SortSt Sem (Option Nat)} {Q:Option Nat → SortSt → Prop} (hq:Q (some n) st)
  (h:∀ T st',T.Perm (R.take n) → (∀ x ∈ T,∀ y ∈ T,lt x y = false) → SS κ it st' (P0 ++ T ++ R.drop n) pd → TT (model prog w) A E G (jp ⟨⟩) Q st'):
  TT (model prog w) A E G (if n > 1 then ltAt' lo (lo + n - 1) >>= fun q=>match q with
   | some y=>if y = true then pure (some n) else reverseSlice' lo (lo + n) >>= fun y=>jp y
   | _=>pure none else jp ⟨⟩) Q st:=by
 subst hlo
 have o:=K.ok
 have S0:SS κ it st (P0 ++ R.take n ++ R.drop n) pd:=by rw [List.append_assoc,List.take_append_drop]; exact S
 refine ZaC (fun c=>?_) fun c=>?_
 ·have e1:R[0]? = some (R[0]'(by omega)):=List.getElem?_eq_getElem _
  have e0:R[n - 1]? = some (R[n - 1]'(by omega)):=List.getElem?_eq_getElem _
  have g1:(P0 ++ R)[P0.length]? = some (R[0]'(by omega)):=by rw [List.getElem?_append_right (by omega),Nat.sub_self,e1]
  have g0:(P0 ++ R)[P0.length + n - 1]? = some (R[n - 1]'(by omega)):=by rw [List.getElem?_append_right (by omega),show P0.length + n - 1 - P0.length = n - 1 by omega,e0]
  generalize R[0]'(by omega) = u at e1 g1
  generalize R[n - 1]'(by omega) = v at e0 g0
  refine Zo (ZfX K S g1 g0 (hN u (List.mem_of_getElem? g1)) (hN v (List.mem_of_getElem? g0)) ?_)
  cases c:lt u v with
  | true=>
   show TT _ _ _ _ (if true = true then _ else _) _ _
   rw [if_pos rfl]
   exact Zt hq
  | false=>
   show TT _ _ _ _ (if false = true then _ else _) _ _
   rw [if_neg (by decide)]
   refine Zo (Zjh P0 (R.take n) (R.drop n) S0 rfl (by rw [List.length_take,Nat.min_eq_left hn]) fun st' S'=>h _ st' (List.reverse_perm _) (fun x hx y hy=>?_) S')
   have f0:∀ x ∈ R.take n,lt x u = false ∧ lt v x = false:=fun x hx=>by
    obtain ⟨i,hi,rfl⟩:=List.getElem_of_mem hx
    rw [List.length_take,Nat.min_eq_left hn] at hi
    have tu:(R.take n)[0]? = some u:=by rw [List.getElem?_take_of_lt (by omega),e1]
    have tv:(R.take n)[n - 1]? = some v:=by rw [List.getElem?_take_of_lt (by omega),e0]
    have ti:(R.take n)[i]? = some ((R.take n)[i]'(by rw [List.length_take]; omega)):=List.getElem?_eq_getElem _
    generalize (R.take n)[i]'(by rw [List.length_take]; omega) = z at ti ⊢
    refine ⟨?_,?_⟩
    ·rcases Nat.eq_zero_or_pos i with q | q
     ·subst q; rw [tu] at ti; cases ti; exact o.rf _
     ·exact ZeD s q tu ti
    ·rcases Nat.eq_or_lt_of_le (Nat.le_sub_one_of_lt hi) with q | q
     ·subst q; rw [tv] at ti; cases ti; exact o.rf _
     ·exact ZeD s q ti tv
   exact o.tr (o.tr (f0 y (List.mem_reverse.mp hy)).2 c) (f0 x (List.mem_reverse.mp hx)).1
 ·have:n = 1:=by omega
  subst this
  refine h _ st (List.Perm.refl _) (fun x hx y hy=>?_) S0
  cases R with
  | nil=>cases hx
  | cons a R=>
   rw [List.take_succ_cons,List.take_zero,List.mem_singleton] at hx hy
   rw [hx,hy]; exact o.rf _
theorem Zrz {α:Type} {b:Prop} [Decidable b] {m:StateT SortSt Sem PUnit} {jp:PUnit → StateT SortSt Sem α} {M:Model} {Q:α → SortSt → Prop} (h:∀ st',SS κ it st' l' pd → TT M A E G (jp ⟨⟩) Q st') (h1:b → (∀ st',SS κ it st' l' pd → TT M A E G (jp ⟨⟩) Q st') → TT M A E G m (fun y st'=>TT M A E G (jp y) Q st') st) (h2:¬ b → SS κ it st l' pd):TT M A E G (if b then m >>= fun y=>jp y else jp ⟨⟩) Q st:=
 ZaC (fun c=>Zo (h1 c h)) fun c=>h st (h2 c)
theorem Zm5 (K:Cmp prog w A E G κ it lt N) {P0 R:List Nat} (S:SS κ it st (P0 ++ R) pd) (hN:∀ x ∈ P0 ++ R,x < N) {lo nrem:Nat} (hlo:lo = P0.length) (hn:nrem = R.length) (h1:1 ≤ nrem) {Q:Option Nat → SortSt → Prop}
  (h:∀ m X st',1 ≤ m → m ≤ nrem → X.Perm (R.take m) → Srt lt X → SS κ it st' (P0 ++ X ++ R.drop m) pd → Q (some m) st'):TT (model prog w) A E G (countRun' lo nrem) Q st:=by
 rw [countRun'_eq]
 subst hlo hn
 have o:=K.ok
 refine Zo (Zm0 K S hN rfl rfl (Nat.le_refl 1) h1 (Zl8 R) fun n hn1 hn2 sn hlt=>?_)
 have q0:Q (some n) st:=h n (R.take n) st hn1 hn2 (List.Perm.refl _) sn (by rw [List.append_assoc,List.take_append_drop]; exact S)
 refine ZaC (fun _=>Zt q0) fun c0=>?_
 have hl:n < R.length:=by
  have:n ≠ R.length:=by simpa using c0
  omega
 refine Zn4 K S hN rfl hn1 hn2 sn q0 fun T st' hT aT S'=>?_
 refine Zo (Ze7 ?_)
 have e1:R[n]? = some R[n]:=List.getElem?_eq_getElem _
 have e0:R[n - 1]? = some (R[n - 1]'(by omega)):=List.getElem?_eq_getElem _
 have dr:R.drop n = R[n] :: R.drop (n + 1):=List.drop_eq_getElem_cons hl
 have c1:=hlt hl _ _ e0 e1
 generalize R[n] = u at e1 dr c1
 generalize R[n - 1]'(by omega) = v at e0 c1
 have tk:=take_snoc e1
 have Tl:T.length = n:=by rw [hT.length_eq,List.length_take,Nat.min_eq_left hn2]
 have vT:v ∈ T:=hT.mem_iff.mpr (List.mem_of_getElem? (i:=n - 1) (by rw [List.getElem?_take_of_lt (by omega),e0]))
 have d:Dn lt (T ++ [u]) T [u] 0:=⟨rfl,rfl,by
  refine List.pairwise_append.mpr ⟨List.pairwise_of_forall_mem_list aT,by simp,fun x hx y hy=>?_⟩
  rw [List.mem_singleton] at hy
  rw [hy]
  exact o.tr (o.asym c1) (aT x hx v vT),fun a ha b hb=>by
   rw [List.mem_singleton] at ha hb
   rw [ha,hb]; exact o.rf _⟩
 refine Zo (ZoA K (R:=R) (n:=n + 1) (by rw [dr] at S'; simpa using S') hN (by rw [tk]; exact hT.append_right [u]) (by simp [Tl]) d rfl rfl hl fun n T X B neq st' hn S hp hT d=>?_)
 have xl:X.length + (neq + 1) = n:=by rw [← hT,d.e,List.length_append,d.len]
 have bl:=d.len
 refine Zrz (κ:=κ) (it:=it) (pd:=pd) (l':=P0 ++ (X ++ B.reverse) ++ R.drop n) (fun st2 S2=>?_) (fun c hh=>?_) fun c=>?_
 ·refine Zo (Zjh P0 (X ++ B.reverse) (R.drop n) S2 rfl (by simp; omega) fun st3 S3=>?_)
  have pr:(X ++ B.reverse).reverse.Perm (R.take n):=by
   refine (List.reverse_perm _).trans (((List.reverse_perm B).append_left X).trans ?_)
   rw [← d.e]; exact hp
  have sr:Srt lt (X ++ B.reverse).reverse:=List.pairwise_reverse.mpr d.rev
  have ll:(X ++ B.reverse).reverse.length = n:=by simp; omega
  generalize (X ++ B.reverse).reverse = Y at S3 pr sr ll
  have S4:SS κ it st3 (P0 ++ (Y ++ R.drop n)) pd:=by rw [← List.append_assoc]; exact S3
  have pY:(Y ++ R.drop n).Perm R:=by
   have:=pr.append_right (R.drop n)
   rwa [List.take_append_drop] at this
  refine Zo (Zm0 K S4 (fun x hx=>hN x ?_) rfl pY.length_eq.symm (by omega) hn (by rw [List.take_left' ll]; exact sr) fun m hm1 hm2 sm _=>Zt (h m _ st3 (by omega) hm2 ?_ sm ?_))
  ·rcases List.mem_append.mp hx with hx | hx
   ·exact List.mem_append_left _ hx
   ·exact List.mem_append_right _ (pY.mem_iff.mp hx)
  ·have t1:(Y ++ R.drop n).take m = Y ++ (R.drop n).take (m - n):=by
    rw [List.take_append,ll,List.take_of_length_le (by omega)]
   have t2:R.take m = R.take n ++ (R.drop n).take (m - n):=by
    have:R.take (n + (m - n)) = R.take n ++ (R.drop n).take (m - n):=List.take_add
    rwa [show n + (m - n) = m by omega] at this
   rw [t1,t2]
   exact pr.append_right _
  ·have t3:R.drop m = (Y ++ R.drop n).drop m:=by
    rw [List.drop_append,ll,show Y.drop m = [] from List.drop_eq_nil_of_le (by omega),List.nil_append,List.drop_drop,show n + (m - n) = m by omega]
   rw [t3,List.append_assoc,List.take_append_drop]; exact S4
 ·have S':SS κ it st' (P0 ++ X ++ B ++ R.drop n) pd:=by
   have:=S
   rw [d.e] at this
   simpa using this
  exact Zjh (P0 ++ X) B (R.drop n) S' (by simp; omega) (by simp; omega) fun st2 S2=>hh st2 (by simpa using S2)
 ·have:neq = 0:=by dsimp only at c; omega
  subst this
  match B,bl with
  | [b],_=>
   rw [d.e] at S
   exact S
inductive BnI {α:Type} (lt:Nat → Nat → Bool) (X:List Nat) (u k:Nat) (st':SortSt) (x:Nat) (c:Option α × Nat × Nat) (st2:SortSt):Prop
 | mk (l r:Nat) (e0:st2 = st') (e:c = (none,l,r)) (a1:l ≤ r) (a2:r ≤ k) (a3:r - l ≤ k - x) (a4:∀ i z,i < l → X[i]? = some z → lt u z = false) (a5:∀ i z,r ≤ i → X[i]? = some z → lt u z = true)
inductive BnQ {α:Type} (lt:Nat → Nat → Bool) (X:List Nat) (u k:Nat) (st':SortSt) (c:Option α × Nat × Nat) (st2:SortSt):Prop
 | mk (l:Nat) (e0:st2 = st') (e1:c.1 = none) (e2:c.2.1 = l) (a2:l ≤ k) (a4:∀ i z,i < l → X[i]? = some z → lt u z = false) (a5:∀ i z,l ≤ i → X[i]? = some z → lt u z = true)
theorem Zoc (K:Cmp prog w A E G κ it lt N) {P0 R:List Nat} {lo n ok:Nat} (h1:1 ≤ ok) (h2:ok ≤ n) (hn:n ≤ R.length) {X:List Nat} (hX:X.Perm (R.take ok)) (sX:Srt lt X) (S:SS κ it st (P0 ++ X ++ R.drop ok) pd) (hN:∀ x ∈ P0 ++ R,x < N) (hlo:lo = P0.length) {Q:Bool → SortSt → Prop}
  (h:∀ X st',X.Perm (R.take n) → Srt lt X → SS κ it st' (P0 ++ X ++ R.drop n) pd → Q true st'):TT (model prog w) A E G (binarySort' lo n ok) Q st:=by
 rw [binarySort'_eq]
 subst hlo
 have o:=K.ok
 refine Zo (ZaT (Zbf (I:=fun k c st'=>c = (none,()) ∧ k ≤ n ∧ ∃ X,X.Perm (R.take k) ∧ Srt lt X ∧ SS κ it st' (P0 ++ X ++ R.drop k) pd)
  (Q:=fun c st'=>c = (none,()) ∧ ∃ X,X.Perm (R.take n) ∧ Srt lt X ∧ SS κ it st' (P0 ++ X ++ R.drop n) pd) ?_ ?_ ⟨rfl,by omega,X,?_⟩) ?_)
 ·rintro k c st' hk1 hk ⟨rfl,_,X,hX,sX,S⟩
  have e1:R[k]? = some (R[k]'(by omega)):=List.getElem?_eq_getElem _
  have dr:R.drop k = R[k]'(by omega) :: R.drop (k + 1):=List.drop_eq_getElem_cons (by omega)
  generalize R[k]'(by omega) = u at e1 dr
  have tk:=take_snoc e1
  have Xl:X.length = k:=by rw [hX.length_eq,List.length_take,Nat.min_eq_left (by omega)]
  have uN:u < N:=hN u (List.mem_append_right _ (List.mem_of_getElem? e1))
  have xN:∀ x ∈ X,x < N:=fun x hx=>hN x (List.mem_append_right _ (List.mem_of_mem_take (hX.mem_iff.mp hx)))
  rw [dr] at S
  have g1:(P0 ++ X ++ u :: R.drop (k + 1))[P0.length + k]? = some u:=by
   rw [show P0.length + k = (P0 ++ X).length + 0 by simp [Xl],ZaV]; rfl
  refine Zo (ZaT (Zbf (I:=BnI lt X u k st') (Q:=BnQ lt X u k st') ?_ ?_ ⟨0,k,rfl,rfl,by omega,by omega,by omega,fun i z hi=>by omega,fun i z hi hz=>?_⟩) ?_)
  ·rintro x c st2 _ hx ⟨l,r,rfl,rfl,a1,a2,a3,a4,a5⟩
   refine ZaC (fun c0=>?_) fun c0=>?_
   ·have:l = r:=by dsimp only at c0; omega
    subst this
    exact Zt ⟨l,rfl,rfl,rfl,a2,a4,a5⟩
   ·dsimp only at c0
    have m0:X[(l + r) / 2]? = some (X[(l + r) / 2]'(by omega)):=List.getElem?_eq_getElem _
    generalize X[(l + r) / 2]'(by omega) = v at m0
    have g0:(P0 ++ X ++ u :: R.drop (k + 1))[P0.length + (l + r) / 2]? = some v:=by
     rw [List.append_assoc,ZaV,List.getElem?_append_left (by omega),m0]
    refine Zo (ZfX K S g1 g0 uN (xN v (List.mem_of_getElem? m0)) ?_)
    cases c:lt u v with
    | true=>
     show TT _ _ _ _ (if true = true then _ else _) _ _
     rw [if_pos rfl]
     refine Zt ⟨l,(l + r) / 2,rfl,rfl,by omega,by omega,by omega,a4,fun i z hi hz=>?_⟩
     rcases Nat.eq_or_lt_of_le hi with q | q
     ·subst q; rw [m0] at hz; cases hz; exact c
     ·have zv:=ZeD sX q m0 hz
      cases cz:lt u z with
      | true=>rfl
      | false=>rw [o.tr zv cz] at c; cases c
    | false=>
     show TT _ _ _ _ (if false = true then _ else _) _ _
     rw [if_neg (by decide)]
     refine Zt ⟨(l + r) / 2 + 1,r,rfl,rfl,by omega,by omega,by omega,fun i z hi hz=>?_,a5⟩
     rcases Nat.eq_or_lt_of_le (Nat.le_of_lt_succ hi) with q | q
     ·subst q; rw [m0] at hz; cases hz; exact c
     ·exact o.tr (ZeD sX q hz m0) c
  ·rintro c st2 ⟨l,r,rfl,rfl,a1,a2,a3,a4,a5⟩
   have:l = r:=by omega
   subst this
   exact ⟨l,rfl,rfl,rfl,a2,a4,a5⟩
  ·obtain ⟨q,_⟩:=List.getElem?_eq_some_iff.mp hz
   omega
  ·rintro ⟨c1,c2,c3⟩ st2 ⟨l,rfl,rfl,rfl,a2,a4,a5⟩
   dsimp only at a2 a4 a5
   have xt:(X.take c2).length = c2:=by rw [List.length_take]; omega
   have S2:SS κ it st2 ((P0 ++ X.take c2) ++ X.drop c2 ++ u :: R.drop (k + 1)) pd:=by
    rw [List.append_assoc P0,List.take_append_drop]; exact S
   refine Zo (Zok (P0 ++ X.take c2) (X.drop c2) (R.drop (k + 1)) u S2 (by simp; omega) (by simp; omega) fun st3 S3=>Zt ⟨rfl,hk,X.take c2 ++ u :: X.drop c2,?_,?_,by simpa using S3⟩)
   ·rw [tk]
    refine List.perm_middle.trans ?_
    rw [List.take_append_drop]
    exact (List.perm_append_comm (l₁:=[u])).trans (hX.append_right [u])
   ·have sX':=sX
    rw [← List.take_append_drop c2 X] at sX'
    obtain ⟨s1,s2,s3⟩:=List.pairwise_append.mp sX'
    refine List.pairwise_append.mpr ⟨s1,List.pairwise_cons.mpr ⟨fun y hy=>?_,s2⟩,fun x hx y hy=>?_⟩
    ·obtain ⟨i,hi⟩:=List.getElem?_of_mem hy
     rw [List.getElem?_drop] at hi
     exact o.asym (a5 _ y (Nat.le_add_right _ _) hi)
    ·rcases List.mem_cons.mp hy with rfl | hy
     ·obtain ⟨i,hi⟩:=List.getElem?_of_mem hx
      obtain ⟨q,_⟩:=List.getElem?_eq_some_iff.mp hi
      rw [xt] at q
      rw [List.getElem?_take_of_lt q] at hi
      exact a4 i x q hi
     ·exact s3 x hx y hy
 ·rintro c st' ⟨rfl,_,X,hX,sX,S⟩
  rw [show max (max ok 1) n = n by omega] at hX S
  exact ⟨rfl,X,hX,sX,S⟩
 ·rw [show max ok 1 = ok by omega]
  exact ⟨hX,sX,S⟩
 ·rintro c st' ⟨rfl,X,hX,sX,S⟩
  exact Zt (h X st' hX sX S)
end
end L3
namespace L3
open PySem PySem.W PyProof.Rows
section
variable {prog:Program} {w:World} {A:Around} {E:Value → Shared → Prop} {G:Shared → Prop} {κ:SortKind} {it:Array Keyed} {lt:Nat → Nat → Bool} {N:Nat}
variable {st:SortSt} {pd:Array (Nat × Nat × Nat)}
theorem SS.mk_eq {l:List Nat} (S:SS κ it st l pd):∃ g,st = SortSt.mk' κ (Zad it l) pd g none:=by
 obtain ⟨rfl,h2,rfl,h4⟩:=S
 rw [← h2,← h4]
 exact ⟨gallopOf st,rfl⟩
theorem merged (o:ZfK lt) {X Y r:List Nat} {k k2 y0 x1:Nat} (sX:Srt lt X) (sY:Srt lt Y) (hk:∀ x ∈ X.take k,lt y0 x = false) (h2:∀ y ∈ Y.drop k2,lt y x1 = false) (hy:∀ y ∈ Y,lt y y0 = false) (hx:∀ x ∈ X,lt x1 x = false) (hr:RR lt (X.drop k) (Y.take k2) r):RR lt X Y (X.take k ++ r ++ Y.drop k2):=by
 have eX:=List.take_append_drop k X
 have eY:=List.take_append_drop k2 Y
 rw [← eX] at sX
 rw [← eY] at sY
 obtain ⟨a1,a2,a3⟩:=List.pairwise_append.mp sX
 obtain ⟨b1,b2,b3⟩:=List.pairwise_append.mp sY
 obtain ⟨hp,hs⟩:=hr
 have xy:∀ x ∈ X.take k,∀ y ∈ Y,lt y x = false:=fun x hx' y hy'=>o.tr (hk x hx') (hy y hy')
 refine ⟨?_,?_⟩
 ·have e:(X.take k ++ (X.drop k ++ Y.take k2) ++ Y.drop k2) = X ++ Y:=by
   rw [← List.append_assoc,eX,List.append_assoc,eY]
  rw [← e]
  exact (hp.append_left _).append_right _
 ·refine List.pairwise_append.mpr ⟨List.pairwise_append.mpr ⟨a1,hs,fun x hx' z hz=>?_⟩,b2,fun z hz y hy'=>?_⟩
  ·rcases List.mem_append.mp (hp.mem_iff.mp hz) with q | q
   ·exact a3 x hx' z q
   ·exact xy x hx' z (List.mem_of_mem_take q)
  ·rcases List.mem_append.mp hz with q | q
   ·exact xy z q y (List.mem_of_mem_drop hy')
   ·rcases List.mem_append.mp (hp.mem_iff.mp q) with q | q
    ·exact o.tr (hx z (List.mem_of_mem_drop q)) (h2 y hy')
    ·exact b3 z q y hy'
theorem ZjG {α:Type}:∀ (r M A0 C:List α) (b n:Nat),r.length = M.length → A0.length = b + n → (r.zipIdx n).foldl (fun a x=>a.setIfInBounds (b + x.2) x.1) (A0 ++ M ++ C).toArray = (A0 ++ r ++ C).toArray
 | [],[],A0,C,b,n,_,_=>rfl
 | a :: r,m :: M,A0,C,b,n,h,hA=>by
  rw [List.zipIdx_cons,List.foldl_cons]
  have e:((A0 ++ m :: M ++ C).toArray.setIfInBounds (b + n) a) = ((A0 ++ [a]) ++ M ++ C).toArray:=by
   rw [← hA,List.setIfInBounds_toArray]
   congr 1
   simp
  show List.foldl _ ((A0 ++ m :: M ++ C).toArray.setIfInBounds (b + n) a) _ = _
  rw [e,ZjG r M (A0 ++ [a]) C b (n + 1) (by simpa using h) (by simp [hA]; omega)]
  simp
theorem Zm4 {r M A0 C:List Nat} (h:r.length = M.length) {b:Nat} (hb:b = A0.length):(Zad it r).toList.zipIdx.foldl (fun a x=>a.setIfInBounds (b + x.2) x.1) (Zad it (A0 ++ M ++ C)) = Zad it (A0 ++ r ++ C):=by
 have:=ZjG (r.map (kas_item it)) (M.map (kas_item it)) (A0.map (kas_item it)) (C.map (kas_item it)) b 0 (by simpa using h) (by simp [hb])
 rw [Zad,Zad,Zad,List.map_append,List.map_append,List.map_append,List.map_append]
 exact this
theorem Zj2 {A0 M C:List Nat} {a b:Nat} (ha:a = A0.length) (hb:b = A0.length + M.length):(Zad it (A0 ++ M ++ C)).extract a b = Zad it M:=by
 subst ha hb
 rw [Zad,List.extract_toArray,List.extract_eq_drop_take,← List.map_drop,← List.map_take,List.append_assoc,List.drop_left' rfl,List.take_left' (by omega)]
theorem ZkJ (K:Cmp prog w A E G κ it lt N) {P0 X Y P1:List Nat} (S:SS κ it st (P0 ++ X ++ Y ++ P1) pd) (hN:∀ x ∈ P0 ++ X ++ Y ++ P1,x < N) (sX:Srt lt X) (sY:Srt lt Y) (hX:0 < X.length) (hY:0 < Y.length) {i p q:Nat} (h1:pd[i]? = some (P0.length,X.length,p)) (h2:pd[i + 1]? = some (P0.length + X.length,Y.length,q)) {Q:Bool → SortSt → Prop}
  (h:∀ Z st',Z.Perm (X ++ Y) → Srt lt Z → SS κ it st' (P0 ++ Z ++ P1) ((pd.setIfInBounds i (P0.length,X.length + Y.length,p)).eraseIdxIfInBounds (i + 1)) → Q true st'):TT (model prog w) A E G (mergeAt' i) Q st:=by
 obtain ⟨g,rfl⟩:=S.mk_eq
 refine Zo (ZeC ?_)
 dsimp only [SortSt.mk']
 rw [h1,h2]
 have o:=K.ok
 have gY:Y[0]? = some Y[0]:=List.getElem?_eq_getElem _
 have gX:X[X.length - 1]? = some (X[X.length - 1]'(by omega)):=List.getElem?_eq_getElem _
 generalize Y[0] = y0 at gY
 generalize X[X.length - 1]'(by omega) = x1 at gX
 have hy:∀ y ∈ Y,lt y y0 = false:=fun y hy=>by
  obtain ⟨j,hj⟩:=List.getElem?_of_mem hy
  rcases Nat.eq_zero_or_pos j with q | q
  ·subst q; rw [gY] at hj; cases hj; exact o.rf _
  ·exact ZeD sY q gY hj
 have hx:∀ x ∈ X,lt x1 x = false:=fun x hx=>by
  obtain ⟨j,hj⟩:=List.getElem?_of_mem hx
  have jl:=(List.getElem?_eq_some_iff.mp hj).1
  rcases Nat.eq_or_lt_of_le (Nat.le_sub_one_of_lt jl) with q | q
  ·subst q; rw [gX] at hj; cases hj; exact o.rf _
  ·exact ZeD sX q hj gX
 have y0Y:=List.mem_of_getElem? gY
 have x1X:=List.mem_of_getElem? gX
 have XN:∀ x ∈ X,x < N:=fun x hx=>hN x (by simp [hx])
 have YN:∀ x ∈ Y,x < N:=fun x hx=>hN x (by simp [hx])
 have aX:∀ j,j < X.length → (P0 ++ X ++ Y ++ P1)[P0.length + j]? = X[j]?:=fun j hj=>by
  rw [List.append_assoc,List.append_assoc,ZaV,List.getElem?_append_left (by omega)]
 have aY:∀ j,j < Y.length → (P0 ++ X ++ Y ++ P1)[P0.length + X.length + j]? = Y[j]?:=fun j hj=>by
  rw [List.append_assoc,← List.length_append,ZaV,List.getElem?_append_left (by omega)]
 refine Zo (ZqX ?_)
 refine Zo (Za1 (ZaN (x:=y0) (by have:=aY 0 hY; rw [Nat.add_zero,gY] at this; exact this)) ?_)
 have G1:Gal prog w A E G κ it lt N false y0 (P0 ++ X ++ Y ++ P1) P0.length X.length (SortSt.mk' κ (Zad it (P0 ++ X ++ Y ++ P1)) ((pd.setIfInBounds i (P0.length,X.length + Y.length,p)).eraseIdxIfInBounds (i + 1)) g none) (fun j=>!lt y0 (X.getD j 0)):=⟨K,rfl,YN _ y0Y,hN,by simp,fun j x hj e=>by
   rw [aX j hj] at e
   rw [if_neg (by decide),List.getD_eq_getElem?_getD,e]; rfl,fun a b hab hb e=>by
   have e1:X[b]? = some X[b]:=List.getElem?_eq_getElem _
   have e0:X[a]? = some (X[a]'(by omega)):=List.getElem?_eq_getElem _
   simp only [List.getD_eq_getElem?_getD,e1,e0,Option.getD_some,Bool.not_eq_true'] at e ⊢
   rcases Nat.eq_or_lt_of_le hab with q | q
   ·subst q; exact e
   ·exact o.tr (ZeD sX q e0 e1) e⟩
 refine Zo (G1.gallop hX fun k hk f1 f2=>?_)
 have F1:∀ x ∈ X.take k,lt y0 x = false:=fun x hx=>by
  obtain ⟨j,hj⟩:=List.getElem?_of_mem hx
  have jl:=(List.getElem?_eq_some_iff.mp hj).1
  rw [List.length_take] at jl
  rw [List.getElem?_take_of_lt (by omega)] at hj
  have:=f1 j (by omega)
  rw [List.getD_eq_getElem?_getD,hj] at this
  simpa using this
 have F2:∀ x ∈ X.drop k,lt y0 x = true:=fun x hx=>by
  obtain ⟨j,hj⟩:=List.getElem?_of_mem hx
  rw [List.getElem?_drop] at hj
  have jl:=(List.getElem?_eq_some_iff.mp hj).1
  have:=f2 (k + j) (by omega) (by omega)
  rw [List.getD_eq_getElem?_getD,hj] at this
  simpa using this
 refine ZaC (fun c=>?_) fun c=>?_
 ·have c':X.length - k = 0:=by simpa using c
  refine Zt (h (X ++ Y) _ (List.Perm.refl _) ?_ ⟨rfl,by simp,rfl,rfl⟩)
  refine List.pairwise_append.mpr ⟨sX,sY,fun x hx y hy'=>o.tr (F1 x (by rw [List.take_of_length_le (by omega)]; exact hx)) (hy y hy')⟩
 have c':k < X.length:=by
  have:¬ X.length - k = 0:=by simpa using c
  omega
 refine Zo (Za1 (ZaN (x:=x1) (by
  rw [show P0.length + k + (X.length - k) - 1 = P0.length + (X.length - 1) by omega,aX _ (by omega),gX])) ?_)
 have G2:Gal prog w A E G κ it lt N true x1 (P0 ++ X ++ Y ++ P1) (P0.length + X.length) Y.length (SortSt.mk' κ (Zad it (P0 ++ X ++ Y ++ P1)) ((pd.setIfInBounds i (P0.length,X.length + Y.length,p)).eraseIdxIfInBounds (i + 1)) g none) (fun j=>lt (Y.getD j 0) x1):=⟨K,rfl,XN _ x1X,hN,by simp; omega,fun j x hj e=>by
   rw [aY j hj] at e
   rw [if_pos rfl,List.getD_eq_getElem?_getD,e]; rfl,fun a b hab hb e=>by
   have e1:Y[b]? = some Y[b]:=List.getElem?_eq_getElem _
   have e0:Y[a]? = some (Y[a]'(by omega)):=List.getElem?_eq_getElem _
   simp only [List.getD_eq_getElem?_getD,e1,e0,Option.getD_some] at e ⊢
   rcases Nat.eq_or_lt_of_le hab with q | q
   ·subst q; exact e
   ·have e2:=ZeD sY q e0 e1
    cases c:lt (Y[a]'(by omega)) x1 with
    | true=>rfl
    | false=>rw [o.tr c e2] at e; cases e⟩
 refine Zo (G2.gallop (by omega) fun k2 hk2 f3 f4=>?_)
 have F3:∀ y ∈ Y.take k2,lt y x1 = true:=fun x hx=>by
  obtain ⟨j,hj⟩:=List.getElem?_of_mem hx
  have jl:=(List.getElem?_eq_some_iff.mp hj).1
  rw [List.length_take] at jl
  rw [List.getElem?_take_of_lt (by omega)] at hj
  have:=f3 j (by omega)
  rw [List.getD_eq_getElem?_getD,hj] at this
  exact this
 have F4:∀ y ∈ Y.drop k2,lt y x1 = false:=fun x hx=>by
  obtain ⟨j,hj⟩:=List.getElem?_of_mem hx
  rw [List.getElem?_drop] at hj
  have jl:=(List.getElem?_eq_some_iff.mp hj).1
  have:=f4 (k2 + j) (by omega) (by omega)
  rw [List.getD_eq_getElem?_getD,hj] at this
  exact this
 have x1d:x1 ∈ X.drop k:=List.mem_of_getElem? (i:=X.length - 1 - k) (by rw [List.getElem?_drop,show k + (X.length - 1 - k) = X.length - 1 by omega,gX])
 have k20:0 < k2:=by
  rcases Nat.eq_zero_or_pos k2 with q | q
  ·subst q
   have a:=F4 y0 (by rw [List.drop_zero]; exact y0Y)
   rw [F2 x1 x1d] at a; cases a
  ·exact q
 refine ZaC (fun c=>?_) fun _=>?_
 ·have:k2 = 0:=by simpa using c
  omega
 have eX:P0 ++ X ++ Y ++ P1 = (P0 ++ X.take k) ++ X.drop k ++ (Y ++ P1):=by
  conv=>lhs; rw [← List.take_append_drop k X]
  simp only [List.append_assoc]
 have eY:P0 ++ X ++ Y ++ P1 = (P0 ++ X) ++ Y.take k2 ++ (Y.drop k2 ++ P1):=by
  conv=>lhs; rw [← List.take_append_drop k2 Y]
  simp only [List.append_assoc]
 have eZ:P0 ++ X ++ Y ++ P1 = (P0 ++ X.take k) ++ (X.drop k ++ Y.take k2) ++ (Y.drop k2 ++ P1):=by
  conv=>lhs; rw [← List.take_append_drop k X,← List.take_append_drop k2 Y]
  simp only [List.append_assoc]
 have lX:(X.take k).length = k:=by rw [List.length_take]; omega
 have lX2:(X.drop k).length = X.length - k:=by rw [List.length_drop]
 have lY:(Y.take k2).length = k2:=by rw [List.length_take]; omega
 have cX:(Zad it (P0 ++ X ++ Y ++ P1)).extract (P0.length + k) (P0.length + X.length) = Zad it (X.drop k):=by
  rw [eX]; exact Zj2 (by simp; omega) (by simp; omega)
 have cY:(Zad it (P0 ++ X ++ Y ++ P1)).extract (P0.length + X.length) (P0.length + X.length + k2) = Zad it (Y.take k2):=by
  rw [eY]; exact Zj2 (by simp) (by simp; omega)
 have T2:Two lt N (X.drop k) (Y.take k2):=⟨List.Pairwise.sublist (List.drop_sublist _ _) sX,List.Pairwise.sublist (List.take_sublist _ _) sY,fun x hx=>XN x (List.mem_of_mem_drop hx),fun x hx=>YN x (List.mem_of_mem_take hx)⟩
 have b0:(Y.take k2)[0]? = some y0:=by rw [List.getElem?_take_of_lt k20,gY]
 have a1:(X.drop k)[(X.drop k).length - 1]? = some x1:=by rw [List.getElem?_drop,lX2,show k + (X.length - k - 1) = X.length - 1 by omega,gX]
 have fin:∀ r st',RR lt (X.drop k) (Y.take k2) r → ZaG (SortSt.mk' κ (Zad it (P0 ++ X ++ Y ++ P1)) ((pd.setIfInBounds i (P0.length,X.length + Y.length,p)).eraseIdxIfInBounds (i + 1)) g none) st' → TT (model prog w) A E G (modify (fun s=>setArr s (List.foldl (fun a x=>a.setIfInBounds (P0.length + k + x.2) x.1) (arrOf s) (Zad it r).toList.zipIdx)) >>= fun _=>get >>= fun s=>pure (failedOf s).isNone) Q st':=by
  rintro r _ hr ⟨g',rfl⟩
  refine Zo (ZbV (Zo (ZeC (Zt ?_))))
  have R1:=merged o sX sY F1 F4 hy hx hr
  refine h _ _ R1.1 R1.2 ⟨rfl,?_,rfl,rfl⟩
  have e:=Zm4 (it:=it) (r:=r) (M:=X.drop k ++ Y.take k2) (A0:=P0 ++ X.take k) (C:=Y.drop k2 ++ P1) (by rw [hr.1.length_eq]) (b:=P0.length + k) (by simp; omega)
  rw [← eZ] at e
  refine Eq.trans e ?_
  simp only [List.append_assoc]
 refine ZaC (fun _=>?_) fun _=>?_
 ·refine Zo ?_
  rw [cX,cY]
  refine Zlb ⟨K,T2,fun x hx' y hy'=>?_,rfl⟩ b0 (fun x hx'=>o.asym (F2 x hx')) (by omega) fun r st' hr hs=>fin r st' hr hs
  rw [a1] at hx'; cases hx'
  exact o.asym (F3 y hy')
 ·refine Zo ?_
  rw [cX,cY]
  refine Zlg ⟨K,T2,fun x hx' y hy'=>?_,rfl⟩ a1 (fun y hy'=>o.asym (F3 y hy')) (by omega) fun r st' hr hs=>fin r st' hr hs
  rw [b0] at hx'; cases hx'
  exact o.asym (F2 y hy')
end
end L3
namespace L3
open PySem PySem.W PyProof.Rows
section
variable {prog:Program} {w:World} {A:Around} {E:Value → Shared → Prop} {G:Shared → Prop} {κ:SortKind} {it:Array Keyed} {lt:Nat → Nat → Bool} {N:Nat}
variable {st:SortSt}
noncomputable def Rn (lt:Nat → Nat → Bool):Nat → List (List Nat) → List (Nat × Nat × Nat) → Prop
 | _,[],[]=>True
 | b,X :: rs,z :: pd=>z.1 = b ∧ z.2.1 = X.length ∧ 0 < X.length ∧ Srt lt X ∧ Rn lt (b + X.length) rs pd
 | _,_,_=>False
theorem Rn.len:∀ {b:Nat} {rs:List (List Nat)} {pd:List (Nat × Nat × Nat)},Rn lt b rs pd → pd.length = rs.length
 | _,[],[],_=>rfl
 | _,_ :: _,_ :: _,h=>congrArg (· + 1) h.2.2.2.2.len
 | _,[],_ :: _,h=>h.elim
 | _,_ :: _,[],h=>h.elim
theorem Rn.many:∀ {b:Nat} {rs:List (List Nat)} {pd:List (Nat × Nat × Nat)},Rn lt b rs pd → rs.length ≤ rs.flatten.length
 | _,[],[],_=>Nat.le_refl _
 | _,X :: rs,_ :: _,h=>by
  have:=h.2.2.2.2.many
  have:=h.2.2.1
  rw [List.flatten_cons,List.length_append,List.length_cons]; omega
 | _,[],_ :: _,h=>h.elim
 | _,_ :: _,[],h=>h.elim
theorem Rn.push:∀ {b:Nat} {rs:List (List Nat)} {pd:List (Nat × Nat × Nat)} (_:Rn lt b rs pd) {X:List Nat} (_:0 < X.length) (_:Srt lt X) {z:Nat × Nat × Nat} (_:z.1 = b + rs.flatten.length) (_:z.2.1 = X.length),Rn lt b (rs ++ [X]) (pd ++ [z])
 | _,[],[],_,_,h1,h2,_,h3,h4=>⟨h3,h4,h1,h2,trivial⟩
 | _,Y :: rs,_ :: _,h,_,h1,h2,_,h3,h4=>⟨h.1,h.2.1,h.2.2.1,h.2.2.2.1,h.2.2.2.2.push h1 h2 (by rw [h3,List.flatten_cons,List.length_append]; omega) h4⟩
 | _,[],_ :: _,h,_,_,_,_,_,_=>h.elim
 | _,_ :: _,[],h,_,_,_,_,_,_=>h.elim
theorem Rn.same:∀ {b:Nat} {rs:List (List Nat)} {pd pd':List (Nat × Nat × Nat)} (_:Rn lt b rs pd) (_:pd'.map (fun z=>(z.1,z.2.1)) = pd.map (fun z=>(z.1,z.2.1))),Rn lt b rs pd'
 | _,[],[],[],_,_=>trivial
 | _,Y :: rs,z :: pd,z' :: pd',h,e=>by
  rw [List.map_cons,List.map_cons] at e
  obtain ⟨e1,e2⟩:=List.cons.inj e
  obtain ⟨e3,e4⟩:=Prod.mk.inj e1
  exact ⟨e3.trans h.1,e4.trans h.2.1,h.2.2.1,h.2.2.2.1,h.2.2.2.2.same e2⟩
 | _,[],[],_ :: _,_,e=>by cases e
 | _,_ :: _,_ :: _,[],_,e=>by cases e
 | _,[],_ :: _,_,h,_=>h.elim
 | _,_ :: _,[],_,h,_=>h.elim
theorem Rn.at:∀ {i b:Nat} {rs:List (List Nat)} {pd:List (Nat × Nat × Nat)} (_:Rn lt b rs pd) (_:i + 1 < pd.length),∃ rs0 X Y rs1 p q,rs = rs0 ++ X :: Y :: rs1 ∧ 0 < X.length ∧ 0 < Y.length ∧ Srt lt X ∧ Srt lt Y ∧
  pd[i]? = some (b + rs0.flatten.length,X.length,p) ∧ pd[i + 1]? = some (b + rs0.flatten.length + X.length,Y.length,q) ∧ ∀ Z,Z.length = X.length + Y.length → Srt lt Z → Rn lt b (rs0 ++ Z :: rs1) ((pd.set i (b + rs0.flatten.length,X.length + Y.length,p)).eraseIdx (i + 1))
 | 0,b,X :: Y :: rs,z :: z' :: pd,h,_=>by
  obtain ⟨h1,h2,h3,h4,h5,h6,h7,h8,h9⟩:=h
  refine ⟨[],X,Y,rs,z.2.2,z'.2.2,rfl,h3,h7,h4,h8,?_,?_,fun Z hZ sZ=>⟨rfl,hZ.symm,by omega,sZ,?_⟩⟩
  ·obtain ⟨z1,z2,z3⟩:=z; cases h1; cases h2; rfl
  ·obtain ⟨z1,z2,z3⟩:=z'; cases h5; cases h6; rfl
  ·rw [hZ,← Nat.add_assoc]; exact h9
 | i + 1,b,X0 :: rs,z :: pd,h,hi=>by
  obtain ⟨h1,h2,h3,h4,h5⟩:=h
  obtain ⟨rs0,X,Y,rs1,p,q,rfl,a1,a2,a3,a4,a5,a6,a7⟩:=h5.at (i:=i) (by simpa using hi)
  have e:b + X0.length + rs0.flatten.length = b + (X0 :: rs0).flatten.length:=by rw [List.flatten_cons,List.length_append]; omega
  rw [e] at a5 a6 a7
  exact ⟨X0 :: rs0,X,Y,rs1,p,q,rfl,a1,a2,a3,a4,a5,a6,fun Z hZ sZ=>⟨h1,h2,h3,h4,a7 Z hZ sZ⟩⟩
 | 0,_,_ :: [],_ :: _ :: _,h,_=>h.2.2.2.2.elim
 | 0,_,_,[],_,hi=>by cases hi
 | 0,_,_,[_],_,hi=>by simp at hi
 | _ + 1,_,_,[],_,hi=>by cases hi
 | _,_,[],_ :: _,h,_=>h.elim
structure MM (κ:SortKind) (it:Array Keyed) (lt:Nat → Nat → Bool) (st:SortSt) (rs:List (List Nat)) (R:List Nat):Prop where
 s:SS κ it st (rs.flatten ++ R) (pendingOf st)
 r:Rn lt 0 rs (pendingOf st).toList
theorem Zf3 (K:Cmp prog w A E G κ it lt N) {rs:List (List Nat)} {R:List Nat} (m:MM κ it lt st rs R) (hN:∀ x ∈ rs.flatten ++ R,x < N) {i:Nat} (hi:i + 1 < (pendingOf st).size) {Q:Bool → SortSt → Prop}
  (h:∀ rs' st',rs'.length + 1 = rs.length → rs'.flatten.Perm rs.flatten → MM κ it lt st' rs' R → Q true st'):TT (model prog w) A E G (mergeAt' i) Q st:=by
 obtain ⟨S,r⟩:=m
 obtain ⟨rs0,X,Y,rs1,p,q,rfl,a1,a2,a3,a4,a5,a6,a7⟩:=r.at (i:=i) (by simpa using hi)
 rw [Nat.zero_add] at a5 a6 a7
 have e:(rs0 ++ X :: Y :: rs1).flatten ++ R = rs0.flatten ++ X ++ Y ++ (rs1.flatten ++ R):=by simp
 rw [e] at S hN
 refine ZkJ K S hN a3 a4 a1 a2 (by rw [← Array.getElem?_toList]; exact a5) (by rw [← Array.getElem?_toList]; exact a6) fun Z st' hZ sZ S'=>h (rs0 ++ Z :: rs1) st' ?_ ?_ ⟨?_,?_⟩
 ·simp; omega
 ·simp only [List.flatten_append,List.flatten_cons,← List.append_assoc]
  rw [List.append_assoc rs0.flatten X Y]
  exact (hZ.append_left _).append_right _
 ·have e2:(rs0 ++ Z :: rs1).flatten ++ R = rs0.flatten ++ Z ++ (rs1.flatten ++ R):=by simp
  rw [e2,S'.pend]; exact S'
 ·rw [S'.pend]
  have:=a7 Z (by rw [hZ.length_eq,List.length_append]) sZ
  simpa using this
theorem ZoN {c:Prop} [Decidable c] {a b n:Nat} (ha:a + 1 < n) (hb:b + 1 < n):(if c then a else b) + 1 < n:=by
 split <;> assumption
theorem MM.pw {rs:List (List Nat)} {R:List Nat} (m:MM κ it lt st rs R) (i p:Nat):MM κ it lt (setPending st ((pendingOf st).modify i fun x=>(x.1,x.2.1,p))) rs R:=by
 obtain ⟨⟨a1,a2,a3,a4⟩,r⟩:=m
 refine ⟨⟨a1,a2,rfl,a4⟩,?_⟩
 show Rn lt 0 rs ((pendingOf st).modify i fun x=>(x.1,x.2.1,p)).toList
 refine r.same ?_
 apply List.ext_getElem?
 intro k
 rw [List.getElem?_map,List.getElem?_map,Array.getElem?_toList,Array.getElem?_toList,Array.getElem?_modify]
 split
 ·cases (pendingOf st)[k]? <;> rfl
 ·rfl
theorem MM.push {rs rs':List (List Nat)} {R X l:List Nat} {n x lo:Nat} (hp:(rs.flatten ++ R).Perm l) (hX:X.Perm (R.take n)) (sX:Srt lt X) (h1:1 ≤ n) (hn:n ≤ R.length) (hr:rs'.flatten.Perm rs.flatten) (m:MM κ it lt st rs' (X ++ R.drop n)) (hx:x ≤ rs.flatten.length ∨ R = []) (hlo:lo = rs.flatten.length):∃ rs2 R2,((none,lo + n):Option Unit × Nat) = (none,rs2.flatten.length) ∧ (rs2.flatten ++ R2).Perm l ∧ MM κ it lt (setPending st ((pendingOf st).push (lo,n,0))) rs2 R2 ∧ (x + 1 ≤ rs2.flatten.length ∨ R2 = []):=by
 subst hlo
 have Xl:X.length = n:=by rw [hX.length_eq,List.length_take,Nat.min_eq_left hn]
 have fl2:(rs' ++ [X]).flatten = rs'.flatten ++ X:=by simp
 have ln:(rs' ++ [X]).flatten.length = rs.flatten.length + n:=by rw [fl2,List.length_append,hr.length_eq,Xl]
 obtain ⟨⟨a1,a2,a3,a4⟩,r⟩:=m
 refine ⟨rs' ++ [X],R.drop n,by rw [ln],?_,⟨⟨a1,?_,rfl,a4⟩,?_⟩,?_⟩
 ·refine List.Perm.trans ?_ hp
  rw [fl2,List.append_assoc]
  refine List.Perm.trans (hr.append_right _) (List.Perm.append_left _ ?_)
  have:=hX.append_right (R.drop n)
  rwa [List.take_append_drop] at this
 ·rw [fl2,List.append_assoc]; exact a2
 ·show Rn lt 0 _ ((pendingOf st).push (rs.flatten.length,n,0)).toList
  rw [Array.toList_push]
  exact r.push (by omega) sX (by rw [Nat.zero_add,hr.length_eq]) Xl.symm
 ·rcases hx with q | q
  ·exact .inl (by rw [ln]; omega)
  ·subst q; exact .inr (by simp)
noncomputable def srM (L pw:Nat):StateT SortSt Sem (Option Unit × Unit):=forIn [0:L] (none,()) fun _ _=>get >>= fun s=>match (if (pendingOf s).size > 1 then (pendingOf s)[(pendingOf s).size - 2]? else none) with
 | some (_,_,older)=>if older ≤ pw then pure (ForInStep.done (none,())) else mergeAt' ((pendingOf s).size - 2) >>= fun b=>if (!b) = true then pure (ForInStep.done (some (),())) else pure (ForInStep.yield (none,()))
 | _=>pure (ForInStep.done (none,()))
noncomputable def srP (lo n:Nat):StateT SortSt Sem (ForInStep (Option Unit × Nat)):=(modify fun s=>setPending s ((pendingOf s).push (lo,n,0)):StateT SortSt Sem Unit) >>= fun _=>pure (ForInStep.yield (none,lo + n))
noncomputable def srW (lo n pw:Nat) (z:Option Unit × Unit):StateT SortSt Sem (ForInStep (Option Unit × Nat)):=match z.1 with
 | some r=>pure (ForInStep.done (some r,lo))
 | none=>(modify fun s=>setPending s ((pendingOf s).modify ((pendingOf s).size - 1) fun x=>(x.1,x.2.1,pw)):StateT SortSt Sem Unit) >>= fun _=>srP lo n
noncomputable def srR (L lo n:Nat):StateT SortSt Sem (ForInStep (Option Unit × Nat)):=get >>= fun s=>match (pendingOf s).back? with
 | some (s1,n1,_)=>srM L (power' L (2 * s1 + n1) (2 * s1 + n1 + n1 + n) L) >>= srW lo n (power' L (2 * s1 + n1) (2 * s1 + n1 + n1 + n) L)
 | _=>srP lo n
noncomputable def srC (L mr lo:Nat) (q:Option Nat):StateT SortSt Sem (ForInStep (Option Unit × Nat)):=match q with
 | some n=>if n < mr then (liftM (rule "list.sort.binary-insertion"):StateT SortSt Sem Unit) >>= fun _=>binarySort' lo (min (L - lo) mr) n >>= fun b=>if (!b) = true then pure (ForInStep.done (some (),lo)) else srR L lo (min (L - lo) mr) else srR L lo n
 | _=>pure (ForInStep.done (some (),lo))
noncomputable def srB (L mr:Nat) (c:Option Unit × Nat):StateT SortSt Sem (ForInStep (Option Unit × Nat)):=if c.2 ≥ L then pure (ForInStep.done (none,c.2)) else countRun' c.2 (L - c.2) >>= srC L mr c.2
noncomputable def srI (p:Array (Nat × Nat × Nat)) (i:Nat):Nat:=if ((if i > 0 then p[i - 1]?.map fun x=>x.2.1 else none).any fun x=>decide (x < p[i + 1]?.elim 0 fun x=>x.2.1)) = true then i - 1 else i
noncomputable def srF (L:Nat):StateT SortSt Sem (Option Unit × Unit):=forIn [0:L] (none,()) fun _ _=>get >>= fun s=>if (pendingOf s).size ≤ 1 then pure (ForInStep.done (none,())) else mergeAt' (srI (pendingOf s) ((pendingOf s).size - 2)) >>= fun b=>if (!b) = true then pure (ForInStep.done (some (),())) else pure (ForInStep.yield (none,()))
noncomputable def srZ (z:Option Unit × Unit):StateT SortSt Sem Unit:=match z.1 with
 | some r=>pure r
 | none=>pure ()
noncomputable def srE (L:Nat) (z:Option Unit × Nat):StateT SortSt Sem Unit:=match z.1 with
 | some r=>pure r
 | none=>srF L >>= srZ
noncomputable def ZrQ:StateT SortSt Sem Unit:=get >>= fun s=>(forIn [0:(arrOf s).size] (none,0) fun _ c=>srB (arrOf s).size (minRun' (arrOf s).size (arrOf s).size 0) c) >>= srE (arrOf s).size
set_option smartUnfolding false in
theorem Zi5:sortRuns' = ZrQ:=by
 rw [sortRuns'_eq]
 rfl
noncomputable def srJ (κ:SortKind) (it:Array Keyed) (lt:Nat → Nat → Bool) (l:List Nat) (x:Nat) (c:Option Unit × Nat) (st:SortSt):Prop:=∃ rs R,c = (none,rs.flatten.length) ∧ (rs.flatten ++ R).Perm l ∧ MM κ it lt st rs R ∧ (x ≤ rs.flatten.length ∨ R = [])
noncomputable def srD (κ:SortKind) (it:Array Keyed) (lt:Nat → Nat → Bool) (l:List Nat) (c:Option Unit × Nat) (st:SortSt):Prop:=∃ rs,c = (none,l.length) ∧ rs.flatten.Perm l ∧ MM κ it lt st rs []
noncomputable def srQ (κ:SortKind) (it:Array Keyed) (lt:Nat → Nat → Bool) (l:List Nat) (x:Nat) (r:ForInStep (Option Unit × Nat)) (st:SortSt):Prop:=match r with
 | .done c=>srD κ it lt l c st
 | .yield c=>srJ κ it lt l (x + 1) c st
noncomputable def srN (κ:SortKind) (it:Array Keyed) (lt:Nat → Nat → Bool) (rs:List (List Nat)) (R:List Nat) (c:Option Unit × Unit) (st:SortSt):Prop:=∃ rs',c = (none,()) ∧ rs'.flatten.Perm rs.flatten ∧ MM κ it lt st rs' R
theorem ZqD (K:Cmp prog w A E G κ it lt N) {rs:List (List Nat)} {R:List Nat} (m:MM κ it lt st rs R) (hN:∀ x ∈ rs.flatten ++ R,x < N) (L pw:Nat):TT (model prog w) A E G (srM L pw) (srN κ it lt rs R) st:=by
 refine Zbf (I:=fun _=>srN κ it lt rs R) ?_ (fun _ _ h=>h) ⟨rs,rfl,List.Perm.refl _,m⟩
 rintro y c st4 _ _ ⟨rs',rfl,hr,m4⟩
 have hN4:∀ x ∈ rs'.flatten ++ R,x < N:=fun x hx=>hN x (by
  rcases List.mem_append.mp hx with q | q
  ·exact List.mem_append_left _ (hr.mem_iff.mp q)
  ·exact List.mem_append_right _ q)
 refine Zo (ZeC ?_)
 by_cases c2:(pendingOf st4).size > 1
 ·rw [if_pos c2]
  have e:(pendingOf st4)[(pendingOf st4).size - 2]? = some ((pendingOf st4)[(pendingOf st4).size - 2]'(by omega)):=Array.getElem?_eq_getElem _
  rw [e]
  refine ZaC (fun _=>Zt ⟨rs',rfl,hr,m4⟩) fun _=>Zo (Zf3 K m4 hN4 (by omega) fun rs5 st5 _ hp5 m5=>?_)
  exact Zt ⟨rs5,rfl,hp5.trans hr,m5⟩
 ·rw [if_neg c2]; exact Zt ⟨rs',rfl,hr,m4⟩
theorem ZmH (K:Cmp prog w A E G κ it lt N) {rs:List (List Nat)} {R X l:List Nat} {n x lo:Nat} (hp:(rs.flatten ++ R).Perm l) (hX:X.Perm (R.take n)) (sX:Srt lt X) (h1:1 ≤ n) (hn:n ≤ R.length) (m:MM κ it lt st rs (X ++ R.drop n)) (hN:∀ x ∈ rs.flatten ++ R,x < N) (hx:x ≤ rs.flatten.length ∨ R = []) (hlo:lo = rs.flatten.length) (L:Nat):TT (model prog w) A E G (srR L lo n) (srQ κ it lt l x) st:=by
 have hN3:∀ x ∈ rs.flatten ++ (X ++ R.drop n),x < N:=fun x hx=>hN x (by
  rcases List.mem_append.mp hx with q | q
  ·exact List.mem_append_left _ q
  ·refine List.mem_append_right _ ?_
   rcases List.mem_append.mp q with q | q
   ·exact List.mem_of_mem_take (hX.mem_iff.mp q)
   ·exact List.mem_of_mem_drop q)
 refine Zo (ZeC ?_)
 generalize (pendingOf st).back? = o
 have out:TT (model prog w) A E G (srP lo n) (srQ κ it lt l x) st:=Zo (ZbV (Zt (MM.push hp hX sX h1 hn (List.Perm.refl _) m hx hlo)))
 cases o with
 | none=>exact out
 | some z=>
  refine Zo (ZaT (ZqD K m hN3 L _) ?_)
  rintro c st4 ⟨rs',rfl,hr,m4⟩
  exact Zo (ZbV (Zo (ZbV (Zt (MM.push hp hX sX h1 hn hr (m4.pw _ _) hx hlo)))))
theorem Zqj (K:Cmp prog w A E G κ it lt N) {l:List Nat} (hN:∀ x ∈ l,x < N) (mr x:Nat) (c:Option Unit × Nat) (j:srJ κ it lt l x c st):TT (model prog w) A E G (srB l.length mr c) (srQ κ it lt l x) st:=by
 obtain ⟨rs,R,rfl,hp,m,hR⟩:=j
 have ll:=hp.length_eq
 rw [List.length_append] at ll
 refine ZaC (fun c0=>?_) fun c0=>?_
 ·dsimp only at c0
  have:R = []:=List.eq_nil_of_length_eq_zero (by omega)
  subst this
  rw [List.append_nil] at hp
  exact Zt ⟨rs,by rw [hp.length_eq],hp,m⟩
 dsimp only at c0
 have hN':∀ x ∈ rs.flatten ++ R,x < N:=fun x hx=>hN x (hp.mem_iff.mp hx)
 refine Zo (Zm5 K m.s hN' rfl (by omega) (by omega) fun n X st2 hn1 hn2 hX sX S2=>?_)
 dsimp only at hn2
 refine ZaC (fun c1=>?_) fun c1=>?_
 ·refine Zo (Ze7 (Zo (Zoc K hn1 (by omega) (by omega) hX sX S2 hN' rfl fun X st3 hX sX S2=>?_)))
  exact ZmH K hp hX sX (by omega) (by omega) ⟨by rw [← List.append_assoc,S2.pend]; exact S2,by rw [S2.pend]; exact m.r⟩ hN' hR rfl _
 ·exact ZmH K hp hX sX hn1 (by omega) ⟨by rw [← List.append_assoc,S2.pend]; exact S2,by rw [S2.pend]; exact m.r⟩ hN' hR rfl _
theorem ZqK (K:Cmp prog w A E G κ it lt N) {l:List Nat} (hN:∀ x ∈ l,x < N) {rs:List (List Nat)} (hp:rs.flatten.Perm l) (m:MM κ it lt st rs []):TT (model prog w) A E G (srF l.length) (fun c st'=>∃ rs,c = (none,()) ∧ rs.flatten.Perm l ∧ MM κ it lt st' rs [] ∧ rs.length ≤ 1) st:=by
 have hm:=m.r.many
 rw [hp.length_eq] at hm
 refine Zbf (I:=fun x c st'=>∃ rs,c = (none,()) ∧ rs.flatten.Perm l ∧ MM κ it lt st' rs [] ∧ (rs.length ≤ 1 ∨ rs.length + x ≤ l.length)) ?_ ?_ ⟨rs,rfl,hp,m,.inr hm⟩
 ·rintro x c st' _ hx ⟨rs,rfl,hp,m,hR⟩
  have pl:(pendingOf st').size = rs.length:=by rw [← m.r.len,Array.length_toList]
  refine Zo (ZeC (ZaC (fun c0=>?_) fun c0=>?_))
  ·exact Zt ⟨rs,rfl,hp,m,by rw [← pl]; exact c0⟩
  ·refine Zo (Zf3 K m (fun x hx=>hN x (hp.mem_iff.mp (by simpa using hx))) (ZoN (by omega) (by omega)) fun rs5 st5 hl hp5 m5=>?_)
   exact Zt ⟨rs5,rfl,hp5.trans hp,m5,by omega⟩
 ·rintro c st' ⟨rs,rfl,hp,m,hR⟩
  exact ⟨rs,rfl,hp,m,by omega⟩
theorem Zn5 (K:Cmp prog w A E G κ it lt N) {l:List Nat} (hN:∀ x ∈ l,x < N) (S:SS κ it st l #[]) {Q:Unit → SortSt → Prop}
  (h:∀ Z st',Z.Perm l → Srt lt Z → arrOf st' = Zad it Z → failedOf st' = none → Q () st'):TT (model prog w) A E G sortRuns' Q st:=by
 rw [Zi5]
 have sz:(arrOf st).size = l.length:=by rw [S.arr,Zz]
 refine Zo (ZeC ?_)
 rw [sz]
 refine Zo (ZaT (Zbf (I:=srJ κ it lt l) (Q:=srD κ it lt l) ?_ ?_ ?_) ?_)
 ·intro x c st' _ _ j
  refine ZaT (Zqj K hN _ x c j) fun r st3 h=>?_
  cases r <;> exact h
 ·rintro c st' ⟨rs,R,rfl,hp,m,hR⟩
  have ll:=hp.length_eq
  rw [List.length_append] at ll
  have:R = []:=by
   rcases hR with q | q
   ·exact List.eq_nil_of_length_eq_zero (by omega)
   ·exact q
  subst this
  rw [List.append_nil] at hp
  exact ⟨rs,by rw [hp.length_eq],hp,m⟩
 ·refine ⟨[],l,rfl,List.Perm.refl _,⟨?_,?_⟩,.inl (Nat.le_refl _)⟩
  ·rw [S.pend]; exact S
  ·rw [S.pend]; exact trivial
 ·rintro c st' ⟨rs,rfl,hp,m⟩
  refine Zo (ZaT (ZqK K hN hp m) ?_)
  ·rintro c st' ⟨rs,rfl,hp,m,hR⟩
   refine Zt (h rs.flatten st' hp ?_ (by have:=m.s.arr; rw [List.append_nil] at this; exact this) m.s.fail)
   match rs,hR,m.r with
   | [],_,_=>simp [Srt]
   | [X],_,r=>
    rw [List.flatten_cons,List.flatten_nil,List.append_nil]
    cases e:(pendingOf st').toList with
    | nil=>rw [e] at r; exact r.elim
    | cons z pd=>rw [e] at r; exact r.2.2.2.1
end
end L3
namespace L3
open PySem PySem.W PyProof.Rows
section
variable {prog:Program} {w:World} {A:Around} {E:Value → Shared → Prop} {s:Shared}
theorem Zl1 {a:Addr} {vs:List Value} {n:Nat} {lt:Nat → Nat → Bool} {κ:SortKind} {P:PySem.Fin → Shared → Prop} (o:ZfK lt) (ho:s.heap.get? a = some (seqObj "list" vs.toArray n)) (h64:vs.length ≤ 99999)
  (hk:2 ≤ vs.length → ∀ (Q:SortKind → Shared → Prop) s',ZfZ { s with heap:=ZhF s.heap a vs } s' → (∀ s'',ZfZ { s with heap:=ZhF s.heap a vs } s'' → Q κ s'') → wpAny (model prog w) A (keyKind' vs.toArray) Q E s')
  (hc:2 ≤ vs.length → ∀ i j (C:Bool → Shared → Prop) s',i < vs.length → j < vs.length → ZfZ { s with heap:=ZhF s.heap a vs } s' → (∀ s'',ZfZ { s with heap:=ZhF s.heap a vs } s'' → C (lt i j) s'') → kas_ask prog w A κ vs i j C s')
  (h:∀ (out:List Value) (p:List Nat) t,p.Perm (List.range vs.length) → (∀ (i j x y:Nat),i ≤ j → p[i]? = some x → p[j]? = some y → lt y x = false) → out = p.map (fun i=>vs.getD i Value.none) → P (.done (.ret .none)) { s with heap:=sortedHeap s.heap a vs out.toArray,toks:=t }):
  wpAny (model prog w) A (Builtin.«list.sort» ⟨[.ref a],[]⟩) P E s:=by
 have ha:a < s.heap.objs.size:=Heap.lt_size ho
 obtain ⟨e1,g1⟩:∃ e1,(s.heap.update a (Obj.mapSeq fun _=>(#[]:Array Value))).get? a = some (seqObj "list" #[] e1):=⟨_,get?_update_seq ho _⟩
 have g6:(ZhF s.heap a vs).get? a = some (seqObj "list" #[] e1):=by
  unfold ZhF; rw [Heap.get?_push_ne _ _ _ (by rw [size_push',Heap.size_update]; exact Nat.ne_of_lt (Nat.lt_succ_of_lt ha)),Heap.get?_push_ne _ _ _ (by rw [Heap.size_update]; exact Nat.ne_of_lt ha)]; exact g1
 rw [list_sort_plain]; refine wpAny_bind (listItems_at ho rfl (wpAny_bind (listUpdate_at ho rfl ?_ (by rw [List.size_toArray,sizeLine_eq]; omega) (Nat.zero_le _))))
 refine wpAny_bind (seqEpoch_at g1 rfl (wpAny_bind (wpAny_newTuple ?_ (by show vs.length ≤ _; rw [sizeLine_eq]; omega)))); refine wpAny_bind (wpAny_newList ?_ (Nat.zero_le _))
 refine wpAny_holding ?_
 show wpAny (model prog w) A _ P E { s with heap:=ZhF s.heap a vs }
 dsimp only
 by_cases h2:vs.length < 2
 ·have q2:vs.toArray.size < 2:=by rw [List.size_toArray]; exact h2
  rw [if_pos q2,if_pos q2]; refine wpAny_bind (wpAny_pure ?_)
  rw [StateT.run_pure]; refine wpAny_bind (wpAny_pure ?_)
  dsimp only; refine wpAny_bind (seqEpoch_at g6 rfl (wpAny_bind (listUpdate_at g6 rfl ?_ (Nat.zero_le _) ?_)))
  ·have es:(arrOf (SortSt.mk' general' (vs.toArray.zip vs.toArray) #[] 7 none)).map (·.2) = vs.toArray:=by
    show (vs.toArray.zip vs.toArray).map (·.2) = _
    apply Array.toList_inj.mp; simp [List.map_snd_zip]
   rw [es]; simp only [bne_self_eq_false,Bool.false_eq_true,if_false]
   refine wpAny_pure (h vs (List.range vs.length) s.toks (List.Perm.refl _) (fun i j x y hij hx hy=>?_) ?_)
   ·have:=(List.getElem?_eq_some_iff.mp hx).1
    have:=(List.getElem?_eq_some_iff.mp hy).1
    simp only [List.length_range] at *
    have:i = j:=by omega
    subst this; rw [hx] at hy; cases hy; exact o.rf _
   ·apply List.ext_getElem?
    intro i
    rw [List.getElem?_map]
    by_cases hi:i < vs.length
    ·simp [hi]
    ·simp [hi]
  ·refine Nat.le_trans (Nat.le_of_eq (Array.size_map ..)) ?_
   show (vs.toArray.zip vs.toArray).size ≤ _
   rw [Array.size_zip,List.size_toArray,sizeLine_eq]; omega
 ·have q2:¬ vs.toArray.size < 2:=by rw [List.size_toArray]; exact h2
  have h2':2 ≤ vs.length:=by omega
  rw [if_neg q2,if_neg q2]
  refine wpAny_bind (hk h2' _ _ ⟨s.toks,rfl⟩ fun s' hs'=>?_)
  have run:TT (model prog w) A E (ZfZ { s with heap:=ZhF s.heap a vs }) sortRuns' (fun _ st'=>∃ Z,Z.Perm (List.range vs.length) ∧ Srt lt Z ∧ arrOf st' = Zad (vs.toArray.zip vs.toArray) Z ∧ failedOf st' = none) (SortSt.mk' κ (vs.toArray.zip vs.toArray) #[] 7 none):=by
   refine Zn5 (κ:=κ) (it:=vs.toArray.zip vs.toArray) (lt:=lt) (N:=vs.length) ⟨o,fun i j C s' hi hj g hC=>?_⟩ (l:=List.range vs.length) (fun x hx=>List.mem_range.mp hx) ⟨rfl,?_,rfl,rfl⟩ fun Z st' a b c d=>⟨Z,a,b,c,d⟩
   ·rw [← kat_ask_eq (ks:=vs) (vs:=vs) rfl]; exact hc h2' i j C s' hi hj g hC
   ·have e:=kas_range (vs.toArray.zip vs.toArray)
    rw [show (vs.toArray.zip vs.toArray).size = vs.length by simp] at e
    show vs.toArray.zip vs.toArray = _
    rw [Zad,← List.map_toArray]
    exact e.symm
  refine wpAny_bind (wpAny_mono (run s' hs') ?_ fun _ _ e=>e)
  rintro ⟨⟨⟩,st'⟩ s'' ⟨⟨Z,pp,pu,har,hf⟩,⟨t,rfl⟩⟩
  dsimp only
  have hout:=kat_snds (vs:=vs) (ks:=vs) (st:=st') (p:=Z.toArray) rfl (by rw [List.map_toArray]; exact har)
  rw [hout]
  have hlen:Z.length = vs.length:=by have:=pp.length_eq; simpa using this
  refine wpAny_bind (seqEpoch_at g6 rfl (wpAny_bind (listUpdate_at g6 rfl ?_ (Nat.zero_le _) (by rw [List.size_toArray,List.length_map,hlen,sizeLine_eq]; omega))))
  rw [hf]; simp only [bne_self_eq_false,Bool.false_eq_true,if_false]
  refine wpAny_pure (h _ Z t pp (fun i j x y hij hx hy=>?_) rfl)
  rcases Nat.eq_or_lt_of_le hij with q | q
  ·subst q; rw [hx] at hy; cases hy; exact o.rf _
  ·exact ZeD pu q hx hy
theorem Zid {l:Addr} {vs:List Value} {lt:Nat → Nat → Bool} {κ:SortKind} {Q:Value → Shared → Prop} (o:ZfK lt) (hl:s.heap.IsList l vs.toArray) (h64:vs.length ≤ 99999)
  (hk:2 ≤ vs.length → ∀ (h':Heap) (Q:SortKind → Shared → Prop) s',(∀ b u,s.heap.get? b = some u → h'.get? b = some u) → ZfZ { s with heap:=h' } s' → (∀ s'',ZfZ { s with heap:=h' } s'' → Q κ s'') → wpAny (model prog w) A.in1.in1 (keyKind' vs.toArray) Q (fun _ _=>False) s')
  (hc:2 ≤ vs.length → ∀ (h':Heap) i j (C:Bool → Shared → Prop) s',(∀ b u,s.heap.get? b = some u → h'.get? b = some u) → i < vs.length → j < vs.length → ZfZ { s with heap:=h' } s' → (∀ s'',ZfZ { s with heap:=h' } s'' → C (lt i j) s'') → kas_ask prog w A.in1.in1 κ vs i j C s')
  (h:∀ (out:List Value) (p:List Nat) t h' a,p.Perm (List.range vs.length) → (∀ (i j x y:Nat),i ≤ j → p[i]? = some x → p[j]? = some y → lt y x = false) → out = p.map (fun i=>vs.getD i Value.none) →
   (∀ b u,s.heap.get? b = some u → h'.get? b = some u) → s.heap.objs.size ≤ a → (∃ e,h'.get? a = some (seqObj "list" out.toArray e)) → Q (.ref a) { s with heap:=h',toks:=t }):
  wpAny (model prog w) A (call (.builtin "sorted") [.ref l]) Q E s:=by
 refine Calls.call_function_entry kind_sorted plain_sorted entry_sorted (args_sorted1 _) ?_; unfold Builtin.«sorted»
 refine wpAny_bind (m:=checkCount "sorted" 1 1 _) (wpAny_pure (wpAny_bind (collect_list hl ?_ (by rw [sizeLine_eq]; omega)))); refine wpAny_bind (wpAny_newList ?_ (by rw [sizeLine_eq]; omega))
 have hsz:((s.heap.push (seqObj "list" #[] 0)).update s.heap.objs.size (Obj.mapSeq (· ++ vs.toArray))).objs.size = s.heap.objs.size + 1:=(Heap.size_update ..).trans (size_push' ..)
 obtain ⟨h3,e3⟩:∃ h3,((s.heap.push (seqObj "list" #[] 0)).update s.heap.objs.size (Obj.mapSeq (· ++ vs.toArray))).push (seqObj "list" vs.toArray 0) = h3:=⟨_,rfl⟩
 have g3:h3.get? (s.heap.objs.size + 1) = some (seqObj "list" vs.toArray 0):=by rw [← e3,← hsz]; exact Heap.get?_push_size _ rfl
 have k3:∀ b u,s.heap.get? b = some u → h3.get? b = some u:=fun b u q=>by
  have hlt:b < s.heap.objs.size:=Heap.lt_size q
  rw [← e3,Heap.get?_push_ne _ _ _ (by rw [hsz]; exact Nat.ne_of_lt (Nat.lt_succ_of_lt hlt)),Heap.get?_update_ne _ _ _ _ (Nat.ne_of_lt hlt),Heap.get?_push_ne _ _ _ (Nat.ne_of_lt hlt)]; exact q
 have z3:h3.objs.size = s.heap.objs.size + 2:=by rw [← e3,size_push',hsz]
 show wpAny _ _ _ _ _ { s with heap:=((s.heap.push (seqObj "list" #[] 0)).update s.heap.objs.size (Obj.mapSeq (· ++ vs.toArray))).push (seqObj "list" vs.toArray 0) }
 rw [hsz,e3]
 have km:∀ b u,s.heap.get? b = some u → (ZhF h3 (s.heap.objs.size + 1) vs).get? b = some u:=fun b u q=>by
  have hlt:b < s.heap.objs.size:=Heap.lt_size q
  rw [ZnM (Nat.ne_of_lt (Nat.lt_succ_of_lt hlt)) (by rw [z3]; exact Nat.lt_succ_of_lt (Nat.lt_succ_of_lt hlt))]; exact k3 b u q
 refine wpAny_bind (wpAny_holding (wpAny_call_entry slot_list_sort ⟨_,g3,rfl⟩ entry_list_sort ?body (args_list_sort _)))
 case body=>
  refine Zl1 (s:={ s with heap:=h3 }) (κ:=κ) o g3 h64 (fun h2 Q' s' hs' hq=>wpAny_mono (hk h2 _ Q' s' km hs' hq) (fun _ _ q=>q) fun _ _ z=>z.elim) (fun h2 i j C s' hi hj hs' hq=>hc h2 _ i j C s' km hi hj hs' hq) fun out p t hp hu ho=>⟨_,rfl,wpAny_pure ⟨_,rfl,?_⟩⟩
  refine h out p t (sortedHeap h3 (s.heap.objs.size + 1) vs out.toArray) (s.heap.objs.size + 1) hp hu ho (fun b u q=>?_) (by omega) ?_
  ·have hlt:b < s.heap.objs.size:=Heap.lt_size q
   rw [sortedHeap_old (Nat.ne_of_lt (Nat.lt_succ_of_lt hlt)) (by rw [z3]; exact Nat.lt_succ_of_lt (Nat.lt_succ_of_lt hlt))]; exact k3 b u q
  ·exact sortedHeap_at g3
end
end L3
namespace L3
open PySem PySem.W PySem.Spec PyProof.Rows L2
section
variable {X:Cx}
theorem Zif:Zbv X (.builtin "sorted") (rB X.K Zbh):=by
 intro pins s σ H xs us Q I rs ⟨ι,M,ds,S,rd,h⟩
 cases ds with
 | nil=>exact h.elim
 | cons d ds=>
  cases ds with
  | cons _ _=>cases d <;> exact h.elim
  | nil=>
   obtain ⟨x0,rfl,r⟩:=Zey rd
   obtain ⟨u,rfl,ru⟩:=vals1 rs
   cases d with
   | ref n=>
    cases hn:M[n]? with
    | none=>simp only [Zbh,hn] at h; exact h.elim
    | some ob=>
     cases ob with
     | dct _=>simp only [Zbh,hn] at h; exact h.elim
     | fdct _=>simp only [Zbh,hn] at h; exact h.elim
     | lst x=>
      simp only [Zbh,hn] at h
      split at h
      ·rename_i ok
       obtain ⟨a,ha,rfl⟩:=r.ref_inv
       cases ru
       obtain ⟨vs,ev,rv⟩:=S.obj n _ a hn ha
       obtain ⟨its,rr,pl,zl⟩:=I.list (SqL.of ev)
       have lx:its.length = x.length:=by rw [← rr.length,rv.length]
       obtain ⟨d0,hd0⟩:∃ d0:D,∀ e,x = e :: x.tail → d0 ∈ x:=by
        cases x with
        | nil=>exact ⟨.non,fun e h=>by cases h⟩
        | cons e y=>exact ⟨e,fun _ _=>List.mem_cons_self⟩
       have mem:∀ (i:Nat),x ≠ [] → x.getD i d0 ∈ x:=fun i hx=>by
        rw [List.getD_eq_getElem?_getD]
        cases q:x[i]? with
        | some e=>exact List.mem_of_getElem? q
        | none=>
         cases x with
         | nil=>exact absurd rfl hx
         | cons e y=>exact hd0 e rfl
       have ltok:ZfK fun i j=>decide (ltD (x.getD i d0) (x.getD j d0) = some true):=by
        by_cases hx:x = []
        ·subst hx
         have z:∀ (i j:Nat),ltD (([]:List D).getD i d0) (([]:List D).getD j d0) = some true → False:=fun i j hz=>by
          simp only [List.getD_nil] at hz
          have:=Zhi hz; rw [hz] at this; cases this
         exact ⟨fun h=>(z _ _ (of_decide_eq_true h)).elim,fun {i j k} _ _=>decide_eq_false fun h=>z _ _ h⟩
        ·refine ⟨fun {i j} h=>decide_eq_false fun h'=>?_,fun {i j k} h1 h2=>decide_eq_false fun h3=>?_⟩
         ·rw [Zhi (of_decide_eq_true h)] at h'; cases h'
         ·have c1:=ok.cmp _ (mem j hx) _ (mem i hx)
          have c2:=ok.cmp _ (mem k hx) _ (mem j hx)
          have e1:ltD (x.getD j d0) (x.getD i d0) = some false:=by
           cases q:ltD (x.getD j d0) (x.getD i d0) with
           | none=>rw [q] at c1; cases c1
           | some b=>cases b with
            | true=>exact absurd q (of_decide_eq_false h1)
            | false=>rfl
          have e2:ltD (x.getD k d0) (x.getD j d0) = some false:=by
           cases q:ltD (x.getD k d0) (x.getD j d0) with
           | none=>rw [q] at c2; cases c2
           | some b=>cases b with
            | true=>exact absurd q (of_decide_eq_false h2)
            | false=>rfl
          rw [Zng e1 e2] at h3; cases h3
       have fin:∀ (out:List Value) (p:List Nat) t h' a',p.Perm (List.range its.length) → (∀ (i j x' y':Nat),i ≤ j → p[i]? = some x' → p[j]? = some y' → decide (ltD (x.getD y' d0) (x.getD x' d0) = some true) = false) → out = p.map (fun i=>its.getD i Value.none) →
         (∀ b u,s.heap.get? b = some u → h'.get? b = some u) → s.heap.objs.size ≤ a' → (∃ e,h'.get? a' = some (seqObj "list" out.toArray e)) → ∃ v H',Inv X pins σ H' { s with heap:=h',toks:=t } ∧ RelV v (.ref a') ∧ Q v H':=by
        intro out p t h' a' hp hu ho hk ha' ⟨e,he⟩
        have hlt:∀ i ∈ p,i < x.length:=fun i hi=>by have:=hp.mem_iff.mp hi; rw [lx] at this; simpa using this
        have plen:p.length = x.length:=by have:=hp.length_eq; simpa [lx] using this
        have sq:Zhf x (p.map fun i=>x.getD i d0):=by
         refine ⟨ZlW d0 (by rw [← lx]; exact hp),?_⟩
         rw [List.pairwise_map,List.pairwise_iff_getElem]
         intro i j hi hj hij
         have hd:=hu i j p[i] p[j] (Nat.le_of_lt hij) (by simp) (by simp)
         by_cases hx:x = []
         ·subst hx; simp at plen; subst plen; simp at hi
         ·have c1:=ok.cmp _ (mem p[j] hx) _ (mem p[i] hx)
          unfold leD
          cases q:ltD (x.getD p[j] d0) (x.getD p[i] d0) with
          | none=>rw [q] at c1; cases c1
          | some b=>cases b with
           | true=>exact absurd q (of_decide_eq_false hd)
           | false=>rfl
        rw [Zhe sq] at h
        have hn0:=I.hok.fresh ha'
        obtain ⟨x2,S2,r2⟩:=S.lst hn0 (rv.pick d0 .non p hlt)
        refine ⟨.ref a',_,I.laid (o:=.lst (p.map fun i=>vs.getD i .non)) hk ha' ⟨?_,out,e,?_,he⟩,rfl,h _ _ _ x2 S2 r2⟩
        ·rw [List.length_map,plen,sizeLine_eq]; have:=ok.len; omega
        ·rw [ho]; exact Vals.pick rr .non p fun i hi=>by rw [rv.length]; exact hlt i hi
       rcases ok.kind with kd | kd
       ·refine Zid (κ:=tuples' (Value.type "int" != Value.type "tuple")) ltok pl.isList (by rw [lx]; exact ok.len) (fun h2 h' Q' s' hk hs' hq=>?_) (fun h2 h' i j C s' hk hi hj hs' hC=>?_) fun out p t h' a' hp hu ho hk ha' he=>fin out p t h' a' hp hu ho hk ha' he
        ·obtain ⟨fs,kt,lf,hf⟩:=ZgB I hk x vs its rv rr kd
         obtain ⟨t,rfl⟩:=hs'
         refine kat_kind (T:=.type "int") kt (by rw [lf,← lx]; omega) (fun v hv=>?_) (by decide) (hq _ ⟨t,rfl⟩)
         obtain ⟨i,tk,rfl⟩:=hf v hv
         exact Looks.now
        ·obtain ⟨t,rfl⟩:=hs'
         have hxi:x[i]? = some x[i]:=by rw [List.getElem?_eq_getElem]
         have hxj:x[j]? = some x[j]:=by rw [List.getElem?_eq_getElem]
         obtain ⟨vi,ri,qi,_⟩:=Zee rv rr hxi
         obtain ⟨vj,rj,qj,_⟩:=Zee rv rr hxj
         have ki:=List.all_eq_true.mp kd _ (List.getElem_mem (show i < x.length by omega))
         have kj:=List.all_eq_true.mp kd _ (List.getElem_mem (show j < x.length by omega))
         have cm:=ok.cmp _ (List.getElem_mem (show i < x.length by omega)) _ (List.getElem_mem (show j < x.length by omega))
         have gi:x.getD i d0 = x[i]:=by simp [show i < x.length by omega]
         have gj:x.getD j d0 = x[j]:=by simp [show j < x.length by omega]
         simp only [gi,gj] at hC
         generalize x[i] = di at *
         generalize x[j] = dj at *
         cases di with
         | tup di=>
          cases dj with
          | tup dj=>
           obtain ⟨a1,w1,rfl,s1,e1⟩:=qi.tup_inv
           obtain ⟨a2,w2,rfl,s2,e2⟩:=qj.tup_inv
           obtain ⟨i1,v1,⟨o1,g1,_,n1,d1⟩,_⟩:=I.tuple s1
           obtain ⟨i2,v2,⟨o2,g2,_,n2,d2⟩,_⟩:=I.tuple s2
           unfold kas_ask
           rw [show its.getD i Value.none = .ref a1 from ri,show its.getD j Value.none = .ref a2 from rj]
           cases q:ltT di dj with
           | none=>simp only [ltD,q] at cm; cases cm
           | some b=>
            refine kat_lt (hk _ _ g1) d1 (hk _ _ g2) d2 (ZmX (r:=b) ?_ di dj w1 w2 i1 i2 0 _ e1 e2 v1 v2 ?_ (fun _ d hd=>?_) q)
            ·have:=hC _ ⟨t,rfl⟩
             simp only [ltD,q] at this
             cases b <;> simpa using this
            ·rw [List.size_toArray,List.size_toArray,← v1.length,← v2.length,e1.length,e2.length]
            ·cases di with
             | nil=>cases hd
             | cons d' r'=>cases hd; cases d <;> simp [Zdj,ZfF] at ki ⊢
          | _=>simp [Zdj] at kj
         | _=>simp [Zdj] at ki
       ·refine Zid (κ:=oneType') ltok pl.isList (by rw [lx]; exact ok.len) (fun h2 h' Q' s' hk hs' hq=>?_) (fun h2 h' i j C s' hk hi hj hs' hC=>?_) fun out p t h' a' hp hu ho hk ha' he=>fin out p t h' a' hp hu ho hk ha' he
        ·obtain ⟨t,rfl⟩:=hs'
         refine kas_kind (T:=.type "int") h2 (fun v hv=>?_) (by decide) (by decide) (hq _ ⟨t,rfl⟩)
         obtain ⟨i,hi,rfl⟩:=List.getElem_of_mem hv
         have hxi:x[i]? = some x[i]:=by rw [List.getElem?_eq_getElem]
         obtain ⟨vi,ri,qi,_⟩:=Zee rv rr hxi
         have ki:=List.all_eq_true.mp kd _ (List.getElem_mem (show i < x.length by omega))
         have gi:its.getD i Value.none = its[i]:=by simp [hi]
         rw [gi] at ri
         generalize x[i] = di at *
         cases di with
         | int k=>
          have:=qi.int_inv
          subst this
          obtain ⟨tk,e⟩:=ri
          rw [e]
          exact Looks.now
         | _=>simp [ZfF] at ki
        ·obtain ⟨t,rfl⟩:=hs'
         have hxi:x[i]? = some x[i]:=by rw [List.getElem?_eq_getElem]
         have hxj:x[j]? = some x[j]:=by rw [List.getElem?_eq_getElem]
         obtain ⟨vi,ri,qi,_⟩:=Zee rv rr hxi
         obtain ⟨vj,rj,qj,_⟩:=Zee rv rr hxj
         have ki:=List.all_eq_true.mp kd _ (List.getElem_mem (show i < x.length by omega))
         have kj:=List.all_eq_true.mp kd _ (List.getElem_mem (show j < x.length by omega))
         have gi:x.getD i d0 = x[i]:=by simp [show i < x.length by omega]
         have gj:x.getD j d0 = x[j]:=by simp [show j < x.length by omega]
         simp only [gi,gj] at hC
         generalize x[i] = di at *
         generalize x[j] = dj at *
         cases di with
         | int p=>
          cases dj with
          | int q=>
           have:=qi.int_inv; subst this
           have:=qj.int_inv; subst this
           obtain ⟨t1,e1⟩:=ri
           obtain ⟨t2,e2⟩:=rj
           unfold kas_ask
           rw [e1,e2,keyLt'_oneType]
           refine oneLt_int ?_
           have:=hC _ ⟨t,rfl⟩
           simpa [ltD] using this
          | _=>simp [ZfF] at kj
         | _=>simp [ZfF] at ki
      ·exact h.elim
   | _=>exact h.elim
end
end L3
namespace L3
open PySem PySem.Spec PyProof.Rows L2
noncomputable def gK {α:Type} (n:Nat) (us ws:List α):List α:=if us.length = n ∧ ws.length = 1 then us ++ ws else []
noncomputable def Zrs (P:Program) (w:World) (K:PySem.W.Frag) (mg:Str → Option Value) (base:Heap) (k:Nat) (x:Str) (ps:List Str) (F:F3) (dd:List D) (n:Nat) (nm:Str):Prop:=
 (∀ ds M,ds.length ≠ ps.length → F ds M = .bad) ∧ ∃ f fd ds dvs,mg x = some (.ref f) ∧ PySem.W.keepIn K (.ref f) = true ∧ Binds K fd ps [] ∧ Binds K fd ps ds ∧ Vals dvs ds ∧ (∀ H ι,Zab K H ι dd dvs) ∧ Zpv K fd ps [nm] (gK n) (gK n) ∧ ZgL P w K mg base CX0 k f fd ps (sp3 K ps.length F)
section
variable {P:Program} {w:World} {K:PySem.W.Frag} {mg:Str → Option Value} {base:Heap} {dd:List D} {n:Nat} {nm:Str}
theorem Zrs.fn {k:Nat} {x:Str} {ps:List Str} {F:F3} (h:Zrs P w K mg base k x ps F dd n nm):Fn3 P w K mg base k x ps F:=
 let ⟨a,f,fd,_,_,b,c,d,_,_,_,_,e⟩:=h; ⟨a,f,fd,b,c,d,e⟩
end
section
variable {X:Cx} {e e':Expr} {es:List Expr} {pos p kpos:Pos} {gl:EL3} {g:E3} {x nm:Str} {k n:Nat} {ps:List Str} {F:F3} {dd:List D}
end
end L3
namespace L3
open PySem PySem.W PySem.Spec PyProof.Rows L2
@[simp] noncomputable def ZjH (a b:D) (M:Store):R3 D:=match a,b with
 | .non,.non=>.ok (.bl false) M
 | a,b=>ZbE a b M
section
variable {X:Cx}
theorem Zru (hu:X.A.units + 80 < cLine):OpR X (compareOp .NotEq) (r2 X.K ZjH):=by
 intro pins s σ H x y v u Q I rx ry h
 obtain ⟨ι,M,a,b,S,ra,rb,h⟩:=h
 by_cases c:a = .non ∧ b = .non
 ·obtain ⟨rfl,rfl⟩:=c
  have e1:=ra.non_inv; subst e1
  have e2:=rb.non_inv; subst e2
  cases rx
  cases ry
  exact EqNone.ne_none_none ⟨.bl false,H,I,rfl,Zau.ok h S Rep.bl⟩
 ·have e:ZjH a b M = ZbE a b M:=by
   unfold ZjH
   split
   ·rename_i q1 q2; exact absurd ⟨rfl,rfl⟩ c
   ·rfl
  rw [e] at h
  exact ZhX hu pins s σ H x y v u Q I rx ry ⟨ι,M,a,b,S,ra,rb,h⟩
end
end L3
set_option maxHeartbeats 400000
namespace Law
open PySem L3
noncomputable section
noncomputable def ZfU:S3:=Zw (sIf (e2 ZaF (e2 Ze (Za 0) (eC (.int 0))) (eC (.str [106,117,109,112]))) (Zak (e2 Ze (Za 0) (eC (.int 1)))) (Zaa)) (Zw (sIf (Zdx (e2 ZaF (e2 Ze (Za 0) (eC (.int 0))) (eC (.str [119,104,101,110]))) (e2 Zfk (e2 Ze (Za 2) (e2 Ze (Za 0) (eC (.int 1)))) (eC (.int 0)))) (Zak (e2 Ze (Za 0) (eC (.int 2)))) (Zaa)) (Zak (e2 Zar (Za 1) (eC (.int 1)))))
noncomputable def Zb7:F3:=mkF 3 3 ZfU
noncomputable def ZeO:S3:=Zw (sIf (e2 ZaF (Za 0) (eC (.str [97,100,100]))) (Zak (e2 Zar (Za 1) (Za 2))) (Zaa)) (Zw (sIf (e2 ZaF (Za 0) (eC (.str [115,117,98]))) (Zak (e2 Zds (Za 1) (Za 2))) (Zaa)) (Zak (eIf (e2 Zfk (Za 1) (Za 2)) (eC (.int 1)) (eC (.int 0)))))
noncomputable def Zb2:F3:=mkF 3 3 ZeO
noncomputable def Zho:S3:=Zak (e2 Zar (e2 Zar (eSl (Za 0) (ZaW) (ZaX (Za 1))) (ZaD (Zb (Za 2) (Zg)))) (eSl (Za 0) (ZaX (e2 Zar (Za 1) (eC (.int 1)))) (ZaW)))
noncomputable def ZbC:F3:=mkF 3 3 Zho
noncomputable def Zf4:S3:=Zak (ZdV ZiL ZjW (Zas ZgF (Zb (Za 0) (Zg))) (Zb (Za 1) (Zb (eC (.int 0)) (Zg))))
noncomputable def ZcP:F3:=mkF 2 2 Zf4
noncomputable def Zex:S3:=Zw (Zan 3 (e2 Ze (Za 0) (eC (.int 0)))) (Zw (sIf (e2 ZaF (Za 3) (eC (.str [112,117,116]))) (Zak (Zac ZbC (Zb (Za 1) (Zb (e2 Ze (Za 0) (eC (.int 1))) (Zb (e2 Ze (Za 0) (eC (.int 2))) (Zg)))))) (Zaa)) (Zw (sIf (e2 ZaF (Za 3) (eC (.str [103,101,116]))) (Zak (Zac ZbC (Zb (Za 1) (Zb (e2 Ze (Za 0) (eC (.int 1))) (Zb (Zac ZcP (Zb (Za 2) (Zb (e2 Ze (Za 1) (e2 Ze (Za 0) (eC (.int 2)))) (Zg)))) (Zg)))))) (Zaa)) (Zw (sIf (e2 Zi4 (Za 3) (ZaD (Zb (eC (.str [97,100,100])) (Zb (eC (.str [115,117,98])) (Zb (eC (.str [109,111,114,101])) (Zg)))))) (Zak (Zac ZbC (Zb (Za 1) (Zb (e2 Ze (Za 0) (eC (.int 1))) (Zb (Zac Zb2 (Zb (Za 3) (Zb (e2 Ze (Za 1) (e2 Ze (Za 0) (eC (.int 2)))) (Zb (e2 Ze (Za 1) (e2 Ze (Za 0) (eC (.int 3)))) (Zg))))) (Zg)))))) (Zaa)) (Zak (Za 1)))))
noncomputable def ZdE:F3:=mkF 3 4 Zex
noncomputable def ZeR:S3:=Zak (Zdx (e2 Zqo (Za 0) (eC (.int 0))) (e2 ZkW (Za 0) (Za 1)))
noncomputable def Zbw:F3:=mkF 2 2 ZeR
noncomputable def Zjr:S3:=Zak (e2 Zi4 (e2 Ze (Za 0) (eC (.int 0))) (ZaD (Zb (eC (.str [103,101,116])) (Zb (eC (.str [115,101,116])) (Zg)))))
noncomputable def Zb3:F3:=mkF 1 1 Zjr
noncomputable def Zdh:S3:=Zak (eIf (e2 ZaF (e2 Ze (Za 0) (eC (.int 0))) (eC (.str [103,101,116]))) (e2 Ze (Za 1) (e2 Ze (Za 0) (eC (.int 2)))) (e2 Ze (Za 1) (e2 Ze (Za 0) (eC (.int 1)))))
noncomputable def ZaZ:F3:=mkF 2 2 Zdh
noncomputable def Zkl:S3:=Zak (eIf (Zac Zbw (Zb (Za 1) (Zb (Zas ZaY (Zb (Za 0) (Zg))) (Zg)))) (e2 Ze (Za 0) (Za 1)) (eC .non))
noncomputable def Zcv:F3:=mkF 2 2 Zkl
noncomputable def Ze0:S3:=Zw (sIf (e2 ZaF (e2 Ze (Za 0) (eC (.int 0))) (eC (.str [103,101,116]))) (Zak (Zac ZbC (Zb (Za 1) (Zb (e2 Ze (Za 0) (eC (.int 1))) (Zb (e2 Ze (Za 2) (e2 Ze (Za 0) (eC (.int 1)))) (Zg)))))) (Zaa)) (Zak (Zac ZdE (Zb (Za 0) (Zb (Za 1) (Zb (ZaD (Zg)) (Zg))))))
noncomputable def Zbo:F3:=mkF 3 3 Ze0
noncomputable def ZgG:S3:=Zw (Zan 3 (e2 Ze (Za 1) (eC (.int 0)))) (Zw (Zan 4 (e2 Ze (Za 1) (eC (.int 1)))) (Zw (Zan 5 (Zac Zcv (Zb (Za 0) (Zb (Za 3) (Zg))))) (Zw (sIf (eOr (e2 Zjq (Za 5) (eC .non)) (e2 ZaF (e2 Ze (Za 5) (eC (.int 0))) (eC (.str [104,97,108,116])))) (Zak (eC (.bl false))) (Zaa)) (Zak (e2 ZaF (Za 2) (ZaD (Zb (Zac Zb7 (Zb (Za 5) (Zb (Za 3) (Zb (Za 4) (Zg))))) (Zb (Zac Zbo (Zb (Za 5) (Zb (Za 4) (Zb (e2 Ze (Za 2) (eC (.int 1))) (Zg))))) (Zg)))))))))
noncomputable def ZcK:F3:=mkF 3 6 ZgG
noncomputable def Zg3:S3:=Zw (sIf (Zdx (e2 Zcf (Za 0) (eC .non)) (e2 Zlt (eSl (Za 1) (ZaW) (ZaX (eC (.int 2)))) (eSl (Za 0) (ZaW) (ZaX (eC (.int 2)))))) (Zak (eC (.bl false))) (Zaa)) (Zw (sIf (e2 ZbE (e2 Ze (Za 1) (eC (.int 2))) (eC (.str [103,101,116]))) (Zak (eC (.bl true))) (Zaa)) (Zw (Zan 2 (Zdx (e2 Zcf (Za 0) (eC .non)) (e2 ZaF (e2 Ze (Za 0) (eC (.int 0))) (e2 Ze (Za 1) (eC (.int 0)))))) (Zak (e2 ZaF (e2 Ze (Za 1) (eC (.int 3))) (eIf (Za 2) (e2 Ze (Za 0) (eC (.int 3))) (eC (.int 0)))))))
noncomputable def ZcC:F3:=mkF 2 3 Zg3
noncomputable def Zfr:S3:=Zw (Zan 3 (e2 Ze (Za 2) (eC (.int 1)))) (Zw (sIf (e1 Zdn (Zac Zbw (Zb (Za 3) (Zb (e2 Zds (Zas ZaY (Zb (Za 1) (Zg))) (eC (.int 1))) (Zg))))) (Zak (eC (.bl false))) (Zaa)) (Zw (Zan 4 (e2 Ze (e2 Ze (Za 1) (Za 3)) (eC (.int 1)))) (Zw (Zan 5 (Zac Zcv (Zb (Za 0) (Zb (e2 Ze (e2 Ze (Za 1) (Za 3)) (eC (.int 0))) (Zg))))) (Zw (sIf (eOr (e2 Zjq (Za 5) (eC .non)) (eOr (e1 Zdn (Zac Zb3 (Zb (Za 5) (Zg)))) (e2 ZbE (e2 Ze (Za 2) (eC (.int 2))) (e2 Ze (Za 5) (eC (.int 0)))))) (Zak (eC (.bl false))) (Zaa)) (Zw (sIf (e2 ZbE (e2 Ze (Za 2) (eC (.int 0))) (Zac ZaZ (Zb (Za 5) (Zb (Za 4) (Zg))))) (Zak (eC (.bl false))) (Zaa)) (Zw (sIf (e2 ZaF (e2 Ze (Za 5) (eC (.int 0))) (eC (.str [103,101,116]))) (Zak (e2 ZaF (e2 Ze (Za 2) (eC (.int 3))) (e2 Ze (e2 Ze (e2 Ze (Za 1) (e2 Zar (Za 3) (eC (.int 1)))) (eC (.int 1))) (e2 Ze (Za 5) (eC (.int 1)))))) (Zaa)) (Zak (e2 ZaF (e2 Ze (Za 2) (eC (.int 3))) (e2 Ze (Za 4) (e2 Ze (Za 5) (eC (.int 2))))))))))))
noncomputable def ZbB:F3:=mkF 3 6 Zfr
noncomputable def ZdO:S3:=Zw (Zjc (ZdD (e2 Zds (Zas ZaY (Zb (Za 1) (Zg))) (eC (.int 1)))) (Zcw 2) (sIf (e1 Zdn (Zac ZcK (Zb (Za 0) (Zb (e2 Ze (Za 1) (Za 2)) (Zb (e2 Ze (Za 1) (e2 Zar (Za 2) (eC (.int 1)))) (Zg)))))) (Zak (Za 2)) (Zaa))) (Zak (eC .non))
noncomputable def ZbN:F3:=mkF 2 3 ZdO
noncomputable def ZcY:S3:=Zw (Zan 2 (Za 0)) (Zw (Zh8 (Zjm (Za 1)) (Zd4 [3,4]) (Zw (sIf (e1 Zdn (Zac ZcC (Zb (Za 2) (Zb (Za 4) (Zg))))) (Zak (Za 3)) (Zaa)) (Zan 2 (Za 4)))) (Zak (eC .non)))
noncomputable def Zbx:F3:=mkF 2 5 ZcY
noncomputable def Zc3:S3:=Zw (Zh8 (Zjm (Za 2)) (Zd4 [3,4]) (sIf (e1 Zdn (Zac ZbB (Zb (Za 0) (Zb (Za 1) (Zb (Za 4) (Zg)))))) (Zak (Za 3)) (Zaa))) (Zak (eC .non))
noncomputable def Za5:F3:=mkF 3 5 Zc3
noncomputable def Zej:S3:=Zw (sIf (eOr (e2 ZaF (Zas ZaY (Zb (Za 2) (Zg))) (eC (.int 0))) (e2 ZbE (e2 Ze (Za 2) (eC (.int 0))) (ZaD (Zb (eC (.int 0)) (Zb (Za 1) (Zg)))))) (Zak (ZaD (Zb (eC (.str [98,101,103,105,110])) (Zb (eC (.int 0)) (Zg))))) (Zaa)) (Zw (Zan 3 (Zac ZbN (Zb (Za 0) (Zb (Za 2) (Zg))))) (Zw (sIf (e2 Zcf (Za 3) (eC .non)) (Zak (ZaD (Zb (eC (.str [115,116,101,112])) (Zb (Za 3) (Zg))))) (Zaa)) (Zw (Zan 4 (e2 Zds (Zas ZaY (Zb (Za 2) (Zg))) (eC (.int 1)))) (Zw (sIf (e2 ZbE (Zac Zcv (Zb (Za 0) (Zb (e2 Ze (e2 Ze (Za 2) (Za 4)) (eC (.int 0))) (Zg)))) (ZaD (Zb (eC (.str [104,97,108,116])) (Zg)))) (Zak (ZaD (Zb (eC (.str [101,110,100])) (Zb (Za 4) (Zg))))) (Zaa)) (Zak (eC .non))))))
noncomputable def Zce:F3:=mkF 3 5 Zej
noncomputable def Zdu:S3:=Zw (Zan 3 (Zac Zbx (Zb (eC .non) (Zb (Za 2) (Zg))))) (Zw (sIf (e2 Zcf (Za 3) (eC .non)) (Zak (ZaD (Zb (eC (.str [117,115,101])) (Zb (Za 3) (Zg))))) (Zaa)) (Zw (Zan 4 (Zac Za5 (Zb (Za 0) (Zb (Za 1) (Zb (Za 2) (Zg)))))) (Zw (sIf (e2 Zcf (Za 4) (eC .non)) (Zak (ZaD (Zb (eC (.str [109,97,116,99,104])) (Zb (Za 4) (Zg))))) (Zaa)) (Zw (Zan 5 (eLC (ZiM (eSl (Za 1) (ZaW) (ZaX (e1 ZeF (eC (.int 1)))))) 1 (Zcw 6) [Zac Zb3 (Zb (e2 Ze (Za 0) (e2 Ze (Za 6) (eC (.int 0)))) (Zg))] (Za 6))) (Zw (sIf (e2 ZbE (Zas ZaY (Zb (Za 2) (Zg))) (Zas ZaY (Zb (Za 5) (Zg)))) (Zak (ZaD (Zb (eC (.str [99,111,117,110,116])) (Zb (Zas ZaY (Zb (Za 2) (Zg))) (Zg))))) (Zaa)) (Zak (eC .non)))))))
noncomputable def ZbP:F3:=mkF 3 6 Zdu
noncomputable def ZlL:S3:=Zw (Zan 4 (Zac Zce (Zb (Za 0) (Zb (Za 1) (Zb (Za 2) (Zg)))))) (Zak (eIf (e2 Zcf (Za 4) (eC .non)) (Za 4) (Zac ZbP (Zb (Za 0) (Zb (Za 2) (Zb (Za 3) (Zg)))))))
noncomputable def ZdG:F3:=mkF 4 5 ZlL
noncomputable def ZdN:S3:=Zw (sIf (eOr (e2 Zg6 (Za 0) (e1 ZeF (e2 Ziq (eC (.int 10)) (eC (.int 6))))) (e2 Zqo (Za 0) (e2 Ziq (eC (.int 10)) (eC (.int 6))))) (Zak (Za 0)) (Zaa)) (Zw (Zan 2 (e2 Zar (e2 Zar (e2 Zar (e2 ZeP (eC (.int 31)) (Za 0)) (e2 ZeP (Za 1) (Za 1))) (e2 ZeP (eC (.int 17)) (Za 1))) (eC (.int 2000033)))) (Zw (Zan 2 (e2 Za3 (e2 ZeP (e2 Zar (Za 0) (eC (.int 1000003))) (Za 2)) (eC (.int 2147483629)))) (Zak (e2 Zar (e2 ZeP (Za 2) (Za 2)) (e2 Zbj (Za 2) (eC (.int 7)))))))
noncomputable def Za2:F3:=mkF 2 3 ZdN
noncomputable def Zco:S3:=Zw (sIf (e2 ZkW (e2 Za3 (Za 0) (eC (.int 3))) (eC (.int 2))) (Zak (e2 Zds (e2 Za3 (e2 Zbj (Za 0) (eC (.int 3))) (eC (.int 7))) (eC (.int 3)))) (Zaa)) (Zw (sIf (e2 ZaF (e2 Za3 (e2 Zbj (Za 0) (eC (.int 3))) (eC (.int 2))) (eC (.int 0))) (Zak (e2 Za3 (e2 Zbj (Za 0) (eC (.int 6))) (e2 Ziq (eC (.int 10)) (eC (.int 30))))) (Zaa)) (Zak (e1 ZeF (e2 Za3 (e2 Zbj (Za 0) (eC (.int 6))) (e2 Ziq (eC (.int 10)) (eC (.int 30)))))))
noncomputable def ZaI:F3:=mkF 1 1 Zco
noncomputable def Zeq:S3:=Zw (Zan 3 (Zac Za2 (Zb (Za 0) (Zb (Za 1) (Zg))))) (Zw (Zan 4 (ZgS (Zb (eC (.str [112,117,116])) (Zb (eC (.str [112,117,116])) (Zb (eC (.str [97,100,100])) (Zb (eC (.str [115,117,98])) (Zb (eC (.str [109,111,114,101])) (Zb (eC (.str [103,101,116])) (Zb (eC (.str [103,101,116])) (Zb (eC (.str [103,101,116])) (Zb (eC (.str [115,101,116])) (Zb (eC (.str [115,101,116])) (Zb (eC (.str [115,101,116])) (Zb (eC (.str [115,101,116])) (Zg))))))))))))))) (Zw (Zan 5 (e2 Ze (e2 Zar (Za 4) (ZgS (Zb (eC (.str [106,117,109,112])) (Zb (eC (.str [119,104,101,110])) (Zb (eC (.str [119,104,101,110])) (Zb (eC (.str [116,101,108,108])) (Zg))))))) (e2 Za3 (Za 3) (eC (.int 16))))) (Zw (Zan 3 (e2 Zbj (Za 3) (eC (.int 16)))) (Zw (sIf (e2 ZaF (e2 Za3 (Za 3) (eC (.int 41))) (eC (.int 7))) (Zak (ZaD (Zb (eC (.str [104,97,108,116])) (Zg)))) (Zaa)) (Zw (Zan 6 (e2 Za3 (Za 3) (eC (.int 8)))) (Zw (Zan 7 (e2 Za3 (e2 Zbj (Za 3) (eC (.int 8))) (eC (.int 8)))) (Zw (Zan 8 (e2 Za3 (e2 Zbj (Za 3) (eC (.int 64))) (eC (.int 8)))) (Zw (Zan 9 (e2 Zar (e2 Zar (Za 1) (eC (.int 1))) (e2 Za3 (e2 Zbj (Za 3) (eC (.int 32))) (e2 Zds (Za 2) (Za 1))))) (Zw (sIf (e2 ZaF (e2 Za3 (e2 Zbj (Za 3) (eC (.int 8))) (eC (.int 4))) (eC (.int 0))) (Zan 9 (e2 Za3 (e2 Zbj (Za 3) (eC (.int 32))) (e2 Zar (Za 2) (eC (.int 1))))) (Zaa)) (Zw (sIf (e2 ZaF (Za 5) (eC (.str [112,117,116]))) (Zak (ZaD (Zb (Za 5) (Zb (Za 6) (Zb (Zac ZaI (Zb (e2 Zbj (Za 3) (eC (.int 8))) (Zg))) (Zg)))))) (Zaa)) (Zw (sIf (e2 Zi4 (Za 5) (ZaD (Zb (eC (.str [97,100,100])) (Zb (eC (.str [115,117,98])) (Zb (eC (.str [109,111,114,101])) (Zg)))))) (Zak (ZaD (Zb (Za 5) (Zb (Za 6) (Zb (Za 7) (Zb (Za 8) (Zg))))))) (Zaa)) (Zw (sIf (e2 ZaF (Za 5) (eC (.str [106,117,109,112]))) (Zak (ZaD (Zb (Za 5) (Zb (Za 9) (Zg))))) (Zaa)) (Zw (sIf (e2 ZaF (Za 5) (eC (.str [119,104,101,110]))) (Zak (ZaD (Zb (Za 5) (Zb (Za 6) (Zb (Za 9) (Zg)))))) (Zaa)) (Zak (e2 Ze (ZgS (Zb (ZaD (Zb (Za 5) (Zb (Za 6) (Zb (Za 7) (Zg))))) (Zb (ZaD (Zb (Za 5) (Zb (Za 6) (Zg)))) (Zg)))) (Zas Zis (Zb (e2 ZaF (Za 5) (eC (.str [116,101,108,108]))) (Zg))))))))))))))))))
noncomputable def ZbM:F3:=mkF 3 10 Zeq
noncomputable def Zdo:S3:=Zw (Zan 1 (eSl (Za 0) (ZaW) (ZaX (eC (.int 60))))) (Zw (Zan 2 (eLC (ZdD (Zas ZaY (Zb (Za 1) (Zg)))) 1 (Zcw 5) [] (Zac ZbM (Zb (e2 Ze (Za 1) (Za 5)) (Zb (Za 5) (Zb (Zas ZaY (Zb (Za 1) (Zg))) (Zg))))))) (Zw (Zan 3 (ZaD (Zb (eC (.str [104,97,108,116])) (Zg)))) (Zw (sIf (Zdx (e2 Zfk (Zas ZaY (Zb (Za 1) (Zg))) (eC (.int 0))) (e2 ZaF (e2 Za3 (e2 Ze (Za 1) (eC (.int 0))) (eC (.int 4))) (eC (.int 1)))) (Zw (Zan 4 (Zac Za2 (Zb (e2 Ze (Za 1) (eC (.int 0))) (Zb (eC (.int 61)) (Zg))))) (Zw (ZfN (Za 2) (e2 Za3 (Za 4) (Zas ZaY (Zb (Za 2) (Zg)))) (Za 3)) (Zan 3 (ZaD (Zb (eC (.str [106,117,109,112])) (Zb (e2 Za3 (e2 Zbj (Za 4) (eC (.int 64))) (e2 Zar (Zas ZaY (Zb (Za 2) (Zg))) (eC (.int 1)))) (Zg))))))) (Zaa)) (Zak (Zas Za7 (Zb (e2 Zar (Za 2) (ZgS (Zb (Za 3) (Zg)))) (Zg)))))))
noncomputable def Zdr:F3:=mkF 1 5 Zdo
noncomputable def ZfI:S3:=Zw (Zan 1 (ZgS (Zg))) (Zw (Zjc (ZdD (eC (.int 8))) (Zcw 2) (Zw (Zan 3 (eC (.int 0))) (Zw (sIf (e2 Zfk (Zas ZaY (Zb (Za 0) (Zg))) (eC (.int 0))) (Zan 3 (e2 Ze (Za 0) (e2 Za3 (e2 Zar (e2 ZeP (eC (.int 5)) (Za 2)) (eC (.int 3))) (Zas ZaY (Zb (Za 0) (Zg)))))) (Zaa)) (Za9 (ZdV tyL Zbz (Za 1) (Zb (Zac ZaI (Zb (Zac Za2 (Zb (Za 3) (Zb (e2 Zar (eC (.int 100)) (Za 2)) (Zg)))) (Zg))) (Zg))))))) (Zak (Zas Za7 (Zb (Za 1) (Zg)))))
noncomputable def ZdJ:F3:=mkF 1 4 ZfI
noncomputable def Ze4:S3:=Zw (Zan 4 (e2 Ze (Za 0) (eC (.int 0)))) (Zw (sIf (e2 ZaF (Za 4) (eC (.str [112,117,116]))) (ZfN (Za 2) (e2 Ze (Za 0) (eC (.int 1))) (e2 Ze (Za 0) (eC (.int 2)))) (sIf (e2 ZaF (Za 4) (eC (.str [97,100,100]))) (ZfN (Za 2) (e2 Ze (Za 0) (eC (.int 1))) (e2 Zar (e2 Ze (Za 2) (e2 Ze (Za 0) (eC (.int 2)))) (e2 Ze (Za 2) (e2 Ze (Za 0) (eC (.int 3)))))) (sIf (e2 ZaF (Za 4) (eC (.str [115,117,98]))) (ZfN (Za 2) (e2 Ze (Za 0) (eC (.int 1))) (e2 Zds (e2 Ze (Za 2) (e2 Ze (Za 0) (eC (.int 2)))) (e2 Ze (Za 2) (e2 Ze (Za 0) (eC (.int 3)))))) (sIf (e2 ZaF (Za 4) (eC (.str [109,111,114,101]))) (ZfN (Za 2) (e2 Ze (Za 0) (eC (.int 1))) (Zas Zis (Zb (e2 Zfk (e2 Ze (Za 2) (e2 Ze (Za 0) (eC (.int 2)))) (e2 Ze (Za 2) (e2 Ze (Za 0) (eC (.int 3))))) (Zg)))) (sIf (e2 ZaF (Za 4) (eC (.str [103,101,116]))) (ZfN (Za 2) (e2 Ze (Za 0) (eC (.int 1))) (ZdV ZiL ZjW (Za 3) (Zb (e2 Ze (Za 2) (e2 Ze (Za 0) (eC (.int 2)))) (Zb (eC (.int 0)) (Zg))))) (sIf (e2 ZaF (Za 4) (eC (.str [115,101,116]))) (Zlv (Za 3) (e2 Ze (Za 2) (e2 Ze (Za 0) (eC (.int 1)))) (e2 Ze (Za 2) (e2 Ze (Za 0) (eC (.int 2))))) (sIf (eOr (e2 ZaF (Za 4) (eC (.str [106,117,109,112]))) (Zdx (e2 ZaF (Za 4) (eC (.str [119,104,101,110]))) (e2 Zfk (e2 Ze (Za 2) (e2 Ze (Za 0) (eC (.int 1)))) (eC (.int 0))))) (Zak (e2 Ze (Za 0) (e1 ZeF (eC (.int 1))))) (Zaa)))))))) (Zak (e2 Zar (Za 1) (eC (.int 1)))))
noncomputable def ZbJ:F3:=mkF 4 5 Ze4
noncomputable def Zfv:S3:=Zw (Zan 3 (eC (.int 0))) (Zw (Zan 4 (Zas ZiD (Zb (Za 1) (Zg)))) (Zw (Zan 5 (Zo7)) (Zw (Zan 6 (ZgS (Zb (ZaD (Zb (eC (.int 0)) (Zb (Zas Za7 (Zb (Za 1) (Zg))) (Zb (ZaD (Zg)) (Zg))))) (Zg)))) (Zw (ZkI (Zdx (e2 ZbE (e2 Ze (e2 Ze (Za 0) (Za 3)) (eC (.int 0))) (eC (.str [104,97,108,116]))) (e2 Zg6 (Zas ZaY (Zb (Za 6) (Zg))) (Za 2))) (Zw (Zan 3 (Zac ZbJ (Zb (e2 Ze (Za 0) (Za 3)) (Zb (Za 3) (Zb (Za 4) (Zb (Za 5) (Zg))))))) (Zw (Zan 7 (Zk2 (Za 5) 1 (Zcw 8) [e2 ZbE (e2 Zc6 (Za 5) (Za 8)) (eC (.int 0))] (ZaD (Zb (Za 8) (Zb (e2 Zc6 (Za 5) (Za 8)) (Zg)))))) (Za9 (ZdV tyL Zbz (Za 6) (Zb (ZaD (Zb (Za 3) (Zb (Zas Za7 (Zb (Za 4) (Zg))) (Zb (Zas Za7 (Zb (Zas Zbh (Zb (Za 7) (Zg))) (Zg))) (Zg))))) (Zg))))))) (Zak (Za 6))))))
noncomputable def Zcr:F3:=mkF 3 8 Zfv
noncomputable def ZgC:S3:=Zw (Zan 2 (ZgS (Zg))) (Zw (Zjc (ZdD (e2 Zds (Zas ZaY (Zb (Za 1) (Zg))) (eC (.int 1)))) (Zcw 3) (Zw (ZkB (eSl (e2 Ze (Za 1) (Za 3)) (ZaW) (ZaX (eC (.int 2)))) (Zd4 [4,5])) (Zw (Zan 6 (e2 Ze (Za 0) (Za 4))) (Zw (sIf (e2 ZaF (e2 Ze (Za 6) (eC (.int 0))) (eC (.str [103,101,116]))) (Za9 (ZdV tyL Zbz (Za 2) (Zb (ZaD (Zb (e2 Ze (Za 5) (e2 Ze (Za 6) (eC (.int 2)))) (Zb (Za 3) (Zb (eC (.str [103,101,116])) (Zb (e2 Ze (e2 Ze (e2 Ze (Za 1) (e2 Zar (Za 3) (eC (.int 1)))) (eC (.int 1))) (e2 Ze (Za 6) (eC (.int 1)))) (Zg)))))) (Zg)))) (Zaa)) (sIf (e2 ZaF (e2 Ze (Za 6) (eC (.int 0))) (eC (.str [115,101,116]))) (Za9 (ZdV tyL Zbz (Za 2) (Zb (ZaD (Zb (e2 Ze (Za 5) (e2 Ze (Za 6) (eC (.int 1)))) (Zb (Za 3) (Zb (eC (.str [115,101,116])) (Zb (e2 Ze (Za 5) (e2 Ze (Za 6) (eC (.int 2)))) (Zg)))))) (Zg)))) (Zaa)))))) (Zak (Zas Za7 (Zb (Zas Zbh (Zb (Za 2) (Zg))) (Zg)))))
noncomputable def ZcE:F3:=mkF 2 7 ZgC
noncomputable def Zez:S3:=Zw (Zan 1 (ZgS (Zb (ZaD (Zb (eC (.str [112,117,116])) (Zb (eC (.int 0)) (Zb (e2 Zar (eC (.int 1)) (e2 Za3 (Za 0) (eC (.int 300)))) (Zg))))) (Zb (ZaD (Zb (eC (.str [112,117,116])) (Zb (eC (.int 2)) (Zb (eC (.int 1)) (Zg))))) (Zb (ZaD (Zb (eC (.str [115,101,116])) (Zb (eC (.int 3)) (Zb (eC (.int 0)) (Zg))))) (Zb (ZaD (Zb (eC (.str [103,101,116])) (Zb (eC (.int 4)) (Zb (eC (.int 3)) (Zg))))) (Zb (ZaD (Zb (eC (.str [115,117,98])) (Zb (eC (.int 0)) (Zb (eC (.int 0)) (Zb (eC (.int 2)) (Zg)))))) (Zg)))))))) (Zak (Zas Za7 (Zb (e2 Zar (Za 1) (ZgS (Zb (ZaD (Zb (eC (.str [119,104,101,110])) (Zb (eC (.int 0)) (Zb (eC (.int 2)) (Zg))))) (Zb (ZaD (Zb (eC (.str [106,117,109,112])) (Zb (eC (.int 8)) (Zg)))) (Zb (ZaD (Zb (eC (.str [116,101,108,108])) (Zb (eC (.int 4)) (Zg)))) (Zb (ZaD (Zb (eC (.str [104,97,108,116])) (Zg))) (Zg))))))) (Zg))))
noncomputable def Zb9:F3:=mkF 1 2 Zez
noncomputable def ZmD:S3:=Zw (Zan 1 (Zac Zdr (Zb (Za 0) (Zg)))) (Zw (Zan 2 (eSl (Za 0) (ZaW) (ZaX (eC (.int 12))))) (Zw (Zan 3 (eC (.int 60))) (Zw (sIf (Zdx (e2 Zfk (Zas ZaY (Zb (Za 0) (Zg))) (eC (.int 0))) (e2 ZaF (e2 Za3 (e2 Ze (Za 0) (eC (.int 0))) (eC (.int 16))) (eC (.int 7)))) (Zw (Zan 1 (Zac Zb9 (Zb (e2 Zbj (e2 Ze (Za 0) (eC (.int 0))) (eC (.int 16))) (Zg)))) (Zw (Zan 2 (eSl (Za 0) (ZaW) (ZaX (eC (.int 2))))) (Zan 3 (eC (.int 1300))))) (Zaa)) (Zw (Zan 4 (Zac ZdJ (Zb (Za 0) (Zg)))) (Zw (Zan 5 (Zac Zcr (Zb (Za 1) (Zb (Za 4) (Zb (Za 3) (Zg)))))) (Zw (Zan 6 (Zas Za7 (Zb (eLC (ZiM (Za 5)) 1 (Zcw 11) [] (ZaD (Zb (e2 Ze (Za 11) (eC (.int 0))) (Zb (e2 Ze (Za 11) (eC (.int 1))) (Zg))))) (Zg)))) (Zw (Zan 7 (Zac ZcE (Zb (Za 1) (Zb (Za 5) (Zg))))) (Zw (Zan 8 (ZaD (Zb (eC (.str [101,110,100])) (Zb (e2 Zds (Zas ZaY (Zb (Za 6) (Zg))) (eC (.int 1))) (Zg))))) (Zw (sIf (e2 ZaF (e2 Ze (e2 Ze (Za 1) (e2 Ze (e2 Ze (Za 6) (e1 ZeF (eC (.int 1)))) (eC (.int 0)))) (eC (.int 0))) (eC (.str [104,97,108,116]))) (Zan 8 (eC .non)) (Zaa)) (Zw (sIf (e2 ZjH (Zac ZdG (Zb (Za 1) (Zb (Za 4) (Zb (Za 6) (Zb (Za 7) (Zg)))))) (Za 8)) (Zak (eC (.bl false))) (Zaa)) (Zw (Zjc (ZiM (Za 2)) (Zcw 9) (Zw (Zan 10 (e2 Zar (eC (.int 1)) (e2 Za3 (Za 9) (Zas ZaY (Zb (Za 6) (Zg)))))) (sIf (e2 ZkW (Za 10) (Zas ZaY (Zb (Za 6) (Zg)))) (Zw (sIf (e2 ZbE (Zac ZdG (Zb (Za 1) (Zb (Za 4) (Zb (eSl (Za 6) (ZaW) (ZaX (Za 10))) (Zb (Zac ZcE (Zb (Za 1) (Zb (eSl (Za 5) (ZaW) (ZaX (Za 10))) (Zg)))) (Zg)))))) (ZaD (Zb (eC (.str [101,110,100])) (Zb (e2 Zds (Za 10) (eC (.int 1))) (Zg))))) (Zak (eC (.bl false))) (Zaa)) (sIf (e2 Zjq (Zac ZdG (Zb (Za 1) (Zb (Za 4) (Zb (eSl (Za 6) (ZaW) (ZaX (Za 10))) (Zb (Za 7) (Zg)))))) (eC .non)) (Zak (eC (.bl false))) (Zaa))) (Zaa)))) (Zak (e2 ZaF (Zac ZdG (Zb (Za 1) (Zb (Za 4) (Zb (ZaD (Zg)) (Zb (Za 7) (Zg)))))) (ZaD (Zb (eC (.str [98,101,103,105,110])) (Zb (eC (.int 0)) (Zg)))))))))))))))))
noncomputable def ZlJ:F3:=mkF 1 11 ZmD
end
end Law
namespace Law
open PySem PySem.Spec PyProof.Rows L2 L3
noncomputable def top (i:Nat):Stmt:=PySem.Challenge.pw_stepledger_k35_whole_runs_fit.main.body.getD i (.Pass ⟨0,0,0,0⟩)
noncomputable abbrev Zcd:Stmt:=top 1
noncomputable abbrev Zcb:Stmt:=top 2
noncomputable abbrev Zeg:Stmt:=top 3
noncomputable abbrev Zc8:Stmt:=top 4
noncomputable abbrev Zb6:Stmt:=top 5
noncomputable abbrev ZcG:Stmt:=top 7
noncomputable abbrev Zeb:Stmt:=top 9
noncomputable abbrev ZbU:Stmt:=top 10
noncomputable abbrev ZcD:Stmt:=top 12
noncomputable abbrev Zec:Stmt:=top 13
noncomputable abbrev ZbF:Stmt:=top 14
noncomputable abbrev Zc7:Stmt:=top 15
noncomputable abbrev ZbT:Stmt:=top 16
noncomputable abbrev Za6:Stmt:=top 17
noncomputable abbrev Zbe:Stmt:=top 18
noncomputable abbrev ZaQ:Stmt:=top 19
noncomputable abbrev Zfh:Stmt:=top 20
noncomputable abbrev Zbm:Stmt:=top 21
noncomputable abbrev Zbu:Stmt:=top 22
noncomputable abbrev Zc5:Stmt:=top 24
noncomputable abbrev ZbW:Stmt:=top 25
noncomputable abbrev Zdb:Stmt:=top 26
noncomputable abbrev ZcI:Stmt:=top 27
noncomputable abbrev Zb8:Stmt:=top 28
noncomputable abbrev ZcH:Stmt:=top 29
noncomputable abbrev ZbS:Stmt:=top 30
noncomputable abbrev ZcJ:Stmt:=top 31
noncomputable abbrev Zca:Stmt:=top 32
noncomputable abbrev Zf5:Stmt:=top 33
structure Txt (K:W.Frag) (mg:Str → Option Value):Prop where
  kin:True
  m_dict:mg "dict" = none
  m_enumerate:mg "enumerate" = none
  m_int:mg "int" = none
  m_len:mg "len" = none
  m_list:mg "list" = none
  m_range:mg "range" = none
  m_sorted:mg "sorted" = none
  m_tuple:mg "tuple" = none
section
variable {P:Program} {w:World} {K:W.Frag} {mg:Str → Option Value} {base:Heap}
theorem ZhT:Zaz ["row","place","boxes"] ["row","place","boxes"] (Zr Zcd):=⟨rfl,rfl,rfl,by decide +kernel,rfl,by decide +kernel,by decide +kernel⟩
theorem ZhS (A:Zay K mg "next_place" Zcd ["row","place","boxes"]) (T:Txt K mg):Fn3 P w K mg base 1 "next_place" ["row","place","boxes"] Zb7:=
  Fn3.of (N:=["row","place","boxes"]) (k:=0) A ZhT fun f cdv A outer s H E hr=>by
    have hu:=ZcQ hr
    unfold ZfU
    refine Zf ?_ ?_
    ·exact ZaJ (Zah ((ZbY hu)) (Zv Zu (Zd 0) Zj) Zal) (Zq (Zae (Zv Zu (Zd 0) Zj))) Zam
    ·refine Zf ?_ ?_
     ·refine ZaJ ?_ ?_ ?_
      ·exact CW.ct (Zgf (Zah ((ZbY hu)) (Zv Zu (Zd 0) Zj) Zal) (Zfc (Zah Zla (Zv Zu (Zd 2) (Zv Zu (Zd 0) Zj)) Zj)))
      ·exact Zq (Zae (Zv Zu (Zd 0) Zj))
      ·exact Zam
     ·exact Zq (Zae (Zaj ZbI (Zd 1) Zj))
theorem Zmf:Zaz ["name","one","other"] ["name","one","other"] (Zr Zeg):=⟨rfl,rfl,rfl,by decide +kernel,rfl,by decide +kernel,by decide +kernel⟩
theorem Zl6 (A:Zay K mg "worked" Zeg ["name","one","other"]) (T:Txt K mg):Fn3 P w K mg base 1 "worked" ["name","one","other"] Zb2:=
  Fn3.of (N:=["name","one","other"]) (k:=0) A Zmf fun f cdv A outer s H E hr=>by
    have hu:=ZcQ hr
    unfold ZeO
    refine Zf ?_ ?_
    ·exact ZaJ (Zah ((ZbY hu)) (Zd 0) Zal) (Zq (Zae (Zaj ZbI (Zd 1) (Zd 2)))) Zam
    ·exact Zf (ZaJ (Zah ((ZbY hu)) (Zd 0) Zal) (Zq (Zae (Zaj Zfp (Zd 1) (Zd 2)))) Zam) (Zq (Zae (Zni (Zah Zla (Zd 1) (Zd 2)) Zj Zj)))
theorem Zkm:Zaz ["boxes","box","value"] ["boxes","box","value"] (Zr Zc8):=⟨rfl,rfl,rfl,by decide +kernel,rfl,by decide +kernel,by decide +kernel⟩
theorem Zki (A:Zay K mg "with_box" Zc8 ["boxes","box","value"]) (T:Txt K mg):Fn3 P w K mg base 1 "with_box" ["boxes","box","value"] ZbC:=
  Fn3.of (N:=["boxes","box","value"]) (k:=0) A Zkm fun f cdv A outer s H E hr=>by
    have hu:=ZcQ hr
    unfold Zho
    refine Zq ?_
    refine Zae ?_
    refine Zaj ?_ ?_ ?_
    ·exact ZbI
    ·exact Zaj ZbI (ZgM ZgQ (Zd 0) Zcy (Zcx (Zd 1))) (ZaS (Zc (Zd 2) Zm))
    ·exact ZgM ZgQ (Zd 0) (Zcx (Zaj ZbI (Zd 1) Zj)) Zcy
theorem ZhL:Zaz ["cells","number"] ["cells","number"] (Zr Zb6):=⟨rfl,rfl,rfl,by decide +kernel,rfl,by decide +kernel,by decide +kernel⟩
theorem ZhK (A:Zay K mg "cell_value" Zb6 ["cells","number"]) (T:Txt K mg):Fn3 P w K mg base 1 "cell_value" ["cells","number"] ZcP:=
  Fn3.of (N:=["cells","number"]) (k:=0) A ZhL fun f cdv A outer s H E hr=>by
    have hu:=ZcQ hr
    unfold Zf4
    exact Zq (Zae (ZmZ hu (ZeG (T:="dict") ((ZpV rfl)) T.m_dict ZoM (Zc (Zd 0) Zm)) (Zd 1) Zj))
theorem Zfu:Zaz ["row","boxes","cells","name"] ["row","boxes","cells"] (Zr Zcb):=⟨rfl,rfl,rfl,by decide +kernel,rfl,by decide +kernel,by decide +kernel⟩
theorem ZhV (A:Zay K mg "next_boxes" Zcb ["row","boxes","cells"]) (T:Txt K mg) (F_worked:Fn3 P w K mg base 1 "worked" ["name","one","other"] Zb2) (F_with_box:Fn3 P w K mg base 1 "with_box" ["boxes","box","value"] ZbC) (F_cell_value:Fn3 P w K mg base 1 "cell_value" ["cells","number"] ZcP):Fn3 P w K mg base 2 "next_boxes" ["row","boxes","cells"] ZdE:=
  Fn3.of (N:=["row","boxes","cells","name"]) (k:=1) A Zfu fun f cdv A outer s H E hr=>by
    have hu:=ZcQ hr
    unfold Zex
    refine Zf ?_ ?_
    ·exact Zao 3 Zfu.nd (Zv Zu (Zd 0) Zj)
    ·refine Zf ?_ ?_
     ·refine ZaJ ?_ ?_ ?_
      ·exact Zah ((ZbY hu)) (Zd 3) Zal
      ·exact Zq (Zae (ZaB (k:=1) (ps:=["boxes","box","value"]) F_with_box (hr.mono (by decide)) (Zc (Zd 1) (Zc (Zv Zu (Zd 0) Zj) (Zc (Zv Zu (Zd 0) Zj) Zm)))))
      ·exact Zam
     ·refine Zf ?_ ?_
      ·refine ZaJ ?_ ?_ ?_
       ·exact Zah ((ZbY hu)) (Zd 3) Zal
       ·refine Zq ?_
        refine Zae ?_
        refine ZaB (k:=1) (ps:=["boxes","box","value"]) ?_ ?_ ?_
        ·exact F_with_box
        ·exact hr.mono (by decide)
        ·refine Zc ?_ ?_
         ·exact Zd 1
         ·exact Zc (Zv Zu (Zd 0) Zj) (Zc (ZaB (k:=1) (ps:=["cells","number"]) F_cell_value (hr.mono (by decide)) (Zc (Zd 2) (Zc (Zv Zu (Zd 1) (Zv Zu (Zd 0) Zj)) Zm))) Zm)
       ·exact Zam
      ·refine Zf ?_ ?_
       ·refine ZaJ ?_ ?_ ?_
        ·exact Zah ((Zqn hu)) (Zd 3) (ZaS (Zc Zal (Zc Zal (Zc Zal Zm))))
        ·refine Zq ?_
         refine Zae ?_
         refine ZaB (k:=1) (ps:=["boxes","box","value"]) ?_ ?_ ?_
         ·exact F_with_box
         ·exact hr.mono (by decide)
         ·refine Zc ?_ ?_
          ·exact Zd 1
          ·refine Zc ?_ ?_
           ·exact Zv Zu (Zd 0) Zj
           ·refine Zc ?_ ?_
            ·exact ZaB (k:=1) (ps:=["name","one","other"]) F_worked (hr.mono (by decide)) (Zc (Zd 3) (Zc (Zv Zu (Zd 1) (Zv Zu (Zd 0) Zj)) (Zc (Zv Zu (Zd 1) (Zv Zu (Zd 0) Zj)) Zm)))
            ·exact Zm
        ·exact Zam
       ·exact Zq (Zae (Zd 1))
theorem Zi1:Zaz ["number","many"] ["number","many"] (Zr ZcG):=⟨rfl,rfl,rfl,by decide +kernel,rfl,by decide +kernel,by decide +kernel⟩
theorem ZiT (A:Zay K mg "is_within" ZcG ["number","many"]) (T:Txt K mg):Fn3 P w K mg base 1 "is_within" ["number","many"] Zbw:=
  Fn3.of (N:=["number","many"]) (k:=0) A Zi1 fun f cdv A outer s H E hr=>by
    have hu:=ZcQ hr
    unfold ZeR
    exact Zq (Zae (Zo9 (ZeH ZrZ (Zd 0) Zj) (Zo4 (ZeH ZpC (Zd 0) (Zd 1)))))
theorem Zmj:Zaz ["row"] ["row"] (Zr Zeb):=⟨rfl,rfl,rfl,by decide +kernel,rfl,by decide +kernel,by decide +kernel⟩
theorem Zmx (A:Zay K mg "is_use" Zeb ["row"]) (T:Txt K mg):Fn3 P w K mg base 1 "is_use" ["row"] Zb3:=
  Fn3.of (N:=["row"]) (k:=0) A Zmj fun f cdv A outer s H E hr=>by
    have hu:=ZcQ hr
    unfold Zjr
    exact Zq (Zae (ZeH ((Zqn hu)) (Zv Zu (Zd 0) Zj) (ZaS (Zc Zal (Zc Zal Zm)))))
theorem Zg9:Zaz ["row","boxes"] ["row","boxes"] (Zr ZbU):=⟨rfl,rfl,rfl,by decide +kernel,rfl,by decide +kernel,by decide +kernel⟩
theorem Zhr (A:Zay K mg "cell_number" ZbU ["row","boxes"]) (T:Txt K mg):Fn3 P w K mg base 1 "cell_number" ["row","boxes"] ZaZ:=
  Fn3.of (N:=["row","boxes"]) (k:=0) A Zg9 fun f cdv A outer s H E hr=>by
    have hu:=ZcQ hr
    unfold Zdh
    refine Zq ?_
    refine Zae ?_
    exact Zni (Zah ((ZbY hu)) (Zv Zu (Zd 0) Zj) Zal) (Zv Zu (Zd 1) (Zv Zu (Zd 0) Zj)) (Zv Zu (Zd 1) (Zv Zu (Zd 0) Zj))
theorem Zmb:Zaz ["roll","place"] ["roll","place"] (Zr Zec):=⟨rfl,rfl,rfl,by decide +kernel,rfl,by decide +kernel,by decide +kernel⟩
theorem ZlT (A:Zay K mg "row_at" Zec ["roll","place"]) (T:Txt K mg) (F_is_within:Fn3 P w K mg base 1 "is_within" ["number","many"] Zbw):Fn3 P w K mg base 2 "row_at" ["roll","place"] Zcv:=
  Fn3.of (N:=["roll","place"]) (k:=1) A Zmb fun f cdv A outer s H E hr=>by
    have hu:=ZcQ hr
    unfold Zkl
    refine Zq ?_
    exact Zae (Zni (ZeQ (ZaB (k:=1) (ps:=["number","many"]) F_is_within (hr.mono (by decide)) (Zc (Zd 1) (Zc (Zb5 (id:="len") Zcu T.m_len ZbA (Zc (Zd 0) Zm)) Zm)))) (Zv Zu (Zd 0) (Zd 1)) Zdk)
theorem ZgO:Zaz ["roll_row","boxes","told_boxes"] ["roll_row","boxes","told_boxes"] (Zr ZbF):=⟨rfl,rfl,rfl,by decide +kernel,rfl,by decide +kernel,by decide +kernel⟩
theorem ZgP (A:Zay K mg "boxes_behind" ZbF ["roll_row","boxes","told_boxes"]) (T:Txt K mg) (F_next_boxes:Fn3 P w K mg base 2 "next_boxes" ["row","boxes","cells"] ZdE) (F_with_box:Fn3 P w K mg base 1 "with_box" ["boxes","box","value"] ZbC):Fn3 P w K mg base 3 "boxes_behind" ["roll_row","boxes","told_boxes"] Zbo:=
  Fn3.of (N:=["roll_row","boxes","told_boxes"]) (k:=2) A ZgO fun f cdv A outer s H E hr=>by
    have hu:=ZcQ hr
    unfold Ze0
    refine Zf ?_ ?_
    ·refine ZaJ ?_ ?_ ?_
     ·exact Zah ((ZbY hu)) (Zv Zu (Zd 0) Zj) Zal
     ·exact Zq (Zae (ZaB (k:=1) (ps:=["boxes","box","value"]) F_with_box (hr.mono (by decide)) (Zc (Zd 1) (Zc (Zv Zu (Zd 0) Zj) (Zc (Zv Zu (Zd 2) (Zv Zu (Zd 0) Zj)) Zm)))))
     ·exact Zam
    ·exact Zq (Zae (ZaB (k:=2) (ps:=["row","boxes","cells"]) F_next_boxes (hr.mono (by decide)) (Zc (Zd 0) (Zc (Zd 1) (Zc (ZaS Zm) Zm)))))
theorem ZdC:Zaz ["roll","row","behind","place","boxes","roll_row"] ["roll","row","behind"] (Zr ZcD):=⟨rfl,rfl,rfl,by decide +kernel,rfl,by decide +kernel,by decide +kernel⟩
theorem ZiF (A:Zay K mg "step_fits" ZcD ["roll","row","behind"]) (T:Txt K mg) (F_next_place:Fn3 P w K mg base 1 "next_place" ["row","place","boxes"] Zb7) (F_row_at:Fn3 P w K mg base 2 "row_at" ["roll","place"] Zcv) (F_boxes_behind:Fn3 P w K mg base 3 "boxes_behind" ["roll_row","boxes","told_boxes"] Zbo):Fn3 P w K mg base 4 "step_fits" ["roll","row","behind"] ZcK:=
  Fn3.of (N:=["roll","row","behind","place","boxes","roll_row"]) (k:=3) A ZdC fun f cdv A outer s H E hr=>by
    have hu:=ZcQ hr
    unfold ZgG
    refine Zf ?_ ?_
    ·exact Zao 3 ZdC.nd (Zv Zu (Zd 1) Zj)
    ·refine Zf ?_ ?_
     ·exact Zao 4 ZdC.nd (Zv Zu (Zd 1) Zj)
     ·refine Zf ?_ ?_
      ·exact Zao 5 ZdC.nd (ZaB (k:=2) (ps:=["roll","place"]) F_row_at (hr.mono (by decide)) (Zc (Zd 0) (Zc (Zd 3) Zm)))
      ·refine Zf ?_ ?_
       ·exact ZaJ (CW.ct (Zih (Zah Zpq (Zd 5) Zdk) (ZhC (Zah ((ZbY hu)) (Zv Zu (Zd 5) Zj) Zal)))) (Zq (Zae Zi6)) Zam
       ·refine Zq ?_
        refine Zae ?_
        refine ZeH ?_ ?_ ?_
        ·exact (ZbY hu)
        ·exact Zd 2
        ·refine ZaS ?_
         refine Zc ?_ ?_
         ·exact ZaB (k:=1) (ps:=["row","place","boxes"]) F_next_place (hr.mono (by decide)) (Zc (Zd 5) (Zc (Zd 3) (Zc (Zd 4) Zm)))
         ·exact Zc (ZaB (k:=3) (ps:=["roll_row","boxes","told_boxes"]) F_boxes_behind (hr.mono (by decide)) (Zc (Zd 5) (Zc (Zd 4) (Zc (Zv Zu (Zd 2) Zj) Zm)))) Zm
theorem ZgA:Zaz ["ahead","row","same"] ["ahead","row"] (Zr Zc7):=⟨rfl,rfl,rfl,by decide +kernel,rfl,by decide +kernel,by decide +kernel⟩
theorem ZjT (A:Zay K mg "use_fits" Zc7 ["ahead","row"]) (T:Txt K mg):Fn3 P w K mg base 1 "use_fits" ["ahead","row"] ZcC:=
  Fn3.of (N:=["ahead","row","same"]) (k:=0) A ZgA fun f cdv A outer s H E hr=>by
    have hu:=ZcQ hr
    unfold Zg3
    refine Zf ?_ ?_
    ·refine ZaJ ?_ ?_ ?_
     ·exact CW.ct (Zgf (Zah Ze5 (Zd 0) Zdk) (Zfc (Zah ((ZrS hu)) (ZgM ZgQ (Zd 1) Zcy (Zcx Zj)) (ZgM ZgQ (Zd 0) Zcy (Zcx Zj)))))
     ·exact Zq (Zae Zi6)
     ·exact Zam
    ·refine Zf ?_ ?_
     ·exact ZaJ (Zah ((ZhX hu)) (Zv Zu (Zd 1) Zj) Zal) (Zq (Zae Zi6)) Zam
     ·refine Zf ?_ ?_
      ·exact Zao 2 ZgA.nd (Zo9 (ZeH Ze5 (Zd 0) Zdk) (Zo4 (ZeH ((ZbY hu)) (Zv Zu (Zd 0) Zj) (Zv Zu (Zd 1) Zj))))
      ·exact Zq (Zae (ZeH ((ZbY hu)) (Zv Zu (Zd 1) Zj) (Zni (ZeQ (Zd 2)) (Zv Zu (Zd 0) Zj) Zj)))
theorem ZcX:Zaz ["roll","steps","row","time","boxes","roll_row"] ["roll","steps","row"] (Zr ZbT):=⟨rfl,rfl,rfl,by decide +kernel,rfl,by decide +kernel,by decide +kernel⟩
theorem Zg7 (A:Zay K mg "use_matches" ZbT ["roll","steps","row"]) (T:Txt K mg) (F_is_within:Fn3 P w K mg base 1 "is_within" ["number","many"] Zbw) (F_is_use:Fn3 P w K mg base 1 "is_use" ["row"] Zb3) (F_cell_number:Fn3 P w K mg base 1 "cell_number" ["row","boxes"] ZaZ) (F_row_at:Fn3 P w K mg base 2 "row_at" ["roll","place"] Zcv):Fn3 P w K mg base 3 "use_matches" ["roll","steps","row"] ZbB:=
  Fn3.of (N:=["roll","steps","row","time","boxes","roll_row"]) (k:=2) A ZcX fun f cdv A outer s H E hr=>by
    have hu:=ZcQ hr
    unfold Zfr
    refine Zf ?_ ?_
    ·exact Zao 3 ZcX.nd (Zv Zu (Zd 2) Zj)
    ·refine Zf ?_ ?_
     ·refine ZaJ ?_ ?_ ?_
      ·exact Zhq (ZeQ (ZaB (k:=1) (ps:=["number","many"]) F_is_within (hr.mono (by decide)) (Zc (Zd 3) (Zc (Zaj Zfp (Zb5 (id:="len") Zcu T.m_len ZbA (Zc (Zd 1) Zm)) Zj) Zm))))
      ·exact Zq (Zae Zi6)
      ·exact Zam
     ·refine Zf ?_ ?_
      ·exact Zao 4 ZcX.nd (Zv Zu (Zv Zu (Zd 1) (Zd 3)) Zj)
      ·refine Zf ?_ ?_
       ·exact Zao 5 ZcX.nd (ZaB (k:=2) (ps:=["roll","place"]) F_row_at (hr.mono (by decide)) (Zc (Zd 0) (Zc (Zv Zu (Zv Zu (Zd 1) (Zd 3)) Zj) Zm)))
       ·refine Zf ?_ ?_
        ·refine ZaJ ?_ ?_ ?_
         ·refine CW.ct ?_
          refine Zih ?_ ?_
          ·exact Zah Zpq (Zd 5) Zdk
          ·exact Zih (Zhq (ZeQ (ZaB (k:=1) (ps:=["row"]) F_is_use (hr.mono (by decide)) (Zc (Zd 5) Zm)))) (ZhC (Zah ((ZhX hu)) (Zv Zu (Zd 2) Zj) (Zv Zu (Zd 5) Zj)))
         ·exact Zq (Zae Zi6)
         ·exact Zam
        ·refine Zf ?_ ?_
         ·exact ZaJ (Zah ((ZhX hu)) (Zv Zu (Zd 2) Zj) (ZaB (k:=1) (ps:=["row","boxes"]) F_cell_number (hr.mono (by decide)) (Zc (Zd 5) (Zc (Zd 4) Zm)))) (Zq (Zae Zi6)) Zam
         ·refine Zf ?_ ?_
          ·refine ZaJ ?_ ?_ ?_
           ·exact Zah ((ZbY hu)) (Zv Zu (Zd 5) Zj) Zal
           ·refine Zq ?_
            refine Zae ?_
            exact ZeH ((ZbY hu)) (Zv Zu (Zd 2) Zj) (Zv Zu (Zv Zu (Zv Zu (Zd 1) (Zaj ZbI (Zd 3) Zj)) Zj) (Zv Zu (Zd 5) Zj))
           ·exact Zam
          ·exact Zq (Zae (ZeH ((ZbY hu)) (Zv Zu (Zd 2) Zj) (Zv Zu (Zd 4) (Zv Zu (Zd 5) Zj))))
theorem Zdw:Zaz ["roll","steps","time"] ["roll","steps"] (Zr Za6):=⟨rfl,rfl,rfl,by decide +kernel,rfl,by decide +kernel,by decide +kernel⟩
theorem Zfn (A:Zay K mg "first_unfit_step" Za6 ["roll","steps"]) (T:Txt K mg) (F_step_fits:Fn3 P w K mg base 4 "step_fits" ["roll","row","behind"] ZcK):Fn3 P w K mg base 5 "first_unfit_step" ["roll","steps"] ZbN:=
  Fn3.of (N:=["roll","steps","time"]) (k:=4) A Zdw fun f cdv A outer s H E hr=>by
    have hu:=ZcQ hr
    unfold ZdO
    refine Zf ?_ ?_
    ·refine Zjf ?_ ?_ ?_ ?_ ?_
     ·exact rfl
     ·exact rfl
     ·exact Zfb T.m_range (Zaj Zfp (Zb5 (id:="len") Zcu T.m_len ZbA (Zc (Zd 1) Zm)) Zj)
     ·exact Zd0 2 Zdw.nd
     ·refine Zq ?_
      refine ZaJ ?_ ?_ ?_
      ·exact Zhq (ZeQ (ZaB (k:=4) (ps:=["roll","row","behind"]) F_step_fits (hr.mono (by decide)) (Zc (Zd 0) (Zc (Zv Zu (Zd 1) (Zd 2)) (Zc (Zv Zu (Zd 1) (Zaj ZbI (Zd 2) Zj)) Zm)))))
      ·exact Zq (Zae (Zd 2))
      ·exact Zam
    ·exact Zq (Zae Zdk)
theorem Zbp:Zaz ["ahead","uses","before","number","row"] ["ahead","uses"] (Zr Zbe):=⟨rfl,rfl,rfl,by decide +kernel,rfl,by decide +kernel,by decide +kernel⟩
theorem ZfG (A:Zay K mg "first_unfit_use" Zbe ["ahead","uses"]) (T:Txt K mg) (F_use_fits:Fn3 P w K mg base 1 "use_fits" ["ahead","row"] ZcC):Fn3 P w K mg base 2 "first_unfit_use" ["ahead","uses"] Zbx:=
  Fn3.of (N:=["ahead","uses","before","number","row"]) (k:=1) A Zbp fun f cdv A outer s H E hr=>by
    have hu:=ZcQ hr
    unfold ZcY
    refine Zf ?_ ?_
    ·exact Zao 2 Zbp.nd (Zd 0)
    ·refine Zf ?_ ?_
     ·refine ZlD ?_ ?_ ?_ ?_ ?_
      ·exact rfl
      ·exact rfl
      ·exact ZlE T.m_enumerate (Zd 1)
      ·exact Zk7 rfl (Zek 3 Zbp.nd (Zek 4 Zbp.nd Zi0))
      ·exact Zf (ZaJ (Zhq (ZeQ (ZaB (k:=1) (ps:=["ahead","row"]) F_use_fits (hr.mono (by decide)) (Zc (Zd 2) (Zc (Zd 4) Zm))))) (Zq (Zae (Zd 3))) Zam) (Zq (Zao 2 Zbp.nd (Zd 4)))
     ·exact Zq (Zae Zdk)
theorem ZbL:Zaz ["roll","steps","uses","number","row"] ["roll","steps","uses"] (Zr ZaQ):=⟨rfl,rfl,rfl,by decide +kernel,rfl,by decide +kernel,by decide +kernel⟩
theorem Zet (A:Zay K mg "first_unmatched_use" ZaQ ["roll","steps","uses"]) (T:Txt K mg) (F_use_matches:Fn3 P w K mg base 3 "use_matches" ["roll","steps","row"] ZbB):Fn3 P w K mg base 4 "first_unmatched_use" ["roll","steps","uses"] Za5:=
  Fn3.of (N:=["roll","steps","uses","number","row"]) (k:=3) A ZbL fun f cdv A outer s H E hr=>by
    have hu:=ZcQ hr
    unfold Zc3
    refine Zf ?_ ?_
    ·refine ZlD ?_ ?_ ?_ ?_ ?_
     ·exact rfl
     ·exact rfl
     ·exact ZlE T.m_enumerate (Zd 2)
     ·exact Zk7 rfl (Zek 3 ZbL.nd (Zek 4 ZbL.nd Zi0))
     ·exact Zq (ZaJ (Zhq (ZeQ (ZaB (k:=3) (ps:=["roll","steps","row"]) F_use_matches (hr.mono (by decide)) (Zc (Zd 0) (Zc (Zd 1) (Zc (Zd 4) Zm)))))) (Zq (Zae (Zd 3))) Zam)
    ·exact Zq (Zae Zdk)
theorem Zc0:Zaz ["roll","boxes","steps","unfit","last"] ["roll","boxes","steps"] (Zr Zbm):=⟨rfl,rfl,rfl,by decide +kernel,rfl,by decide +kernel,by decide +kernel⟩
theorem Zf9 (A:Zay K mg "fault_of_steps" Zbm ["roll","boxes","steps"]) (T:Txt K mg) (F_row_at:Fn3 P w K mg base 2 "row_at" ["roll","place"] Zcv) (F_first_unfit_step:Fn3 P w K mg base 5 "first_unfit_step" ["roll","steps"] ZbN):Fn3 P w K mg base 6 "fault_of_steps" ["roll","boxes","steps"] Zce:=
  Fn3.of (N:=["roll","boxes","steps","unfit","last"]) (k:=5) A Zc0 fun f cdv A outer s H E hr=>by
    have hu:=ZcQ hr
    unfold Zej
    refine Zf ?_ ?_
    ·refine ZaJ ?_ ?_ ?_
     ·refine CW.ct ?_
      refine Zih ?_ ?_
      ·exact Zah ((ZbY hu)) (Zb5 (id:="len") Zcu T.m_len ZbA (Zc (Zd 2) Zm)) Zj
      ·exact ZhC (Zah ((ZhX hu)) (Zv Zu (Zd 2) Zj) (ZaS (Zc Zj (Zc (Zd 1) Zm))))
     ·exact Zq (Zae (ZaS (Zc Zal (Zc Zj Zm))))
     ·exact Zam
    ·refine Zf ?_ ?_
     ·exact Zao 3 Zc0.nd (ZaB (k:=5) (ps:=["roll","steps"]) F_first_unfit_step (hr.mono (by decide)) (Zc (Zd 0) (Zc (Zd 2) Zm)))
     ·refine Zf ?_ ?_
      ·exact ZaJ (Zah Ze5 (Zd 3) Zdk) (Zq (Zae (ZaS (Zc Zal (Zc (Zd 3) Zm))))) Zam
      ·refine Zf ?_ ?_
       ·exact Zao 4 Zc0.nd (Zaj Zfp (Zb5 (id:="len") Zcu T.m_len ZbA (Zc (Zd 2) Zm)) Zj)
       ·refine Zf ?_ ?_
        ·refine ZaJ ?_ ?_ ?_
         ·exact Zah ((ZhX hu)) (ZaB (k:=2) (ps:=["roll","place"]) F_row_at (hr.mono (by decide)) (Zc (Zd 0) (Zc (Zv Zu (Zv Zu (Zd 2) (Zd 4)) Zj) Zm))) (ZaS (Zc Zal Zm))
         ·exact Zq (Zae (ZaS (Zc Zal (Zc (Zd 4) Zm))))
         ·exact Zam
        ·exact Zq (Zae Zdk)
theorem Zcc:Zaz ["roll","steps","uses","unfit","unmatched","due"] ["roll","steps","uses"] (Zr Zbu):=⟨rfl,rfl,rfl,by decide +kernel,rfl,by decide +kernel,by decide +kernel⟩
theorem Zgo (A:Zay K mg "fault_of_uses" Zbu ["roll","steps","uses"]) (T:Txt K mg) (F_is_use:Fn3 P w K mg base 1 "is_use" ["row"] Zb3) (F_first_unfit_use:Fn3 P w K mg base 2 "first_unfit_use" ["ahead","uses"] Zbx) (F_first_unmatched_use:Fn3 P w K mg base 4 "first_unmatched_use" ["roll","steps","uses"] Za5):Fn3 P w K mg base 5 "fault_of_uses" ["roll","steps","uses"] ZbP:=
  Fn3.of (N:=["roll","steps","uses","unfit","unmatched","due"]) (k:=4) A Zcc fun f cdv A outer s H E hr=>by
    have hu:=ZcQ hr
    unfold Zdu
    refine Zf ?_ ?_
    ·exact Zao 3 Zcc.nd (ZaB (k:=2) (ps:=["ahead","uses"]) F_first_unfit_use (hr.mono (by decide)) (Zc Zdk (Zc (Zd 2) Zm)))
    ·refine Zf ?_ ?_
     ·exact ZaJ (Zah Ze5 (Zd 3) Zdk) (Zq (Zae (ZaS (Zc Zal (Zc (Zd 3) Zm))))) Zam
     ·refine Zf ?_ ?_
      ·exact Zao 4 Zcc.nd (ZaB (k:=4) (ps:=["roll","steps","uses"]) F_first_unmatched_use (hr.mono (by decide)) (Zc (Zd 0) (Zc (Zd 1) (Zc (Zd 2) Zm))))
      ·refine Zf ?_ ?_
       ·exact ZaJ (Zah Ze5 (Zd 4) Zdk) (Zq (Zae (ZaS (Zc Zal (Zc (Zd 4) Zm))))) Zam
       ·refine Zf ?_ ?_
        ·refine Zhk (N':=["roll","steps","uses","unfit","unmatched","due","row"]) 5 ?_ ?_ ?_ ?_ ?_ (fun C cl s H ex=>⟨?_,?_,?_⟩)
         ·exact Ze8 rfl (by kernel_rfl)
         ·exact rfl
         ·exact rfl
         ·exact Zcc.nd
         ·exact Zp5 (ZgM ZgQ (Zd 1) Zcy (Zcx (Zm9 Zjo Zj)))
         ·exact Zd0 6 ((show List.Nodup (["roll","steps","uses","unfit","unmatched","due","row"]:List Str) by decide +kernel))
         ·exact Zlu (ZeQ (ZaB (k:=1) (ps:=["row"]) F_is_use (hr.mono (by decide)) (Zc (Zv Zu (Zd 0) (Zv Zu (Zd 6) Zj)) Zm)))
         ·exact Zd 6
        ·refine Zf ?_ ?_
         ·refine ZaJ ?_ ?_ ?_
          ·exact Zah ((ZhX hu)) (Zb5 (id:="len") Zcu T.m_len ZbA (Zc (Zd 2) Zm)) (Zb5 (id:="len") Zcu T.m_len ZbA (Zc (Zd 5) Zm))
          ·exact Zq (Zae (ZaS (Zc Zal (Zc (Zb5 (id:="len") Zcu T.m_len ZbA (Zc (Zd 2) Zm)) Zm))))
          ·exact Zam
         ·exact Zq (Zae Zdk)
theorem Zjs:Zaz ["roll","boxes","steps","uses","found"] ["roll","boxes","steps","uses"] (Zr Zfh):=⟨rfl,rfl,rfl,by decide +kernel,rfl,by decide +kernel,by decide +kernel⟩
theorem ZnN (A:Zay K mg "fault" Zfh ["roll","boxes","steps","uses"]) (T:Txt K mg) (F_fault_of_steps:Fn3 P w K mg base 6 "fault_of_steps" ["roll","boxes","steps"] Zce) (F_fault_of_uses:Fn3 P w K mg base 5 "fault_of_uses" ["roll","steps","uses"] ZbP):Fn3 P w K mg base 7 "fault" ["roll","boxes","steps","uses"] ZdG:=
  Fn3.of (N:=["roll","boxes","steps","uses","found"]) (k:=6) A Zjs fun f cdv A outer s H E hr=>by
    have hu:=ZcQ hr
    unfold ZlL
    refine Zf ?_ ?_
    ·exact Zao 4 Zjs.nd (ZaB (k:=6) (ps:=["roll","boxes","steps"]) F_fault_of_steps (hr.mono (by decide)) (Zc (Zd 0) (Zc (Zd 1) (Zc (Zd 2) Zm))))
    ·exact Zq (Zae (Zni (Zah Ze5 (Zd 4) Zdk) (Zd 4) (ZaB (k:=5) (ps:=["roll","steps","uses"]) F_fault_of_uses (hr.mono (by decide)) (Zc (Zd 0) (Zc (Zd 2) (Zc (Zd 3) Zm))))))
theorem ZeX:Zaz ["cell","k","number"] ["cell","k"] (Zr Zc5):=⟨rfl,rfl,rfl,by decide +kernel,rfl,by decide +kernel,by decide +kernel⟩
theorem Zjv (A:Zay K mg "_law_mix" Zc5 ["cell","k"]) (T:Txt K mg):Fn3 P w K mg base 1 "_law_mix" ["cell","k"] Za2:=
  Fn3.of (N:=["cell","k","number"]) (k:=0) A ZeX fun f cdv A outer s H E hr=>by
    have hu:=ZcQ hr
    unfold ZdN
    refine Zf ?_ ?_
    ·refine ZaJ ?_ ?_ ?_
     ·exact CW.ct (Zih (Zah ZrN (Zd 0) (Zm9 Zjo (Zaj Zlk Zj Zj))) (ZhC (Zah ZrZ (Zd 0) (Zaj Zlk Zj Zj))))
     ·exact Zq (Zae (Zd 0))
     ·exact Zam
    ·refine Zf ?_ ?_
     ·exact Zao 2 ZeX.nd (Zaj ZbI (Zaj ZbI (Zaj ZbI (Zaj Zh5 Zj (Zd 0)) (Zaj Zh5 (Zd 1) (Zd 1))) (Zaj Zh5 Zj (Zd 1))) Zj)
     ·refine Zf ?_ ?_
      ·exact Zao 2 ZeX.nd (Zaj Zcp (Zaj Zh5 (Zaj ZbI (Zd 0) Zj) (Zd 2)) Zj)
      ·exact Zq (Zae (Zaj ZbI (Zaj Zh5 (Zd 2) (Zd 2)) (Zaj ZcT (Zd 2) Zj)))
theorem Zg1:Zaz ["number"] ["number"] (Zr ZbW):=⟨rfl,rfl,rfl,by decide +kernel,rfl,by decide +kernel,by decide +kernel⟩
theorem Zg5 (A:Zay K mg "_law_number" ZbW ["number"]) (T:Txt K mg):Fn3 P w K mg base 1 "_law_number" ["number"] ZaI:=
  Fn3.of (N:=["number"]) (k:=0) A Zg1 fun f cdv A outer s H E hr=>by
    have hu:=ZcQ hr
    unfold Zco
    refine Zf ?_ ?_
    ·exact ZaJ (Zah ZpC (Zaj Zcp (Zd 0) Zj) Zj) (Zq (Zae (Zaj Zfp (Zaj Zcp (Zaj ZcT (Zd 0) Zj) Zj) Zj))) Zam
    ·refine Zf ?_ ?_
     ·refine ZaJ ?_ ?_ ?_
      ·exact Zah ((ZbY hu)) (Zaj Zcp (Zaj ZcT (Zd 0) Zj) Zj) Zj
      ·exact Zq (Zae (Zaj Zcp (Zaj ZcT (Zd 0) Zj) (Zaj Zlk Zj Zj)))
      ·exact Zam
     ·exact Zq (Zae (Zm9 Zjo (Zaj Zcp (Zaj ZcT (Zd 0) Zj) (Zaj Zlk Zj Zj))))
theorem Zbk:Zaz ["cell","k","size","number","words","word","a","b","c","to"] ["cell","k","size"] (Zr Zdb):=⟨rfl,rfl,rfl,by decide +kernel,rfl,by decide +kernel,by decide +kernel⟩
theorem Zjl (A:Zay K mg "_law_row" Zdb ["cell","k","size"]) (T:Txt K mg) (F__law_mix:Fn3 P w K mg base 1 "_law_mix" ["cell","k"] Za2) (F__law_number:Fn3 P w K mg base 1 "_law_number" ["number"] ZaI):Fn3 P w K mg base 2 "_law_row" ["cell","k","size"] ZbM:=
  Fn3.of (N:=["cell","k","size","number","words","word","a","b","c","to"]) (k:=1) A Zbk fun f cdv A outer s H E hr=>by
    have hu:=ZcQ hr
    unfold Zeq
    refine Zf ?_ ?_
    ·exact Zao 3 Zbk.nd (ZaB (k:=1) (ps:=["cell","k"]) F__law_mix (hr.mono (by decide)) (Zc (Zd 0) (Zc (Zd 1) Zm)))
    ·refine Zf ?_ ?_
     ·refine Zao 4 ?_ ?_
      ·exact Zbk.nd
      ·refine Zf1 ?_
       refine Zc ?_ ?_
       ·exact Zal
       ·refine Zc ?_ ?_
        ·exact Zal
        ·exact Zc Zal (Zc Zal (Zc Zal (Zc Zal (Zc Zal (Zc Zal (Zc Zal (Zc Zal (Zc Zal (Zc Zal Zm)))))))))
     ·refine Zf ?_ ?_
      ·exact Zao 5 Zbk.nd (Zv Zu (Zaj ZbI (Zd 4) (Zf1 (Zc Zal (Zc Zal (Zc Zal (Zc Zal Zm)))))) (Zaj Zcp (Zd 3) Zj))
      ·refine Zf ?_ ?_
       ·exact Zao 3 Zbk.nd (Zaj ZcT (Zd 3) Zj)
       ·refine Zf ?_ ?_
        ·exact ZaJ (Zah ((ZbY hu)) (Zaj Zcp (Zd 3) Zj) Zj) (Zq (Zae (ZaS (Zc Zal Zm)))) Zam
        ·refine Zf ?_ ?_
         ·exact Zao 6 Zbk.nd (Zaj Zcp (Zd 3) Zj)
         ·refine Zf ?_ ?_
          ·exact Zao 7 Zbk.nd (Zaj Zcp (Zaj ZcT (Zd 3) Zj) Zj)
          ·refine Zf ?_ ?_
           ·exact Zao 8 Zbk.nd (Zaj Zcp (Zaj ZcT (Zd 3) Zj) Zj)
           ·refine Zf ?_ ?_
            ·exact Zao 9 Zbk.nd (Zaj ZbI (Zaj ZbI (Zd 1) Zj) (Zaj Zcp (Zaj ZcT (Zd 3) Zj) (Zaj Zfp (Zd 2) (Zd 1))))
            ·refine Zf ?_ ?_
             ·refine ZaJ ?_ ?_ ?_
              ·exact Zah ((ZbY hu)) (Zaj Zcp (Zaj ZcT (Zd 3) Zj) Zj) Zj
              ·exact Zq (Zao 9 Zbk.nd (Zaj Zcp (Zaj ZcT (Zd 3) Zj) (Zaj ZbI (Zd 2) Zj)))
              ·exact Zam
             ·refine Zf ?_ ?_
              ·refine ZaJ ?_ ?_ ?_
               ·exact Zah ((ZbY hu)) (Zd 5) Zal
               ·exact Zq (Zae (ZaS (Zc (Zd 5) (Zc (Zd 6) (Zc (ZaB (k:=1) (ps:=["number"]) F__law_number (hr.mono (by decide)) (Zc (Zaj ZcT (Zd 3) Zj) Zm)) Zm)))))
               ·exact Zam
              ·refine Zf ?_ ?_
               ·refine ZaJ ?_ ?_ ?_
                ·exact Zah ((Zqn hu)) (Zd 5) (ZaS (Zc Zal (Zc Zal (Zc Zal Zm))))
                ·exact Zq (Zae (ZaS (Zc (Zd 5) (Zc (Zd 6) (Zc (Zd 7) (Zc (Zd 8) Zm))))))
                ·exact Zam
               ·refine Zf ?_ ?_
                ·exact ZaJ (Zah ((ZbY hu)) (Zd 5) Zal) (Zq (Zae (ZaS (Zc (Zd 5) (Zc (Zd 9) Zm))))) Zam
                ·refine Zf ?_ ?_
                 ·exact ZaJ (Zah ((ZbY hu)) (Zd 5) Zal) (Zq (Zae (ZaS (Zc (Zd 5) (Zc (Zd 6) (Zc (Zd 9) Zm)))))) Zam
                 ·refine Zq ?_
                  refine Zae ?_
                  refine Zv ?_ ?_ ?_
                  ·exact Zu
                  ·exact Zf1 (Zc (ZaS (Zc (Zd 5) (Zc (Zd 6) (Zc (Zd 7) Zm)))) (Zc (ZaS (Zc (Zd 5) (Zc (Zd 6) Zm))) Zm))
                  ·exact ZeG (T:="int") ZmL T.m_int Znr (Zc (ZeH ((ZbY hu)) (Zd 5) Zal) Zm)
theorem Zci:Zaz ["script","cells","rows","last","number"] ["script"] (Zr ZcI):=⟨rfl,rfl,rfl,by decide +kernel,rfl,by decide +kernel,by decide +kernel⟩
theorem ZiI (A:Zay K mg "_law_roll" ZcI ["script"]) (T:Txt K mg) (F__law_mix:Fn3 P w K mg base 1 "_law_mix" ["cell","k"] Za2) (F__law_row:Fn3 P w K mg base 2 "_law_row" ["cell","k","size"] ZbM):Fn3 P w K mg base 3 "_law_roll" ["script"] Zdr:=
  Fn3.of (N:=["script","cells","rows","last","number"]) (k:=2) A Zci fun f cdv A outer s H E hr=>by
    have hu:=ZcQ hr
    unfold Zdo
    refine Zf ?_ ?_
    ·exact Zao 1 Zci.nd (ZgM ZgQ (Zd 0) Zcy (Zcx Zj))
    ·refine Zf ?_ ?_
     ·refine Zhk (N':=["script","cells","rows","last","number","k"]) 2 ?_ ?_ ?_ ?_ ?_ (fun C cl s H ex=>⟨?_,?_,?_⟩)
      ·exact Ze8 rfl (by kernel_rfl)
      ·exact rfl
      ·exact rfl
      ·exact Zci.nd
      ·exact Zfb T.m_range (Zb5 (id:="len") Zcu T.m_len ZbA (Zc (Zd 1) Zm))
      ·exact Zd0 5 ((show List.Nodup (["script","cells","rows","last","number","k"]:List Str) by decide +kernel))
      ·exact ZlF
      ·exact ZaB (k:=2) (ps:=["cell","k","size"]) F__law_row (hr.mono (by decide)) (Zc (Zv Zu (Zd 1) (Zd 5)) (Zc (Zd 5) (Zc (Zb5 (id:="len") Zcu T.m_len ZbA (Zc (Zd 1) Zm)) Zm)))
     ·refine Zf ?_ ?_
      ·exact Zao 3 Zci.nd (ZaS (Zc Zal Zm))
      ·refine Zf ?_ ?_
       ·refine ZaJ ?_ ?_ ?_
        ·refine CW.ct ?_
         exact Zgf (Zah Zla (Zb5 (id:="len") Zcu T.m_len ZbA (Zc (Zd 1) Zm)) Zj) (Zfc (Zah ((ZbY hu)) (Zaj Zcp (Zv Zu (Zd 1) Zj) Zj) Zj))
        ·refine Zf ?_ ?_
         ·exact Zao 4 Zci.nd (ZaB (k:=1) (ps:=["cell","k"]) F__law_mix (hr.mono (by decide)) (Zc (Zv Zu (Zd 1) Zj) (Zc Zj Zm)))
         ·refine Zf ?_ ?_
          ·exact Zfe (Zd 2) (Zaj Zcp (Zd 4) (Zb5 (id:="len") Zcu T.m_len ZbA (Zc (Zd 2) Zm))) (Zd 3)
          ·refine Zq ?_
           refine Zao 3 ?_ ?_
           ·exact Zci.nd
           ·exact ZaS (Zc Zal (Zc (Zaj Zcp (Zaj ZcT (Zd 4) Zj) (Zaj ZbI (Zb5 (id:="len") Zcu T.m_len ZbA (Zc (Zd 2) Zm)) Zj)) Zm))
        ·exact Zam
       ·exact Zq (Zae (ZeG (T:="tuple") Zd7 T.m_tuple Zdt (Zc (Zaj ZbI (Zd 2) (Zf1 (Zc (Zd 3) Zm))) Zm)))
theorem Zct:Zaz ["script","found","k","cell"] ["script"] (Zr Zb8):=⟨rfl,rfl,rfl,by decide +kernel,rfl,by decide +kernel,by decide +kernel⟩
theorem ZhW (A:Zay K mg "_law_boxes" Zb8 ["script"]) (T:Txt K mg) (F__law_mix:Fn3 P w K mg base 1 "_law_mix" ["cell","k"] Za2) (F__law_number:Fn3 P w K mg base 1 "_law_number" ["number"] ZaI):Fn3 P w K mg base 2 "_law_boxes" ["script"] ZdJ:=
  Fn3.of (N:=["script","found","k","cell"]) (k:=1) A Zct fun f cdv A outer s H E hr=>by
    have hu:=ZcQ hr
    unfold ZfI
    refine Zf ?_ ?_
    ·exact Zao 1 Zct.nd (Zf1 Zm)
    ·refine Zf ?_ ?_
     ·refine Zjf ?_ ?_ ?_ ?_ ?_
      ·exact rfl
      ·exact rfl
      ·exact Zfb T.m_range Zj
      ·exact Zd0 2 Zct.nd
      ·refine Zf ?_ ?_
       ·exact Zao 3 Zct.nd Zj
       ·refine Zf ?_ ?_
        ·refine ZaJ ?_ ?_ ?_
         ·exact Zah Zla (Zb5 (id:="len") Zcu T.m_len ZbA (Zc (Zd 0) Zm)) Zj
         ·exact Zq (Zao 3 Zct.nd (Zv Zu (Zd 0) (Zaj Zcp (Zaj ZbI (Zaj Zh5 Zj (Zd 2)) Zj) (Zb5 (id:="len") Zcu T.m_len ZbA (Zc (Zd 0) Zm)))))
         ·exact Zam
        ·exact Zq (ZgU (ZdF (Zd 1) (Zc (ZaB (k:=1) (ps:=["number"]) F__law_number (hr.mono (by decide)) (Zc (ZaB (k:=1) (ps:=["cell","k"]) F__law_mix (hr.mono (by decide)) (Zc (Zd 3) (Zc (Zaj ZbI Zj (Zd 2)) Zm))) Zm)) Zm)))
     ·exact Zq (Zae (ZeG (T:="tuple") Zd7 T.m_tuple Zdt (Zc (Zd 1) Zm)))
theorem ZfR:Zaz ["row","place","boxes","cells","word"] ["row","place","boxes","cells"] (Zr ZcH):=⟨rfl,rfl,rfl,by decide +kernel,rfl,by decide +kernel,by decide +kernel⟩
theorem ZiN (A:Zay K mg "_law_goes" ZcH ["row","place","boxes","cells"]) (T:Txt K mg):Fn3 P w K mg base 1 "_law_goes" ["row","place","boxes","cells"] ZbJ:=
  Fn3.of (N:=["row","place","boxes","cells","word"]) (k:=0) A ZfR fun f cdv A outer s H E hr=>by
    have hu:=ZcQ hr
    unfold Ze4
    refine Zf ?_ ?_
    ·exact Zao 4 ZfR.nd (Zv Zu (Zd 0) Zj)
    ·refine Zf ?_ ?_
     ·refine ZaJ ?_ ?_ ?_
      ·exact Zah ((ZbY hu)) (Zd 4) Zal
      ·exact Zq (Zfe (Zd 2) (Zv Zu (Zd 0) Zj) (Zv Zu (Zd 0) Zj))
      ·refine Zq ?_
       refine ZaJ ?_ ?_ ?_
       ·exact Zah ((ZbY hu)) (Zd 4) Zal
       ·refine Zq ?_
        exact Zfe (Zd 2) (Zv Zu (Zd 0) Zj) (Zaj ZbI (Zv Zu (Zd 2) (Zv Zu (Zd 0) Zj)) (Zv Zu (Zd 2) (Zv Zu (Zd 0) Zj)))
       ·refine Zq ?_
        refine ZaJ ?_ ?_ ?_
        ·exact Zah ((ZbY hu)) (Zd 4) Zal
        ·refine Zq ?_
         exact Zfe (Zd 2) (Zv Zu (Zd 0) Zj) (Zaj Zfp (Zv Zu (Zd 2) (Zv Zu (Zd 0) Zj)) (Zv Zu (Zd 2) (Zv Zu (Zd 0) Zj)))
        ·refine Zq ?_
         refine ZaJ ?_ ?_ ?_
         ·exact Zah ((ZbY hu)) (Zd 4) Zal
         ·refine Zq ?_
          refine Zfe ?_ ?_ ?_
          ·exact Zd 2
          ·exact Zv Zu (Zd 0) Zj
          ·exact ZeG (T:="int") ZmL T.m_int Znr (Zc (ZeH Zla (Zv Zu (Zd 2) (Zv Zu (Zd 0) Zj)) (Zv Zu (Zd 2) (Zv Zu (Zd 0) Zj))) Zm)
         ·refine Zq ?_
          refine ZaJ ?_ ?_ ?_
          ·exact Zah ((ZbY hu)) (Zd 4) Zal
          ·exact Zq (Zfe (Zd 2) (Zv Zu (Zd 0) Zj) (ZmZ hu (Zd 3) (Zv Zu (Zd 2) (Zv Zu (Zd 0) Zj)) Zj))
          ·refine Zq ?_
           refine ZaJ ?_ ?_ ?_
           ·exact Zah ((ZbY hu)) (Zd 4) Zal
           ·exact Zq (ZoS hu (Zd 3) (Zv Zu (Zd 2) (Zv Zu (Zd 0) Zj)) (Zv Zu (Zd 2) (Zv Zu (Zd 0) Zj)))
           ·refine Zq ?_
            refine ZaJ ?_ ?_ ?_
            ·refine CW.ct ?_
             refine Zih ?_ ?_
             ·exact Zah ((ZbY hu)) (Zd 4) Zal
             ·exact ZhC (CW.ct (Zgf (Zah ((ZbY hu)) (Zd 4) Zal) (Zfc (Zah Zla (Zv Zu (Zd 2) (Zv Zu (Zd 0) Zj)) Zj))))
            ·exact Zq (Zae (Zv Zu (Zd 0) (Zm9 Zjo Zj)))
            ·exact Zam
     ·exact Zq (Zae (Zaj ZbI (Zd 1) Zj))
theorem Zbq:Zaz ["roll","first","most","place","boxes","cells","states","kept"] ["roll","first","most"] (Zr ZbS):=⟨rfl,rfl,rfl,by decide +kernel,rfl,by decide +kernel,by decide +kernel⟩
theorem Zg2 (A:Zay K mg "_law_states" ZbS ["roll","first","most"]) (T:Txt K mg) (F__law_goes:Fn3 P w K mg base 1 "_law_goes" ["row","place","boxes","cells"] ZbJ):Fn3 P w K mg base 2 "_law_states" ["roll","first","most"] Zcr:=
  Fn3.of (N:=["roll","first","most","place","boxes","cells","states","kept"]) (k:=1) A Zbq fun f cdv A outer s H E hr=>by
    have hu:=ZcQ hr
    unfold Zfv
    refine Zf ?_ ?_
    ·exact Zao 3 Zbq.nd Zj
    ·refine Zf ?_ ?_
     ·exact Zao 4 Zbq.nd (ZeG (T:="list") ZpU T.m_list Zn6 (Zc (Zd 1) Zm))
     ·refine Zf ?_ ?_
      ·exact Zao 5 Zbq.nd Zph
      ·refine Zf ?_ ?_
       ·exact Zao 6 Zbq.nd (Zf1 (Zc (ZaS (Zc Zj (Zc (ZeG (T:="tuple") Zd7 T.m_tuple Zdt (Zc (Zd 1) Zm)) (Zc (ZaS Zm) Zm)))) Zm))
       ·refine Zf ?_ ?_
        ·refine ZmI ?_ ?_ ?_
         ·exact rfl
         ·refine CW.ct ?_
          exact Zgf (Zah ((ZhX hu)) (Zv Zu (Zv Zu (Zd 0) (Zd 3)) Zj) Zal) (Zfc (Zah ZrN (Zb5 (id:="len") Zcu T.m_len ZbA (Zc (Zd 6) Zm)) (Zd 2)))
         ·refine Zf ?_ ?_
          ·exact Zao 3 Zbq.nd (ZaB (k:=1) (ps:=["row","place","boxes","cells"]) F__law_goes (hr.mono (by decide)) (Zc (Zv Zu (Zd 0) (Zd 3)) (Zc (Zd 3) (Zc (Zd 4) (Zc (Zd 5) Zm)))))
          ·refine Zf ?_ ?_
           ·refine ZlX (N':=["roll","first","most","place","boxes","cells","states","kept","number"]) 7 5 ?_ ?_ ?_ ?_ ?_ (fun C cl s H ex=>⟨?_,?_,?_⟩)
            ·exact Ze8 rfl (by kernel_rfl)
            ·exact rfl
            ·exact rfl
            ·exact Zbq.nd
            ·exact Zd 5
            ·exact Zd0 8 ((show List.Nodup (["roll","first","most","place","boxes","cells","states","kept","number"]:List Str) by decide +kernel))
            ·exact Zlu (Zah ((ZhX hu)) (Zny hu (Zd 5) (Zd 8)) Zj)
            ·exact ZaS (Zc (Zd 8) (Zc (Zny hu (Zd 5) (Zd 8)) Zm))
           ·refine Zq ?_
            refine ZgU ?_
            refine ZdF ?_ ?_
            ·exact Zd 6
            ·refine Zc ?_ ?_
             ·refine ZaS ?_
              refine Zc ?_ ?_
              ·exact Zd 3
              ·refine Zc ?_ ?_
               ·exact ZeG (T:="tuple") Zd7 T.m_tuple Zdt (Zc (Zd 4) Zm)
               ·exact Zc (ZeG (T:="tuple") Zd7 T.m_tuple Zdt (Zc (Zb5 (id:="sorted") Zif T.m_sorted Ziz (Zc (Zd 7) Zm)) Zm)) Zm
             ·exact Zm
        ·exact Zq (Zae (Zd 6))
theorem Zch:Zaz ["roll","states","rows","time","place","boxes","row"] ["roll","states"] (Zr ZcJ):=⟨rfl,rfl,rfl,by decide +kernel,rfl,by decide +kernel,by decide +kernel⟩
theorem Zja (A:Zay K mg "_law_uses" ZcJ ["roll","states"]) (T:Txt K mg):Fn3 P w K mg base 1 "_law_uses" ["roll","states"] ZcE:=
  Fn3.of (N:=["roll","states","rows","time","place","boxes","row"]) (k:=0) A Zch fun f cdv A outer s H E hr=>by
    have hu:=ZcQ hr
    unfold ZgC
    refine Zf ?_ ?_
    ·exact Zao 2 Zch.nd (Zf1 Zm)
    ·refine Zf ?_ ?_
     ·refine Zjf ?_ ?_ ?_ ?_ ?_
      ·exact rfl
      ·exact rfl
      ·exact Zfb T.m_range (Zaj Zfp (Zb5 (id:="len") Zcu T.m_len ZbA (Zc (Zd 1) Zm)) Zj)
      ·exact Zd0 3 Zch.nd
      ·refine Zf ?_ ?_
       ·exact ZqC (ZgM ZgQ (Zv Zu (Zd 1) (Zd 3)) Zcy (Zcx Zj)) (Zk7 rfl (Zek 4 Zch.nd (Zek 5 Zch.nd Zi0)))
       ·refine Zf ?_ ?_
        ·exact Zao 6 Zch.nd (Zv Zu (Zd 0) (Zd 4))
        ·refine Zf ?_ ?_
         ·refine ZaJ ?_ ?_ ?_
          ·exact Zah ((ZbY hu)) (Zv Zu (Zd 6) Zj) Zal
          ·refine Zq ?_
           refine ZgU ?_
           refine ZdF ?_ ?_
           ·exact Zd 2
           ·refine Zc ?_ ?_
            ·refine ZaS ?_
             refine Zc ?_ ?_
             ·exact Zv Zu (Zd 5) (Zv Zu (Zd 6) Zj)
             ·exact Zc (Zd 3) (Zc Zal (Zc (Zv Zu (Zv Zu (Zv Zu (Zd 1) (Zaj ZbI (Zd 3) Zj)) Zj) (Zv Zu (Zd 6) Zj)) Zm))
            ·exact Zm
          ·exact Zam
         ·refine Zq ?_
          refine ZaJ ?_ ?_ ?_
          ·exact Zah ((ZbY hu)) (Zv Zu (Zd 6) Zj) Zal
          ·refine Zq ?_
           refine ZgU ?_
           refine ZdF ?_ ?_
           ·exact Zd 2
           ·refine Zc ?_ ?_
            ·exact ZaS (Zc (Zv Zu (Zd 5) (Zv Zu (Zd 6) Zj)) (Zc (Zd 3) (Zc Zal (Zc (Zv Zu (Zd 5) (Zv Zu (Zd 6) Zj)) Zm))))
            ·exact Zm
          ·exact Zam
     ·exact Zq (Zae (ZeG (T:="tuple") Zd7 T.m_tuple Zdt (Zc (Zb5 (id:="sorted") Zif T.m_sorted Ziz (Zc (Zd 2) Zm)) Zm)))
theorem Zfx:Zaz ["number","rows"] ["number"] (Zr Zca):=⟨rfl,rfl,rfl,by decide +kernel,rfl,by decide +kernel,by decide +kernel⟩
theorem ZhO (A:Zay K mg "_law_round" Zca ["number"]) (T:Txt K mg):Fn3 P w K mg base 1 "_law_round" ["number"] Zb9:=
  Fn3.of (N:=["number","rows"]) (k:=0) A Zfx fun f cdv A outer s H E hr=>by
    have hu:=ZcQ hr
    unfold Zez
    refine Zf ?_ ?_
    ·refine Zao 1 ?_ ?_
     ·exact Zfx.nd
     ·refine Zf1 ?_
      refine Zc ?_ ?_
      ·exact ZaS (Zc Zal (Zc Zj (Zc (Zaj ZbI Zj (Zaj Zcp (Zd 0) Zj)) Zm)))
      ·refine Zc ?_ ?_
       ·exact ZaS (Zc Zal (Zc Zj (Zc Zj Zm)))
       ·refine Zc ?_ ?_
        ·exact ZaS (Zc Zal (Zc Zj (Zc Zj Zm)))
        ·exact Zc (ZaS (Zc Zal (Zc Zj (Zc Zj Zm)))) (Zc (ZaS (Zc Zal (Zc Zj (Zc Zj (Zc Zj Zm))))) Zm)
    ·refine Zq ?_
     refine Zae ?_
     refine ZeG (T:="tuple") ?_ ?_ ?_ ?_
     ·exact Zd7
     ·exact T.m_tuple
     ·exact Zdt
     ·refine Zc ?_ ?_
      ·refine Zaj ?_ ?_ ?_
       ·exact ZbI
       ·exact Zd 1
       ·refine Zf1 ?_
        refine Zc ?_ ?_
        ·exact ZaS (Zc Zal (Zc Zj (Zc Zj Zm)))
        ·exact Zc (ZaS (Zc Zal (Zc Zj Zm))) (Zc (ZaS (Zc Zal (Zc Zj Zm))) (Zc (ZaS (Zc Zal Zm)) Zm))
      ·exact Zm
theorem ZcB:Zaz ["script","roll","cells","most","boxes","states","steps","uses","due","cell","cut"] ["script"] (Zr Zf5):=⟨rfl,rfl,rfl,by decide +kernel,rfl,by decide +kernel,by decide +kernel⟩
theorem Zqw {f:Addr} {fd:FuncData} (F:Fun K "law" "law" Zf5 f fd) (T:Txt K mg) (F_fault:Fn3 P w K mg base 7 "fault" ["roll","boxes","steps","uses"] ZdG) (F__law_roll:Fn3 P w K mg base 3 "_law_roll" ["script"] Zdr) (F__law_boxes:Fn3 P w K mg base 2 "_law_boxes" ["script"] ZdJ) (F__law_states:Fn3 P w K mg base 2 "_law_states" ["roll","first","most"] Zcr) (F__law_uses:Fn3 P w K mg base 1 "_law_uses" ["roll","states"] ZcE) (F__law_round:Fn3 P w K mg base 1 "_law_round" ["number"] Zb9):ZgL P w K mg base CX0 8 f fd ["script"] (sp3 K 1 ZlJ):=
  fn3 (N:=["script","roll","cells","most","boxes","states","steps","uses","due","cell","cut"]) (k:=7) F ZcB fun cdv A outer s H E hr=>by
    have hu:=ZcQ hr
    unfold ZmD
    refine Zf ?_ ?_
    ·exact Zao 1 ZcB.nd (ZaB (k:=3) (ps:=["script"]) F__law_roll (hr.mono (by decide)) (Zc (Zd 0) Zm))
    ·refine Zf ?_ ?_
     ·exact Zao 2 ZcB.nd (ZgM ZgQ (Zd 0) Zcy (Zcx Zj))
     ·refine Zf ?_ ?_
      ·exact Zao 3 ZcB.nd Zj
      ·refine Zf ?_ ?_
       ·refine ZaJ ?_ ?_ ?_
        ·refine CW.ct ?_
         exact Zgf (Zah Zla (Zb5 (id:="len") Zcu T.m_len ZbA (Zc (Zd 0) Zm)) Zj) (Zfc (Zah ((ZbY hu)) (Zaj Zcp (Zv Zu (Zd 0) Zj) Zj) Zj))
        ·refine Zf ?_ ?_
         ·exact Zao 1 ZcB.nd (ZaB (k:=1) (ps:=["number"]) F__law_round (hr.mono (by decide)) (Zc (Zaj ZcT (Zv Zu (Zd 0) Zj) Zj) Zm))
         ·exact Zf (Zao 2 ZcB.nd (ZgM ZgQ (Zd 0) Zcy (Zcx Zj))) (Zq (Zao 3 ZcB.nd Zj))
        ·exact Zam
       ·refine Zf ?_ ?_
        ·exact Zao 4 ZcB.nd (ZaB (k:=2) (ps:=["script"]) F__law_boxes (hr.mono (by decide)) (Zc (Zd 0) Zm))
        ·refine Zf ?_ ?_
         ·exact Zao 5 ZcB.nd (ZaB (k:=2) (ps:=["roll","first","most"]) F__law_states (hr.mono (by decide)) (Zc (Zd 1) (Zc (Zd 4) (Zc (Zd 3) Zm))))
         ·refine Zf ?_ ?_
          ·refine Zao 6 ?_ ?_
           ·exact ZcB.nd
           ·refine ZeG (T:="tuple") ?_ ?_ ?_ ?_
            ·exact Zd7
            ·exact T.m_tuple
            ·exact Zdt
            ·refine Zc ?_ ?_
             ·exact Zs4 (N':=["script","roll","cells","most","boxes","states","steps","uses","due","cell","cut","state"]) (Ze8 rfl (by kernel_rfl)) rfl rfl (Zp5 (Zd 5)) (fun C cl s H ex=>⟨(Zd0 11 ((show List.Nodup (["script","roll","cells","most","boxes","states","steps","uses","due","cell","cut","state"]:List Str) by decide +kernel))),ZlF,(ZaS (Zc (Zv Zu (Zd 11) Zj) (Zc (Zv Zu (Zd 11) Zj) Zm)))⟩)
             ·exact Zm
          ·refine Zf ?_ ?_
           ·exact Zao 7 ZcB.nd (ZaB (k:=1) (ps:=["roll","states"]) F__law_uses (hr.mono (by decide)) (Zc (Zd 1) (Zc (Zd 5) Zm)))
           ·refine Zf ?_ ?_
            ·exact Zao 8 ZcB.nd (ZaS (Zc Zal (Zc (Zaj Zfp (Zb5 (id:="len") Zcu T.m_len ZbA (Zc (Zd 6) Zm)) Zj) Zm)))
            ·refine Zf ?_ ?_
             ·refine ZaJ ?_ ?_ ?_
              ·exact Zah ((ZbY hu)) (Zv Zu (Zv Zu (Zd 1) (Zv Zu (Zv Zu (Zd 6) (Zm9 Zjo Zj)) Zj)) Zj) Zal
              ·exact Zq (Zao 8 ZcB.nd Zdk)
              ·exact Zam
             ·refine Zf ?_ ?_
              ·exact ZaJ (Zah ((Zru hu)) (ZaB (k:=7) (ps:=["roll","boxes","steps","uses"]) F_fault (hr.mono (by decide)) (Zc (Zd 1) (Zc (Zd 4) (Zc (Zd 6) (Zc (Zd 7) Zm))))) (Zd 8)) (Zq (Zae Zi6)) Zam
              ·refine Zf ?_ ?_
               ·refine Zjf ?_ ?_ ?_ ?_ ?_
                ·exact rfl
                ·exact rfl
                ·exact Zp5 (Zd 2)
                ·exact Zd0 9 ZcB.nd
                ·refine Zf ?_ ?_
                 ·exact Zao 10 ZcB.nd (Zaj ZbI Zj (Zaj Zcp (Zd 9) (Zb5 (id:="len") Zcu T.m_len ZbA (Zc (Zd 6) Zm))))
                 ·refine Zq ?_
                  refine ZaJ ?_ ?_ ?_
                  ·exact Zah ZpC (Zd 10) (Zb5 (id:="len") Zcu T.m_len ZbA (Zc (Zd 6) Zm))
                  ·refine Zf ?_ ?_
                   ·refine ZaJ ?_ ?_ ?_
                    ·refine Zah ?_ ?_ ?_
                     ·exact (ZhX hu)
                     ·refine ZaB (k:=7) (ps:=["roll","boxes","steps","uses"]) ?_ ?_ ?_
                      ·exact F_fault
                      ·exact hr.mono (by decide)
                      ·refine Zc ?_ ?_
                       ·exact Zd 1
                       ·refine Zc ?_ ?_
                        ·exact Zd 4
                        ·exact Zc (ZgM ZgQ (Zd 6) Zcy (Zcx (Zd 10))) (Zc (ZaB (k:=1) (ps:=["roll","states"]) F__law_uses (hr.mono (by decide)) (Zc (Zd 1) (Zc (ZgM ZgQ (Zd 5) Zcy (Zcx (Zd 10))) Zm))) Zm)
                     ·exact ZaS (Zc Zal (Zc (Zaj Zfp (Zd 10) Zj) Zm))
                    ·exact Zq (Zae Zi6)
                    ·exact Zam
                   ·refine Zq ?_
                    refine ZaJ ?_ ?_ ?_
                    ·exact Zah Zpq (ZaB (k:=7) (ps:=["roll","boxes","steps","uses"]) F_fault (hr.mono (by decide)) (Zc (Zd 1) (Zc (Zd 4) (Zc (ZgM ZgQ (Zd 6) Zcy (Zcx (Zd 10))) (Zc (Zd 7) Zm))))) Zdk
                    ·exact Zq (Zae Zi6)
                    ·exact Zam
                  ·exact Zam
               ·refine Zq ?_
                exact Zae (ZeH ((ZbY hu)) (ZaB (k:=7) (ps:=["roll","boxes","steps","uses"]) F_fault (hr.mono (by decide)) (Zc (Zd 1) (Zc (Zd 4) (Zc (ZaS Zm) (Zc (Zd 7) Zm))))) (ZaS (Zc Zal (Zc Zj Zm))))
end
end Law
set_option maxHeartbeats 200000
namespace Law
open L3
theorem Zhj (n d:Nat):sIx n d none = d:=rfl
theorem Zi8 (n d k:Nat):sIx n d (some (k:Int)) = min k n:=by
 have h:¬ ((k:Int) < 0):=by omega
 simp only [sIx,if_neg h,Int.toNat_natCast]
theorem ZnC {α:Type} (w:List α) (k:Nat):cutD w (some (k:Int)) none = w.drop k:=by
 unfold cutD
 rw [Zi8,Zhj]
 by_cases h:k ≤ w.length
 ·rw [Nat.min_eq_left h,List.take_of_length_le (by simp)]
 ·rw [Nat.min_eq_right (by omega),List.drop_eq_nil_of_le (Nat.le_refl _),List.drop_eq_nil_of_le (by omega)]; simp
theorem Zgr {α:Type} (w:List α) (k:Nat):cutD w none (some (k:Int)) = w.take k:=by
 unfold cutD
 rw [Zi8,Zhj]
 by_cases h:k ≤ w.length
 ·rw [Nat.min_eq_left h]; simp
 ·rw [Nat.min_eq_right (by omega),Nat.sub_zero,List.drop_zero,List.take_of_length_le (Nat.le_refl _),List.take_of_length_le (by omega)]
theorem ZdT (n:Nat) (bs:List Int):below n (Zi bs) = true:=by
 unfold Zi below
 induction bs with
 | nil=>rfl
 | cons b bs ih=>simp only [List.map_cons,belowL,below,ih,Bool.and_self]
theorem Zrr {bs:List Int} (h:bs.length = 8) {a:Nat} (ha:a < 8):bs[a]? = some (bs.getD a 0):=by
 rw [List.getD_eq_getElem?_getD,List.getElem?_eq_getElem (by omega)]; rfl
theorem Za8 {bs:List Int} (h:bs.length = 8) {a:Nat} (ha:a < 8):∃ x,bs.getD a 0 = x ∧ Zbi (bs.map D.int) (a:Int) = some (.int x):=⟨bs.getD a 0,rfl,by rw [Zdp,List.getElem?_map,Zrr h ha]; rfl⟩
theorem Zh2 {i j:Int} (h:-(2 ^ 64) < i ∧ i < 2 ^ 64):Zck i j = true:=by
 unfold Zck; rw [Bool.or_eq_true]; left; simp only [Bool.and_eq_true,decide_eq_true_eq]; exact h
theorem ZfM (x:Int) (m:Nat) (h:0 < m):∃ a:Nat,x % (m:Int) = a ∧ a < m:=by
 have h1:=Int.emod_nonneg x (b:=(m:Int)) (by omega)
 have h2:=Int.emod_lt_of_pos x (b:=(m:Int)) (by omega)
 exact ⟨(x % (m:Int)).toNat,(Int.toNat_of_nonneg h1).symm,by omega⟩
theorem ZnI {M:Store} {n:Nat} {o:MO} (h:M[n]? = some o):M.set n o = M:=by
 apply List.ext_getElem?
 intro j
 by_cases hj:j = n
 ·subst hj; rw [List.getElem?_set_self (List.getElem?_eq_some_iff.mp h).1,h]
 ·rw [List.getElem?_set_ne (Ne.symm hj)]
theorem ZkS {i:Nat} {env:ZaE} {t:List (Int × Int)} {n own:Nat} {M:Store} {c elt:E3} (hi:env[i]? = some (some (.ref n))) (hM:M[n]? = some (.dct (Za4 t))) (hz:t.length ≤ 100000)
  (hc:∀ p ∈ t,∀ M,Zc2 M[n]? = some (Za4 t) → c ((env ++ List.replicate own none).set env.length (some (.int p.1))) M = .ok (.bl (decide (p.2 ≠ 0))) M)
  (he:∀ p ∈ t,∀ M,Zc2 M[n]? = some (Za4 t) → elt ((env ++ List.replicate own none).set env.length (some (.int p.1))) M = .ok (ZaL p) M):
  Zk2 (Za i) own (Zcw env.length) [c] elt env M = .ok (.ref M.length) (M ++ [.lst ((t.filter fun p=>decide (p.2 ≠ 0)).map ZaL)]):=by
 have hlt:=(List.getElem?_eq_some_iff.mp hM).1
 have e0:Za i env M = .ok (.ref n) M:=by simp only [Za,hi]
 have ek:((Za4 t).map fun q=>keyV q.1) = t.map fun p=>D.int p.1:=by
  simp [Za4,keyV,Function.comp_def]
 have rd:∀ x,Zc2 ((M.set n (.fdct (Za4 t)) ++ [MO.lst []]).set M.length (MO.lst x))[n]? = some (Za4 t):=fun x=>by
  rw [List.getElem?_set_ne (by omega),List.getElem?_append_left (by simpa using hlt),List.getElem?_set_self hlt]; rfl
 have lp:=ZfQ (α:=Int × Int) (enc:=fun p=>D.int p.1) (h:=ZaL) (p:=fun p=>decide (p.2 ≠ 0)) (it:=⟨(Za4 t).map fun q=>keyV q.1,none⟩) (i:=env.length) (n:=M.length) (c:=c) (elt:=elt) (env0:=env ++ List.replicate own none) t [] (env ++ List.replicate own none) (M.set n (.fdct (Za4 t)) ++ [.lst []]) (fun _=>rfl)
  (fun p hp x=>hc p hp _ (rd x)) (fun p hp _ x=>he p hp _ (rd x)) (fun _=>rfl) (by rw [List.getElem?_append_right (by simp)]; simp) (by simp; omega)
 unfold Zk2
 rw [e0]
 simp only [R3.bind,hM]
 rw [show (List.map (fun q=>keyV q.fst) (Za4 t)) = t.map (fun p=>D.int p.1) from ek] at lp ⊢
 rw [lp]
 have e1:(M.set n (.fdct (Za4 t)) ++ [MO.lst []]).set M.length (MO.lst ([] ++ (t.filter fun p=>decide (p.2 ≠ 0)).map ZaL)) = M.set n (.fdct (Za4 t)) ++ [MO.lst ((t.filter fun p=>decide (p.2 ≠ 0)).map ZaL)]:=by
  rw [List.set_append_right _ _ (by simp)]; simp
 rw [e1]
 have e2:(M.set n (.fdct (Za4 t)) ++ [MO.lst ((t.filter fun p=>decide (p.2 ≠ 0)).map ZaL)])[n]? = some (.fdct (Za4 t)):=by
  rw [List.getElem?_append_left (by simpa using hlt),List.getElem?_set_self hlt]
 simp only [e2]
 rw [List.set_append_left _ _ (by simpa using hlt),List.set_set,ZnI hM]
theorem ZlG {n:Nat} {t:List (Int × Int)} (hk:keysOk t) {p:Int × Int} (hp:p ∈ t) {M:Store} (h:Zc2 M[n]? = some (Za4 t)):Zc6 (.ref n) (.int p.1) M = .ok (.int p.2) M:=by
 have hv:Zcq (Za4 t) (.inl p.1) = some (.int p.2):=by
  rw [Zkb,if_pos (List.any_eq_true.mpr ⟨p,hp,by simp⟩),Zdq hk (k:=p.1) (v:=p.2) hp]
 simp only [Zc6,h,ZeU,hv]
theorem ZjJ {t:List (Int × Int)} (h:t.length ≤ 99999):(t.filter fun p=>decide (p.2 ≠ 0)).length ≤ 99999:=Nat.le_trans (List.length_filter_le _ _) h
theorem ZkX {e:E3} {env:ZaE} {M M1:Store} {t:List (Int × Int)} {n:Nat} (hk:keysOk t) (hl:t.length ≤ 99999) (h:e env M = .ok (.ref n) M1) (hn:M1[n]? = some (.lst ((t.filter fun p=>decide (p.2 ≠ 0)).map ZaL))):
  Zas Zbh (Zb e Zg) env M = .ok (.ref M1.length) (M1 ++ [.lst ((ZaU t).map ZaL)]):=by
 refine Zd6 h ?_
 simp only [Zbh,hn]
 rw [if_pos (ZhP (ZjJ hl)),Zhe (ZkZ (Zew t) (Zdf hk))]
 rfl
theorem Zk1 (c k:Int) (h0:0 ≤ k) (h1:k ≤ 5000):∃ v:Int,∀ M,Za2 [.int c,.int k] M = .ok (.int v) M:=by
 by_cases h:c ≤ -1000000
 ·exact ⟨c,fun M=>by simp [Za2,ZdN,Zw,Zan,Zak,sIf,Zaa,Za9,mkF,ZdB,below,belowL,Zck,h]⟩
 ·by_cases h':(1000000:Int) ≤ c
  ·exact ⟨c,fun M=>by simp [Za2,ZdN,Zw,Zan,Zak,sIf,Zaa,Za9,mkF,ZdB,below,belowL,Zck,h,h']⟩
  ·have m1:Zck 31 c = true:=Zh2 (by omega)
   have m2:Zck k k = true:=Zh2 (by omega)
   have m3:Zck 17 k = true:=Zh2 (by omega)
   have m4:∀ x,Zck (c + 1000003) x = true:=fun x=>Zh2 (by omega)
   have q:=Int.emod_nonneg ((c + 1000003) * (31 * c + k * k + 17 * k + 2000033)) (b:=2147483629) (by omega)
   have q':=Int.emod_lt_of_pos ((c + 1000003) * (31 * c + k * k + 17 * k + 2000033)) (b:=2147483629) (by omega)
   generalize hn:(c + 1000003) * (31 * c + k * k + 17 * k + 2000033) % 2147483629 = n at q q'
   have m5:Zck n n = true:=Zh2 (by omega)
   exact ⟨n * n + n / 7,fun M=>by simp [Za2,ZdN,Zw,Zan,Zak,sIf,Zaa,Za9,mkF,ZdB,below,belowL,h,h',m1,m2,m3,m4,hn,m5]⟩
theorem Zio (c:Int):∃ v:Int,∀ M,ZaI [.int c] M = .ok (.int v) M:=by
 by_cases h:c % 3 < 2
 ·exact ⟨_,fun M=>by simp [ZaI,Zco,Zw,Zan,Zak,sIf,Zaa,Za9,mkF,ZdB,below,belowL,Zck,h]; rfl⟩
 ·by_cases h':c / 3 % 2 = 0
  ·exact ⟨_,fun M=>by simp [ZaI,Zco,Zw,Zan,Zak,sIf,Zaa,Za9,mkF,ZdB,below,belowL,Zck,h,h']; rfl⟩
  ·exact ⟨_,fun M=>by simp [ZaI,Zco,Zw,Zan,Zak,sIf,Zaa,Za9,mkF,ZdB,below,belowL,Zck,h,h']; rfl⟩
theorem ZkV {α:Type} {enc:α → D} {P:D → α → Prop} {it:It3} {i n:Nat} {elt:E3} {env0 env:ZaE} {ds acc:List D} {M:Store} (he:∀ d,env.set i (some d) = env0.set i (some d))
  (hf:∀ d ∈ ds,∃ a,P d a ∧ ∀ x,elt (env0.set i (some d)) (M.set n (.lst x)) = .ok (enc a) (M.set n (.lst x))) (hl:∀ x,locked it (M.set n (.lst x)) = true) (hM:M[n]? = some (.lst acc)) (hz:acc.length + ds.length ≤ SZ):
  ∃ as:List α,as.length = ds.length ∧ (∀ (j:Nat) d a,ds[j]? = some d → as[j]? = some a → P d a) ∧ Zc4 it (Zcw i) [] elt n ds env M = .ok (.ref n) (M.set n (.lst (acc ++ as.map enc))):=by
 obtain ⟨es,le,re,h⟩:=ZjY (it:=it) (i:=i) (n:=n) (elt:=elt) (R:=fun d e=>∃ a,e = enc a ∧ P d a) (env0:=env0) ds acc env M he (fun d hd x=>by
  obtain ⟨a,pa,ha⟩:=hf d hd
  exact ⟨enc a,ha _,a,rfl,pa⟩) hl hM hz
 obtain ⟨as,rfl,ps⟩:=Zkn (enc:=enc) (P:=fun j a=>∀ d,ds[j]? = some d → P d a) es fun j e hj=>by
  have hlt:j < ds.length:=by rw [← le]; exact (List.getElem?_eq_some_iff.mp hj).1
  obtain ⟨a,ea,pa⟩:=re j ds[j] e (by simp [hlt]) hj
  refine ⟨a,ea,fun d hd=>?_⟩
  rw [List.getElem?_eq_getElem hlt] at hd
  cases hd
  exact pa
 exact ⟨as,by simpa using le,fun j d a hd ha=>ps j a ha d hd,h⟩
theorem ZkU (n:Nat) (r:ZaK):below n (Zh r) = true:=by
 unfold Zh below
 induction r with
 | nil=>rfl
 | cons x r ih=>
  simp only [List.map_cons,belowL,ih,Bool.and_true]
  cases x <;> rfl
theorem Zdm {M M':Store} {d:D} (h:M'.length = M.length):ZdB M d M' = .ok d M':=by
 unfold ZdB
 rw [List.take_of_length_le (by omega)]
 split <;> rfl
noncomputable def Znv:S3:=(Zw (sIf (e2 ZaF (Za 5) (eC (.str [112,117,116]))) (Zak (ZaD (Zb (Za 5) (Zb (Za 6) (Zb (Zac ZaI (Zb (e2 Zbj (Za 3) (eC (.int 8))) (Zg))) (Zg)))))) (Zaa)) (Zw (sIf (e2 Zi4 (Za 5) (ZaD (Zb (eC (.str [97,100,100])) (Zb (eC (.str [115,117,98])) (Zb (eC (.str [109,111,114,101])) (Zg)))))) (Zak (ZaD (Zb (Za 5) (Zb (Za 6) (Zb (Za 7) (Zb (Za 8) (Zg))))))) (Zaa)) (Zw (sIf (e2 ZaF (Za 5) (eC (.str [106,117,109,112]))) (Zak (ZaD (Zb (Za 5) (Zb (Za 9) (Zg))))) (Zaa)) (Zw (sIf (e2 ZaF (Za 5) (eC (.str [119,104,101,110]))) (Zak (ZaD (Zb (Za 5) (Zb (Za 6) (Zb (Za 9) (Zg)))))) (Zaa)) (Zak (e2 Ze (ZgS (Zb (ZaD (Zb (Za 5) (Zb (Za 6) (Zb (Za 7) (Zg))))) (Zb (ZaD (Zb (Za 5) (Zb (Za 6) (Zg)))) (Zg)))) (Zas Zis (Zb (e2 ZaF (Za 5) (eC (.str [116,101,108,108]))) (Zg)))))))))
theorem ZsX {M:Store} {x:MO}:(M ++ [x])[M.length]? = some x:=Zb4 _ _ _
noncomputable abbrev Zke (cell A m p:Int) (x4:Option D) (kd:List Nat) (a b d q:Nat):ZaE:=[some (.int cell),some (.int A),some (.int m),some (.int p),x4,some (.str kd),some (.int a),some (.int b),some (.int d),some (.int q)]
section
variable {cell A m p:Int} {x4:Option D} {kd w:List Nat} {a b d q:Nat} {M:Store}
theorem skA (h:(kd == w) = false):e2 ZaF (Za 5) (eC (.str w)) (Zke cell A m p x4 kd a b d q) M = .ok (.bl false) M:=by
 show (match (some (decide (kd = w)):Option Bool) with | some r=>(.ok (.bl r) M:R3 D) | none=>.bad) = _
 rw [decide_eq_false (by simpa using h)]
theorem tkA:e2 ZaF (Za 5) (eC (.str kd)) (Zke cell A m p x4 kd a b d q) M = .ok (.bl true) M:=by
 show (match (some (decide (kd = kd)):Option Bool) with | some r=>(.ok (.bl r) M:R3 D) | none=>.bad) = _
 rw [decide_eq_true rfl]
theorem inA:e2 Zi4 (Za 5) (ZaD (Zb (eC (.str [97,100,100])) (Zb (eC (.str [115,117,98])) (Zb (eC (.str [109,111,114,101])) (Zg))))) (Zke cell A m p x4 kd a b d q) M = .ok (.bl ([97,100,100] == kd || ([115,117,98] == kd || [109,111,114,101] == kd))) M:=by
 simp [Zke,Zbt,deq,inD]
theorem Znt {t:Bool} {r:D} (h:(decide (kd = [116,101,108,108])) = t) (hr:Zbi [.tup [.str kd,.int a,.int b],.tup [.str kd,.int a]] (if t then 1 else 0) = some r) (h1:(kd == [112,117,116]) = false) (h2:([97,100,100] == kd || ([115,117,98] == kd || [109,111,114,101] == kd)) = false) (h3:(kd == [106,117,109,112]) = false) (h4:(kd == [119,104,101,110]) = false):
  Znv (Zke cell A m p x4 kd a b d q) M = .rt r (M ++ [.lst [.tup [.str kd,.int a,.int b],.tup [.str kd,.int a]]]):=by
 refine (Zk (Zy (skA h1))).trans ((Zk (Zy (inA.trans (by rw [h2])))).trans ((Zk (Zy (skA h3))).trans ((Zk (Zy (skA h4))).trans (ZaO (Zai (a:=.ref M.length) (b:=.int (if t then 1 else 0)) (M1:=M ++ [.lst [.tup [.str kd,.int a,.int b],.tup [.str kd,.int a]]]) (by simp [Zke]) (by subst h; rfl) ?_)))))
 simp only [Ze,ZsX,hr]
end
theorem Znh (cell A m p v:Int) (a b d q many:Nat) (kd:List Nat) (hv:∀ M,ZaI [.int (p / 8)] M = .ok (.int v) M) (la:a < 8) (lb:b < 8) (ld:d < 8) (lq:q < many) (hk:kd = [112,117,116] ∨ kd = [97,100,100] ∨ kd = [115,117,98] ∨ kd = [109,111,114,101] ∨ kd = [103,101,116] ∨ kd = [115,101,116] ∨ kd = [106,117,109,112] ∨ kd = [119,104,101,110] ∨ kd = [116,101,108,108]):
  ∃ r:Row,r.ok many ∧ ∀ (x4:Option D) (M:Store),∃ G,Znv (Zke cell A m p x4 kd a b d q) M = .rt (Zn r) (M ++ G):=by
 rcases hk with h | h | h | h | h | h | h | h | h <;> subst h
 ·refine ⟨.put a v,la,fun x4 M=>⟨[],?_⟩⟩
  rw [List.append_nil]
  exact Zaw ((ZaM tkA).trans (ZaO (by simp [Zke,hv,Zn])))
 ·exact ⟨.add a b d,⟨la,lb,ld⟩,fun x4 M=>⟨[],by rw [List.append_nil]; exact (Zk (Zy (skA rfl))).trans (Zaw ((ZaM inA).trans (ZaO (Zdi rfl rfl))))⟩⟩
 ·exact ⟨.sub a b d,⟨la,lb,ld⟩,fun x4 M=>⟨[],by rw [List.append_nil]; exact (Zk (Zy (skA rfl))).trans (Zaw ((ZaM inA).trans (ZaO (Zdi rfl rfl))))⟩⟩
 ·exact ⟨.more a b d,⟨la,lb,ld⟩,fun x4 M=>⟨[],by rw [List.append_nil]; exact (Zk (Zy (skA rfl))).trans (Zaw ((ZaM inA).trans (ZaO (Zdi rfl rfl))))⟩⟩
 ·exact ⟨.get a b,⟨la,lb⟩,fun x4 M=>⟨_,Znt (t:=false) (by decide) rfl rfl rfl rfl rfl⟩⟩
 ·exact ⟨.set a b,⟨la,lb⟩,fun x4 M=>⟨_,Znt (t:=false) (by decide) rfl rfl rfl rfl rfl⟩⟩
 ·exact ⟨.jump q,lq,fun x4 M=>⟨[],by rw [List.append_nil]; exact (Zk (Zy (skA rfl))).trans ((Zk (Zy inA)).trans (Zaw ((ZaM tkA).trans (ZaO (Zdi rfl rfl)))))⟩⟩
 ·exact ⟨.when a q,⟨la,lq⟩,fun x4 M=>⟨[],by rw [List.append_nil]; exact (Zk (Zy (skA rfl))).trans ((Zk (Zy inA)).trans ((Zk (Zy (skA rfl))).trans (Zaw ((ZaM tkA).trans (ZaO (Zdi rfl rfl))))))⟩⟩
 ·exact ⟨.tell a,la,fun x4 M=>⟨_,Znt (t:=true) (by decide) rfl rfl rfl rfl rfl⟩⟩
theorem ZnZ (cell c A m:Int) (many:Nat) (hmix:∀ M,Za2 [.int cell,.int A] M = .ok (.int c) M) (h0:0 ≤ A) (h1:A < m) (hm:m = many):∃ r:Row,r.ok (many + 1) ∧ ∀ M,ZbM [.int cell,.int A,.int m] M = .ok (Zn r) M:=by
 obtain ⟨a,ha,la⟩:∃ a:Nat,c / 16 % 8 = a ∧ a < 8:=⟨(c / 16 % 8).toNat,by omega,by omega⟩
 obtain ⟨b,hb,lb⟩:∃ a:Nat,c / 16 / 8 % 8 = a ∧ a < 8:=⟨(c / 16 / 8 % 8).toNat,by omega,by omega⟩
 obtain ⟨d,hd,ld⟩:∃ a:Nat,c / 16 / 64 % 8 = a ∧ a < 8:=⟨(c / 16 / 64 % 8).toNat,by omega,by omega⟩
 obtain ⟨v,hv⟩:=Zio (c / 16 / 8)
 have p1:0 < m - A:=by omega
 have p2:0 < m + 1:=by omega
 have b1:=Int.emod_nonneg (c / 16 / 32) (b:=m - A) (by omega)
 have b2:=Int.emod_lt_of_pos (c / 16 / 32) p1
 have b3:=Int.emod_nonneg (c / 16 / 32) (b:=m + 1) (by omega)
 have b4:=Int.emod_lt_of_pos (c / 16 / 32) p2
 obtain ⟨q,hq,lq⟩:∃ q:Nat,(if c / 16 / 8 % 4 = 0 then c / 16 / 32 % (m + 1) else A + 1 + c / 16 / 32 % (m - A)) = (q:Int) ∧ q < many + 1:=by
  split
  ·exact ⟨(c / 16 / 32 % (m + 1)).toNat,by omega,by omega⟩
  ·exact ⟨(A + 1 + c / 16 / 32 % (m - A)).toNat,by omega,by omega⟩
 clear b1 b2 b3 b4 hm
 obtain ⟨kd,hkd,hk⟩:∃ kd:List Nat,Zbi ([D.str [112,117,116],D.str [112,117,116],D.str [97,100,100],D.str [115,117,98],D.str [109,111,114,101],D.str [103,101,116],D.str [103,101,116],D.str [103,101,116],D.str [115,101,116],D.str [115,101,116],D.str [115,101,116],D.str [115,101,116],D.str [106,117,109,112],D.str [119,104,101,110],D.str [119,104,101,110],D.str [116,101,108,108]]) (c % 16) = some (D.str kd) ∧ (kd = [112,117,116] ∨ kd = [97,100,100] ∨ kd = [115,117,98] ∨ kd = [109,111,114,101] ∨ kd = [103,101,116] ∨ kd = [115,101,116] ∨ kd = [106,117,109,112] ∨ kd = [119,104,101,110] ∨ kd = [116,101,108,108]):=by
  obtain ⟨k16,hk16,lk16⟩:=ZfM c 16 (by omega)
  rw [show c % 16 = (k16:Int) from hk16]
  match k16,lk16 with
  | 0,_=>exact ⟨_,rfl,by decide⟩
  | 1,_=>exact ⟨_,rfl,by decide⟩
  | 2,_=>exact ⟨_,rfl,by decide⟩
  | 3,_=>exact ⟨_,rfl,by decide⟩
  | 4,_=>exact ⟨_,rfl,by decide⟩
  | 5,_=>exact ⟨_,rfl,by decide⟩
  | 6,_=>exact ⟨_,rfl,by decide⟩
  | 7,_=>exact ⟨_,rfl,by decide⟩
  | 8,_=>exact ⟨_,rfl,by decide⟩
  | 9,_=>exact ⟨_,rfl,by decide⟩
  | 10,_=>exact ⟨_,rfl,by decide⟩
  | 11,_=>exact ⟨_,rfl,by decide⟩
  | 12,_=>exact ⟨_,rfl,by decide⟩
  | 13,_=>exact ⟨_,rfl,by decide⟩
  | 14,_=>exact ⟨_,rfl,by decide⟩
  | 15,_=>exact ⟨_,rfl,by decide⟩
  | k + 16,h=>exact absurd h (Nat.not_lt.mpr (Nat.le_add_left 16 k))
 have head:∀ M,Zeq [some (.int cell),some (.int A),some (.int m),none,none,none,none,none,none,none] M = (Zw (sIf (e2 ZaF (e2 Za3 (Za 3) (eC (.int 41))) (eC (.int 7))) (Zak (ZaD (Zb (eC (.str [104,97,108,116])) (Zg)))) (Zaa)) (Zw (Zan 6 (e2 Za3 (Za 3) (eC (.int 8)))) (Zw (Zan 7 (e2 Za3 (e2 Zbj (Za 3) (eC (.int 8))) (eC (.int 8)))) (Zw (Zan 8 (e2 Za3 (e2 Zbj (Za 3) (eC (.int 64))) (eC (.int 8)))) (Zw (Zan 9 (e2 Zar (e2 Zar (Za 1) (eC (.int 1))) (e2 Za3 (e2 Zbj (Za 3) (eC (.int 32))) (e2 Zds (Za 2) (Za 1))))) (Zw (sIf (e2 ZaF (e2 Za3 (e2 Zbj (Za 3) (eC (.int 8))) (eC (.int 4))) (eC (.int 0))) (Zan 9 (e2 Za3 (e2 Zbj (Za 3) (eC (.int 32))) (e2 Zar (Za 2) (eC (.int 1))))) (Zaa)) Znv)))))) [some (.int cell),some (.int A),some (.int m),some (.int (c / 16)),some (.ref M.length),some (.str kd),none,none,none,none] (M ++ [.lst [D.str [112,117,116],D.str [112,117,116],D.str [97,100,100],D.str [115,117,98],D.str [109,111,114,101],D.str [103,101,116],D.str [103,101,116],D.str [103,101,116],D.str [115,101,116],D.str [115,101,116],D.str [115,101,116],D.str [115,101,116]],.lst [D.str [106,117,109,112],D.str [119,104,101,110],D.str [119,104,101,110],D.str [116,101,108,108]],.lst ([D.str [112,117,116],D.str [112,117,116],D.str [97,100,100],D.str [115,117,98],D.str [109,111,114,101],D.str [103,101,116],D.str [103,101,116],D.str [103,101,116],D.str [115,101,116],D.str [115,101,116],D.str [115,101,116],D.str [115,101,116],D.str [106,117,109,112],D.str [119,104,101,110],D.str [119,104,101,110],D.str [116,101,108,108]])]):=fun M=>by
  unfold Zeq
  rw [Zk (Zag (M':=M) (d:=.int c) (by simp [hmix]))]
  rw [Zk (Zag (M':=M ++ [.lst [D.str [112,117,116],D.str [112,117,116],D.str [97,100,100],D.str [115,117,98],D.str [109,111,114,101],D.str [103,101,116],D.str [103,101,116],D.str [103,101,116],D.str [115,101,116],D.str [115,101,116],D.str [115,101,116],D.str [115,101,116]]]) (d:=.ref M.length) (by simp))]
  rw [Zk (Zag (M':=M ++ [.lst [D.str [112,117,116],D.str [112,117,116],D.str [97,100,100],D.str [115,117,98],D.str [109,111,114,101],D.str [103,101,116],D.str [103,101,116],D.str [103,101,116],D.str [115,101,116],D.str [115,101,116],D.str [115,101,116],D.str [115,101,116]],.lst [D.str [106,117,109,112],D.str [119,104,101,110],D.str [119,104,101,110],D.str [116,101,108,108]],.lst ([D.str [112,117,116],D.str [112,117,116],D.str [97,100,100],D.str [115,117,98],D.str [109,111,114,101],D.str [103,101,116],D.str [103,101,116],D.str [103,101,116],D.str [115,101,116],D.str [115,101,116],D.str [115,101,116],D.str [115,101,116],D.str [106,117,109,112],D.str [119,104,101,110],D.str [119,104,101,110],D.str [116,101,108,108]])]) (d:=.str kd) (by simp [hkd]))]
  rw [Zk (Zag (M':=M ++ [.lst [D.str [112,117,116],D.str [112,117,116],D.str [97,100,100],D.str [115,117,98],D.str [109,111,114,101],D.str [103,101,116],D.str [103,101,116],D.str [103,101,116],D.str [115,101,116],D.str [115,101,116],D.str [115,101,116],D.str [115,101,116]],.lst [D.str [106,117,109,112],D.str [119,104,101,110],D.str [119,104,101,110],D.str [116,101,108,108]],.lst ([D.str [112,117,116],D.str [112,117,116],D.str [97,100,100],D.str [115,117,98],D.str [109,111,114,101],D.str [103,101,116],D.str [103,101,116],D.str [103,101,116],D.str [115,101,116],D.str [115,101,116],D.str [115,101,116],D.str [115,101,116],D.str [106,117,109,112],D.str [119,104,101,110],D.str [119,104,101,110],D.str [116,101,108,108]])]) (d:=.int (c / 16)) (by simp))]
  rfl
 by_cases hh:c / 16 % 41 = 7
 ·refine ⟨.halt,trivial,fun M=>?_⟩
  exact (Zda (M':=M ++ [.lst [D.str [112,117,116],D.str [112,117,116],D.str [97,100,100],D.str [115,117,98],D.str [109,111,114,101],D.str [103,101,116],D.str [103,101,116],D.str [103,101,116],D.str [115,101,116],D.str [115,101,116],D.str [115,101,116],D.str [115,101,116]],.lst [D.str [106,117,109,112],D.str [119,104,101,110],D.str [119,104,101,110],D.str [116,101,108,108]],.lst ([D.str [112,117,116],D.str [112,117,116],D.str [97,100,100],D.str [115,117,98],D.str [109,111,114,101],D.str [103,101,116],D.str [103,101,116],D.str [103,101,116],D.str [115,101,116],D.str [115,101,116],D.str [115,101,116],D.str [115,101,116],D.str [106,117,109,112],D.str [119,104,101,110],D.str [119,104,101,110],D.str [116,101,108,108]])]) (d:=Zn .halt) ((head M).trans (by simp [Zw,sIf,Zak,hh,Zn]))).trans (Zhx rfl)
 ·obtain ⟨r,ok,hr⟩:=Znh cell A m (c / 16) v a b d q (many + 1) kd hv la lb ld lq hk
  refine ⟨r,ok,fun M=>?_⟩
  obtain ⟨M3,hM3⟩:∃ M3:Store,M3 = [.lst [D.str [112,117,116],D.str [112,117,116],D.str [97,100,100],D.str [115,117,98],D.str [109,111,114,101],D.str [103,101,116],D.str [103,101,116],D.str [103,101,116],D.str [115,101,116],D.str [115,101,116],D.str [115,101,116],D.str [115,101,116]],.lst [D.str [106,117,109,112],D.str [119,104,101,110],D.str [119,104,101,110],D.str [116,101,108,108]],.lst ([D.str [112,117,116],D.str [112,117,116],D.str [97,100,100],D.str [115,117,98],D.str [109,111,114,101],D.str [103,101,116],D.str [103,101,116],D.str [103,101,116],D.str [115,101,116],D.str [115,101,116],D.str [115,101,116],D.str [115,101,116],D.str [106,117,109,112],D.str [119,104,101,110],D.str [119,104,101,110],D.str [116,101,108,108]])]:=⟨_,rfl⟩
  have hd':=head M
  rw [← hM3] at hd'
  obtain ⟨G,hG⟩:=hr (some (.ref M.length)) (M ++ M3)
  refine (Zda (M':=M ++ (M3 ++ G)) (d:=Zn r) (hd'.trans ?_)).trans (Zhx (by cases r <;> rfl))
  rw [Zk (Zy (M':=M ++ M3) (by simp [hh]))]
  rw [Zk (Zag (M':=M ++ M3) (d:=.int a) (by simp [ha]))]
  rw [Zk (Zag (M':=M ++ M3) (d:=.int b) (by simp [hb]))]
  rw [Zk (Zag (M':=M ++ M3) (d:=.int d) (by simp [hd]))]
  rw [Zk (Zag (M':=M ++ M3) (d:=.int (A + 1 + c / 16 / 32 % (m - A))) (by simp [h1]))]
  rw [← List.append_assoc,← hG]
  refine Zk ?_
  by_cases z:c / 16 / 8 % 4 = 0
  ·rw [if_pos z] at hq
   rw [ZaM (M':=M ++ M3) (by simp [z])]
   exact Zag (d:=.int q) (by simp [p2,hq])
  ·rw [if_neg z] at hq
   rw [Zy (M':=M ++ M3) (by simp [z]),hq]
theorem Zpi (cell:Int) (j many:Nat) (hat:j < many) (hm:many ≤ 64):∃ r:Row,r.ok (many + 1) ∧ ∀ M,ZbM [.int cell,.int j,.int many] M = .ok (Zn r) M:=by
 obtain ⟨c,hc⟩:=Zk1 cell j (by omega) (by omega)
 exact ZnZ cell c j many many hc (by omega) (by omega) rfl
theorem Zos {n j:Nat} {v:D} {M:Store} {xs:List D} {i:Int} (h:M[n]? = some (.lst xs)) (hj:ixD xs.length i = some j):Zgj v (.ref n) (.int i) M = .ok .non (M.set n (.lst (xs.set j v))):=by simp only [Zgj,h,hj]
theorem Zr2 {op:D → D → D → Store → R3 D} {f g h:E3} {env:ZaE} {M M1 M2 M3 M4:Store} {a b c d:D} (h1:f env M = .ok a M1) (h2:g env M1 = .ok b M2) (h3:h env M2 = .ok c M3) (h4:op a b c M3 = .ok d M4):e3 op f g h env M = .ok d M4:=by simp only [e3,h1,h2,h3,h4,R3.bind]
theorem ZsO {a b:Int} {M:Store} (h:b < a):Zfk (.int a) (.int b) M = .ok (.bl true) M:=by simp only [Zfk,decide_eq_true h]
theorem Zj8 {d0 d1 d4:Option D} {last:Row} {rows:List Row} {n:Nat} {M:Store} (g:M[n]? = some (.lst (rows.map Zn))) (hz:rows.length ≤ 60):(Zak (Zas Za7 (Zb (e2 Zar (Za 2) (ZgS (Zb (Za 3) (Zg)))) (Zg)))) [d0,d1,some (.ref n),some (Zn last),d4] M = .rt (Zh (rows ++ [last])) (M ++ [.lst [Zn last],.lst ((rows ++ [last]).map Zn)]):=by
 have g':=ZcZ g [.lst [Zn last]]
 have z:rows.length + 1 ≤ 1000000:=by omega
 refine ZaO (Zd6 (Zai (a:=.ref n) (b:=.ref M.length) (M1:=M) (M2:=M ++ [.lst [Zn last]]) rfl (by simp) (M3:=M ++ [.lst [Zn last],.lst ((rows ++ [last]).map Zn)]) (d:=.ref (M ++ [MO.lst [Zn last]]).length) ?_) (ZiU ?_))
 ·simp only [Zar,g',Zb4]
  simp [z]
 ·rw [List.length_append]; exact ZaV _ _ 1
theorem ZoC (ns:List Int) (M:Store):∃ roll:ZaK,roll.length ≤ 61 ∧ Za0 roll ∧ Zdr [.scr (ns.map D.int)] M = .ok (Zh roll) M:=by
 have ecs:cutD (ns.map D.int) none (some 60) = (ns.take 60).map D.int:=by
  have:=Zgr (ns.map D.int) 60
  rw [← List.map_take] at this
  exact this
 generalize hcs:ns.take 60 = cs at ecs
 have lcs:cs.length ≤ 60:=by rw [← hcs]; simp; omega
 obtain ⟨rows,lr,hr,h4⟩:=ZkV (α:=Row) (enc:=Zn) (P:=fun _ r=>r.ok (cs.length + 1)) (it:=⟨Zc9 0 cs.length,none⟩) (i:=5) (n:=M.length + 1) (elt:=(Zac ZbM (Zb (e2 Ze (Za 1) (Za 5)) (Zb (Za 5) (Zb (Zas ZaY (Zb (Za 1) (Zg))) (Zg))))))
  (env0:=[some (.scr (ns.map D.int)),some (.ref M.length),none,none,none,none]) (env:=[some (.scr (ns.map D.int)),some (.ref M.length),none,none,none,none]) (ds:=Zc9 0 cs.length) (acc:=[]) (M:=M ++ [.lst (cs.map D.int),.lst []]) (fun _=>rfl)
  (fun d hd=>by
   obtain ⟨j,hj⟩:=List.getElem?_of_mem hd
   obtain ⟨rfl,lj⟩:=ZgZ hj
   obtain ⟨r,ok,h⟩:=Zpi cs[j] j cs.length lj (by omega)
   exact ⟨r,ok,fun x=>by
    have hM2:((M ++ [MO.lst (cs.map D.int),MO.lst []]).set (M.length + 1) (.lst x))[M.length]? = some (.lst (cs.map D.int)):=by
     rw [Zff]; simp
    generalize (M ++ [MO.lst (cs.map D.int),MO.lst []]).set (M.length + 1) (.lst x) = M2 at hM2
    have e1:(e2 Ze (Za 1) (Za 5)) [some (.scr (ns.map D.int)),some (.ref M.length),none,none,none,some (.int (j:Int))] M2 = .ok (.int cs[j]) M2:=by simp [lj,hM2]
    have e2:(Zas ZaY (Zb (Za 1) (Zg))) [some (.scr (ns.map D.int)),some (.ref M.length),none,none,none,some (.int (j:Int))] M2 = .ok (.int (cs.length:Int)) M2:=by simp [hM2]
    show Zac ZbM _ [some (.scr (ns.map D.int)),some (.ref M.length),none,none,none,some (.int (j:Int))] M2 = _
    exact Zcl e1 rfl e2 (h M2)⟩)
  (fun x=>rfl) (by rw [ZaV]; rfl) (by simp [ZgX]; omega)
 have lrows:rows.length = cs.length:=by rw [ZgX] at lr; exact lr
 have hrows:∀ x ∈ rows,x.ok (cs.length + 1):=fun x hx=>by
  obtain ⟨j,hj⟩:=List.getElem?_of_mem hx
  have:j < (Zc9 0 cs.length).length:=by rw [← lr]; exact (List.getElem?_eq_some_iff.mp hj).1
  exact hr j (Zc9 0 cs.length)[j] x (by simp [this]) hj
 have s1:(eSl (Za 0) (ZaW) (ZaX (eC (.int 60)))) [some (.scr (ns.map D.int)),none,none,none,none] M = .ok (.ref M.length) (M ++ [.lst (cs.map D.int)]):=by simp [ecs]
 have s2:(eLC (ZdD (Zas ZaY (Zb (Za 1) (Zg)))) 1 (Zcw 5) [] (Zac ZbM (Zb (e2 Ze (Za 1) (Za 5)) (Zb (Za 5) (Zb (Zas ZaY (Zb (Za 1) (Zg))) (Zg)))))) [some (.scr (ns.map D.int)),some (.ref M.length),none,none,none] (M ++ [.lst (cs.map D.int)]) = .ok (.ref (M.length + 1)) (M ++ [.lst (cs.map D.int),.lst (rows.map Zn)]):=by
  rw [ZkE (it:=⟨Zc9 0 cs.length,none⟩) (M':=M ++ [.lst (cs.map D.int)]) (by
   have:((cs.length:Int)) ≤ 1000000 ∧ -1000000 ≤ (cs.length:Int):=by omega
   simp [this])]
  have e:(M ++ [MO.lst (cs.map D.int)]).length = M.length + 1:=by simp
  rw [e,List.append_assoc]
  refine Eq.trans h4 ?_
  rw [Zff]; rfl
 have fin:∀ (rows':List Row) (last:Row),rows'.length = cs.length → (∀ x ∈ rows',x.ok (cs.length + 1)) → last.ok (cs.length + 1) → (last = .halt ∨ ∃ k,last = .jump k) → (∃ G,Zdo [some (.scr (ns.map D.int)),none,none,none,none] M = .rt (Zh (rows' ++ [last])) (M ++ G)) →
   ∃ roll:ZaK,roll.length ≤ 61 ∧ Za0 roll ∧ Zdr [.scr (ns.map D.int)] M = .ok (Zh roll) M:=fun rows' last l' ro lo ll ⟨G,h⟩=>by
  refine ⟨rows' ++ [last],by simp [l']; omega,⟨fun x hx=>?_,rows',last,rfl,ll⟩,Rt.pure h (ZkU _ _)⟩
  rw [List.length_append,List.length_singleton,l']
  rcases List.mem_append.mp hx with hx | hx
  ·exact ro x hx
  ·rw [List.mem_singleton.mp hx]; exact lo
 have pre:∀ {k:S3},Zdo = Zw (Zan 1 (eSl (Za 0) (ZaW) (ZaX (eC (.int 60))))) (Zw (Zan 2 (eLC (ZdD (Zas ZaY (Zb (Za 1) (Zg)))) 1 (Zcw 5) [] (Zac ZbM (Zb (e2 Ze (Za 1) (Za 5)) (Zb (Za 5) (Zb (Zas ZaY (Zb (Za 1) (Zg))) (Zg))))))) k) →
   Zdo [some (.scr (ns.map D.int)),none,none,none,none] M = k [some (.scr (ns.map D.int)),some (.ref M.length),some (.ref (M.length + 1)),none,none] (M ++ [.lst (cs.map D.int),.lst (rows.map Zn)]):=fun {k} e=>by
  rw [e,Zk (Zag s1),Zk (Zag s2)]
 have pre':=pre rfl
 rw [pre'] at fin
 clear pre pre' s1 s2 h4
 have g0:(M ++ [MO.lst (cs.map D.int),.lst (rows.map Zn)])[M.length]? = some (.lst (cs.map D.int)):=Zb4 _ _ _
 have g1:(M ++ [MO.lst (cs.map D.int),.lst (rows.map Zn)])[M.length + 1]? = some (.lst (rows.map Zn)):=ZaV _ _ 1
 by_cases hq:∃ p0:0 < cs.length,cs[0] % 4 = 1
 ·obtain ⟨p0,q1⟩:=hq
  obtain ⟨n,hn⟩:=Zk1 cs[0] 61 (by omega) (by omega)
  obtain ⟨a,ha,la⟩:=ZfM n cs.length p0
  obtain ⟨k,hk,lk⟩:=ZfM (n / 64) (cs.length + 1) (by omega)
  have hk':n / 64 % ((cs.length:Int) + 1) = k:=by rw [← hk]; rfl
  refine fin (rows.set a .halt) (.jump k) (by simp [lrows]) (fun x hx=>?_) lk (.inr ⟨k,rfl⟩) ⟨[.lst (cs.map D.int),.lst ((rows.set a .halt).map Zn),.lst [Zn (.jump k)],.lst ((rows.set a .halt ++ [Row.jump k]).map Zn)],?_⟩
  ·rcases List.mem_or_eq_of_mem_set hx with h | h
   ·exact hrows x h
   ·rw [h]; trivial
  ·have p0':(0:Int) < cs.length:=by omega
   have p1':(0:Int) < (cs.length:Int) + 1:=by omega
   have hg:Zbi (cs.map D.int) 0 = some (.int cs[0]):=by simp [p0]
   have i0:∀ d3 d4:Option D,(e2 Ze (Za 1) (eC (.int 0))) [some (.scr (ns.map D.int)),some (.ref M.length),some (.ref (M.length + 1)),d3,d4] (M ++ [.lst (cs.map D.int),.lst (rows.map Zn)]) = .ok (.int cs[0]) (M ++ [.lst (cs.map D.int),.lst (rows.map Zn)]):=fun d3 d4=>Zai rfl rfl (Zn2 g0 hg)
   have el:(rows.map Zn).length = cs.length:=by rw [List.length_map,lrows]
   have ej:ixD (rows.map Zn).length (n % ((rows.map Zn).length:Int)) = some a:=by rw [el,ha]; simp [la]
   have m1:(M ++ [MO.lst (cs.map D.int),.lst (rows.map Zn)]).set (M.length + 1) (.lst ((rows.map Zn).set a (Zn .halt))) = M ++ [.lst (cs.map D.int),.lst ((rows.set a .halt).map Zn)]:=by rw [Zff,List.map_set]; rfl
   have g2:(M ++ [MO.lst (cs.map D.int),.lst ((rows.set a .halt).map Zn)])[M.length + 1]? = some (.lst ((rows.set a .halt).map Zn)):=ZaV _ _ 1
   have el2:((rows.set a .halt).map Zn).length = cs.length:=by rw [List.length_map,List.length_set,lrows]
   refine (Zk (Zag (d:=Zn .halt) (Zdi rfl rfl))).trans ?_
   have pu:=ZeT (Zr2 (op:=Zgj) (f:=Za 3) (g:=Za 2) (h:=e2 Za3 (Za 4) (Zas ZaY (Zb (Za 2) (Zg)))) (env:=[some (.scr (ns.map D.int)),some (.ref M.length),some (.ref (M.length + 1)),some (Zn .halt),some (.int n)]) rfl rfl (Zai rfl (Zd6 rfl (ZfV g1)) (ZkN (by rw [el]; exact p0'))) (Zos g1 ej))
   rw [m1] at pu
   have jm:(ZaD (Zb (eC (.str [106,117,109,112])) (Zb (e2 Za3 (e2 Zbj (Za 4) (eC (.int 64))) (e2 Zar (Zas ZaY (Zb (Za 2) (Zg))) (eC (.int 1)))) (Zg)))) [some (.scr (ns.map D.int)),some (.ref M.length),some (.ref (M.length + 1)),some (Zn .halt),some (.int n)] (M ++ [.lst (cs.map D.int),.lst ((rows.set a .halt).map Zn)]) = .ok (Zn (.jump k)) (M ++ [.lst (cs.map D.int),.lst ((rows.set a .halt).map Zn)]):=by
    refine Zdi (ZdM rfl (ZdM (Zai (a:=.int (n / 64)) (b:=.int ((cs.length:Int) + 1)) (Zai rfl rfl (by simp)) (Zai (Zd6 rfl (ZfV g2)) rfl (by rw [el2]; rfl)) ?_) rfl)) rfl
    rw [← hk']; exact ZkN p1'
   refine (Zk ((ZaM ((ZfD (Zai (Zd6 rfl (ZfV g0)) rfl (ZsO (by rw [List.length_map]; exact p0')))).trans (Zai (Zai (i0 _ _) rfl (ZkN (by decide))) rfl (Zs2 q1)))).trans ((Zk (Zag (ZcA (i0 _ _) rfl (hn _)))).trans ((Zk pu).trans (Zag jm))))).trans ?_
   refine (Zj8 g2 (by rw [List.length_set,lrows]; exact lcs)).trans ?_
   simp
 ·have c1:(Zdx (e2 Zfk (Zas ZaY (Zb (Za 1) (Zg))) (eC (.int 0))) (e2 ZaF (e2 Za3 (e2 Ze (Za 1) (eC (.int 0))) (eC (.int 4))) (eC (.int 1)))) [some (.scr (ns.map D.int)),some (.ref M.length),some (.ref (M.length + 1)),some (Zn .halt),none] (M ++ [.lst (cs.map D.int),.lst (rows.map Zn)]) = .ok (.bl false) (M ++ [.lst (cs.map D.int),.lst (rows.map Zn)]):=by
   by_cases p0:0 < cs.length
   ·have p0':(0:Int) < cs.length:=by omega
    have q1:¬ cs[0] % 4 = 1:=fun h=>hq ⟨p0,h⟩
    simp [g0,p0',p0,q1]
   ·have p0':¬ (0:Int) < cs.length:=by omega
    simp [g0,p0',p0]
  refine fin rows .halt lrows hrows trivial (.inl rfl) ⟨[.lst (cs.map D.int),.lst (rows.map Zn),.lst [Zn .halt],.lst ((rows ++ [Row.halt]).map Zn)],?_⟩
  refine (Zk (Zag (d:=Zn .halt) (M':=M ++ [.lst (cs.map D.int),.lst (rows.map Zn)]) (by simp [Zn]))).trans ((Zk (Zy c1)).trans ?_)
  refine (Zj8 g1 (by rw [lrows]; exact lcs)).trans ?_
  simp
noncomputable def Zev (r:Row) (bs:List Int) (t:List (Int × Int)):List (Int × Int):=match r with
 | .set a b=>ZeK t (bs.getD a 0) (bs.getD b 0)
 | _=>t
theorem set_same {M:Store} {n:Nat} {o:MO} (h:M[n]? = some o):M.set n o = M:=by
 apply List.ext_getElem?
 intro j
 by_cases hj:j = n
 ·subst hj; rw [List.getElem?_set_self (List.getElem?_eq_some_iff.mp h).1,h]
 ·rw [List.getElem?_set_ne (Ne.symm hj)]
theorem Zna (r:Row) (p nb nt:Nat) (bs:List Int) (t:List (Int × Int)) (M:Store) (many:Nat) (g0:M[nb]? = some (.lst (bs.map D.int))) (g1:M[nt]? = some (.dct (Za4 t))) (hne:nb ≠ nt) (hb:bs.length = 8) (hr:r.ok many) (hl:t.length < 100000):
  ZbJ [Zn r,.int p,.ref nb,.ref nt] M = .ok (.int (r.place bs p)) ((M.set nb (.lst ((r.boxes bs t).map D.int))).set nt (.dct (Za4 (Zev r bs t)))):=by
 have z:(Za4 t).length < 1000000:=by rw [Za4,List.length_map]; omega
 have sb:M.set nb (.lst (bs.map D.int)) = M:=set_same g0
 have st:M.set nt (.dct (Za4 t)) = M:=set_same g1
 have sx:∀ x,(M.set nb x).set nt (.dct (Za4 t)) = M.set nb x:=fun x=>set_same (by rw [List.getElem?_set_ne hne]; exact g1)
 have fin:∀ {d:D} {bs':List Int},Ze4 [some (Zn r),some (.int (p:Int)),some (.ref nb),some (.ref nt),none] M = .rt d (M.set nb (.lst (bs'.map D.int))) →
   ZbJ [Zn r,.int p,.ref nb,.ref nt] M = .ok d ((M.set nb (.lst (bs'.map D.int))).set nt (.dct (Za4 t))):=fun {d bs'} h=>by rw [sx]; exact (Zda h).trans (Zdm (by simp))
 have gt:∀ {a:Nat} {x:Int},Zbi (bs.map D.int) (a:Int) = some (.int x) → Ze (.ref nb) (.int (a:Int)) M = .ok (.int x) M:=fun {a x} g=>by simp only [Ze,g0,g]
 have pl:∀ {w:List Nat} {i f:E3} {a:Nat} {v:Int},f [some (Zn r),some (.int (p:Int)),some (.ref nb),some (.ref nt),some (.str w)] M = .ok (.int v) M → i [some (Zn r),some (.int (p:Int)),some (.ref nb),some (.ref nt),some (.str w)] M = .ok (.int (a:Int)) M → a < 8 →
   ZfN (Za 2) i f [some (Zn r),some (.int (p:Int)),some (.ref nb),some (.ref nt),some (.str w)] M = .nx [some (Zn r),some (.int (p:Int)),some (.ref nb),some (.ref nt),some (.str w)] (M.set nb (.lst ((bs.set a v).map D.int))):=fun {w i f a v} h1 h2 ha=>by
  have hl8:a < (bs.map D.int).length:=by rw [List.length_map,hb]; exact ha
  simp only [ZfN,Za9,e3,h1,h2,R3.bind,Za,List.getElem?_cons_zero,List.getElem?_cons_succ,Zgj,g0,ZnT,if_pos hl8,List.map_set]
 have pre:∀ {w:List Nat} {o:O3} {k:S3},Ze (Zn r) (.int 0) M = .ok (.str w) M → k [some (Zn r),some (.int (p:Int)),some (.ref nb),some (.ref nt),some (.str w)] M = o → Zw (Zan 4 (e2 Ze (Za 0) (eC (.int 0)))) k [some (Zn r),some (.int (p:Int)),some (.ref nb),some (.ref nt),none] M = o:=fun {w o k} h1 h=>(Zk (Zag (Zai rfl rfl h1))).trans h
 cases r with
 | put a n=>exact fin (bs':=bs.set a n) (pre rfl ((Zk ((ZaM (M':=M) rfl).trans (pl (a:=a) rfl rfl hr))).trans rfl))
 | add a b c=>
  obtain ⟨x,hx,gx⟩:=Za8 hb hr.2.1; obtain ⟨y,hy,gy⟩:=Za8 hb hr.2.2
  simp only [Row.boxes,hx,hy]
  exact fin (pre rfl ((Zk ((Zbg (M':=M) rfl).trans ((ZaM (M':=M) rfl).trans (pl (a:=a) (v:=x + y) (Zai (Zai rfl (b:=.int (b:Int)) rfl (gt gx)) (Zai rfl (b:=.int (c:Int)) rfl (gt gy)) rfl) rfl hr.1)))).trans rfl))
 | sub a b c=>
  obtain ⟨x,hx,gx⟩:=Za8 hb hr.2.1; obtain ⟨y,hy,gy⟩:=Za8 hb hr.2.2
  simp only [Row.boxes,hx,hy]
  exact fin (pre rfl ((Zk ((Zbg (M':=M) rfl).trans ((Zbg (M':=M) rfl).trans ((ZaM (M':=M) rfl).trans (pl (a:=a) (v:=x - y) (Zai (Zai rfl (b:=.int (b:Int)) rfl (gt gx)) (Zai rfl (b:=.int (c:Int)) rfl (gt gy)) rfl) rfl hr.1))))).trans rfl))
 | more a b c=>
  obtain ⟨x,hx,gx⟩:=Za8 hb hr.2.1; obtain ⟨y,hy,gy⟩:=Za8 hb hr.2.2
  simp only [Row.boxes,hx,hy]
  have iv:Zis [.bl (decide (y < x))] M = .ok (.int (if y < x then 1 else 0)) M:=by
   by_cases q:y < x
   ·rw [decide_eq_true q,if_pos q]; rfl
   ·rw [decide_eq_false q,if_neg q]; rfl
  exact fin (pre rfl ((Zk ((Zbg (M':=M) rfl).trans ((Zbg (M':=M) rfl).trans ((Zbg (M':=M) rfl).trans ((ZaM (M':=M) rfl).trans (pl (a:=a) (Zd6 (Zai (Zai rfl (b:=.int (b:Int)) rfl (gt gx)) (Zai rfl (b:=.int (c:Int)) rfl (gt gy)) rfl) iv) rfl hr.1)))))).trans rfl))
 | get a b=>
  obtain ⟨x,hx,gx⟩:=Za8 hb hr.2
  simp only [Row.boxes,hx]
  have gv:(ZdV ZiL ZjW (Za 3) (Zb (e2 Ze (Za 2) (e2 Ze (Za 0) (eC (.int 2)))) (Zb (eC (.int 0)) (Zg)))) [some (Zn (.get a b)),some (.int (p:Int)),some (.ref nb),some (.ref nt),some (.str [103,101,116])] M = .ok (.int (Zcn t x)) M:=by
   have e1:(e2 Ze (Za 2) (e2 Ze (Za 0) (eC (.int 2)))) [some (Zn (.get a b)),some (.int (p:Int)),some (.ref nb),some (.ref nt),some (.str [103,101,116])] M = .ok (.int x) M:=Zai rfl (b:=.int (b:Int)) rfl (gt gx)
   generalize (e2 Ze (Za 2) (e2 Ze (Za 0) (eC (.int 2)))) = E at e1
   simp only [ZdV,Za,List.getElem?_cons_zero,List.getElem?_cons_succ,R3.bind,ZiL,g1,Zc2,Option.isSome_some,if_true,Zb,Zg,eC,e1,ZjW,ZeU,ZfJ]
  exact fin (pre rfl ((Zk ((Zbg (M':=M) rfl).trans ((Zbg (M':=M) rfl).trans ((Zbg (M':=M) rfl).trans ((Zbg (M':=M) rfl).trans ((ZaM (M':=M) rfl).trans (pl (a:=a) gv rfl hr.1))))))).trans rfl))
 | set a b=>
  obtain ⟨x,hx,gx⟩:=Za8 hb hr.1; obtain ⟨y,hy,gy⟩:=Za8 hb hr.2
  simp only [Row.boxes,Zev,hx,hy]
  rw [sb]
  have pd:Zlv (Za 3) (e2 Ze (Za 2) (e2 Ze (Za 0) (eC (.int 1)))) (e2 Ze (Za 2) (e2 Ze (Za 0) (eC (.int 2)))) [some (Zn (.set a b)),some (.int (p:Int)),some (.ref nb),some (.ref nt),some (.str [115,101,116])] M = .nx [some (Zn (.set a b)),some (.int (p:Int)),some (.ref nb),some (.ref nt),some (.str [115,101,116])] (M.set nt (.dct (Za4 (ZeK t x y)))):=by
   have e1:(e2 Ze (Za 2) (e2 Ze (Za 0) (eC (.int 1)))) [some (Zn (.set a b)),some (.int (p:Int)),some (.ref nb),some (.ref nt),some (.str [115,101,116])] M = .ok (.int x) M:=Zai rfl (b:=.int (a:Int)) rfl (gt gx)
   have e2':(e2 Ze (Za 2) (e2 Ze (Za 0) (eC (.int 2)))) [some (Zn (.set a b)),some (.int (p:Int)),some (.ref nb),some (.ref nt),some (.str [115,101,116])] M = .ok (.int y) M:=Zai rfl (b:=.int (b:Int)) rfl (gt gy)
   generalize (e2 Ze (Za 2) (e2 Ze (Za 0) (eC (.int 1)))) = E1 at e1
   generalize (e2 Ze (Za 2) (e2 Ze (Za 0) (eC (.int 2)))) = E2 at e2'
   simp only [Zlv,Za9,e3,e1,e2',R3.bind,Za,List.getElem?_cons_zero,List.getElem?_cons_succ,ZkC,g1,ZeU,if_pos z,Zjx]
  exact (Zda (pre rfl ((Zk ((Zbg (M':=M) rfl).trans ((Zbg (M':=M) rfl).trans ((Zbg (M':=M) rfl).trans ((Zbg (M':=M) rfl).trans ((Zbg (M':=M) rfl).trans ((ZaM (M':=M) rfl).trans pd))))))).trans rfl))).trans (Zdm (by simp))
 | jump k=>
  refine (Zda (M':=M) (d:=.int (k:Int)) (pre rfl (Zaw ((Zbg (M':=M) rfl).trans ((Zbg (M':=M) rfl).trans ((Zbg (M':=M) rfl).trans ((Zbg (M':=M) rfl).trans ((Zbg (M':=M) rfl).trans ((Zbg (M':=M) rfl).trans ((ZaM (M':=M) rfl).trans rfl)))))))))).trans ((Zdm rfl).trans ?_)
  simp only [Row.boxes,Zev,sb,st]; rfl
 | when a k=>
  obtain ⟨x,hx,gx⟩:=Za8 hb hr.1
  have cc:(eOr (e2 ZaF (Za 4) (eC (.str [106,117,109,112]))) (Zdx (e2 ZaF (Za 4) (eC (.str [119,104,101,110]))) (e2 Zfk (e2 Ze (Za 2) (e2 Ze (Za 0) (eC (.int 1)))) (eC (.int 0))))) [some (Zn (.when a k)),some (.int (p:Int)),some (.ref nb),some (.ref nt),some (.str [119,104,101,110])] M = .ok (.bl (decide (0 < x))) M:=(Zg4 (M1:=M) rfl).trans ((ZfD (M1:=M) rfl).trans (Zai (Zai rfl (b:=.int (a:Int)) rfl (gt gx)) rfl rfl))
  simp only [Row.boxes,Row.place,Zev,sb,st,hx]
  by_cases q:0 < x
  ·rw [decide_eq_true q] at cc
   rw [if_pos q]
   exact (Zda (M':=M) (d:=.int (k:Int)) (pre rfl (Zaw ((Zbg (M':=M) rfl).trans ((Zbg (M':=M) rfl).trans ((Zbg (M':=M) rfl).trans ((Zbg (M':=M) rfl).trans ((Zbg (M':=M) rfl).trans ((Zbg (M':=M) rfl).trans ((ZaM cc).trans rfl)))))))))).trans (Zdm rfl)
  ·rw [decide_eq_false q] at cc
   rw [if_neg q]
   exact (Zda (M':=M) (d:=.int ((p:Int) + 1)) (pre rfl ((Zk ((Zbg (M':=M) rfl).trans ((Zbg (M':=M) rfl).trans ((Zbg (M':=M) rfl).trans ((Zbg (M':=M) rfl).trans ((Zbg (M':=M) rfl).trans ((Zbg (M':=M) rfl).trans (Zy cc)))))))).trans rfl))).trans (Zdm rfl)
 | tell a=>
  refine (Zda (M':=M) (d:=.int ((p:Int) + 1)) rfl).trans ((Zdm rfl).trans ?_)
  simp only [Row.boxes,Zev,sb,st]; rfl
 | halt=>
  refine (Zda (M':=M) (d:=.int ((p:Int) + 1)) rfl).trans ((Zdm rfl).trans ?_)
  simp only [Row.boxes,Zev,sb,st]; rfl
theorem ZnJ (ns:List Int) (M:Store):∃ bs:List Int,bs.length = 8 ∧ ZdJ [.scr (ns.map D.int)] M = .ok (Zi bs) M:=by
 obtain ⟨e',M',hl,bs,x,y,lb,rfl,rfl⟩:=ZhH (it:=⟨Zc9 0 8,none⟩) (g:=Zcw 2)
  (body:=(Zw (Zan 3 (eC (.int 0))) (Zw (sIf (e2 Zfk (Zas ZaY (Zb (Za 0) (Zg))) (eC (.int 0))) (Zan 3 (e2 Ze (Za 0) (e2 Za3 (e2 Zar (e2 ZeP (eC (.int 5)) (Za 2)) (eC (.int 3))) (Zas ZaY (Zb (Za 0) (Zg)))))) (Zaa)) (Za9 (ZdV tyL Zbz (Za 1) (Zb (Zac ZaI (Zb (Zac Za2 (Zb (Za 3) (Zb (e2 Zar (eC (.int 100)) (Za 2)) (Zg)))) (Zg))) (Zg)))))))
  (P:=fun j env M'=>∃ (bs:List Int) (x y:Option D),bs.length = j ∧ env = [some (.scr (ns.map D.int)),some (.ref M.length),x,y] ∧ M' = M ++ [.lst (bs.map D.int)])
  (Zc9 0 8) 0 [some (.scr (ns.map D.int)),some (.ref M.length),none,none] (M ++ [.lst []]) ⟨[],none,none,rfl,rfl,rfl⟩ (fun _ _ _ _=>rfl)
  (fun k d hd env M' ⟨bs,x,y,lb,he,hm⟩=>by
   obtain ⟨rfl,lk⟩:=ZgZ hd
   subst he hm
   have key:∀ c:Int,∃ e' M',Za9 (ZdV tyL Zbz (Za 1) (Zb (Zac ZaI (Zb (Zac Za2 (Zb (Za 3) (Zb (e2 Zar (eC (.int 100)) (Za 2)) (Zg)))) (Zg))) (Zg))) [some (.scr (ns.map D.int)),some (.ref M.length),some (.int (k:Int)),some (.int c)] (M ++ [.lst (bs.map D.int)]) = .nx e' M' ∧
     ∃ (bs:List Int) (x y:Option D),bs.length = 0 + k + 1 ∧ e' = [some (.scr (ns.map D.int)),some (.ref M.length),x,y] ∧ M' = M ++ [.lst (bs.map D.int)]:=fun c=>by
    obtain ⟨v,hv⟩:=Zk1 c (100 + k) (by omega) (by omega)
    obtain ⟨w,hw⟩:=Zio v
    refine ⟨_,M ++ [.lst ((bs ++ [w]).map D.int)],ZeT (d:=.non) ?_,bs ++ [w],_,_,by simp [lb],rfl,rfl⟩
    have:(bs.length:Nat) < 1000000:=by omega
    simp [hv,hw,this]
   have m5:Zck 5 (k:Int) = true:=Zh2 (by omega)
   by_cases p0:0 < ns.length
   ·obtain ⟨a,ha,la⟩:=ZfM (5 * (k:Int) + 3) ns.length p0
    obtain ⟨e',M',h,hP⟩:=key ns[a]
    refine ⟨_,e',M',rfl,?_,hP⟩
    rw [← h]
    simp [Zw,Zan,sIf,p0,m5,ha,la]
   ·obtain ⟨e',M',h,hP⟩:=key 0
    refine ⟨_,e',M',rfl,?_,hP⟩
    rw [← h]
    simp [Zw,Zan,sIf,p0,Zaa])
 rw [ZgX] at lb
 refine ⟨bs,lb,Rt.pure (env:=[some (.scr (ns.map D.int)),none,none,none]) (G:=[.lst (bs.map D.int)]) ?_ (ZdT _ _)⟩
 refine (Zk (Zag (d:=.ref M.length) (M':=M ++ [.lst []]) (by simp))).trans ((Zk ((ZgV (it:=⟨Zc9 0 8,none⟩) (M':=M ++ [.lst []]) (by simp)).trans hl)).trans (ZaO ?_))
 simp [Zi]
theorem Zon (r:Row) (p:Nat) (bs:List Int) (t:List (Int × Int)) (A G:Store) (many:Nat) (hb:bs.length = 8) (hr:r.ok many) (hl:t.length < 100000):
  ZbJ [Zn r,.int p,.ref A.length,.ref (A.length + 1)] (A ++ .lst (bs.map D.int) :: .dct (Za4 t) :: G) = .ok (.int (r.place bs p)) (A ++ .lst ((r.boxes bs t).map D.int) :: .dct (Za4 (Zev r bs t)) :: G):=by
 rw [Zna r p A.length (A.length + 1) bs t _ many (Zb4 _ _ _) (ZaV _ _ 1) (by omega) hb hr hl]
 rw [show (A ++ MO.lst (bs.map D.int) :: .dct (Za4 t) :: G).set A.length (.lst ((r.boxes bs t).map D.int)) = A ++ .lst ((r.boxes bs t).map D.int) :: .dct (Za4 t) :: G from Zff A _ 0 _,Zff A _ 1 _]
 rfl
theorem Zkj {r:Row} {bs:List Int} {t:List (Int × Int)} (hk:keysOk t):r.boxes bs (ZaU t) = r.boxes bs t:=by cases r <;> first | exact rfl | simp [Row.boxes,Zmm hk]
theorem ZjQ {r:Row} {bs:List Int} {t:List (Int × Int)} (hk:keysOk t):r.cells bs (ZaU t) = ZaU (Zev r bs t):=by
 cases r <;> first | exact rfl | simp only [Row.cells,Zev]
 rw [ZlS hk]
theorem ZnS {r:Row} {bs:List Int} {t:List (Int × Int)} (hk:keysOk t):keysOk (Zev r bs t):=by
 cases r <;> simp only [Zev] <;> first | exact hk | exact Zfg _ _ hk
theorem Znk (t:List (Int × Int)) (n v:Int):(ZeK t n v).length ≤ t.length + 1:=by
 unfold ZeK; split <;> simp
theorem Zn7 (r:Row) (bs:List Int) (t:List (Int × Int)):(Zev r bs t).length ≤ t.length + 1:=by
 cases r <;> simp only [Zev] <;> first | omega | exact Znk _ _ _
noncomputable def Zd3:Row → List Nat
 | .put ..=>[112,117,116] | .add ..=>[97,100,100] | .sub ..=>[115,117,98] | .more ..=>[109,111,114,101] | .get ..=>[103,101,116] | .set ..=>[115,101,116] | .jump ..=>[106,117,109,112] | .when ..=>[119,104,101,110] | .tell ..=>[116,101,108,108] | .halt=>[104,97,108,116]
theorem Ze1 (r:Row) (M:Store):Ze (Zn r) (.int 0) M = .ok (.str (Zd3 r)) M:=by cases r <;> first | exact rfl | simp [Zn,Zd3]
theorem Zh0 (r:Row):r.isHalt = decide ((Zd3 r) = [104,97,108,116]):=by cases r <;> rfl
theorem Zm8 {c:E3} {body:S3} {n:Nat} {env e:ZaE} {M M1 M':Store} (h:c env M = .ok (.bl true) M1) (h':body env M1 = .nx e M'):Zea c body (n + 1) env M = Zea c body n e M':=by
 show (match c env M with | .ok (.bl true) M1=>_ | .ok (.bl false) M1=>_ | .exc x M1=>_ | _=>_) = _
 rw [h]; simp only [h']
theorem Zhs {c:E3} {body:S3} {n:Nat} {env:ZaE} {M M1:Store} (h:c env M = .ok (.bl false) M1):Zea c body (n + 1) env M = .nx env M1:=by
 show (match c env M with | .ok (.bl true) M1=>_ | .ok (.bl false) M1=>_ | .exc x M1=>_ | _=>_) = _
 rw [h]
theorem ZjS (r:Row):∃ nm,(r.isHalt = decide (nm = [104,97,108,116])) ∧ ∀ M,Ze (Zn r) (.int 0) M = .ok (.str nm) M:=⟨_,Zh0 r,Ze1 r⟩
theorem Zhy {roll:ZaK} {p:Nat} {r:Row} {M:Store} (h:roll[p]? = some r):Ze (Zh roll) (.int (p:Int)) M = .ok (Zn r) M:=Zn0 (by rw [Zdp,List.getElem?_map,h]; rfl)
theorem Zkg (roll:ZaK) (R:Za0 roll) (d1:D) (most:Nat) (A:Store) (hm:most ≤ 2001) (J:Nat → Stt → List (Int × Int) → Prop) (hJ:∀ k s t,J k s t → t.length ≤ 99999)
  (hS:∀ k s t r,J k s t → roll[s.place]? = some r → r.isHalt = false → k < most → J (k + 1) ⟨r.place s.boxes s.place,r.boxes s.boxes t,ZaU (Zev r s.boxes t)⟩ (Zev r s.boxes t)):
  ∀ (k:Nat) (pre:List Stt) (s:Stt) (t:List (Int × Int)) (fuel:Nat) (G:Store) (y:Option D),pre.length + k = most → k < fuel → Good roll s → keysOk t → s.cells = ZaU t → J pre.length s t →
  ∃ (p':Nat) (bs':List Int) (t':List (Int × Int)) (G':Store) (y':Option D),Zea (Zdx (e2 ZbE (e2 Ze (e2 Ze (Za 0) (Za 3)) (eC (.int 0))) (eC (.str [104,97,108,116]))) (e2 Zg6 (Zas ZaY (Zb (Za 6) (Zg))) (Za 2))) (Zw (Zan 3 (Zac ZbJ (Zb (e2 Ze (Za 0) (Za 3)) (Zb (Za 3) (Zb (Za 4) (Zb (Za 5) (Zg))))))) (Zw (Zan 7 (Zk2 (Za 5) 1 (Zcw 8) [e2 ZbE (e2 Zc6 (Za 5) (Za 8)) (eC (.int 0))] (ZaD (Zb (Za 8) (Zb (e2 Zc6 (Za 5) (Za 8)) (Zg)))))) (Za9 (ZdV tyL Zbz (Za 6) (Zb (ZaD (Zb (Za 3) (Zb (Zas Za7 (Zb (Za 4) (Zg))) (Zb (Zas Za7 (Zb (Zas Zbh (Zb (Za 7) (Zg))) (Zg))) (Zg))))) (Zg)))))) fuel
   [some (Zh roll),some d1,some (.int (most:Int)),some (.int (s.place:Int)),some (.ref A.length),some (.ref (A.length + 1)),some (.ref (A.length + 2)),y] (A ++ .lst (s.boxes.map D.int) :: .dct (Za4 t) :: .lst ((pre ++ [s]).map Zaf) :: G) =
   .nx [some (Zh roll),some d1,some (.int (most:Int)),some (.int (p':Int)),some (.ref A.length),some (.ref (A.length + 1)),some (.ref (A.length + 2)),y'] (A ++ .lst (bs'.map D.int) :: .dct (Za4 t') :: .lst ((pre ++ ZcO roll k s).map Zaf) :: G'):=by
 intro k
 induction k with
 | zero=>
  intro pre s t fuel G y hk hf g kt es hj
  cases fuel with
  | zero=>omega
  | succ fuel=>
   refine ⟨s.place,s.boxes,t,G,y,?_⟩
   have gp:=g.pl
   have hr:roll[s.place]? = some roll[s.place]:=by simp [g.pl]
   obtain ⟨nm,hn,hi⟩:=ZjS roll[s.place]
   generalize hM:A ++ MO.lst (s.boxes.map D.int) :: .dct (Za4 t) :: .lst ((pre ++ [s]).map Zaf) :: G = M
   have g2:M[A.length + 2]? = some (.lst ((pre ++ [s]).map Zaf)):=by rw [← hM]; exact ZaV _ _ 2
   have c0:(e2 Ze (e2 Ze (Za 0) (Za 3)) (eC (.int 0))) [some (Zh roll),some d1,some (.int (most:Int)),some (.int (s.place:Int)),some (.ref A.length),some (.ref (A.length + 1)),some (.ref (A.length + 2)),y] M = .ok (.str nm) M:=by
    exact Zai (Zai rfl rfl (Zhy hr)) rfl (hi M)
   by_cases hq:nm = [104,97,108,116]
   ·rw [Zhs (Zm1 (M1:=M) (Zai c0 rfl (Zo1 hq)))]; exact congrArg _ hM.symm
   ·have c2:(e2 Zg6 (Zas ZaY (Zb (Za 6) (Zg))) (Za 2)) [some (Zh roll),some d1,some (.int (most:Int)),some (.int (s.place:Int)),some (.ref A.length),some (.ref (A.length + 1)),some (.ref (A.length + 2)),y] M = .ok (.bl false) M:=by
     exact Zai (Zd6 rfl (ZfV g2)) rfl (ZsI (by rw [List.length_map,List.length_append,List.length_singleton]; omega))
    rw [Zhs ((ZfD (M1:=M) (Zai c0 rfl (ZrC hq))).trans c2)]; exact congrArg _ hM.symm
 | succ k ih=>
  intro pre s t fuel G y hk hf g kt es hj
  cases fuel with
  | zero=>omega
  | succ fuel=>
   have gp:=g.pl
   have hr:roll[s.place]? = some roll[s.place]:=by simp [g.pl]
   have ro:=R.rows _ (List.getElem_mem g.pl)
   obtain ⟨nm,hn,hi⟩:=ZjS roll[s.place]
   generalize hrr:roll[s.place] = r at hr ro hn hi
   have tl:=hJ _ _ _ hj
   generalize hM:A ++ MO.lst (s.boxes.map D.int) :: .dct (Za4 t) :: .lst ((pre ++ [s]).map Zaf) :: G = M
   have g2:M[A.length + 2]? = some (.lst ((pre ++ [s]).map Zaf)):=by rw [← hM]; exact ZaV _ _ 2
   have ci:∀ M,(e2 Ze (Za 0) (Za 3)) [some (Zh roll),some d1,some (.int (most:Int)),some (.int (s.place:Int)),some (.ref A.length),some (.ref (A.length + 1)),some (.ref (A.length + 2)),y] M = .ok (Zn r) M:=fun M=>Zai rfl rfl (Zhy hr)
   have c0:(e2 Ze (e2 Ze (Za 0) (Za 3)) (eC (.int 0))) [some (Zh roll),some d1,some (.int (most:Int)),some (.int (s.place:Int)),some (.ref A.length),some (.ref (A.length + 1)),some (.ref (A.length + 2)),y] M = .ok (.str nm) M:=Zai (ci M) rfl (hi M)
   by_cases hq:nm = [104,97,108,116]
   ·refine ⟨s.place,s.boxes,t,G,y,?_⟩
    rw [Zhs (Zm1 (M1:=M) (Zai c0 rfl (Zo1 hq)))]
    have:Zcs roll s = none:=by simp [Zcs,hr,Zfq,hn,hq]
    rw [Zmh k this,hM]
   ·have c2:(e2 Zg6 (Zas ZaY (Zb (Za 6) (Zg))) (Za 2)) [some (Zh roll),some d1,some (.int (most:Int)),some (.int (s.place:Int)),some (.ref A.length),some (.ref (A.length + 1)),some (.ref (A.length + 2)),y] M = .ok (.bl true) M:=by
     exact Zai (Zd6 rfl (ZfV g2)) rfl (Zsv (by rw [List.length_map,List.length_append,List.length_singleton]; omega))
    have cc:(Zdx (e2 ZbE (e2 Ze (e2 Ze (Za 0) (Za 3)) (eC (.int 0))) (eC (.str [104,97,108,116]))) (e2 Zg6 (Zas ZaY (Zb (Za 6) (Zg))) (Za 2))) [some (Zh roll),some d1,some (.int (most:Int)),some (.int (s.place:Int)),some (.ref A.length),some (.ref (A.length + 1)),some (.ref (A.length + 2)),y] M = .ok (.bl true) M:=(ZfD (M1:=M) (Zai c0 rfl (ZrC hq))).trans c2
    have nh:r.isHalt = false:=by rw [hn]; simp [hq]
    have st:Zcs roll s = some ⟨r.place s.boxes s.place,r.boxes s.boxes t,ZaU (Zev r s.boxes t)⟩:=by
     simp only [Zcs,hr,Option.bind_some,Zfq,nh,es,Zkj kt,ZjQ kt]; rfl
    have j':=hS _ _ _ r hj hr nh (by omega)
    have kt':=ZnS (r:=r) (bs:=s.boxes) kt
    have tl':=hJ _ _ _ j'
    have go:=Zon r s.place s.boxes t A (.lst ((pre ++ [s]).map Zaf) :: G) roll.length g.bx ro (by omega)
    rw [hM] at go
    have gd:=(Zgg R g st).1
    generalize r.place s.boxes s.place = p2 at *
    generalize r.boxes s.boxes t = bs2 at *
    generalize Zev r s.boxes t = t2 at *
    generalize hM2:A ++ MO.lst (bs2.map D.int) :: .dct (Za4 t2) :: .lst ((pre ++ [s]).map Zaf) :: G = M2 at go
    have k0:M2[A.length]? = some (.lst (bs2.map D.int)):=by rw [← hM2]; exact Zb4 _ _ _
    have k1:M2[A.length + 1]? = some (.dct (Za4 t2)):=by rw [← hM2]; exact ZaV _ _ 1
    have k2:M2[A.length + 2]? = some (.lst ((pre ++ [s]).map Zaf)):=by rw [← hM2]; exact ZaV _ _ 2
    have b1:(Zac ZbJ (Zb (e2 Ze (Za 0) (Za 3)) (Zb (Za 3) (Zb (Za 4) (Zb (Za 5) (Zg)))))) [some (Zh roll),some d1,some (.int (most:Int)),some (.int (s.place:Int)),some (.ref A.length),some (.ref (A.length + 1)),some (.ref (A.length + 2)),y] M = .ok (.int (p2:Int)) M2:=
     ZhA (ci M) rfl rfl rfl go
    have b2:=ZkS (i:=5) (env:=[some (Zh roll),some d1,some (.int (most:Int)),some (.int (p2:Int)),some (.ref A.length),some (.ref (A.length + 1)),some (.ref (A.length + 2)),y]) (t:=t2) (n:=A.length + 1) (own:=1) (M:=M2) (c:=e2 ZbE (e2 Zc6 (Za 5) (Za 8)) (eC (.int 0))) (elt:=ZaD (Zb (Za 8) (Zb (e2 Zc6 (Za 5) (Za 8)) (Zg)))) rfl k1 (by omega)
     (fun p hp M hM=>by
      have:=ZlG kt' hp hM
      have e:(e2 Zc6 (Za 5) (Za 8)) ([some (Zh roll),some d1,some (.int (most:Int)),some (.int (p2:Int)),some (.ref A.length),some (.ref (A.length + 1)),some (.ref (A.length + 2)),y,some (.int p.1)]) M = .ok (.int p.2) M:=Zai rfl rfl this
      exact (Zai e rfl (by simp)))
     (fun p hp M hM=>by
      have:=ZlG kt' hp hM
      have e:(e2 Zc6 (Za 5) (Za 8)) ([some (Zh roll),some d1,some (.int (most:Int)),some (.int (p2:Int)),some (.ref A.length),some (.ref (A.length + 1)),some (.ref (A.length + 2)),y,some (.int p.1)]) M = .ok (.int p.2) M:=Zai rfl rfl this
      generalize (e2 Zc6 (Za 5) (Za 8)) = E at e
      show ZaD (Zb (Za 8) (Zb E Zg)) [some (Zh roll),some d1,some (.int (most:Int)),some (.int (p2:Int)),some (.ref A.length),some (.ref (A.length + 1)),some (.ref (A.length + 2)),y,some (.int p.1)] M = _
      exact Zdi (ZdM rfl (ZdM e rfl)) rfl)
    have g9:(M2 ++ [MO.lst ((t2.filter fun p=>decide (p.2 ≠ 0)).map ZaL)])[M2.length]? = some (.lst ((t2.filter fun p=>decide (p.2 ≠ 0)).map ZaL)):=Zb4 _ _ _
    have so:=ZkX (e:=Za 7) (env:=[some (Zh roll),some d1,some (.int (most:Int)),some (.int (p2:Int)),some (.ref A.length),some (.ref (A.length + 1)),some (.ref (A.length + 2)),some (.ref M2.length)]) (M:=M2 ++ [MO.lst ((t2.filter fun p=>decide (p.2 ≠ 0)).map ZaL)]) (n:=M2.length) kt' tl' rfl g9
    generalize hM3:M2 ++ [MO.lst ((t2.filter fun p=>decide (p.2 ≠ 0)).map ZaL)] = M3 at b2 g9 so
    have k0':M3[A.length]? = some (.lst (bs2.map D.int)):=by rw [← hM3]; exact ZcZ k0 _
    have k2':M3[A.length + 2]? = some (.lst ((pre ++ [s]).map Zaf)):=by rw [← hM3]; exact ZcZ k2 _
    have ar:(ZaD (Zb (Za 3) (Zb (Zas Za7 (Zb (Za 4) (Zg))) (Zb (Zas Za7 (Zb (Zas Zbh (Zb (Za 7) (Zg))) (Zg))) (Zg))))) [some (Zh roll),some d1,some (.int (most:Int)),some (.int (p2:Int)),some (.ref A.length),some (.ref (A.length + 1)),some (.ref (A.length + 2)),some (.ref M2.length)] M3 = .ok (Zaf ⟨p2,bs2,ZaU t2⟩) (M3 ++ [.lst ((ZaU t2).map ZaL)]):=by
     have t1:Zas Za7 (Zb (Za 4) (Zg)) [some (Zh roll),some d1,some (.int (most:Int)),some (.int (p2:Int)),some (.ref A.length),some (.ref (A.length + 1)),some (.ref (A.length + 2)),some (.ref M2.length)] M3 = .ok (Zi bs2) M3:=Zd6 rfl (ZiU k0')
     have t2':Zas Za7 (Zb (Zas Zbh (Zb (Za 7) (Zg))) (Zg)) [some (Zh roll),some d1,some (.int (most:Int)),some (.int (p2:Int)),some (.ref A.length),some (.ref (A.length + 1)),some (.ref (A.length + 2)),some (.ref M2.length)] M3 = .ok (ZaR (ZaU t2)) (M3 ++ [.lst ((ZaU t2).map ZaL)]):=by
      exact Zd6 so (ZiU (Zb4 _ _ _))
     generalize Zas Za7 (Zb (Za 4) (Zg)) = E1 at t1
     generalize Zas Za7 (Zb (Zas Zbh (Zb (Za 7) (Zg))) (Zg)) = E2 at t2'
     exact Zdi (ZdM rfl (ZdM t1 (ZdM t2' rfl))) rfl
    have bd:=ZeT (Zgd (o:=Za 6) (arg:=(ZaD (Zb (Za 3) (Zb (Zas Za7 (Zb (Za 4) (Zg))) (Zb (Zas Za7 (Zb (Zas Zbh (Zb (Za 7) (Zg))) (Zg))) (Zg)))))) (env:=[some (Zh roll),some d1,some (.int (most:Int)),some (.int (p2:Int)),some (.ref A.length),some (.ref (A.length + 1)),some (.ref (A.length + 2)),some (.ref M2.length)]) (M:=M3) (M2:=M3 ++ [.lst ((ZaU t2).map ZaL)]) (n:=A.length + 2) (xs:=(pre ++ [s]).map Zaf) (ys:=(pre ++ [s]).map Zaf) (d:=Zaf ⟨p2,bs2,ZaU t2⟩) rfl k2' ar (ZcZ k2' _) (by simp; omega))
    obtain ⟨p',bs',t',G',y',h'⟩:=ih (pre ++ [s]) ⟨p2,bs2,ZaU t2⟩ t2 fuel (G ++ [MO.lst ((t2.filter fun p=>decide (p.2 ≠ 0)).map ZaL),.lst ((ZaU t2).map ZaL)]) (some (.ref M2.length)) (by simp; omega) (by omega) gd kt' rfl (by simpa using j')
    have e1:(M3 ++ [MO.lst ((ZaU t2).map ZaL)]).set (A.length + 2) (.lst ((pre ++ [s]).map Zaf ++ [Zaf ⟨p2,bs2,ZaU t2⟩])) = A ++ .lst (bs2.map D.int) :: .dct (Za4 t2) :: .lst ((pre ++ [s] ++ [(⟨p2,bs2,ZaU t2⟩:Stt)]).map Zaf) :: (G ++ [MO.lst ((t2.filter fun p=>decide (p.2 ≠ 0)).map ZaL),.lst ((ZaU t2).map ZaL)]):=by
     rw [← hM3,← hM2,List.append_assoc,List.append_assoc,Zff]
     simp
    refine ⟨p',bs',t',G',y',(Zm8 cc ((Zk (Zag (i:=3) b1)).trans ((Zk (Zag (i:=7) b2)).trans bd))).trans ?_⟩
    rw [e1]
    refine h'.trans ?_
    rw [Zmn k st]
    simp
theorem Zks (roll:ZaK) (R:Za0 roll) (bs:List Int) (most:Nat) (M:Store) (hm:most ≤ 2001) (hb:bs.length = 8) (J:Nat → Stt → List (Int × Int) → Prop) (hJ:∀ k s t,J k s t → t.length ≤ 99999)
  (hS:∀ k s t r,J k s t → roll[s.place]? = some r → r.isHalt = false → k < most → J (k + 1) ⟨r.place s.boxes s.place,r.boxes s.boxes t,ZaU (Zev r s.boxes t)⟩ (Zev r s.boxes t)) (h0:J 0 ⟨0,bs,[]⟩ []):
  ∃ n G,M.length ≤ n ∧ Zcr [Zh roll,Zi bs,.int (most:Int)] M = .ok (.ref n) (M ++ G) ∧ (M ++ G)[n]? = some (.lst ((ZcO roll most ⟨0,bs,[]⟩).map Zaf)):=by
 have pos:0 < roll.length:=by obtain ⟨q,x,e,_⟩:=R.last; rw [e]; simp
 obtain ⟨p',bs',t',G',y',lp⟩:=Zkg roll R (Zi bs) most M hm J hJ hS most [] ⟨0,bs,[]⟩ [] 1000000 [] none (by simp) (by omega) ⟨pos,hb,by simp [Zel]⟩ (by simp [keysOk]) rfl h0
 refine ⟨M.length + 2,.lst (bs'.map D.int) :: .dct (Za4 t') :: .lst (([] ++ ZcO roll most ⟨0,bs,[]⟩).map Zaf) :: G',by omega,?_,by rw [ZaV]; rfl⟩
 refine (Zda (env:=[some (Zh roll),some (Zi bs),some (.int (most:Int)),none,none,none,none,none]) (d:=.ref (M.length + 2)) (M':=M ++ .lst (bs'.map D.int) :: .dct (Za4 t') :: .lst (([] ++ ZcO roll most ⟨0,bs,[]⟩).map Zaf) :: G') ?_).trans (by simp [ZdB,below])
 refine (Zk (Zag (d:=.int 0) (M':=M) rfl)).trans ((Zk (Zag (d:=.ref M.length) (M':=M ++ [.lst (bs.map D.int)]) (by exact rfl))).trans ((Zk (Zag (d:=.ref (M.length + 1)) (M':=M ++ [.lst (bs.map D.int),.dct (Za4 [])]) (by simp [Za4]))).trans ((Zk (Zag (d:=.ref (M.length + 2)) (M':=M ++ [.lst (bs.map D.int),.dct (Za4 []),.lst (([] ++ [(⟨0,bs,[]⟩:Stt)]).map Zaf)]) (by simp [Zaf,Zi,ZaR]))).trans ((Zk (f:=ZkI _ _) lp).trans (ZaO rfl)))))
theorem Zmc (roll:ZaK) (R:Za0 roll) (bs:List Int) (most:Nat) (M:Store) (hm:most ≤ 2001) (hb:bs.length = 8):
  ∃ n G,M.length ≤ n ∧ Zcr [Zh roll,Zi bs,.int (most:Int)] M = .ok (.ref n) (M ++ G) ∧ (M ++ G)[n]? = some (.lst ((ZcO roll most ⟨0,bs,[]⟩).map Zaf)):=
 Zks roll R bs most M (by omega) hb (fun k _ t=>t.length ≤ k ∧ k ≤ most) (fun k s t h=>by omega) (fun k s t r h _ _ hk=>⟨by have:=Zn7 r s.boxes t; omega,by omega⟩) ⟨Nat.le_refl _,by omega⟩
structure Use where
 num:Int
 time:Int
 word:List Nat
 val:Int
noncomputable abbrev GET:List Nat:=[103,101,116]
noncomputable abbrev SET:List Nat:=[115,101,116]
noncomputable def Zx (u:Use):D:=.tup [.int u.num,.int u.time,.str u.word,.int u.val]
noncomputable def ZeI:Option Use → D
 | none=>.non
 | some u=>Zx u
theorem Zl5 (n:Nat) (u:Use):below n (Zx u) = true:=rfl
theorem Zgz (bs:List Int) (a:Nat) (v:Int) (M:Store) (ha:a < bs.length) (hl:bs.length ≤ 1000):ZbC [Zi bs,.int a,.int v] M = .ok (Zi (bs.set a v)) M:=by
 have h1:(e2 Zar (e2 Zar (eSl (Za 0) (ZaW) (ZaX (Za 1))) (ZaD (Zb (Za 2) (Zg)))) (eSl (Za 0) (ZaX (e2 Zar (Za 1) (eC (.int 1)))) (ZaW))) [some (Zi bs),some (.int a),some (.int v)] M = .ok (Zi (bs.set a v)) M:=by
  have c1:cutD (bs.map D.int) none (some (a:Int)) = (bs.take a).map D.int:=by rw [Zgr,List.map_take]
  have c2:cutD (bs.map D.int) (some ((a:Int) + 1)) none = (bs.drop (a + 1)).map D.int:=by
   rw [show ((a:Int) + 1) = ((a + 1:Nat):Int) by omega,ZnC,List.map_drop]
  have s1:eSl (Za 0) (ZaW) (ZaX (Za 1)) [some (Zi bs),some (.int a),some (.int v)] M = .ok (.tup ((bs.take a).map D.int)) M:=by
   simp only [eSl,Za,ZaW,ZaX,Zi,List.getElem?_cons_zero,List.getElem?_cons_succ,R3.bind,ZfP,c1]
  have s2:eSl (Za 0) (ZaX (e2 Zar (Za 1) (eC (.int 1)))) (ZaW) [some (Zi bs),some (.int a),some (.int v)] M = .ok (.tup ((bs.drop (a + 1)).map D.int)) M:=by
   simp only [eSl,e2,eC,Zar,Za,ZaW,ZaX,Zi,List.getElem?_cons_zero,List.getElem?_cons_succ,R3.bind,ZfP,c2]
  have s3:ZaD (Zb (Za 2) (Zg)) [some (Zi bs),some (.int a),some (.int v)] M = .ok (.tup [.int v]) M:=by simp
  have a1:Zar (.tup ((bs.take a).map D.int)) (.tup [.int v]) M = .ok (.tup ((bs.take a).map D.int ++ [.int v])) M:=by
   simp only [Zar]; rw [if_pos (by simp; omega)]
  refine (Zai (Zai s1 s3 a1) s2 ?_)
  simp only [Zar]
  rw [if_pos (by simp; omega),Zi,List.set_eq_take_append_cons_drop,if_pos ha]
  simp
 exact Rt.pure (G:=[]) (env:=[some (Zi bs),some (.int a),some (.int v)]) (by rw [List.append_nil]; exact ZaO h1) (ZdT _ _)
theorem ZhM (cs:List (Int × Int)) (n:Int) (M:Store) (h:keysOk cs) (hl:cs.length ≤ 5000):ZcP [ZaR cs,.int n] M = .ok (.int (Zcn cs n)) M:=by
 have h1:(ZdV ZiL ZjW (Zas ZgF (Zb (Za 0) (Zg))) (Zb (Za 1) (Zb (eC (.int 0)) (Zg)))) [some (ZaR cs),some (.int n)] M = .ok (.int (Zcn cs n)) (M ++ [.dct (dictOf (Za4 cs))]):=by
  have hz:(Za4 cs).length ≤ 100000:=by simp [Za4]; omega
  have b1:Zas ZgF (Zb (Za 0) (Zg)) [some (ZaR cs),some (.int n)] M = .ok (.ref M.length) (M ++ [.dct (dictOf (Za4 cs))]):=by
   refine Zd6 (a:=ZaR cs) (M1:=M) rfl ?_
   simp only [ZaR,ZgF,ZkT]
   rw [if_pos hz]; rfl
  simp only [ZdV,b1,R3.bind,ZiL,Zb,Za,eC,Zg,List.getElem?_cons_zero,List.getElem?_cons_succ]
  simp only [Zb4,Zc2,Option.isSome_some,if_true,ZjW,ZeU]
  rw [Zmd h]
 exact Rt.pure (env:=[some (ZaR cs),some (.int n)]) (ZaO h1) rfl
theorem ZhU (r:Row) (bs:List Int) (p many:Nat) (M:Store) (hb:bs.length = 8) (hr:r.ok many):Zb7 [Zn r,.int p,Zi bs] M = .ok (.int (r.place bs p)) M:=by
 refine Rt.pure (G:=[]) (env:=[some (Zn r),some (.int p),some (Zi bs)]) ?_ rfl
 rw [List.append_nil]
 cases r with
 | when a k=>
  obtain ⟨x,hx,gx⟩:=Za8 hb hr.1
  have g:Ze (Zi bs) (.int (a:Int)) M = .ok (.int x) M:=by simp only [Zi,Ze,gx]
  have cc:(Zdx (e2 ZaF (e2 Ze (Za 0) (eC (.int 0))) (eC (.str [119,104,101,110]))) (e2 Zfk (e2 Ze (Za 2) (e2 Ze (Za 0) (eC (.int 1)))) (eC (.int 0)))) [some (Zn (.when a k)),some (.int p),some (Zi bs)] M = .ok (.bl (decide (0 < x))) M:=(ZfD (M1:=M) rfl).trans (Zai (Zai (b:=.int (a:Int)) rfl rfl g) rfl rfl)
  have s0:(e2 ZaF (e2 Ze (Za 0) (eC (.int 0))) (eC (.str [106,117,109,112]))) [some (Zn (.when a k)),some (.int p),some (Zi bs)] M = .ok (.bl false) M:=rfl
  simp only [Row.place,hx]
  by_cases c:0 < x
  ·rw [decide_eq_true c] at cc
   rw [if_pos c]
   exact (Zk (Zy s0)).trans (Zaw ((ZaM cc).trans rfl))
  ·rw [decide_eq_false c] at cc
   rw [if_neg c]
   exact (Zk (Zy s0)).trans ((Zk (Zy cc)).trans rfl)
 | _=>rfl
theorem Zkt (x y:Int) (M:Store):Zb2 [.str [97,100,100],.int x,.int y] M = .ok (.int (x + y)) M:=by simp [Zb2,ZeO,Zw,Zan,Zak,sIf,Zaa,Za9,mkF,ZdB,below,belowL,Zck]
theorem Zk8 (x y:Int) (M:Store):Zb2 [.str [115,117,98],.int x,.int y] M = .ok (.int (x - y)) M:=by simp [Zb2,ZeO,Zw,Zan,Zak,sIf,Zaa,Za9,mkF,ZdB,below,belowL,Zck]
theorem Zkh (x y:Int) (M:Store):Zb2 [.str [109,111,114,101],.int x,.int y] M = .ok (.int (if y < x then 1 else 0)) M:=by
 by_cases c:y < x <;> simp [Zb2,ZeO,Zw,Zan,Zak,sIf,Zaa,Za9,mkF,ZdB,below,belowL,Zck,c]
theorem ZhN (r:Row) (bs:List Int) (cs:List (Int × Int)) (many:Nat) (M:Store) (hb:bs.length = 8) (hr:r.ok many) (hk:keysOk cs) (hl:cs.length ≤ 5000):ZdE [Zn r,Zi bs,ZaR cs] M = .ok (Zi (r.boxes bs cs)) M:=by
 have wb:∀ (a:Nat) (v:Int),a < 8 → ZbC [Zi bs,.int a,.int v] M = .ok (Zi (bs.set a v)) M:=fun a v ha=>Zgz bs a v M (by rw [hb]; exact ha) (by rw [hb]; decide)
 have cv:∀ (n:Int),ZcP [ZaR cs,.int n] M = .ok (.int (Zcn cs n)) M:=fun n=>ZhM cs n M hk hl
 have gt:∀ {a:Nat} {x:Int},Zbi (bs.map D.int) (a:Int) = some (.int x) → Ze (Zi bs) (.int (a:Int)) M = .ok (.int x) M:=fun {a x} g=>by simp only [Zi,Ze,g]
 have tp:∀ env,(ZaD (Zb (eC (.str [97,100,100])) (Zb (eC (.str [115,117,98])) (Zb (eC (.str [109,111,114,101])) (Zg))))) env M = .ok (.tup [.str [97,100,100],.str [115,117,98],.str [109,111,114,101]]) M:=fun env=>by simp
 refine Rt.pure (G:=[]) (env:=[some (Zn r),some (Zi bs),some (ZaR cs),none]) ?_ (ZdT _ _)
 rw [List.append_nil]
 have pre:∀ {w:List Nat} {o:O3} {k:S3},Ze (Zn r) (.int 0) M = .ok (.str w) M → k [some (Zn r),some (Zi bs),some (ZaR cs),some (.str w)] M = o → Zw (Zan 3 (e2 Ze (Za 0) (eC (.int 0)))) k [some (Zn r),some (Zi bs),some (ZaR cs),none] M = o:=fun {w o k} h1 h=>(Zk (Zag (Zai rfl rfl h1))).trans h
 have sk:∀ {w v:List Nat} {f k:S3} {o:O3},decide (w = v) = false → k [some (Zn r),some (Zi bs),some (ZaR cs),some (.str w)] M = o → Zw (sIf (e2 ZaF (Za 3) (eC (.str v))) f Zaa) k [some (Zn r),some (Zi bs),some (ZaR cs),some (.str w)] M = o:=fun {w v f k o} h1 h=>(Zk (Zy (M':=M) (Zai rfl rfl (by simp only [ZaF,eqD,h1])))).trans h
 have wk:∀ {w:List Nat} {a b c:Nat} {x y z:Int},Zn r = .tup [.str w,.int a,.int b,.int c] → Zb2 [.str w,.int x,.int y] M = .ok (.int z) M → a < 8 → Zbi (bs.map D.int) (b:Int) = some (.int x) → Zbi (bs.map D.int) (c:Int) = some (.int y) → Zi4 (.str w) (.tup [.str [97,100,100],.str [115,117,98],.str [109,111,114,101]]) M = .ok (.bl true) M →
   (Zw (sIf (e2 Zi4 (Za 3) (ZaD (Zb (eC (.str [97,100,100])) (Zb (eC (.str [115,117,98])) (Zb (eC (.str [109,111,114,101])) (Zg)))))) (Zak (Zac ZbC (Zb (Za 1) (Zb (e2 Ze (Za 0) (eC (.int 1))) (Zb (Zac Zb2 (Zb (Za 3) (Zb (e2 Ze (Za 1) (e2 Ze (Za 0) (eC (.int 2)))) (Zb (e2 Ze (Za 1) (e2 Ze (Za 0) (eC (.int 3)))) (Zg))))) (Zg)))))) (Zaa)) (Zak (Za 1))) [some (Zn r),some (Zi bs),some (ZaR cs),some (.str w)] M = .rt (Zi (bs.set a z)) M:=fun {w a b c x y z} he hw ha gx gy hin=>by
  rw [he]
  exact Zaw ((ZaM (Zai rfl (tp _) hin)).trans (ZaO (Zcl rfl (b:=.int (a:Int)) (M2:=M) rfl (Zcl rfl (Zai rfl (b:=.int (b:Int)) (M2:=M) rfl (gt gx)) (Zai rfl (b:=.int (c:Int)) (M2:=M) rfl (gt gy)) hw) (wb a z ha))))
 have no:∀ {w:List Nat},Ze (Zn r) (.int 0) M = .ok (.str w) M → decide (w = [112,117,116]) = false → decide (w = [103,101,116]) = false → Zi4 (.str w) (.tup [.str [97,100,100],.str [115,117,98],.str [109,111,114,101]]) M = .ok (.bl false) M → Zex [some (Zn r),some (Zi bs),some (ZaR cs),none] M = .rt (Zi bs) M:=fun {w} h1 h2 h3 h4=>
  pre h1 (sk h2 (sk h3 ((Zk (Zy (Zai rfl (tp _) h4))).trans rfl)))
 cases r with
 | put a n=>exact pre rfl (Zaw ((ZaM (M':=M) rfl).trans (ZaO (Zcl rfl rfl rfl (wb a n hr)))))
 | get a b=>
  obtain ⟨x,hx,gx⟩:=Za8 hb hr.2
  simp only [Row.boxes,hx]
  exact pre rfl (sk rfl (Zaw ((ZaM (M':=M) rfl).trans (ZaO (Zcl rfl (b:=.int (a:Int)) (M2:=M) rfl (ZcA rfl (Zai rfl (b:=.int (b:Int)) (M2:=M) rfl (gt gx)) (cv x)) (wb a _ hr.1))))))
 | add a b c=>
  obtain ⟨x,hx,gx⟩:=Za8 hb hr.2.1
  obtain ⟨y,hy,gy⟩:=Za8 hb hr.2.2
  simp only [Row.boxes,hx,hy]
  exact pre rfl (sk rfl (sk rfl (wk rfl (Zkt x y M) hr.1 gx gy rfl)))
 | sub a b c=>
  obtain ⟨x,hx,gx⟩:=Za8 hb hr.2.1
  obtain ⟨y,hy,gy⟩:=Za8 hb hr.2.2
  simp only [Row.boxes,hx,hy]
  exact pre rfl (sk rfl (sk rfl (wk rfl (Zk8 x y M) hr.1 gx gy rfl)))
 | more a b c=>
  obtain ⟨x,hx,gx⟩:=Za8 hb hr.2.1
  obtain ⟨y,hy,gy⟩:=Za8 hb hr.2.2
  simp only [Row.boxes,hx,hy]
  exact pre rfl (sk rfl (sk rfl (wk rfl (Zkh x y M) hr.1 gx gy rfl)))
 | _=>exact no rfl rfl rfl rfl
noncomputable def ZbD (p:Int) (bs:List Int):D:=.tup [.int p,Zi bs]
theorem ZfS (a b:Int) (M:Store):Zbw [.int a,.int b] M = .ok (.bl (decide (0 ≤ a) && decide (a < b))) M:=by
 by_cases h:0 ≤ a <;> simp [Zbw,ZeR,Zw,Zan,Zak,sIf,Zaa,Za9,mkF,ZdB,below,belowL,Zck,h]
theorem Zie (roll:ZaK) (p:Int) (M:Store):Zcv [Zh roll,.int p] M = .ok (if 0 ≤ p ∧ p < roll.length then (match roll[p.toNat]? with | some r=>Zn r | none=>.non) else .non) M:=by
 have w:=ZfS p roll.length M
 have e1:Zac Zbw (Zb (Za 1) (Zb (Zas ZaY (Zb (Za 0) (Zg))) (Zg))) [some (Zh roll),some (.int p)] M = .ok (.bl (decide (0 ≤ p) && decide (p < roll.length))) M:=ZcA rfl (by simp [Zh]) w
 by_cases h:0 ≤ p ∧ p < roll.length
 ·rw [if_pos h]
  obtain ⟨k,rfl⟩:=Int.eq_ofNat_of_zero_le h.1
  have hk:k < roll.length:=by omega
  have e2:(e2 Ze (Za 0) (Za 1)) [some (Zh roll),some (.int (k:Int))] M = .ok (Zn roll[k]) M:=by simp [Zh,hk]
  have hb:below M.length (Zn roll[k]) = true:=by cases roll[k] <;> rfl
  refine (Rt.pure (G:=[]) (env:=[some (Zh roll),some (.int (k:Int))]) (d:=Zn roll[k]) ?_ hb).trans (by simp [hk])
  rw [List.append_nil]
  refine ZaO ((Zpd (M1:=M) ?_).trans e2)
  rw [e1]; simp [hk]
 ·rw [if_neg h]
  refine Rt.pure (G:=[]) (env:=[some (Zh roll),some (.int p)]) ?_ rfl
  rw [List.append_nil]
  refine ZaO ((Zpa (M1:=M) ?_).trans rfl)
  rw [e1]
  have:(decide (0 ≤ p) && decide (p < roll.length)) = false:=by
   rw [← Bool.decide_and]; exact decide_eq_false h
  rw [this]
theorem Zii:∀ a b:List Int,Zb1 (a.map D.int) (b.map D.int) = decide (a = b)
 | [],[]=>by exact rfl
 | [],_ :: _=>by exact rfl
 | _ :: _,[]=>by exact rfl
 | x :: a,y :: b=>by
  simp only [List.map_cons,Zb1,deq,Zii a b,List.cons.injEq,Bool.decide_and]
  rfl
theorem ZjA (a b:List Int):deq (Zi a) (Zi b) = decide (a = b):=by
 simp only [Zi,deq]; exact Zii a b
noncomputable def Zdz (r:Row) (bs bs':List Int):List Int:=match r with
 | .get a _=>bs.set a (bs'.getD a 0)
 | r=>r.boxes bs []
noncomputable def Zkc (roll:ZaK) (p:Int) (bs:List Int) (p':Int) (bs':List Int):Bool:=if 0 ≤ p ∧ p < roll.length then (match roll[p.toNat]? with
 | some r=>if r.isHalt then false else decide (p' = (r.place bs p.toNat:Nat)) && decide (bs' = Zdz r bs bs')
 | none=>false) else false
theorem ZgJ (r:Row) (bs bs':List Int) (many:Nat) (M:Store) (hr:r.ok many) (hb:bs.length = 8) (hb':bs'.length = 8):Zbo [Zn r,Zi bs,Zi bs'] M = .ok (Zi (Zdz r bs bs')) M:=by
 have other:(∀ a b,r ≠ .get a b) → Zbo [Zn r,Zi bs,Zi bs'] M = .ok (Zi (r.boxes bs [])) M:=fun hg=>by
  have nb:=ZhN r bs [] many M hb hr (by simp [keysOk]) (by simp)
  refine Rt.pure (G:=[]) (env:=[some (Zn r),some (Zi bs),some (Zi bs')]) ?_ (ZdT _ _)
  rw [List.append_nil]
  refine (Zk (Zy (M':=M) ?_)).trans (ZaO (Zcl (c:=ZaR []) rfl rfl (by simp [ZaR]) nb))
  cases r <;> first | exact rfl | simp [Zn] <;> exact absurd rfl (hg _ _)
 cases r with
 | get a b=>
  obtain ⟨x,hx,gx⟩:=Za8 hb' hr.1
  have wb:=Zgz bs a x M (by rw [hb]; exact hr.1) (by omega)
  refine Rt.pure (G:=[]) (env:=[some (Zn (.get a b)),some (Zi bs),some (Zi bs')]) ?_ (ZdT _ _)
  rw [List.append_nil]
  simp only [Zdz,hx]
  refine Zaw ((ZaM (M':=M) (by exact rfl)).trans (ZaO (Zcl (a:=Zi bs) (b:=.int (a:Int)) (c:=.int x) (M1:=M) (M2:=M) (M3:=M) rfl (by exact rfl) ?_ wb)))
  simp [Zn,Zi,-Zfd,gx]
 | _=>exact other (fun a b h=>by cases h)
theorem Zjd (roll:ZaK) (R:Za0 roll) (p:Int) (bs:List Int) (p':Int) (bs':List Int) (M:Store) (hb:bs.length = 8) (hb':bs'.length = 8):
  ZcK [Zh roll,ZbD p bs,ZbD p' bs'] M = .ok (.bl (Zkc roll p bs p' bs')) M:=by
 have ra:=Zie roll p M
 refine Rt.pure (G:=[]) (env:=[some (Zh roll),some (ZbD p bs),some (ZbD p' bs'),none,none,none]) ?_ rfl
 rw [List.append_nil]
 refine (Zk (Zag (d:=.int p) (M':=M) (by exact rfl))).trans ((Zk (Zag (d:=Zi bs) (M':=M) (by exact rfl))).trans ((Zk (Zag (ZcA rfl rfl ra))).trans ?_))
 unfold Zkc
 by_cases h:0 ≤ p ∧ p < roll.length
 ·rw [if_pos h,if_pos h]
  obtain ⟨k,rfl⟩:=Int.eq_ofNat_of_zero_le h.1
  have hk:k < roll.length:=by omega
  have hr:roll[k]? = some roll[k]:=by simp [hk]
  have ro:=R.rows _ (List.getElem_mem hk)
  simp only [Int.ofNat_eq_natCast,Int.toNat_natCast,hr]
  generalize roll[k] = r at hr ro
  by_cases hh:r.isHalt = true
  ·rw [if_pos hh]
   have:r = .halt:=by cases r <;> simp at hh ⊢
   subst this
   exact Zaw ((ZaM (M':=M) (by exact rfl)).trans rfl)
  ·rw [if_neg hh]
   have np:=ZhU r bs k roll.length M hb ro
   have bb:=ZgJ r bs bs' roll.length M ro hb hb'
   have hp1:Zax DEEP (.int p') = true:=ZeM _ _
   have hp2:Zax DEEP (Zi bs') = true:=Zgk _ _
   have hp3:Zax DEEP (Zi (Zdz r bs bs')) = true:=Zgk _ _
   have hp4:Zax DEEP (.int ((r.place bs k:Nat):Int)) = true:=ZeM _ _
   refine (Zk (Zy (M':=M) ?_)).trans (ZaO ?_)
   ·cases r <;> first | exact rfl | simp [Zn] at hh ⊢
   ·refine Zai (a:=ZbD p' bs') (b:=ZbD (r.place bs k:Nat) (Zdz r bs bs')) (M1:=M) (M2:=M) rfl ?_ ?_
    ·have x1:Zac Zb7 (Zb (Za 5) (Zb (Za 3) (Zb (Za 4) (Zg)))) [some (Zh roll),some (ZbD (k:Int) bs),some (ZbD p' bs'),some (.int (k:Int)),some (Zi bs),some (Zn r)] M = .ok (.int ((r.place bs k:Nat):Int)) M:=Zcl rfl rfl rfl np
     have x2:Zac Zbo (Zb (Za 5) (Zb (Za 4) (Zb (e2 Ze (Za 2) (eC (.int 1))) (Zg)))) [some (Zh roll),some (ZbD (k:Int) bs),some (ZbD p' bs'),some (.int (k:Int)),some (Zi bs),some (Zn r)] M = .ok (Zi (Zdz r bs bs')) M:=Zcl rfl rfl (by exact rfl) bb
     generalize Zac Zb7 (Zb (Za 5) (Zb (Za 3) (Zb (Za 4) (Zg)))) = E1 at x1
     generalize Zac Zbo (Zb (Za 5) (Zb (Za 4) (Zb (e2 Ze (Za 2) (eC (.int 1))) (Zg)))) = E2 at x2
     simp only [ZaD,Zb,Zg,R3.bind,x1,x2]
     simp [ZbD]
    ·have hd:Zb1 [.int p',Zi bs'] [.int ((r.place bs k:Nat):Int),Zi (Zdz r bs bs')] = (decide (p' = ((r.place bs k:Nat):Int)) && decide (bs' = Zdz r bs bs')):=by
      simp only [Zb1,deq,ZjA,Bool.and_true]
      rfl
     simp only [ZaF,eqD,ZbD,List.all_cons,List.all_nil,hp1,hp2,hp3,hp4,Bool.and_self,if_true,hd]
 ·rw [if_neg h,if_neg h]
  exact Zaw ((ZaM (M':=M) (by exact rfl)).trans rfl)
noncomputable def Zgv (a:Option Use) (r:Use):Bool:=match a with
 | none=>decide (r.word ≠ GET) || decide (r.val = 0)
 | some a=>if r.num < a.num ∨ (r.num = a.num ∧ r.time ≤ a.time) then false else if r.word ≠ GET then true else if a.num = r.num then decide (r.val = a.val) else decide (r.val = 0)
theorem Zju (a:Option Use) (r:Use) (M:Store) (c:Bool) (v:Int) (h1:(Zdx (e2 Zcf (Za 0) (eC .non)) (e2 ZaF (e2 Ze (Za 0) (eC (.int 0))) (e2 Ze (Za 1) (eC (.int 0))))) [some (ZeI a),some (Zx r),none] M = .ok (.bl c) M) (h2:(eIf (Za 2) (e2 Ze (Za 0) (eC (.int 3))) (eC (.int 0))) [some (ZeI a),some (Zx r),some (.bl c)] M = .ok (.int v) M):
  (Zw (sIf (e2 ZbE (e2 Ze (Za 1) (eC (.int 2))) (eC (.str [103,101,116]))) (Zak (eC (.bl true))) (Zaa)) (Zw (Zan 2 (Zdx (e2 Zcf (Za 0) (eC .non)) (e2 ZaF (e2 Ze (Za 0) (eC (.int 0))) (e2 Ze (Za 1) (eC (.int 0)))))) (Zak (e2 ZaF (e2 Ze (Za 1) (eC (.int 3))) (eIf (Za 2) (e2 Ze (Za 0) (eC (.int 3))) (eC (.int 0))))))) [some (ZeI a),some (Zx r),none] M = .rt (.bl (decide (r.word ≠ GET) || decide (r.val = v))) M:=by
 have c2:(e2 ZbE (e2 Ze (Za 1) (eC (.int 2))) (eC (.str [103,101,116]))) [some (ZeI a),some (Zx r),none] M = .ok (.bl (!decide (r.word = GET))) M:=Zai (a:=.str r.word) rfl rfl rfl
 by_cases h:r.word = GET
 ·rw [decide_eq_true h] at c2
  refine (Zk (Zy c2)).trans ((Zk (Zag h1)).trans (ZaO (Zai (a:=.int r.val) rfl h2 ?_)))
  rw [decide_eq_false (fun z=>z h)]; rfl
 ·rw [decide_eq_false h] at c2
  refine Zaw ((ZaM c2).trans ?_)
  rw [decide_eq_true h]; rfl
theorem Zj1 (a:Option Use) (r:Use) (M:Store):ZcC [ZeI a,Zx r] M = .ok (.bl (Zgv a r)) M:=by
 refine Rt.pure (G:=[]) (env:=[some (ZeI a),some (Zx r),none]) ?_ rfl
 rw [List.append_nil]
 cases a with
 | none=>exact (Zk (Zy (M':=M) rfl)).trans (Zju none r M false 0 rfl rfl)
 | some a=>
  have c1:(Zdx (e2 Zcf (Za 0) (eC .non)) (e2 Zlt (eSl (Za 1) (ZaW) (ZaX (eC (.int 2)))) (eSl (Za 0) (ZaW) (ZaX (eC (.int 2)))))) [some (ZeI (some a)),some (Zx r),none] M = .ok (.bl (decide (r.num < a.num) || (decide (r.num = a.num) && decide (r.time ≤ a.time)))) M:=rfl
  have c3:(Zdx (e2 Zcf (Za 0) (eC .non)) (e2 ZaF (e2 Ze (Za 0) (eC (.int 0))) (e2 Ze (Za 1) (eC (.int 0))))) [some (ZeI (some a)),some (Zx r),none] M = .ok (.bl (decide (a.num = r.num))) M:=rfl
  simp only [Zgv]
  by_cases h:r.num < a.num ∨ (r.num = a.num ∧ r.time ≤ a.time)
  ·rw [show (decide (r.num < a.num) || (decide (r.num = a.num) && decide (r.time ≤ a.time))) = true by simpa using h] at c1
   rw [if_pos h]
   exact Zaw (ZaM c1)
  ·rw [show (decide (r.num < a.num) || (decide (r.num = a.num) && decide (r.time ≤ a.time))) = false by simpa using h] at c1
   rw [if_neg h]
   refine (Zk (Zy c1)).trans ((Zju (some a) r M (decide (a.num = r.num)) (if a.num = r.num then a.val else 0) c3 ?_).trans ?_)
   ·by_cases z:a.num = r.num
    ·rw [decide_eq_true z,if_pos z]; rfl
    ·rw [decide_eq_false z,if_neg z]; rfl
   ·by_cases w:r.word ≠ GET
    ·rw [if_pos w,decide_eq_true w]; rfl
    ·rw [if_neg w,decide_eq_false w]
     split <;> rfl
noncomputable def Zfl (roll:ZaK) (p:Int):Option Row:=if 0 ≤ p ∧ p < roll.length then roll[p.toNat]? else none
noncomputable def Zia:Option Row → D
 | none=>.non
 | some r=>Zn r
theorem ZhG (roll:ZaK) (p:Int) (M:Store):Zcv [Zh roll,.int p] M = .ok (Zia (Zfl roll p)) M:=by
 rw [Zie]
 unfold Zfl
 by_cases h:0 ≤ p ∧ p < roll.length
 ·rw [if_pos h,if_pos h]
  cases roll[p.toNat]? <;> rfl
 ·rw [if_neg h,if_neg h]; rfl
theorem Zoj {roll:ZaK} (R:Za0 roll) {p:Int} {r:Row} (h:Zfl roll p = some r):r.ok roll.length:=by
 unfold Zfl at h
 split at h
 ·exact R.rows _ (List.mem_of_getElem? h)
 ·cases h
noncomputable abbrev Stp:=Int × List Int
noncomputable def ZcM (s:Stp):D:=ZbD s.1 s.2
noncomputable def Zbd (ts:List Stp):D:=.tup (ts.map ZcM)
noncomputable def Zgb (o:Option Row) (bs bs':List Int) (u:Use):Bool:=match o with
 | some (.get a b)=>decide (u.word = GET) && decide (u.num = bs.getD b 0) && decide (u.val = bs'.getD a 0)
 | some (.set a b)=>decide (u.word = SET) && decide (u.num = bs.getD a 0) && decide (u.val = bs.getD b 0)
 | _=>false
noncomputable def ZdY (roll:ZaK) (ts:List Stp) (u:Use):Bool:=if 0 ≤ u.time ∧ u.time + 1 < ts.length then (match ts[u.time.toNat]?,ts[u.time.toNat + 1]? with
 | some s,some s'=>Zgb (Zfl roll s.1) s.2 s'.2 u
 | _,_=>false) else false
noncomputable def ZfH:Row → Bool
 | .get ..=>true
 | .set ..=>true
 | _=>false
theorem ZlR (r:Row):(∃ a b,r = .get a b) ∨ (∃ a b,r = .set a b) ∨ (ZfH r = false ∧ ∀ bs bs' u,Zgb (some r) bs bs' u = false):=by
 cases r with
 | get a b=>exact .inl ⟨a,b,rfl⟩
 | set a b=>exact .inr (.inl ⟨a,b,rfl⟩)
 | _=>exact .inr (.inr ⟨rfl,fun _ _ _=>rfl⟩)
theorem Zfa (r:Row) (M:Store):Zb3 [Zn r] M = .ok (.bl (ZfH r)) M:=by
 have e:ZfH r = ([103,101,116] == Zd3 r || [115,101,116] == Zd3 r):=by cases r <;> rfl
 refine (Zda (env:=[some (Zn r)]) (M':=M) (d:=.bl (ZfH r)) (ZaO (Zai (Zai rfl rfl (Ze1 r M)) (Zdi rfl rfl) ?_))).trans (Zdm rfl)
 rw [e]
 simp [inD,Zbt,deq]
theorem ZgR (a b:Nat) (bs:List Int) (M:Store) (hb:bs.length = 8) (lb:b < 8):ZaZ [Zn (.get a b),Zi bs] M = .ok (.int (bs.getD b 0)) M:=by
 obtain ⟨x,hx,gx⟩:=Za8 hb lb
 rw [hx]
 simp [ZaZ,Zdh,Zw,Zan,Zak,sIf,Zaa,Za9,mkF,ZdB,below,belowL,Zck,Zn,Zi,-Zfd,gx]
theorem ZgN (a b:Nat) (bs:List Int) (M:Store) (hb:bs.length = 8) (la:a < 8):ZaZ [Zn (.set a b),Zi bs] M = .ok (.int (bs.getD a 0)) M:=by
 obtain ⟨x,hx,gx⟩:=Za8 hb la
 rw [hx]
 simp [ZaZ,Zdh,Zw,Zan,Zak,sIf,Zaa,Za9,mkF,ZdB,below,belowL,Zck,Zn,Zi,-Zfd,gx]
noncomputable abbrev ZgH (roll:ZaK) (ts:List Stp) (n:Int) (k:Nat) (w:List Nat) (v:Int) (bs:List Int) (o:Option Row):ZaE:=[some (Zh roll),some (Zbd ts),some (Zx ⟨n,(k:Int),w,v⟩),some (.int (k:Int)),some (Zi bs),some (Zia o)]
theorem Zhh (roll:ZaK) (R:Za0 roll) (ts:List Stp) (h8:∀ s ∈ ts,s.2.length = 8) (u:Use) (M:Store):
  ZbB [Zh roll,Zbd ts,Zx u] M = .ok (.bl (ZdY roll ts u)) M:=by
 obtain ⟨n,t,w,v⟩:=u
 have iw:=ZfS t ((ts.length:Int) - 1) M
 refine Rt.pure (G:=[]) (env:=[some (Zh roll),some (Zbd ts),some (Zx ⟨n,t,w,v⟩),none,none,none]) ?_ rfl
 rw [List.append_nil]
 have c0:Zac Zbw (Zb (Za 3) (Zb (e2 Zds (Zas ZaY (Zb (Za 1) (Zg))) (eC (.int 1))) (Zg))) [some (Zh roll),some (Zbd ts),some (Zx ⟨n,t,w,v⟩),some (.int t),none,none] M = .ok (.bl (decide (0 ≤ t) && decide (t < (ts.length:Int) - 1))) M:=ZcA rfl (by simp [Zbd]) iw
 refine (Zk (Zag (d:=.int t) (M':=M) (by exact rfl))).trans ?_
 unfold ZdY
 by_cases h:0 ≤ t ∧ t + 1 < ts.length
 ·rw [if_pos h]
  obtain ⟨k,rfl⟩:=Int.eq_ofNat_of_zero_le h.1
  have hk:k + 1 < ts.length:=by omega
  have gs:ts[k]? = some ts[k]:=by simp [show k < ts.length by omega]
  have gs':ts[k + 1]? = some ts[k + 1]:=by simp [hk]
  have l8:=h8 _ (List.getElem_mem (show k < ts.length by omega))
  have l8':=h8 _ (List.getElem_mem hk)
  simp only [Int.ofNat_eq_natCast,Int.toNat_natCast,gs,gs']
  generalize ts[k] = s at gs l8
  generalize ts[k + 1] = s' at gs' l8'
  obtain ⟨p,bs⟩:=s
  obtain ⟨p',bs'⟩:=s'
  have n0:(decide (0 ≤ (k:Int)) && decide ((k:Int) < (ts.length:Int) - 1)) = true:=by
   simp; omega
  have gi:(Zbd ts) = .tup (ts.map ZcM):=rfl
  refine (Zk (Zy (M':=M) (Zhp c0 (by simp [n0]; omega)))).trans ?_
  refine (Zk (Zag (d:=Zi bs) (M':=M) (by simp [Zbd,gs,ZcM,ZbD]))).trans ?_
  have ra:=ZhG roll p M
  refine (Zk (Zag (d:=Zia (Zfl roll p)) (M':=M) (ZcA (b:=.int p) (M1:=M) (M2:=M) rfl (by simp [Zbd,gs,ZcM,ZbD]) ra))).trans ?_
  show Zw _ _ (ZgH roll ts n k w v bs (Zfl roll p)) M = _
  simp only [Zgb]
  have no:∀ r,Zfl roll p = some r → ZfH r = false → Zw (sIf (eOr (e2 Zjq (Za 5) (eC .non)) (eOr (e1 Zdn (Zac Zb3 (Zb (Za 5) (Zg)))) (e2 ZbE (e2 Ze (Za 2) (eC (.int 2))) (e2 Ze (Za 5) (eC (.int 0)))))) (Zak (eC (.bl false))) (Zaa)) (Zw (sIf (e2 ZbE (e2 Ze (Za 2) (eC (.int 0))) (Zac ZaZ (Zb (Za 5) (Zb (Za 4) (Zg))))) (Zak (eC (.bl false))) (Zaa)) (Zw (sIf (e2 ZaF (e2 Ze (Za 5) (eC (.int 0))) (eC (.str [103,101,116]))) (Zak (e2 ZaF (e2 Ze (Za 2) (eC (.int 3))) (e2 Ze (e2 Ze (e2 Ze (Za 1) (e2 Zar (Za 3) (eC (.int 1)))) (eC (.int 1))) (e2 Ze (Za 5) (eC (.int 1)))))) (Zaa)) (Zak (e2 ZaF (e2 Ze (Za 2) (eC (.int 3))) (e2 Ze (Za 4) (e2 Ze (Za 5) (eC (.int 2))))))))
    (ZgH roll ts n k w v bs (some r)) M = .rt (.bl false) M:=fun r hr hu=>by
   have iu:=Zfa r M
   rw [hu] at iu
   refine Zaw ((ZaM (M':=M) ?_).trans rfl)
   rw [Zg4 (M1:=M) (by cases r <;> first | exact rfl | simp [ZgH,Zia,Zn]),Zr6 (M1:=M) (Zhp (ZfC rfl iu) rfl)]
  cases hr:Zfl roll p with
  | none=>exact Zaw ((ZaM (M':=M) (by exact rfl)).trans rfl)
  | some r=>
   have ro:=Zoj R hr
   rcases ZlR r with ⟨a,b,rfl⟩ | ⟨a,b,rfl⟩ | ⟨n1,n2⟩
   ·
    have iu:=Zfa (.get a b) M
    have cn:=ZgR a b bs M l8 ro.2
    obtain ⟨y,hy,gy⟩:=Za8 l8' ro.1
    have x1:(e2 ZbE (e2 Ze (Za 2) (eC (.int 2))) (e2 Ze (Za 5) (eC (.int 0)))) (ZgH roll ts n k w v bs (some (.get a b))) M = .ok (.bl (!decide (w = GET))) M:=by exact rfl
    have e0:(eOr (e2 Zjq (Za 5) (eC .non)) (eOr (e1 Zdn (Zac Zb3 (Zb (Za 5) (Zg)))) (e2 ZbE (e2 Ze (Za 2) (eC (.int 2))) (e2 Ze (Za 5) (eC (.int 0)))))) (ZgH roll ts n k w v bs (some (.get a b))) M = .ok (.bl (!decide (w = GET))) M:=by
     rw [Zg4 (M1:=M) (by exact rfl),Zg4 (M1:=M) (Zhp (ZfC rfl iu) rfl),x1]
    by_cases hw:w = GET
    ·rw [decide_eq_true hw] at e0
     refine (Zk (Zy e0)).trans ?_
     have e2':(e2 ZbE (e2 Ze (Za 2) (eC (.int 0))) (Zac ZaZ (Zb (Za 5) (Zb (Za 4) (Zg))))) (ZgH roll ts n k w v bs (some (.get a b))) M = .ok (.bl (!decide (n = bs.getD b 0))) M:=Zai (a:=.int n) (M1:=M) (by exact rfl) (ZcA rfl rfl cn) (by exact rfl)
     by_cases hn:n = bs.getD b 0
     ·rw [decide_eq_true hn] at e2'
      refine (Zk (Zy e2')).trans (Zaw ((ZaM (M':=M) (by exact rfl)).trans (ZaO ?_)))
      have e3':(e2 Ze (e2 Ze (e2 Ze (Za 1) (e2 Zar (Za 3) (eC (.int 1)))) (eC (.int 1))) (e2 Ze (Za 5) (eC (.int 1)))) (ZgH roll ts n k w v bs (some (.get a b))) M = .ok (.int y) M:=by
       have gk:Zbi (ts.map ZcM) ((k:Int) + 1) = some (ZcM (p',bs')):=by
        rw [show ((k:Int) + 1) = ((k + 1:Nat):Int) by omega,Zdp,List.getElem?_map,gs']; rfl
       simp only [ZgH,e2,Za,eC,Zbd,Zia,Zn,List.getElem?_cons_succ,List.getElem?_cons_zero,R3.bind,Zar,Ze,gk,ZcM,ZbD,Zi,ZhI,gy]
      refine Zai (a:=.int v) (M1:=M) (by exact rfl) e3' ?_
      simp only [ZaF,eqD,hy,decide_eq_true hw,decide_eq_true hn,Bool.true_and]
     ·rw [decide_eq_false hn] at e2'
      refine (Zaw ((ZaM e2').trans ?_))
      simp only [decide_eq_true hw,decide_eq_false hn,Bool.true_and,Bool.false_and]; rfl
    ·rw [decide_eq_false hw] at e0
     refine (Zaw ((ZaM e0).trans ?_))
     simp [Zak,hw]
   ·
    have iu:=Zfa (.set a b) M
    have cn:=ZgN a b bs M l8 ro.1
    obtain ⟨y,hy,gy⟩:=Za8 l8 ro.2
    have x1:(e2 ZbE (e2 Ze (Za 2) (eC (.int 2))) (e2 Ze (Za 5) (eC (.int 0)))) (ZgH roll ts n k w v bs (some (.set a b))) M = .ok (.bl (!decide (w = SET))) M:=by exact rfl
    have e0:(eOr (e2 Zjq (Za 5) (eC .non)) (eOr (e1 Zdn (Zac Zb3 (Zb (Za 5) (Zg)))) (e2 ZbE (e2 Ze (Za 2) (eC (.int 2))) (e2 Ze (Za 5) (eC (.int 0)))))) (ZgH roll ts n k w v bs (some (.set a b))) M = .ok (.bl (!decide (w = SET))) M:=by
     rw [Zg4 (M1:=M) (by exact rfl),Zg4 (M1:=M) (Zhp (ZfC rfl iu) rfl),x1]
    by_cases hw:w = SET
    ·rw [decide_eq_true hw] at e0
     refine (Zk (Zy e0)).trans ?_
     have e2':(e2 ZbE (e2 Ze (Za 2) (eC (.int 0))) (Zac ZaZ (Zb (Za 5) (Zb (Za 4) (Zg))))) (ZgH roll ts n k w v bs (some (.set a b))) M = .ok (.bl (!decide (n = bs.getD a 0))) M:=Zai (a:=.int n) (M1:=M) (by exact rfl) (ZcA rfl rfl cn) (by exact rfl)
     by_cases hn:n = bs.getD a 0
     ·rw [decide_eq_true hn] at e2'
      refine (Zk (Zy e2')).trans ((Zk (Zy (M':=M) (by exact rfl))).trans (ZaO ?_))
      refine Zai (a:=.int v) (b:=.int y) (M1:=M) (M2:=M) (by exact rfl) (by simp [ZgH,Zia,Zn,Zi,-Zfd,gy]) ?_
      simp only [ZaF,eqD,hy,decide_eq_true hw,decide_eq_true hn,Bool.true_and]
     ·rw [decide_eq_false hn] at e2'
      refine (Zaw ((ZaM e2').trans ?_))
      simp only [decide_eq_true hw,decide_eq_false hn,Bool.true_and,Bool.false_and]; rfl
    ·rw [decide_eq_false hw] at e0
     refine (Zaw ((ZaM e0).trans ?_))
     simp [Zak,hw]
   ·have:=no r hr n1
    have e:=n2 bs bs' ⟨n,(k:Int),w,v⟩
    simp only [Zgb] at e
    exact this.trans (congrArg (fun b=>O3.rt (D.bl b) M) e.symm)
 ·rw [if_neg h]
  have n0:(decide (0 ≤ t) && decide (t < (ts.length:Int) - 1)) = false:=by
   rw [← Bool.decide_and]; exact decide_eq_false (by omega)
  rw [n0] at c0
  exact Zaw ((ZaM (Zhp c0 rfl)).trans rfl)
theorem ZlP (lo:Int) (n:Nat):Zc9 lo (n + 1) = .int lo :: Zc9 (lo + 1) n:=by
 unfold Zc9
 rw [List.range_succ_eq_map]
 simp only [List.map_cons,List.map_map,Int.add_zero,Int.natCast_zero,List.cons.injEq,true_and]
 apply List.map_congr_left
 intro k _
 simp only [Function.comp_apply,D.int.injEq]
 omega
noncomputable def ZcR:Option Nat → D
 | none=>.non
 | some k=>.int (k:Int)
theorem Zhc (n:Nat) (o:Option Nat):below n (ZcR o) = true:=by cases o <;> rfl
theorem Zit {it:It3} (hit:it.lock = none) {i:Nat} {body:S3} {q:Nat → Bool} {I:ZaE → Prop} {M:Store}:∀ (m j:Nat) (env:ZaE),I env →
  (∀ k env,j ≤ k → k < j + m → I env → (q k = true → body (env.set i (some (.int (k:Int)))) M = .rt (.int (k:Int)) M) ∧ (q k = false → ∃ e',I e' ∧ body (env.set i (some (.int (k:Int)))) M = .nx e' M)) →
  ∃ e',I e' ∧ ZdW it (Zcw i) body (Zc9 (j:Int) m) env M = (match (List.range' j m).find? q with | some k=>.rt (.int (k:Int)) M | none=>.nx e' M)
 | 0,j,env,hI,_=>⟨env,hI,by simp [Zc9,ZdW,locked,hit]⟩
 | m + 1,j,env,hI,h=>by
  obtain ⟨h1,h2⟩:=h j env (Nat.le_refl _) (by omega) hI
  rw [ZlP]
  simp only [ZdW,locked,hit,if_true,Zcw,List.range'_succ,List.find?_cons]
  cases hq:q j with
  | true=>exact ⟨env,hI,by rw [h1 hq]⟩
  | false=>
   obtain ⟨e',hI',hb⟩:=h2 hq
   obtain ⟨e2,hI2,ih⟩:=Zit hit m (j + 1) e' hI' fun k env a b c=>h k env (by omega) (by omega) c
   refine ⟨e2,hI2,?_⟩
   rw [hb]
   rw [show ((j:Int) + 1) = ((j + 1:Nat):Int) by omega]
   exact ih
noncomputable def Zd8 {α:Type} (p:α → Bool):List α → Nat → Option Nat
 | [],_=>none
 | r :: rs,k=>if p r then Zd8 p rs (k + 1) else some k
theorem Znx (n:Nat):List.range n = List.range' 0 n:=by rw [List.range_eq_range']
noncomputable def ZdQ:Option Use → List Use → Nat → Option Nat
 | _,[],_=>none
 | a,r :: rs,k=>if Zgv a r then ZdQ (some r) rs (k + 1) else some k
theorem ZhB (d0 d1:D) (M:Store):∀ (rs:List Use) (k:Nat) (a:Option Use) (x3 x4:Option D),
  ZeE [] (Zd4 [3,4]) (Zw (sIf (e1 Zdn (Zac ZcC (Zb (Za 2) (Zb (Za 4) (Zg))))) (Zak (Za 3)) (Zaa)) (Zan 2 (Za 4))) (Zd1 k (rs.map Zx)) [some d0,some d1,some (ZeI a),x3,x4] M =
   match ZdQ a rs k with
   | none=>(match rs.getLast? with | none=>.nx [some d0,some d1,some (ZeI a),x3,x4] M | some r=>.nx [some d0,some d1,some (Zx r),some (.int ((k + rs.length - 1:Nat):Int)),some (Zx r)] M)
   | some j=>.rt (.int (j:Int)) M
 | [],k,a,x3,x4=>by exact rfl
 | r :: rs,k,a,x3,x4=>by
  have uf:=Zj1 a r M
  have ih:=ZhB d0 d1 M rs (k + 1) (some r) (some (.int (k:Int))) (some (Zx r))
  simp only [List.map_cons,Zd1,ZeE,ZdI,List.all_nil,if_true,Zd4,bindAll,List.set_cons_succ,List.set_cons_zero,ZdQ]
  cases h:Zgv a r with
  | false=>
   rw [h] at uf
   simp [Zw,sIf,Zak,uf]
  | true=>
   rw [h] at uf
   simp only [if_true]
   have b:(Zw (sIf (e1 Zdn (Zac ZcC (Zb (Za 2) (Zb (Za 4) (Zg))))) (Zak (Za 3)) (Zaa)) (Zan 2 (Za 4))) [some d0,some d1,some (ZeI a),some (.int (k:Int)),some (Zx r)] M = .nx [some d0,some d1,some (Zx r),some (.int (k:Int)),some (Zx r)] M:=by
    simp [Zw,sIf,Zaa,Zan,uf]
   rw [b]
   refine Eq.trans ih ?_
   cases hf:ZdQ (some r) rs (k + 1) with
   | some j=>rfl
   | none=>
    cases rs with
    | nil=>simp [ZeI]
    | cons r2 rs=>
     cases hgl:(r2 :: rs).getLast? with
     | none=>simp at hgl
     | some z=>
      have:(r :: r2 :: rs).getLast? = some z:=by rw [List.getLast?_cons_cons]; exact hgl
      rw [this]
      simp only [List.length_cons]
      rw [show k + 1 + (rs.length + 1) - 1 = k + (rs.length + 1 + 1) - 1 by omega]
noncomputable def ZgD (roll:ZaK) (ts:List Stp) (k:Nat):Bool:=match ts[k]?,ts[k + 1]? with
 | some s,some s'=>Zkc roll s.1 s.2 s'.1 s'.2
 | _,_=>false
noncomputable def Zd9 (roll:ZaK) (ts:List Stp):Option Nat:=(List.range (ts.length - 1)).find? fun k=>!ZgD roll ts k
noncomputable def Zbs (us:List Use):D:=.tup (us.map Zx)
theorem ZiQ {ts:List Stp} {k:Nat} (h:k < ts.length):Zbi (ts.map ZcM) ((k:Nat):Int) = some (ZcM ts[k]):=by rw [Zdp,List.getElem?_map,List.getElem?_eq_getElem h]; rfl
theorem Zfj (roll:ZaK) (R:Za0 roll) (ts:List Stp) (h8:∀ s ∈ ts,s.2.length = 8) (M:Store) (hz:ts.length ≤ 5000):ZbN [Zh roll,Zbd ts] M = .ok (ZcR (Zd9 roll ts)) M:=by
 obtain ⟨e',⟨y,rfl⟩,lp⟩:=Zit (it:=⟨Zc9 0 (ts.length - 1),none⟩) rfl (i:=2) (body:=(sIf (e1 Zdn (Zac ZcK (Zb (Za 0) (Zb (e2 Ze (Za 1) (Za 2)) (Zb (e2 Ze (Za 1) (e2 Zar (Za 2) (eC (.int 1)))) (Zg)))))) (Zak (Za 2)) (Zaa))) (q:=fun k=>!ZgD roll ts k) (I:=fun env=>∃ y,env = [some (Zh roll),some (Zbd ts),y]) (M:=M) (ts.length - 1) 0 [some (Zh roll),some (Zbd ts),none] ⟨none,rfl⟩
  (fun k env _ hk ⟨y,he⟩=>by
   subst he
   have hk1:k + 1 < ts.length:=by omega
   have hk0:k < ts.length:=by omega
   have sf:=Zjd roll R ts[k].1 ts[k].2 ts[k + 1].1 ts[k + 1].2 M (h8 _ (List.getElem_mem hk0)) (h8 _ (List.getElem_mem hk1))
   have hf:ZgD roll ts k = Zkc roll ts[k].1 ts[k].2 ts[k + 1].1 ts[k + 1].2:=by simp [ZgD,hk0,hk1]
   have g1:(e2 Ze (Za 1) (Za 2)) [some (Zh roll),some (Zbd ts),some (.int (k:Int))] M = .ok (ZcM ts[k]) M:=by simp only [e2,Za,Zbd,List.getElem?_cons_succ,List.getElem?_cons_zero,R3.bind,Ze,ZiQ hk0]
   have g2:(e2 Ze (Za 1) (e2 Zar (Za 2) (eC (.int 1)))) [some (Zh roll),some (Zbd ts),some (.int (k:Int))] M = .ok (ZcM ts[k + 1]) M:=by
    simp only [e2,Za,eC,Zbd,List.getElem?_cons_succ,List.getElem?_cons_zero,R3.bind,Zar,Ze,show ((k:Int) + 1) = ((k + 1:Nat):Int) by omega,ZiQ hk1]
   have cc:(e1 Zdn (Zac ZcK (Zb (Za 0) (Zb (e2 Ze (Za 1) (Za 2)) (Zb (e2 Ze (Za 1) (e2 Zar (Za 2) (eC (.int 1)))) (Zg)))))) [some (Zh roll),some (Zbd ts),some (.int (k:Int))] M = .ok (.bl (!ZgD roll ts k)) M:=by
    rw [hf]; exact Zhp (Zcl rfl g1 g2 sf) rfl
   refine ⟨fun hq=>?_,fun hq=>?_⟩
   ·exact (ZaM (cc.trans (by rw [hq]))).trans rfl
   ·exact ⟨_,⟨_,rfl⟩,Zy (cc.trans (by rw [hq]))⟩)
 have ir:(ZdD (e2 Zds (Zas ZaY (Zb (Za 1) (Zg))) (eC (.int 1)))) [some (Zh roll),some (Zbd ts),none] M = .ok ⟨Zc9 0 (ts.length - 1),none⟩ M:=by
  have b:((ts.length:Int) - 1) ≤ 1000000 ∧ -1000000 ≤ ((ts.length:Int) - 1):=by omega
  have e:((ts.length:Int) - 1).toNat = ts.length - 1:=by omega
  simp [Zbd,b,e]
 refine Rt.pure (G:=[]) (env:=[some (Zh roll),some (Zbd ts),none]) ?_ (Zhc _ _)
 rw [List.append_nil]
 have lp':=(ZgV (g:=Zcw 2) ir).trans lp
 unfold Zd9
 rw [Znx]
 cases hf:(List.range' 0 (ts.length - 1)).find? fun k=>!ZgD roll ts k with
 | some j=>rw [hf] at lp'; exact Zaw lp'
 | none=>rw [hf] at lp'; exact (Zk lp').trans rfl
theorem ZfB (us:List Use) (M:Store):Zbx [.non,Zbs us] M = .ok (ZcR (ZdQ none us 0)) M:=by
 have lp:=ZhB .non (Zbs us) M us 0 none none none
 have e0:ZcY [some .non,some (Zbs us),none,none,none] M = .rt (ZcR (ZdQ none us 0)) M:=by
  refine (Zk (Zag (d:=.non) (M':=M) rfl)).trans ?_
  have e1:(Zh8 (Zjm (Za 1)) (Zd4 [3,4]) (Zw (sIf (e1 Zdn (Zac ZcC (Zb (Za 2) (Zb (Za 4) (Zg))))) (Zak (Za 3)) (Zaa)) (Zan 2 (Za 4)))) [some .non,some (Zbs us),some .non,none,none] M = _:=Eq.trans (by exact rfl) lp
  cases hf:ZdQ none us 0 with
  | some j=>rw [hf] at e1; exact Zaw e1
  | none=>
   rw [hf] at e1
   simp only at e1
   cases hl:us.getLast? with
   | none=>rw [hl] at e1; exact (Zk e1).trans rfl
   | some z=>rw [hl] at e1; exact (Zk e1).trans rfl
 exact Rt.pure (G:=[]) (env:=[some .non,some (Zbs us),none,none,none]) (by rw [List.append_nil]; exact e0) (Zhc _ _)
theorem ZeW (roll:ZaK) (R:Za0 roll) (ts:List Stp) (h8:∀ s ∈ ts,s.2.length = 8) (d2:D) (M:Store):∀ (us:List Use) (k:Nat) (x3 x4:Option D),
  ∃ e',ZeE [] (Zd4 [3,4]) (sIf (e1 Zdn (Zac ZbB (Zb (Za 0) (Zb (Za 1) (Zb (Za 4) (Zg)))))) (Zak (Za 3)) (Zaa)) (Zd1 k (us.map Zx)) [some (Zh roll),some (Zbd ts),some d2,x3,x4] M =
   match Zd8 (ZdY roll ts) us k with
   | none=>.nx e' M
   | some j=>.rt (.int (j:Int)) M
 | [],k,x3,x4=>⟨_,by first | exact rfl | simp [Zd1,ZeE,ZdI,Zd8]; rfl⟩
 | u :: us,k,x3,x4=>by
  have um:=Zhh roll R ts h8 u M
  have cc:(e1 Zdn (Zac ZbB (Zb (Za 0) (Zb (Za 1) (Zb (Za 4) (Zg)))))) [some (Zh roll),some (Zbd ts),some d2,some (.int (k:Int)),some (Zx u)] M = .ok (.bl (!ZdY roll ts u)) M:=Zhp (Zcl rfl rfl rfl um) rfl
  obtain ⟨e',ih⟩:=ZeW roll R ts h8 d2 M us (k + 1) (some (.int (k:Int))) (some (Zx u))
  simp only [List.map_cons,Zd1,ZeE,ZdI,List.all_nil,if_true,Zd4,bindAll,List.set_cons_succ,List.set_cons_zero,Zd8]
  cases h:ZdY roll ts u with
  | false=>exact ⟨[],by rw [ZaM (cc.trans (by rw [h]; rfl))]; simp [Zak]⟩
  | true=>exact ⟨e',by rw [Zy (cc.trans (by rw [h]; rfl))]; simpa using ih⟩
theorem Zes (roll:ZaK) (R:Za0 roll) (ts:List Stp) (h8:∀ s ∈ ts,s.2.length = 8) (us:List Use) (M:Store):Za5 [Zh roll,Zbd ts,Zbs us] M = .ok (ZcR (Zd8 (ZdY roll ts) us 0)) M:=by
 obtain ⟨e',lp⟩:=ZeW roll R ts h8 (Zbs us) M us 0 none none
 refine Rt.pure (G:=[]) (env:=[some (Zh roll),some (Zbd ts),some (Zbs us),none,none]) ?_ (Zhc _ _)
 rw [List.append_nil]
 have lp':(Zh8 (Zjm (Za 2)) (Zd4 [3,4]) (sIf (e1 Zdn (Zac ZbB (Zb (Za 0) (Zb (Za 1) (Zb (Za 4) (Zg)))))) (Zak (Za 3)) (Zaa))) [some (Zh roll),some (Zbd ts),some (Zbs us),none,none] M = _:=Eq.trans (by exact rfl) lp
 cases hf:Zd8 (ZdY roll ts) us 0 with
 | some j=>rw [hf] at lp'; exact Zaw lp'
 | none=>rw [hf] at lp'; exact (Zk lp').trans rfl
noncomputable abbrev BEGIN:List Nat:=[98,101,103,105,110]
noncomputable abbrev STEP:List Nat:=[115,116,101,112]
noncomputable abbrev END:List Nat:=[101,110,100]
noncomputable abbrev USE:List Nat:=[117,115,101]
noncomputable abbrev MATCH:List Nat:=[109,97,116,99,104]
noncomputable abbrev COUNT:List Nat:=[99,111,117,110,116]
noncomputable def ZbH:Option (List Nat × Nat) → D
 | none=>.non
 | some (w,k)=>.tup [.str w,.int (k:Int)]
theorem Zlw (n:Nat) (o:Option (List Nat × Nat)):below n (ZbH o) = true:=by
 cases o with
 | none=>rfl
 | some p=>rfl
noncomputable def Zib (roll:ZaK) (p:Int):Bool:=match Zfl roll p with
 | some r=>r.isHalt
 | none=>false
noncomputable def ZcS (roll:ZaK) (bs:List Int) (ts:List Stp):Option (List Nat × Nat):=match ts with
 | []=>some (BEGIN,0)
 | s :: _=>if s ≠ (0,bs) then some (BEGIN,0) else match Zd9 roll ts with
  | some t=>some (STEP,t)
  | none=>if Zib roll (ts.getLastD (0,[])).1 then none else some (END,ts.length - 1)
noncomputable def Zgi (roll:ZaK) (ts:List Stp):List Stp:=ts.dropLast.filter fun s=>match Zfl roll s.1 with | some r=>ZfH r | none=>false
noncomputable def Zhb (roll:ZaK) (ts:List Stp) (us:List Use):Option (List Nat × Nat):=match ZdQ none us 0 with
 | some k=>some (USE,k)
 | none=>match Zd8 (ZdY roll ts) us 0 with
  | some k=>some (MATCH,k)
  | none=>if us.length ≠ (Zgi roll ts).length then some (COUNT,us.length) else none
noncomputable def Zgs (roll:ZaK) (bs:List Int) (ts:List Stp) (us:List Use):Option (List Nat × Nat):=match ZcS roll bs ts with
 | some f=>some f
 | none=>Zhb roll ts us
theorem find_none {q:Nat → Bool} {n:Nat} (h:(List.range n).find? q = none) {k:Nat} (hk:k < n):q k = false:=by
 have:=List.find?_eq_none.mp h k (by simpa using hk)
 simpa using this
theorem Zmr {roll:ZaK} {p p':Int} {bs bs':List Int} (h:Zkc roll p bs p' bs' = true):∃ k r,p = ((k:Nat):Int) ∧ roll[k]? = some r ∧ r.isHalt = false ∧ p' = (r.place bs k:Nat):=by
 unfold Zkc at h
 split at h
 ·rename_i hp
  obtain ⟨k,rfl⟩:=Int.eq_ofNat_of_zero_le hp.1
  have hk:k < roll.length:=by omega
  have hr:roll[k]? = some roll[k]:=by simp [hk]
  simp only [Int.ofNat_eq_natCast,Int.toNat_natCast,hr] at h
  split at h
  ·cases h
  ·rename_i hh
   rw [Bool.and_eq_true,decide_eq_true_eq] at h
   exact ⟨k,roll[k],rfl,hr,by simpa using hh,h.1⟩
 ·cases h
theorem place_lt {roll:ZaK} (R:Za0 roll) {k:Nat} {r:Row} {bs:List Int} (hb:bs.length = 8) (hr:roll[k]? = some r) (hh:r.isHalt = false):r.place bs k < roll.length:=by
 have hk:k < roll.length:=(List.getElem?_eq_some_iff.mp hr).1
 have g:Good roll ⟨k,bs,[]⟩:=⟨hk,hb,by simp [Zel]⟩
 have st:Zcs roll ⟨k,bs,[]⟩ = some ⟨r.place bs k,r.boxes bs [],r.cells bs []⟩:=by simp [Zcs,hr,Zfq,hh]
 exact (Zgg R g st).1.pl
theorem Zir {roll:ZaK} (R:Za0 roll) {ts:List Stp} (h8:∀ s ∈ ts,s.2.length = 8) {bs:List Int} {s:Stp} (h0:ts[0]? = some s) (hs:s = (0,bs)) (hf:Zd9 roll ts = none):∀ (k:Nat) (x:Stp),ts[k]? = some x → ∃ j r,x.1 = ((j:Nat):Int) ∧ roll[j]? = some r
 | 0,x,hx=>by
  rw [h0] at hx; cases hx
  have pos:0 < roll.length:=by obtain ⟨q,x,e,_⟩:=R.last; rw [e]; simp
  rw [hs]
  exact ⟨0,roll[0],rfl,by simp [pos]⟩
 | k + 1,x,hx=>by
  have hk1:k + 1 < ts.length:=(List.getElem?_eq_some_iff.mp hx).1
  have hk0:k < ts.length:=by omega
  have q:=find_none hf (k:=k) (by omega)
  simp only [Bool.not_eq_false'] at q
  have e0:ts[k]? = some ts[k]:=by simp [hk0]
  unfold ZgD at q
  rw [e0,hx] at q
  obtain ⟨j,r,hj,hr,hh,hp⟩:=Zmr q
  have:=place_lt R (h8 _ (List.getElem_mem hk0)) hr hh
  exact ⟨r.place ts[k].2 j,roll[r.place ts[k].2 j],hp,by simp [this]⟩
theorem Zem {roll:ZaK} {j:Nat} {r:Row} (hr:roll[j]? = some r):Zfl roll (j:Int) = some r:=by
 have hj:j < roll.length:=(List.getElem?_eq_some_iff.mp hr).1
 simp only [Zfl,Int.toNat_natCast,hr]
 rw [if_pos (by omega)]
theorem ZoH (s t:Stp):Zb1 [.int s.1,Zi s.2] [.int t.1,Zi t.2] = decide (s = t):=by
 simp only [Zb1,deq,ZjA,Bool.and_true]
 rw [Bool.eq_iff_iff]
 simp only [Bool.and_eq_true,decide_eq_true_eq,beq_iff_eq]
 constructor
 ·rintro ⟨h1,h2⟩; exact Prod.ext h1 h2
 ·intro h; rw [h]; exact ⟨rfl,rfl⟩
theorem ZqI (s t:Stp) (M:Store):ZbE (ZcM s) (ZcM t) M = .ok (.bl (!decide (s = t))) M:=by
 have p1:∀ i:Int,Zax DEEP (.int i) = true:=fun i=>ZeM _ _
 have p2:∀ b:List Int,Zax DEEP (Zi b) = true:=fun b=>Zgk _ _
 simp only [ZbE,eqD,ZcM,ZbD,List.all_cons,List.all_nil,p1,p2,Bool.and_self,if_true,ZoH]
theorem Zj5 (r:Row) (M:Store):ZbE (Zn r) (.tup [.str [104,97,108,116]]) M = .ok (.bl (!r.isHalt)) M:=by
 cases r <;> first | exact rfl | simp [Zn,Zax,ZeM,ZnR,Zb1,deq]
theorem Zf7 (roll:ZaK) (R:Za0 roll) (bs:List Int) (ts:List Stp) (h8:∀ s ∈ ts,s.2.length = 8) (M:Store) (hz:ts.length ≤ 5000):
  Zce [Zh roll,Zi bs,Zbd ts] M = .ok (ZbH (ZcS roll bs ts)) M:=by
 refine Rt.pure (G:=[]) (env:=[some (Zh roll),some (Zi bs),some (Zbd ts),none,none]) ?_ (Zlw _ _)
 rw [List.append_nil]
 have fu:=Zfj roll R ts h8 M hz
 have e0:(ZaD (Zb (eC (.int 0)) (Zb (Za 1) (Zg)))) [some (Zh roll),some (Zi bs),some (Zbd ts),none,none] M = .ok (ZcM (0,bs)) M:=by simp [ZcM,ZbD]
 cases ts with
 | nil=>exact Zaw ((ZaM (M':=M) (by exact rfl)).trans (by simp [Zak,ZcS,ZbH]))
 | cons s rest=>
  have c1:(e2 ZbE (e2 Ze (Za 2) (eC (.int 0))) (ZaD (Zb (eC (.int 0)) (Zb (Za 1) (Zg))))) [some (Zh roll),some (Zi bs),some (Zbd (s :: rest)),none,none] M = .ok (.bl (!decide (s = (0,bs)))) M:=Zai (a:=ZcM s) (M1:=M) (by simp [Zbd]) e0 (ZqI s (0,bs) M)
  have c0:(eOr (e2 ZaF (Zas ZaY (Zb (Za 2) (Zg))) (eC (.int 0))) (e2 ZbE (e2 Ze (Za 2) (eC (.int 0))) (ZaD (Zb (eC (.int 0)) (Zb (Za 1) (Zg)))))) [some (Zh roll),some (Zi bs),some (Zbd (s :: rest)),none,none] M = .ok (.bl (!decide (s = (0,bs)))) M:=by
   rw [Zg4 (M1:=M) (by
    have:¬ ((rest.length:Int) + 1 = 0):=by omega
    simp [Zbd,this])]
   exact c1
  by_cases hs:s = (0,bs)
  ·rw [decide_eq_true hs] at c0
   refine (Zk (Zy c0)).trans ((Zk (Zag (ZcA rfl rfl fu))).trans ?_)
   have fs:ZcS roll bs (s :: rest) = (match Zd9 roll (s :: rest) with | some t=>some (STEP,t) | none=>if Zib roll ((s :: rest).getLastD (0,[])).1 then none else some (END,(s :: rest).length - 1)):=by
    simp only [ZcS]; rw [if_neg (by simpa using hs)]
   rw [fs]
   cases hf:Zd9 roll (s :: rest) with
   | some t=>exact Zaw ((ZaM (M':=M) (by exact rfl)).trans (by simp [Zak,ZcR,ZbH]))
   | none=>
    refine (Zk (Zy (M':=M) (by exact rfl))).trans ?_
    have hl:(s :: rest).length - 1 < (s :: rest).length:=by simp
    obtain ⟨j,r,hj,hr⟩:=Zir R h8 (s:=s) (by exact rfl) hs hf ((s :: rest).length - 1) ((s :: rest)[(s :: rest).length - 1]) (by simp)
    have gl:(s :: rest).getLastD (0,[]) = (s :: rest)[(s :: rest).length - 1]:=by
     rw [List.getLastD_eq_getLast?,List.getLast?_eq_getElem?]; simp
    rw [gl]
    have tg:=ZiQ (ts:=s :: rest) hl
    generalize hx:(s :: rest)[(s :: rest).length - 1] = x at hj tg
    have e4:(e2 Zds (Zas ZaY (Zb (Za 2) (Zg))) (eC (.int 1))) [some (Zh roll),some (Zi bs),some (Zbd (s :: rest)),some (ZcR none),none] M = .ok (.int (((s :: rest).length - 1:Nat):Int)) M:=by
     simp [Zbd]
    refine (Zk (Zag e4)).trans ?_
    have ra:=ZhG roll x.1 M
    rw [hj,Zem hr] at ra
    have e5:(e2 Ze (e2 Ze (Za 2) (Za 4)) (eC (.int 0))) [some (Zh roll),some (Zi bs),some (Zbd (s :: rest)),some (ZcR none),some (.int (((s :: rest).length - 1:Nat):Int))] M = .ok (.int (j:Int)) M:=by
     refine Zai (a:=ZcM x) (M1:=M) (b:=.int 0) (M2:=M) ?_ rfl (by simp [ZcM,ZbD,hj])
     simp only [e2,Za,Zbd,List.getElem?_cons_succ,List.getElem?_cons_zero,R3.bind,Ze,tg]
    have e6:(e2 ZbE (Zac Zcv (Zb (Za 0) (Zb (e2 Ze (e2 Ze (Za 2) (Za 4)) (eC (.int 0))) (Zg)))) (ZaD (Zb (eC (.str [104,97,108,116])) (Zg)))) [some (Zh roll),some (Zi bs),some (Zbd (s :: rest)),some (ZcR none),some (.int (((s :: rest).length - 1:Nat):Int))] M = .ok (.bl (!r.isHalt)) M:=Zai (ZcA rfl e5 ra) (by simp) (Zj5 r M)
    have hA:Zib roll x.1 = r.isHalt:=by simp only [Zib,hj,Zem hr]
    rw [hA]
    cases hh:r.isHalt with
    | true=>rw [hh] at e6; exact (Zk (Zy e6)).trans rfl
    | false=>rw [hh] at e6; exact Zaw ((ZaM e6).trans (by simp [Zak,ZbH]))
  ·rw [decide_eq_false hs] at c0
   refine Zaw ((ZaM c0).trans ?_)
   have fs:ZcS roll bs (s :: rest) = some (BEGIN,0):=by simp only [ZcS]; rw [if_pos hs]
   rw [fs]
   simp [Zak,ZbH]
theorem ZiG {roll:ZaK} {bs:List Int} {ts:List Stp} (h:ZcS roll bs ts = none):(∃ s,ts[0]? = some s ∧ s = (0,bs)) ∧ Zd9 roll ts = none:=by
 cases ts with
 | nil=>simp [ZcS] at h
 | cons s rest=>
  simp only [ZcS] at h
  by_cases hs:s = (0,bs)
  ·rw [if_neg (by simpa using hs)] at h
   refine ⟨⟨s,by simp,hs⟩,?_⟩
   cases hf:Zd9 roll (s :: rest) with
   | some t=>rw [hf] at h; cases h
   | none=>rfl
  ·rw [if_pos hs] at h; cases h
theorem Zgq (roll:ZaK) (R:Za0 roll) (bs:List Int) (ts:List Stp) (h8:∀ s ∈ ts,s.2.length = 8) (us:List Use) (M:Store) (hz:ts.length ≤ 5000) (hf:ZcS roll bs ts = none):
  ZbP [Zh roll,Zbd ts,Zbs us] M = .ok (ZbH (Zhb roll ts us)) M:=by
 obtain ⟨⟨s0,h0,hs0⟩,hS⟩:=ZiG hf
 have pl:=Zir R h8 h0 hs0 hS
 have f1:=ZfB us M
 have f2:=Zes roll R ts h8 us M
 have fin:∀ {d:D} (G:Store),below M.length d = true → Zdu [some (Zh roll),some (Zbd ts),some (Zbs us),none,none,none] M = .rt d (M ++ G) → ZbP [Zh roll,Zbd ts,Zbs us] M = .ok d M:=fun {d} G hb h=>Rt.pure h hb
 unfold Zhb
 cases h1:ZdQ none us 0 with
 | some k=>
  rw [h1] at f1
  refine fin [] rfl ?_
  rw [List.append_nil]
  exact (Zk (Zag (ZcA rfl rfl f1))).trans (Zaw ((ZaM (M':=M) (by exact rfl)).trans (by simp [Zak,ZcR,ZbH])))
 | none=>
  rw [h1] at f1
  cases h2:Zd8 (ZdY roll ts) us 0 with
  | some k=>
   rw [h2] at f2
   refine fin [] rfl ?_
   rw [List.append_nil]
   exact (Zk (Zag (ZcA rfl rfl f1))).trans ((Zk (Zy (M':=M) (by exact rfl))).trans ((Zk (Zag (Zcl rfl rfl rfl f2))).trans (Zaw ((ZaM (M':=M) (by exact rfl)).trans (by simp [Zak,ZcR,ZbH])))))
  | none=>
   rw [h2] at f2
   have lc:(eLC (ZiM (eSl (Za 1) (ZaW) (ZaX (e1 ZeF (eC (.int 1)))))) 1 (Zcw 6) [Zac Zb3 (Zb (e2 Ze (Za 0) (e2 Ze (Za 6) (eC (.int 0)))) (Zg))] (Za 6)) [some (Zh roll),some (Zbd ts),some (Zbs us),some (ZcR none),some (ZcR none),none] M = .ok (.ref M.length) (M ++ [.lst ((Zgi roll ts).map ZcM)]):=by
    refine Zl2 (α:=Stp) (enc:=ZcM) (h:=ZcM) (p:=fun s=>match Zfl roll s.1 with | some r=>ZfH r | none=>false) (own:=1) (i:=6) (lock:=none) (as:=ts.dropLast) (M1:=M) ?_ (fun _ h=>by cases h) (fun x hx M'=>?_) (fun x hx _ M'=>by exact rfl) (by simp; omega)
    ·have:=ZnG (ts.map ZcM)
     simp only [ZiM,eSl,Za,ZaW,ZaX,e1,eC,Zbd,List.getElem?_cons_succ,List.getElem?_cons_zero,R3.bind,ZeF,ZfP,this]
     rw [List.map_dropLast]
    ·obtain ⟨k,hk⟩:=List.getElem?_of_mem hx
     have hk':ts[k]? = some x:=by
      rw [List.getElem?_dropLast] at hk
      split at hk
      ·exact hk
      ·cases hk
     obtain ⟨j,r,hj,hr⟩:=pl k x hk'
     have iu:=Zfa r M'
     have gi:(e2 Ze (Za 0) (e2 Ze (Za 6) (eC (.int 0)))) [some (Zh roll),some (Zbd ts),some (Zbs us),some (ZcR none),some (ZcR none),none,some (ZcM x)] M' = .ok (Zn r) M':=by
      simp [ZcM,ZbD,hj,Zh,hr]
     simp only [hj,Zem hr]
     exact ZfC gi iu
   have e7:(e2 ZbE (Zas ZaY (Zb (Za 2) (Zg))) (Zas ZaY (Zb (Za 5) (Zg)))) [some (Zh roll),some (Zbd ts),some (Zbs us),some (ZcR none),some (ZcR none),some (.ref M.length)] (M ++ [.lst ((Zgi roll ts).map ZcM)]) = .ok (.bl (!decide (us.length = (Zgi roll ts).length))) (M ++ [.lst ((Zgi roll ts).map ZcM)]):=by
    have:(((us.length:Int)) = ((Zgi roll ts).length:Int)) = (us.length = (Zgi roll ts).length):=by simp [Int.ofNat_inj]
    simp [Zbs,this]
   have pre:∀ {k':S3} {o:O3},k' [some (Zh roll),some (Zbd ts),some (Zbs us),some (ZcR none),some (ZcR none),some (.ref M.length)] (M ++ [.lst ((Zgi roll ts).map ZcM)]) = o → Zw (Zan 3 (Zac Zbx (Zb (eC .non) (Zb (Za 2) (Zg))))) (Zw (sIf (e2 Zcf (Za 3) (eC .non)) (Zak (ZaD (Zb (eC (.str [117,115,101])) (Zb (Za 3) (Zg))))) (Zaa)) (Zw (Zan 4 (Zac Za5 (Zb (Za 0) (Zb (Za 1) (Zb (Za 2) (Zg)))))) (Zw (sIf (e2 Zcf (Za 4) (eC .non)) (Zak (ZaD (Zb (eC (.str [109,97,116,99,104])) (Zb (Za 4) (Zg))))) (Zaa)) (Zw (Zan 5 (eLC (ZiM (eSl (Za 1) (ZaW) (ZaX (e1 ZeF (eC (.int 1)))))) 1 (Zcw 6) [Zac Zb3 (Zb (e2 Ze (Za 0) (e2 Ze (Za 6) (eC (.int 0)))) (Zg))] (Za 6))) k')))) [some (Zh roll),some (Zbd ts),some (Zbs us),none,none,none] M = o:=fun {k' o} h=>
    (Zk (Zag (ZcA rfl rfl f1))).trans ((Zk (Zy (M':=M) (by exact rfl))).trans ((Zk (Zag (Zcl rfl rfl rfl f2))).trans ((Zk (Zy (M':=M) (by exact rfl))).trans ((Zk (Zag lc)).trans h))))
   by_cases hc:us.length = (Zgi roll ts).length
   ·rw [if_neg (by simpa using hc)]
    rw [decide_eq_true hc] at e7
    exact fin [.lst ((Zgi roll ts).map ZcM)] rfl (pre ((Zk (Zy e7)).trans rfl))
   ·rw [if_pos hc]
    rw [decide_eq_false hc] at e7
    exact fin [.lst ((Zgi roll ts).map ZcM)] rfl (pre (Zaw ((ZaM e7).trans (by simp [Zak,Zbs,ZbH]))))
theorem Zf2 (roll:ZaK) (R:Za0 roll) (bs:List Int) (ts:List Stp) (h8:∀ s ∈ ts,s.2.length = 8) (us:List Use) (M:Store) (hz:ts.length ≤ 5000):
  ZdG [Zh roll,Zi bs,Zbd ts,Zbs us] M = .ok (ZbH (Zgs roll bs ts us)) M:=by
 have f1:=Zf7 roll R bs ts h8 M hz
 refine Rt.pure (G:=[]) (env:=[some (Zh roll),some (Zi bs),some (Zbd ts),some (Zbs us),none]) ?_ (Zlw _ _)
 rw [List.append_nil]
 refine (Zk (Zag (Zcl rfl rfl rfl f1))).trans (ZaO ?_)
 unfold Zgs
 cases hf:ZcS roll bs ts with
 | some f=>exact (Zpd (M1:=M) (by cases f; simp [ZbH])).trans rfl
 | none=>
  have f2:=Zgq roll R bs ts h8 us M hz hf
  exact (Zpa (M1:=M) (by exact rfl)).trans (Zcl rfl rfl rfl f2)
theorem Zgu {us:List Use} (h:us.length ≤ 99999):ZiH (us.map Zx):=by
 refine ⟨by simpa using h,.inl (by simp [Zx,Zdj]),fun a ha b hb=>?_⟩
 obtain ⟨p,_,rfl⟩:=List.mem_map.mp ha
 obtain ⟨q,_,rfl⟩:=List.mem_map.mp hb
 simp only [ltD,Zx,ltT]
 split
 ·split
  ·split
   ·split
    ·rfl
    ·rfl
   ·rfl
  ·rfl
 ·rfl
noncomputable def Ze3 (r:Row) (t:Nat) (s:Stt):Option Use:=match r with
 | .get _ b=>some ⟨s.boxes.getD b 0,(t:Int),GET,Zcn s.cells (s.boxes.getD b 0)⟩
 | .set a b=>some ⟨s.boxes.getD a 0,(t:Int),SET,s.boxes.getD b 0⟩
 | _=>none
noncomputable def ZcV (roll:ZaK) (ss:List Stt) (t:Nat):Option Use:=(ss[t]?).bind fun s=>(roll[s.place]?).bind fun r=>Ze3 r t s
noncomputable def Zba (roll:ZaK) (ss:List Stt) (m:Nat):List Use:=(List.range m).filterMap (ZcV roll ss)
theorem ZdU (roll:ZaK) (ss:List Stt) (m:Nat):Zba roll ss (m + 1) = Zba roll ss m ++ (ZcV roll ss m).toList:=by
 unfold Zba
 rw [List.range_succ,List.filterMap_append]
 cases h:ZcV roll ss m <;> simp [h]
theorem Zme {r:Row} {t:Nat} {s:Stt} {u:Use} (h:Ze3 r t s = some u):u.time = t:=by
 cases r <;> simp [Ze3] at h <;> rw [← h]
theorem Zdg {roll:ZaK} {ss:List Stt} {t:Nat} {u:Use} (h:ZcV roll ss t = some u):u.time = t:=by
 unfold ZcV at h
 cases h1:ss[t]? with
 | none=>rw [h1] at h; cases h
 | some s=>
  rw [h1] at h
  simp only [Option.bind_some] at h
  cases h2:roll[s.place]? with
  | none=>rw [h2] at h; cases h
  | some r=>rw [h2] at h; exact Zme h
theorem Ze9 (roll:ZaK) (ss:List Stt) (m:Nat):(Zba roll ss m).length ≤ m:=by
 unfold Zba
 exact Nat.le_trans (List.length_filterMap_le _ _) (by simp)
theorem Zf8 {roll:ZaK} {ss:List Stt}:∀ {m:Nat} {u:Use},u ∈ Zba roll ss m → ∃ t,t < m ∧ ZcV roll ss t = some u:=fun {m u} h=>by
 unfold Zba at h
 obtain ⟨t,ht,e⟩:=List.mem_filterMap.mp h
 exact ⟨t,List.mem_range.mp ht,e⟩
theorem Zer (roll:ZaK) (ss:List Stt):∀ m,(Zba roll ss m).Pairwise fun a b=>a.time < b.time
 | 0=>by simp [Zba]
 | m + 1=>by
  rw [ZdU]
  refine List.pairwise_append.mpr ⟨Zer roll ss m,by cases ZcV roll ss m <;> simp,fun a ha b hb=>?_⟩
  obtain ⟨t,ht,e⟩:=Zf8 ha
  have e':ZcV roll ss m = some b:=by
   cases h:ZcV roll ss m with
   | none=>rw [h] at hb; cases hb
   | some c=>rw [h] at hb; simp at hb; rw [hb]
  have h1:=Zdg e
  have h2:=Zdg e'
  omega
theorem Zi2 (roll:ZaK) (ss:List Stt) (t:Nat):∀ m,t ≤ m → (Zba roll ss m).filter (fun u=>decide (u.time < (t:Int))) = Zba roll ss t
 | m,h=>by
  induction m with
  | zero=>
   have:t = 0:=by omega
   subst this; rfl
  | succ m ih=>
   by_cases c:t = m + 1
   ·subst c
    rw [List.filter_eq_self]
    intro u hu
    obtain ⟨k,hk,e⟩:=Zf8 hu
    have:=Zdg e
    exact decide_eq_true (by omega)
   ·rw [ZdU,List.filter_append,ih (by omega)]
    cases h:ZcV roll ss m with
    | none=>simp
    | some u=>
     have:=Zdg h
     have n:¬ u.time < (t:Int):=by omega
     simp [n]
noncomputable def Zd2 (t:List (Int × Int)) (us:List Use):List (Int × Int):=us.foldl (fun t u=>ZeK t u.num u.val) t
theorem Zgt:∀ (us:List Use) (t:List (Int × Int)),keysOk t → keysOk (Zd2 t us)
 | [],t,h=>h
 | u :: us,t,h=>Zgt us _ (Zfg u.num u.val h)
theorem ZfO {t:List (Int × Int)} (h:keysOk t) (n v m:Int):Zcn (ZeK t n v) m = if m = n then v else Zcn t m:=by
 have e:=ZfJ (ZeK t n v) m
 rw [← Zjx,Zjn] at e
 by_cases c:m = n
 ·rw [if_pos (by rw [c])] at e
  rw [if_pos c]
  simpa using e.symm
 ·rw [if_neg (by simp [c]),ZfJ] at e
  rw [if_neg c]
  simpa using e.symm
noncomputable def ZoZ (d:Int):List Use → Int
 | []=>d
 | u :: us=>ZoZ u.val us
theorem ZfT (n:Int):∀ (us:List Use) (t:List (Int × Int)),keysOk t → Zcn (Zd2 t us) n = ZoZ (Zcn t n) (us.filter fun u=>decide (u.num = n))
 | [],t,_=>rfl
 | u :: us,t,h=>by
  have ih:=ZfT n us (ZeK t u.num u.val) (Zfg _ _ h)
  rw [ZfO h] at ih
  show Zcn (Zd2 (ZeK t u.num u.val) us) n = _
  by_cases c:u.num = n
  ·rw [ih,if_pos c.symm,List.filter_cons_of_pos (by simpa using c)]; rfl
  ·rw [ih,if_neg (fun z=>c z.symm),List.filter_cons_of_neg (by simpa using c)]
theorem ZiA:∀ {x y:List Use},x.Perm y → x.Pairwise (fun a b=>a.time < b.time) → y.Pairwise (fun a b=>a.time ≤ b.time) → x = y
 | [],y,p,_,_=>(List.nil_perm.mp p).symm
 | a :: x,[],p,_,_=>absurd p.length_eq (by simp)
 | a :: x,b :: y,p,hx,hy=>by
  have hx':=List.pairwise_cons.mp hx
  have hy':=List.pairwise_cons.mp hy
  have e:a = b:=by
   rcases List.mem_cons.mp (p.mem_iff.mp List.mem_cons_self) with e | e
   ·exact e
   ·rcases List.mem_cons.mp (p.mem_iff.mpr List.mem_cons_self) with e' | e'
    ·exact e'.symm
    ·have h1:=hy'.1 a e
     have h2:=hx'.1 b e'
     omega
  subst e
  rw [ZiA (List.Perm.cons_inv p) hx'.2 hy'.2]
structure Zfi (us us2:List Use):Prop where
 perm:us2.Perm us
 ord:us2.Pairwise fun a b=>a.num < b.num ∨ (a.num = b.num ∧ a.time ≤ b.time)
theorem Zfi.filt {us us2:List Use} (S:Zfi us us2) (h:us.Pairwise fun a b=>a.time < b.time) (n:Int):us2.filter (fun u=>decide (u.num = n)) = us.filter fun u=>decide (u.num = n):=by
 refine (ZiA ((S.perm.filter _).symm) (h.filter _) ?_).symm
 have h2:=S.ord.filter (fun u=>decide (u.num = n))
 refine List.Pairwise.imp_of_mem ?_ h2
 intro a b ha hb hab
 have e1:a.num = n:=by simpa using (List.mem_filter.mp ha).2
 have e2:b.num = n:=by simpa using (List.mem_filter.mp hb).2
 omega
theorem Zhm (us:List Use) (hl:us.length ≤ 99999):∃ us2:List Use,Zfi us us2 ∧ Zjw (us.map Zx) = us2.map Zx:=by
 have ins:∀ (u:Use) (l:List Use),∃ l':List Use,l'.Perm (u :: l) ∧ ((l.map Zx).Pairwise leD → (l'.map Zx).Pairwise leD):=fun u l=>by
  have tot:∀ a b:Use,ltD (Zx a) (Zx b) = some false ∨ ltD (Zx b) (Zx a) = some false:=fun a b=>by
   have:(ltD (Zx a) (Zx b)).isSome = true:=(Zgu (us:=[a,b]) (by simp)).cmp _ (by simp) _ (by simp)
   cases h:ltD (Zx a) (Zx b) with
   | none=>rw [h] at this; cases this
   | some c=>cases c with
    | false=>exact .inl rfl
    | true=>exact .inr (Zhi h)
  induction l with
  | nil=>exact ⟨[u],.refl _,fun _=>by simp⟩
  | cons v l ih=>
   obtain ⟨l',p,h⟩:=ih
   rcases tot v u with c | c
   ·refine ⟨u :: v :: l,.refl _,fun hp=>?_⟩
    rw [List.map_cons]
    refine List.pairwise_cons.mpr ⟨fun d hd=>?_,hp⟩
    rw [List.map_cons] at hd hp
    rcases List.mem_cons.mp hd with e | e
    ·subst e; exact c
    ·exact Zng c ((List.pairwise_cons.mp hp).1 d e)
   ·refine ⟨v :: l',(p.cons v).trans (.swap u v l),fun hp=>?_⟩
    rw [List.map_cons] at hp
    have hp':=List.pairwise_cons.mp hp
    rw [List.map_cons]
    refine List.pairwise_cons.mpr ⟨fun d hd=>?_,h hp'.2⟩
    have:d ∈ (u :: l).map Zx:=(p.map Zx).mem_iff.mp hd
    rw [List.map_cons] at this
    rcases List.mem_cons.mp this with e | e
    ·subst e; exact c
    ·exact hp'.1 d e
 have ex:∀ l:List Use,∃ l':List Use,l'.Perm l ∧ (l'.map Zx).Pairwise leD:=fun l=>by
  induction l with
  | nil=>exact ⟨[],.refl _,by simp⟩
  | cons u l ih=>
   obtain ⟨l',p,h⟩:=ih
   obtain ⟨l2,p2,h2⟩:=ins u l'
   exact ⟨l2,p2.trans (p.cons u),h2 h⟩
 obtain ⟨us2,p,h⟩:=ex us
 refine ⟨us2,⟨p,?_⟩,Zhe ⟨p.map _,h⟩⟩
 rw [List.pairwise_map] at h
 refine h.imp fun {a b} h=>?_
 have h':ltT [.int b.num,.int b.time,.str b.word,.int b.val] [.int a.num,.int a.time,.str a.word,.int a.val] = some false:=h
 simp only [ltT] at h'
 by_cases c:b.num = a.num
 ·rw [if_pos c] at h'
  right
  refine ⟨c.symm,?_⟩
  by_cases c2:b.time = a.time
  ·omega
  ·rw [if_neg c2] at h'
   simp at h'
   exact h'
 ·rw [if_neg c] at h'
  simp at h'
  left; omega
noncomputable def Chain (roll:ZaK) (ss:List Stt):Prop:=∀ (i:Nat) s s',ss[i]? = some s → ss[i + 1]? = some s' → Zcs roll s = some s'
theorem Ziy (roll:ZaK) (k:Nat) (s:Stt):(ZcO roll k s)[0]? = some s:=by
 cases k with
 | zero=>rfl
 | succ k=>unfold ZcO; split <;> rfl
theorem Zhd (roll:ZaK):∀ (k:Nat) (s:Stt),Chain roll (ZcO roll k s)
 | 0,s,i,a,b,h1,h2=>by simp [ZcO] at h2
 | k + 1,s,i,a,b,h1,h2=>by
  unfold ZcO at h1 h2
  split at h1
  ·rename_i q; rw [q] at h2; simp at h2
  ·rename_i s' q
   rw [q] at h2
   simp only [List.getElem?_cons_succ] at h2
   cases i with
   | zero=>
    simp at h1; subst h1
    rw [Ziy] at h2
    cases h2; exact q
   | succ i=>exact Zhd roll k s' i a b (by simpa using h1) h2
theorem ZiZ {cs:List (Int × Int)} (h:Zel cs) (n v m:Int):Zcn (ZdA cs n v) m = if m = n then v else Zcn cs m:=by
 have K:=(Zeu (n:=n) (v:=v) h).keys
 by_cases c:m = n
 ·subst c
  rw [if_pos rfl]
  by_cases z:v = 0
  ·subst z
   refine Zdd fun q=>?_
   obtain ⟨p,hp,e⟩:=List.any_eq_true.mp q
   have e:p.1 = m:=by simpa using e
   rcases ZcF.mp hp with ⟨_,h2⟩ | ⟨h1,_⟩
   ·exact h2 rfl
   ·exact h1 e
  ·exact Zdq K (ZcF.mpr (.inl ⟨rfl,z⟩))
 ·rw [if_neg c]
  by_cases a:(cs.any fun p=>decide (p.1 = m)) = true
  ·obtain ⟨p,hp,e⟩:=List.any_eq_true.mp a
   have e:p.1 = m:=by simpa using e
   obtain ⟨x,y⟩:=p
   simp only at e
   subst e
   rw [Zdq h.keys hp]
   exact Zdq K (ZcF.mpr (.inr ⟨c,hp⟩))
  ·rw [Zdd a]
   refine Zdd fun q=>?_
   obtain ⟨p,hp,e⟩:=List.any_eq_true.mp q
   have e:p.1 = m:=by simpa using e
   rcases ZcF.mp hp with ⟨h1,_⟩ | ⟨_,h2⟩
   ·rw [h1] at e; exact c e.symm
   ·exact a (List.any_eq_true.mpr ⟨p,h2,by simpa using e⟩)
noncomputable def ZsT (cs:List (Int × Int)):Prop:=∀ p ∈ cs,p.2 ≠ 0
theorem Zj3 {roll:ZaK} {s s':Stt} {r:Row} (hr:roll[s.place]? = some r) (h:Zcs roll s = some s'):s'.cells = r.cells s.boxes s.cells:=by
 unfold Zcs at h
 rw [hr] at h
 simp only [Option.bind_some,Zfq] at h
 split at h
 ·cases h
 ·cases h; rfl
theorem Zig {roll:ZaK} {ss:List Stt} (C:Chain roll ss) (G:∀ s ∈ ss,Good roll s) (h0:∀ s,ss[0]? = some s → s.cells = []):∀ (t:Nat) (s:Stt),ss[t]? = some s → ZsT s.cells ∧ ∀ n,Zcn s.cells n = Zcn (Zd2 [] (Zba roll ss t)) n
 | 0,s,h=>by
  rw [h0 s h]
  exact ⟨fun p hp=>(by cases hp),fun n=>rfl⟩
 | t + 1,s',h'=>by
  have ht:t < ss.length:=by have:=(List.getElem?_eq_some_iff.mp h').1; omega
  have h:ss[t]? = some ss[t]:=by simp [ht]
  have g:=G _ (List.getElem_mem ht)
  generalize ss[t] = s at h g
  obtain ⟨nz,ih⟩:=Zig C G h0 t s h
  have gp:=g.pl
  have hr:roll[s.place]? = some roll[s.place]:=by simp [gp]
  generalize roll[s.place] = r at hr
  have ec:=Zj3 hr (C t s s' h h')
  have ea:ZcV roll ss t = Ze3 r t s:=by simp [ZcV,h,hr]
  have kk:keysOk (Zd2 [] (Zba roll ss t)):=Zgt _ _ (by simp [keysOk])
  have add:∀ u:Use,ea = ea → Zd2 [] (Zba roll ss t ++ [u]) = ZeK (Zd2 [] (Zba roll ss t)) u.num u.val:=fun u _=>by simp [Zd2]
  rw [ec,ZdU,ea]
  cases r with
  | get a b=>
   refine ⟨nz,fun n=>?_⟩
   simp only [Row.cells,Ze3,Option.toList_some]
   rw [add _ rfl,ZfO kk]
   by_cases c:n = s.boxes.getD b 0
   ·rw [if_pos c,c]
   ·rw [if_neg c]; exact ih n
  | set a b=>
   simp only [Row.cells,Ze3,Option.toList_some]
   refine ⟨fun p hp=>?_,fun n=>?_⟩
   ·rcases ZcF.mp hp with ⟨h1,h2⟩ | ⟨_,h2⟩
    ·rw [h1]; exact h2
    ·exact nz p h2
   ·rw [add _ rfl,ZfO kk,ZiZ g.rs]
    by_cases c:n = s.boxes.getD a 0
    ·rw [if_pos c,if_pos c]
    ·rw [if_neg c,if_neg c]; exact ih n
  | _=>
   simp only [Row.cells,Ze3,Option.toList_none,List.append_nil]
   exact ⟨nz,ih⟩
theorem ZmO:∀ (p q:List Use) (u:Use),(p ++ u :: q).Pairwise (fun a b=>a.time < b.time) → (p ++ u :: q).filter (fun v=>decide (v.time < u.time)) = p:=fun p q u h=>by
 obtain ⟨h1,h2,h3⟩:=List.pairwise_append.mp h
 rw [List.filter_append,List.filter_eq_self.mpr (fun v hv=>decide_eq_true (h3 v hv u List.mem_cons_self)),List.filter_eq_nil_iff.mpr,List.append_nil]
 intro v hv
 rcases List.mem_cons.mp hv with e | e
 ·subst e; simp
 ·have:=(List.pairwise_cons.mp h2).1 v e
  simp; omega
theorem Znf {roll:ZaK} {ss:List Stt} (C:Chain roll ss) (G:∀ s ∈ ss,Good roll s) (h0:∀ s,ss[0]? = some s → s.cells = []) {us2:List Use} (S:Zfi (Zba roll ss (ss.length - 1)) us2) {p q:List Use} {u:Use} (e:us2 = p ++ u :: q) (hw:u.word = GET):u.val = Zcn (Zd2 [] p) u.num:=by
 have k0:keysOk ([]:List (Int × Int)):=by simp [keysOk]
 have hu:u ∈ Zba roll ss (ss.length - 1):=S.perm.mem_iff.mp (by rw [e]; simp)
 obtain ⟨t,ht,ea⟩:=Zf8 hu
 have tm:=Zdg ea
 have h:ss[t]? = some ss[t]:=by simp
 obtain ⟨_,el⟩:=Zig C G h0 t _ h
 have F:=S.filt (Zer roll ss _) u.num
 have P:=(Zer roll ss (ss.length - 1)).filter fun v=>decide (v.num = u.num)
 rw [← F] at P
 have F2:us2.filter (fun v=>decide (v.num = u.num)) = p.filter (fun v=>decide (v.num = u.num)) ++ u :: q.filter fun v=>decide (v.num = u.num):=by
  rw [e,List.filter_append,List.filter_cons_of_pos (by simp)]
 rw [F2] at P
 have cut:=ZmO _ _ u P
 rw [← F2,F,List.filter_filter] at cut
 rw [ZfT _ _ _ k0,← cut]
 have e2:=el u.num
 rw [ZfT _ _ _ k0,← Zi2 roll ss t (ss.length - 1) (by omega),List.filter_filter,← tm] at e2
 rw [show (fun a:Use=>decide (a.time < u.time) && decide (a.num = u.num)) = fun a=>decide (a.num = u.num) && decide (a.time < u.time) from funext fun a=>Bool.and_comm _ _]
 rw [← e2]
 unfold ZcV at ea
 rw [h] at ea
 simp only [Option.bind_some] at ea
 cases h2:roll[ss[t].place]? with
 | none=>rw [h2] at ea; cases ea
 | some r=>
  rw [h2] at ea
  simp only [Option.bind_some] at ea
  cases r <;> simp only [Ze3,reduceCtorEq,Option.some.injEq] at ea
  ·exact (congrArg Use.val ea).symm.trans (congrArg (Zcn _) (congrArg Use.num ea))
  ·rw [← ea] at hw; simp at hw
theorem ZjR (n:Nat) (us:List Use):below n (.tup (us.map Zx)) = true:=by
 unfold below
 induction us with
 | nil=>rfl
 | cons u us ih=>simp only [List.map_cons,belowL,ih,Zl5,Bool.and_self]
theorem ZeV {roll:ZaK} {s s':Stt} {r:Row} (hr:roll[s.place]? = some r) (h:Zcs roll s = some s'):s'.boxes = r.boxes s.boxes s.cells:=by
 unfold Zcs at h
 rw [hr] at h
 simp only [Option.bind_some,Zfq] at h
 split at h
 ·cases h
 ·cases h; rfl
theorem Zmy (r:Row):(∃ a b,r = .get a b) ∨ (∃ a b,r = .set a b) ∨ (¬ Zd3 r = [103,101,116] ∧ ¬ Zd3 r = [115,101,116] ∧ ∀ k s,Ze3 r k s = none):=by
 cases r with
 | get a b=>exact .inl ⟨a,b,rfl⟩
 | set a b=>exact .inr (.inl ⟨a,b,rfl⟩)
 | _=>exact .inr (.inr ⟨of_decide_eq_true rfl,of_decide_eq_true rfl,fun _ _=>rfl⟩)
theorem Zgw (roll:ZaK) (R:Za0 roll) (ss:List Stt) (C:Chain roll ss) (n:Nat) (M:Store) (hM:M[n]? = some (.lst (ss.map Zaf))) (hg:∀ s ∈ ss,Good roll s) (h0:0 < ss.length) (hz:ss.length ≤ 5000) {us2:List Use} (hs2:Zjw ((Zba roll ss (ss.length - 1)).map Zx) = us2.map Zx):
  ZcE [Zh roll,.ref n] M = .ok (.tup (us2.map Zx)) M:=by
 obtain ⟨e',M',lp,us,x3,x4,x5,x6,lu,rfl,rfl⟩:=ZhH (it:=⟨Zc9 0 (ss.length - 1),none⟩) (g:=Zcw 3)
  (body:=(Zw (ZkB (eSl (e2 Ze (Za 1) (Za 3)) (ZaW) (ZaX (eC (.int 2)))) (Zd4 [4,5])) (Zw (Zan 6 (e2 Ze (Za 0) (Za 4))) (Zw (sIf (e2 ZaF (e2 Ze (Za 6) (eC (.int 0))) (eC (.str [103,101,116]))) (Za9 (ZdV tyL Zbz (Za 2) (Zb (ZaD (Zb (e2 Ze (Za 5) (e2 Ze (Za 6) (eC (.int 2)))) (Zb (Za 3) (Zb (eC (.str [103,101,116])) (Zb (e2 Ze (e2 Ze (e2 Ze (Za 1) (e2 Zar (Za 3) (eC (.int 1)))) (eC (.int 1))) (e2 Ze (Za 6) (eC (.int 1)))) (Zg)))))) (Zg)))) (Zaa)) (sIf (e2 ZaF (e2 Ze (Za 6) (eC (.int 0))) (eC (.str [115,101,116]))) (Za9 (ZdV tyL Zbz (Za 2) (Zb (ZaD (Zb (e2 Ze (Za 5) (e2 Ze (Za 6) (eC (.int 1)))) (Zb (Za 3) (Zb (eC (.str [115,101,116])) (Zb (e2 Ze (Za 5) (e2 Ze (Za 6) (eC (.int 2)))) (Zg)))))) (Zg)))) (Zaa))))))
  (P:=fun j env M'=>∃ (us:List Use) (x3 x4 x5 x6:Option D),us = Zba roll ss j ∧ env = [some (Zh roll),some (.ref n),some (.ref M.length),x3,x4,x5,x6] ∧ M' = M ++ [.lst (us.map Zx)])
  (Zc9 0 (ss.length - 1)) 0 [some (Zh roll),some (.ref n),some (.ref M.length),none,none,none,none] (M ++ [.lst []]) ⟨[],none,none,none,none,rfl,rfl,rfl⟩ (fun _ _ _ _=>rfl)
  (fun k d hd env M' ⟨us,x3,x4,x5,x6,lu,he,hm⟩=>by
   obtain ⟨rfl,lk⟩:=ZgZ hd
   subst he hm
   have hk0:k < ss.length:=by omega
   have hk1:k + 1 < ss.length:=by omega
   have g0:=hg _ (List.getElem_mem hk0)
   have g1:=hg _ (List.getElem_mem hk1)
   have q0:Zbi (ss.map Zaf) ((k:Nat):Int) = some (Zaf ss[k]):=by rw [Zdp,List.getElem?_map,List.getElem?_eq_getElem hk0]; rfl
   have q1:Zbi (ss.map Zaf) ((k:Int) + 1) = some (Zaf ss[k + 1]):=by
    rw [show ((k:Int) + 1) = ((k + 1:Nat):Int) by omega,Zdp,List.getElem?_map,List.getElem?_eq_getElem hk1]; rfl
   have i0:ss[k]? = some ss[k]:=List.getElem?_eq_getElem hk0
   have i1:ss[k + 1]? = some ss[k + 1]:=List.getElem?_eq_getElem hk1
   have sp:=C k _ _ i0 i1
   generalize ss[k] = s at g0 q0 i0 sp
   generalize ss[k + 1] = s' at g1 q1 i1 sp
   have hM':=ZcZ hM [.lst (us.map Zx)]
   have gn:(M ++ [MO.lst (us.map Zx)])[M.length]? = some (.lst (us.map Zx)):=Zb4 _ _ _
   have c2:cutD [D.int (s.place:Int),Zi s.boxes,ZaR s.cells] none (some 2) = [.int (s.place:Int),Zi s.boxes]:=by exact rfl
   have s4:ZkB (eSl (e2 Ze (Za 1) (Za 3)) (ZaW) (ZaX (eC (.int 2)))) (Zd4 [4,5]) [some (Zh roll),some (.ref n),some (.ref M.length),some (.int (k:Int)),x4,x5,x6] (M ++ [.lst (us.map Zx)]) = .nx [some (Zh roll),some (.ref n),some (.ref M.length),some (.int (k:Int)),some (.int (s.place:Int)),some (Zi s.boxes),x6] (M ++ [.lst (us.map Zx)]):=by
    simp only [ZkB,eSl,e2,Za,eC,ZaW,ZaX,List.getElem?_cons_succ,List.getElem?_cons_zero,R3.bind,Ze,hM',q0,Zaf,ZfP,c2,Zd4,bindAll,List.set_cons_succ,List.set_cons_zero]
   have gp:=g0.pl
   have hr:roll[s.place]? = some roll[s.place]:=by simp [gp]
   have ro:=R.rows _ (List.getElem_mem gp)
   generalize roll[s.place] = r at hr ro
   have ea:ZcV roll ss k = Ze3 r k s:=by simp [ZcV,i0,hr]
   have eb:=ZeV hr sp
   rw [Nat.zero_add] at lu
   have ll:us.length ≤ k:=by rw [lu]; exact Ze9 roll ss k
   have s6:(e2 Ze (Za 0) (Za 4)) [some (Zh roll),some (.ref n),some (.ref M.length),some (.int (k:Int)),some (.int (s.place:Int)),some (Zi s.boxes),x6] (M ++ [.lst (us.map Zx)]) = .ok (Zn r) (M ++ [.lst (us.map Zx)]):=Zai rfl rfl (Zhy hr)
   have lz:us.length < 1000000:=by omega
   have cn':∀ (w:List Nat) (m:Nat) (M:Store),(e2 ZaF (e2 Ze (Za 6) (eC (.int 0))) (eC (.str w))) [some (Zh roll),some (.ref n),some (.ref m),some (.int (k:Int)),some (.int (s.place:Int)),some (Zi s.boxes),some (Zn r)] M = .ok (.bl (decide (Zd3 r = w))) M:=fun w m M=>Zai (Zai rfl rfl (Ze1 r M)) rfl (by exact rfl)
   have cnT:∀ (w:List Nat) (m:Nat) (M:Store),Zd3 r = w → (e2 ZaF (e2 Ze (Za 6) (eC (.int 0))) (eC (.str w))) [some (Zh roll),some (.ref n),some (.ref m),some (.int (k:Int)),some (.int (s.place:Int)),some (Zi s.boxes),some (Zn r)] M = .ok (.bl true) M:=fun w m M h=>by rw [cn' w m M,decide_eq_true h]
   have cnF:∀ (w:List Nat) (m:Nat) (M:Store),¬ Zd3 r = w → (e2 ZaF (e2 Ze (Za 6) (eC (.int 0))) (eC (.str w))) [some (Zh roll),some (.ref n),some (.ref m),some (.int (k:Int)),some (.int (s.place:Int)),some (Zi s.boxes),some (Zn r)] M = .ok (.bl false) M:=fun w m M h=>by rw [cn' w m M,decide_eq_false h]
   have fin:∀ (us2:List Use),us2 = us ++ (Ze3 r k s).toList → (Zw (sIf (e2 ZaF (e2 Ze (Za 6) (eC (.int 0))) (eC (.str [103,101,116]))) (Za9 (ZdV tyL Zbz (Za 2) (Zb (ZaD (Zb (e2 Ze (Za 5) (e2 Ze (Za 6) (eC (.int 2)))) (Zb (Za 3) (Zb (eC (.str [103,101,116])) (Zb (e2 Ze (e2 Ze (e2 Ze (Za 1) (e2 Zar (Za 3) (eC (.int 1)))) (eC (.int 1))) (e2 Ze (Za 6) (eC (.int 1)))) (Zg)))))) (Zg)))) (Zaa)) (sIf (e2 ZaF (e2 Ze (Za 6) (eC (.int 0))) (eC (.str [115,101,116]))) (Za9 (ZdV tyL Zbz (Za 2) (Zb (ZaD (Zb (e2 Ze (Za 5) (e2 Ze (Za 6) (eC (.int 1)))) (Zb (Za 3) (Zb (eC (.str [115,101,116])) (Zb (e2 Ze (Za 5) (e2 Ze (Za 6) (eC (.int 2)))) (Zg)))))) (Zg)))) (Zaa))) [some (Zh roll),some (.ref n),some (.ref M.length),some (.int (k:Int)),some (.int (s.place:Int)),some (Zi s.boxes),some (Zn r)] (M ++ [.lst (us.map Zx)]) = .nx [some (Zh roll),some (.ref n),some (.ref M.length),some (.int (k:Int)),some (.int (s.place:Int)),some (Zi s.boxes),some (Zn r)] (M ++ [.lst (us2.map Zx)]) →
     ∃ env1 e' M',Zcw 3 (.int (k:Int)) [some (Zh roll),some (.ref n),some (.ref M.length),x3,x4,x5,x6] = some env1 ∧ (Zw (ZkB (eSl (e2 Ze (Za 1) (Za 3)) (ZaW) (ZaX (eC (.int 2)))) (Zd4 [4,5])) (Zw (Zan 6 (e2 Ze (Za 0) (Za 4))) (Zw (sIf (e2 ZaF (e2 Ze (Za 6) (eC (.int 0))) (eC (.str [103,101,116]))) (Za9 (ZdV tyL Zbz (Za 2) (Zb (ZaD (Zb (e2 Ze (Za 5) (e2 Ze (Za 6) (eC (.int 2)))) (Zb (Za 3) (Zb (eC (.str [103,101,116])) (Zb (e2 Ze (e2 Ze (e2 Ze (Za 1) (e2 Zar (Za 3) (eC (.int 1)))) (eC (.int 1))) (e2 Ze (Za 6) (eC (.int 1)))) (Zg)))))) (Zg)))) (Zaa)) (sIf (e2 ZaF (e2 Ze (Za 6) (eC (.int 0))) (eC (.str [115,101,116]))) (Za9 (ZdV tyL Zbz (Za 2) (Zb (ZaD (Zb (e2 Ze (Za 5) (e2 Ze (Za 6) (eC (.int 1)))) (Zb (Za 3) (Zb (eC (.str [115,101,116])) (Zb (e2 Ze (Za 5) (e2 Ze (Za 6) (eC (.int 2)))) (Zg)))))) (Zg)))) (Zaa))))) env1 (M ++ [.lst (us.map Zx)]) = .nx e' M' ∧ ∃ (us:List Use) (x3 x4 x5 x6:Option D),us = Zba roll ss (0 + k + 1) ∧ e' = [some (Zh roll),some (.ref n),some (.ref M.length),x3,x4,x5,x6] ∧ M' = M ++ [.lst (us.map Zx)]:=fun us2 l2 h=>
    ⟨_,_,_,rfl,(Zk s4).trans ((Zk (Zag s6)).trans h),us2,_,_,_,_,by rw [Nat.zero_add,ZdU,ea,← lu]; exact l2,rfl,rfl⟩
   rcases Zmy r with ⟨a,b,rfl⟩ | ⟨a,b,rfl⟩ | ⟨n1,n2,n3⟩
   ·
    obtain ⟨y1,hy1,gy1⟩:=Za8 g0.bx ro.2
    obtain ⟨y2,hy2,gy2⟩:=Za8 g1.bx ro.1
    have ar:(ZaD (Zb (e2 Ze (Za 5) (e2 Ze (Za 6) (eC (.int 2)))) (Zb (Za 3) (Zb (eC (.str [103,101,116])) (Zb (e2 Ze (e2 Ze (e2 Ze (Za 1) (e2 Zar (Za 3) (eC (.int 1)))) (eC (.int 1))) (e2 Ze (Za 6) (eC (.int 1)))) (Zg)))))) [some (Zh roll),some (.ref n),some (.ref M.length),some (.int (k:Int)),some (.int (s.place:Int)),some (Zi s.boxes),some (Zn (.get a b))] (M ++ [.lst (us.map Zx)]) = .ok (Zx ⟨y1,(k:Int),[103,101,116],y2⟩) (M ++ [.lst (us.map Zx)]):=by
     simp only [ZaD,Zb,Zg,e2,Za,eC,Zn,Zi,List.getElem?_cons_succ,List.getElem?_cons_zero,R3.bind,Zar,Ze,ZhI,gy1,hM',q1,Zaf,gy2]
     simp [Zx]
    have ap:=ZeT (Zgd (o:=Za 2) (env:=[some (Zh roll),some (.ref n),some (.ref M.length),some (.int (k:Int)),some (.int (s.place:Int)),some (Zi s.boxes),some (Zn (.get a b))]) (M:=M ++ [.lst (us.map Zx)]) (n:=M.length) (xs:=us.map Zx) (ys:=us.map Zx) rfl gn ar gn (by simpa using lz))
    refine fin (us ++ [⟨y1,(k:Int),[103,101,116],y2⟩]) (by
     have ag:=g0.bx
     have e2:y2 = Zcn s.cells (s.boxes.getD b 0):=by
      rw [← hy2,eb]
      simp only [Row.boxes,List.getD_eq_getElem?_getD]
      rw [List.getElem?_set_self (by rw [ag]; exact ro.1)]; rfl
     rw [e2,← hy1]; rfl) ((Zk ((ZaM (cnT _ _ _ rfl)).trans ap)).trans ((Zy (cnF _ _ _ (by simp [Zd3]))).trans ?_))
    simp
   ·
    obtain ⟨y1,hy1,gy1⟩:=Za8 g0.bx ro.1
    obtain ⟨y2,hy2,gy2⟩:=Za8 g0.bx ro.2
    have ar:(ZaD (Zb (e2 Ze (Za 5) (e2 Ze (Za 6) (eC (.int 1)))) (Zb (Za 3) (Zb (eC (.str [115,101,116])) (Zb (e2 Ze (Za 5) (e2 Ze (Za 6) (eC (.int 2)))) (Zg)))))) [some (Zh roll),some (.ref n),some (.ref M.length),some (.int (k:Int)),some (.int (s.place:Int)),some (Zi s.boxes),some (Zn (.set a b))] (M ++ [.lst (us.map Zx)]) = .ok (Zx ⟨y1,(k:Int),[115,101,116],y2⟩) (M ++ [.lst (us.map Zx)]):=by
     simp only [ZaD,Zb,Zg,e2,Za,eC,Zn,Zi,List.getElem?_cons_succ,List.getElem?_cons_zero,R3.bind,Ze,ZhI,gy1,gy2]
     simp [Zx]
    have ap:=ZeT (Zgd (o:=Za 2) (env:=[some (Zh roll),some (.ref n),some (.ref M.length),some (.int (k:Int)),some (.int (s.place:Int)),some (Zi s.boxes),some (Zn (.set a b))]) (M:=M ++ [.lst (us.map Zx)]) (n:=M.length) (xs:=us.map Zx) (ys:=us.map Zx) rfl gn ar gn (by simpa using lz))
    refine fin (us ++ [⟨y1,(k:Int),[115,101,116],y2⟩]) (by rw [← hy1,← hy2]; rfl) ((Zk (Zy (cnF _ _ _ (by simp [Zd3])))).trans ((ZaM (cnT _ _ _ rfl)).trans (ap.trans ?_)))
    simp
   ·exact fin us (by rw [n3,Option.toList_none,List.append_nil]) ((Zk (Zy (cnF _ _ _ n1))).trans (Zy (cnF _ _ _ n2))))
 rw [ZgX,Nat.zero_add] at lu
 subst lu
 have so:=Zgu (us:=Zba roll ss (ss.length - 1)) (by have:=Ze9 roll ss (ss.length - 1); omega)
 refine Rt.pure (G:=[.lst ((Zba roll ss (ss.length - 1)).map Zx),.lst (us2.map Zx)]) (env:=[some (Zh roll),some (.ref n),none,none,none,none,none]) ?_ (ZjR _ _)
 have ir:(ZdD (e2 Zds (Zas ZaY (Zb (Za 1) (Zg))) (eC (.int 1)))) [some (Zh roll),some (.ref n),some (.ref M.length),none,none,none,none] (M ++ [.lst []]) = .ok ⟨Zc9 0 (ss.length - 1),none⟩ (M ++ [.lst []]):=by
  have b:((ss.length:Int) - 1) ≤ 1000000 ∧ -1000000 ≤ ((ss.length:Int) - 1):=by omega
  have e:((ss.length:Int) - 1).toNat = ss.length - 1:=by omega
  simp [ZcZ hM,b,e]
 refine (Zk (Zag (d:=.ref M.length) (M':=M ++ [.lst []]) (by simp))).trans ((Zk ((ZgV (g:=Zcw 3) ir).trans lp)).trans (ZaO ?_))
 have bsr:Zas Zbh (Zb (Za 2) (Zg)) [some (Zh roll),some (.ref n),some (.ref M.length),x3,x4,x5,x6] (M ++ [.lst ((Zba roll ss (ss.length - 1)).map Zx)]) = .ok (.ref (M ++ [MO.lst ((Zba roll ss (ss.length - 1)).map Zx)]).length) (M ++ [.lst ((Zba roll ss (ss.length - 1)).map Zx),.lst (us2.map Zx)]):=by
  refine Zd6 (a:=.ref M.length) (M1:=M ++ [.lst ((Zba roll ss (ss.length - 1)).map Zx)]) rfl ?_
  simp only [Zbh,Zb4,if_pos so,hs2,alloc]
  simp
 refine Zd6 bsr ?_
 have:(M ++ [MO.lst ((Zba roll ss (ss.length - 1)).map Zx),.lst (us2.map Zx)])[(M ++ [MO.lst ((Zba roll ss (ss.length - 1)).map Zx)]).length]? = some (.lst (us2.map Zx)):=by
  rw [List.length_append]; exact ZaV _ _ 1
 simp only [Za7,this]
noncomputable def ZbR (s:Stt):Stp:=((s.place:Int),s.boxes)
theorem ZnP {roll:ZaK} (R:Za0 roll) {s s':Stt} (g:Good roll s) (h:Zcs roll s = some s'):Zkc roll (s.place:Int) s.boxes (s'.place:Int) s'.boxes = true:=by
 have gp:=g.pl
 have hr:roll[s.place]? = some roll[s.place]:=by simp [gp]
 have ro:=R.rows _ (List.getElem_mem gp)
 have eb:=ZeV hr h
 generalize roll[s.place] = r at hr ro eb
 have nh:r.isHalt = false ∧ s'.place = r.place s.boxes s.place:=by
  unfold Zcs at h
  rw [hr] at h
  simp only [Option.bind_some,Zfq] at h
  split at h
  ·cases h
  ·rename_i q
   cases h
   exact ⟨by simpa using q,rfl⟩
 unfold Zkc
 rw [if_pos ⟨by omega,by omega⟩,Int.toNat_natCast,hr]
 simp only [nh.1,Bool.false_eq_true,if_false,nh.2,decide_true,Bool.true_and,decide_eq_true_eq]
 rw [eb]
 cases r with
 | get a b=>
  simp only [Row.boxes,Zdz,List.getD_eq_getElem?_getD]
  rw [List.getElem?_set_self (by rw [g.bx]; exact ro.1)]
  rfl
 | _=>rfl
theorem Zkr {roll:ZaK} (R:Za0 roll) {ss:List Stt} (C:Chain roll ss) (G:∀ s ∈ ss,Good roll s):Zd9 roll (ss.map ZbR) = none:=by
 unfold Zd9
 rw [List.find?_eq_none]
 intro k hk
 rw [List.length_map,List.mem_range] at hk
 have i0:ss[k]? = some (ss[k]'(by omega)):=List.getElem?_eq_getElem _
 have i1:ss[k + 1]? = some (ss[k + 1]'(by omega)):=List.getElem?_eq_getElem _
 have f:=ZnP R (G _ (List.mem_of_getElem? i0)) (C k _ _ i0 i1)
 unfold ZgD
 rw [List.getElem?_map,List.getElem?_map,i0,i1]
 simp only [Option.map_some,ZbR,f]
 decide
theorem Zhv {roll:ZaK} (R:Za0 roll) {ss:List Stt} (C:Chain roll ss) (G:∀ s ∈ ss,Good roll s) {bs:List Int} (h0:ss[0]? = some ⟨0,bs,[]⟩) {s:Stt} (hl:ss.getLast? = some s):
  ZcS roll bs (ss.map ZbR) = if ZdL roll s then none else some (END,ss.length - 1):=by
 have F:=Zkr R C G
 match ss,h0 with
 | a :: ss,h0=>
  have ea:a = ⟨0,bs,[]⟩:=by simpa using h0
  rw [List.map_cons] at F ⊢
  have e:(ZbR a :: ss.map ZbR).getLastD (0,[]) = ZbR s:=by
   have:=congrArg (Option.map ZbR) hl
   rw [← List.getLast?_map,List.map_cons,Option.map_some] at this
   rw [List.getLastD_eq_getLast?,this]; rfl
  have g:=G s (List.mem_of_getLast? hl)
  have gp:=g.pl
  have hr:roll[s.place]? = some roll[s.place]:=by simp [gp]
  have hh:Zib roll (ZbR s).1 = ZdL roll s:=by
   unfold Zib
   rw [show (ZbR s).1 = ((s.place:Nat):Int) from rfl,Zem hr]
   unfold ZdL
   rw [hr]
  have na:¬ ZbR a ≠ (0,bs):=by rw [ea]; simp [ZbR]
  unfold ZcS
  dsimp only
  rw [if_neg na,F]
  simp only [e,hh,List.length_cons,List.length_map]
theorem ZqM {roll:ZaK} (R:Za0 roll) {ss:List Stt} (C:Chain roll ss) (G:∀ s ∈ ss,Good roll s) {u:Use} (hu:u ∈ Zba roll ss (ss.length - 1)):ZdY roll (ss.map ZbR) u = true:=by
 obtain ⟨t,ht,ea⟩:=Zf8 hu
 have tm:=Zdg ea
 have i0:ss[t]? = some (ss[t]'(by omega)):=List.getElem?_eq_getElem _
 have i1:ss[t + 1]? = some (ss[t + 1]'(by omega)):=List.getElem?_eq_getElem _
 have sp:=C t _ _ i0 i1
 have g:=G _ (List.mem_of_getElem? i0)
 generalize ss[t]'(by omega) = s at i0 sp g
 generalize ss[t + 1]'(by omega) = s' at i1 sp
 have gp:=g.pl
 have hr:roll[s.place]? = some roll[s.place]:=by simp [gp]
 have ro:=R.rows _ (List.getElem_mem gp)
 have eb:=ZeV hr sp
 generalize roll[s.place] = r at hr ro eb
 have eu:Ze3 r t s = some u:=by
  have:ZcV roll ss t = Ze3 r t s:=by simp [ZcV,i0,hr]
  rw [← this]; exact ea
 unfold ZdY
 rw [if_pos ⟨by omega,by rw [List.length_map]; omega⟩,show u.time.toNat = t by omega,List.getElem?_map,List.getElem?_map,i0,i1]
 simp only [Option.map_some,ZbR,Zem hr]
 cases r <;> simp only [Ze3,reduceCtorEq,Option.some.injEq] at eu
 ·rename_i a b
  subst eu
  simp only [Zgb,decide_true,Bool.true_and,decide_eq_true_eq,eb,Row.boxes,List.getD_eq_getElem?_getD]
  rw [List.getElem?_set_self (by rw [g.bx]; exact ro.1)]
  rfl
 ·subst eu
  simp [Zgb]
theorem ZgE {α:Type} {p:α → Bool}:∀ {xs:List α} {k:Nat},(∀ x ∈ xs,p x = true) → Zd8 p xs k = none
 | [],_,_=>rfl
 | x :: xs,k,h=>by
  unfold Zd8
  rw [if_pos (h x List.mem_cons_self)]
  exact ZgE fun y hy=>h y (List.mem_cons_of_mem _ hy)
theorem ZoU {roll:ZaK} {ss:List Stt} (G:∀ s ∈ ss,Good roll s):(Zgi roll (ss.map ZbR)).length = (Zba roll ss (ss.length - 1)).length:=by
 have one:∀ s ∈ ss,∀ t,(match Zfl roll (ZbR s).1 with | some r=>ZfH r | none=>false) = ((roll[s.place]?).bind fun r=>Ze3 r t s).isSome:=fun s hs t=>by
  have gp:=(G s hs).pl
  have hr:roll[s.place]? = some roll[s.place]:=by simp [gp]
  rw [show (ZbR s).1 = ((s.place:Nat):Int) from rfl,Zem hr,hr]
  generalize roll[s.place] = r
  cases r <;> rfl
 have gen:∀ m,m ≤ ss.length → (((ss.take m).map ZbR).filter fun s=>match Zfl roll s.1 with | some r=>ZfH r | none=>false).length = (Zba roll ss m).length:=fun m=>by
  induction m with
  | zero=>intro _; rfl
  | succ m ih=>
   intro hm
   have i0:ss[m]? = some (ss[m]'(by omega)):=List.getElem?_eq_getElem _
   rw [ZdU,List.length_append,← ih (by omega),List.take_add_one,i0]
   have o:=one _ (List.mem_of_getElem? i0) m
   generalize ss[m]'(by omega) = s at i0 o
   have ea:ZcV roll ss m = (roll[s.place]?).bind fun r=>Ze3 r m s:=by simp [ZcV,i0]
   rw [ea,List.map_append,List.filter_append,List.length_append]
   congr 1
   simp only [Option.toList_some,List.map_cons,List.map_nil]
   cases q:(roll[s.place]?).bind fun r=>Ze3 r m s with
   | none=>rw [q] at o; rw [List.filter_cons_of_neg (by rw [o]; decide)]; rfl
   | some u=>rw [q] at o; rw [List.filter_cons_of_pos (by rw [o]; rfl)]; rfl
 unfold Zgi
 rw [← List.map_dropLast,List.dropLast_eq_take]
 exact gen _ (by omega)
theorem Zhg {us2:List Use} (ord:us2.Pairwise fun a b=>a.num < b.num ∨ (a.num = b.num ∧ a.time < b.time)) (told:∀ p u q,us2 = p ++ u :: q → u.word = GET → u.val = Zcn (Zd2 [] p) u.num):∀ (rs p:List Use) (k:Nat),us2 = p ++ rs → ZdQ p.getLast? rs k = none
 | [],_,_,_=>rfl
 | u :: rs,p,k,e=>by
  have nx:=Zhg ord told rs (p ++ [u]) (k + 1) (by rw [e]; simp)
  rw [List.getLast?_concat] at nx
  have fit:Zgv p.getLast? u = true:=by
   have tu:=told p u rs e
   rw [e] at ord
   obtain ⟨o1,_,o3⟩:=List.pairwise_append.mp ord
   have k0:keysOk ([]:List (Int × Int)):=by simp [keysOk]
   rcases List.eq_nil_or_concat p with q | ⟨p0,a,q⟩ <;> try rw [List.concat_eq_append] at q
   ·subst q
    by_cases c:u.word = GET
    ·simp [Zgv,c,tu c,Zd2,Zcn]
    ·simp [Zgv,c]
   ·subst q
    have oa:=o3 a (by simp) u List.mem_cons_self
    rw [List.getLast?_concat]
    unfold Zgv
    dsimp only
    rw [if_neg (by omega)]
    by_cases c:u.word = GET
    ·rw [if_neg (by simp [c])]
     have tv:=tu c
     have eh:Zd2 [] (p0 ++ [a]) = ZeK (Zd2 [] p0) a.num a.val:=by simp [Zd2]
     rw [eh,ZfO (Zgt p0 [] k0)] at tv
     by_cases d:a.num = u.num
     ·rw [if_pos d]
      rw [if_pos d.symm] at tv
      exact decide_eq_true tv
     ·rw [if_neg d]
      rw [if_neg (fun z=>d z.symm),ZfT _ _ _ k0,List.filter_eq_nil_iff.mpr] at tv
      ·exact decide_eq_true tv
      ·intro b hb
       have ob:=(List.pairwise_append.mp o1).2.2 b hb a (by simp)
       simp only [decide_eq_true_eq]
       omega
    ·rw [if_pos c]
  unfold ZdQ
  rw [if_pos fit]
  exact nx
theorem ZkY {roll:ZaK} (R:Za0 roll) {ss:List Stt} (C:Chain roll ss) (G:∀ s ∈ ss,Good roll s) (h0:∀ s,ss[0]? = some s → s.cells = []) {us2:List Use} (S:Zfi (Zba roll ss (ss.length - 1)) us2):Zhb roll (ss.map ZbR) us2 = none:=by
 have ne:us2.Pairwise fun a b=>a.time ≠ b.time:=by
  have h:=Zer roll ss (ss.length - 1)
  have h':(Zba roll ss (ss.length - 1)).Pairwise fun a b=>a.time ≠ b.time:=h.imp fun {a b} q=>by omega
  exact (S.perm.pairwise_iff (fun {a b} q=>Ne.symm q)).mpr h'
 have ord:us2.Pairwise fun a b=>a.num < b.num ∨ (a.num = b.num ∧ a.time < b.time):=(S.ord.and ne).imp fun {a b} q=>by
  obtain ⟨q1,q2⟩:=q
  omega
 have u1:=Zhg ord (fun p u q e hw=>Znf C G h0 S e hw) us2 [] 0 rfl
 rw [List.getLast?_nil] at u1
 unfold Zhb
 rw [u1]
 dsimp only
 rw [ZgE fun u hu=>ZqM R C G (S.perm.mem_iff.mp hu)]
 dsimp only
 rw [if_neg]
 rw [ZoU G,S.perm.length_eq]
 exact fun q=>q rfl
noncomputable def Zcz (s:Stt):D:=.tup [.int s.place,Zi s.boxes]
noncomputable def Zbr (ss:List Stt):D:=.tup (ss.map Zcz)
theorem Znd {env:ZaE} {i:Nat} {n:Nat} {M:Store} {ss:List Stt} (hi:env[i]? = some (some (.ref n))) (hM:M[n]? = some (.lst (ss.map Zaf))) (hz:ss.length ≤ 100000):
  eLC (ZiM (Za i)) 1 (Zcw env.length) [] (ZaD (Zb (e2 Ze (Za env.length) (eC (.int 0))) (Zb (e2 Ze (Za env.length) (eC (.int 1))) (Zg)))) env M = .ok (.ref M.length) (M ++ [.lst (ss.map Zcz)]):=by
 refine Zqz (enc:=Zaf) (h:=Zcz) (own:=1) (i:=env.length) (lock:=some n) (as:=ss) (M:=M) (M1:=M) (by simp [hi,hM]) (fun m h=>by cases h; exact hM) (fun s hs M=>?_) hz
 have e:((env ++ List.replicate 1 none).set env.length (some (Zaf s)))[env.length]? = some (some (Zaf s)):=by simp
 generalize (env ++ List.replicate 1 none).set env.length (some (Zaf s)) = env' at e
 simp [e,Zaf,Zcz]
theorem Chain.take {roll:ZaK} {ss:List Stt} (C:Chain roll ss) (k:Nat):Chain roll (ss.take k):=fun i s s' h1 h2=>by
 have l:=(List.getElem?_eq_some_iff.mp h2).1
 rw [List.length_take] at l
 rw [List.getElem?_take_of_lt (by omega)] at h1 h2
 exact C i s s' h1 h2
theorem Zh6 (ss:List Stt):Zbr ss = Zbd (ss.map ZbR):=by
 unfold Zbr Zbd
 rw [List.map_map]
 rfl
theorem ZmY (n:Int) (M:Store):∃ roll,Za0 roll ∧ Zb9 [.int n] M = .ok (Zh roll) M:=by
 refine ⟨[.put 0 (1 + n % 300),.put 2 1,.set 3 0,.get 4 3,.sub 0 0 2,.when 0 2,.jump 8,.tell 4,.halt],⟨fun x hx=>?_,[.put 0 (1 + n % 300),.put 2 1,.set 3 0,.get 4 3,.sub 0 0 2,.when 0 2,.jump 8,.tell 4],.halt,rfl,.inl rfl⟩,?_⟩
 ·simp only [List.mem_cons,List.not_mem_nil,or_false] at hx
  rcases hx with rfl | rfl | rfl | rfl | rfl | rfl | rfl | rfl | rfl <;> simp [Row.ok]
 ·simp [Zb9,Zez,Zw,Zan,Zak,sIf,Zaa,Za9,mkF,ZdB,below,belowL,Zck,Zh,Zn]
theorem ZkP (ns:List Int) (hns:ns.length ≤ 63) (roll:ZaK) (R:Za0 roll) (cs:List Int) (hc:cs.length ≤ 63):∃ (roll':ZaK) (most c:Nat) (cs':List Int) (M':Store),Za0 roll' ∧ most ≤ 1300 ∧ cs'.length ≤ 63 ∧ M'[c]? = some (.lst (cs'.map D.int)) ∧
  (sIf (Zdx (e2 Zfk (Zas ZaY (Zb (Za 0) (Zg))) (eC (.int 0))) (e2 ZaF (e2 Za3 (e2 Ze (Za 0) (eC (.int 0))) (eC (.int 16))) (eC (.int 7)))) (Zw (Zan 1 (Zac Zb9 (Zb (e2 Zbj (e2 Ze (Za 0) (eC (.int 0))) (eC (.int 16))) (Zg)))) (Zw (Zan 2 (eSl (Za 0) (ZaW) (ZaX (eC (.int 2))))) (Zan 3 (eC (.int 1300))))) (Zaa)) [some (.scr (ns.map D.int)),some (Zh roll),some (.ref 0),some (.int 60),none,none,none,none,none,none,none] [.lst (cs.map D.int)] = .nx [some (.scr (ns.map D.int)),some (Zh roll'),some (.ref c),some (.int (most:Int)),none,none,none,none,none,none,none] M':=by
 cases ns with
 | nil=>exact ⟨roll,60,0,cs,[.lst (cs.map D.int)],R,by omega,hc,rfl,Zy (M':=[.lst (cs.map D.int)]) (by exact rfl)⟩
 | cons c ns=>
  have i0:∀ (r:D) M,(e2 Ze (Za 0) (eC (.int 0))) [some (.scr ((c :: ns).map D.int)),some r,some (.ref 0),some (.int 60),none,none,none,none,none,none,none] M = .ok (.int c) M:=fun r M=>by simp
  have l0:(e2 Zfk (Zas ZaY (Zb (Za 0) (Zg))) (eC (.int 0))) [some (.scr ((c :: ns).map D.int)),some (Zh roll),some (.ref 0),some (.int 60),none,none,none,none,none,none,none] [.lst (cs.map D.int)] = .ok (.bl true) [.lst (cs.map D.int)]:=by
   have:(0:Int) < (ns.length:Int) + 1:=by omega
   simp [this]
  by_cases h:c % 16 = 7
  ·obtain ⟨roll',R',hr⟩:=ZmY (c / 16) [.lst (cs.map D.int)]
   refine ⟨roll',1300,1,(c :: ns).take 2,[.lst (cs.map D.int),.lst (((c :: ns).take 2).map D.int)],R',by omega,by rw [List.length_take]; omega,rfl,(ZaM (M':=[.lst (cs.map D.int)]) ((ZfD l0).trans (Zai (Zai (i0 _ _) rfl rfl) rfl (by simp [h])))).trans ((Zk (Zag (d:=Zh roll') (M':=[.lst (cs.map D.int)]) (ZfC (Zai (i0 _ _) rfl (by simp)) hr))).trans ((Zk (Zag (d:=.ref 1) (M':=[.lst (cs.map D.int),.lst (((c :: ns).take 2).map D.int)]) ?_)).trans (Zag (d:=.int 1300) rfl)))⟩
   have:=Zgr ((c :: ns).map D.int) 2
   rw [← List.map_take] at this
   simp only [eSl,Za,ZaW,ZaX,eC,List.getElem?_cons_zero,List.set_cons_succ,List.set_cons_zero,R3.bind,ZfP]
   rw [show ((2:Int)) = ((2:Nat):Int) from rfl,this]
   rfl
  ·exact ⟨roll,60,0,cs,[.lst (cs.map D.int)],R,by omega,hc,rfl,Zy (M':=[.lst (cs.map D.int)]) ((ZfD l0).trans (Zai (Zai (i0 _ _) rfl rfl) rfl (by simp [h])))⟩
theorem ZrL (p:List Nat × Nat) (M:Store):ZbE (ZbH (some p)) (ZbH (some p)) M = .ok (.bl false) M:=by
 have pu:([D.str p.1,D.int (p.2:Int)]).all (Zax DEEP) = true:=by exact rfl
 simp only [ZbH,ZbE,eqD,pu,Bool.and_self,if_true,Zh4 pu,Bool.not_true]
theorem Zmo {roll:ZaK} (R:Za0 roll) {ss:List Stt} (C:Chain roll ss) (G:∀ s ∈ ss,Good roll s) {bs:List Int} (h0:ss[0]? = some ⟨0,bs,[]⟩) {s:Stt} (hl:ss.getLast? = some s) {us2:List Use} (S:Zfi (Zba roll ss (ss.length - 1)) us2):
  Zgs roll bs (ss.map ZbR) us2 = if ZdL roll s then none else some (END,ss.length - 1):=by
 unfold Zgs
 rw [Zhv R C G h0 hl]
 cases ZdL roll s with
 | true=>exact ZkY R C G (fun s h=>by rw [h0] at h; cases h; rfl) S
 | false=>rfl
theorem Zk3 {roll:ZaK} (R:Za0 roll) {ss:List Stt} (C:Chain roll ss) (G:∀ s ∈ ss,Good roll s) {bs:List Int} (h0:ss[0]? = some ⟨0,bs,[]⟩) {k:Nat} (h1:0 < k) (hk:k < ss.length) (us:List Use):Zgs roll bs ((ss.take k).map ZbR) us = some (END,k - 1):=by
 have lk:(ss.take k).length = k:=by rw [List.length_take]; omega
 have i0:ss[k - 1]? = some (ss[k - 1]'(by omega)):=List.getElem?_eq_getElem _
 have i1:ss[k - 1 + 1]? = some (ss[k - 1 + 1]'(by omega)):=List.getElem?_eq_getElem _
 have sp:=C (k - 1) _ _ i0 i1
 have g:=G _ (List.mem_of_getElem? i0)
 have hl:(ss.take k).getLast? = some (ss[k - 1]'(by omega)):=by rw [List.getLast?_eq_getElem?,lk,List.getElem?_take_of_lt (by omega),i0]
 unfold Zgs
 rw [Zhv R (C.take k) (fun s hs=>G s (List.mem_of_mem_take hs)) (by rw [List.getElem?_take_of_lt h1]; exact h0) hl,lk]
 generalize ss[k - 1]'(by omega) = s at sp g
 have e:ZdL roll s = false:=by
  have gp:=g.pl
  have hr:roll[s.place]? = some roll[s.place]:=by simp [gp]
  unfold ZdL
  unfold Zcs at sp
  rw [hr] at sp ⊢
  simp only [Option.bind_some,Zfq] at sp ⊢
  cases q:roll[s.place].isHalt with
  | true=>rw [q] at sp; cases sp
  | false=>rfl
 rw [e]
 rfl
theorem ZoF (roll:ZaK) (ss:List Stt) (s:Stt) (g:s.place < roll.length) (hl:ss.getLast? = some s) (d0 d2 d3 d4 d5 d7:Option D) (M:Store):(sIf (e2 ZaF (e2 Ze (e2 Ze (Za 1) (e2 Ze (e2 Ze (Za 6) (e1 ZeF (eC (.int 1)))) (eC (.int 0)))) (eC (.int 0))) (eC (.str [104,97,108,116]))) (Zan 8 (eC .non)) (Zaa)) [d0,some (Zh roll),d2,d3,d4,d5,some (Zbr ss),d7,some (ZbH (some (END,ss.length - 1))),none,none] M = .nx [d0,some (Zh roll),d2,d3,d4,d5,some (Zbr ss),d7,some (ZbH (if ZdL roll s then none else some (END,ss.length - 1))),none,none] M:=by
 obtain ⟨ss0,rfl⟩:∃ ss0,ss = ss0 ++ [s]:=by
  rcases List.eq_nil_or_concat ss with q | ⟨p,a,q⟩
  ·subst q; cases hl
  ·rw [List.concat_eq_append] at q
   subst q
   rw [List.getLast?_concat] at hl
   cases hl
   exact ⟨p,rfl⟩
 have hr:roll[s.place]? = some roll[s.place]:=by simp [g]
 have h1:(e2 Ze (Za 6) (e1 ZeF (eC (.int 1)))) [d0,some (Zh roll),d2,d3,d4,d5,some (Zbr (ss0 ++ [s])),d7,some (ZbH (some (END,(ss0 ++ [s]).length - 1))),none,none] M = .ok (Zcz s) M:=by
  have:=getD_last (ss0.map Zcz) (Zcz s)
  simp [Zbr,this]
 have h2:(e2 Ze (Za 1) (e2 Ze (e2 Ze (Za 6) (e1 ZeF (eC (.int 1)))) (eC (.int 0)))) [d0,some (Zh roll),d2,d3,d4,d5,some (Zbr (ss0 ++ [s])),d7,some (ZbH (some (END,(ss0 ++ [s]).length - 1))),none,none] M = .ok (Zn roll[s.place]) M:=by
  refine Zai (M1:=M) rfl (b:=.int (s.place:Int)) (M2:=M) (Zai h1 rfl (by exact rfl)) ?_
  simp [Zh,hr]
 have he:ZdL roll s = decide (Zd3 roll[s.place] = [104,97,108,116]):=by
  unfold ZdL
  rw [hr]
  exact Zh0 _
 rw [he]
 by_cases q:Zd3 roll[s.place] = [104,97,108,116]
 ·rw [decide_eq_true q,if_pos rfl]
  exact (ZaM (M':=M) (Zai (Zai h2 rfl (Ze1 _ M)) rfl (by simp [q]))).trans (Zag rfl)
 ·rw [decide_eq_false q,if_neg (by decide)]
  exact Zy (M':=M) (Zai (Zai h2 rfl (Ze1 _ M)) rfl (by simp [q]))
theorem ZrM (o:Option (List Nat × Nat)) (M:Store):ZjH (ZbH o) (ZbH o) M = .ok (.bl false) M:=by
 cases o with
 | none=>rfl
 | some p=>exact ZrL p M
theorem Zgh {env:ZaE} {i:Nat} {ss:List Stt} {M:Store} (h:env[i]? = some (some (Zbr ss))):Zas ZaY (Zb (Za i) (Zg)) env M = .ok (.int (ss.length:Int)) M:=by simp [h,Zbr]
theorem law_holds:∀ ns:List Int,ns.length ≤ 63 → ∃ M',ZlJ [.scr (ns.map D.int)] [] = .ok (.bl true) M':=by
 intro ns hns
 obtain ⟨roll0,lroll,R0,h1⟩:=ZoC ns []
 obtain ⟨roll,most,c,cs,M0,R,hm,lcs,gc0,br⟩:=ZkP ns hns roll0 R0 (ns.take 12) (by rw [List.length_take]; omega)
 obtain ⟨bs,lb,h2⟩:=ZnJ ns M0
 obtain ⟨n,G,hn,h3,g0⟩:=Zmc roll R bs most M0 (by omega) lb
 have pos:0 < roll.length:=by obtain ⟨q,x,e,_⟩:=R.last; rw [e]; simp
 have hl:(ZcO roll most ⟨0,bs,[]⟩).length ≤ most + 1:=Zkk roll most _
 have hgood:∀ s ∈ ZcO roll most ⟨0,bs,[]⟩,Good roll s:=fun s hs=>Zh7 R most ⟨0,bs,[]⟩ ⟨pos,lb,by simp [Zel]⟩ s hs
 have hl0:0 < (ZcO roll most ⟨0,bs,[]⟩).length:=List.length_pos_iff.mpr (ZoO roll most ⟨0,bs,[]⟩)
 have C:=Zhd roll most ⟨0,bs,[]⟩
 have hd:(ZcO roll most ⟨0,bs,[]⟩)[0]? = some ⟨0,bs,[]⟩:=Ziy _ _ _
 have gc:=ZcZ gc0 G
 generalize M0 ++ G = M1 at h3 g0 gc
 generalize ZcO roll most ⟨0,bs,[]⟩ = ss at *
 refine Rt.law (env:=[some (.scr (ns.map D.int)),none,none,none,none,none,none,none,none,none,none]) ?_
 unfold ZmD
 refine Rt.set (d:=Zh roll0) (M':=[]) (ZfC rfl h1) ?_
 refine Rt.set (d:=.ref 0) (M':=[.lst ((ns.take 12).map D.int)]) ?_ ?_
 ·have:=Zgr (ns.map D.int) 12
  rw [← List.map_take] at this
  simp only [eSl,Za,ZaW,ZaX,eC,List.getElem?_cons_zero,List.set_cons_succ,List.set_cons_zero,R3.bind,ZfP]
  rw [show ((12:Int)) = ((12:Nat):Int) from rfl,this]
  rfl
 refine Rt.set (d:=.int 60) (M':=[.lst ((ns.take 12).map D.int)]) rfl ?_
 refine Rt.step br ?_
 refine Rt.set (d:=Zi bs) (M':=M0) (ZfC rfl h2) ?_
 refine Rt.set (d:=.ref n) (M':=M1) (Zcl rfl rfl rfl h3) ?_
 have lc:=Znd (env:=[some (.scr (ns.map D.int)),some (Zh roll),some (.ref c),some (.int (most:Int)),some (Zi bs),some (.ref n),none,none,none,none,none]) (i:=5) rfl g0 (by omega)
 refine Rt.set (d:=Zbr ss) (M':=M1 ++ [.lst (ss.map Zcz)]) (Zd6 lc (by simp [Zbr])) ?_
 have g1:=ZcZ g0 [.lst (ss.map Zcz)]
 have gc1:=ZcZ gc [.lst (ss.map Zcz)]
 generalize M1 ++ [MO.lst (ss.map Zcz)] = M at g1 gc1
 have ul:=Ze9 roll ss (ss.length - 1)
 obtain ⟨us2,S,hs⟩:=Zhm (Zba roll ss (ss.length - 1)) (by omega)
 have hu:=Zgw roll R ss C n M g1 hgood hl0 (by omega) hs
 refine Rt.set (d:=Zbs us2) (M':=M) (ZcA rfl rfl hu) ?_
 obtain ⟨s,hls⟩:∃ s,ss.getLast? = some s:=by
  cases q:ss.getLast? with
  | none=>rw [List.getLast?_eq_none_iff] at q; rw [q] at hl0; cases hl0
  | some s=>exact ⟨s,rfl⟩
 refine Rt.set (d:=ZbH (some (END,ss.length - 1))) (M':=M) ?_ ?_
 ·have:(ss.length:Int) - 1 = ((ss.length - 1:Nat):Int):=by omega
  simp [Zbr,ZbH,this]
 refine Rt.step (ZoF roll ss s (hgood s (List.mem_of_getLast? hls)).pl hls _ _ _ _ _ _ M) ?_
 have h8:∀ xs:List Stt,(∀ x ∈ xs,x ∈ ss) → ∀ x ∈ xs.map ZbR,x.2.length = 8:=fun xs hx x h=>by
  obtain ⟨y,hy,rfl⟩:=List.mem_map.mp h
  exact (hgood y (hx y hy)).bx
 have f1:=Zf2 roll R bs (ss.map ZbR) (h8 ss fun _ h=>h) us2 M (by rw [List.length_map]; omega)
 rw [Zmo R C hgood hd hls S,← Zh6] at f1
 generalize (if ZdL roll s then none else some (END,ss.length - 1)) = due at f1
 refine Rt.skip (M':=M) (Zai (ZhA rfl rfl rfl rfl f1) rfl (ZrM _ _)) ?_
 obtain ⟨e',M',lp,x9,x10,G',rfl,rfl⟩:=ZhH (it:=⟨cs.map D.int,some c⟩) (g:=Zcw 9) (body:=(Zw (Zan 10 (e2 Zar (eC (.int 1)) (e2 Za3 (Za 9) (Zas ZaY (Zb (Za 6) (Zg)))))) (sIf (e2 ZkW (Za 10) (Zas ZaY (Zb (Za 6) (Zg)))) (Zw (sIf (e2 ZbE (Zac ZdG (Zb (Za 1) (Zb (Za 4) (Zb (eSl (Za 6) (ZaW) (ZaX (Za 10))) (Zb (Zac ZcE (Zb (Za 1) (Zb (eSl (Za 5) (ZaW) (ZaX (Za 10))) (Zg)))) (Zg)))))) (ZaD (Zb (eC (.str [101,110,100])) (Zb (e2 Zds (Za 10) (eC (.int 1))) (Zg))))) (Zak (eC (.bl false))) (Zaa)) (sIf (e2 Zjq (Zac ZdG (Zb (Za 1) (Zb (Za 4) (Zb (eSl (Za 6) (ZaW) (ZaX (Za 10))) (Zb (Za 7) (Zg)))))) (eC .non)) (Zak (eC (.bl false))) (Zaa))) (Zaa))))
  (P:=fun _ env M'=>∃ x9 x10 G',env = [some (.scr (ns.map D.int)),some (Zh roll),some (.ref c),some (.int (most:Int)),some (Zi bs),some (.ref n),some (Zbr ss),some (Zbs us2),some (ZbH due),x9,x10] ∧ M' = M ++ G')
  (cs.map D.int) 0 [some (.scr (ns.map D.int)),some (Zh roll),some (.ref c),some (.int (most:Int)),some (Zi bs),some (.ref n),some (Zbr ss),some (Zbs us2),some (ZbH due),none,none] M ⟨none,none,[],rfl,by simp⟩ (fun j env M' ⟨_,_,G',_,h⟩=>by
   subst h
   simp only [locked,decide_eq_true_eq]
   exact ZcZ gc1 G')
  (fun j d hd' env M' ⟨x9,x10,G',he,hmm⟩=>by
   rw [List.getElem?_map] at hd'
   cases hx:cs[j]? with
   | none=>rw [hx] at hd'; cases hd'
   | some x=>
    rw [hx] at hd'
    cases hd'
    subst he hmm
    obtain ⟨k,ek,lk⟩:=ZfM x ss.length hl0
    have gn:=ZcZ g1 G'
    generalize hMM:M ++ G' = MM at gn
    have bl:0 < (ss.length:Int) ∧ (ss.length:Int) < 1073741824:=by omega
    have s10:(e2 Zar (eC (.int 1)) (e2 Za3 (Za 9) (Zas ZaY (Zb (Za 6) (Zg))))) [some (.scr (ns.map D.int)),some (Zh roll),some (.ref c),some (.int (most:Int)),some (Zi bs),some (.ref n),some (Zbr ss),some (Zbs us2),some (ZbH due),some (.int x),x10] MM = .ok (.int ((1 + k:Nat):Int)) MM:=
     Zai (a:=.int 1) (b:=.int (k:Int)) (M1:=MM) (M2:=MM) rfl (Zai (a:=.int x) (M1:=MM) (M2:=MM) rfl (Zgh rfl) (by simp [hl0,ek])) (by simp)
    generalize hcut:1 + k = cut at s10
    by_cases q:cut < ss.length
    ·have c1:(e2 ZkW (Za 10) (Zas ZaY (Zb (Za 6) (Zg)))) [some (.scr (ns.map D.int)),some (Zh roll),some (.ref c),some (.int (most:Int)),some (Zi bs),some (.ref n),some (Zbr ss),some (Zbs us2),some (ZbH due),some (.int x),some (.int (cut:Int))] MM = .ok (.bl true) MM:=
      Zai (a:=.int (cut:Int)) (M1:=MM) (M2:=MM) rfl (Zgh rfl) (by simp [q])
     have lt:(ss.take cut).length = cut:=by rw [List.length_take]; omega
     have sl:∀ MM:Store,(eSl (Za 6) (ZaW) (ZaX (Za 10))) [some (.scr (ns.map D.int)),some (Zh roll),some (.ref c),some (.int (most:Int)),some (Zi bs),some (.ref n),some (Zbr ss),some (Zbs us2),some (ZbH due),some (.int x),some (.int (cut:Int))] MM = .ok (Zbr (ss.take cut)) MM:=fun MM=>by
      have:=Zgr (ss.map Zcz) cut
      simp only [eSl,Za,ZaW,ZaX,List.getElem?_cons_zero,List.getElem?_cons_succ,R3.bind,ZfP,Zbr,this,← List.map_take]
     have st:(eSl (Za 5) (ZaW) (ZaX (Za 10))) [some (.scr (ns.map D.int)),some (Zh roll),some (.ref c),some (.int (most:Int)),some (Zi bs),some (.ref n),some (Zbr ss),some (Zbs us2),some (ZbH due),some (.int x),some (.int (cut:Int))] MM = .ok (.ref MM.length) (MM ++ [.lst ((ss.take cut).map Zaf)]):=by
      have:=Zgr (ss.map Zaf) cut
      simp only [eSl,Za,ZaW,ZaX,List.getElem?_cons_zero,List.getElem?_cons_succ,R3.bind,ZfP,gn,this,← List.map_take]
      rfl
     have gt:∀ x ∈ ss.take cut,x ∈ ss:=fun x hx=>List.mem_of_mem_take hx
     have ul2:=Ze9 roll (ss.take cut) ((ss.take cut).length - 1)
     obtain ⟨vs2,_,hs2⟩:=Zhm (Zba roll (ss.take cut) ((ss.take cut).length - 1)) (by omega)
     have hu2:=Zgw roll R (ss.take cut) (C.take cut) MM.length (MM ++ [.lst ((ss.take cut).map Zaf)]) (Zb4 _ _ _) (fun x hx=>hgood x (gt x hx)) (by omega) (by omega) hs2
     generalize hM2:MM ++ [MO.lst ((ss.take cut).map Zaf)] = M2 at st hu2
     have fa:=Zf2 roll R bs ((ss.take cut).map ZbR) (h8 _ gt) vs2 M2 (by rw [List.length_map]; omega)
     have fb:=Zf2 roll R bs ((ss.take cut).map ZbR) (h8 _ gt) us2 M2 (by rw [List.length_map]; omega)
     rw [Zk3 R C hgood hd (by omega) q,← Zh6] at fa fb
     have ec:(cut:Int) - 1 = ((cut - 1:Nat):Int):=by omega
     refine ⟨[some (.scr (ns.map D.int)),some (Zh roll),some (.ref c),some (.int (most:Int)),some (Zi bs),some (.ref n),some (Zbr ss),some (Zbs us2),some (ZbH due),some (.int x),x10],_,_,rfl,(Zk (Zag s10)).trans ((ZaM c1).trans ((Zk (Zy (M':=M2) (Zai (ZhA rfl rfl (sl MM) (ZcA rfl st hu2) fa) (b:=ZbH (some (END,cut - 1))) (M2:=M2) ?_ (ZrL _ _)))).trans (Zy (M':=M2) (Zai (ZhA rfl rfl (sl M2) rfl fb) rfl ?_)))),_,_,G' ++ [.lst ((ss.take cut).map Zaf)],rfl,?_⟩
     ·simp [ZbH,ec]
     ·simp [ZbH]
     ·rw [← hM2,← hMM,List.append_assoc]
    ·have c1:(e2 ZkW (Za 10) (Zas ZaY (Zb (Za 6) (Zg)))) [some (.scr (ns.map D.int)),some (Zh roll),some (.ref c),some (.int (most:Int)),some (Zi bs),some (.ref n),some (Zbr ss),some (Zbs us2),some (ZbH due),some (.int x),some (.int (cut:Int))] MM = .ok (.bl false) MM:=
      Zai (a:=.int (cut:Int)) (M1:=MM) (M2:=MM) rfl (Zgh rfl) (by simp [q])
     exact ⟨[some (.scr (ns.map D.int)),some (Zh roll),some (.ref c),some (.int (most:Int)),some (Zi bs),some (.ref n),some (Zbr ss),some (Zbs us2),some (ZbH due),some (.int x),x10],_,_,rfl,(Zk (Zag s10)).trans (Zy c1),_,_,G',rfl,hMM.symm⟩)
 refine Rt.loop (it:=⟨cs.map D.int,some c⟩) (M1:=M) (by simp [gc1]) lp ?_
 have fz:=Zf2 roll R bs [] (fun x hx=>by cases hx) us2 (M ++ G') (by simp)
 refine Rt.ret (M':=M ++ G') (Zai (ZhA rfl rfl (c:=Zbd []) (M3:=M ++ G') (by simp [Zbd]) rfl fz) (b:=ZbH (some (BEGIN,0))) (M2:=M ++ G') (by simp [ZbH]) ?_)
 have pu:([D.str BEGIN,D.int ((0:Nat):Int)]).all (Zax DEEP) = true:=by exact rfl
 show ZaF (ZbH (some (BEGIN,0))) (ZbH (some (BEGIN,0))) _ = _
 simp only [ZbH,ZaF,eqD,pu,Bool.and_self,if_true,Zh4 pu]
end Law
set_option maxHeartbeats 400000
namespace Law
open PySem PySem.Spec PyProof.Rows L2 L3
theorem ZpI {l:PySem.W.OpenLaw} {w:World} {K:W.Frag} {h:Heap} {mg:Str → Option Value} {fa f0 f1 f2 f3 f4 f5 f6 f7 f8 f9 f10 f11 f12 f13 f14 f15 f16 f17 f18 f19 f20 f21 f22 f23 f24 f25 f26 f27 f28:Addr} (X:K.In h) (G:h.Ns mainGlobals mg) (hfa:mg "law" = some (.ref fa))
  {od0 an0 od1 an1 od2 an2 od3 an3 od4 an4 od5 an5 od6 an6 od7 an7 od8 an8 od9 an9 od10 an10 od11 an11 od12 an12 od13 an13 od14 an14 od15 an15 od16 an16 od17 an17 od18 an18 od19 an19 od20 an20 od21 an21 od22 an22 od23 an23 od24 an24 od25 an25 od26 an26 od27 an27 od28 an28:Option Addr} {sl0 sl1 sl2 sl3 sl4 sl5 sl6 sl7 sl8 sl9 sl10 sl11 sl12 sl13 sl14 sl15 sl16 sl17 sl18 sl19 sl20 sl21 sl22 sl23 sl24 sl25 sl26 sl27 sl28:Array (Option Value)} {oc0 kV0 dc0 pm0 cd0 ct0 oc1 kV1 dc1 pm1 cd1 ct1 oc2 kV2 dc2 pm2 cd2 ct2 oc3 kV3 dc3 pm3 cd3 ct3 oc4 kV4 dc4 pm4 cd4 ct4 oc5 kV5 dc5 pm5 cd5 ct5 oc6 kV6 dc6 pm6 cd6 ct6 oc7 kV7 dc7 pm7 cd7 ct7 oc8 kV8 dc8 pm8 cd8 ct8 oc9 kV9 dc9 pm9 cd9 ct9 oc10 kV10 dc10 pm10 cd10 ct10 oc11 kV11 dc11 pm11 cd11 ct11 oc12 kV12 dc12 pm12 cd12 ct12 oc13 kV13 dc13 pm13 cd13 ct13 oc14 kV14 dc14 pm14 cd14 ct14 oc15 kV15 dc15 pm15 cd15 ct15 oc16 kV16 dc16 pm16 cd16 ct16 oc17 kV17 dc17 pm17 cd17 ct17 oc18 kV18 dc18 pm18 cd18 ct18 oc19 kV19 dc19 pm19 cd19 ct19 oc20 kV20 dc20 pm20 cd20 ct20 oc21 kV21 dc21 pm21 cd21 ct21 oc22 kV22 dc22 pm22 cd22 ct22 oc23 kV23 dc23 pm23 cd23 ct23 oc24 kV24 dc24 pm24 cd24 ct24 oc25 kV25 dc25 pm25 cd25 ct25 oc26 kV26 dc26 pm26 cd26 ct26 oc27 kV27 dc27 pm27 cd27 ct27 oc28 kV28 dc28 pm28 cd28 ct28:Value}
  (a0:W.nsIn K mainGlobals "next_place" = some (some (.ref f0))) (l0:K.lookup f0 = some ⟨oc0,od0,.func (W.fnOf "next_place" "next_place" (Zat Zcd) (Zaq Zcd) (Zr Zcd) .none kV0 dc0 pm0 an0 cd0 ct0),sl0⟩) (c0:W.codeIn K cd0 "next_place" = true) (k0:W.keepIn K (.ref f0) = true)
  (a1:W.nsIn K mainGlobals "worked" = some (some (.ref f1))) (l1:K.lookup f1 = some ⟨oc1,od1,.func (W.fnOf "worked" "worked" (Zat Zeg) (Zaq Zeg) (Zr Zeg) .none kV1 dc1 pm1 an1 cd1 ct1),sl1⟩) (c1:W.codeIn K cd1 "worked" = true) (k1:W.keepIn K (.ref f1) = true)
  (a2:W.nsIn K mainGlobals "with_box" = some (some (.ref f2))) (l2:K.lookup f2 = some ⟨oc2,od2,.func (W.fnOf "with_box" "with_box" (Zat Zc8) (Zaq Zc8) (Zr Zc8) .none kV2 dc2 pm2 an2 cd2 ct2),sl2⟩) (c2:W.codeIn K cd2 "with_box" = true) (k2:W.keepIn K (.ref f2) = true)
  (a3:W.nsIn K mainGlobals "cell_value" = some (some (.ref f3))) (l3:K.lookup f3 = some ⟨oc3,od3,.func (W.fnOf "cell_value" "cell_value" (Zat Zb6) (Zaq Zb6) (Zr Zb6) .none kV3 dc3 pm3 an3 cd3 ct3),sl3⟩) (c3:W.codeIn K cd3 "cell_value" = true) (k3:W.keepIn K (.ref f3) = true)
  (a4:W.nsIn K mainGlobals "next_boxes" = some (some (.ref f4))) (l4:K.lookup f4 = some ⟨oc4,od4,.func (W.fnOf "next_boxes" "next_boxes" (Zat Zcb) (Zaq Zcb) (Zr Zcb) .none kV4 dc4 pm4 an4 cd4 ct4),sl4⟩) (c4:W.codeIn K cd4 "next_boxes" = true) (k4:W.keepIn K (.ref f4) = true)
  (a5:W.nsIn K mainGlobals "is_within" = some (some (.ref f5))) (l5:K.lookup f5 = some ⟨oc5,od5,.func (W.fnOf "is_within" "is_within" (Zat ZcG) (Zaq ZcG) (Zr ZcG) .none kV5 dc5 pm5 an5 cd5 ct5),sl5⟩) (c5:W.codeIn K cd5 "is_within" = true) (k5:W.keepIn K (.ref f5) = true)
  (a6:W.nsIn K mainGlobals "is_use" = some (some (.ref f6))) (l6:K.lookup f6 = some ⟨oc6,od6,.func (W.fnOf "is_use" "is_use" (Zat Zeb) (Zaq Zeb) (Zr Zeb) .none kV6 dc6 pm6 an6 cd6 ct6),sl6⟩) (c6:W.codeIn K cd6 "is_use" = true) (k6:W.keepIn K (.ref f6) = true)
  (a7:W.nsIn K mainGlobals "cell_number" = some (some (.ref f7))) (l7:K.lookup f7 = some ⟨oc7,od7,.func (W.fnOf "cell_number" "cell_number" (Zat ZbU) (Zaq ZbU) (Zr ZbU) .none kV7 dc7 pm7 an7 cd7 ct7),sl7⟩) (c7:W.codeIn K cd7 "cell_number" = true) (k7:W.keepIn K (.ref f7) = true)
  (a8:W.nsIn K mainGlobals "row_at" = some (some (.ref f8))) (l8:K.lookup f8 = some ⟨oc8,od8,.func (W.fnOf "row_at" "row_at" (Zat Zec) (Zaq Zec) (Zr Zec) .none kV8 dc8 pm8 an8 cd8 ct8),sl8⟩) (c8:W.codeIn K cd8 "row_at" = true) (k8:W.keepIn K (.ref f8) = true)
  (a9:W.nsIn K mainGlobals "boxes_behind" = some (some (.ref f9))) (l9:K.lookup f9 = some ⟨oc9,od9,.func (W.fnOf "boxes_behind" "boxes_behind" (Zat ZbF) (Zaq ZbF) (Zr ZbF) .none kV9 dc9 pm9 an9 cd9 ct9),sl9⟩) (c9:W.codeIn K cd9 "boxes_behind" = true) (k9:W.keepIn K (.ref f9) = true)
  (a10:W.nsIn K mainGlobals "step_fits" = some (some (.ref f10))) (l10:K.lookup f10 = some ⟨oc10,od10,.func (W.fnOf "step_fits" "step_fits" (Zat ZcD) (Zaq ZcD) (Zr ZcD) .none kV10 dc10 pm10 an10 cd10 ct10),sl10⟩) (c10:W.codeIn K cd10 "step_fits" = true) (k10:W.keepIn K (.ref f10) = true)
  (a11:W.nsIn K mainGlobals "use_fits" = some (some (.ref f11))) (l11:K.lookup f11 = some ⟨oc11,od11,.func (W.fnOf "use_fits" "use_fits" (Zat Zc7) (Zaq Zc7) (Zr Zc7) .none kV11 dc11 pm11 an11 cd11 ct11),sl11⟩) (c11:W.codeIn K cd11 "use_fits" = true) (k11:W.keepIn K (.ref f11) = true)
  (a12:W.nsIn K mainGlobals "use_matches" = some (some (.ref f12))) (l12:K.lookup f12 = some ⟨oc12,od12,.func (W.fnOf "use_matches" "use_matches" (Zat ZbT) (Zaq ZbT) (Zr ZbT) .none kV12 dc12 pm12 an12 cd12 ct12),sl12⟩) (c12:W.codeIn K cd12 "use_matches" = true) (k12:W.keepIn K (.ref f12) = true)
  (a13:W.nsIn K mainGlobals "first_unfit_step" = some (some (.ref f13))) (l13:K.lookup f13 = some ⟨oc13,od13,.func (W.fnOf "first_unfit_step" "first_unfit_step" (Zat Za6) (Zaq Za6) (Zr Za6) .none kV13 dc13 pm13 an13 cd13 ct13),sl13⟩) (c13:W.codeIn K cd13 "first_unfit_step" = true) (k13:W.keepIn K (.ref f13) = true)
  (a14:W.nsIn K mainGlobals "first_unfit_use" = some (some (.ref f14))) (l14:K.lookup f14 = some ⟨oc14,od14,.func (W.fnOf "first_unfit_use" "first_unfit_use" (Zat Zbe) (Zaq Zbe) (Zr Zbe) .none kV14 dc14 pm14 an14 cd14 ct14),sl14⟩) (c14:W.codeIn K cd14 "first_unfit_use" = true) (k14:W.keepIn K (.ref f14) = true)
  (a15:W.nsIn K mainGlobals "first_unmatched_use" = some (some (.ref f15))) (l15:K.lookup f15 = some ⟨oc15,od15,.func (W.fnOf "first_unmatched_use" "first_unmatched_use" (Zat ZaQ) (Zaq ZaQ) (Zr ZaQ) .none kV15 dc15 pm15 an15 cd15 ct15),sl15⟩) (c15:W.codeIn K cd15 "first_unmatched_use" = true) (k15:W.keepIn K (.ref f15) = true)
  (a16:W.nsIn K mainGlobals "fault_of_steps" = some (some (.ref f16))) (l16:K.lookup f16 = some ⟨oc16,od16,.func (W.fnOf "fault_of_steps" "fault_of_steps" (Zat Zbm) (Zaq Zbm) (Zr Zbm) .none kV16 dc16 pm16 an16 cd16 ct16),sl16⟩) (c16:W.codeIn K cd16 "fault_of_steps" = true) (k16:W.keepIn K (.ref f16) = true)
  (a17:W.nsIn K mainGlobals "fault_of_uses" = some (some (.ref f17))) (l17:K.lookup f17 = some ⟨oc17,od17,.func (W.fnOf "fault_of_uses" "fault_of_uses" (Zat Zbu) (Zaq Zbu) (Zr Zbu) .none kV17 dc17 pm17 an17 cd17 ct17),sl17⟩) (c17:W.codeIn K cd17 "fault_of_uses" = true) (k17:W.keepIn K (.ref f17) = true)
  (a18:W.nsIn K mainGlobals "fault" = some (some (.ref f18))) (l18:K.lookup f18 = some ⟨oc18,od18,.func (W.fnOf "fault" "fault" (Zat Zfh) (Zaq Zfh) (Zr Zfh) .none kV18 dc18 pm18 an18 cd18 ct18),sl18⟩) (c18:W.codeIn K cd18 "fault" = true) (k18:W.keepIn K (.ref f18) = true)
  (a19:W.nsIn K mainGlobals "_law_mix" = some (some (.ref f19))) (l19:K.lookup f19 = some ⟨oc19,od19,.func (W.fnOf "_law_mix" "_law_mix" (Zat Zc5) (Zaq Zc5) (Zr Zc5) .none kV19 dc19 pm19 an19 cd19 ct19),sl19⟩) (c19:W.codeIn K cd19 "_law_mix" = true) (k19:W.keepIn K (.ref f19) = true)
  (a20:W.nsIn K mainGlobals "_law_number" = some (some (.ref f20))) (l20:K.lookup f20 = some ⟨oc20,od20,.func (W.fnOf "_law_number" "_law_number" (Zat ZbW) (Zaq ZbW) (Zr ZbW) .none kV20 dc20 pm20 an20 cd20 ct20),sl20⟩) (c20:W.codeIn K cd20 "_law_number" = true) (k20:W.keepIn K (.ref f20) = true)
  (a21:W.nsIn K mainGlobals "_law_row" = some (some (.ref f21))) (l21:K.lookup f21 = some ⟨oc21,od21,.func (W.fnOf "_law_row" "_law_row" (Zat Zdb) (Zaq Zdb) (Zr Zdb) .none kV21 dc21 pm21 an21 cd21 ct21),sl21⟩) (c21:W.codeIn K cd21 "_law_row" = true) (k21:W.keepIn K (.ref f21) = true)
  (a22:W.nsIn K mainGlobals "_law_roll" = some (some (.ref f22))) (l22:K.lookup f22 = some ⟨oc22,od22,.func (W.fnOf "_law_roll" "_law_roll" (Zat ZcI) (Zaq ZcI) (Zr ZcI) .none kV22 dc22 pm22 an22 cd22 ct22),sl22⟩) (c22:W.codeIn K cd22 "_law_roll" = true) (k22:W.keepIn K (.ref f22) = true)
  (a23:W.nsIn K mainGlobals "_law_boxes" = some (some (.ref f23))) (l23:K.lookup f23 = some ⟨oc23,od23,.func (W.fnOf "_law_boxes" "_law_boxes" (Zat Zb8) (Zaq Zb8) (Zr Zb8) .none kV23 dc23 pm23 an23 cd23 ct23),sl23⟩) (c23:W.codeIn K cd23 "_law_boxes" = true) (k23:W.keepIn K (.ref f23) = true)
  (a24:W.nsIn K mainGlobals "_law_goes" = some (some (.ref f24))) (l24:K.lookup f24 = some ⟨oc24,od24,.func (W.fnOf "_law_goes" "_law_goes" (Zat ZcH) (Zaq ZcH) (Zr ZcH) .none kV24 dc24 pm24 an24 cd24 ct24),sl24⟩) (c24:W.codeIn K cd24 "_law_goes" = true) (k24:W.keepIn K (.ref f24) = true)
  (a25:W.nsIn K mainGlobals "_law_states" = some (some (.ref f25))) (l25:K.lookup f25 = some ⟨oc25,od25,.func (W.fnOf "_law_states" "_law_states" (Zat ZbS) (Zaq ZbS) (Zr ZbS) .none kV25 dc25 pm25 an25 cd25 ct25),sl25⟩) (c25:W.codeIn K cd25 "_law_states" = true) (k25:W.keepIn K (.ref f25) = true)
  (a26:W.nsIn K mainGlobals "_law_uses" = some (some (.ref f26))) (l26:K.lookup f26 = some ⟨oc26,od26,.func (W.fnOf "_law_uses" "_law_uses" (Zat ZcJ) (Zaq ZcJ) (Zr ZcJ) .none kV26 dc26 pm26 an26 cd26 ct26),sl26⟩) (c26:W.codeIn K cd26 "_law_uses" = true) (k26:W.keepIn K (.ref f26) = true)
  (a27:W.nsIn K mainGlobals "_law_round" = some (some (.ref f27))) (l27:K.lookup f27 = some ⟨oc27,od27,.func (W.fnOf "_law_round" "_law_round" (Zat Zca) (Zaq Zca) (Zr Zca) .none kV27 dc27 pm27 an27 cd27 ct27),sl27⟩) (c27:W.codeIn K cd27 "_law_round" = true) (k27:W.keepIn K (.ref f27) = true)
  (a28:W.nsIn K mainGlobals "law" = some (some (.ref f28))) (l28:K.lookup f28 = some ⟨oc28,od28,.func (W.fnOf "law" "law" (Zat Zf5) (Zaq Zf5) (Zr Zf5) .none kV28 dc28 pm28 an28 cd28 ct28),sl28⟩) (c28:W.codeIn K cd28 "law" = true) (k28:W.keepIn K (.ref f28) = true)
  (z_dict:W.nsIn K mainGlobals "dict" = some none)
  (z_enumerate:W.nsIn K mainGlobals "enumerate" = some none)
  (z_int:W.nsIn K mainGlobals "int" = some none)
  (z_len:W.nsIn K mainGlobals "len" = some none)
  (z_list:W.nsIn K mainGlobals "list" = some none)
  (z_range:W.nsIn K mainGlobals "range" = some none)
  (z_sorted:W.nsIn K mainGlobals "sorted" = some none)
  (z_tuple:W.nsIn K mainGlobals "tuple" = some none):
  ∃ fd:FuncData,(∀ (s:Shared) (v:Value),BindsTo s fd ⟨[v],[]⟩ [("script",v)]) ∧ ∀ base:Heap,K.In base → base.Ns mainGlobals mg → ZgL l.prog w K mg base CX0 8 fa fd ["script"] (sp3 K 1 ZlJ):=by
 have e:=hfa.symm.trans (W.mg_of X G a28)
 cases e
 have T:Txt K mg:=⟨trivial,W.mg_none_of X G z_dict,W.mg_none_of X G z_enumerate,W.mg_none_of X G z_int,W.mg_none_of X G z_len,W.mg_none_of X G z_list,W.mg_none_of X G z_range,W.mg_none_of X G z_sorted,W.mg_none_of X G z_tuple⟩
 have D_next_place:Zay K mg "next_place" Zcd ["row","place","boxes"]:=ZaA X G a0 l0 c0 k0 (Binds.all fun us hl=>match us,hl with | [_,_,_],_=>rfl)
 have D_worked:Zay K mg "worked" Zeg ["name","one","other"]:=ZaA X G a1 l1 c1 k1 (Binds.all fun us hl=>match us,hl with | [_,_,_],_=>rfl)
 have D_with_box:Zay K mg "with_box" Zc8 ["boxes","box","value"]:=ZaA X G a2 l2 c2 k2 (Binds.all fun us hl=>match us,hl with | [_,_,_],_=>rfl)
 have D_cell_value:Zay K mg "cell_value" Zb6 ["cells","number"]:=ZaA X G a3 l3 c3 k3 (Binds.all fun us hl=>match us,hl with | [_,_],_=>rfl)
 have D_next_boxes:Zay K mg "next_boxes" Zcb ["row","boxes","cells"]:=ZaA X G a4 l4 c4 k4 (Binds.all fun us hl=>match us,hl with | [_,_,_],_=>rfl)
 have D_is_within:Zay K mg "is_within" ZcG ["number","many"]:=ZaA X G a5 l5 c5 k5 (Binds.all fun us hl=>match us,hl with | [_,_],_=>rfl)
 have D_is_use:Zay K mg "is_use" Zeb ["row"]:=ZaA X G a6 l6 c6 k6 (Binds.all fun us hl=>match us,hl with | [_],_=>rfl)
 have D_cell_number:Zay K mg "cell_number" ZbU ["row","boxes"]:=ZaA X G a7 l7 c7 k7 (Binds.all fun us hl=>match us,hl with | [_,_],_=>rfl)
 have D_row_at:Zay K mg "row_at" Zec ["roll","place"]:=ZaA X G a8 l8 c8 k8 (Binds.all fun us hl=>match us,hl with | [_,_],_=>rfl)
 have D_boxes_behind:Zay K mg "boxes_behind" ZbF ["roll_row","boxes","told_boxes"]:=ZaA X G a9 l9 c9 k9 (Binds.all fun us hl=>match us,hl with | [_,_,_],_=>rfl)
 have D_step_fits:Zay K mg "step_fits" ZcD ["roll","row","behind"]:=ZaA X G a10 l10 c10 k10 (Binds.all fun us hl=>match us,hl with | [_,_,_],_=>rfl)
 have D_use_fits:Zay K mg "use_fits" Zc7 ["ahead","row"]:=ZaA X G a11 l11 c11 k11 (Binds.all fun us hl=>match us,hl with | [_,_],_=>rfl)
 have D_use_matches:Zay K mg "use_matches" ZbT ["roll","steps","row"]:=ZaA X G a12 l12 c12 k12 (Binds.all fun us hl=>match us,hl with | [_,_,_],_=>rfl)
 have D_first_unfit_step:Zay K mg "first_unfit_step" Za6 ["roll","steps"]:=ZaA X G a13 l13 c13 k13 (Binds.all fun us hl=>match us,hl with | [_,_],_=>rfl)
 have D_first_unfit_use:Zay K mg "first_unfit_use" Zbe ["ahead","uses"]:=ZaA X G a14 l14 c14 k14 (Binds.all fun us hl=>match us,hl with | [_,_],_=>rfl)
 have D_first_unmatched_use:Zay K mg "first_unmatched_use" ZaQ ["roll","steps","uses"]:=ZaA X G a15 l15 c15 k15 (Binds.all fun us hl=>match us,hl with | [_,_,_],_=>rfl)
 have D_fault_of_steps:Zay K mg "fault_of_steps" Zbm ["roll","boxes","steps"]:=ZaA X G a16 l16 c16 k16 (Binds.all fun us hl=>match us,hl with | [_,_,_],_=>rfl)
 have D_fault_of_uses:Zay K mg "fault_of_uses" Zbu ["roll","steps","uses"]:=ZaA X G a17 l17 c17 k17 (Binds.all fun us hl=>match us,hl with | [_,_,_],_=>rfl)
 have D_fault:Zay K mg "fault" Zfh ["roll","boxes","steps","uses"]:=ZaA X G a18 l18 c18 k18 (Binds.all fun us hl=>match us,hl with | [_,_,_,_],_=>rfl)
 have D__law_mix:Zay K mg "_law_mix" Zc5 ["cell","k"]:=ZaA X G a19 l19 c19 k19 (Binds.all fun us hl=>match us,hl with | [_,_],_=>rfl)
 have D__law_number:Zay K mg "_law_number" ZbW ["number"]:=ZaA X G a20 l20 c20 k20 (Binds.all fun us hl=>match us,hl with | [_],_=>rfl)
 have D__law_row:Zay K mg "_law_row" Zdb ["cell","k","size"]:=ZaA X G a21 l21 c21 k21 (Binds.all fun us hl=>match us,hl with | [_,_,_],_=>rfl)
 have D__law_roll:Zay K mg "_law_roll" ZcI ["script"]:=ZaA X G a22 l22 c22 k22 (Binds.all fun us hl=>match us,hl with | [_],_=>rfl)
 have D__law_boxes:Zay K mg "_law_boxes" Zb8 ["script"]:=ZaA X G a23 l23 c23 k23 (Binds.all fun us hl=>match us,hl with | [_],_=>rfl)
 have D__law_goes:Zay K mg "_law_goes" ZcH ["row","place","boxes","cells"]:=ZaA X G a24 l24 c24 k24 (Binds.all fun us hl=>match us,hl with | [_,_,_,_],_=>rfl)
 have D__law_states:Zay K mg "_law_states" ZbS ["roll","first","most"]:=ZaA X G a25 l25 c25 k25 (Binds.all fun us hl=>match us,hl with | [_,_,_],_=>rfl)
 have D__law_uses:Zay K mg "_law_uses" ZcJ ["roll","states"]:=ZaA X G a26 l26 c26 k26 (Binds.all fun us hl=>match us,hl with | [_,_],_=>rfl)
 have D__law_round:Zay K mg "_law_round" Zca ["number"]:=ZaA X G a27 l27 c27 k27 (Binds.all fun us hl=>match us,hl with | [_],_=>rfl)
 refine ⟨W.fnOf "law" "law" (Zat Zf5) (Zaq Zf5) (Zr Zf5) .none kV28 dc28 pm28 an28 cd28 ct28,fun s v=>.of_eq rfl,fun base _ _=>?_⟩
 have F_next_place:=ZhS (P:=l.prog) (w:=w) (base:=base) D_next_place T
 have F_worked:=Zl6 (P:=l.prog) (w:=w) (base:=base) D_worked T
 have F_with_box:=Zki (P:=l.prog) (w:=w) (base:=base) D_with_box T
 have F_cell_value:=ZhK (P:=l.prog) (w:=w) (base:=base) D_cell_value T
 have F_next_boxes:=ZhV (P:=l.prog) (w:=w) (base:=base) D_next_boxes T F_worked F_with_box F_cell_value
 have F_is_within:=ZiT (P:=l.prog) (w:=w) (base:=base) D_is_within T
 have F_is_use:=Zmx (P:=l.prog) (w:=w) (base:=base) D_is_use T
 have F_cell_number:=Zhr (P:=l.prog) (w:=w) (base:=base) D_cell_number T
 have F_row_at:=ZlT (P:=l.prog) (w:=w) (base:=base) D_row_at T F_is_within
 have F_boxes_behind:=ZgP (P:=l.prog) (w:=w) (base:=base) D_boxes_behind T F_next_boxes F_with_box
 have F_step_fits:=ZiF (P:=l.prog) (w:=w) (base:=base) D_step_fits T F_next_place F_row_at F_boxes_behind
 have F_use_fits:=ZjT (P:=l.prog) (w:=w) (base:=base) D_use_fits T
 have F_use_matches:=Zg7 (P:=l.prog) (w:=w) (base:=base) D_use_matches T F_is_within F_is_use F_cell_number F_row_at
 have F_first_unfit_step:=Zfn (P:=l.prog) (w:=w) (base:=base) D_first_unfit_step T F_step_fits
 have F_first_unfit_use:=ZfG (P:=l.prog) (w:=w) (base:=base) D_first_unfit_use T F_use_fits
 have F_first_unmatched_use:=Zet (P:=l.prog) (w:=w) (base:=base) D_first_unmatched_use T F_use_matches
 have F_fault_of_steps:=Zf9 (P:=l.prog) (w:=w) (base:=base) D_fault_of_steps T F_row_at F_first_unfit_step
 have F_fault_of_uses:=Zgo (P:=l.prog) (w:=w) (base:=base) D_fault_of_uses T F_is_use F_first_unfit_use F_first_unmatched_use
 have F_fault:=ZnN (P:=l.prog) (w:=w) (base:=base) D_fault T F_fault_of_steps F_fault_of_uses
 have F__law_mix:=Zjv (P:=l.prog) (w:=w) (base:=base) D__law_mix T
 have F__law_number:=Zg5 (P:=l.prog) (w:=w) (base:=base) D__law_number T
 have F__law_row:=Zjl (P:=l.prog) (w:=w) (base:=base) D__law_row T F__law_mix F__law_number
 have F__law_roll:=ZiI (P:=l.prog) (w:=w) (base:=base) D__law_roll T F__law_mix F__law_row
 have F__law_boxes:=ZhW (P:=l.prog) (w:=w) (base:=base) D__law_boxes T F__law_mix F__law_number
 have F__law_goes:=ZiN (P:=l.prog) (w:=w) (base:=base) D__law_goes T
 have F__law_states:=Zg2 (P:=l.prog) (w:=w) (base:=base) D__law_states T F__law_goes
 have F__law_uses:=Zja (P:=l.prog) (w:=w) (base:=base) D__law_uses T
 have F__law_round:=ZhO (P:=l.prog) (w:=w) (base:=base) D__law_round T
 exact Zqw (ZmS (st:=Zf5) l28 c28 k28) T F_fault F__law_roll F__law_boxes F__law_states F__law_uses F__law_round
end Law
open PySem PySem.W PyProof.Rows
set_option maxRecDepth 100000 in
set_option maxHeartbeats 0 in
theorem PySem.Challenge.cw_stepledger_k35_whole_runs_fit_holds : PySem.Challenge.rw_stepledger_k35_whole_runs_fit.Holds := by
 w_on; o_law; k_head; (case hw=>w_witness2)
 k_fill
 refine L3.ZrH (l:=PySem.Challenge.rw_stepledger_k35_whole_runs_fit) (k:=8) (F:=Law.ZlJ) rfl rfl ⟨rfl,by decide,by decide⟩ (fun w h Y=>W.kIn_of Y) ?G Law.law_holds
 case G=>
  intro w mg fa h KX G hmg
  refine' Law.ZpI KX G hmg ?a0 ?l0 ?c0 ?k0 ?a1 ?l1 ?c1 ?k1 ?a2 ?l2 ?c2 ?k2 ?a3 ?l3 ?c3 ?k3 ?a4 ?l4 ?c4 ?k4 ?a5 ?l5 ?c5 ?k5 ?a6 ?l6 ?c6 ?k6 ?a7 ?l7 ?c7 ?k7 ?a8 ?l8 ?c8 ?k8 ?a9 ?l9 ?c9 ?k9 ?a10 ?l10 ?c10 ?k10 ?a11 ?l11 ?c11 ?k11 ?a12 ?l12 ?c12 ?k12 ?a13 ?l13 ?c13 ?k13 ?a14 ?l14 ?c14 ?k14 ?a15 ?l15 ?c15 ?k15 ?a16 ?l16 ?c16 ?k16 ?a17 ?l17 ?c17 ?k17 ?a18 ?l18 ?c18 ?k18 ?a19 ?l19 ?c19 ?k19 ?a20 ?l20 ?c20 ?k20 ?a21 ?l21 ?c21 ?k21 ?a22 ?l22 ?c22 ?k22 ?a23 ?l23 ?c23 ?k23 ?a24 ?l24 ?c24 ?k24 ?a25 ?l25 ?c25 ?k25 ?a26 ?l26 ?c26 ?k26 ?a27 ?l27 ?c27 ?k27 ?a28 ?l28 ?c28 ?k28 ?z_dict ?z_enumerate ?z_int ?z_len ?z_list ?z_range ?z_sorted ?z_tuple
  (case a0=>k_is)
  (case l0=>k_is)
  (case c0=>k_is)
  (case k0=>k_is)
  (case a1=>k_is)
  (case l1=>k_is)
  (case c1=>k_is)
  (case k1=>k_is)
  (case a2=>k_is)
  (case l2=>k_is)
  (case c2=>k_is)
  (case k2=>k_is)
  (case a3=>k_is)
  (case l3=>k_is)
  (case c3=>k_is)
  (case k3=>k_is)
  (case a4=>k_is)
  (case l4=>k_is)
  (case c4=>k_is)
  (case k4=>k_is)
  (case a5=>k_is)
  (case l5=>k_is)
  (case c5=>k_is)
  (case k5=>k_is)
  (case a6=>k_is)
  (case l6=>k_is)
  (case c6=>k_is)
  (case k6=>k_is)
  (case a7=>k_is)
  (case l7=>k_is)
  (case c7=>k_is)
  (case k7=>k_is)
  (case a8=>k_is)
  (case l8=>k_is)
  (case c8=>k_is)
  (case k8=>k_is)
  (case a9=>k_is)
  (case l9=>k_is)
  (case c9=>k_is)
  (case k9=>k_is)
  (case a10=>k_is)
  (case l10=>k_is)
  (case c10=>k_is)
  (case k10=>k_is)
  (case a11=>k_is)
  (case l11=>k_is)
  (case c11=>k_is)
  (case k11=>k_is)
  (case a12=>k_is)
  (case l12=>k_is)
  (case c12=>k_is)
  (case k12=>k_is)
  (case a13=>k_is)
  (case l13=>k_is)
  (case c13=>k_is)
  (case k13=>k_is)
  (case a14=>k_is)
  (case l14=>k_is)
  (case c14=>k_is)
  (case k14=>k_is)
  (case a15=>k_is)
  (case l15=>k_is)
  (case c15=>k_is)
  (case k15=>k_is)
  (case a16=>k_is)
  (case l16=>k_is)
  (case c16=>k_is)
  (case k16=>k_is)
  (case a17=>k_is)
  (case l17=>k_is)
  (case c17=>k_is)
  (case k17=>k_is)
  (case a18=>k_is)
  (case l18=>k_is)
  (case c18=>k_is)
  (case k18=>k_is)
  (case a19=>k_is)
  (case l19=>k_is)
  (case c19=>k_is)
  (case k19=>k_is)
  (case a20=>k_is)
  (case l20=>k_is)
  (case c20=>k_is)
  (case k20=>k_is)
  (case a21=>k_is)
  (case l21=>k_is)
  (case c21=>k_is)
  (case k21=>k_is)
  (case a22=>k_is)
  (case l22=>k_is)
  (case c22=>k_is)
  (case k22=>k_is)
  (case a23=>k_is)
  (case l23=>k_is)
  (case c23=>k_is)
  (case k23=>k_is)
  (case a24=>k_is)
  (case l24=>k_is)
  (case c24=>k_is)
  (case k24=>k_is)
  (case a25=>k_is)
  (case l25=>k_is)
  (case c25=>k_is)
  (case k25=>k_is)
  (case a26=>k_is)
  (case l26=>k_is)
  (case c26=>k_is)
  (case k26=>k_is)
  (case a27=>k_is)
  (case l27=>k_is)
  (case c27=>k_is)
  (case k27=>k_is)
  (case a28=>k_is)
  (case l28=>k_is)
  (case c28=>k_is)
  (case k28=>k_is)
  (case z_dict=>k_is)
  (case z_enumerate=>k_is)
  (case z_int=>k_is)
  (case z_len=>k_is)
  (case z_list=>k_is)
  (case z_range=>k_is)
  (case z_sorted=>k_is)
  (case z_tuple=>k_is)
