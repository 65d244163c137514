import PyProof.Rows.All
import Wide.All
import OpenK.AllK
import Wide.FinOn
import Lean
import PyProof.EqAt
import PyProof.EqKinds
import PyProof.TupleCall
import PySem.Challenge.RW_stepledger_k52_judged
namespace L3
set_option compiler.extract_closed false
set_option genSizeOf false in
set_option genInjectivity false in
inductive AE where
 | v (i:Nat)
 | k (n:Nat)
 | a (x y:AE)
 | m (n:Nat) (x:AE)
noncomputable def ZnR:List Nat → Nat → Nat
 | [],_=>0
 | x :: _,0=>x
 | _ :: l,n + 1=>ZnR l n
noncomputable def AE.ev (c:List Nat):AE → Nat
 | .v i=>ZnR c i
 | .k n=>n
 | .a x y=>x.ev c + y.ev c
 | .m n x=>n * x.ev c
noncomputable def aL:List Nat → List Nat → List Nat
 | [],r=>r
 | x :: l,[]=>x :: l
 | x :: l,y :: r=>(x + y) :: aL l r
noncomputable def sL (n:Nat):List Nat → List Nat
 | []=>[]
 | x :: l=>(n * x) :: sL n l
noncomputable def uL:Nat → List Nat
 | 0=>[1]
 | n + 1=>0 :: uL n
noncomputable def AE.li:AE → List Nat
 | .v i=>0 :: uL i
 | .k n=>[n]
 | .a x y=>aL x.li y.li
 | .m n x=>sL n x.li
noncomputable def dt:List Nat → List Nat → Nat
 | x :: c,y :: l=>x * y + dt c l
 | [],_=>0
 | _,[]=>0
noncomputable def leL:List Nat → List Nat → Bool
 | [],_=>true
 | x :: l,[]=>Nat.ble x 0 && leL l []
 | x :: l,y :: r=>Nat.ble x y && leL l r
theorem Zc3:∀ c,dt c [] = 0
 | []=>rfl
 | _ :: _=>rfl
theorem Ze4:∀ c l r,dt c (aL l r) = dt c l + dt c r
 | c,[],r=>by rw [Zc3,Nat.zero_add]; rfl
 | c,x :: l,[]=>by rw [Zc3]; rfl
 | [],x :: l,y :: r=>rfl
 | z :: c,x :: l,y :: r=>by
  show z * (x + y) + dt c (aL l r) = _
  rw [Ze4 c l r,Nat.mul_add]; exact Nat.add_add_add_comm _ _ _ _
theorem Zjl (n:Nat):∀ c l,dt c (sL n l) = n * dt c l
 | c,[]=>by rw [Zc3]; exact Zc3 c
 | [],x :: l=>rfl
 | z :: c,x :: l=>by
  show z * (n * x) + dt c (sL n l) = n * (z * x + dt c l)
  rw [Zjl n c l,Nat.mul_add,Nat.mul_left_comm]
theorem ZoA:∀ c i,dt c (uL i) = ZnR c i
 | [],0=>rfl
 | [],_ + 1=>rfl
 | x :: c,0=>by show x * 1 + dt c [] = x; rw [Zc3,Nat.mul_one]; rfl
 | x :: c,n + 1=>by show x * 0 + dt c (uL n) = ZnR c n; rw [ZoA c n,Nat.mul_zero,Nat.zero_add]
theorem Zf5:∀ c l r,leL l r = true → dt c l ≤ dt c r
 | c,[],r,_=>by rw [Zc3]; exact Nat.zero_le _
 | [],x :: l,r,_=>Nat.zero_le _
 | z :: c,x :: l,[],h=>by
  have h:=(Bool.and_eq_true _ _).mp h
  have e:x = 0:=Nat.le_zero.1 (Nat.le_of_ble_eq_true h.1)
  have i:=Zf5 c l [] h.2
  rw [Zc3] at i
  show z * x + dt c l ≤ 0
  rw [e,Nat.le_zero.1 i]; exact Nat.le_refl 0
 | z :: c,x :: l,y :: r,h=>
  have h:=(Bool.and_eq_true _ _).mp h
  Nat.add_le_add (Nat.mul_le_mul_left z (Nat.le_of_ble_eq_true h.1)) (Zf5 c l r h.2)
theorem AE.li_ev (c:List Nat):∀ e:AE,dt (1 :: c) e.li = e.ev c
 | .v i=>(Nat.zero_add _).trans (ZoA c i)
 | .k n=>by show 1 * n + dt c [] = n; rw [Zc3,Nat.one_mul]; rfl
 | .a x y=>(Ze4 _ _ _).trans (congr (congrArg _ (x.li_ev c)) (y.li_ev c))
 | .m n x=>(Zjl n _ _).trans (congrArg _ (x.li_ev c))
noncomputable def rdE:Nat → Nat → AE × Nat
 | 0,s=>(.k 0,s)
 | f + 1,s=>bif Nat.ble (s % 16) 9 then (.v (s % 16),s / 16) else bif Nat.beq (s % 16) 10 then (.k 1,s / 16)
  else bif Nat.beq (s % 16) 11 then (.k (s / 256 % 16 ^ (s / 16 % 16)),s / 256 / 16 ^ (s / 16 % 16))
  else bif Nat.beq (s % 16) 12 then (.a (rdE f (s / 16)).1 (rdE f (rdE f (s / 16)).2).1,(rdE f (rdE f (s / 16)).2).2)
  else bif Nat.beq (s % 16) 13 then (.m (s / 16 % 256) (rdE f (s / 4096)).1,(rdE f (s / 4096)).2)
  else (.k 0,s / 16)
noncomputable def Zm3:Nat → Nat → Nat → Prop
 | 0,x,y=>x ≤ y
 | 1,x,y=>x < y
 | 2,x,y=>x = y
 | 3,x,y=>x = y
 | 4,x,y=>¬ x ≤ y
 | 5,x,y=>¬ x < y
 | _,_,_=>False
noncomputable def loN:Nat → AE → AE → List Nat
 | 0,x,_=>x.li
 | 1,x,_=>aL [1] x.li
 | 2,x,_=>x.li
 | 4,_,y=>aL [1] y.li
 | _,_,y=>y.li
noncomputable def hiN:Nat → AE → AE → List Nat
 | 0,_,y=>y.li
 | 1,_,y=>y.li
 | 2,_,y=>y.li
 | _,x,_=>x.li
noncomputable def Zih (c:List Nat):Nat → Nat → Prop
 | 0,s=>Zm3 (s % 16) ((rdE 9 (s / 16)).1.ev c) ((rdE 9 (rdE 9 (s / 16)).2).1.ev c)
 | n + 1,s=>Zm3 (s / 16 % 16) ((rdE 9 (s / 256)).1.ev c) ((rdE 9 (rdE 9 (s / 256)).2).1.ev c) → Zih c n (rdE 9 (rdE 9 (s / 256)).2).2
noncomputable def gN:Nat → AE → AE → List Nat → List Nat → Bool
 | 0,x,y,L,R=>leL (aL R x.li) (aL L y.li)
 | 1,x,y,L,R=>leL (aL [1] (aL R x.li)) (aL L y.li)
 | _,_,_,L,R=>leL (aL [1] R) L
noncomputable def chN:Nat → Nat → List Nat → List Nat → Bool
 | 0,s,L,R=>gN (s % 16) (rdE 9 (s / 16)).1 (rdE 9 (rdE 9 (s / 16)).2).1 L R
 | n + 1,s,L,R=>chN n (rdE 9 (rdE 9 (s / 256)).2).2 (aL L (sL (s % 16) (loN (s / 16 % 16) (rdE 9 (s / 256)).1 (rdE 9 (rdE 9 (s / 256)).2).1))) (aL R (sL (s % 16) (hiN (s / 16 % 16) (rdE 9 (s / 256)).1 (rdE 9 (rdE 9 (s / 256)).2).1)))
theorem ZgV (c l:List Nat):dt (1 :: c) (aL [1] l) = dt (1 :: c) l + 1:=by
 rw [Ze4]; show 1 * 1 + dt c [] + _ = _; rw [Zc3]; exact Nat.add_comm _ _
theorem ZmS (c:List Nat) (x y:AE):∀ r,Zm3 r (x.ev c) (y.ev c) → dt (1 :: c) (loN r x y) ≤ dt (1 :: c) (hiN r x y)
 | 0,h=>by show dt _ x.li ≤ dt _ y.li; rw [x.li_ev,y.li_ev]; exact h
 | 1,h=>by show dt _ (aL [1] x.li) ≤ dt _ y.li; rw [ZgV,x.li_ev,y.li_ev]; exact h
 | 2,h=>by show dt _ x.li ≤ dt _ y.li; rw [x.li_ev,y.li_ev]; exact Nat.le_of_eq h
 | 3,h=>by show dt _ y.li ≤ dt _ x.li; rw [x.li_ev,y.li_ev]; exact Nat.le_of_eq h.symm
 | 4,h=>by show dt _ (aL [1] y.li) ≤ dt _ x.li; rw [ZgV,x.li_ev,y.li_ev]; exact Nat.lt_of_not_le h
 | 5,h=>by show dt _ y.li ≤ dt _ x.li; rw [x.li_ev,y.li_ev]; exact Nat.le_of_not_lt h
 | _ + 6,h=>h.elim
theorem Zrf (c:List Nat) (x y:AE) (L R:List Nat) (h:dt (1 :: c) L ≤ dt (1 :: c) R):∀ r,gN r x y L R = true → Zm3 r (x.ev c) (y.ev c)
 | 0,k=>by
  have e:=Zf5 (1 :: c) _ _ k
  rw [Ze4,Ze4,x.li_ev,y.li_ev] at e
  exact Nat.le_of_add_le_add_left (Nat.le_trans e (Nat.add_le_add_right h _))
 | 1,k=>by
  have e:=Zf5 (1 :: c) _ _ k
  rw [ZgV,Ze4,Ze4,x.li_ev,y.li_ev] at e
  exact Nat.lt_of_add_lt_add_left (Nat.le_trans e (Nat.add_le_add_right h _))
 | r + 2,k=>by
  have e:=Zf5 (1 :: c) _ _ k
  rw [ZgV] at e
  exact absurd (Nat.le_trans e h) (Nat.not_succ_le_self _)
theorem arN (c:List Nat):∀ (n s:Nat) (L R:List Nat),dt (1 :: c) L ≤ dt (1 :: c) R → chN n s L R = true → Zih c n s
 | 0,s,L,R,h,k=>Zrf c _ _ L R h _ k
 | n + 1,s,L,R,h,k=>fun g=>arN c n _ _ _ (by
   rw [Ze4,Ze4,Zjl,Zjl]; exact Nat.add_le_add h (Nat.mul_le_mul_left _ (ZmS c _ _ _ g))) k
end L3
theorem lN (c:List Nat) (n s:Nat) (h:L3.chN n s [] [] = true):L3.Zih c n s:=L3.arN c n s [] [] (Nat.le_refl _) h
theorem sbA (a b:Nat):a ≤ a - b + b:=Nat.le_add_of_sub_le (Nat.le_refl _)
theorem T1:true = true:=rfl
theorem lA {a:Nat} (n s:Nat) (y:L3.chN n s [] [] = true):L3.Zih [a] n s:=lN _ n s y
theorem lB {a b:Nat} (n s:Nat) (y:L3.chN n s [] [] = true):L3.Zih [a,b] n s:=lN _ n s y
theorem lC {a b c:Nat} (n s:Nat) (y:L3.chN n s [] [] = true):L3.Zih [a,b,c] n s:=lN _ n s y
theorem lD {a b c d:Nat} (n s:Nat) (y:L3.chN n s [] [] = true):L3.Zih [a,b,c,d] n s:=lN _ n s y
theorem lE {a b c d e:Nat} (n s:Nat) (y:L3.chN n s [] [] = true):L3.Zih [a,b,c,d,e] n s:=lN _ n s y
theorem lF {a b c d e f:Nat} (n s:Nat) (y:L3.chN n s [] [] = true):L3.Zih [a,b,c,d,e,f] n s:=lN _ n s y
theorem clA (w:Int):max w 0 = (w.toNat:Int):=(Int.ofNat_toNat w).symm
theorem clB (v:Int) (n:Nat) (h:¬ v < 0):min v (n:Int) = ((min v.toNat n:Nat):Int):=by
 obtain ⟨k,rfl⟩:=Int.eq_ofNat_of_zero_le (Int.not_lt.1 h)
 rcases Nat.le_total k n with z | z
 ·rw [Int.min_eq_left (Int.ofNat_le.2 z)]; exact congrArg Int.ofNat (Nat.min_eq_left z).symm
 ·rw [Int.min_eq_right (Int.ofNat_le.2 z)]; exact congrArg Int.ofNat (Nat.min_eq_right z).symm
theorem clC (v:Int) (n:Nat) (h:v < 0):max 0 (min (v + (n:Int)) (n:Int)) = ((v + (n:Int)).toNat:Int):=by
 rw [Int.min_eq_left (Int.le_of_lt (Int.lt_of_lt_of_le (Int.add_lt_add_right h _) (Int.le_of_eq (Int.zero_add _)))),Int.max_comm]; exact clA _
theorem clD (v:Int) (n:Nat) (h:¬ v < 0):max 0 (min v (n:Int)) = ((min v.toNat n:Nat):Int):=by
 rw [clB v n h]; exact Int.max_eq_right (Int.natCast_nonneg _)
namespace L3
set_option genSizeOf false in
set_option genInjectivity false in
inductive AI where
 | v (i:Nat)
 | k (n:Nat)
 | c (e:AE)
 | a (x y:AI)
 | s (x y:AI)
 | g (x:AI)
 | m (n:Nat) (x:AI)
noncomputable def Zna:List Int → Nat → Int
 | [],_=>0
 | x :: _,0=>x
 | _ :: l,n + 1=>Zna l n
noncomputable def AI.ev (c:List Nat) (d:List Int):AI → Int
 | .v i=>Zna d i
 | .k n=>Int.ofNat n
 | .c e=>((e.ev c:Nat):Int)
 | .a x y=>x.ev c d + y.ev c d
 | .s x y=>x.ev c d - y.ev c d
 | .g x=>-x.ev c d
 | .m n x=>Int.ofNat n * x.ev c d
noncomputable def pL (u w:List Nat × List Nat):List Nat × List Nat:=(aL u.1 w.1,aL u.2 w.2)
noncomputable def AI.li:AI → Bool → List Nat × List Nat
 | .v i,b=>bif b then ([],uL i) else ([],[])
 | .k n,b=>bif b then ([n],[]) else ([],[])
 | .c e,b=>bif b then (e.li,[]) else ([],[])
 | .a x y,b=>pL (x.li b) (y.li b)
 | .s x y,b=>pL (x.li b) (y.li (!b))
 | .g x,b=>x.li (!b)
 | .m n x,b=>(sL n (x.li b).1,sL n (x.li b).2)
noncomputable def dtI:List Int → List Nat → Int
 | x :: c,y :: l=>x * (y:Int) + dtI c l
 | [],_=>0
 | _,[]=>0
noncomputable def dI (c:List Nat) (d:List Int) (u:List Nat × List Nat):Int:=((dt (1 :: c) u.1:Nat):Int) + dtI d u.2
theorem ZoP (p q r s:Int):p + q + (r + s) = p + r + (q + s):=by omega
theorem Zcl:∀ c,dtI c [] = 0
 | []=>rfl
 | _ :: _=>rfl
theorem Znj:∀ c l r,dtI c (aL l r) = dtI c l + dtI c r
 | c,[],r=>by rw [Zcl,Int.zero_add]; rfl
 | c,x :: l,[]=>by rw [Zcl,Int.add_zero]; rfl
 | [],x :: l,y :: r=>rfl
 | z :: c,x :: l,y :: r=>by
  show z * ((x + y:Nat):Int) + dtI c (aL l r) = (z * x + dtI c l) + (z * y + dtI c r)
  rw [Znj c l r,Int.natCast_add,Int.mul_add]; exact ZoP _ _ _ _
theorem Znl (n:Nat):∀ c l,dtI c (sL n l) = Int.ofNat n * dtI c l
 | c,[]=>by rw [Zcl,Int.mul_zero]; exact Zcl c
 | [],x :: l=>(Int.mul_zero _).symm
 | z :: c,x :: l=>by
  show z * ((n * x:Nat):Int) + dtI c (sL n l) = Int.ofNat n * (z * x + dtI c l)
  rw [Znl n c l,Int.mul_add,Int.natCast_mul,Int.mul_left_comm]; rfl
theorem Zmz:∀ c i,dtI c (uL i) = Zna c i
 | [],0=>rfl
 | [],_ + 1=>rfl
 | x :: c,0=>by show x * 1 + dtI c [] = x; rw [Zcl,Int.mul_one,Int.add_zero]
 | x :: c,n + 1=>by show x * 0 + dtI c (uL n) = Zna c n; rw [Zmz c n,Int.mul_zero,Int.zero_add]
section
variable (c:List Nat) (d:List Int)
theorem Zc8 (u w:List Nat × List Nat):dI c d (pL u w) = dI c d u + dI c d w:=by
 show ((dt (1 :: c) (aL u.1 w.1):Nat):Int) + dtI d (aL u.2 w.2) = _
 rw [Ze4,Znj,Int.natCast_add]; exact ZoP _ _ _ _
theorem Zk4 (n:Nat) (u:List Nat × List Nat):dI c d (sL n u.1,sL n u.2) = Int.ofNat n * dI c d u:=by
 show ((dt (1 :: c) (sL n u.1):Nat):Int) + dtI d (sL n u.2) = _
 rw [Zjl,Znl,Int.natCast_mul]; exact (Int.mul_add _ _ _).symm
theorem Zpc:dI c d ([],[]) = 0:=by
 show ((dt (1 :: c) []:Nat):Int) + dtI d [] = 0
 rw [Zc3,Zcl]; rfl
theorem Zp4 (p q r s:Int):p - q + (r - s) = p + r - (q + s):=by omega
theorem Zmn (p q r s:Int):p - q - (r - s) = p + s - (q + r):=by omega
theorem AI.li_ev:∀ e:AI,e.ev c d = dI c d (e.li true) - dI c d (e.li false)
 | .v i=>by show Zna d i = dI c d ([],uL i) - dI c d ([],[]); rw [Zpc,Int.sub_zero]; show _ = ((dt (1 :: c) []:Nat):Int) + dtI d (uL i); rw [Zc3,Zmz]; exact (Int.zero_add _).symm
 | .k n=>by show Int.ofNat n = dI c d ([n],[]) - dI c d ([],[]); rw [Zpc,Int.sub_zero]; show _ = ((dt (1 :: c) [n]:Nat):Int) + dtI d []; rw [Zcl,Int.add_zero]; show _ = ((1 * n + dt c []:Nat):Int); rw [Zc3,Nat.one_mul]; rfl
 | .c e=>by show ((e.ev c:Nat):Int) = dI c d (e.li,[]) - dI c d ([],[]); rw [Zpc,Int.sub_zero]; show _ = ((dt (1 :: c) e.li:Nat):Int) + dtI d []; rw [Zcl,Int.add_zero,e.li_ev]
 | .a x y=>by show x.ev c d + y.ev c d = dI c d (pL (x.li true) (y.li true)) - dI c d (pL (x.li false) (y.li false)); rw [Zc8,Zc8,x.li_ev,y.li_ev]; exact Zp4 _ _ _ _
 | .s x y=>by show x.ev c d - y.ev c d = dI c d (pL (x.li true) (y.li false)) - dI c d (pL (x.li false) (y.li true)); rw [Zc8,Zc8,x.li_ev,y.li_ev]; exact Zmn _ _ _ _
 | .g x=>by show -x.ev c d = dI c d (x.li false) - dI c d (x.li true); rw [x.li_ev]; exact Int.neg_sub _ _
 | .m n x=>by show Int.ofNat n * x.ev c d = dI c d (sL n (x.li true).1,sL n (x.li true).2) - dI c d (sL n (x.li false).1,sL n (x.li false).2); rw [Zk4,Zk4,x.li_ev]; exact Int.mul_sub _ _ _
noncomputable def cI (x y:AI):List Nat × List Nat:=pL (x.li true) (y.li false)
noncomputable def Zkg (u:List Nat × List Nat):List Nat × List Nat:=(aL [1] u.1,u.2)
theorem Zig (u:List Nat × List Nat):dI c d (Zkg u) = dI c d u + 1:=by
 show ((dt (1 :: c) (aL [1] u.1):Nat):Int) + dtI d u.2 = ((dt (1 :: c) u.1:Nat):Int) + dtI d u.2 + 1
 rw [ZgV,Int.natCast_add,Int.add_right_comm]; rfl
theorem Zim (x y:AI):dI c d (cI x y) - dI c d (cI y x) = x.ev c d - y.ev c d:=by
 unfold cI
 rw [Zc8,Zc8,x.li_ev,y.li_ev,Zmn,Int.add_comm (dI c d (y.li true))]
theorem ZkS {x y:AI} (h:x.ev c d ≤ y.ev c d):dI c d (cI x y) ≤ dI c d (cI y x):=by
 have:=Zim c d x y; omega
theorem Zrk {x y:AI} (h:dI c d (cI x y) ≤ dI c d (cI y x)):x.ev c d ≤ y.ev c d:=by
 have:=Zim c d x y; omega
noncomputable def ZqV:Nat → Int → Int → Prop
 | 0,x,y=>x ≤ y
 | 1,x,y=>x < y
 | 2,x,y=>x = y
 | 3,x,y=>x = y
 | 4,x,y=>¬ x ≤ y
 | 5,x,y=>¬ x < y
 | _,_,_=>False
noncomputable def loI:Nat → AI → AI → List Nat × List Nat
 | 0,x,y=>cI x y
 | 1,x,y=>Zkg (cI x y)
 | 2,x,y=>cI x y
 | 4,x,y=>Zkg (cI y x)
 | _,x,y=>cI y x
noncomputable def hiI:Nat → AI → AI → List Nat × List Nat
 | 0,x,y=>cI y x
 | 1,x,y=>cI y x
 | 2,x,y=>cI y x
 | _,x,y=>cI x y
theorem ZoQ {x y:AI} (h:x.ev c d < y.ev c d):dI c d (Zkg (cI x y)) ≤ dI c d (cI y x):=by
 have:=Zim c d x y; rw [Zig]; omega
theorem Zp9 (x y:AI):∀ r,ZqV r (x.ev c d) (y.ev c d) → dI c d (loI r x y) ≤ dI c d (hiI r x y)
 | 0,h=>ZkS c d h
 | 1,h=>ZoQ c d h
 | 2,h=>ZkS c d (Int.le_of_eq h)
 | 3,h=>ZkS c d (Int.le_of_eq h.symm)
 | 4,h=>ZoQ c d (Int.not_le.1 h)
 | 5,h=>ZkS c d (Int.not_lt.1 h)
 | _ + 6,h=>h.elim
end
noncomputable def rdI:Nat → Nat → AI × Nat
 | 0,s=>(.k 0,s)
 | f + 1,s=>bif Nat.ble (s % 16) 7 then (.v (s % 16),s / 16) else bif Nat.beq (s % 16) 8 then (.c (rdE 9 (s / 16)).1,(rdE 9 (s / 16)).2)
  else bif Nat.beq (s % 16) 9 then (.g (rdI f (s / 16)).1,(rdI f (s / 16)).2) else bif Nat.beq (s % 16) 10 then (.k 1,s / 16)
  else bif Nat.beq (s % 16) 11 then (.k (s / 256 % 16 ^ (s / 16 % 16)),s / 256 / 16 ^ (s / 16 % 16))
  else bif Nat.beq (s % 16) 12 then (.a (rdI f (s / 16)).1 (rdI f (rdI f (s / 16)).2).1,(rdI f (rdI f (s / 16)).2).2)
  else bif Nat.beq (s % 16) 13 then (.m (s / 16 % 256) (rdI f (s / 4096)).1,(rdI f (s / 4096)).2)
  else bif Nat.beq (s % 16) 14 then (.k 0,s / 16) else (.s (rdI f (s / 16)).1 (rdI f (rdI f (s / 16)).2).1,(rdI f (rdI f (s / 16)).2).2)
noncomputable def hP (c:List Nat) (d:List Int) (r s:Nat):Prop:=bif Nat.ble 8 r then ZqV (r - 8) ((rdI 9 s).1.ev c d) ((rdI 9 (rdI 9 s).2).1.ev c d) else Zm3 r ((rdE 9 s).1.ev c) ((rdE 9 (rdE 9 s).2).1.ev c)
noncomputable def hR (r s:Nat):Nat:=bif Nat.ble 8 r then (rdI 9 (rdI 9 s).2).2 else (rdE 9 (rdE 9 s).2).2
noncomputable def hL (r s:Nat):List Nat × List Nat:=bif Nat.ble 8 r then loI (r - 8) (rdI 9 s).1 (rdI 9 (rdI 9 s).2).1 else (loN r (rdE 9 s).1 (rdE 9 (rdE 9 s).2).1,[])
noncomputable def hH (r s:Nat):List Nat × List Nat:=bif Nat.ble 8 r then hiI (r - 8) (rdI 9 s).1 (rdI 9 (rdI 9 s).2).1 else (hiN r (rdE 9 s).1 (rdE 9 (rdE 9 s).2).1,[])
theorem ZqZ (c:List Nat) (d:List Int) (r s:Nat) (h:hP c d r s):dI c d (hL r s) ≤ dI c d (hH r s):=by
 unfold hP at h
 unfold hL hH
 cases e:Nat.ble 8 r <;> rw [e] at h
 ·exact Int.add_le_add_right (Int.ofNat_le.2 (ZmS c _ _ _ h)) _
 ·exact Zp9 c d _ _ _ h
noncomputable def zL:List Nat → Bool
 | []=>true
 | x :: l=>Nat.beq x 0 && zL l
noncomputable def eqL:List Nat → List Nat → Bool
 | [],r=>zL r
 | x :: l,[]=>Nat.beq x 0 && zL l
 | x :: l,y :: r=>Nat.beq x y && eqL l r
theorem Zmu:∀ c l,zL l = true → dtI c l = 0
 | c,[],_=>Zcl c
 | [],x :: l,_=>rfl
 | z :: c,x :: l,h=>by
  have h:=(Bool.and_eq_true _ _).mp h
  show z * (x:Int) + dtI c l = 0
  rw [Nat.eq_of_beq_eq_true h.1,Zmu c l h.2,Int.add_zero]; exact Int.mul_zero z
theorem ZmT:∀ c l r,eqL l r = true → dtI c l = dtI c r
 | c,[],r,h=>(Zcl c).trans (Zmu c r h).symm
 | c,x :: l,[],h=>(Zmu c (x :: l) h).trans (Zcl c).symm
 | [],x :: l,y :: r,_=>rfl
 | z :: c,x :: l,y :: r,h=>by
  have h:=(Bool.and_eq_true _ _).mp h
  show z * (x:Int) + dtI c l = z * (y:Int) + dtI c r
  rw [Nat.eq_of_beq_eq_true h.1,ZmT c l r h.2]
noncomputable def leP (u w:List Nat × List Nat):Bool:=leL u.1 w.1 && eqL u.2 w.2
theorem ZgF (c:List Nat) (d:List Int) {u w:List Nat × List Nat} (h:leP u w = true):dI c d u ≤ dI c d w:=by
 have h:=(Bool.and_eq_true _ _).mp h
 exact Int.add_le_add (Int.ofNat_le.2 (Zf5 _ _ _ h.1)) (Int.le_of_eq (ZmT d _ _ h.2))
noncomputable def Zpx (c:List Nat) (d:List Int):Nat → Nat → Prop
 | 0,s=>hP c d (s % 16) (s / 16)
 | n + 1,s=>hP c d (s / 16 % 16) (s / 256) → Zpx c d n (hR (s / 16 % 16) (s / 256))
noncomputable def gI (r s:Nat) (L R:List Nat × List Nat):Bool:=bif Nat.beq r 0 then leP (pL R ((rdE 9 s).1.li,[])) (pL L ((rdE 9 (rdE 9 s).2).1.li,[]))
 else bif Nat.beq r 1 then leP (Zkg (pL R ((rdE 9 s).1.li,[]))) (pL L ((rdE 9 (rdE 9 s).2).1.li,[]))
 else bif Nat.beq r 8 then leP (pL R (cI (rdI 9 s).1 (rdI 9 (rdI 9 s).2).1)) (pL L (cI (rdI 9 (rdI 9 s).2).1 (rdI 9 s).1))
 else bif Nat.beq r 9 then leP (Zkg (pL R (cI (rdI 9 s).1 (rdI 9 (rdI 9 s).2).1))) (pL L (cI (rdI 9 (rdI 9 s).2).1 (rdI 9 s).1))
 else leP (Zkg R) L
noncomputable def chI:Nat → Nat → List Nat × List Nat → List Nat × List Nat → Bool
 | 0,s,L,R=>gI (s % 16) (s / 16) L R
 | n + 1,s,L,R=>chI n (hR (s / 16 % 16) (s / 256)) (pL L (sL (s % 16) (hL (s / 16 % 16) (s / 256)).1,sL (s % 16) (hL (s / 16 % 16) (s / 256)).2)) (pL R (sL (s % 16) (hH (s / 16 % 16) (s / 256)).1,sL (s % 16) (hH (s / 16 % 16) (s / 256)).2))
theorem Zk1 (c:List Nat) (d:List Int) (e:AE):dI c d (e.li,[]) = ((e.ev c:Nat):Int):=by
 show ((dt (1 :: c) e.li:Nat):Int) + dtI d [] = _
 rw [Zcl,Int.add_zero,e.li_ev]
theorem Znc {a b l r:Int} (h:l ≤ r) (e:r + a ≤ l + b):a ≤ b:=by omega
theorem Zm2 {a b l r:Int} (h:l ≤ r) (e:r + a + 1 ≤ l + b):a < b:=by omega
theorem ZpL {l r:Int} (h:l ≤ r) (e:r + 1 ≤ l):False:=by omega
theorem Zrr (c:List Nat) (d:List Int) (r s:Nat) (L R:List Nat × List Nat) (h:dI c d L ≤ dI c d R) (k:gI r s L R = true):hP c d r s:=by
 unfold gI at k
 cases e0:Nat.beq r 0 with
 | true=>
  rw [Nat.eq_of_beq_eq_true e0] at k ⊢
  have e:=ZgF c d k
  rw [Zc8,Zc8,Zk1,Zk1] at e
  exact Int.ofNat_le.1 (Znc h e)
 | false=>
  cases e1:Nat.beq r 1 with
  | true=>
   rw [Nat.eq_of_beq_eq_true e1] at k ⊢
   have e:=ZgF c d k
   rw [Zig,Zc8,Zc8,Zk1,Zk1] at e
   exact Int.ofNat_lt.1 (Zm2 h e)
  | false=>
   cases e8:Nat.beq r 8 with
   | true=>
    rw [Nat.eq_of_beq_eq_true e8] at k ⊢
    have e:=ZgF c d k
    rw [Zc8,Zc8] at e
    exact Zrk c d (Znc h e)
   | false=>
    cases e9:Nat.beq r 9 with
    | true=>
     rw [Nat.eq_of_beq_eq_true e9] at k ⊢
     have e:=ZgF c d k
     rw [Zig,Zc8,Zc8] at e
     have z:=Zm2 h e
     have y:=Zim c d (rdI 9 s).1 (rdI 9 (rdI 9 s).2).1
     show (rdI 9 s).1.ev c d < (rdI 9 (rdI 9 s).2).1.ev c d
     exact Int.lt_of_sub_neg (y ▸ Int.sub_neg_of_lt z)
    | false=>
     rw [e0,e1,e8,e9] at k
     have e:=ZgF c d k
     rw [Zig] at e
     exact (ZpL h e).elim
theorem arI (c:List Nat) (d:List Int):∀ (n s:Nat) (L R:List Nat × List Nat),dI c d L ≤ dI c d R → chI n s L R = true → Zpx c d n s
 | 0,s,L,R,h,k=>Zrr c d _ _ L R h k
 | n + 1,s,L,R,h,k=>fun g=>arI c d n _ _ _ (by
   rw [Zc8,Zc8,Zk4,Zk4]; exact Int.add_le_add h (Int.mul_le_mul_of_nonneg_left (ZqZ c d _ _ g) (Int.natCast_nonneg _))) k
end L3
theorem iN (c:List Nat) (d:List Int) (n s:Nat) (h:L3.chI n s ([],[]) ([],[]) = true):L3.Zpx c d n s:=L3.arI c d n s ([],[]) ([],[]) (Int.le_refl _) h
set_option Elab.async false
set_option linter.all false
set_option maxRecDepth 100000
namespace L2
open PySem PySem.Spec PyProof.Rows
noncomputable abbrev Key:=Sum Int Str
noncomputable def ZhQ:Key → Value → Bool
 | .inl k,v=>Value.isInt k v
 | .inr x,v=>Value.isStrOf x v
noncomputable def Zr2 (w:World):Key → Int
 | .inl k=>hashInt k
 | .inr x=>hashStr w x
theorem Zbs:∀ {k:Key} {v:Value},ZhQ k v = true → (∃ i t,k = Sum.inl i ∧ v = Value.int i t) ∨ (∃ x t,k = Sum.inr x ∧ v = Value.str x t)
 | .inl i,v,h=>by
  obtain ⟨t,e⟩:=Value.isInt_shape (k:=i) (v:=v) h
  exact .inl ⟨i,t,rfl,e⟩
 | .inr x,v,h=>by
  obtain ⟨t,e⟩:=Value.isStrOf_shape (x:=x) (v:=v) h
  exact .inr ⟨x,t,rfl,e⟩
theorem Zlw (i:Int) (t:Tok):ZhQ (.inl i) (.int i t) = true:=by simp [ZhQ,Value.isInt]
theorem Zlj (x:Str) (t:Tok):ZhQ (.inr x) (.str x t) = true:=by simp [ZhQ,Value.isStrOf]
theorem Zp8 (a b:Int):decide ((Sum.inl a:Key) = Sum.inl b) = (a == b):=by
 by_cases e:a = b
 ·subst e; simp
 ·have h:¬ (Sum.inl a:Key) = Sum.inl b:=fun q=>e (Sum.inl.inj q)
  rw [decide_eq_false h]
  exact (beq_eq_false_iff_ne.mpr e).symm
theorem Zo4 (a b:Str):decide ((Sum.inr a:Key) = Sum.inr b) = decide (a = b):=by
 by_cases e:a = b
 ·subst e; simp
 ·have h:¬ (Sum.inr a:Key) = Sum.inr b:=fun q=>e (Sum.inr.inj q)
  rw [decide_eq_false h,decide_eq_false e]
theorem Zo3 (a:Int) (b:Str):decide ((Sum.inl a:Key) = Sum.inr b) = false:=decide_eq_false (fun q=>nomatch q)
theorem Zpi (a:Str) (b:Int):decide ((Sum.inr a:Key) = Sum.inl b) = false:=decide_eq_false (fun q=>nomatch q)
noncomputable def Za2 (prog:Program) (w:World):PySem.KeyKind prog w Key where
 is:=ZhQ
 hash:=Zr2 w
 inj:=fun v a b ha hb=>by
  rcases Zbs ha with ⟨i,t,rfl,rfl⟩ | ⟨x,t,rfl,rfl⟩
  ·rcases Zbs hb with ⟨j,u,rfl,e⟩ | ⟨y,u,rfl,e⟩
   ·injection e with e1 _; rw [e1]
   ·exact nomatch e
  ·rcases Zbs hb with ⟨j,u,rfl,e⟩ | ⟨y,u,rfl,e⟩
   ·exact nomatch e
   ·injection e with e1 _; rw [e1]
 byValue:=fun k v h=>by
  rcases Zbs h with ⟨i,t,rfl,rfl⟩ | ⟨x,t,rfl,rfl⟩ <;> rfl
 pyHash:=fun hv h=>by
  rcases Zbs hv with ⟨i,t,rfl,rfl⟩ | ⟨x,t,rfl,rfl⟩
  ·exact wpAny_pyHash_int h
  ·exact wpAny_pyHash_str h
 eqBool:=fun hu hv h=>by
  rcases Zbs hu with ⟨i,t,rfl,rfl⟩ | ⟨x,t,rfl,rfl⟩
  ·rcases Zbs hv with ⟨j,u,rfl,rfl⟩ | ⟨y,u,rfl,rfl⟩
   ·rw [Zp8] at h; exact wpAny_eqBool_int h
   ·rw [Zo3] at h; exact SeqAt.EqAt.int_str i t y u _ _ _ _ h
  ·rcases Zbs hv with ⟨j,u,rfl,rfl⟩ | ⟨y,u,rfl,rfl⟩
   ·rw [Zpi] at h; exact SeqAt.EqAt.str_int x t j u _ _ _ _ h
   ·rw [Zo4] at h; exact wpAny_eqBool_str h
 «strs»:=fun k x t v h=>by
  rcases Zbs h with ⟨i,u,rfl,e⟩ | ⟨y,u,rfl,e⟩
  ·exact nomatch e
  ·injection e with e1 _
   subst e1
   cases v <;> rfl
theorem ZjE (prog:Program) (w:World) (i:Int) (t:Tok):(Za2 prog w).is (.inl i) (.int i t) = true:=Zlw i t
theorem ZjC (prog:Program) (w:World) (x:Str) (t:Tok):(Za2 prog w).is (.inr x) (.str x t) = true:=Zlj x t
end L2
namespace L2
open PySem PySem.Spec PyProof.Rows
inductive V where
 | non | bl (b:Bool) | int (i:Int) | str (x:Str) | byt (b:Array UInt8) | flt (b:UInt64) | ref (a:Addr) | ty (n:String)
 deriving DecidableEq
noncomputable def RelV:V → Value → Prop
 | .non,u=>u = Value.none
 | .bl b,u=>u = Value.bool b
 | .int i,u=>∃ t,u = Value.int i t
 | .str x,u=>∃ t,u = Value.str x t
 | .byt b,u=>∃ t,u = Value.bytes b t
 | .flt b,u=>∃ t,u = Value.float b t
 | .ref a,u=>u = Value.ref a
 | .ty n,u=>u = Value.type n
noncomputable abbrev Vals:List V → List Value → Prop:=Paired RelV
theorem Vals.length {xs:List V} {us:List Value} (r:Vals xs us):xs.length = us.length:=Paired.length r
theorem Vals.get:∀ {xs:List V} {us:List Value} {i:Nat} {x:V},Vals xs us → xs[i]? = some x → ∃ u,us[i]? = some u ∧ RelV x u
 | _,_,_,_,.nil,e=>by simp at e
 | _,_,0,_,.cons r _,e=>by simp at e; subst e; exact ⟨_,rfl,r⟩
 | _,_,i + 1,x,.cons _ t,e=>by
  obtain ⟨u,h1,h2⟩:=Vals.get (i:=i) (x:=x) t (by simpa using e)
  exact ⟨u,by simpa using h1,h2⟩
theorem Vals.set {x:V} {u:Value} (r:RelV x u):∀ {xs:List V} {us:List Value} (i:Nat),Vals xs us → Vals (xs.set i x) (us.set i u)
 | _,_,_,.nil=>.nil
 | _,_,0,.cons _ t=>.cons r t
 | _,_,i + 1,.cons q t=>.cons q (Vals.set r i t)
theorem Vals.append:∀ {xs ys:List V} {us ws:List Value},Vals xs us → Vals ys ws → Vals (xs ++ ys) (us ++ ws)
 | _,_,_,_,.nil,s=>s
 | _,_,_,_,.cons r t,s=>.cons r (Vals.append t s)
theorem Vals.take:∀ {xs:List V} {us:List Value} (n:Nat),Vals xs us → Vals (xs.take n) (us.take n)
 | _,_,0,_=>.nil
 | _,_,_ + 1,.nil=>.nil
 | _,_,n + 1,.cons r t=>.cons r (Vals.take n t)
theorem Vals.drop:∀ {xs:List V} {us:List Value} (n:Nat),Vals xs us → Vals (xs.drop n) (us.drop n)
 | _,_,0,r=>r
 | _,_,_ + 1,.nil=>.nil
 | _,_,n + 1,.cons _ t=>Vals.drop n t
noncomputable def ZfH:Option V → Option Value → Prop
 | some v,some u=>RelV v u
 | none,none=>True
 | _,_=>False
noncomputable def KV {κ:Type}:List (κ × V) → List (κ × Value) → Prop:=Paired fun (p:κ × V) (q:κ × Value)=>p.1 = q.1 ∧ RelV p.2 q.2
noncomputable def kV:Key → V
 | .inl i=>.int i
 | .inr x=>.str x
inductive HO where
 /-- a list -/
 | lst (xs:List V)
 /-- a tuple (never changes) -/
 | tup (xs:List V)
 /-- a dict whose keys are ints and texts; one whose keys are tuples of ints and texts (the empty one is both) -/
 | dK (kvs:List (Key × V)) | dT (kvs:List (List Key × V))
 /-- a set of ints: its members,its size -/
 | set (S:Int → Bool) (n:Nat)
 /-- an instance of the class at C,its dict at dx,its attributes -/
 | ins (C dx:Addr) (fs:List (Str × V))
 /-- the dict of the instance at x -/
 | own (x:Addr)
 /-- the dict of an exception -/
 | xd (fs:List (Str × V))
 /-- a bound method,f of x -/
 | met (f x:Addr)
 /-- a range object lo,lo + 1,.. below hi -/
 | rng (lo hi:Int)
 /-- a thing that is known to the object (the script; a dict while a loop walks it): read,never written while it is so -/
 | frz (o:Obj) (u:HO)
 /-- a code object's table -/
 | tbl (ps:Array Value)
 /-- any other thing,by what is true of its one object (a def of one's own: SetO a S n:=HO.ext fun h=>..) -/
 | ext (φ:Heap → Prop)
noncomputable abbrev Hp:=Addr → Option HO
noncomputable def upd (H:Hp) (a:Addr) (o:HO):Hp:=fun b=>if b = a then some o else H b
theorem Zch {H:Hp} {a:Addr} {o:HO}:upd H a o a = some o:=by unfold upd; rw [if_pos rfl]
theorem Za5 {H:Hp} {a b:Addr} {o:HO} (h:b ≠ a):upd H a o b = H b:=by unfold upd; rw [if_neg h]
theorem Zdw {H:Hp} {a b:Addr} {o:HO} (h:H a = some o) (h':H b = none):a ≠ b:=by
 intro e; subst e; rw [h] at h'; cases h'
section
variable (P:Program) (w:World)
noncomputable def Zds (h:Heap) (a:Addr) (items:Array Value):Prop:=∃ o,h.get? a = some o ∧ (o.cls = .type "tuple" ∧ o.dict = none) ∧ ∃ n,o.data = .seq items n
theorem Zds.tup {h:Heap} {a:Addr} {items:Array Value} (x:Zds h a items):IsTup h a items:=let ⟨o,e,c,d⟩:=x; ⟨o,e,c.1,d⟩
theorem Zds.new (h:Heap) (items:Array Value):Zds (h.push { cls:=.type "tuple",data:=.seq items }) h.objs.size items:=⟨_,Heap.get?_push_size _ rfl,⟨rfl,rfl⟩,0,rfl⟩
noncomputable def Zbq (H:Hp) (h:Heap) (a:Addr):HO → Prop
 | .lst xs=>xs.length ≤ sizeLine ∧ ∃ (its:List Value) (n:Nat),Vals xs its ∧ h.get? a = some { cls:=.type "list",data:=.seq its.toArray n }
 | .tup xs=>xs.length ≤ sizeLine ∧ ∃ its:List Value,Vals xs its ∧ Zds h a its.toArray
 | .dK kvs=>kvs.length ≤ sizeLine ∧ (a == sysModules) = false ∧ ∃ vs,KV kvs vs ∧ h.DictOf (Za2 P w) a vs
 | .dT kvs=>kvs.length ≤ sizeLine ∧ (a == sysModules) = false ∧ ∃ xs:List (List Key × Addr × Value),
   Paired (fun (p:List Key × V) (q:List Key × Addr × Value)=>p.1 = q.1 ∧ H q.2.1 = some (.tup (p.1.map kV)) ∧ RelV p.2 q.2.2) kvs xs ∧
   ∃ o es ep,h.get? a = some o ∧ o.ExactDict ∧ o.data = .dict es ep ∧ es.toList = xs.map (entryOfKey (tupleKind (Za2 P w))) ∧ (xs.map (·.1)).Nodup
 | .set S n=>h.SetOf (intKind P w) a S n
 | .ins C dx fs=>H dx = some (.own a) ∧ fs.length ≤ 1000 ∧ dx ≠ a ∧ h.get? a = some (PySem.W.instObj C dx) ∧
   ∃ mA,h.Ns1 dx mA ∧ (∀ f,ZfH (fs.lookup f) (mA f)) ∧ PySem.Within mA (fs.map (·.1))
 | .own _=>∃ o,h.get? a = some o
 | .xd fs=>∃ mA,h.Ns1 a mA ∧ ∀ f,ZfH (fs.lookup f) (mA f)
 | .rng lo hi=>∃ t u v,h.get? a = some { cls:=.type "range",data:=.fields #[.int lo t,.int hi u,.int 1 v] }
 | .frz o u=>h.get? a = some o ∧ Zbq H h a u
 | .tbl ps=>h.get? a = some { cls:=.none,data:=.fields ps }
 | .met f x=>h.get? a = some (PySem.W.methodObj (.ref f) (.ref x))
 | .ext φ=>φ h ∧ (∃ o,h.get? a = some o) ∧ ∀ h1 h2:Heap,φ h1 → (∀ o,h1.get? a = some o → h2.get? a = some o) → φ h2
noncomputable def HOk (H:Hp) (h:Heap):Prop:=∀ a o,H a = some o → Zbq P w H h a o
end
section
variable {P:Program} {w:World} {H H':Hp} {h h':Heap} {a:Addr} {o:HO}
theorem Zbq.lt (x:Zbq P w H h a o):a < h.objs.size:=by
 cases o with
 | lst xs=>obtain ⟨_,_,_,_,e⟩:=x; exact Heap.lt_size e
 | tup xs=>obtain ⟨_,_,_,p⟩:=x; exact p.tup.lt
 | dK kvs=>obtain ⟨_,_,_,_,o,_,_,e,_⟩:=x; exact Heap.lt_size e
 | dT kvs=>obtain ⟨_,_,_,_,o,_,_,e,_⟩:=x; exact Heap.lt_size e
 | set S n=>obtain ⟨o,_,_,_,e,_⟩:=x; exact Heap.lt_size e
 | ins C dx fs=>obtain ⟨_,_,_,e,_⟩:=x; exact Heap.lt_size e
 | own y=>obtain ⟨_,e⟩:=x; exact Heap.lt_size e
 | xd fs=>obtain ⟨_,⟨_,_,_,e,_⟩,_⟩:=x; exact Heap.lt_size e
 | rng lo hi=>obtain ⟨_,_,_,e⟩:=x; exact Heap.lt_size e
 | frz ob u=>obtain ⟨e,_⟩:=x; exact Heap.lt_size e
 | tbl ps=>exact Heap.lt_size (show h.get? a = some _ from x)
 | met f y=>exact Heap.lt_size (show h.get? a = some _ from x)
 | ext φ=>obtain ⟨_,⟨_,e⟩,_⟩:=x; exact Heap.lt_size e
theorem Paired.mapP {α β:Type} {F G:α → β → Prop}:∀ {l₁:List α} {l₂:List β},Paired F l₁ l₂ → (∀ a b,F a b → G a b) → Paired G l₁ l₂
 | _,_,.nil,_=>.nil
 | _,_,.cons r t,f=>.cons (f _ _ r) (Paired.mapP t f)
theorem Zbq.stay (x:Zbq P w H h a o) (k:∀ b u,(b = a ∨ H b = some (.own a)) → h.get? b = some u → h'.get? b = some u)
  (ho:∀ b,H b = some (.own a) → H' b = some (.own a)) (ht:∀ b xs,H b = some (.tup xs) → H' b = some (.tup xs)):Zbq P w H' h' a o:=by
 induction o with
 | lst xs=>obtain ⟨z,its,n,r,e⟩:=x; exact ⟨z,its,n,r,k _ _ (.inl rfl) e⟩
 | tup xs=>obtain ⟨z,its,r,ob,e,c⟩:=x; exact ⟨z,its,r,ob,k _ _ (.inl rfl) e,c⟩
 | dK kvs=>obtain ⟨z,y,vs,r,ob,es,ep,e,c⟩:=x; exact ⟨z,y,vs,r,ob,es,ep,k _ _ (.inl rfl) e,c⟩
 | dT kvs=>
  obtain ⟨z,y,xs,r,ob,es,ep,e,c⟩:=x
  exact ⟨z,y,xs,Paired.mapP r fun p q z=>⟨z.1,ht _ _ z.2.1,z.2.2⟩,ob,es,ep,k _ _ (.inl rfl) e,c⟩
 | set S n=>obtain ⟨ob,es,ep,t,e,c⟩:=x; exact ⟨ob,es,ep,t,k _ _ (.inl rfl) e,c⟩
 | ins C dx fs=>
  obtain ⟨d,z,ne,e,mA,⟨od,es,ep,e2,c⟩,r⟩:=x
  exact ⟨ho _ d,z,ne,k _ _ (.inl rfl) e,mA,⟨od,es,ep,k _ _ (.inr d) e2,c⟩,r⟩
 | own y=>obtain ⟨ob,e⟩:=x; exact ⟨ob,k _ _ (.inl rfl) e⟩
 | xd fs=>obtain ⟨mA,⟨od,es,ep,e,c⟩,r⟩:=x; exact ⟨mA,⟨od,es,ep,k _ _ (.inl rfl) e,c⟩,r⟩
 | rng lo hi=>obtain ⟨t,u,v,e⟩:=x; exact ⟨t,u,v,k _ _ (.inl rfl) e⟩
 | frz ob u ih=>obtain ⟨e,q⟩:=x; exact ⟨k _ _ (.inl rfl) e,ih q⟩
 | tbl ps=>
  have e:h.get? a = some { cls:=.none,data:=.fields ps }:=x
  show h'.get? a = some { cls:=.none,data:=.fields ps }
  exact k a _ (.inl rfl) e
 | met f y=>
  have e:h.get? a = some (PySem.W.methodObj (.ref f) (.ref y)):=x
  show h'.get? a = some (PySem.W.methodObj (.ref f) (.ref y))
  exact k a _ (.inl rfl) e
 | ext φ=>obtain ⟨p,⟨o,e⟩,st⟩:=x; exact ⟨st _ _ p fun o q=>k _ _ (.inl rfl) q,⟨o,k _ _ (.inl rfl) e⟩,st⟩
theorem HOk.lt (x:HOk P w H h) (e:H a = some o):a < h.objs.size:=(x a o e).lt
theorem HOk.fresh (x:HOk P w H h) (e:h.objs.size ≤ a):H a = none:=by
 cases q:H a with
 | none=>rfl
 | some u=>exact absurd (Nat.lt_of_lt_of_le (x.lt q) e) (Nat.lt_irrefl _)
theorem HOk.kept (x:HOk P w H h) (k:∀ b u,h.get? b = some u → h'.get? b = some u):HOk P w H h':=fun a o e=>
 (x a o e).stay (fun b u _ q=>k b u q) (fun _ q=>q) fun _ _ q=>q
theorem HOk.laid (x:HOk P w H h) (k:∀ b u,h.get? b = some u → h'.get? b = some u) (hp:h.objs.size ≤ a) (new:Zbq P w (upd H a o) h' a o):HOk P w (upd H a o) h':=fun b u e=>by
 have hn:=x.fresh hp
 by_cases hb:b = a
 ·subst hb; rw [Zch] at e; cases e; exact new
 ·rw [Za5 hb] at e
  exact (x b u e).stay (fun c v _ q=>k c v q) (fun c q=>by rw [Za5 (Zdw q hn)]; exact q) fun c xs q=>by rw [Za5 (Zdw q hn)]; exact q
end
noncomputable def Rd (H:Hp) (a:Addr) (u:HO):Prop:=H a = some u ∨ ∃ o,H a = some (.frz o u)
theorem Rd.ok {P:Program} {w:World} {H:Hp} {h:Heap} {a:Addr} {u:HO} (r:Rd H a u) (x:HOk P w H h):Zbq P w H h a u:=by
 rcases r with r | ⟨o,r⟩
 ·exact x a u r
 ·obtain ⟨_,q⟩:=x a _ r
  exact q
noncomputable def Mut:Option HO → Prop
 | some (.lst _)=>True
 | some (.dK _)=>True
 | some (.dT _)=>True
 | some (.set _ _)=>True
 | some (.ins _ _ _)=>True
 | some (.ext _)=>True
 | _=>False
section
variable {P:Program} {w:World} {H:Hp} {h h':Heap} {x e:Addr} {o':HO}
theorem HOk.write (ok:HOk P w H h) (mu:Mut (H x)) (he:e = x ∨ H e = some (.own x)) (k:∀ b u,b ≠ e → h.get? b = some u → h'.get? b = some u) (heo:∃ u,h'.get? e = some u)
  (new:Zbq P w (upd H x o') h' x o'):HOk P w (upd H x o') h':=fun b u q=>by
 have nown:∀ c y,H c = some (.own y) → c ≠ x:=fun c y r z=>by subst z; rw [r] at mu; exact mu
 have ntup:∀ c xs,H c = some (.tup xs) → c ≠ x:=fun c xs r z=>by subst z; rw [r] at mu; exact mu
 by_cases hb:b = x
 ·subst hb; rw [Zch] at q; cases q; exact new
 ·rw [Za5 hb] at q
  by_cases hbe:b = e
  ·have q':H b = some (.own x):=by
    rcases he with z | z
    ·exact absurd (hbe.trans z) hb
    ·rw [hbe]; exact z
   rw [q] at q'; cases q'
   obtain ⟨v,hv⟩:=heo
   exact ⟨v,by rw [hbe]; exact hv⟩
  ·refine (ok b u q).stay (fun c v hc r=>k c v ?_ r) (fun c r=>by rw [Za5 (nown c b r)]; exact r) fun c xs r=>by rw [Za5 (ntup c xs r)]; exact r
   rcases hc with rfl | hc
   ·exact hbe
   ·rintro rfl
    rcases he with z | z
    ·exact nown c b hc z
    ·rw [hc] at z; cases z; exact hb rfl
end
structure Un (fs ex:List Addr) (H H':Hp) (h h':Heap):Prop where
 keep:∀ b o,h.get? b = some o → H b = none → b ∉ fs → b ∉ ex → h'.get? b = some o
 slot:∀ b o,h.get? b = some o → H b = none → b ∈ fs → b ∉ ex → ∃ sl,h'.get? b = some { o with slots:=sl }
 free:∀ b o,h.get? b = some o → H b = none → b ∉ ex → H' b = none
 there:∀ b o,h.get? b = some o → b ∉ ex → ∃ o',h'.get? b = some o'
 tups:∀ b xs,H b = some (.tup xs) → H' b = some (.tup xs)
 frzs:∀ b o u,H b = some (.frz o u) → H' b = some (.frz o u)
 tbls:∀ b ps,H b = some (.tbl ps) → ∃ more,H' b = some (.tbl (ps ++ more))
section
variable {fs fs' ex ex':List Addr} {H H1 H2:Hp} {h h1 h2 h':Heap} {a x e:Addr} {o:HO}
theorem Un.any (u:Un fs ex H H1 h h1) {b:Addr} {ob:Obj} (q:h.get? b = some ob) (n:H b = none) (hx:b ∉ ex):∃ sl,h1.get? b = some { ob with slots:=sl }:=by
 by_cases hb:b ∈ fs
 ·exact u.slot b ob q n hb hx
 ·exact ⟨ob.slots,u.keep b ob q n hb hx⟩
theorem Un.trans (a:Un fs ex H H1 h h1) (b:Un fs ex H1 H2 h1 h2):Un fs ex H H2 h h2 where
 keep:=fun c ob q n hc hx=>b.keep c ob (a.keep c ob q n hc hx) (a.free c ob q n hx) hc hx
 slot:=fun c ob q n hc hx=>by
  obtain ⟨sl,e1⟩:=a.slot c ob q n hc hx
  obtain ⟨sl',e2⟩:=b.slot c _ e1 (a.free c ob q n hx) hc hx
  exact ⟨sl',e2⟩
 free:=fun c ob q n hx=>by
  obtain ⟨o',e1⟩:=a.there c ob q hx
  exact b.free c o' e1 (a.free c ob q n hx) hx
 there:=fun c ob q hx=>by
  obtain ⟨o',e1⟩:=a.there c ob q hx
  exact b.there c o' e1 hx
 tups:=fun c xs q=>b.tups c xs (a.tups c xs q)
 frzs:=fun c ob xs q=>b.frzs c ob xs (a.frzs c ob xs q)
 tbls:=fun c ps q=>by
  obtain ⟨m1,e1⟩:=a.tbls c ps q
  obtain ⟨m2,e2⟩:=b.tbls c _ e1
  exact ⟨m1 ++ m2,by rw [e2,Array.append_assoc]⟩
theorem Un.kept (k:∀ b u,h.get? b = some u → h'.get? b = some u):Un fs ex H H h h':=
 ⟨fun b ob q _ _ _=>k b ob q,fun b ob q _ _ _=>⟨ob.slots,k b ob q⟩,fun _ _ _ n _=>n,fun b ob q _=>⟨ob,k b ob q⟩,fun _ _ q=>q,fun _ _ _ q=>q,fun _ ps q=>⟨#[],by rw [q]; simp⟩⟩
theorem Un.refl:Un fs ex H H h h:=Un.kept fun _ _ q=>q
theorem Un.laid (k:∀ b u,h.get? b = some u → h'.get? b = some u) (hp:h.objs.size ≤ a) (hn:H a = none):Un fs ex H (upd H a o) h h' where
 keep:=fun b u q _ _ _=>k b u q
 slot:=fun b u q _ _ _=>⟨u.slots,k b u q⟩
 free:=fun b u q n _=>by rw [Za5 (Nat.ne_of_lt (Nat.lt_of_lt_of_le (Heap.lt_size q) hp))]; exact n
 there:=fun b u q _=>⟨u,k b u q⟩
 tups:=fun b xs q=>by rw [Za5 (Zdw q hn)]; exact q
 frzs:=fun b u xs q=>by rw [Za5 (Zdw q hn)]; exact q
 tbls:=fun b ps q=>⟨#[],by rw [Za5 (Zdw q hn),q]; simp⟩
theorem Un.write (mu:Mut (H x)) (he:e = x ∨ H e = some (.own x)) (k:∀ b u,b ≠ e → h.get? b = some u → h'.get? b = some u) (heo:∃ u,h'.get? e = some u):Un fs ex H (upd H x o) h h':=by
 have hx:∀ b,H b = none → b ≠ x:=fun b n z=>by subst z; rw [n] at mu; exact mu
 have hb:∀ b,H b = none → b ≠ e:=fun b n z=>by
  subst z
  rcases he with r | r
  ·exact hx b n r
  ·rw [n] at r; cases r
 have hm:∀ b u,H b = some u → ¬ Mut (some u) → b ≠ x:=fun b u q nm z=>by subst z; rw [q] at mu; exact nm mu
 refine ⟨fun b u q n _ _=>k b u (hb b n) q,fun b u q n _ _=>⟨u.slots,k b u (hb b n) q⟩,fun b u q n _=>by rw [Za5 (hx b n)]; exact n,fun b u q _=>?_,
  fun b xs q=>by rw [Za5 (hm b _ q fun z=>z)]; exact q,fun b u xs q=>by rw [Za5 (hm b _ q fun z=>z)]; exact q,fun b ps q=>⟨#[],by rw [Za5 (hm b _ q fun z=>z),q]; simp⟩⟩
 by_cases hbe:b = e
 ·subst hbe; exact heo
 ·exact ⟨u,k b u hbe q⟩
end
noncomputable def trk (h:Heap) (H:Hp):List Addr:=(List.range h.objs.size).filter fun a=>(H a).isSome
noncomputable def Ziy (h:Heap) (H:Hp):Heap:=PySem.W.hideAll h (trk h H)
theorem ZlE (h:Heap) (H:Hp):(Ziy h H).objs.size = h.objs.size:=PySem.W.hideAll_size _ _
theorem Znv {h:Heap} {H:Hp} {b:Addr} {o:Obj} (e:h.get? b = some o) (n:H b = none):(Ziy h H).get? b = some o:=
 PySem.W.hideAll_get _ e fun hm=>by
  have q:(H b).isSome = true:=(List.mem_filter.mp hm).2
  rw [n] at q; simp at q
theorem Zoa {h:Heap} {H:Hp} {b:Addr} {o:Obj} (e:(Ziy h H).get? b = some o):h.get? b = some o ∧ H b = none:=by
 have e':h.get? b = some o:=PySem.W.of_hideAll (trk h H) e
 refine ⟨e',?_⟩
 cases q:H b with
 | none=>rfl
 | some x=>
  have hm:b ∈ trk h H:=List.mem_filter.mpr ⟨List.mem_range.mpr (Heap.lt_size e'),by simp [q]⟩
  have z:(Ziy h H).get? b = none:=PySem.W.hideAll_none (trk h H) hm
  rw [z] at e; cases e
noncomputable def ZnH (g h:Heap) (L:Addr):List (Addr × Obj):=(List.range h.objs.size).filterMap fun a=>if a = L ∨ (g.get? a).isSome = true then none else (h.get? a).map fun o=>(a,o)
noncomputable def rest (g h:Heap) (L d:Addr):List (Addr × Obj):=(ZnH g h L).filter fun p=>decide (p.1 ≠ d)
end L2
namespace L2
open PySem PySem.Spec PyProof.Rows
structure Mod (K:PySem.W.Frag) (mg:Str → Option Value) (base:Heap):Prop where
 kin:K.In base
 glob:base.Ns mainGlobals mg
 blt:∃ mb,base.Ns builtinsNs mb ∧ ∀ x:Str,x ≠ "__name__" → mb x = bootBuiltins x
 nolimit:base.NoLimit
/-- the context: a def's body (or a comprehension's block) running. base: fixed through the whole law; s₀,H₀: the entry; outer: the frames whose slots others may change (a def's callers); stack: all frames that run;
  ex: iterators that were made ahead of the entry and are walked here (a comprehension's); fn: the names whose cells were made at the entry (a def: all; a comprehension's block: its own); calm: not within an except suite; pn: pins that every state bears; xe: what is wanted of an exception that leaves the code -/
structure Cx where
 prog:Program
 w:World
 K:PySem.W.Frag
 mg:Str → Option Value
 base:Heap
 A:Around
 N:List Str
 s₀:Shared
 H₀:Hp
 env:Env
 outer:List Env
 stack:List Env
 ex:List Addr
 fn:Str → Bool
 calm:Bool
 pn:List (Addr × Obj)
 xe:Value → Shared → Prop
noncomputable def frs (l:List Env):List Addr:=l.filterMap (·.frame)
noncomputable abbrev Cx.fs (X:Cx):List Addr:=frs X.outer
noncomputable def Vis (sc:Scope) (x:Str):Prop:=sc.names.lookup x = some .local ∨ sc.names.lookup x = some .cell ∨ sc.names.lookup x = some .free
noncomputable def Loc (sc:Scope) (x:Str):Prop:=sc.names.lookup x = some .local ∨ sc.names.lookup x = some .cell
noncomputable def Look (env:Env) (h:Heap) (m:Str → Option Value) (x:Str) (u:Value):Prop:=
 (env.kindOf x = some .local ∧ m x = some u) ∨ ((env.kindOf x = some .cell ∨ env.kindOf x = some .free) ∧ ∃ c,env.cells.lookup x = some c ∧ h.IsCell c (some u))
structure Cx.Ok (X:Cx):Prop where
 mod:Mod X.K X.mg X.base
 kind:X.env.scope.kind = .function
 glob:X.env.globals = mainGlobals
 blt:X.env.builtins = builtinsNs
 above:X.s₀.heap.objs.size ≤ X.env.locals
 inj:∀ x y c,X.env.cells.lookup x = some c → X.env.cells.lookup y = some c → x = y
 has:∀ x,(X.env.kindOf x = some .cell ∨ X.env.kindOf x = some .free) → ∃ c,X.env.cells.lookup x = some c
 cab:∀ x c,X.fn x = true → X.env.cells.lookup x = some c → X.s₀.heap.objs.size ≤ c
 hd:X.calm = true → X.A.handled = none
 frames:X.A.frames = some X.stack
 stk:X.stack = X.outer ∨ (X.stack = X.env :: X.outer ∧ X.env.frame = some X.env.locals)
 exf:∀ b ∈ X.ex,b ≠ X.env.locals ∧ ∀ x c,X.env.cells.lookup x = some c → c ≠ b
 bs:∀ b o,X.base.get? b = some o → X.s₀.heap.get? b = some o ∧ X.H₀ b = none
 bsz:X.base.objs.size ≤ X.s₀.heap.objs.size
 noex:∀ b o,X.base.get? b = some o → b ∉ X.ex
 exfs:∀ b ∈ X.ex,b ∉ X.fs
 funs:X.s₀.heap.FunFrames X.base X.outer
 frf:∀ b ∈ X.fs,X.H₀ b = none
structure Inv (X:Cx) (pins:List (Addr × Obj)) (σ:List (Option V)) (H:Hp) (s:Shared):Prop where
 ok:X.Ok
 os:s.os = X.s₀.os
 bare:AllBare s.gens
 base:Un X.fs X.ex X.H₀ H X.s₀.heap s.heap
 loc:∃ m,s.heap.Ns X.env.locals m ∧ ∀ (i:Nat) (x:Str) (v:V),X.N[i]? = some x → σ[i]? = some (some v) → Vis X.env.scope x → ∃ u,RelV v u ∧ Look X.env s.heap m x u
 cell:∀ x c,X.env.cells.lookup x = some c → ∃ v,s.heap.IsCell c v
 free:H X.env.locals = none
 freeC:∀ x c,X.env.cells.lookup x = some c → H c = none
 pin:∀ p ∈ X.pn ++ pins,s.heap.get? p.1 = some p.2 ∧ H p.1 = none ∧ p.1 ≠ X.env.locals ∧ p.1 ∉ X.fs ∧ ∀ v,p.2.data ≠ .cell v
 hok:HOk X.prog X.w H s.heap
 len:σ.length = X.N.length
section
variable {X:Cx} {pins:List (Addr × Obj)} {σ:List (Option V)} {H H':Hp} {s:Shared} {h':Heap}
theorem Cx.Ok.nofr (ok:X.Ok) {b:Addr} {o:Obj} (e:X.base.get? b = some o):b ∉ X.fs:=fun hb=>by
 have:=(ok.funs.mem hb).1
 rw [e] at this; cases this
theorem Inv.bs (I:Inv X pins σ H s):∀ b o,X.base.get? b = some o → s.heap.get? b = some o ∧ H b = none:=fun b o e=>
 ⟨I.base.keep b o (I.ok.bs b o e).1 (I.ok.bs b o e).2 (I.ok.nofr e) (I.ok.noex b o e),I.base.free b o (I.ok.bs b o e).1 (I.ok.bs b o e).2 (I.ok.noex b o e)⟩
theorem Inv.bk (I:Inv X pins σ H s):∀ b o,X.base.get? b = some o → s.heap.get? b = some o:=fun b o e=>(I.bs b o e).1
theorem Inv.mod (I:Inv X pins σ H s):Mod X.K X.mg X.base:=I.ok.mod
theorem Inv.kIn (I:Inv X pins σ H s):X.K.In s.heap:=I.ok.mod.kin.keeps I.bk
theorem Inv.nolimit (I:Inv X pins σ H s):s.heap.NoLimit:=I.ok.mod.nolimit.keeps I.bk
theorem Inv.fr (I:Inv X pins σ H s):∃ m,Fr X.base X.env.locals s.heap m:=
 let ⟨m,hn,_⟩:=I.loc
 ⟨m,hn,I.bk,Nat.le_trans I.ok.bsz I.ok.above⟩
theorem Inv.lt (I:Inv X pins σ H s):X.env.locals < s.heap.objs.size:=let ⟨_,hn,_⟩:=I.loc; hn.lt
theorem Inv.sz (I:Inv X pins σ H s):X.s₀.heap.objs.size ≤ s.heap.objs.size:=Nat.le_trans I.ok.above (Nat.le_of_lt I.lt)
theorem Inv.nofs (I:Inv X pins σ H s) {a:Addr} (h:s.heap.objs.size ≤ a):a ∉ X.fs:=fun hb=>by
 obtain ⟨_,o,ho,_⟩:=I.ok.funs.mem hb
 exact absurd (Nat.lt_of_lt_of_le (Heap.lt_size ho) (Nat.le_trans I.sz h)) (Nat.lt_irrefl _)
theorem Inv.cne (I:Inv X pins σ H s):∀ x c,X.env.cells.lookup x = some c → c ≠ X.env.locals:=fun x c e z=>by
 obtain ⟨v,o,ho,hd⟩:=I.cell x c e
 obtain ⟨m,⟨o',es,ep,ho',hd',_⟩,_⟩:=I.loc
 rw [z,ho'] at ho; cases ho; rw [hd'] at hd; cases hd
theorem Inv.funs (I:Inv X pins σ H s):s.heap.FunFrames X.base X.outer:=by
 have all:∀ (l:List Env),(∀ b ∈ frs l,b ∈ X.fs) → X.s₀.heap.FunFrames X.base l → s.heap.FunFrames X.base l:=by
  intro l
  induction l with
  | nil=>intro _ _; trivial
  | cons env r ih=>
   intro hs hl
   obtain ⟨hk,⟨L,o,hf,hn,ho,hd⟩,hr⟩:=hl
   have hL:L ∈ X.fs:=hs L (by unfold frs; rw [List.filterMap_cons,hf]; exact List.mem_cons_self)
   obtain ⟨sl,e⟩:=I.base.slot L o ho (I.ok.frf L hL) hL fun z=>I.ok.exfs L z hL
   exact ⟨hk,⟨L,_,hf,hn,e,hd⟩,ih (fun b hb=>hs b (by unfold frs; rw [List.filterMap_cons,hf]; exact List.mem_cons_of_mem _ hb)) hr⟩
 exact all X.outer (fun _ hb=>hb) I.ok.funs
theorem Inv.stack (I:Inv X pins σ H s):s.heap.FunFrames X.base X.stack:=by
 rcases I.ok.stk with e | ⟨e,hf⟩
 ·rw [e]; exact I.funs
 ·rw [e]
  obtain ⟨m,hn,_⟩:=I.loc
  refine .cons (by rw [I.ok.kind]; decide) hf hn ?_ I.funs
  exact Heap.get?_none_of_le (Nat.le_trans I.ok.bsz I.ok.above)
theorem Inv.stkSub (I:Inv X pins σ H s):∀ b ∈ frs X.stack,b ∈ X.env.locals :: X.fs:=fun b hb=>by
 rcases I.ok.stk with e | ⟨e,hf⟩
 ·rw [e] at hb; exact List.mem_cons_of_mem _ hb
 ·rw [e] at hb
  unfold frs at hb
  rw [List.filterMap_cons,hf] at hb
  exact hb
theorem Inv.stkFree (I:Inv X pins σ H s):∀ b ∈ frs X.stack,H b = none:=fun b hb=>by
 rcases List.mem_cons.mp (I.stkSub b hb) with e | hb
 ·rw [e]; exact I.free
 ·obtain ⟨_,o,ho,_⟩:=I.ok.funs.mem hb
  exact I.base.free b o ho (I.ok.frf b hb) fun z=>I.ok.exfs b z hb
theorem Inv.step {g':Array GenState} {t':Nat} {d':Drawn} {ch:List Addr} (I:Inv X pins σ H s)
  (hch:∀ b ∈ ch,(b ∈ X.ex ∨ X.s₀.heap.objs.size ≤ b) ∧ b ≠ X.env.locals ∧ (∀ x c,X.env.cells.lookup x = some c → c ≠ b) ∧ ∀ p ∈ X.pn ++ pins,p.1 ≠ b)
  (keep:∀ b o,b ≠ X.env.locals → b ∉ X.fs → b ∉ ch → s.heap.get? b = some o → H b = none → h'.get? b = some o)
  (slot:∀ b o,b ≠ X.env.locals → b ∈ X.fs → b ∉ ch → s.heap.get? b = some o → H b = none → ∃ sl,h'.get? b = some { o with slots:=sl }) (free:∀ b o,b ∉ ch → s.heap.get? b = some o → H b = none → H' b = none)
  (there:∀ b o,b ∉ ch → s.heap.get? b = some o → ∃ o',h'.get? b = some o')
  (tups:∀ b xs,H b = some (.tup xs) → H' b = some (.tup xs)) (frzs:∀ b o u,H b = some (.frz o u) → H' b = some (.frz o u)) (tbls:∀ b ps,H b = some (.tbl ps) → ∃ more,H' b = some (.tbl (ps ++ more)))
  (ns:∀ m,s.heap.Ns X.env.locals m → h'.Ns X.env.locals m) (hok:HOk X.prog X.w H' h') (hg:AllBare g'):
  Inv X pins σ H' { s with heap:=h',gens:=g',drawn:=d',toks:=t' }:=by
 have neL:∀ b o,X.s₀.heap.get? b = some o → b ≠ X.env.locals:=fun b o e=>Nat.ne_of_lt (Nat.lt_of_lt_of_le (Heap.lt_size e) I.ok.above)
 have neC:∀ b o,X.s₀.heap.get? b = some o → b ∉ X.ex → b ∉ ch:=fun b o e hx hb=>by
  rcases (hch b hb).1 with z | z
  ·exact hx z
  ·exact absurd (Nat.lt_of_lt_of_le (Heap.lt_size e) z) (Nat.lt_irrefl _)
 have cellK:∀ x c,X.env.cells.lookup x = some c → ∀ v,s.heap.IsCell c v → h'.IsCell c v:=fun x c e v zz1=>by
  obtain ⟨o,ho,hd⟩:=zz1
  have nch:c ∉ ch:=fun z=>(hch c z).2.2.1 x c e rfl
  by_cases hc:c ∈ X.fs
  ·obtain ⟨sl,q⟩:=slot c o (I.cne x c e) hc nch ho (I.freeC x c e)
   exact ⟨_,q,hd⟩
  ·exact ⟨o,keep c o (I.cne x c e) hc nch ho (I.freeC x c e),hd⟩
 refine ⟨I.ok,I.os,hg,⟨fun b o e n hb hx=>?_,fun b o e n hb hx=>?_,fun b o e n hx=>?_,fun b o e hx=>?_,fun b xs e=>tups b xs (I.base.tups b xs e),fun b o xs e=>frzs b o xs (I.base.frzs b o xs e),fun b ps e=>?_⟩,?_,fun x c e=>?_,?_,fun x c e=>?_,fun p hp=>?_,hok,I.len⟩
 ·exact keep b o (neL b o e) hb (neC b o e hx) (I.base.keep b o e n hb hx) (I.base.free b o e n hx)
 ·obtain ⟨sl,e1⟩:=I.base.slot b o e n hb hx
  obtain ⟨sl',e2⟩:=slot b _ (neL b o e) hb (neC b o e hx) e1 (I.base.free b o e n hx)
  exact ⟨sl',e2⟩
 ·obtain ⟨o',e1⟩:=I.base.there b o e hx
  exact free b o' (neC b o e hx) e1 (I.base.free b o e n hx)
 ·obtain ⟨o',e1⟩:=I.base.there b o e hx
  exact there b o' (neC b o e hx) e1
 ·obtain ⟨m1,e1⟩:=I.base.tbls b ps e
  obtain ⟨m2,e2⟩:=tbls b _ e1
  exact ⟨m1 ++ m2,by rw [e2,Array.append_assoc]⟩
 ·obtain ⟨m,hn,hl⟩:=I.loc
  refine ⟨m,ns m hn,fun i x v e1 e2 e3=>?_⟩
  obtain ⟨u,r,l⟩:=hl i x v e1 e2 e3
  refine ⟨u,r,?_⟩
  rcases l with l | ⟨k,c,e,z⟩
  ·exact .inl l
  ·exact .inr ⟨k,c,e,cellK x c e _ z⟩
 ·obtain ⟨v,z⟩:=I.cell x c e
  exact ⟨v,cellK x c e v z⟩
 ·obtain ⟨m,⟨o,_,_,ho,_⟩,_⟩:=I.loc
  exact free _ o (fun z=>(hch _ z).2.1 rfl) ho I.free
 ·obtain ⟨v,o,ho,hd⟩:=I.cell x c e
  exact free c o (fun z=>(hch c z).2.2.1 x c e rfl) ho (I.freeC x c e)
 ·obtain ⟨e,n,ne,nf,d⟩:=I.pin p hp
  have nch:p.1 ∉ ch:=fun z=>(hch p.1 z).2.2.2 p hp rfl
  exact ⟨keep p.1 p.2 ne nf nch e n,free p.1 p.2 nch e n,ne,nf,d⟩
theorem Inv.un {t':Nat} (I:Inv X pins σ H s) (u:Un X.fs [] H H' s.heap h') (hok:HOk X.prog X.w H' h'):Inv X pins σ H' { s with heap:=h',toks:=t' }:=by
 obtain ⟨m,⟨o,es,ep,ho,r⟩,_⟩:=id I.loc
 obtain ⟨sl,hL⟩:=u.any ho I.free (by simp)
 exact I.step (g':=s.gens) (d':=s.drawn) (ch:=[]) (fun _ z=>nomatch z) (fun b o _ hb _ e n=>u.keep b o e n hb (by simp)) (fun b o _ hb _ e n=>u.slot b o e n hb (by simp)) (fun b o _ e n=>u.free b o e n (by simp)) (fun b o _ e=>u.there b o e (by simp)) u.tups u.frzs u.tbls (fun m' hm=>by
  obtain ⟨o',es',ep',ho',r'⟩:=hm
  rw [ho] at ho'; cases ho'
  exact ⟨_,es',ep',hL,r'⟩) hok I.bare
theorem Inv.call {g':Array GenState} {t':Nat} {d':Drawn} {ch:List Addr} (I:Inv X pins σ H s) (u:Un (frs X.stack) ch H H' s.heap h') (hok:HOk X.prog X.w H' h') (hg:AllBare g')
  (hch:∀ b ∈ ch,(b ∈ X.ex ∨ X.s₀.heap.objs.size ≤ b) ∧ b ≠ X.env.locals ∧ (∀ x c,X.env.cells.lookup x = some c → c ≠ b) ∧ ∀ p ∈ X.pn ++ pins,p.1 ≠ b):
  Inv X pins σ H' { s with heap:=h',gens:=g',drawn:=d',toks:=t' }:=by
 obtain ⟨m,⟨o,es,ep,ho,r⟩,_⟩:=id I.loc
 obtain ⟨sl,hL⟩:=u.any ho I.free fun z=>(hch _ z).2.1 rfl
 exact I.step (ch:=ch) hch (fun b o hL hb hc e n=>u.keep b o e n (fun z=>(List.mem_cons.mp (I.stkSub b z)).elim hL hb) hc) (fun b o _ _ hc e n=>u.any e n hc) (fun b o hc e n=>u.free b o e n hc) (fun b o hc e=>u.there b o e hc) u.tups u.frzs u.tbls (fun m' hm=>by
  obtain ⟨o',es',ep',ho',r'⟩:=hm
  rw [ho] at ho'; cases ho'
  exact ⟨_,es',ep',hL,r'⟩) hok hg
theorem Inv.turned {t':Nat} {it:Addr} (I:Inv X pins σ H s) (k:∀ b o,b ≠ it → s.heap.get? b = some o → h'.get? b = some o) (hn:H it = none) (hL:it ≠ X.env.locals)
  (h1:it ∈ X.ex ∨ X.s₀.heap.objs.size ≤ it) (h2:∀ x c,X.env.cells.lookup x = some c → c ≠ it) (h3:∀ p ∈ X.pn ++ pins,p.1 ≠ it):Inv X pins σ H { s with heap:=h',toks:=t' }:=by
 have nit:∀ b u,H b = some u → b ≠ it:=fun b u e z=>by rw [z,hn] at e; cases e
 refine I.step (g':=s.gens) (d':=s.drawn) (ch:=[it]) (fun b hb=>?_) (fun b o _ _ hc e _=>k b o (fun z=>hc (by simp [z])) e) (fun b o _ _ hc e _=>⟨o.slots,k b o (fun z=>hc (by simp [z])) e⟩) (fun _ _ _ _ n=>n)
  (fun b o hc e=>⟨o,k b o (fun z=>hc (by simp [z])) e⟩) (fun _ _ e=>e) (fun _ _ _ e=>e) (fun b ps e=>⟨#[],by rw [e]; simp⟩) (fun m hm=>?_) (fun b u e=>?_) I.bare
 ·have e:b = it:=by simpa using hb
  subst e
  exact ⟨h1,hL,h2,h3⟩
 ·obtain ⟨o,es,ep,ho,r⟩:=hm
  exact ⟨o,es,ep,k _ o (Ne.symm hL) ho,r⟩
 ·refine (I.hok b u e).stay (fun c v hc q=>k c v ?_ q) (fun _ q=>q) fun _ _ q=>q
  rcases hc with z | z
  ·rw [z]; exact nit b u e
  ·exact nit c _ z
theorem Inv.tok (I:Inv X pins σ H s) (t:Nat):Inv X pins σ H { s with toks:=t }:=I.un (h':=s.heap) (t':=t) Un.refl I.hok
theorem Inv.kept {t':Nat} (I:Inv X pins σ H s) (k:∀ b u,s.heap.get? b = some u → h'.get? b = some u):Inv X pins σ H { s with heap:=h',toks:=t' }:=I.un (Un.kept k) (I.hok.kept k)
theorem Inv.laid {a:Addr} {o:HO} {t':Nat} (I:Inv X pins σ H s) (k:∀ b u,s.heap.get? b = some u → h'.get? b = some u) (hp:s.heap.objs.size ≤ a) (new:Zbq X.prog X.w (upd H a o) h' a o):
  Inv X pins σ (upd H a o) { s with heap:=h',toks:=t' }:=I.un (Un.laid k hp (I.hok.fresh hp)) (I.hok.laid k hp new)
theorem Inv.write {x e:Addr} {o:HO} {t':Nat} (I:Inv X pins σ H s) (mu:Mut (H x)) (he:e = x ∨ H e = some (.own x)) (k:∀ b u,b ≠ e → s.heap.get? b = some u → h'.get? b = some u) (heo:∃ u,h'.get? e = some u)
  (new:Zbq X.prog X.w (upd H x o) h' x o):Inv X pins σ (upd H x o) { s with heap:=h',toks:=t' }:=I.un (Un.write mu he k heo) (I.hok.write mu he k heo new)
theorem Inv.pins_of {pins':List (Addr × Obj)} (I:Inv X pins σ H s) (h:∀ p ∈ pins',s.heap.get? p.1 = some p.2 ∧ H p.1 = none ∧ p.1 ≠ X.env.locals ∧ p.1 ∉ X.fs ∧ ∀ v,p.2.data ≠ .cell v):Inv X pins' σ H s:=
 ⟨I.ok,I.os,I.bare,I.base,I.loc,I.cell,I.free,I.freeC,fun p hp=>(List.mem_append.mp hp).elim (fun z=>I.pin p (List.mem_append_left _ z)) (h p),I.hok,I.len⟩
theorem Zja {N:List Str} (hN:N.Nodup) {i j:Nat} {x:Str} (a:N[i]? = some x) (b:N[j]? = some x):i = j:=by
 obtain ⟨h1,e1⟩:=List.getElem?_eq_some_iff.mp a
 obtain ⟨h2,e2⟩:=List.getElem?_eq_some_iff.mp b
 exact (List.getElem_inj hN).mp (e1.trans e2.symm)
theorem Zia {M:Model} {A:Around} {E:Value → Shared → Prop} {i:Nat} {x:Str} {v:V} {u:Value} {Q:Unit → Shared → Prop} (I:Inv X pins σ H s) (hN:X.N.Nodup) (hi:X.N[i]? = some x) (hx:Loc X.env.scope x) (r:RelV v u)
  (h:∀ s',Inv X pins (σ.set i (some v)) H s' → (∃ a,Heap.SameBut a s.heap s'.heap ∧ (a = X.env.locals ∨ X.env.cells.lookup x = some a)) → Q () s') (hf:X.fn x = true ∨ X.env.scope.names.lookup x = some .local:=by first | exact .inl rfl | exact .inr rfl | assumption):wpAny M A (storeName X.env x u) Q E s:=by
 obtain ⟨m,hn,hl⟩:=id I.loc
 have hcls:(X.env.scope.kind == .class || (X.env.scope.kind == .module && X.env.locals != X.env.globals)) = false:=by rw [I.ok.kind]; rfl
 have hiσ:i < σ.length:=by rw [I.len]; exact (List.getElem?_eq_some_iff.mp hi).1
 have cne:=I.cne
 have tracked:∀ {a:Addr} {h':Heap},(∃ o,s.heap.get? a = some o ∧ H a = none) → Heap.SameBut a s.heap h' → HOk X.prog X.w H h':=fun {a h'} ha hs b ob e=>by
  obtain ⟨_,_,hfree⟩:=ha
  refine (I.hok b ob e).stay (fun c w' hc q=>(hs.2 c ?_).trans q) (fun _ q=>q) fun _ _ q=>q
  rintro rfl
  rcases hc with rfl | hc
  ·rw [hfree] at e; cases e
  ·rw [hfree] at hc; cases hc
 rcases hx with hk | hk
 ·refine wpAny_storeName_local hk hn (fun h' hn' hs=>?_) hcls
  obtain ⟨oL,_,_,hoL,_⟩:=id hn
  refine h _ ⟨I.ok,I.os,I.bare,⟨fun b o e n hb hx=>?_,fun b o e n hb hx=>?_,I.base.free,fun b o e hx=>?_,I.base.tups,I.base.frzs,I.base.tbls⟩,⟨_,hn',fun j y v' e1 e2 e3=>?_⟩,fun y c e=>?_,I.free,I.freeC,fun p hp=>?_,tracked ⟨oL,hoL,I.free⟩ hs,by simpa using I.len⟩ ⟨_,hs,.inl rfl⟩
  ·exact (hs.2 b (Nat.ne_of_lt (Nat.lt_of_lt_of_le (Heap.lt_size e) I.ok.above))).trans (I.base.keep b o e n hb hx)
  ·obtain ⟨sl,e1⟩:=I.base.slot b o e n hb hx
   exact ⟨sl,(hs.2 b (Nat.ne_of_lt (Nat.lt_of_lt_of_le (Heap.lt_size e) I.ok.above))).trans e1⟩
  ·obtain ⟨o',e1⟩:=I.base.there b o e hx
   exact ⟨o',(hs.2 b (Nat.ne_of_lt (Nat.lt_of_lt_of_le (Heap.lt_size e) I.ok.above))).trans e1⟩
  ·by_cases hj:j = i
   ·subst hj
    rw [hi] at e1; cases e1
    rw [List.getElem?_set_self hiσ] at e2
    cases e2
    exact ⟨u,r,.inl ⟨hk,by simp⟩⟩
   ·rw [List.getElem?_set_ne (Ne.symm hj)] at e2
    obtain ⟨u',r',q⟩:=hl j y v' e1 e2 e3
    refine ⟨u',r',?_⟩
    rcases q with ⟨k,e⟩ | ⟨k,c,e,z⟩
    ·refine .inl ⟨k,?_⟩
     have:y ≠ x:=fun e=>hj (Zja hN e1 (e ▸ hi))
     simp [this,e]
    ·exact .inr ⟨k,c,e,z.sameBut hs (cne y c e)⟩
  ·obtain ⟨w',z⟩:=I.cell y c e
   exact ⟨w',z.sameBut hs (cne y c e)⟩
  ·obtain ⟨e,n,ne,nf,d⟩:=I.pin p hp
   exact ⟨(hs.2 p.1 ne).trans e,n,ne,nf,d⟩
 ·have hfn:X.fn x = true:=by
   rcases hf with z | z
   ·exact z
   ·rw [z] at hk; cases hk
  obtain ⟨c,hc⟩:=I.ok.has x (.inl hk)
  obtain ⟨w',z⟩:=I.cell x c hc
  refine wpAny_storeName_cell I.ok.kind hk hc z (fun h' hc' hs=>?_)
  obtain ⟨oc,hoc,hocd⟩:=id z
  refine h { s with heap:=h' } ⟨I.ok,I.os,I.bare,⟨fun b o e n hb hx=>?_,fun b o e n hb hx=>?_,I.base.free,fun b o e hx=>?_,I.base.tups,I.base.frzs,I.base.tbls⟩,⟨m,hn.sameBut hs (Ne.symm (cne x c hc)),fun j y v' e1 e2 e3=>?_⟩,fun y c' e=>?_,I.free,I.freeC,fun p hp=>?_,tracked ⟨oc,hoc,I.freeC x c hc⟩ hs,by simpa using I.len⟩ ⟨c,hs,.inr hc⟩
  ·exact (hs.2 b (Nat.ne_of_lt (Nat.lt_of_lt_of_le (Heap.lt_size e) (I.ok.cab x c hfn hc)))).trans (I.base.keep b o e n hb hx)
  ·obtain ⟨sl,e1⟩:=I.base.slot b o e n hb hx
   exact ⟨sl,(hs.2 b (Nat.ne_of_lt (Nat.lt_of_lt_of_le (Heap.lt_size e) (I.ok.cab x c hfn hc)))).trans e1⟩
  ·obtain ⟨o',e1⟩:=I.base.there b o e hx
   exact ⟨o',(hs.2 b (Nat.ne_of_lt (Nat.lt_of_lt_of_le (Heap.lt_size e) (I.ok.cab x c hfn hc)))).trans e1⟩
  ·by_cases hj:j = i
   ·subst hj
    rw [hi] at e1; cases e1
    rw [List.getElem?_set_self hiσ] at e2
    cases e2
    exact ⟨u,r,.inr ⟨.inl hk,c,hc,hc'⟩⟩
   ·rw [List.getElem?_set_ne (Ne.symm hj)] at e2
    obtain ⟨u',r',q⟩:=hl j y v' e1 e2 e3
    refine ⟨u',r',?_⟩
    rcases q with q | ⟨k,c',e,z'⟩
    ·exact .inl q
    ·refine .inr ⟨k,c',e,z'.sameBut hs ?_⟩
     rintro rfl
     exact hj (Zja hN e1 (I.ok.inj _ _ _ e hc ▸ hi))
  ·by_cases hcc:c' = c
   ·subst hcc; exact ⟨_,hc'⟩
   ·obtain ⟨w2,z2⟩:=I.cell y c' e
    exact ⟨w2,z2.sameBut hs hcc⟩
  ·obtain ⟨e,n,ne,nf,d⟩:=I.pin p hp
   refine ⟨(hs.2 p.1 ?_).trans e,n,ne,nf,d⟩
   intro q
   rw [q,hoc] at e
   have q':oc = p.2:=Option.some.inj e
   exact d w' (by rw [← q']; exact hocd)
theorem Zi8 {M:Model} {A:Around} {E:Value → Shared → Prop} {i:Nat} {x:Str} {v:V} {u:Value} {Q:Unit → Shared → Prop} (I:Inv X pins σ H s) (hN:X.N.Nodup) (hi:X.N[i]? = some x) (hx:Loc X.env.scope x) (r:RelV v u)
  (h:∀ s',Inv X pins (σ.set i (some v)) H s' → Q () s') (hf:X.fn x = true ∨ X.env.scope.names.lookup x = some .local:=by first | exact .inl rfl | exact .inr rfl | assumption):wpAny M A (storeName X.env x u) Q E s:=
 Zia I hN hi hx r (fun s' I' _=>h s' I') hf
theorem Inv.call' {s':Shared} {ch:List Addr} (I:Inv X pins σ H s) (ho:s'.os = s.os) (u:Un (frs X.stack) ch H H' s.heap s'.heap) (hok:HOk X.prog X.w H' s'.heap) (hg:AllBare s'.gens)
  (hch:∀ b ∈ ch,(b ∈ X.ex ∨ X.s₀.heap.objs.size ≤ b) ∧ b ≠ X.env.locals ∧ (∀ x c,X.env.cells.lookup x = some c → c ≠ b) ∧ ∀ p ∈ X.pn ++ pins,p.1 ≠ b):Inv X pins σ H' s':=by
 obtain ⟨h',g',d',t',o'⟩:=s'
 have e:o' = s.os:=ho
 subst e
 exact I.call (g':=g') (t':=t') (d':=d') u hok hg hch
end
noncomputable abbrev XK:=Value → Option Addr → Hp → Prop
noncomputable abbrev St:=List (Option V)
noncomputable abbrev VK:=V → Hp → Prop
noncomputable abbrev TE:=St → Hp → VK → Prop
noncomputable abbrev TT:=St → Hp → (Bool → Hp → Prop) → Prop
noncomputable abbrev TA:=St → Hp → (List V → Hp → Prop) → Prop
structure Ends where
 nx:St → Hp → Prop
 rt:VK
 bk:St → Hp → Prop:=fun _ _=>False
 ct:St → Hp → Prop:=fun _ _=>False
noncomputable abbrev TS:=Ends → St → Hp → Prop
noncomputable def EP (X:Cx) (pins:List (Addr × Obj)) (σ:St) (Q:VK) (u:Value) (s':Shared):Prop:=∃ v H',Inv X pins σ H' s' ∧ RelV v u ∧ Q v H'
noncomputable def TP (X:Cx) (pins:List (Addr × Obj)) (σ:St) (Q:Bool → Hp → Prop) (b:Bool) (s':Shared):Prop:=∃ H',Inv X pins σ H' s' ∧ Q b H'
noncomputable def AP (X:Cx) (pins:List (Addr × Obj)) (σ:St) (Q:List V → Hp → Prop) (us:List Value) (s':Shared):Prop:=∃ vs H',Inv X pins σ H' s' ∧ Vals vs us ∧ Q vs H'
noncomputable def SP (X:Cx) (pins:List (Addr × Obj)) (D:Ends) (f:Flow) (s':Shared):Prop:=
 match f with
 | .next=>∃ σ' H',Inv X pins σ' H' s' ∧ D.nx σ' H'
 | .brk=>∃ σ' H',Inv X pins σ' H' s' ∧ D.bk σ' H'
 | .cont=>∃ σ' H',Inv X pins σ' H' s' ∧ D.ct σ' H'
 | .ret u=>∃ v σ' H',Inv X pins σ' H' s' ∧ RelV v u ∧ D.rt v H'
noncomputable def PE (X:Cx) (e:Expr) (t:TE):Prop:=
 ∀ (pins:List (Addr × Obj)) (s:Shared) (σ:St) (H:Hp) (Q:VK),Inv X pins σ H s → t σ H Q → wpAny (model X.prog X.w) X.A (eval e X.env) (EP X pins σ Q) X.xe s
noncomputable def PT (X:Cx) (e:Expr) (t:TT):Prop:=
 ∀ (pins:List (Addr × Obj)) (s:Shared) (σ:St) (H:Hp) (Q:Bool → Hp → Prop),Inv X pins σ H s → t σ H Q → wpAny (model X.prog X.w) X.A (isTrue e X.env (eval e X.env)) (TP X pins σ Q) X.xe s
noncomputable def PW (X:Cx) (e:Expr) (t:TT):Prop:=
 ∀ (whole:Sem Value) (pins:List (Addr × Obj)) (s:Shared) (σ:St) (H:Hp) (Q:Bool → Hp → Prop),Inv X pins σ H s → t σ H Q → wpAny (model X.prog X.w) X.A (isTrue e X.env whole) (TP X pins σ Q) X.xe s
theorem PW.pt {X:Cx} {e:Expr} {t:TT} (h:PW X e t):PT X e t:=h _
noncomputable def PA (X:Cx) (es:List Expr) (t:TA):Prop:=
 ∀ (pos:Pos) (pins:List (Addr × Obj)) (s:Shared) (σ:St) (H:Hp) (Q:List V → Hp → Prop),Inv X pins σ H s → t σ H Q → wpAny (model X.prog X.w) X.A (spliced (backTo pos (starEach es X.env))) (AP X pins σ Q) X.xe s
noncomputable def PS (X:Cx) (st:Stmt) (t:TS):Prop:=
 ∀ (pins:List (Addr × Obj)) (s:Shared) (σ:St) (H:Hp) (D:Ends),Inv X pins σ H s → t D σ H → wpAny (model X.prog X.w) X.A (exec st X.env) (SP X pins D) X.xe s
noncomputable def PSs (X:Cx) (st:List Stmt) (t:TS):Prop:=
 ∀ (pins:List (Addr × Obj)) (s:Shared) (σ:St) (H:Hp) (D:Ends),Inv X pins σ H s → t D σ H → wpAny (model X.prog X.w) X.A (execs st X.env) (SP X pins D) X.xe s
theorem thn {α:Type} {t:Sem α} {Q Q':α → Shared → Prop} {M:Model} {A:Around} {E:Value → Shared → Prop} {s:Shared} (h:wpAny M A t Q E s) (hQ:∀ a s,Q a s → Q' a s):wpAny M A t Q' E s:=wpAny_mono h hQ fun _ _ x=>x
end L2
namespace L2
open PySem PySem.Spec PyProof.Rows
section
variable {X:Cx}
noncomputable def Zsz (i:Nat):TE:=fun σ H Q=>∃ v,σ[i]? = some (some v) ∧ Q v H
noncomputable def tC (v:V):TE:=fun _ H Q=>Q v H
theorem Zpl {i:Nat} {x:Str} {pos:Pos} (hN:X.N[i]? = some x) (hv:Vis X.env.scope x) (hd:(x == ("__debug__":Str)) = false:=by decide) (hcd:(x == ("__classdict__":Str)) = false:=by decide):PE X (.Name x pos) (Zsz i):=by
 intro pins s σ H Q I h
 obtain ⟨v,e,h⟩:=h
 obtain ⟨m,hn,hl⟩:=I.loc
 obtain ⟨u,r,l⟩:=hl i x v hN e hv
 have fin:EP X pins σ Q u s:=⟨v,H,I,r,h⟩
 rcases l with ⟨hk,hm⟩ | ⟨hk,c,hc,hcell⟩
 ·exact wpAny_Name (wpAny_loadName_local I.ok.kind hk hn hm fin) hd
 ·rcases hk with hk | hk
  ·exact wpAny_Name (wpAny_loadName_cell I.ok.kind hk hc hcell fin) hd
  ·exact wpAny_Name (wpAny_loadName_free I.ok.kind hk hc hcell fin hcd) hd
theorem Zqi {i j pos}:PE X (.Constant (.int i) j pos) (tC (.int i)):=fun _ _ _ H _ I h=>wpAny_Constant_int ⟨.int i,H,I.tok _,⟨_,rfl⟩,h⟩
theorem ZqP {b j pos}:PE X (.Constant (.bool b) j pos) (tC (.bl b)):=fun _ _ _ H _ I h=>Constant_bool ⟨.bl b,H,I,rfl,h⟩
theorem Zqc {j pos}:PE X (.Constant .none j pos) (tC .non):=fun _ _ _ H _ I h=>Constant_none ⟨.non,H,I,rfl,h⟩
theorem Zqs {x j pos}:PE X (.Constant (.str x) j pos) (tC (.str x)):=fun _ _ _ H _ I h=>Calls.Constant_str ⟨.str x,H,I.tok _,⟨_,rfl⟩,h⟩
noncomputable def Gl (X:Cx) (x:Str):Prop:=X.env.kindOf x = some .globalImplicit
theorem ZkN {E:Value → Shared → Prop} {pins:List (Addr × Obj)} {s:Shared} {σ:St} {H:Hp} {x:Str} {u:Value} {pos:Pos} {Q:Value → Shared → Prop} (I:Inv X pins σ H s) (hg:Gl X x) (hm:X.mg x = some u) (h:Q u s)
  (hd:(x == ("__debug__":Str)) = false:=by decide):wpAny (model X.prog X.w) X.A (eval (.Name x pos) X.env) Q E s:=
 Calls.Name_function_global I.ok.kind hg (Calls.loadGlobal_global (by rw [I.ok.glob]; exact I.mod.glob.keeps I.bk) hm h) hd
theorem Zgb {E:Value → Shared → Prop} {pins:List (Addr × Obj)} {s:Shared} {σ:St} {H:Hp} {x:Str} {u:Value} {pos:Pos} {Q:Value → Shared → Prop} (I:Inv X pins σ H s) (hg:Gl X x) (hm:X.mg x = none) (hv:bootBuiltins x = some u) (h:Q u s)
  (hn:x ≠ "__name__":=by decide) (hd:(x == ("__debug__":Str)) = false:=by decide):wpAny (model X.prog X.w) X.A (eval (.Name x pos) X.env) Q E s:=by
 obtain ⟨mb,h1,h2⟩:=I.mod.blt
 exact Calls.Name_function_global I.ok.kind hg (Calls.loadGlobal_builtin (by rw [I.ok.glob]; exact I.mod.glob.keeps I.bk) hm (by rw [I.ok.blt]; exact h1.keeps I.bk) ((h2 x hn).trans hv) h) hd
theorem Zin {x:Str} {v:V} {u:Value} {pos:Pos} (hg:Gl X x) (hm:X.mg x = none) (hv:bootBuiltins x = some u) (r:RelV v u) (hn:x ≠ "__name__":=by decide) (hd:(x == ("__debug__":Str)) = false:=by decide):PE X (.Name x pos) (tC v):=
 fun _ _ _ H _ I h=>Zgb I hg hm hv ⟨v,H,I,r,h⟩ hn hd
variable {a b:Expr} {ta tb:TE} {pos:Pos}
noncomputable def tB (t:TE):TT:=fun σ H Q=>t σ H fun x H1=>∃ c,x = .bl c ∧ Q c H1
theorem Zo5 {e:Expr} {t:TE} (h:PE X e t) (he:∀ whole,isTrue e X.env whole = (do let v ← whole; standAt e.pos; holding [v] (truthy v)):=by intro _; rfl):PT X e (tB t):=by
 intro pins s σ H Q I hw
 refine isTrue_plain (thn (h pins s σ H _ I hw) fun v s1 zz1=>?_) (he _)
 obtain ⟨x,H1,I1,r1,q1⟩:=zz1
 obtain ⟨d,rfl,q⟩:=q1
 cases r1
 exact wpAny_truthy_bool ⟨H1,I1,q⟩
variable {tA tB':TT} {rest:List Expr}
noncomputable def Zr8 (t u:TT):TT:=fun σ H Q=>t σ H fun c H1=>if c = true then u σ H1 Q else Q false H1
noncomputable def tOr (t u:TT):TT:=fun σ H Q=>t σ H fun c H1=>if c = true then Q true H1 else u σ H1 Q
noncomputable def Zr6 (t:TT):TT:=fun σ H Q=>t σ H fun c H1=>Q (!c) H1
theorem ZnD (ha:PT X a tA):PW X (.BoolOp .And [a] pos) tA:=by
 intro wh pins s σ H Q I h
 refine isTrue_and (thn (ha pins s σ H Q I h) fun c s1 e=>?_)
 cases c with
 | true=>exact isTrue_and_nil e
 | false=>exact e
theorem Zqg (ha:PT X a tA):PW X (.BoolOp .Or [a] pos) tA:=by
 intro wh pins s σ H Q I h
 refine isTrue_or (thn (ha pins s σ H Q I h) fun c s1 e=>?_)
 cases c with
 | false=>exact isTrue_or_nil e
 | true=>exact e
theorem Zo6 (ha:PT X a tA) (hb:PW X (.BoolOp .And (b :: rest) pos) tB'):PW X (.BoolOp .And (a :: b :: rest) pos) (Zr8 tA tB'):=by
 intro wh pins s σ H Q I h
 refine isTrue_and (thn (ha pins s σ H _ I h) fun c s1 zz1=>?_)
 obtain ⟨H1,I1,q1⟩:=zz1
 cases c with
 | true=>exact hb wh pins s1 σ H1 Q I1 q1
 | false=>exact ⟨H1,I1,q1⟩
theorem ZqU (ha:PT X a tA) (hb:PW X (.BoolOp .Or (b :: rest) pos) tB'):PW X (.BoolOp .Or (a :: b :: rest) pos) (tOr tA tB'):=by
 intro wh pins s σ H Q I h
 refine isTrue_or (thn (ha pins s σ H _ I h) fun c s1 zz1=>?_)
 obtain ⟨H1,I1,q1⟩:=zz1
 cases c with
 | true=>exact ⟨H1,I1,q1⟩
 | false=>exact hb wh pins s1 σ H1 Q I1 q1
theorem ZpR (ha:PT X a tA):PT X (.UnaryOp .Not a pos) (Zr6 tA):=by
 intro pins s σ H Q I h
 exact isTrue_not (ha pins s σ H (fun c H1=>Q (!c) H1) I h)
noncomputable def Zq6 (ta tb:TE):TE:=fun σ H Q=>ta σ H fun x H1=>∃ c,x = .bl c ∧ if c = true then tb σ H1 Q else Q (.bl false) H1
noncomputable def Zrq (ta:TE):TE:=fun σ H Q=>ta σ H fun x H1=>∃ c,x = .bl c ∧ Q (.bl (!c)) H1
theorem Zpv {op} {t:TE} (h:PE X a t):PE X (.BoolOp op [a] pos) t:=fun pins s σ H Q I hw=>BoolOp_one (h pins s σ H Q I hw)
theorem Zqt (ha:PE X a ta) (hb:PE X (.BoolOp .And (b :: rest) pos) tb):PE X (.BoolOp .And (a :: b :: rest) pos) (Zq6 ta tb):=by
 intro pins s σ H Q I h
 refine BoolOp_and (thn (ha pins s σ H _ I h) fun v s1 zz1=>?_)
 obtain ⟨x,H1,I1,r1,q1⟩:=zz1
 obtain ⟨c,rfl,q1⟩:=q1
 cases r1
 refine wpAny_truthy_bool ?_
 cases c with
 | true=>exact hb pins s1 σ H1 Q I1 q1
 | false=>exact ⟨.bl false,H1,I1,rfl,q1⟩
theorem Zpj (ha:PE X a ta):PE X (.UnaryOp .Not a pos) (Zrq ta):=by
 intro pins s σ H Q I h
 refine UnaryOp_ (thn (ha pins s σ H _ I h) fun v s1 zz1=>?_)
 obtain ⟨x,H1,I1,r1,q1⟩:=zz1
 obtain ⟨c,rfl,q1⟩:=q1
 cases r1
 exact not_of (wpAny_truthy_bool ⟨.bl (!c),H1,I1,rfl,q1⟩)
noncomputable def tIf (t:TT) (ta tb:TE):TE:=fun σ H Q=>t σ H fun c H1=>if c = true then ta σ H1 Q else tb σ H1 Q
theorem Zmc {c:Expr} (hc:PT X c tA) (ha:PE X a ta) (hb:PE X b tb):PE X (.IfExp c a b pos) (tIf tA ta tb):=by
 intro pins s σ H Q I h
 refine wpAny_IfExp (thn (hc pins s σ H _ I h) fun d s1 zz1=>?_)
 obtain ⟨H1,I1,q1⟩:=zz1
 cases d with
 | true=>exact ha pins s1 σ H1 Q I1 q1
 | false=>exact hb pins s1 σ H1 Q I1 q1
end
end L2
namespace L2
open PySem PySem.Spec PyProof.Rows
noncomputable def SqL (K:PySem.W.Frag) (H:Hp) (a:Addr) (xs:List V):Prop:=
 Rd H a (.lst xs) ∨
  ∃ (o:Obj) (its:Array Value) (n:Nat),K.lookup a = some o ∧ o.cls = .type "list" ∧ o.dict = none ∧ o.data = .seq its n ∧ its.size ≤ sizeLine ∧ Vals xs its.toList
noncomputable def SqT (K:PySem.W.Frag) (H:Hp) (a:Addr) (xs:List V):Prop:=
 Rd H a (.tup xs) ∨
  ∃ (o:Obj) (its:Array Value) (n:Nat),K.lookup a = some o ∧ (o.cls = .type "tuple" ∧ o.dict = none) ∧ o.data = .seq its n ∧ its.size ≤ sizeLine ∧ Vals xs its.toList
noncomputable def ZsC:Value → Option V
 | .none=>some .non
 | .bool b=>some (.bl b)
 | .int i _=>some (.int i)
 | .str x _=>some (.str x)
 | .bytes b _=>some (.byt b)
 | .float b _=>some (.flt b)
 | .ref a=>some (.ref a)
 | .type n=>some (.ty n)
 | _=>none
theorem RelV.abs {x:V} {u:Value} (r:RelV x u):ZsC u = some x:=by
 cases x with
 | non=>cases r; rfl
 | bl _=>cases r; rfl
 | int _=>obtain ⟨t,rfl⟩:=r; rfl
 | str _=>obtain ⟨t,rfl⟩:=r; rfl
 | byt _=>obtain ⟨t,rfl⟩:=r; rfl
 | flt _=>obtain ⟨t,rfl⟩:=r; rfl
 | ref _=>cases r; rfl
 | ty _=>cases r; rfl
theorem RelV.inj {x y:V} {u:Value} (r:RelV x u) (q:RelV y u):x = y:=Option.some.inj (r.abs.symm.trans q.abs)
theorem Vals.inj:∀ {xs ys:List V} {us:List Value},Vals xs us → Vals ys us → xs = ys
 | _,_,_,.nil,.nil=>rfl
 | _,_,_,.cons r t,.cons r' t'=>by rw [r.inj r',Vals.inj t t']
section
variable {X:Cx} {pins:List (Addr × Obj)} {σ:St} {H:Hp} {s:Shared} {a:Addr} {xs ys:List V}
theorem SqL.of {K:PySem.W.Frag} (h:H a = some (.lst xs)):SqL K H a xs:=.inl (.inl h)
theorem SqT.of {K:PySem.W.Frag} (h:H a = some (.tup xs)):SqT K H a xs:=.inl (.inl h)
theorem Inv.list (I:Inv X pins σ H s) (h:SqL X.K H a xs):∃ its:List Value,Vals xs its ∧ PlainL s.heap a its.toArray ∧ xs.length ≤ sizeLine:=by
 rcases h with h | ⟨o,its,n,hk,hc,hd,hs,hz,r⟩
 ·obtain ⟨z,its,n,r,e⟩:=h.ok I.hok
  exact ⟨its,r,⟨_,n,e,rfl,rfl,rfl⟩,z⟩
 ·refine ⟨its.toList,r,⟨o,n,I.kIn a o hk,hc,hd,by simpa using hs⟩,?_⟩
  have e:=r.length
  simp only [Array.length_toList] at e
  exact lC 2 2199576973345 T1 e hz
theorem Inv.tuple (I:Inv X pins σ H s) (h:SqT X.K H a xs):∃ its:List Value,Vals xs its ∧ IsTup s.heap a its.toArray ∧ xs.length ≤ sizeLine:=by
 rcases h with h | ⟨o,its,n,hk,hc,hs,hz,r⟩
 ·obtain ⟨z,its,r,p⟩:=h.ok I.hok
  exact ⟨its,r,p.tup,z⟩
 ·refine ⟨its.toList,r,⟨o,I.kIn a o hk,hc.1,n,by simpa using hs⟩,?_⟩
  have e:=r.length
  simp only [Array.length_toList] at e
  exact lC 2 2199576973345 T1 e hz
theorem Inv.list_inj (I:Inv X pins σ H s) (h:SqL X.K H a xs) (h':SqL X.K H a ys):xs = ys:=by
 obtain ⟨its,r,⟨o,n,e,_,_,d⟩,_⟩:=I.list h
 obtain ⟨its',r',⟨o',n',e',_,_,d'⟩,_⟩:=I.list h'
 rw [e] at e'; cases e'
 rw [d] at d'
 injection d' with d1 _
 have:its = its':=by simpa using congrArg Array.toList d1
 subst this
 exact r.inj r'
theorem Inv.tupleN (I:Inv X pins σ H s) (h:SqT X.K H a xs):∃ its:List Value,Vals xs its ∧ Zds s.heap a its.toArray ∧ xs.length ≤ sizeLine:=by
 rcases h with h | ⟨o,its,n,hk,hc,hs,hz,r⟩
 ·obtain ⟨z,its,r,p⟩:=h.ok I.hok; exact ⟨its,r,p,z⟩
 ·refine ⟨its.toList,r,⟨o,I.kIn a o hk,hc,n,by simpa using hs⟩,?_⟩; have e:=r.length; simp only [Array.length_toList] at e; exact lC 2 2199576973345 T1 e hz
theorem Inv.tuple_inj (I:Inv X pins σ H s) (h:SqT X.K H a xs) (h':SqT X.K H a ys):xs = ys:=by
 obtain ⟨its,r,⟨o,e,_,n,d⟩,_⟩:=I.tuple h
 obtain ⟨its',r',⟨o',e',_,n',d'⟩,_⟩:=I.tuple h'
 rw [e] at e'; cases e'
 rw [d] at d'
 injection d' with d1 _
 have:its = its':=by simpa using congrArg Array.toList d1
 subst this
 exact r.inj r'
end
noncomputable abbrev Cx.wish (X:Cx) (E:Value → Shared → Prop):Cx:={ X with xe:=E }
noncomputable abbrev Cx.nox (X:Cx):Cx:=X.wish fun _ _=>False
theorem Cx.Ok.wish {X:Cx} (ok:X.Ok) (E:Value → Shared → Prop):(X.wish E).Ok:=
 ⟨ok.mod,ok.kind,ok.glob,ok.blt,ok.above,ok.inj,ok.has,ok.cab,ok.hd,ok.frames,ok.stk,ok.exf,ok.bs,ok.bsz,ok.noex,ok.exfs,ok.funs,ok.frf⟩
theorem Cx.Ok.unwish {X:Cx} {E:Value → Shared → Prop} (ok:(X.wish E).Ok):X.Ok:=
 ⟨ok.mod,ok.kind,ok.glob,ok.blt,ok.above,ok.inj,ok.has,ok.cab,ok.hd,ok.frames,ok.stk,ok.exf,ok.bs,ok.bsz,ok.noex,ok.exfs,ok.funs,ok.frf⟩
section
variable {X:Cx} {pins:List (Addr × Obj)} {σ:St} {H:Hp} {s:Shared} {E:Value → Shared → Prop}
theorem Inv.wish (I:Inv X pins σ H s) (E:Value → Shared → Prop):Inv (X.wish E) pins σ H s:=⟨I.ok.wish E,I.os,I.bare,I.base,I.loc,I.cell,I.free,I.freeC,I.pin,I.hok,I.len⟩
theorem Inv.unwish (I:Inv (X.wish E) pins σ H s):Inv X pins σ H s:=⟨I.ok.unwish,I.os,I.bare,I.base,I.loc,I.cell,I.free,I.freeC,I.pin,I.hok,I.len⟩
theorem SP.unwish {D:Ends} {f:Flow} {s':Shared} (h:SP (X.wish E) pins D f s'):SP X pins D f s':=by
 cases f with
 | next=>obtain ⟨σ',H',I,q⟩:=h; exact ⟨σ',H',I.unwish,q⟩
 | brk=>obtain ⟨σ',H',I,q⟩:=h; exact ⟨σ',H',I.unwish,q⟩
 | cont=>obtain ⟨σ',H',I,q⟩:=h; exact ⟨σ',H',I.unwish,q⟩
 | ret u=>obtain ⟨v,σ',H',I,r,q⟩:=h; exact ⟨v,σ',H',I.unwish,r,q⟩
theorem PSs.nox {st:List Stmt} {t:TS} (h:PSs X.nox st t):PSs X st t:=fun pins s σ H D I hw=>
 wpAny_mono (h pins s σ H D (I.wish _) hw) (fun _ _ q=>q.unwish) fun _ _ z=>False.elim z
end
section
variable {X:Cx} {st:Stmt} {rest:List Stmt} {t u:TS} {e:Expr} {te:TE} {pos:Pos}
noncomputable def Zq9:TS:=fun D σ H=>D.nx σ H
noncomputable def Zsx (t u:TS):TS:=fun D σ H=>t { D with nx:=u D } σ H
theorem ZnQ:PSs X [] Zq9:=fun _ _ σ H _ I h=>wpAny_execs_nil ⟨σ,H,I,h⟩
theorem Zmp (h1:PS X st t) (h2:PSs X rest u):PSs X (st :: rest) (Zsx t u):=by
 intro pins s σ H D I h
 refine wpAny_execs_cons (thn (h1 pins s σ H { D with nx:=u D } I h) fun f s1 q=>?_)
 cases f with
 | next=>
  obtain ⟨σ',H',I',q⟩:=q
  exact h2 pins s1 σ' H' D I' q
 | ret v=>exact q
 | brk=>exact q
 | cont=>exact q
theorem Zoz (h1:PS X st t):PSs X [st] t:=by
 intro pins s σ H D I h
 refine wpAny_execs_cons (thn (h1 pins s σ H D I h) fun f s1 q=>?_)
 cases f with
 | next=>exact wpAny_execs_nil q
 | ret v=>exact q
 | brk=>exact q
 | cont=>exact q
theorem Inv.quiet {pins:List (Addr × Obj)} {σ:St} {H:Hp} {s:Shared} (I:Inv X pins σ H s):interactive X.env = false:=by simp [interactive,I.ok.kind]
noncomputable def Zru (te:TE):TS:=fun D σ H=>te σ H fun _ H1=>D.nx σ H1
theorem Zn7 (he:PE X e te) (hs:swapsWith e none pos.line X.env = pure false:=by rfl):PS X (.Expr e pos) (Zru te):=by
 intro pins s σ H D I h
 exact wpAny_Expr_any (thn (he pins s σ H _ I h) fun v s1 ⟨x,H1,I1,r1,q1⟩=>⟨σ,H1,I1,q1⟩) I.quiet hs
noncomputable def Zsg (te:TE):TS:=fun D σ H=>te σ H D.rt
theorem Zpr (he:PE X e te):PS X (.Return (some e) pos) (Zsg te):=by
 intro pins s σ H D I h
 exact wpAny_Return_some (thn (he pins s σ H _ I h) fun v s1 ⟨x,H1,I1,r1,q1⟩=>⟨x,σ,H1,I1,r1,q1⟩)
noncomputable def Zsm (c:TT) (t u:TS):TS:=fun D σ H=>c σ H fun b H1=>if b = true then t D σ H1 else u D σ H1
theorem Zra {c:Expr} {a b:List Stmt} {tc:TT} (hc:PT X c tc) (ha:PSs X a t) (hb:PSs X b u):PS X (.If c a b pos) (Zsm tc t u):=by
 intro pins s σ H D I h
 refine wpAny_If (thn (hc pins s σ H _ I h) fun d s1 zz1=>?_)
 obtain ⟨H1,I1,q1⟩:=zz1
 cases d with
 | true=>exact ha pins s1 σ H1 D I1 q1
 | false=>exact hb pins s1 σ H1 D I1 q1
end
noncomputable abbrev TG:=V → St → Hp → (St → Hp → Prop) → Prop
noncomputable abbrev TGs:=List V → St → Hp → (St → Hp → Prop) → Prop
noncomputable def PG (X:Cx) (target:Expr) (t:TG):Prop:=
 ∀ (pins:List (Addr × Obj)) (s:Shared) (σ:St) (H:Hp) (v:V) (u:Value) (Q:St → Hp → Prop),Inv X pins σ H s → RelV v u → t v σ H Q →
  wpAny (model X.prog X.w) X.A (assign target X.env u) (fun _ s'=>∃ σ' H',Inv X pins σ' H' s' ∧ Q σ' H') X.xe s
noncomputable def PGs (X:Cx) (ts:List Expr) (t:TGs):Prop:=
 ∀ (pins:List (Addr × Obj)) (s:Shared) (σ:St) (H:Hp) (vs:List V) (us:List Value) (Q:St → Hp → Prop),Inv X pins σ H s → Vals vs us → t vs σ H Q →
  wpAny (model X.prog X.w) X.A (assignInOrder ((assignEach ts X.env).map (·.2)) us) (fun _ s'=>∃ σ' H',Inv X pins σ' H' s' ∧ Q σ' H') X.xe s
noncomputable abbrev Zqj:=V → V → V → Hp → (Hp → Prop) → Prop
noncomputable def Zq2 (X:Cx) (t:Zqj):Prop:=
 ∀ (pins:List (Addr × Obj)) (s:Shared) (σ:St) (H:Hp) (o i v:V) (ov iv u:Value) (Q:Hp → Prop),Inv X pins σ H s → RelV o ov → RelV i iv → RelV v u → t o i v H Q →
  wpAny (model X.prog X.w) X.A (setItem ov iv u) (fun _ s'=>∃ H',Inv X pins σ H' s' ∧ Q H') X.xe s
section
variable {X:Cx} {pos:Pos}
noncomputable def ZoI (i:Nat):TG:=fun v σ H Q=>Q (σ.set i (some v)) H
theorem Zk6 {i:Nat} {x:Str} (hN:X.N.Nodup) (hi:X.N[i]? = some x) (hx:Loc X.env.scope x) (hf:X.fn x = true ∨ X.env.scope.names.lookup x = some .local:=by first | exact .inl rfl | exact .inr rfl | assumption):PG X (.Name x pos) (ZoI i):=by
 intro pins s σ H v u Q I r h
 exact wpAny_assign_Name (Zi8 I hN hi hx r (fun s' I'=>⟨_,H,I',h⟩) hf)
noncomputable def Zsw:TGs:=fun vs σ H Q=>vs = [] ∧ Q σ H
noncomputable def ZrH (t:TG) (u:TGs):TGs:=fun vs σ H Q=>∃ v r,vs = v :: r ∧ t v σ H fun σ' H'=>u r σ' H' Q
theorem Zn6:PGs X [] Zsw:=by
 intro pins s σ H vs us Q I r h
 obtain ⟨e,h⟩:=h
 subst e
 cases r
 exact assignInOrder_nil ⟨σ,H,I,h⟩
theorem ZmN {e:Expr} {es:List Expr} {t:TG} {u:TGs} (h1:PG X e t) (h2:PGs X es u)
  (hs:(assignEach (e :: es) X.env).map (·.2) = assign e X.env :: (assignEach es X.env).map (·.2):=by rfl):PGs X (e :: es) (ZrH t u):=by
 intro pins s σ H vs us Q I r h
 obtain ⟨v,vr,e1,h⟩:=h
 subst e1
 cases r with
 | cons r rr=>
  rw [hs]
  refine assignInOrder_cons (thn (h1 pins s σ H _ _ _ I r h) fun _ s1 zz1=>?_)
  obtain ⟨σ1,H1,I1,q1⟩:=zz1
  exact h2 pins s1 σ1 H1 _ _ Q I1 rr q1
noncomputable def Zsc (K:PySem.W.Frag) (n:Nat) (t:TGs):TG:=fun v σ H Q=>∃ a xs,v = .ref a ∧ SqT K H a xs ∧ xs.length = n ∧ t xs σ H Q
theorem Zo8 {es:List Expr} {k:Nat} {t:TGs} {n:Nat} (hc:X.calm = true) (h:PGs X es t)
  (hn:(assignEach es X.env).length = n:=by rfl) (hst:(assignEach es X.env).findIdx? (·.1) = none:=by rfl):PG X (.Tuple es k pos) (Zsc X.K n t):=by
 intro pins s σ H v u Q I r hw
 obtain ⟨a,xs,e1,hq,hl,hw⟩:=hw
 subst e1
 cases r
 obtain ⟨its,rv,ht,hz⟩:=I.tuple hq
 refine assign_Tuple_tuple (I.ok.hd hc) ht (by simp [hn,← hl,rv.length]) hst fun h' hx=>?_
 have I1:Inv X pins σ H { s with heap:=h' }:=I.kept (t':=s.toks) fun b o e=>hx b o (Nat.ne_of_lt (Heap.lt_size e)) e
 exact h pins _ σ H xs _ Q I1 (by simpa using rv) hw
noncomputable def ZsB (to ti:TE) (t:Zqj):TG:=fun v σ H Q=>to σ H fun o H1=>ti σ H1 fun i H2=>t o i v H2 fun H3=>Q σ H3
theorem Zo2 {o i:Expr} {to ti:TE} {t:Zqj} (ho:PE X o to) (hi:PE X i ti) (hs:Zq2 X t)
  (ha:∀ v,assign (.Subscript o i pos) X.env v = (do
   let ov ← holding [v] (eval o X.env)
   let iv ← holding [v,ov] (eval i X.env)
   standAt pos
   holding [v,ov,iv] (setItem ov iv v)
   release [v,ov,iv] []):=by intro _; rfl):PG X (.Subscript o i pos) (ZsB to ti t):=by
 intro pins s σ H v u Q I r h
 rw [ha]
 refine wpAny_bind (wpAny_holding (thn (ho pins s σ H _ I h) fun ov s1 zz1=>?_))
 obtain ⟨x,H1,I1,r1,q1⟩:=zz1
 refine wpAny_bind (wpAny_holding (thn (hi pins s1 σ H1 _ I1 q1) fun iv s2 zz1=>?_))
 obtain ⟨y,H2,I2,r2,q2⟩:=zz1
 refine wpAny_bind (wpAny_standAt (wpAny_bind (wpAny_holding (thn (hs pins s2 σ H2 x y v ov iv u _ I2 r1 r2 r q2) fun _ s3 zz1=>?_))))
 obtain ⟨H3,I3,q3⟩:=zz1
 exact wpAny_release ⟨σ,H3,I3,q3⟩
noncomputable def Zrh (te:TE) (g:TG):TS:=fun D σ H=>te σ H fun x H1=>g x σ H1 D.nx
theorem Zkr {tg e:Expr} {te:TE} {g:TG} (he:PE X e te) (hg:PG X tg g) (hs:swapsWithSole [tg] e pos.line X.env = pure false:=by rfl) (hw:swappedStores [tg] e X.env = pure none:=by rfl)
  (h1:(assignEach [tg] X.env).map (·.2) = [assign tg X.env]:=by rfl):PS X (.Assign [tg] e pos) (Zrh te g):=by
 intro pins s σ H D I h
 refine wpAny_Assign_stores (thn (he pins s σ H _ I h) fun v s1 zz1=>?_) hs hw
 obtain ⟨x,H1,I1,r1,q1⟩:=zz1
 rw [h1]
 exact thn (hg pins s1 σ H1 x v _ I1 r1 q1) fun _ s2 q=>q
theorem Zpf {i:Nat} {x:Str} {e:Expr} {te:TE} {pos':Pos} (hN:X.N.Nodup) (hi:X.N[i]? = some x) (hx:Loc X.env.scope x) (he:PE X e te) (hs:swapsWith e (some (.Name x pos')) pos.line X.env = pure false:=by rfl) (hf:X.fn x = true ∨ X.env.scope.names.lookup x = some .local:=by first | exact .inl rfl | exact .inr rfl | assumption):
  PS X (.Assign [.Name x pos'] e pos) (Zrh te (ZoI i)):=by
 intro pins s σ H D I h
 refine wpAny_Assign_Name (thn (he pins s σ H _ I h) fun v s1 zz1=>?_) hs
 obtain ⟨y,H1,I1,r1,q1⟩:=zz1
 exact Zi8 I1 hN hi hx r1 (fun s2 I2=>⟨_,H1,I2,q1⟩) hf
end
section
variable {X:Cx} {pos:Pos}
noncomputable def ZpV (c:TT) (tb:TS):TS:=fun D σ H=>∃ W:Nat → St → Hp → Prop,(∃ m,W m σ H) ∧ ∀ m σ H,W m σ H →
 c σ H fun b H1=>if b = true then ∃ N:St → Hp → Prop,(∀ σ' H',N σ' H' → ∃ m',m' < m ∧ W m' σ' H') ∧ tb { D with nx:=N,ct:=N,bk:=D.nx } σ H1 else D.nx σ H1
theorem Zmw {c:Expr} {body:List Stmt} {tc:TT} {tb:TS} (hp:PassesOwn (model X.prog X.w) X.A X.env X.xe) (hc:PT X c tc) (hb:PSs X body tb):PS X (.While c body [] pos) (ZpV tc tb):=by
 intro pins s σ H D I h
 obtain ⟨W,⟨m0,w0⟩,turn⟩:=h
 refine wpAny_While (codeAny_whileLoop (fun n s'=>∃ σ' H',Inv X pins σ' H' s' ∧ W n σ' H') ?_ m0 ⟨σ,H,I,w0⟩)
 rintro n s1 ⟨σ1,H1,I1,w1⟩
 refine wpAny_passesOwn hp (thn (hc pins s1 σ1 H1 _ I1 (turn n σ1 H1 w1)) fun b s2 zz1=>?_)
 obtain ⟨H2,I2,q2⟩:=zz1
 cases b with
 | true=>
  obtain ⟨N,hN,q2⟩:=q2
  rw [if_pos rfl]
  refine wpAny_passesOwn hp (thn (hb pins s2 σ1 H2 _ I2 q2) fun f s3 q3=>?_)
  cases f with
  | next=>
   obtain ⟨σ3,H3,I3,n3⟩:=q3
   obtain ⟨m',hm,w3⟩:=hN σ3 H3 n3
   exact ⟨m',hm,σ3,H3,I3,w3⟩
  | cont=>
   obtain ⟨σ3,H3,I3,n3⟩:=q3
   obtain ⟨m',hm,w3⟩:=hN σ3 H3 n3
   exact ⟨m',hm,σ3,H3,I3,w3⟩
  | brk=>exact q3
  | ret v=>exact q3
 | false=>
  rw [if_neg Bool.false_ne_true]
  exact wpAny_execs_nil ⟨σ1,H2,I2,q2⟩
end
structure It where
 go:Nat → Hp → Prop
 yld:Nat → Hp → V → Hp → Prop
 stop:Nat → Hp → Prop
noncomputable def ZfB (X:Cx) (pins:List (Addr × Obj)) (H:Hp) (b:Addr):Prop:=
 H b = none ∧ b ≠ X.env.locals ∧ b ∉ X.fs ∧ (b ∈ X.ex ∨ X.s₀.heap.objs.size ≤ b) ∧ (∀ x c,X.env.cells.lookup x = some c → c ≠ b) ∧ ∀ p ∈ X.pn ++ pins,p.1 ≠ b
theorem Inv.fpOk {X:Cx} {pins:List (Addr × Obj)} {σ:St} {H H':Hp} {s:Shared} {b:Addr} (I:Inv X pins σ H s) (hb:s.heap.objs.size ≤ b) (hn:H' b = none):ZfB X pins H' b:=by
 refine ⟨hn,Nat.ne_of_gt (Nat.lt_of_lt_of_le I.lt hb),I.nofs hb,.inr (Nat.le_trans I.sz hb),fun x c e z=>?_,fun p hp z=>?_⟩
 ·obtain ⟨v,q⟩:=I.cell x c e
  exact absurd (Nat.lt_of_lt_of_le q.lt (by rw [z]; exact hb)) (Nat.lt_irrefl _)
 ·exact absurd (Nat.lt_of_lt_of_le (Heap.lt_size (I.pin p hp).1) (by rw [z]; exact hb)) (Nat.lt_irrefl _)
structure Turn (P:Program) (w:World) (K:PySem.W.Frag) (tg:Expr) (J:It) (fp:List Addr) (it:Addr) (tn:Nat → Heap → Prop):Prop where
 mem:it ∈ fp
 obj:∀ i h,tn i h → ∀ b ∈ fp,∃ o,h.get? b = some o ∧ ∀ v,o.data ≠ .cell v
 keep:∀ i h h',tn i h → (∀ b ∈ fp,∀ o,h.get? b = some o → h'.get? b = some o) → tn i h'
 item:∀ (X:Cx),X.prog = P → X.w = w → X.K = K → X.calm = true → ∀ (i:Nat) (pins:List (Addr × Obj)) (s:Shared) (σ:St) (H:Hp) (E:Value → Shared → Prop),Inv X pins σ H s → (∀ b ∈ fp,ZfB X pins H b) → tn i s.heap → J.go i H →
  wpAny (model P w) X.A (pyNext (.ref it)) (fun r s1=>∃ u,r = some u ∧
   wpAny (model P w) X.A (letOwnedTupleGo tg (.ref it) u) (fun _ s2=>∃ x H',Inv X pins σ H' s2 ∧ RelV x u ∧ J.yld i H x H' ∧ tn (i + 1) s2.heap ∧ ∀ b ∈ fp,H' b = none) E s1) E s
 done:∀ (X:Cx),X.prog = P → X.w = w → X.K = K → X.calm = true → ∀ (i:Nat) (pins:List (Addr × Obj)) (s:Shared) (σ:St) (H:Hp) (E:Value → Shared → Prop),Inv X pins σ H s → (∀ b ∈ fp,ZfB X pins H b) → tn i s.heap → J.stop i H →
  wpAny (model P w) X.A (pyNext (.ref it)) (fun r s1=>r = none ∧ Inv X pins σ H s1) E s
 self:∀ (A:Around) (i:Nat) (s:Shared) (Q:Value → Shared → Prop) (E:Value → Shared → Prop),tn i s.heap → Q (.ref it) s → wpAny (model P w) A (pyIter (.ref it)) Q E s
noncomputable abbrev TI:=St → Hp → (It → Hp → Prop) → Prop
noncomputable def PIE (X:Cx) (pins:List (Addr × Obj)) (σ:St) (tg:Expr) (R:It → Hp → Prop) (itv:Value) (s2:Shared):Prop:=
 ∃ (it:Addr) (fp:List Addr) (tn:Nat → Heap → Prop) (J:It) (H':Hp),itv = .ref it ∧ Inv X pins σ H' s2 ∧ Turn X.prog X.w X.K tg J fp it tn ∧ tn 0 s2.heap ∧ (∀ b ∈ fp,ZfB X pins H' b) ∧ R J H'
noncomputable def PI (X:Cx) (tg iter:Expr) (wi:TI):Prop:=
 ∀ (pins:List (Addr × Obj)) (s:Shared) (σ:St) (H:Hp) (R:It → Hp → Prop),Inv X pins σ H s → wi σ H R →
  wpAny (model X.prog X.w) X.A (eval iter X.env) (fun v s1=>wpAny (model X.prog X.w) X.A (pyIter v) (PIE X pins σ tg R) X.xe s1) X.xe s
theorem ZkM {M:Model} {A:Around} {E:Value → Shared → Prop} {s:Shared} {tg:Expr} {it:Addr} {u:Value} {o:Obj} {n:String} {vs:Array Value} {Q:Unit → Shared → Prop} (ho:s.heap.get? it = some o) (hc:o.cls = .type n) (hd:o.data = .fields vs)
  (hn:["enumerate","zip","dict_itemiterator","dict_reverseitemiterator","odict_iterator","itertools.zip_longest","itertools.pairwise"].contains n = false) (hQ:Q () s):wpAny M A (letOwnedTupleGo tg (.ref it) u) Q E s:=by
 unfold letOwnedTupleGo
 cases tg <;> first
  | exact wpAny_pure hQ
  | (cases u <;> first
    | exact wpAny_pure hQ
    | (refine wpAny_bind (wpAny_load ho ?_)
       rw [hc,hd]
       show wpAny M A (if (["enumerate","zip","dict_itemiterator","dict_reverseitemiterator","odict_iterator","itertools.zip_longest","itertools.pairwise"].contains n && vs[0]? == some (rawInt _)) = true then _ else _) Q E s
       rw [if_neg (by intro h; rw [hn,Bool.false_and] at h; cases h)]
       exact wpAny_pure hQ))
noncomputable def Itl (K:PySem.W.Frag) (a:Addr):It:=
 ⟨fun i H=>∃ xs x,SqL K H a xs ∧ xs[i]? = some x,fun i H x H'=>H' = H ∧ ∀ xs,SqL K H a xs → xs[i]? = some x,fun i H=>∃ xs,SqL K H a xs ∧ xs.length ≤ i⟩
noncomputable def Itt (K:PySem.W.Frag) (a:Addr):It:=
 ⟨fun i H=>∃ xs x,SqT K H a xs ∧ xs[i]? = some x,fun i H x H'=>H' = H ∧ ∀ xs,SqT K H a xs → xs[i]? = some x,fun i H=>∃ xs,SqT K H a xs ∧ xs.length ≤ i⟩
noncomputable def Itr (lo:Int) (n:Nat):It:=⟨fun i _=>i < n,fun i H x H'=>H' = H ∧ x = .int (lo + i),fun i _=>n ≤ i⟩
theorem ZlA {P:Program} {w:World} {K:PySem.W.Frag} {tg:Expr} (a it:Addr):Turn P w K tg (Itl K a) [it] it (fun i h=>h.IsListIter it a i) where
 mem:=by simp
 obj:=fun i h st b hb=>by
  have e:b = it:=by simpa using hb
  subst e
  obtain ⟨o,e,c,d⟩:=st
  exact ⟨o,e,fun v z=>by rw [d] at z; cases z⟩
 keep:=fun i h h' st k=>st.at fun o e=>k it (by simp) o e
 item:=by
  intro X hP hw hK hc i pins s σ H E I hf st hg
  subst hP hw hK
  obtain ⟨xs,x,hq,hx⟩:=hg
  obtain ⟨its,rv,p,hz⟩:=I.list hq
  obtain ⟨u,hu,ru⟩:=rv.get hx
  obtain ⟨f0,f1,f2,f3,f4,f5⟩:=hf it (by simp)
  refine wpAny_pyNext_list_item st p.isList (x:=u) (by simpa using hu) fun h' st' sb=>?_
  have I1:Inv X pins σ H { s with heap:=h' }:=I.turned (t':=s.toks) (fun b o hb e=>(sb.2 b hb).trans e) f0 f1 f3 f4 f5
  obtain ⟨o,e,c,d⟩:=id st'
  exact ⟨u,rfl,ZkM (s:={ s with heap:=h' }) e c d (by decide) ⟨x,H,I1,ru,⟨rfl,fun ys hy=>by rw [I.list_inj hy hq]; exact hx⟩,st',fun b hb=>(hf b hb).1⟩⟩
 done:=by
  intro X hP hw hK hc i pins s σ H E I hf st hg
  subst hP hw hK
  obtain ⟨xs,hq,hx⟩:=hg
  obtain ⟨its,rv,p,hz⟩:=I.list hq
  obtain ⟨f0,f1,f2,f3,f4,f5⟩:=hf it (by simp)
  have hl:=rv.length
  exact wpAny_pyNext_list_end (I.ok.hd hc) st p.isList (by simp; exact lC 2 2268279672881 T1 hl hx) fun h' eb=>⟨rfl,I.turned (t':=s.toks) (fun b o hb e=>eb b o hb e) f0 f1 f3 f4 f5⟩
 self:=fun _ _ _ _ _ st h=>wpAny_pyIter_listiter st h
theorem Zj1 {P:Program} {w:World} {K:PySem.W.Frag} {tg:Expr} (a it:Addr):Turn P w K tg (Itt K a) [it] it (fun i h=>h.IsTupleIter it a i) where
 mem:=by simp
 obj:=fun i h st b hb=>by
  have e:b = it:=by simpa using hb
  subst e
  obtain ⟨o,e,c,d⟩:=st
  exact ⟨o,e,fun v z=>by rw [d] at z; cases z⟩
 keep:=fun i h h' st k=>st.at fun o e=>k it (by simp) o e
 item:=by
  intro X hP hw hK hc i pins s σ H E I hf st hg
  subst hP hw hK
  obtain ⟨xs,x,hq,hx⟩:=hg
  obtain ⟨its,rv,p,hz⟩:=I.tuple hq
  obtain ⟨u,hu,ru⟩:=rv.get hx
  obtain ⟨f0,f1,f2,f3,f4,f5⟩:=hf it (by simp)
  refine wpAny_pyNext_tuple_item st (show s.heap.IsTuple a its.toArray from p) (x:=u) (by simpa using hu) fun h' st' sb=>?_
  have I1:Inv X pins σ H { s with heap:=h' }:=I.turned (t':=s.toks) (fun b o hb e=>(sb.2 b hb).trans e) f0 f1 f3 f4 f5
  obtain ⟨o,e,c,d⟩:=id st'
  exact ⟨u,rfl,ZkM (s:={ s with heap:=h' }) e c d (by decide) ⟨x,H,I1,ru,⟨rfl,fun ys hy=>by rw [I.tuple_inj hy hq]; exact hx⟩,st',fun b hb=>(hf b hb).1⟩⟩
 done:=by
  intro X hP hw hK hc i pins s σ H E I hf st hg
  subst hP hw hK
  obtain ⟨xs,hq,hx⟩:=hg
  obtain ⟨its,rv,p,hz⟩:=I.tuple hq
  obtain ⟨f0,f1,f2,f3,f4,f5⟩:=hf it (by simp)
  have hl:=rv.length
  exact wpAny_pyNext_tuple_end (I.ok.hd hc) st (show s.heap.IsTuple a its.toArray from p) (by simp; exact lC 2 2268279672881 T1 hl hx) fun h' eb=>⟨rfl,I.turned (t':=s.toks) (fun b o hb e=>eb b o hb e) f0 f1 f3 f4 f5⟩
 self:=fun _ _ _ _ _ st h=>wpAny_pyIter_tupleiter st h
theorem ZjW {P:Program} {w:World} {K:PySem.W.Frag} {tg:Expr} (it:Addr) (lo:Int) (n:Nat):Turn P w K tg (Itr lo n) [it] it (fun i h=>IsRangeIter h it (lo + (i:Nat) * 1) ((n:Int) - (i:Nat)) 1) where
 mem:=by simp
 obj:=fun i h st b hb=>by
  have e:b = it:=by simpa using hb
  subst e
  exact ⟨_,st,fun v z=>by
   have z':Data.fields _ = Data.cell v:=z
   cases z'⟩
 keep:=fun i h h' st k=>k it (by simp) _ st
 item:=by
  intro X hP hw hK hc i pins s σ H E I hf st hg
  subst hP hw hK
  obtain ⟨f0,f1,f2,f3,f4,f5⟩:=hf it (by simp)
  have W:=Walks.range (prog:=X.prog) (w:=X.w) (I.ok.hd hc) it lo 1 n
  refine W.item i s _ _ hg st fun v h' tk hv st' kk=>?_
  obtain ⟨t,rfl⟩:=hv
  have I1:Inv X pins σ H { s with heap:=h',toks:=tk }:=I.turned (fun b o hb e=>kk b o (by simpa using hb) e) f0 f1 f3 f4 f5
  refine ⟨_,rfl,ZkM (s:={ s with heap:=h',toks:=tk }) (n:="range_iterator") st' rfl rfl (by decide) ⟨.int (lo + i),H,I1,⟨t,?_⟩,⟨rfl,rfl⟩,st',fun b hb=>(hf b hb).1⟩⟩
  rw [Int.mul_one]
 done:=by
  intro X hP hw hK hc i pins s σ H E I hf st hg
  subst hP hw hK
  obtain ⟨f0,f1,f2,f3,f4,f5⟩:=hf it (by simp)
  exact wpAny_pyNext_range_end (I.ok.hd hc) st (by have:n ≤ i:=hg; exact iN [_,_] [] 1 0xe1808f81001 T1 this) fun h' eb=>⟨rfl,I.turned (t':=s.toks) (fun b o hb e=>eb b o hb e) f0 f1 f3 f4 f5⟩
 self:=fun _ _ _ _ _ st h=>wpAny_pyIter_rangeiter st h
end L2
namespace L2
open PySem PySem.Spec PyProof.Rows
section
variable {X:Cx} {tg:Expr}
noncomputable def Zrv (K:PySem.W.Frag) (tl:TE):TI:=fun σ H R=>tl σ H fun x H1=>∃ a,x = .ref a ∧ (∃ xs,SqL K H1 a xs) ∧ R (Itl K a) H1
noncomputable def Zsp (K:PySem.W.Frag) (tl:TE):TI:=fun σ H R=>tl σ H fun x H1=>∃ a,x = .ref a ∧ (∃ xs,SqT K H1 a xs) ∧ R (Itt K a) H1
theorem ZnF {l:Expr} {tl:TE} (hl:PE X l tl):PI X tg l (Zrv X.K tl):=by
 intro pins s σ H R I h
 refine thn (hl pins s σ H _ I h) fun v s1 zz1=>?_
 obtain ⟨x,H1,I1,r1,q1⟩:=zz1
 obtain ⟨a,e,⟨xs,hq⟩,q⟩:=q1
 subst e
 cases r1
 obtain ⟨its,rv,p,hz⟩:=I1.list hq
 refine wpAny_pyIter_list p.isList ?_
 refine ⟨s1.heap.objs.size,[s1.heap.objs.size],_,_,H1,rfl,I1.kept (t':=s1.toks) fun b o e=>Heap.get?_push_of_some _ e,ZlA a _,⟨_,Heap.get?_push_size _ rfl,rfl,rfl⟩,fun b hb=>?_,q⟩
 have e:b = s1.heap.objs.size:=by simpa using hb
 subst e
 exact I1.fpOk (Nat.le_refl _) (I1.hok.fresh (Nat.le_refl _))
theorem Zp2 {l:Expr} {tl:TE} (hl:PE X l tl):PI X tg l (Zsp X.K tl):=by
 intro pins s σ H R I h
 refine thn (hl pins s σ H _ I h) fun v s1 zz1=>?_
 obtain ⟨x,H1,I1,r1,q1⟩:=zz1
 obtain ⟨a,e,⟨xs,hq⟩,q⟩:=q1
 subst e
 cases r1
 obtain ⟨its,rv,p,hz⟩:=I1.tuple hq
 refine wpAny_pyIter_tuple (show s1.heap.IsTuple a its.toArray from p) ?_
 refine ⟨s1.heap.objs.size,[s1.heap.objs.size],_,_,H1,rfl,I1.kept (t':=s1.toks) fun b o e=>Heap.get?_push_of_some _ e,Zj1 a _,⟨_,Heap.get?_push_size _ rfl,rfl,rfl⟩,fun b hb=>?_,q⟩
 have e:b = s1.heap.objs.size:=by simpa using hb
 subst e
 exact I1.fpOk (Nat.le_refl _) (I1.hok.fresh (Nat.le_refl _))
theorem Zjm {pins:List (Addr × Obj)} {σ:St} {H:Hp} {s:Shared} {R:It → Hp → Prop} {E:Value → Shared → Prop} {lo hi:Int} {t u v:Tok} {tk:Nat} (I:Inv X pins σ H s) (h1:-(2 ^ 62) ≤ lo) (h2:lo < 2 ^ 62) (h3:-(2 ^ 62) ≤ hi) (h4:hi < 2 ^ 62)
  (q:R (Itr lo (hi - lo).toNat) H):wpAny (model X.prog X.w) X.A (pyIter (.ref s.heap.objs.size)) (PIE X pins σ tg R) E { s with heap:=s.heap.push { cls:=.type "range",data:=.fields #[.int lo t,.int hi u,.int 1 v] },toks:=tk }:=by
 refine wpAny_pyIter_range (IsRange.new ..) (small_one h1 h2 h3 h4) ?_
 have I1:Inv X pins σ H { s with heap:=s.heap.push { cls:=.type "range",data:=.fields #[.int lo t,.int hi u,.int 1 v] },toks:=tk }:=I.kept fun b o e=>Heap.get?_push_of_some _ e
 refine ⟨(s.heap.push { cls:=.type "range",data:=.fields #[.int lo t,.int hi u,.int 1 v] }).objs.size,[(s.heap.push { cls:=.type "range",data:=.fields #[.int lo t,.int hi u,.int 1 v] }).objs.size],_,_,H,rfl,
  I1.kept (t':=tk) fun b o e=>Heap.get?_push_of_some _ e,ZjW _ lo (hi - lo).toNat,?_,fun b hb=>?_,q⟩
 ·have e1:lo + ((0:Nat):Int) * 1 = lo:=by simp
  have e2:(((hi - lo).toNat:Nat):Int) - ((0:Nat):Int) = Builtin.Range.rangeSize lo hi 1:=by rw [rangeSize_one]; split <;> omega
  show IsRangeIter _ _ (lo + ((0:Nat):Int) * 1) ((((hi - lo).toNat:Nat):Int) - ((0:Nat):Int)) 1
  rw [e1,e2]
  exact Heap.get?_push_size _ rfl
 ·have e:b = (s.heap.push { cls:=.type "range",data:=.fields #[.int lo t,.int hi u,.int 1 v] }).objs.size:=by simpa using hb
  subst e
  exact I1.fpOk (Nat.le_refl _) (I1.hok.fresh (Nat.le_refl _))
noncomputable def ZrF (ta:TA):TI:=fun σ H R=>ta σ H fun vs H1=>∃ j:Int,vs = [.int j] ∧ -(2 ^ 62) ≤ j ∧ j < 2 ^ 62 ∧ R (Itr 0 j.toNat) H1
noncomputable def ZqS (ta:TA):TI:=fun σ H R=>ta σ H fun vs H1=>∃ i j:Int,vs = [.int i,.int j] ∧ (-(2 ^ 62) ≤ i ∧ i < 2 ^ 62 ∧ -(2 ^ 62) ≤ j ∧ j < 2 ^ 62) ∧ R (Itr i (j - i).toNat) H1
theorem ZlP {a:Expr} {ta:TA} {p pos:Pos} (hg:Gl X "range") (hm:X.mg "range" = none) (ha:PA X [a] ta) (hs:starEach [a] X.env = [(false,eval a X.env)]:=by rfl):PI X tg (.Call (.Name "range" p) [a] [] pos) (ZrF ta):=by
 intro pins s σ H R I h
 refine Call_ (Zgb I hg hm boot_range (PyProof.Rows.callWith_type1 (thn (ha pos pins s σ H _ I h) fun us s1 zz1=>?_) hs rfl))
 obtain ⟨vs,H1,I1,r1,q1⟩:=zz1
 obtain ⟨j,e,q1,q2,q⟩:=q1
 subst e
 cases r1 with
 | cons r rr=>
  cases rr
  obtain ⟨t,rfl⟩:=r
  exact call_range_1 (Zjm I1 (by omega) (by omega) q1 q2 (by simpa using q))
theorem Zlx {a b:Expr} {ta:TA} {p pos:Pos} (hg:Gl X "range") (hm:X.mg "range" = none) (ha:PA X [a,b] ta) (hs:starEach [a,b] X.env = [(false,eval a X.env),(false,eval b X.env)]:=by rfl) (hs2:starEach [b] X.env = [(false,eval b X.env)]:=by rfl):
  PI X tg (.Call (.Name "range" p) [a,b] [] pos) (ZqS ta):=by
 intro pins s σ H R I h
 refine Call_ (Zgb I hg hm boot_range (PyProof.Rows.callWith_type1 (thn (ha pos pins s σ H _ I h) fun us s1 zz1=>?_) (by rw [hs,hs2]) (by rw [hs2]; rfl)))
 obtain ⟨vs,H1,I1,r1,q1⟩:=zz1
 obtain ⟨i,j,e,⟨q1,q2,q3,q4⟩,q⟩:=q1
 subst e
 cases r1 with
 | cons r rr=>
  cases rr with
  | cons r' rr=>
   cases rr
   obtain ⟨t,rfl⟩:=r
   obtain ⟨t',rfl⟩:=r'
   exact call_range_2 (Zjm I1 q1 q2 q3 q4 q)
noncomputable def ZsD (wi:TI) (g:TG) (tb:TS):TS:=fun D σ H=>wi σ H fun J H1=>∃ W:Nat → Nat → St → Hp → Prop,(∃ m,W 0 m σ H1) ∧ ∀ i m σ H,W i m σ H →
 (J.stop i H ∧ D.nx σ H) ∨ (J.go i H ∧ ∃ N:St → Hp → Prop,(∀ σ' H',N σ' H' → ∃ m',m' < m ∧ W (i + 1) m' σ' H') ∧ ∀ x H',J.yld i H x H' → g x σ H' fun σ2 H2=>tb { D with nx:=N,ct:=N,bk:=D.nx } σ2 H2)
noncomputable def ZgM (fp:List Addr) (h:Heap):List (Addr × Obj):=fp.filterMap fun b=>(h.get? b).map fun o=>(b,o)
theorem Zel {fp:List Addr} {h:Heap} {b:Addr} {o:Obj} (hb:b ∈ fp) (e:h.get? b = some o):(b,o) ∈ ZgM fp h:=List.mem_filterMap.mpr ⟨b,hb,by rw [e]; rfl⟩
theorem Zlv {fp:List Addr} {h:Heap} {p:Addr × Obj} (hp:p ∈ ZgM fp h):p.1 ∈ fp ∧ h.get? p.1 = some p.2:=by
 obtain ⟨b,hb,e⟩:=List.mem_filterMap.mp hp
 cases q:h.get? b with
 | none=>rw [q] at e; cases e
 | some o=>
  rw [q] at e
  have e':(b,o) = p:=Option.some.inj e
  subst e'
  exact ⟨hb,q⟩
theorem Inv.pinned {pins:List (Addr × Obj)} {σ:St} {H:Hp} {s:Shared} {fp:List Addr} (I:Inv X pins σ H s) (hf:∀ b ∈ fp,ZfB X pins H b) (ho:∀ b ∈ fp,∃ o,s.heap.get? b = some o ∧ ∀ v,o.data ≠ .cell v):Inv X (pins ++ ZgM fp s.heap) σ H s:=
 I.pins_of fun p hp=>(List.mem_append.mp hp).elim (fun z=>I.pin p (List.mem_append_right _ z)) fun z=>by
  obtain ⟨hb,e⟩:=Zlv z
  obtain ⟨f0,f1,f2,_⟩:=hf p.1 hb
  obtain ⟨o,e',d⟩:=ho p.1 hb
  rw [e] at e'; cases e'
  exact ⟨e,f0,f1,f2,d⟩
theorem Inv.unpinned {pins pl:List (Addr × Obj)} {σ:St} {H:Hp} {s:Shared} (I:Inv X (pins ++ pl) σ H s):Inv X pins σ H s:=I.pins_of fun p hp=>I.pin p (List.mem_append_right _ (List.mem_append_left _ hp))
theorem Zmq {iter:Expr} {body:List Stmt} {wi:TI} {g:TG} {tb:TS} {pos:Pos} (hp:PassesOwn (model X.prog X.w) X.A X.env X.xe) (hc:X.calm = true) (hi:PI X tg iter wi) (hg:PG X tg g) (hb:PSs X body tb)
  (hs:∀ x,foldedSetIterable iter X.env x = pure x:=by intro _; rfl):PS X (.For tg iter body [] pos) (ZsD wi g tb):=by
 intro pins s σ H D I h
 refine wpAny_For (thn (hi pins s σ H _ I h) fun v s1 h1=>thn h1 fun itv s2 h2=>?_) hs
 obtain ⟨it,fp,tn,J,H2,e,I2,T,st2,f2,W,⟨m0,w0⟩,turn⟩:=h2
 subst e
 have stat:∀ {H':Hp},(∀ b ∈ fp,H' b = none) → ∀ b ∈ fp,ZfB X pins H' b:=fun hn b hb=>⟨hn b hb,(f2 b hb).2⟩
 refine codeAny_forLoop_any (fun n s'=>∃ i σ' H',Inv X pins σ' H' s' ∧ tn i s'.heap ∧ (∀ b ∈ fp,H' b = none) ∧ W i n σ' H') ?_ m0 ⟨0,σ,H2,I2,st2,fun b hb=>(f2 b hb).1,w0⟩
 rintro n s3 ⟨i,σ3,H3,I3,st3,fr3,w3⟩
 rcases turn i n σ3 H3 w3 with ⟨stop,qn⟩ | ⟨go,N,hN,step⟩
 ·refine wpAny_passesOwn hp (thn (T.done X rfl rfl rfl hc i pins s3 σ3 H3 X.xe I3 (stat fr3) st3 stop) fun r s4 ⟨hr,I4⟩=>?_)
  subst hr
  exact wpAny_execs_nil ⟨σ3,H3,I4,qn⟩
 ·refine wpAny_passesOwn hp (thn (T.item X rfl rfl rfl hc i pins s3 σ3 H3 X.xe I3 (stat fr3) st3 go) fun r s4 ⟨u,hr,h4⟩=>?_)
  subst hr
  refine wpAny_passesOwn hp (thn h4 fun _ s5 zz1=>?_)
  obtain ⟨x,H5,I5,r5,y5,st5,fr5⟩:=zz1
  have I5':=I5.pinned (stat fr5) (T.obj _ _ st5)
  refine wpAny_passesOwn hp (thn (hg _ s5 σ3 H5 x u _ I5' r5 (step x H5 y5)) fun _ s6 zz1=>?_)
  obtain ⟨σ6,H6,I6,q6⟩:=zz1
  refine wpAny_passesOwn hp (thn (hb _ s6 σ6 H6 _ I6 q6) fun f s7 q7=>?_)
  have again:∀ {σ7:St} {H7:Hp},Inv X (pins ++ ZgM fp s5.heap) σ7 H7 s7 → N σ7 H7 → ∃ m,m < n ∧ ∃ i σ' H',Inv X pins σ' H' s7 ∧ tn i s7.heap ∧ (∀ b ∈ fp,H' b = none) ∧ W i m σ' H':=fun {σ7 H7} I7 n7=>by
   obtain ⟨m',hm,w7⟩:=hN σ7 H7 n7
   refine ⟨m',hm,i + 1,σ7,H7,I7.unpinned,T.keep _ _ _ st5 fun b hb o e=>(I7.pin (b,o) (List.mem_append_right _ (List.mem_append_right _ (Zel hb e)))).1,fun b hb=>?_,w7⟩
   obtain ⟨o,e,d⟩:=T.obj _ _ st5 b hb
   exact (I7.pin (b,o) (List.mem_append_right _ (List.mem_append_right _ (Zel hb e)))).2.1
  cases f with
  | next=>obtain ⟨σ7,H7,I7,n7⟩:=q7; exact again I7 n7
  | cont=>obtain ⟨σ7,H7,I7,n7⟩:=q7; exact again I7 n7
  | brk=>obtain ⟨σ7,H7,I7,q7⟩:=q7; exact ⟨σ7,H7,I7.unpinned,q7⟩
  | ret v=>obtain ⟨x7,σ7,H7,I7,r7,q7⟩:=q7; exact ⟨x7,σ7,H7,I7.unpinned,r7,q7⟩
end
end L2
namespace L2
open PySem PySem.Spec PyProof.Rows
noncomputable abbrev R2:=V → V → Hp → VK → Prop
noncomputable def OpR (X:Cx) (f:Value → Value → Sem Value) (r:R2):Prop:=
 ∀ (pins:List (Addr × Obj)) (s:Shared) (σ:St) (H:Hp) (x y:V) (v u:Value) (Q:VK),Inv X pins σ H s → RelV x v → RelV y u → r x y H Q →
  wpAny (model X.prog X.w) X.A (f v u) (EP X pins σ Q) X.xe s
noncomputable def UnR (X:Cx) (f:Value → Sem Value) (r:V → Hp → VK → Prop):Prop:=
 ∀ (pins:List (Addr × Obj)) (s:Shared) (σ:St) (H:Hp) (x:V) (v:Value) (Q:VK),Inv X pins σ H s → RelV x v → r x H Q →
  wpAny (model X.prog X.w) X.A (f v) (EP X pins σ Q) X.xe s
noncomputable def Za3 (X:Cx) (f:Value) (r:List V → Hp → VK → Prop):Prop:=
 ∀ (pins:List (Addr × Obj)) (s:Shared) (σ:St) (H:Hp) (xs:List V) (us:List Value) (Q:VK),Inv X pins σ H s → Vals xs us → r xs H Q →
  wpAny (model X.prog X.w) X.A (call f us) (EP X pins σ Q) X.xe s
noncomputable def tOp (r:R2) (ta tb:TE):TE:=fun σ H Q=>ta σ H fun x H1=>tb σ H1 fun y H2=>r x y H2 Q
noncomputable def tUn (r:V → Hp → VK → Prop) (ta:TE):TE:=fun σ H Q=>ta σ H fun x H1=>r x H1 Q
noncomputable def rI (C:Int → Int → Prop) (g:Int → Int → V):R2:=fun x y H Q=>∃ i j,x = .int i ∧ y = .int j ∧ C i j ∧ Q (g i j) H
noncomputable def rI0 (g:Int → Int → V):R2:=fun x y H Q=>∃ i j,x = .int i ∧ y = .int j ∧ Q (g i j) H
noncomputable def rU (g:Int → V):V → Hp → VK → Prop:=fun x H Q=>∃ i,x = .int i ∧ Q (g i) H
section
variable {X:Cx} {a b c:Expr} {ta tb tc:TE} {pos:Pos}
theorem Zqh (ha:PE X a ta) (hb:PE X b tb) {pins:List (Addr × Obj)} {s:Shared} {σ:St} {H:Hp} {R:V → V → Hp → Prop} (I:Inv X pins σ H s)
  (h:ta σ H fun x H1=>tb σ H1 fun y H2=>R x y H2) {Q:Value → Shared → Prop} {f:Value → Value → Sem Value}
  (hf:∀ v u s2 x y H2,Inv X pins σ H2 s2 → RelV x v → RelV y u → R x y H2 → wpAny (model X.prog X.w) X.A (f v u) Q X.xe s2):
  wpAny (model X.prog X.w) X.A (eval a X.env) (fun v s₁=>wpAny (model X.prog X.w) X.A (eval b X.env) (fun u s₂=>wpAny (model X.prog X.w) X.A (f v u) Q X.xe s₂) X.xe s₁) X.xe s:=by
 refine thn (ha pins s σ H _ I h) fun v s1 zz1=>?_
 obtain ⟨x,H1,I1,r1,q1⟩:=zz1
 refine thn (hb pins s1 σ H1 _ I1 q1) fun u s2 zz1=>?_
 obtain ⟨y,H2,I2,r2,q2⟩:=zz1
 exact hf v u s2 x y H2 I2 r1 r2 q2
theorem Zq5 {op:Operator} {r:R2} (ho:OpR X (binaryOp op) r) (ha:PE X a ta) (hb:PE X b tb):PE X (.BinOp a op b pos) (tOp r ta tb):=by
 intro pins s σ H Q I h
 exact wpAny_BinOp (Zqh ha hb I h fun v u s2 x y H2 I2 rx ry q=>ho pins s2 σ H2 x y v u Q I2 rx ry q)
theorem ZqM {op:UnaryOp} {r:V → Hp → VK → Prop} (ho:UnR X (unaryOp op) r) (ha:PE X a ta):PE X (.UnaryOp op a pos) (tUn r ta):=by
 intro pins s σ H Q I h
 exact UnaryOp_ (thn (ha pins s σ H _ I h) fun v s1 ⟨x,H1,I1,r1,q1⟩=>ho pins s1 σ H1 x v Q I1 r1 q1)
theorem opI {f:Value → Value → Sem Value} {C:Int → Int → Prop} {g:Int → Int → Int}
  (rule:∀ (i j:Int) (t u:Tok) (s:Shared) (Q:Value → Shared → Prop) (E:Value → Shared → Prop),C i j → Q (.int (g i j) s.toks) { s with toks:=s.toks + 1 } → wpAny (model X.prog X.w) X.A (f (.int i t) (.int j u)) Q E s):
  OpR X f (rI C fun i j=>.int (g i j)):=by
 intro pins s σ H x y v u Q I rx ry h
 obtain ⟨i,j,rfl,rfl,hc,q⟩:=h
 obtain ⟨t,rfl⟩:=rx
 obtain ⟨t',rfl⟩:=ry
 exact rule i j t t' s _ _ hc ⟨.int (g i j),H,I.tok _,⟨_,rfl⟩,q⟩
theorem ZqW {f:Value → Value → Sem Value} {g:Int → Int → Int}
  (rule:∀ (i j:Int) (t u:Tok) (s:Shared) (Q:Value → Shared → Prop) (E:Value → Shared → Prop),Q (.int (g i j) s.toks) { s with toks:=s.toks + 1 } → wpAny (model X.prog X.w) X.A (f (.int i t) (.int j u)) Q E s):
  OpR X f (rI0 fun i j=>.int (g i j)):=by
 intro pins s σ H x y v u Q I rx ry h
 obtain ⟨i,j,rfl,rfl,q⟩:=h
 obtain ⟨t,rfl⟩:=rx
 obtain ⟨t',rfl⟩:=ry
 exact rule i j t t' s _ _ ⟨.int (g i j),H,I.tok _,⟨_,rfl⟩,q⟩
theorem ZpT {f:Value → Value → Sem Value} {g:Int → Int → Bool}
  (rule:∀ (i j:Int) (t u:Tok) (s:Shared) (Q:Value → Shared → Prop) (E:Value → Shared → Prop),Q (.bool (g i j)) s → wpAny (model X.prog X.w) X.A (f (.int i t) (.int j u)) Q E s):
  OpR X f (rI0 fun i j=>.bl (g i j)):=by
 intro pins s σ H x y v u Q I rx ry h
 obtain ⟨i,j,rfl,rfl,q⟩:=h
 obtain ⟨t,rfl⟩:=rx
 obtain ⟨t',rfl⟩:=ry
 exact rule i j t t' s _ _ ⟨.bl (g i j),H,I,rfl,q⟩
noncomputable def Zso (i j:Int):Prop:=0 < j ∧ j < 1073741824
noncomputable def Zsy (i j:Int):Prop:=0 ≤ j ∧ j ≤ 1000000 ∧ i.natAbs < 2 ^ 64
noncomputable def Zqb (i j:Int):Prop:=(-(2 ^ 64) < i ∧ i < 2 ^ 64) ∨ (-(2 ^ 64) < j ∧ j < 2 ^ 64)
theorem Zqb.ok {i j:Int} (h:Zqb i j):IntMulOk i j:=by
 rcases h with ⟨h1,h2⟩ | ⟨h1,h2⟩
 ·exact .of_left (intBits_le_64 h1 h2)
 ·exact .of_right (intBits_le_64 h1 h2)
theorem Zqf:OpR X (binaryOp .Add) (rI0 fun i j=>.int (i + j)):=ZqW fun _ _ _ _ _ _ _ q=>add_int q
theorem ZoY:OpR X (binaryOp .Sub) (rI0 fun i j=>.int (i - j)):=ZqW fun _ _ _ _ _ _ _ q=>sub_int q
theorem Zpy:OpR X (binaryOp .Mult) (rI Zqb fun i j=>.int (i * j)):=opI fun _ _ _ _ _ _ _ hc q=>mul_int q hc.ok
theorem ZnG:OpR X (binaryOp .FloorDiv) (rI Zso fun i j=>.int (i / j)):=opI fun i j _ _ _ _ _ hc q=>by
 have h1:(0:Int) < j:=hc.1
 have h2:j < 1073741824:=hc.2
 exact floordiv_int (by exact fun z=>iN [] [_] 2 26014245025 T1 z h1) (by rw [Int.fdiv_eq_ediv_of_nonneg i (by exact Int.le_of_lt h1)]; exact q) (.inl (PyProof.noPylong_small (by omega)))
theorem Zp3:OpR X (binaryOp .Mod) (rI (fun _ j=>0 < j) fun i j=>.int (i % j)):=opI fun i j _ _ _ _ _ hc q=>by
 have h1:(0:Int) < j:=hc
 exact mod_int' (by exact fun z=>iN [] [_] 2 26014245025 T1 z h1) (by rw [Int.fmod_eq_emod_of_nonneg i (by exact Int.le_of_lt h1)]; exact q)
theorem Zqw:OpR X (binaryOp .Pow) (rI Zsy fun i j=>.int (i ^ j.toNat)):=opI fun _ _ _ _ _ _ _ hc q=>pow_int_small hc.1 hc.2.1 hc.2.2 q
theorem unI {f:Value → Sem Value} {g:Int → Int}
  (rule:∀ (i:Int) (t:Tok) (s:Shared) (Q:Value → Shared → Prop) (E:Value → Shared → Prop),Q (.int (g i) s.toks) { s with toks:=s.toks + 1 } → wpAny (model X.prog X.w) X.A (f (.int i t)) Q E s):
  UnR X f (rU fun i=>.int (g i)):=by
 intro pins s σ H x v Q I rx h
 obtain ⟨i,rfl,q⟩:=h
 obtain ⟨t,rfl⟩:=rx
 exact rule i t s _ _ ⟨.int (g i),H,I.tok _,⟨_,rfl⟩,q⟩
theorem Zqk:UnR X (unaryOp .USub) (rU fun i=>.int (-i)):=unI fun _ _ _ _ _ q=>neg_int q
end
section
variable {X:Cx} {a b c:Expr} {ta tb tc:TE} {pos:Pos}
theorem Zj4 {pins:List (Addr × Obj)} {σ:St} {H:Hp} {s:Shared} {Q:VK} {k k':Bool} (I:Inv X pins σ H s) (q:Q (.bl k) H) (e:k = k'):EP X pins σ Q (.bool k') s:=by
 subst e
 exact ⟨.bl k,H,I,rfl,q⟩
theorem Zrs:OpR X (compareOp .Lt) (rI0 fun i j=>.bl (decide (i < j))):=ZpT fun _ _ _ _ _ _ _ q=>lt_int q
theorem Zq4:OpR X (compareOp .Gt) (rI0 fun i j=>.bl (decide (j < i))):=ZpT fun _ _ _ _ _ _ _ q=>gt_int q
theorem ZrL:OpR X (compareOp .GtE) (rI0 fun i j=>.bl (decide (j ≤ i))):=ZpT fun _ _ _ _ _ _ _ q=>ge_int q
theorem Zlk:OpR X (compareOp .In) (fun x y H Q=>∃ i j,x = .str i ∧ y = .str j ∧ Q (.bl (!(Builtin.Str.occurrences j i 0 j.length 1).isEmpty)) H):=by
 intro pins s σ H x y v u Q I rx ry h
 obtain ⟨i,j,rfl,rfl,q⟩:=h
 obtain ⟨t,rfl⟩:=rx
 obtain ⟨t',rfl⟩:=ry
 exact in_str (Zj4 I q rfl)
theorem Zqx:OpR X (compareOp .Is) (fun x y H Q=>y = .non ∧ Q (.bl (decide (x = .non))) H):=by
 intro pins s σ H x y v u Q I rx ry h
 obtain ⟨rfl,q⟩:=h
 cases ry
 refine is_none_gen (Zj4 I q ?_)
 cases x <;> first
  | (cases rx; rfl)
  | (obtain ⟨t,rfl⟩:=rx; rfl)
theorem Zok:OpR X (compareOp .IsNot) (fun x y H Q=>y = .non ∧ Q (.bl (!decide (x = .non))) H):=by
 intro pins s σ H x y v u Q I rx ry h
 obtain ⟨rfl,q⟩:=h
 cases ry
 refine isnot_none_gen (Zj4 I q ?_)
 cases x <;> first
  | (cases rx; rfl)
  | (obtain ⟨t,rfl⟩:=rx; rfl)
theorem OpR.or {f:Value → Value → Sem Value} {r r':R2} (h:OpR X f r) (h':OpR X f r'):OpR X f (fun x y H Q=>r x y H Q ∨ r' x y H Q):=by
 intro pins s σ H x y v u Q I rx ry q
 rcases q with q | q
 ·exact h pins s σ H x y v u Q I rx ry q
 ·exact h' pins s σ H x y v u Q I rx ry q
theorem Zn5 {op:CmpOp} {r:R2} (ho:OpR X (compareOp op) r) (ha:PE X a ta) (hb:PE X b tb) (hm:behindInMarks op b = false):PE X (.Compare a [op] [b] pos) (tOp r ta tb):=by
 intro pins s σ H Q I h
 exact wpAny_Compare1 (Zqh ha hb I h fun v u s2 x y H2 I2 rx ry q=>ho pins s2 σ H2 x y v u Q I2 rx ry q) hm
noncomputable def Zrl (t:TE):TT:=fun σ H Q=>t σ H fun x H'=>∃ k,x = .bl k ∧ Q k H'
theorem ZnW {op:CmpOp} {r:R2} (ho:OpR X (compareOp op) r) (ha:PE X a ta) (hb:PE X b tb) (hm:behindInMarks op b = false):PT X (.Compare a [op] [b] pos) (Zrl (tOp r ta tb)):=by
 intro pins s σ H Q I h
 refine wpAny_isTrue_Compare1 (thn (ha pins s σ H _ I h) fun v s1 ⟨x,H1,I1,r1,q1⟩=>thn (hb pins s1 σ H1 _ I1 q1) fun u s2 ⟨y,H2,I2,r2,q2⟩=>
  thn (ho pins s2 σ H2 x y v u _ I2 r1 r2 q2) fun c s3 ⟨z,H3,I3,r3,k,e,q3⟩=>?_) hm
 subst e
 cases r3
 exact wpAny_truthy_bool ⟨H3,I3,q3⟩
theorem ZgO:(sizeLine:Nat) < 2 ^ 63:=by rw [sizeLine_eq]; decide
theorem Zj6:OpR X (binaryOp .Add) (fun x y H Q=>∃ i j,x = .str i ∧ y = .str j ∧ i.length + j.length ≤ sizeLine ∧ Q (.str (i ++ j)) H):=by
 intro pins s σ H x y v u Q I rx ry h
 obtain ⟨i,j,rfl,rfl,hz,q⟩:=h
 obtain ⟨t,rfl⟩:=rx
 obtain ⟨t',rfl⟩:=ry
 exact add_str (fun t' tk=>⟨.str (i ++ j),H,I.tok _,⟨_,rfl⟩,q⟩) hz
theorem vals1 {x:V} {us:List Value} (r:Vals [x] us):∃ u,us = [u] ∧ RelV x u:=by
 cases r with
 | cons r1 r2=>cases r2; exact ⟨_,rfl,r1⟩
theorem vals2 {x y:V} {us:List Value} (r:Vals [x,y] us):∃ u w',us = [u,w'] ∧ RelV x u ∧ RelV y w':=by
 cases r with
 | cons r1 r2=>
  cases r2 with
  | cons r3 r4=>cases r4; exact ⟨_,_,rfl,r1,r3⟩
theorem Zll (hc:X.calm = true):Za3 X (.builtin "min") (fun xs H Q=>∃ i j,xs = [.int i,.int j] ∧ Q (.int (if j < i then j else i)) H):=by
 intro pins s σ H xs us Q I r h
 obtain ⟨i,j,rfl,q⟩:=h
 obtain ⟨u,w',rfl,⟨t,rfl⟩,⟨t',rfl⟩⟩:=vals2 r
 refine min_two_ints (I.ok.hd hc) fun h' tk k=>⟨_,H,I.kept k,?_,q⟩
 by_cases hj:j < i
 ·rw [if_pos hj,if_pos hj]; exact ⟨_,rfl⟩
 ·rw [if_neg hj,if_neg hj]; exact ⟨_,rfl⟩
theorem Zly:Za3 X (.type "int") (fun xs H Q=>(∃ i,xs = [.int i] ∧ Q (.int i) H) ∨ ∃ k,xs = [.bl k] ∧ Q (.int (if k then 1 else 0)) H):=by
 intro pins s σ H xs us Q I r h
 rcases h with ⟨i,rfl,q⟩ | ⟨k,rfl,q⟩
 ·obtain ⟨u,rfl,t,rfl⟩:=vals1 r
  exact call_int_int ⟨.int i,H,I,⟨_,rfl⟩,q⟩
 ·obtain ⟨u,rfl,r1⟩:=vals1 r
  cases r1
  exact call_int_bool ⟨.int (if k then 1 else 0),H,I.tok _,⟨_,rfl⟩,q⟩
noncomputable def Zsu (K:PySem.W.Frag) (x:V) (H:Hp) (n:Nat):Prop:=
 match x with
 | .str y=>y.length ≤ sizeLine ∧ n = y.length
 | .byt y=>y.size ≤ sizeLine ∧ n = y.size
 | .ref p=>(∃ xs,SqL K H p xs ∧ n = xs.length) ∨ ∃ xs,SqT K H p xs ∧ n = xs.length
 | _=>False
theorem Zmd:Za3 X (.builtin "len") (fun xs H Q=>∃ x n,xs = [x] ∧ Zsu X.K x H n ∧ Q (.int n) H):=by
 intro pins s σ H xs us Q I r h
 obtain ⟨x,n,rfl,e,q⟩:=h
 obtain ⟨u,rfl,rx⟩:=vals1 r
 have hl:=ZgO
 have hs:sizeLine = 16777216:=sizeLine_eq
 cases x with
 | str y=>
  obtain ⟨t,rfl⟩:=rx
  obtain ⟨hy,e'⟩:y.length ≤ sizeLine ∧ n = y.length:=e
  subst e'
  exact len_str (by omega) ⟨.int _,H,I.tok _,⟨_,rfl⟩,q⟩
 | byt y=>
  obtain ⟨t,rfl⟩:=rx
  obtain ⟨hy,e'⟩:y.size ≤ sizeLine ∧ n = y.size:=e
  subst e'
  exact PySem.W.len_bytes (by omega) ⟨.int _,H,I.tok _,⟨_,rfl⟩,q⟩
 | ref p=>
  cases rx
  have e':(∃ xs,SqL X.K H p xs ∧ n = xs.length) ∨ ∃ xs,SqT X.K H p xs ∧ n = xs.length:=e
  rcases e' with ⟨xs,hx,e'⟩ | ⟨xs,hx,e'⟩
  ·subst e'
   obtain ⟨its,r',pl,hz⟩:=I.list hx
   have hlen:=r'.length
   exact Calls.call_len_list pl.isList (by simp only [List.size_toArray]; omega) ⟨.int xs.length,H,I.tok _,⟨_,by simp only [List.size_toArray]; rw [hlen]⟩,q⟩
  ·subst e'
   obtain ⟨its,r',pl,hz⟩:=I.tuple hx
   have hlen:=r'.length
   exact len_tuple pl (by simp only [List.size_toArray]; omega) ⟨.int xs.length,H,I.tok _,⟨_,by simp only [List.size_toArray]; rw [hlen]⟩,q⟩
 | _=>exact (show False from e).elim
end
end L2
namespace L2
open PySem PySem.Spec PyProof.Rows
structure Zku (h:Heap) (x dx C:Addr) (mA:Str → Option Value):Prop where
 obj:h.get? x = some (PySem.W.instObj C dx)
 ns:h.Ns1 dx mA
 ne:dx ≠ x
theorem Zls {h:Heap} {dx:Addr} {mA:Str → Option Value} (n:h.Ns1 dx mA):∃ od,h.get? dx = some od ∧ ∀ name,PySem.W.lookIn name od = some (mA name):=by
 obtain ⟨o,es,ep,ho,hd,hk,_,hm⟩:=n
 refine ⟨o,ho,fun name=>?_⟩
 have e:=hm name
 unfold nsFind findBy at e
 rw [← Array.find?_toList] at e
 unfold PySem.W.lookIn
 rw [hd]
 dsimp only
 split
 ·rename_i y q
  rw [q] at e
  exact congrArg some e
 ·rename_i q
  rw [q] at e
  have a:es.toList.any (·.refKey) = false:=by
   rw [List.any_eq_false]
   intro y hy
   obtain ⟨z,t,hkey⟩:=hk y (Array.mem_toList_iff.mp hy)
   simp [DictEntry.refKey,hkey]
  have a':¬ es.toList.any (·.refKey) = true:=by rw [a]; exact Bool.false_ne_true
  rw [if_neg a']
  exact congrArg some e
theorem Zku.look {h:Heap} {x dx C:Addr} {mA:Str → Option Value} (I:Zku h x dx C mA):∃ od,PySem.W.InstAt h x (PySem.W.instObj C dx) C (some od) ∧ ∀ name,PySem.W.lookIn name od = some (mA name):=
 let ⟨od,ho,hl⟩:=Zls I.ns
 ⟨od,⟨I.obj,rfl,rfl,ho⟩,hl⟩
section
variable {prog:Program} {w:World} {A:Around} {E:Value → Shared → Prop} {s:Shared} {K:PySem.W.Frag} {x dx C f:Addr} {mA:Str → Option Value} {name:Str} {v:Value}
theorem Zoo {expr:Bool} {Q:Value → Shared → Prop} (X:K.In s.heap) (I:Zku s.heap x dx C mA) (hg:PySem.W.plainGet K C name = true) (hh:PySem.W.hasDictIn K C = true)
  (ha:PySem.W.findIn K (.ref C) name = some none) (hv:mA name = some v) (hv':PySem.W.handedIn v = true) (h:Q v { s with toks:=s.toks + 1 }):
  wpAny (model prog w) A (getAttr (.ref x) name expr) Q E s:=by
 obtain ⟨od,J,hl⟩:=I.look
 exact PySem.W.get_value X J (PySem.W.plainGet_of hg).1 (PySem.W.findObj_own hh ha rfl (by rw [hl,hv])) hv' h
theorem Znw {pl:Sem Bool} {Q:Value × List Value → Shared → Prop} (X:K.In s.heap) (I:Zku s.heap x dx C mA) (hg:PySem.W.plainGet K C name = true)
  (hf:PySem.W.findIn K (.ref C) name = some (some (.ref f))) (ht:PySem.W.isFn K (.ref f) = true) (hv:mA name = none) (h:Q (.ref f,[.ref x]) s):
  wpAny (model prog w) A (getMethod (.ref x) name pl) Q E s:=by
 obtain ⟨od,J,hl⟩:=I.look
 exact PySem.W.method_fn X J (PySem.W.plainGet_of hg).1 (PySem.W.plainGet_of hg).2 hf (beq_iff_eq.mp ht) (by show (PySem.W.lookIn name od).map (·.isSome) = some false; rw [hl,hv]; rfl) h
theorem Zom {ns:List Str} {Q:Unit → Shared → Prop} (X:K.In s.heap) (I:Zku s.heap x dx C mA)
  (hs:PySem.W.findIn K (.ref C) "__setattr__" = some (some (.builtin "object.__setattr__"))) (hp:PySem.W.plainOver K C = true) (ht:PySem.W.takerIn K C name = some none) (hh:PySem.W.hasDictIn K C = true)
  (hw:PySem.Within mA ns) (hsz:ns.length ≤ sizeLine)
  (h:∀ h',Zku h' x dx C (fun y=>if y = name then some v else mA y) → Heap.SameBut dx s.heap h' → Q () { s with heap:=h',toks:=s.toks + 2 }):
  wpAny (model prog w) A (setAttr (.ref x) name v) Q E s:=by
 obtain ⟨od,J,hl⟩:=I.look
 refine PySem.W.set_plain X J hs (PySem.W.osa_open (s:={ s with toks:=s.toks + 1 }) (r:=none) X J hp ht fun b=>?_)
 obtain ⟨cd,hc,hd'⟩:=PySem.W.any_some hh
 have hx:s.heap.get? x = some ⟨.ref C,some dx,.plain,#[]⟩:=I.obj
 refine wpAny_bind (wpAny_pure (wpAny_bind (wpAny_bind (wpAny_loadPart hx (wpAny_bind (PySem.W.Looks.here (s:={ s with toks:=s.toks + 1 }) (PySem.W.looks_clsIn X hc) ?_))))))
 rw [hd']
 refine wpAny_pure (a:=some dx) (wpAny_bind (wpAny_pure (wpAny_bind ?_)))
 refine wpAny_nsSet1 (s:={ s with toks:=s.toks + 1 }) I.ns fun h' hn2 hs2=>?_
 obtain ⟨oD,esD,epD,hoD,hdD,hcD⟩:=hn2.count (PySem.Within.cons name v hw)
 refine wpAny_bind (wpAny_lookBehind hoD (by rw [hdD]; exact pastItsLine_dict (Nat.le_trans hcD (by rw [List.length_cons]; exact lB 1 0xa1ca0c01001 T1 hsz))) ?_)
 exact wpAny_pure (h _ ⟨(hs2.2 _ (Ne.symm I.ne)).trans I.obj,hn2,I.ne⟩ hs2)
theorem ZmQ {R:Result → Shared → Prop} {vs:List Value} {kw:List (Str × Value)} (X:K.In s.heap) (hm:PySem.W.makesIn K C = true)
  (hi:PySem.W.findIn K (.ref C) "__init__" = some (some (.ref f))) (hf:PySem.W.typeIn K (.ref f) = some (.type "function"))
  (h:codeAny (model prog w) (A.under (.builtin "type.__call__" ⟨.ref C :: vs,kw⟩)) (.call (.ref f) ⟨.ref (s.heap.objs.size + 1) :: vs,kw⟩) (PySem.W.InitBack (s.heap.objs.size + 1) R)
   { s with heap:=(s.heap.push PySem.W.emptyDict).push (PySem.W.instObj C s.heap.objs.size) }):
  codeAny (model prog w) A (.call (.ref C) ⟨vs,kw⟩) R s:=by
 obtain ⟨hh,g,d,t,os⟩:=s
 exact PySem.W.make_core (PySem.W.makes_of X hm) (PySem.W.looks_findIn X hi) (fun self=>PySem.W.bind_fn X self hf) (.inl rfl) h
end
noncomputable def Zd5 (f:Str) (v:V):List (Str × V) → List (Str × V)
 | []=>[(f,v)]
 | (g,x) :: r=>if g = f then (g,v) :: r else (g,x) :: Zd5 f v r
theorem Zgp (f g:Str) (v:V):∀ fs:List (Str × V),(Zd5 f v fs).lookup g = if g = f then some v else fs.lookup g
 | []=>by
  show List.lookup g [(f,v)] = _
  by_cases h:g = f
  ·have hb:(g == f) = true:=beq_iff_eq.mpr h
   simp only [List.lookup,hb,if_pos h]
  ·have hb:(g == f) = false:=beq_eq_false_iff_ne.mpr h
   simp only [List.lookup,hb,if_neg h]
 | (k,x) :: r=>by
  have ih:=Zgp f g v r
  rw [show Zd5 f v ((k,x) :: r) = (if k = f then (k,v) :: r else (k,x) :: Zd5 f v r) from rfl]
  by_cases hk:k = f
  ·rw [if_pos hk]
   by_cases h:g = k
   ·have hb:(g == k) = true:=beq_iff_eq.mpr h
    simp only [List.lookup,hb,if_pos (h.trans hk)]
   ·have hb:(g == k) = false:=beq_eq_false_iff_ne.mpr h
    simp only [List.lookup,hb,if_neg (fun e:g = f=>h (e.trans hk.symm))]
  ·rw [if_neg hk]
   by_cases h:g = k
   ·have hb:(g == k) = true:=beq_iff_eq.mpr h
    simp only [List.lookup,hb,if_neg (fun e:g = f=>hk (h.symm.trans e))]
   ·have hb:(g == k) = false:=beq_eq_false_iff_ne.mpr h
    simp only [List.lookup,hb]
    exact ih
theorem Zf9 (f:Str) (v:V):∀ fs:List (Str × V),f ∈ (Zd5 f v fs).map (·.1) ∧ ∀ g,g ∈ fs.map (·.1) → g ∈ (Zd5 f v fs).map (·.1)
 | []=>⟨by simp [Zd5],fun g h=>by simp at h⟩
 | (k,x) :: r=>by
  obtain ⟨i1,i2⟩:=Zf9 f v r
  rw [show Zd5 f v ((k,x) :: r) = (if k = f then (k,v) :: r else (k,x) :: Zd5 f v r) from rfl]
  by_cases hk:k = f
  ·rw [if_pos hk]
   subst hk
   exact ⟨by simp,fun g h=>by simpa using h⟩
  ·rw [if_neg hk]
   refine ⟨?_,fun g h=>?_⟩
   ·rw [List.map_cons]
    exact List.mem_cons_of_mem _ i1
   ·rw [List.map_cons] at h ⊢
    rcases List.mem_cons.mp h with e | e
    ·exact List.mem_cons.mpr (.inl e)
    ·exact List.mem_cons_of_mem _ (i2 g e)
theorem Zgk (f:Str) (v:V):∀ fs:List (Str × V),(Zd5 f v fs).length ≤ fs.length + 1
 | []=>by simp [Zd5]
 | (k,x) :: r=>by
  have ih:=Zgk f v r
  rw [show Zd5 f v ((k,x) :: r) = (if k = f then (k,v) :: r else (k,x) :: Zd5 f v r) from rfl]
  by_cases hk:k = f
  ·rw [if_pos hk,List.length_cons,List.length_cons]; exact Nat.le_add_right _ _
  ·rw [if_neg hk,List.length_cons,List.length_cons]; exact lB 1 0xaa1cca0c0a1c001 T1 ih
theorem ZfH.some_of {v:V} {o:Option Value} (r:ZfH (some v) o):∃ u,o = some u ∧ RelV v u:=by
 cases o with
 | none=>exact (show False from r).elim
 | some u=>exact ⟨u,rfl,r⟩
theorem ZfH.none_of {o:Option Value} (r:ZfH none o):o = none:=by
 cases o with
 | none=>rfl
 | some u=>exact (show False from r).elim
theorem Zlp {v:V} {u:Value} (r:RelV v u):PySem.W.handedIn u = true:=by
 cases v with
 | non=>cases (show u = Value.none from r); rfl
 | bl b=>cases (show u = Value.bool b from r); rfl
 | int i=>obtain ⟨t,e⟩:=(show ∃ t,u = Value.int i t from r); cases e; rfl
 | str x=>obtain ⟨t,e⟩:=(show ∃ t,u = Value.str x t from r); cases e; rfl
 | byt b=>obtain ⟨t,e⟩:=(show ∃ t,u = Value.bytes b t from r); cases e; rfl
 | flt b=>obtain ⟨t,e⟩:=(show ∃ t,u = Value.float b t from r); cases e; rfl
 | ref a=>cases (show u = Value.ref a from r); rfl
 | ty n=>cases (show u = Value.type n from r); rfl
section
variable {P:Program} {w:World} {H H':Hp} {h h':Heap} {a C dx:Addr} {fs fs':List (Str × V)}
theorem ZgE (hok:HOk P w H h) (e:H a = some (.ins C dx fs)):∃ mA,Zku h a dx C mA ∧ (∀ f,ZfH (fs.lookup f) (mA f)) ∧ PySem.Within mA (fs.map (·.1)) ∧ fs.length ≤ 1000 ∧ H dx = some (.own a):=by
 obtain ⟨d,z,ne,ob,mA,n,r,q⟩:=(show Zbq P w H h a (.ins C dx fs) from hok a _ e)
 exact ⟨mA,⟨ob,n,ne⟩,r,q,z,d⟩
end
structure Cls (K:PySem.W.Frag) (C:Addr):Prop where
 pg:PySem.W.plainGet K C Str.empty = true
 hd:PySem.W.hasDictIn K C = true
 po:PySem.W.plainOver K C = true
 sa:PySem.W.findIn K (.ref C) "__setattr__" = some (some (.builtin "object.__setattr__"))
theorem Cls.get {K:PySem.W.Frag} {C:Addr} (c:Cls K C) (f:Str):PySem.W.plainGet K C f = true:=c.pg
noncomputable def ZdV (K:PySem.W.Frag) (C:Addr) (f:Str):Prop:=PySem.W.findIn K (.ref C) f = some none
theorem ZdV.taker {K:PySem.W.Frag} {C:Addr} {f:Str} (n:ZdV K C f):PySem.W.takerIn K C f = some none:=by
 unfold PySem.W.takerIn
 rw [show PySem.W.findIn K (.ref C) f = some none from n]
 rfl
structure Meth (K:PySem.W.Frag) (C:Addr) (m:Str) (f:Addr):Prop where
 at_:PySem.W.findIn K (.ref C) m = some (some (.ref f))
 fn:PySem.W.isFn K (.ref f) = true
 kp:PySem.W.keepIn K (.ref f) = true
section
variable {X:Cx} {pins:List (Addr × Obj)} {σ:St} {H:Hp} {s:Shared} {a C dx:Addr} {fs:List (Str × V)} {f:Str} {v:V} {A:Around} {E:Value → Shared → Prop}
theorem ZkA {b:Bool} {Q:Value → Shared → Prop} (I:Inv X pins σ H s) (e:H a = some (.ins C dx fs)) (c:Cls X.K C) (n:ZdV X.K C f) (l:fs.lookup f = some v)
  (h:∀ u s',Inv X pins σ H s' → RelV v u → Q u s'):wpAny (model X.prog X.w) A (getAttr (.ref a) f b) Q E s:=by
 obtain ⟨mA,O,r,_,_,_⟩:=ZgE I.hok e
 obtain ⟨u,hu,ru⟩:=ZfH.some_of (v:=v) (o:=mA f) (by rw [← l]; exact r f)
 exact Zoo I.kIn O (c.get f) c.hd n hu (Zlp ru) (h u _ (I.tok _) ru)
theorem Zhb {m:Str} {g:Addr} {pl:Sem Bool} {Q:Value × List Value → Shared → Prop} (I:Inv X pins σ H s) (e:H a = some (.ins C dx fs)) (c:Cls X.K C) (k:Meth X.K C m g) (l:fs.lookup m = none)
  (h:Q (.ref g,[.ref a]) s):wpAny (model X.prog X.w) A (getMethod (.ref a) m pl) Q E s:=by
 obtain ⟨mA,O,r,_,_,_⟩:=ZgE I.hok e
 have hn:mA m = none:=ZfH.none_of (by rw [← l]; exact r m)
 exact Znw I.kIn O (c.get m) k.at_ k.fn hn h
theorem ZjZ {y:V} {u:Value} {Q:Unit → Shared → Prop} (I:Inv X pins σ H s) (e:H a = some (.ins C dx fs)) (c:Cls X.K C) (n:ZdV X.K C f) (hl:fs.length < 1000) (ry:RelV y u)
  (h:∀ s',Inv X pins σ (upd H a (.ins C dx (Zd5 f y fs))) s' → Q () s'):wpAny (model X.prog X.w) A (setAttr (.ref a) f u) Q E s:=by
 obtain ⟨mA,O,r,wi,_,ho⟩:=ZgE I.hok e
 have hz:(fs.map (·.1)).length ≤ sizeLine:=by rw [List.length_map,sizeLine_eq]; exact lA 1 0x10000007b003e83b011 T1 hl
 refine Zom I.kIn O c.sa c.po n.taker c.hd wi hz fun h' O' sb=>h _ ?_
 have hd:∃ o,h'.get? dx = some o:=let ⟨o,_,_,e',_⟩:=O'.ns; ⟨o,e'⟩
 refine I.write (x:=a) (e:=dx) (by rw [e]; exact True.intro) (.inr ho) (fun b q hb z=>(sb.2 b hb).trans z) hd ?_
 refine ⟨by rw [Za5 O.ne]; exact ho,?_,O.ne,O'.obj,_,O'.ns,fun g=>?_,fun g hg=>?_⟩
 ·have:=Zgk f y fs; exact lB 2 0x3e83b003e83b111a1c001 T1 this hl
 ·show ZfH ((Zd5 f y fs).lookup g) (if g = f then some u else mA g)
  rw [Zgp]
  by_cases q:g = f
  ·rw [if_pos q,if_pos q]; exact ry
  ·rw [if_neg q,if_neg q]; exact r g
 ·by_cases q:g = f
  ·rw [q]; exact (Zf9 f y fs).1
  ·refine (Zf9 f y fs).2 g (wi g fun z=>hg ?_)
   show (if g = f then some u else mA g) = none
   rw [if_neg q]; exact z
theorem Inv.made (I:Inv X pins σ H s):Inv X pins σ (upd (upd H s.heap.objs.size (.own (s.heap.objs.size + 1))) (s.heap.objs.size + 1) (.ins C s.heap.objs.size []))
  { s with heap:=(s.heap.push PySem.W.emptyDict).push (PySem.W.instObj C s.heap.objs.size) }:=by
 have e1:(s.heap.push PySem.W.emptyDict).get? s.heap.objs.size = some PySem.W.emptyDict:=Heap.get?_push_size s.heap rfl
 have e2:((s.heap.push PySem.W.emptyDict).push (PySem.W.instObj C s.heap.objs.size)).get? (s.heap.objs.size + 1) = some (PySem.W.instObj C s.heap.objs.size):=by
  have:=Heap.get?_push_size (s.heap.push PySem.W.emptyDict) (o:=PySem.W.instObj C s.heap.objs.size) rfl
  rwa [Heap.size_push] at this
 have e3:(s.heap.push PySem.W.emptyDict).Ns s.heap.objs.size (fun _=>none):=⟨PySem.W.emptyDict,#[],_,e1,rfl,(fun e he=>absurd he (by simp)),fun _=>rfl⟩
 have I1:=I.laid (a:=s.heap.objs.size) (o:=.own (s.heap.objs.size + 1)) (h':=s.heap.push PySem.W.emptyDict) (t':=s.toks) (fun b u q=>Heap.get?_push_of_some _ q) (Nat.le_refl _) ⟨_,e1⟩
 refine I1.laid (a:=s.heap.objs.size + 1) (o:=.ins C s.heap.objs.size []) (t':=s.toks) (fun b u q=>Heap.get?_push_of_some _ q) (Nat.le_of_eq (Heap.size_push _ _)) ?_
 have ne:s.heap.objs.size ≠ s.heap.objs.size + 1:=Nat.ne_of_lt (Nat.lt_succ_self _)
 refine ⟨by rw [Za5 ne,Zch],Nat.zero_le _,ne,e2,fun _=>none,(Heap.Ns1.of_empty e3).at fun o q=>Heap.get?_push_of_some _ q,fun _=>True.intro,fun y hy=>absurd rfl hy⟩
theorem Zoj {prog:Program} {w:World} {env:Env} {e:Expr} {f:Str} {pos:Pos} {s:Shared} {Q:Value → Shared → Prop} (hb:attributeBase e f env (eval e env) = eval e env)
  (h:wpAny (model prog w) A (eval e env) (fun o s₁=>wpAny (model prog w) A (getAttr o f true) Q E s₁) E s):wpAny (model prog w) A (eval (.Attribute e f pos) env) Q E s:=
 Attribute_any_ h (by rw [arm_eval_Attribute,hb])
end
noncomputable def Zsd (K:PySem.W.Frag) (ta:TE) (f:Str):TE:=fun σ H Q=>ta σ H fun x H1=>∃ a C dx fs v,x = .ref a ∧ H1 a = some (.ins C dx fs) ∧ Cls K C ∧ ZdV K C f ∧ fs.lookup f = some v ∧ Q v H1
noncomputable def Zsv (K:PySem.W.Frag) (ta tv:TE) (f:Str):TS:=fun D σ H=>tv σ H fun y H1=>ta σ H1 fun x H2=>∃ a C dx fs,x = .ref a ∧ H2 a = some (.ins C dx fs) ∧ Cls K C ∧ ZdV K C f ∧ fs.length < 1000 ∧
 D.nx σ (upd H2 a (.ins C dx (Zd5 f y fs)))
section
variable {X:Cx} {o e value:Expr} {f:Str} {pos pos' tpos:Pos} {ta tv:TE}
theorem Zp0 (he:PE X e ta) (hb:attributeBase e f X.env (eval e X.env) = eval e X.env):PE X (.Attribute e f pos) (Zsd X.K ta f):=by
 intro pins s σ H Q I h
 refine Zoj hb (thn (he pins s σ H _ I h) fun u s1 zz1=>?_)
 obtain ⟨x,H1,I1,rx,a,C,dx,fs,v,ex,ea,c,n,l,q⟩:=zz1
 subst ex
 obtain rfl:u = Value.ref a:=rx
 exact ZkA I1 ea c n l fun u' s2 I2 ru=>⟨v,H1,I2,ru,q⟩
theorem ZpB (ha:PE X o ta) (hv:PE X value tv) (hs:swapsWith value (some (.Attribute o f pos')) pos.line X.env = pure false):PS X (.Assign [.Attribute o f pos'] value pos) (Zsv X.K ta tv f):=by
 intro pins s σ H D I h
 refine plainObj_wpAny_Assign_Attribute (thn (hv pins s σ H _ I h) fun u s1 ⟨y,H1,I1,ry,q⟩=>thn (ha pins s1 σ H1 _ I1 q) fun ov s2 zz1=>?_) hs
 obtain ⟨x,H2,I2,rx,a,C,dx,fs,ex,ea,c,n,l,q2⟩:=zz1
 subst ex
 obtain rfl:ov = Value.ref a:=rx
 exact ZjZ I2 ea c n l ry fun s3 I3=>⟨σ,_,I3,q2⟩
end
section
variable {X:Cx} {pins:List (Addr × Obj)} {σ:St} {H:Hp} {s:Shared} {A:Around} {E:Value → Shared → Prop} {Q:Value → Shared → Prop} {c:Value} {b:Bool}
inductive Zgt (K:PySem.W.Frag) (H:Hp):V → Value → Prop where
 | non:Zgt K H .non (.type "NoneType")
 | bl (x:Bool):Zgt K H (.bl x) (.type "bool")
 | int (i:Int):Zgt K H (.int i) (.type "int")
 | str (x:Str):Zgt K H (.str x) (.type "str")
 | flt (x:UInt64):Zgt K H (.flt x) (.type "float")
 | lst {a:Addr} {xs:List V} (e:H a = some (.lst xs)):Zgt K H (.ref a) (.type "list")
 | frz {a:Addr} {o:Obj} {xs:List V} (e:H a = some (.frz o (.lst xs))):Zgt K H (.ref a) (.type "list")
 | tup {a:Addr} {xs:List V} (e:H a = some (.tup xs)):Zgt K H (.ref a) (.type "tuple")
 | dK {a:Addr} {kvs:List (Key × V)} (e:H a = some (.dK kvs)):Zgt K H (.ref a) (.type "dict")
 | dT {a:Addr} {kvs:List (List Key × V)} (e:H a = some (.dT kvs)):Zgt K H (.ref a) (.type "dict")
 | ins {a C dx:Addr} {fs:List (Str × V)} (e:H a = some (.ins C dx fs)) (cl:Cls K C) (ha:PySem.W.findIn K (.ref C) "__class__" = some (some (.builtin "object.__class__")))
   (hn:PySem.W.specialIn K (.builtin "object.__class__") "__get__" = some (some (.builtin "getset_descriptor.__get__"))) (htk:PySem.W.takesIn K (.builtin "object.__class__") = some true)
   (hm:PySem.W.mroIn K C (.type "object") = some true):Zgt K H (.ref a) (.ref C)
theorem Zdj {x:V} {u t:Value} (I:Inv X pins σ H s) (rx:RelV x u) (ty:Zgt X.K H x t) (e:PySem.W.kitOne X.K t c = some b) (h:∀ tk,Q (.bool b) { s with toks:=tk }):
  wpAny (model X.prog X.w) A (call (.builtin "isinstance") [u,c]) Q E s:=by
 cases ty with
 | non=>cases (show u = Value.none from rx); exact PySem.W.kia_one PySem.W.kitx_none I.kIn True.intro e (fun z=>nomatch z) h
 | bl y=>cases (show u = Value.bool y from rx); exact PySem.W.kia_one PySem.W.kitx_bool I.kIn True.intro e (fun z=>nomatch z) h
 | int i=>obtain ⟨t,q⟩:=(show ∃ t,u = Value.int i t from rx); cases q; exact PySem.W.kia_one PySem.W.kitx_int I.kIn True.intro e (fun z=>nomatch z) h
 | str y=>obtain ⟨t,q⟩:=(show ∃ t,u = Value.str y t from rx); cases q; exact PySem.W.kia_one PySem.W.kitx_str I.kIn True.intro e (fun z=>nomatch z) h
 | flt y=>obtain ⟨t,q⟩:=(show ∃ t,u = Value.float y t from rx); cases q; exact PySem.W.kia_one PySem.W.kitx_float I.kIn True.intro e (fun z=>nomatch z) h
 | @lst a xs ea=>
  cases (show u = Value.ref a from rx)
  obtain ⟨_,_,n,_,h1⟩:=(show Zbq X.prog X.w H s.heap a (.lst xs) from I.hok a _ ea)
  exact PySem.W.kia_one PySem.W.kitx_list I.kIn ⟨_,h1,rfl⟩ e (fun z=>nomatch z) h
 | @frz a ob xs ea=>
  cases (show u = Value.ref a from rx)
  obtain ⟨_,_,_,n,_,h1⟩:=(show Zbq X.prog X.w H s.heap a (.frz ob (.lst xs)) from I.hok a _ ea)
  exact PySem.W.kia_one PySem.W.kitx_list I.kIn ⟨_,h1,rfl⟩ e (fun z=>nomatch z) h
 | @tup a xs ea=>
  cases (show u = Value.ref a from rx)
  obtain ⟨_,_,_,p⟩:=(show Zbq X.prog X.w H s.heap a (.tup xs) from I.hok a _ ea)
  obtain ⟨o,h1,h2,_⟩:=p
  exact PySem.W.kia_one PySem.W.kitx_tuple I.kIn ⟨o,h1,h2.1⟩ e (fun z=>nomatch z) h
 | @dK a kvs ea=>
  cases (show u = Value.ref a from rx)
  obtain ⟨_,_,vs,_,p⟩:=(show Zbq X.prog X.w H s.heap a (.dK kvs) from I.hok a _ ea)
  obtain ⟨o,es,ep,h1,h2,_⟩:=p
  exact PySem.W.kia_one PySem.W.kitx_dict I.kIn ⟨o,h1,h2.1⟩ e (fun z=>nomatch z) h
 | @dT a kvs ea=>
  cases (show u = Value.ref a from rx)
  obtain ⟨_,_,xs,_,o,es,ep,h1,h2,_⟩:=(show Zbq X.prog X.w H s.heap a (.dT kvs) from I.hok a _ ea)
  exact PySem.W.kia_one PySem.W.kitx_dict I.kIn ⟨o,h1,h2.1⟩ e (fun z=>nomatch z) h
 | @ins a C dx fs ea cl ha hn htk hm=>
  cases (show u = Value.ref a from rx)
  obtain ⟨mA,O,_⟩:=ZgE I.hok ea
  obtain ⟨od,J,_⟩:=O.look
  exact PySem.W.kia_one (PySem.W.kitx_own (cl.get _) cl.hd ha hn htk hm) I.kIn J e (fun z=>nomatch z) h
end
end L2
namespace L2
open PySem PySem.Spec PyProof.Rows
structure ZbD (k:Nat) (A:Around):Prop where
 hd:A.handled = none
 dp:A.depth + 3 * k + 5 < recursionLimit
 un:A.units + 16 * k + 200 < cLine
theorem ZbD.mono {j k:Nat} {A:Around} (r:ZbD k A) (h:j ≤ k):ZbD j A:=⟨r.hd,by have:=r.dp; exact lD 2 0x251b303d0cc11303251b103d0cc11 T1 this h,by have:=r.un; omega⟩
theorem ZbD.deeper {k:Nat} {A:Around} (r:ZbD (k + 1) A) (env:Env):ZbD k (A.deeper env):=
 ⟨r.hd,by have:=r.dp; show A.depth + 1 + 3 * k + 5 < _; exact lC 1 0x251b103da0ccc1251ba1c03d0cc11 T1 this,by have:=r.un; show A.units + 3 + 16 * k + 200 < _; exact lC 1 0x2c82b110d31b0ccc12c82ba1c10d0cc11 T1 this⟩
theorem ZbD.in1 {k:Nat} {A:Around} (r:ZbD (k + 1) A):ZbD k A.in1:=
 ⟨r.hd,by have:=r.dp; show A.depth + 3 * k + 5 < _; exact lC 1 0x251b103d0cc1251ba1c03d0cc11 T1 this,by have:=r.un; show A.units + 1 + 16 * k + 200 < _; exact lC 1 0x2c82b110da0ccc12c82ba1c10d0cc11 T1 this⟩
theorem Zkf {A:Around} {C:Addr} {us:List Value} {kw:List (Str × Value)}:(A.under (.builtin "type.__call__" ⟨.ref C :: us,kw⟩)).depth = A.depth + 1:=by
 first | rfl | simp [Around.under,Code.weight,Code.isCreation,Code.isGuard,Code.isCaller,Code.frames,Code.isFrame,guardIds]
theorem Zkp {A:Around} {C:Addr} {us:List Value} {kw:List (Str × Value)}:(A.under (.builtin "type.__call__" ⟨.ref C :: us,kw⟩)).units = A.units + 1:=by
 first | rfl | simp [Around.under,Code.cUnits,Code.frames,Code.isFrame]
theorem ZbD.make {k:Nat} {A:Around} (r:ZbD (k + 1) A) (C:Addr) (us:List Value) (kw:List (Str × Value)):ZbD k (A.under (.builtin "type.__call__" ⟨.ref C :: us,kw⟩)):=
 ⟨r.hd,by have:=r.dp; rw [Zkf]; exact lC 1 0x251b103da0ccc1251ba1c03d0cc11 T1 this,by have:=r.un; rw [Zkp]; exact lC 1 0x2c82b110da0ccc12c82ba1c10d0cc11 T1 this⟩
theorem ZbD.depth {k:Nat} {A:Around} (r:ZbD k A):A.depth < recursionLimit:=by have:=r.dp; exact lC 1 0x201251b103d0cc11 T1 this
theorem ZbD.units {k:Nat} {A:Around} (r:ZbD k A):A.units + 64 < cLine:=by have:=r.un; exact lC 1 0x2402b0c12c82b110d0cc11 T1 this
noncomputable def Zrb:TA:=fun _ H Q=>Q [] H
noncomputable def Zrc (ta:TE) (tr:TA):TA:=fun σ H Q=>ta σ H fun x H1=>tr σ H1 fun xs H2=>Q (x :: xs) H2
section
variable {X:Cx} {e:Expr} {es:List Expr} {te:TE} {t:TA} {pos:Pos}
theorem ZiS:PA X [] Zrb:=fun _ _ _ _ H Q I h=>Calls.spliced_nil ⟨[],H,I,.nil,h⟩
theorem Zea (ha:PE X e te) (hr:PA X es t) (hs:starEach (e :: es) X.env = (false,eval e X.env) :: starEach es X.env:=by rfl):PA X (e :: es) (Zrc te t):=by
 intro pos pins s σ H Q I h
 rw [hs]
 show wpAny _ _ (spliced ((false,eval e X.env) :: backTo pos (starEach es X.env))) _ _ s
 refine Calls.spliced_cons (thn (ha pins s σ H _ I h) fun u s1 zz1=>?_)
 obtain ⟨x,H1,I1,r1,q1⟩:=zz1
 exact thn (hr pos pins s1 σ H1 _ I1 q1) fun us s2 ⟨xs,H2,I2,r2,q2⟩=>⟨x :: xs,H2,I2,.cons r1 r2,q2⟩
noncomputable def Zr9 (t:TA):TE:=fun σ H Q=>t σ H fun xs H1=>xs.length ≤ sizeLine ∧ ∀ p,H1 p = none → Q (.ref p) (upd H1 p (.tup xs))
noncomputable def Zsr (t:TA):TE:=fun σ H Q=>t σ H fun xs H1=>xs.length ≤ sizeLine ∧ ∀ p,H1 p = none → Q (.ref p) (upd H1 p (.lst xs))
theorem Zma {x1} (h:PA X es t):PE X (.Tuple es x1 pos) (Zr9 t):=by
 intro pins s σ H Q I hq
 refine wpAny_Tuple_spliced (thn (h pos pins s σ H _ I hq) fun us s1 ⟨xs,H1,I1,r,z,q⟩=>⟨by rw [← r.length]; exact z,?_⟩)
 have hf:H1 s1.heap.objs.size = none:=I1.hok.fresh (Nat.le_refl _)
 refine ⟨.ref s1.heap.objs.size,upd H1 s1.heap.objs.size (.tup xs),I1.laid (t':=s1.toks) (fun b u e=>Heap.get?_push_of_some _ e) (Nat.le_refl _) ?_,rfl,q _ hf⟩
 exact ⟨z,us,r,⟨_,Heap.get?_push_size _ rfl,⟨rfl,rfl⟩,_,rfl⟩⟩
theorem Zpu (h:PA X es t):PE X (.List es pos) (Zsr t):=by
 intro pins s σ H Q I hq
 refine wpAny_List_spliced (thn (h pos pins s σ H _ I hq) fun us s1 ⟨xs,H1,I1,r,z,q⟩=>⟨by rw [← r.length]; exact z,?_⟩)
 have hf:H1 s1.heap.objs.size = none:=I1.hok.fresh (Nat.le_refl _)
 refine ⟨.ref s1.heap.objs.size,upd H1 s1.heap.objs.size (.lst xs),I1.laid (t':=s1.toks) (fun b u e=>Heap.get?_push_of_some _ e) (Nat.le_refl _) ?_,rfl,q _ hf⟩
 exact ⟨z,us,0,r,Heap.get?_push_size _ rfl⟩
end
noncomputable abbrev Sp:=List V → Hp → VK → XK → Prop
noncomputable abbrev CXT:=List Env → Hp → Shared → XK → Value → Shared → Prop
structure ZhB (P:Program) (w:World) (K:PySem.W.Frag) (mg:Str → Option Value) (base:Heap) (A:Around) (outer:List Env) (s:Shared) (H:Hp):Prop where
 frames:A.frames = some outer
 mod:Mod K mg base
 bs:∀ b o,base.get? b = some o → s.heap.get? b = some o ∧ H b = none
 bsz:base.objs.size ≤ s.heap.objs.size
 funs:s.heap.FunFrames base outer
 frf:∀ b ∈ frs outer,H b = none
 hok:HOk P w H s.heap
 bare:AllBare s.gens
noncomputable def CE (outer:List Env) (P:Program) (w:World) (H:Hp) (s:Shared) (Q:VK) (u:Value) (s':Shared):Prop:=
 ∃ v H',s'.os = s.os ∧ AllBare s'.gens ∧ Un (frs outer) [] H H' s.heap s'.heap ∧ HOk P w H' s'.heap ∧ RelV v u ∧ Q v H'
noncomputable def CR (CX:CXT) (outer:List Env) (P:Program) (w:World) (H:Hp) (s:Shared) (Q:VK) (E:XK) (r:Result) (s':Shared):Prop:=
 match r with
 | .ok (.ret u)=>CE outer P w H s Q u s'
 | .ok _=>False
 | .error e=>CX outer H s E e s'
structure ZdF (P:Program) (w:World) (K:PySem.W.Frag) (mg:Str → Option Value) (base:Heap) (CX:CXT) (k:Nat) (f:Addr) (fd:FuncData) (ps:List Str) (sp:Sp):Prop where
 len:∀ vs H Q E,sp vs H Q E → vs.length = ps.length
 run:∀ (A:Around) (outer:List Env) (s:Shared) (H:Hp) (args:Args) (us:List Value) (vs:List V) (Q:VK) (E:XK),ZbD k A → ZhB P w K mg base A outer s H → BindsTo s fd args (ps.zip us) → Vals vs us → sp vs H Q E →
  codeAny (model P w) A (.call (.ref f) args) (CR CX outer P w H s Q E) s
theorem ZdF.mono {P:Program} {w:World} {K:PySem.W.Frag} {mg:Str → Option Value} {base:Heap} {CX:CXT} {j k:Nat} {f:Addr} {fd:FuncData} {ps:List Str} {sp:Sp} (F:ZdF P w K mg base CX j f fd ps sp) (h:j ≤ k):
  ZdF P w K mg base CX k f fd ps sp:=⟨F.len,fun A outer s H args us vs Q E hr=>F.run A outer s H args us vs Q E (hr.mono h)⟩
theorem ZhB.make {P:Program} {w:World} {K:PySem.W.Frag} {mg:Str → Option Value} {base:Heap} {A:Around} {outer:List Env} {s:Shared} {H:Hp} (e:ZhB P w K mg base A outer s H) (C:Addr) (us:List Value) (kw:List (Str × Value)):
  ZhB P w K mg base (A.under (.builtin "type.__call__" ⟨.ref C :: us,kw⟩)) outer s H:=⟨by first | exact e.frames | (simpa [Around.under,Code.envs,Code.isFrame,pushEnvs] using e.frames),e.mod,e.bs,e.bsz,e.funs,e.frf,e.hok,e.bare⟩
theorem ZhB.in1 {P:Program} {w:World} {K:PySem.W.Frag} {mg:Str → Option Value} {base:Heap} {A:Around} {outer:List Env} {s:Shared} {H:Hp} (e:ZhB P w K mg base A outer s H):
  ZhB P w K mg base A.in1 outer s H:=⟨e.frames,e.mod,e.bs,e.bsz,e.funs,e.frf,e.hok,e.bare⟩
section
variable {X:Cx} {pins:List (Addr × Obj)} {σ:St} {H:Hp} {s s':Shared}
theorem Inv.env0 (I:Inv X pins σ H s):ZhB X.prog X.w X.K X.mg X.base X.A X.stack s H:=
 ⟨I.ok.frames,I.ok.mod,I.bs,Nat.le_trans I.ok.bsz I.sz,I.stack,I.stkFree,I.hok,I.bare⟩
theorem Inv.after {Q:VK} {u:Value} (I:Inv X pins σ H s) (h:CE X.stack X.prog X.w H s Q u s'):EP X pins σ Q u s':=by
 obtain ⟨v,H',os,bare,un,hok,r,q⟩:=h
 obtain ⟨hh,g,d,t,os'⟩:=s'
 obtain rfl:os' = s.os:=os
 exact ⟨v,H',I.call (h':=hh) (g':=g) (d':=d) (t':=t) (ch:=[]) un hok bare (fun b z=>absurd z (by simp)),r,q⟩
end
noncomputable def Zrx (sp:Sp) (dvs:List V) (E:XK) (t:TA):TE:=fun σ H Q=>t σ H fun vs H1=>sp (vs ++ dvs) H1 Q E
noncomputable def ZoE (C:Addr) (m:Str) (sp:Sp) (dvs:List V) (E:XK) (ta:TE) (t:TA):TE:=fun σ H Q=>ta σ H fun x H1=>∃ a dx fs,x = .ref a ∧ H1 a = some (.ins C dx fs) ∧ fs.lookup m = none ∧
 t σ H1 fun vs H2=>sp (x :: (vs ++ dvs)) H2 Q E
noncomputable def Zry (C:Addr) (sp:Sp) (dvs:List V) (E:XK) (t:TA):TE:=fun σ H Q=>t σ H fun vs H1=>∀ x dx,H1 x = none → H1 dx = none → dx ≠ x →
 sp (.ref x :: (vs ++ dvs)) (upd (upd H1 dx (.own x)) x (.ins C dx [])) (fun v H2=>v = .non ∧ Q (.ref x) H2) E
noncomputable def Binds (K:PySem.W.Frag) (fd:FuncData) (ps:List Str) (ds:List Value):Prop:=
 ∀ (s:Shared) (us:List Value),K.In s.heap → (us ++ ds).length = ps.length → BindsTo s fd ⟨us,[]⟩ (ps.zip (us ++ ds))
theorem Binds.all {K:PySem.W.Frag} {fd:FuncData} {ps:List Str} (h:∀ us:List Value,us.length = ps.length → bindArgs fd ⟨us,[]⟩ = pure (ps.zip us)):Binds K fd ps []:=fun s us _ hl=>by
 rw [List.append_nil] at hl ⊢
 exact .of_eq (h us hl)
noncomputable def Zfm (CX:CXT) (X:Cx) (E:XK):Prop:=∀ (pins:List (Addr × Obj)) (σ:St) (H:Hp) (s:Shared) (e:Value) (s':Shared),Inv X pins σ H s → CX X.stack H s E e s' → X.xe e s'
section
variable {X:Cx} {CX:CXT} {k:Nat} {f C:Addr} {fd:FuncData} {ps:List Str} {sp:Sp} {dvs:List V} {ds:List Value} {E:XK} {x m:Str} {p pos apos:Pos} {e o:Expr} {es:List Expr} {ta:TE} {t:TA}
theorem Zj7 {pins:List (Addr × Obj)} {σ:St} {H:Hp} {s:Shared} {Q:VK} {us:List Value} {vs:List V} (F:ZdF X.prog X.w X.K X.mg X.base CX k f fd ps sp) (hr:ZbD k X.A) (hb:Binds X.K fd ps ds) (hd:Vals dvs ds) (hx:Zfm CX X E)
  (I:Inv X pins σ H s) (r:Vals vs us) (h:sp (vs ++ dvs) H Q E):wpAny (model X.prog X.w) X.A (call (.ref f) us) (EP X pins σ Q) X.xe s:=by
 have r2:Vals (vs ++ dvs) (us ++ ds):=r.append hd
 have hl:(us ++ ds).length = ps.length:=by rw [← r2.length]; exact F.len _ _ _ _ h
 refine wpAny_call (codeAny_mono (F.run X.A X.stack s H ⟨us,[]⟩ (us ++ ds) (vs ++ dvs) Q E hr I.env0 (hb s us I.kIn hl) r2 h) fun r s' hq=>?_)
 cases r with
 | error e=>exact hx pins σ H s e s' I hq
 | ok fl=>
  cases fl with
  | ret u=>exact I.after hq
  | next=>exact False.elim hq
  | brk=>exact False.elim hq
  | cont=>exact False.elim hq
theorem Zod (F:ZdF X.prog X.w X.K X.mg X.base CX k f fd ps sp) (hr:ZbD k X.A) (hg:Gl X x) (hm:X.mg x = some (.ref f)) (hk:PySem.W.keepIn X.K (.ref f) = true) (hb:Binds X.K fd ps ds) (hd:Vals dvs ds) (hx:Zfm CX X E)
  (ha:PA X (e :: es) t) (hdb:(x == ("__debug__":Str)) = false:=by decide) (he:starEach (e :: es) X.env = (false,eval e X.env) :: starEach es X.env:=by rfl) (hpl:(backTo pos (starEach es X.env)).any (·.1) = false:=by rfl):
  PE X (.Call (.Name x p) (e :: es) [] pos) (Zrx sp dvs E t):=by
 intro pins s σ H Q I h
 refine wpAny_Call_Name_kw (ZkN I hg hm ?_ hdb)
 refine PySem.W.callWith_K (h₀:=X.base) I.ok.mod.kin hk (thn (ha pos pins s σ H _ I h) fun us s1 ⟨vs,H1,I1,r,q⟩=>⟨I1.kIn,?_⟩) he hpl
 exact Zj7 F hr hb hd hx I1 r q
theorem ZnM {pl:Sem Bool} (he:PE X o ta) (c:Cls X.K C) (hm:Meth X.K C m f) (F:ZdF X.prog X.w X.K X.mg X.base CX k f fd ps sp) (hr:ZbD k X.A) (hb:Binds X.K fd ps ds) (hd:Vals dvs ds) (hx:Zfm CX X E) (ha:PA X (e :: es) t)
  (hst:starEach (e :: es) X.env = (false,eval e X.env) :: starEach es X.env:=by rfl) (hpl:(backTo pos (starEach es X.env)).any (·.1) = false:=by rfl)
  (ht:eval (.Call (.Attribute o m apos) (e :: es) [] pos) X.env = (do
   let ov ← eval o X.env
   standAt apos.atName
   let (f,first) ← holding [ov] (getMethod ov m pl)
   callWith pos f first (backTo pos (starEach (e :: es) X.env)) (backToKw pos (keywordEach [] X.env))):=by rfl):
  PE X (.Call (.Attribute o m apos) (e :: es) [] pos) (ZoE C m sp dvs E ta t):=by
 intro pins s σ H Q I h
 refine PySem.W.methodCall_KW (pl:=pl) (thn (he pins s σ H _ I h) fun u s1 zz1=>?_) ht
 obtain ⟨x,H1,I1,rx,a,dx,fs,ex,ea,l,q⟩:=zz1
 subst ex
 obtain rfl:u = Value.ref a:=rx
 refine Zhb I1 ea c hm l ?_
 refine PySem.W.callWith_K (first:=[.ref a]) (h₀:=X.base) I.ok.mod.kin hm.kp (thn (ha pos pins s1 σ H1 _ I1 q) fun us s2 ⟨vs,H2,I2,r,q2⟩=>⟨I2.kIn,?_⟩) hst hpl
 exact Zj7 (us:=.ref a :: us) (vs:=.ref a :: vs) F hr hb hd hx I2 (.cons rfl r) q2
theorem ZmA {pl:Sem Bool} (he:PE X o ta) (c:Cls X.K C) (hm:Meth X.K C m f) (F:ZdF X.prog X.w X.K X.mg X.base CX k f fd ps sp) (hr:ZbD k X.A) (hb:Binds X.K fd ps ds) (hd:Vals dvs ds) (hx:Zfm CX X E)
  (ht:eval (.Call (.Attribute o m apos) [] [] pos) X.env = (do
   let ov ← eval o X.env
   standAt apos.atName
   let (f,first) ← holding [ov] (getMethod ov m pl)
   callWith pos f first (backTo pos (starEach [] X.env)) (backToKw pos (keywordEach [] X.env))):=by rfl):
  PE X (.Call (.Attribute o m apos) [] [] pos) (ZoE C m sp dvs E ta Zrb):=by
 intro pins s σ H Q I h
 refine PySem.W.methodCall_KW (pl:=pl) (thn (he pins s σ H _ I h) fun u s1 zz1=>?_) ht
 obtain ⟨x,H1,I1,rx,a,dx,fs,ex,ea,l,q⟩:=zz1
 subst ex
 obtain rfl:u = Value.ref a:=rx
 refine Zhb I1 ea c hm l ?_
 exact PySem.W.callWith_K0 (first:=[.ref a]) I1.kIn hm.kp (Zj7 (us:=[.ref a]) (vs:=[.ref a]) F hr hb hd hx I1 (.cons rfl .nil) q)
structure Mk (K:PySem.W.Frag) (C f:Addr):Prop where
 makes:PySem.W.makesIn K C = true
 init:PySem.W.findIn K (.ref C) "__init__" = some (some (.ref f))
 fn:PySem.W.isFn K (.ref f) = true
 kp:PySem.W.keepIn K (.ref C) = true
theorem Zmk {pins:List (Addr × Obj)} {σ:St} {H:Hp} {s:Shared} {Q:VK} {us:List Value} {vs:List V} (M:Mk X.K C f) (F:ZdF X.prog X.w X.K X.mg X.base CX k f fd ps sp) (hr:ZbD (k + 1) X.A) (hb:Binds X.K fd ps ds) (hd:Vals dvs ds)
  (hx:Zfm CX X E) (I:Inv X pins σ H s) (r:Vals vs us)
  (h:∀ x dx,H x = none → H dx = none → dx ≠ x → sp (.ref x :: (vs ++ dvs)) (upd (upd H dx (.own x)) x (.ins C dx [])) (fun v H2=>v = .non ∧ Q (.ref x) H2) E):
  wpAny (model X.prog X.w) X.A (call (.ref C) us) (EP X pins σ Q) X.xe s:=by
 have hq:=h (s.heap.objs.size + 1) s.heap.objs.size (I.hok.fresh (Nat.le_succ _)) (I.hok.fresh (Nat.le_refl _)) (Nat.ne_of_lt (Nat.lt_succ_self _))
 have I2:=Inv.made (C:=C) I
 have r2:Vals (V.ref (s.heap.objs.size + 1) :: (vs ++ dvs)) (Value.ref (s.heap.objs.size + 1) :: (us ++ ds)):=.cons rfl (r.append hd)
 have hl:(Value.ref (s.heap.objs.size + 1) :: us ++ ds).length = ps.length:=by
  have e:=r2.length
  rw [F.len _ _ _ _ hq] at e
  exact e.symm
 refine wpAny_call (ZmQ (f:=f) I.kIn M.makes M.init (beq_iff_eq.mp M.fn) (codeAny_mono (F.run _ X.stack _ _ ⟨Value.ref (s.heap.objs.size + 1) :: us,[]⟩ (Value.ref (s.heap.objs.size + 1) :: (us ++ ds)) _ _ E (hr.make C us [])
  (I2.env0.make C us []) (hb _ (Value.ref (s.heap.objs.size + 1) :: us) I2.kIn hl) r2 hq) fun r s' hq'=>?_))
 cases r with
 | error e=>exact hx pins σ _ _ e s' I2 hq'
 | ok fl=>
  cases fl with
  | ret u=>
   obtain ⟨v,H',I3,rv,ev,q3⟩:=I2.after hq'
   subst ev
   exact ⟨rv,⟨V.ref (s.heap.objs.size + 1),H',I3,rfl,q3⟩⟩
  | next=>exact False.elim hq'
  | brk=>exact False.elim hq'
  | cont=>exact False.elim hq'
theorem ZnA (M:Mk X.K C f) (F:ZdF X.prog X.w X.K X.mg X.base CX k f fd ps sp) (hr:ZbD (k + 1) X.A) (hg:Gl X x) (hm:X.mg x = some (.ref C)) (hb:Binds X.K fd ps ds) (hd:Vals dvs ds) (hx:Zfm CX X E)
  (ha:PA X (e :: es) t) (hdb:(x == ("__debug__":Str)) = false:=by decide) (he:starEach (e :: es) X.env = (false,eval e X.env) :: starEach es X.env:=by rfl) (hpl:(backTo pos (starEach es X.env)).any (·.1) = false:=by rfl):
  PE X (.Call (.Name x p) (e :: es) [] pos) (Zry C sp dvs E t):=by
 intro pins s σ H Q I h
 refine wpAny_Call_Name_kw (ZkN I hg hm ?_ hdb)
 refine PySem.W.callWith_K (h₀:=X.base) I.ok.mod.kin M.kp (thn (ha pos pins s σ H _ I h) fun us s1 ⟨vs,H1,I1,r,q⟩=>⟨I1.kIn,?_⟩) he hpl
 exact Zmk M F hr hb hd hx I1 r q
end
section
variable {X:Cx} {CX:CXT} {k:Nat} {f C:Addr} {fd:FuncData} {ps ks:List Str} {sp:Sp} {E:XK} {x m:Str} {p pos apos kpos:Pos} {e o:Expr} {es:List Expr} {kws:List Keyword} {te ta:TE} {t tk:TA} {nm:Option Str}
structure ZpW (K:PySem.W.Frag) (fd:FuncData) (ps ks:List Str) (g:List Value → List Value → List Value) (gV:List V → List V → List V):Prop where
 to:∀ (s:Shared) (us ws:List Value),K.In s.heap → (g us ws).length = ps.length → BindsTo s fd ⟨us,ks.zip ws⟩ (ps.zip (g us ws))
 rel:∀ {vs:List V} {us:List Value} {zs:List V} {ws:List Value},Vals vs us → Vals zs ws → Vals (gV vs zs) (g us ws)
variable {g:List Value → List Value → List Value} {gV:List V → List V → List V}
end
structure Zav (N P:List Str) (sc:Scope):Prop where
 kind:sc.kind = .function
 co:sc.isCoroutine = false
 gen:sc.isGenerator = false
 nd:N.Nodup
 pre:N.take P.length = P
 par:∀ x ∈ P,sc.names.lookup x = some .local ∨ sc.names.lookup x = some .cell
 nofree:∀ y ∈ sc.names,y.2 ≠ .free
theorem Zh6 {kindOf:Str → Option NameKind} {x:Str}:∀ {binds:List (Str × Value)} {m:Str → Option Value},(∀ v,(x,v) ∉ binds) → bindL kindOf binds m x = m x
 | [],_,_=>rfl
 | (n,v) :: r,m,h=>by
  unfold bindL
  rw [Zh6 fun w hw=>h w (List.mem_cons_of_mem _ hw)]
  split
  ·have:x ≠ n:=by rintro rfl; exact h v List.mem_cons_self
   simp [this]
  ·rfl
theorem ZhV {kindOf:Str → Option NameKind} {x:Str}:∀ {binds:List (Str × Value)} {m:Str → Option Value},(∀ v,(x,v) ∉ binds) → bindC kindOf binds m x = m x
 | [],_,_=>rfl
 | (n,v) :: r,m,h=>by
  unfold bindC
  rw [ZhV fun w hw=>h w (List.mem_cons_of_mem _ hw)]
  split
  ·rfl
  ·have:x ≠ n:=by rintro rfl; exact h v List.mem_cons_self
   simp [this]
theorem Zid {kindOf:Str → Option NameKind} {x:Str} {v:Value}:∀ {P:List Str} {vs:List Value} {i:Nat} {m:Str → Option Value},P.Nodup → P[i]? = some x → vs[i]? = some v → kindOf x = some .local →
  bindL kindOf (P.zip vs) m x = some v
 | [],_,_,_,_,h,_,_=>by simp at h
 | _ :: _,[],_,_,_,_,h,_=>by simp at h
 | p :: P,w :: vs,0,m,nd,h1,h2,hk=>by
  simp at h1 h2; subst h1; subst h2
  show bindL kindOf ((p,w) :: P.zip vs) m p = _
  unfold bindL
  rw [Zh6 fun v hv=>(List.nodup_cons.mp nd).1 (List.of_mem_zip hv).1,if_pos hk]
  simp
 | p :: P,w :: vs,i + 1,m,nd,h1,h2,hk=>by
  show bindL kindOf ((p,w) :: P.zip vs) m x = _
  unfold bindL
  exact Zid (i:=i) (List.nodup_cons.mp nd).2 (by simpa using h1) (by simpa using h2) hk
theorem Zib {kindOf:Str → Option NameKind} {x:Str} {v:Value}:∀ {P:List Str} {vs:List Value} {i:Nat} {m:Str → Option Value},P.Nodup → P[i]? = some x → vs[i]? = some v → kindOf x ≠ some .local →
  bindC kindOf (P.zip vs) m x = some v
 | [],_,_,_,_,h,_,_=>by simp at h
 | _ :: _,[],_,_,_,_,h,_=>by simp at h
 | p :: P,w :: vs,0,m,nd,h1,h2,hk=>by
  simp at h1 h2; subst h1; subst h2
  show bindC kindOf ((p,w) :: P.zip vs) m p = _
  unfold bindC
  rw [ZhV fun v hv=>(List.nodup_cons.mp nd).1 (List.of_mem_zip hv).1,if_neg hk]
  simp
 | p :: P,w :: vs,i + 1,m,nd,h1,h2,hk=>by
  show bindC kindOf ((p,w) :: P.zip vs) m x = _
  unfold bindC
  exact Zib (i:=i) (List.nodup_cons.mp nd).2 (by simpa using h1) (by simpa using h2) hk
noncomputable def start (N:List Str) (vs:List V):St:=vs.map some ++ List.replicate (N.length - vs.length) none
noncomputable def Zhi (CX:CXT) (P:Program) (w:World) (K:PySem.W.Frag) (mg:Str → Option Value) (base:Heap) (N:List Str) (qual:Str) (scope:Scope) (f:Addr) (cd:Value) (A:Around) (outer:List Env) (s:Shared) (H:Hp) (E:XK):Cx where
 prog:=P
 w:=w
 K:=K
 mg:=mg
 base:=base
 A:=A.deeper (envOfC qual scope s.heap.objs.size f cd)
 N:=N
 s₀:=s
 H₀:=H
 env:=envOfC qual scope s.heap.objs.size f cd
 outer:=outer
 stack:=envOfC qual scope s.heap.objs.size f cd :: outer
 ex:=[]
 calm:=true
 fn:=fun _=>true
 pn:=[]
 xe:=fun e s'=>wpAny (model P w) (A.deeper (envOfC qual scope s.heap.objs.size f cd)) (leaving (envOfC qual scope s.heap.objs.size f cd) e) (fun _ s''=>CX outer H s E e s'') (fun e' s''=>CX outer H s E e' s'') s'
theorem Zjt {sc:Scope} {n:Nat} {x:Str} (h:sc.names.lookup x = some .cell):∃ c,(cellsFrom n sc.names []).lookup x = some c:=by
 have q:=PySem.W.cellsFrom_some sc.names n [] (.inl h)
 exact Option.isSome_iff_exists.mp q
theorem ZlB {CX:CXT} {P:Program} {w:World} {K:PySem.W.Frag} {mg:Str → Option Value} {base:Heap} {N ps:List Str} {qual:Str} {scope:Scope} {f:Addr} {cd:Value} {A:Around} {outer:List Env} {s s1:Shared} {H:Hp} {E:XK} {us:List Value} {vs:List V}
  (S:Zav N ps scope) (hd:A.handled = none) (e0:ZhB P w K mg base A outer s H) (hl:vs.length = ps.length) (r:Vals vs us)
  (x:InCallC s s.heap.objs.size (bindL (envOfC qual scope s.heap.objs.size f cd).kindOf (ps.zip us) fun _=>none) (cellsFrom (s.heap.objs.size + 1) scope.names []) (bindC (envOfC qual scope s.heap.objs.size f cd).kindOf (ps.zip us) fun _=>none) s1):
  Inv (Zhi CX P w K mg base N qual scope f cd A outer s H E) [] (start N vs) H s1:=by
 have hpl:ps.length ≤ N.length:=by have:=congrArg List.length S.pre; rw [List.length_take] at this; omega
 obtain ⟨h1,tk,rfl,hk⟩:=x.done
 have noA:∀ b:Addr,b ∉ (Zhi CX P w K mg base N qual scope f cd A outer s H E).ex:=fun b z=>absurd (show b ∈ ([]:List Addr) from z) (by simp)
 refine ⟨⟨e0.mod,S.kind,rfl,rfl,Nat.le_refl _,fun y z c h1 h2=>?_,fun y hy=>?_,fun y c _ h=>?_,fun _=>hd,Around.frames_deeper e0.frames,.inr ⟨rfl,rfl⟩,fun b z=>absurd z (noA b),e0.bs,e0.bsz,fun b _ _=>noA b,fun b z=>absurd z (noA b),e0.funs,e0.frf⟩,
  rfl,e0.bare,Un.kept hk,⟨_,x.toInCall.ns,fun i y v h1 h2 h3=>?_⟩,fun y c h=>⟨_,x.cell y c h⟩,e0.hok.fresh (Nat.le_refl _),fun y c h=>?_,fun p hp=>absurd (show p ∈ ([]:List (Addr × Obj)) from hp) (by simp),e0.hok.kept hk,?_⟩
 ·exact name_of_addr x.apart (PySem.mem_of_lookup h1) (PySem.mem_of_lookup h2)
 ·have hy:scope.names.lookup y = some .cell ∨ scope.names.lookup y = some .free:=hy
  rcases hy with hy | hy
  ·exact Zjt hy
  ·exact absurd rfl (S.nofree _ (PySem.mem_of_lookup hy))
 ·exact Nat.le_of_lt (x.above y c (PySem.mem_of_lookup h))
 ·have hi:i < vs.length:=by
   unfold start at h2
   by_cases hi:i < vs.length
   ·exact hi
   ·rw [List.getElem?_append_right (by simpa using hi)] at h2
    rw [List.getElem?_replicate] at h2
    split at h2 <;> cases h2
  have ha:vs[i]? = some v:=by
   unfold start at h2
   rw [List.getElem?_append_left (by simpa using hi),List.getElem?_map] at h2
   cases e:vs[i]? with
   | none=>rw [e] at h2; cases h2
   | some a=>rw [e] at h2; cases h2; rfl
  obtain ⟨u,hu,rv⟩:=r.get ha
  have hp:ps[i]? = some y:=by
   rw [← S.pre,List.getElem?_take_of_lt (by exact lC 2 2203874037777 T1 hi hl)]; exact h1
  have ndP:ps.Nodup:=by rw [← S.pre]; exact S.nd.sublist (List.take_sublist _ _)
  refine ⟨u,rv,?_⟩
  rcases S.par y (List.mem_of_getElem? hp) with k | k
  ·exact .inl ⟨k,Zid ndP hp hu k⟩
  ·obtain ⟨c,e⟩:=Zjt (n:=s.heap.objs.size + 1) k
   refine .inr ⟨.inl k,c,e,?_⟩
   have q:=x.cell y c e
   rw [Zib ndP hp hu (by show scope.names.lookup y ≠ _; rw [k]; decide)] at q
   exact q
 ·exact e0.hok.fresh (Nat.le_of_lt (x.above y c (PySem.mem_of_lookup h)))
 ·unfold start
  show _ = N.length
  rw [List.length_append,List.length_map,List.length_replicate]
  exact Nat.le_antisymm (lC 1 2206541614113 T1 (Nat.sub_add_cancel (lC 2 1236986302465 T1 hpl hl))) (lC 1 1288492400641 T1 (sbA _ _))
theorem ZqX {CX:CXT} {P:Program} {w:World} {K:PySem.W.Frag} {mg:Str → Option Value} {base:Heap} {k:Nat} {f:Addr} {name qual:Str} {params:Arguments} {body:List Stmt} {scope:Scope} {dV kV doc pm cdv ct oc:Value} {an od:Option Addr}
  {osl:Array (Option Value)} {N ps:List Str} {sp:Sp} (lk:K.lookup f = some ⟨oc,od,.func (PySem.W.fnOf name qual params body scope dV kV doc pm an cdv ct),osl⟩) (hcd:PySem.W.codeIn K cdv qual = true) (S:Zav N ps scope)
  (len:∀ vs H Q E,sp vs H Q E → vs.length = ps.length)
  (hbody:∀ (A:Around) (outer:List Env) (s:Shared) (H:Hp) (vs:List V) (Q:VK) (E:XK),ZbD k (A.deeper (envOfC qual scope s.heap.objs.size f cdv)) → sp vs H Q E →
   ∃ t,PSs (Zhi CX P w K mg base N qual scope f cdv A outer s H E) body t ∧ t { nx:=fun _ H'=>Q .non H',rt:=Q } (start N vs) H):
  ZdF P w K mg base CX (k + 1) f (PySem.W.fnOf name qual params body scope dV kV doc pm an cdv ct) ps sp:=by
 refine ⟨len,fun A outer s H args us vs Q E hr e0 hb r hsp=>?_⟩
 have hl:=len _ _ _ _ hsp
 have KX:K.In s.heap:=e0.mod.kin.keeps fun b o e=>(e0.bs b o e).1
 have lim:s.heap.NoLimit:=e0.mod.nolimit.keeps fun b o e=>(e0.bs b o e).1
 have hkind:∀ y ∈ ps.zip us,scope.names.lookup y.1 = some .local ∨ (scope.names.lookup y.1 = some .cell ∧ ((cellsFrom (s.heap.objs.size + 1) scope.names []).lookup y.1).isSome = true):=fun ⟨n,v⟩ hy=>by
  rcases S.par n (List.of_mem_zip hy).1 with q | q
  ·exact .inl q
  ·exact .inr ⟨q,PySem.W.cellsFrom_some _ _ _ (.inl q)⟩
 refine codeAny_call_function hr.depth (KX _ _ lk) rfl S.co S.gen rfl (PySem.W.codeRec_of KX hcd) (hb _ _ _ _ ?_)
 refine wpAny_newFunctionEnv_cells S.kind hkind fun env he s1 x=>?_
 subst he
 refine ⟨lim.keeps x.toInCall.keep,codeAny_func ?_⟩
 obtain ⟨t,ht,hq⟩:=hbody A outer s H vs Q E (hr.deeper _) hsp
 have I:Inv (Zhi CX P w K mg base N qual scope f cdv A outer s H E) [] (start N vs) H s1:=ZlB S hr.hd e0 hl r x
 refine wpAny_mono (ht [] s1 (start N vs) H _ I hq) (fun fl s' hs=>?_) fun e s' hs=>hs
 have fin:∀ {σ':St} {H':Hp} {v:V} {u:Value},Inv (Zhi CX P w K mg base N qual scope f cdv A outer s H E) [] σ' H' s' → RelV v u → Q v H' → CE outer P w H s Q u s':=
  fun {σ' H' v u} J rv q=>⟨v,H',J.os,J.bare,J.base,J.hok,rv,q⟩
 cases fl with
 | ret u=>
  obtain ⟨v,σ',H',J,rv,q⟩:=hs
  exact fin J rv q
 | next=>
  obtain ⟨σ',H',J,q⟩:=hs
  exact fin (v:=V.non) (u:=Value.none) J rfl q
 | brk=>
  obtain ⟨_,_,_,q⟩:=hs
  exact False.elim q
 | cont=>
  obtain ⟨_,_,_,q⟩:=hs
  exact False.elim q
end L2
namespace L2
open PySem PySem.Spec PyProof.Rows
section
variable {X:Cx} {x:Str} {p pos:Pos} {e:Expr} {es:List Expr} {t:TA} {id T:String} {r:List V → Hp → VK → Prop}
noncomputable def tCB (r:List V → Hp → VK → Prop) (t:TA):TE:=fun σ H Q=>t σ H fun vs H1=>r vs H1 Q
theorem Zg6 (hc:Za3 X (.builtin id) r) (hg:Gl X x) (hm:X.mg x = none) (hv:bootBuiltins x = some (.builtin id)) (ha:PA X (e :: es) t) (hn:x ≠ "__name__":=by decide) (hdb:(x == ("__debug__":Str)) = false:=by decide)
  (he:starEach (e :: es) X.env = (false,eval e X.env) :: starEach es X.env:=by rfl) (hpl:(backTo pos (starEach es X.env)).any (·.1) = false:=by rfl):PE X (.Call (.Name x p) (e :: es) [] pos) (tCB r t):=by
 intro pins s σ H Q I h
 refine wpAny_Call_Name_kw (Zgb I hg hm hv ?_ hn hdb)
 exact PyProof.Rows.callWith_builtin1 (thn (ha pos pins s σ H _ I h) fun us s1 ⟨vs,H1,I1,r1,q1⟩=>hc pins s1 σ H1 vs us Q I1 r1 q1) he hpl
theorem ZlF (hc:Za3 X (.type T) r) (hg:Gl X x) (hm:X.mg x = none) (hv:bootBuiltins x = some (.type T)) (ha:PA X (e :: es) t) (hn:x ≠ "__name__":=by decide) (hdb:(x == ("__debug__":Str)) = false:=by decide)
  (he:starEach (e :: es) X.env = (false,eval e X.env) :: starEach es X.env:=by rfl) (hpl:(backTo pos (starEach es X.env)).any (·.1) = false:=by rfl):PE X (.Call (.Name x p) (e :: es) [] pos) (tCB r t):=by
 intro pins s σ H Q I h
 refine wpAny_Call_Name_kw (Zgb I hg hm hv ?_ hn hdb)
 exact PyProof.Rows.callWith_type1 (thn (ha pos pins s σ H _ I h) fun us s1 ⟨vs,H1,I1,r1,q1⟩=>hc pins s1 σ H1 vs us Q I1 r1 q1) he hpl
end
end L2
namespace HT
open PySem PyProof.Rows
section
open PySem.SeqAt
open PySem.AutoSeq1 (wpAny_loadPart')
open PySem.MeetsSeq PySem.MeetsSeq2 PySem.MeetsSeq3
end
section
variable {prog:Program} {w:World} {A:Around} {E:Value → Shared → Prop} {s:Shared}
theorem cat_tup {t b:Addr} {vs ws:List Value} {Q:Value → Shared → Prop} (ht:IsTup s.heap t vs.toArray) (hb:IsTup s.heap b ws.toArray) (hv:vs ≠ [])
  (h1:ws = [] → Q (.ref t) s) (h2:ws ≠ [] → Q (.ref s.heap.objs.size) { s with heap:=s.heap.push { cls:=.type "tuple",data:=.seq (vs ++ ws).toArray } })
  (hsz:vs.length + ws.length ≤ sizeLine):wpAny (model prog w) A (binaryOp .Add (.ref t) (.ref b)) Q E s:=by
 obtain ⟨⟨cls,dd,data,sl⟩,ho,hc,n,hd⟩:=id ht
 obtain ⟨⟨cls2,dd2,data2,sl2⟩,ho2,hc2,n2,hd2⟩:=id hb
 simp only at hc hd hc2 hd2
 subst hc hd hc2 hd2
 have e:vs.toArray ++ ws.toArray = (vs ++ ws).toArray:=by simp
 by_cases hw:ws = []
 ·exact concat_meets ⟨_,ho,rfl⟩ ⟨_,ho2,rfl⟩ noFill_tuple_add seq_tuple_add PySem.F.slot_tuple_add PySem.F.entry_tuple_add (PySem.F.args_tuple_add_2 _ _)
   (tuple_addW1 t b vs.toArray ws.toArray n n2 dd dd2 sl sl2 (by simpa using hv) (by simp [hw])) ⟨ho,ho2,h1 hw⟩
 ·refine concat_meets ⟨_,ho,rfl⟩ ⟨_,ho2,rfl⟩ noFill_tuple_add seq_tuple_add PySem.F.slot_tuple_add PySem.F.entry_tuple_add (PySem.F.args_tuple_add_2 _ _)
   (tuple_addW2 t b vs.toArray ws.toArray n n2 dd dd2 sl sl2 (by simpa using hv) (by simpa using hw) (by rw [List.size_toArray,List.size_toArray]; exact hsz)) ⟨ho,ho2,?_⟩
  rw [e]
  exact h2 hw
noncomputable def sIx (n d:Nat):Option Int → Nat
 | none=>d
 | some v=>if v < 0 then (v + (n:Int)).toNat else min v.toNat n
theorem Zhc (n d:Nat):sIx n d none = d:=rfl
theorem Zil (n d k:Nat):sIx n d (some (k:Int)) = min k n:=by
 show (if (k:Int) < 0 then ((k:Int) + (n:Int)).toNat else min (k:Int).toNat n) = min k n
 rw [if_neg (Int.not_lt.2 (Int.natCast_nonneg _)),Int.toNat_natCast]
theorem Ziv (n d:Nat) (hd:d ≤ n) (o:Option Int):sIx n d o ≤ n:=by
 cases o with
 | none=>exact hd
 | some v=>
  show (if v < 0 then (v + (n:Int)).toNat else min v.toNat n) ≤ n
  by_cases hv:v < 0
  ·rw [if_pos hv]; omega
  ·rw [if_neg hv]; exact Nat.min_le_right _ _
theorem ZkH (v:Int) (n d:Nat):(if v < 0 then max (v + (n:Int)) 0 else min v (n:Int)) = ((sIx n d (some v):Nat):Int):=by
 show (if v < 0 then max (v + (n:Int)) 0 else min v (n:Int)) = (((if v < 0 then (v + (n:Int)).toNat else min v.toNat n):Nat):Int)
 by_cases hv:v < 0
 ·simp only [if_pos hv]; exact clA _
 ·simp only [if_neg hv]; exact clB _ _ hv
theorem ZjY (lo hi:Option Int) (n:Nat):Builtin.Slice.sliceAdjust lo hi 1 (n:Int) = (((sIx n 0 lo:Nat):Int),((sIx n n hi:Nat):Int)):=by
 have h1:¬ ((1:Int) < 0):=by decide
 unfold Builtin.Slice.sliceAdjust
 simp only [h1,if_false]
 refine Prod.ext ?_ ?_
 ·cases lo with
  | none=>rfl
  | some v=>exact ZkH v n 0
 ·cases hi with
  | none=>rfl
  | some v=>exact ZkH v n n
theorem Zka (i j:Nat):Builtin.Slice.slicePlaces (i:Int) (j:Int) 1 = j - i:=by
 unfold Builtin.Slice.slicePlaces
 have h1:(1:Int) > 0:=by decide
 simp only [h1,if_true,Int.ediv_one]
 split <;> omega
theorem Zg7 {v:Value} {o:Option Int} {Q:Option Int → Shared → Prop} (p:IsPart v o) (h:Q o s):wpAny (model prog w) A (Builtin.Slice.slicePartIndex v) Q E s:=by
 cases p with
 | none=>exact slicePart_none h
 | int i t=>exact slicePart_int h
theorem sliceApplied_gen {sl:Addr} {vl vu:Value} {lo hi:Option Int} {n:Nat} {Q:Int × Int × Nat → Shared → Prop} (hs:s.heap.IsSliceOf sl vl vu .none) (pl:IsPart vl lo) (pu:IsPart vu hi)
  (h:Q (((sIx n 0 lo:Nat):Int),1,sIx n n hi - sIx n 0 lo) s):wpAny (model prog w) A (Builtin.Slice.sliceApplied (.ref sl) (pure (n:Int))) Q E s:=by
 obtain ⟨os,hos,hcs,hds⟩:=id hs
 unfold Builtin.Slice.sliceApplied Builtin.Slice.sliceFields
 refine wpAny_bind (wpAny_bind (wpAny_field hos hds (x:=vl) rfl (wpAny_bind (wpAny_field hos hds (x:=vu) rfl (wpAny_bind (wpAny_field hos hds (x:=.none) rfl (wpAny_pure ?_)))))))
 refine wpAny_bind (slicePart_none ?_)
 show wpAny _ _ (if ((1:Int) == 0) = true then _ else _) _ _ s
 rw [if_neg (by decide)]
 refine wpAny_bind (Zg7 pl (wpAny_bind (Zg7 pu (wpAny_bind (wpAny_pure ?_)))))
 show wpAny _ _ (match Builtin.Slice.sliceAdjust lo hi 1 (n:Int) with | (lo,hi)=>pure (lo,(1:Int),Builtin.Slice.slicePlaces lo hi 1)) _ _ s
 rw [ZjY lo hi n]
 show wpAny _ _ (pure (((sIx n 0 lo:Nat):Int),(1:Int),Builtin.Slice.slicePlaces ((sIx n 0 lo:Nat):Int) ((sIx n n hi:Nat):Int) 1)) _ _ s
 rw [Zka]
 exact wpAny_pure h
theorem ZmJ (xs:Array Value) (i k:Nat):((List.range k).filterMap fun (m:Nat)=>xs[((i:Int) + (m:Int) * 1).toNat]?).toArray = ((xs.toList.drop i).take k).toArray:=by
 have e:(fun (m:Nat)=>xs[((i:Int) + (m:Int) * 1).toNat]?) = fun m=>xs[i + m]?:=by
  funext m
  have:((i:Int) + (m:Int) * 1).toNat = i + m:=by omega
  rw [this]
 rw [e]
 have:=pick_run xs i k
 rw [List.filterMap_map] at this
 have e2:((fun x=>xs[x]?) ∘ fun x=>i + x) = fun m=>xs[i + m]?:=rfl
 rw [e2] at this
 rw [this]
theorem getItem_tuple_cut {t sl:Addr} {items:Array Value} {vl vu:Value} {lo hi:Option Int} {Q:Value → Shared → Prop} (ht:IsTup s.heap t items) (hs:s.heap.IsSliceOf sl vl vu .none) (pl:IsPart vl lo) (pu:IsPart vu hi)
  (hw:¬ (sIx items.size 0 lo = 0 ∧ sIx items.size items.size hi = items.size))
  (h:Q (.ref s.heap.objs.size) { s with heap:=s.heap.push { cls:=.type "tuple",data:=.seq ((items.toList.drop (sIx items.size 0 lo)).take (sIx items.size items.size hi - sIx items.size 0 lo)).toArray } })
  (hsz:items.size ≤ sizeLine):wpAny (model prog w) A (getItem (.ref t) (.ref sl)) Q E s:=by
 have htake:sizeOk (.seq ((items.toList.drop (sIx items.size 0 lo)).take (sIx items.size items.size hi - sIx items.size 0 lo)).toArray):=by
  show ((items.toList.drop (sIx items.size 0 lo)).take (sIx items.size items.size hi - sIx items.size 0 lo)).toArray.size ≤ sizeLine
  rw [List.size_toArray,List.length_take,List.length_drop,Array.length_toList]
  exact lD 3 85606880155602945 T1 hsz (Nat.sub_le _ _) (Nat.min_le_right _ _)
 have hj:sIx items.size items.size hi ≤ items.size:=Ziv _ _ (Nat.le_refl _) hi
 obtain ⟨os,hos,hcs,hds⟩:=id hs
 have hTs:s.TypeIs (.ref sl) "slice":=⟨os,hos,hcs⟩
 unfold getItem
 try with_reducible refine wpAny_holding ?_
 first | refine wpAny_bind (wpAny_pure ?_) | skip
 refine wpAny_bind (wpAny_sequenceKey ht.typeIs (by decide) ?_)
 refine wpAny_bind (wpAny_callSpecial?_slot (name:=Str.ofString "__getitem__") ht.typeIs PyProof.Rows.slot_tuple_getitem
  (wpAny_call_entry PyProof.Rows.slot_tuple_getitem ht.typeIs entry_tuple_getitem ?_ (args_tuple_getitem _ _)))
 show wpAny _ _ (Builtin.Tuple.tupleItemsOf (.ref t) >>= _) _ _ s
 refine wpAny_bind (tupleItemsOf_ ht ?_)
 refine wpAny_bind (wpAny_typeOf hTs ?_)
 rw [if_pos (by decide)]
 refine wpAny_bind (sliceApplied_gen hs pl pu ?_)
 have hno:¬ ((((sIx items.size 0 lo:Nat):Int) == 0 && (1:Int) == 1 && (sIx items.size items.size hi - sIx items.size 0 lo) == items.size) = true):=by
  intro q
  rw [Bool.and_eq_true,Bool.and_eq_true] at q
  have q1:((sIx items.size 0 lo:Nat):Int) = 0:=eq_of_beq q.1.1
  have q2:sIx items.size items.size hi - sIx items.size 0 lo = items.size:=eq_of_beq q.2
  exact hw ⟨by exact Nat.le_antisymm (iN [_] [] 1 3759016097 T1 q1) (Nat.zero_le _),by exact Nat.le_antisymm hj (lC 2 2268279672881 T1 q2 (Nat.sub_le _ _))⟩
 show wpAny _ _ (if (((sIx items.size 0 lo:Nat):Int) == 0 && (1:Int) == 1 && (sIx items.size items.size hi - sIx items.size 0 lo) == items.size) = true then _ else _) _ _ s
 rw [if_neg hno,ZmJ]
 first
  | exact wpAny_bind (m:=Builtin.Tuple.tupleExact _) (wpAny_newObj_type (wpAny_pure ⟨_,rfl,wpAny_pure h⟩) htake)
  | exact wpAny_bind (m:=Builtin.Tuple.tupleExact _) (wpAny_newObj_type (wpAny_bind (wpAny_pure (wpAny_pure ⟨_,rfl,wpAny_pure h⟩))) htake)
  | exact wpAny_bind (wpAny_bind (m:=Builtin.Tuple.tupleExact _) (wpAny_newObj_type (wpAny_pure (wpAny_pure ⟨_,rfl,wpAny_pure h⟩)) htake))
  | exact wpAny_bind (wpAny_bind (m:=Builtin.Tuple.tupleExact _) (wpAny_newObj_type (wpAny_pure ⟨_,rfl,wpAny_pure h⟩) htake))
end
end HT
namespace L2
open PySem PySem.Spec PyProof.Rows
noncomputable abbrev TO:=St → Hp → (Option Int → Hp → Prop) → Prop
noncomputable def PO (X:Cx) (e:Option Expr) (t:TO):Prop:=
 ∀ (pins:List (Addr × Obj)) (s:Shared) (σ:St) (H:Hp) (Q:Option Int → Hp → Prop),Inv X pins σ H s → t σ H Q →
  wpAny (model X.prog X.w) X.A (evalPart e X.env) (fun u s'=>∃ o H',Inv X pins σ H' s' ∧ IsPart u o ∧ Q o H') X.xe s
noncomputable def Zn1:TO:=fun _ H Q=>Q none H
noncomputable def ZrI (t:TE):TO:=fun σ H Q=>t σ H fun x H1=>∃ i,x = .int i ∧ Q (some i) H1
section
variable {X:Cx} {e:Expr} {te:TE} {lo hi:Option Expr} {tl th:TO} {pos p2:Pos}
theorem ZnE:PO X none Zn1:=by
 intro pins s σ H Q I h
 rw [evalPart_none]
 exact wpAny_pure ⟨none,H,I,.none,h⟩
theorem Zox (h:PE X e te):PO X (some e) (ZrI te):=by
 intro pins s σ H Q I hw
 rw [evalPart_some]
 refine thn (h pins s σ H _ I hw) fun u s1 zz1=>?_
 obtain ⟨x,H1,I1,r1,q1⟩:=zz1
 obtain ⟨i,rfl,q⟩:=q1
 obtain ⟨t,rfl⟩:=r1
 exact ⟨some i,H1,I1,.int i t,q⟩
noncomputable def SlR (X:Cx) (r:V → Option Int → Option Int → Hp → VK → Prop):Prop:=
 ∀ (pins:List (Addr × Obj)) (s:Shared) (σ:St) (H:Hp) (x:V) (v vl vu:Value) (lo hi:Option Int) (sl:Addr) (Q:VK),Inv X pins σ H s → RelV x v → s.heap.IsSliceOf sl vl vu .none → IsPart vl lo → IsPart vu hi → r x lo hi H Q →
  ∃ T id,typeLookup (.type T) "__getitem__" = pure (some (.builtin id)) ∧ s.TypeIs v T ∧ wpAny (model X.prog X.w) X.A (getItem v (.ref sl)) (EP X pins σ Q) X.xe s
theorem SlR.or {r r':V → Option Int → Option Int → Hp → VK → Prop} (h:SlR X r) (h':SlR X r'):SlR X (fun x lo hi H Q=>r x lo hi H Q ∨ r' x lo hi H Q):=by
 intro pins s σ H x v vl vu lo hi sl Q I rx hs pl pu q
 rcases q with q | q
 ·exact h pins s σ H x v vl vu lo hi sl Q I rx hs pl pu q
 ·exact h' pins s σ H x v vl vu lo hi sl Q I rx hs pl pu q
noncomputable def tSl (r:V → Option Int → Option Int → Hp → VK → Prop) (te:TE) (tl th:TO):TE:=fun σ H Q=>te σ H fun x H1=>tl σ H1 fun l H2=>th σ H2 fun u H3=>r x l u H3 Q
theorem Zno {r:V → Option Int → Option Int → Hp → VK → Prop} (hr:SlR X r) (he:PE X e te) (hl:PO X lo tl) (hu:PO X hi th):PE X (.Subscript e (.Slice lo hi none p2) pos) (tSl r te tl th):=by
 intro pins s σ H Q I h
 refine Subscript_ (thn (he pins s σ H _ I h) fun v s1 zz1=>?_)
 obtain ⟨x,H1,I1,r1,q1⟩:=zz1
 refine wpAny_Slice (thn (hl pins s1 σ H1 _ I1 q1) fun vl s2 ⟨l,H2,I2,pl,q2⟩=>thn (hu pins s2 σ H2 _ I2 q2) fun vu s3 zz1=>?_)
 obtain ⟨u,H3,I3,pu,q3⟩:=zz1
 rw [evalPart_none]
 refine wpAny_pure ?_
 have I4:Inv X pins σ H3 { s3 with heap:=s3.heap.push { cls:=.type "slice",data:=.fields #[vl,vu,.none] } }:=I3.kept (t':=s3.toks) fun b ob q=>Heap.get?_push_of_some _ q
 obtain ⟨T,id,hT,ht,hg⟩:=hr pins { s3 with heap:=s3.heap.push { cls:=.type "slice",data:=.fields #[vl,vu,.none] } } σ H3 x v vl vu l u s3.heap.objs.size Q I4 r1 (Heap.IsSliceOf.new ..) pl pu q3
 show wpAny (model X.prog X.w) X.A (subscriptTail e (.Slice lo hi none p2) v (.ref s3.heap.objs.size)) (EP X pins σ Q) X.xe { s3 with heap:=s3.heap.push { cls:=.type "slice",data:=.fields #[vl,vu,.none] } }
 exact tail_any (ops:=[.ref s3.heap.objs.size,v]) ht hT hg (by with_unfolding_all rfl)
noncomputable def Zi3 (xs:List V) (lo hi:Option Int):List V:=(xs.drop (HT.sIx xs.length 0 lo)).take (HT.sIx xs.length xs.length hi - HT.sIx xs.length 0 lo)
theorem Zgq (xs:List V) (lo hi:Option Int):(Zi3 xs lo hi).length ≤ xs.length:=by
 unfold Zi3
 rw [List.length_take,List.length_drop]
 exact Nat.le_trans (Nat.min_le_right _ _) (Nat.sub_le _ _)
noncomputable def Zr7 (K:PySem.W.Frag):V → Option Int → Option Int → Hp → VK → Prop:=fun x lo hi H Q=>∃ a xs,x = .ref a ∧ SqT K H a xs ∧
 ¬ (HT.sIx xs.length 0 lo = 0 ∧ HT.sIx xs.length xs.length hi = xs.length) ∧ ∀ p,H p = none → Q (.ref p) (upd H p (.tup (Zi3 xs lo hi)))
theorem ZpX:SlR X (Zr7 X.K):=by
 intro pins s σ H x v vl vu lo hi sl Q I rx hs pl pu h
 obtain ⟨a,xs,rfl,hx,hw,q⟩:=h
 cases rx
 obtain ⟨its,r,ht,hz⟩:=I.tuple hx
 have hlen:its.toArray.size = xs.length:=by rw [List.size_toArray]; exact r.length.symm
 refine ⟨"tuple",_,PyProof.Rows.slot_tuple_getitem.lookup,ht.typeIs,?_⟩
 refine HT.getItem_tuple_cut ht hs pl pu (by rw [hlen]; exact hw) ?_ (by rw [hlen]; exact hz)
 rw [hlen]
 refine ⟨.ref s.heap.objs.size,_,I.laid (t':=s.toks) (o:=.tup (Zi3 xs lo hi)) (fun b ob q=>Heap.get?_push_of_some _ q) (Nat.le_refl _) ?_,rfl,q _ (I.hok.fresh (Nat.le_refl _))⟩
 exact ⟨Nat.le_trans (Zgq xs lo hi) hz,_,(r.drop (HT.sIx xs.length 0 lo)).take (HT.sIx xs.length xs.length hi - HT.sIx xs.length 0 lo),Zds.new _ _⟩
noncomputable def ZrC (K:PySem.W.Frag):R2:=fun x y H Q=>∃ a b xs ys,x = .ref a ∧ y = .ref b ∧ SqT K H a xs ∧ SqT K H b ys ∧ xs ≠ [] ∧ xs.length + ys.length ≤ sizeLine ∧
 (ys = [] → Q (.ref a) H) ∧ (ys ≠ [] → ∀ p,H p = none → Q (.ref p) (upd H p (.tup (xs ++ ys))))
theorem Vals.nil_iff {xs:List V} {us:List Value} (r:Vals xs us):us = [] ↔ xs = []:=by
 cases r with
 | nil=>simp
 | cons _ _=>simp
theorem Zon:OpR X (binaryOp .Add) (ZrC X.K):=by
 intro pins s σ H x y v u Q I rx ry h
 obtain ⟨a,b,xs,ys,rfl,rfl,ha,hb,hx,hz,q1,q2⟩:=h
 cases rx
 cases ry
 obtain ⟨its,r1,p1,_⟩:=I.tuple ha
 obtain ⟨its2,r2,p2,_⟩:=I.tuple hb
 refine HT.cat_tup p1 p2 (fun z=>hx (r1.nil_iff.mp z)) (fun z=>⟨.ref a,H,I,rfl,q1 (r2.nil_iff.mp z)⟩) (fun z=>?_) (by rw [← r1.length,← r2.length]; exact hz)
 refine ⟨.ref s.heap.objs.size,_,I.laid (t':=s.toks) (o:=.tup (xs ++ ys)) (fun b ob q=>Heap.get?_push_of_some _ q) (Nat.le_refl _) ?_,rfl,q2 (fun w=>z (r2.nil_iff.mpr w)) _ (I.hok.fresh (Nat.le_refl _))⟩
 exact ⟨by rw [List.length_append]; exact hz,_,r1.append r2,Zds.new _ _⟩
end
end L2
namespace L2
open PySem PySem.Spec PyProof.Rows
noncomputable def ixN (n:Nat) (i:Int):Option Nat:=if 0 ≤ i then (if i < n then some i.toNat else none) else if -(n:Int) ≤ i then some (i + n).toNat else none
noncomputable def atI {α:Type} (xs:List α) (i:Int):Option α:=(ixN xs.length i).bind fun j=>xs[j]?
theorem Zlf {n:Nat} {i:Int} {j:Nat} (h:ixN n i = some j):seqIndex? i n = some j ∧ j < n ∧ -(n:Int) ≤ i ∧ i < n:=by
 unfold ixN at h
 by_cases h0:0 ≤ i
 ·rw [if_pos h0] at h
  by_cases h1:i < n
  ·rw [if_pos h1] at h
   have e:i.toNat = j:=Option.some.inj h
   exact ⟨by rw [seqIndex_of h0 h1,e],by exact iN [_,_,_] [_] 3 0x211008a1280911031 T1 e h1 (Int.toNat_of_nonneg h0),by exact iN [_] [_] 1 144182913 T1 h0,h1⟩
  ·rw [if_neg h1] at h; cases h
 ·rw [if_neg h0] at h
  by_cases h1:-(n:Int) ≤ i
  ·rw [if_pos h1] at h
   have e:(i + n).toNat = j:=Option.some.inj h
   exact ⟨by rw [seqIndex_neg (by exact Int.not_le.1 h0) h1,e],by exact iN [_,_,_] [_] 3 0x211280c08a10ec11031 T1 e h0 (Int.toNat_of_nonneg (iN [_] [_] 1 8851524979073 T1 h1)),h1,by exact iN [_] [_] 1 134811329 T1 h0⟩
  ·rw [if_neg h1] at h; cases h
theorem ZiF {α:Type} {xs:List α} {i:Int} {v:α} (h:atI xs i = some v):∃ j,seqIndex? i xs.length = some j ∧ xs[j]? = some v ∧ j < xs.length ∧ -(xs.length:Int) ≤ i ∧ i < xs.length:=by
 unfold atI at h
 cases e:ixN xs.length i with
 | none=>rw [e] at h; cases h
 | some j=>
  rw [e] at h
  obtain ⟨h1,h2,h3,h4⟩:=Zlf e
  exact ⟨j,h1,h,h2,h3,h4⟩
noncomputable def ZkI (b:Expr):Prop:=∀ o i,subscripted b false o i = operate [o,i] (getItem o i)
noncomputable def IxR (X:Cx) (r:R2):Prop:=
 ∀ (value slice:Expr) (pins:List (Addr × Obj)) (s:Shared) (σ:St) (H:Hp) (x y:V) (v u:Value) (Q:VK),Inv X pins σ H s → RelV x v → RelV y u → r x y H Q →
  subscripted slice false v u = operate [v,u] (getItem v u) → wpAny (model X.prog X.w) X.A (subscriptTail value slice v u) (EP X pins σ Q) X.xe s
noncomputable def MtR (X:Cx) (id:String) (r:V → List V → Hp → VK → Prop):Prop:=
 ∀ (pins:List (Addr × Obj)) (s:Shared) (σ:St) (H:Hp) (x:V) (xs:List V) (v:Value) (us:List Value) (Q:VK),Inv X pins σ H s → RelV x v → Vals xs us → r x xs H Q →
  wpAny (model X.prog X.w) X.A (call (.builtin id) (v :: us)) (EP X pins σ Q) X.xe s
section
variable {X:Cx} {a b:Expr} {ta tb:TE} {pos:Pos}
theorem IxR.or {r r':R2} (h:IxR X r) (h':IxR X r'):IxR X (fun x y H Q=>r x y H Q ∨ r' x y H Q):=by
 intro value slice pins s σ H x y v u Q I rx ry q hs
 rcases q with q | q
 ·exact h value slice pins s σ H x y v u Q I rx ry q hs
 ·exact h' value slice pins s σ H x y v u Q I rx ry q hs
theorem ZrM {r:R2} (hr:IxR X r) (ha:PE X a ta) (hb:PE X b tb) (hs:ZkI b):PE X (.Subscript a b pos) (tOp r ta tb):=by
 intro pins s σ H Q I h
 exact Subscript_ (Zqh ha hb I h fun v u s2 x y H2 I2 rx ry q=>hr a b pins s2 σ H2 x y v u Q I2 rx ry q (hs _ _))
noncomputable def ZrN (K:PySem.W.Frag):R2:=fun x y H Q=>∃ p xs i v,x = .ref p ∧ y = .int i ∧ SqL K H p xs ∧ atI xs i = some v ∧ Q v H
noncomputable def Zq8 (K:PySem.W.Frag):R2:=fun x y H Q=>∃ p xs i v,x = .ref p ∧ y = .int i ∧ SqT K H p xs ∧ atI xs i = some v ∧ Q v H
noncomputable def Zri:R2:=fun x y H Q=>∃ z i c,x = .str z ∧ y = .int i ∧ z.length ≤ sizeLine ∧ atI z.cps.toList i = some c ∧ Q (.str ⟨#[c]⟩) H
theorem ZnP:IxR X (ZrN X.K):=by
 intro value slice pins s σ H x y v u Q I rx ry h hs
 obtain ⟨p,xs,i,z,rfl,rfl,hq,he,q⟩:=h
 cases rx
 obtain ⟨t,rfl⟩:=ry
 obtain ⟨its,r,pl,hz⟩:=I.list hq
 obtain ⟨j,h1,h2,h3,h4,h5⟩:=ZiF he
 obtain ⟨w,ew,rw'⟩:=r.get h2
 have hl:=r.length
 have hn:=ZgO
 have fin:EP X pins σ Q w s:=⟨z,H,I,rw',q⟩
 by_cases h0:0 ≤ i
 ·have hj:i.toNat = j:=by
   rw [seqIndex_of h0 h5] at h1
   exact Option.some.inj h1
  exact item_listR pl.isList h0 (by omega) (by rw [hj]; simpa using ew) fin hs
 ·have hj:(i + (its.toArray.size:Int)).toNat = j:=by
   rw [seqIndex_neg (by exact Int.not_le.1 h0) h4] at h1
   rw [List.size_toArray,← hl]
   exact Option.some.inj h1
  exact subscriptTail_builtinR (x:=w) pl.isList.typeIs slot_list_getitem.lookup
   (wpAny_getItem_list_neg (Q:=fun r s'=>r = w ∧ EP X pins σ Q r s') pl.isList (by exact Int.not_le.1 h0) (by rw [List.size_toArray] <;> exact iN [_,_] [_] 2 6922527515414561 T1 hl h4) (by omega) (by rw [hj]; simpa using ew) ⟨rfl,fin⟩) hs
theorem Zqe:IxR X (Zq8 X.K):=by
 intro value slice pins s σ H x y v u Q I rx ry h hs
 obtain ⟨p,xs,i,z,rfl,rfl,hq,he,q⟩:=h
 cases rx
 obtain ⟨t,rfl⟩:=ry
 obtain ⟨its,r,pl,hz⟩:=I.tuple hq
 obtain ⟨j,h1,h2,h3,h4,h5⟩:=ZiF he
 obtain ⟨w,ew,rw'⟩:=r.get h2
 have hl:=r.length
 have hn:=ZgO
 have fin:EP X pins σ Q w s:=⟨z,H,I,rw',q⟩
 exact subscriptTail_builtinR (x:=w) pl.typeIs slot_tuple_getitem.lookup
  (getItem_tuple (j:=j) (Q:=fun r s'=>r = w ∧ EP X pins σ Q r s') pl (by omega) (by omega) (by rw [List.size_toArray,← hl]; exact h1) (by simpa using ew) ⟨rfl,fin⟩) hs
theorem Zpd:IxR X Zri:=by
 intro value slice pins s σ H x y v u Q I rx ry h hs
 obtain ⟨z,i,c,rfl,rfl,hz,he,q⟩:=h
 obtain ⟨t,rfl⟩:=rx
 obtain ⟨t',rfl⟩:=ry
 obtain ⟨j,h1,h2,h3,h4,h5⟩:=ZiF he
 have hl:z.cps.toList.length = z.length:=by simp [Str.length]
 rw [hl] at h1 h4 h5
 have hn:=ZgO
 exact tail_any (typeIs_str s z t) slot_str_getitem.lookup (getItem_str (c:=c) (by
  have e1:decide (i < -(2 ^ 63:Int)) = false:=decide_eq_false (by omega)
  have e2:decide (i ≥ 2 ^ 63) = false:=decide_eq_false (by omega)
  rw [e1,e2,Bool.or_false]) (by rw [h1]; simpa using h2) ⟨.str ⟨#[c]⟩,H,I.tok _,⟨_,rfl⟩,q⟩) hs
noncomputable def rIx (K:PySem.W.Frag):R2:=fun x y H Q=>ZrN K x y H Q ∨ Zq8 K x y H Q ∨ Zri x y H Q
theorem Zqa:IxR X (rIx X.K):=ZnP.or (Zqe.or Zpd)
theorem Zkm (its:List Value) (n j:Nat) (u:Value):Obj.mapSeq (·.setIfInBounds j u) { cls:=.type "list",data:=.seq its.toArray n } = { cls:=.type "list",data:=.seq (its.set j u).toArray n }:=by
 simp [Obj.mapSeq]
theorem Inv.lst {pins:List (Addr × Obj)} {σ:St} {H:Hp} {s:Shared} {p:Addr} {xs:List V} (I:Inv X pins σ H s) (h:H p = some (.lst xs)):
  ∃ (its:List Value) (n:Nat),Vals xs its ∧ s.heap.get? p = some { cls:=.type "list",data:=.seq its.toArray n } ∧ xs.length ≤ sizeLine:=by
 obtain ⟨z,its,n,r,e⟩:=I.hok p _ h
 exact ⟨its,n,r,e,z⟩
theorem Inv.lstUpd {pins:List (Addr × Obj)} {σ:St} {H:Hp} {s:Shared} {p:Addr} {xs ys:List V} {its its':List Value} {n n':Nat} {f:Obj → Obj} (I:Inv X pins σ H s) (h:H p = some (.lst xs))
  (ho:s.heap.get? p = some { cls:=.type "list",data:=.seq its.toArray n }) (hf:f { cls:=.type "list",data:=.seq its.toArray n } = { cls:=.type "list",data:=.seq its'.toArray n' }) (r:Vals ys its') (hz:ys.length ≤ sizeLine) (t:Nat):
  Inv X pins σ (upd H p (.lst ys)) { s with heap:=s.heap.update p f,toks:=t }:=by
 have e:(s.heap.update p f).get? p = some { cls:=.type "list",data:=.seq its'.toArray n' }:=by
  rw [Heap.get?_update_self f ho (by rw [hf] <;> rfl),hf]
 refine I.write (x:=p) (e:=p) (by rw [h]; trivial) (.inl rfl) (fun b u hb q=>(Heap.get?_update_other _ _ (Ne.symm hb)).trans q) ⟨_,e⟩ ?_
 exact ⟨hz,its',n',r,e⟩
noncomputable def Zq1:V → V → V → Hp → (Hp → Prop) → Prop:=fun o i v H Q=>∃ p xs k j,o = .ref p ∧ i = .int k ∧ H p = some (.lst xs) ∧ ixN xs.length k = some j ∧ Q (upd H p (.lst (xs.set j v)))
theorem set_list:Zq2 X Zq1:=by
 intro pins s σ H o i v ov iv u Q I ro ri rv h
 obtain ⟨p,xs,k,j,rfl,rfl,hp,hj,q⟩:=h
 cases ro
 obtain ⟨t,rfl⟩:=ri
 obtain ⟨its,n,r,ho,hz⟩:=I.lst hp
 obtain ⟨h1,h2,h3,h4⟩:=Zlf hj
 have hl:=r.length
 have hn:=ZgO
 have I':Inv X pins σ (upd H p (.lst (xs.set j v))) { s with heap:=s.heap.update p (Obj.mapSeq (·.setIfInBounds j u)) }:=
  I.lstUpd hp ho (Zkm its n j u) (r.set rv j) (by rw [List.length_set]; exact hz) s.toks
 by_cases h0:0 ≤ k
 ·have hk:k.toNat = j:=by
   rw [seqIndex_of h0 h4] at h1
   exact Option.some.inj h1
  exact PySem.W.ki_setAt ho h0 (by omega) (by rw [List.size_toArray,← hl]; exact h4) (by rw [hk]; exact ⟨_,I',q⟩)
 ·have hk:(k + (its.toArray.size:Int)).toNat = j:=by
   rw [seqIndex_neg (by exact Int.not_le.1 h0) h3] at h1
   rw [List.size_toArray,← hl]
   exact Option.some.inj h1
  exact PySem.W.ki_setBack ho (by exact Int.not_le.1 h0) (by rw [List.size_toArray,← hl]; exact h3) (by omega) (by rw [hk]; exact ⟨_,I',q⟩)
theorem Zij (lo hi:Option Int) (n:Nat):(sliceBounds lo hi none n).1 = ((HT.sIx n 0 lo:Nat):Int) ∧ (sliceBounds lo hi none n).2.1 = ((HT.sIx n n hi:Nat):Int) ∧ (sliceBounds lo hi none n).2.2 = 1:=by
 refine ⟨?_,?_,rfl⟩
 ·cases lo with
  | none=>simp [sliceBounds,HT.sIx]
  | some i=>
   simp only [sliceBounds,HT.sIx,Option.getD_none,show (1:Int) > 0 by decide,if_true]
   by_cases h:i < 0
   ·simp only [h,if_true] <;> exact clC _ _ h
   ·simp only [h,if_false] <;> exact clD _ _ h
 ·cases hi with
  | none=>simp [sliceBounds,HT.sIx]
  | some i=>
   simp only [sliceBounds,HT.sIx,Option.getD_none,show (1:Int) > 0 by decide,if_true]
   by_cases h:i < 0
   ·simp only [h,if_true] <;> exact clC _ _ h
   ·simp only [h,if_false] <;> exact clD _ _ h
theorem Zhg (its:List Value) (lo hi:Option Int):slicePick its.toArray lo hi none = ((its.drop (HT.sIx its.length 0 lo)).take (HT.sIx its.length its.length hi - HT.sIx its.length 0 lo)).toArray:=by
 obtain ⟨h1,h2,h3⟩:=Zij lo hi its.toArray.size
 unfold slicePick
 rw [h1,h2,h3]
 simp only [sliceRange_one,pick_run,List.size_toArray] <;> rfl
noncomputable def ZsA (K:PySem.W.Frag):V → Option Int → Option Int → Hp → VK → Prop:=fun x lo hi H Q=>∃ a xs,x = .ref a ∧ SqL K H a xs ∧ ∀ p,H p = none → Q (.ref p) (upd H p (.lst (Zi3 xs lo hi)))
theorem Zoc:SlR X (ZsA X.K):=by
 intro pins s σ H x v vl vu lo hi sl Q I rx hs pl pu h
 obtain ⟨a,xs,rfl,hx,q⟩:=h
 cases rx
 obtain ⟨its,r,ht,hz⟩:=I.list hx
 have hlen:=r.length
 refine ⟨"list",_,slot_list_getitem.lookup,ht.isList.typeIs,?_⟩
 refine wpAny_getItem_list_slice ht.isList hs pl pu .none (by simp) ?_ (by rw [List.size_toArray] <;> exact lC 2 2268279672881 T1 hlen hz)
 rw [Zhg,← hlen]
 refine ⟨.ref s.heap.objs.size,_,I.laid (t':=s.toks) (o:=.lst (Zi3 xs lo hi)) (fun b ob q=>Heap.get?_push_of_some _ q) (Nat.le_refl _) ?_,rfl,q _ (I.hok.fresh (Nat.le_refl _))⟩
 exact ⟨Nat.le_trans (Zgq xs lo hi) hz,_,0,(r.drop (HT.sIx xs.length 0 lo)).take (HT.sIx xs.length xs.length hi - HT.sIx xs.length 0 lo),Heap.get?_push_size _ rfl⟩
noncomputable def Ze3:V → Bool
 | .non=>true
 | .bl _=>true
 | .int _=>true
 | .str _=>true
 | _=>false
noncomputable def eqV:V → V → Bool
 | .non,.non=>true
 | .bl a,.bl b=>a == b
 | .bl a,.int b=>(if a then 1 else 0) == b
 | .int a,.bl b=>a == (if b then 1 else 0)
 | .int a,.int b=>a == b
 | .str a,.str b=>a == b
 | _,_=>false
theorem ZpI {A:Around} {s:Shared} {y x:V} {u v:Value} (ry:RelV y u) (rx:RelV x v) (fy:Ze3 y = true) (fx:Ze3 x = true):SeqAt.EqAt A s u v (eqV y x):=by
 cases y with
 | non=>
  cases ry
  cases x with
  | non=>cases rx; exact SeqAt.EqAt.same _
  | bl b=>cases rx; exact SeqAt.EqAt.none_bool b
  | int b=>obtain ⟨t,rfl⟩:=rx; exact SeqAt.EqAt.none_int b t
  | str b=>obtain ⟨t,rfl⟩:=rx; exact SeqAt.EqAt.none_str b t
  | _=>exact absurd (show false = true from fx) Bool.false_ne_true
 | bl a=>
  cases ry
  cases x with
  | non=>cases rx; exact SeqAt.EqAt.bool_none a
  | bl b=>cases rx; exact SeqAt.EqAt.bool_bool a b
  | int b=>obtain ⟨t,rfl⟩:=rx; exact SeqAt.EqAt.bool_int a b t
  | str b=>obtain ⟨t,rfl⟩:=rx; exact SeqAt.EqAt.bool_str a b t
  | _=>exact absurd (show false = true from fx) Bool.false_ne_true
 | int a=>
  obtain ⟨t',rfl⟩:=ry
  cases x with
  | non=>cases rx; exact SeqAt.EqAt.int_none a t'
  | bl b=>cases rx; exact SeqAt.EqAt.int_bool a t' b
  | int b=>obtain ⟨t,rfl⟩:=rx; exact SeqAt.EqAt.int_int a t' b t
  | str b=>obtain ⟨t,rfl⟩:=rx; exact SeqAt.EqAt.int_str a t' b t
  | _=>exact absurd (show false = true from fx) Bool.false_ne_true
 | str a=>
  obtain ⟨t',rfl⟩:=ry
  cases x with
  | non=>cases rx; exact SeqAt.EqAt.str_none a t'
  | bl b=>cases rx; exact SeqAt.EqAt.str_bool a t' b
  | int b=>obtain ⟨t,rfl⟩:=rx; exact SeqAt.EqAt.str_int a t' b t
  | str b=>obtain ⟨t,rfl⟩:=rx; exact SeqAt.EqAt.str_str a t' b t
  | _=>exact absurd (show false = true from fx) Bool.false_ne_true
 | _=>exact absurd (show false = true from fy) Bool.false_ne_true
noncomputable def eqU (x:V) (u:Value):Bool:=match u with
 | .none=>eqV .non x
 | .bool b=>eqV (.bl b) x
 | .int i _=>eqV (.int i) x
 | .str z _=>eqV (.str z) x
 | _=>false
theorem Zms {x y:V} {u:Value} (r:RelV y u) (f:Ze3 y = true):eqU x u = eqV y x:=by
 cases y with
 | non=>cases r; rfl
 | bl b=>cases r; rfl
 | int i=>obtain ⟨t,rfl⟩:=r; rfl
 | str z=>obtain ⟨t,rfl⟩:=r; rfl
 | _=>exact absurd (show false = true from f) Bool.false_ne_true
theorem Zip {x:V}:∀ {xs:List V} {us:List Value},Vals xs us → xs.all Ze3 = true → us.any (eqU x) = xs.any fun y=>eqV y x
 | _,_,.nil,_=>rfl
 | y :: xs,u :: us,.cons r t,f=>by
  rw [List.all_cons,Bool.and_eq_true] at f
  rw [List.any_cons,List.any_cons,Zms r f.1,Zip t f.2]
theorem ZgN {A:Around} {s:Shared} {x:V} {v:Value} (rx:RelV x v) (fx:Ze3 x = true):∀ {xs:List V} {us:List Value},Vals xs us → xs.all Ze3 = true → ∀ u ∈ us,SeqAt.EqAt A s u v (eqU x u)
 | _,_,.nil,_=>fun u hu=>by cases hu
 | y :: xs,u :: us,.cons r t,f=>fun u' hu=>by
  rw [List.all_cons,Bool.and_eq_true] at f
  rcases List.mem_cons.mp hu with rfl | hu
  ·rw [Zms r f.1]; exact ZpI r rx f.1 fx
  ·exact ZgN rx fx t f.2 u' hu
noncomputable def inV (x:V) (xs:List V):Bool:=xs.any fun y=>eqV y x
noncomputable def rIn (K:PySem.W.Frag) (neg:Bool):R2:=fun x y H Q=>∃ p xs,y = .ref p ∧ (SqL K H p xs ∨ SqT K H p xs) ∧ Ze3 x = true ∧ xs.all Ze3 = true ∧ Q (.bl (if neg then !inV x xs else inV x xs)) H
theorem ZlL:OpR X (compareOp .In) (rIn X.K false):=by
 intro pins s σ H x y v u Q I rx ry h
 obtain ⟨p,xs,rfl,hq,fx,fs,q⟩:=h
 cases ry
 rcases hq with hq | hq
 ·obtain ⟨its,r,pl,hz⟩:=I.list hq
  refine SeqAt.in_listAt (eqU x) pl.isList (fun w hw=>ZgN rx fx r fs w (by simpa using hw)) ⟨.bl _,H,I,rfl,?_⟩
  rw [show its.toArray.any (eqU x) = its.any (eqU x) by simp,Zip r fs]
  exact q
 ·obtain ⟨its,r,pl,hz⟩:=I.tuple hq
  refine SeqAt.in_tupleAt (eqU x) pl (fun w hw=>ZgN rx fx r fs w (by simpa using hw)) ⟨.bl _,H,I,rfl,?_⟩
  rw [show its.toArray.any (eqU x) = its.any (eqU x) by simp,Zip r fs]
  exact q
theorem Za3.or {f:Value} {r r':List V → Hp → VK → Prop} (h:Za3 X f r) (h':Za3 X f r'):Za3 X f (fun xs H Q=>r xs H Q ∨ r' xs H Q):=by
 intro pins s σ H xs us Q I rs q
 rcases q with q | q
 ·exact h pins s σ H xs us Q I rs q
 ·exact h' pins s σ H xs us Q I rs q
theorem ZiQ:Za3 X (.type "list") (fun xs H Q=>∃ p ys,xs = [.ref p] ∧ (SqL X.K H p ys ∨ SqT X.K H p ys) ∧ ∀ l,H l = none → Q (.ref l) (upd H l (.lst ys))):=by
 intro pins s σ H xs us Q I r h
 obtain ⟨p,ys,rfl,hq,q⟩:=h
 obtain ⟨u,rfl,rx⟩:=vals1 r
 cases rx
 have fin:∀ (its:List Value),Vals ys its → ys.length ≤ sizeLine → ∀ (h':Heap) (c':Nat),(∀ b o',s.heap.get? b = some o' → h'.get? b = some o') →
   h'.get? s.heap.objs.size = some { cls:=.type "list",dict:=none,data:=.seq its.toArray c',slots:=#[] } → EP X pins σ Q (.ref s.heap.objs.size) { s with heap:=h' }:=fun its r' hz h' c' kp e=>
  ⟨.ref s.heap.objs.size,_,I.laid (t':=s.toks) kp (Nat.le_refl _) (show Zbq X.prog X.w _ h' _ (.lst ys) from ⟨hz,its,c',r',e⟩),rfl,q _ (I.hok.fresh (Nat.le_refl _))⟩
 rcases hq with hq | hq
 ·obtain ⟨its,r',pl,hz⟩:=I.list hq
  have hlen:=r'.length
  obtain ⟨o,ho,hc,n,hd⟩:=pl.isList
  exact call_list_seq p (.inl rfl) ho hc hd (fun h' c' kp e=>fin its r' hz h' c' kp e) (by simp only [List.size_toArray] <;> exact lC 2 2268279672881 T1 hlen hz)
 ·obtain ⟨its,r',pl,hz⟩:=I.tuple hq
  have hlen:=r'.length
  obtain ⟨o,ho,hc,n,hd⟩:=pl
  exact call_list_seq p (.inr rfl) ho hc hd (fun h' c' kp e=>fin its r' hz h' c' kp e) (by simp only [List.size_toArray] <;> exact lC 2 2268279672881 T1 hlen hz)
theorem Zhr:Za3 X (.type "tuple") (fun xs H Q=>∃ p ys,xs = [.ref p] ∧ ((SqL X.K H p ys ∧ ∀ l,H l = none → Q (.ref l) (upd H l (.tup ys))) ∨ (SqT X.K H p ys ∧ Q (.ref p) H))):=by
 intro pins s σ H xs us Q I r h
 obtain ⟨p,ys,rfl,h⟩:=h
 obtain ⟨u,rfl,rx⟩:=vals1 r
 cases rx
 rcases h with ⟨hq,q⟩ | ⟨hq,q⟩
 ·obtain ⟨its,r',pl,hz⟩:=I.list hq
  have hlen:=r'.length
  refine call_tuple_list pl.isList (fun h' kp=>?_) (by simp only [List.size_toArray] <;> exact lC 2 2268279672881 T1 hlen hz)
  have I1:Inv X pins σ H { s with heap:=h' }:=I.kept (t':=s.toks) kp
  have I2:Inv X pins σ (upd H h'.objs.size (.tup ys)) { s with heap:=h'.push { cls:=.type "tuple",data:=.seq its.toArray } }:=
   I1.laid (t':=s.toks) (fun b o e=>Heap.get?_push_of_some _ e) (Nat.le_refl _) (show Zbq X.prog X.w _ _ _ (.tup ys) from ⟨hz,its,r',Zds.new _ _⟩)
  exact ⟨.ref h'.objs.size,_,I2,rfl,q _ (I1.hok.fresh (Nat.le_refl _))⟩
 ·obtain ⟨its,r',pl,hz⟩:=I.tuple hq
  exact call_tuple_same pl ⟨.ref p,H,I,rfl,q⟩
noncomputable def tyV (K:PySem.W.Frag) (T:String) (x:V) (H:Hp):Prop:=match x with
 | .str _=>T = "str"
 | .int _=>T = "int"
 | .ref p=>(T = "list" ∧ ∃ xs,SqL K H p xs) ∨ (T = "tuple" ∧ ∃ o,K.lookup p = some o ∧ o.cls = .type "tuple" ∧ o.dict = none) ∨
   (T = "dict" ∧ ((∃ kvs,H p = some (.dK kvs)) ∨ ∃ kvs,H p = some (.dT kvs))) ∨ (T = "set" ∧ ∃ S n,H p = some (.set S n))
 | _=>False
theorem Zqv {pins:List (Addr × Obj)} {σ:St} {H:Hp} {s:Shared} {T:String} {x:V} {v:Value} (I:Inv X pins σ H s) (r:RelV x v) (ty:tyV X.K T x H):
  s.TypeIs v T ∧ ∀ a,v = .ref a → ∃ ob,s.heap.get? a = some ob ∧ ob.dict = none:=by
 cases x with
 | str z=>
  obtain ⟨t,rfl⟩:=r
  cases (show T = "str" from ty)
  exact ⟨typeIs_str s z t,fun _ e=>nomatch e⟩
 | int i=>
  obtain ⟨t,rfl⟩:=r
  cases (show T = "int" from ty)
  exact ⟨typeIs_int s i t,fun _ e=>nomatch e⟩
 | ref p=>
  cases r
  rcases ty with ⟨rfl,xs,hq⟩ | ⟨rfl,o,hk,hc,hd⟩ | ⟨rfl,hk⟩ | ⟨rfl,S,n,hk⟩
  ·obtain ⟨its,_,pl,_⟩:=I.list hq
   refine ⟨pl.isList.typeIs,fun a e=>?_⟩
   cases e
   obtain ⟨o,n,e,c,hd,_⟩:=pl
   exact ⟨o,e,hd⟩
  ·refine ⟨⟨o,I.kIn p o hk,hc⟩,fun a e=>?_⟩
   cases e
   exact ⟨o,I.kIn _ o hk,hd⟩
  ·have z:∃ o,s.heap.get? p = some o ∧ o.ExactDict:=by
    rcases hk with ⟨kvs,hk⟩ | ⟨kvs,hk⟩
    ·obtain ⟨_,_,_,_,o,_,_,e,ex,_⟩:=I.hok p _ hk
     exact ⟨o,e,ex⟩
    ·obtain ⟨_,_,_,_,o,_,_,e,ex,_⟩:=I.hok p _ hk
     exact ⟨o,e,ex⟩
   obtain ⟨o,e,ex⟩:=z
   refine ⟨⟨o,e,ex.1⟩,fun a e2=>?_⟩
   cases e2
   exact ⟨o,e,ex.2.1⟩
  ·obtain ⟨o,_,_,_,e,ex,_⟩:=I.hok p _ hk
   refine ⟨⟨o,e,ex.1⟩,fun a e2=>?_⟩
   cases e2
   exact ⟨o,e,ex.2.1⟩
 | _=>exact False.elim ty
noncomputable def tBM (K:PySem.W.Frag) (T:String) (r:V → List V → Hp → VK → Prop) (to:TE) (t:TA):TE:=fun σ H Q=>to σ H fun x H1=>tyV K T x H1 ∧ t σ H1 fun xs H2=>r x xs H2 Q
variable {o e:Expr} {es:List Expr} {to:TE} {t:TA} {name:Str} {apos cpos:Pos} {T id:String} {r:V → List V → Hp → VK → Prop}
theorem ZrB (pa:PlainAttrs T) (slot:Slot T name id) (hty:typeOf (.builtin id) = pure (.type "method_descriptor")) (hm:MtR X id r) (ho:PE X o to) (ha:PA X (e :: es) t)
  (hbase:attributeBase o name X.env (eval o X.env) = eval o X.env:=by rfl)
  (hfew:((backTo cpos (starEach (e :: es) X.env)).all (fun x=>!x.1) && (backToKw cpos (keywordEach [] X.env)).all (fun x=>x.1.isSome)
   && decide ((e :: es).length + ([]:List Keyword).length + (if ([]:List Keyword).isEmpty then 0 else 1) < 30)) = true:=by rfl)
  (hline:(apos.endLine == cpos.line) = true:=by rfl) (hs:starEach (e :: es) X.env = (false,eval e X.env) :: starEach es X.env:=by rfl) (hplain:(backTo cpos (starEach es X.env)).any (·.1) = false:=by rfl):
  PE X (.Call (.Attribute o name apos) (e :: es) [] cpos) (tBM X.K T r to t):=by
 intro pins s σ H Q I h
 refine wpAny_Call_method_late hbase hfew hline rfl (thn (ho pins s σ H _ I h) fun v s1 zz1=>?_)
 obtain ⟨x,H1,I1,r1,ty,q1⟩:=zz1
 obtain ⟨h1,h2⟩:=Zqv I1 r1 ty
 refine ⟨T,id,pa,slot,hty,h1,h2,?_⟩
 have hA:=ha cpos pins s1 σ H1 _ I1 q1
 rw [hs] at hA ⊢
 refine Calls.callWith_builtin (by show (false || (backTo cpos (starEach es X.env)).any (·.1)) = false; rw [hplain] <;> rfl) (Calls.evalArgs_plain ?_)
 exact thn hA fun us s2 ⟨vs,H2,I2,r2,q2⟩=>hm pins s2 σ H2 x vs v us Q I2 r1 r2 q2
/- xs.append(e),list.index on a module's tuple .. are MtR facts of 06m -/
end
end L2
namespace L2
open PySem PySem.Spec PyProof.Rows
noncomputable def MtM (X:Cx) (id:String) (r:V → List V → Hp → VK → Prop):Prop:=
 ∀ (pins:List (Addr × Obj)) (s:Shared) (σ:St) (H:Hp) (x:V) (xs:List V) (v:Value) (us:List Value) (Q:VK),Inv X pins σ H s → RelV x v → Vals xs us → r x xs H Q →
  wpAny (model X.prog X.w) X.A (call (.builtin id) (v :: us)) (EP X pins σ Q) X.xe s
theorem Vals.one:∀ {x:V} {us:List Value},Vals [x] us → ∃ u,us = [u] ∧ RelV x u
 | _,_,.cons r .nil=>⟨_,rfl,r⟩
theorem Vals.zero:∀ {us:List Value},Vals [] us → us = []
 | _,.nil=>rfl
theorem Vals.eraseIdx:∀ {xs:List V} {us:List Value} (i:Nat),Vals xs us → Vals (xs.eraseIdx i) (us.eraseIdx i)
 | _,_,_,.nil=>.nil
 | _,_,0,.cons _ t=>t
 | _,_,i + 1,.cons r t=>.cons r (Vals.eraseIdx i t)
theorem Vals.reverse {xs:List V} {us:List Value} (h:Vals xs us):Vals xs.reverse us.reverse:=by
 induction h with
 | nil=>exact .nil
 | cons r t ih=>rw [List.reverse_cons,List.reverse_cons]; exact Vals.append ih (.cons r .nil)
theorem Vals.rep {xs:List V} {us:List Value} (h:Vals xs us):∀ k:Nat,Vals (List.replicate k xs).flatten (List.replicate k us).flatten
 | 0=>.nil
 | k + 1=>by
  rw [List.replicate_succ,List.replicate_succ,List.flatten_cons,List.flatten_cons]
  exact Vals.append h (Vals.rep h k)
theorem foldl_rep (its:List Value):∀ (k:Nat) (acc:List Value),
  List.foldl (fun x1 x2=>x1 ++ x2) acc.toArray (List.replicate k its.toArray) = (acc ++ (List.replicate k its).flatten).toArray
 | 0,acc=>by simp
 | k + 1,acc=>by
  have e:acc.toArray ++ its.toArray = (acc ++ its).toArray:=by simp
  have e2:(acc ++ its) ++ (List.replicate k its).flatten = acc ++ (List.replicate (k + 1) its).flatten:=by
   rw [List.replicate_succ,List.flatten_cons,List.append_assoc]
  rw [← e2,← foldl_rep its k (acc ++ its),← e,List.replicate_succ,List.foldl_cons]
section
variable {X:Cx} {pins:List (Addr × Obj)} {σ:St} {H:Hp} {s:Shared} {l b:Addr} {xs ys zs:List V}
theorem Inv.lset {its its':List Value} {n:Nat} {f:Array Value → Array Value} {t':Nat} (I:Inv X pins σ H s) (hH:H l = some (.lst xs))
  (e:s.heap.get? l = some { cls:=.type "list",data:=.seq its.toArray n }) (hf:f its.toArray = its'.toArray) (hv:Vals ys its') (hz:ys.length ≤ sizeLine):
  Inv X pins σ (upd H l (.lst ys)) { s with heap:=s.heap.update l (Obj.mapSeq f),toks:=t' }:=by
 have q:=PySem.IsL.update e f
 rw [hf] at q
 refine I.write (x:=l) (e:=l) (by rw [hH]; exact trivial) (.inl rfl) (fun b' u hb hu=>(Heap.get?_update_other s.heap (Obj.mapSeq f) (Ne.symm hb)).trans hu) ⟨_,q⟩ ?_
 exact ⟨hz,its',_,hv,q⟩
theorem Inv.lnew {its:List Value} {t':Nat} (I:Inv X pins σ H s) (hv:Vals ys its) (hz:ys.length ≤ sizeLine):
  Inv X pins σ (upd H s.heap.objs.size (.lst ys)) { s with heap:=s.heap.push { cls:=.type "list",data:=.seq its.toArray },toks:=t' }:=
 I.laid (fun _ _ q=>Heap.get?_push_of_some _ q) (Nat.le_refl _) ⟨hz,its,0,hv,Heap.get?_push_size _ rfl⟩
theorem Inv.fresh (I:Inv X pins σ H s):H s.heap.objs.size = none:=I.hok.fresh (Nat.le_refl _)
theorem Inv.lstM (I:Inv X pins σ H s) (hH:H l = some (.lst xs)):xs.length ≤ sizeLine ∧ ∃ (its:List Value) (n:Nat),Vals xs its ∧ xs.length = its.length ∧ s.heap.get? l = some { cls:=.type "list",data:=.seq its.toArray n }:=by
 obtain ⟨z,its,n,r,e⟩:=I.hok l _ hH
 exact ⟨z,its,n,r,r.length,e⟩
theorem Zm4 {n:Nat} (h:n ≤ sizeLine):Builtin.List.listTooLong n = false:=by
 unfold Builtin.List.listTooLong
 exact decide_eq_false (by omega)
end
section
variable {X:Cx}
noncomputable def ZkJ:V → List V → Hp → VK → Prop:=fun x vs H Q=>∃ l xs y,x = .ref l ∧ vs = [y] ∧ H l = some (.lst xs) ∧ xs.length < sizeLine ∧ Q .non (upd H l (.lst (xs ++ [y])))
theorem Zic:MtM X "list.append" ZkJ:=by
 intro pins s σ H x vs v us Q I rx rv h
 obtain ⟨l,xs,y,rfl,rfl,hH,hz,q⟩:=h
 cases rx
 obtain ⟨u,rfl,ru⟩:=rv.one
 obtain ⟨z,its,n,r,hl,e⟩:=I.lstM hH
 refine call_meets F.slot_list_append ⟨_,e,rfl⟩ F.entry_list_append (F.args_list_append_2 _ _) (PySem.list_append l its.toArray n u (by rw [List.size_toArray]; exact lC 2 2268279672881 T1 hl z)) ⟨e,?_⟩
 refine ⟨.non,_,I.lset (its':=its ++ [u]) hH e (by simp) (r.append (.cons ru .nil)) ?_,rfl,q⟩
 rw [List.length_append,List.length_singleton]
 exact lB 1 6991908881 T1 hz
noncomputable def Zr5:R2:=fun x y H Q=>∃ l b xs zs,x = .ref l ∧ y = .ref b ∧ H l = some (.lst xs) ∧ H b = some (.lst zs) ∧ xs.length + zs.length ≤ sizeLine ∧ ∀ p,H p = none → Q (.ref p) (upd H p (.lst (xs ++ zs)))
theorem Zqu:OpR X (binaryOp .Add) Zr5:=by
 intro pins s σ H x y v u Q I rx ry h
 obtain ⟨l,b,xs,zs,rfl,rfl,hH,hB,hz,q⟩:=h
 cases rx
 cases ry
 obtain ⟨z,its,n,r,hl,e⟩:=I.lstM hH
 obtain ⟨z2,its2,n2,r2,hl2,e2⟩:=I.lstM hB
 refine PySem.P.add_list e e2 ?_ (by rw [List.size_toArray,List.size_toArray]; exact lE 3 0x413c0402c0132311031 T1 hl2 hl hz)
 have ea:its.toArray ++ its2.toArray = (its ++ its2).toArray:=by simp
 rw [ea]
 exact ⟨.ref _,_,I.lnew (t':=s.toks) (r.append r2) (by rw [List.length_append]; exact hz),rfl,q _ I.fresh⟩
noncomputable def Zsj:R2:=fun x y H Q=>∃ l k xs,x = .ref l ∧ y = .int k ∧ H l = some (.lst xs) ∧ -(2 ^ 63) ≤ k ∧ k < 2 ^ 63 ∧ xs.length * k.toNat ≤ sizeLine ∧
 ∀ p,H p = none → Q (.ref p) (upd H p (.lst (List.replicate k.toNat xs).flatten))
theorem len_rep {α:Type} (xs:List α) (k:Nat):(List.replicate k xs).flatten.length = k * xs.length:=by
 induction k with
 | zero=>simp
 | succ k ih=>rw [List.replicate_succ,List.flatten_cons,List.length_append,ih,Nat.succ_mul,Nat.add_comm]
theorem Zpp:OpR X (binaryOp .Mult) Zsj:=by
 intro pins s σ H x y v u Q I rx ry h
 obtain ⟨l,k,xs,rfl,rfl,hH,h1,h2,hz,q⟩:=h
 cases rx
 obtain ⟨t,rfl⟩:=ry
 obtain ⟨z,its,n,r,hl,e⟩:=I.lstM hH
 have hlen:its.toArray.size * k.toNat ≤ sizeLine:=by rw [List.size_toArray,← hl]; exact hz
 have hcap:¬ its.toArray.size * k.toNat > (2 ^ 63 - 1) / 8:=by
  have:(sizeLine:Nat) ≤ (2 ^ 63 - 1) / 8:=by decide
  omega
 have hfit:¬ (!Builtin.List.listFitsIndex k) = true:=by
  rw [fitsIndex_both h1 h2]
  exact Bool.false_ne_true
 have hlong:¬ Builtin.List.listTooLong (its.toArray.size * k.toNat) = true:=by
  rw [Zm4 hlen]
  exact Bool.false_ne_true
 have hnew:List.foldl (fun x1 x2=>x1 ++ x2) #[] (List.replicate (if its.toArray.isEmpty = true then 0 else k.toNat) its.toArray) = (List.replicate k.toNat its).flatten.toArray:=by
  have f0:∀ m:Nat,List.foldl (fun x1 x2=>x1 ++ x2) #[] (List.replicate m its.toArray) = (List.replicate m its).flatten.toArray:=fun m=>by
   have:=foldl_rep its m []
   rw [List.nil_append] at this
   exact this
  rw [f0]
  cases its with
  | nil=>simp
  | cons a r'=>rw [if_neg (by simp)]
 refine wpAny_binaryOp_repeat_ref (T:="list") (U:="int") (by decide) ⟨_,e,rfl⟩ (fun s'=>typeIs_int s' k t) noFill_list_mul F.fills_int_mul F.slot_int_rmul repeat_list F.slot_int_index.lookup
  (call_meets F.slot_int_rmul (typeIs_int s k t) F.entry_int_rmul (F.args_int_rmul_2 _ _) (int___rmul___int_list k t l its.toArray n)
   ⟨e,rfl,⟨_,e,rfl⟩,call_meets F.slot_list_mul ⟨_,e,rfl⟩ F.entry_list_mul (F.args_list_mul_2 _ _) (AutoListH.list___mul___list_int_3 l its.toArray n k t hfit hcap hlong) ⟨e,?_⟩⟩)
 rw [hnew]
 exact ⟨.ref _,_,I.lnew (t':=s.toks) (r.rep k.toNat) (by rw [len_rep,Nat.mul_comm]; exact hz),rfl,q _ I.fresh⟩
end
section
variable {prog:Program} {w:World} {A:Around} {E:Value → Shared → Prop} {s:Shared}
end
section
variable {X:Cx}
end
end L2
namespace Att
open PySem PySem.W PySem.Calls PyProof.Rows
theorem Zgr {P:Params} {h:Heap}:∀ (ns:List Int) (vs:List Value),WellAll P h vs (ns.map WData.int) → IntsAre vs ns:=by
 intro ns
 induction ns with
 | nil=>
  intro vs w
  rw [List.map_nil] at w
  cases w
  exact .nil
 | cons n ns ih=>
  intro vs w
  rw [List.map_cons] at w
  cases w with
  | cons a b=>
   cases a
   exact .cons _ _ (ih _ b)
theorem ZlO {l:OpenLaw} {n:Nat} (hn:l.most = some n) {P:Params} {h:Heap} {args:List WData} {vals:List Value}
  (hpre:l.row.toRowW.claim.pre args = true) (hwl:WellAll P h vals args):
  ∃ a vs ns,vals = [Value.ref a] ∧ args = [WData.list (ns.map WData.int)] ∧ h.get? a = some { cls:=.type "list",data:=.seq vs.toArray } ∧ IntsAre vs ns ∧ ns.length ≤ n:=by
 have hsh:WShape.hasAll [] args [.list .int] = true:=(pre_splitW hpre).1
 have hc:l.pre.holds [] { args:=args } = true:=(pre_splitW hpre).2
 obtain ⟨d,r,rfl,h1,h2⟩:=hasAllW_cons hsh
 obtain rfl:=hasAllW_nil h2
 obtain ⟨xs,rfl,h3⟩:=hasW_list h1
 obtain ⟨ns,rfl⟩:=items_int h3
 have hlen:ns.length ≤ n:=by
  unfold OpenLaw.pre at hc
  have h4:(WTm.not (.lt (.lit (.int (n:Int))) (.len (.arg 0)))).holds [] { args:=[.list (ns.map .int)] } = true:=by
   have h4:=(holds_andW hc).1
   rw [hn] at h4
   exact h4
  have h5:=condW_of h4 (w_not (w_lt w_lit (w_len_list (w_arg rfl))))
  rw [List.length_map] at h5
  refine Nat.le_of_not_lt fun q=>?_
  have q':(n:Int) < ((ns.length:Nat):Int):=by exact Int.ofNat_lt.2 q
  first
   | (rw [decide_eq_true q'] at h5; exact absurd h5 (by decide))
   | (simp at h5; omega)
 cases hwl with
 | cons w1 w2=>
  cases w2
  cases w1 with
  | list ho hall=>exact ⟨_,_,ns,rfl,rfl,ho,Zgr ns _ hall,hlen⟩
theorem ZlU (l:OpenLaw) (args:List WData):l.row.toRowW.claim.post args (.bool true) args = true:=
 postW_of (r:=l.row.toRowW) (X:=(true == true))
  (show WShape.has [] (.bool true) .bool = true by first | rfl | decide | simp [WShape.has,WShape.arms,WShape.armsAll])
  (show (WTm.eq .res (.lit (.bool true))).value [] { args:=args,res:=some (.bool true),after:=args } = some (.bool (true == true)) from w_eq_bool (w_res rfl) w_lit) rfl
theorem attach_call {l:OpenLaw} {n:Nat} {q:Program} {loose:List Str} {XP:(Str → Option Value) → Heap → Prop} {YP:World → Heap → Prop} {d:DefRec}
  (hn:l.most = some n) (hdf:d.params.defaults = [])
  (call:∀ (w:World) (s₀ s₁:Shared) (mg mb:Str → Option Value) (fa:Addr) (o:Obj) (pm cd doc:Value) (a:Addr) (vs:List Value) (ns:List Int),
   Ground q loose [] XP w s₀ mg mb s₁.heap → YP w s₁.heap →
   s₁.heap.get? fa = some o → o.data = .func (docDef d.name d.params d.body d.scope pm cd doc) → s₁.heap.CodeRec cd d.name → mg d.name = some (.ref fa) →
   s₁.heap.get? a = some { cls:=.type "list",data:=.seq vs.toArray } → IntsAre vs ns → ns.length ≤ n → s₁.gens = #[] →
   codeAny (model l.prog w) callerA (.call (.ref fa) ⟨[.ref a],[]⟩) (fun r s'=>r = .ok (.ret (.bool true)) ∧ OldK s₁.heap s'.heap ∧ s'.os = s₁.os ∧ AllBare s'.gens) s₁):
  WalkO q loose XP YP l.row.toRowW d [] (fun f vs=>PySem.call f vs):=by
 intro w s₀ s₁ mg mb G Y fa o pm cd doc dV kV ho hd hcd hD hmg hg args vals as hpre hlay hrd hwl hlo
 obtain rfl:dV = .none:=Dflts.none hD hdf
 obtain rfl:kV = .none:=Dflts.noKw hD
 obtain ⟨a,vs,ns,rfl,rfl,hobj,hints,hlen⟩:=ZlO hn hpre hwl
 refine enter_call (codeAny_mono (call w s₀ s₁ mg mb fa o pm cd doc a vs ns G Y ho (fd_plain hd) hcd hmg hobj hints hlen hg) fun r s' hq=>?_)
 obtain ⟨rfl,h2,h3,h4⟩:=hq
 exact ⟨.inl ⟨.bool true,.bool true,[],rfl,fun _=>rfl,.bool true,ZlU l _,fun _=>⟨List.Pairwise.nil,fun _ hm=>(nomatch hm)⟩⟩,h2,h3,h4⟩
section
variable {prog:Program} {w:World} {A:Around} {E:Value → Shared → Prop} {s:Shared} {K:Frag}
end
end Att
namespace L2
open PySem PySem.Spec PyProof.Rows
theorem ZhJ:∀ {vs:List Value} {ns:List Int},IntsAre vs ns → Vals (ns.map V.int) vs
 | _,_,.nil=>.nil
 | _,_,.cons n t h=>.cons ⟨t,rfl⟩ (ZhJ h)
noncomputable def Only (H:Hp):Prop:=∀ b,H b = none ∨ ∃ o xs,H b = some (.frz o (.lst xs))
theorem Zl3 {P:Program} {w:World} {K:PySem.W.Frag} {mg mb:Str → Option Value} {CX:CXT} {k:Nat} {fa a:Addr} {fd:FuncData} {x:Str} {sp:Sp} {s₁:Shared} {vs:List Value} {ns:List Int}
  (KX:K.In s₁.heap) (hns:s₁.heap.Ns mainGlobals mg) (hb:s₁.heap.Ns builtinsNs mb) (hbb:∀ x:Str,x ≠ "__name__" → mb x = bootBuiltins x) (hlim:s₁.heap.NoLimit) (hg:s₁.gens = #[])
  (ha:s₁.heap.get? a = some { cls:=.type "list",data:=.seq vs.toArray }) (hi:IntsAre vs ns) (hl:ns.length ≤ sizeLine) (hr:ZbD k callerA)
  (F:∀ base:Heap,K.In base → base.Ns mainGlobals mg → ZdF P w K mg base CX k fa fd [x] sp) (hbind:∀ (s:Shared) (u:Value),BindsTo s fd ⟨[u],[]⟩ [(x,u)])
  (hsp:∀ H:Hp,Only H → SqL K H a (ns.map V.int) → sp [.ref a] H (fun v _=>v = .bl true) fun _ _ _=>False)
  (hCX:∀ H e s',CX [] H s₁ (fun _ _ _=>False) e s' → False):
  codeAny (model P w) callerA (.call (.ref fa) ⟨[.ref a],[]⟩) (fun r s'=>r = .ok (.ret (.bool true)) ∧ OldK s₁.heap s'.heap ∧ s'.os = s₁.os ∧ AllBare s'.gens) s₁:=by
 have rv:=ZhJ hi
 have lenV:=hi.length
 have core:∀ H:Hp,Only H → SqL K H a (ns.map V.int) → HOk P w H s₁.heap → (∀ b,H b ≠ none → b = a) → (H a ≠ none → K.lookup a = none) →
   codeAny (model P w) callerA (.call (.ref fa) ⟨[.ref a],[]⟩) (fun r s'=>r = .ok (.ret (.bool true)) ∧ OldK s₁.heap s'.heap ∧ s'.os = s₁.os ∧ AllBare s'.gens) s₁:=by
  intro H hO hS hok hA hK
  have base_of:∀ {b:Addr} {o:Obj},s₁.heap.get? b = some o → H b = none → (Ziy s₁.heap H).get? b = some o:=fun e n=>Znv e n
  have noA:∀ {b:Addr} {o:Obj} {es:Array DictEntry} {ep:Nat},s₁.heap.get? b = some o → o.data = .dict es ep → H b = none:=fun {b o es ep} e d=>by
   cases q:H b with
   | none=>rfl
   | some u=>
    have e':b = a:=hA b (by rw [q]; simp)
    subst e'
    rw [ha] at e; cases e
    have d':Data.seq vs.toArray _ = Data.dict es ep:=d
    cases d'
  have nsK:∀ {b:Addr} {m:Str → Option Value},s₁.heap.Ns b m → (Ziy s₁.heap H).Ns b m:=fun {b m} ⟨o,es,ep,e,d,r⟩=>⟨o,es,ep,base_of e (noA e d),d,r⟩
  have hKb:K.In (Ziy s₁.heap H):=fun b o e=>base_of (KX b o e) (by
   cases q:H b with
   | none=>rfl
   | some u=>
    have e':b = a:=hA b (by rw [q]; simp)
    subst e'
    rw [hK (by rw [q]; simp)] at e; cases e)
  have hM:Mod K mg (Ziy s₁.heap H):=⟨hKb,nsK hns,⟨mb,nsK hb,hbb⟩,let ⟨mc,h1,h2⟩:=hlim; ⟨mc,nsK h1,h2⟩⟩
  have e0:ZhB P w K mg (Ziy s₁.heap H) callerA [] s₁ H:=⟨rfl,hM,fun b o e=>Zoa e,Nat.le_of_eq (ZlE _ _),trivial,fun b hb=>absurd (show b ∈ ([]:List Addr) from hb) (by simp),hok,.of_eq hg⟩
  refine codeAny_mono ((F _ hKb (nsK hns)).run callerA [] s₁ H ⟨[.ref a],[]⟩ [.ref a] [.ref a] _ _ hr e0 (hbind s₁ (.ref a)) (.cons rfl .nil) (hsp H hO hS)) fun r s' h=>?_
  cases r with
  | error e=>exact (hCX H e s' h).elim
  | ok fl=>
   cases fl with
   | next=>exact False.elim h
   | brk=>exact False.elim h
   | cont=>exact False.elim h
   | ret u=>
    obtain ⟨v,H',os,bare,un,hok',r',q⟩:=h
    have q':v = .bl true:=q
    subst q'
    obtain rfl:u = Value.bool true:=r'
    refine ⟨rfl,OldK.of_keep fun b o e=>?_,os,bare⟩
    cases q:H b with
    | none=>exact un.keep b o e q (by intro z; exact absurd (show b ∈ ([]:List Addr) from z) (by simp)) (by simp)
    | some u=>
     rcases hO b with z | ⟨ob,xs,z⟩
     ·rw [q] at z; cases z
     ·have z2:=un.frzs b ob _ z
      obtain ⟨e1,_⟩:=hok b _ z
      obtain ⟨e2,_⟩:=hok' b _ z2
      rw [e] at e1; cases e1
      exact e2
 cases hk:K.lookup a with
 | some o=>
  have e:=KX a o hk
  rw [ha] at e
  cases e
  refine core (fun _=>none) (fun _=>.inl rfl) (.inr ⟨_,vs.toArray,_,hk,rfl,rfl,rfl,by rw [List.size_toArray,lenV]; exact hl,by simpa using rv⟩) (fun b u z=>by have z':(none:Option HO) = some u:=z; cases z') (fun b z=>absurd rfl z) fun z=>absurd rfl z
 | none=>
  refine core (fun b=>if b = a then some (.frz { cls:=.type "list",data:=.seq vs.toArray } (.lst (ns.map V.int))) else none) (fun b=>?_) (.inl (.inr ⟨{ cls:=.type "list",data:=.seq vs.toArray },if_pos rfl⟩)) (fun b u z=>?_) (fun b z=>?_) fun _=>hk
  ·by_cases hb:b = a
   ·exact .inr ⟨_,_,if_pos hb⟩
   ·exact .inl (if_neg hb)
  ·by_cases hb:b = a
   ·have z':=(if_pos hb).symm.trans z
    cases z'
    subst hb
    exact ⟨ha,by rw [List.length_map]; exact hl,vs,_,rv,ha⟩
   ·have z':=(if_neg hb).symm.trans z
    cases z'
  ·by_cases hb:b = a
   ·exact hb
   ·exact absurd (if_neg hb) z
end L2
namespace L2
open PySem PySem.Spec PyProof.Rows
theorem Zk5 {l:PySem.W.OpenLaw} {n k:Nat} {q:Program} {loose:List Str} {XP:(Str → Option Value) → Heap → Prop} {YP:World → Heap → Prop} {d:DefRec} {K:Params → PySem.W.Frag} {CX:World → CXT} {sp:World → Sp} {x:Str}
  (hn:l.most = some n) (hn2:n ≤ sizeLine) (hdf:d.params.defaults = []) (hr:ZbD k callerA)
  (hY:∀ (w:World) (h:Heap),YP w h → (K w.params).In h)
  (F:∀ (w:World) (mg:Str → Option Value) (fa:Addr) (h:Heap),(K w.params).In h → h.Ns mainGlobals mg → mg d.name = some (.ref fa) →
   ∃ fd:FuncData,(∀ (s:Shared) (u:Value),BindsTo s fd ⟨[u],[]⟩ [(x,u)]) ∧
    ∀ base:Heap,(K w.params).In base → base.Ns mainGlobals mg → ZdF l.prog w (K w.params) mg base (CX w) k fa fd [x] (sp w))
  (hsp:∀ (w:World) (H:Hp) (a:Addr) (ns:List Int),ns.length ≤ n → Only H → SqL (K w.params) H a (ns.map V.int) → sp w [.ref a] H (fun v _=>v = .bl true) fun _ _ _=>False)
  (hCX:∀ (w:World) (H:Hp) (s:Shared) (e:Value) (s':Shared),CX w [] H s (fun _ _ _=>False) e s' → False):
  PySem.W.WalkO q loose XP YP l.row.toRowW d [] (fun f vs=>PySem.call f vs):=by
 refine Att.attach_call hn hdf fun w s₀ s₁ mg mb fa o pm cd doc a vs ns G Y ho hd hcd hmg hobj hints hlen hg=>?_
 have KX:=hY w _ Y
 obtain ⟨fd,hb,hF⟩:=F w mg fa _ KX G.T.g hmg
 exact Zl3 KX G.T.g G.T.b G.T.builtins G.T.nolimit hg hobj hints (Nat.le_trans hlen hn2) hr hF hb (fun H hO hS=>hsp w H a ns hlen hO hS) fun H e s'=>hCX w H s₁ e s'
end L2
/- THE LAST THEOREM (shape; LID,My.* are yours):
  My.Adr: a structure of the addresses that your layer names (classes,functions); My.Txt K t: a structure (Prop) of the equations over K;
  My.txt_mk:{K} {implicit addresses ..} (e1:nsIn K mainGlobals "law" = some (some (.ref f))) (e2:K.lookup f = some ⟨oc,od,.func (fnOf "law" "law" params body scope dV kV doc pm an cdv ct),sl⟩) (e3:codeIn K cdv "law" = true) ..:∃ t,My.Txt K t
set_option maxRecDepth 100000 in
set_option maxHeartbeats 0 in
theorem PySem.Challenge.cw_LID_holds : PySem.Challenge.rw_LID.Holds := by
 w_on; o_law; k_head; (case hw=>w_witness2)
 k_fill
 refine L2.Zk5 (l:=PySem.Challenge.rw_LID) (n:=63) (k:=40) (x:="script") (CX:=fun w=>..) (sp:=fun _=>My.sp_law) rfl (by decide) rfl ⟨rfl,by decide,by decide⟩ (fun w h Y=>PySem.W.kIn_of Y) ?F ?S ?C
 case F=>
  intro w mg fa h KX G hmg
  have T:∃ t,My.Txt (L2.KOf KX) t:=by
   dsimp only [L2.KOf]                          -- K must stand as «<heap const> w.params» for k_is
   refine' My.txt_mk ?e1 ?e2 ?e3 ..
   (case e1=>PySem.W.k_is)                    -- in the order: a name -> its address -> its object -> its parts
   (case e2=>PySem.W.k_is)
   ..
  obtain ⟨t,T⟩:=T
  have e0:=hmg.symm.trans (PySem.W.mg_of KX G T.law)
  cases e0                                       -- fa is the law's own address
  exact ⟨_,fun s u=>.of_eq rfl,fun base kb nb=>My.law_fn T kb nb⟩     -- if «.of_eq rfl» comes too early: refine' ⟨_,?b,fun base kb nb=>My.law_fn T kb nb⟩; exact fun s u=>.of_eq rfl
 case S=>exact fun w H a ns hl hO hS=>..
 case C=>exact ..
(the tactic k_is has no namespace: write k_is) -/
namespace L2
open PySem PySem.Spec PyProof.Rows
noncomputable def Zaq (s:Stmt):Arguments:=match s with
 | .FunctionDef _ a _ _ _ _ _ _ _ _=>a
 | _=>{ posonlyargs:=[],args:=[],vararg:=none,kwonlyargs:=[],kw_defaults:=[],kwarg:=none,defaults:=[] }
noncomputable def Zan (s:Stmt):List Stmt:=match s with
 | .FunctionDef _ _ b _ _ _ _ _ _ _=>b
 | _=>[]
noncomputable def Zo (s:Stmt):Scope:=match s with
 | .FunctionDef _ _ _ _ _ _ sc _ _ _=>sc
 | _=>{ kind:=.function,names:=[],isGenerator:=false,isCoroutine:=false }
noncomputable abbrev CX0:CXT:=fun _ _ _ _ _ _=>False
noncomputable abbrev E0:XK:=fun _ _ _=>False
theorem Zle {X:Cx}:Zfm CX0 X E0:=fun _ _ _ _ _ _ _ h=>h.elim
structure Fun (K:PySem.W.Frag) (x qual:Str) (st:Stmt) (f:Addr) (fd:FuncData):Prop where
 ex:∃ (oc:Value) (od:Option Addr) (dV kV doc pm:Value) (an:Option Addr) (cdv ct:Value) (osl:Array (Option Value)),
  fd = PySem.W.fnOf x qual (Zaq st) (Zan st) (Zo st) dV kV doc pm an cdv ct ∧ K.lookup f = some ⟨oc,od,.func fd,osl⟩ ∧ PySem.W.codeIn K cdv qual = true
 kp:PySem.W.keepIn K (.ref f) = true
section
variable {P:Program} {w:World} {K:PySem.W.Frag} {mg:Str → Option Value} {base:Heap}
theorem Fun.ok {x qual:Str} {st:Stmt} {f:Addr} {fd:FuncData} {N ps:List Str} {k:Nat} {sp:Sp} (F:Fun K x qual st f fd) (S:Zav N ps (Zo st)) (len:∀ vs H Q E,sp vs H Q E → vs.length = ps.length)
  (hbody:∀ (cdv:Value) (A:Around) (outer:List Env) (s:Shared) (H:Hp) (vs:List V) (Q:VK) (E:XK),ZbD k (A.deeper (envOfC qual (Zo st) s.heap.objs.size f cdv)) → sp vs H Q E →
   ∃ t,PSs (Zhi CX0 P w K mg base N qual (Zo st) f cdv A outer s H E).nox (Zan st) t ∧ t { nx:=fun _ H'=>Q .non H',rt:=Q } (start N vs) H):ZdF P w K mg base CX0 (k + 1) f fd ps sp:=by
 obtain ⟨oc,od,dV,kV,doc,pm,an,cdv,ct,osl,rfl,lk,hcd⟩:=F.ex
 refine ZqX lk hcd S len fun A outer s H vs Q E hr hsp=>?_
 obtain ⟨t,h,q⟩:=hbody cdv A outer s H vs Q E hr hsp
 exact ⟨t,h.nox,q⟩
theorem Fun.binds {x qual:Str} {st:Stmt} {f:Addr} {fd:FuncData} {ps:List Str} (F:Fun K x qual st f fd)
  (h:∀ (dV kV doc pm:Value) (an:Option Addr) (cdv ct:Value) (us:List Value),us.length = ps.length → bindArgs (PySem.W.fnOf x qual (Zaq st) (Zan st) (Zo st) dV kV doc pm an cdv ct) ⟨us,[]⟩ = pure (ps.zip us)):Binds K fd ps []:=by
 obtain ⟨oc,od,dV,kV,doc,pm,an,cdv,ct,osl,rfl,lk,hcd⟩:=F.ex
 exact .all (h dV kV doc pm an cdv ct)
theorem ZmC {x qual:Str} {st:Stmt} {f:Addr} {oc:Value} {od an:Option Addr} {osl:Array (Option Value)} {dV kV doc pm cdv ct:Value} (l:K.lookup f = some ⟨oc,od,.func (PySem.W.fnOf x qual (Zaq st) (Zan st) (Zo st) dV kV doc pm an cdv ct),osl⟩)
  (c:PySem.W.codeIn K cdv qual = true) (k:PySem.W.keepIn K (.ref f) = true):Fun K x qual st f (PySem.W.fnOf x qual (Zaq st) (Zan st) (Zo st) dV kV doc pm an cdv ct):=⟨⟨oc,od,dV,kV,doc,pm,an,cdv,ct,osl,rfl,l,c⟩,k⟩
end
section
variable {X:Cx}
end
noncomputable def Zjc (H H':Hp):Prop:=∀ b o,H b = some o → H' b = some o
theorem Zjc.trans {H H1 H2:Hp} (a:Zjc H H1) (b:Zjc H1 H2):Zjc H H2:=fun c o h=>b c o (a c o h)
theorem Zjc.free {H H':Hp} (e:Zjc H H') {l:Addr} (h:H' l = Option.none):H l = Option.none:=by
 cases q:H l with
 | none=>rfl
 | some o=>
  rw [e l o q] at h
  cases h
theorem Zjc.seq {K:PySem.W.Frag} {H H':Hp} {a:Addr} {xs:List V} (e:Zjc H H') (h:SqL K H a xs):SqL K H' a xs:=by
 rcases h with (h | ⟨o,h⟩) | h
 ·exact .inl (.inl (e _ _ h))
 ·exact .inl (.inr ⟨o,e _ _ h⟩)
 ·exact .inr h
end L2
namespace L2
open PySem PySem.Spec PyProof.Rows
section
variable {κ:Type} [DecidableEq κ]
noncomputable def ZeV (kvs:List (κ × V)) (k:κ):Option V:=(kvs.find? fun kv=>decide (kv.1 = k)).map (·.2)
noncomputable def putK (kvs:List (κ × V)) (k:κ) (v:V):List (κ × V):=
 if (kvs.any fun kv=>decide (kv.1 = k)) = true then kvs.map (fun kv=>if kv.1 = k then (kv.1,v) else kv) else kvs ++ [(k,v)]
noncomputable def ZoT (kvs:List (κ × V)) (k:κ):List (κ × V):=kvs.filter fun kv=>decide (kv.1 ≠ k)
theorem ZmW {k:κ}:ZeV ([]:List (κ × V)) k = none:=rfl
theorem ZgQ {p:κ × V} {r:List (κ × V)} {k:κ} (e:p.1 = k):ZeV (p :: r) k = some p.2:=by simp [ZeV,List.find?_cons,e]
theorem ZgY {p:κ × V} {r:List (κ × V)} {k:κ} (e:¬ p.1 = k):ZeV (p :: r) k = ZeV r k:=by simp [ZeV,List.find?_cons,e]
theorem ZjB (kvs:List (κ × V)) (k:κ) (v:V):(putK kvs k v).length ≤ kvs.length + 1:=by
 unfold putK
 split
 ·rw [List.length_map]; exact Nat.le_add_right _ _
 ·rw [List.length_append,List.length_cons,List.length_nil]; exact lA 0 43162452160 T1
theorem ZfH.getD {o:Option V} {u:Option Value} {d:V} {d':Value} (r:ZfH o u) (rd:RelV d d'):RelV (o.getD d) (u.getD d'):=by
 cases o with
 | none=>cases u with
  | none=>exact rd
  | some _=>exact (show False from r).elim
 | some _=>cases u with
  | none=>exact (show False from r).elim
  | some _=>exact r
theorem KV.val {kvs:List (κ × V)} {vs:List (κ × Value)} (r:KV kvs vs) (k:κ):ZfH (ZeV kvs k) (valueAt vs k):=by
 unfold KV at r
 induction r with
 | nil=>exact True.intro
 | @cons p q ps qs h t ih=>
  obtain ⟨h1,h2⟩:=h
  by_cases e:p.1 = k
  ·have e':q.1 = k:=h1.symm.trans e
   have b:valueAt (q :: qs) k = some q.2:=by simp [valueAt,List.find?_cons,e']
   rw [ZgQ e,b]; exact h2
  ·have e':¬ q.1 = k:=fun z=>e (h1.trans z)
   have b:valueAt (q :: qs) k = valueAt qs k:=by simp [valueAt,List.find?_cons,e']
   rw [ZgY e,b]; exact ih
theorem KV.any {kvs:List (κ × V)} {vs:List (κ × Value)} (r:KV kvs vs) (k:κ):(kvs.any fun kv=>decide (kv.1 = k)) = vs.any fun kv=>decide (kv.1 = k):=by
 unfold KV at r
 induction r with
 | nil=>rfl
 | cons h t ih=>rw [List.any_cons,List.any_cons,ih,h.1]
theorem KV.repl {kvs:List (κ × V)} {vs:List (κ × Value)} (r:KV kvs vs) (k:κ) {y:V} {u:Value} (ry:RelV y u):
  KV (kvs.map fun kv=>if kv.1 = k then (kv.1,y) else kv) (vs.map fun kv=>if kv.1 = k then (kv.1,u) else kv):=by
 unfold KV at r ⊢
 induction r with
 | nil=>exact .nil
 | @cons p q ps qs h t ih=>
  rw [List.map_cons,List.map_cons]
  refine .cons ?_ ih
  obtain ⟨h1,h2⟩:=h
  by_cases e:p.1 = k
  ·rw [if_pos e,if_pos (h1.symm.trans e)]; exact ⟨h1,ry⟩
  ·rw [if_neg e,if_neg (fun z=>e (h1.trans z))]; exact ⟨h1,h2⟩
theorem KV.put {kvs:List (κ × V)} {vs:List (κ × Value)} (r:KV kvs vs) (k:κ) {y:V} {u:Value} (ry:RelV y u):KV (putK kvs k y) (stored vs k u):=by
 unfold putK stored
 rw [r.any k]
 by_cases e:(vs.any fun kv=>decide (kv.1 = k)) = true
 ·rw [if_pos e,if_pos e]; exact r.repl k ry
 ·rw [if_neg e,if_neg e]; exact Paired.snoc r ⟨rfl,ry⟩
theorem KV.drop {kvs:List (κ × V)} {vs:List (κ × Value)} (r:KV kvs vs) (k:κ):KV (ZoT kvs k) (without vs k):=by
 unfold KV at r ⊢
 unfold ZoT without
 induction r with
 | nil=>exact .nil
 | @cons p q ps qs h t ih=>
  obtain ⟨h1,h2⟩:=h
  rw [List.filter_cons,List.filter_cons]
  by_cases e:p.1 = k
  ·have a:¬ decide (p.1 ≠ k) = true:=by simp [e]
   have b:¬ decide (q.1 ≠ k) = true:=by simp [h1.symm.trans e]
   rw [if_neg a,if_neg b]; exact ih
  ·have e':¬ q.1 = k:=fun z=>e (h1.trans z)
   have a:decide (p.1 ≠ k) = true:=by simp [e]
   have b:decide (q.1 ≠ k) = true:=by simp [e']
   rw [if_pos a,if_pos b]; exact .cons ⟨h1,h2⟩ ih
theorem KV.length {kvs:List (κ × V)} {vs:List (κ × Value)} (r:KV kvs vs):kvs.length = vs.length:=Paired.length r
end
theorem Zmt {P:Program} {w:World} {k:Key} {u:Value} (r:RelV (kV k) u):(Za2 P w).is k u = true:=by
 cases k with
 | inl i=>obtain ⟨t,e⟩:=(show ∃ t,u = Value.int i t from r); subst e; exact ZjE P w i t
 | inr x=>obtain ⟨t,e⟩:=(show ∃ t,u = Value.str x t from r); subst e; exact ZjC P w x t
theorem Zh2 {P:Program} {w:World}:∀ {ks:List Key} {us:List Value},Vals (ks.map kV) us → ItemsAre (Za2 P w) ks us
 | [],_,r=>by rw [List.map_nil] at r; cases r; exact .nil
 | k :: ks,_,r=>by
  rw [List.map_cons] at r
  cases r with
  | cons h t=>exact .cons (Zmt h) (Zh2 t)
noncomputable abbrev KT (H:Hp):List (List Key × V) → List (List Key × Addr × Value) → Prop:=Paired fun p q=>p.1 = q.1 ∧ H q.2.1 = some (.tup (p.1.map kV)) ∧ RelV p.2 q.2.2
theorem KT.val {H:Hp} {kvs:List (List Key × V)} {xs:List (List Key × Addr × Value)} (r:KT H kvs xs) (k:List Key):ZfH (ZeV kvs k) ((atKey xs k).map (·.2)):=by
 induction r with
 | nil=>exact True.intro
 | @cons p q ps qs h t ih=>
  obtain ⟨h1,_,h2⟩:=h
  by_cases e:p.1 = k
  ·have e':q.1 = k:=h1.symm.trans e
   have b:atKey (q :: qs) k = some q.2:=by simp [atKey,List.find?_cons,e']
   rw [ZgQ e,b]; exact h2
  ·have e':¬ q.1 = k:=fun z=>e (h1.trans z)
   have b:atKey (q :: qs) k = atKey qs k:=by simp [atKey,List.find?_cons,e']
   rw [ZgY e,b]; exact ih
theorem KT.keeps {H H':Hp} {kvs:List (List Key × V)} {xs:List (List Key × Addr × Value)} (r:KT H kvs xs) (ht:∀ b ys,H b = some (.tup ys) → H' b = some (.tup ys)):KT H' kvs xs:=
 Paired.mapP r fun _ _ z=>⟨z.1,ht _ _ z.2.1,z.2.2⟩
section
variable {P:Program} {w:World} {H:Hp} {h:Heap} {a:Addr}
theorem ZoN {u:HO} (ok:HOk P w H h) (e:Rd H a u):Zbq P w H h a u:=e.ok ok
theorem Zl7 {kvs:List (Key × V)} (ok:HOk P w H h) (e:Rd H a (.dK kvs)):kvs.length ≤ sizeLine ∧ (a == sysModules) = false ∧ ∃ vs,KV kvs vs ∧ h.DictOf (Za2 P w) a vs:=
 show Zbq P w H h a (.dK kvs) from ZoN ok e
theorem Znn {ks:List Key} (ok:HOk P w H h) (e:H a = some (.tup (ks.map kV))):(tupleKind (Za2 P w)).is h ks a:=by
 obtain ⟨_,its,r,o,h1,h2,n,h3⟩:=(show Zbq P w H h a (.tup (ks.map kV)) from ok a _ e)
 exact ⟨o,its.toArray,n,h1,h2.1,h3,by simpa using Zh2 r⟩
theorem ZoR {kvs:List (List Key × V)} (ok:HOk P w H h) (e:Rd H a (.dT kvs)):kvs.length ≤ sizeLine ∧ (a == sysModules) = false ∧
  ∃ xs,KT H kvs xs ∧ h.DictOfH (tupleKind (Za2 P w)) a xs:=by
 obtain ⟨z,y,xs,r,o,es,ep,h1,h2,h3,h4,h5⟩:=(show Zbq P w H h a (.dT kvs) from ZoN ok e)
 refine ⟨z,y,xs,r,o,es,ep,h1,h2,h3,h4,fun x hx=>?_,h5⟩
 have all:∀ {l:List (List Key × V)} {m:List (List Key × Addr × Value)},KT H l m → ∀ x ∈ m,(tupleKind (Za2 P w)).is h x.1 x.2.1:=by
  intro l m q
  induction q with
  | nil=>intro x hx; exact nomatch hx
  | @cons p q ps qs hq t ih=>
   intro x hx
   rcases List.mem_cons.mp hx with e | hx
   ·subst e
    exact Znn ok (by rw [← hq.1]; exact hq.2.1)
   ·exact ih x hx
 exact all r x hx
end
noncomputable def ZlN (H:Hp) (a:Addr) (y:V) (r:Option V):Prop:=
 (∃ kvs k,Rd H a (.dK kvs) ∧ y = kV k ∧ r = ZeV kvs k) ∨ ∃ kvs k b,Rd H a (.dT kvs) ∧ y = .ref b ∧ H b = some (.tup (k.map kV)) ∧ r = ZeV kvs k
noncomputable def Zol (H:Hp) (a:Addr) (y v:V) (H':Hp):Prop:=
 (∃ kvs k,H a = some (.dK kvs) ∧ y = kV k ∧ kvs.length < sizeLine ∧ H' = upd H a (.dK (putK kvs k v))) ∨
 ∃ kvs k b,H a = some (.dT kvs) ∧ y = .ref b ∧ H b = some (.tup (k.map kV)) ∧ kvs.length < sizeLine ∧ H' = upd H a (.dT (putK kvs k v))
theorem ZlN.k {H:Hp} {a:Addr} {kvs:List (Key × V)} {k:Key} (e:H a = some (.dK kvs)):ZlN H a (kV k) (ZeV kvs k):=.inl ⟨kvs,k,.inl e,rfl,rfl⟩
theorem ZlN.t {H:Hp} {a b:Addr} {kvs:List (List Key × V)} {k:List Key} (e:H a = some (.dT kvs)) (eb:H b = some (.tup (k.map kV))):ZlN H a (.ref b) (ZeV kvs k):=.inr ⟨kvs,k,b,.inl e,rfl,eb,rfl⟩
theorem Zol.k {H:Hp} {a:Addr} {kvs:List (Key × V)} {k:Key} {v:V} (e:H a = some (.dK kvs)) (hl:kvs.length < sizeLine):Zol H a (kV k) v (upd H a (.dK (putK kvs k v))):=.inl ⟨kvs,k,e,rfl,hl,rfl⟩
theorem Zol.t {H:Hp} {a b:Addr} {kvs:List (List Key × V)} {k:List Key} {v:V} (e:H a = some (.dT kvs)) (eb:H b = some (.tup (k.map kV))) (hl:kvs.length < sizeLine):
  Zol H a (.ref b) v (upd H a (.dT (putK kvs k v))):=.inr ⟨kvs,k,b,e,rfl,eb,hl,rfl⟩
section
variable {X:Cx} {pins:List (Addr × Obj)} {σ:St} {H:Hp} {s:Shared} {a:Addr} {y v:V} {u r:Value} {o:Option V} {A:Around} {E:Value → Shared → Prop}
theorem Inv.big (I:Inv X pins σ H s):sysModules < s.heap.objs.size:=by
 have h:mainGlobals < s.heap.objs.size:=(I.mod.glob.keeps I.bk).lt
 exact Nat.lt_trans (by decide) h
theorem ZmD {P:Program} {w:World} {H':Hp} {h':Heap} {kvs:List (Key × V)} {vs:List (Key × Value)} (z:kvs.length ≤ sizeLine) (hd:(a == sysModules) = false) (rel:KV kvs vs) (dd:h'.DictOf (Za2 P w) a vs):
  Zbq P w H' h' a (.dK kvs):=⟨z,hd,vs,rel,dd⟩
end
section
variable {X:Cx} {pins:List (Addr × Obj)} {σ:St} {H:Hp} {s:Shared} {a:Addr} {kvs:List (Key × V)} {k:Key} {u:Value} {A:Around} {E:Value → Shared → Prop}
end
section
variable {X:Cx} {o i e value:Expr} {pos pos' tpos:Pos} {td ty tv:TE}
end
section
variable {X:Cx} {pos:Pos}
end
noncomputable def Zg0 (kvs more:List (Key × V)):List (Key × V):=more.foldl (fun acc kv=>putK acc kv.1 kv.2) kvs
theorem KV.merge:∀ {more:List (Key × V)} {rs:List (Key × Value)} {kvs:List (Key × V)} {vs:List (Key × Value)},KV more rs → KV kvs vs → KV (Zg0 kvs more) (merged vs rs):=by
 intro more rs kvs vs r
 unfold KV at r
 induction r generalizing kvs vs with
 | nil=>intro q; exact q
 | @cons p q ps qs h t ih=>
  intro r0
  have e:KV (putK kvs p.1 p.2) (stored vs q.1 q.2):=by
   have:=r0.put p.1 h.2
   rw [← h.1]; exact this
  exact ih e
theorem Ze8:∀ (more kvs:List (Key × V)),(Zg0 kvs more).length ≤ kvs.length + more.length
 | [],kvs=>by show kvs.length ≤ kvs.length + 0; exact Nat.le_add_right _ _
 | p :: r,kvs=>by
  have h1:=Ze8 r (putK kvs p.1 p.2)
  have h2:=ZjB kvs p.1 p.2
  show (Zg0 (putK kvs p.1 p.2) r).length ≤ _
  rw [List.length_cons]; exact lD 2 0xa3c1c2030c201a1c001 T1 h2 h1
structure M1 (X:Cx) (o:Expr) (m:Str) (apos:Pos) (e:Expr) (cpos:Pos):Prop where
 base:attributeBase o m X.env (eval o X.env) = eval o X.env
 few:((backTo cpos (starEach [e] X.env)).all (fun x=>!x.1) && (backToKw cpos (keywordEach [] X.env)).all (fun x=>x.1.isSome)
  && decide (([e]:List Expr).length + ([]:List Keyword).length + (if ([]:List Keyword).isEmpty then 0 else 1) < 30)) = true
 line:(apos.endLine == cpos.line) = true
 trees:backTo cpos (starEach [e] X.env) = [(false,eval e X.env)]
structure M2 (X:Cx) (o:Expr) (m:Str) (apos:Pos) (e f:Expr) (cpos:Pos):Prop where
 base:attributeBase o m X.env (eval o X.env) = eval o X.env
 few:((backTo cpos (starEach [e,f] X.env)).all (fun x=>!x.1) && (backToKw cpos (keywordEach [] X.env)).all (fun x=>x.1.isSome)
  && decide (([e,f]:List Expr).length + ([]:List Keyword).length + (if ([]:List Keyword).isEmpty then 0 else 1) < 30)) = true
 line:(apos.endLine == cpos.line) = true
 trees:backTo cpos (starEach [e,f] X.env) = [(false,eval e X.env),(false,eval f X.env)]
noncomputable def IsD (H:Hp) (a:Addr):Prop:=(∃ kvs,Rd H a (.dK kvs)) ∨ ∃ kvs,Rd H a (.dT kvs)
theorem Zpn {X:Cx} {pins:List (Addr × Obj)} {σ:St} {H:Hp} {s:Shared} {a:Addr} (I:Inv X pins σ H s) (d:IsD H a):
  s.TypeIs (.ref a) "dict" ∧ (∀ b,Value.ref a = .ref b → ∃ ob,s.heap.get? b = some ob ∧ ob.dict = none) ∧ (a == sysModules) = false:=by
 rcases d with ⟨kvs,e⟩ | ⟨kvs,e⟩
 ·obtain ⟨_,hd,vs,_,dd⟩:=Zl7 I.hok e
  refine ⟨dd.typeIs,fun b q=>?_,hd⟩
  cases q
  obtain ⟨ob,_,_,h1,h2,_⟩:=dd
  exact ⟨ob,h1,h2.2.1⟩
 ·obtain ⟨_,hd,xs,_,dd⟩:=ZoR I.hok e
  refine ⟨dd.typeIs,fun b q=>?_,hd⟩
  cases q
  obtain ⟨ob,_,_,h1,h2,_⟩:=dd
  exact ⟨ob,h1,h2.2.1⟩
section
variable {X:Cx} {pins:List (Addr × Obj)} {σ:St} {H:Hp} {s:Shared} {a:Addr} {y d:V} {u r:Value} {o:Option V} {A:Around} {E:Value → Shared → Prop}
theorem Zpq {Q:Value → Shared → Prop} (hu:A.units + 1 < cLine) (I:Inv X pins σ H s) (g:ZlN H a y o) (ry:RelV y u) (rd:RelV d r) (h:∀ w' s',Inv X pins σ H s' → RelV (o.getD d) w' → Q w' s'):
  wpAny (model X.prog X.w) A (call (.builtin "dict.get") [.ref a,u,r]) Q E s:=by
 rcases g with ⟨kvs,k,e,ey,l⟩ | ⟨kvs,k,b,e,ey,eb,l⟩
 ·subst ey
  obtain ⟨z,hd,vs,rel,dd⟩:=Zl7 I.hok e
  refine call_meetsIn PySem.F.slot_dict_get dd.typeIs PySem.F.entry_dict_get (PySem.F.args_dict_get_3 _ _ _) (meets_dict_get_default (Za2 X.prog X.w) a (Zmt ry) hd r) ⟨_,dd.mapOf,h _ _ (I.tok _) ?_⟩
  rw [l]
  exact (rel.val k).getD rd
 ·subst ey
  cases (show u = Value.ref b from ry)
  obtain ⟨z,hd,xs,rel,dd⟩:=ZoR I.hok e
  refine call_meetsIn PySem.F.slot_dict_get dd.typeIs PySem.F.entry_dict_get (PySem.F.args_dict_get_3 _ _ _) (meetsH_dict_get_default (tupleKind (Za2 X.prog X.w)) a b hd r) ⟨tupleKind_room_in1 hu,k,xs,Znn I.hok eb,dd,h _ _ (I.tok _) ?_⟩
  rw [l]
  exact (rel.val k).getD rd
end
noncomputable def Zp7 (td ty tx:TE):TE:=fun σ H Q=>td σ H fun x H1=>∃ a,x = .ref a ∧ IsD H1 a ∧ ty σ H1 fun y H2=>tx σ H2 fun z H3=>∃ o,ZlN H3 a y o ∧ Q (o.getD z) H3
section
variable {X:Cx} {o e f:Expr} {apos cpos:Pos} {td ty tx:TE}
theorem Znd (hu:X.A.units + 1 < cLine) (ho:PE X o td) (he:PE X e ty) (hf:PE X f tx) (m:M2 X o "get" apos e f cpos):PE X (.Call (.Attribute o "get" apos) [e,f] [] cpos) (Zp7 td ty tx):=by
 intro pins s σ H Q I h
 refine wpAny_Call_method m.base m.few m.line PySem.F.plainAttrs_dict PySem.F.slot_dict_get PySem.F.type_dict_get (thn (ho pins s σ H _ I h) fun u s1 zz1=>?_)
 obtain ⟨x,H1,I1,rx,a,ex,d,q1⟩:=zz1
 subst ex
 obtain rfl:u = Value.ref a:=rx
 obtain ⟨t1,t2,_⟩:=Zpn I1 d
 refine ⟨t1,t2,?_⟩
 rw [m.trees]
 refine Calls.callWith_builtin rfl (Calls.evalArgs_plain (Calls.spliced_cons (thn (he pins s1 σ H1 _ I1 q1) fun iv s2 ⟨y,H2,I2,ry,q2⟩=>
  Calls.spliced_cons (thn (hf pins s2 σ H2 _ I2 q2) fun fv s3 ⟨z,H3,I3,rz,ov,g,q3⟩=>Calls.spliced_nil ?_))))
 exact Zpq hu I3 g ry rz fun w' s4 I4 rw'=>⟨_,H3,I4,rw',q3⟩
end
section
variable {X:Cx} {pins:List (Addr × Obj)} {σ:St} {H:Hp} {s:Shared} {a:Addr} {kvs:List (Key × V)} {A:Around} {E:Value → Shared → Prop}
theorem ZmE {Q:Value → Shared → Prop} (I:Inv X pins σ H s) (e:Rd H a (.dK kvs)) (h:∀ p s',H p = none → Inv X pins σ (upd H p (.dK kvs)) s' → Q (.ref p) s'):wpAny (model X.prog X.w) A (call (.type "dict") [.ref a]) Q E s:=by
 obtain ⟨z,hd,vs,rel,dd⟩:=Zl7 I.hok e
 refine kt_call_dict hd dd (by rw [← rel.length]; exact z) fun h' dd' hs=>?_
 refine h _ _ (I.hok.fresh (Nat.le_refl _)) (I.laid (a:=s.heap.objs.size) (o:=.dK kvs) (t':=s.toks) (fun b q hq=>?_) (Nat.le_refl _) (ZmD z (beq_eq_false_iff_ne.mpr (Ne.symm (Nat.ne_of_lt I.big))) rel dd'))
 exact (hs.2 b (Nat.ne_of_lt (Heap.lt_size hq))).trans (Heap.get?_push_of_some _ hq)
end
section
variable {X:Cx} {pins:List (Addr × Obj)} {σ:St} {H:Hp} {s:Shared} {a:Addr} {y:V} {u:Value} {A:Around} {E:Value → Shared → Prop}
end
end L2
namespace L3
open PySem
noncomputable section
inductive D where
 | non | bl (b:Bool) | int (i:Int) | str (x:List Nat) | tup (ds:List D) | scr (ds:List D) | ref (n:Nat)
 deriving Inhabited
noncomputable abbrev Zbl:=Sum Int (List Nat)
inductive MO where
 | lst (xs:List D) | dct (kvs:List (Zbl × D)) | fdct (kvs:List (Zbl × D)) | ins (c:List Nat) (fs:List (List Nat × D))
 deriving Inhabited
noncomputable abbrev Store:=List MO
structure X3 where
 cls:List Nat
 arg:D
inductive R3 (α:Type) where
 | ok (a:α) (M:Store) | exc (x:X3) (M:Store) | bad
@[simp] noncomputable def R3.bind {α β:Type} (r:R3 α) (k:α → Store → R3 β):R3 β:=match r with
 | .ok a M=>k a M
 | .exc x M=>.exc x M
 | .bad=>.bad
theorem R3.bind_ok {α β:Type} (a:α) (M:Store) (k:α → Store → R3 β):(R3.ok a M).bind k = k a M:=rfl
noncomputable def ZaB:Nat → D → Bool
 | _,.non=>true | _,.bl _=>true | _,.int _=>true | _,.str _=>true
 | n + 1,.tup ds=>ds.all (ZaB n)
 | _,_=>false
noncomputable abbrev DEEP:Nat:=60
mutual
noncomputable def deq:D → D → Bool
 | .non,.non=>true
 | .bl a,.bl b=>a == b
 | .int a,.int b=>a == b
 | .str a,.str b=>a == b
 | .tup a,.tup b=>Zcb a b
 | .bl a,.int b=>(if a then 1 else 0) == b
 | .int a,.bl b=>a == (if b then 1 else 0)
 | _,_=>false
noncomputable def Zcb:List D → List D → Bool
 | [],[]=>true
 | a :: x,b :: y=>deq a b && Zcb x y
 | _,_=>false
end
mutual
noncomputable def below (n:Nat):D → Bool
 | .tup ds=>belowL n ds
 | .scr ds=>belowL n ds
 | .ref k=>k < n
 | .non=>true | .bl _=>true | .int _=>true | .str _=>true
noncomputable def belowL (n:Nat):List D → Bool
 | []=>true
 | d :: ds=>below n d && belowL n ds
end
mutual
noncomputable def same:D → D → Bool
 | .non,.non=>true
 | .bl a,.bl b=>a == b
 | .int a,.int b=>a == b
 | .str a,.str b=>a == b
 | .tup a,.tup b=>ZgU a b
 | .scr a,.scr b=>ZgU a b
 | .ref a,.ref b=>a == b
 | _,_=>false
noncomputable def ZgU:List D → List D → Bool
 | [],[]=>true
 | a :: x,b :: y=>same a b && ZgU x y
 | _,_=>false
end
mutual
theorem same_iff:∀ {a b:D},same a b = true ↔ a = b
 | .non,b=>by cases b <;> simp [same]
 | .bl a,b=>by cases b <;> simp [same]
 | .int a,b=>by cases b <;> simp [same]
 | .str a,b=>by cases b <;> simp [same]
 | .tup a,b=>by cases b <;> simp [same,ZfU (x:=a)]
 | .scr a,b=>by cases b <;> simp [same,ZfU (x:=a)]
 | .ref a,b=>by cases b <;> simp [same]
theorem ZfU:∀ {x y:List D},ZgU x y = true ↔ x = y
 | [],y=>by cases y <;> simp [ZgU]
 | a :: x,y=>by
  cases y with
  | nil=>simp [ZgU]
  | cons b y=>simp [ZgU,same_iff (a:=a),ZfU (x:=x)]
end
noncomputable instance:DecidableEq D:=fun a b=>decidable_of_iff (same a b = true) same_iff
noncomputable instance:DecidableEq MO:=fun a b=>match a,b with
 | .lst x,.lst y=>if h:x = y then isTrue (by rw [h]) else isFalse (by intro e; cases e; exact h rfl)
 | .dct x,.dct y=>if h:x = y then isTrue (by rw [h]) else isFalse (by intro e; cases e; exact h rfl)
 | .fdct x,.fdct y=>if h:x = y then isTrue (by rw [h]) else isFalse (by intro e; cases e; exact h rfl)
 | .ins c x,.ins d y=>if h:c = d ∧ x = y then isTrue (by rw [h.1,h.2]) else isFalse (by intro e; cases e; exact h ⟨rfl,rfl⟩)
 | .ins _ _,.lst _=>isFalse (by intro e; cases e)
 | .ins _ _,.dct _=>isFalse (by intro e; cases e)
 | .ins _ _,.fdct _=>isFalse (by intro e; cases e)
 | .lst _,.ins _ _=>isFalse (by intro e; cases e)
 | .dct _,.ins _ _=>isFalse (by intro e; cases e)
 | .fdct _,.ins _ _=>isFalse (by intro e; cases e)
 | .lst _,.dct _=>isFalse (by intro e; cases e)
 | .lst _,.fdct _=>isFalse (by intro e; cases e)
 | .dct _,.lst _=>isFalse (by intro e; cases e)
 | .dct _,.fdct _=>isFalse (by intro e; cases e)
 | .fdct _,.lst _=>isFalse (by intro e; cases e)
 | .fdct _,.dct _=>isFalse (by intro e; cases e)
@[simp] noncomputable abbrev SZ:Nat:=1000000
noncomputable abbrev Zat:=List (Option D)
noncomputable abbrev E3:=Zat → Store → R3 D
noncomputable abbrev EL3:=Zat → Store → R3 (List D)
noncomputable abbrev F3:=List D → Store → R3 D
inductive O3 where
 | nx (env:Zat) (M:Store) | rt (d:D) (M:Store) | bk (env:Zat) (M:Store) | ct (env:Zat) (M:Store) | exc (x:X3) (M:Store) | bad
noncomputable abbrev S3:=Zat → Store → O3
@[simp] noncomputable def Za (i:Nat):E3:=fun env M=>match env[i]? with
 | some (some d)=>.ok d M
 | _=>.bad
@[simp] noncomputable def eC (d:D):E3:=fun _ M=>.ok d M
@[simp] noncomputable def e1 (op:D → Store → R3 D) (f:E3):E3:=fun env M=>(f env M).bind op
@[simp] noncomputable def e2 (op:D → D → Store → R3 D) (f g:E3):E3:=fun env M=>(f env M).bind fun a M1=>(g env M1).bind fun b M2=>op a b M2
@[simp] noncomputable def Zi:EL3:=fun _ M=>.ok [] M
@[simp] noncomputable def Zb (f:E3) (g:EL3):EL3:=fun env M=>(f env M).bind fun a M1=>(g env M1).bind fun b M2=>.ok (a :: b) M2
@[simp] noncomputable def alloc (o:MO) (M:Store):R3 D:=.ok (.ref M.length) (M ++ [o])
section
local instance (priority:=100000) clP1 (p:Prop):Decidable p:=Classical.propDecidable p
@[simp] noncomputable def Za4 (g:EL3):E3:=fun env M=>(g env M).bind fun ds M1=>if ds.length ≤ SZ then .ok (.tup ds) M1 else .bad
end
section
local instance (priority:=100000) clP2 (p:Prop):Decidable p:=Classical.propDecidable p
@[simp] noncomputable def Zcg (g:EL3):E3:=fun env M=>(g env M).bind fun ds M1=>if ds.length ≤ SZ then alloc (.lst ds) M1 else .bad
end
@[simp] noncomputable def Zcm (f g:E3):E3:=fun env M=>(f env M).bind fun a M1=>match a with
 | .bl true=>g env M1
 | .bl false=>.ok (.bl false) M1
 | _=>.bad
@[simp] noncomputable def eOr (f g:E3):E3:=fun env M=>(f env M).bind fun a M1=>match a with
 | .bl false=>g env M1
 | .bl true=>.ok (.bl true) M1
 | _=>.bad
@[simp] noncomputable def Zev (a:D) (M:Store):R3 D:=match a with
 | .bl b=>.ok (.bl (!b)) M
 | _=>.bad
@[simp] noncomputable def eIf (c f g:E3):E3:=fun env M=>(c env M).bind fun a M1=>match a with
 | .bl true=>f env M1
 | .bl false=>g env M1
 | _=>.bad
@[simp] noncomputable def Zai (F:F3) (g:EL3):E3:=fun env M=>(g env M).bind fun ds M1=>F ds M1
section
local instance (priority:=100000) clP3 (p:Prop):Decidable p:=Classical.propDecidable p
@[simp] noncomputable def Zz (a b:D) (M:Store):R3 D:=match a,b with
 | .int i,.int j=>.ok (.int (i + j)) M
 | .str x,.str y=>if x.length + y.length ≤ SZ then .ok (.str (x ++ y)) M else .bad
 | .tup x,.tup y=>if x.length + y.length ≤ SZ then .ok (.tup (x ++ y)) M else .bad
 | .ref n,.ref m=>match M[n]?,M[m]? with
  | some (.lst x),some (.lst y)=>if x.length + y.length ≤ SZ then alloc (.lst (x ++ y)) M else .bad
  | _,_=>.bad
 | _,_=>.bad
end
@[simp] noncomputable def Zcu (a b:D) (M:Store):R3 D:=match a,b with
 | .int i,.int j=>.ok (.int (i - j)) M
 | _,_=>.bad
section
local instance (priority:=100000) clP4 (p:Prop):Decidable p:=Classical.propDecidable p
noncomputable def ZbP (i j:Int):Bool:=(decide (-(2 ^ 64) < i) && decide (i < 2 ^ 64)) || (decide (-(2 ^ 64) < j) && decide (j < 2 ^ 64))
end
section
local instance (priority:=100000) clP5 (p:Prop):Decidable p:=Classical.propDecidable p
@[simp] noncomputable def Zez (a b:D) (M:Store):R3 D:=match a,b with
 | .int i,.int j=>if ZbP i j then .ok (.int (i * j)) M else .bad
 | .str x,.int k=>if x.length * k.toNat ≤ SZ ∧ k < 1000000 ∧ -1000000 < k then .ok (.str (List.replicate k.toNat x).flatten) M else .bad
 | .ref n,.int k=>match M[n]? with
  | some (.lst x)=>if x.length * k.toNat ≤ SZ ∧ k < 1000000 ∧ -1000000 < k then alloc (.lst (List.replicate k.toNat x).flatten) M else .bad
  | _=>.bad
 | _,_=>.bad
end
@[simp] noncomputable def Zae (a b:D) (M:Store):R3 D:=match a,b with
 | .int i,.int j=>if 0 < j then .ok (.int (i % j)) M else .bad
 | _,_=>.bad
section
local instance (priority:=100000) clP6 (p:Prop):Decidable p:=Classical.propDecidable p
@[simp] noncomputable def Zad (a b:D) (M:Store):R3 D:=match a,b with
 | .int i,.int j=>if 0 < j ∧ j < 1073741824 then .ok (.int (i / j)) M else .bad
 | _,_=>.bad
end
@[simp] noncomputable def Zen (a b:D) (M:Store):R3 D:=match a,b with
 | .int i,.int j=>if 0 ≤ j ∧ j ≤ 1000 ∧ i.natAbs < 1000 then .ok (.int (i ^ j.toNat)) M else .bad
 | _,_=>.bad
@[simp] noncomputable def Zgi (a:D) (M:Store):R3 D:=match a with
 | .int i=>.ok (.int (-i)) M
 | _=>.bad
@[simp] noncomputable def ZlI (a b:D) (M:Store):R3 D:=match a,b with
 | .int i,.int j=>.ok (.bl (decide (i < j))) M
 | _,_=>.bad
@[simp] noncomputable def ZcS (a b:D) (M:Store):R3 D:=match a,b with
 | .int i,.int j=>.ok (.bl (decide (j < i))) M
 | _,_=>.bad
@[simp] noncomputable def ZjG (a b:D) (M:Store):R3 D:=match a,b with
 | .int i,.int j=>.ok (.bl (decide (j ≤ i))) M
 | _,_=>.bad
@[simp] noncomputable def eqD (a b:D) (M:Store):Option Bool:=match a,b with
 | .ref n,.ref m=>match M[n]?,M[m]? with
  | some (.lst x),some (.lst y)=>if x.all (ZaB DEEP) && y.all (ZaB DEEP) then some (Zcb x y) else none
  | _,_=>none
 | .int i,.int j=>some (decide (i = j))
 | .str x,.str y=>some (decide (x = y))
 | .bl x,.bl y=>some (decide (x = y))
 | .tup x,.tup y=>if x.all (ZaB DEEP) && y.all (ZaB DEEP) then some (Zcb x y) else none
 | _,_=>none
@[simp] noncomputable def Zaz (a b:D) (M:Store):R3 D:=match eqD a b M with
 | some r=>.ok (.bl r) M
 | none=>.bad
@[simp] noncomputable def Zed (a b:D) (M:Store):R3 D:=match eqD a b M with
 | some r=>.ok (.bl (!r)) M
 | none=>.bad
@[simp] noncomputable def ZpF (a b:D) (M:Store):R3 D:=match b with
 | .non=>.ok (.bl (decide (a = .non))) M
 | _=>.bad
@[simp] noncomputable def Zk8 (a b:D) (M:Store):R3 D:=match b with
 | .non=>.ok (.bl (!decide (a = .non))) M
 | _=>.bad
noncomputable def ZaZ:D → Bool
 | .non=>true | .bl _=>true | .int _=>true | .str _=>true | _=>false
@[simp] noncomputable def inD (a b:D):Option Bool:=match a,b with
 | .str [c],.str y=>some (decide (c ∈ y))
 | x,.tup ys=>if ZaZ x && ys.all ZaZ then some (ys.any fun y=>deq y x) else none
 | _,_=>none
@[simp] noncomputable def Znt (a b:D) (M:Store):R3 D:=match inD a b with
 | some r=>.ok (.bl r) M
 | none=>.bad
noncomputable def ixD (n:Nat) (i:Int):Option Nat:=if 0 ≤ i then (if i < n then some i.toNat else none) else if -(n:Int) ≤ i then some (i + n).toNat else none
noncomputable def Za0 {α:Type} (xs:List α) (i:Int):Option α:=(ixD xs.length i).bind fun j=>xs[j]?
@[simp] noncomputable def Zga:D → Option Zbl
 | .int i=>some (.inl i)
 | .str x=>some (.inr x)
 | _=>none
noncomputable def ZcA:List (Zbl × D) → Zbl → Option D
 | [],_=>none
 | (k,v) :: r,x=>if k = x then some v else ZcA r x
section
local instance (priority:=100000) clP7 (p:Prop):Decidable p:=Classical.propDecidable p
@[simp] noncomputable def Zk (a b:D) (M:Store):R3 D:=match a,b with
 | .tup ds,.int i=>match Za0 ds i with
  | some d=>.ok d M
  | none=>.bad
 | .scr ds,.int i=>match Za0 ds i with
  | some d=>.ok d M
  | none=>.bad
 | .str x,.int i=>match Za0 x i with
  | some c=>if x.length ≤ SZ then .ok (.str [c]) M else .bad
  | none=>.bad
 | .ref n,.int i=>match M[n]? with
  | some (.lst ds)=>match Za0 ds i with
   | some d=>.ok d M
   | none=>.bad
  | _=>.bad
 | _,_=>.bad
end
@[simp] noncomputable def ZdJ:Option MO → Option (List (Zbl × D))
 | some (.dct kvs)=>some kvs
 | some (.fdct kvs)=>some kvs
 | _=>none
@[simp] noncomputable def Zsh (a b:D) (M:Store):R3 D:=match a with
 | .ref n=>match ZdJ M[n]?,Zga b with
  | some kvs,some x=>match ZcA kvs x with
   | some d=>.ok d M
   | none=>.bad
  | _,_=>.bad
 | _=>.bad
noncomputable def sIx (n d:Nat):Option Int → Nat
 | none=>d
 | some v=>if v < 0 then (v + (n:Int)).toNat else min v.toNat n
noncomputable def cutD {α:Type} (xs:List α) (lo hi:Option Int):List α:=(xs.drop (sIx xs.length 0 lo)).take (sIx xs.length xs.length hi - sIx xs.length 0 lo)
noncomputable abbrev EO3:=Zat → Store → R3 (Option Int)
@[simp] noncomputable def Zb7:EO3:=fun _ M=>.ok none M
@[simp] noncomputable def Zb8 (f:E3):EO3:=fun env M=>(f env M).bind fun a M1=>match a with
 | .int i=>.ok (some i) M1
 | _=>.bad
section
local instance (priority:=100000) clP8 (p:Prop):Decidable p:=Classical.propDecidable p
@[simp] noncomputable def ZhC (a:D) (lo hi:Option Int) (M:Store):R3 D:=match a with
 | .tup ds=>.ok (.tup (cutD ds lo hi)) M
 | .scr ds=>alloc (.lst (cutD ds lo hi)) M
 | .str x=>if x.length ≤ SZ then .ok (.str (cutD x lo hi)) M else .bad
 | .ref n=>match M[n]? with
  | some (.lst ds)=>alloc (.lst (cutD ds lo hi)) M
  | _=>.bad
 | _=>.bad
end
@[simp] noncomputable def eSl (f:E3) (lo hi:EO3):E3:=fun env M=>(f env M).bind fun a M1=>(lo env M1).bind fun l M2=>(hi env M2).bind fun h M3=>ZhC a l h M3
section
local instance (priority:=100000) clP9 (p:Prop):Decidable p:=Classical.propDecidable p
@[simp] noncomputable def Za7 (ds:List D) (M:Store):R3 D:=match ds with
 | [.tup x]=>.ok (.int x.length) M
 | [.scr x]=>.ok (.int x.length) M
 | [.str x]=>if x.length ≤ SZ then .ok (.int x.length) M else .bad
 | [.ref n]=>match M[n]? with
  | some (.lst x)=>.ok (.int x.length) M
  | _=>.bad
 | _=>.bad
end
@[simp] noncomputable def Zcd (ds:List D) (M:Store):R3 D:=match ds with
 | [.tup x]=>.ok (.tup x) M
 | [.scr x]=>.ok (.tup x) M
 | [.ref n]=>match M[n]? with
  | some (.lst x)=>.ok (.tup x) M
  | _=>.bad
 | _=>.bad
@[simp] noncomputable def Ze0 (ds:List D) (M:Store):R3 D:=match ds with
 | [.tup x]=>alloc (.lst x) M
 | [.scr x]=>alloc (.lst x) M
 | [.ref n]=>match M[n]? with
  | some (.lst x)=>alloc (.lst x) M
  | _=>.bad
 | _=>.bad
inductive Ty3 where
 | int | bool | str | list | tuple
 deriving DecidableEq
@[simp] noncomputable def ZcN (T:Ty3) (d:D) (M:Store):Option Bool:=match d with
 | .non=>some false
 | .bl _=>some (T == .bool || T == .int)
 | .int _=>some (T == .int)
 | .str _=>some (T == .str)
 | .tup _=>some (T == .tuple)
 | .scr _=>none
 | .ref n=>match M[n]? with
  | some (.lst _)=>some (T == .list)
  | some (.dct _)=>some false
  | some (.fdct _)=>none
  | some (.ins _ _)=>none
  | none=>none
@[simp] noncomputable def ZdA (T:Ty3) (d:D) (M:Store):R3 D:=match ZcN T d M with
 | some b=>.ok (.bl b) M
 | none=>.bad
noncomputable def isB:D → Bool
 | .bl _=>true
 | _=>false
noncomputable def isT:D → Bool
 | .bl b=>b
 | _=>false
noncomputable def allB (l:List D):Option Bool:=if l.all isB then some (l.all isT) else none
@[simp] noncomputable def Zkt (ds:List D) (M:Store):R3 D:=match ds with
 | [.ref n]=>match M[n]? with
  | some (.lst x)=>match allB x with
   | some b=>.ok (.bl b) M
   | none=>.bad
  | _=>.bad
 | _=>.bad
section
local instance (priority:=100000) clP11 (p:Prop):Decidable p:=Classical.propDecidable p
@[simp] noncomputable def ZaS (o:D) (ds:List D) (M:Store):R3 D:=match o,ds with
 | .ref n,[d]=>match M[n]? with
  | some (.lst x)=>if x.length < SZ then .ok .non (M.set n (.lst (x ++ [d]))) else .bad
  | _=>.bad
 | _,_=>.bad
end
section
local instance (priority:=100000) clPp (p:Prop):Decidable p:=Classical.propDecidable p
end
@[simp] noncomputable def tyL (a:D) (M:Store):Bool:=match a with
 | .ref n=>match M[n]? with
  | some (.lst _)=>true
  | _=>false
 | _=>false
@[simp] noncomputable def Zgs (a:D) (M:Store):Bool:=match a with
 | .ref n=>(ZdJ M[n]?).isSome
 | _=>false
@[simp] noncomputable def Zce (ty:D → Store → Bool) (m:D → List D → Store → R3 D) (o:E3) (g:EL3):E3:=fun env M=>(o env M).bind fun a M1=>if ty a M1 then (g env M1).bind fun ds M2=>m a ds M2 else .bad
@[simp] noncomputable def ZaL (b:List D → Store → R3 D) (g:EL3):E3:=fun env M=>(g env M).bind fun ds M1=>b ds M1
noncomputable def putD (k:Zbl) (v:D) (kvs:List (Zbl × D)):List (Zbl × D):=
 if (kvs.any fun p=>decide (p.1 = k)) = true then kvs.map (fun p=>if p.1 = k then (p.1,v) else p) else kvs ++ [(k,v)]
noncomputable abbrev EP3:=Zat → Store → R3 (List (Zbl × D))
@[simp] noncomputable def ZsX (f g:E3) (r:EP3):EP3:=fun env M=>(f env M).bind fun a M1=>(g env M1).bind fun b M2=>match Zga a with
 | some k=>(r env M2).bind fun l M3=>.ok ((k,b) :: l) M3
 | none=>.bad
noncomputable def dictOf (l:List (Zbl × D)):List (Zbl × D):=l.foldl (fun acc p=>putD p.1 p.2 acc) []
@[simp] noncomputable def e3 (op:D → D → D → Store → R3 D) (f g h:E3):E3:=fun env M=>(f env M).bind fun a M1=>(g env M1).bind fun b M2=>(h env M2).bind fun c M3=>op a b c M3
section
local instance (priority:=100000) clP12 (p:Prop):Decidable p:=Classical.propDecidable p
end
@[simp] noncomputable def Zfr (v a b:D) (M:Store):R3 D:=match a,b with
 | .ref n,.int i=>match M[n]? with
  | some (.lst xs)=>match ixD xs.length i with
   | some j=>.ok .non (M.set n (.lst (xs.set j v)))
   | none=>.bad
  | _=>.bad
 | _,_=>.bad
@[simp] noncomputable def ZgW (o:D) (ds:List D) (M:Store):R3 D:=match o,ds with
 | .ref n,[b]=>match ZdJ M[n]?,Zga b with
  | some kvs,some k=>.ok ((ZcA kvs k).getD .non) M
  | _,_=>.bad
 | .ref n,[b,d]=>match ZdJ M[n]?,Zga b with
  | some kvs,some k=>.ok ((ZcA kvs k).getD d) M
  | _,_=>.bad
 | _,_=>.bad
noncomputable def ZcX:List D → Option (List (Zbl × D))
 | []=>some []
 | .tup [a,b] :: r=>match Zga a with
  | some k=>(ZcX r).map fun l=>(k,b) :: l
  | none=>none
 | _ :: _=>none
section
local instance (priority:=100000) clP13 (p:Prop):Decidable p:=Classical.propDecidable p
@[simp] noncomputable def Zc6 (ds:List D) (M:Store):R3 D:=match ds with
 | [.ref n]=>match ZdJ M[n]? with
  | some kvs=>alloc (.dct kvs) M
  | none=>.bad
 | [.tup x]=>match ZcX x with
  | some l=>if l.length ≤ 100000 then alloc (.dct (dictOf l)) M else .bad
  | none=>.bad
 | _=>.bad
end
@[simp] noncomputable def Zrz (ds:List D) (M:Store):R3 D:=match ds with
 | [.int i]=>.ok (.int i) M
 | [.bl b]=>.ok (.int (if b then 1 else 0)) M
 | _=>.bad
noncomputable def ltT:List D → List D → Option Bool
 | [],[]=>some false
 | [],_ :: _=>some true
 | _ :: _,[]=>some false
 | .int i :: x,.int j :: y=>if i = j then ltT x y else some (decide (i < j))
 | .str a :: x,.str b :: y=>if a = b then ltT x y else some (decide (a < b))
 | _ :: _,_ :: _=>none
noncomputable def ltD:D → D → Option Bool
 | .tup a,.tup b=>ltT a b
 | .int i,.int j=>some (decide (i < j))
 | _,_=>none
noncomputable def leD (a b:D):Prop:=ltD b a = some false
noncomputable def Zhd (x y:List D):Prop:=y.Perm x ∧ y.Pairwise leD
noncomputable def Zda:D → Bool
 | .tup (.int _ :: _)=>true
 | _=>false
noncomputable def Zfh:D → Bool
 | .int _=>true
 | _=>false
structure ZmM (x:List D):Prop where
 len:x.length < 64
 kind:x.all Zda = true ∨ x.all Zfh = true
 cmp:∀ a ∈ x,∀ b ∈ x,(ltD a b).isSome = true
section
local instance (priority:=100000) clPs (p:Prop):Decidable p:=Classical.propDecidable p
noncomputable def Zk7 (x:List D):List D:=if h:∃ y,Zhd x y then h.choose else x
@[simp] noncomputable def ZdR (ds:List D) (M:Store):R3 D:=match ds with
 | [.ref n]=>match M[n]? with
  | some (.lst x)=>if ZmM x then alloc (.lst (Zk7 x)) M else .bad
  | _=>.bad
 | _=>.bad
end
noncomputable def Zam:S3:=fun env M=>.nx env M
noncomputable def Zj0:S3:=fun _ _=>.bad
noncomputable def Zx (f g:S3):S3:=fun env M=>match f env M with
 | .nx env' M'=>g env' M'
 | o=>o
noncomputable def sIf (c:E3) (f g:S3):S3:=fun env M=>match c env M with
 | .ok (.bl true) M1=>f env M1
 | .ok (.bl false) M1=>g env M1
 | .exc x M1=>.exc x M1
 | _=>.bad
noncomputable def Zax (f:E3):S3:=fun env M=>match f env M with
 | .ok d M1=>.rt d M1
 | .exc x M1=>.exc x M1
 | .bad=>.bad
noncomputable def ZaP (f:E3):S3:=fun env M=>match f env M with
 | .ok _ M1=>.nx env M1
 | .exc x M1=>.exc x M1
 | .bad=>.bad
noncomputable def Zaj (i:Nat) (f:E3):S3:=fun env M=>match f env M with
 | .ok d M1=>.nx (env.set i (some d)) M1
 | .exc x M1=>.exc x M1
 | .bad=>.bad
noncomputable def ZbR (o i f:E3):S3:=ZaP (e3 Zfr f o i)
noncomputable abbrev G3:=D → Zat → Option Zat
@[simp] noncomputable def Zci (i:Nat):G3:=fun d env=>some (env.set i (some d))
@[simp] noncomputable def bindAll:List Nat → List D → Zat → Option Zat
 | [],[],env=>some env
 | i :: is,d :: ds,env=>bindAll is ds (env.set i (some d))
 | _,_,_=>none
@[simp] noncomputable def Zep (is:List Nat):G3:=fun d env=>match d with
 | .tup ds=>bindAll is ds env
 | _=>none
structure It3 where
 items:List D
 lock:Option Nat
noncomputable abbrev I3:=Zat → Store → R3 It3
section
local instance (priority:=100000) clP14 (p:Prop):Decidable p:=Classical.propDecidable p
@[simp] noncomputable def ZfW (f:E3):I3:=fun env M=>(f env M).bind fun a M1=>match a with
 | .tup ds=>.ok ⟨ds,none⟩ M1
 | .scr ds=>.ok ⟨ds,none⟩ M1
 | .str x=>if x.length ≤ SZ then .ok ⟨x.map fun c=>.str [c],none⟩ M1 else .bad
 | .ref n=>match M1[n]? with
  | some (.lst ds)=>.ok ⟨ds,some n⟩ M1
  | _=>.bad
 | _=>.bad
end
noncomputable def Zc4 (lo:Int) (n:Nat):List D:=(List.range n).map fun (k:Nat)=>D.int (lo + (k:Int))
section
local instance (priority:=100000) clP15 (p:Prop):Decidable p:=Classical.propDecidable p
@[simp] noncomputable def ZcO (f:E3):I3:=fun env M=>(f env M).bind fun a M1=>match a with
 | .int j=>if j ≤ 1000000 ∧ -1000000 ≤ j then .ok ⟨Zc4 0 j.toNat,none⟩ M1 else .bad
 | _=>.bad
end
section
local instance (priority:=100000) clP16 (p:Prop):Decidable p:=Classical.propDecidable p
@[simp] noncomputable def ZfA (f g:E3):I3:=fun env M=>(f env M).bind fun a M1=>(g env M1).bind fun b M2=>match a,b with
 | .int i,.int j=>if (j ≤ 1000000 ∧ -1000000 ≤ j) ∧ (i ≤ 1000000 ∧ -1000000 ≤ i) then .ok ⟨Zc4 i (j - i).toNat,none⟩ M2 else .bad
 | _,_=>.bad
end
noncomputable def locked (it:It3) (M:Store):Bool:=match it.lock with
 | none=>true
 | some n=>decide (M[n]? = some (.lst it.items))
noncomputable def Zeo (it:It3) (g:G3) (body:S3):List D → Zat → Store → O3
 | [],env,M=>if locked it M then .nx env M else .bad
 | d :: ds,env,M=>if locked it M then match g d env with
  | none=>.bad
  | some env1=>match body env1 M with
   | .nx e M'=>Zeo it g body ds e M'
   | .ct e M'=>Zeo it g body ds e M'
   | .bk e M'=>.nx e M'
   | o=>o
  else .bad
noncomputable def Zjg (i:I3) (g:G3) (body:S3):S3:=fun env M=>match i env M with
 | .ok it M1=>Zeo it g body it.items env M1
 | .exc x M1=>.exc x M1
 | .bad=>.bad
noncomputable def Zdv (c:E3) (body:S3):Nat → Zat → Store → O3
 | 0,_,_=>.bad
 | n + 1,env,M=>match c env M with
  | .ok (.bl true) M1=>match body env M1 with
   | .nx e M'=>Zdv c body n e M'
   | .ct e M'=>Zdv c body n e M'
   | .bk e M'=>.nx e M'
   | o=>o
  | .ok (.bl false) M1=>.nx env M1
  | .exc x M1=>.exc x M1
  | _=>.bad
noncomputable def Zg2 (c:E3) (body:S3):S3:=Zdv c body 1000000
noncomputable def Zdf:List E3 → Zat → Store → R3 Bool
 | [],_,M=>.ok true M
 | c :: cs,env,M=>(c env M).bind fun a M1=>match a with
  | .bl true=>Zdf cs env M1
  | .bl false=>.ok false M1
  | _=>.bad
section
local instance (priority:=100000) clP17 (p:Prop):Decidable p:=Classical.propDecidable p
noncomputable def Zca (it:It3) (g:G3) (ifs:List E3) (elt:E3) (n:Nat):List D → Zat → Store → R3 D
 | [],_,M=>if locked it M then .ok (.ref n) M else .bad
 | d :: ds,env,M=>if locked it M then match g d env with
  | none=>.bad
  | some env1=>(Zdf ifs env1 M).bind fun b M1=>if b then (elt env1 M1).bind fun e M2=>match M2[n]? with
    | some (.lst x)=>if x.length < SZ then Zca it g ifs elt n ds env1 (M2.set n (.lst (x ++ [e]))) else .bad
    | _=>.bad
   else Zca it g ifs elt n ds env1 M1
  else .bad
end
noncomputable def eLC (i:I3) (own:Nat) (g:G3) (ifs:List E3) (elt:E3):E3:=fun env M=>(i env M).bind fun it M1=>
 Zca it g ifs elt M1.length it.items (env ++ List.replicate own none) (M1 ++ [.lst []])
noncomputable def Zfk (n:Nat):MO → Bool
 | .lst xs=>belowL n xs
 | .dct kvs=>belowL n (kvs.map (·.2))
 | .fdct kvs=>belowL n (kvs.map (·.2))
 | .ins _ fs=>belowL n (fs.map (·.2))
noncomputable def ZcB (M:Store) (d:D) (M':Store):R3 D:=
 if below M.length d && (decide (M'.take M.length = M) || (M'.take M.length).all (Zfk M.length)) then .ok d (M'.take M.length) else .ok d M'
noncomputable def mkF (ps n:Nat) (body:S3):F3:=fun ds M=>if ds.length = ps then match body (ds.map some ++ List.replicate (n - ps) none) M with
  | .nx _ M'=>ZcB M .non M'
  | .rt d M'=>ZcB M d M'
  | .exc x M'=>.exc x M'
  | _=>.bad
 else .bad
end
theorem ZgL:∀ (a b:List D),ltT a b = some true → ltT b a = some false
 | [],[],h=>by simp [ltT] at h
 | [],_ :: _,_=>by simp [ltT]
 | _ :: _,[],h=>by simp [ltT] at h
 | .int i :: x,.int j :: y,h=>by
  simp only [ltT] at h ⊢
  by_cases e:i = j
  ·subst e; simp only [if_true] at h ⊢; exact ZgL x y h
  ·rw [if_neg e] at h
   rw [if_neg (Ne.symm e)]
   simp only [Option.some.injEq,decide_eq_true_eq,decide_eq_false_iff_not] at h ⊢
   exact fun z=>iN [] [_,_] 2 25796087953 T1 z h
 | .str p :: x,.str q :: y,h=>by
  simp only [ltT] at h ⊢
  by_cases e:p = q
  ·subst e; simp only [if_true] at h ⊢; exact ZgL x y h
  ·rw [if_neg e] at h
   rw [if_neg (Ne.symm e)]
   simp only [Option.some.injEq,decide_eq_true_eq,decide_eq_false_iff_not] at h ⊢
   exact fun z=>List.lt_irrefl _ (List.lt_trans h z)
 | .non :: _,_ :: _,h=>by simp [ltT] at h
 | .bl _ :: _,_ :: _,h=>by simp [ltT] at h
 | .tup _ :: _,_ :: _,h=>by simp [ltT] at h
 | .scr _ :: _,_ :: _,h=>by simp [ltT] at h
 | .ref _ :: _,_ :: _,h=>by simp [ltT] at h
 | .int _ :: _,.non :: _,h=>by simp [ltT] at h
 | .int _ :: _,.bl _ :: _,h=>by simp [ltT] at h
 | .int _ :: _,.str _ :: _,h=>by simp [ltT] at h
 | .int _ :: _,.tup _ :: _,h=>by simp [ltT] at h
 | .int _ :: _,.scr _ :: _,h=>by simp [ltT] at h
 | .int _ :: _,.ref _ :: _,h=>by simp [ltT] at h
 | .str _ :: _,.non :: _,h=>by simp [ltT] at h
 | .str _ :: _,.bl _ :: _,h=>by simp [ltT] at h
 | .str _ :: _,.int _ :: _,h=>by simp [ltT] at h
 | .str _ :: _,.tup _ :: _,h=>by simp [ltT] at h
 | .str _ :: _,.scr _ :: _,h=>by simp [ltT] at h
 | .str _ :: _,.ref _ :: _,h=>by simp [ltT] at h
theorem ZdI {p:Prop} {b:Bool} (h:(none:Option Bool) = some b):p:=by cases h
theorem Zd2 {d e:D} {x y:List D} {r:Bool} (h:ltT (d :: x) (e :: y) = some r):(∃ i j,d = .int i ∧ e = .int j) ∨ ∃ i j,d = .str i ∧ e = .str j:=by
 cases d with
 | int i=>cases e with
  | int j=>exact .inl ⟨_,_,rfl,rfl⟩
  | _=>exact ZdI h
 | str i=>cases e with
  | str j=>exact .inr ⟨_,_,rfl,rfl⟩
  | _=>exact ZdI h
 | _=>cases e <;> exact ZdI h
theorem ZjT:∀ (a b c:List D),ltT b a = some false → ltT c b = some false → ltT c a = some false
 | [],b,c,h1,h2=>by cases c <;> simp [ltT]
 | _ :: _,[],c,h1,h2=>by simp [ltT] at h1
 | _ :: _,_ :: _,[],h1,h2=>by simp [ltT] at h2
 | d :: x,e :: y,f :: z,h1,h2=>by
  rcases Zd2 h1 with ⟨j,i,rfl,rfl⟩ | ⟨j,i,rfl,rfl⟩
  ·rcases Zd2 h2 with ⟨k,j',rfl,e⟩ | ⟨k,j',rfl,e⟩
   ·cases e
    simp only [ltT] at h1 h2 ⊢
    by_cases e1:j = i
    ·subst e1
     simp only [if_true] at h1
     by_cases e2:k = j
     ·subst e2; simp only [if_true] at h2 ⊢; exact ZjT x y z h1 h2
     ·rw [if_neg e2] at h2 ⊢; exact h2
    ·rw [if_neg e1] at h1
     by_cases e2:k = j
     ·subst e2; rw [if_neg e1]; exact h1
     ·rw [if_neg e2] at h2
      simp only [Option.some.injEq,decide_eq_false_iff_not] at h1 h2
      rw [if_neg (by exact fun z=>iN [] [_,_] 2 26047746257 T1 h1 (Int.lt_iff_le_and_ne.2 ⟨(iN [] [_,_,_] 2 1271860891809 T1 z h2),e1⟩))]
      simp only [Option.some.injEq,decide_eq_false_iff_not]; exact fun z=>iN [] [_,_,_] 3 0x612d120d11091 T1 z h2 h1
   ·cases e
  ·rcases Zd2 h2 with ⟨k,j',rfl,e⟩ | ⟨k,j',rfl,e⟩
   ·cases e
   ·cases e
    simp only [ltT] at h1 h2 ⊢
    by_cases e1:j = i
    ·subst e1
     simp only [if_true] at h1
     by_cases e2:k = j
     ·subst e2; simp only [if_true] at h2 ⊢; exact ZjT x y z h1 h2
     ·rw [if_neg e2] at h2 ⊢; exact h2
    ·rw [if_neg e1] at h1
     by_cases e2:k = j
     ·subst e2; rw [if_neg e1]; exact h1
     ·rw [if_neg e2] at h2
      simp only [Option.some.injEq,decide_eq_false_iff_not,List.not_lt] at h1 h2
      have h3:i ≤ k:=List.le_trans h1 h2
      have ne:k ≠ i:=fun z=>by subst z; exact e1 (List.le_antisymm h2 h1)
      rw [if_neg ne]
      simp only [Option.some.injEq,decide_eq_false_iff_not,List.not_lt]; exact h3
theorem ZgR:∀ (a b:List D),ltT a b = some false → ltT b a = some false → a = b
 | [],[],_,_=>rfl
 | [],_ :: _,h,_=>by simp [ltT] at h
 | _ :: _,[],_,h=>by simp [ltT] at h
 | d :: x,e :: y,h1,h2=>by
  rcases Zd2 h1 with ⟨i,j,rfl,rfl⟩ | ⟨i,j,rfl,rfl⟩
  ·simp only [ltT] at h1 h2
   by_cases e1:i = j
   ·subst e1; simp only [if_true] at h1 h2; rw [ZgR x y h1 h2]
   ·rw [if_neg e1] at h1
    rw [if_neg (Ne.symm e1)] at h2
    simp only [Option.some.injEq,decide_eq_false_iff_not] at h1 h2
    exact (iN [] [_,_] 2 26047746257 T1 h1 (Int.lt_iff_le_and_ne.2 ⟨(Int.not_lt.1 h2),e1⟩)).elim
  ·simp only [ltT] at h1 h2
   by_cases e1:i = j
   ·subst e1; simp only [if_true] at h1 h2; rw [ZgR x y h1 h2]
   ·rw [if_neg e1] at h1
    rw [if_neg (Ne.symm e1)] at h2
    simp only [Option.some.injEq,decide_eq_false_iff_not,List.not_lt] at h1 h2
    exact absurd (List.le_antisymm h2 h1) e1
theorem Zi6 {a b:D} (h:ltD a b = some true):ltD b a = some false:=by
 cases a with
 | int i=>cases b with
  | int j=>
   simp only [ltD,Option.some.injEq,decide_eq_true_eq,decide_eq_false_iff_not] at h ⊢; exact fun z=>iN [] [_,_] 2 25796087953 T1 z h
  | _=>exact ZdI h
 | tup x=>cases b with
  | tup y=>exact ZgL _ _ h
  | _=>exact ZdI h
 | _=>exact ZdI h
theorem ZpN {a b c:D} (h1:ltD b a = some false) (h2:ltD c b = some false):ltD c a = some false:=by
 cases b with
 | int j=>cases a with
  | int i=>cases c with
   | int k=>
    simp only [ltD,Option.some.injEq,decide_eq_false_iff_not] at h1 h2 ⊢; exact fun z=>iN [] [_,_,_] 3 0x612d120d11091 T1 z h2 h1
   | _=>exact ZdI h2
  | _=>exact ZdI h1
 | tup y=>cases a with
  | tup x=>cases c with
   | tup z=>exact ZjT _ _ _ h1 h2
   | _=>exact ZdI h2
  | _=>exact ZdI h1
 | _=>exact ZdI h1
theorem ZmY {a b:D} (h1:ltD a b = some false) (h2:ltD b a = some false):a = b:=by
 cases a with
 | int i=>cases b with
  | int j=>
   simp only [ltD,Option.some.injEq,decide_eq_false_iff_not] at h1 h2; rw [show i = j by exact Int.le_antisymm (Int.not_lt.1 h2) (Int.not_lt.1 h1)]
  | _=>exact ZdI h1
 | tup x=>cases b with
  | tup y=>rw [ZgR _ _ h1 h2]
  | _=>exact ZdI h1
 | _=>exact ZdI h1
theorem ZhR:∀ {x y:List D},y.Perm x → x.Pairwise leD → y.Pairwise leD → y = x
 | [],y,p,_,_=>p.eq_nil
 | a :: x,y,p,hx,hy=>by
  cases y with
  | nil=>exact (p.symm.eq_nil).symm ▸ rfl
  | cons b y=>
   have hx':=List.pairwise_cons.mp hx
   have hy':=List.pairwise_cons.mp hy
   have e:b = a:=by
    rcases List.mem_cons.mp (p.mem_iff.mp List.mem_cons_self) with h | h
    ·exact h
    ·rcases List.mem_cons.mp (p.mem_iff.mpr (List.mem_cons_self (a:=a) (l:=x))) with h' | h'
     ·exact h'.symm
     ·exact ZmY (hx'.1 b h) (hy'.1 a h')
   subst e
   rw [ZhR (List.Perm.cons_inv p) hx'.2 hy'.2]
theorem Zi5 {x y:List D} (h:Zhd x y):Zk7 x = y:=by
 unfold Zk7
 rw [dif_pos ⟨y,h⟩]
 have hc:=Exists.choose_spec (⟨y,h⟩:∃ y,Zhd x y)
 exact ZhR (hc.1.trans h.1.symm) h.2 hc.2
end L3
namespace L3
theorem ZgH {it:It3} {i n:Nat} {elt:E3} {R:D → D → Prop} {env0:Zat}:∀ (ds:List D) (acc:List D) (env:Zat) (M:Store),(∀ d,env.set i (some d) = env0.set i (some d)) →
  (∀ d ∈ ds,∀ x,∃ e,elt (env0.set i (some d)) (M.set n (.lst x)) = .ok e (M.set n (.lst x)) ∧ R d e) → (∀ x,locked it (M.set n (.lst x)) = true) → M[n]? = some (.lst acc) → acc.length + ds.length ≤ SZ →
  ∃ es,es.length = ds.length ∧ (∀ (j:Nat) d e,ds[j]? = some d → es[j]? = some e → R d e) ∧ Zca it (Zci i) [] elt n ds env M = .ok (.ref n) (M.set n (.lst (acc ++ es))):=by
 intro ds
 induction ds with
 | nil=>
  intro acc env M _ _ hl hM _
  have e:M.set n (.lst acc) = M:=by
   apply List.ext_getElem?
   intro j
   by_cases hj:j = n
   ·subst hj
    rw [List.getElem?_set_self (List.getElem?_eq_some_iff.mp hM).1,hM]
   ·rw [List.getElem?_set_ne (Ne.symm hj)]
  have hl':=hl acc
  rw [e] at hl'
  exact ⟨[],rfl,fun j d e h=>by simp at h,by simp only [Zca,hl',if_true,List.append_nil,e]⟩
 | cons d ds ih=>
  intro acc env M he hf hl hM hz
  have hn:n < M.length:=(List.getElem?_eq_some_iff.mp hM).1
  have e:M.set n (.lst acc) = M:=by
   apply List.ext_getElem?
   intro j
   by_cases hj:j = n
   ·subst hj
    rw [List.getElem?_set_self hn,hM]
   ·rw [List.getElem?_set_ne (Ne.symm hj)]
  have hl':=hl acc
  rw [e] at hl'
  obtain ⟨v,hf',hR⟩:=hf d List.mem_cons_self acc
  rw [e] at hf'
  have hz':acc.length < SZ:=by simp at hz ⊢; exact lB 1 0xf42405b01f42405ba1c0c01 T1 hz
  obtain ⟨es,le,re,h⟩:=ih (acc ++ [v]) (env0.set i (some d)) (M.set n (.lst (acc ++ [v]))) (fun d'=>by rw [List.set_set]) (fun d' hd' x=>by rw [List.set_set]; exact hf d' (List.mem_cons_of_mem _ hd') x) (fun x=>by rw [List.set_set]; exact hl x) (by rw [List.getElem?_set_self hn]) (by simp at hz ⊢; exact lB 1 0xf42405b1a0cc0f42405ba1c0c01 T1 hz)
  refine ⟨v :: es,by simp [le],fun j d' e' h1 h2=>?_,?_⟩
  ·cases j with
   | zero=>simp at h1 h2; subst h1 h2; exact hR
   | succ j=>exact re j d' e' (by simpa using h1) (by simpa using h2)
  ·simp only [Zca,hl',if_true,Zci,he d,Zdf,R3.bind_ok,hf',hM,hz']
   rw [h,List.set_set]
   simp
theorem Zi1 {it:It3} {g:G3} {body:S3} {P:Nat → Zat → Store → Prop}:∀ (ds:List D) (j:Nat) (env:Zat) (M:Store),P j env M → (∀ j env M,P j env M → locked it M = true) →
  (∀ (k:Nat) d,ds[k]? = some d → ∀ env M,P (j + k) env M → ∃ env1 e' M',g d env = some env1 ∧ body env1 M = .nx e' M' ∧ P (j + k + 1) e' M') → ∃ e' M',Zeo it g body ds env M = .nx e' M' ∧ P (j + ds.length) e' M':=by
 intro ds
 induction ds with
 | nil=>intro j env M p hl _; exact ⟨env,M,by simp only [Zeo,hl j env M p,if_true],p⟩
 | cons d ds ih=>
  intro j env M p hl hs
  obtain ⟨env1,e',M',h1,h2,p'⟩:=hs 0 d rfl env M p
  obtain ⟨e2,M2,h3,p2⟩:=ih (j + 1) e' M' p' hl fun k d' hd' env M p=>by
   have:=hs (k + 1) d' (by simpa using hd') env M (by rw [show j + (k + 1) = j + 1 + k by exact Nat.le_antisymm (lB 0 1790139547840 T1) (lB 0 0xa1c0c1a0cc0 T1)]; exact p)
   rw [show j + (k + 1) + 1 = j + 1 + k + 1 by exact Nat.le_antisymm (lB 0 0xa1a0cccaa1c0cc0 T1) (lB 0 0xaa1c0cca1a0ccc0 T1)] at this
   exact this
  exact ⟨e2,M2,by simp only [Zeo,hl j env M p,if_true,h1,h2,h3],by rw [List.length_cons,show j + (ds.length + 1) = j + 1 + ds.length by exact Nat.le_antisymm (lB 0 1790139547840 T1) (lB 0 0xa1c0c1a0cc0 T1)]; exact p2⟩
theorem Zf {f g:S3} {env env':Zat} {M M':Store} (h:f env M = .nx env' M'):Zx f g env M = g env' M':=by rw [Zx,h]
theorem Zc0 {f g:S3} {env:Zat} {M M':Store} {d:D} (h:f env M = .rt d M'):Zx f g env M = .rt d M':=by rw [Zx,h]
theorem ZaM {c:E3} {f g:S3} {env:Zat} {M M':Store} (h:c env M = .ok (.bl true) M'):sIf c f g env M = f env M':=by rw [sIf,h]
theorem ZbT {c:E3} {f g:S3} {env:Zat} {M M':Store} (h:c env M = .ok (.bl false) M'):sIf c f g env M = g env M':=by rw [sIf,h]
theorem ZaH {f:E3} {env:Zat} {M M':Store} {d:D} (h:f env M = .ok d M'):Zax f env M = .rt d M':=by rw [Zax,h]
theorem Zq {f:E3} {i:Nat} {env env':Zat} {M M':Store} {d:D} (h:f env M = .ok d M') (he:env.set i (some d) = env':=by first | (dsimp only [List.set_cons_succ,List.set_cons_zero] <;> exact rfl) | exact rfl):Zaj i f env M = .nx env' M':=by rw [Zaj,h]; simp only [he]
theorem Zj {c:E3} {f:S3} {env:Zat} {M M':Store} (h:c env M = .ok (.bl false) M'):sIf c f Zam env M = .nx env M':=by rw [sIf,h]; rfl
theorem ZcH {f:E3} {env:Zat} {M M':Store} {d:D} (h:f env M = .ok d M'):ZaP f env M = .nx env M':=by rw [ZaP,h]
theorem Zk2 {i:I3} {g:G3} {u:S3} {env:Zat} {M M':Store} {it:It3} (h:i env M = .ok it M'):Zjg i g u env M = Zeo it g u it.items env M':=by rw [Zjg,h]
theorem Zf4 {i:I3} {own:Nat} {g:G3} {ts:List E3} {f:E3} {env:Zat} {M M':Store} {it:It3} (h:i env M = .ok it M'):eLC i own g ts f env M = Zca it g ts f M'.length it.items (env ++ List.replicate own none) (M' ++ [.lst []]):=by rw [eLC,h]; rfl
theorem ZcW {ps n:Nat} {body:S3} {ds:List D} {env:Zat} {M M':Store} {d:D} (h:body env M = .rt d M') (hl:ds.length = ps:=by rfl) (he:ds.map some ++ List.replicate (n - ps) none = env:=by rfl):mkF ps n body ds M = ZcB M d M':=by rw [mkF,if_pos hl,he,h]
theorem ZpS {ps n:Nat} {body:S3} {ds:List D} {env env':Zat} {M M':Store} (h:body env M = .nx env' M') (hl:ds.length = ps:=by rfl) (he:ds.map some ++ List.replicate (n - ps) none = env:=by rfl):mkF ps n body ds M = ZcB M .non M':=by rw [mkF,if_pos hl,he,h]
theorem Znq {M G:Store} {d:D} (h:below M.length d = true):ZcB M d (M ++ G) = .ok d M:=by
 simp [ZcB,h]
end L3
namespace L3
theorem ZaA {α:Type} (M:List α) (x:α) (xs:List α):(M ++ x :: xs)[M.length]? = some x:=by simp
theorem ZgC {α:Type} (M xs:List α) (k:Nat):(M ++ xs)[M.length + k]? = xs[k]?:=by
 rw [List.getElem?_append_right (Nat.le_add_right _ _)]; congr 1; exact Nat.le_antisymm (lC 1 2199589555233 T1 (Nat.sub_add_cancel (Nat.le_add_right _ _))) (lC 1 2267788938241 T1 (sbA _ _))
theorem ZeP {α:Type} (M xs:List α) (k:Nat) (o:α):(M ++ xs).set (M.length + k) o = M ++ xs.set k o:=by
 rw [List.set_append_right _ _ (Nat.le_add_right _ _)]; congr 2; exact Nat.le_antisymm (lC 1 2199589555233 T1 (Nat.sub_add_cancel (Nat.le_add_right _ _))) (lC 1 2267788938241 T1 (sbA _ _))
theorem Zal {α:Type} {M:List α} {n:Nat} {o:α} (h:M[n]? = some o) (xs:List α):(M ++ xs)[n]? = some o:=by
 rw [List.getElem?_append_left (List.getElem?_eq_some_iff.mp h).1,h]
theorem ZaT {α:Type} (xs:List α) (k:Nat):Za0 xs (k:Int) = xs[k]?:=by
 unfold Za0 ixD
 rw [if_pos (Int.natCast_nonneg k)]
 by_cases h:k < xs.length
 ·rw [if_pos (Int.ofNat_lt.2 h)]; simp
 ·rw [if_neg (by exact fun z=>iN [_,_] [] 2 6667149772945 T1 z h)]; simp at h ⊢; exact h
@[simp] theorem Zdl {α:Type} (xs:List α) (k:Nat):Za0 xs (k:Int) = xs[k]?:=ZaT xs k
@[simp] theorem ZqT {α:Type} (xs:List α) (n:Nat):Za0 xs (no_index (OfNat.ofNat n:Int)) = xs[(OfNat.ofNat n:Nat)]?:=ZaT xs n
@[simp] theorem ZqK {α:Type} (xs:List α):Za0 xs (-1) = xs.getLast?:=by
 unfold Za0 ixD
 rw [if_neg (by decide),List.getLast?_eq_getElem?]
 by_cases h:0 < xs.length
 ·rw [if_pos (by exact iN [_] [] 1 725993655825 T1 h)]
  simp only [Option.bind_some]
  congr 1; exact Nat.le_antisymm (iN [_,_,_] [] 2 0x200a2c10118a9c08a1 T1 (Int.toNat_of_nonneg (iN [_] [] 1 595337940497 T1 h)) (sbA _ _)) (iN [_,_,_] [] 2 0x1200a2c211808a9c81 T1 (Int.self_le_toNat _) (Nat.sub_add_cancel (lA 1 10489361 T1 h)))
 ·have:xs = []:=by simpa using h
  subst this; rfl
theorem Zlb (n k:Nat):ixD n (k:Int) = if k < n then some k else none:=by
 unfold ixD
 rw [if_pos (Int.natCast_nonneg k)]
 by_cases h:k < n
 ·rw [if_pos (Int.ofNat_lt.2 h),if_pos h]; simp
 ·rw [if_neg (by exact fun z=>iN [_,_] [] 2 6667149772945 T1 z h),if_neg h]
@[simp] theorem ZrE (n k:Nat):ixD n (k:Int) = if k < n then some k else none:=Zlb n k
@[simp] theorem ZrZ (m n:Nat):ixD m (no_index (OfNat.ofNat n:Int)) = if (OfNat.ofNat n:Nat) < m then some (OfNat.ofNat n:Nat) else none:=Zlb m n
theorem getD_last {α:Type} (xs:List α) (x:α):Za0 (xs ++ [x]) (-1) = some x:=by
 unfold Za0 ixD
 rw [if_neg (by decide),if_pos (by simp; exact iN [_] [] 0 10521768 T1)]
 have:(-1 + ((xs ++ [x]).length:Int)).toNat = xs.length:=by simp; exact Nat.le_antisymm (iN [_,_] [] 1 4514701222086817 T1 (Int.toNat_of_nonneg (iN [_] [] 0 43097169128 T1))) (iN [_,_] [] 1 4505291991981185 T1 (Int.self_le_toNat _))
 simp only [Option.bind_some,this]
 simp
inductive Row where
 | put (a:Nat) (n:Int) | add (a b c:Nat) | sub (a b c:Nat) | more (a b c:Nat) | get (a b:Nat) | set (a b:Nat) | jump (k:Nat) | when (a k:Nat) | tell (a:Nat) | halt
 deriving Inhabited
noncomputable def Zw:Row → D
 | .put a n=>.tup [.str [112,117,116],.int a,.int n]
 | .add a b c=>.tup [.str [97,100,100],.int a,.int b,.int c]
 | .sub a b c=>.tup [.str [115,117,98],.int a,.int b,.int c]
 | .more a b c=>.tup [.str [109,111,114,101],.int a,.int b,.int c]
 | .get a b=>.tup [.str [103,101,116],.int a,.int b]
 | .set a b=>.tup [.str [115,101,116],.int a,.int b]
 | .jump k=>.tup [.str [106,117,109,112],.int k]
 | .when a k=>.tup [.str [119,104,101,110],.int a,.int k]
 | .tell a=>.tup [.str [116,101,108,108],.int a]
 | .halt=>.tup [.str [104,97,108,116]]
noncomputable def Row.ok (many:Nat):Row → Prop
 | .put a _=>a < 8
 | .add a b c=>a < 8 ∧ b < 8 ∧ c < 8
 | .sub a b c=>a < 8 ∧ b < 8 ∧ c < 8
 | .more a b c=>a < 8 ∧ b < 8 ∧ c < 8
 | .get a b=>a < 8 ∧ b < 8
 | .set a b=>a < 8 ∧ b < 8
 | .jump k=>k < many
 | .when a k=>a < 8 ∧ k < many
 | .tell a=>a < 8
 | .halt=>True
noncomputable abbrev ZcV:=List Row
noncomputable def Zy (r:ZcV):D:=.tup (r.map Zw)
structure Zj2 (r:ZcV):Prop where
 rows:∀ x ∈ r,x.ok r.length
 last:∃ q x,r = q ++ [x] ∧ (x = .halt ∨ ∃ k,x = .jump k)
structure Stt where
 place:Nat
 boxes:List Int
 cells:List (Int × Int)
 deriving Inhabited,DecidableEq
noncomputable def Zt (bs:List Int):D:=.tup (bs.map D.int)
noncomputable def Zaa (c:Int × Int):D:=.tup [.int c.1,.int c.2]
noncomputable def Zv (cs:List (Int × Int)):D:=.tup (cs.map Zaa)
noncomputable def Ze (s:Stt):D:=.tup [.int s.place,Zt s.boxes,Zv s.cells]
noncomputable def Stt.ok (r:ZcV) (s:Stt):Prop:=s.place < r.length ∧ s.boxes.length = 8
noncomputable def Row.tells (bs:List Int):Row → Option Int
 | .tell a=>bs[a]?
 | _=>none
noncomputable def Row.isHalt:Row → Bool
 | .halt=>true
 | _=>false
@[simp] theorem ZqH {a:Nat} {n:Int} {bs:List Int}:(Row.put a n).tells bs = none:=rfl
@[simp] theorem Zqo {a:Nat} {n:Int}:(Row.put a n).isHalt = false:=rfl
@[simp] theorem ZqL {a:Nat} {b:Nat} {c:Nat} {bs:List Int}:(Row.add a b c).tells bs = none:=rfl
@[simp] theorem ZpD {a:Nat} {b:Nat} {c:Nat}:(Row.add a b c).isHalt = false:=rfl
@[simp] theorem ZqJ {a:Nat} {b:Nat} {c:Nat} {bs:List Int}:(Row.sub a b c).tells bs = none:=rfl
@[simp] theorem Zpw {a:Nat} {b:Nat} {c:Nat}:(Row.sub a b c).isHalt = false:=rfl
@[simp] theorem Zpb {a:Nat} {b:Nat} {c:Nat} {bs:List Int}:(Row.more a b c).tells bs = none:=rfl
@[simp] theorem ZoD {a:Nat} {b:Nat} {c:Nat}:(Row.more a b c).isHalt = false:=rfl
@[simp] theorem Zqz {a:Nat} {b:Nat} {bs:List Int}:(Row.get a b).tells bs = none:=rfl
@[simp] theorem Zqm {a:Nat} {b:Nat}:(Row.get a b).isHalt = false:=rfl
@[simp] theorem ZqD {a:Nat} {b:Nat} {bs:List Int}:(Row.set a b).tells bs = none:=rfl
@[simp] theorem ZpY {a:Nat} {b:Nat}:(Row.set a b).isHalt = false:=rfl
@[simp] theorem ZpP {k:Nat} {bs:List Int}:(Row.jump k).tells bs = none:=rfl
@[simp] theorem ZoM {k:Nat}:(Row.jump k).isHalt = false:=rfl
@[simp] theorem Zp5 {a:Nat} {k:Nat} {bs:List Int}:(Row.when a k).tells bs = none:=rfl
@[simp] theorem ZoU {a:Nat} {k:Nat}:(Row.when a k).isHalt = false:=rfl
@[simp] theorem Zpz {a:Nat} {bs:List Int}:(Row.tell a).tells bs = bs[a]?:=rfl
@[simp] theorem ZoG {a:Nat}:(Row.tell a).isHalt = false:=rfl
@[simp] theorem ZpO  {bs:List Int}:(Row.halt).tells bs = none:=rfl
@[simp] theorem ZoO :(Row.halt).isHalt = true:=rfl
theorem ZfI (n:Nat) (i:Int):ZaB n (.int i) = true:=by cases n <;> rfl
theorem Zh9 (n:Nat) (bs:List Int):ZaB (n + 1) (Zt bs) = true:=by simp [Zt,ZaB,ZfI]
theorem ZgT (n:Nat) (cs:List (Int × Int)):ZaB (n + 2) (Zv cs) = true:=by simp [Zv,Zaa,ZaB,ZfI]
mutual
theorem ZlQ:∀ (n:Nat) (d:D),ZaB n d = true → deq d d = true
 | _,.non,_=>rfl
 | _,.bl _,_=>by simp [deq]
 | _,.int _,_=>by simp [deq]
 | _,.str _,_=>by simp [deq]
 | 0,.tup _,h=>by simp [ZaB] at h
 | n + 1,.tup ds,h=>by simp only [deq]; exact ZgG n ds (by simpa [ZaB] using h)
 | _,.scr _,h=>by simp [ZaB] at h
 | _,.ref _,h=>by simp [ZaB] at h
theorem ZgG:∀ (n:Nat) (ds:List D),(∀ d ∈ ds,ZaB n d = true) → Zcb ds ds = true
 | _,[],_=>rfl
 | n,d :: ds,h=>by
  simp only [Zcb,Bool.and_eq_true]
  exact ⟨ZlQ n d (h d List.mem_cons_self),ZgG n ds fun x hx=>h x (List.mem_cons_of_mem _ hx)⟩
end
end L3
namespace L3
noncomputable def Rt (o:O3) (d:D):Prop:=∃ M',o = .rt d M'
theorem Rt.set {i:Nat} {f:E3} {g:S3} {env env':Zat} {M M':Store} {d r:D} (h:f env M = .ok d M') (k:Rt (g env' M') r) (he:env.set i (some d) = env':=by first | (dsimp only [List.set_cons_succ,List.set_cons_zero] <;> exact rfl) | exact rfl):Rt (Zx (Zaj i f) g env M) r:=by
 rw [Rt,Zf (Zq h he)]; exact k
theorem Rt.expr {f:E3} {g:S3} {env:Zat} {M M':Store} {d r:D} (h:f env M = .ok d M') (k:Rt (g env M') r):Rt (Zx (ZaP f) g env M) r:=by
 rw [Rt,Zf (ZcH h)]; exact k
theorem Rt.skip {c:E3} {u g:S3} {env:Zat} {M M':Store} {r:D} (h:c env M = .ok (.bl false) M') (k:Rt (g env M') r):Rt (Zx (sIf c u Zam) g env M) r:=by
 rw [Rt,Zf (Zj h)]; exact k
theorem Rt.loop {i:I3} {t:G3} {u g:S3} {env env':Zat} {M M' M1:Store} {it:It3} {r:D} (h:i env M = .ok it M1) (hl:Zeo it t u it.items env M1 = .nx env' M') (k:Rt (g env' M') r):Rt (Zx (Zjg i t u) g env M) r:=by
 rw [Rt,Zf ((Zk2 h).trans hl)]; exact k
theorem Rt.step {f g:S3} {env env':Zat} {M M':Store} {r:D} (h:f env M = .nx env' M') (k:Rt (g env' M') r):Rt (Zx f g env M) r:=by
 rw [Rt,Zf h]; exact k
theorem Rt.ret {f:E3} {env:Zat} {M M':Store} {d:D} (h:f env M = .ok d M'):Rt (Zax f env M) d:=⟨M',ZaH h⟩
theorem Rt.law {ps n:Nat} {body:S3} {ds:List D} {env:Zat} {b:Bool} (h:Rt (body env []) (.bl b)) (hl:ds.length = ps:=by rfl) (he:ds.map some ++ List.replicate (n - ps) none = env:=by rfl):∃ M',mkF ps n body ds [] = .ok (.bl b) M':=by
 obtain ⟨M',h⟩:=h
 exact ⟨_,(ZcW h hl he).trans (by rw [ZcB,if_pos (by simp [below])])⟩
theorem Rt.pure {ps n:Nat} {body:S3} {ds:List D} {env:Zat} {M G:Store} {d:D} (h:body env M = .rt d (M ++ G)) (hd:below M.length d = true) (hl:ds.length = ps:=by rfl) (he:ds.map some ++ List.replicate (n - ps) none = env:=by rfl):mkF ps n body ds M = .ok d M:=
 (ZcW h hl he).trans (Znq hd)
theorem Zjx {α:Type} {enc:α → D} {P:Nat → α → Prop}:∀ (es:List D),(∀ (j:Nat) e,es[j]? = some e → ∃ a,e = enc a ∧ P j a) → ∃ as:List α,es = as.map enc ∧ ∀ (j:Nat) a,as[j]? = some a → P j a
 | [],_=>⟨[],rfl,fun j a h=>by simp at h⟩
 | e :: es,h=>by
  obtain ⟨a,rfl,pa⟩:=h 0 e rfl
  obtain ⟨as,rfl,ps⟩:=Zjx (enc:=enc) (P:=fun j=>P (j + 1)) es fun j e he=>h (j + 1) e (by simpa using he)
  refine ⟨a :: as,rfl,fun j b hb=>?_⟩
  cases j with
  | zero=>simp at hb; subst hb; exact pa
  | succ j=>exact ps j b (by simpa using hb)
theorem ZkK {n:Nat} {lo:Int} {j:Nat} {d:D} (h:(Zc4 lo n)[j]? = some d):d = .int (lo + j) ∧ j < n:=by
 unfold Zc4 at h
 rw [List.getElem?_map] at h
 cases q:(List.range n)[j]? with
 | none=>rw [q] at h; cases h
 | some k=>
  rw [q] at h
  obtain ⟨hi,e⟩:=List.getElem?_eq_some_iff.mp q
  rw [List.getElem_range] at e
  subst e
  simp at h hi
  exact ⟨h.symm,hi⟩
theorem Znu {n:Nat} {j:Nat} {d:D} (h:(Zc4 0 n)[j]? = some d):d = .int (j:Int) ∧ j < n:=by
 obtain ⟨e,l⟩:=ZkK h
 exact ⟨by rw [e,Int.zero_add],l⟩
theorem Zd8 (lo:Int) (n:Nat):(Zc4 lo n).length = n:=by simp [Zc4]
end L3
namespace L3
theorem Zf6 {o arg:E3} {env:Zat} {M M2:Store} {n:Nat} {xs ys:List D} {d:D} (ho:o env M = .ok (.ref n) M) (hM:M[n]? = some (.lst xs)) (ha:arg env M = .ok d M2) (hM2:M2[n]? = some (.lst ys)) (hz:ys.length < 1000000):
  Zce tyL ZaS o (Zb arg Zi) env M = .ok .non (M2.set n (.lst (ys ++ [d]))):=by
 simp [ho,hM,ha,hM2,hz]
theorem Zn {op:D → D → Store → R3 D} {f g:E3} {env:Zat} {M M1 M2 M3:Store} {a b d:D} (h1:f env M = .ok a M1) (h2:g env M1 = .ok b M2) (h3:op a b M2 = .ok d M3):e2 op f g env M = .ok d M3:=by
 simp only [e2,h1,h2,h3,R3.bind]
theorem Zdq {F:F3} {f:E3} {env:Zat} {M M1 M2:Store} {a d:D} (h1:f env M = .ok a M1) (h2:F [a] M1 = .ok d M2):Zai F (Zb f Zi) env M = .ok d M2:=by
 simp only [Zai,Zb,Zi,h1,h2,R3.bind]
theorem Zdr {F:F3} {f g:E3} {env:Zat} {M M1 M2 M3:Store} {a b d:D} (h1:f env M = .ok a M1) (h2:g env M1 = .ok b M2) (h3:F [a,b] M2 = .ok d M3):Zai F (Zb f (Zb g Zi)) env M = .ok d M3:=by
 simp only [Zai,Zb,Zi,h1,h2,h3,R3.bind]
theorem ZcL {F:F3} {f g h:E3} {env:Zat} {M M1 M2 M3 M4:Store} {a b c d:D} (h1:f env M = .ok a M1) (h2:g env M1 = .ok b M2) (h3:h env M2 = .ok c M3) (h4:F [a,b,c] M3 = .ok d M4):Zai F (Zb f (Zb g (Zb h Zi))) env M = .ok d M4:=by
 simp only [Zai,Zb,Zi,h1,h2,h3,h4,R3.bind]
@[simp] theorem Zsk (a b:Ty3):(a == b) = decide (a = b):=by cases a <;> cases b <;> rfl
theorem Zm0 {F:F3} {f g h k:E3} {env:Zat} {M M1 M2 M3 M4 M5:Store} {a b c d e:D} (h1:f env M = .ok a M1) (h2:g env M1 = .ok b M2) (h3:h env M2 = .ok c M3) (h4:k env M3 = .ok d M4) (h5:F [a,b,c,d] M4 = .ok e M5):Zai F (Zb f (Zb g (Zb h (Zb k Zi)))) env M = .ok e M5:=by
 simp only [Zai,Zb,Zi,h1,h2,h3,h4,h5,R3.bind]
theorem Zco {b:List D → Store → R3 D} {f:E3} {env:Zat} {M M1 M2:Store} {a d:D} (h1:f env M = .ok a M1) (h2:b [a] M1 = .ok d M2):ZaL b (Zb f Zi) env M = .ok d M2:=by
 simp only [ZaL,Zb,Zi,h1,h2,R3.bind]
theorem Zh1 {op:D → Store → R3 D} {f:E3} {env:Zat} {M M1 M2:Store} {a d:D} (h1:f env M = .ok a M1) (h2:op a M1 = .ok d M2):e1 op f env M = .ok d M2:=by
 simp only [e1,h1,h2,R3.bind]
theorem Zag {f:E3} {g:EL3} {env:Zat} {M M1 M2:Store} {d:D} {ds:List D} (h1:f env M = .ok d M1) (h2:g env M1 = .ok ds M2):Zb f g env M = .ok (d :: ds) M2:=by
 simp only [Zb,h1,h2,R3.bind]
theorem ZaW {g:EL3} {env:Zat} {M M':Store} {ds:List D} (h:g env M = .ok ds M') (hl:decide (ds.length ≤ 100) = true):Za4 g env M = .ok (.tup ds) M':=by
 have:=of_decide_eq_true hl
 simp only [Za4,h,R3.bind]
 rw [if_pos (Nat.le_trans this (by decide))]
theorem ZiM {n:Nat} {M:Store} {xs:List D} (h:M[n]? = some (.lst xs)):Za7 [.ref n] M = .ok (.int (xs.length:Int)) M:=by simp only [Za7,h]
theorem ZgD {n:Nat} {M:Store} {xs:List D} (h:M[n]? = some (.lst xs)):Zcd [.ref n] M = .ok (.tup xs) M:=by simp only [Zcd,h]
theorem Zbo {n:Nat} {M:Store} {xs:List D} {i:Int} {d:D} (h:M[n]? = some (.lst xs)) (hd:Za0 xs i = some d):Zk (.ref n) (.int i) M = .ok d M:=by simp only [Zk,h,hd]
theorem ZeQ {M:Store} {xs:List D} {i:Int} {d:D} (hd:Za0 xs i = some d):Zk (.tup xs) (.int i) M = .ok d M:=by simp only [Zk,hd]
theorem Zjh {a b:Int} {M:Store} (h:a = b):Zaz (.int a) (.int b) M = .ok (.bl true) M:=by simp only [Zaz,eqD,decide_eq_true h]
theorem Zis {a b:Int} {M:Store} (h:¬ a = b):Zaz (.int a) (.int b) M = .ok (.bl false) M:=by simp only [Zaz,eqD,decide_eq_false h]
theorem ZaY {i j:Int} {M:Store} (h:0 < j):Zae (.int i) (.int j) M = .ok (.int (i % j)) M:=by simp only [Zae,if_pos h]
theorem Zgl {f g:E3} {env:Zat} {M M1:Store} (h1:f env M = .ok (.bl false) M1):eOr f g env M = g env M1:=by simp only [eOr,h1,R3.bind]
theorem ZoX {f g:E3} {env:Zat} {M M1:Store} (h1:f env M = .ok (.bl true) M1):eOr f g env M = .ok (.bl true) M1:=by simp only [eOr,h1,R3.bind]
theorem ZeG {f g:E3} {env:Zat} {M M1:Store} (h1:f env M = .ok (.bl true) M1):Zcm f g env M = g env M1:=by simp only [Zcm,h1,R3.bind]
theorem ZkC {f g:E3} {env:Zat} {M M1:Store} (h1:f env M = .ok (.bl false) M1):Zcm f g env M = .ok (.bl false) M1:=by simp only [Zcm,h1,R3.bind]
theorem Zm7 {α:Type} {enc:α → D} {h:α → D} {own:Nat} {i:Nat} {it:I3} {elt:E3} {env:Zat} {M M1:Store} {lock:Option Nat} {as:List α} (hi:it env M = .ok ⟨as.map enc,lock⟩ M1) (hlock:∀ n,lock = some n → M1[n]? = some (.lst (as.map enc)))
  (he:∀ a ∈ as,∀ M,elt ((env ++ List.replicate own none).set i (some (enc a))) M = .ok (h a) M) (hz:as.length ≤ 100000):eLC it own (Zci i) [] elt env M = .ok (.ref M1.length) (M1 ++ [.lst (as.map h)]):=by
 rw [Zf4 hi]
 obtain ⟨es,le,re,hh⟩:=ZgH (it:=⟨as.map enc,lock⟩) (i:=i) (n:=M1.length) (elt:=elt) (R:=fun d e=>∀ a ∈ as,d = enc a → e = h a) (env0:=env ++ List.replicate own none) (as.map enc) [] (env ++ List.replicate own none) (M1 ++ [.lst []]) (fun _=>rfl)
  (fun d hd x=>by
   obtain ⟨a,ha,rfl⟩:=List.mem_map.mp hd
   refine ⟨h a,he a ha _,fun b hb e=>?_⟩
   have h1:=he a ha []
   have h2:=he b hb []
   rw [e,h2] at h1
   injection h1 with h1 _
   exact h1.symm)
  (fun x=>by
   cases lock with
   | none=>rfl
   | some n=>
    have hn:=hlock n rfl
    have hlt:=(List.getElem?_eq_some_iff.mp hn).1
    simp only [locked,decide_eq_true_eq]
    rw [List.getElem?_set_ne (by exact fun z=>lB 2 25787699233 T1 z hlt),List.getElem?_append_left hlt,hn]) (by simp) (by simp; exact lA 1 0xf42405b00186a05b001 T1 hz)
 rw [show (⟨as.map enc,lock⟩:It3).items = as.map enc from rfl,hh]
 have:es = as.map h:=by
  apply List.ext_getElem?
  intro j
  rw [List.getElem?_map]
  cases ha:as[j]? with
  | none=>
   have:as.length ≤ j:=by simpa using ha
   simp [le]; exact this
  | some a=>
   have hj:j < es.length:=by
    have:=(List.getElem?_eq_some_iff.mp ha).1
    simpa [le] using this
   have h2:=re j (enc a) es[j] (by simp [ha]) (by simp [hj]) a (List.mem_of_getElem? ha) rfl
   rw [List.getElem?_eq_getElem hj,h2]; rfl
 rw [this]
 simp
end L3
namespace L3
noncomputable def Zc5 (t:List (Int × Int)):List (Zbl × D):=t.map fun p=>(.inl p.1,.int p.2)
noncomputable def keysOk (t:List (Int × Int)):Prop:=(t.map (·.1)).Nodup
noncomputable def Zdx:List (Int × Int) → Int → Int
 | [],_=>0
 | (k,v) :: r,n=>if k = n then v else Zdx r n
theorem ZmZ (t:List (Int × Int)) (n:Int):ZcA (Zc5 t) (.inl n) = (if t.any (fun p=>decide (p.1 = n)) = true then some (D.int (Zdx t n)) else none):=by
 induction t with
 | nil=>rfl
 | cons p t ih=>
  obtain ⟨k,v⟩:=p
  show (if (Sum.inl k:Zbl) = Sum.inl n then some (D.int v) else ZcA (Zc5 t) (.inl n)) = _
  by_cases e:k = n
  ·simp [e,Zdx]
  ·rw [if_neg (by simp [e]),ih]
   simp only [List.any_cons,Zdx,if_neg e,decide_eq_false e,Bool.false_or]
theorem ZhN {t:List (Int × Int)} {n:Int} (h:¬ t.any (fun p=>decide (p.1 = n)) = true):Zdx t n = 0:=by
 induction t with
 | nil=>rfl
 | cons p t ih=>
  obtain ⟨k,v⟩:=p
  simp only [List.any_cons,Bool.or_eq_true,decide_eq_true_eq,not_or] at h
  simp only [Zdx,if_neg h.1]
  exact ih (by simpa using h.2)
theorem ZmO (t:List (Int × Int)) (n:Int):(ZcA (Zc5 t) (.inl n)).getD (.int 0) = .int (Zdx t n):=by
 rw [ZmZ]
 by_cases c:(t.any fun p=>decide (p.1 = n)) = true
 ·rw [if_pos c]; rfl
 ·rw [if_neg c,ZhN c]; rfl
theorem Zl1 {t:List (Int × Int)} (h:keysOk t) {k v:Int} (hm:(k,v) ∈ t):Zdx t k = v:=by
 induction t with
 | nil=>simp at hm
 | cons p t ih=>
  obtain ⟨a,b⟩:=p
  unfold keysOk at h
  simp only [List.map_cons,List.nodup_cons] at h
  rcases List.mem_cons.mp hm with e | e
  ·cases e; simp [Zdx]
  ·have:a ≠ k:=fun z=>h.1 (List.mem_map.mpr ⟨(k,v),e,z.symm⟩)
   simp only [Zdx,if_neg this]
   exact ih h.2 e
noncomputable def ZeW (cs:List (Int × Int)):Prop:=cs.Pairwise fun a b=>a.1 < b.1
theorem ZeW.keys {cs:List (Int × Int)} (h:ZeW cs):keysOk cs:=by
 unfold keysOk ZeW at *
 rw [List.Nodup,List.pairwise_map]
 exact h.imp fun h=>(fun z=>iN [] [_,_] 2 26047746225 T1 z h)
noncomputable def Za1 (cs:List (Int × Int)) (n v:Int):List (Int × Int):=cs.filter (fun c=>decide (c.1 < n)) ++ (if v ≠ 0 then [(n,v)] else []) ++ cs.filter (fun c=>decide (n < c.1))
theorem Zgg {cs:List (Int × Int)} {n v:Int} {q:Int × Int}:q ∈ Za1 cs n v ↔ (q = (n,v) ∧ v ≠ 0) ∨ (q.1 ≠ n ∧ q ∈ cs):=by
 unfold Za1
 simp only [List.mem_append,List.mem_filter,decide_eq_true_eq]
 have hm:q ∈ (if v ≠ 0 then [(n,v)] else []) ↔ (q = (n,v) ∧ v ≠ 0):=by
  by_cases c:v ≠ 0
  ·rw [if_pos c]; simp [c]
  ·rw [if_neg c]; simp [c]
 rw [hm]
 constructor
 ·rintro ((⟨h1,h2⟩ | h) | ⟨h1,h2⟩)
  ·right; exact ⟨(fun z=>iN [] [_,_] 2 26047746225 T1 z h2),h1⟩
  ·left; exact h
  ·right; exact ⟨(fun z=>iN [] [_,_] 2 25796087969 T1 z h2),h1⟩
 ·rintro (h | ⟨h1,h2⟩)
  ·left; right; exact h
  ·rcases Int.lt_or_gt_of_ne h1 with c | c
   ·left; left; exact ⟨h2,c⟩
   ·right; exact ⟨h2,c⟩
theorem Zee {cs:List (Int × Int)} {n v:Int} (h:ZeW cs):ZeW (Za1 cs n v):=by
 unfold Za1 ZeW at *
 have hm:∀ q ∈ (if v ≠ 0 then [(n,v)] else []),q.1 = n:=fun q hq=>by
  by_cases c:v ≠ 0
  ·rw [if_pos c] at hq; simp at hq; rw [hq]
  ·rw [if_neg c] at hq; simp at hq
 refine List.pairwise_append.mpr ⟨List.pairwise_append.mpr ⟨h.filter _,?_,fun a ha b hb=>?_⟩,h.filter _,fun a ha b hb=>?_⟩
 ·by_cases c:v ≠ 0
  ·rw [if_pos c]; simp
  ·rw [if_neg c]; simp
 ·have h1:=(List.mem_filter.mp ha).2
  rw [hm b hb]; simpa using h1
 ·have h2:n < b.1:=by simpa using (List.mem_filter.mp hb).2
  rcases List.mem_append.mp ha with ha | ha
  ·have:a.1 < n:=by simpa using (List.mem_filter.mp ha).2
   exact Int.lt_trans this h2
  ·rw [hm a ha]; exact h2
noncomputable def Row.place (bs:List Int) (p:Nat):Row → Nat
 | .jump k=>k
 | .when a k=>if 0 < bs.getD a 0 then k else p + 1
 | _=>p + 1
noncomputable def Row.boxes (bs:List Int) (cs:List (Int × Int)):Row → List Int
 | .put a n=>bs.set a n
 | .add a b c=>bs.set a (bs.getD b 0 + bs.getD c 0)
 | .sub a b c=>bs.set a (bs.getD b 0 - bs.getD c 0)
 | .more a b c=>bs.set a (if bs.getD c 0 < bs.getD b 0 then 1 else 0)
 | .get a b=>bs.set a (Zdx cs (bs.getD b 0))
 | _=>bs
noncomputable def Row.cells (bs:List Int) (cs:List (Int × Int)):Row → List (Int × Int)
 | .set a b=>Za1 cs (bs.getD a 0) (bs.getD b 0)
 | _=>cs
noncomputable def Zfz (s:Stt) (r:Row):Option Stt:=if r.isHalt then none else some ⟨r.place s.boxes s.place,r.boxes s.boxes s.cells,r.cells s.boxes s.cells⟩
noncomputable def Za6 (roll:ZcV) (s:Stt):Option Stt:=(roll[s.place]?).bind (Zfz s)
noncomputable def ZeT:Option Stt → D
 | none=>.non
 | some s=>Ze s
theorem Zfi (cs:List (Int × Int)):ZcX (cs.map Zaa) = some (Zc5 cs):=by
 induction cs with
 | nil=>rfl
 | cons p cs ih=>simp only [List.map_cons,Zaa,ZcX,Zga,ih,Option.map_some,Zc5]
theorem Zmh (kvs:List (Zbl × D)) (k j:Zbl) (v:D):ZcA (putD k v kvs) j = if j = k then some v else ZcA kvs j:=by
 have mp:∀ l:List (Zbl × D),ZcA (l.map fun p=>if p.1 = k then (p.1,v) else p) j = if j = k then (if l.any (fun p=>decide (p.1 = k)) then some v else none) else ZcA l j:=by
  intro l
  induction l with
  | nil=>simp [ZcA]
  | cons p l ih=>
   obtain ⟨a,b⟩:=p
   rw [List.map_cons]
   by_cases e:a = k
   ·subst e
    simp only [if_true,ZcA]
    by_cases ej:a = j
    ·subst ej; simp
    ·rw [if_neg ej,ih,if_neg (Ne.symm ej),if_neg (Ne.symm ej),if_neg ej]
   ·simp only [if_neg e,ZcA]
    by_cases ej:a = j
    ·subst ej; simp [e]
    ·rw [if_neg ej,ih,if_neg ej]; simp only [List.any_cons,decide_eq_false e,Bool.false_or]
 have ap:∀ l:List (Zbl × D),¬ l.any (fun p=>decide (p.1 = k)) = true → ZcA (l ++ [(k,v)]) j = if j = k then some v else ZcA l j:=by
  intro l
  induction l with
  | nil=>intro _; simp only [List.nil_append,ZcA]; by_cases e:k = j <;> simp [e,Ne.symm,eq_comm]
  | cons p l ih=>
   intro h
   obtain ⟨a,b⟩:=p
   simp only [List.any_cons,Bool.or_eq_true,decide_eq_true_eq,not_or] at h
   simp only [List.cons_append,ZcA]
   by_cases ej:a = j
   ·subst ej; rw [if_pos rfl,if_neg h.1,if_pos rfl]
   ·rw [if_neg ej,if_neg ej]; exact ih (by simpa using h.2)
 unfold putD
 by_cases c:(kvs.any fun p=>decide (p.1 = k)) = true
 ·rw [if_pos c,mp,c]; simp
 ·rw [if_neg c]; exact ap kvs c
theorem Zh4:∀ (l acc:List (Zbl × D)) (j:Zbl),(l.map (·.1)).Nodup → ZcA (l.foldl (fun a p=>putD p.1 p.2 a) acc) j = (match ZcA l j with | some v=>some v | none=>ZcA acc j)
 | [],acc,j,_=>rfl
 | p :: l,acc,j,h=>by
  obtain ⟨k,v⟩:=p
  simp only [List.map_cons,List.nodup_cons] at h
  rw [List.foldl_cons,Zh4 l _ j h.2,Zmh]
  simp only [ZcA]
  by_cases e:k = j
  ·subst e
   have:ZcA l k = none:=by
    have hn:=h.1
    clear h
    induction l with
    | nil=>rfl
    | cons q l ih=>
     simp only [List.map_cons,List.mem_cons,not_or] at hn
     simp only [ZcA]
     rw [if_neg (Ne.symm hn.1)]; exact ih hn.2
   rw [this]; simp
  ·rw [if_neg e,if_neg (Ne.symm e)]
theorem Zlr {t:List (Int × Int)} (h:keysOk t):((Zc5 t).map (·.1)).Nodup:=by
 unfold keysOk at h
 simp only [Zc5,List.map_map]
 rw [List.Nodup,List.pairwise_map] at *
 exact h.imp fun h e=>h (by simpa using e)
theorem Zf8 {t:List (Int × Int)} (h:keysOk t) (n:Int):(ZcA (dictOf (Zc5 t)) (.inl n)).getD (.int 0) = .int (Zdx t n):=by
 unfold dictOf
 rw [Zh4 _ _ _ (Zlr h),← ZmO]
 cases ZcA (Zc5 t) (.inl n) <;> rfl
theorem Zio {α:Type} {enc h:α → D} {p:α → Bool} {it:It3} {i n:Nat} {c elt:E3} {env0:Zat}:∀ (as:List α) (acc:List D) (env:Zat) (M:Store),(∀ d,env.set i (some d) = env0.set i (some d)) →
  (∀ a ∈ as,∀ x,c (env0.set i (some (enc a))) (M.set n (.lst x)) = .ok (.bl (p a)) (M.set n (.lst x))) → (∀ a ∈ as,p a = true → ∀ x,elt (env0.set i (some (enc a))) (M.set n (.lst x)) = .ok (h a) (M.set n (.lst x))) →
  (∀ x,locked it (M.set n (.lst x)) = true) → M[n]? = some (.lst acc) → acc.length + as.length ≤ SZ →
  Zca it (Zci i) [c] elt n (as.map enc) env M = .ok (.ref n) (M.set n (.lst (acc ++ (as.filter p).map h))):=by
 intro as
 induction as with
 | nil=>
  intro acc env M _ _ _ hl hM _
  have e:M.set n (.lst acc) = M:=by
   apply List.ext_getElem?
   intro j
   by_cases hj:j = n
   ·subst hj; rw [List.getElem?_set_self (List.getElem?_eq_some_iff.mp hM).1,hM]
   ·rw [List.getElem?_set_ne (Ne.symm hj)]
  have hl':=hl acc
  rw [e] at hl'
  simp only [List.map_nil,Zca,hl',if_true,List.filter_nil,List.append_nil,e]
 | cons a as ih=>
  intro acc env M he hc hf hl hM hz
  have hn:n < M.length:=(List.getElem?_eq_some_iff.mp hM).1
  have e:M.set n (.lst acc) = M:=by
   apply List.ext_getElem?
   intro j
   by_cases hj:j = n
   ·subst hj; rw [List.getElem?_set_self hn,hM]
   ·rw [List.getElem?_set_ne (Ne.symm hj)]
  have hl':=hl acc
  rw [e] at hl'
  have hc':=hc a List.mem_cons_self acc
  rw [e] at hc'
  rw [List.map_cons]
  cases hp:p a with
  | false=>
   rw [hp] at hc'
   simp only [Zca,hl',if_true,Zci,he (enc a),Zdf,hc',R3.bind,Bool.false_eq_true,if_false]
   rw [ih acc (env0.set i (some (enc a))) M (fun d'=>by rw [List.set_set]) (fun b hb x=>hc b (List.mem_cons_of_mem _ hb) x) (fun b hb=>hf b (List.mem_cons_of_mem _ hb)) hl hM (by simp at hz ⊢; exact lB 1 0xf42405b10c0f42405ba1c0c01 T1 hz),List.filter_cons_of_neg (by simp [hp])]
  | true=>
   rw [hp] at hc'
   have hf':=hf a List.mem_cons_self hp acc
   rw [e] at hf'
   have hz':acc.length < SZ:=by simp at hz ⊢; exact lB 1 0xf42405b01f42405ba1c0c01 T1 hz
   simp only [Zca,hl',if_true,Zci,he (enc a),Zdf,hc',R3.bind,hf',hM,hz']
   rw [ih (acc ++ [h a]) (env0.set i (some (enc a))) (M.set n (.lst (acc ++ [h a]))) (fun d'=>by rw [List.set_set]) (fun b hb x=>by rw [List.set_set]; exact hc b (List.mem_cons_of_mem _ hb) x) (fun b hb hpb x=>by rw [List.set_set]; exact hf b (List.mem_cons_of_mem _ hb) hpb x) (fun x=>by rw [List.set_set]; exact hl x) (by rw [List.getElem?_set_self hn]) (by simp at hz ⊢; exact lB 1 0xf42405b1a0cc0f42405ba1c0c01 T1 hz),List.filter_cons_of_pos hp,List.set_set]
   simp
theorem ZeM {α:Type} {enc h:α → D} {p:α → Bool} {own:Nat} {i:Nat} {it:I3} {c elt:E3} {env:Zat} {M M1:Store} {lock:Option Nat} {as:List α} (hi:it env M = .ok ⟨as.map enc,lock⟩ M1) (hlock:∀ n,lock = some n → M1[n]? = some (.lst (as.map enc)))
  (hc:∀ a ∈ as,∀ M,c ((env ++ List.replicate own none).set i (some (enc a))) M = .ok (.bl (p a)) M) (he:∀ a ∈ as,p a = true → ∀ M,elt ((env ++ List.replicate own none).set i (some (enc a))) M = .ok (h a) M) (hz:as.length ≤ 100000):
  eLC it own (Zci i) [c] elt env M = .ok (.ref M1.length) (M1 ++ [.lst ((as.filter p).map h)]):=by
 rw [Zf4 hi]
 have:=Zio (it:=⟨as.map enc,lock⟩) (i:=i) (n:=M1.length) (c:=c) (elt:=elt) (env0:=env ++ List.replicate own none) as [] (env ++ List.replicate own none) (M1 ++ [.lst []]) (fun _=>rfl) (fun a ha x=>hc a ha _) (fun a ha hp x=>he a ha hp _)
  (fun x=>by
   cases lock with
   | none=>rfl
   | some n=>
    have hn:=hlock n rfl
    have hlt:=(List.getElem?_eq_some_iff.mp hn).1
    simp only [locked,decide_eq_true_eq]
    rw [List.getElem?_set_ne (by exact fun z=>lB 2 25787699233 T1 z hlt),List.getElem?_append_left hlt,hn]) (by simp) (by simp; exact lA 1 0xf42405b00186a05b001 T1 hz)
 refine this.trans ?_
 simp
theorem Zj9 {x y:List (Int × Int)} (hp:y.Perm x) (hr:ZeW y):Zhd (x.map Zaa) (y.map Zaa):=by
 refine ⟨hp.map _,?_⟩
 rw [List.pairwise_map]
 refine hr.imp fun {a b} h=>?_
 show (if b.1 = a.1 then _ else _) = _
 rw [if_neg (by omega),decide_eq_false (by exact fun z=>iN [] [_,_] 2 25796087953 T1 z h)]
theorem ZiH {x:List (Int × Int)} (h:x.length < 64):ZmM (x.map Zaa):=by
 refine ⟨by simpa using h,.inl (by simp [Zaa,Zda]),fun a ha b hb=>?_⟩
 obtain ⟨p,_,rfl⟩:=List.mem_map.mp ha
 obtain ⟨q,_,rfl⟩:=List.mem_map.mp hb
 simp only [ltD,Zaa,ltT]
 split
 ·split
  ·rfl
  ·rfl
 ·rfl
end L3
namespace L3
theorem Zff {cs:List (Int × Int)} (h:ZeW cs) (n v:Int):(Za1 cs n v).length ≤ cs.length + 1:=by
 unfold Za1
 have f:(cs.filter (fun c=>decide (c.1 < n))).length + (cs.filter (fun c=>decide (n < c.1))).length ≤ cs.length:=by
  clear h
  induction cs with
  | nil=>simp
  | cons c cs ih=>
   simp only [List.filter_cons]
   by_cases h1:c.1 < n
   ·have h2:¬ n < c.1:=(fun z=>iN [] [_,_] 2 25796087953 T1 z h1)
    simp only [h1,h2,decide_true,decide_false,if_true,Bool.false_eq_true,if_false,List.length_cons]; exact lC 1 0xa2c1a0cc0210c01 T1 ih
   ·by_cases h2:n < c.1
    ·simp only [h1,h2,decide_true,decide_false,if_true,Bool.false_eq_true,if_false,List.length_cons]; exact lC 1 0xa2ca1c0c0210c01 T1 ih
    ·simp only [h1,h2,decide_false,Bool.false_eq_true,if_false,List.length_cons]; exact lC 1 0xa2c10c0210c01 T1 ih
 rw [List.length_append,List.length_append]
 split <;> simp only [List.length_cons,List.length_nil] <;> omega
end L3
namespace L3
structure Good (roll:ZcV) (s:Stt):Prop where
 pl:s.place < roll.length
 bx:s.boxes.length = 8
 rs:ZeW s.cells
theorem ZlV (r:Row) (bs:List Int) (cs:List (Int × Int)):(r.boxes bs cs).length = bs.length:=by cases r <;> simp [Row.boxes]
theorem ZlT {roll:ZcV} (R:Zj2 roll) {s s':Stt} (g:Good roll s) (h:Za6 roll s = some s'):Good roll s' ∧ s'.cells.length ≤ s.cells.length + 1:=by
 obtain ⟨hp,hb,hc⟩:=g
 have hr:roll[s.place]? = some roll[s.place]:=by simp [hp]
 have ro:=R.rows _ (List.getElem_mem hp)
 unfold Za6 at h
 rw [hr] at h
 have h':Zfz s roll[s.place] = some s':=h
 unfold Zfz at h'
 split at h'
 ·cases h'
 ·rename_i nh
  cases h'
  have nl:roll[s.place] ≠ .halt → (∀ k,roll[s.place] ≠ .jump k) → s.place + 1 < roll.length:=fun n1 n2=>by
   obtain ⟨q,x,e,hx⟩:=R.last
   have hl:roll.length = q.length + 1:=by rw [e]; simp
   by_cases c:s.place = q.length
   ·have:roll[s.place] = x:=by
     have:=hr
     simp only [e,c] at this
     simp at this
     simp [c,e]
    rw [this] at n1 n2
    rcases hx with hx | ⟨k,hx⟩
    ·exact absurd hx n1
    ·exact absurd hx (n2 k)
   ·exact lC 2 0xa2c11211a1c031 T1 hl (Nat.lt_of_le_of_ne (lC 2 316668234547233 T1 hl hp) c)
  have nh':roll[s.place] ≠ .halt:=fun z=>by rw [z] at nh; simp at nh
  refine ⟨⟨?_,by rw [ZlV]; exact hb,?_⟩,?_⟩
  ·generalize roll[s.place] = r at ro nl nh'
   cases r with
   | jump k=>exact ro
   | when a k=>
    show (if 0 < s.boxes.getD a 0 then k else s.place + 1) < _
    split
    ·exact ro.2
    ·exact nl nh' (fun _ z=>by cases z)
   | halt=>exact absurd rfl nh'
   | _=>exact nl nh' (fun _ z=>by cases z)
  ·generalize roll[s.place] = r
   cases r with
   | set a b=>exact Zee hc
   | _=>exact hc
  ·generalize roll[s.place] = r
   cases r with
   | set a b=>exact Zff hc _ _
   | _=>exact Nat.le_succ _
end L3
namespace L3
noncomputable def ZnU (i:Int):List Nat:=(PySem.Str.ofString (toString i)).cps.toList
noncomputable section
local instance (priority:=100000) clQ1 (p:Prop):Decidable p:=Classical.propDecidable p
@[simp] noncomputable def Zs2 (ds:List D) (M:Store):R3 D:=match ds with
 | [.int i]=>if i.natAbs.log2 < 1920 then .ok (.str (ZnU i)) M else .bad
 | [.str x]=>.ok (.str x) M
 | _=>.bad
noncomputable def ZoJ:List D → Option (List (List Nat))
 | []=>some []
 | .str x :: ds=>(ZoJ ds).map (x :: ·)
 | _=>none
noncomputable def glue (sep:List Nat):List (List Nat) → List Nat
 | []=>[]
 | [x]=>x
 | x :: y :: xs=>x ++ sep ++ glue sep (y :: xs)
noncomputable def ZnI (sep:List Nat) (ts:List (List Nat)):Nat:=(ts.map fun t=>t.length + sep.length).sum
@[simp] noncomputable def ZsH (o:D) (ds:List D) (M:Store):R3 D:=match o,ds with
 | .str sep,[.ref n]=>match M[n]? with
  | some (.lst x)=>match ZoJ x with
   | some ts=>if ZnI sep ts ≤ SZ then .ok (.str (glue sep ts)) M else .bad
   | none=>.bad
  | _=>.bad
 | _,_=>.bad
@[simp] noncomputable def Znm (ds:List D) (M:Store):R3 D:=match ds with
 | [.str x]=>match PySem.intText? ⟨x.toArray⟩ with
  | some n=>if x.length ≤ 640 then .ok (.int n) M else .bad
  | none=>.bad
 | ds=>Zrz ds M
@[simp] noncomputable def ZfG (T1 T2:Ty3) (d:D) (M:Store):R3 D:=match ZcN T1 d M,ZcN T2 d M with
 | some a,some b=>.ok (.bl (a || b)) M
 | _,_=>.bad
end
end L3
namespace L3
noncomputable section
noncomputable def Zg1 (f:E3) (g:G3):S3:=fun env M=>match f env M with
 | .ok d M1=>match g d env with
  | some env1=>.nx env1 M1
  | none=>.bad
 | .exc x M1=>.exc x M1
 | .bad=>.bad
structure ItL where
 items:List D
 lk:List (Nat × List D)
noncomputable def Zdh (lk:List (Nat × List D)) (M:Store):Bool:=lk.all fun q=>decide (M[q.1]? = some (.lst q.2))
noncomputable def Ze6 (lk:List (Nat × List D)) (g:G3) (body:S3):List D → Zat → Store → O3
 | [],env,M=>if Zdh lk M then .nx env M else .bad
 | d :: ds,env,M=>if Zdh lk M then match g d env with
  | none=>.bad
  | some env1=>match body env1 M with
   | .nx e M'=>Ze6 lk g body ds e M'
   | .ct e M'=>Ze6 lk g body ds e M'
   | .bk e M'=>.nx e M'
   | o=>o
  else .bad
noncomputable abbrev IL3:=Zat → Store → R3 ItL
noncomputable def ZkL (i:IL3) (g:G3) (body:S3):S3:=fun env M=>match i env M with
 | .ok it M1=>Ze6 it.lk g body it.items env M1
 | .exc x M1=>.exc x M1
 | .bad=>.bad
noncomputable def Zd0:Nat → List D → List D
 | _,[]=>[]
 | k,d :: ds=>.tup [.int k,d] :: Zd0 (k + 1) ds
@[simp] noncomputable def Zl0 (f:E3):IL3:=fun env M=>(f env M).bind fun a M1=>match a with
 | .tup ds=>.ok ⟨Zd0 0 ds,[]⟩ M1
 | .ref n=>match M1[n]? with
  | some (.lst ds)=>.ok ⟨Zd0 0 ds,[(n,ds)]⟩ M1
  | _=>.bad
 | _=>.bad
@[simp] noncomputable def ZsN (a b:D) (M:Store):R3 D:=match a,b with
 | .tup [.int i,.int j],.tup [.int k,.int l]=>.ok (.bl (decide (i < k) || (decide (i = k) && decide (j ≤ l)))) M
 | _,_=>.bad
noncomputable def ZhW (f:E3) (is:List Nat):S3:=fun env M=>match f env M with
 | .ok (.ref n) M1=>(match M1[n]? with
  | some (.lst ds)=>(match bindAll is ds env with
   | some env1=>.nx env1 M1
   | none=>.bad)
  | _=>.bad)
 | _=>.bad
@[simp] noncomputable def ZsG (ds:List D) (M:Store):R3 D:=match ds with
 | [.int i,.int j]=>.ok (.int (if j > i then j else i)) M
 | _=>.bad
@[simp] noncomputable def ZkW (ds:List D) (M:Store):R3 D:=match ds with
 | [.int i,.int j]=>.ok (.int (if j < i then j else i)) M
 | _=>.bad
@[simp] noncomputable def Zge (a b:D) (M:Store):R3 D:=match b with
 | .ref n=>match M[n]? with
  | some (.lst ys)=>if ZaZ a && ys.all ZaZ then .ok (.bl (ys.any fun y=>deq y a)) M else .bad
  | _=>.bad
 | _=>.bad
theorem ZfY:∀ (k:Nat) (ds:List D) (i:Nat),(Zd0 k ds)[i]? = (ds[i]?).map fun d=>.tup [.int ((k + i:Nat):Int),d]
 | _,[],_=>by simp [Zd0]
 | k,d :: ds,0=>by simp [Zd0]
 | k,d :: ds,i + 1=>by
  simp only [Zd0,List.getElem?_cons_succ,ZfY (k + 1) ds i]
  rw [show k + 1 + i = k + (i + 1) by exact Nat.le_antisymm (lB 0 0xa1c0c1a0cc0 T1) (lB 0 1790139547840 T1)]
theorem Zgc:∀ (k:Nat) (ds:List D),(Zd0 k ds).length = ds.length
 | _,[]=>rfl
 | k,d :: ds=>by simp [Zd0,Zgc (k + 1) ds]
end
end L3
namespace L3
noncomputable section
section
local instance (priority:=100000) clZ1 (p:Prop):Decidable p:=Classical.propDecidable p
end
section
local instance (priority:=100000) clZ2 (p:Prop):Decidable p:=Classical.propDecidable p
end
end
end L3
namespace L3
noncomputable section
section
local instance (priority:=100000) clPg (p:Prop):Decidable p:=Classical.propDecidable p
end
end
end L3
namespace L3
noncomputable def ZgZ (f:List Nat) (d:D):List (List Nat × D) → List (List Nat × D)
 | []=>[(f,d)]
 | (g,x) :: r=>if g = f then (g,d) :: r else (g,x) :: ZgZ f d r
@[simp] noncomputable def ZdL (c f:List Nat) (a:D) (M:Store):R3 D:=match a with
 | .ref n=>match M[n]? with
  | some (.ins c' fs)=>if c' = c then (match fs.lookup f with
   | some d=>.ok d M
   | none=>.bad) else .bad
  | _=>.bad
 | _=>.bad
@[simp] noncomputable def Zf2 (c f:List Nat) (v a:D) (M:Store):R3 D:=match a with
 | .ref n=>match M[n]? with
  | some (.ins c' fs)=>if c' = c ∧ fs.length < 1000 then .ok .non (M.set n (.ins c (ZgZ f v fs))) else .bad
  | _=>.bad
 | _=>.bad
noncomputable def Zm1 (c f:List Nat) (o v:E3):S3:=ZaP (e2 (Zf2 c f) v o)
@[simp] noncomputable def Zh0 (c m:List Nat) (a:D) (M:Store):Bool:=match a with
 | .ref n=>match M[n]? with
  | some (.ins c' fs)=>decide (c' = c) && (fs.lookup m).isNone
  | _=>false
 | _=>false
@[simp] noncomputable def ZbA (c m:List Nat) (F:F3) (o:E3) (g:EL3):E3:=fun env M=>(o env M).bind fun a M1=>if Zh0 c m a M1 then (g env M1).bind fun ds M2=>F (a :: ds) M2 else .bad
@[simp] noncomputable def ZhM (c:List Nat) (F:F3) (g:EL3):E3:=fun env M=>(g env M).bind fun ds M1=>match F (.ref M1.length :: ds) (M1 ++ [.ins c []]) with
 | .ok .non M2=>.ok (.ref M1.length) M2
 | _=>.bad
end L3
namespace L3
open PySem PySem.Spec PyProof.Rows L2
noncomputable abbrev St:=L2.St
theorem ZbY:SZ ≤ sizeLine:=by rw [sizeLine_eq]; decide
noncomputable def SqF (K:PySem.W.Frag) (H:Hp) (a:Addr) (xs:List V):Prop:=
 (∃ o,H a = some (.frz o (.lst xs))) ∨
  ∃ (o:Obj) (its:Array Value) (n:Nat),K.lookup a = some o ∧ o.cls = .type "list" ∧ o.dict = none ∧ o.data = .seq its n ∧ its.size ≤ sizeLine ∧ Vals xs its.toList
theorem SqF.sq {K:PySem.W.Frag} {H:Hp} {a:Addr} {xs:List V} (h:SqF K H a xs):SqL K H a xs:=by
 rcases h with ⟨o,h⟩ | h
 ·exact .inl (.inr ⟨o,h⟩)
 ·exact .inr h
mutual
noncomputable def Rep (K:PySem.W.Frag) (H:Hp) (ι:List Addr):D → V → Prop
 | .non,v=>v = .non
 | .bl b,v=>v = .bl b
 | .int i,v=>v = .int i
 | .str x,v=>v = .str ⟨x.toArray⟩
 | .tup ds,v=>∃ a vs,v = .ref a ∧ SqT K H a vs ∧ Zaf K H ι ds vs
 | .scr ds,v=>∃ a vs,v = .ref a ∧ SqF K H a vs ∧ Zaf K H ι ds vs
 | .ref n,v=>∃ a,ι[n]? = some a ∧ v = .ref a
noncomputable def Zaf (K:PySem.W.Frag) (H:Hp) (ι:List Addr):List D → List V → Prop
 | [],vs=>vs = []
 | d :: ds,vs=>∃ v ws,vs = v :: ws ∧ Rep K H ι d v ∧ Zaf K H ι ds ws
end
structure Ext (K:PySem.W.Frag) (H:Hp) (ι:List Addr) (H':Hp) (ι':List Addr):Prop where
 tup:∀ a xs,SqT K H a xs → SqT K H' a xs
 scr:∀ a xs,SqF K H a xs → SqF K H' a xs
 pre:∀ (n:Nat) (a:Addr),ι[n]? = some a → ι'[n]? = some a
 frz:∀ a o u,H a = some (.frz o u) → H' a = some (.frz o u)
section
variable {K:PySem.W.Frag} {H H' H1 H2:Hp} {ι ι' ι1 ι2:List Addr}
theorem Ext.refl:Ext K H ι H ι:=⟨fun _ _ h=>h,fun _ _ h=>h,fun _ _ h=>h,fun _ _ _ h=>h⟩
theorem Ext.trans (a:Ext K H ι H1 ι1) (b:Ext K H1 ι1 H2 ι2):Ext K H ι H2 ι2:=
 ⟨fun x xs h=>b.tup x xs (a.tup x xs h),fun x xs h=>b.scr x xs (a.scr x xs h),fun n x h=>b.pre n x (a.pre n x h),fun x o u h=>b.frz x o u (a.frz x o u h)⟩
mutual
theorem Rep.mono (e:Ext K H ι H' ι'):∀ {d:D} {v:V},Rep K H ι d v → Rep K H' ι' d v
 | .non,_,h=>by simpa [Rep] using h
 | .bl _,_,h=>by simpa [Rep] using h
 | .int _,_,h=>by simpa [Rep] using h
 | .str _,_,h=>by simpa [Rep] using h
 | .tup ds,_,h=>by
  simp only [Rep] at h ⊢
  obtain ⟨a,vs,rfl,s,r⟩:=h
  exact ⟨a,vs,rfl,e.tup _ _ s,Zaf.mono e (ds:=ds) r⟩
 | .scr ds,_,h=>by
  simp only [Rep] at h ⊢
  obtain ⟨a,vs,rfl,s,r⟩:=h
  exact ⟨a,vs,rfl,e.scr _ _ s,Zaf.mono e (ds:=ds) r⟩
 | .ref n,_,h=>by
  simp only [Rep] at h ⊢
  obtain ⟨a,s,rfl⟩:=h
  exact ⟨a,e.pre _ _ s,rfl⟩
theorem Zaf.mono (e:Ext K H ι H' ι'):∀ {ds:List D} {vs:List V},Zaf K H ι ds vs → Zaf K H' ι' ds vs
 | [],_,h=>by simpa [Zaf] using h
 | d :: ds,_,h=>by
  simp only [Zaf] at h ⊢
  obtain ⟨v,ws,rfl,r,q⟩:=h
  exact ⟨v,ws,rfl,Rep.mono e (d:=d) r,Zaf.mono e (ds:=ds) q⟩
end
mutual
theorem Rep.keep (ht:∀ a xs,SqT K H a xs → SqT K H' a xs) (hs:∀ a xs,SqF K H a xs → SqF K H' a xs):∀ {d:D} {v:V},Rep K H ι d v → Rep K H' ι d v
 | .non,_,h=>by simpa [Rep] using h
 | .bl _,_,h=>by simpa [Rep] using h
 | .int _,_,h=>by simpa [Rep] using h
 | .str _,_,h=>by simpa [Rep] using h
 | .tup ds,_,h=>by
  simp only [Rep] at h ⊢
  obtain ⟨a,vs,rfl,s,r⟩:=h
  exact ⟨a,vs,rfl,ht _ _ s,Zaf.keep ht hs (ds:=ds) r⟩
 | .scr ds,_,h=>by
  simp only [Rep] at h ⊢
  obtain ⟨a,vs,rfl,s,r⟩:=h
  exact ⟨a,vs,rfl,hs _ _ s,Zaf.keep ht hs (ds:=ds) r⟩
 | .ref n,_,h=>by simpa [Rep] using h
theorem Zaf.keep (ht:∀ a xs,SqT K H a xs → SqT K H' a xs) (hs:∀ a xs,SqF K H a xs → SqF K H' a xs):∀ {ds:List D} {vs:List V},Zaf K H ι ds vs → Zaf K H' ι ds vs
 | [],_,h=>by simpa [Zaf] using h
 | d :: ds,_,h=>by
  simp only [Zaf] at h ⊢
  obtain ⟨v,ws,rfl,r,q⟩:=h
  exact ⟨v,ws,rfl,Rep.keep ht hs (d:=d) r,Zaf.keep ht hs (ds:=ds) q⟩
end
theorem Zaf.nil:Zaf K H ι [] []:=by simp [Zaf]
theorem Zaf.cons {d:D} {ds:List D} {v:V} {vs:List V} (h:Rep K H ι d v) (t:Zaf K H ι ds vs):Zaf K H ι (d :: ds) (v :: vs):=by
 simp only [Zaf]
 exact ⟨v,vs,rfl,h,t⟩
theorem Zaf.nil_inv {vs:List V} (h:Zaf K H ι [] vs):vs = []:=by simpa [Zaf] using h
theorem Zaf.cons_inv {d:D} {ds:List D} {vs:List V} (h:Zaf K H ι (d :: ds) vs):∃ v ws,vs = v :: ws ∧ Rep K H ι d v ∧ Zaf K H ι ds ws:=by simpa [Zaf] using h
theorem Zaf.length:∀ {ds:List D} {vs:List V},Zaf K H ι ds vs → vs.length = ds.length
 | [],_,h=>by rw [h.nil_inv]; rfl
 | d :: ds,_,h=>by
  obtain ⟨v,ws,rfl,_,q⟩:=h.cons_inv
  simp [q.length]
theorem Zaf.append:∀ {ds es:List D} {vs ws:List V},Zaf K H ι ds vs → Zaf K H ι es ws → Zaf K H ι (ds ++ es) (vs ++ ws)
 | [],_,_,_,h,q=>by rw [h.nil_inv]; exact q
 | d :: ds,_,_,_,h,q=>by
  obtain ⟨v,us,rfl,r,t⟩:=h.cons_inv
  exact Zaf.cons r (t.append q)
theorem Zaf.drop:∀ {ds:List D} {vs:List V} (n:Nat),Zaf K H ι ds vs → Zaf K H ι (ds.drop n) (vs.drop n)
 | _,_,0,h=>h
 | [],_,n + 1,h=>by rw [h.nil_inv]; exact Zaf.nil
 | d :: ds,_,n + 1,h=>by
  obtain ⟨v,us,rfl,r,t⟩:=h.cons_inv
  exact t.drop n
theorem Zaf.take:∀ {ds:List D} {vs:List V} (n:Nat),Zaf K H ι ds vs → Zaf K H ι (ds.take n) (vs.take n)
 | _,_,0,h=>Zaf.nil
 | [],_,n + 1,h=>by rw [h.nil_inv]; exact Zaf.nil
 | d :: ds,_,n + 1,h=>by
  obtain ⟨v,us,rfl,r,t⟩:=h.cons_inv
  exact Zaf.cons r (t.take n)
theorem Zaf.get:∀ {ds:List D} {vs:List V} {i:Nat} {d:D},Zaf K H ι ds vs → ds[i]? = some d → ∃ v,vs[i]? = some v ∧ Rep K H ι d v
 | [],_,_,_,_,e=>by simp at e
 | d :: ds,_,0,_,h,e=>by
  obtain ⟨v,us,rfl,r,t⟩:=h.cons_inv
  simp at e; subst e
  exact ⟨v,rfl,r⟩
 | d :: ds,_,i + 1,_,h,e=>by
  obtain ⟨v,us,rfl,r,t⟩:=h.cons_inv
  obtain ⟨w,q,z⟩:=t.get (i:=i) (by simpa using e)
  exact ⟨w,by simpa using q,z⟩
theorem Zaf.set:∀ {ds:List D} {vs:List V} {d:D} {v:V} (i:Nat),Zaf K H ι ds vs → Rep K H ι d v → Zaf K H ι (ds.set i d) (vs.set i v)
 | [],_,_,_,_,h,_=>by rw [h.nil_inv]; exact Zaf.nil
 | d :: ds,_,_,_,0,h,q=>by
  obtain ⟨v,us,rfl,r,t⟩:=h.cons_inv
  exact Zaf.cons q t
 | d :: ds,_,_,_,i + 1,h,q=>by
  obtain ⟨v,us,rfl,r,t⟩:=h.cons_inv
  exact Zaf.cons r (t.set i q)
theorem Zaf.ints:∀ (ns:List Int),Zaf K H ι (ns.map D.int) (ns.map V.int)
 | []=>Zaf.nil
 | n :: ns=>Zaf.cons (by simp [Rep]) (Zaf.ints ns)
theorem Rep.non_inv {v:V} (h:Rep K H ι .non v):v = .non:=by simpa [Rep] using h
theorem Rep.bl_inv {v:V} {b:Bool} (h:Rep K H ι (.bl b) v):v = .bl b:=by simpa [Rep] using h
theorem Rep.int_inv {v:V} {i:Int} (h:Rep K H ι (.int i) v):v = .int i:=by simpa [Rep] using h
theorem Rep.str_inv {v:V} {x:List Nat} (h:Rep K H ι (.str x) v):v = .str ⟨x.toArray⟩:=by simpa [Rep] using h
theorem Rep.tup_inv {v:V} {ds:List D} (h:Rep K H ι (.tup ds) v):∃ a vs,v = .ref a ∧ SqT K H a vs ∧ Zaf K H ι ds vs:=by simpa [Rep] using h
theorem Rep.scr_inv {v:V} {ds:List D} (h:Rep K H ι (.scr ds) v):∃ a vs,v = .ref a ∧ SqF K H a vs ∧ Zaf K H ι ds vs:=by simpa [Rep] using h
theorem Rep.ref_inv {v:V} {n:Nat} (h:Rep K H ι (.ref n) v):∃ a,ι[n]? = some a ∧ v = .ref a:=by simpa [Rep] using h
theorem Rep.non:Rep K H ι .non .non:=by simp [Rep]
theorem Rep.bl {b:Bool}:Rep K H ι (.bl b) (.bl b):=by simp [Rep]
theorem Rep.int {i:Int}:Rep K H ι (.int i) (.int i):=by simp [Rep]
theorem Rep.str {x:List Nat}:Rep K H ι (.str x) (.str ⟨x.toArray⟩):=by simp [Rep]
theorem Rep.tup {a:Addr} {vs:List V} {ds:List D} (s:SqT K H a vs) (r:Zaf K H ι ds vs):Rep K H ι (.tup ds) (.ref a):=by
 simp only [Rep]; exact ⟨a,vs,rfl,s,r⟩
theorem Rep.ref {a:Addr} {n:Nat} (s:ι[n]? = some a):Rep K H ι (.ref n) (.ref a):=by
 simp only [Rep]; exact ⟨a,s,rfl⟩
end
noncomputable def dk:Zbl → Key
 | .inl i=>.inl i
 | .inr x=>.inr ⟨x.toArray⟩
noncomputable def KvR (K:PySem.W.Frag) (H:Hp) (ι:List Addr) (kvs:List (Zbl × D)) (ws:List (Key × V)):Prop:=
 ws.map (·.1) = kvs.map (fun p=>dk p.1) ∧ Zaf K H ι (kvs.map (·.2)) (ws.map (·.2))
noncomputable def FsR (K:PySem.W.Frag) (H:Hp) (ι:List Addr) (fs:List (List Nat × D)) (gs:List (Str × V)):Prop:=
 gs.map (·.1) = fs.map (fun p=>(⟨p.1.toArray⟩:Str)) ∧ Zaf K H ι (fs.map (·.2)) (gs.map (·.2))
noncomputable def ClsAt (K:PySem.W.Frag) (c:List Nat) (C:Addr):Prop:=PySem.W.nsIn K mainGlobals ⟨c.toArray⟩ = some (some (.ref C))
noncomputable def Zft (K:PySem.W.Frag) (H:Hp) (ι:List Addr):MO → Addr → Prop
 | .lst xs,a=>∃ vs,H a = some (.lst vs) ∧ Zaf K H ι xs vs
 | .dct kvs,a=>∃ ws,H a = some (.dK ws) ∧ KvR K H ι kvs ws
 | .fdct kvs,a=>∃ ws,(∃ o,H a = some (.frz o (.dK ws))) ∧ KvR K H ι kvs ws
 | .ins c fs,a=>∃ C dx gs,H a = some (.ins C dx gs) ∧ ClsAt K c C ∧ FsR K H ι fs gs
structure Zau (K:PySem.W.Frag) (H:Hp) (ι:List Addr) (M:Store):Prop where
 len:ι.length = M.length
 nd:ι.Nodup
 obj:∀ (n:Nat) o a,M[n]? = some o → ι[n]? = some a → Zft K H ι o a
noncomputable def Loose (H:Hp) (p:Addr):Prop:=H p = none ∨ (∃ vs,H p = some (.lst vs)) ∨ (∃ ws,H p = some (.dK ws)) ∨ ∃ C dx gs,H p = some (.ins C dx gs)
section
variable {K:PySem.W.Frag} {H H':Hp} {ι ι':List Addr} {M:Store} {p:Addr} {o:HO}
theorem Loose.ne {a:Addr} {u:HO} (l:Loose H p) (h:H a = some u) (h1:∀ vs,u ≠ .lst vs) (h2:∀ ws,u ≠ .dK ws) (h3:∀ C dx gs,u ≠ .ins C dx gs:=by exact fun _ _ _ z=>nomatch z):a ≠ p:=by
 rintro rfl
 rcases l with l | ⟨vs,l⟩ | ⟨ws,l⟩ | ⟨C,dx,gs,l⟩
 ·rw [h] at l; cases l
 ·rw [h] at l; exact h1 vs (Option.some.inj l)
 ·rw [h] at l; exact h2 ws (Option.some.inj l)
 ·rw [h] at l; exact h3 C dx gs (Option.some.inj l)
theorem Loose.tup (l:Loose H p) {a:Addr} {xs:List V} (h:SqT K H a xs):SqT K (upd H p o) a xs:=by
 rcases h with (h | ⟨ob,h⟩) | h
 ·exact .inl (.inl (by rw [Za5 (l.ne h (fun _ z=>nomatch z) (fun _ z=>nomatch z))]; exact h))
 ·exact .inl (.inr ⟨ob,by rw [Za5 (l.ne h (fun _ z=>nomatch z) (fun _ z=>nomatch z))]; exact h⟩)
 ·exact .inr h
theorem Loose.scr (l:Loose H p) {a:Addr} {xs:List V} (h:SqF K H a xs):SqF K (upd H p o) a xs:=by
 rcases h with ⟨ob,h⟩ | h
 ·exact .inl ⟨ob,by rw [Za5 (l.ne h (fun _ z=>nomatch z) (fun _ z=>nomatch z))]; exact h⟩
 ·exact .inr h
theorem Loose.frz (l:Loose H p) {a:Addr} {ob:Obj} {u:HO} (h:H a = some (.frz ob u)):upd H p o a = some (.frz ob u):=by
 rw [Za5 (l.ne h (fun _ z=>nomatch z) (fun _ z=>nomatch z))]; exact h
theorem Loose.ext (l:Loose H p):Ext K H ι (upd H p o) ι:=⟨fun _ _ h=>l.tup h,fun _ _ h=>l.scr h,fun _ _ h=>h,fun _ _ _ h=>l.frz h⟩
theorem Loose.extA (l:Loose H p):Ext K H ι (upd H p o) (ι ++ [p]):=⟨fun _ _ h=>l.tup h,fun _ _ h=>l.scr h,fun n a h=>by
 rw [List.getElem?_append_left (List.getElem?_eq_some_iff.mp h).1]; exact h,fun _ _ _ h=>l.frz h⟩
theorem Zft.mono {m:MO} {a:Addr} (e:Ext K H ι H' ι') (h:Zft K H ι m a) (k:H' a = H a):Zft K H' ι' m a:=by
 cases m with
 | lst xs=>obtain ⟨vs,q,r⟩:=h; exact ⟨vs,k.trans q,r.mono e⟩
 | dct kvs=>obtain ⟨ws,q,r1,r2⟩:=h; exact ⟨ws,k.trans q,r1,r2.mono e⟩
 | fdct kvs=>obtain ⟨ws,⟨o,q⟩,r1,r2⟩:=h; exact ⟨ws,⟨o,k.trans q⟩,r1,r2.mono e⟩
 | ins c fs=>obtain ⟨C,dx,gs,q,c,r1,r2⟩:=h; exact ⟨C,dx,gs,k.trans q,c,r1,r2.mono e⟩
theorem Zft.ne {m:MO} {a:Addr} (h:Zft K H ι m a):H a ≠ none:=by
 cases m with
 | lst xs=>obtain ⟨vs,q,r⟩:=h; rw [q]; simp
 | dct kvs=>obtain ⟨ws,q,r⟩:=h; rw [q]; simp
 | fdct kvs=>obtain ⟨ws,⟨o,q⟩,r⟩:=h; rw [q]; simp
 | ins c fs=>obtain ⟨C,dx,gs,q,r⟩:=h; rw [q]; simp
theorem Zau.at (S:Zau K H ι M) {n:Nat} {m:MO} (h:M[n]? = some m):∃ a,ι[n]? = some a ∧ Zft K H ι m a:=by
 have hn:n < ι.length:=by rw [S.len]; exact (List.getElem?_eq_some_iff.mp h).1
 exact ⟨ι[n],by simp [hn],S.obj n m _ h (by simp [hn])⟩
theorem Zau.there (S:Zau K H ι M) {n:Nat} {a:Addr} (h:ι[n]? = some a):∃ m,M[n]? = some m ∧ Zft K H ι m a:=by
 have hn:n < M.length:=by rw [← S.len]; exact (List.getElem?_eq_some_iff.mp h).1
 exact ⟨M[n],by simp [hn],S.obj n _ _ (by simp [hn]) h⟩
theorem Zau.fresh (S:Zau K H ι M) (hp:H p = none):p ∉ ι:=fun h=>by
 obtain ⟨n,hn⟩:=List.getElem?_of_mem h
 obtain ⟨m,_,q⟩:=S.there hn
 exact q.ne hp
theorem Zau.other (S:Zau K H ι M) (l:Loose H p) (hp:p ∉ ι):Zau K (upd H p o) ι M:=
 ⟨S.len,S.nd,fun n m a h1 h2=>(S.obj n m a h1 h2).mono l.ext (by
  rw [Za5]; rintro rfl; exact hp (List.mem_of_getElem? h2))⟩
theorem Zau.new (S:Zau K H ι M) (hp:H p = none) {m:MO} (h:Zft K (upd H p o) (ι ++ [p]) m p):Zau K (upd H p o) (ι ++ [p]) (M ++ [m]):=by
 have hf:=S.fresh hp
 refine ⟨by simp [S.len],?_,fun n m' a h1 h2=>?_⟩
 ·exact List.nodup_append.mpr ⟨S.nd,by simp,fun x hx y hy=>by
   have e:y = p:=by simpa using hy
   subst e
   rintro rfl
   exact hf hx⟩
 ·by_cases hn:n < ι.length
  ·rw [List.getElem?_append_left hn] at h2
   rw [List.getElem?_append_left (by rw [← S.len]; exact hn)] at h1
   refine (S.obj n m' a h1 h2).mono (Loose.extA (.inl hp)) ?_
   rw [Za5]
   rintro rfl
   exact hf (List.mem_of_getElem? h2)
  ·rw [List.getElem?_append_right (Nat.le_of_not_lt hn)] at h2
   rw [List.getElem?_append_right (by rw [← S.len]; exact Nat.le_of_not_lt hn)] at h1
   have hlt:n - ι.length < 1:=by
    have:=(List.getElem?_eq_some_iff.mp h2).1
    simpa using this
   have e0:n - ι.length = 0:=Nat.le_antisymm (lA 1 234922001 T1 hlt) (Nat.zero_le _)
   rw [e0] at h2
   rw [← S.len,e0] at h1
   simp at h1 h2
   subst h1 h2
   exact h
theorem Zau.put (S:Zau K H ι M) {n:Nat} (l0:Loose H p) (hn:ι[n]? = some p) {m:MO} (h:Zft K (upd H p o) ι m p):Zau K (upd H p o) ι (M.set n m):=by
 obtain ⟨m0,hm0,q0⟩:=S.there hn
 refine ⟨by simp [S.len],S.nd,fun k m' a h1 h2=>?_⟩
 by_cases hk:k = n
 ·subst hk
  rw [hn] at h2
  cases h2
  have hlt:k < M.length:=(List.getElem?_eq_some_iff.mp hm0).1
  rw [List.getElem?_set_self hlt] at h1
  cases h1
  exact h
 ·rw [List.getElem?_set_ne (Ne.symm hk)] at h1
  refine (S.obj k m' a h1 h2).mono (Loose.ext l0) ?_
  rw [Za5]
  rintro rfl
  have hlt1:=(List.getElem?_eq_some_iff.mp h2)
  have hlt2:=(List.getElem?_eq_some_iff.mp hn)
  exact hk ((List.getElem_inj S.nd).mp (hlt1.2.trans hlt2.2.symm))
theorem Zau.lst (S:Zau K H ι M) (hp:H p = none) {xs:List D} {vs:List V} (r:Zaf K H ι xs vs):Ext K H ι (upd H p (.lst vs)) (ι ++ [p]) ∧ Zau K (upd H p (.lst vs)) (ι ++ [p]) (M ++ [.lst xs]) ∧ Rep K (upd H p (.lst vs)) (ι ++ [p]) (.ref M.length) (.ref p):=by
 have e:Ext K H ι (upd H p (.lst vs)) (ι ++ [p]):=Loose.extA (.inl hp)
 refine ⟨e,S.new hp ⟨vs,Zch,r.mono e⟩,Rep.ref ?_⟩
 rw [← S.len]; simp
theorem Zau.tupl (S:Zau K H ι M) (hp:H p = none) {xs:List D} {vs:List V} (r:Zaf K H ι xs vs):Ext K H ι (upd H p (.tup vs)) ι ∧ Zau K (upd H p (.tup vs)) ι M ∧ Rep K (upd H p (.tup vs)) ι (.tup xs) (.ref p):=by
 have e:Ext K H ι (upd H p (.tup vs)) ι:=Loose.ext (.inl hp)
 exact ⟨e,S.other (.inl hp) (S.fresh hp),Rep.tup (SqT.of Zch) (r.mono e)⟩
theorem Zau.setl (S:Zau K H ι M) {n:Nat} (l0:Loose H p) (hn:ι[n]? = some p) {xs:List D} {vs:List V} (r:Zaf K H ι xs vs):Ext K H ι (upd H p (.lst vs)) ι ∧ Zau K (upd H p (.lst vs)) ι (M.set n (.lst xs)):=by
 have e:Ext K H ι (upd H p (.lst vs)) ι:=Loose.ext l0
 exact ⟨e,S.put l0 hn ⟨vs,Zch,r.mono e⟩⟩
end
noncomputable def ZbG (K:PySem.W.Frag) (H:Hp) (ι:List Addr) (env:Zat) (σ:St):Prop:=
 env.length = σ.length ∧ ∀ (i:Nat) d,env[i]? = some (some d) → ∃ v,σ[i]? = some (some v) ∧ Rep K H ι d v
theorem ZbG.mono {K:PySem.W.Frag} {H H':Hp} {ι ι':List Addr} {env:Zat} {σ:St} (r:ZbG K H ι env σ) (e:Ext K H ι H' ι'):ZbG K H' ι' env σ:=
 ⟨r.1,fun i d h=>let ⟨v,q,z⟩:=r.2 i d h; ⟨v,q,z.mono e⟩⟩
theorem ZbG.set {K:PySem.W.Frag} {H:Hp} {ι:List Addr} {env:Zat} {σ:St} {d:D} {v:V} (r:ZbG K H ι env σ) (i:Nat) (h:Rep K H ι d v):ZbG K H ι (env.set i (some d)) (σ.set i (some v)):=by
 refine ⟨by simp [r.1],fun j e hj=>?_⟩
 by_cases hij:j = i
 ·subst hij
  have hlt:j < env.length:=by
   have:=(List.getElem?_eq_some_iff.mp hj).1
   simpa using this
  rw [List.getElem?_set_self hlt] at hj
  cases hj
  exact ⟨v,by rw [List.getElem?_set_self (by rw [← r.1]; exact hlt)],h⟩
 ·rw [List.getElem?_set_ne (Ne.symm hij)] at hj
  obtain ⟨w,q,z⟩:=r.2 j e hj
  exact ⟨w,by rw [List.getElem?_set_ne (Ne.symm hij)]; exact q,z⟩
noncomputable def Zap (K:PySem.W.Frag) (H:Hp) (ι:List Addr) (Q:VK) (r:R3 D):Prop:=match r with
 | .ok d M'=>∀ v H' ι',Ext K H ι H' ι' → Zau K H' ι' M' → Rep K H' ι' d v → Q v H'
 | _=>False
noncomputable def tOf (K:PySem.W.Frag) (f:E3):TE:=fun σ H Q=>∃ ι M env,Zau K H ι M ∧ ZbG K H ι env σ ∧ Zap K H ι Q (f env M)
noncomputable def ZgX (K:PySem.W.Frag) (H:Hp) (ι:List Addr) (Q:Bool → Hp → Prop) (r:R3 D):Prop:=match r with
 | .ok (.bl b) M'=>∀ H' ι',Ext K H ι H' ι' → Zau K H' ι' M' → Q b H'
 | _=>False
noncomputable def tTf (K:PySem.W.Frag) (f:E3):TT:=fun σ H Q=>∃ ι M env,Zau K H ι M ∧ ZbG K H ι env σ ∧ ZgX K H ι Q (f env M)
noncomputable def Zlt (K:PySem.W.Frag) (H:Hp) (ι:List Addr) (Q:List V → Hp → Prop) (r:R3 (List D)):Prop:=match r with
 | .ok ds M'=>∀ vs H' ι',Ext K H ι H' ι' → Zau K H' ι' M' → Zaf K H' ι' ds vs → Q vs H'
 | _=>False
noncomputable def tAf (K:PySem.W.Frag) (f:EL3):TA:=fun σ H Q=>∃ ι M env,Zau K H ι M ∧ ZbG K H ι env σ ∧ Zlt K H ι Q (f env M)
noncomputable def Zng (K:PySem.W.Frag) (H:Hp) (ι:List Addr) (Q:Option Int → Hp → Prop) (r:R3 (Option Int)):Prop:=match r with
 | .ok o M'=>∀ H' ι',Ext K H ι H' ι' → Zau K H' ι' M' → Q o H'
 | _=>False
noncomputable def tOo (K:PySem.W.Frag) (f:EO3):TO:=fun σ H Q=>∃ ι M env,Zau K H ι M ∧ ZbG K H ι env σ ∧ Zng K H ι Q (f env M)
noncomputable def ZeU (K:PySem.W.Frag) (H:Hp) (ι:List Addr) (E:Ends) (r:O3):Prop:=match r with
 | .nx env' M'=>∀ σ' H' ι',Ext K H ι H' ι' → Zau K H' ι' M' → ZbG K H' ι' env' σ' → E.nx σ' H'
 | .bk env' M'=>∀ σ' H' ι',Ext K H ι H' ι' → Zau K H' ι' M' → ZbG K H' ι' env' σ' → E.bk σ' H'
 | .ct env' M'=>∀ σ' H' ι',Ext K H ι H' ι' → Zau K H' ι' M' → ZbG K H' ι' env' σ' → E.ct σ' H'
 | .rt d M'=>∀ v H' ι',Ext K H ι H' ι' → Zau K H' ι' M' → Rep K H' ι' d v → E.rt v H'
 | _=>False
noncomputable def tSf (K:PySem.W.Frag) (f:S3):TS:=fun E σ H=>∃ ι M env,Zau K H ι M ∧ ZbG K H ι env σ ∧ ZeU K H ι E (f env M)
noncomputable def C3 (X:Cx) (e:Expr) (f:E3):Prop:=PE X e (tOf X.K f)
noncomputable def CT (X:Cx) (e:Expr) (f:E3):Prop:=PT X e (tTf X.K f)
noncomputable def CA (X:Cx) (es:List Expr) (f:EL3):Prop:=PA X es (tAf X.K f)
noncomputable def CO (X:Cx) (e:Option Expr) (f:EO3):Prop:=PO X e (tOo X.K f)
noncomputable def CS (X:Cx) (st:Stmt) (f:S3):Prop:=PS X st (tSf X.K f)
noncomputable def CSs (X:Cx) (st:List Stmt) (f:S3):Prop:=PSs X st (tSf X.K f)
theorem _root_.L2.PE.imp {X:Cx} {e:Expr} {t t':TE} (h:PE X e t) (i:∀ σ H Q,t' σ H Q → t σ H Q):PE X e t':=fun pins s σ H Q I q=>h pins s σ H Q I (i σ H Q q)
theorem _root_.L2.PT.imp {X:Cx} {e:Expr} {t t':TT} (h:PT X e t) (i:∀ σ H Q,t' σ H Q → t σ H Q):PT X e t':=fun pins s σ H Q I q=>h pins s σ H Q I (i σ H Q q)
theorem _root_.L2.PA.imp {X:Cx} {e:List Expr} {t t':TA} (h:PA X e t) (i:∀ σ H Q,t' σ H Q → t σ H Q):PA X e t':=fun pos pins s σ H Q I q=>h pos pins s σ H Q I (i σ H Q q)
theorem _root_.L2.PO.imp {X:Cx} {e:Option Expr} {t t':TO} (h:PO X e t) (i:∀ σ H Q,t' σ H Q → t σ H Q):PO X e t':=fun pins s σ H Q I q=>h pins s σ H Q I (i σ H Q q)
theorem _root_.L2.PS.imp {X:Cx} {e:Stmt} {t t':TS} (h:PS X e t) (i:∀ D σ H,t' D σ H → t D σ H):PS X e t':=fun pins s σ H D I q=>h pins s σ H D I (i D σ H q)
theorem _root_.L2.PSs.imp {X:Cx} {e:List Stmt} {t t':TS} (h:PSs X e t) (i:∀ D σ H,t' D σ H → t D σ H):PSs X e t':=fun pins s σ H D I q=>h pins s σ H D I (i D σ H q)
theorem _root_.L2.OpR.imp {X:Cx} {f:Value → Value → Sem Value} {r r':R2} (h:OpR X f r) (i:∀ x y H Q,r' x y H Q → r x y H Q):OpR X f r':=fun pins s σ H x y v u Q I rx ry q=>h pins s σ H x y v u Q I rx ry (i x y H Q q)
theorem _root_.L2.UnR.imp {X:Cx} {f:Value → Sem Value} {r r':V → Hp → VK → Prop} (h:UnR X f r) (i:∀ x H Q,r' x H Q → r x H Q):UnR X f r':=fun pins s σ H x v Q I rx q=>h pins s σ H x v Q I rx (i x H Q q)
theorem _root_.L2.Za3.imp {X:Cx} {f:Value} {r r':List V → Hp → VK → Prop} (h:Za3 X f r) (i:∀ x H Q,r' x H Q → r x H Q):Za3 X f r':=fun pins s σ H xs us Q I rx q=>h pins s σ H xs us Q I rx (i xs H Q q)
theorem _root_.L2.IxR.imp {X:Cx} {r r':R2} (h:IxR X r) (i:∀ x y H Q,r' x y H Q → r x y H Q):IxR X r':=fun value slice pins s σ H x y v u Q I rx ry q hs=>h value slice pins s σ H x y v u Q I rx ry (i x y H Q q) hs
theorem _root_.L2.SlR.imp {X:Cx} {r r':V → Option Int → Option Int → Hp → VK → Prop} (h:SlR X r) (i:∀ x lo hi H Q,r' x lo hi H Q → r x lo hi H Q):SlR X r':=fun pins s σ H x v vl vu lo hi sl Q I rx hs pl pu q=>h pins s σ H x v vl vu lo hi sl Q I rx hs pl pu (i x lo hi H Q q)
section
variable {K:PySem.W.Frag} {H H1:Hp} {ι ι1:List Addr}
theorem Zap.up {Q:VK} {r:R3 D} (e:Ext K H ι H1 ι1) (h:Zap K H ι Q r):Zap K H1 ι1 Q r:=by
 cases r with
 | ok d M=>exact fun v H' ι' e' S r=>h v H' ι' (e.trans e') S r
 | exc x M=>exact h
 | bad=>exact h
theorem ZgX.up {Q:Bool → Hp → Prop} {r:R3 D} (e:Ext K H ι H1 ι1) (h:ZgX K H ι Q r):ZgX K H1 ι1 Q r:=by
 cases r with
 | ok d M=>cases d <;> first | exact h | exact fun H' ι' e' S=>h H' ι' (e.trans e') S
 | exc x M=>exact h
 | bad=>exact h
theorem ZeU.up {Q:Ends} {r:O3} (e:Ext K H ι H1 ι1) (h:ZeU K H ι Q r):ZeU K H1 ι1 Q r:=by
 cases r with
 | nx d M=>exact fun v H' ι' e' S r=>h v H' ι' (e.trans e') S r
 | bk d M=>exact fun v H' ι' e' S r=>h v H' ι' (e.trans e') S r
 | ct d M=>exact fun v H' ι' e' S r=>h v H' ι' (e.trans e') S r
 | rt d M=>exact fun v H' ι' e' S r=>h v H' ι' (e.trans e') S r
 | exc x M=>exact h
 | bad=>exact h
theorem Zap.ok {Q:VK} {d:D} {M:Store} {v:V} (h:Zap K H ι Q (.ok d M)) (S:Zau K H ι M) (r:Rep K H ι d v):Q v H:=h v H ι Ext.refl S r
theorem Zap.bind {α:Type} {Q:VK} {r:R3 α} {k:α → Store → R3 D} (h:Zap K H ι Q (r.bind k)):∃ a M,r = .ok a M ∧ Zap K H ι Q (k a M):=by
 cases r with
 | ok a M=>exact ⟨a,M,rfl,h⟩
 | exc x M=>exact h.elim
 | bad=>exact h.elim
theorem Zlt.bind {α:Type} {Q:List V → Hp → Prop} {r:R3 α} {k:α → Store → R3 (List D)} (h:Zlt K H ι Q (r.bind k)):∃ a M,r = .ok a M ∧ Zlt K H ι Q (k a M):=by
 cases r with
 | ok a M=>exact ⟨a,M,rfl,h⟩
 | exc x M=>exact h.elim
 | bad=>exact h.elim
theorem Zng.bind {α:Type} {Q:Option Int → Hp → Prop} {r:R3 α} {k:α → Store → R3 (Option Int)} (h:Zng K H ι Q (r.bind k)):∃ a M,r = .ok a M ∧ Zng K H ι Q (k a M):=by
 cases r with
 | ok a M=>exact ⟨a,M,rfl,h⟩
 | exc x M=>exact h.elim
 | bad=>exact h.elim
theorem ZgX.bind {α:Type} {Q:Bool → Hp → Prop} {r:R3 α} {k:α → Store → R3 D} (h:ZgX K H ι Q (r.bind k)):∃ a M,r = .ok a M ∧ ZgX K H ι Q (k a M):=by
 cases r with
 | ok a M=>exact ⟨a,M,rfl,h⟩
 | exc x M=>exact h.elim
 | bad=>exact h.elim
end
noncomputable def r2 (K:PySem.W.Frag) (op:D → D → Store → R3 D):R2:=fun x y H Q=>∃ ι M a b,Zau K H ι M ∧ Rep K H ι a x ∧ Rep K H ι b y ∧ Zap K H ι Q (op a b M)
noncomputable def r1 (K:PySem.W.Frag) (op:D → Store → R3 D):V → Hp → VK → Prop:=fun x H Q=>∃ ι M a,Zau K H ι M ∧ Rep K H ι a x ∧ Zap K H ι Q (op a M)
noncomputable def rB (K:PySem.W.Frag) (b:List D → Store → R3 D):List V → Hp → VK → Prop:=fun xs H Q=>∃ ι M ds,Zau K H ι M ∧ Zaf K H ι ds xs ∧ Zap K H ι Q (b ds M)
noncomputable def rM (K:PySem.W.Frag) (m:D → List D → Store → R3 D):V → List V → Hp → VK → Prop:=fun x xs H Q=>∃ ι M a ds,Zau K H ι M ∧ Rep K H ι a x ∧ Zaf K H ι ds xs ∧ Zap K H ι Q (m a ds M)
noncomputable def rS (K:PySem.W.Frag):V → Option Int → Option Int → Hp → VK → Prop:=fun x lo hi H Q=>∃ ι M a,Zau K H ι M ∧ Rep K H ι a x ∧ Zap K H ι Q (ZhC a lo hi M)
theorem ZiG {K:PySem.W.Frag} {op:D → D → Store → R3 D} {f g:E3} (σ:St) (H:Hp) (Q:VK) (h:tOf K (e2 op f g) σ H Q):tOp (r2 K op) (tOf K f) (tOf K g) σ H Q:=by
 obtain ⟨ι,M,env,S,E,h⟩:=h
 obtain ⟨a,M1,e1,h⟩:=Zap.bind h
 obtain ⟨b,M2,e2,h⟩:=Zap.bind h
 refine ⟨ι,M,env,S,E,?_⟩
 rw [e1]
 intro v H1 ι1 x1 S1 r1
 refine ⟨ι1,M1,env,S1,E.mono x1,?_⟩
 rw [e2]
 intro u H2 ι2 x2 S2 r2
 exact ⟨ι2,M2,a,b,S2,r1.mono x2,r2,(h.up x1).up x2⟩
theorem ZoZ {K:PySem.W.Frag} {op:D → Store → R3 D} {f:E3} (σ:St) (H:Hp) (Q:VK) (h:tOf K (e1 op f) σ H Q):tUn (r1 K op) (tOf K f) σ H Q:=by
 obtain ⟨ι,M,env,S,E,h⟩:=h
 obtain ⟨a,M1,e1,h⟩:=Zap.bind h
 refine ⟨ι,M,env,S,E,?_⟩
 rw [e1]
 intro v H1 ι1 x1 S1 r1
 exact ⟨ι1,M1,a,S1,r1,h.up x1⟩
section
variable {X:Cx} {a b c e o:Expr} {es:List Expr} {pos p:Pos} {f g h:E3} {gl:EL3}
theorem Zc (i:Nat) {x:Str} (hN:X.N[i]? = some x:=by rfl) (hv:Vis X.env.scope x:=by first | exact Or.inl rfl | exact Or.inr (Or.inl rfl) | exact Or.inr (Or.inr rfl)) (hd:(x == ("__debug__":Str)) = false:=by decide)
  (hcd:(x == ("__classdict__":Str)) = false:=by decide):C3 X (.Name x pos) (Za i):=(Zpl hN hv hd hcd).imp fun σ H Q zz1=>by
 obtain ⟨ι,M,env,S,E,h⟩:=zz1
 unfold Za at h
 cases q:env[i]? with
 | none=>rw [q] at h; exact h.elim
 | some od=>
  cases od with
  | none=>rw [q] at h; exact h.elim
  | some d=>
   rw [q] at h
   obtain ⟨v,e1,r⟩:=E.2 i d q
   exact ⟨v,e1,Zap.ok h S r⟩
theorem Zh {i j}:C3 X (.Constant (.int i) j pos) (eC (.int i)):=Zqi.imp fun σ H Q ⟨ι,M,env,S,E,h⟩=>Zap.ok h S Rep.int
theorem Zov {i j}:C3 X (.Constant (.bool i) j pos) (eC (.bl i)):=ZqP.imp fun σ H Q ⟨ι,M,env,S,E,h⟩=>Zap.ok h S Rep.bl
theorem Zjk {j}:C3 X (.Constant .none j pos) (eC .non):=Zqc.imp fun σ H Q ⟨ι,M,env,S,E,h⟩=>Zap.ok h S Rep.non
theorem ZaQ {x:Str} {cs:List Nat} {j} (hx:x = ⟨cs.toArray⟩:=by decide +kernel):C3 X (.Constant (.str x) j pos) (eC (.str cs)):=Zqs.imp fun σ H Q zz1=>by
 obtain ⟨ι,M,env,S,E,h⟩:=zz1
 subst hx
 exact Zap.ok h S Rep.str
theorem Zu {op:Operator} {q:D → D → Store → R3 D} (ho:OpR X (binaryOp op) (r2 X.K q)) (ha:C3 X a f) (hb:C3 X b g):C3 X (.BinOp a op b pos) (e2 q f g):=(Zq5 ho ha hb).imp ZiG
theorem Zor {op:UnaryOp} {q:D → Store → R3 D} (ho:UnR X (unaryOp op) (r1 X.K q)) (ha:C3 X a f):C3 X (.UnaryOp op a pos) (e1 q f):=(ZqM ho ha).imp ZoZ
theorem Zeq {op:CmpOp} {q:D → D → Store → R3 D} (ho:OpR X (compareOp op) (r2 X.K q)) (ha:C3 X a f) (hb:C3 X b g) (hm:behindInMarks op b = false:=by rfl):C3 X (.Compare a [op] [b] pos) (e2 q f g):=(Zn5 ho ha hb hm).imp ZiG
theorem ZhL {K:PySem.W.Frag} {H:Hp} {ι:List Addr} {Q:Bool → Hp → Prop} {r:R3 D} (h:ZgX K H ι Q r):Zap K H ι (fun x H'=>∃ k,x = .bl k ∧ Q k H') r:=by
 cases r with
 | ok d M=>
  cases d with
  | bl b=>exact fun v H' ι' e S r=>⟨b,r.bl_inv,h H' ι' e S⟩
  | _=>exact h.elim
 | exc x M=>exact h.elim
 | bad=>exact h.elim
theorem Zdz (h:C3 X e f) (he:∀ whole,isTrue e X.env whole = (do let v ← whole; standAt e.pos; holding [v] (truthy v)):=by intro _; rfl):CT X e f:=(Zo5 h he).imp fun σ H Q ⟨ι,M,env,S,E,h⟩=>⟨ι,M,env,S,E,ZhL h⟩
theorem Zak {op:CmpOp} {q:D → D → Store → R3 D} (ho:OpR X (compareOp op) (r2 X.K q)) (ha:C3 X a f) (hb:C3 X b g) (hm:behindInMarks op b = false:=by rfl):CT X (.Compare a [op] [b] pos) (e2 q f g):=
 (ZnW ho ha hb hm).imp fun σ H Q ⟨ι,M,env,S,E,h⟩=>ZiG σ H _ ⟨ι,M,env,S,E,ZhL h⟩
end
end L3
namespace L3
open PySem PySem.Spec PyProof.Rows L2
section
variable {X:Cx} {a b c e o:Expr} {es rest:List Expr} {pos p:Pos} {f g h:E3} {gl:EL3}
theorem ZjJ {op} (h:C3 X a f):C3 X (.BoolOp op [a] pos) f:=Zpv h
theorem ZhT (ha:C3 X a f) (hb:C3 X (.BoolOp .And (b :: rest) pos) g):C3 X (.BoolOp .And (a :: b :: rest) pos) (Zcm f g):=(Zqt ha hb).imp fun σ H Q zz1=>by
 obtain ⟨ι,M,env,S,E,h⟩:=zz1
 obtain ⟨d,M1,e1,h⟩:=Zap.bind h
 refine ⟨ι,M,env,S,E,?_⟩
 rw [e1]
 intro v H1 ι1 x1 S1 r1
 cases d with
 | bl k=>
  refine ⟨k,r1.bl_inv,?_⟩
  cases k with
  | true=>rw [if_pos rfl]; exact ⟨ι1,M1,env,S1,E.mono x1,h.up x1⟩
  | false=>rw [if_neg (by decide)]; exact Zap.ok (h.up x1) S1 Rep.bl
 | _=>exact h.elim
theorem ZqR (ha:C3 X a f):C3 X (.UnaryOp .Not a pos) (e1 Zev f):=(Zpj ha).imp fun σ H Q zz1=>by
 obtain ⟨ι,M,env,S,E,h⟩:=zz1
 obtain ⟨d,M1,e1,h⟩:=Zap.bind h
 refine ⟨ι,M,env,S,E,?_⟩
 rw [e1]
 intro v H1 ι1 x1 S1 r1
 cases d with
 | bl k=>exact ⟨k,r1.bl_inv,Zap.ok (h.up x1) S1 Rep.bl⟩
 | _=>exact h.elim
noncomputable def CW (X:Cx) (e:Expr) (f:E3):Prop:=PW X e (tTf X.K f)
theorem CW.ct (h:CW X e f):CT X e f:=PW.pt h
theorem PW.imp {t t':TT} (h:PW X e t) (i:∀ σ H Q,t' σ H Q → t σ H Q):PW X e t':=fun wh pins s σ H Q I q=>h wh pins s σ H Q I (i σ H Q q)
theorem ZeO (ha:CT X a f):CW X (.BoolOp .And [a] pos) f:=ZnD ha
theorem ZiB (ha:CT X a f):CW X (.BoolOp .Or [a] pos) f:=Zqg ha
theorem Zf7 (ha:CT X a f) (hb:CW X (.BoolOp .And (b :: rest) pos) g):CW X (.BoolOp .And (a :: b :: rest) pos) (Zcm f g):=PW.imp (Zo6 ha hb) fun σ H Q zz1=>by
 obtain ⟨ι,M,env,S,E,h⟩:=zz1
 obtain ⟨d,M1,e1,h⟩:=ZgX.bind h
 refine ⟨ι,M,env,S,E,?_⟩
 rw [e1]
 cases d with
 | bl k=>
  intro H1 ι1 x1 S1
  cases k with
  | true=>rw [if_pos rfl]; exact ⟨ι1,M1,env,S1,E.mono x1,h.up x1⟩
  | false=>rw [if_neg (by decide)]; exact h H1 ι1 x1 S1
 | _=>exact h.elim
theorem Zi4 (ha:CT X a f) (hb:CW X (.BoolOp .Or (b :: rest) pos) g):CW X (.BoolOp .Or (a :: b :: rest) pos) (eOr f g):=PW.imp (ZqU ha hb) fun σ H Q zz1=>by
 obtain ⟨ι,M,env,S,E,h⟩:=zz1
 obtain ⟨d,M1,e1,h⟩:=ZgX.bind h
 refine ⟨ι,M,env,S,E,?_⟩
 rw [e1]
 cases d with
 | bl k=>
  intro H1 ι1 x1 S1
  cases k with
  | false=>rw [if_neg (by decide)]; exact ⟨ι1,M1,env,S1,E.mono x1,h.up x1⟩
  | true=>rw [if_pos rfl]; exact h H1 ι1 x1 S1
 | _=>exact h.elim
theorem ZfZ (ha:CT X a f):CT X (.UnaryOp .Not a pos) (e1 Zev f):=(ZpR ha).imp fun σ H Q zz1=>by
 obtain ⟨ι,M,env,S,E,h⟩:=zz1
 obtain ⟨d,M1,e1,h⟩:=ZgX.bind h
 refine ⟨ι,M,env,S,E,?_⟩
 rw [e1]
 cases d with
 | bl k=>exact fun H1 ι1 x1 S1=>h H1 ι1 x1 S1
 | _=>exact h.elim
theorem Zro (hc:CT X c f) (ha:C3 X a g) (hb:C3 X b h):C3 X (.IfExp c a b pos) (eIf f g h):=(Zmc hc ha hb).imp fun σ H Q zz1=>by
 obtain ⟨ι,M,env,S,E,h⟩:=zz1
 obtain ⟨d,M1,e1,h⟩:=Zap.bind h
 refine ⟨ι,M,env,S,E,?_⟩
 rw [e1]
 cases d with
 | bl k=>
  intro H1 ι1 x1 S1
  cases k with
  | true=>rw [if_pos rfl]; exact ⟨ι1,M1,env,S1,E.mono x1,h.up x1⟩
  | false=>rw [if_neg (by decide)]; exact ⟨ι1,M1,env,S1,E.mono x1,h.up x1⟩
 | _=>exact h.elim
theorem Zm:CA X [] Zi:=ZiS.imp fun σ H Q ⟨ι,M,env,S,E,h⟩=>h [] H ι Ext.refl S Zaf.nil
theorem Zd (ha:C3 X e f) (hr:CA X es gl) (hs:starEach (e :: es) X.env = (false,eval e X.env) :: starEach es X.env:=by rfl):CA X (e :: es) (Zb f gl):=(Zea ha hr hs).imp fun σ H Q zz1=>by
 obtain ⟨ι,M,env,S,E,h⟩:=zz1
 obtain ⟨d,M1,e1,h⟩:=Zlt.bind h
 obtain ⟨ds,M2,e2,h⟩:=Zlt.bind h
 refine ⟨ι,M,env,S,E,?_⟩
 rw [e1]
 intro v H1 ι1 x1 S1 r1
 refine ⟨ι1,M1,env,S1,E.mono x1,?_⟩
 rw [e2]
 intro vs H2 ι2 x2 S2 r2
 exact h (v :: vs) H2 ι2 (x1.trans x2) S2 (Zaf.cons (r1.mono x2) r2)
theorem Zbp {x1} (h:CA X es gl):C3 X (.Tuple es x1 pos) (Za4 gl):=(Zma h).imp fun σ H Q zz1=>by
 obtain ⟨ι,M,env,S,E,h⟩:=zz1
 obtain ⟨ds,M1,e1,h⟩:=Zap.bind h
 refine ⟨ι,M,env,S,E,?_⟩
 rw [e1]
 intro vs H1 ι1 x1 S1 r1
 by_cases hz:ds.length ≤ SZ
 ·rw [if_pos hz] at h
  refine ⟨by rw [r1.length]; exact Nat.le_trans hz ZbY,fun p hp=>?_⟩
  obtain ⟨x2,S2,r2⟩:=S1.tupl hp r1
  exact h _ _ _ (x1.trans x2) S2 r2
 ·rw [if_neg hz] at h; exact h.elim
theorem Zc9 (h:CA X es gl):C3 X (.List es pos) (Zcg gl):=(Zpu h).imp fun σ H Q zz1=>by
 obtain ⟨ι,M,env,S,E,h⟩:=zz1
 obtain ⟨ds,M1,e1,h⟩:=Zap.bind h
 refine ⟨ι,M,env,S,E,?_⟩
 rw [e1]
 intro vs H1 ι1 x1 S1 r1
 by_cases hz:ds.length ≤ SZ
 ·rw [if_pos hz] at h
  refine ⟨by rw [r1.length]; exact Nat.le_trans hz ZbY,fun p hp=>?_⟩
  obtain ⟨x2,S2,r2⟩:=S1.lst hp r1
  exact h _ _ _ (x1.trans x2) S2 r2
 ·rw [if_neg hz] at h; exact h.elim
theorem Zm6 {K:PySem.W.Frag} {q:List D → Store → R3 D} (σ:St) (H:Hp) (Q:VK) (h:tOf K (ZaL q gl) σ H Q):tCB (rB K q) (tAf K gl) σ H Q:=by
 obtain ⟨ι,M,env,S,E,h⟩:=h
 obtain ⟨ds,M1,e1,h⟩:=Zap.bind h
 refine ⟨ι,M,env,S,E,?_⟩
 rw [e1]
 intro vs H1 ι1 x1 S1 r1
 exact ⟨ι1,M1,ds,S1,r1,h.up x1⟩
theorem Zb9 {x:Str} {id:String} {q:List D → Store → R3 D} (hc:Za3 X (.builtin id) (rB X.K q)) (hm:X.mg x = none) (hv:bootBuiltins x = some (.builtin id)) (ha:CA X (e :: es) gl) (hg:Gl X x:=by rfl) (hn:x ≠ "__name__":=by decide) (hdb:(x == ("__debug__":Str)) = false:=by decide)
  (he:starEach (e :: es) X.env = (false,eval e X.env) :: starEach es X.env:=by rfl) (hpl:(backTo pos (starEach es X.env)).any (·.1) = false:=by rfl):C3 X (.Call (.Name x p) (e :: es) [] pos) (ZaL q gl):=(Zg6 hc hg hm hv ha hn hdb he hpl).imp Zm6
theorem Zer {x:Str} {T:String} {q:List D → Store → R3 D} (hc:Za3 X (.type T) (rB X.K q)) (hm:X.mg x = none) (hv:bootBuiltins x = some (.type T)) (ha:CA X (e :: es) gl) (hg:Gl X x:=by rfl) (hn:x ≠ "__name__":=by decide) (hdb:(x == ("__debug__":Str)) = false:=by decide)
  (he:starEach (e :: es) X.env = (false,eval e X.env) :: starEach es X.env:=by rfl) (hpl:(backTo pos (starEach es X.env)).any (·.1) = false:=by rfl):C3 X (.Call (.Name x p) (e :: es) [] pos) (ZaL q gl):=(ZlF hc hg hm hv ha hn hdb he hpl).imp Zm6
theorem Zac (hr:IxR X (r2 X.K Zk)) (ha:C3 X a f) (hb:C3 X b g) (hs:ZkI b:=by exact fun _ _=>rfl):C3 X (.Subscript a b pos) (e2 Zk f g):=(ZrM hr ha hb hs).imp ZiG
theorem ZdS:CO X none Zb7:=ZnE.imp fun σ H Q ⟨ι,M,env,S,E,h⟩=>h H ι Ext.refl S
theorem ZdK (h:C3 X e f):CO X (some e) (Zb8 f):=(Zox h).imp fun σ H Q zz1=>by
 obtain ⟨ι,M,env,S,E,h⟩:=zz1
 obtain ⟨d,M1,e1,h⟩:=Zng.bind h
 refine ⟨ι,M,env,S,E,?_⟩
 rw [e1]
 intro v H1 ι1 x1 S1 r1
 cases d with
 | int i=>exact ⟨i,r1.int_inv,h H1 ι1 x1 S1⟩
 | _=>exact h.elim
theorem Zjs {lo hi:Option Expr} {ol oh:EO3} {p2:Pos} (hr:SlR X (rS X.K)) (he:C3 X e f) (hl:CO X lo ol) (hu:CO X hi oh):C3 X (.Subscript e (.Slice lo hi none p2) pos) (eSl f ol oh):=(Zno hr he hl hu).imp fun σ H Q zz1=>by
 obtain ⟨ι,M,env,S,E,h⟩:=zz1
 obtain ⟨d,M1,e1,h⟩:=Zap.bind h
 obtain ⟨l,M2,e2,h⟩:=Zap.bind h
 obtain ⟨u,M3,e3,h⟩:=Zap.bind h
 refine ⟨ι,M,env,S,E,?_⟩
 rw [e1]
 intro v H1 ι1 x1 S1 r1
 refine ⟨ι1,M1,env,S1,E.mono x1,?_⟩
 rw [e2]
 intro H2 ι2 x2 S2
 refine ⟨ι2,M2,env,S2,(E.mono x1).mono x2,?_⟩
 rw [e3]
 intro H3 ι3 x3 S3
 exact ⟨ι3,M3,d,S3,(r1.mono x2).mono x3,((h.up x1).up x2).up x3⟩
theorem Zao:CSs X [] Zam:=ZnQ.imp fun D σ H ⟨ι,M,env,S,E,h⟩=>h σ H ι Ext.refl S E
theorem Zr {st:Stmt} {u:S3} (h:CS X st u):CSs X [st] u:=Zoz h
theorem Zg {st:Stmt} {sts:List Stmt} {u w:S3} (h1:CS X st u) (h2:CSs X sts w):CSs X (st :: sts) (Zx u w):=(Zmp h1 h2).imp fun D σ H zz1=>by
 obtain ⟨ι,M,env,S,E,h⟩:=zz1
 refine ⟨ι,M,env,S,E,?_⟩
 have h':ZeU X.K H ι D (match u env M with | .nx env' M'=>w env' M' | o=>o):=h
 cases q:u env M with
 | nx env' M'=>rw [q] at h'; exact fun σ' H' ι' x S' E'=>⟨ι',M',env',S',E',h'.up x⟩
 | _=>rw [q] at h'; exact h'
theorem ZaC {c1:Expr} {x y:List Stmt} {u w:S3} (hc:CT X c1 f) (ha:CSs X x u) (hb:CSs X y w):CS X (.If c1 x y pos) (sIf f u w):=(Zra hc ha hb).imp fun D σ H zz1=>by
 obtain ⟨ι,M,env,S,E,h⟩:=zz1
 refine ⟨ι,M,env,S,E,?_⟩
 unfold sIf at h
 cases q:f env M with
 | ok d M1=>
  rw [q] at h
  cases d with
  | bl k=>
   intro H1 ι1 x1 S1
   cases k with
   | true=>rw [if_pos rfl]; exact ⟨ι1,M1,env,S1,E.mono x1,h.up x1⟩
   | false=>rw [if_neg (by decide)]; exact ⟨ι1,M1,env,S1,E.mono x1,h.up x1⟩
  | _=>exact h.elim
 | exc x M1=>rw [q] at h; exact h.elim
 | bad=>rw [q] at h; exact h.elim
theorem Zas (h:C3 X e f):CS X (.Return (some e) pos) (Zax f):=(Zpr h).imp fun D σ H zz1=>by
 obtain ⟨ι,M,env,S,E,h⟩:=zz1
 refine ⟨ι,M,env,S,E,?_⟩
 unfold Zax at h
 cases q:f env M with
 | ok d M1=>rw [q] at h; exact h
 | exc x M1=>rw [q] at h; exact h.elim
 | bad=>rw [q] at h; exact h.elim
theorem Zdc (h:C3 X e f) (hs:swapsWith e none pos.line X.env = pure false:=by rfl):CS X (.Expr e pos) (ZaP f):=(Zn7 h hs).imp fun D σ H zz1=>by
 obtain ⟨ι,M,env,S,E,h⟩:=zz1
 refine ⟨ι,M,env,S,E,?_⟩
 unfold ZaP at h
 cases q:f env M with
 | ok d M1=>rw [q] at h; exact fun v H1 ι1 x1 S1 r1=>h σ H1 ι1 x1 S1 (E.mono x1)
 | exc x M1=>rw [q] at h; exact h.elim
 | bad=>rw [q] at h; exact h.elim
theorem Zah (i:Nat) {x:Str} {pos':Pos} (hN:X.N.Nodup) (he:C3 X e f) (hi:X.N[i]? = some x:=by rfl) (hx:Loc X.env.scope x:=by first | exact Or.inl rfl | exact Or.inr rfl) (hs:swapsWith e (some (.Name x pos')) pos.line X.env = pure false:=by rfl)
  (hf:X.fn x = true ∨ X.env.scope.names.lookup x = some .local:=by first | exact .inl rfl | exact .inr rfl):CS X (.Assign [.Name x pos'] e pos) (Zaj i f):=(Zpf hN hi hx he hs hf).imp fun D σ H zz1=>by
 obtain ⟨ι,M,env,S,E,h⟩:=zz1
 refine ⟨ι,M,env,S,E,?_⟩
 unfold Zaj at h
 cases q:f env M with
 | ok d M1=>rw [q] at h; exact fun v H1 ι1 x1 S1 r1=>h _ H1 ι1 x1 S1 ((E.mono x1).set i r1)
 | exc x M1=>rw [q] at h; exact h.elim
 | bad=>rw [q] at h; exact h.elim
theorem Zix {st:Stmt}:CS X st Zj0:=fun _ _ _ _ _ _ ⟨_,_,_,_,_,h⟩=>h.elim
end
noncomputable def sp3 (K:PySem.W.Frag) (n:Nat) (F:F3):Sp:=fun vs H Q _=>∃ ι M ds,Zau K H ι M ∧ Zaf K H ι ds vs ∧ ds.length = n ∧ Zap K H ι Q (F ds M)
section
variable {K:PySem.W.Frag} {H H':Hp} {ι ι':List Addr} {M M':Store}
mutual
theorem Rep.below:∀ {d:D} {v:V},Rep K H ι d v → L3.below ι.length d = true
 | .non,_,_=>rfl
 | .bl _,_,_=>rfl
 | .int _,_,_=>rfl
 | .str _,_,_=>rfl
 | .tup ds,_,h=>by
  obtain ⟨a,vs,_,_,r⟩:=h.tup_inv
  simp only [L3.below]
  exact Zaf.belowL (ds:=ds) r
 | .scr ds,_,h=>by
  obtain ⟨a,vs,_,_,r⟩:=h.scr_inv
  simp only [L3.below]
  exact Zaf.belowL (ds:=ds) r
 | .ref n,_,h=>by
  obtain ⟨a,q,_⟩:=h.ref_inv
  simp only [L3.below,decide_eq_true_eq]
  exact (List.getElem?_eq_some_iff.mp q).1
theorem Zaf.belowL:∀ {ds:List D} {vs:List V},Zaf K H ι ds vs → L3.belowL ι.length ds = true
 | [],_,_=>rfl
 | d :: ds,_,h=>by
  obtain ⟨v,ws,_,r,q⟩:=h.cons_inv
  simp only [L3.belowL,Bool.and_eq_true]
  exact ⟨Rep.below (d:=d) r,Zaf.belowL (ds:=ds) q⟩
end
mutual
theorem Rep.cut {n:Nat}:∀ {d:D} {v:V},L3.below n d = true → Rep K H ι d v → Rep K H (ι.take n) d v
 | .non,_,_,h=>by simpa [Rep] using h
 | .bl _,_,_,h=>by simpa [Rep] using h
 | .int _,_,_,h=>by simpa [Rep] using h
 | .str _,_,_,h=>by simpa [Rep] using h
 | .tup ds,_,hb,h=>by
  obtain ⟨a,vs,rfl,s,r⟩:=h.tup_inv
  exact Rep.tup s (Zaf.cut (ds:=ds) (by simpa only [L3.below] using hb) r)
 | .scr ds,_,hb,h=>by
  obtain ⟨a,vs,rfl,s,r⟩:=h.scr_inv
  simp only [Rep]
  exact ⟨a,vs,rfl,s,Zaf.cut (ds:=ds) (by simpa only [L3.below] using hb) r⟩
 | .ref k,_,hb,h=>by
  obtain ⟨a,q,rfl⟩:=h.ref_inv
  refine Rep.ref ?_
  rw [List.getElem?_take_of_lt (by simpa [L3.below] using hb)]
  exact q
theorem Zaf.cut {n:Nat}:∀ {ds:List D} {vs:List V},L3.belowL n ds = true → Zaf K H ι ds vs → Zaf K H (ι.take n) ds vs
 | [],_,_,h=>by simpa [Zaf] using h
 | d :: ds,_,hb,h=>by
  obtain ⟨v,ws,rfl,r,q⟩:=h.cons_inv
  simp only [L3.belowL,Bool.and_eq_true] at hb
  exact Zaf.cons (Rep.cut (d:=d) hb.1 r) (Zaf.cut (ds:=ds) hb.2 q)
end
theorem Zft.below {m:MO} {a:Addr} (h:Zft K H ι m a):Zfk ι.length m = true:=by
 cases m with
 | lst xs=>obtain ⟨vs,_,r⟩:=h; exact r.belowL
 | dct kvs=>obtain ⟨ws,_,_,r⟩:=h; exact r.belowL
 | fdct kvs=>obtain ⟨ws,_,_,r⟩:=h; exact r.belowL
 | ins c fs=>obtain ⟨_,_,gs,_,_,_,r⟩:=h; exact r.belowL
theorem Zft.cut {n:Nat} {m:MO} {a:Addr} (hb:Zfk n m = true) (h:Zft K H ι m a):Zft K H (ι.take n) m a:=by
 cases m with
 | lst xs=>obtain ⟨vs,q,r⟩:=h; exact ⟨vs,q,r.cut hb⟩
 | dct kvs=>obtain ⟨ws,q,r1,r2⟩:=h; exact ⟨ws,q,r1,r2.cut hb⟩
 | fdct kvs=>obtain ⟨ws,q,r1,r2⟩:=h; exact ⟨ws,q,r1,r2.cut hb⟩
 | ins c fs=>obtain ⟨C,dx,gs,q,c,r1,r2⟩:=h; exact ⟨C,dx,gs,q,c,r1,r2.cut hb⟩
theorem Zau.cut {n:Nat} (S:Zau K H ι M) (h:(M.take n).all (Zfk n) = true):Zau K H (ι.take n) (M.take n):=by
 refine ⟨by simp [S.len],S.nd.sublist (List.take_sublist _ _),fun k m a h1 h2=>?_⟩
 have hk:k < n:=by
  have:=(List.getElem?_eq_some_iff.mp h1).1
  rw [List.length_take] at this
  exact Nat.lt_of_lt_of_le this (Nat.min_le_left _ _)
 have hb:Zfk n m = true:=List.all_eq_true.mp h m (List.mem_of_getElem? h1)
 rw [List.getElem?_take_of_lt hk] at h1 h2
 exact (S.obj k m a h1 h2).cut hb
theorem Zli {Q:VK} {d:D} {v:V} (S:Zau K H ι M) (x:Ext K H ι H' ι') (S':Zau K H' ι' M') (r:Rep K H' ι' d v) (h:Zap K H ι Q (ZcB M d M')):Q v H':=by
 unfold ZcB at h
 split at h
 ·rename_i c
  simp only [Bool.and_eq_true,Bool.or_eq_true,decide_eq_true_eq] at c
  have hall:(M'.take M.length).all (Zfk M.length) = true:=by
   rcases c.2 with e | e
   ·rw [e,List.all_eq_true]
    intro m hm
    obtain ⟨n,hn⟩:=List.getElem?_of_mem hm
    obtain ⟨a,q,w⟩:=S.at hn
    rw [← S.len]
    exact w.below
   ·exact e
  refine h v H' (ι'.take M.length) ⟨x.tup,x.scr,fun n a q=>?_,x.frz⟩ (S'.cut hall) (r.cut c.1)
  rw [List.getElem?_take_of_lt (by rw [← S.len]; exact (List.getElem?_eq_some_iff.mp q).1)]
  exact x.pre n a q
 ·exact h v H' ι' x S' r
end
theorem ZbG.start {K:PySem.W.Frag} {H:Hp} {ι:List Addr} {ds:List D} {vs:List V} (r:Zaf K H ι ds vs) (n:Nat):ZbG K H ι (ds.map some ++ List.replicate n none) (vs.map some ++ List.replicate n none):=by
 refine ⟨by simp [r.length],fun i d h=>?_⟩
 by_cases hi:i < ds.length
 ·rw [List.getElem?_append_left (by simpa using hi),List.getElem?_map] at h
  cases q:ds[i]? with
  | none=>rw [q] at h; simp at h
  | some d'=>
   rw [q] at h
   simp at h
   subst h
   obtain ⟨v,e,z⟩:=r.get q
   refine ⟨v,?_,z⟩
   rw [List.getElem?_append_left (by simpa [r.length] using hi),List.getElem?_map,e]
   rfl
 ·rw [List.getElem?_append_right (by simpa using hi),List.getElem?_replicate] at h
  split at h <;> simp at h
section
variable {P:Program} {w:World} {K:PySem.W.Frag} {mg:Str → Option Value} {base:Heap}
theorem fn3 {x qual:Str} {st:Stmt} {f:Addr} {fd:FuncData} {N ps:List Str} {k:Nat} {body:S3} (F:Fun K x qual st f fd) (S:Zav N ps (Zo st))
  (hb:∀ (cdv:Value) (A:Around) (outer:List Env) (s:Shared) (H:Hp) (E:XK),ZbD k (A.deeper (envOfC qual (Zo st) s.heap.objs.size f cdv)) → CSs (Zhi CX0 P w K mg base N qual (Zo st) f cdv A outer s H E).nox (Zan st) body):
  ZdF P w K mg base CX0 (k + 1) f fd ps (sp3 K ps.length (mkF ps.length N.length body)):=by
 refine F.ok S (fun vs H Q E ⟨ι,M,ds,_,r,l,_⟩=>by rw [r.length,l]) fun cdv A outer s H vs Q E hr zz1=>?_
 obtain ⟨ι,M,ds,SR,r,l,h⟩:=zz1
 refine ⟨_,hb cdv A outer s H E hr,ι,M,ds.map some ++ List.replicate (N.length - ps.length) none,SR,?_,?_⟩
 ·have e:L2.start N vs = vs.map some ++ List.replicate (N.length - ps.length) none:=by unfold L2.start; rw [r.length,l]
  rw [e]
  exact ZbG.start r _
 ·unfold mkF at h
  rw [if_pos l] at h
  cases q:body (ds.map some ++ List.replicate (N.length - ps.length) none) M with
  | nx env' M'=>rw [q] at h; exact fun σ' H' ι' x S' E'=>Zli SR x S' Rep.non h
  | rt d M'=>rw [q] at h; exact fun v H' ι' x S' r'=>Zli SR x S' r' h
  | bk _ _=>rw [q] at h; exact h.elim
  | ct _ _=>rw [q] at h; exact h.elim
  | exc _ _=>rw [q] at h; exact h.elim
  | bad=>rw [q] at h; exact h.elim
noncomputable def Fn3 (P:Program) (w:World) (K:PySem.W.Frag) (mg:Str → Option Value) (base:Heap) (k:Nat) (x:Str) (ps:List Str) (F:F3):Prop:=
 (∀ ds M,ds.length ≠ ps.length → F ds M = .bad) ∧ ∃ f fd,mg x = some (.ref f) ∧ PySem.W.keepIn K (.ref f) = true ∧ Binds K fd ps [] ∧ ZdF P w K mg base CX0 k f fd ps (sp3 K ps.length F)
noncomputable def ZaF (K:PySem.W.Frag) (mg:Str → Option Value) (x:Str) (st:Stmt) (ps:List Str):Prop:=∃ f fd,Fun K x x st f fd ∧ mg x = some (.ref f) ∧ Binds K fd ps []
theorem Fn3.mono {j k:Nat} {x:Str} {ps:List Str} {F:F3} (h:Fn3 P w K mg base j x ps F) (l:j ≤ k):Fn3 P w K mg base k x ps F:=
 let ⟨n,f,fd,a,b,c,d⟩:=h; ⟨n,f,fd,a,b,c,d.mono l⟩
theorem Fn3.of {x:Str} {st:Stmt} {N ps:List Str} {k:Nat} {body:S3} (d:ZaF K mg x st ps) (S:Zav N ps (Zo st))
  (hb:∀ (f:Addr) (cdv:Value) (A:Around) (outer:List Env) (s:Shared) (H:Hp) (E:XK),ZbD k (A.deeper (envOfC x (Zo st) s.heap.objs.size f cdv)) → CSs (Zhi CX0 P w K mg base N x (Zo st) f cdv A outer s H E).nox (Zan st) body):
  Fn3 P w K mg base (k + 1) x ps (mkF ps.length N.length body):=by
 obtain ⟨f,fd,F,m,bi⟩:=d
 exact ⟨fun ds M h=>if_neg h,f,fd,m,F.kp,bi,fn3 F S (hb f)⟩
end
section
variable {X:Cx} {e:Expr} {es:List Expr} {pos p:Pos} {gl:EL3} {x:Str} {k:Nat} {ps:List Str} {F:F3}
theorem Zay (G:Fn3 X.prog X.w X.K X.mg X.base k x ps F) (hr:ZbD k X.A) (ha:CA X (e :: es) gl) (hg:Gl X x:=by rfl) (hdb:(x == ("__debug__":Str)) = false:=by decide)
  (he:starEach (e :: es) X.env = (false,eval e X.env) :: starEach es X.env:=by rfl) (hpl:(backTo pos (starEach es X.env)).any (·.1) = false:=by rfl):C3 X (.Call (.Name x p) (e :: es) [] pos) (Zai F gl):=by
 obtain ⟨hn,f,fd,m,kp,bi,ok⟩:=G
 refine (Zod ok hr hg m kp bi .nil Zle ha hdb he hpl).imp fun σ H Q zz1=>?_
 obtain ⟨ι,M,env,S,E,h⟩:=zz1
 obtain ⟨ds,M1,e1,h⟩:=Zap.bind h
 refine ⟨ι,M,env,S,E,?_⟩
 rw [e1]
 intro vs H1 ι1 x1 S1 r1
 have hl:ds.length = ps.length:=by
  refine Decidable.byContradiction fun q=>?_
  rw [hn ds M1 q] at h
  exact h.elim
 exact ⟨ι1,M1,ds,S1,by rw [List.append_nil]; exact r1,hl,h.up x1⟩
end
end L3
namespace L3
open PySem PySem.Spec PyProof.Rows L2
noncomputable def tGf (K:PySem.W.Frag) (g:G3):TG:=fun v σ H Q=>∃ ι M env d env',Zau K H ι M ∧ ZbG K H ι env σ ∧ Rep K H ι d v ∧ g d env = some env' ∧ ∀ σ',ZbG K H ι env' σ' → Q σ' H
noncomputable def tGs (K:PySem.W.Frag) (is:List Nat):TGs:=fun vs σ H Q=>∃ ι M env ds env',Zau K H ι M ∧ ZbG K H ι env σ ∧ Zaf K H ι ds vs ∧ bindAll is ds env = some env' ∧ ∀ σ',ZbG K H ι env' σ' → Q σ' H
noncomputable def CG (X:Cx) (tg:Expr) (g:G3):Prop:=PG X tg (tGf X.K g)
noncomputable def CGs (X:Cx) (tg:List Expr) (is:List Nat):Prop:=PGs X tg (tGs X.K is)
theorem PG.imp {X:Cx} {e:Expr} {t t':TG} (h:PG X e t) (i:∀ v σ H Q,t' v σ H Q → t v σ H Q):PG X e t':=fun pins s σ H v u Q I r q=>h pins s σ H v u Q I r (i v σ H Q q)
theorem PGs.imp {X:Cx} {e:List Expr} {t t':TGs} (h:PGs X e t) (i:∀ v σ H Q,t' v σ H Q → t v σ H Q):PGs X e t':=fun pins s σ H v u Q I r q=>h pins s σ H v u Q I r (i v σ H Q q)
section
variable {X:Cx} {e:Expr} {es:List Expr} {pos:Pos}
theorem ZcJ (i:Nat) {x:Str} (hN:X.N.Nodup) (hi:X.N[i]? = some x:=by rfl) (hx:Loc X.env.scope x:=by first | exact Or.inl rfl | exact Or.inr rfl)
  (hf:X.fn x = true ∨ X.env.scope.names.lookup x = some .local:=by first | exact .inl rfl | exact .inr rfl):CG X (.Name x pos) (Zci i):=PG.imp (Zk6 hN hi hx hf) fun v σ H Q zz1=>by
 obtain ⟨ι,M,env,d,env',S,E,r,q,h⟩:=zz1
 cases q
 exact h _ (E.set i r)
theorem ZeN:CGs X [] []:=PGs.imp Zn6 fun v σ H Q zz1=>by
 obtain ⟨ι,M,env,ds,env',S,E,r,q,h⟩:=zz1
 cases ds with
 | nil=>cases q; exact ⟨r.nil_inv,h σ E⟩
 | cons d ds=>cases q
theorem Zbn (i:Nat) {is:List Nat} {x:Str} (hN:X.N.Nodup) (ht:CGs X es is) (hi:X.N[i]? = some x:=by rfl) (hx:Loc X.env.scope x:=by first | exact Or.inl rfl | exact Or.inr rfl)
  (hf:X.fn x = true ∨ X.env.scope.names.lookup x = some .local:=by first | exact .inl rfl | exact .inr rfl) (hs:(assignEach (.Name x pos :: es) X.env).map (·.2) = assign (.Name x pos) X.env :: (assignEach es X.env).map (·.2):=by rfl):
  CGs X (.Name x pos :: es) (i :: is):=PGs.imp (ZmN (Zk6 hN hi hx hf) ht hs) fun v σ H Q zz1=>by
 obtain ⟨ι,M,env,ds,env',S,E,r,q,h⟩:=zz1
 cases ds with
 | nil=>cases q
 | cons d ds=>
  obtain ⟨v,ws,rfl,r1,r2⟩:=r.cons_inv
  exact ⟨v,ws,rfl,ι,M,env.set i (some d),ds,env',S,E.set i r1,r2,q,h⟩
theorem ZiC {is:List Nat} {k:Nat} (hc:X.calm = true) (h:CGs X es is) (hl:es.length = is.length:=by rfl) (hn:(assignEach es X.env).length = is.length:=by rfl) (hst:(assignEach es X.env).findIdx? (·.1) = none:=by rfl):CG X (.Tuple es k pos) (Zep is):=
 PG.imp (Zo8 (n:=is.length) hc h hn hst) fun v σ H Q zz1=>by
  obtain ⟨ι,M,env,d,env',S,E,r,q,h⟩:=zz1
  cases d with
  | tup ds=>
   obtain ⟨a,vs,rfl,s,r⟩:=r.tup_inv
   have hlen:∀ (is:List Nat) (ds:List D) (env env':Zat),bindAll is ds env = some env' → ds.length = is.length:=by
    intro is
    induction is with
    | nil=>intro ds env env' h; cases ds with | nil=>rfl | cons d ds=>cases h
    | cons i is ih=>intro ds env env' h; cases ds with | nil=>cases h | cons d ds=>simp [ih ds _ _ h]
   exact ⟨a,vs,rfl,s,by rw [r.length]; exact hlen _ _ _ _ q,ι,M,env,ds,env',S,E,r,q,h⟩
  | _=>cases q
end
noncomputable def ZkB (K:PySem.W.Frag) (H:Hp) (ι:List Addr) (it:It3) (J:It):Prop:=∀ (i:Nat) H2 ι2 M2,Ext K H ι H2 ι2 → Zau K H2 ι2 M2 → locked it M2 = true →
 (∀ d,it.items[i]? = some d → J.go i H2 ∧ ∀ x H3,J.yld i H2 x H3 → H3 = H2 ∧ Rep K H2 ι2 d x) ∧ (i = it.items.length → J.stop i H2)
noncomputable def Zjo (K:PySem.W.Frag) (H:Hp) (ι:List Addr) (R:It → Hp → Prop) (r:R3 It3):Prop:=match r with
 | .ok it M'=>∀ J H' ι',Ext K H ι H' ι' → Zau K H' ι' M' → ZkB K H' ι' it J → R J H'
 | _=>False
noncomputable def tIf (K:PySem.W.Frag) (g:I3):TI:=fun σ H R=>∃ ι M env,Zau K H ι M ∧ ZbG K H ι env σ ∧ Zjo K H ι R (g env M)
noncomputable def CI (X:Cx) (tg e:Expr) (g:I3):Prop:=PI X tg e (tIf X.K g)
theorem PI.imp {X:Cx} {tg e:Expr} {t t':TI} (h:PI X tg e t) (i:∀ σ H Q,t' σ H Q → t σ H Q):PI X tg e t':=fun pins s σ H Q I q=>h pins s σ H Q I (i σ H Q q)
theorem PI.or {X:Cx} {tg e:Expr} {t t':TI} (h:PI X tg e t) (h':PI X tg e t'):PI X tg e (fun σ H R=>t σ H R ∨ t' σ H R):=fun pins s σ H Q I q=>q.elim (h pins s σ H Q I) (h' pins s σ H Q I)
theorem Zjo.bind {K:PySem.W.Frag} {H:Hp} {ι:List Addr} {α:Type} {Q:It → Hp → Prop} {r:R3 α} {k:α → Store → R3 It3} (h:Zjo K H ι Q (r.bind k)):∃ a M,r = .ok a M ∧ Zjo K H ι Q (k a M):=by
 cases r with
 | ok a M=>exact ⟨a,M,rfl,h⟩
 | exc x M=>exact h.elim
 | bad=>exact h.elim
section
variable {K:PySem.W.Frag} {H:Hp} {ι:List Addr}
end
section
variable {X:Cx} {tg e a b:Expr} {pos p:Pos} {f g:E3}
theorem Zqp (h:C3 X e f) (hs:PI X tg e (fun σ H R=>tOf X.K f σ H fun x H1=>∃ z:Str,x = .str z ∧ z.length ≤ SZ ∧ ∀ J,(∀ ι,ZkB X.K H1 ι ⟨z.cps.toList.map fun c=>.str [c],none⟩ J) → R J H1)):CI X tg e (ZfW f):=
 PI.imp (PI.or (Zp2 h) (PI.or (ZnF h) hs)) fun σ H R zz1=>by
  obtain ⟨ι,M,env,S,E,h⟩:=zz1
  obtain ⟨d,M1,e1,h⟩:=Zjo.bind h
  cases d with
  | tup ds=>
   refine .inl ⟨ι,M,env,S,E,?_⟩
   rw [e1]
   intro v H1 ι1 x1 S1 r1
   obtain ⟨a,vs,rfl,s,r⟩:=r1.tup_inv
   refine ⟨a,rfl,⟨vs,s⟩,h _ H1 ι1 x1 S1 ?_⟩
   intro i H2 ι2 M2 x S2 _
   refine ⟨fun d hd=>?_,fun hl=>⟨vs,x.tup _ _ s,by rw [r.length,hl]; exact Nat.le_refl _⟩⟩
   obtain ⟨v,hv,rv⟩:=r.get hd
   refine ⟨⟨vs,v,x.tup _ _ s,hv⟩,fun y H3 hy=>⟨hy.1,?_⟩⟩
   have e:=hy.2 vs (x.tup _ _ s)
   rw [hv] at e
   cases e
   exact rv.mono x
  | scr ds=>
   refine .inr (.inl ⟨ι,M,env,S,E,?_⟩)
   rw [e1]
   intro v H1 ι1 x1 S1 r1
   obtain ⟨a,vs,rfl,s,r⟩:=r1.scr_inv
   refine ⟨a,rfl,⟨vs,s.sq⟩,h _ H1 ι1 x1 S1 ?_⟩
   intro i H2 ι2 M2 x S2 _
   refine ⟨fun d hd=>?_,fun hl=>⟨vs,(x.scr _ _ s).sq,by rw [r.length,hl]; exact Nat.le_refl _⟩⟩
   obtain ⟨v,hv,rv⟩:=r.get hd
   refine ⟨⟨vs,v,(x.scr _ _ s).sq,hv⟩,fun y H3 hy=>⟨hy.1,?_⟩⟩
   have e:=hy.2 vs (x.scr _ _ s).sq
   rw [hv] at e
   cases e
   exact rv.mono x
  | ref n=>
   refine .inr (.inl ⟨ι,M,env,S,E,?_⟩)
   rw [e1]
   intro v H1 ι1 x1 S1 r1
   cases hm:M1[n]? with
   | none=>simp only [hm] at h; exact h.elim
   | some o=>
    cases o with
    | dct kvs=>simp only [hm] at h; exact h.elim
    | fdct kvs=>simp only [hm] at h; exact h.elim
    | ins _ _=>simp only [hm] at h; exact h.elim
    | lst ds=>
     simp only [hm] at h
     obtain ⟨a,ha,rfl⟩:=r1.ref_inv
     obtain ⟨vs,q,r⟩:=S1.obj n _ a hm ha
     refine ⟨a,rfl,⟨vs,SqL.of q⟩,h _ H1 ι1 x1 S1 ?_⟩
     intro i H2 ι2 M2 x S2 lk
     have lk':M2[n]? = some (.lst ds):=of_decide_eq_true lk
     obtain ⟨vs2,q2,r2⟩:=S2.obj n _ a lk' (x.pre _ _ ha)
     refine ⟨fun d hd=>?_,fun hl=>⟨vs2,SqL.of q2,by rw [r2.length,hl]; exact Nat.le_refl _⟩⟩
     obtain ⟨v,hv,rv⟩:=r2.get hd
     refine ⟨⟨vs2,v,SqL.of q2,hv⟩,fun y H3 hy=>⟨hy.1,?_⟩⟩
     have e:=hy.2 vs2 (SqL.of q2)
     rw [hv] at e
     cases e
     exact rv
  | str z=>
   refine .inr (.inr ⟨ι,M,env,S,E,?_⟩)
   rw [e1]
   intro v H1 ι1 x1 S1 r1
   have hv:=r1.str_inv
   subst hv
   by_cases hz:z.length ≤ SZ
   ·simp only [if_pos hz] at h
    refine ⟨_,rfl,by simpa [Str.length] using hz,fun J hJ=>h J H1 ι1 x1 S1 ?_⟩
    simpa using hJ ι1
   ·simp only [if_neg hz] at h; exact h.elim
  | non=>exact h.elim
  | bl b=>exact h.elim
  | int i=>exact h.elim
theorem Zjv {K:PySem.W.Frag} {H:Hp} {ι:List Addr} (lo:Int) (n:Nat):ZkB K H ι ⟨Zc4 lo n,none⟩ (Itr lo n):=by
 intro i H2 ι2 M2 x S _
 refine ⟨fun d hd=>?_,fun hl=>?_⟩
 ·unfold Zc4 at hd
  rw [List.getElem?_map] at hd
  cases q:(List.range n)[i]? with
  | none=>rw [q] at hd; cases hd
  | some k=>
   rw [q] at hd
   obtain ⟨hi,e⟩:=List.getElem?_eq_some_iff.mp q
   rw [List.getElem_range] at e
   subst e
   have hd':D.int (lo + (i:Int)) = d:=by simpa using hd
   subst hd'
   exact ⟨(by show i < n; simpa using hi),fun y H3 hy=>⟨hy.1,by rw [hy.2]; exact Rep.int⟩⟩
 ·show n ≤ i
  rw [hl]
  simp [Zc4]
theorem ZeL (hm:X.mg "range" = none) (h:C3 X a f) (hg:Gl X "range":=by rfl) (hs:starEach [a] X.env = [(false,eval a X.env)]:=by rfl) (hs':starEach (a :: []) X.env = (false,eval a X.env) :: starEach [] X.env:=by rfl):CI X tg (.Call (.Name "range" p) [a] [] pos) (ZcO f):=
 PI.imp (ZlP hg hm (Zd h Zm hs') hs) fun σ H R zz1=>by
  obtain ⟨ι,M,env,S,E,h⟩:=zz1
  obtain ⟨d,M1,e1,h⟩:=Zjo.bind h
  refine ⟨ι,M,env,S,E,?_⟩
  have e2:Zb f Zi env M = .ok [d] M1:=by unfold Zb; rw [e1]; rfl
  rw [e2]
  intro vs H1 ι1 x1 S1 r1
  obtain ⟨v,ws,rfl,r,q⟩:=r1.cons_inv
  have:=q.nil_inv
  subst this
  cases d with
  | int j=>
   have hv:=r.int_inv
   subst hv
   by_cases hj:j ≤ 1000000 ∧ -1000000 ≤ j
   ·simp only [if_pos hj] at h
    exact ⟨j,rfl,by omega,by omega,h _ H1 ι1 x1 S1 (Zjv 0 j.toNat)⟩
   ·simp only [if_neg hj] at h; exact h.elim
  | _=>exact h.elim
theorem Zh5 (hm:X.mg "range" = none) (h:C3 X a f) (h':C3 X b g) (hg:Gl X "range":=by rfl) (hs:starEach [a,b] X.env = [(false,eval a X.env),(false,eval b X.env)]:=by rfl) (hs2:starEach [b] X.env = [(false,eval b X.env)]:=by rfl)
  (hs':starEach (b :: []) X.env = (false,eval b X.env) :: starEach [] X.env:=by rfl) (hs3:starEach (a :: [b]) X.env = (false,eval a X.env) :: starEach [b] X.env:=by rfl):CI X tg (.Call (.Name "range" p) [a,b] [] pos) (ZfA f g):=
 PI.imp (Zlx hg hm (Zd h (Zd h' Zm hs') hs3) hs hs2) fun σ H R zz1=>by
  obtain ⟨ι,M,env,S,E,h⟩:=zz1
  obtain ⟨d,M1,e1,h⟩:=Zjo.bind h
  obtain ⟨d',M2,e2,h⟩:=Zjo.bind h
  refine ⟨ι,M,env,S,E,?_⟩
  have e3:Zb f (Zb g Zi) env M = .ok [d,d'] M2:=by
   unfold Zb
   rw [e1]
   show ((Zb g Zi env M1).bind _) = _
   unfold Zb
   rw [e2]
   rfl
  rw [e3]
  intro vs H1 ι1 x1 S1 r1
  obtain ⟨v,ws,rfl,r,q⟩:=r1.cons_inv
  obtain ⟨v',ws',rfl,r',q⟩:=q.cons_inv
  have:=q.nil_inv
  subst this
  cases d with
  | int i=>
   cases d' with
   | int j=>
    have hv:=r.int_inv
    have hv':=r'.int_inv
    subst hv hv'
    by_cases hj:(j ≤ 1000000 ∧ -1000000 ≤ j) ∧ (i ≤ 1000000 ∧ -1000000 ≤ i)
    ·simp only [if_pos hj] at h
     exact ⟨i,j,rfl,⟨by omega,by omega,by omega,by omega⟩,h _ H1 ι1 x1 S1 (Zjv i (j - i).toNat)⟩
    ·simp only [if_neg hj] at h; exact h.elim
   | _=>exact h.elim
  | _=>exact h.elim
theorem Zne {iter:Expr} {body:List Stmt} {i:I3} {g:G3} {u:S3} (hxe:X.xe = fun _ _=>False) (hc:X.calm = true) (hi:CI X tg iter i) (hg:CG X tg g) (hb:CSs X body u) (hs:∀ x,foldedSetIterable iter X.env x = pure x:=by intro _; rfl):
  CS X (.For tg iter body [] pos) (Zjg i g u):=(Zmq (by rw [hxe]; exact PassesOwn.never) hc hi hg hb hs).imp fun D σ H zz1=>by
 obtain ⟨ι,M,env,S,E,h⟩:=zz1
 unfold Zjg at h
 cases q:i env M with
 | exc x M1=>rw [q] at h; exact h.elim
 | bad=>rw [q] at h; exact h.elim
 | ok it M1=>
  rw [q] at h
  refine ⟨ι,M,env,S,E,?_⟩
  rw [q]
  intro J H1 ι1 x1 S1 ok
  refine ⟨fun i m σ2 H2=>m = it.items.length - i ∧ i ≤ it.items.length ∧ ∃ ι2 M2 env2,Ext X.K H1 ι1 H2 ι2 ∧ Zau X.K H2 ι2 M2 ∧ ZbG X.K H2 ι2 env2 σ2 ∧ ZeU X.K H2 ι2 D (Zeo it g u (it.items.drop i) env2 M2),
   ⟨_,rfl,Nat.zero_le _,ι1,M1,env,Ext.refl,S1,E.mono x1,ZeU.up x1 h⟩,?_⟩
  rintro i m σ2 H2 ⟨rfl,hi,ι2,M2,env2,x2,S2,E2,h2⟩
  by_cases hlt:i < it.items.length
  ·have hd:it.items[i]? = some it.items[i]:=by simp [hlt]
   rw [List.drop_eq_getElem_cons hlt] at h2
   unfold Zeo at h2
   by_cases lk:locked it M2 = true
   ·rw [if_pos lk] at h2
    obtain ⟨go,yl⟩:=(ok i H2 ι2 M2 x2 S2 lk).1 _ hd
    cases eg:g it.items[i] env2 with
    | none=>rw [eg] at h2; exact h2.elim
    | some env3=>
     rw [eg] at h2
     refine .inr ⟨go,fun σ' H'=>∃ ι3 M3 env4,Ext X.K H2 ι2 H' ι3 ∧ Zau X.K H' ι3 M3 ∧ ZbG X.K H' ι3 env4 σ' ∧ ZeU X.K H' ι3 D (Zeo it g u (it.items.drop (i + 1)) env4 M3),
      fun σ' H' ⟨ι3,M3,env4,x3,S3,E3,h3⟩=>⟨it.items.length - (i + 1),lD 2 0x30113c2012a1c0c21 T1 (Nat.sub_add_cancel (lB 1 6991908881 T1 hlt)) (sbA _ _),rfl,hlt,ι3,M3,env4,x2.trans x3,S3,E3,h3⟩,fun x H' hy=>?_⟩
     obtain ⟨rfl,rx⟩:=yl x H' hy
     refine ⟨ι2,M2,env2,_,env3,S2,E2,rx,eg,fun σ' E'=>⟨ι2,M2,env3,S2,E',?_⟩⟩
     cases qu:u env3 M2 with
     | nx e' M'=>simp only [qu] at h2; exact fun σ' H' ι' x' S' E'=>⟨ι',M',e',x',S',E',h2.up x'⟩
     | ct e' M'=>simp only [qu] at h2; exact fun σ' H' ι' x' S' E'=>⟨ι',M',e',x',S',E',h2.up x'⟩
     | bk e' M'=>simp only [qu] at h2; exact h2
     | rt d M'=>simp only [qu] at h2; exact h2
     | exc x' M'=>simp only [qu] at h2; exact h2.elim
     | bad=>simp only [qu] at h2; exact h2.elim
   ·rw [if_neg lk] at h2; exact h2.elim
  ·have e0:i = it.items.length:=Nat.le_antisymm hi (Nat.le_of_not_lt hlt)
   subst e0
   rw [List.drop_length] at h2
   unfold Zeo at h2
   by_cases lk:locked it M2 = true
   ·rw [if_pos lk] at h2
    exact .inl ⟨(ok _ H2 ι2 M2 x2 S2 lk).2 rfl,h2 σ2 H2 ι2 Ext.refl S2 E2⟩
   ·rw [if_neg lk] at h2; exact h2.elim
theorem ZjF {c1:Expr} {body:List Stmt} {u:S3} (hxe:X.xe = fun _ _=>False) (hc:CT X c1 f) (hb:CSs X body u):CS X (.While c1 body [] pos) (Zg2 f u):=(Zmw (by rw [hxe]; exact PassesOwn.never) hc hb).imp fun D σ H zz1=>by
 obtain ⟨ι,M,env,S,E,h⟩:=zz1
 refine ⟨fun m σ2 H2=>∃ ι2 M2 env2,Zau X.K H2 ι2 M2 ∧ ZbG X.K H2 ι2 env2 σ2 ∧ ZeU X.K H2 ι2 D (Zdv f u m env2 M2),⟨1000000,ι,M,env,S,E,h⟩,?_⟩
 rintro m σ2 H2 ⟨ι2,M2,env2,S2,E2,h2⟩
 cases m with
 | zero=>exact h2.elim
 | succ m=>
  refine ⟨ι2,M2,env2,S2,E2,?_⟩
  unfold Zdv at h2
  cases q:f env2 M2 with
  | exc x M1=>rw [q] at h2; exact h2.elim
  | bad=>rw [q] at h2; exact h2.elim
  | ok d M1=>
   rw [q] at h2
   cases d with
   | bl k=>
    cases k with
    | false=>
     intro H3 ι3 x3 S3
     rw [if_neg (by decide)]
     exact h2 σ2 H3 ι3 x3 S3 (E2.mono x3)
    | true=>
     intro H3 ι3 x3 S3
     rw [if_pos rfl]
     refine ⟨fun σ' H'=>∃ ι4 M4 env4,Zau X.K H' ι4 M4 ∧ ZbG X.K H' ι4 env4 σ' ∧ ZeU X.K H' ι4 D (Zdv f u m env4 M4),fun σ' H' q=>⟨m,Nat.lt_succ_self _,q⟩,ι3,M1,env2,S3,E2.mono x3,?_⟩
     have h3:=ZeU.up x3 h2
     cases qu:u env2 M1 with
     | nx e' M'=>simp only [qu] at h3; exact fun σ' H' ι' x' S' E'=>⟨ι',M',e',S',E',h3.up x'⟩
     | ct e' M'=>simp only [qu] at h3; exact fun σ' H' ι' x' S' E'=>⟨ι',M',e',S',E',h3.up x'⟩
     | bk e' M'=>simp only [qu] at h3; exact h3
     | rt d M'=>simp only [qu] at h3; exact h3
     | exc x' M'=>simp only [qu] at h3; exact h3.elim
     | bad=>simp only [qu] at h3; exact h3.elim
   | _=>exact h2.elim
end
end L3
namespace L3
open PySem PySem.Spec PyProof.Rows L2
theorem Rep.non_iff {K:PySem.W.Frag} {H:Hp} {ι:List Addr} {d:D} {v:V} (r:Rep K H ι d v):decide (v = V.non) = decide (d = D.non):=by
 cases d with
 | non=>rw [r.non_inv]; rfl
 | bl b=>rw [r.bl_inv]; simp
 | int i=>rw [r.int_inv]; simp
 | str x=>rw [r.str_inv]; simp
 | tup ds=>obtain ⟨a,vs,rfl,_⟩:=r.tup_inv; simp
 | scr ds=>obtain ⟨a,vs,rfl,_⟩:=r.scr_inv; simp
 | ref n=>obtain ⟨a,_,rfl⟩:=r.ref_inv; simp
theorem Zfn {x y:List Nat}:decide (V.str ⟨x.toArray⟩ = V.str ⟨y.toArray⟩) = (x == y):=by
 by_cases h:x = y
 ·subst h; simp
 ·rw [decide_eq_false (fun e=>h (by injection e with e1; injection e1 with e2; simpa using congrArg Array.toList e2))]
  exact (beq_eq_false_iff_ne.mpr h).symm
section
variable {X:Cx}
theorem Znk:OpR X (binaryOp .Add) (fun x y H Q=>∃ a b ys,x = .ref a ∧ y = .ref b ∧ SqT X.K H a [] ∧ SqT X.K H b ys ∧ Q (.ref b) H):=by
 intro pins s σ H x y v u Q I rx ry h
 obtain ⟨a,b,ys,rfl,rfl,ha,hb,q⟩:=h
 cases rx
 cases ry
 obtain ⟨its,r1,p1,_⟩:=I.tuple ha
 obtain ⟨its2,r2,p2,_⟩:=I.tuple hb
 cases r1
 obtain ⟨⟨cls,dd,data,sl⟩,ho,hc,n,hd⟩:=id p1
 obtain ⟨⟨cls2,dd2,data2,sl2⟩,ho2,hc2,n2,hd2⟩:=id p2
 simp only at hc hd hc2 hd2
 subst hc hd hc2 hd2
 exact concat_meets ⟨_,ho,rfl⟩ ⟨_,ho2,rfl⟩ noFill_tuple_add seq_tuple_add PySem.F.slot_tuple_add PySem.F.entry_tuple_add (PySem.F.args_tuple_add_2 _ _)
   (tuple_addW0 a b _ its2.toArray n n2 dd dd2 sl sl2 (by simp)) ⟨ho,ho2,⟨.ref b,H,I,rfl,q⟩⟩
theorem Zot (x y:List Nat):(⟨x.toArray⟩:Str) ++ ⟨y.toArray⟩ = ⟨(x ++ y).toArray⟩:=by
 show Str.append _ _ = _
 unfold Str.append
 simp
theorem ZaG:OpR X (binaryOp .Add) (r2 X.K Zz):=OpR.imp (OpR.or Zqf (OpR.or Zj6 (OpR.or Zqu (OpR.or Zon Znk)))) fun x y H Q zz1=>by
 obtain ⟨ι,M,a,b,S,ra,rb,h⟩:=zz1
 cases a with
 | int i=>cases b with
  | int j=>exact .inl ⟨i,j,ra.int_inv,rb.int_inv,Zap.ok h S Rep.int⟩
  | _=>exact h.elim
 | str x=>cases b with
  | str y=>
   simp only [Zz] at h
   split at h
   ·rename_i hz
    refine .inr (.inl ⟨_,_,ra.str_inv,rb.str_inv,?_,?_⟩)
    ·have:=ZbY
     simp only [Str.length,List.size_toArray]
     exact Nat.le_trans hz this
    ·rw [Zot]; exact Zap.ok h S Rep.str
   ·exact h.elim
  | _=>exact h.elim
 | tup x=>cases b with
  | tup y=>
   simp only [Zz] at h
   split at h
   ·rename_i hz
    obtain ⟨p,vs,rfl,s,r⟩:=ra.tup_inv
    obtain ⟨q,ws,rfl,s',r'⟩:=rb.tup_inv
    by_cases hv:vs = []
    ·subst hv
     have hx:x = []:=by have:=r.length; simpa using this.symm
     subst hx
     exact .inr (.inr (.inr (.inr ⟨p,q,ws,rfl,rfl,s,s',Zap.ok h S (Rep.tup s' r')⟩)))
    ·refine .inr (.inr (.inr (.inl ⟨p,q,vs,ws,rfl,rfl,s,s',hv,?_,fun hw=>?_,fun hw p' hp=>?_⟩)))
     ·have:=ZbY
      rw [r.length,r'.length]
      exact Nat.le_trans hz this
     ·subst hw
      have hy:y = []:=by have:=r'.length; simpa using this.symm
      subst hy
      rw [List.append_nil] at h
      exact Zap.ok h S (Rep.tup s r)
     ·obtain ⟨x2,S2,r2⟩:=S.tupl hp (r.append r')
      exact h _ _ _ x2 S2 r2
   ·exact h.elim
  | _=>exact h.elim
 | ref n=>cases b with
  | ref m=>
   simp only [Zz] at h
   cases hn:M[n]? with
   | none=>simp only [hn] at h; exact h.elim
   | some o=>
    cases o with
    | dct _=>simp only [hn] at h; exact h.elim
    | fdct _=>simp only [hn] at h; exact h.elim
    | ins _ _=>simp only [hn] at h; exact h.elim
    | lst x=>
     cases hm:M[m]? with
     | none=>simp only [hn,hm] at h; exact h.elim
     | some o=>
      cases o with
      | dct _=>simp only [hn,hm] at h; exact h.elim
      | fdct _=>simp only [hn,hm] at h; exact h.elim
      | ins _ _=>simp only [hn,hm] at h; exact h.elim
      | lst y=>
       simp only [hn,hm] at h
       split at h
       ·rename_i hz
        obtain ⟨p,hp,rfl⟩:=ra.ref_inv
        obtain ⟨q,hq,rfl⟩:=rb.ref_inv
        obtain ⟨vs,e1,r1⟩:=S.obj n _ p hn hp
        obtain ⟨ws,e2,r2⟩:=S.obj m _ q hm hq
        refine .inr (.inr (.inl ⟨p,q,vs,ws,rfl,rfl,e1,e2,?_,fun p' hp'=>?_⟩))
        ·have:=ZbY
         rw [r1.length,r2.length]
         exact Nat.le_trans hz this
        ·obtain ⟨x2,S2,r3⟩:=S.lst hp' (r1.append r2)
         exact h _ _ _ x2 S2 r3
       ·exact h.elim
  | _=>exact h.elim
 | _=>cases b <;> exact h.elim
theorem ZeZ:OpR X (binaryOp .Sub) (r2 X.K Zcu):=OpR.imp ZoY fun x y H Q zz1=>by
 obtain ⟨ι,M,a,b,S,ra,rb,h⟩:=zz1
 cases a <;> cases b <;> first | exact h.elim | exact ⟨_,_,ra.int_inv,rb.int_inv,Zap.ok h S Rep.int⟩
theorem ZaU:OpR X (binaryOp .Mod) (r2 X.K Zae):=OpR.imp Zp3 fun x y H Q zz1=>by
 obtain ⟨ι,M,a,b,S,ra,rb,h⟩:=zz1
 cases a with
 | int i=>cases b with
  | int j=>
   simp only [Zae] at h
   split at h
   ·rename_i hj
    exact ⟨i,j,ra.int_inv,rb.int_inv,hj,Zap.ok h S Rep.int⟩
   ·exact h.elim
  | _=>exact h.elim
 | _=>cases b <;> exact h.elim
theorem ZaV:OpR X (binaryOp .FloorDiv) (r2 X.K Zad):=OpR.imp ZnG fun x y H Q zz1=>by
 obtain ⟨ι,M,a,b,S,ra,rb,h⟩:=zz1
 cases a with
 | int i=>cases b with
  | int j=>
   simp only [Zad] at h
   split at h
   ·rename_i hj
    exact ⟨i,j,ra.int_inv,rb.int_inv,hj,Zap.ok h S Rep.int⟩
   ·exact h.elim
  | _=>exact h.elim
 | _=>cases b <;> exact h.elim
theorem Zmo:OpR X (binaryOp .Pow) (r2 X.K Zen):=OpR.imp Zqw fun x y H Q zz1=>by
 obtain ⟨ι,M,a,b,S,ra,rb,h⟩:=zz1
 cases a with
 | int i=>cases b with
  | int j=>
   simp only [Zen] at h
   split at h
   ·rename_i hj
    exact ⟨i,j,ra.int_inv,rb.int_inv,⟨hj.1,iN [] [_] 1 0xf42405b083e83b081 T1 hj.2.1,by have:=hj.2.2; omega⟩,Zap.ok h S Rep.int⟩
   ·exact h.elim
  | _=>exact h.elim
 | _=>cases b <;> exact h.elim
theorem ZkV:UnR X (unaryOp .USub) (r1 X.K Zgi):=UnR.imp Zqk fun x H Q zz1=>by
 obtain ⟨ι,M,a,S,ra,h⟩:=zz1
 cases a with
 | int i=>exact ⟨i,ra.int_inv,Zap.ok h S Rep.int⟩
 | _=>exact h.elim
theorem Zou:OpR X (compareOp .Lt) (r2 X.K ZlI):=OpR.imp Zrs fun x y H Q zz1=>by
 obtain ⟨ι,M,a,b,S,ra,rb,h⟩:=zz1
 cases a <;> cases b <;> first | exact h.elim | exact ⟨_,_,ra.int_inv,rb.int_inv,Zap.ok h S Rep.bl⟩
theorem Zhk:OpR X (compareOp .Gt) (r2 X.K ZcS):=OpR.imp Zq4 fun x y H Q zz1=>by
 obtain ⟨ι,M,a,b,S,ra,rb,h⟩:=zz1
 cases a <;> cases b <;> first | exact h.elim | exact ⟨_,_,ra.int_inv,rb.int_inv,Zap.ok h S Rep.bl⟩
theorem ZqY:OpR X (compareOp .GtE) (r2 X.K ZjG):=OpR.imp ZrL fun x y H Q zz1=>by
 obtain ⟨ι,M,a,b,S,ra,rb,h⟩:=zz1
 cases a <;> cases b <;> first | exact h.elim | exact ⟨_,_,ra.int_inv,rb.int_inv,Zap.ok h S Rep.bl⟩
theorem Zss:OpR X (compareOp .Is) (r2 X.K ZpF):=OpR.imp Zqx fun x y H Q zz1=>by
 obtain ⟨ι,M,a,b,S,ra,rb,h⟩:=zz1
 cases b with
 | non=>exact ⟨rb.non_inv,by rw [ra.non_iff]; exact Zap.ok h S Rep.bl⟩
 | _=>exact h.elim
theorem Zn4:OpR X (compareOp .IsNot) (r2 X.K Zk8):=OpR.imp Zok fun x y H Q zz1=>by
 obtain ⟨ι,M,a,b,S,ra,rb,h⟩:=zz1
 cases b with
 | non=>exact ⟨rb.non_inv,by rw [ra.non_iff]; exact Zap.ok h S Rep.bl⟩
 | _=>exact h.elim
end
theorem units_in1 (A:Around):A.in1.units = A.units + 1:=rfl
section
variable {X:Cx} {pins:List (Addr × Obj)} {σ:St} {H:Hp} {s:Shared} {ι:List Addr}
theorem ZcI {e:Nat → Bool}:∀ {x y:List D},x.length = y.length → (∀ (j:Nat) a b,x[j]? = some a → y[j]? = some b → e j = deq a b) → (List.range x.length).all e = Zcb x y:=by
 intro x
 induction x generalizing e with
 | nil=>intro y h _; cases y with | nil=>rfl | cons _ _=>simp at h
 | cons a x ih=>
  intro y h he
  cases y with
  | nil=>simp at h
  | cons b y=>
   rw [List.length_cons,List.range_succ_eq_map,List.all_cons,List.all_map,he 0 a b rfl rfl]
   rw [Zcb]
   congr 1
   exact ih (e:=e ∘ Nat.succ) (by simpa using h) fun j a' b' h1 h2=>he (j + 1) a' b' (by simpa using h1) (by simpa using h2)
theorem Zd6:∀ {x y:List D},Zcb x y = true → x.length = y.length
 | [],[],_=>rfl
 | [],_ :: _,h=>by simp [Zcb] at h
 | _ :: _,[],h=>by simp [Zcb] at h
 | a :: x,b :: y,h=>by
  simp only [Zcb,Bool.and_eq_true] at h
  simp [Zd6 h.2]
theorem Rep.fun1 (I:Inv X pins σ H s):∀ (n:Nat) (a b:D) (v:V),ZaB n a = true → ZaB n b = true → Rep X.K H ι a v → Rep X.K H ι b v → deq a b = true:=by
 intro n
 induction n with
 | zero=>
  intro a b v ha hb r q
  cases a with
  | non=>have:=r.non_inv; subst this; cases b <;> simp_all [ZaB,Rep,deq]
  | bl x=>have:=r.bl_inv; subst this; cases b <;> simp_all [ZaB,Rep,deq]
  | int x=>have:=r.int_inv; subst this; cases b <;> simp_all [ZaB,Rep,deq]
  | str x=>have:=r.str_inv; subst this; cases b <;> simp_all [ZaB,Rep,deq]
  | _=>simp [ZaB] at ha
 | succ n ih=>
  intro a b v ha hb r q
  cases a with
  | non=>have:=r.non_inv; subst this; cases b <;> simp_all [ZaB,Rep,deq]
  | bl x=>have:=r.bl_inv; subst this; cases b <;> simp_all [ZaB,Rep,deq]
  | int x=>have:=r.int_inv; subst this; cases b <;> simp_all [ZaB,Rep,deq]
  | str x=>have:=r.str_inv; subst this; cases b <;> simp_all [ZaB,Rep,deq]
  | tup ds=>
   obtain ⟨p,vs,rfl,s1,r1⟩:=r.tup_inv
   cases b with
   | tup es=>
    obtain ⟨p',ws,e,s2,r2⟩:=q.tup_inv
    cases e
    have e:=I.tuple_inj s1 s2
    subst e
    rw [deq]
    have h1:ds.all (ZaB n) = true:=ha
    have h2:es.all (ZaB n) = true:=hb
    have key:∀ (ds es:List D) (vs:List V),ds.all (ZaB n) = true → es.all (ZaB n) = true → Zaf X.K H ι ds vs → Zaf X.K H ι es vs → Zcb ds es = true:=by
     intro ds
     induction ds with
     | nil=>intro es vs _ _ r1 r2; have:=r1.nil_inv; subst this; cases es with | nil=>rfl | cons _ _=>obtain ⟨_,_,e,_⟩:=r2.cons_inv; cases e
     | cons d ds ih2=>
      intro es vs h1 h2 r1 r2
      obtain ⟨v,ws,rfl,q1,q2⟩:=r1.cons_inv
      cases es with
      | nil=>have:=r2.nil_inv; cases this
      | cons e es=>
       obtain ⟨v',ws',z,q3,q4⟩:=r2.cons_inv
       cases z
       rw [List.all_cons,Bool.and_eq_true] at h1 h2
       rw [Zcb,ih d e v h1.1 h2.1 q1 q3,ih2 es ws h1.2 h2.2 q2 q4]
       rfl
    exact key ds es vs h1 h2 r1 r2
   | non=>have:=q.non_inv; cases this
   | bl _=>have:=q.bl_inv; cases this
   | int _=>have:=q.int_inv; cases this
   | str _=>have:=q.str_inv; cases this
   | _=>simp [ZaB] at hb
  | _=>simp [ZaB] at ha
theorem Zdm (A:Around) (a b:D) (x y:V) (u v:Value) (ha:ZaZ a = true) (hb:ZaZ b = true) (ra:Rep X.K H ι a x) (rb:Rep X.K H ι b y) (ru:RelV x u) (rv:RelV y v):SeqAt.EqAt A s u v (deq a b):=by
 cases a with
 | non=>have:=ra.non_inv; subst this; cases ru; cases b with
  | non=>have:=rb.non_inv; subst this; cases rv; exact SeqAt.EqAt.same _
  | bl k=>have:=rb.bl_inv; subst this; cases rv; exact SeqAt.EqAt.none_bool _
  | int k=>have:=rb.int_inv; subst this; obtain ⟨t,rfl⟩:=rv; exact SeqAt.EqAt.none_int _ _
  | str k=>have:=rb.str_inv; subst this; obtain ⟨t,rfl⟩:=rv; exact SeqAt.EqAt.none_str _ _
  | _=>simp [ZaZ] at hb
 | bl i=>have:=ra.bl_inv; subst this; cases ru; cases b with
  | non=>have:=rb.non_inv; subst this; cases rv; exact SeqAt.EqAt.bool_none _
  | bl k=>have:=rb.bl_inv; subst this; cases rv; exact SeqAt.EqAt.bool_bool _ _
  | int k=>have:=rb.int_inv; subst this; obtain ⟨t,rfl⟩:=rv; exact SeqAt.EqAt.bool_int _ _ _
  | str k=>have:=rb.str_inv; subst this; obtain ⟨t,rfl⟩:=rv; exact SeqAt.EqAt.bool_str _ _ _
  | _=>simp [ZaZ] at hb
 | int i=>have:=ra.int_inv; subst this; obtain ⟨t0,rfl⟩:=ru; cases b with
  | non=>have:=rb.non_inv; subst this; cases rv; exact SeqAt.EqAt.int_none _ _
  | bl k=>have:=rb.bl_inv; subst this; cases rv; exact SeqAt.EqAt.int_bool _ _ _
  | int k=>have:=rb.int_inv; subst this; obtain ⟨t,rfl⟩:=rv; exact SeqAt.EqAt.int_int _ _ _ _
  | str k=>have:=rb.str_inv; subst this; obtain ⟨t,rfl⟩:=rv; exact SeqAt.EqAt.int_str _ _ _ _
  | _=>simp [ZaZ] at hb
 | str i=>have:=ra.str_inv; subst this; obtain ⟨t0,rfl⟩:=ru; cases b with
  | non=>have:=rb.non_inv; subst this; cases rv; exact SeqAt.EqAt.str_none _ _
  | bl k=>have:=rb.bl_inv; subst this; cases rv; exact SeqAt.EqAt.str_bool _ _ _
  | int k=>have:=rb.int_inv; subst this; obtain ⟨t,rfl⟩:=rv; exact SeqAt.EqAt.str_int _ _ _ _
  | str k=>have:=rb.str_inv; subst this; obtain ⟨t,rfl⟩:=rv; exact (by
    have e:deq (.str i) (.str k) = ((⟨i.toArray⟩:Str) == ⟨k.toArray⟩):=by
     rw [deq,← Zfn]
     by_cases h:(⟨i.toArray⟩:Str) = ⟨k.toArray⟩
     ·simp [h]
     ·simp [h]
    rw [e]
    exact SeqAt.EqAt.str_str _ _ _ _)
  | _=>simp [ZaZ] at hb
 | _=>simp [ZaZ] at ha
theorem ZiP (I:Inv X pins σ H s):∀ (n:Nat) (A:Around) (a b:D) (x y:V) (u v:Value),A.units + n + 1 < cLine → ZaB n a = true → ZaB n b = true → Rep X.K H ι a x → Rep X.K H ι b y → RelV x u → RelV y v → SeqAt.EqAt A s u v (deq a b):=by
 intro n
 induction n with
 | zero=>
  intro A a b x y u v hu ha hb ra rb ru rv
  have f:∀ d:D,ZaB 0 d = true → ZaZ d = true:=fun d h=>by cases d <;> simp_all [ZaB,ZaZ]
  exact Zdm A a b x y u v (f a ha) (f b hb) ra rb ru rv
 | succ n ih=>
  intro A a b x y u v hu ha hb ra rb ru rv
  have hu0:A.units + 0 + 1 < cLine:=lC 1 0x2ae0cc12aa1c0cc11 T1 hu
  have hu1:A.units < cLine:=lB 1 1104257534993 T1 hu0
  cases a with
  | tup ds=>
   obtain ⟨p,vs,rfl,s1,r1⟩:=ra.tup_inv
   cases ru
   obtain ⟨its,rvs,ht,_⟩:=I.tuple s1
   have it1:s.heap.IsTuple p its.toArray:=ht
   cases b with
   | tup es=>
    obtain ⟨p',ws,rfl,s2,r2⟩:=rb.tup_inv
    cases rv
    obtain ⟨its2,rws,ht2,_⟩:=I.tuple s2
    have it2:s.heap.IsTuple p' its2.toArray:=ht2
    by_cases hp:p = p'
    ·subst hp
     rw [Rep.fun1 I (n + 1) _ _ _ ha hb ra rb]
     exact SeqAt.EqAt.same _
    ·refine SeqAt.EqAt.of_refs hp ?_
     have e1:its.length = ds.length:=by rw [← rvs.length,r1.length]
     have e2:its2.length = es.length:=by rw [← rws.length,r2.length]
     have key:((List.range (min its.toArray.size its2.toArray.size)).all (fun j=>match ds[j]?,es[j]? with | some a,some b=>deq a b | _,_=>false) && its.toArray.size == its2.toArray.size) = deq (.tup ds) (.tup es):=by
      rw [deq,List.size_toArray,List.size_toArray,e1,e2]
      by_cases hl:ds.length = es.length
      ·rw [hl,Nat.min_self,beq_self_eq_true,Bool.and_true,← hl]
       exact ZcI hl fun j a b h1 h2=>by rw [h1,h2]
      ·have z:Zcb ds es = false:=by
        cases q:Zcb ds es with
        | false=>rfl
        | true=>exact absurd (Zd6 q) hl
       rw [z,beq_eq_false_iff_ne.mpr hl,Bool.and_false]
     rw [← key]
     refine SeqAt.RcAt.tuples it1 it2 hu1 fun j h1 h2=>?_
     have h1':j < ds.length:=by rw [← e1]; simpa using h1
     have h2':j < es.length:=by rw [← e2]; simpa using h2
     have q1:ds[j]? = some ds[j]:=by simp [h1']
     have q2:es[j]? = some es[j]:=by simp [h2']
     rw [q1,q2]
     obtain ⟨v1,g1,z1⟩:=r1.get q1
     obtain ⟨v2,g2,z2⟩:=r2.get q2
     obtain ⟨u1,k1,l1⟩:=rvs.get g1
     obtain ⟨u2,k2,l2⟩:=rws.get g2
     have m1:its.toArray[j] = u1:=by
      have:=List.getElem?_eq_some_iff.mp k1
      simpa using this.2
     have m2:its2.toArray[j] = u2:=by
      have:=List.getElem?_eq_some_iff.mp k2
      simpa using this.2
     rw [m1,m2]
     exact ih A.in1 ds[j] es[j] v1 v2 u1 u2 (by rw [units_in1]; exact lC 1 0x2a1a0ccc12aa1c0cc11 T1 hu) (List.all_eq_true.mp (show ds.all (ZaB n) = true from ha) _ (List.getElem_mem h1')) (List.all_eq_true.mp (show es.all (ZaB n) = true from hb) _ (List.getElem_mem h2')) z1 z2 l1 l2
   | non=>have:=rb.non_inv; subst this; cases rv; exact SeqAt.EqAt.tuple_none it1 hu1
   | bl k=>have:=rb.bl_inv; subst this; cases rv; exact SeqAt.EqAt.tuple_bool _ it1 hu1
   | int k=>have:=rb.int_inv; subst this; obtain ⟨t,rfl⟩:=rv; exact SeqAt.EqAt.tuple_int _ _ it1 hu1
   | str k=>have:=rb.str_inv; subst this; obtain ⟨t,rfl⟩:=rv; exact SeqAt.EqAt.tuple_str _ _ it1 hu1
   | _=>simp [ZaB] at hb
  | non=>cases b with
   | tup es=>
    have:=ra.non_inv; subst this; cases ru
    obtain ⟨p',ws,rfl,s2,r2⟩:=rb.tup_inv
    cases rv
    obtain ⟨its2,rws,ht2,_⟩:=I.tuple s2
    exact SeqAt.EqAt.none_tuple (show s.heap.IsTuple p' its2.toArray from ht2) hu1
   | scr _=>simp [ZaB] at hb
   | ref _=>simp [ZaB] at hb
   | _=>exact Zdm A _ _ x y u v (by rfl) (by rfl) ra rb ru rv
  | bl i=>cases b with
   | tup es=>
    have:=ra.bl_inv; subst this; cases ru
    obtain ⟨p',ws,rfl,s2,r2⟩:=rb.tup_inv
    cases rv
    obtain ⟨its2,rws,ht2,_⟩:=I.tuple s2
    exact SeqAt.EqAt.bool_tuple _ (show s.heap.IsTuple p' its2.toArray from ht2) hu1
   | scr _=>simp [ZaB] at hb
   | ref _=>simp [ZaB] at hb
   | _=>exact Zdm A _ _ x y u v (by rfl) (by rfl) ra rb ru rv
  | int i=>cases b with
   | tup es=>
    have:=ra.int_inv; subst this; obtain ⟨t0,rfl⟩:=ru
    obtain ⟨p',ws,rfl,s2,r2⟩:=rb.tup_inv
    cases rv
    obtain ⟨its2,rws,ht2,_⟩:=I.tuple s2
    exact SeqAt.EqAt.int_tuple _ _ (show s.heap.IsTuple p' its2.toArray from ht2) hu1
   | scr _=>simp [ZaB] at hb
   | ref _=>simp [ZaB] at hb
   | _=>exact Zdm A _ _ x y u v (by rfl) (by rfl) ra rb ru rv
  | str i=>cases b with
   | tup es=>
    have:=ra.str_inv; subst this; obtain ⟨t0,rfl⟩:=ru
    obtain ⟨p',ws,rfl,s2,r2⟩:=rb.tup_inv
    cases rv
    obtain ⟨its2,rws,ht2,_⟩:=I.tuple s2
    exact SeqAt.EqAt.str_tuple _ _ (show s.heap.IsTuple p' its2.toArray from ht2) hu1
   | scr _=>simp [ZaB] at hb
   | ref _=>simp [ZaB] at hb
   | _=>exact Zdm A _ _ x y u v (by rfl) (by rfl) ra rb ru rv
  | _=>simp [ZaB] at ha
end
end L3
namespace L3
open PySem PySem.Spec PyProof.Rows L2
section
variable {X:Cx}
theorem Zp1 {pins:List (Addr × Obj)} {σ:St} {H:Hp} {s:Shared} {ι:List Addr} {M:Store} {a b:D} {x y:V} {u v:Value} {k:Bool} (hu:X.A.units + 80 < cLine) (I:Inv X pins σ H s) (S:Zau X.K H ι M)
  (ra:Rep X.K H ι a x) (rb:Rep X.K H ι b y) (ru:RelV x u) (rv:RelV y v) (h:eqD a b M = some k):SeqAt.RcAt X.A s u v k:=by
 cases a with
 | ref n=>
  cases b with
  | ref m=>
   simp only [eqD] at h
   cases hn:M[n]? with
   | none=>simp [hn] at h
   | some o=>
    cases o with
    | dct _=>simp [hn] at h
    | fdct _=>simp [hn] at h
    | ins _ _=>simp [hn] at h
    | lst ds=>
     cases hm:M[m]? with
     | none=>simp [hn,hm] at h
     | some o=>
      cases o with
      | dct _=>simp [hn,hm] at h
      | fdct _=>simp [hn,hm] at h
      | ins _ _=>simp [hn,hm] at h
      | lst es=>
       simp only [hn,hm] at h
       split at h
       ·rename_i hp
        cases h
        rw [Bool.and_eq_true] at hp
        obtain ⟨p,hp1,rfl⟩:=ra.ref_inv
        obtain ⟨q,hq1,rfl⟩:=rb.ref_inv
        cases ru
        cases rv
        obtain ⟨vs,e1,r1⟩:=S.obj n _ p hn hp1
        obtain ⟨ws,e2,r2⟩:=S.obj m _ q hm hq1
        obtain ⟨its,rvs,pl1,_⟩:=I.list (SqL.of e1)
        obtain ⟨its2,rws,pl2,_⟩:=I.list (SqL.of e2)
        have it1:=pl1.isList
        have it2:=pl2.isList
        have l1:its.length = ds.length:=by rw [← rvs.length,r1.length]
        have l2:its2.length = es.length:=by rw [← rws.length,r2.length]
        have hu1:X.A.units < cLine:=lB 1 17666545486865 T1 hu
        by_cases hl:ds.length = es.length
        ·have key:(List.range its.toArray.size).all (fun j=>match ds[j]?,es[j]? with | some a,some b=>deq a b | _,_=>false) = Zcb ds es:=by
          rw [List.size_toArray,l1]
          exact ZcI hl fun j a b h1 h2=>by rw [h1,h2]
         rw [← key]
         refine SeqAt.RcAt.lists it1 it2 (by rw [List.size_toArray,List.size_toArray,l1,l2,hl]) hu1 fun j h1 h2=>?_
         have h1':j < ds.length:=by rw [← l1]; simpa using h1
         have h2':j < es.length:=by rw [← l2]; simpa using h2
         have q1:ds[j]? = some ds[j]:=by simp [h1']
         have q2:es[j]? = some es[j]:=by simp [h2']
         rw [q1,q2]
         obtain ⟨v1,g1,z1⟩:=r1.get q1
         obtain ⟨v2,g2,z2⟩:=r2.get q2
         obtain ⟨u1,k1,w1⟩:=rvs.get g1
         obtain ⟨u2,k2,w2⟩:=rws.get g2
         have m1:its.toArray[j] = u1:=by
          have:=List.getElem?_eq_some_iff.mp k1
          simpa using this.2
         have m2:its2.toArray[j] = u2:=by
          have:=List.getElem?_eq_some_iff.mp k2
          simpa using this.2
         rw [m1,m2]
         exact ZiP I DEEP X.A.in1 ds[j] es[j] v1 v2 u1 u2 (by rw [units_in1]; show X.A.units + 1 + 60 + 1 < cLine; exact lB 1 0x1a3c2ba0ccc11502b0c11 T1 hu) (List.all_eq_true.mp hp.1 _ (List.getElem_mem h1')) (List.all_eq_true.mp hp.2 _ (List.getElem_mem h2')) z1 z2 w1 w2
        ·have z:Zcb ds es = false:=by
          cases q:Zcb ds es with
          | false=>rfl
          | true=>exact absurd (Zd6 q) hl
         rw [z]
         exact SeqAt.RcAt.lists_lengths it1 it2 (by rw [List.size_toArray,List.size_toArray,l1,l2]; simpa using hl) hu1
       ·cases h
  | _=>simp [eqD] at h
 | int i=>cases b with
  | int j=>
   simp only [eqD] at h
   cases h
   have:=ra.int_inv; subst this; have:=rb.int_inv; subst this
   obtain ⟨t,rfl⟩:=ru
   obtain ⟨t',rfl⟩:=rv
   rw [← Bool.beq_eq_decide_eq]
   exact SeqAt.RcAt.int_int _ _ _ _
  | _=>simp [eqD] at h
 | str i=>cases b with
  | str j=>
   simp only [eqD] at h
   cases h
   have:=ra.str_inv; subst this; have:=rb.str_inv; subst this
   obtain ⟨t,rfl⟩:=ru
   obtain ⟨t',rfl⟩:=rv
   have e:decide (i = j) = ((⟨i.toArray⟩:Str) == ⟨j.toArray⟩):=by
    rw [← Bool.beq_eq_decide_eq,← Zfn]
    by_cases h:(⟨i.toArray⟩:Str) = ⟨j.toArray⟩
    ·simp [h]
    ·simp [h]
   rw [e]
   exact SeqAt.RcAt.str_str _ _ _ _
  | _=>simp [eqD] at h
 | bl i=>cases b with
  | bl j=>
   simp only [eqD] at h
   cases h
   have:=ra.bl_inv; subst this; have:=rb.bl_inv; subst this
   cases ru
   cases rv
   rw [← Bool.beq_eq_decide_eq]
   exact SeqAt.RcAt.bool_bool _ _
  | _=>simp [eqD] at h
 | tup ds=>cases b with
  | tup es=>
   simp only [eqD] at h
   split at h
   ·rename_i hp
    cases h
    rw [Bool.and_eq_true] at hp
    obtain ⟨p,vs,rfl,s1,r1⟩:=ra.tup_inv
    obtain ⟨p',ws,rfl,s2,r2⟩:=rb.tup_inv
    cases ru
    cases rv
    obtain ⟨its,rvs,ht,_⟩:=I.tuple s1
    obtain ⟨its2,rws,ht2,_⟩:=I.tuple s2
    have e1:its.length = ds.length:=by rw [← rvs.length,r1.length]
    have e2:its2.length = es.length:=by rw [← rws.length,r2.length]
    have hu1:X.A.units < cLine:=lB 1 17666545486865 T1 hu
    have key:((List.range (min its.toArray.size its2.toArray.size)).all (fun j=>match ds[j]?,es[j]? with | some a,some b=>deq a b | _,_=>false) && its.toArray.size == its2.toArray.size) = Zcb ds es:=by
     rw [List.size_toArray,List.size_toArray,e1,e2]
     by_cases hl:ds.length = es.length
     ·rw [hl,Nat.min_self,beq_self_eq_true,Bool.and_true,← hl]
      exact ZcI hl fun j a b h1 h2=>by rw [h1,h2]
     ·have z:Zcb ds es = false:=by
       cases q:Zcb ds es with
       | false=>rfl
       | true=>exact absurd (Zd6 q) hl
      rw [z,beq_eq_false_iff_ne.mpr hl,Bool.and_false]
    rw [← key]
    refine SeqAt.RcAt.tuples (show s.heap.IsTuple p its.toArray from ht) (show s.heap.IsTuple p' its2.toArray from ht2) hu1 fun j h1 h2=>?_
    have h1':j < ds.length:=by rw [← e1]; simpa using h1
    have h2':j < es.length:=by rw [← e2]; simpa using h2
    have q1:ds[j]? = some ds[j]:=by simp [h1']
    have q2:es[j]? = some es[j]:=by simp [h2']
    rw [q1,q2]
    obtain ⟨v1,g1,z1⟩:=r1.get q1
    obtain ⟨v2,g2,z2⟩:=r2.get q2
    obtain ⟨u1,k1,w1⟩:=rvs.get g1
    obtain ⟨u2,k2,w2⟩:=rws.get g2
    have m1:its.toArray[j] = u1:=by
     have:=List.getElem?_eq_some_iff.mp k1
     simpa using this.2
    have m2:its2.toArray[j] = u2:=by
     have:=List.getElem?_eq_some_iff.mp k2
     simpa using this.2
    rw [m1,m2]
    exact ZiP I DEEP X.A.in1 ds[j] es[j] v1 v2 u1 u2 (by rw [units_in1]; show X.A.units + 1 + 60 + 1 < cLine; exact lB 1 0x1a3c2ba0ccc11502b0c11 T1 hu) (List.all_eq_true.mp hp.1 _ (List.getElem_mem h1')) (List.all_eq_true.mp hp.2 _ (List.getElem_mem h2')) z1 z2 w1 w2
   ·cases h
  | _=>simp [eqD] at h
 | _=>cases b <;> simp [eqD] at h
theorem ZbB (hu:X.A.units + 80 < cLine):OpR X (compareOp .Eq) (r2 X.K Zaz):=by
 intro pins s σ H x y v u Q I rx ry h
 obtain ⟨ι,M,a,b,S,ra,rb,h⟩:=h
 unfold Zaz at h
 cases q:eqD a b M with
 | none=>rw [q] at h; exact h.elim
 | some k=>
  rw [q] at h
  exact Zp1 hu I S ra rb rx ry q X.prog X.w X.xe _ ⟨.bl k,H,I,rfl,Zap.ok h S Rep.bl⟩
theorem Zkz {K:PySem.W.Frag} {H:Hp} {ι:List Addr} {ds:List D} {vs:List V} {i:Int} {d:D} (r:Zaf K H ι ds vs) (h:Za0 ds i = some d):∃ v,atI vs i = some v ∧ Rep K H ι d v:=by
 unfold Za0 at h
 unfold atI
 have e:ixN vs.length i = ixD ds.length i:=by rw [r.length]; rfl
 rw [e]
 cases q:ixD ds.length i with
 | none=>rw [q] at h; cases h
 | some j=>
  rw [q] at h
  exact r.get h
theorem Zab:IxR X (r2 X.K Zk):=IxR.imp Zqa fun x y H Q zz1=>by
 obtain ⟨ι,M,a,b,S,ra,rb,h⟩:=zz1
 cases a with
 | tup ds=>cases b with
  | int i=>
   simp only [Zk] at h
   cases q:Za0 ds i with
   | none=>simp only [q] at h; exact h.elim
   | some d=>
    simp only [q] at h
    obtain ⟨p,vs,rfl,s1,r1⟩:=ra.tup_inv
    obtain ⟨v,e,rv⟩:=Zkz r1 q
    exact .inr (.inl ⟨p,vs,i,v,rfl,rb.int_inv,s1,e,Zap.ok h S rv⟩)
  | _=>exact h.elim
 | scr ds=>cases b with
  | int i=>
   simp only [Zk] at h
   cases q:Za0 ds i with
   | none=>simp only [q] at h; exact h.elim
   | some d=>
    simp only [q] at h
    obtain ⟨p,vs,rfl,s1,r1⟩:=ra.scr_inv
    obtain ⟨v,e,rv⟩:=Zkz r1 q
    exact .inl ⟨p,vs,i,v,rfl,rb.int_inv,s1.sq,e,Zap.ok h S rv⟩
  | _=>exact h.elim
 | str z=>cases b with
  | int i=>
   simp only [Zk] at h
   cases q:Za0 z i with
   | none=>simp only [q] at h; exact h.elim
   | some c=>
    simp only [q] at h
    split at h
    ·rename_i hz
     refine .inr (.inr ⟨_,i,c,ra.str_inv,rb.int_inv,?_,?_,Zap.ok h S Rep.str⟩)
     ·have:=ZbY
      simp only [Str.length,List.size_toArray]
      exact Nat.le_trans hz this
     ·simpa [atI,ixN,Za0,ixD] using q
    ·exact h.elim
  | _=>exact h.elim
 | ref n=>cases b with
  | int i=>
   cases hn:M[n]? with
   | none=>simp only [Zk,hn] at h; exact h.elim
   | some o=>
    cases o with
    | dct _=>simp only [Zk,hn] at h; exact h.elim
    | fdct _=>simp only [Zk,hn] at h; exact h.elim
    | ins _ _=>simp only [Zk,hn] at h; exact h.elim
    | lst ds=>
     simp only [Zk,hn] at h
     cases q:Za0 ds i with
     | none=>simp only [q] at h; exact h.elim
     | some d=>
      simp only [q] at h
      obtain ⟨p,hp,rfl⟩:=ra.ref_inv
      obtain ⟨vs,e1,r1⟩:=S.obj n _ p hn hp
      obtain ⟨v,e,rv⟩:=Zkz r1 q
      exact .inl ⟨p,vs,i,v,rfl,rb.int_inv,SqL.of e1,e,Zap.ok h S rv⟩
  | _=>exact h.elim
 | _=>cases b <;> exact h.elim
theorem ZjV {K:PySem.W.Frag} {H:Hp} {ι:List Addr} {ds:List D} {vs:List V} (r:Zaf K H ι ds vs) (lo hi:Option Int):Zaf K H ι (cutD ds lo hi) (Zi3 vs lo hi):=by
 have e:∀ n d o,HT.sIx n d o = sIx n d o:=fun n d o=>by cases o <;> rfl
 unfold cutD Zi3
 rw [e,e,r.length]
 exact (r.drop _).take _
end
end L3
namespace L3
open PySem PySem.Spec PyProof.Rows L2
noncomputable def ZbJ (cells:List (Str × Addr)):List (Str × NameKind) → List (Str × Addr) → List (Str × Addr)
 | [],cs=>cs
 | (n,k) :: r,cs=>ZbJ cells r (if k == .free then (n,(cells.lookup n).getD 0) :: cs else cs)
theorem Ze9 {scope:Scope} {env:Env} (h:∀ y ∈ scope.names,y.2 = .free → ∃ c,env.cells.lookup y.1 = some c):closureFor scope env = pure (ZbJ env.cells scope.names []):=by
 unfold closureFor
 have key:∀ (names:List (Str × NameKind)) (cs:List (Str × Addr)),(∀ y ∈ names,y.2 = .free → ∃ c,env.cells.lookup y.1 = some c) →
   (forIn names cs fun x r=>match x with | (name,kind)=>if (kind == NameKind.free) = true then do let c ← cellOf env name; pure (ForInStep.yield ((name,c) :: r)) else pure (ForInStep.yield r):Sem (List (Str × Addr))) = pure (ZbJ env.cells names cs):=by
  intro names
  induction names with
  | nil=>intro cs _; rfl
  | cons y r ih=>
   intro cs hy
   obtain ⟨n,k⟩:=y
   rw [List.forIn_cons]
   by_cases hk:k = .free
   ·subst hk
    obtain ⟨c,hc⟩:=hy (n,.free) List.mem_cons_self rfl
    have e1:cellOf env n = pure c:=by unfold cellOf; rw [hc]
    simp only [beq_self_eq_true,if_true,e1,pure_bind]
    rw [ih _ fun z hz=>hy z (List.mem_cons_of_mem _ hz)]
    simp [ZbJ,hc]
   ·have hb:(k == NameKind.free) = false:=by simpa using hk
    simp only [hb,Bool.false_eq_true,if_false,pure_bind]
    rw [ih _ fun z hz=>hy z (List.mem_cons_of_mem _ hz)]
    simp [ZbJ,hb]
 have:=key scope.names [] h
 first
  | exact this
  | (simp only [bind_pure]; exact this)
theorem Zlm {cells:List (Str × Addr)} {x:Str} {c:Addr}:∀ (names:List (Str × NameKind)) (cs:List (Str × Addr)),(∀ y ∈ names,y.2 = .free → ∃ c,cells.lookup y.1 = some c) → (ZbJ cells names cs).lookup x = some c → cs.lookup x = some c ∨ cells.lookup x = some c:=by
 intro names
 induction names with
 | nil=>intro cs _ h; exact .inl h
 | cons y r ih=>
  intro cs hy h
  obtain ⟨n,k⟩:=y
  rw [ZbJ] at h
  rcases ih _ (fun z hz=>hy z (List.mem_cons_of_mem _ hz)) h with q | q
  ·by_cases hk:k = .free
   ·subst hk
    obtain ⟨c0,hc⟩:=hy (n,.free) List.mem_cons_self rfl
    simp only [beq_self_eq_true,if_true,hc,Option.getD_some,List.lookup_cons] at q
    cases hx:x == n with
    | true=>
     simp only [hx] at q
     cases q
     have:x = n:=by simpa using hx
     subst this
     exact .inr hc
    | false=>simp only [hx] at q; exact .inl q
   ·have hb:(k == NameKind.free) = false:=by simpa using hk
    simp only [hb,Bool.false_eq_true,if_false] at q
    exact .inl q
  ·exact .inr q
theorem Zkl {cells:List (Str × Addr)} {x:Str}:∀ (names:List (Str × NameKind)) (cs:List (Str × Addr)),(cs.lookup x).isSome = true → ((ZbJ cells names cs).lookup x).isSome = true:=by
 intro names
 induction names with
 | nil=>intro cs h; exact h
 | cons y r ih=>
  intro cs h
  obtain ⟨n,k⟩:=y
  rw [ZbJ]
  refine ih _ ?_
  split
  ·rw [List.lookup_cons]
   split
   ·rfl
   ·exact h
  ·exact h
theorem Zh7 {cells:List (Str × Addr)} {x:Str}:∀ (names:List (Str × NameKind)) (cs:List (Str × Addr)),(x,NameKind.free) ∈ names → ((ZbJ cells names cs).lookup x).isSome = true:=by
 intro names
 induction names with
 | nil=>intro cs h; cases h
 | cons y r ih=>
  intro cs h
  obtain ⟨n,k⟩:=y
  rw [ZbJ]
  rcases List.mem_cons.mp h with e | h
  ·cases e
   refine Zkl _ _ ?_
   simp
  ·exact ih _ h
noncomputable def Zcc (X:Cx) (scope:Scope) (N':List Str) (C:Addr) (cl:List (Str × Addr)) (s:Shared) (H:Hp) (ex:List Addr):Cx:=
 { X with N:=N',s₀:=s,H₀:=H,env:=compEnvC scope cl C X.env,outer:=X.stack,stack:=X.stack,ex:=ex,fn:=fun _=>false,pn:=[],xe:=fun _ _=>False }
noncomputable def ZmU (N N':List Str) (scope:Scope):Bool:=(List.range N.length).all fun i=>match N'[i]? with
 | some x=>(scope.names.lookup x).isNone || (decide (N[i]? = some x) && decide (scope.names.lookup x = some .free))
 | none=>false
noncomputable def CTs (X:Cx) (ifs:List Expr) (ts:List E3):Prop:=∀ (pins:List (Addr × Obj)) (s:Shared) (σ:St) (H:Hp) (Q:Bool → Hp → Prop),Inv X pins σ H s →
 (∃ ι M env,Zau X.K H ι M ∧ ZbG X.K H ι env σ ∧ match Zdf ts env M with | .ok b M'=>∀ H' ι',Ext X.K H ι H' ι' → Zau X.K H' ι' M' → Q b H' | _=>False) →
 wpAny (model X.prog X.w) X.A (forIn ifs true fun c r=>if r = true then do let ok ← isTrue c X.env (eval c X.env); pure (ForInStep.yield ok) else pure (ForInStep.yield r)) (TP X pins σ Q) X.xe s
theorem ZfD {X:Cx}:CTs X [] []:=fun pins s σ H Q I ⟨ι,M,env,S,E,h⟩=>wpAny_tests_nil ⟨H,I,h H ι Ext.refl S⟩
theorem Zgx {X:Cx} {c:Expr} {f:E3} (hc:CT X c f):CTs X [c] [f]:=fun pins s σ H Q I zz1=>by
 obtain ⟨ι,M,env,S,E,h⟩:=zz1
 refine wpAny_tests_one (hc pins s σ H Q I ⟨ι,M,env,S,E,?_⟩)
 unfold Zdf at h
 cases q:f env M with
 | ok d M1=>
  rw [q] at h
  cases d with
  | bl b=>cases b with
   | true=>exact h
   | false=>exact h
  | _=>exact h.elim
 | exc x M1=>rw [q] at h; exact h.elim
 | bad=>rw [q] at h; exact h.elim
section
variable {prog:Program} {w:World} {A:Around} {R:Result → Shared → Prop} {s:Shared}
theorem Ziu {elt target iter:Expr} {ifs:List Expr} {scope:Scope} {pos:Pos} {it acc:Value} {env:Env} (I:Nat → Shared → Prop)
  (turn:∀ n s,I n s → wpAny (model prog w) A (pyNext it) (fun r s₁=>match r with
   | none=>R (.ok .next) s₁
   | some v=>wpAny (model prog w) A (letOwnedTupleGo target it v) (fun _ s₁'=>wpAny (model prog w) A (assign target env v) (fun _ s₂=>
     wpAny (model prog w) A (forIn ifs true fun c r=>if r = true then do let ok ← isTrue c env (eval c env); pure (ForInStep.yield ok) else pure (ForInStep.yield r)) (fun ok s₃=>
      if ok = true then wpAny (model prog w) A (eval elt env) (fun x s₄=>
       wpAny (model prog w) A (call (.builtin "list.append") [acc,x]) (fun _ s₅=>∃ m,m < n ∧ I m s₅) (fun _ _=>False) s₄) (fun _ _=>False) s₃
      else ∃ m,m < n ∧ I m s₃) (fun _ _=>False) s₂) (fun _ _=>False) s₁') (fun _ _=>False) s₁) (fun _ _=>False) s)
  (n:Nat) (h:I n s):codeAny (model prog w) A (.compLoop (.ListComp elt [⟨target,iter,ifs,0⟩] scope pos) 0 it acc env) R s:=by
 refine codeAny_loop rfl I (fun n s hI=>?_) n h
 show wpAny _ A ((compTurn (.ListComp elt [⟨target,iter,ifs,0⟩] scope pos) 0 it acc env).onRaise (fun x=>do noteFrame x env; theTreesLotGoes x)) _ _ s
 refine wpAny_noted ?_
 rw [compTurn_list]
 refine wpAny_bind (wpAny_standAt (wpAny_bind (wpAny_mono (turn n s hI) (fun r s₁ h₁=>?_) fun _ _ h'=>False.elim h')))
 cases r with
 | none=>exact wpAny_pure h₁
 | some v=>
  refine wpAny_bind (wpAny_mono h₁ (fun _ s₁' h₁'=>?_) fun _ _ h'=>False.elim h')
  refine wpAny_bind (wpAny_mono h₁' (fun _ s₂ h₂=>wpAny_bind (wpAny_mono h₂ (fun ok s₃ h₃=>?_) fun _ _ h'=>False.elim h')) fun _ _ h'=>False.elim h')
  cases ok with
  | false=>exact wpAny_pure ⟨rfl,h₃⟩
  | true=>
   exact wpAny_bind (wpAny_bind (wpAny_mono h₃ (fun x s₄ h₄=>wpAny_bind (wpAny_mono h₄ (fun _ s₅ h₅=>wpAny_pure (wpAny_pure ⟨rfl,h₅⟩)) fun _ _ h'=>False.elim h')) fun _ _ h'=>False.elim h'))
end
theorem Zdt {env:Env} {x:Str} {k:NameKind}:∀ {names:List (Str × NameKind)},(names.map fun (n,k)=>if (k == NameKind.free && env.scope.kind == .function && env.kindOf n == some .cell) then (n,NameKind.cell) else (n,k)).lookup x = some k →
  ∃ k0,names.lookup x = some k0 ∧ (k0 = k ∨ (k0 = .free ∧ k = .cell)):=by
 intro names
 induction names with
 | nil=>intro h; simp at h
 | cons y r ih=>
  intro h
  obtain ⟨n,k1⟩:=y
  rw [List.map_cons] at h
  cases hx:x == n with
  | true=>
   refine ⟨k1,by simp [List.lookup_cons,hx],?_⟩
   by_cases hc:(k1 == NameKind.free && env.scope.kind == .function && env.kindOf n == some .cell) = true
   ·simp only [if_pos hc,List.lookup_cons,hx] at h
    cases h
    simp only [Bool.and_eq_true,beq_iff_eq] at hc
    exact .inr ⟨hc.1.1,rfl⟩
   ·simp only [if_neg hc,List.lookup_cons,hx] at h
    cases h
    exact .inl rfl
  | false=>
   have h':(r.map fun (n,k)=>if (k == NameKind.free && env.scope.kind == .function && env.kindOf n == some .cell) then (n,NameKind.cell) else (n,k)).lookup x = some k:=by
    by_cases hc:(k1 == NameKind.free && env.scope.kind == .function && env.kindOf n == some .cell) = true
    ·simp only [if_pos hc,List.lookup_cons,hx] at h; exact h
    ·simp only [if_neg hc,List.lookup_cons,hx] at h; exact h
   obtain ⟨k0,e,q⟩:=ih h'
   exact ⟨k0,by simp [List.lookup_cons,hx,e],q⟩
theorem Zit {env:Env} {x:Str}:∀ {names:List (Str × NameKind)},names.lookup x = some .free →
  (names.map fun (n,k)=>if (k == NameKind.free && env.scope.kind == .function && env.kindOf n == some .cell) then (n,NameKind.cell) else (n,k)).lookup x = some .free ∨
  (names.map fun (n,k)=>if (k == NameKind.free && env.scope.kind == .function && env.kindOf n == some .cell) then (n,NameKind.cell) else (n,k)).lookup x = some .cell:=by
 intro names
 induction names with
 | nil=>intro h; simp at h
 | cons y r ih=>
  intro h
  obtain ⟨n,k1⟩:=y
  rw [List.map_cons]
  cases hx:x == n with
  | true=>
   simp only [List.lookup_cons,hx] at h
   cases h
   by_cases hc:(NameKind.free == NameKind.free && env.scope.kind == .function && env.kindOf n == some .cell) = true
   ·simp only [if_pos hc,List.lookup_cons,hx]; exact .inr trivial
   ·simp only [if_neg hc,List.lookup_cons,hx]; exact .inl trivial
  | false=>
   simp only [List.lookup_cons,hx] at h
   by_cases hc:(k1 == NameKind.free && env.scope.kind == .function && env.kindOf n == some .cell) = true
   ·simp only [if_pos hc,List.lookup_cons,hx]; exact ih h
   ·simp only [if_neg hc,List.lookup_cons,hx]; exact ih h
section
variable {X:Cx} {pins:List (Addr × Obj)} {σ:St} {H:Hp} {s:Shared} {scope:Scope} {N':List Str} {own:Nat} {fp:List Addr}
theorem Zl6 (I:Inv X pins σ H s) (hk:scope.kind = .function) (hcell:∀ y ∈ scope.names,y.2 ≠ .cell) (hfree:∀ y ∈ scope.names,y.2 = .free → X.env.kindOf y.1 = some .cell ∨ X.env.kindOf y.1 = some .free)
  (hN:N'.length = X.N.length + own) (hv:ZmU X.N N' scope = true) (hfp:∀ b ∈ fp,ZfB X pins H b) (hlt:∀ b ∈ fp,b < s.heap.objs.size) {h1:Heap} {tk:Nat}
  (hns:h1.Ns s.heap.objs.size fun _=>none) (keep:∀ b o,s.heap.get? b = some o → h1.get? b = some o):
  Inv (Zcc X scope N' s.heap.objs.size (ZbJ X.env.cells scope.names []) s H fp) [] (σ ++ List.replicate own none) H { s with heap:=h1,toks:=tk }:=by
 have hc0:∀ y ∈ scope.names,y.2 = .free → ∃ c,X.env.cells.lookup y.1 = some c:=fun y hy e=>I.ok.has y.1 (hfree y hy e)
 have sub:∀ x c,(ZbJ X.env.cells scope.names []).lookup x = some c → X.env.cells.lookup x = some c:=fun x c h=>by
  rcases Zlm scope.names [] hc0 h with q | q
  ·simp at q
  ·exact q
 have cellK:∀ {c:Addr} {v:Option Value},s.heap.IsCell c v → h1.IsCell c v:=fun ⟨o,ho,hd⟩=>⟨o,keep _ o ho,hd⟩
 refine ⟨⟨I.ok.mod,hk,I.ok.glob,I.ok.blt,Nat.le_refl _,fun x y c h1 h2=>I.ok.inj x y c (sub x c h1) (sub y c h2),fun x hx=>?_,fun x c h=>?_,I.ok.hd,I.ok.frames,.inl rfl,fun b hb=>⟨Nat.ne_of_lt (hlt b hb),fun x c h=>(hfp b hb).2.2.2.2.1 x c (sub x c h)⟩,
   I.bs,Nat.le_trans I.ok.bsz I.sz,fun b o e hb=>?_,fun b hb hz=>?_,I.stack,I.stkFree⟩,rfl,I.bare,Un.kept keep,⟨_,hns,fun i x v h1 h2 h3=>?_⟩,fun x c h=>?_,I.hok.fresh (Nat.le_refl _),fun x c h=>I.freeC x c (sub x c h),
  fun p hp=>absurd (show p ∈ ([]:List (Addr × Obj)) from hp) (by simp),I.hok.kept keep,?_⟩
 ·have hx':(relabel scope X.env).names.lookup x = some .cell ∨ (relabel scope X.env).names.lookup x = some .free:=hx
  have:scope.names.lookup x = some .free:=by
   rcases hx' with hx' | hx'
   ·obtain ⟨k0,e,q⟩:=Zdt (names:=scope.names) hx'
    rcases q with q | ⟨q,_⟩
    ·subst q; exact absurd rfl (hcell _ (PySem.mem_of_lookup e))
    ·rw [e,q]
   ·obtain ⟨k0,e,q⟩:=Zdt (names:=scope.names) hx'
    rcases q with q | ⟨_,q⟩
    ·rw [e,q]
    ·cases q
  exact Option.isSome_iff_exists.mp (Zh7 scope.names [] (PySem.mem_of_lookup this))
 ·cases h
 ·obtain ⟨_,_,_,q,_⟩:=hfp b hb
  rcases q with q | q
  ·exact I.ok.noex b o e q
  ·exact absurd (Nat.lt_of_lt_of_le (Heap.lt_size e) (Nat.le_trans I.ok.bsz q)) (Nat.lt_irrefl _)
 ·have hz':b ∈ frs X.stack:=hz
  obtain ⟨_,q1,q2,_⟩:=hfp b hb
  rcases List.mem_cons.mp (I.stkSub b hz') with e | e
  ·exact q1 e
  ·exact q2 e
 ·have hi:i < σ.length:=by
   by_cases hi:i < σ.length
   ·exact hi
   ·rw [List.getElem?_append_right (Nat.le_of_not_lt hi),List.getElem?_replicate] at h2
    split at h2 <;> cases h2
  rw [List.getElem?_append_left hi] at h2
  have hiN:i < X.N.length:=by rw [← I.len]; exact hi
  have hN':N'[i]? = some x:=h1
  have vq:=List.all_eq_true.mp hv i (List.mem_range.mpr hiN)
  rw [hN'] at vq
  have h3':(relabel scope X.env).names.lookup x = some .local ∨ (relabel scope X.env).names.lookup x = some .cell ∨ (relabel scope X.env).names.lookup x = some .free:=h3
  have some_of:∃ k0,scope.names.lookup x = some k0:=by
   rcases h3' with q | q | q <;> (obtain ⟨k0,e,_⟩:=Zdt (names:=scope.names) q; exact ⟨k0,e⟩)
  obtain ⟨k0,ek⟩:=some_of
  simp only [ek,Option.isNone_some,Bool.false_or,Bool.and_eq_true,decide_eq_true_eq] at vq
  obtain ⟨vq1,vq2⟩:=vq
  cases vq2
  have hkind:=hfree (x,.free) (PySem.mem_of_lookup ek) rfl
  obtain ⟨m,hn,hl⟩:=I.loc
  have hVis:Vis X.env.scope x:=by
   rcases hkind with q | q
   ·exact .inr (.inl q)
   ·exact .inr (.inr q)
  obtain ⟨u,ru,lk⟩:=hl i x v vq1 h2 hVis
  refine ⟨u,ru,?_⟩
  rcases lk with ⟨kl,_⟩ | ⟨_,c,ec,ic⟩
  ·rcases hkind with q | q <;> (rw [q] at kl; cases kl)
  ·have hkk:(compEnvC scope (ZbJ X.env.cells scope.names []) s.heap.objs.size X.env).kindOf x = some .cell ∨ (compEnvC scope (ZbJ X.env.cells scope.names []) s.heap.objs.size X.env).kindOf x = some .free:=by
    rcases Zit (env:=X.env) ek with q | q
    ·exact .inr q
    ·exact .inl q
   obtain ⟨c',ec'⟩:=Option.isSome_iff_exists.mp (Zh7 (cells:=X.env.cells) scope.names [] (PySem.mem_of_lookup ek))
   have e2:=sub x c' ec'
   rw [ec] at e2
   cases e2
   exact .inr ⟨hkk,c,ec',cellK ic⟩
 ·obtain ⟨v,ic⟩:=I.cell x c (sub x c h)
  exact ⟨v,cellK ic⟩
 ·show (σ ++ List.replicate own none).length = N'.length
  rw [List.length_append,List.length_replicate,I.len,hN]
theorem ZbG.grow {K:PySem.W.Frag} {H:Hp} {ι:List Addr} {env:Zat} {σ:St} (E:ZbG K H ι env σ) (n:Nat):ZbG K H ι (env ++ List.replicate n none) (σ ++ List.replicate n none):=by
 refine ⟨by simp [E.1],fun i d h=>?_⟩
 by_cases hi:i < env.length
 ·rw [List.getElem?_append_left hi] at h
  obtain ⟨v,e,r⟩:=E.2 i d h
  exact ⟨v,by rw [List.getElem?_append_left (by rw [← E.1]; exact hi)]; exact e,r⟩
 ·rw [List.getElem?_append_right (Nat.le_of_not_lt hi),List.getElem?_replicate] at h
  split at h <;> cases h
end
section
variable {X:Cx} {elt tg iter:Expr} {ifs:List Expr} {scope:Scope} {pos:Pos} {i:I3} {own:Nat} {g:G3} {ts:List E3} {f:E3} {N':List Str}
structure ZiR (X:Cx) (scope:Scope) (N':List Str) (own:Nat):Prop where
 kind:scope.kind = .function
 cell:∀ y ∈ scope.names,y.2 ≠ .cell
 free:∀ y ∈ scope.names,y.2 = .free → X.env.kindOf y.1 = some .cell ∨ X.env.kindOf y.1 = some .free
 names:∀ y ∈ scope.names,y.2 = .local → scope.names.lookup y.1 = some .local
 len:N'.length = X.N.length + own
 vis:ZmU X.N N' scope = true
inductive CbI (Y:Cx) (K:PySem.W.Frag) (fp:List Addr) (tn:Nat → Heap → Prop) (itd:It3) (H2:Hp) (ι2:List Addr) (Q:VK) (g:G3) (ts:List E3) (f:E3) (nM:Nat) (acc:Addr) (n:Nat) (s':Shared):Prop
 | mk (k:Nat) (σ5:St) (H5:Hp) (ι5:List Addr) (M5:Store) (env5:Zat) (I5:Inv Y [] σ5 H5 s') (st5:tn k s'.heap) (fr5:∀ b ∈ fp,H5 b = none) (hn:n = itd.items.length - k) (hk:k ≤ itd.items.length)
   (x5:Ext K H2 ι2 H5 ι5) (S5:Zau K H5 ι5 M5) (E5:ZbG K H5 ι5 env5 σ5) (hι:ι5[nM]? = some acc) (h5:Zap K H5 ι5 Q (Zca itd g ts f nM (itd.items.drop k) env5 M5))
theorem ZgJ {pins:List (Addr × Obj)} {σ:St} {s2:Shared} {H2:Hp} {ι2:List Addr} {M2:Store} {env:Zat} {it:Addr} {fp:List Addr} {tn:Nat → Heap → Prop} {J:It} {itd:It3} {Q:VK} {E:Value → Shared → Prop} (O:ZiR X scope N' own) (hc:X.calm = true)
  (hb:∀ C cl s H ex,CG (Zcc X scope N' C cl s H ex) tg g ∧ CTs (Zcc X scope N' C cl s H ex) ifs ts ∧ C3 (Zcc X scope N' C cl s H ex) elt f)
  (I2:Inv X pins σ H2 s2) (T:Turn X.prog X.w X.K tg J fp it tn) (st0:tn 0 s2.heap) (hfp:∀ b ∈ fp,ZfB X pins H2 b) (S2:Zau X.K H2 ι2 M2) (E2:ZbG X.K H2 ι2 env σ) (ok:ZkB X.K H2 ι2 itd J)
  (h:Zap X.K H2 ι2 Q (Zca itd g ts f M2.length itd.items (env ++ List.replicate own none) (M2 ++ [.lst []])))
  (RR:Value → Addr → Result → Shared → Prop)
  (fin:∀ (acc C:Addr) (s':Shared) (m:Str → Option Value) (H':Hp),s'.heap.Ns C m → ZfB X pins H' C → Inv X pins σ H' s' → Q (.ref acc) H' → RR (.ref acc) C (.ok .next) s'):
  wpAny (model X.prog X.w) X.A (newList []) (fun acc s₃=>wpAny (model X.prog X.w) X.A (newFunctionEnv scope X.env.globals (ZbJ X.env.cells scope.names []) [] X.env.qual none .none (some X.env)) (fun cenv s₄=>
   codeAny (model X.prog X.w) X.A (.compStart (.ListComp elt [⟨tg,iter,ifs,0⟩] scope pos) 0 (.ref it) acc { cenv with scope:=relabel scope X.env }) (RR acc cenv.locals) s₄) E s₃) E s2:=by
 refine wpAny_newObj_type ?_
 have hD:H2 s2.heap.objs.size = none:=I2.hok.fresh (Nat.le_refl _)
 obtain ⟨x3,S3,r3⟩:=S2.lst hD (Zaf.nil (K:=X.K) (H:=H2) (ι:=ι2))
 have I3:Inv X pins σ (upd H2 s2.heap.objs.size (.lst [])) { s2 with heap:=s2.heap.push { cls:=.type "list",data:=.seq ([]:List Value).toArray } }:=
  I2.laid (t':=s2.toks) (fun b u e=>Heap.get?_push_of_some _ e) (Nat.le_refl _) ⟨Nat.zero_le _,[],0,.nil,Heap.get?_push_size _ rfl⟩
 generalize hs3:({ s2 with heap:=s2.heap.push { cls:=.type "list",data:=.seq ([]:List Value).toArray } }:Shared) = s3 at I3 ⊢
 have keep23:∀ b o,s2.heap.get? b = some o → s3.heap.get? b = some o:=fun b o e=>by rw [← hs3]; exact Heap.get?_push_of_some _ e
 have hfp3:∀ b ∈ fp,ZfB X pins (upd H2 s2.heap.objs.size (.lst [])) b:=fun b hb=>by
  refine ⟨?_,(hfp b hb).2⟩
  obtain ⟨o,e,_⟩:=T.obj _ _ st0 b hb
  rw [Za5 (Nat.ne_of_lt (Heap.lt_size e))]
  exact (hfp b hb).1
 have hlt3:∀ b ∈ fp,b < s3.heap.objs.size:=fun b hb=>by
  obtain ⟨o,e,_⟩:=T.obj _ _ st0 b hb
  exact Heap.lt_size (keep23 b o e)
 have st3:tn 0 s3.heap:=T.keep _ _ _ st0 fun b hb o e=>keep23 b o e
 refine wpAny_newFunctionEnv O.cell (by intro y hy; cases hy) (fun h4 hns hsb=>?_) O.kind
 have keep34:∀ b o,s3.heap.get? b = some o → h4.get? b = some o:=fun b o e=>hsb.extBut b o (Nat.ne_of_lt (Heap.lt_size e)) (Heap.get?_push_of_some _ e)
 have I4:=Zl6 (own:=own) (N':=N') (tk:=s3.toks + ([]:List (Str × Value)).length) I3 O.kind O.cell O.free O.len O.vis hfp3 hlt3 hns keep34
 have st4:tn 0 h4:=T.keep _ _ _ st3 fun b hb o e=>keep34 b o e
 have hfp4:∀ {H':Hp},(∀ b ∈ fp,H' b = none) → ∀ b ∈ fp,ZfB (Zcc X scope N' s3.heap.objs.size (ZbJ X.env.cells scope.names []) s3 (upd H2 s2.heap.objs.size (.lst [])) fp) [] H' b:=fun hn b hb=>by
  have hc0:∀ y ∈ scope.names,y.2 = .free → ∃ c,X.env.cells.lookup y.1 = some c:=fun y hy e=>I2.ok.has y.1 (O.free y hy e)
  refine ⟨hn b hb,Nat.ne_of_lt (hlt3 b hb),fun hz=>I4.ok.exfs b hb hz,.inl hb,fun x c hx=>(I4.ok.exf b hb).2 x c hx,fun p hp=>absurd (show p ∈ ([]:List (Addr × Obj)) from hp) (by simp)⟩
 obtain ⟨hg,hts,helt⟩:=hb s3.heap.objs.size (ZbJ X.env.cells scope.names []) s3 (upd H2 s2.heap.objs.size (.lst [])) fp
 have loop:∀ s₄:Shared,s₄ = { s3 with heap:=h4,toks:=s3.toks + ([]:List (Str × Value)).length } →
   codeAny (model X.prog X.w) X.A (.compLoop (.ListComp elt [⟨tg,iter,ifs,0⟩] scope pos) 0 (.ref it) (.ref s2.heap.objs.size) (compEnvC scope (ZbJ X.env.cells scope.names []) s3.heap.objs.size X.env)) (RR (.ref s2.heap.objs.size) s3.heap.objs.size) s₄:=by
  rintro s₄ rfl
  refine Ziu (CbI (Zcc X scope N' s3.heap.objs.size (ZbJ X.env.cells scope.names []) s3 (upd H2 s2.heap.objs.size (.lst [])) fp) X.K fp tn itd H2 ι2 Q g ts f M2.length s2.heap.objs.size) ?_ itd.items.length
   ⟨0,_,_,_,_,_,I4,st4,fun b hb=>(hfp3 b hb).1,rfl,Nat.zero_le _,x3,S3,(E2.mono x3).grow own,?_,h.up x3⟩
  ·rintro n s5 ⟨k,σ5,H5,ι5,M5,env5,I5,st5,fr5,rfl,hk,x5,S5,E5,hι,h5⟩
   by_cases hlt:k < itd.items.length
   ·have hd:itd.items[k]? = some itd.items[k]:=by simp [hlt]
    rw [List.drop_eq_getElem_cons hlt] at h5
    unfold Zca at h5
    by_cases lk:locked itd M5 = true
    ·rw [if_pos lk] at h5
     obtain ⟨go,yl⟩:=(ok k H5 ι5 M5 x5 S5 lk).1 _ hd
     cases eg:g itd.items[k] env5 with
     | none=>rw [eg] at h5; exact h5.elim
     | some env6=>
      rw [eg] at h5
      refine thn (T.item (Zcc X scope N' s3.heap.objs.size (ZbJ X.env.cells scope.names []) s3 (upd H2 s2.heap.objs.size (.lst [])) fp) rfl rfl rfl hc k [] s5 σ5 H5 (fun _ _=>False) I5 (hfp4 fr5) st5 go) fun r s6 zz1=>?_
      obtain ⟨u,hr,h6⟩:=zz1
      subst hr
      refine thn h6 fun _ s7 zz1=>?_
      obtain ⟨x,H7,I7,r7,y7,st7,fr7⟩:=zz1
      obtain ⟨rfl,rx⟩:=yl x H7 y7
      have I7':=I7.pinned (hfp4 fr7) (T.obj _ _ st7)
      refine thn (hg _ s7 σ5 H7 x u (fun σ' H'=>H' = H7 ∧ ZbG X.K H7 ι5 env6 σ') I7' r7 ⟨ι5,M5,env5,_,env6,S5,E5,rx,eg,fun σ' E'=>⟨rfl,E'⟩⟩) fun _ s8 zz1=>?_
      obtain ⟨σ8,H8,I8,e8,E8⟩:=zz1
      subst e8
      have back:∀ {σ':St} {H':Hp} {s':Shared},Inv (Zcc X scope N' s3.heap.objs.size (ZbJ X.env.cells scope.names []) s3 (upd H2 s2.heap.objs.size (.lst [])) fp) ([] ++ ZgM fp s7.heap) σ' H' s' →
        Inv (Zcc X scope N' s3.heap.objs.size (ZbJ X.env.cells scope.names []) s3 (upd H2 s2.heap.objs.size (.lst [])) fp) [] σ' H' s' ∧ tn (k + 1) s'.heap ∧ ∀ b ∈ fp,H' b = none:=fun {σ' H' s'} I'=>by
       refine ⟨I'.unpinned,T.keep _ _ _ st7 fun b hb o e=>(I'.pin (b,o) (List.mem_append_right _ (List.mem_append_right _ (Zel hb e)))).1,fun b hb=>?_⟩
       obtain ⟨o,e,d⟩:=T.obj _ _ st7 b hb
       exact (I'.pin (b,o) (List.mem_append_right _ (List.mem_append_right _ (Zel hb e)))).2.1
      obtain ⟨b,M9,e9,h9⟩:=Zap.bind h5
      refine thn (hts _ s8 σ8 H8 (fun b' H'=>b' = b ∧ ∃ ι9,Ext X.K H8 ι5 H' ι9 ∧ Zau X.K H' ι9 M9) I8 ⟨ι5,M5,env6,S5,E8,by rw [e9]; exact fun H' ι' x' S'=>⟨rfl,ι',x',S'⟩⟩) fun b' s9 zz1=>?_
      obtain ⟨H9,I9,eb,ι9,x9,S9⟩:=zz1
      subst eb
      cases b' with
      | false=>
       rw [if_neg (by decide)] at h9 ⊢
       obtain ⟨I9',st9,fr9⟩:=back I9
       exact ⟨itd.items.length - (k + 1),lD 2 0x30113c2012a1c0c21 T1 (Nat.sub_add_cancel (lB 1 6991908881 T1 hlt)) (sbA _ _),⟨k + 1,σ8,H9,ι9,M9,env6,I9',st9,fr9,rfl,hlt,x5.trans x9,S9,E8.mono x9,x9.pre _ _ hι,h9.up x9⟩⟩
      | true=>
       rw [if_pos rfl] at h9 ⊢
       obtain ⟨d,M10,e10,h10⟩:=Zap.bind h9
       refine thn (helt _ s9 σ8 H9 (fun v H'=>∃ ι10,Ext X.K H9 ι9 H' ι10 ∧ Zau X.K H' ι10 M10 ∧ Rep X.K H' ι10 d v) I9 ⟨ι9,M9,env6,S9,E8.mono x9,by rw [e10]; exact fun v H' ι' x' S' r'=>⟨ι',x',S',r'⟩⟩) fun xv s10 zz1=>?_
       obtain ⟨v,H10,I10,r10,ι10,x10,S10,rd⟩:=zz1
       have hι10:ι10[M2.length]? = some s2.heap.objs.size:=x10.pre _ _ (x9.pre _ _ hι)
       cases hm:M10[M2.length]? with
       | none=>rw [hm] at h10; exact h10.elim
       | some o=>
        cases o with
        | dct _=>rw [hm] at h10; exact h10.elim
        | fdct _=>rw [hm] at h10; exact h10.elim
        | ins _ _=>rw [hm] at h10; exact h10.elim
        | lst xs=>
         rw [hm] at h10
         by_cases hz:xs.length < SZ
         ·simp only [if_pos hz] at h10
          obtain ⟨vs,ev,rvs⟩:=S10.obj _ _ _ hm hι10
          obtain ⟨x11,S11⟩:=S10.setl (.inr (.inl ⟨_,ev⟩)) hι10 (rvs.append (Zaf.cons rd Zaf.nil))
          refine thn (Zic _ s10 σ8 H10 (.ref s2.heap.objs.size) [v] (.ref s2.heap.objs.size) [xv] (fun _ H'=>H' = upd H10 s2.heap.objs.size (.lst (vs ++ [v]))) I10 rfl (.cons r10 .nil) ⟨_,vs,v,rfl,rfl,ev,by rw [rvs.length]; exact Nat.lt_of_lt_of_le hz ZbY,rfl⟩) fun _ s11 zz1=>?_
          obtain ⟨_,H11,I11,_,eH⟩:=zz1
          subst eH
          obtain ⟨I11',st11,fr11⟩:=back I11
          exact ⟨itd.items.length - (k + 1),lD 2 0x30113c2012a1c0c21 T1 (Nat.sub_add_cancel (lB 1 6991908881 T1 hlt)) (sbA _ _),⟨k + 1,σ8,_,ι10,_,env6,I11',st11,fr11,rfl,hlt,((x5.trans x9).trans x10).trans x11,S11,((E8.mono x9).mono x10).mono x11,hι10,((h10.up x9).up x10).up x11⟩⟩
         ·simp only [if_neg hz] at h10; exact h10.elim
    ·rw [if_neg lk] at h5; exact h5.elim
   ·have e0:k = itd.items.length:=Nat.le_antisymm hk (Nat.le_of_not_lt hlt)
    subst e0
    rw [List.drop_length] at h5
    unfold Zca at h5
    by_cases lk:locked itd M5 = true
    ·rw [if_pos lk] at h5
     refine thn (T.done (Zcc X scope N' s3.heap.objs.size (ZbJ X.env.cells scope.names []) s3 (upd H2 s2.heap.objs.size (.lst [])) fp) rfl rfl rfl hc _ [] s5 σ5 H5 (fun _ _=>False) I5 (hfp4 fr5) st5 ((ok _ H5 ι5 M5 x5 S5 lk).2 rfl)) fun r s6 zz1=>?_
     obtain ⟨hr,I6⟩:=zz1
     subst hr
     obtain ⟨m6,hn6,_⟩:=I6.loc
     have I7:Inv X pins σ H5 s6:=I3.call' (ch:=fp) I6.os I6.base I6.hok I6.bare fun b hb=>⟨(hfp3 b hb).2.2.2.1,(hfp3 b hb).2.1,(hfp3 b hb).2.2.2.2.1,(hfp3 b hb).2.2.2.2.2⟩
     exact fin _ _ s6 m6 H5 hn6 (I3.fpOk (Nat.le_refl _) I6.free) I7 (h5 _ H5 ι5 Ext.refl S5 (Rep.ref hι))
    ·rw [if_neg lk] at h5; exact h5.elim
  ·rw [← S2.len]; simp
 exact codeAny_compStart_list (loop _ rfl) (T.self _ 0 _ _ _ st4 (loop _ rfl))
theorem ZqN (O:ZiR X scope N' own) (hxe:X.xe = fun _ _=>False) (hc:X.calm = true) (hi:CI X tg iter i)
  (hb:∀ C cl s H ex,CG (Zcc X scope N' C cl s H ex) tg g ∧ CTs (Zcc X scope N' C cl s H ex) ifs ts ∧ C3 (Zcc X scope N' C cl s H ex) elt f)
  (hs:∀ x,foldedSetIterable iter X.env x = pure x:=by intro _; rfl):C3 X (.ListComp elt [⟨tg,iter,ifs,0⟩] scope pos) (eLC i own g ts f):=by
 intro pins s σ H Q I h
 obtain ⟨ι,M,env,S,E,h⟩:=h
 obtain ⟨itd,M1,e1,h⟩:=Zap.bind h
 have hc0:∀ y ∈ scope.names,y.2 = .free → ∃ c,X.env.cells.lookup y.1 = some c:=fun y hy e=>I.ok.has y.1 (O.free y hy e)
 rw [eval_ListComp]
 refine wpAny_comprehension_free (use:=none) rfl hs (Ze9 hc0) O.kind O.names ?_
 refine thn (hi pins s σ H (fun J H'=>∃ ι',Ext X.K H ι H' ι' ∧ Zau X.K H' ι' M1 ∧ ZkB X.K H' ι' itd J) I ⟨ι,M,env,S,E,by rw [e1]; exact fun J H' ι' x S' o=>⟨ι',x,S',o⟩⟩) fun v s1 h1=>thn h1 fun itv s2 h2=>?_
 obtain ⟨it,fp,tn,J,H2,rfl,I2,T,st2,f2,ι2,x2,S2,ok⟩:=h2
 refine ZgJ (own:=own) (g:=g) (ts:=ts) (f:=f) O hc hb I2 T st2 f2 S2 (E.mono x2) ok (h.up x2) (fun acc C=>compPost (model X.prog X.w) X.A X.xe none (EP X pins σ Q) acc C) ?_
 intro acc C s' m H' hn hf I' hq
 obtain ⟨f0,f1,f2',f3,f4,f5⟩:=hf
 exact ⟨m,hn,fun h' sb=>⟨.ref acc,H',I'.turned (t':=s'.toks) (fun b o hb e=>(sb.2 b hb).trans e) f0 f1 f3 f4 f5,rfl,hq⟩⟩
theorem ZdB (j:Nat) {x:Str} {pos' spos:Pos} (O:ZiR X scope N' own) (hxe:X.xe = fun _ _=>False) (hc:X.calm = true) (hN:X.N.Nodup) (hi:CI X tg iter i)
  (hb:∀ C cl s H ex,CG (Zcc X scope N' C cl s H ex) tg g ∧ CTs (Zcc X scope N' C cl s H ex) ifs ts ∧ C3 (Zcc X scope N' C cl s H ex) elt f)
  (hj:X.N[j]? = some x:=by rfl) (hx:Loc X.env.scope x:=by first | exact Or.inl rfl | exact Or.inr rfl)
  (hf:X.fn x = true ∨ X.env.scope.names.lookup x = some .local:=by first | exact .inl rfl | exact .inr rfl)
  (hsw:swapsWith (.ListComp elt [⟨tg,iter,ifs,0⟩] scope pos) (some (.Name x pos')) spos.line X.env = pure true:=by rfl)
  (hs:∀ x,foldedSetIterable iter X.env x = pure x:=by intro _; rfl):CS X (.Assign [.Name x pos'] (.ListComp elt [⟨tg,iter,ifs,0⟩] scope pos) spos) (Zaj j (eLC i own g ts f)):=by
 intro pins s σ H D I h
 obtain ⟨ι,M,env,S,E,h⟩:=h
 have h0:Zap X.K H ι (fun v H'=>D.nx (σ.set j (some v)) H') (eLC i own g ts f env M):=by
  unfold Zaj at h
  cases q:eLC i own g ts f env M with
  | ok d M1=>rw [q] at h; exact fun v H1 ι1 x1 S1 r1=>h _ H1 ι1 x1 S1 ((E.mono x1).set j r1)
  | exc _ _=>rw [q] at h; exact h.elim
  | bad=>rw [q] at h; exact h.elim
 obtain ⟨itd,M1,e1,h1⟩:=Zap.bind h0
 have hc0:∀ y ∈ scope.names,y.2 = .free → ∃ c,X.env.cells.lookup y.1 = some c:=fun y hy e=>I.ok.has y.1 (O.free y hy e)
 rw [exec_Assign_Name_used _ _ _ _ hsw]
 refine wpAny_bind (wpAny_standAt (wpAny_bind ?_))
 show wpAny _ X.A (do let _ ← comprehension (.ListComp elt [⟨tg,iter,ifs,0⟩] scope pos) scope X.env _ (newList []) false (eval iter X.env) (some (assign (.Name x pos') X.env))) _ _ s
 refine wpAny_bind (wpAny_mono (wpAny_comprehension_free (use:=some (assign (.Name x pos') X.env)) (Q:=fun _ s'=>SP X pins D .next s') rfl hs (Ze9 hc0) O.kind O.names ?_) (fun _ s' hq=>wpAny_pure (wpAny_pure hq)) fun _ _ e=>e)
 refine thn (hi pins s σ H (fun J H'=>∃ ι',Ext X.K H ι H' ι' ∧ Zau X.K H' ι' M1 ∧ ZkB X.K H' ι' itd J) I ⟨ι,M,env,S,E,by rw [e1]; exact fun J H' ι' x S' o=>⟨ι',x,S',o⟩⟩) fun v s1 h1'=>thn h1' fun itv s2 h2=>?_
 obtain ⟨it,fp,tn,J,H2,rfl,I2,T,st2,f2,ι2,x2,S2,ok⟩:=h2
 refine ZgJ (own:=own) (g:=g) (ts:=ts) (f:=f) O hc hb I2 T st2 f2 S2 (E.mono x2) ok (h1.up x2) (fun acc C=>compPost (model X.prog X.w) X.A X.xe (some (assign (.Name x pos') X.env)) (fun _ s'=>SP X pins D .next s') acc C) ?_
 intro acc C s' m H' hn hfC I' hq
 obtain ⟨f0,f1,f2',f3,f4,f5⟩:=hfC
 show wpAny _ X.A (assign (.Name x pos') X.env (.ref acc)) _ _ s'
 refine wpAny_assign_Name (Zia I' hN hj hx (show RelV (.ref acc) (.ref acc) from rfl) (fun s'' I'' ⟨a,sb,ha⟩=>?_) hf)
 have hCa:C ≠ a:=by
  rcases ha with rfl | ha
  ·exact f1
  ·exact Ne.symm (f4 x a ha)
 exact ⟨m,hn.sameBut sb hCa,fun h' sb'=>⟨_,H',I''.turned (t':=s''.toks) (fun b o hb e=>(sb'.2 b hb).trans e) f0 f1 f3 f4 f5,hq⟩⟩
end
end L3
namespace L3
open PySem PySem.Spec PyProof.Rows L2
theorem ZcT {k:Nat} {A:Around} (r:ZbD k A):A.units + 80 < cLine:=by have:=r.un; exact lC 1 0x2502b0c12c82b110d0cc11 T1 this
noncomputable def Its (x:Str):It:=⟨fun i _=>i < x.cps.size,fun i H y H'=>H' = H ∧ ∃ c,x.cps[i]? = some c ∧ y = .str ⟨#[c]⟩,fun i _=>i = x.cps.size⟩
theorem Zl9 {P:Program} {w:World} {K:PySem.W.Frag} {tg:Expr} {it:Addr} {x:Str} {t:Tok} {ty:String} (W:∀ A':Around,A'.handled = none → Walks P w A' it [it] [it] x.cps.size (SignAt x) (fun i h=>h.IsStrIter it ty x t i))
  (hs:∀ (A:Around) (i:Nat) (s:Shared) (Q:Value → Shared → Prop) (E:Value → Shared → Prop),s.heap.IsStrIter it ty x t i → Q (.ref it) s → wpAny (model P w) A (pyIter (.ref it)) Q E s)
  (hty:["enumerate","zip","dict_itemiterator","dict_reverseitemiterator","odict_iterator","itertools.zip_longest","itertools.pairwise"].contains ty = false):Turn P w K tg (Its x) [it] it (fun i h=>h.IsStrIter it ty x t i) where
 mem:=by simp
 obj:=fun i h st b hb=>by
  have e:b = it:=by simpa using hb
  subst e
  obtain ⟨o,e,c,d⟩:=st
  exact ⟨o,e,fun v z=>by rw [d] at z; cases z⟩
 keep:=fun i h h' st k=>let ⟨o,e,r⟩:=st; ⟨o,k it (by simp) o e,r⟩
 item:=by
  intro X hP hw hK hc i pins s σ H E I hf st hg
  subst hP hw hK
  obtain ⟨f0,f1,f2,f3,f4,f5⟩:=hf it (by simp)
  refine (W X.A (I.ok.hd hc)).item i s _ _ hg st fun v h' tk hv st' kk=>?_
  obtain ⟨c,u,hx,rfl⟩:=hv
  have I1:Inv X pins σ H { s with heap:=h',toks:=tk }:=I.turned (fun b o hb e=>kk b o (by simpa using hb) e) f0 f1 f3 f4 f5
  obtain ⟨o,e,cc,d⟩:=id st'
  exact ⟨_,rfl,ZkM (s:={ s with heap:=h',toks:=tk }) e cc d hty ⟨.str ⟨#[c]⟩,H,I1,⟨u,rfl⟩,⟨rfl,c,hx,rfl⟩,st',fun b hb=>(hf b hb).1⟩⟩
 done:=by
  intro X hP hw hK hc i pins s σ H E I hf st hg
  subst hP hw hK
  obtain ⟨f0,f1,f2,f3,f4,f5⟩:=hf it (by simp)
  have e:i = x.cps.size:=hg
  subst e
  exact (W X.A (I.ok.hd hc)).done s _ _ st fun h' tk kk=>⟨rfl,I.turned (fun b o hb e=>kk b o (by simpa using hb) e) f0 f1 f3 f4 f5⟩
 self:=hs
section
variable {X:Cx} {tg e o:Expr} {es:List Expr} {pos p apos cpos:Pos} {f:E3} {gl:EL3}
theorem Zp6 (h:C3 X e f):PI X tg e (fun σ H R=>tOf X.K f σ H fun x H1=>∃ z:Str,x = .str z ∧ z.length ≤ SZ ∧ ∀ J,(∀ ι,ZkB X.K H1 ι ⟨z.cps.toList.map fun c=>.str [c],none⟩ J) → R J H1):=by
 intro pins s σ H R I hw
 refine thn (h pins s σ H _ I hw) fun v s1 zz1=>?_
 obtain ⟨x,H1,I1,r1,z,ex,hz,q⟩:=zz1
 subst ex
 obtain ⟨t,rfl⟩:=r1
 have key:∀ (ty:String) (o:Obj),(∀ A':Around,A'.handled = none → Walks X.prog X.w A' s1.heap.objs.size [s1.heap.objs.size] [s1.heap.objs.size] z.cps.size (SignAt z) (fun i h=>h.IsStrIter s1.heap.objs.size ty z t i)) →
   (∀ (A:Around) (i:Nat) (s:Shared) (Q:Value → Shared → Prop) (E:Value → Shared → Prop),s.heap.IsStrIter s1.heap.objs.size ty z t i → Q (.ref s1.heap.objs.size) s → wpAny (model X.prog X.w) A (pyIter (.ref s1.heap.objs.size)) Q E s) →
   ["enumerate","zip","dict_itemiterator","dict_reverseitemiterator","odict_iterator","itertools.zip_longest","itertools.pairwise"].contains ty = false → (s1.heap.push o).IsStrIter s1.heap.objs.size ty z t 0 →
   PIE X pins σ tg R (.ref s1.heap.objs.size) { s1 with heap:=s1.heap.push o }:=by
  intro ty o W hs hty st
  refine ⟨s1.heap.objs.size,[s1.heap.objs.size],_,_,H1,rfl,I1.kept (t':=s1.toks) fun b o e=>Heap.get?_push_of_some _ e,Zl9 W hs hty,st,fun b hb=>?_,q _ fun ι=>?_⟩
  ·have e:b = s1.heap.objs.size:=by simpa using hb
   subst e
   exact I1.fpOk (Nat.le_refl _) (I1.hok.fresh (Nat.le_refl _))
  ·intro i H2 ι2 M2 x S _
   refine ⟨fun d hd=>?_,fun hl=>?_⟩
   ·rw [List.getElem?_map] at hd
    cases hq:z.cps.toList[i]? with
    | none=>rw [hq] at hd; cases hd
    | some c=>
     rw [hq] at hd
     have hd':D.str [c] = d:=by simpa using hd
     subst hd'
     have hi:i < z.cps.size:=by
      have:=(List.getElem?_eq_some_iff.mp hq).1
      simpa using this
     refine ⟨hi,fun y H3 hy=>⟨hy.1,?_⟩⟩
     obtain ⟨_,c',hc',rfl⟩:=hy
     have:c' = c:=by
      rw [← Array.getElem?_toList,hq] at hc'
      exact (Option.some.inj hc').symm
     subst this
     exact Rep.str
   ·show i = z.cps.size
    rw [hl]
    simp
 cases ha:z.cps.all (· < 128)
 ·exact wpAny_pyIter_wide ha (key "str_iterator" _ (fun A' hA=>Walks.strWide hA _ z t) (fun _ _ _ _ _ st h=>wpAny_pyIter_striter_wide st h) (by decide) ⟨_,Heap.get?_push_size _ rfl,rfl,rfl⟩)
 ·exact wpAny_pyIter_ascii ha (key "str_ascii_iterator" _ (fun A' hA=>Walks.strAscii hA _ z t) (fun _ _ _ _ _ st h=>wpAny_pyIter_striter_ascii st h) (by decide) ⟨_,Heap.get?_push_size _ rfl,rfl,rfl⟩)
theorem Zni (h:C3 X e f):CI X tg e (ZfW f):=Zqp h (Zp6 h)
theorem ZpM {K:PySem.W.Frag} {T:String} {ty:D → Store → Bool} {m:D → List D → Store → R3 D} (hty:∀ H ι M a x,Zau K H ι M → Rep K H ι a x → ty a M = true → tyV K T x H) (σ:St) (H:Hp) (Q:VK) (h:tOf K (Zce ty m f gl) σ H Q):tBM K T (rM K m) (tOf K f) (tAf K gl) σ H Q:=by
 obtain ⟨ι,M,env,S,E,h⟩:=h
 obtain ⟨a,M1,e1,h⟩:=Zap.bind h
 refine ⟨ι,M,env,S,E,?_⟩
 rw [e1]
 intro v H1 ι1 x1 S1 r1
 by_cases ht:ty a M1 = true
 ·rw [if_pos ht] at h
  obtain ⟨ds,M2,e2,h⟩:=Zap.bind h
  refine ⟨hty _ _ _ _ _ S1 r1 ht,ι1,M1,env,S1,E.mono x1,?_⟩
  rw [e2]
  intro vs H2 ι2 x2 S2 r2
  exact ⟨ι2,M2,a,ds,S2,r1.mono x2,r2,(h.up x1).up x2⟩
 ·rw [if_neg ht] at h; exact h.elim
theorem ZpH {K:PySem.W.Frag} (H:Hp) (ι:List Addr) (M:Store) (a:D) (x:V) (S:Zau K H ι M) (r:Rep K H ι a x) (h:tyL a M = true):tyV K "list" x H:=by
 cases a with
 | ref n=>
  simp only [tyL] at h
  cases hn:M[n]? with
  | none=>simp [hn] at h
  | some o=>
   cases o with
   | dct _=>simp [hn] at h
   | fdct _=>simp [hn] at h
   | ins _ _=>simp [hn] at h
   | lst xs=>
    obtain ⟨p,hp,rfl⟩:=r.ref_inv
    obtain ⟨vs,e,_⟩:=S.obj n _ p hn hp
    exact .inl ⟨rfl,vs,SqL.of e⟩
 | _=>simp at h
theorem _root_.L2.MtR.imp {id:String} {r r':V → List V → Hp → VK → Prop} (h:MtR X id r) (i:∀ x xs H Q,r' x xs H Q → r x xs H Q):MtR X id r':=fun pins s σ H x xs v us Q I rx rs q=>h pins s σ H x xs v us Q I rx rs (i x xs H Q q)
theorem Zme:MtR X "list.append" (rM X.K ZaS):=MtR.imp (r:=ZkJ) Zic fun x xs H Q zz1=>by
 obtain ⟨ι,M,a,ds,S,ra,rd,h⟩:=zz1
 cases a with
 | ref n=>
  cases ds with
  | nil=>exact h.elim
  | cons d ds=>
   cases ds with
   | cons _ _=>exact h.elim
   | nil=>
    simp only [ZaS] at h
    cases hn:M[n]? with
    | none=>simp only [hn] at h; exact h.elim
    | some o=>
     cases o with
     | dct _=>simp only [hn] at h; exact h.elim
     | fdct _=>simp only [hn] at h; exact h.elim
     | ins _ _=>simp only [hn] at h; exact h.elim
     | lst z=>
      simp only [hn] at h
      split at h
      ·rename_i hz
       obtain ⟨p,hp,rfl⟩:=ra.ref_inv
       obtain ⟨v,ws,rfl,r1,r2⟩:=rd.cons_inv
       have:=r2.nil_inv
       subst this
       obtain ⟨vs,e,rv⟩:=S.obj n _ p hn hp
       obtain ⟨x2,S2⟩:=S.setl (.inr (.inl ⟨_,e⟩)) hp (rv.append (Zaf.cons r1 Zaf.nil))
       exact ⟨p,vs,v,rfl,rfl,e,by rw [rv.length]; exact Nat.lt_of_lt_of_le hz ZbY,h _ _ _ x2 S2 Rep.non⟩
      ·exact h.elim
 | _=>exact h.elim
theorem Zbg (ho:C3 X o f) (ha:CA X (e :: es) gl)
  (hbase:attributeBase o "append" X.env (eval o X.env) = eval o X.env:=by rfl)
  (hfew:((backTo cpos (starEach (e :: es) X.env)).all (fun x=>!x.1) && (backToKw cpos (keywordEach [] X.env)).all (fun x=>x.1.isSome)
   && decide ((e :: es).length + ([]:List Keyword).length + (if ([]:List Keyword).isEmpty then 0 else 1) < 30)) = true:=by rfl)
  (hline:(apos.endLine == cpos.line) = true:=by rfl) (hs:starEach (e :: es) X.env = (false,eval e X.env) :: starEach es X.env:=by rfl) (hplain:(backTo cpos (starEach es X.env)).any (·.1) = false:=by rfl):
  C3 X (.Call (.Attribute o "append" apos) (e :: es) [] cpos) (Zce tyL ZaS f gl):=
 (ZrB PySem.F.plainAttrs_list PySem.F.slot_list_append PySem.F.type_list_append Zme ho ha hbase hfew hline hs hplain).imp (ZpM ZpH)
theorem Zq3:OpR X (compareOp .In) (r2 X.K fun a b M=>match a,b with | .str [c],.str y=>.ok (.bl (decide (c ∈ y))) M | _,_=>.bad):=OpR.imp Zlk fun x y H Q zz1=>by
 obtain ⟨ι,M,a,b,S,ra,rb,h⟩:=zz1
 cases a with
 | str z=>
  cases z with
  | nil=>cases b <;> exact h.elim
  | cons c z=>
   cases z with
   | cons _ _=>cases b <;> exact h.elim
   | nil=>
    cases b with
    | str y=>
     refine ⟨_,_,ra.str_inv,rb.str_inv,?_⟩
     have e:=StrLaws.found_one (⟨y.toArray⟩:Str) c
     rw [show (⟨[c].toArray⟩:Str) = ⟨#[c]⟩ from rfl,e]
     exact Zap.ok h S Rep.bl
    | _=>exact h.elim
 | _=>cases b <;> exact h.elim
end
end L3
namespace L3
open PySem PySem.Spec PyProof.Rows L2
section
variable {X:Cx}
theorem Zql {pins:List (Addr × Obj)} {σ:St} {H:Hp} {s:Shared} {ι:List Addr} {M:Store} {a b:D} {x y:V} {u v:Value} {k:Bool} (hu:X.A.units + 80 < cLine) (I:Inv X pins σ H s) (S:Zau X.K H ι M)
  (ra:Rep X.K H ι a x) (rb:Rep X.K H ι b y) (ru:RelV x u) (rv:RelV y v) (h:eqD a b M = some k):SeqAt.RcNeAt X.A s u v (!k):=by
 cases a with
 | ref n=>
  cases b with
  | ref m=>
   simp only [eqD] at h
   cases hn:M[n]? with
   | none=>simp [hn] at h
   | some o=>
    cases o with
    | dct _=>simp [hn] at h
    | fdct _=>simp [hn] at h
    | ins _ _=>simp [hn] at h
    | lst ds=>
     cases hm:M[m]? with
     | none=>simp [hn,hm] at h
     | some o=>
      cases o with
      | dct _=>simp [hn,hm] at h
      | fdct _=>simp [hn,hm] at h
      | ins _ _=>simp [hn,hm] at h
      | lst es=>
       simp only [hn,hm] at h
       split at h
       ·rename_i hp
        cases h
        rw [Bool.and_eq_true] at hp
        obtain ⟨p,hp1,rfl⟩:=ra.ref_inv
        obtain ⟨q,hq1,rfl⟩:=rb.ref_inv
        cases ru
        cases rv
        obtain ⟨vs,e1,r1⟩:=S.obj n _ p hn hp1
        obtain ⟨ws,e2,r2⟩:=S.obj m _ q hm hq1
        obtain ⟨its,rvs,pl1,_⟩:=I.list (SqL.of e1)
        obtain ⟨its2,rws,pl2,_⟩:=I.list (SqL.of e2)
        have it1:=pl1.isList
        have it2:=pl2.isList
        have l1:its.length = ds.length:=by rw [← rvs.length,r1.length]
        have l2:its2.length = es.length:=by rw [← rws.length,r2.length]
        have hu1:X.A.units < cLine:=lB 1 17666545486865 T1 hu
        by_cases hl:ds.length = es.length
        ·have key:(List.range its.toArray.size).all (fun j=>match ds[j]?,es[j]? with | some a,some b=>deq a b | _,_=>false) = Zcb ds es:=by
          rw [List.size_toArray,l1]
          exact ZcI hl fun j a b h1 h2=>by rw [h1,h2]
         rw [← key]
         refine SeqAt.RcNeAt.lists it1 it2 (by rw [List.size_toArray,List.size_toArray,l1,l2,hl]) hu1 fun j h1 h2=>?_
         have h1':j < ds.length:=by rw [← l1]; simpa using h1
         have h2':j < es.length:=by rw [← l2]; simpa using h2
         have q1:ds[j]? = some ds[j]:=by simp [h1']
         have q2:es[j]? = some es[j]:=by simp [h2']
         rw [q1,q2]
         obtain ⟨v1,g1,z1⟩:=r1.get q1
         obtain ⟨v2,g2,z2⟩:=r2.get q2
         obtain ⟨u1,k1,w1⟩:=rvs.get g1
         obtain ⟨u2,k2,w2⟩:=rws.get g2
         have m1:its.toArray[j] = u1:=by
          have:=List.getElem?_eq_some_iff.mp k1
          simpa using this.2
         have m2:its2.toArray[j] = u2:=by
          have:=List.getElem?_eq_some_iff.mp k2
          simpa using this.2
         rw [m1,m2]
         exact ZiP I DEEP X.A.in1 ds[j] es[j] v1 v2 u1 u2 (by rw [units_in1]; show X.A.units + 1 + 60 + 1 < cLine; exact lB 1 0x1a3c2ba0ccc11502b0c11 T1 hu) (List.all_eq_true.mp hp.1 _ (List.getElem_mem h1')) (List.all_eq_true.mp hp.2 _ (List.getElem_mem h2')) z1 z2 w1 w2
        ·have z:Zcb ds es = false:=by
          cases q:Zcb ds es with
          | false=>rfl
          | true=>exact absurd (Zd6 q) hl
         rw [z]
         exact SeqAt.RcNeAt.lists_lengths it1 it2 (by rw [List.size_toArray,List.size_toArray,l1,l2]; simpa using hl) hu1
       ·cases h
  | _=>simp [eqD] at h
 | int i=>cases b with
  | int j=>
   simp only [eqD] at h
   cases h
   have:=ra.int_inv; subst this; have:=rb.int_inv; subst this
   obtain ⟨t,rfl⟩:=ru
   obtain ⟨t',rfl⟩:=rv
   rw [← Bool.beq_eq_decide_eq]
   exact SeqAt.RcNeAt.int_int _ _ _ _
  | _=>simp [eqD] at h
 | str i=>cases b with
  | str j=>
   simp only [eqD] at h
   cases h
   have:=ra.str_inv; subst this; have:=rb.str_inv; subst this
   obtain ⟨t,rfl⟩:=ru
   obtain ⟨t',rfl⟩:=rv
   have e:decide (i = j) = ((⟨i.toArray⟩:Str) == ⟨j.toArray⟩):=by
    rw [← Bool.beq_eq_decide_eq,← Zfn]
    by_cases h:(⟨i.toArray⟩:Str) = ⟨j.toArray⟩
    ·simp [h]
    ·simp [h]
   rw [e]
   exact SeqAt.RcNeAt.str_str _ _ _ _
  | _=>simp [eqD] at h
 | bl i=>cases b with
  | bl j=>
   simp only [eqD] at h
   cases h
   have:=ra.bl_inv; subst this; have:=rb.bl_inv; subst this
   cases ru
   cases rv
   rw [← Bool.beq_eq_decide_eq]
   exact SeqAt.RcNeAt.bool_bool _ _
  | _=>simp [eqD] at h
 | tup ds=>cases b with
  | tup es=>
   simp only [eqD] at h
   split at h
   ·rename_i hp
    cases h
    rw [Bool.and_eq_true] at hp
    obtain ⟨p,vs,rfl,s1,r1⟩:=ra.tup_inv
    obtain ⟨p',ws,rfl,s2,r2⟩:=rb.tup_inv
    cases ru
    cases rv
    obtain ⟨its,rvs,ht,_⟩:=I.tuple s1
    obtain ⟨its2,rws,ht2,_⟩:=I.tuple s2
    have e1:its.length = ds.length:=by rw [← rvs.length,r1.length]
    have e2:its2.length = es.length:=by rw [← rws.length,r2.length]
    have hu1:X.A.units < cLine:=lB 1 17666545486865 T1 hu
    have key:((List.range (min its.toArray.size its2.toArray.size)).all (fun j=>match ds[j]?,es[j]? with | some a,some b=>deq a b | _,_=>false) && its.toArray.size == its2.toArray.size) = Zcb ds es:=by
     rw [List.size_toArray,List.size_toArray,e1,e2]
     by_cases hl:ds.length = es.length
     ·rw [hl,Nat.min_self,beq_self_eq_true,Bool.and_true,← hl]
      exact ZcI hl fun j a b h1 h2=>by rw [h1,h2]
     ·have z:Zcb ds es = false:=by
       cases q:Zcb ds es with
       | false=>rfl
       | true=>exact absurd (Zd6 q) hl
      rw [z,beq_eq_false_iff_ne.mpr hl,Bool.and_false]
    rw [← key]
    refine SeqAt.RcNeAt.tuples (show s.heap.IsTuple p its.toArray from ht) (show s.heap.IsTuple p' its2.toArray from ht2) hu1 fun j h1 h2=>?_
    have h1':j < ds.length:=by rw [← e1]; simpa using h1
    have h2':j < es.length:=by rw [← e2]; simpa using h2
    have q1:ds[j]? = some ds[j]:=by simp [h1']
    have q2:es[j]? = some es[j]:=by simp [h2']
    rw [q1,q2]
    obtain ⟨v1,g1,z1⟩:=r1.get q1
    obtain ⟨v2,g2,z2⟩:=r2.get q2
    obtain ⟨u1,k1,w1⟩:=rvs.get g1
    obtain ⟨u2,k2,w2⟩:=rws.get g2
    have m1:its.toArray[j] = u1:=by
     have:=List.getElem?_eq_some_iff.mp k1
     simpa using this.2
    have m2:its2.toArray[j] = u2:=by
     have:=List.getElem?_eq_some_iff.mp k2
     simpa using this.2
    rw [m1,m2]
    exact ZiP I DEEP X.A.in1 ds[j] es[j] v1 v2 u1 u2 (by rw [units_in1]; show X.A.units + 1 + 60 + 1 < cLine; exact lB 1 0x1a3c2ba0ccc11502b0c11 T1 hu) (List.all_eq_true.mp hp.1 _ (List.getElem_mem h1')) (List.all_eq_true.mp hp.2 _ (List.getElem_mem h2')) z1 z2 w1 w2
   ·cases h
  | _=>simp [eqD] at h
 | _=>cases b <;> simp [eqD] at h
theorem Zje (hu:X.A.units + 80 < cLine):OpR X (compareOp .NotEq) (r2 X.K Zed):=by
 intro pins s σ H x y v u Q I rx ry h
 obtain ⟨ι,M,a,b,S,ra,rb,h⟩:=h
 unfold Zed at h
 cases q:eqD a b M with
 | none=>rw [q] at h; exact h.elim
 | some k=>
  rw [q] at h
  exact Zql hu I S ra rb rx ry q X.prog X.w X.xe _ ⟨.bl (!k),H,I,rfl,Zap.ok h S Rep.bl⟩
theorem Zi2 {K:PySem.W.Frag} {H:Hp} {ι:List Addr} {d:D} {v:V} (r:Rep K H ι d v) (h:ZaZ d = true):Ze3 v = true:=by
 cases d with
 | non=>rw [r.non_inv]; rfl
 | bl b=>rw [r.bl_inv]; rfl
 | int i=>rw [r.int_inv]; rfl
 | str x=>rw [r.str_inv]; rfl
 | _=>simp [ZaZ] at h
theorem Zn8 (x y:List Nat):((⟨x.toArray⟩:Str) == ⟨y.toArray⟩) = (x == y):=by
 rw [Bool.eq_iff_iff]
 simp
theorem ZnO {K:PySem.W.Frag} {H:Hp} {ι:List Addr} {d e:D} {v w:V} (r:Rep K H ι d v) (q:Rep K H ι e w) (h:ZaZ d = true) (h':ZaZ e = true):eqV v w = deq d e:=by
 cases d with
 | non=>have:=r.non_inv; subst this; cases e with
  | non=>have:=q.non_inv; subst this; rfl
  | bl _=>have:=q.bl_inv; subst this; rfl
  | int _=>have:=q.int_inv; subst this; rfl
  | str _=>have:=q.str_inv; subst this; rfl
  | _=>simp [ZaZ] at h'
 | bl _=>have:=r.bl_inv; subst this; cases e with
  | non=>have:=q.non_inv; subst this; rfl
  | bl _=>have:=q.bl_inv; subst this; rfl
  | int _=>have:=q.int_inv; subst this; rfl
  | str _=>have:=q.str_inv; subst this; rfl
  | _=>simp [ZaZ] at h'
 | int _=>have:=r.int_inv; subst this; cases e with
  | non=>have:=q.non_inv; subst this; rfl
  | bl _=>have:=q.bl_inv; subst this; rfl
  | int _=>have:=q.int_inv; subst this; rfl
  | str _=>have:=q.str_inv; subst this; rfl
  | _=>simp [ZaZ] at h'
 | str _=>have:=r.str_inv; subst this; cases e with
  | non=>have:=q.non_inv; subst this; rfl
  | bl _=>have:=q.bl_inv; subst this; rfl
  | int _=>have:=q.int_inv; subst this; rfl
  | str _=>have:=q.str_inv; subst this; exact Zn8 _ _
  | _=>simp [ZaZ] at h'
 | _=>simp [ZaZ] at h
theorem ZkY {K:PySem.W.Frag} {H:Hp} {ι:List Addr} {d:D} {v:V} (r:Rep K H ι d v) (h:ZaZ d = true):∀ {ds:List D} {vs:List V},Zaf K H ι ds vs → ds.all ZaZ = true → vs.all Ze3 = true ∧ inV v vs = ds.any fun y=>deq y d
 | [],_,q,_=>by rw [q.nil_inv]; exact ⟨rfl,rfl⟩
 | e :: ds,_,q,hd=>by
  obtain ⟨w,ws,rfl,r1,r2⟩:=q.cons_inv
  rw [List.all_cons,Bool.and_eq_true] at hd
  obtain ⟨h1,h2⟩:=ZkY r h r2 hd.2
  refine ⟨by rw [List.all_cons,Zi2 r1 hd.1,h1]; rfl,?_⟩
  unfold inV at h2 ⊢
  rw [List.any_cons,List.any_cons,h2,ZnO r1 r hd.1 h]
theorem Zse (hu:X.A.units + 80 < cLine):OpR X (compareOp .In) (r2 X.K Znt):=OpR.imp (OpR.or Zq3 ZlL) fun x y H Q zz1=>by
 obtain ⟨ι,M,a,b,S,ra,rb,h⟩:=zz1
 have seq:∀ (d:D) (ys:List D),b = .tup ys → (ZaZ d && ys.all ZaZ) = true → a = d → Q (.bl (ys.any fun y=>deq y d)) H → rIn X.K false x y H Q:=by
  rintro d ys rfl hf rfl q
  rw [Bool.and_eq_true] at hf
  obtain ⟨p,vs,rfl,s,r⟩:=rb.tup_inv
  obtain ⟨h1,h2⟩:=ZkY ra hf.1 r hf.2
  exact ⟨p,vs,rfl,.inr s,Zi2 ra hf.1,h1,by rw [if_neg (by decide),h2]; exact q⟩
 cases b with
 | tup ys=>
  have h':Zap X.K H ι Q (match (if ZaZ a && ys.all ZaZ then some (ys.any fun y=>deq y a) else none) with | some r=>.ok (.bl r) M | none=>.bad):=by
   cases a with
   | str z=>cases z with
    | nil=>exact h
    | cons c z=>cases z <;> exact h
   | _=>exact h
  by_cases hf:(ZaZ a && ys.all ZaZ) = true
  ·rw [if_pos hf] at h'
   exact .inr (seq a ys rfl hf rfl (Zap.ok h' S Rep.bl))
  ·rw [if_neg hf] at h'; exact h'.elim
 | str y=>cases a with
  | str z=>cases z with
   | nil=>exact h.elim
   | cons c z=>cases z with
    | nil=>exact .inl ⟨ι,M,_,_,S,ra,rb,h⟩
    | cons _ _=>exact h.elim
  | _=>exact h.elim
 | _=>cases a with
  | str z=>cases z with
   | nil=>exact h.elim
   | cons c z=>cases z <;> exact h.elim
  | _=>exact h.elim
theorem Zl8 (x:List Nat) (n:Nat) (a:List Nat):(List.replicate n x.toArray).foldl (· ++ ·) a.toArray = (a ++ (List.replicate n x).flatten).toArray:=by
 induction n generalizing a with
 | zero=>simp
 | succ n ih=>
  rw [List.replicate_succ,List.foldl_cons,List.replicate_succ,List.flatten_cons]
  have:=ih (a ++ x)
  simp only [List.append_toArray] at this ⊢
  rw [this]
  simp
theorem Zo0 (x:List Nat) (k:Int):Txt.mul (⟨x.toArray⟩:Str) k = ⟨(List.replicate k.toNat x).flatten.toArray⟩:=by
 unfold Txt.mul
 split
 ·rename_i h
  have:k.toNat = 0:=Nat.le_antisymm (Nat.le_of_eq (Int.toNat_of_nonpos (iN [] [_] 1 235446417 T1 h))) (Nat.zero_le _)
  rw [this]; rfl
 ·split
  ·rename_i h1 h2
   simp only [Bool.or_eq_true,beq_iff_eq,Str.length,List.size_toArray] at h2
   rcases h2 with h2 | h2
   ·subst h2; simp
   ·have:x = []:=List.eq_nil_of_length_eq_zero h2
    subst this
    simp
  ·have:=Zl8 x k.toNat []
   rw [List.nil_append] at this
   exact congrArg Str.mk this
theorem Zaf.repl {K:PySem.W.Frag} {H:Hp} {ι:List Addr} {ds:List D} {vs:List V} (r:Zaf K H ι ds vs):∀ k:Nat,Zaf K H ι (List.replicate k ds).flatten (List.replicate k vs).flatten
 | 0=>Zaf.nil
 | k + 1=>by rw [List.replicate_succ,List.replicate_succ,List.flatten_cons,List.flatten_cons]; exact r.append (Zaf.repl r k)
theorem ZkZ:OpR X (binaryOp .Mult) (r2 X.K Zez):=by
 have hs:OpR X (binaryOp .Mult) (fun x y H Q=>∃ (z:List Nat) (k:Int),x = .str ⟨z.toArray⟩ ∧ y = .int k ∧ z.length * k.toNat ≤ 1000000 ∧ k < 1000000 ∧ -1000000 < k ∧ Q (.str ⟨(List.replicate k.toNat z).flatten.toArray⟩) H):=by
  intro pins s σ H x y v u Q I rx ry h
  obtain ⟨z,k,rfl,rfl,h1,h2,h3,q⟩:=h
  obtain ⟨t,rfl⟩:=rx
  obtain ⟨t',rfl⟩:=ry
  refine SB.mul ⟨?_,fun h4 h5=>?_,fun h4 h5=>?_⟩ fun t'' tk=>?_
  ·simp; omega
  ·simp only [Str.length,List.size_toArray]
   simp at h4 h5
   have hk:2 ≤ k:=by
    simp only [Str.length,List.size_toArray] at h5
    omega
   have e:(k.toNat:Int) = k:=Int.le_antisymm (Int.le_of_eq (Int.toNat_of_nonneg (iN [] [_] 1 3892452225 T1 hk))) ((Int.self_le_toNat _))
   have hm:(z.length:Int) * k ≤ 1000000:=by
    have h1':((z.length * k.toNat:Nat):Int) ≤ 1000000:=Int.ofNat_le.mpr h1
    rw [Int.natCast_mul,e] at h1'
    exact h1'
   have hd:(z.length:Int) ≤ 9223372036854775807 / k:=Int.le_ediv_of_mul_le (iN [] [_] 1 3909229441 T1 hk) (by omega)
   show ¬ ((z.length:Int) > (2 ^ 63 - 1) / k)
   have e3:((2:Int) ^ 63 - 1) = 9223372036854775807:=by decide
   rw [e3]
   exact fun z=>iN [_] [_] 2 6599352549521 T1 z hd
  ·unfold Builtin.Str.tooLong
   simp only [Str.length,List.size_toArray,decide_eq_false_iff_not]
   have hsz:(1000000:Nat) ≤ sizeLine:=ZbY
   exact fun z=>lB 3 0x6f42405b1010f42405b011011 T1 z hsz h1
  ·rw [Zo0]
   exact ⟨.str _,H,I.tok _,⟨_,rfl⟩,q⟩
 refine OpR.imp (OpR.or Zpy (OpR.or hs Zpp)) fun x y H Q zz1=>?_
 obtain ⟨ι,M,a,b,S,ra,rb,h⟩:=zz1
 cases a with
 | int i=>cases b with
  | int j=>
   simp only [Zez] at h
   split at h
   ·rename_i hm
    refine .inl ⟨i,j,ra.int_inv,rb.int_inv,?_,Zap.ok h S Rep.int⟩
    simp only [ZbP,Bool.or_eq_true,Bool.and_eq_true,decide_eq_true_eq] at hm
    exact hm
   ·exact h.elim
  | _=>exact h.elim
 | str z=>cases b with
  | int k=>
   simp only [Zez] at h
   split at h
   ·rename_i hz
    exact .inr (.inl ⟨z,k,ra.str_inv,rb.int_inv,hz.1,hz.2.1,hz.2.2,Zap.ok h S Rep.str⟩)
   ·exact h.elim
  | _=>exact h.elim
 | ref n=>cases b with
  | int k=>
   simp only [Zez] at h
   cases hn:M[n]? with
   | none=>simp only [hn] at h; exact h.elim
   | some o=>
    cases o with
    | dct _=>simp only [hn] at h; exact h.elim
    | fdct _=>simp only [hn] at h; exact h.elim
    | ins _ _=>simp only [hn] at h; exact h.elim
    | lst z=>
     simp only [hn] at h
     split at h
     ·rename_i hz
      obtain ⟨p,hp,rfl⟩:=ra.ref_inv
      obtain ⟨vs,e,r⟩:=S.obj n _ p hn hp
      refine .inr (.inr ⟨p,k,vs,rfl,rb.int_inv,e,by omega,by omega,by rw [r.length]; exact Nat.le_trans hz.1 ZbY,fun q hq=>?_⟩)
      obtain ⟨x2,S2,r2⟩:=S.lst hq (Zaf.repl r k.toNat)
      exact h _ _ _ x2 S2 r2
     ·exact h.elim
  | _=>exact h.elim
 | _=>cases b <;> exact h.elim
theorem ZkR (n d:Nat) (hd:d ≤ n) (o:Option Int):(match o with | none=>(d:Int) | some i=>max 0 (min (if i < 0 then i + (n:Int) else i) (n:Int))) = ((sIx n d o:Nat):Int):=by
 cases o with
 | none=>rfl
 | some v=>
  show max 0 (min (if v < 0 then v + (n:Int) else v) (n:Int)) = (((if v < 0 then (v + (n:Int)).toNat else min v.toNat n):Nat):Int)
  by_cases h:v < 0
  ·rw [if_pos h,if_pos h]; exact clC v n h
  ·rw [if_neg h,if_neg h]; exact clD v n h
theorem Zgf (lo hi:Option Int) (n:Nat):Builtin.Str.strSliceIndices lo hi 1 n = (List.range (sIx n n hi - sIx n 0 lo)).map (fun k=>sIx n 0 lo + k):=by
 have e1:=ZkR n 0 (Nat.zero_le _) lo
 have e2:=ZkR n n (Nat.le_refl _) hi
 have key:Builtin.Str.strSliceIndices lo hi 1 n = sliceRange ((sIx n 0 lo:Nat):Int) ((sIx n n hi:Nat):Int) 1:=by
  rw [← e1,← e2]
  simp only [Builtin.Str.strSliceIndices,show ((1:Int) > 0) = True from by simp,if_true]
  cases lo <;> cases hi <;> rfl
 rw [key]
 generalize sIx n 0 lo = a
 generalize sIx n n hi = b
 simp only [sliceRange,show ((1:Int) > 0) = True from by simp,if_true]
 by_cases hlt:(a:Int) < b
 ·have e3:(((b:Int) - a + 1 - 1) / 1).toNat = b - a:=by first | exact Nat.le_antisymm (iN [_,_,_,_] [_] 3 0x230038a112c001aa1808fcf001d81 T1 (Int.mul_ediv_self_le (by decide)) (sbA _ _) (Int.toNat_of_nonneg (iN [_,_] [_] 2 0xe8a001dcaa0818fcf91180891 T1 hlt (Int.lt_mul_ediv_self_add (by decide))))) (iN [_,_,_,_] [_] 3 0x230013c2128081a001dcaa1808fcf91 T1 (Int.lt_mul_ediv_self_add (by decide)) (Int.self_le_toNat _) (Nat.sub_add_cancel (iN [_,_] [] 1 4296542353 T1 hlt))) | (simp; done) | (simp; omega)
  simp only [hlt,if_true,e3]
  refine List.map_congr_left fun k _=>?_
  exact Nat.le_antisymm (iN [_,_,_] [] 1 0x21c002801d18c08a1 T1 (Int.toNat_of_nonneg (iN [_,_] [] 0 103109659880 T1))) (iN [_,_,_] [] 1 0x210c0281801d08c81 T1 (Int.self_le_toNat _))
 ·have:b - a = 0:=Nat.le_antisymm (Nat.le_of_eq (Nat.sub_eq_zero_of_le (iN [_,_] [] 1 270010577 T1 hlt))) (Nat.zero_le _)
  simp [hlt,this]
theorem Ziv (n d:Nat) (hd:d ≤ n) (o:Option Int):sIx n d o ≤ n:=by
 cases o with
 | none=>exact hd
 | some v=>simp only [sIx]; split <;> omega
theorem Zkd (z:List Nat) (lo hi:Option Int) (l u:Option (Int × Tok)) (hl:l.map (·.1) = lo) (hu:u.map (·.1) = hi):
  (if ((1:Int) == 1 && (slicePicked ⟨z.toArray⟩ l u none).length == (⟨z.toArray⟩:Str).length) = true then (⟨z.toArray⟩:Str) else ⟨((slicePicked ⟨z.toArray⟩ l u none).filterMap ((⟨z.toArray⟩:Str).cps[·]?)).toArray⟩) = ⟨(cutD z lo hi).toArray⟩:=by
 have e0:slicePicked ⟨z.toArray⟩ l u none = (List.range (sIx z.length z.length hi - sIx z.length 0 lo)).map (fun k=>sIx z.length 0 lo + k):=by
  unfold slicePicked
  rw [hl,hu]
  simp only [Str.length,List.size_toArray]
  exact Zgf lo hi z.length
 have hb:=Ziv z.length z.length (Nat.le_refl _) hi
 rw [e0]
 have pick:((List.range (sIx z.length z.length hi - sIx z.length 0 lo)).map (fun k=>sIx z.length 0 lo + k)).filterMap ((⟨z.toArray⟩:Str).cps[·]?) = cutD z lo hi:=by
  unfold cutD
  by_cases hab:sIx z.length 0 lo ≤ sIx z.length z.length hi
  ·have h:=StrLaws.picks z (sIx z.length z.length hi - sIx z.length 0 lo) (sIx z.length 0 lo) (lD 2 82120338080600065 T1 hb (Nat.sub_add_cancel hab))
   simpa using h
  ·have:sIx z.length z.length hi - sIx z.length 0 lo = 0:=Nat.le_antisymm (Nat.le_of_eq (Nat.sub_eq_zero_of_le (lB 1 1052737 T1 hab))) (Nat.zero_le _)
   rw [this]
   simp
 rw [pick]
 split
 ·rename_i hc
  simp only [List.length_map,List.length_range,Str.length,List.size_toArray,Bool.and_eq_true,beq_iff_eq] at hc
  have hc2:=hc.2
  have h0:sIx z.length 0 lo = 0 ∨ z.length = 0:=by omega
  have:cutD z lo hi = z:=by
   unfold cutD
   rcases h0 with h0 | h0
   ·rw [h0,List.drop_zero,List.take_of_length_le (by exact lD 3 0x3102001e3c2011031 T1 hc2 (sbA _ _) (Nat.sub_le _ _))]
   ·have:z = []:=List.eq_nil_of_length_eq_zero h0
    subst this
    simp
  rw [this]
 ·rfl
theorem Zps:SlR X (fun x lo hi H Q=>∃ z:List Nat,x = .str ⟨z.toArray⟩ ∧ z.length ≤ SZ ∧ Q (.str ⟨(cutD z lo hi).toArray⟩) H):=by
 intro pins s σ H x v vl vu lo hi sl Q I rx hs pl pu h
 obtain ⟨z,rfl,hz,q⟩:=h
 obtain ⟨t,rfl⟩:=rx
 have part:∀ {v:Value} {o:Option Int},IsPart v o → ∃ p:Option (Int × Tok),v = partValue p ∧ p.map (·.1) = o:=by
  intro v o h
  cases h with
  | none=>exact ⟨none,rfl,rfl⟩
  | int i t=>exact ⟨some (i,t),rfl,rfl⟩
 obtain ⟨l,rfl,hl⟩:=part pl
 obtain ⟨u,rfl,hu⟩:=part pu
 refine ⟨"str",_,PySem.F.slot_str_getitem.lookup,typeIs_str _ _ _,?_⟩
 refine wpAny_getItem_str_slice (l:=l) (u:=u) (st:=none) hs rfl ?_
 unfold sliceMade
 refine post_val_or_made (fun _=>?_) fun t' k=>?_
 ·show ((slicePicked ⟨z.toArray⟩ l u none).filterMap ((⟨z.toArray⟩:Str).cps[·]?)).toArray.size ≤ sizeLine
  rw [List.size_toArray]
  refine Nat.le_trans (List.length_filterMap_le _ _) ?_
  show (Builtin.Str.strSliceIndices (l.map (·.1)) (u.map (·.1)) 1 (⟨z.toArray⟩:Str).length).length ≤ sizeLine
  rw [Zgf]
  simp only [List.length_map,List.length_range,Str.length,List.size_toArray]
  have:=Ziv z.length z.length (Nat.le_refl _) (u.map (·.1))
  have:=ZbY
  omega
 ·have e:=Zkd z lo hi l u hl hu
  have e':(if (((none:Option (Int × Tok)).map (·.1)).getD 1 == 1 && (slicePicked ⟨z.toArray⟩ l u none).length == (⟨z.toArray⟩:Str).length) = true then (⟨z.toArray⟩:Str) else ⟨((slicePicked ⟨z.toArray⟩ l u none).filterMap ((⟨z.toArray⟩:Str).cps[·]?)).toArray⟩) = ⟨(cutD z lo hi).toArray⟩:=e
  rw [e']
  exact ⟨.str _,H,I.tok _,⟨_,rfl⟩,q⟩
theorem Zfo {prog:Program} {w:World} {A:Around} {E:Value → Shared → Prop} {s:Shared} {t sl:Addr} {items:Array Value} {vl vu:Value} {lo hi:Option Int} {Q:Value → Shared → Prop} (ht:IsTup s.heap t items) (hs:s.heap.IsSliceOf sl vl vu .none) (pl:IsPart vl lo) (pu:IsPart vu hi)
  (hw:HT.sIx items.size 0 lo = 0 ∧ HT.sIx items.size items.size hi = items.size) (h:Q (.ref t) s):wpAny (model prog w) A (getItem (.ref t) (.ref sl)) Q E s:=by
 obtain ⟨os,hos,hcs,hds⟩:=id hs
 have hTs:s.TypeIs (.ref sl) "slice":=⟨os,hos,hcs⟩
 unfold getItem
 try with_reducible refine wpAny_holding ?_
 first | refine wpAny_bind (wpAny_pure ?_) | skip
 refine wpAny_bind (wpAny_sequenceKey ht.typeIs (by decide) ?_)
 refine wpAny_bind (wpAny_callSpecial?_slot (name:=Str.ofString "__getitem__") ht.typeIs PyProof.Rows.slot_tuple_getitem
  (wpAny_call_entry PyProof.Rows.slot_tuple_getitem ht.typeIs entry_tuple_getitem ?_ (args_tuple_getitem _ _)))
 show wpAny _ _ (Builtin.Tuple.tupleItemsOf (.ref t) >>= _) _ _ s
 refine wpAny_bind (tupleItemsOf_ ht ?_)
 refine wpAny_bind (wpAny_typeOf hTs ?_)
 rw [if_pos (by decide)]
 refine wpAny_bind (HT.sliceApplied_gen hs pl pu ?_)
 have hyes:(((HT.sIx items.size 0 lo:Nat):Int) == 0 && (1:Int) == 1 && (HT.sIx items.size items.size hi - HT.sIx items.size 0 lo) == items.size) = true:=by
  rw [hw.1,hw.2]; simp
 show wpAny _ _ (if (((HT.sIx items.size 0 lo:Nat):Int) == 0 && (1:Int) == 1 && (HT.sIx items.size items.size hi - HT.sIx items.size 0 lo) == items.size) = true then _ else _) _ _ s
 rw [if_pos hyes]
 unfold Builtin.Tuple.tupleIsExact
 refine wpAny_bind (wpAny_bind (wpAny_typeOf ht.typeIs (wpAny_pure ?_)))
 rw [if_pos (by decide)]
 exact wpAny_bind (wpAny_rule (wpAny_pure ⟨_,rfl,wpAny_pure h⟩))
theorem Zoe:SlR X (fun x lo hi H Q=>∃ a xs,x = .ref a ∧ SqT X.K H a xs ∧ (HT.sIx xs.length 0 lo = 0 ∧ HT.sIx xs.length xs.length hi = xs.length) ∧ Q (.ref a) H):=by
 intro pins s σ H x v vl vu lo hi sl Q I rx hs pl pu h
 obtain ⟨a,xs,rfl,hx,hw,q⟩:=h
 cases rx
 obtain ⟨its,r,ht,hz⟩:=I.tuple hx
 have hlen:its.toArray.size = xs.length:=by rw [List.size_toArray]; exact r.length.symm
 refine ⟨"tuple",_,PyProof.Rows.slot_tuple_getitem.lookup,ht.typeIs,?_⟩
 exact Zfo ht hs pl pu (by rw [hlen]; exact hw) ⟨.ref a,H,I,rfl,q⟩
theorem Zjr:SlR X (rS X.K):=SlR.imp (SlR.or (SlR.or ZpX Zoe) (SlR.or Zoc Zps)) fun x lo hi H Q zz1=>by
 obtain ⟨ι,M,a,S,ra,h⟩:=zz1
 have ex:∀ n d o,HT.sIx n d o = sIx n d o:=fun n d o=>by cases o <;> rfl
 cases a with
 | tup ds=>
  simp only [ZhC] at h
  obtain ⟨p,vs,rfl,s,r⟩:=ra.tup_inv
  by_cases hw:sIx ds.length 0 lo = 0 ∧ sIx ds.length ds.length hi = ds.length
  ·refine .inl (.inr ⟨p,vs,rfl,s,by rw [ex,ex,r.length]; exact hw,?_⟩)
   have e:cutD ds lo hi = ds:=by unfold cutD; rw [hw.1,hw.2]; simp
   rw [e] at h
   exact Zap.ok h S (Rep.tup s r)
  ·refine .inl (.inl ⟨p,vs,rfl,s,by rw [ex,ex,r.length]; exact hw,fun q hq=>?_⟩)
   obtain ⟨x2,S2,r2⟩:=S.tupl hq (ZjV r lo hi)
   exact h _ _ _ x2 S2 r2
 | scr ds=>
  simp only [ZhC] at h
  obtain ⟨p,vs,rfl,s,r⟩:=ra.scr_inv
  refine .inr (.inl ⟨p,vs,rfl,s.sq,fun q hq=>?_⟩)
  obtain ⟨x2,S2,r2⟩:=S.lst hq (ZjV r lo hi)
  exact h _ _ _ x2 S2 r2
 | str z=>
  simp only [ZhC] at h
  split at h
  ·rename_i hz
   exact .inr (.inr ⟨z,ra.str_inv,hz,Zap.ok h S Rep.str⟩)
  ·exact h.elim
 | ref n=>
  simp only [ZhC] at h
  cases hn:M[n]? with
  | none=>simp only [hn] at h; exact h.elim
  | some o=>
   cases o with
   | dct _=>simp only [hn] at h; exact h.elim
   | fdct _=>simp only [hn] at h; exact h.elim
   | ins _ _=>simp only [hn] at h; exact h.elim
   | lst ds=>
    simp only [hn] at h
    obtain ⟨p,hp,rfl⟩:=ra.ref_inv
    obtain ⟨vs,e,r⟩:=S.obj n _ p hn hp
    refine .inr (.inl ⟨p,vs,rfl,SqL.of e,fun q hq=>?_⟩)
    obtain ⟨x2,S2,r2⟩:=S.lst hq (ZjV r lo hi)
    exact h _ _ _ x2 S2 r2
 | _=>exact h.elim
theorem ZdM {K:PySem.W.Frag} {H:Hp} {ι:List Addr} {d:D} {xs:List V} (r:Zaf K H ι [d] xs):∃ x,xs = [x] ∧ Rep K H ι d x:=by
 obtain ⟨v,ws,rfl,r1,r2⟩:=r.cons_inv
 have:=r2.nil_inv
 subst this
 exact ⟨v,rfl,r1⟩
theorem ZcE:Za3 X (.builtin "len") (rB X.K Za7):=Za3.imp Zmd fun xs H Q zz1=>by
 obtain ⟨ι,M,ds,S,rd,h⟩:=zz1
 cases ds with
 | nil=>exact h.elim
 | cons d ds=>
  cases ds with
  | cons _ _=>cases d <;> exact h.elim
  | nil=>
   obtain ⟨x,rfl,r⟩:=ZdM rd
   cases d with
   | tup z=>
    obtain ⟨p,vs,rfl,s,r'⟩:=r.tup_inv
    exact ⟨_,vs.length,rfl,.inr ⟨vs,s,rfl⟩,by rw [r'.length]; exact Zap.ok h S Rep.int⟩
   | scr z=>
    obtain ⟨p,vs,rfl,s,r'⟩:=r.scr_inv
    exact ⟨_,vs.length,rfl,.inl ⟨vs,s.sq,rfl⟩,by rw [r'.length]; exact Zap.ok h S Rep.int⟩
   | str z=>
    simp only [Za7] at h
    split at h
    ·rename_i hz
     have:=r.str_inv
     subst this
     refine ⟨_,z.length,rfl,⟨?_,?_⟩,Zap.ok h S Rep.int⟩
     ·show z.toArray.size ≤ sizeLine
      rw [List.size_toArray]
      exact Nat.le_trans hz ZbY
     ·show z.length = z.toArray.size
      rw [List.size_toArray]
    ·exact h.elim
   | ref n=>
    cases hn:M[n]? with
    | none=>simp only [Za7,hn] at h; exact h.elim
    | some o=>
     cases o with
     | dct _=>simp only [Za7,hn] at h; exact h.elim
     | fdct _=>simp only [Za7,hn] at h; exact h.elim
     | ins _ _=>simp only [Za7,hn] at h; exact h.elim
     | lst z=>
      simp only [Za7,hn] at h
      obtain ⟨p,hp,rfl⟩:=r.ref_inv
      obtain ⟨vs,e,r'⟩:=S.obj n _ p hn hp
      exact ⟨_,vs.length,rfl,.inl ⟨vs,SqL.of e,rfl⟩,by rw [r'.length]; exact Zap.ok h S Rep.int⟩
   | _=>exact h.elim
theorem ZeK:Za3 X (.type "tuple") (rB X.K Zcd):=Za3.imp Zhr fun xs H Q zz1=>by
 obtain ⟨ι,M,ds,S,rd,h⟩:=zz1
 cases ds with
 | nil=>exact h.elim
 | cons d ds=>
  cases ds with
  | cons _ _=>cases d <;> exact h.elim
  | nil=>
   obtain ⟨x,rfl,r⟩:=ZdM rd
   cases d with
   | tup z=>
    obtain ⟨p,vs,rfl,s,r'⟩:=r.tup_inv
    exact ⟨p,vs,rfl,.inr ⟨s,Zap.ok h S (Rep.tup s r')⟩⟩
   | scr z=>
    obtain ⟨p,vs,rfl,s,r'⟩:=r.scr_inv
    refine ⟨p,vs,rfl,.inl ⟨s.sq,fun q hq=>?_⟩⟩
    obtain ⟨x2,S2,r2⟩:=S.tupl hq r'
    exact h _ _ _ x2 S2 r2
   | ref n=>
    cases hn:M[n]? with
    | none=>simp only [Zcd,hn] at h; exact h.elim
    | some o=>
     cases o with
     | dct _=>simp only [Zcd,hn] at h; exact h.elim
     | fdct _=>simp only [Zcd,hn] at h; exact h.elim
     | ins _ _=>simp only [Zcd,hn] at h; exact h.elim
     | lst z=>
      simp only [Zcd,hn] at h
      obtain ⟨p,hp,rfl⟩:=r.ref_inv
      obtain ⟨vs,e,r'⟩:=S.obj n _ p hn hp
      refine ⟨p,vs,rfl,.inl ⟨SqL.of e,fun q hq=>?_⟩⟩
      obtain ⟨x2,S2,r2⟩:=S.tupl hq r'
      exact h _ _ _ x2 S2 r2
   | _=>exact h.elim
theorem Zmv:Za3 X (.type "list") (rB X.K Ze0):=Za3.imp ZiQ fun xs H Q zz1=>by
 obtain ⟨ι,M,ds,S,rd,h⟩:=zz1
 cases ds with
 | nil=>exact h.elim
 | cons d ds=>
  cases ds with
  | cons _ _=>cases d <;> exact h.elim
  | nil=>
   obtain ⟨x,rfl,r⟩:=ZdM rd
   cases d with
   | tup z=>
    obtain ⟨p,vs,rfl,s,r'⟩:=r.tup_inv
    refine ⟨p,vs,rfl,.inr s,fun q hq=>?_⟩
    obtain ⟨x2,S2,r2⟩:=S.lst hq r'
    exact h _ _ _ x2 S2 r2
   | scr z=>
    obtain ⟨p,vs,rfl,s,r'⟩:=r.scr_inv
    refine ⟨p,vs,rfl,.inl s.sq,fun q hq=>?_⟩
    obtain ⟨x2,S2,r2⟩:=S.lst hq r'
    exact h _ _ _ x2 S2 r2
   | ref n=>
    cases hn:M[n]? with
    | none=>simp only [Ze0,hn] at h; exact h.elim
    | some o=>
     cases o with
     | dct _=>simp only [Ze0,hn] at h; exact h.elim
     | fdct _=>simp only [Ze0,hn] at h; exact h.elim
     | ins _ _=>simp only [Ze0,hn] at h; exact h.elim
     | lst z=>
      simp only [Ze0,hn] at h
      obtain ⟨p,hp,rfl⟩:=r.ref_inv
      obtain ⟨vs,e,r'⟩:=S.obj n _ p hn hp
      refine ⟨p,vs,rfl,.inl (SqL.of e),fun q hq=>?_⟩
      obtain ⟨x2,S2,r2⟩:=S.lst hq r'
      exact h _ _ _ x2 S2 r2
   | _=>exact h.elim
end
end L3
namespace L3
open PySem PySem.Spec PyProof.Rows L2
theorem Zbz:bootBuiltins "len" = some (.builtin "len"):=by decide +kernel
theorem Zph:bootBuiltins "all" = some (.builtin "all"):=by decide +kernel
theorem Zlz:bootBuiltins "sorted" = some (.builtin "sorted"):=by decide +kernel
theorem Zfa:bootBuiltins "isinstance" = some (.builtin "isinstance"):=by decide +kernel
theorem Zpa:bootBuiltins "int" = some (.type "int"):=by decide +kernel
theorem Zlc:bootBuiltins "list" = some (.type "list"):=by decide +kernel
theorem Zd7:bootBuiltins "tuple" = some (.type "tuple"):=by decide +kernel
theorem ZiU:bootBuiltins "dict" = some (.type "dict"):=by decide +kernel
section
variable {X:Cx} {a:Expr} {pos p p2:Pos} {f:E3}
noncomputable def tyN:Ty3 → String
 | .int=>"int" | .bool=>"bool" | .str=>"str" | .list=>"list" | .tuple=>"tuple"
theorem Zfu (K:PySem.W.Frag) (t:String) (T:Ty3) (ht:t ∈ ["NoneType","bool","int","str","list","tuple","dict"]):
  PySem.W.kitOne K (.type t) (.type (tyN T)) = some (t == tyN T || (t == "bool" && tyN T == "int")):=by
 simp only [List.mem_cons,List.not_mem_nil,or_false] at ht
 rcases ht with rfl | rfl | rfl | rfl | rfl | rfl | rfl <;> cases T <;> kernel_rfl
theorem ZmK (T:Ty3):bootBuiltins (tyN T) = some (.type (tyN T)):=by cases T <;> decide +kernel
theorem Zoi {pins:List (Addr × Obj)} {σ:St} {H:Hp} {s:Shared} {ι:List Addr} {M:Store} {A:Around} {E:Value → Shared → Prop} {Q:Value → Shared → Prop} {T:Ty3} {d:D} {x:V} {u:Value} {b:Bool} (I:Inv X pins σ H s) (S:Zau X.K H ι M) (r:Rep X.K H ι d x) (ru:RelV x u)
  (e:ZcN T d M = some b) (h:∀ tk,Q (.bool b) { s with toks:=tk }):wpAny (model X.prog X.w) A (call (.builtin "isinstance") [u,.type (tyN T)]) Q E s:=by
 cases d with
 | non=>
  have:=r.non_inv; subst this
  have hb:b = false:=by simpa [ZcN] using e.symm
  subst hb
  exact Zdj I ru (.non) ((Zfu X.K "NoneType" T (by simp)).trans (by cases T <;> rfl)) h
 | bl c=>
  have:=r.bl_inv; subst this
  have hb:b = (T == .bool || T == .int):=by simpa [ZcN] using e.symm
  subst hb
  exact Zdj I ru (.bl c) ((Zfu X.K "bool" T (by simp)).trans (by cases T <;> rfl)) h
 | int i=>
  have:=r.int_inv; subst this
  have hb:b = (T == .int):=by simpa [ZcN] using e.symm
  subst hb
  exact Zdj I ru (.int i) ((Zfu X.K "int" T (by simp)).trans (by cases T <;> rfl)) h
 | str z=>
  have:=r.str_inv; subst this
  have hb:b = (T == .str):=by simpa [ZcN] using e.symm
  subst hb
  exact Zdj I ru (.str _) ((Zfu X.K "str" T (by simp)).trans (by cases T <;> rfl)) h
 | tup ds=>
  obtain ⟨a,vs,rfl,st,rr⟩:=r.tup_inv
  cases ru
  have hb:b = (T == .tuple):=by simpa [ZcN] using e.symm
  subst hb
  obtain ⟨its,_,pt,_⟩:=I.tuple st
  obtain ⟨o,h1,h2,_⟩:=pt
  exact PySem.W.kia_one PySem.W.kitx_tuple I.kIn ⟨o,h1,h2⟩ ((Zfu X.K "tuple" T (by simp)).trans (by cases T <;> rfl)) (fun z=>nomatch z) h
 | scr ds=>simp [ZcN] at e
 | ref n=>
  simp only [ZcN] at e
  cases hn:M[n]? with
  | none=>simp [hn] at e
  | some o=>
   obtain ⟨a,ha,rfl⟩:=r.ref_inv
   cases o with
   | lst z=>
    have hb:b = (T == .list):=by simpa [hn] using e.symm
    subst hb
    obtain ⟨vs,ev,_⟩:=S.obj n _ a hn ha
    exact Zdj I ru (.lst ev) ((Zfu X.K "list" T (by simp)).trans (by cases T <;> rfl)) h
   | dct z=>
    have hb:b = false:=by simpa [hn] using e.symm
    subst hb
    obtain ⟨vs,ev,_⟩:=S.obj n _ a hn ha
    exact Zdj I ru (.dK ev) ((Zfu X.K "dict" T (by simp)).trans (by cases T <;> rfl)) h
   | fdct z=>simp [hn] at e
   | ins _ _=>simp [hn] at e
theorem ZeC (T:Ty3) {x:Str} (hm:X.mg "isinstance" = none) (hm2:X.mg x = none) (h:C3 X a f) (hx:x = (Str.ofString (tyN T)):=by rfl) (hg:Gl X "isinstance":=by rfl) (hg2:Gl X x:=by rfl)
  (hn:x ≠ "__name__":=by decide) (hd:(x == ("__debug__":Str)) = false:=by decide)
  (hs:starEach (a :: [.Name x p2]) X.env = (false,eval a X.env) :: starEach [.Name x p2] X.env:=by rfl) (hs2:starEach (.Name x p2 :: []) X.env = (false,eval (.Name x p2) X.env) :: starEach [] X.env:=by rfl)
  (hpl:(backTo pos (starEach [.Name x p2] X.env)).any (·.1) = false:=by rfl):C3 X (.Call (.Name "isinstance" p) [a,.Name x p2] [] pos) (e1 (ZdA T) f):=by
 subst hx
 have hc:Za3 X (.builtin "isinstance") (fun xs H Q=>∃ ι M d x,xs = [x,.ty (tyN T)] ∧ Zau X.K H ι M ∧ Rep X.K H ι d x ∧ Zap X.K H ι Q (ZdA T d M)):=by
  intro pins s σ H xs us Q I r q
  obtain ⟨ι,M,d,x,rfl,S,rd,q⟩:=q
  obtain ⟨u,w',rfl,ru,rw'⟩:=vals2 r
  cases rw'
  unfold ZdA at q
  cases e:ZcN T d M with
  | none=>rw [e] at q; exact q.elim
  | some b=>
   rw [e] at q
   exact Zoi I S rd ru e fun tk=>⟨.bl b,H,I.tok _,rfl,Zap.ok q S Rep.bl⟩
 refine (Zg6 hc hg hm Zfa (Zea h (Zea (Zin hg2 hm2 (ZmK T) (v:=.ty (tyN T)) rfl hn hd) ZiS hs2) hs) (by decide) (by decide) hs hpl).imp fun σ H Q zz1=>?_
 obtain ⟨ι,M,env,S,E,h⟩:=zz1
 obtain ⟨d,M1,e1,h⟩:=Zap.bind h
 refine ⟨ι,M,env,S,E,?_⟩
 rw [e1]
 intro v H1 ι1 x1 S1 r1
 exact ⟨ι1,M1,d,v,rfl,S1,r1,h.up x1⟩
theorem Ze1 {p:D → Bool}:∀ {l:List D} {e:Nat → Bool},(∀ (j:Nat) d,l[j]? = some d → e j = p d) → (List.range l.length).all e = l.all p
 | [],_,_=>rfl
 | d :: l,e,h=>by
  rw [List.length_cons,List.range_succ_eq_map,List.all_cons,List.all_map,h 0 d rfl,List.all_cons]
  congr 1
  exact Ze1 fun j d' hj=>h (j + 1) d' (by simpa using hj)
theorem Zre (hc:X.calm = true):Za3 X (.builtin "all") (rB X.K Zkt):=by
 intro pins s σ H xs us Q I rs h
 obtain ⟨ι,M,ds,S,rd,h⟩:=h
 cases ds with
 | nil=>exact h.elim
 | cons d ds=>
  cases ds with
  | cons _ _=>cases d <;> exact h.elim
  | nil=>
   obtain ⟨x,rfl,r⟩:=ZdM rd
   obtain ⟨u,rfl,ru⟩:=vals1 rs
   cases d with
   | ref n=>
    cases hn:M[n]? with
    | none=>simp only [Zkt,hn] at h; exact h.elim
    | some o=>
     cases o with
     | dct _=>simp only [Zkt,hn] at h; exact h.elim
     | fdct _=>simp only [Zkt,hn] at h; exact h.elim
     | ins _ _=>simp only [Zkt,hn] at h; exact h.elim
     | lst z=>
      simp only [Zkt,hn] at h
      cases q:allB z with
      | none=>rw [q] at h; exact h.elim
      | some b=>
       rw [q] at h
       obtain ⟨a,ha,rfl⟩:=r.ref_inv
       cases ru
       obtain ⟨vs,ev,rv⟩:=S.obj n _ a hn ha
       obtain ⟨its,rr,pl,_⟩:=I.list (SqL.of ev)
       have hz:z.all isB = true ∧ z.all isT = b:=by
        unfold allB at q
        split at q
        ·rename_i hz
         exact ⟨hz,Option.some.inj q⟩
        ·cases q
       have hlen:its.toArray.size = z.length:=by rw [List.size_toArray,← rr.length,rv.length]
       have hhd:X.A.in1.handled = none:=I.ok.hd hc
       refine call_all_walk (wpAny_pyIter_list pl.isList ⟨s.heap.objs.size,_,_,_,_,_,(fun j=>match z[j]? with | some d=>isT d | none=>true),rfl,Walks.list hhd s.heap.objs.size a (Nat.ne_of_lt (I.hok.lt ev)) its.toArray,⟨⟨_,Heap.get?_push_size _ rfl,rfl,rfl⟩,pl.isList.at fun o e=>Heap.get?_push_of_some _ e⟩,?_,?_⟩)
       ·intro j v s' Q' E' hv hq
        have hv':its[j]? = some v:=by simpa using hv
        have hj:j < z.length:=by
         have:=(List.getElem?_eq_some_iff.mp hv').1
         rw [← List.size_toArray,hlen] at this
         exact this
        have e1:z[j]? = some z[j]:=by simp [hj]
        have hb:=List.all_eq_true.mp hz.1 _ (List.getElem_mem hj)
        obtain ⟨w,g1,g2⟩:=rv.get e1
        obtain ⟨u',k1,k2⟩:=rr.get g1
        rw [hv'] at k1
        cases k1
        have hq':Q' (isT z[j]) s':=by
         have:=hq
         simp only [e1] at this
         exact this
        generalize z[j] = dj at hb g2 hq'
        cases dj with
        | bl c=>
         have:=g2.bl_inv
         subst this
         cases k2
         exact wpAny_truthy_bool hq'
        | _=>simp [isB] at hb
       ·intro h' tk kk
        rw [hlen,Ze1 (p:=isT) (fun j d hd=>by rw [hd]),hz.2]
        exact ⟨.bl b,H,I.kept (fun c o e=>kk c o (by simp; exact Nat.ne_of_lt (Heap.lt_size e)) (Heap.get?_push_of_some _ e)),rfl,Zap.ok h S Rep.bl⟩
   | _=>exact h.elim
end
noncomputable def ZoC (outer:List (Str × NameKind)) (N:List Str) (scope:Scope) (N':List Str) (own:Nat):Bool:=
 (scope.names.all fun y=>decide (y.2 ≠ .cell) && (decide (y.2 ≠ .free) || decide (outer.lookup y.1 = some .cell) || decide (outer.lookup y.1 = some .free)) && (decide (y.2 ≠ .local) || decide (scope.names.lookup y.1 = some .local))) &&
  decide (N'.length = N.length + own) && ZmU N N' scope
theorem ZbV {X:Cx} {scope:Scope} {N':List Str} {own:Nat} (hk:scope.kind = .function) (h:ZoC X.env.scope.names X.N scope N' own = true):ZiR X scope N' own:=by
 simp only [ZoC,Bool.and_eq_true,decide_eq_true_eq,List.all_eq_true,Bool.or_eq_true] at h
 obtain ⟨⟨h1,h2⟩,h3⟩:=h
 refine ⟨hk,fun y hy=>(h1 y hy).1.1,fun y hy e=>?_,fun y hy e=>?_,h2,h3⟩
 ·rcases (h1 y hy).1.2 with (q | q) | q
  ·exact absurd e q
  ·exact .inl q
  ·exact .inr q
 ·rcases (h1 y hy).2 with q | q
  ·exact absurd e q
  ·exact q
theorem ZaK {K:PySem.W.Frag} {h:Heap} {mg:Str → Option Value} (KX:K.In h) (G:h.Ns mainGlobals mg) {x:Str} {st:Stmt} {f:Addr} {oc:Value} {od an:Option Addr} {osl:Array (Option Value)} {dV kV doc pm cdv ct:Value}
  (a:PySem.W.nsIn K mainGlobals x = some (some (.ref f))) (l:K.lookup f = some ⟨oc,od,.func (PySem.W.fnOf x x (Zaq st) (Zan st) (Zo st) dV kV doc pm an cdv ct),osl⟩)
  (c:PySem.W.codeIn K cdv x = true) (k:PySem.W.keepIn K (.ref f) = true) {ps:List Str} (b:Binds K (PySem.W.fnOf x x (Zaq st) (Zan st) (Zo st) dV kV doc pm an cdv ct) ps []):ZaF K mg x st ps:=⟨f,_,ZmC l c k,PySem.W.mg_of KX G a,b⟩
theorem Zrp {l:PySem.W.OpenLaw} {k:Nat} {q:Program} {loose:List Str} {XP:(Str → Option Value) → Heap → Prop} {YP:World → Heap → Prop} {d:DefRec} {K:Params → PySem.W.Frag} {F:F3} (hn:l.most = some 63) (hdf:d.params.defaults = []) (hr:ZbD k callerA)
  (hY:∀ (w:World) (h:Heap),YP w h → (K w.params).In h)
  (G:∀ (w:World) (mg:Str → Option Value) (fa:Addr) (h:Heap),(K w.params).In h → h.Ns mainGlobals mg → mg d.name = some (.ref fa) →
   ∃ fd:FuncData,(∀ (s:Shared) (u:Value),BindsTo s fd ⟨[u],[]⟩ [("script",u)]) ∧ ∀ base:Heap,(K w.params).In base → base.Ns mainGlobals mg → ZdF l.prog w (K w.params) mg base CX0 k fa fd ["script"] (sp3 (K w.params) 1 F))
  (hF:∀ ns:List Int,ns.length ≤ 63 → ∃ M',F [.scr (ns.map D.int)] [] = .ok (.bl true) M'):
  PySem.W.WalkO q loose XP YP l.row.toRowW d [] (fun f vs=>PySem.call f vs):=
 L2.Zk5 (n:=63) (k:=k) (x:="script") (CX:=fun _=>CX0) (sp:=fun w=>sp3 (K w.params) 1 F) hn (by decide) hdf hr hY G (fun w H a ns hl hO hS=>by
  obtain ⟨M',e⟩:=hF ns hl
  refine ⟨[],[],[.scr (ns.map D.int)],⟨rfl,List.nodup_nil,fun n o a h=>by simp at h⟩,Zaf.cons ?_ Zaf.nil,rfl,?_⟩
  ·simp only [Rep]
   refine ⟨a,ns.map V.int,rfl,?_,Zaf.ints ns⟩
   rcases hS with (h | ⟨o,h⟩) | h
   ·rcases hO a with z | ⟨ob,xs,z⟩
    ·rw [h] at z; cases z
    ·rw [h] at z; cases z
   ·exact .inl ⟨o,h⟩
   ·exact .inr h
  ·rw [e]
   exact fun v H' ι' _ _ r=>r.bl_inv) fun _ _ _ _ _ z=>z
end L3
namespace L3
open PySem PySem.Spec PyProof.Rows L2
theorem Zkv {a b:Zbl} (h:dk a = dk b):a = b:=by
 cases a with
 | inl i=>cases b with
  | inl j=>simp only [dk,Sum.inl.injEq] at h; rw [h]
  | inr y=>simp [dk] at h
 | inr x=>cases b with
  | inl j=>simp [dk] at h
  | inr y=>
   simp only [dk,Sum.inr.injEq,Str.mk.injEq] at h
   have:=congrArg Array.toList h
   simp at this
   rw [this]
theorem Zld {K:PySem.W.Frag} {H:Hp} {ι:List Addr} {b:D} {y:V} {k:Zbl} (h:Zga b = some k) (r:Rep K H ι b y):y = kV (dk k):=by
 cases b with
 | int i=>cases h; exact r.int_inv
 | str x=>cases h; exact r.str_inv
 | _=>simp [Zga] at h
section
variable {K:PySem.W.Frag} {H H':Hp} {ι ι':List Addr} {M:Store} {p:Addr}
theorem KvR.nil:KvR K H ι [] []:=⟨rfl,Zaf.nil⟩
theorem KvR.cons {k:Zbl} {d:D} {v:V} {kvs:List (Zbl × D)} {ws:List (Key × V)} (h:Rep K H ι d v) (r:KvR K H ι kvs ws):KvR K H ι ((k,d) :: kvs) ((dk k,v) :: ws):=
 ⟨by simp [r.1],Zaf.cons h r.2⟩
theorem KvR.cons_inv {q:Zbl × D} {kvs:List (Zbl × D)} {ws:List (Key × V)} (r:KvR K H ι (q :: kvs) ws):∃ v ws',ws = (dk q.1,v) :: ws' ∧ Rep K H ι q.2 v ∧ KvR K H ι kvs ws':=by
 obtain ⟨h1,h2⟩:=r
 cases ws with
 | nil=>simp at h1
 | cons w ws=>
  simp only [List.map_cons,List.cons.injEq] at h1
  obtain ⟨v,us,e,r1,r2⟩:=Zaf.cons_inv h2
  simp only [List.map_cons,List.cons.injEq] at e
  exact ⟨w.2,ws,by rw [← h1.1],e.1 ▸ r1,h1.2,e.2 ▸ r2⟩
theorem KvR.nil_inv {ws:List (Key × V)} (r:KvR K H ι [] ws):ws = []:=by simpa using r.1
theorem KvR.mono {kvs:List (Zbl × D)} {ws:List (Key × V)} (r:KvR K H ι kvs ws) (e:Ext K H ι H' ι'):KvR K H' ι' kvs ws:=⟨r.1,r.2.mono e⟩
theorem KvR.length {kvs:List (Zbl × D)} {ws:List (Key × V)} (r:KvR K H ι kvs ws):ws.length = kvs.length:=by
 have:=congrArg List.length r.1
 simpa using this
theorem KvR.val {kvs:List (Zbl × D)} (k:Zbl):∀ {ws:List (Key × V)},KvR K H ι kvs ws → match ZcA kvs k with | some d=>∃ v,ZeV ws (dk k) = some v ∧ Rep K H ι d v | none=>ZeV ws (dk k) = none:=by
 induction kvs with
 | nil=>intro ws r; rw [r.nil_inv]; exact ZmW
 | cons q kvs ih=>
  intro ws r
  obtain ⟨v,ws',rfl,r1,r2⟩:=r.cons_inv
  obtain ⟨k',d⟩:=q
  unfold ZcA
  by_cases e:k' = k
  ·rw [if_pos e]
   exact ⟨v,ZgQ (by rw [e]),r1⟩
  ·rw [if_neg e,ZgY fun z=>e (Zkv z)]
   exact ih r2
theorem KvR.append {k1 k2:List (Zbl × D)} {w1 w2:List (Key × V)} (a:KvR K H ι k1 w1) (b:KvR K H ι k2 w2):KvR K H ι (k1 ++ k2) (w1 ++ w2):=
 ⟨by simp [a.1,b.1],by rw [List.map_append,List.map_append]; exact a.2.append b.2⟩
theorem KvR.any {kvs:List (Zbl × D)} (k:Zbl):∀ {ws:List (Key × V)},KvR K H ι kvs ws → (ws.any fun kv=>decide (kv.1 = dk k)) = (kvs.any fun q=>decide (q.1 = k)):=by
 induction kvs with
 | nil=>intro ws r; rw [r.nil_inv]; rfl
 | cons q kvs ih=>
  intro ws r
  obtain ⟨v,ws',rfl,r1,r2⟩:=r.cons_inv
  rw [List.any_cons,List.any_cons,ih r2]
  congr 1
  by_cases e:q.1 = k
  ·simp [e]
  ·simp [e]; exact fun z=>e (Zkv z)
theorem KvR.put {kvs:List (Zbl × D)} {k:Zbl} {d:D} {v:V} {ws:List (Key × V)} (r:KvR K H ι kvs ws) (rd:Rep K H ι d v):KvR K H ι (putD k d kvs) (putK ws (dk k) v):=by
 unfold putD putK
 rw [r.any k]
 by_cases c:(kvs.any fun q=>decide (q.1 = k)) = true
 ·rw [if_pos c,if_pos c]
  clear c
  induction kvs generalizing ws with
  | nil=>rw [r.nil_inv]; exact KvR.nil
  | cons q kvs ih=>
   obtain ⟨u,ws',rfl,r1,r2⟩:=r.cons_inv
   rw [List.map_cons,List.map_cons]
   by_cases e:q.1 = k
   ·rw [if_pos e,if_pos (by rw [e])]; exact KvR.cons rd (ih r2)
   ·rw [if_neg e,if_neg fun z=>e (Zkv z)]; exact KvR.cons r1 (ih r2)
 ·rw [if_neg c,if_neg c]
  exact r.append (KvR.cons rd KvR.nil)
theorem KvR.merge {l:List (Zbl × D)}:∀ {kvs:List (Zbl × D)} {ws us:List (Key × V)},KvR K H ι l us → KvR K H ι kvs ws → KvR K H ι (l.foldl (fun acc p=>putD p.1 p.2 acc) kvs) (Zg0 ws us):=by
 induction l with
 | nil=>intro kvs ws us r r0; rw [r.nil_inv]; exact r0
 | cons q l ih=>
  intro kvs ws us r r0
  obtain ⟨v,us',rfl,r1,r2⟩:=r.cons_inv
  exact ih (ws:=putK ws (dk q.1) v) (us:=us') r2 (r0.put r1)
theorem Zau.dct (S:Zau K H ι M) (hp:H p = none) {kvs:List (Zbl × D)} {ws:List (Key × V)} (r:KvR K H ι kvs ws):Ext K H ι (upd H p (.dK ws)) (ι ++ [p]) ∧ Zau K (upd H p (.dK ws)) (ι ++ [p]) (M ++ [.dct kvs]) ∧ Rep K (upd H p (.dK ws)) (ι ++ [p]) (.ref M.length) (.ref p):=by
 have e:Ext K H ι (upd H p (.dK ws)) (ι ++ [p]):=Loose.extA (.inl hp)
 exact ⟨e,S.new hp ⟨ws,Zch,r.mono e⟩,Rep.ref (by rw [← S.len]; simp)⟩
end
section
variable {X:Cx} {a b c e o:Expr} {es:List Expr} {pos p pos' apos cpos:Pos} {f g h:E3} {gl:EL3}
noncomputable def ZpE (K:PySem.W.Frag) (H:Hp) (ι:List Addr) (Q:List (V × V) → Hp → Prop) (r:R3 (List (Zbl × D))):Prop:=match r with
 | .ok l M'=>∀ ws H' ι',Ext K H ι H' ι' → Zau K H' ι' M' → KvR K H' ι' l ws → Q (ws.map fun kv=>(kV kv.1,kv.2)) H'
 | _=>False
theorem ZpE.bind {K:PySem.W.Frag} {H:Hp} {ι:List Addr} {α:Type} {Q:List (V × V) → Hp → Prop} {r:R3 α} {k:α → Store → R3 (List (Zbl × D))} (h:ZpE K H ι Q (r.bind k)):∃ a M,r = .ok a M ∧ ZpE K H ι Q (k a M):=by
 cases r with
 | ok a M=>exact ⟨a,M,rfl,h⟩
 | exc x M=>exact h.elim
 | bad=>exact h.elim
theorem hu1 (hu:X.A.units + 80 < cLine):X.A.units + 1 < cLine:=lB 1 7331617893452817 T1 hu
theorem Zkb {K:PySem.W.Frag} {H:Hp} {ι:List Addr} {M:Store} (S:Zau K H ι M) {n:Nat} {kvs:List (Zbl × D)} {a:Addr} (h:ZdJ M[n]? = some kvs) (ha:ι[n]? = some a):∃ ws,Rd H a (.dK ws) ∧ KvR K H ι kvs ws:=by
 cases hn:M[n]? with
 | none=>simp [hn] at h
 | some ob=>
  cases ob with
  | lst _=>simp [hn] at h
  | dct k=>
   have e:k = kvs:=by simpa [hn] using h
   subst e
   obtain ⟨ws,hw,kr⟩:=S.obj n _ a hn ha
   exact ⟨ws,.inl hw,kr⟩
  | fdct k=>
   have e:k = kvs:=by simpa [hn] using h
   subst e
   obtain ⟨ws,⟨o,hw⟩,kr⟩:=S.obj n _ a hn ha
   exact ⟨ws,.inr ⟨o,hw⟩,kr⟩
  | ins _ _=>simp [hn] at h
theorem Zof {K:PySem.W.Frag} {op:D → D → D → Store → R3 D} {H:Hp} {ι:List Addr} {Q:VK} {env:Zat} {M:Store} (h':Zap K H ι Q (e3 op f g h env M)):
  ∃ a M1 b M2 c M3,f env M = .ok a M1 ∧ g env M1 = .ok b M2 ∧ h env M2 = .ok c M3 ∧ Zap K H ι Q (op a b c M3):=by
 obtain ⟨a,M1,e1,h'⟩:=Zap.bind h'
 obtain ⟨b,M2,e2,h'⟩:=Zap.bind h'
 obtain ⟨c,M3,e3,h'⟩:=Zap.bind h'
 exact ⟨a,M1,b,M2,c,M3,e1,e2,e3,h'⟩
theorem ZiY {K:PySem.W.Frag} {H:Hp} {ι:List Addr} {D':Ends} {env:Zat} {M:Store} {σ:St} (E:ZbG K H ι env σ) (h':ZeU K H ι D' (ZaP f env M)):Zap K H ι (fun _ H'=>D'.nx σ H') (f env M):=by
 unfold ZaP at h'
 cases q:f env M with
 | ok d M1=>rw [q] at h'; exact fun v H1 ι1 x1 S1 r1=>h' σ H1 ι1 x1 S1 (E.mono x1)
 | exc x M1=>rw [q] at h'; exact h'.elim
 | bad=>rw [q] at h'; exact h'.elim
theorem Zeh {i:Expr} {spos:Pos} (ho:C3 X o f) (hi:C3 X i g) (hv:C3 X e h)
  (ha:∀ v,assign (.Subscript o i spos) X.env v = (do
   let ov ← holding [v] (eval o X.env)
   let iv ← holding [v,ov] (eval i X.env)
   standAt spos
   holding [v,ov,iv] (setItem ov iv v)
   release [v,ov,iv] []):=by intro _; rfl)
  (hs:swapsWithSole [.Subscript o i spos] e pos.line X.env = pure false:=by rfl) (hw:swappedStores [.Subscript o i spos] e X.env = pure none:=by rfl)
  (h1:(assignEach [.Subscript o i spos] X.env).map (·.2) = [assign (.Subscript o i spos) X.env]:=by rfl):CS X (.Assign [.Subscript o i spos] e pos) (ZbR f g h):=(Zkr hv (Zo2 ho hi set_list ha) hs hw h1).imp fun D' σ H zz1=>by
 obtain ⟨ι,M,env,S,E,hh⟩:=zz1
 obtain ⟨d,M1,b,M2,k,M3,e1,e2,e3,hh⟩:=Zof (ZiY E hh)
 refine ⟨ι,M,env,S,E,?_⟩
 rw [e1]
 intro v H1 ι1 x1 S1 r1
 refine ⟨ι1,M1,env,S1,E.mono x1,?_⟩
 rw [e2]
 intro x H2 ι2 x2 S2 r2
 refine ⟨ι2,M2,env,S2,(E.mono x1).mono x2,?_⟩
 rw [e3]
 intro y H3 ι3 x3 S3 r3
 cases b with
 | ref n=>
  cases k with
  | int j=>
   simp only [Zfr] at hh
   cases hn:M3[n]? with
   | none=>simp only [hn] at hh; exact hh.elim
   | some ob=>
    cases ob with
    | dct _=>simp only [hn] at hh; exact hh.elim
    | fdct _=>simp only [hn] at hh; exact hh.elim
    | ins _ _=>simp only [hn] at hh; exact hh.elim
    | lst xs=>
     simp only [hn] at hh
     cases hj:ixD xs.length j with
     | none=>simp only [hj] at hh; exact hh.elim
     | some q=>
      simp only [hj] at hh
      obtain ⟨ad,ha,rfl⟩:=(r2.mono x3).ref_inv
      obtain ⟨ws,hw,kr⟩:=S3.obj n _ ad hn ha
      obtain ⟨x4,S4⟩:=S3.setl (.inr (.inl ⟨_,hw⟩)) ha (kr.set q ((r1.mono x2).mono x3))
      exact ⟨ad,ws,j,q,rfl,r3.int_inv,hw,by rw [kr.length]; exact hj,hh .non _ _ (((x1.trans x2).trans x3).trans x4) S4 Rep.non⟩
  | _=>exact hh.elim
 | _=>exact hh.elim
end
end L3
namespace L3
open PySem PySem.W PyProof.Rows
section
noncomputable def kev {α:Type} (lt:Nat → Nat → Bool):KasT α → α
 | .ret a=>a
 | .ask i j k=>kev lt (k (lt i j))
theorem Zd4 {α β:Type} (lt:Nat → Nat → Bool) (f:α → KasT β):∀ t:KasT α,kev lt (t.bind f) = kev lt (f (kev lt t))
 | .ret _=>rfl
 | .ask i j k=>Zd4 lt f (k (lt i j))
variable {lt:Nat → Nat → Bool}
structure Zdy (lt:Nat → Nat → Bool):Prop where
 asym:∀ {a b},lt a b = true → lt b a = false
 tr:∀ {a b c},lt b a = false → lt c b = false → lt c a = false
theorem Zdy.rf (o:Zdy lt) (a:Nat):lt a a = false:=by
 cases h:lt a a
 ·rfl
 ·exact h ▸ o.asym h
noncomputable abbrev at' (p:Array Nat) (i:Nat):Nat:=p.getD i 0
theorem ZjL {p q:Array Nat} {i j:Nat} (h:p[i]? = q[j]?):at' p i = at' q j:=by
 simp only [at',Array.getD_eq_getD_getElem?,h]
noncomputable def Up (lt:Nat → Nat → Bool) (p:Array Nat) (n:Nat):Prop:=∀ i j,i ≤ j → j < n → lt (at' p j) (at' p i) = false
noncomputable def ZhH (lt:Nat → Nat → Bool) (p:Array Nat) (n:Nat):Prop:=∀ i j,i ≤ j → j < n → lt (at' p i) (at' p j) = false
theorem Zoh (o:Zdy lt) {p:Array Nat} {n:Nat} (h1:1 ≤ n) (u:Up lt p n) (h:lt (at' p n) (at' p (n - 1)) = false):Up lt p (n + 1):=by
 intro i j hij hj
 by_cases e:j = n
 ·subst e
  by_cases e':i = j
  ·subst e'; exact o.rf _
  ·exact o.tr (u i (j - 1) (lC 2 563648976195601 T1 (Nat.lt_of_le_of_ne hij e') (sbA _ _)) (lB 1 4313451553 T1 (Nat.sub_add_cancel h1))) h
 ·exact u i j hij ((Nat.lt_of_le_of_ne (lB 1 4305567761 T1 hj) e))
theorem ZeR (o:Zdy lt) {p:Array Nat} {n:Nat} (h1:1 ≤ n) (u:ZhH lt p n) (h:lt (at' p (n - 1)) (at' p n) = false):ZhH lt p (n + 1):=by
 intro i j hij hj
 by_cases e:j = n
 ·subst e
  by_cases e':i = j
  ·subst e'; exact o.rf _
  ·exact o.tr h (u i (j - 1) (lC 2 563648976195601 T1 (Nat.lt_of_le_of_ne hij e') (sbA _ _)) (lB 1 4313451553 T1 (Nat.sub_add_cancel h1)))
 ·exact u i j hij ((Nat.lt_of_le_of_ne (lB 1 4305567761 T1 hj) e))
theorem ZjR (o:Zdy lt) {p:Array Nat}:∀ (f n:Nat),1 ≤ n → Up lt p n → n ≤ kev lt (kas_asc p f n) ∧ kev lt (kas_asc p f n) ≤ n + f ∧ Up lt p (kev lt (kas_asc p f n)) ∧
  (kev lt (kas_asc p f n) = n + f ∨ lt (at' p (kev lt (kas_asc p f n))) (at' p (kev lt (kas_asc p f n) - 1)) = true)
 | 0,n,h1,u=>⟨Nat.le_refl _,Nat.le_refl _,u,.inl rfl⟩
 | f + 1,n,h1,u=>by
  have e:kev lt (kas_asc p (f + 1) n) = kev lt (if lt (at' p n) (at' p (n - 1)) = true then KasT.ret n else kas_asc p f (n + 1)):=rfl
  rw [e]
  cases c:lt (at' p n) (at' p (n - 1)) with
  | true=>exact ⟨Nat.le_refl _,by simp only [if_true,kev]; exact Nat.le_add_right _ _,u,.inr c⟩
  | false=>
   simp only [Bool.false_eq_true,if_false]
   obtain ⟨a,b,d,e⟩:=ZjR o f (n + 1) (Nat.le_add_left _ _) (Zoh o h1 u c)
   exact ⟨lB 1 4296674305 T1 a,lC 1 0xa2c1c002a1cc001 T1 b,d,e.elim (fun z=>.inl (Nat.le_antisymm (lC 1 0xa2c1c002a1cc021 T1 z) (lC 1 0xa2c1c02a1cc031 T1 z))) .inr⟩
theorem ZeH {p:Array Nat} {i j:Nat} (hj:j ≤ p.size) (k:Nat):at' (kas_rev p i j) k = if i ≤ k ∧ k < j then at' p (i + j - 1 - k) else at' p k:=by
 have e:=getElem?_mirror_all (xs:=p) (i:=i) hj k
 unfold kas_rev
 split
 ·rename_i h; rw [if_pos h] at e; exact ZjL e
 ·rename_i h; rw [if_neg h] at e; exact ZjL e
theorem ZcM (p:Array Nat) (i j:Nat):(kas_rev p i j).Perm p:=mirror_perm _ _ _ _
theorem Zdo (p:Array Nat) (i j:Nat):(kas_rev p i j).size = p.size:=mirror_size _ _ _ _
noncomputable def Alike (lt:Nat → Nat → Bool) (p:Array Nat) (n q:Nat):Prop:=∀ i j,n - (q + 1) ≤ i → i < n → n - (q + 1) ≤ j → j < n → lt (at' p i) (at' p j) = false
theorem Zh3 (o:Zdy lt) {p:Array Nat} {n q:Nat} (hn:n ≤ p.size) (hq:q + 1 ≤ n) (d:ZhH lt p n) (a:Alike lt p n q):ZhH lt (kas_rev p (n - (q + 1)) n) n:=by
 intro i j hij hj
 rw [ZeH hn,ZeH hn]
 by_cases h1:n - (q + 1) ≤ i
 ·rw [if_pos ⟨h1,Nat.lt_of_le_of_lt hij hj⟩,if_pos ⟨Nat.le_trans h1 hij,hj⟩]
  exact a _ _ (lF 4 0x53025c401a4c13c0102011011 T1 hj hij (sbA _ _) (sbA _ _)) (lE 3 0x341214c2130ca2c211001 T1 h1 (Nat.sub_add_cancel (lC 1 5043654673 T1 hj)) (Nat.sub_add_cancel (lE 3 0x420a4c13c0102011011 T1 hj hij (sbA _ _)))) (lE 3 0x42004c301a3c12c011011 T1 hj (sbA _ _) (sbA _ _)) (lF 4 0x451325c2140ca3c2121011001 T1 h1 hij (Nat.sub_add_cancel (lC 1 5043654673 T1 hj)) (Nat.sub_add_cancel (lD 2 0x300a3c12c011011 T1 hj (sbA _ _))))
 ·rw [if_neg (fun z=>lB 2 26042503169 T1 z.1 h1)]
  by_cases h2:n - (q + 1) ≤ j
  ·rw [if_pos ⟨h2,hj⟩]; exact d _ _ (lF 4 0x51025c401a4c30c0132111041 T1 h1 hj (sbA _ _) (sbA _ _)) (lE 3 0x341214c2130ca2c211001 T1 h2 (Nat.sub_add_cancel (lC 1 8801751105 T1 h1)) (Nat.sub_add_cancel (lD 2 0x300a3c12c011011 T1 hj (sbA _ _))))
  ·rw [if_neg (fun z=>lB 2 26042503169 T1 z.1 h2)]; exact d _ _ hij hj
theorem Zgy (o:Zdy lt):∀ (f:Nat) (p:Array Nat) (n q:Nat),q + 1 ≤ n → n + f ≤ p.size → ZhH lt p n → Alike lt p n q →
  let r:=kev lt (kas_desc f p n q); r.1.Perm p ∧ r.1.size = p.size ∧ n ≤ r.2.1 ∧ r.2.1 ≤ n + f ∧ r.2.2 + 1 ≤ r.2.1 ∧ ZhH lt r.1 r.2.1 ∧ Alike lt r.1 r.2.1 r.2.2
 | 0,p,n,q,hq,hs,d,a=>⟨Array.Perm.refl _,rfl,Nat.le_refl _,Nat.le_refl _,hq,d,a⟩
 | f + 1,p,n,q,hq,hs,d,a=>by
  have one:∀ (p':Array Nat),Alike lt p' (n + 1) 0:=fun p' i j h1 h2 h3 h4=>by
   have:i = j:=Nat.le_antisymm (lD 3 0x120aec0ca3c01a3c2111001 T1 h3 h2 (sbA _ _)) (lD 3 0x300aec2ca1c013201a1c011 T1 h4 h1 (sbA _ _))
   subst this; exact o.rf _
  unfold kas_desc
  simp only [kev]
  cases c:lt (p.getD n 0) (p.getD (n - 1) 0) with
  | true=>
   simp only [if_true]
   by_cases hq0:q > 0
   ·rw [if_pos hq0]
    have hl:lt (at' (kas_rev p (n - (q + 1)) n) (n - 1)) (at' (kas_rev p (n - (q + 1)) n) n) = false:=by
     rw [ZeH (by exact lC 1 2199729736705 T1 hs),ZeH (by exact lC 1 2199729736705 T1 hs),if_pos ⟨lD 2 0x300a3c2012a1c0c21 T1 (Nat.sub_add_cancel hq) (sbA _ _),lB 1 4313451553 T1 (Nat.sub_add_cancel (lB 1 6981028865 T1 hq))⟩,if_neg (fun z=>lA 1 393233 T1 z.2)]
     exact o.tr (o.asym c) (a _ _ (lE 3 0x40034c2011a3c21a2c10c01 T1 (sbA _ _) (Nat.sub_add_cancel (lB 1 6981028865 T1 hq)) (sbA _ _)) (lF 4 0x251345c21a4c20120ca3c212a1c0c21 T1 (Nat.sub_add_cancel hq) (Nat.sub_add_cancel (lC 1 1291176250369 T1 hq)) (sbA _ _) (Nat.sub_add_cancel (lD 2 0x2301a3c21a2c10c01 T1 (sbA _ _) (Nat.sub_add_cancel (lB 1 6981028865 T1 hq))))) (lD 2 0x300a3c2012a1c0c21 T1 (Nat.sub_add_cancel hq) (sbA _ _)) (lB 1 4313451553 T1 (Nat.sub_add_cancel (lB 1 6981028865 T1 hq))))
    obtain ⟨h1,h2,h3,h4,h5,h6,h7⟩:=Zgy o f (kas_rev p (n - (q + 1)) n) (n + 1) 0 (lA 0 168603328 T1) (by rw [Zdo]; exact lC 1 0x21a0cc02a1c0c01 T1 hs) (ZeR o (lB 1 6981028865 T1 hq) (Zh3 o (lC 1 2199729736705 T1 hs) hq d a) hl) (one _)
    exact ⟨h1.trans (ZcM _ _ _),h2.trans (Zdo _ _ _),lB 1 4296674305 T1 h3,lC 1 0xa2c1c002a1cc001 T1 h4,h5,h6,h7⟩
   ·rw [if_neg hq0]
    obtain ⟨h1,h2,h3,h4,h5,h6,h7⟩:=Zgy o f p (n + 1) 0 (lA 0 168603328 T1) (lC 1 0x21a0cc02a1c0c01 T1 hs) (ZeR o (lB 1 6981028865 T1 hq) d (o.asym c)) (one _)
    exact ⟨h1,h2,lB 1 4296674305 T1 h3,lC 1 0xa2c1c002a1cc001 T1 h4,h5,h6,h7⟩
  | false=>
   simp only [Bool.false_eq_true,if_false,kev]
   cases c2:lt (p.getD (n - 1) 0) (p.getD n 0) with
   | true=>exact ⟨Array.Perm.refl _,rfl,Nat.le_refl _,by simp only [if_true,kev]; exact Nat.le_add_right _ _,hq,d,a⟩
   | false=>
    simp only [Bool.false_eq_true,if_false]
    have al:Alike lt p (n + 1) (q + 1):=fun i j h1 h2 h3 h4=>by
     have z:∀ k,n + 1 - (q + 1 + 1) ≤ k → k < n + 1 → lt (at' p k) (at' p n) = false ∧ lt (at' p n) (at' p k) = false:=fun k k1 k2=>by
      by_cases e:k = n
      ·subst e; exact ⟨o.rf _,o.rf _⟩
      ·exact ⟨o.tr c2 (a k (n - 1) (lE 3 0x120aa3cc0ca4c014a3c2c211001 T1 k1 (Nat.sub_add_cancel hq) (sbA _ _)) ((Nat.lt_of_le_of_ne (lB 1 4305567761 T1 k2) e)) (lD 2 0x300a3c2012a1c0c21 T1 (Nat.sub_add_cancel hq) (sbA _ _)) (lB 1 4313451553 T1 (Nat.sub_add_cancel (lB 1 6981028865 T1 hq)))),o.tr (a (n - 1) k (lD 2 0x300a3c2012a1c0c21 T1 (Nat.sub_add_cancel hq) (sbA _ _)) (lB 1 4313451553 T1 (Nat.sub_add_cancel (lB 1 6981028865 T1 hq))) (lE 3 0x120aa3cc0ca4c014a3c2c211001 T1 k1 (Nat.sub_add_cancel hq) (sbA _ _)) ((Nat.lt_of_le_of_ne (lB 1 4305567761 T1 k2) e))) c⟩
     exact o.tr (z j h3 h4).2 (z i h1 h2).1
    obtain ⟨h1,h2,h3,h4,h5,h6,h7⟩:=Zgy o f p (n + 1) (q + 1) (lB 1 0xa1caa0cc01a0c01 T1 hq) (lC 1 0x21a0cc02a1c0c01 T1 hs) (ZeR o (lB 1 6981028865 T1 hq) d c2) al
    exact ⟨h1,h2,lB 1 4296674305 T1 h3,lC 1 0xa2c1c002a1cc001 T1 h4,h5,h6,h7⟩
theorem Zj5 {p:Array Nat} {n:Nat} (hn:n ≤ p.size) (d:ZhH lt p n):Up lt (kas_rev p 0 n) n:=by
 intro i j hij hj
 rw [ZeH hn,ZeH hn,if_pos ⟨Nat.zero_le _,hj⟩,if_pos ⟨Nat.zero_le _,Nat.lt_of_le_of_lt hij hj⟩]
 exact d _ _ (lE 3 0x340214c2103c2011001 T1 hij (sbA _ _) (Nat.sub_add_cancel (lC 2 0x200a2c1ec011011 T1 hj (sbA _ _)))) (lC 2 81348472104160289 T1 (Nat.sub_add_cancel (lB 1 8264880145 T1 hj)) (Nat.sub_le _ _))
theorem Zi9 (o:Zdy lt) {p:Array Nat} {n nrem:Nat} (h1:1 ≤ n) (hn:n ≤ nrem) (hs:nrem ≤ p.size) (d:ZhH lt p n):
  let r:=kev lt (kas_tail3 n nrem p); r.2.Perm p ∧ r.2.size = p.size ∧ 1 ≤ r.1 ∧ r.1 ≤ nrem ∧ Up lt r.2 r.1:=by
 unfold kas_tail3
 rw [Zd4]
 obtain ⟨a,b,c,_⟩:=ZjR o (p:=kas_rev p 0 n) (nrem - n) n h1 (Zj5 (Nat.le_trans hn hs) d)
 exact ⟨ZcM _ _ _,Zdo _ _ _,Nat.le_trans h1 a,Nat.le_trans b (lC 1 2206541614113 T1 (Nat.sub_add_cancel hn)),c⟩
theorem Zgm (o:Zdy lt) {p:Array Nat} {n nrem:Nat} (h1:1 ≤ n) (hn:n + 1 ≤ nrem) (hs:nrem ≤ p.size) (d:ZhH lt p (n + 1)):
  let r:=kev lt (kas_descPart n nrem p); r.2.Perm p ∧ r.2.size = p.size ∧ 1 ≤ r.1 ∧ r.1 ≤ nrem ∧ Up lt r.2 r.1:=by
 unfold kas_descPart
 rw [Zd4]
 have one:Alike lt p (n + 1) 0:=fun i j h1 h2 h3 h4=>by
  have:i = j:=Nat.le_antisymm (lD 3 0x120aec0ca3c01a3c2111001 T1 h3 h2 (sbA _ _)) (lD 3 0x300aec2ca1c013201a1c011 T1 h4 h1 (sbA _ _))
  subst this; exact o.rf _
 obtain ⟨a1,a2,a3,a4,a5,a6,a7⟩:=Zgy o (nrem - (n + 1)) p (n + 1) 0 (lA 0 168603328 T1) (lD 2 0x12a3cc00a3c2c211001 T1 hs (Nat.sub_add_cancel hn)) d one
 generalize kev lt (kas_desc (nrem - (n + 1)) p (n + 1) 0) = r at *
 dsimp only
 by_cases hq:r.2.2 > 0
 ·rw [if_pos hq]
  obtain ⟨b1,b2,b3,b4,b5⟩:=Zi9 o (p:=kas_rev r.1 (r.2.1 - (r.2.2 + 1)) r.2.1) (n:=r.2.1) (nrem:=nrem) (lB 1 6981028865 T1 a5) (lD 2 0x3003a1c2c212a1cc001 T1 a4 (Nat.sub_add_cancel hn)) (by rw [Zdo]; exact lC 2 137741013041 T1 a2 hs) (Zh3 o (lF 4 0x3005a1c2c21450143312a1cc001 T1 a4 a2 hs (Nat.sub_add_cancel hn)) a5 a6 a7)
  exact ⟨(b1.trans (ZcM _ _ _)).trans a1,(b2.trans (Zdo _ _ _)).trans a2,b3,b4,b5⟩
 ·rw [if_neg hq]
  obtain ⟨b1,b2,b3,b4,b5⟩:=Zi9 o (p:=r.1) (n:=r.2.1) (nrem:=nrem) (lB 1 6981028865 T1 a5) (lD 2 0x3003a1c2c212a1cc001 T1 a4 (Nat.sub_add_cancel hn)) (lC 2 137741013041 T1 a2 hs) a6
  exact ⟨b1.trans a1,b2.trans a2,b3,b4,b5⟩
theorem ZmP (o:Zdy lt) {p:Array Nat} {nrem:Nat} (h1:1 ≤ nrem) (hs:nrem ≤ p.size):let r:=kev lt (kas_count nrem p); r.2.Perm p ∧ r.2.size = p.size ∧ 1 ≤ r.1 ∧ r.1 ≤ nrem ∧ Up lt r.2 r.1:=by
 unfold kas_count
 rw [Zd4]
 have u1:Up lt p 1:=fun i j hij hj=>by
  have:i = j:=Nat.le_antisymm hij (lB 1 16818193 T1 hj)
  subst this; exact o.rf _
 obtain ⟨a,b,c,d⟩:=ZjR o (p:=p) (nrem - 1) 1 (Nat.le_refl _) u1
 generalize kev lt (kas_asc p (nrem - 1) 1) = n at *
 dsimp only
 by_cases e:(n == nrem) = true
 ·rw [if_pos e]; exact ⟨Array.Perm.refl _,rfl,a,by show n ≤ nrem; exact lC 2 0x2002a1c211ac001 T1 b (Nat.sub_add_cancel h1),c⟩
 ·rw [if_neg e]
  have hne:n ≠ nrem:=by simpa using e
  have hlt:lt (at' p n) (at' p (n - 1)) = true:=d.resolve_left (fun z=>lB 2 25787699217 T1 (Nat.lt_of_le_of_ne (lC 2 0x2002a1c211ac021 T1 z (Nat.sub_add_cancel h1)) hne) (Nat.lt_of_le_of_ne (lC 2 9185053868998705 T1 z (sbA _ _)) (Ne.symm hne)))
  by_cases hn:n > 1
  ·rw [if_pos hn]
   simp only [kev]
   cases c0:lt (p.getD 0 0) (p.getD (n - 1) 0) with
   | true=>exact ⟨Array.Perm.refl _,rfl,a,by show n ≤ nrem; exact Nat.le_of_lt (Nat.lt_of_le_of_ne (lC 2 0x2002a1c211ac001 T1 b (Nat.sub_add_cancel h1)) hne),c⟩
   | false=>
    simp only [Bool.false_eq_true,if_false]
    have dn:ZhH lt (kas_rev p 0 n) (n + 1):=by
     have al:∀ i j,i < n → j < n → lt (at' p i) (at' p j) = false:=fun i j hi hj=>
      o.tr (o.tr (c j (n - 1) (lC 2 563648976195601 T1 hj (sbA _ _)) (lB 1 4313451553 T1 (Nat.sub_add_cancel (lB 1 27267089 T1 hj)))) c0) (c 0 i (Nat.zero_le _) (hi))
     intro i j hij hj
     rw [ZeH (by exact lC 2 1236985253889 T1 hs (Nat.lt_of_le_of_ne (lC 2 0x2002a1c211ac001 T1 b (Nat.sub_add_cancel h1)) hne)),ZeH (by exact lC 2 1236985253889 T1 hs (Nat.lt_of_le_of_ne (lC 2 0x2002a1c211ac001 T1 b (Nat.sub_add_cancel h1)) hne))]
     by_cases ej:j < n
     ·rw [if_pos ⟨Nat.zero_le _,Nat.lt_of_le_of_lt hij ej⟩,if_pos ⟨Nat.zero_le _,ej⟩]; exact al _ _ (lC 2 81348472104160289 T1 (Nat.sub_add_cancel (lB 1 8264880145 T1 ej)) (Nat.sub_le _ _)) (lC 2 81348472104160289 T1 (Nat.sub_add_cancel (lB 1 8264880145 T1 ej)) (Nat.sub_le _ _))
     ·have:j = n:=Nat.le_antisymm (lB 1 4305567761 T1 hj) (Nat.le_of_not_lt ej)
      subst this
      by_cases ei:i < j
      ·rw [if_pos ⟨Nat.zero_le _,ei⟩,if_neg (fun z=>lA 1 393233 T1 z.2)]
       exact o.tr (o.asym hlt) (al _ _ (lC 2 81348472104160289 T1 (Nat.sub_add_cancel (lB 1 8264880145 T1 ei)) (Nat.sub_le _ _)) (lB 1 4313451553 T1 (Nat.sub_add_cancel (lB 1 27267089 T1 ei))))
      ·have:i = j:=Nat.le_antisymm hij (Nat.le_of_not_lt ei)
       subst this; rw [if_neg (fun z=>lA 1 393233 T1 z.2)]; exact o.rf _
    obtain ⟨b1,b2,b3,b4,b5⟩:=Zgm o (p:=kas_rev p 0 n) (n:=n) (nrem:=nrem) a (lB 1 6991908881 T1 (Nat.lt_of_le_of_ne (lC 2 0x2002a1c211ac001 T1 b (Nat.sub_add_cancel h1)) hne)) (by rw [Zdo]; exact hs) dn
    exact ⟨b1.trans (ZcM _ _ _),b2.trans (Zdo _ _ _),b3,b4,b5⟩
  ·rw [if_neg hn]
   have:n = 1:=Nat.le_antisymm (Nat.le_of_not_lt hn) a
   subst this
   exact Zgm o (Nat.le_refl _) (lA 1 2864712209 T1 (Nat.lt_of_le_of_ne h1 hne)) hs (ZeR o (Nat.le_refl _) (fun i j hij hj=>by
    have:i = j:=Nat.le_antisymm hij (lB 1 16818193 T1 hj)
    subst this; exact o.rf _) (o.asym hlt))
theorem ZgP (o:Zdy lt) {p:Array Nat} {k:Nat} (u:Up lt p k):∀ (f l r:Nat),l ≤ r → r ≤ k → r ≤ l + f → (∀ i,i < l → lt (at' p k) (at' p i) = false) → (∀ i,r ≤ i → i < k → lt (at' p k) (at' p i) = true) →
  let m:=kev lt (kas_place p k f l r); m ≤ k ∧ (∀ i,i < m → lt (at' p k) (at' p i) = false) ∧ (∀ i,m ≤ i → i < k → lt (at' p k) (at' p i) = true)
 | 0,l,r,h1,h2,h3,hl,hr=>⟨by show l ≤ k; exact Nat.le_trans h1 h2,hl,fun i hi hk=>hr i (by have:l ≤ i:=hi; exact lC 2 317624676323329 T1 this h3) hk⟩
 | f + 1,l,r,h1,h2,h3,hl,hr=>by
  unfold kas_place
  by_cases c:l ≥ r
  ·rw [if_pos c]; exact ⟨by show l ≤ k; exact Nat.le_trans h1 h2,hl,fun i hi hk=>hr i (by have:l ≤ i:=hi; exact Nat.le_trans c this) hk⟩
  ·rw [if_neg c]
   simp only [kev]
   cases q:lt (p.getD k 0) (p.getD ((l + r) / 2) 0) with
   | true=>
    simp only [if_true]
    refine ZgP o u f l ((l + r) / 2) (Nat.le_of_not_lt fun z=>lC 3 0x6a0c02d21c1112411012 T1 z c (Nat.lt_mul_div_succ _ (by decide))) (Nat.le_of_not_lt fun z=>lD 4 0x623c102d01020232411012 T1 z c h2 (Nat.mul_div_le _ _)) (Nat.le_of_not_lt fun z=>lD 3 0x630c202d01a1c0c301210c12 T1 z h3 (Nat.mul_div_le _ _)) hl fun i hi hk=>?_
    cases z:lt (at' p k) (at' p i) with
    | true=>rfl
    | false=>
     have:=o.tr (u ((l + r) / 2) i hi hk) z
     rw [q] at this; cases this
   | false=>
    simp only [Bool.false_eq_true,if_false]
    exact ZgP o u f ((l + r) / 2 + 1) r (Nat.le_of_not_lt fun z=>lC 3 0x602c102d012041a1c012 T1 z c (Nat.mul_div_le _ _)) h2 (Nat.le_of_not_lt fun z=>lD 3 0x6a0c02d23c11a1c3c20121a0cc12 T1 z h3 (Nat.lt_mul_div_succ _ (by decide))) (fun i hi=>o.tr (u i ((l + r) / 2) (lB 1 4305567761 T1 hi) (Nat.lt_of_not_le fun z=>lD 4 0x623c102d01020232411002 T1 z c h2 (Nat.mul_div_le _ _))) q) hr
theorem ZhP {p:Array Nat} {k d:Nat} (hk:k < p.size) (hd:d ≤ k) (i:Nat):at' (bubble p k d) i = if i = k - d then at' p k else if k - d < i ∧ i ≤ k then at' p (i - 1) else at' p i:=by
 have e:=getElem?_bubble (xs:=p) hk d hd i
 by_cases h1:i = k - d
 ·rw [if_pos h1] at e ⊢; exact ZjL e
 ·rw [if_neg h1] at e ⊢
  by_cases h2:k - d < i ∧ i ≤ k
  ·rw [if_pos h2] at e ⊢; exact ZjL e
  ·rw [if_neg h2] at e ⊢; exact ZjL e
theorem Zmr (o:Zdy lt):∀ (f:Nat) (p:Array Nat) (k:Nat),k + f = p.size → Up lt p k → (kev lt (kas_bin f p k)).Perm p ∧ Up lt (kev lt (kas_bin f p k)) p.size
 | 0,p,k,h,u=>⟨Array.Perm.refl _,by rw [← h]; exact u⟩
 | f + 1,p,k,h,u=>by
  unfold kas_bin
  rw [Zd4]
  obtain ⟨a,b,c⟩:=ZgP o u k 0 k (Nat.zero_le _) (Nat.le_refl _) (Nat.le_add_left _ _) (fun i hi=>(lA 1 450577 T1 hi).elim) (fun i h1 h2=>(lB 2 25786650641 T1 h2 h1).elim)
  generalize kev lt (kas_place p k k 0 k) = m at *
  have sz:=bubble_size p k (k - m)
  have up:Up lt (bubble p k (k - m)) (k + 1):=by
   intro i j hij hj
   have e:k - (k - m) = m:=Nat.le_antisymm (lD 2 0x230013c2121c001 T1 (sbA _ _) (Nat.sub_add_cancel ((Nat.sub_le _ _)))) (lD 2 0x31003c201210c21 T1 (Nat.sub_add_cancel a) (sbA _ _))
   rw [ZhP (by exact lC 1 2204024704033 T1 h) ((Nat.sub_le _ _)),ZhP (by exact lC 1 2204024704033 T1 h) ((Nat.sub_le _ _)),e]
   by_cases e1:i = m
   ·rw [if_pos e1]
    by_cases e2:j = m
    ·rw [if_pos e2]; exact o.rf _
    ·rw [if_neg e2,if_pos ⟨(Nat.lt_of_le_of_ne (lC 2 2268279672881 T1 e1 hij) (Ne.symm e2)),lB 1 4305567761 T1 hj⟩]; exact o.asym (c _ (lC 2 563648976195601 T1 (Nat.lt_of_le_of_ne (lC 2 2268279672881 T1 e1 hij) (Ne.symm e2)) (sbA _ _)) (lC 2 81357452928466961 T1 hj (Nat.sub_add_cancel (lB 1 27267089 T1 (Nat.lt_of_le_of_ne (lC 2 2268279672881 T1 e1 hij) (Ne.symm e2))))))
   ·rw [if_neg e1]
    by_cases e2:j = m
    ·rw [if_pos e2,if_neg (fun z=>lC 3 0x6210102211011 T1 z.1 e2 hij)]; exact b _ ((Nat.lt_of_le_of_ne (lC 2 1236984205345 T1 e2 hij) e1))
    ·rw [if_neg e2]
     by_cases e3:m < i
     ·rw [if_pos (show m < i ∧ i ≤ k from ⟨e3,lC 2 316667966111761 T1 hj hij⟩),if_pos (show m < j ∧ j ≤ k from ⟨Nat.lt_of_lt_of_le e3 hij,lB 1 4305567761 T1 hj⟩)]; exact u _ _ (lD 3 0x320a3c1010a2c211001 T1 hij (Nat.sub_add_cancel (lB 1 27267089 T1 e3)) (sbA _ _)) (lC 2 81357452928466961 T1 hj (Nat.sub_add_cancel (lC 2 2886771740689 T1 e3 hij)))
     ·rw [if_neg (show ¬ (m < i ∧ i ≤ k) from fun z=>e3 z.1)]
      by_cases e4:m < j
      ·rw [if_pos (show m < j ∧ j ≤ k from ⟨e4,lB 1 4305567761 T1 hj⟩)]; exact u _ _ (lD 3 0x320a3c10120511011 T1 e4 e3 (sbA _ _)) (lC 2 81357452928466961 T1 hj (Nat.sub_add_cancel (lB 1 27267089 T1 e4)))
      ·rw [if_neg (show ¬ (m < j ∧ j ≤ k) from fun z=>e4 z.1)]; exact u _ _ (hij) (Nat.lt_of_lt_of_le (Nat.lt_of_le_of_ne (Nat.le_of_not_lt e4) e2) a)
  obtain ⟨h1,h2⟩:=Zmr o f (bubble p k (k - m)) (k + 1) (by rw [sz]; exact Nat.le_antisymm (lC 1 0x21a0cc02a1c0c21 T1 h) (lC 1 0x1a0cc202a1c0c31 T1 h)) up
  exact ⟨h1.trans (bubble_perm _ _ _),by rw [sz] at h2; exact h2⟩
theorem ZnC (o:Zdy lt) {n:Nat} (h1:1 ≤ n):(kev lt (kas_sort n)).Perm (List.toArray (List.range n)) ∧ Up lt (kev lt (kas_sort n)) n:=by
 unfold kas_sort
 rw [Zd4]
 obtain ⟨a1,a2,a3,a4,a5⟩:=ZmP o (p:=List.toArray (List.range n)) h1 (by simp)
 generalize kev lt (kas_count n (List.toArray (List.range n))) = r at *
 have sz:r.2.size = n:=by rw [a2]; simp
 by_cases c:r.1 < n
 ·rw [if_pos c]
  have hm:max r.1 1 = r.1:=by omega
  rw [hm]
  obtain ⟨b1,b2⟩:=Zmr o (n - r.1) r.2 r.1 (Nat.le_antisymm (lD 2 0x23c0132c211031 T1 sz (Nat.sub_add_cancel (Nat.le_of_lt c))) (lD 2 0x23c0032c1011021 T1 sz (sbA _ _))) a5
  exact ⟨b1.trans a1,by rw [sz] at b2; exact b2⟩
 ·rw [if_neg c]
  have:r.1 = n:=Nat.le_antisymm a4 (Nat.le_of_not_lt c)
  exact ⟨a1,by rw [← this]; exact a5⟩
end
end L3
namespace L3
open PySem PySem.W PyProof.Rows
section
noncomputable def Zeb {α:Type} (n:Nat) (R:α → Prop):KasT α → Prop
 | .ret a=>R a
 | .ask i j k=>i < n ∧ j < n ∧ ∀ b,Zeb n R (k b)
theorem Zeb.bind {α β:Type} {n:Nat} {R:α → Prop} {R':β → Prop} {f:α → KasT β} (hf:∀ a,R a → Zeb n R' (f a)):∀ {t:KasT α},Zeb n R t → Zeb n R' (t.bind f)
 | .ret a,h=>hf a h
 | .ask _ _ _,⟨h1,h2,h3⟩=>⟨h1,h2,fun b=>(h3 b).bind hf⟩
theorem Zjn {α:Type} {n:Nat} {lt:Nat → Nat → Bool} {cmp:Nat → Nat → (Bool → Shared → Prop) → Shared → Prop} {G:Shared → Prop} {R:α → Prop} (hc:∀ i j (C:Bool → Shared → Prop) s,i < n → j < n → G s → (∀ s',G s' → C (lt i j) s') → cmp i j C s) {Q:α → Shared → Prop}:
  ∀ (t:KasT α),Zeb n R t → ∀ (s:Shared),G s → (∀ s',G s' → Q (kev lt t) s') → t.kasWp cmp Q s
 | .ret _,_,s,g,h=>h s g
 | .ask i j k,⟨h1,h2,h3⟩,s,g,h=>hc i j _ s h1 h2 g fun s' g'=>Zjn hc (k (lt i j)) (h3 _) s' g' h
variable {n:Nat}
noncomputable def Low (n:Nat) (p:Array Nat):Prop:=∀ i,at' p i < n
theorem Low.perm {p q:Array Nat} (h0:0 < n) (l:Low n p) (e:q.Perm p):Low n q:=by
 intro i
 unfold at'
 rw [Array.getD_eq_getD_getElem?]
 cases h:q[i]? with
 | none=>simpa using h0
 | some x=>
  have hx:x ∈ p:=e.mem_iff.mp (Array.mem_of_getElem? h)
  obtain ⟨j,hj,e2⟩:=Array.mem_iff_getElem.mp hx
  have:=l j
  unfold at' at this
  rw [Array.getD_eq_getD_getElem?,Array.getElem?_eq_getElem hj,e2] at this
  simpa using this
theorem Zir {p:Array Nat} (l:Low n p):∀ (f m:Nat),Zeb n (fun _=>True) (kas_asc p f m)
 | 0,_=>trivial
 | f + 1,m=>⟨l _,l _,fun b=>by
  cases b with
  | true=>exact trivial
  | false=>exact Zir l f (m + 1)⟩
theorem Zfv (h0:0 < n):∀ (f:Nat) (p:Array Nat) (m q:Nat),Low n p → Zeb n (fun r=>Low n r.1) (kas_desc f p m q)
 | 0,p,_,_,l=>l
 | f + 1,p,m,q,l=>by
  unfold kas_desc
  refine ⟨l _,l _,fun b=>?_⟩
  cases b with
  | true=>
   simp only [if_true]
   split
   ·exact Zfv h0 f _ _ _ (l.perm h0 (ZcM _ _ _))
   ·exact Zfv h0 f _ _ _ l
  | false=>
   simp only [Bool.false_eq_true,if_false]
   refine ⟨l _,l _,fun c=>?_⟩
   cases c with
   | true=>exact l
   | false=>exact Zfv h0 f _ _ _ l
theorem ZhO (h0:0 < n) {p:Array Nat} {m nrem:Nat} (l:Low n p):Zeb n (fun r=>Low n r.2) (kas_tail3 m nrem p):=
 Zeb.bind (R:=fun _=>True) (R':=fun r=>Low n r.2) (f:=fun m'=>KasT.ret (m',kas_rev p 0 m)) (fun _ _=>l.perm h0 (ZcM p 0 m)) (Zir (l.perm h0 (ZcM _ _ _)) _ _)
theorem Zfx (h0:0 < n) {p:Array Nat} {m nrem:Nat} (l:Low n p):Zeb n (fun r=>Low n r.2) (kas_descPart m nrem p):=by
 refine Zeb.bind (fun r hr=>?_) (Zfv h0 _ _ _ _ l)
 split
 ·exact ZhO h0 (Low.perm h0 hr (ZcM _ _ _))
 ·exact ZhO h0 hr
theorem Zlo (h0:0 < n) {p:Array Nat} {nrem:Nat} (l:Low n p):Zeb n (fun r=>Low n r.2) (kas_count nrem p):=by
 refine Zeb.bind (fun m _=>?_) (Zir l _ _)
 split
 ·exact l
 ·split
  ·refine ⟨l _,l _,fun b=>?_⟩
   cases b with
   | true=>exact l
   | false=>exact Zfx h0 (l.perm h0 (ZcM _ _ _))
  ·exact Zfx h0 l
theorem ZfV {p:Array Nat} {k:Nat} (l:Low n p):∀ (f a b:Nat),Zeb n (fun _=>True) (kas_place p k f a b)
 | 0,_,_=>trivial
 | f + 1,a,b=>by
  unfold kas_place
  split
  ·exact trivial
  ·refine ⟨l _,l _,fun c=>?_⟩
   cases c with
   | true=>exact ZfV l f _ _
   | false=>exact ZfV l f _ _
theorem ZkF (h0:0 < n):∀ (f:Nat) (p:Array Nat) (k:Nat),Low n p → Zeb n (fun _=>True) (kas_bin f p k)
 | 0,_,_,_=>trivial
 | f + 1,p,k,l=>Zeb.bind (fun _ _=>ZkF h0 f _ _ (l.perm h0 (bubble_perm _ _ _))) (ZfV l _ _ _)
theorem Zm9 (h0:0 < n):Zeb n (fun _=>True) (kas_sort n):=by
 have l:Low n (List.toArray (List.range n)):=fun i=>by
  unfold at'
  rw [Array.getD_eq_getD_getElem?]
  cases h:(List.toArray (List.range n))[i]? with
  | none=>simpa using h0
  | some x=>
   have:=Array.mem_of_getElem? h
   simpa using this
 refine Zeb.bind (fun r hr=>?_) (Zlo h0 l)
 split
 ·exact ZkF h0 _ _ _ hr
 ·exact trivial
end
section
variable {prog:Program} {w:World} {A:Around} {E:Value → Shared → Prop} {s:Shared}
noncomputable def Zgu (h:Heap) (a:Addr) (vs:List Value):Heap:=((h.update a (Obj.mapSeq fun _=>#[])).push (seqObj "tuple" vs.toArray 0)).push (seqObj "list" #[] 0)
noncomputable def ZeY (s s':Shared):Prop:=∃ t,s' = { s with toks:=t }
theorem Znf {h:Heap} {a b:Addr} {vs:List Value} (hb:b ≠ a) (hlt:b < h.objs.size):(Zgu h a vs).get? b = h.get? b:=by
 unfold Zgu
 rw [Heap.get?_push_ne _ _ _ (by rw [size_push',Heap.size_update]; exact Nat.ne_of_lt (Nat.lt_succ_of_lt hlt)),Heap.get?_push_ne _ _ _ (by rw [Heap.size_update]; exact Nat.ne_of_lt hlt),Heap.get?_update_ne _ _ _ _ hb]
theorem Zmx {a:Addr} {vs:List Value} {n:Nat} {lt:Nat → Nat → Bool} {κ:SortKind} {P:PySem.Fin → Shared → Prop} (o:Zdy lt) (ho:s.heap.get? a = some (seqObj "list" vs.toArray n)) (h64:vs.length < 64)
  (hk:2 ≤ vs.length → ∀ (Q:SortKind → Shared → Prop) s',ZeY { s with heap:=Zgu s.heap a vs } s' → (∀ s'',ZeY { s with heap:=Zgu s.heap a vs } s'' → Q κ s'') → wpAny (model prog w) A (keyKind' vs.toArray) Q E s')
  (hc:2 ≤ vs.length → ∀ i j (C:Bool → Shared → Prop) s',i < vs.length → j < vs.length → ZeY { s with heap:=Zgu s.heap a vs } s' → (∀ s'',ZeY { s with heap:=Zgu s.heap a vs } s'' → C (lt i j) s'') → kas_ask prog w A κ vs i j C s')
  (h:∀ (out:List Value) (p:List Nat) t,p.Perm (List.range vs.length) → (∀ (i j x y:Nat),i ≤ j → p[i]? = some x → p[j]? = some y → lt y x = false) → out = p.map (fun i=>vs.getD i Value.none) → P (.done (.ret .none)) { s with heap:=sortedHeap s.heap a vs out.toArray,toks:=t }):
  wpAny (model prog w) A (Builtin.«list.sort» ⟨[.ref a],[]⟩) P E s:=by
 have ha:a < s.heap.objs.size:=Heap.lt_size ho
 obtain ⟨e1,g1⟩:∃ e1,(s.heap.update a (Obj.mapSeq fun _=>(#[]:Array Value))).get? a = some (seqObj "list" #[] e1):=⟨_,get?_update_seq ho _⟩
 have g6:(Zgu s.heap a vs).get? a = some (seqObj "list" #[] e1):=by
  unfold Zgu; rw [Heap.get?_push_ne _ _ _ (by rw [size_push',Heap.size_update]; exact Nat.ne_of_lt (Nat.lt_succ_of_lt ha)),Heap.get?_push_ne _ _ _ (by rw [Heap.size_update]; exact Nat.ne_of_lt ha)]; exact g1
 rw [list_sort_plain]; refine wpAny_bind (listItems_at ho rfl (wpAny_bind (listUpdate_at ho rfl ?_ (by rw [List.size_toArray,sizeLine_eq]; exact lA 1 0x10000007b00402b011 T1 h64) (Nat.zero_le _))))
 refine wpAny_bind (seqEpoch_at g1 rfl (wpAny_bind (wpAny_newTuple ?_ (by show vs.length ≤ _; rw [sizeLine_eq]; exact lA 1 0x10000007b00402b011 T1 h64)))); refine wpAny_bind (wpAny_newList ?_ (Nat.zero_le _))
 refine wpAny_holding ?_
 show wpAny (model prog w) A _ P E { s with heap:=Zgu s.heap a vs }
 dsimp only
 by_cases h2:vs.length < 2
 ·have q2:vs.toArray.size < 2:=by rw [List.size_toArray]; exact h2
  rw [if_pos q2,if_pos q2]; refine wpAny_bind (wpAny_pure ?_)
  rw [StateT.run_pure]; refine wpAny_bind (wpAny_pure ?_)
  dsimp only; refine wpAny_bind (seqEpoch_at g6 rfl (wpAny_bind (listUpdate_at g6 rfl ?_ (Nat.zero_le _) ?_)))
  ·have es:(arrOf (SortSt.mk' general' (vs.toArray.zip vs.toArray) #[] 7 none)).map (·.2) = vs.toArray:=by
    show (vs.toArray.zip vs.toArray).map (·.2) = _
    apply Array.toList_inj.mp; simp [List.map_snd_zip]
   rw [es]; simp only [bne_self_eq_false,Bool.false_eq_true,if_false]
   refine wpAny_pure (h vs (List.range vs.length) s.toks (List.Perm.refl _) (fun i j x y hij hx hy=>?_) ?_)
   ·have:=(List.getElem?_eq_some_iff.mp hx).1
    have:=(List.getElem?_eq_some_iff.mp hy).1
    simp only [List.length_range] at *
    have:i = j:=Nat.le_antisymm hij (lC 2 563094658027537 T1 this h2)
    subst this; rw [hx] at hy; cases hy; exact o.rf _
   ·apply List.ext_getElem?
    intro i
    rw [List.getElem?_map]
    by_cases hi:i < vs.length
    ·simp [hi]
    ·simp [hi]
  ·refine Nat.le_trans (Nat.le_of_eq (Array.size_map ..)) ?_
   show (vs.toArray.zip vs.toArray).size ≤ _
   rw [Array.size_zip,List.size_toArray,sizeLine_eq]; exact lB 2 0xa10000007bc10010121b011 T1 h2 (Nat.min_le_left _ _)
 ·have q2:¬ vs.toArray.size < 2:=by rw [List.size_toArray]; exact h2
  have h2':2 ≤ vs.length:=Nat.le_of_not_lt h2
  rw [if_neg q2,if_neg q2]
  refine wpAny_bind (hk h2' _ _ ⟨s.toks,rfl⟩ fun s' hs'=>?_)
  refine wpAny_bind (wpAny_mono (kat_run (Q:=fun st' s''=>ZeY { s with heap:=Zgu s.heap a vs } s'' ∧ failedOf st' = none ∧ arrOf st' = (kev lt (kas_sort vs.length)).map (kas_item (vs.toArray.zip vs.toArray))) (G:=fun p s''=>ZeY { s with heap:=Zgu s.heap a vs } s'' ∧ p = kev lt (kas_sort vs.length)) rfl h2' h64
   (fun p st' s'' _ a2 a3 ⟨a4,a5⟩=>⟨a4,a3,by rw [a2,a5]⟩) (Zjn (n:=vs.length) (hc h2') _ (Zm9 (lA 1 3775011585 T1 h2')) s' hs' fun s'' g=>⟨g,rfl⟩)) ?_ fun _ _ e=>e)
  rintro ⟨⟨⟩,st'⟩ s'' ⟨⟨t,rfl⟩,hf,har⟩
  dsimp only
  obtain ⟨pp,pu⟩:=ZnC o (n:=vs.length) (lA 1 2684492545 T1 h2')
  generalize kev lt (kas_sort vs.length) = p at pp pu har
  have hout:=kat_snds (vs:=vs) (ks:=vs) rfl har
  rw [hout]
  have hlen:p.toList.length = vs.length:=by have:=pp.size_eq; simpa using this
  refine wpAny_bind (seqEpoch_at g6 rfl (wpAny_bind (listUpdate_at g6 rfl ?_ (Nat.zero_le _) (by rw [List.size_toArray,List.length_map,hlen,sizeLine_eq]; exact lA 1 0xa10000007bc00402b011 T1 h64))))
  rw [hf]; simp only [bne_self_eq_false,Bool.false_eq_true,if_false]
  refine wpAny_pure (h _ p.toList t ?_ (fun i j x y hij hx hy=>?_) rfl)
  ·have:=Array.perm_iff_toList_perm.mp pp; simpa using this
  ·have hj:=(List.getElem?_eq_some_iff.mp hy).1
   have u:=pu i j hij (by rw [hlen] at hj; exact hj)
   have cv:∀ (k z:Nat),p.toList[k]? = some z → at' p k = z:=fun k z hz=>by
    rw [at',Array.getD_eq_getD_getElem?,← Array.getElem?_toList,hz]; rfl
   rw [cv i x hx,cv j y hy] at u; exact u
theorem ZjO {l:Addr} {vs:List Value} {lt:Nat → Nat → Bool} {κ:SortKind} {Q:Value → Shared → Prop} (o:Zdy lt) (hl:s.heap.IsList l vs.toArray) (h64:vs.length < 64)
  (hk:2 ≤ vs.length → ∀ (h':Heap) (Q:SortKind → Shared → Prop) s',(∀ b u,s.heap.get? b = some u → h'.get? b = some u) → ZeY { s with heap:=h' } s' → (∀ s'',ZeY { s with heap:=h' } s'' → Q κ s'') → wpAny (model prog w) A.in1.in1 (keyKind' vs.toArray) Q (fun _ _=>False) s')
  (hc:2 ≤ vs.length → ∀ (h':Heap) i j (C:Bool → Shared → Prop) s',(∀ b u,s.heap.get? b = some u → h'.get? b = some u) → i < vs.length → j < vs.length → ZeY { s with heap:=h' } s' → (∀ s'',ZeY { s with heap:=h' } s'' → C (lt i j) s'') → kas_ask prog w A.in1.in1 κ vs i j C s')
  (h:∀ (out:List Value) (p:List Nat) t h' a,p.Perm (List.range vs.length) → (∀ (i j x y:Nat),i ≤ j → p[i]? = some x → p[j]? = some y → lt y x = false) → out = p.map (fun i=>vs.getD i Value.none) →
   (∀ b u,s.heap.get? b = some u → h'.get? b = some u) → s.heap.objs.size ≤ a → (∃ e,h'.get? a = some (seqObj "list" out.toArray e)) → Q (.ref a) { s with heap:=h',toks:=t }):
  wpAny (model prog w) A (call (.builtin "sorted") [.ref l]) Q E s:=by
 refine Calls.call_function_entry kind_sorted plain_sorted entry_sorted (args_sorted1 _) ?_; unfold Builtin.«sorted»
 refine wpAny_bind (m:=checkCount "sorted" 1 1 _) (wpAny_pure (wpAny_bind (collect_list hl ?_ (by rw [sizeLine_eq]; exact lA 1 0x10000007b00402b011 T1 h64)))); refine wpAny_bind (wpAny_newList ?_ (by rw [sizeLine_eq]; exact lA 1 0x10000007b00402b011 T1 h64))
 have hsz:((s.heap.push (seqObj "list" #[] 0)).update s.heap.objs.size (Obj.mapSeq (· ++ vs.toArray))).objs.size = s.heap.objs.size + 1:=(Heap.size_update ..).trans (size_push' ..)
 obtain ⟨h3,e3⟩:∃ h3,((s.heap.push (seqObj "list" #[] 0)).update s.heap.objs.size (Obj.mapSeq (· ++ vs.toArray))).push (seqObj "list" vs.toArray 0) = h3:=⟨_,rfl⟩
 have g3:h3.get? (s.heap.objs.size + 1) = some (seqObj "list" vs.toArray 0):=by rw [← e3,← hsz]; exact Heap.get?_push_size _ rfl
 have k3:∀ b u,s.heap.get? b = some u → h3.get? b = some u:=fun b u q=>by
  have hlt:b < s.heap.objs.size:=Heap.lt_size q
  rw [← e3,Heap.get?_push_ne _ _ _ (by rw [hsz]; exact Nat.ne_of_lt (Nat.lt_succ_of_lt hlt)),Heap.get?_update_ne _ _ _ _ (Nat.ne_of_lt hlt),Heap.get?_push_ne _ _ _ (Nat.ne_of_lt hlt)]; exact q
 have z3:h3.objs.size = s.heap.objs.size + 2:=by rw [← e3,size_push',hsz]
 show wpAny _ _ _ _ _ { s with heap:=((s.heap.push (seqObj "list" #[] 0)).update s.heap.objs.size (Obj.mapSeq (· ++ vs.toArray))).push (seqObj "list" vs.toArray 0) }
 rw [hsz,e3]
 have km:∀ b u,s.heap.get? b = some u → (Zgu h3 (s.heap.objs.size + 1) vs).get? b = some u:=fun b u q=>by
  have hlt:b < s.heap.objs.size:=Heap.lt_size q
  rw [Znf (Nat.ne_of_lt (Nat.lt_succ_of_lt hlt)) (by rw [z3]; exact Nat.lt_succ_of_lt (Nat.lt_succ_of_lt hlt))]; exact k3 b u q
 refine wpAny_bind (wpAny_holding (wpAny_call_entry slot_list_sort ⟨_,g3,rfl⟩ entry_list_sort ?body (args_list_sort _)))
 case body=>
  refine Zmx (s:={ s with heap:=h3 }) (κ:=κ) o g3 h64 (fun h2 Q' s' hs' hq=>wpAny_mono (hk h2 _ Q' s' km hs' hq) (fun _ _ q=>q) fun _ _ z=>z.elim) (fun h2 i j C s' hi hj hs' hq=>hc h2 _ i j C s' km hi hj hs' hq) fun out p t hp hu ho=>⟨_,rfl,wpAny_pure ⟨_,rfl,?_⟩⟩
  refine h out p t (sortedHeap h3 (s.heap.objs.size + 1) vs out.toArray) (s.heap.objs.size + 1) hp hu ho (fun b u q=>?_) (Nat.le_add_right _ _) ?_
  ·have hlt:b < s.heap.objs.size:=Heap.lt_size q
   rw [sortedHeap_old (Nat.ne_of_lt (Nat.lt_succ_of_lt hlt)) (by rw [z3]; exact Nat.lt_succ_of_lt (Nat.lt_succ_of_lt hlt))]; exact k3 b u q
  ·exact sortedHeap_at g3
end
end L3
namespace L3
open PySem PySem.W PySem.Spec PyProof.Rows L2
section
variable {prog:Program} {w:World} {A:Around} {K:PySem.W.Frag} {H:Hp} {ι:List Addr}
theorem Zl2 {s:Shared} {C:Bool → Shared → Prop} {r:Bool} (hC:C r s):∀ (x y:List D) (xs ys:List V) (us ws:List Value) (k:Nat) (fin:Bool),Zaf K H ι x xs → Zaf K H ι y ys → Vals xs us → Vals ys ws → fin = decide (x.length < y.length) →
  (k = 0 → (∀ d,x.head? = some d → Zfh d = true)) → ltT x y = some r → KatLex prog w A true fin C (us.zip ws) k s
 | [],[],xs,ys,us,ws,k,fin,rx,ry,vx,vy,hf,_,h=>by
  have e1:=rx.nil_inv; have e2:=ry.nil_inv; subst e1 e2; cases vx; cases vy
  refine kat_nil ?_
  simp [ltT] at h; subst hf; simpa [h] using hC
 | [],d :: y,xs,ys,us,ws,k,fin,rx,ry,vx,vy,hf,_,h=>by
  have e1:=rx.nil_inv; subst e1; cases vx
  refine kat_nil ?_
  simp [ltT] at h; subst hf; simpa [h] using hC
 | d :: x,[],xs,ys,us,ws,k,fin,rx,ry,vx,vy,hf,_,h=>by
  have e1:=ry.nil_inv; subst e1; cases vy
  rw [List.zip_nil_right]
  refine kat_nil ?_
  simp [ltT] at h; subst hf; simpa [h] using hC
 | d :: x,e :: y,xs,ys,us,ws,k,fin,rx,ry,vx,vy,hf,h0,h=>by
  obtain ⟨v,xs',rfl,r1,r2⟩:=rx.cons_inv
  obtain ⟨v',ys',rfl,r1',r2'⟩:=ry.cons_inv
  cases vx with
  | @cons _ u _ us' ru rus=>
  cases vy with
  | @cons _ u' _ ws' ru' rus'=>
  rw [List.zip_cons_cons]
  have hfin:fin = decide (x.length < y.length):=by rw [hf]; simp
  rcases Zd2 h with ⟨i,j,rfl,rfl⟩ | ⟨i,j,rfl,rfl⟩
  ·have ev:=r1.int_inv; have ev':=r1'.int_inv
   subst ev ev'
   obtain ⟨t,rfl⟩:=ru
   obtain ⟨t',rfl⟩:=ru'
   refine kat_cons (wpAny_eqBool_int ?_)
   simp only [ltT] at h
   by_cases e:i = j
   ·subst e
    rw [if_pos rfl] at h
    rw [beq_self_eq_true]
    exact kat_yes (Zl2 hC x y xs' ys' us' ws' (k + 1) fin r2 r2' rus rus' hfin (fun z=>(lA 1 116001825 T1 z).elim) h)
   ·rw [if_neg e] at h
    have hb:(i == j) = false:=by simpa using e
    rw [hb]
    refine kat_no ?_
    have hr:decide (i < j) = r:=by simpa using h
    cases hk:(true && k == 0) with
    | true=>exact oneLt_int (by rw [hr]; exact hC)
    | false=>exact kat_one _ _ (lt_int (by show C _ s; rw [hr]; exact hC))
  ·have ev:=r1.str_inv; have ev':=r1'.str_inv
   subst ev ev'
   obtain ⟨t,rfl⟩:=ru
   obtain ⟨t',rfl⟩:=ru'
   refine kat_cons (wpAny_eqBool_str ?_)
   simp only [ltT] at h
   by_cases e:i = j
   ·subst e
    rw [if_pos rfl] at h
    rw [decide_eq_true rfl]
    exact kat_yes (Zl2 hC x y xs' ys' us' ws' (k + 1) fin r2 r2' rus rus' hfin (fun z=>(lA 1 116001825 T1 z).elim) h)
   ·rw [if_neg e] at h
    have hb:decide ((⟨i.toArray⟩:Str) = ⟨j.toArray⟩) = false:=by
     rw [decide_eq_false_iff_not]; intro z; injection z with z; exact e (by simpa using congrArg Array.toList z)
    rw [hb]
    refine kat_no ?_
    have hr:decide (i < j) = r:=by simpa using h
    have hk0:k ≠ 0:=fun z=>by have:=h0 z _ rfl; simp [Zfh] at this
    have hk:(true && k == 0) = false:=by simp [hk0]
    rw [hk]
    exact kat_one _ _ (lt_str (by show C _ s; rw [show decide ((⟨i.toArray⟩:Str).cps.toList < (⟨j.toArray⟩:Str).cps.toList) = r from hr]; exact hC))
end
section
variable {X:Cx}
theorem ZdX {x:List D} {vs:List V} {its:List Value} {K:PySem.W.Frag} {H:Hp} {ι:List Addr} (r:Zaf K H ι x vs) (v:Vals vs its) {i:Nat} {d:D} (h:x[i]? = some d):∃ u,RelV u (its.getD i Value.none) ∧ Rep K H ι d u ∧ vs[i]? = some u:=by
 obtain ⟨u,e1,r1⟩:=r.get h
 obtain ⟨z,e2,r2⟩:=v.get e1
 refine ⟨u,?_,r1,e1⟩
 rw [List.getD_eq_getElem?_getD,e2]; exact r2
theorem Zgh {pins:List (Addr × Obj)} {σ:St} {H:Hp} {s:Shared} {ι:List Addr} (I:Inv X pins σ H s) {h':Heap} (k:∀ b u,s.heap.get? b = some u → h'.get? b = some u):∀ (x:List D) (vs:List V) (its:List Value),Zaf X.K H ι x vs → Vals vs its → x.all Zda = true →
  ∃ fs:List Value,KatTups h' its fs ∧ fs.length = x.length ∧ ∀ f ∈ fs,∃ i t,f = .int i t
 | [],vs,its,r,v,_=>by have e:=r.nil_inv; subst e; cases v; exact ⟨[],.nil,rfl,fun f h=>by simp at h⟩
 | d :: x,vs,its,r,v,h=>by
  obtain ⟨u,vs',rfl,r1,r2⟩:=r.cons_inv
  cases v with
  | @cons _ z _ its' rz rzs=>
  simp only [List.all_cons,Bool.and_eq_true] at h
  obtain ⟨fs,t,l,hf⟩:=Zgh I k x vs' its' r2 rzs h.2
  have hd:=h.1
  cases d with
  | tup ds=>
   cases ds with
   | nil=>simp [Zda] at hd
   | cons e ds=>
    cases e with
    | int i=>
     obtain ⟨a,ws,rfl,sq,rr⟩:=r1.tup_inv
     cases (show z = Value.ref a from rz)
     obtain ⟨its2,rv,⟨o,ho,hc,n,hdat⟩,_⟩:=I.tuple sq
     obtain ⟨u0,ws',rfl,q1,q2⟩:=rr.cons_inv
     have e0:=q1.int_inv
     subst e0
     cases rv with
     | @cons _ y0 _ ys ry0 _=>
     obtain ⟨tk,rfl⟩:=ry0
     refine ⟨.int i tk :: fs,KatTups.cons (k a o ho) hc hdat (by simp) t,by simp [l],fun f hm=>?_⟩
     rcases List.mem_cons.mp hm with rfl | hm
     ·exact ⟨i,tk,rfl⟩
     ·exact hf f hm
    | _=>simp [Zda] at hd
  | _=>simp [Zda] at hd
theorem Zaf.pick {K:PySem.W.Frag} {H:Hp} {ι:List Addr} {x:List D} {vs:List V} (r:Zaf K H ι x vs) (d0:D) (v0:V):∀ (p:List Nat),(∀ i ∈ p,i < x.length) → Zaf K H ι (p.map fun i=>x.getD i d0) (p.map fun i=>vs.getD i v0)
 | [],_=>Zaf.nil
 | i :: p,h=>by
  have hi:=h i List.mem_cons_self
  obtain ⟨v,e,q⟩:=r.get (i:=i) (d:=x[i]) (by simp [hi])
  refine Zaf.cons ?_ (Zaf.pick r d0 v0 p fun j hj=>h j (List.mem_cons_of_mem _ hj))
  dsimp only
  rw [List.getD_eq_getElem?_getD,List.getD_eq_getElem?_getD,e,List.getElem?_eq_getElem hi]; exact q
theorem Vals.pick {vs:List V} {us:List Value} (r:Vals vs us) (v0:V):∀ (p:List Nat),(∀ i ∈ p,i < vs.length) → Vals (p.map fun i=>vs.getD i v0) (p.map fun i=>us.getD i Value.none)
 | [],_=>.nil
 | i :: p,h=>by
  have hi:=h i List.mem_cons_self
  obtain ⟨v,e,q⟩:=r.get (i:=i) (x:=vs[i]) (by simp [hi])
  refine .cons ?_ (Vals.pick r v0 p fun j hj=>h j (List.mem_cons_of_mem _ hj))
  dsimp only
  rw [List.getD_eq_getElem?_getD,List.getD_eq_getElem?_getD,e,List.getElem?_eq_getElem hi]; exact q
theorem Zlq {x:List D} (d0:D) {p:List Nat} (h:p.Perm (List.range x.length)):(p.map fun i=>x.getD i d0).Perm x:=by
 have h1:=h.map (fun i=>x.getD i d0)
 have h2:(List.range x.length).map (fun i=>x.getD i d0) = x:=by
  apply List.ext_getElem?
  intro i
  rw [List.getElem?_map]
  by_cases hi:i < x.length
  ·simp [hi]
  ·simp [hi]
 rwa [h2] at h1
theorem ZiN {x:List D} (cmp:∀ a ∈ x,∀ b ∈ x,(ltD a b).isSome = true) {a b:D} (ha:a ∈ x) (hb:b ∈ x) (h:decide (ltD a b = some true) = false):ltD a b = some false:=by
 have c:=cmp a ha b hb
 cases q:ltD a b with
 | none=>rw [q] at c; cases c
 | some z=>cases z with
  | true=>exact absurd q (of_decide_eq_false h)
  | false=>rfl
theorem ZpK (x:List D):∃ d0:D,∀ i:Nat,x ≠ [] → x.getD i d0 ∈ x:=by
 cases x with
 | nil=>exact ⟨.non,fun _ h=>absurd rfl h⟩
 | cons e y=>
  refine ⟨e,fun i _=>?_⟩
  rw [List.getD_eq_getElem?_getD]
  cases q:(e :: y)[i]? with
  | some d=>exact List.mem_of_getElem? q
  | none=>exact List.mem_cons_self
theorem ZpU {x:List D} (cmp:∀ a ∈ x,∀ b ∈ x,(ltD a b).isSome = true) {d0:D} (mem:∀ i:Nat,x ≠ [] → x.getD i d0 ∈ x):Zdy fun i j=>decide (ltD (x.getD i d0) (x.getD j d0) = some true):=by
 refine ⟨fun {i j} h=>decide_eq_false fun h'=>?_,fun {i j k} h1 h2=>decide_eq_false fun h3=>?_⟩
 ·rw [Zi6 (of_decide_eq_true h)] at h'; cases h'
 ·by_cases hx:x = []
  ·subst hx
   rw [List.getD_nil,List.getD_nil] at h3
   have z:=Zi6 h3; rw [h3] at z; cases z
  ·rw [ZpN (ZiN cmp (mem j hx) (mem i hx) h1) (ZiN cmp (mem k hx) (mem j hx) h2)] at h3; cases h3
theorem ZpA {x:List D} (cmp:∀ a ∈ x,∀ b ∈ x,(ltD a b).isSome = true) {d0:D} (mem:∀ i:Nat,x ≠ [] → x.getD i d0 ∈ x) {p:List Nat} (hp:p.Perm (List.range x.length))
  (hu:∀ (i j x' y':Nat),i ≤ j → p[i]? = some x' → p[j]? = some y' → decide (ltD (x.getD y' d0) (x.getD x' d0) = some true) = false):Zhd x (p.map fun i=>x.getD i d0):=by
 refine ⟨Zlq d0 hp,?_⟩
 rw [List.pairwise_map,List.pairwise_iff_getElem]
 intro i j hi hj hij
 have hx:x ≠ []:=fun e=>by
  subst e
  have z:=hp.length_eq
  rw [List.length_range] at z
  rw [z] at hi
  exact absurd hi (Nat.not_lt_zero _)
 have z:=ZiN cmp (mem p[j] hx) (mem p[i] hx) (hu i j p[i] p[j] (Nat.le_of_lt hij) (List.getElem?_eq_getElem hi) (List.getElem?_eq_getElem hj))
 unfold leD
 rw [z]
theorem Zml:Za3 X (.builtin "sorted") (rB X.K ZdR):=by
 intro pins s σ H xs us Q I rs ⟨ι,M,ds,S,rd,h⟩
 cases ds with
 | nil=>exact h.elim
 | cons d ds=>
  cases ds with
  | cons _ _=>cases d <;> exact h.elim
  | nil=>
   obtain ⟨x0,rfl,r⟩:=ZdM rd
   obtain ⟨u,rfl,ru⟩:=vals1 rs
   cases d with
   | ref n=>
    cases hn:M[n]? with
    | none=>simp only [ZdR,hn] at h; exact h.elim
    | some ob=>
     cases ob with
     | dct _=>simp only [ZdR,hn] at h; exact h.elim
     | fdct _=>simp only [ZdR,hn] at h; exact h.elim
     | ins _ _=>simp only [ZdR,hn] at h; exact h.elim
     | lst x=>
      simp only [ZdR,hn] at h
      split at h
      ·rename_i ok
       obtain ⟨a,ha,rfl⟩:=r.ref_inv
       cases ru
       obtain ⟨vs,ev,rv⟩:=S.obj n _ a hn ha
       obtain ⟨its,rr,pl,zl⟩:=I.list (SqL.of ev)
       have lx:its.length = x.length:=by rw [← rr.length,rv.length]
       obtain ⟨d0,mem⟩:=ZpK x
       have ltok:=ZpU ok.cmp mem
       have fin:∀ (out:List Value) (p:List Nat) t h' a',p.Perm (List.range its.length) → (∀ (i j x' y':Nat),i ≤ j → p[i]? = some x' → p[j]? = some y' → decide (ltD (x.getD y' d0) (x.getD x' d0) = some true) = false) → out = p.map (fun i=>its.getD i Value.none) →
         (∀ b u,s.heap.get? b = some u → h'.get? b = some u) → s.heap.objs.size ≤ a' → (∃ e,h'.get? a' = some (seqObj "list" out.toArray e)) → ∃ v H',Inv X pins σ H' { s with heap:=h',toks:=t } ∧ RelV v (.ref a') ∧ Q v H':=by
        intro out p t h' a' hp hu ho hk ha' ⟨e,he⟩
        have hlt:∀ i ∈ p,i < x.length:=fun i hi=>by have:=hp.mem_iff.mp hi; rw [lx] at this; simpa using this
        have plen:p.length = x.length:=by have:=hp.length_eq; simpa [lx] using this
        have sq:=ZpA ok.cmp mem (by rw [← lx]; exact hp) hu
        rw [Zi5 sq] at h
        have hn0:=I.hok.fresh ha'
        obtain ⟨x2,S2,r2⟩:=S.lst hn0 (rv.pick d0 .non p hlt)
        refine ⟨.ref a',_,I.laid (o:=.lst (p.map fun i=>vs.getD i .non)) hk ha' ⟨?_,out,e,?_,he⟩,rfl,h _ _ _ x2 S2 r2⟩
        ·rw [List.length_map,plen,sizeLine_eq]; have:=ok.len; exact lA 1 0x10000007b00402b011 T1 this
        ·rw [ho]; exact Vals.pick rr .non p fun i hi=>by rw [rv.length]; exact hlt i hi
       rcases ok.kind with kd | kd
       ·refine ZjO (κ:=tuples' (Value.type "int" != Value.type "tuple")) ltok pl.isList (by rw [lx]; exact ok.len) (fun h2 h' Q' s' hk hs' hq=>?_) (fun h2 h' i j C s' hk hi hj hs' hC=>?_) fun out p t h' a' hp hu ho hk ha' he=>fin out p t h' a' hp hu ho hk ha' he
        ·obtain ⟨fs,kt,lf,hf⟩:=Zgh I hk x vs its rv rr kd
         obtain ⟨t,rfl⟩:=hs'
         refine kat_kind (T:=.type "int") kt (by rw [lf,← lx]; exact lA 1 3775011585 T1 h2) (fun v hv=>?_) (by decide) (hq _ ⟨t,rfl⟩)
         obtain ⟨i,tk,rfl⟩:=hf v hv
         exact Looks.now
        ·obtain ⟨t,rfl⟩:=hs'
         have hxi:x[i]? = some x[i]:=by rw [List.getElem?_eq_getElem]
         have hxj:x[j]? = some x[j]:=by rw [List.getElem?_eq_getElem]
         obtain ⟨vi,ri,qi,_⟩:=ZdX rv rr hxi
         obtain ⟨vj,rj,qj,_⟩:=ZdX rv rr hxj
         have ki:=List.all_eq_true.mp kd _ (List.getElem_mem (show i < x.length by exact lC 2 2203874037777 T1 hi lx))
         have kj:=List.all_eq_true.mp kd _ (List.getElem_mem (show j < x.length by exact lC 2 2203874037777 T1 hj lx))
         have cm:=ok.cmp _ (List.getElem_mem (show i < x.length by exact lC 2 2203874037777 T1 hi lx)) _ (List.getElem_mem (show j < x.length by exact lC 2 2203874037777 T1 hj lx))
         have gi:x.getD i d0 = x[i]:=by simp [show i < x.length by exact lC 2 2203874037777 T1 hi lx]
         have gj:x.getD j d0 = x[j]:=by simp [show j < x.length by exact lC 2 2203874037777 T1 hj lx]
         simp only [gi,gj] at hC
         generalize x[i] = di at *
         generalize x[j] = dj at *
         cases di with
         | tup di=>
          cases dj with
          | tup dj=>
           obtain ⟨a1,w1,rfl,s1,e1⟩:=qi.tup_inv
           obtain ⟨a2,w2,rfl,s2,e2⟩:=qj.tup_inv
           obtain ⟨i1,v1,⟨o1,g1,_,n1,d1⟩,_⟩:=I.tuple s1
           obtain ⟨i2,v2,⟨o2,g2,_,n2,d2⟩,_⟩:=I.tuple s2
           unfold kas_ask
           rw [show its.getD i Value.none = .ref a1 from ri,show its.getD j Value.none = .ref a2 from rj]
           cases q:ltT di dj with
           | none=>simp only [ltD,q] at cm; cases cm
           | some b=>
            refine kat_lt (hk _ _ g1) d1 (hk _ _ g2) d2 (Zl2 (r:=b) ?_ di dj w1 w2 i1 i2 0 _ e1 e2 v1 v2 ?_ (fun _ d hd=>?_) q)
            ·have:=hC _ ⟨t,rfl⟩
             simp only [ltD,q] at this
             cases b <;> simpa using this
            ·rw [List.size_toArray,List.size_toArray,← v1.length,← v2.length,e1.length,e2.length]
            ·cases di with
             | nil=>cases hd
             | cons d' r'=>cases hd; cases d <;> simp [Zda,Zfh] at ki ⊢
          | _=>simp [Zda] at kj
         | _=>simp [Zda] at ki
       ·refine ZjO (κ:=oneType') ltok pl.isList (by rw [lx]; exact ok.len) (fun h2 h' Q' s' hk hs' hq=>?_) (fun h2 h' i j C s' hk hi hj hs' hC=>?_) fun out p t h' a' hp hu ho hk ha' he=>fin out p t h' a' hp hu ho hk ha' he
        ·obtain ⟨t,rfl⟩:=hs'
         refine kas_kind (T:=.type "int") h2 (fun v hv=>?_) (by decide) (by decide) (hq _ ⟨t,rfl⟩)
         obtain ⟨i,hi,rfl⟩:=List.getElem_of_mem hv
         have hxi:x[i]? = some x[i]:=by rw [List.getElem?_eq_getElem]
         obtain ⟨vi,ri,qi,_⟩:=ZdX rv rr hxi
         have ki:=List.all_eq_true.mp kd _ (List.getElem_mem (show i < x.length by exact lC 2 2203874037777 T1 hi lx))
         have gi:its.getD i Value.none = its[i]:=by simp [hi]
         rw [gi] at ri
         generalize x[i] = di at *
         cases di with
         | int k=>
          have:=qi.int_inv
          subst this
          obtain ⟨tk,e⟩:=ri
          rw [e]
          exact Looks.now
         | _=>simp [Zfh] at ki
        ·obtain ⟨t,rfl⟩:=hs'
         have hxi:x[i]? = some x[i]:=by rw [List.getElem?_eq_getElem]
         have hxj:x[j]? = some x[j]:=by rw [List.getElem?_eq_getElem]
         obtain ⟨vi,ri,qi,_⟩:=ZdX rv rr hxi
         obtain ⟨vj,rj,qj,_⟩:=ZdX rv rr hxj
         have ki:=List.all_eq_true.mp kd _ (List.getElem_mem (show i < x.length by exact lC 2 2203874037777 T1 hi lx))
         have kj:=List.all_eq_true.mp kd _ (List.getElem_mem (show j < x.length by exact lC 2 2203874037777 T1 hj lx))
         have gi:x.getD i d0 = x[i]:=by simp [show i < x.length by exact lC 2 2203874037777 T1 hi lx]
         have gj:x.getD j d0 = x[j]:=by simp [show j < x.length by exact lC 2 2203874037777 T1 hj lx]
         simp only [gi,gj] at hC
         generalize x[i] = di at *
         generalize x[j] = dj at *
         cases di with
         | int p=>
          cases dj with
          | int q=>
           have:=qi.int_inv; subst this
           have:=qj.int_inv; subst this
           obtain ⟨t1,e1⟩:=ri
           obtain ⟨t2,e2⟩:=rj
           unfold kas_ask
           rw [e1,e2,keyLt'_oneType]
           refine oneLt_int ?_
           have:=hC _ ⟨t,rfl⟩
           simpa [ltD] using this
          | _=>simp [Zfh] at kj
         | _=>simp [Zfh] at ki
      ·exact h.elim
   | _=>exact h.elim
end
end L3
namespace L3
open PySem PySem.Spec PyProof.Rows L2
section
variable {X:Cx} {a b c e o:Expr} {es:List Expr} {pos p apos cpos:Pos} {f g h:E3} {gl:EL3}
theorem ZqQ:Za3 X (.type "int") (rB X.K Zrz):=Za3.imp Zly fun xs H Q zz1=>by
 obtain ⟨ι,M,ds,S,rd,h⟩:=zz1
 cases ds with
 | nil=>exact h.elim
 | cons d ds=>
  cases ds with
  | cons _ _=>cases d <;> exact h.elim
  | nil=>
   obtain ⟨x,rfl,r⟩:=ZdM rd
   cases d with
   | int i=>exact .inl ⟨i,by rw [r.int_inv],Zap.ok h S Rep.int⟩
   | bl k=>exact .inr ⟨k,by rw [r.bl_inv],Zap.ok h S Rep.int⟩
   | _=>exact h.elim
theorem ZpC {K:PySem.W.Frag} {H:Hp} {ι:List Addr} {M:Store} (S:Zau K H ι M) {n:Nat} {a:Addr} (h:(ZdJ M[n]?).isSome = true) (ha:ι[n]? = some a):IsD H a:=by
 cases hn:ZdJ M[n]? with
 | none=>rw [hn] at h; cases h
 | some kvs=>
  obtain ⟨ws,hw,_⟩:=Zkb S hn ha
  exact .inl ⟨ws,hw⟩
theorem Zmg {K:PySem.W.Frag} {H:Hp} {ι:List Addr} {kvs:List (Zbl × D)} {ws:List (Key × V)} {d:D} {z:V} (kr:KvR K H ι kvs ws) (k:Zbl) (rd:Rep K H ι d z):Rep K H ι ((ZcA kvs k).getD d) ((ZeV ws (dk k)).getD z):=by
 have hv:=kr.val k
 cases q:ZcA kvs k with
 | none=>rw [q] at hv; rw [hv]; exact rd
 | some w=>
  rw [q] at hv
  obtain ⟨v,ev,rv⟩:=hv
  rw [ev]; exact rv
theorem Zkk {e':Expr} (hu:X.A.units + 80 < cLine) (ho:C3 X o f) (he:C3 X e g) (he':C3 X e' h) (m:M2 X o "get" apos e e' cpos:=by exact ⟨rfl,rfl,rfl,rfl⟩):C3 X (.Call (.Attribute o "get" apos) [e,e'] [] cpos) (Zce Zgs ZgW f (Zb g (Zb h Zi))):=(Znd (hu1 hu) ho he he' m).imp fun σ H Q zz1=>by
 obtain ⟨ι,M,env,S,E,hh⟩:=zz1
 obtain ⟨d,M1,e1,hh⟩:=Zap.bind hh
 refine ⟨ι,M,env,S,E,?_⟩
 rw [e1]
 intro x H1 ι1 x1 S1 r1
 cases d with
 | ref n=>
  by_cases hD:(ZdJ M1[n]?).isSome = true
  ·simp only [Zgs,hD,if_true] at hh
   obtain ⟨ad,ha,rfl⟩:=r1.ref_inv
   obtain ⟨ds,M2,e2,hh⟩:=Zap.bind hh
   refine ⟨ad,rfl,ZpC S1 hD ha,ι1,M1,env,S1,E.mono x1,?_⟩
   cases q:g env M1 with
   | bad=>simp [q] at e2
   | exc x' M'=>simp [q] at e2
   | ok b M2'=>
    cases q':h env M2' with
    | bad=>simp [q,q'] at e2
    | exc x' M'=>simp [q,q'] at e2
    | ok b' M3'=>
     simp only [Zb,q,q',R3.bind,Zi] at e2
     cases e2
     intro y H2 ι2 x2 S2 r2
     refine ⟨ι2,M2',env,S2,(E.mono x1).mono x2,?_⟩
     rw [q']
     intro z H3 ι3 x3 S3 r3
     simp only [ZgW] at hh
     cases hn:ZdJ M2[n]? with
     | none=>simp only [hn] at hh; exact hh.elim
     | some kvs=>
      cases hk:Zga b with
      | none=>simp only [hn,hk] at hh; exact hh.elim
      | some kk=>
       simp only [hn,hk] at hh
       obtain ⟨ws,hw,kr⟩:=Zkb S3 hn (x3.pre _ _ (x2.pre _ _ ha))
       refine ⟨ZeV ws (dk kk),.inl ⟨ws,dk kk,hw,Zld hk r2,rfl⟩,hh _ H3 ι3 ((x1.trans x2).trans x3) S3 (Zmg kr kk r3)⟩
  ·simp only [Zgs,hD] at hh; exact hh.elim
 | _=>exact hh.elim
end
section
variable {X:Cx} {pins:List (Addr × Obj)} {σ:St} {H:Hp} {s:Shared} {d:Addr} {ws:List (Key × V)} {ob:Obj}
end
section
variable {X:Cx} {tg e elt:Expr} {ifs:List Expr} {pos:Pos} {f fe:E3} {ts:List E3} {g:G3} {scope:Scope} {N':List Str} {own:Nat}
end
end L3
namespace L3
open PySem PySem.Spec PyProof.Rows L2
section
variable {prog:Program} {w:World} {A:Around} {E:Value → Shared → Prop} {s:Shared}
theorem ZlH:typeLookup (.type "tuple") (Str.ofString "keys") = pure none:=by rw [typeLookup_type,builtinLookup_eq_fast]; kernel_rfl
set_option maxRecDepth 8000 in
theorem ZjD {a:Addr} {o:Obj} {xs:Array Value} {k:Nat} {Q:Option Value → Shared → Prop} (hx:s.heap.get? a = some o) (hc:o.cls = .type "tuple") (hdat:o.data = .seq xs k) (hd:o.dict = none) (hA:A.handled = none)
  (h:∀ h' tk,(∀ b u,s.heap.get? b = some u → h'.get? b = some u) → Q none { s with heap:=h',toks:=tk }):wpAny (model prog w) A (getAttr? (.ref a) (Str.ofString "keys")) Q E s:=by
 obtain ⟨c,dct,dat,sl⟩:=o
 simp only at hc hdat hd
 subst hc hdat hd
 obtain ⟨hp,g,d,tk,os⟩:=s
 have hT:∀ tk',(⟨hp,g,d,tk',os⟩:Shared).TypeIs (.ref a) "tuple":=fun _=>⟨_,hx,rfl⟩
 have f1:=sub_AttributeError; have f3:=F.slot_tuple_getattribute.lookup; have f4:=F.slot_tuple_getattribute.bind (.ref a); have f5:=am_tuple_getattr_none
 unfold getAttr? getAttrBy? getAttrBy
 repeat (any_goals (first | assumption | exact hT _ | ((with_reducible show wpAny _ _ (call (Value.builtin "tuple.__getattribute__") _ _) _ _ _); refine call_meets F.slot_tuple_getattribute (hT _) am_entry_tuple_getattribute (F.args_tuple_getattribute_2 _ _) (meets_getattribute_miss_tuple a xs k sl _ _ ZlH (by decide) (by rw [sizeLine_eq]; decide)) ⟨hx,hA,fun h' tk' e hx'=>?_⟩) | wp_step))
 obtain ⟨t',u',he⟩:=hx'.there
 show wpAny _ _ (getattributeRaised _ _ _ _ _ _ _) _ _ _
 unfold getattributeRaised
 repeat (any_goals (first | assumption | wp_step))
 all_goals exact h _ _ hx'.of.keeps
theorem ZeA:entryFor table "dict.update.loop" = some Builtin.«dict.update.loop»:=entryFor_of_tree (by kernel_rfl)
theorem ZcF:plainId "dict.update.loop" = true:=by decide +kernel
noncomputable def Zke (prog:Program) (w:World) (h:Heap) (v:Value) (q:Key × Value):Prop:=∃ a o key n,v = .ref a ∧ h.get? a = some o ∧ o.cls = .type "tuple" ∧ o.data = .seq #[key,q.2] n ∧ (Za2 prog w).is q.1 key = true
theorem Zmb {d I ax:Addr} {items:Array Value} {ps:List (Key × Value)} {res:Value} (hh:A.in1.handled = none) (hne:ax ≠ I) (hdI:d ≠ I) (hda:d ≠ ax) (hl:ps.length = items.size) (hz:ps.length ≤ 100000):
  ∀ (k i:Nat) (s:Shared) (kvs:List (Key × Value)) {R:Result → Shared → Prop},items.size - i = k → i ≤ items.size → s.heap.IsTupleIter I ax i → s.heap.IsTuple ax items → s.heap.DictOf (Za2 prog w) d kvs → kvs.length ≤ i →
   (∀ (j:Nat) v q,items[j]? = some v → ps[j]? = some q → Zke prog w s.heap v q ∧ v ≠ .ref d ∧ v ≠ .ref I) →
   (∀ h' tk,h'.DictOf (Za2 prog w) d (merged kvs (ps.drop i)) → (∀ b o,b ≠ d → b ≠ I → s.heap.get? b = some o → h'.get? b = some o) → R (.ok (.ret res)) { s with heap:=h',toks:=tk }) →
   codeAny (model prog w) A (.builtin "dict.update.loop" ⟨[.ref d,.ref I,rawInt i,res],[]⟩) R s:=by
 have W:=Walks.tuple (prog:=prog) (w:=w) hh I ax hne items
 intro k
 induction k with
 | zero=>
  intro i s kvs R hk hi st tup dd hkl hp hR
  have hin:i = items.size:=Nat.le_antisymm hi (lC 2 580682816544801 T1 hk (sbA _ _))
  subst hin
  refine codeAny_builtin ZeA ?_
  rw [Around.under_plainId ZcF _]
  show wpAny _ A.in1 (pyNext (.ref I) >>= _) _ _ s
  refine wpAny_bind (W.done s _ _ ⟨st,tup⟩ fun h' tk kk=>?_)
  show wpAny _ A.in1 (Builtin.Dict.addKeywords d [] >>= _) _ _ _
  refine wpAny_bind (wpAny_pure (wpAny_pure (hR h' tk ?_ fun b o hb hI e=>kk b o (by simpa using hI) e)))
  rw [List.drop_of_length_le (Nat.le_of_eq hl)]
  obtain ⟨o,es,ep,ho,r⟩:=dd
  exact ⟨o,es,ep,kk d o (by simpa using hdI) ho,r⟩
 | succ k ih=>
  intro i s kvs R hk hi st tup dd hkl hp hR
  have hlt:i < items.size:=lD 2 0x321320c21a1c031 T1 hk (Nat.sub_add_cancel hi)
  have hv:items[i]? = some items[i]:=by simp [hlt]
  have hq:ps[i]? = some (ps[i]'(by omega)):=by simp [show i < ps.length by omega]
  refine codeAny_builtin ZeA ?_
  rw [Around.under_plainId ZcF _]
  show wpAny _ A.in1 (pyNext (.ref I) >>= _) _ _ s
  refine wpAny_bind (W.item i s _ _ hlt ⟨st,tup⟩ fun v h1 tk1 hP st1 kk1=>?_)
  rw [hv] at hP
  cases hP
  obtain ⟨⟨a,o,key,n,ev,ho,hc,hd,hkey⟩,nd,nI⟩:=hp i _ _ hv hq
  have haI:a ≠ I:=fun z=>nI (by rw [ev,z])
  have had:a ≠ d:=fun z=>nd (by rw [ev,z])
  have ho1:h1.get? a = some o:=kk1 a o (by simpa using haI) ho
  have dd1:h1.DictOf (Za2 prog w) d kvs:=by
   obtain ⟨o',es,ep,ho',r⟩:=dd
   exact ⟨o',es,ep,kk1 d o' (by simpa using hdI) ho',r⟩
  rw [ev]
  generalize ps[i]'(lC 2 2203623428113 T1 hlt hl) = q at hq hkey hd
  dsimp only
  refine wpAny_bind (wpAny_holding (wpAny_bind (wpAny_tryCatch ?_)))
  unfold Builtin.Dict.pairItems
  refine wpAny_bind (wpAny_typeOf (T:="tuple") ⟨o,ho1,hc⟩ ?_)
  rw [if_pos (by decide)]
  refine wpAny_bind ?_
  unfold seqItems?
  refine wpAny_bind (wpAny_load ho1 ?_)
  rw [hd]
  refine wpAny_pure (wpAny_pure ?_)
  show wpAny _ A.in1 (holding [key,q.2] (dictSet d key q.2)) _ _ _
  refine wpAny_holding (wpAny_dictSet_pairs hkey dd1 (fun h2 dd2 sb=>?_) (by rw [sizeLine_eq]; exact lD 4 0x10000007b201331186a05b30102011011 T1 hlt hkl hz hl))
  refine wpAny_pure ⟨plainId_quiet ZcF _,?_⟩
  show codeAny (model prog w) A (.builtin "dict.update.loop" ⟨[.ref d,.ref I,rawInt ((i:Int) + 1),res],[]⟩) R _
  have e1:((i:Int) + 1) = ((i + 1:Nat):Int):=rfl
  rw [e1]
  have k2:∀ b u,b ≠ d → b ≠ I → s.heap.get? b = some u → h2.get? b = some u:=fun b u hb hI e=>(sb.2 b hb).trans (kk1 b u (by simpa using hI) e)
  refine ih (i + 1) _ (stored kvs q.1 q.2) (Nat.le_antisymm (lE 3 0x12030c4014a3c2c21a1c021 T1 hk (Nat.sub_add_cancel (lB 1 6991908881 T1 hlt)) (sbA _ _)) (lE 3 0x310240c21a4c3c201a1c031 T1 hk (sbA _ _) (Nat.sub_add_cancel (Nat.le_of_lt hlt)))) hlt ?_ ?_ dd2 ?_ ?_ ?_
  ·obtain ⟨o',e',r⟩:=st1.1
   exact ⟨o',(sb.2 I (Ne.symm hdI)).trans e',r⟩
  ·obtain ⟨o',e',r⟩:=st1.2
   exact ⟨o',(sb.2 ax (Ne.symm hda)).trans e',r⟩
  ·have:=(show (stored kvs q.1 q.2).length ≤ kvs.length + 1 from by unfold stored; split <;> simp)
   exact lC 2 0xa2c002101a1c001 T1 this hkl
  ·intro j v q' hj hq'
   obtain ⟨⟨a',o',key',n',ev',ho',r⟩,nd',nI'⟩:=hp j v q' hj hq'
   exact ⟨⟨a',o',key',n',ev',k2 a' o' (fun z=>nd' (by rw [ev',z])) (fun z=>nI' (by rw [ev',z])) ho',r⟩,nd',nI'⟩
  ·intro h' tk dd' kk'
   refine hR h' tk ?_ fun b u hb hI e=>kk' b u hb hI (k2 b u hb hI e)
   have hq2:ps.drop i = q :: ps.drop (i + 1):=by rw [List.drop_eq_getElem_cons (by exact lC 2 2203623428113 T1 hlt hl)]; congr 1; rw [List.getElem?_eq_getElem (by exact lC 2 2203623428113 T1 hlt hl)] at hq; exact Option.some.inj hq
   rw [hq2]
   exact dd'
theorem Zks {ax:Addr} {items:Array Value} {ps:List (Key × Value)} {Q:Value → Shared → Prop} (hA:A.handled = none) (ht:Zds s.heap ax items) (hl:ps.length = items.size) (hz:ps.length ≤ 100000)
  (hp:∀ (j:Nat) v q,items[j]? = some v → ps[j]? = some q → Zke prog w s.heap v q)
  (h:∀ h' tk,h'.DictOf (Za2 prog w) s.heap.objs.size (merged [] ps) → (∀ b o,s.heap.get? b = some o → h'.get? b = some o) → Q (.ref s.heap.objs.size) { s with heap:=h',toks:=tk }):
  wpAny (model prog w) A (call (.type "dict") [.ref ax]) Q E s:=by
 obtain ⟨o,ho,⟨hc,hdn⟩,n,hdat⟩:=id ht
 have hlt:ax < s.heap.objs.size:=Heap.lt_size ho
 refine callType_codes (Q₁:=fun obj s₁=>obj = .ref s.heap.objs.size ∧ s₁ = { s with heap:=s.heap.push { cls:=.type "dict",data:=.dict #[] } }) F.kt_called_dict (F.kt_typeCall_dict_1 _) F.entry_dict_init (kt_code_dict_new _ ⟨rfl,rfl⟩) ?_
 rintro obj s₁ ⟨rfl,rfl⟩
 have hnew:(s.heap.push { cls:=.type "dict",data:=.dict #[] }).DictOf (Za2 prog w) s.heap.objs.size []:=Heap.DictOf.new s.heap
 have hk1:∀ b u,s.heap.get? b = some u → (s.heap.push { cls:=.type "dict",data:=.dict #[] }).get? b = some u:=fun b u q=>Heap.get?_push_of_some _ q
 refine ⟨hnew.typeIs,F.args_dict_init_2 _ _,?_⟩
 unfold Builtin.«dict.__init__»
 refine wpAny_bind ?_; unfold Builtin.Dict.selfAndRest
 refine wpAny_bind (wpAny_notOrdered_dict hnew.typeIs ?_); show wpAny _ _ (pure (s.heap.objs.size,[Value.ref ax])) _ _ _
 refine wpAny_pure ?_; show wpAny _ _ (Builtin.Dict.updateFrom "dict.__init__" s.heap.objs.size (.ref ax) [] .none) _ _ _
 unfold Builtin.Dict.updateFrom
 refine wpAny_bind (wpAny_typeOf (T:="tuple") ⟨o,hk1 _ _ ho,hc⟩ ?_)
 rw [if_pos (by decide)]
 refine wpAny_bind (ZjD (hk1 _ _ ho) hc hdat hdn hA fun h2 tk2 k2=>?_)
 simp only [Option.isNone_none,if_true]
 refine wpAny_bind (wpAny_rule ?_)
 have d2:h2.DictOf (Za2 prog w) s.heap.objs.size []:=by
  obtain ⟨o',es,ep,ho',r⟩:=hnew
  exact ⟨o',es,ep,k2 _ _ ho',r⟩
 have t2:h2.IsTuple ax items:=⟨o,k2 _ _ (hk1 _ _ ho),hc,n,hdat⟩
 have l2:s.heap.objs.size < h2.objs.size:=by obtain ⟨o',_,_,ho',_⟩:=d2; exact Heap.lt_size ho'
 refine wpAny_bind (wpAny_pyIter_tuple t2 ?_)
 have k3:∀ b u,h2.get? b = some u → (h2.push { cls:=.type "tuple_iterator",data:=.fields #[.ref ax,.int 0 0] }).get? b = some u:=fun b u q=>Heap.get?_push_of_some _ q
 have t3:(h2.push { cls:=.type "tuple_iterator",data:=.fields #[.ref ax,.int 0 0] }).IsTuple ax items:=by obtain ⟨o',e',r⟩:=t2; exact ⟨o',k3 _ _ e',r⟩
 have d3:(h2.push { cls:=.type "tuple_iterator",data:=.fields #[.ref ax,.int 0 0] }).DictOf (Za2 prog w) s.heap.objs.size []:=by obtain ⟨o',es,ep,ho',r⟩:=d2; exact ⟨o',es,ep,k3 _ _ ho',r⟩
 refine wpAny_pure ⟨plainId_quiet ZcF _,Zmb (prog:=prog) (w:=w) (A:=A.in1) (ax:=ax) (items:=items) (ps:=ps) hA (Nat.ne_of_lt (Nat.lt_trans hlt l2)) (Nat.ne_of_lt l2) (Nat.ne_of_gt hlt) hl hz items.size 0 _ [] (Nat.le_antisymm ((Nat.sub_le _ _)) (lB 1 4309762049 T1 (sbA _ _))) (Nat.zero_le _) ⟨_,Heap.get?_push_size _ rfl,rfl,rfl⟩ t3 d3 (Nat.zero_le _) (fun j v q hj hq=>?_) fun h' tk dd' kk'=>?_⟩
 ·obtain ⟨a,o',key,n',ev,ho',r⟩:=hp j v q hj hq
  have hla:a < s.heap.objs.size:=Heap.lt_size ho'
  refine ⟨⟨a,o',key,n',ev,k3 _ _ (k2 _ _ (hk1 _ _ ho')),r⟩,fun z=>?_,fun z=>?_⟩
  ·rw [ev] at z; injection z with z; exact absurd hla (by rw [z]; exact Nat.lt_irrefl _)
  ·rw [ev] at z; injection z with z; exact absurd (Nat.lt_trans hla l2) (by rw [z]; exact Nat.lt_irrefl _)
 ·refine ⟨rfl,h h' tk dd' fun b u q=>kk' b u (Nat.ne_of_lt (Heap.lt_size q)) (Nat.ne_of_lt (Nat.lt_trans (Heap.lt_size q) l2)) (k3 _ _ (k2 _ _ (hk1 _ _ q)))⟩
end
section
variable {X:Cx}
theorem pairs_at {pins:List (Addr × Obj)} {σ:St} {H:Hp} {s:Shared} {ι:List Addr} (I:Inv X pins σ H s):∀ {x:List D} {l:List (Zbl × D)} {vs:List V} {us:List Value},ZcX x = some l → Zaf X.K H ι x vs → Vals vs us →
  ∃ (ws:List (Key × V)) (ps:List (Key × Value)),KvR X.K H ι l ws ∧ KV ws ps ∧ ps.length = us.length ∧ ∀ (j:Nat) v q,us[j]? = some v → ps[j]? = some q → Zke X.prog X.w s.heap v q
 | [],l,vs,us,h,r,v=>by
  have e:=r.nil_inv; subst e; cases v
  have:l = []:=by simpa [ZcX] using h.symm
  subst this
  exact ⟨[],[],KvR.nil,.nil,rfl,fun j v q h=>by simp at h⟩
 | d :: x,l,vs,us,h,r,v=>by
  obtain ⟨u,vs',rfl,r1,r2⟩:=r.cons_inv
  cases v with
  | @cons _ z _ us' rz rzs=>
  cases d with
  | tup ds=>
   match ds,h,r1 with
   | [a,b],h,r1=>
    simp only [ZcX] at h
    cases hk:Zga a with
    | none=>simp only [hk] at h; cases h
    | some kk=>
     simp only [hk] at h
     cases hx:ZcX x with
     | none=>rw [hx] at h; cases h
     | some l'=>
      rw [hx] at h
      have:l = (kk,b) :: l':=by simpa using h.symm
      subst this
      obtain ⟨ws,ps,kr,kv,lp,hp⟩:=pairs_at I hx r2 rzs
      obtain ⟨ad,xs,rfl,sq,rr⟩:=r1.tup_inv
      cases (show z = Value.ref ad from rz)
      obtain ⟨ya,ys,rfl,ra,rr⟩:=rr.cons_inv
      obtain ⟨yb,ys,rfl,rb,rr⟩:=rr.cons_inv
      have e:=rr.nil_inv; subst e
      obtain ⟨its,rv,⟨o,ho,hc,n,hd⟩,_⟩:=I.tuple sq
      cases rv with
      | @cons _ u1 _ _ q1 rv=>
      cases rv with
      | @cons _ u2 _ _ q2 rv=>
      cases rv
      refine ⟨(dk kk,yb) :: ws,(dk kk,u2) :: ps,KvR.cons rb kr,.cons ⟨rfl,q2⟩ kv,by simp [lp],fun j v q hj hq=>?_⟩
      cases j with
      | zero=>
       simp at hj hq
       subst hj hq
       exact ⟨ad,o,u1,n,rfl,ho,hc,hd,Zmt (by rw [← Zld hk ra]; exact q1)⟩
      | succ j=>exact hp j v q (by simpa using hj) (by simpa using hq)
   | [],h,_=>simp [ZcX] at h
   | [_],h,_=>simp [ZcX] at h
   | _ :: _ :: _ :: _,h,_=>simp [ZcX] at h
  | _=>simp [ZcX] at h
theorem Zj8 (hc:X.calm = true):Za3 X (.type "dict") (rB X.K Zc6):=by
 intro pins s σ H xs us Q I rs ⟨ι,M,ds,S,rd,h⟩
 cases ds with
 | nil=>exact h.elim
 | cons d ds=>
  cases ds with
  | cons _ _=>cases d <;> exact h.elim
  | nil=>
   obtain ⟨x,rfl,r⟩:=ZdM rd
   obtain ⟨u,rfl,ru⟩:=vals1 rs
   cases d with
   | ref n=>
    cases hn:ZdJ M[n]? with
    | none=>simp only [Zc6,hn] at h; exact h.elim
    | some kvs=>
     simp only [Zc6,hn] at h
     obtain ⟨a,ha,rfl⟩:=r.ref_inv
     cases ru
     obtain ⟨ws,hw,kr⟩:=Zkb S hn ha
     refine ZmE I hw fun p s' hp I'=>⟨.ref p,_,I',rfl,?_⟩
     obtain ⟨x2,S2,r2⟩:=S.dct hp kr
     exact h _ _ _ x2 S2 r2
   | tup z=>
    simp only [Zc6] at h
    cases hp:ZcX z with
    | none=>rw [hp] at h; exact h.elim
    | some l=>
     rw [hp] at h
     dsimp only at h
     split at h
     ·rename_i hz
      obtain ⟨a,vs,rfl,sq,rr⟩:=r.tup_inv
      cases ru
      obtain ⟨its,rv,ht,_⟩:=I.tupleN sq
      obtain ⟨ws,ps,kr,kv,lp,hpp⟩:=pairs_at I hp rr rv
      have hl:ps.length = l.length:=by rw [← kv.length,kr.length]
      refine Zks (ps:=ps) (I.ok.hd hc) ht (by simpa using lp) (by rw [hl]; exact hz) (fun j v q hj hq=>hpp j v q (by simpa using hj) hq) fun h' tk dd kk=>⟨.ref s.heap.objs.size,upd H s.heap.objs.size (.dK (Zg0 [] ws)),?_,rfl,?_⟩
      ·have hm:=kv.merge (kvs:=[]) (vs:=[]) .nil
       refine I.laid kk (Nat.le_refl _) (ZmD ?_ (beq_eq_false_iff_ne.mpr (Ne.symm (Nat.ne_of_lt I.big))) hm dd)
       have h1:=Ze8 ws []
       rw [List.length_nil] at h1
       rw [sizeLine_eq]
       have:=kr.length
       exact lC 3 0x10000007b20186a05b1010ec2011021 T1 this h1 hz
      ·obtain ⟨x2,S2,r2⟩:=S.dct (I.hok.fresh (Nat.le_refl _)) (KvR.merge (kvs:=[]) (ws:=[]) kr KvR.nil)
       exact h _ _ _ x2 S2 r2
     ·exact h.elim
   | _=>exact h.elim
end
end L3
namespace L3
open PySem PySem.Spec PyProof.Rows L2
theorem ZnX {X:Cx} {sts:List Stmt}:CSs X sts Zj0:=fun _ _ _ _ _ _ ⟨_,_,_,_,_,h⟩=>h.elim
end L3
namespace L3
open PySem PySem.Spec PyProof.Rows L2
section
variable {X:Cx} {o e:Expr} {es:List Expr} {apos cpos:Pos} {f:E3} {gl:EL3}
end
end L3
namespace L3
open PySem PySem.Spec PyProof.Rows L2
section
variable {X:Cx} {a b c e o:Expr} {es:List Expr} {pos p apos cpos:Pos} {f g h:E3} {gl:EL3}
end
end L3
namespace L3
open PySem PySem.Spec PyProof.Rows L2
section
variable {X:Cx} {a b c e o:Expr} {es:List Expr} {pos p apos cpos:Pos} {f g h:E3} {gl:EL3}
theorem Zhz:Za3 X (.type "int") (fun xs H Q=>∃ x n,xs = [.str x] ∧ intText? x = some n ∧ x.length ≤ 640 ∧ Q (.int n) H):=by
 intro pins s σ H xs us Q I r h
 obtain ⟨x,n,rfl,hn,hz,q⟩:=h
 obtain ⟨u,rfl,t,rfl⟩:=vals1 r
 exact PySem.W.KIN.call_text hn hz ⟨.int n,H,I.tok _,⟨_,rfl⟩,q⟩
theorem Zqq:Za3 X (.type "int") (rB X.K Znm):=Za3.imp (Za3.or ZqQ Zhz) fun xs H Q zz1=>by
 obtain ⟨ι,M,ds,S,rd,h⟩:=zz1
 match ds,rd,h with
 | [.str x],rd,h=>
  obtain ⟨v,rfl,r⟩:=ZdM rd
  simp only [Znm] at h
  cases hn:PySem.intText? ⟨x.toArray⟩ with
  | none=>rw [hn] at h; exact h.elim
  | some n=>
   rw [hn] at h
   dsimp only at h
   split at h
   ·rename_i hz
    exact .inr ⟨_,n,by rw [r.str_inv],hn,by simpa [Str.length] using hz,Zap.ok h S Rep.int⟩
   ·exact h.elim
 | [],rd,h=>exact h.elim
 | [.int i],rd,h=>exact .inl ⟨ι,M,_,S,rd,h⟩
 | [.bl i],rd,h=>exact .inl ⟨ι,M,_,S,rd,h⟩
 | [.non],rd,h=>exact h.elim
 | [.tup _],rd,h=>exact h.elim
 | [.scr _],rd,h=>exact h.elim
 | [.ref _],rd,h=>exact h.elim
 | .str _ :: _ :: _,rd,h=>exact h.elim
 | .int _ :: _ :: _,rd,h=>exact h.elim
 | .bl _ :: _ :: _,rd,h=>exact h.elim
 | .non :: _ :: _,rd,h=>exact h.elim
 | .tup _ :: _ :: _,rd,h=>exact h.elim
 | .scr _ :: _ :: _,rd,h=>exact h.elim
 | .ref _ :: _ :: _,rd,h=>exact h.elim
end
end L3
namespace L3
open PySem PySem.Spec PyProof.Rows L2
section
variable {X:Cx} {a b c e o:Expr} {es:List Expr} {pos p p1 p2 p3 pt apos cpos:Pos} {f g h:E3} {gl:EL3}
theorem Zn0 (K:PySem.W.Frag) (t:String) (T1 T2:Ty3) (ht:t ∈ ["NoneType","bool","int","str","list","tuple","dict"]):
  PySem.W.kitAny K (.type t) [.type (tyN T1),.type (tyN T2)] = some ((t == tyN T1 || (t == "bool" && tyN T1 == "int")) || (t == tyN T2 || (t == "bool" && tyN T2 == "int"))):=by
 simp only [List.mem_cons,List.not_mem_nil,or_false] at ht
 rcases ht with rfl | rfl | rfl | rfl | rfl | rfl | rfl <;> cases T1 <;> cases T2 <;> kernel_rfl
theorem ZiK {pins:List (Addr × Obj)} {σ:St} {H:Hp} {s:Shared} {ι:List Addr} {M:Store} {d:D} {x:V} {u:Value} (I:Inv X pins σ H s) (S:Zau X.K H ι M) (r:Rep X.K H ι d x) (ru:RelV x u) (hd:ZcN .int d M ≠ none):
  ∃ (t:String) (Hc:Heap → Prop),PySem.W.KitX X.K u (.type t) Hc ∧ Hc s.heap ∧ u ≠ .builtin "__main__.__loader__#opaque" ∧ t ∈ ["NoneType","bool","int","str","list","tuple","dict"] ∧ ∀ T b,ZcN T d M = some b → b = (t == tyN T || (t == "bool" && tyN T == "int")):=by
 cases d with
 | non=>
  have:=r.non_inv; subst this
  cases (show u = Value.none from ru)
  exact ⟨"NoneType",_,PySem.W.kitx_none,True.intro,(fun z=>nomatch z),by simp,fun T b e=>by
   have hb:b = false:=by simpa [ZcN] using e.symm
   subst hb; cases T <;> rfl⟩
 | bl c=>
  have:=r.bl_inv; subst this
  cases (show u = Value.bool c from ru)
  exact ⟨"bool",_,PySem.W.kitx_bool,True.intro,(fun z=>nomatch z),by simp,fun T b e=>by
   have hb:b = (T == .bool || T == .int):=by simpa [ZcN] using e.symm
   subst hb; cases T <;> rfl⟩
 | int i=>
  have:=r.int_inv; subst this
  obtain ⟨t,q⟩:=(show ∃ t,u = Value.int i t from ru); cases q
  exact ⟨"int",_,PySem.W.kitx_int,True.intro,(fun z=>nomatch z),by simp,fun T b e=>by
   have hb:b = (T == .int):=by simpa [ZcN] using e.symm
   subst hb; cases T <;> rfl⟩
 | str z=>
  have:=r.str_inv; subst this
  obtain ⟨t,q⟩:=(show ∃ t,u = Value.str _ t from ru); cases q
  exact ⟨"str",_,PySem.W.kitx_str,True.intro,(fun z=>nomatch z),by simp,fun T b e=>by
   have hb:b = (T == .str):=by simpa [ZcN] using e.symm
   subst hb; cases T <;> rfl⟩
 | tup ds=>
  obtain ⟨a,vs,rfl,st,rr⟩:=r.tup_inv
  cases ru
  obtain ⟨its,_,pt,_⟩:=I.tuple st
  obtain ⟨o,h1,h2,_⟩:=pt
  exact ⟨"tuple",_,PySem.W.kitx_tuple,⟨o,h1,h2⟩,(fun z=>nomatch z),by simp,fun T b e=>by
   have hb:b = (T == .tuple):=by simpa [ZcN] using e.symm
   subst hb; cases T <;> rfl⟩
 | scr ds=>exact absurd (by simp [ZcN]) hd
 | ref n=>
  simp only [ZcN] at hd
  cases hn:M[n]? with
  | none=>exact absurd (by simp [hn]) hd
  | some o=>
   obtain ⟨a,ha,rfl⟩:=r.ref_inv
   cases o with
   | lst z=>
    obtain ⟨vs,ev,_⟩:=S.obj n _ a hn ha
    cases (show u = Value.ref a from ru)
    obtain ⟨_,_,n',_,h1⟩:=(show Zbq X.prog X.w H s.heap a (.lst vs) from I.hok a _ ev)
    exact ⟨"list",_,PySem.W.kitx_list,⟨_,h1,rfl⟩,(fun z=>nomatch z),by simp,fun T b e=>by
     have hb:b = (T == .list):=by simpa [ZcN,hn] using e.symm
     subst hb; cases T <;> rfl⟩
   | dct z=>
    obtain ⟨vs,ev,_⟩:=S.obj n _ a hn ha
    cases (show u = Value.ref a from ru)
    obtain ⟨_,_,vs',_,q⟩:=(show Zbq X.prog X.w H s.heap a (.dK vs) from I.hok a _ ev)
    obtain ⟨o,es,ep,h1,h2,_⟩:=q
    exact ⟨"dict",_,PySem.W.kitx_dict,⟨o,h1,h2.1⟩,(fun z=>nomatch z),by simp,fun T b e=>by
     have hb:b = false:=by simpa [ZcN,hn] using e.symm
     subst hb; cases T <;> rfl⟩
   | fdct z=>exact absurd (by simp [hn]) hd
   | ins _ _=>exact absurd (by simp [hn]) hd
theorem ZkU (T1 T2:Ty3) {x y:Str} {k} (hm:X.mg "isinstance" = none) (hm1:X.mg x = none) (hm2:X.mg y = none) (h:C3 X a f) (hx:x = (Str.ofString (tyN T1)):=by rfl) (hy:y = (Str.ofString (tyN T2)):=by rfl) (hg:Gl X "isinstance":=by rfl) (hg1:Gl X x:=by rfl) (hg2:Gl X y:=by rfl)
  (hn:x ≠ "__name__":=by decide) (hd:(x == ("__debug__":Str)) = false:=by decide) (hn':y ≠ "__name__":=by decide) (hd':(y == ("__debug__":Str)) = false:=by decide)
  (hs:starEach (a :: [.Tuple [.Name x p1,.Name y p2] k pt]) X.env = (false,eval a X.env) :: starEach [.Tuple [.Name x p1,.Name y p2] k pt] X.env:=by rfl) (hs1:starEach (.Tuple [.Name x p1,.Name y p2] k pt :: []) X.env = (false,eval (.Tuple [.Name x p1,.Name y p2] k pt) X.env) :: starEach [] X.env:=by rfl)
  (hs2:starEach (.Name x p1 :: [.Name y p2]) X.env = (false,eval (.Name x p1) X.env) :: starEach [.Name y p2] X.env:=by rfl) (hs3:starEach (.Name y p2 :: []) X.env = (false,eval (.Name y p2) X.env) :: starEach [] X.env:=by rfl)
  (hpl:(backTo pos (starEach [.Tuple [.Name x p1,.Name y p2] k pt] X.env)).any (·.1) = false:=by rfl):C3 X (.Call (.Name "isinstance" p) [a,.Tuple [.Name x p1,.Name y p2] k pt] [] pos) (e1 (ZfG T1 T2) f):=by
 subst hx hy
 have hc:Za3 X (.builtin "isinstance") (fun xs H Q=>∃ ι M d x q,xs = [x,.ref q] ∧ H q = some (.tup [.ty (tyN T1),.ty (tyN T2)]) ∧ Zau X.K H ι M ∧ Rep X.K H ι d x ∧ Zap X.K H ι Q (ZfG T1 T2 d M)):=by
  intro pins s σ H xs us Q I r q
  obtain ⟨ι,M,d,x,tp,rfl,et,S,rd,q⟩:=q
  obtain ⟨u,w',rfl,ru,rw'⟩:=vals2 r
  cases rw'
  unfold ZfG at q
  cases e1:ZcN T1 d M with
  | none=>rw [e1] at q; exact q.elim
  | some b1=>
   cases e2:ZcN T2 d M with
   | none=>rw [e1,e2] at q; exact q.elim
   | some b2=>
    rw [e1,e2] at q
    have hd:ZcN .int d M ≠ none:=fun z=>by
     cases d with
     | ref n=>
      simp only [ZcN] at z e1
      cases hn:M[n]? with
      | none=>simp [hn] at e1
      | some o=>cases o <;> simp [hn] at z e1
     | scr _=>simp [ZcN] at e1
     | _=>simp [ZcN] at z
    obtain ⟨t,Hc,kx,hh,hl,ht,hb⟩:=ZiK I S rd ru hd
    obtain ⟨_,its,rt,pt⟩:=(show Zbq X.prog X.w H s.heap tp (.tup [.ty (tyN T1),.ty (tyN T2)]) from I.hok tp _ et)
    obtain ⟨v1,v2,rfl,q1,q2⟩:=vals2 rt
    cases q1; cases q2
    obtain ⟨ob,g1,⟨g2,g3⟩,n,g4⟩:=pt
    have ho:ob = { cls:=.type "tuple",dict:=ob.dict,data:=.seq [.type (tyN T1),.type (tyN T2)].toArray n,slots:=ob.slots }:=by
     cases ob; simp only at g2 g4; subst g2 g4; rfl
    rw [ho] at g1
    refine PySem.W.kia_tup kx I.kIn hh g1 ((Zn0 X.K t T1 T2 ht).trans ?_) hl fun tk=>⟨.bl (b1 || b2),H,I.tok _,rfl,Zap.ok q S Rep.bl⟩
    rw [hb T1 b1 e1,hb T2 b2 e2]
 refine (Zg6 hc hg hm Zfa (Zea h (Zea (Zma (Zea (Zin hg1 hm1 (ZmK T1) (v:=.ty (tyN T1)) rfl hn hd) (Zea (Zin hg2 hm2 (ZmK T2) (v:=.ty (tyN T2)) rfl hn' hd') ZiS hs3) hs2)) ZiS hs1) hs) (by decide) (by decide) hs hpl).imp fun σ H Q zz1=>?_
 obtain ⟨ι,M,env,S,E,h⟩:=zz1
 obtain ⟨d,M1,e1,h⟩:=Zap.bind h
 refine ⟨ι,M,env,S,E,?_⟩
 rw [e1]
 intro v H1 ι1 x1 S1 r1
 refine ⟨by simp; exact Nat.le_trans (by decide) ZbY,fun q hq=>?_⟩
 have x2:Ext X.K H1 ι1 (upd H1 q (.tup [.ty (tyN T1),.ty (tyN T2)])) ι1:=Loose.ext (.inl hq)
 exact ⟨ι1,M1,d,v,q,rfl,Zch,S1.other (.inl hq) (S1.fresh hq),r1.mono x2,h.up (x1.trans x2)⟩
end
end L3
namespace L3
open PySem PySem.Spec PyProof.Rows L2
section
variable {X:Cx} {tg e:Expr} {pos:Pos} {f:E3} {g:G3}
theorem ZjS (he:C3 X e f) (hg:CG X tg g) (hs:swapsWithSole [tg] e pos.line X.env = pure false:=by rfl) (hw:swappedStores [tg] e X.env = pure none:=by rfl)
  (h1:(assignEach [tg] X.env).map (·.2) = [assign tg X.env]:=by rfl):CS X (.Assign [tg] e pos) (Zg1 f g):=(Zkr he hg hs hw h1).imp fun D σ H zz1=>by
 obtain ⟨ι,M,env,S,E,h⟩:=zz1
 refine ⟨ι,M,env,S,E,?_⟩
 unfold Zg1 at h
 cases q:f env M with
 | ok d M1=>
  rw [q] at h
  cases qg:g d env with
  | none=>simp only [qg] at h; exact h.elim
  | some env1=>
   simp only [qg] at h
   exact fun v H1 ι1 x1 S1 r1=>⟨ι1,M1,env,d,env1,S1,E.mono x1,r1,qg,fun σ' E'=>h σ' H1 ι1 x1 S1 E'⟩
 | exc x M1=>rw [q] at h; exact h.elim
 | bad=>rw [q] at h; exact h.elim
end
section
variable {X:Cx} {tg e elt:Expr} {ifs:List Expr} {pos:Pos} {f fe:E3} {ts:List E3} {g:G3} {scope:Scope} {N':List Str} {own:Nat}
end
noncomputable def ZrD (K:PySem.W.Frag) (H:Hp) (ι:List Addr) (it:ItL) (J:It):Prop:=∀ (i:Nat) H2 ι2 M2,Ext K H ι H2 ι2 → Zau K H2 ι2 M2 → Zdh it.lk M2 = true →
 (∀ d,it.items[i]? = some d → J.go i H2 ∧ ∀ x H3,J.yld i H2 x H3 → Ext K H2 ι2 H3 ι2 ∧ Zau K H3 ι2 M2 ∧ Rep K H3 ι2 d x) ∧ (i = it.items.length → J.stop i H2)
noncomputable def Zjz (K:PySem.W.Frag) (H:Hp) (ι:List Addr) (R:It → Hp → Prop) (r:R3 ItL):Prop:=match r with
 | .ok it M'=>∀ J H' ι',Ext K H ι H' ι' → Zau K H' ι' M' → ZrD K H' ι' it J → R J H'
 | _=>False
noncomputable def tIL (K:PySem.W.Frag) (g:IL3):TI:=fun σ H R=>∃ ι M env,Zau K H ι M ∧ ZbG K H ι env σ ∧ Zjz K H ι R (g env M)
noncomputable def CIL (X:Cx) (tg e:Expr) (g:IL3):Prop:=PI X tg e (tIL X.K g)
theorem Zjz.bind {K:PySem.W.Frag} {H:Hp} {ι:List Addr} {α:Type} {Q:It → Hp → Prop} {r:R3 α} {k:α → Store → R3 ItL} (h:Zjz K H ι Q (r.bind k)):∃ a M,r = .ok a M ∧ Zjz K H ι Q (k a M):=by
 cases r with
 | ok a M=>exact ⟨a,M,rfl,h⟩
 | exc x M=>exact h.elim
 | bad=>exact h.elim
section
variable {X:Cx} {tg:Expr} {pos:Pos}
theorem ZnN {iter:Expr} {body:List Stmt} {i:IL3} {g:G3} {u:S3} (hxe:X.xe = fun _ _=>False) (hc:X.calm = true) (hi:CIL X tg iter i) (hg:CG X tg g) (hb:CSs X body u) (hs:∀ x,foldedSetIterable iter X.env x = pure x:=by intro _; rfl):
  CS X (.For tg iter body [] pos) (ZkL i g u):=(Zmq (by rw [hxe]; exact PassesOwn.never) hc hi hg hb hs).imp fun D σ H zz1=>by
 obtain ⟨ι,M,env,S,E,h⟩:=zz1
 unfold ZkL at h
 cases q:i env M with
 | exc x M1=>rw [q] at h; exact h.elim
 | bad=>rw [q] at h; exact h.elim
 | ok it M1=>
  rw [q] at h
  refine ⟨ι,M,env,S,E,?_⟩
  rw [q]
  intro J H1 ι1 x1 S1 ok
  refine ⟨fun i m σ2 H2=>m = it.items.length - i ∧ i ≤ it.items.length ∧ ∃ ι2 M2 env2,Ext X.K H1 ι1 H2 ι2 ∧ Zau X.K H2 ι2 M2 ∧ ZbG X.K H2 ι2 env2 σ2 ∧ ZeU X.K H2 ι2 D (Ze6 it.lk g u (it.items.drop i) env2 M2),
   ⟨_,rfl,Nat.zero_le _,ι1,M1,env,Ext.refl,S1,E.mono x1,ZeU.up x1 h⟩,?_⟩
  rintro i m σ2 H2 ⟨rfl,hi,ι2,M2,env2,x2,S2,E2,h2⟩
  by_cases hlt:i < it.items.length
  ·have hd:it.items[i]? = some it.items[i]:=by simp [hlt]
   rw [List.drop_eq_getElem_cons hlt] at h2
   unfold Ze6 at h2
   by_cases lk:Zdh it.lk M2 = true
   ·rw [if_pos lk] at h2
    obtain ⟨go,yl⟩:=(ok i H2 ι2 M2 x2 S2 lk).1 _ hd
    cases eg:g it.items[i] env2 with
    | none=>rw [eg] at h2; exact h2.elim
    | some env3=>
     rw [eg] at h2
     refine .inr ⟨go,fun σ' H'=>∃ ι3 M3 env4,Ext X.K H2 ι2 H' ι3 ∧ Zau X.K H' ι3 M3 ∧ ZbG X.K H' ι3 env4 σ' ∧ ZeU X.K H' ι3 D (Ze6 it.lk g u (it.items.drop (i + 1)) env4 M3),
      fun σ' H' ⟨ι3,M3,env4,x3,S3,E3,h3⟩=>⟨it.items.length - (i + 1),lD 2 0x30113c2012a1c0c21 T1 (Nat.sub_add_cancel (lB 1 6991908881 T1 hlt)) (sbA _ _),rfl,hlt,ι3,M3,env4,x2.trans x3,S3,E3,h3⟩,fun x H' hy=>?_⟩
     obtain ⟨x7,S7,rx⟩:=yl x H' hy
     refine ⟨ι2,M2,env2,_,env3,S7,E2.mono x7,rx,eg,fun σ' E'=>⟨ι2,M2,env3,S7,E',?_⟩⟩
     have h2':=ZeU.up x7 h2
     cases qu:u env3 M2 with
     | nx e' M'=>simp only [qu] at h2'; exact fun σ' H' ι' x' S' E'=>⟨ι',M',e',x7.trans x',S',E',h2'.up x'⟩
     | ct e' M'=>simp only [qu] at h2'; exact fun σ' H' ι' x' S' E'=>⟨ι',M',e',x7.trans x',S',E',h2'.up x'⟩
     | bk e' M'=>simp only [qu] at h2'; exact h2'
     | rt d M'=>simp only [qu] at h2'; exact h2'
     | exc x' M'=>simp only [qu] at h2'; exact h2'.elim
     | bad=>simp only [qu] at h2'; exact h2'.elim
   ·rw [if_neg lk] at h2; exact h2.elim
  ·have e0:i = it.items.length:=Nat.le_antisymm hi (Nat.le_of_not_lt hlt)
   subst e0
   rw [List.drop_length] at h2
   unfold Ze6 at h2
   by_cases lk:Zdh it.lk M2 = true
   ·rw [if_pos lk] at h2
    exact .inl ⟨(ok _ H2 ι2 M2 x2 S2 lk).2 rfl,h2 σ2 H2 ι2 Ext.refl S2 E2⟩
   ·rw [if_neg lk] at h2; exact h2.elim
end
theorem _root_.L2.Inv.turnedL {X:Cx} {pins:List (Addr × Obj)} {σ:St} {H:Hp} {s:Shared} {h':Heap} {t':Nat} {fp:List Addr} (I:Inv X pins σ H s) (k:∀ b o,b ∉ fp → s.heap.get? b = some o → h'.get? b = some o) (hf:∀ b ∈ fp,ZfB X pins H b):
  Inv X pins σ H { s with heap:=h',toks:=t' }:=by
 have nit:∀ b u,H b = some u → b ∉ fp:=fun b u e z=>by rw [(hf b z).1] at e; cases e
 refine I.step (g':=s.gens) (d':=s.drawn) (ch:=fp) (fun b hb=>⟨(hf b hb).2.2.2.1,(hf b hb).2.1,(hf b hb).2.2.2.2.1,(hf b hb).2.2.2.2.2⟩) (fun b o _ _ hc e _=>k b o hc e) (fun b o _ _ hc e _=>⟨o.slots,k b o hc e⟩) (fun _ _ _ _ n=>n)
  (fun b o hc e=>⟨o,k b o hc e⟩) (fun _ _ e=>e) (fun _ _ _ e=>e) (fun b ps e=>⟨#[],by rw [e]; simp⟩) (fun m hm=>?_) (fun b u e=>?_) I.bare
 ·obtain ⟨o,es,ep,ho,r⟩:=hm
  exact ⟨o,es,ep,k _ o (fun z=>(hf _ z).2.1 rfl) ho,r⟩
 ·refine (I.hok b u e).stay (fun c v hc q=>k c v ?_ q) (fun _ q=>q) fun _ _ q=>q
  rcases hc with z | z
  ·rw [z]; exact nit b u e
  ·exact nit c _ z
noncomputable def Ite (S:Hp → List V → Prop):It:=⟨fun i H=>∃ xs x,S H xs ∧ xs[i]? = some x,fun i H x H'=>∃ T y,x = .ref T ∧ H T = none ∧ H' = upd H T (.tup [.int i,y]) ∧ ∀ xs,S H xs → xs[i]? = some y,fun i H=>∃ xs,S H xs ∧ xs.length ≤ i⟩
theorem Zie {X:Cx} {pins:List (Addr × Obj)} {σ:St} {H:Hp} {s:Shared} {h' h'':Heap} {e it:Addr} {i:Nat} {x:V} {u:Value} {tk tk':Nat} (I:Inv X pins σ H s) (hf:∀ b ∈ [e,it],ZfB X pins H b) (he:e < s.heap.objs.size) (hi:it < s.heap.objs.size) (ru:RelV x u)
  (hT:h'.get? s.heap.objs.size = some { cls:=.type "tuple",data:=.seq #[.int i tk,u] }) (hk:∀ b o,b ≠ e → b ≠ it → s.heap.get? b = some o → h'.get? b = some o) (hs:Heap.SameBut e h' h''):
  Inv X pins σ (upd H s.heap.objs.size (.tup [.int i,x])) { s with heap:=h'',toks:=tk' } ∧ ∀ b ∈ [e,it],upd H s.heap.objs.size (.tup [.int i,x]) b = none:=by
 have hn:∀ b ∈ [e,it],upd H s.heap.objs.size (.tup [.int i,x]) b = none:=fun b hb=>by
  have:b ≠ s.heap.objs.size:=by
   simp only [List.mem_cons,List.not_mem_nil,or_false] at hb
   rcases hb with rfl | rfl
   ·exact Nat.ne_of_lt he
   ·exact Nat.ne_of_lt hi
  rw [Za5 this]; exact (hf b hb).1
 refine ⟨?_,hn⟩
 have I1:Inv X pins σ (upd H s.heap.objs.size (.tup [.int i,x])) { s with heap:=s.heap.push { cls:=.type "tuple",data:=.seq ([.int i tk,u]:List Value).toArray },toks:=s.toks }:=
  I.laid (t':=s.toks) (fun b o e=>Heap.get?_push_of_some _ e) (Nat.le_refl _) (show Zbq X.prog X.w _ _ _ (.tup [.int i,x]) from ⟨by rw [sizeLine_eq]; show 2 ≤ _; decide,[.int i tk,u],.cons ⟨tk,rfl⟩ (.cons ru .nil),Zds.new _ _⟩)
 have I3:=I1.turnedL (t':=tk') (h':=h'') (fp:=[e,it]) (fun b o hb q=>by
  have hbe:b ≠ e:=fun z=>hb (by simp [z])
  have hbi:b ≠ it:=fun z=>hb (by simp [z])
  rcases Heap.get?_push_cases q with ⟨rfl,rfl⟩ | q
  ·exact (hs.2 _ (Nat.ne_of_gt he)).trans hT
  ·exact (hs.2 _ hbe).trans (hk b o hbe hbi q)) fun b hb=>⟨hn b hb,(hf b hb).2⟩
 exact I3
theorem Zj3 {P:Program} {w:World} {K:PySem.W.Frag} {es:List Expr} {k:Nat} {pos:Pos} (a e it:Addr) (hne:e ≠ it):
  Turn P w K (.Tuple es k pos) (Ite fun H xs=>SqL K H a xs) [e,it] e (fun i h=>(∃ old,IsEnum h e it i old) ∧ h.IsListIter it a i) where
 mem:=by simp
 obj:=fun i h st b hb=>by
  obtain ⟨⟨old,he⟩,o,ho,c,d⟩:=st
  simp only [List.mem_cons,List.not_mem_nil,or_false] at hb
  rcases hb with rfl | rfl
  ·exact ⟨_,he,fun v z=>by cases z⟩
  ·exact ⟨o,ho,fun v z=>by rw [d] at z; cases z⟩
 keep:=fun i h h' st k=>by
  obtain ⟨⟨old,he⟩,hit⟩:=st
  exact ⟨⟨old,k e (by simp) _ he⟩,hit.at fun o q=>k it (by simp) o q⟩
 item:=by
  intro X hP hw hK hc i pins s σ H E I hf st hg
  subst hP hw hK
  obtain ⟨xs,x,hq,hx⟩:=hg
  obtain ⟨its,rv,p,hz⟩:=I.list hq
  obtain ⟨u,hu,ru⟩:=rv.get hx
  obtain ⟨⟨old,he⟩,hit⟩:=st
  have hel:=Heap.lt_size he
  have hil:it < s.heap.objs.size:=by obtain ⟨o,ho,_⟩:=id hit; exact Heap.lt_size ho
  refine wpAny_pyNext_enum_item he hit p.isList (x:=u) (by simpa using hu) hne fun h' ho hit' hT hsz hk=>?_
  refine ⟨_,rfl,wpAny_letOwnedTupleGo_enum (s:={ s with heap:=h',toks:=s.toks + 1 }) ho fun h'' he'' hs''=>?_⟩
  obtain ⟨I2,n2⟩:=Zie (x:=x) (tk':=s.toks + 1) I hf hel hil ru hT hk hs''
  exact ⟨.ref s.heap.objs.size,_,I2,rfl,⟨_,x,rfl,I.hok.fresh (Nat.le_refl _),rfl,fun ys hy=>by rw [I.list_inj hy hq]; exact hx⟩,⟨⟨_,by simpa using he''⟩,hit'.extBut hs''.extBut (Ne.symm hne)⟩,n2⟩
 done:=by
  intro X hP hw hK hc i pins s σ H E I hf st hg
  subst hP hw hK
  obtain ⟨xs,hq,hx⟩:=hg
  obtain ⟨its,rv,p,hz⟩:=I.list hq
  obtain ⟨⟨old,he⟩,hit⟩:=st
  have hl:=rv.length
  exact wpAny_pyNext_enum_end (I.ok.hd hc) he hit p.isList (by simp; exact lC 2 2268279672881 T1 hl hx) fun h' eb=>⟨rfl,I.turnedL (t':=s.toks) (fun b o hb q=>eb b o (fun z=>hb (by simp [z])) q) hf⟩
 self:=fun _ _ _ _ _ st h=>by
  obtain ⟨⟨old,he⟩,_⟩:=st
  exact wpAny_pyIter_enum he h
theorem boot_enumerate:bootBuiltins "enumerate" = some (.type "enumerate"):=by decide +kernel
end L3
namespace L3
open PySem PySem.Spec PyProof.Rows L2
open AutoSeq1 (wpAny_loadPart')
set_option maxRecDepth 100000
section
variable {prog:Program} {w:World} {A:Around} {E:Value → Shared → Prop} {s:Shared}
theorem ZfO {it t:Addr} {i:Nat} {items:Array Value} {x:Value} {Q:Value → Shared → Prop} (hit:s.heap.IsTupleIter it t i) (ht:s.heap.IsTuple t items) (hx:items[i]? = some x)
  (hQ:∀ h',h'.IsTupleIter it t (i + 1) → Heap.SameBut it s.heap h' → Q x { s with heap:=h' }):wpAny (model prog w) A (Builtin.SmallTypes.nextOf (.ref it)) Q E s:=by
 obtain ⟨o,ho,hc,hd⟩:=id hit
 obtain ⟨ol,hol,_,nl,hdl⟩:=ht
 unfold Builtin.SmallTypes.nextOf
 refine wpAny_bind (wpAny_callSpecial?_slot (name:=Str.ofString "__next__") hit.typeIs slot_tupleiter_next
  (wpAny_call_entry slot_tupleiter_next hit.typeIs entry_tupleiter_next ?_ (args_tupleiter_next _)))
 show wpAny _ _ (field (.ref it) 0 >>= _) _ _ s
 refine wpAny_bind (wpAny_field ho hd (x:=.ref t) rfl ?_)
 show wpAny _ _ (if (Value.ref t == Value.none) = true then _ else _) _ _ s
 rw [if_neg (show ¬ ((Value.ref t == Value.none) = true) from Bool.false_ne_true)]
 show wpAny _ _ (field (.ref it) 1 >>= _) _ _ s
 refine wpAny_bind (wpAny_field ho hd (x:=.int i 0) rfl ?_)
 show wpAny _ _ (seqItems? (.ref t) >>= _) _ _ s
 refine wpAny_bind (wpAny_seqItems hol hdl ?_)
 simp only [Int.toNat_natCast,hx]
 refine wpAny_bind (wpAny_setField ho hd (by simp) (wpAny_pure ⟨x,rfl,wpAny_pure (hQ _ ?_ (Heap.SameBut.update ..))⟩))
 exact ⟨_,Heap.get?_update_self _ ho (Obj.isFreed_of_fields (Obj.data_mapFields hd _)),(Obj.cls_mapFields ..).trans hc,by
  rw [Obj.data_mapFields hd]; simp [rawInt]⟩
theorem Zd1 {it t:Addr} {i:Nat} {items:Array Value} {Q:Value → Shared → Prop} (hh:A.handled = none) (hit:s.heap.IsTupleIter it t i) (ht:s.heap.IsTuple t items) (hx:items[i]? = none)
  (hE:∀ h' e,Heap.ExtBut it s.heap h' → (∃ o,h'.get? e = some o ∧ o.cls = .type "StopIteration") → E (.ref e) { s with heap:=h' }):wpAny (model prog w) A (Builtin.SmallTypes.nextOf (.ref it)) Q E s:=by
 obtain ⟨o,ho,hc,hd⟩:=id hit
 obtain ⟨ol,hol,_,nl,hdl⟩:=ht
 unfold Builtin.SmallTypes.nextOf
 refine wpAny_bind (wpAny_callSpecial?_slot (name:=Str.ofString "__next__") hit.typeIs slot_tupleiter_next
  (wpAny_call_entry slot_tupleiter_next hit.typeIs entry_tupleiter_next ?_ (args_tupleiter_next _)))
 show wpAny _ _ (field (.ref it) 0 >>= _) _ _ s
 refine wpAny_bind (wpAny_field ho hd (x:=.ref t) rfl ?_)
 show wpAny _ _ (if (Value.ref t == Value.none) = true then _ else _) _ _ s
 rw [if_neg (show ¬ ((Value.ref t == Value.none) = true) from Bool.false_ne_true)]
 show wpAny _ _ (field (.ref it) 1 >>= _) _ _ s
 refine wpAny_bind (wpAny_field ho hd (x:=.int i 0) rfl ?_)
 show wpAny _ _ (seqItems? (.ref t) >>= _) _ _ s
 refine wpAny_bind (wpAny_seqItems hol hdl ?_)
 simp only [Int.toNat_natCast,hx]
 refine wpAny_bind (wpAny_rule (wpAny_bind (wpAny_setField ho hd (by simp) ?_)))
 show wpAny _ _ (newExc (.type "StopIteration") [] >>= _) _ _ _
 refine wpAny_bind ?_
 simp only [newExc,newTuple]
 refine wpAny_bind (wpAny_newObj_type ?_ (by size_fits))
 refine wpAny_bind (m:=firstArgMember _ _) (wpAny_of_eq (a:=Value.none) (by first | rfl | (simp only [firstArgMember]; rfl)) ?_)
 refine wpAny_newObj_type ?_ (by size_fits)
 simp only [raiseNew]
 refine wpAny_bind (wpAny_handled ?_)
 first | rw [show A.in1.handled = none from hh] | rw [hh]
 refine wpAny_bind (wpAny_pure (wpAny_throw ?_))
 exact hE _ _ (((Heap.SameBut.update ..).extBut.push _).push _) ⟨_,Heap.get?_push_size _ rfl,rfl⟩
end
theorem ZjA {prog:Program} {w:World} {A:Around} (hh:A.handled = none) (it l:Addr) (hne:l ≠ it) (items:Array Value):
  Draws prog w A it [it,l] items.size (fun i v=>items[i]? = some v) (fun i h=>h.IsTupleIter it l i ∧ h.IsTuple l items) where
 live:=fun _ _ st=>let ⟨o,ho,_⟩:=st.1; ⟨o,ho⟩
 frame:=fun _ _ _ st hk=>⟨st.1.at fun o e=>hk it (by simp) o e,st.2.at fun o e=>hk l (by simp) o e⟩
 item:=fun i s Q E hi st hQ=>by
  refine ZfO st.1 st.2 (x:=items[i]) (by simp [hi]) fun h' hit' hs'=>?_
  exact hQ _ h' s.toks (by simp [hi]) ⟨hit',st.2.extBut hs'.extBut hne⟩ hs'
 done:=fun s Q E st hE=>Zd1 hh st.1 st.2 (by simp) hE
theorem ZeD (l:Addr) (items:Array Value) (n:Nat) (dct:Option Addr) (sl:Array (Option Value)):
  Meets (Builtin.«enumerate.__new__» ⟨[.type "enumerate",.ref l],[]⟩) (fun _ R s=>s.heap.get? l = some { cls:=.type "tuple",dict:=dct,data:=.seq items n,slots:=sl } ∧
   R (.ok (.ret (.ref (s.heap.push { cls:=.type "tuple_iterator",data:=.fields #[.ref l,.int 0 0] }).objs.size)))
    { s with heap:=(s.heap.push { cls:=.type "tuple_iterator",data:=.fields #[.ref l,.int 0 0] }).push { cls:=.type "enumerate",data:=.fields #[.none,.bool false,.ref s.heap.objs.size,rawInt 0,.none,.none] } }):=
 .of_wp fun prog w A R s h=>by
  obtain ⟨hp,g,d,tk,os⟩:=s; obtain ⟨hl,h⟩:=h
  have hsub:=sub_enumerate
  have hL:Heap.IsTuple (Shared.heap ⟨hp,g,d,tk,os⟩) l items:=⟨_,hl,rfl,n,rfl⟩
  wp_walk using wpAny_loadPart' hl
  refine wpAny_stack_any fun st=>wpAny_pure ?_
  split
  ·rename_i c _ _ _ _ _
   cases (c == Value.type "enumerate")
   ·wp_walk using wpAny_loadPart' hl,wpAny_pyIter_tuple hL
    exact ⟨_,rfl,h⟩
   ·wp_walk using wpAny_loadPart' hl,wpAny_pyIter_tuple hL
    exact ⟨_,rfl,h⟩
  ·wp_walk using wpAny_loadPart' hl,wpAny_pyIter_tuple hL
   exact ⟨_,rfl,h⟩
theorem Zex {prog:Program} {w:World} {A:Around} {E:Value → Shared → Prop} {s:Shared} {l:Addr} {items:Array Value} {Q:Value → Shared → Prop} (hL:s.heap.IsTuple l items)
  (h:∀ h',IsEnum h' (s.heap.objs.size + 1) s.heap.objs.size 0 .none → h'.IsTupleIter s.heap.objs.size l 0 → h'.objs.size = s.heap.objs.size + 2 →
   (∀ b o,s.heap.get? b = some o → h'.get? b = some o) → Q (.ref (s.heap.objs.size + 1)) { s with heap:=h' }):
  wpAny (model prog w) A (call (.type "enumerate") [.ref l]) Q E s:=by
 obtain ⟨⟨c,dct,dt,sl⟩,hl,hc,n,hd⟩:=hL
 replace hc:c = .type "tuple":=hc
 replace hd:dt = .seq items n:=hd
 subst hc hd
 refine callType_new F.called_enumerate (by decide) (F.typeCall_enumerate_1 _) (F.newCall_enumerate_1 _) (fun obj=>F.args_object_init_2 obj _) F.entry_enumerate_new
  (ZeD l items n dct sl) ⟨hl,?_⟩
 have hz:(s.heap.push { cls:=.type "tuple_iterator",data:=.fields #[.ref l,.int 0 0] }).objs.size = s.heap.objs.size + 1:=Heap.size_push ..
 show _ ∧ _
 rw [hz]
 have he:IsEnum ((s.heap.push { cls:=.type "tuple_iterator",data:=.fields #[.ref l,.int 0 0] }).push
   { cls:=.type "enumerate",data:=.fields #[.none,.bool false,.ref s.heap.objs.size,rawInt 0,.none,.none] }) (s.heap.objs.size + 1) s.heap.objs.size 0 .none:=by
  have:=Heap.get?_push_size (s.heap.push { cls:=.type "tuple_iterator",data:=.fields #[.ref l,.int 0 0] })
   (o:={ cls:=.type "enumerate",data:=.fields #[.none,.bool false,.ref s.heap.objs.size,rawInt 0,.none,.none] }) rfl
  rw [hz] at this; exact this
 refine ⟨⟨_,he,rfl⟩,h _ he ⟨_,Heap.get?_push_of_some _ (Heap.get?_push_size _ rfl),rfl,rfl⟩ (by rw [Heap.size_push,hz]) fun b o x=>Heap.get?_push_of_some _ (Heap.get?_push_of_some _ x)⟩
theorem Zko {P:Program} {w:World} {K:PySem.W.Frag} {es:List Expr} {k:Nat} {pos:Pos} (a e it:Addr) (hne:e ≠ it):
  Turn P w K (.Tuple es k pos) (Ite fun H xs=>SqT K H a xs) [e,it] e (fun i h=>(∃ old,IsEnum h e it i old) ∧ h.IsTupleIter it a i) where
 mem:=by simp
 obj:=fun i h st b hb=>by
  obtain ⟨⟨old,he⟩,o,ho,c,d⟩:=st
  simp only [List.mem_cons,List.not_mem_nil,or_false] at hb
  rcases hb with rfl | rfl
  ·exact ⟨_,he,fun v z=>by cases z⟩
  ·exact ⟨o,ho,fun v z=>by rw [d] at z; cases z⟩
 keep:=fun i h h' st k=>by
  obtain ⟨⟨old,he⟩,hit⟩:=st
  exact ⟨⟨old,k e (by simp) _ he⟩,hit.at fun o q=>k it (by simp) o q⟩
 item:=by
  intro X hP hw hK hc i pins s σ H E I hf st hg
  subst hP hw hK
  obtain ⟨xs,x,hq,hx⟩:=hg
  obtain ⟨its,rv,p,hz⟩:=I.tuple hq
  obtain ⟨u,hu,ru⟩:=rv.get hx
  obtain ⟨⟨old,he⟩,hit⟩:=st
  have hel:=Heap.lt_size he
  have hil:it < s.heap.objs.size:=by obtain ⟨o,ho,_⟩:=id hit; exact Heap.lt_size ho
  have pt:s.heap.IsTuple a its.toArray:=p
  have hae:e ≠ a:=by
   rintro rfl
   obtain ⟨o,ho,hc,_⟩:=pt
   rw [he] at ho; cases ho
   exact absurd hc (by simp)
  have hai:a ≠ it:=by
   rintro rfl
   obtain ⟨o,ho,hc,_⟩:=pt
   obtain ⟨o',ho',hc',_⟩:=hit
   rw [ho'] at ho; cases ho
   rw [hc'] at hc
   exact absurd hc (by simp)
  have D:=ZjA (prog:=X.prog) (w:=X.w) (A:=X.A.in1) (I.ok.hd hc) it a hai its.toArray
  refine wpAny_pyNext_enum_itemD D he ⟨hit,pt⟩ (by simpa using (List.getElem?_eq_some_iff.mp hu).1) hne (by simp [hne,hae]) fun y h' tk hy ho hst hT hsz hk=>?_
  have ey:y = u:=by
   have:its.toArray[i]? = some u:=by simpa using hu
   rw [this] at hy; cases hy; rfl
  subst ey
  refine ⟨_,rfl,wpAny_letOwnedTupleGo_enum (s:={ s with heap:=h',toks:=tk + 1 }) ho fun h'' he'' hs''=>?_⟩
  obtain ⟨I2,n2⟩:=Zie (x:=x) (tk':=tk + 1) I hf hel hil ru hT hk hs''
  exact ⟨.ref s.heap.objs.size,_,I2,rfl,⟨_,x,rfl,I.hok.fresh (Nat.le_refl _),rfl,fun ys hy=>by rw [I.tuple_inj hy hq]; exact hx⟩,⟨⟨_,by simpa using he''⟩,hst.1.extBut hs''.extBut (Ne.symm hne)⟩,n2⟩
 done:=by
  intro X hP hw hK hc i pins s σ H E I hf st hg
  subst hP hw hK
  obtain ⟨xs,hq,hx⟩:=hg
  obtain ⟨its,rv,p,hz⟩:=I.tuple hq
  obtain ⟨⟨old,he⟩,hit⟩:=st
  have hl:=rv.length
  have pt:s.heap.IsTuple a its.toArray:=p
  have hT:s.TypeIs (.ref e) "enumerate":=⟨_,he,rfl⟩
  unfold pyNext
  refine wpAny_bind (wpAny_attempt (wpAny_callSpecial?_slot (name:=Str.ofString "__next__") hT F.slot_enumerate_next
   (wpAny_call_entry F.slot_enumerate_next hT F.entry_enumerate_next ?_ (F.args_enumerate_next_1 _))))
  show wpAny _ _ (field (.ref e) 2 >>= _) _ _ _
  refine wpAny_bind (wpAny_field he rfl (x:=.ref it) rfl ?_)
  refine wpAny_bind (Zd1 (I.ok.hd hc) hit pt (by simp; exact lC 2 2268279672881 T1 hl hx) fun h' x he' hx'=>?_)
  obtain ⟨o,ho,hc⟩:=hx'
  refine wpAny_bind (wpAny_isInstance (T:="StopIteration") (b:=true) ⟨o,ho,hc⟩ isSubtype_stop ?_)
  exact wpAny_pure ⟨rfl,I.turnedL (t':=s.toks) (fun b o hb q=>he' b o (fun z=>hb (by simp [z])) q) hf⟩
 self:=fun _ _ _ _ _ st h=>by
  obtain ⟨⟨old,he⟩,_⟩:=st
  exact wpAny_pyIter_enum he h
section
variable {X:Cx} {es:List Expr} {k:Nat} {a:Expr} {p pos tpos:Pos} {f:E3}
noncomputable def Zpo (K:PySem.W.Frag) (ta:TA):TI:=fun σ H R=>ta σ H fun vs H1=>∃ b,vs = [.ref b] ∧ ((∃ xs,SqL K H1 b xs ∧ R (Ite fun H xs=>SqL K H b xs) H1) ∨ ∃ xs,SqT K H1 b xs ∧ R (Ite fun H xs=>SqT K H b xs) H1)
theorem Zoq {ta:TA} (hg:Gl X "enumerate") (hm:X.mg "enumerate" = none) (ha:PA X [a] ta) (hs:starEach [a] X.env = [(false,eval a X.env)]:=by rfl):PI X (.Tuple es k tpos) (.Call (.Name "enumerate" p) [a] [] pos) (Zpo X.K ta):=by
 intro pins s σ H R I h
 refine Call_ (Zgb I hg hm boot_enumerate (PyProof.Rows.callWith_type1 (thn (ha pos pins s σ H _ I h) fun us s1 ⟨vs,H1,I1,r1,q1⟩=>?_) hs rfl))
 obtain ⟨b,e,q⟩:=q1
 subst e
 cases r1 with
 | cons r rr=>
  cases rr
  cases r
  have fp:∀ {h':Heap} {s2:Shared},∀ c ∈ [s1.heap.objs.size + 1,s1.heap.objs.size],ZfB X pins H1 c:=fun {h' s2} c hc=>by
   have hc':s1.heap.objs.size ≤ c:=by
    simp only [List.mem_cons,List.not_mem_nil,or_false] at hc
    rcases hc with rfl | rfl <;> omega
   exact I1.fpOk hc' (I1.hok.fresh hc')
  rcases q with ⟨xs,hq,q⟩ | ⟨xs,hq,q⟩
  ·obtain ⟨its,rv,pl,hz⟩:=I1.list hq
   refine call_enumerate_list pl.isList fun h' hE hI hsz hk=>?_
   have I2:Inv X pins σ H1 { s1 with heap:=h' }:=I1.kept (t':=s1.toks) hk
   exact wpAny_pyIter_enum (s:={ s1 with heap:=h' }) hE ⟨_,[s1.heap.objs.size + 1,s1.heap.objs.size],_,_,H1,rfl,I2,Zj3 b _ _ (Nat.succ_ne_self _),⟨⟨_,hE⟩,hI⟩,fp (h':=h') (s2:=s1),q⟩
  ·obtain ⟨its,rv,pl,hz⟩:=I1.tuple hq
   refine Zex (show s1.heap.IsTuple b its.toArray from pl) fun h' hE hI hsz hk=>?_
   have I2:Inv X pins σ H1 { s1 with heap:=h' }:=I1.kept (t':=s1.toks) hk
   exact wpAny_pyIter_enum (s:={ s1 with heap:=h' }) hE ⟨_,[s1.heap.objs.size + 1,s1.heap.objs.size],_,_,H1,rfl,I2,Zko b _ _ (Nat.succ_ne_self _),⟨⟨_,hE⟩,hI⟩,fp (h':=h') (s2:=s1),q⟩
theorem ZnJ (hm:X.mg "enumerate" = none) (h:C3 X a f) (hg:Gl X "enumerate":=by rfl) (hs:starEach [a] X.env = [(false,eval a X.env)]:=by rfl) (hs':starEach (a :: []) X.env = (false,eval a X.env) :: starEach [] X.env:=by rfl):CIL X (.Tuple es k tpos) (.Call (.Name "enumerate" p) [a] [] pos) (Zl0 f):=
 PI.imp (Zoq hg hm (Zd h Zm hs') hs) fun σ H R zz1=>by
  obtain ⟨ι,M,env,S,E,h⟩:=zz1
  obtain ⟨d,M1,e1,h⟩:=Zjz.bind h
  refine ⟨ι,M,env,S,E,?_⟩
  have e2:Zb f Zi env M = .ok [d] M1:=by unfold Zb; rw [e1]; rfl
  rw [e2]
  intro vs H1 ι1 x1 S1 r1
  obtain ⟨v,ws,rfl,r,q⟩:=r1.cons_inv
  have:=q.nil_inv
  subst this
  cases d with
  | tup ds=>
   obtain ⟨b,vs,rfl,s,r⟩:=r.tup_inv
   refine ⟨b,rfl,.inr ⟨vs,s,h _ H1 ι1 x1 S1 ?_⟩⟩
   intro i H2 ι2 M2 x S2 _
   refine ⟨fun d hd=>?_,fun hl=>⟨vs,x.tup _ _ s,by rw [r.length,hl,Zgc]; exact Nat.le_refl _⟩⟩
   rw [ZfY] at hd
   cases hq:ds[i]? with
   | none=>rw [hq] at hd; cases hd
   | some d0=>
    rw [hq] at hd
    simp only [Option.map_some,Nat.zero_add,Option.some.injEq] at hd
    subst hd
    obtain ⟨v,hv,rv⟩:=r.get hq
    refine ⟨⟨vs,v,x.tup _ _ s,hv⟩,fun y H3 hy=>?_⟩
    obtain ⟨T,y',rfl,hT,rfl,hall⟩:=hy
    have e:=hall vs (x.tup _ _ s)
    rw [hv] at e
    cases e
    exact S2.tupl hT (Zaf.cons Rep.int (Zaf.cons (rv.mono x) Zaf.nil))
  | ref n=>
   cases hm:M1[n]? with
   | none=>simp only [hm] at h; exact h.elim
   | some o=>
    cases o with
    | dct kvs=>simp only [hm] at h; exact h.elim
    | fdct kvs=>simp only [hm] at h; exact h.elim
    | ins _ _=>simp only [hm] at h; exact h.elim
    | lst ds=>
     simp only [hm] at h
     obtain ⟨b,ha,rfl⟩:=r.ref_inv
     obtain ⟨vs,q,r⟩:=S1.obj n _ b hm ha
     refine ⟨b,rfl,.inl ⟨vs,SqL.of q,h _ H1 ι1 x1 S1 ?_⟩⟩
     intro i H2 ι2 M2 x S2 lk
     have lk':M2[n]? = some (.lst ds):=by simpa [Zdh] using lk
     obtain ⟨vs2,q2,r2⟩:=S2.obj n _ b lk' (x.pre _ _ ha)
     refine ⟨fun d hd=>?_,fun hl=>⟨vs2,SqL.of q2,by rw [r2.length,hl,Zgc]; exact Nat.le_refl _⟩⟩
     rw [ZfY] at hd
     cases hq:ds[i]? with
     | none=>rw [hq] at hd; cases hd
     | some d0=>
      rw [hq] at hd
      simp only [Option.map_some,Nat.zero_add,Option.some.injEq] at hd
      subst hd
      obtain ⟨v,hv,rv⟩:=r2.get hq
      refine ⟨⟨vs2,v,SqL.of q2,hv⟩,fun y H3 hy=>?_⟩
      obtain ⟨T,y',rfl,hT,rfl,hall⟩:=hy
      have e:=hall vs2 (SqL.of q2)
      rw [hv] at e
      cases e
      exact S2.tupl hT (Zaf.cons Rep.int (Zaf.cons rv Zaf.nil))
  | _=>exact h.elim
end
end L3
namespace L3
open PySem PySem.Spec PyProof.Rows L2
open AutoSeq1 (wpAny_loadPart')
open PySem.SeqAt MeetsSeq
set_option maxRecDepth 100000
end L3
namespace L3
open PySem PySem.Spec PyProof.Rows L2
section
variable {X:Cx} {o i p j e:Expr} {pos:Pos} {f g h fo fi fp fj:E3}
end
end L3
namespace L3
open PySem PySem.Spec PyProof.Rows L2
section
variable {X:Cx}
theorem Zo1:bootBuiltins "min" = some (.builtin "min"):=by decide +kernel
theorem ZnT {K:PySem.W.Frag} {H:Hp} {ι:List Addr} {i j:Int} {xs:List V} (r:Zaf K H ι [.int i,.int j] xs):xs = [.int i,.int j]:=by
 obtain ⟨v1,vs1,rfl,q1,r⟩:=r.cons_inv
 obtain ⟨v2,vs2,rfl,q2,r⟩:=r.cons_inv
 have:=r.nil_inv
 subst this
 have e1:=q1.int_inv
 have e2:=q2.int_inv
 subst e1 e2
 rfl
theorem Zqn (hc:X.calm = true):Za3 X (.builtin "min") (rB X.K ZkW):=Za3.imp (Zll hc) fun xs H Q zz1=>by
 obtain ⟨ι,M,ds,S,rd,h⟩:=zz1
 unfold ZkW at h
 split at h
 ·exact ⟨_,_,ZnT rd,h _ H ι Ext.refl S Rep.int⟩
 ·exact h.elim
noncomputable def ofV:Value → D
 | .int i _=>.int i
 | .bool b=>.bl b
 | .str x _=>.str x.cps.toList
 | _=>.non
theorem Zla {K:PySem.W.Frag} {H:Hp} {ι:List Addr} {d:D} {v:V} {y:Value} (hf:ZaZ d = true) (r:Rep K H ι d v) (rv:RelV v y):ofV y = d:=by
 cases d with
 | non=>have:=r.non_inv; subst this; cases rv; rfl
 | bl b=>have:=r.bl_inv; subst this; cases rv; rfl
 | int i=>have:=r.int_inv; subst this; obtain ⟨t,rfl⟩:=rv; rfl
 | str x=>have:=r.str_inv; subst this; obtain ⟨t,rfl⟩:=rv; rfl
 | _=>simp [ZaZ] at hf
theorem Zk0 {K:PySem.W.Frag} {H:Hp} {ι:List Addr} {a:D}:∀ {ds:List D} {vs:List V} {its:List Value},Zaf K H ι ds vs → Vals vs its → ds.all ZaZ = true → (ds.any fun y=>deq y a) = its.any fun y=>deq (ofV y) a
 | [],vs,its,r,rv,_=>by
  have:=r.nil_inv
  subst this
  cases rv
  rfl
 | d :: ds,vs,its,r,rv,hf=>by
  obtain ⟨v,ws,rfl,r1,r2⟩:=r.cons_inv
  cases rv with
  | cons q rv=>
   simp only [List.all_cons,Bool.and_eq_true] at hf
   simp only [List.any_cons,Zk0 r2 rv hf.2,Zla hf.1 r1 q]
theorem ZoB:OpR X (compareOp .In) (r2 X.K Zge):=by
 intro pins s σ H x y v u Q I rx ry ⟨ι,M,a,b,S,ra,rb,h⟩
 unfold Zge at h
 cases b with
 | ref n=>
  cases hn:M[n]? with
  | none=>simp only [hn] at h; exact h.elim
  | some ob=>
   cases ob with
   | dct _=>simp only [hn] at h; exact h.elim
   | fdct _=>simp only [hn] at h; exact h.elim
   | ins _ _=>simp only [hn] at h; exact h.elim
   | lst ds=>
    simp only [hn] at h
    by_cases hf:(ZaZ a && ds.all ZaZ) = true
    ·rw [if_pos hf] at h
     rw [Bool.and_eq_true] at hf
     obtain ⟨p,hp,rfl⟩:=rb.ref_inv
     cases ry
     obtain ⟨vs,e1,r1⟩:=S.obj n _ p hn hp
     obtain ⟨its,rvs,pl,_⟩:=I.list (SqL.of e1)
     have he:∀ y,y ∈ its.toArray → SeqAt.EqAt X.A.in1 s y v (deq (ofV y) a):=fun y hy=>by
      have hy:y ∈ its:=by simpa using hy
      obtain ⟨j,hj⟩:=List.getElem?_of_mem hy
      have hjl:j < vs.length:=by rw [rvs.length]; exact (List.getElem?_eq_some_iff.mp hj).1
      obtain ⟨w,hw,rw'⟩:=rvs.get (List.getElem?_eq_getElem hjl)
      rw [hj] at hw; cases hw
      have hjd:j < ds.length:=by rw [← r1.length]; exact hjl
      obtain ⟨z,hz,rz⟩:=r1.get (List.getElem?_eq_getElem hjd)
      rw [List.getElem?_eq_getElem hjl] at hz; cases hz
      have hfl:=List.all_eq_true.mp hf.2 _ (List.getElem_mem hjd)
      rw [Zla hfl rz rw']
      exact Zdm X.A.in1 ds[j] a _ x y v hfl hf.1 rz ra rw' rx
     refine SeqAt.in_listAt (fun y=>deq (ofV y) a) pl.isList he ⟨.bl (ds.any fun y=>deq y a),H,I,?_,h _ H ι Ext.refl S Rep.bl⟩
     show (.bool _:Value) = .bool _
     rw [Zk0 r1 rvs hf.2]
     simp
    ·rw [if_neg hf] at h; exact h.elim
 | _=>exact h.elim
end
end L3
namespace L3
open PySem PySem.Spec PyProof.Rows L2
section
variable {prog:Program} {w:World} {A:Around} {E:Value → Shared → Prop} {s:Shared}
theorem ZhS {it t:Addr} {items:Array Value} (hne:t ≠ it):∀ (n i:Nat) (s:Shared) (Q:List Value → Shared → Prop),s.heap.IsListIter it t i → s.heap.IsList t items → i + n ≤ items.size →
  (∀ h',h'.IsListIter it t (i + n) → Heap.SameBut it s.heap h' → Q ((items.toList.drop i).take n) { s with heap:=h' }) → wpAny (model prog w) A (draw (.ref it) n) Q E s
 | 0,i,s,Q,hit,_,_,hQ=>by
  show wpAny _ _ (pure []) Q E s
  exact wpAny_pure (by simpa using hQ s.heap hit (Heap.SameBut.refl ..))
 | n + 1,i,s,Q,hit,ht,hle,hQ=>by
  have hlt:i < items.size:=lC 1 2204024704001 T1 hle
  show wpAny _ _ (pyNext (.ref it) >>= _) Q E s
  refine wpAny_bind (wpAny_pyNext_list_item hit ht (x:=items[i]) (by simp [hlt]) fun h₁ hit₁ hs₁=>?_)
  refine wpAny_bind (wpAny_holding (ZhS hne n (i + 1) _ _ hit₁ (ht.extBut hs₁.extBut hne) (lC 1 0x21a0cc02a1c0c01 T1 hle) fun h₂ hit₂ hs₂=>wpAny_pure ?_))
  have hd:items.toList.drop i = items[i] :: items.toList.drop (i + 1):=by simp [List.drop_eq_getElem_cons,hlt]
  have:=hQ h₂ (by rw [show i + (n + 1) = i + 1 + n by exact Nat.le_antisymm (lB 0 1790139547840 T1) (lB 0 0xa1c0c1a0cc0 T1)]; exact hit₂) (hs₁.trans hs₂)
  rw [hd,List.take_succ_cons] at this
  exact this
theorem Zf0 {t:Addr} {items:Array Value} {Q:List Value → Shared → Prop} (hh:A.handled = none) (ht:s.heap.IsList t items)
  (hQ:∀ h',Heap.ExtBut s.heap.objs.size s.heap h' → Q items.toList { s with heap:=h' }):wpAny (model prog w) A (unpackItems (.ref t) items.size none) Q E s:=by
 have hlt:t ≠ s.heap.objs.size:=by obtain ⟨o,ho,_⟩:=ht; exact Nat.ne_of_lt (Heap.lt_size ho)
 have hT:s.TypeIs (.ref t) "list":=by obtain ⟨o,ho,hc,_⟩:=ht; exact ⟨o,ho,hc⟩
 unfold unpackItems
 refine wpAny_bind ?_
 ·unfold notIterableAtAll
  refine wpAny_bind (wpAny_specialOf hT F.slot_list_iter.lookup ?_)
  refine wpAny_pure ?_
  simp only [Bool.false_eq_true,if_false]
  refine wpAny_bind (wpAny_holding (wpAny_pyIter_list ht ?_))
  have htp:(s.heap.push { cls:=.type "list_iterator",data:=.fields #[.ref t,.int 0 0] }).IsList t items:=ht.at fun o e=>Heap.get?_push_of_some _ e
  refine wpAny_bind (wpAny_holding (ZhS hlt items.size 0 _ _ ⟨_,Heap.get?_push_size _ rfl,rfl,rfl⟩ htp (lA 0 3776 T1) fun h₁ hit₁ hs₁=>?_))
  have hall:List.take items.size (List.drop 0 items.toList) = items.toList:=by
   rw [List.drop_zero]; exact List.take_of_length_le (by simp)
  rw [hall]
  rw [if_neg (by simp)]
  have ht₁:h₁.IsList t items:=htp.extBut hs₁.extBut hlt
  refine wpAny_bind (wpAny_holding (wpAny_pyNext_list_end hh hit₁ ht₁ (by simp) fun h₂ he₂=>?_))
  simp only [Option.isSome_none,Bool.false_eq_true,if_false]
  refine wpAny_pure (hQ h₂ fun b o hb e=>he₂ b o hb (hs₁.extBut b o hb (Heap.get?_push_of_some _ e)))
theorem ZfS {env:Env} {elts:List Expr} {x1} {pos:Pos} {t:Addr} {items:Array Value} {Q:Unit → Shared → Prop} (hh:A.handled = none) (ht:s.heap.IsList t items)
  (hn:(assignEach elts env).length = items.size) (hstar:(assignEach elts env).findIdx? (·.1) = none)
  (h:∀ h',Heap.ExtBut s.heap.objs.size s.heap h' → wpAny (model prog w) A (assignInOrder ((assignEach elts env).map (·.2)) items.toList) Q E { s with heap:=h' }):
  wpAny (model prog w) A (assign (.Tuple elts x1 pos) env (.ref t)) Q E s:=by
 rw [assign_Tuple]
 refine wpAny_bind (wpAny_standAt ?_)
 unfold unpack
 rw [hn,hstar]
 exact wpAny_bind (wpAny_holding (Zf0 hh ht h))
end
section
variable {X:Cx} {e:Expr} {es:List Expr} {pos:Pos} {f:E3}
noncomputable def Zsi (K:PySem.W.Frag) (n:Nat) (t:TGs):TG:=fun v σ H Q=>∃ a xs,v = .ref a ∧ SqL K H a xs ∧ xs.length = n ∧ t xs σ H Q
theorem Zo7 {k:Nat} {t:TGs} {n:Nat} (hc:X.calm = true) (h:PGs X es t)
  (hn:(assignEach es X.env).length = n:=by rfl) (hst:(assignEach es X.env).findIdx? (·.1) = none:=by rfl):PG X (.Tuple es k pos) (Zsi X.K n t):=by
 intro pins s σ H v u Q I r hw
 obtain ⟨a,xs,e1,hq,hl,hw⟩:=hw
 subst e1
 cases r
 obtain ⟨its,rv,ht,hz⟩:=I.list hq
 refine ZfS (I.ok.hd hc) ht.isList (by simp [hn,← hl,rv.length]) hst fun h' hx=>?_
 have I1:Inv X pins σ H { s with heap:=h' }:=I.kept (t':=s.toks) fun b o e=>hx b o (Nat.ne_of_lt (Heap.lt_size e)) e
 exact h pins _ σ H xs _ Q I1 (by simpa using rv) hw
theorem Zjy:∀ (is:List Nat) (ds:List D) (env env':Zat),bindAll is ds env = some env' → ds.length = is.length:=by
 intro is
 induction is with
 | nil=>intro ds env env' h; cases ds with | nil=>rfl | cons d ds=>cases h
 | cons i is ih=>intro ds env env' h; cases ds with | nil=>cases h | cons d ds=>simp [ih ds _ _ h]
theorem ZkQ {is:List Nat} {k:Nat} {tpos:Pos} (hc:X.calm = true) (he:C3 X e f) (h:CGs X es is)
  (hs:swapsWithSole [.Tuple es k tpos] e pos.line X.env = pure false:=by rfl) (hw:swappedStores [.Tuple es k tpos] e X.env = pure none:=by rfl)
  (h1:(assignEach [.Tuple es k tpos] X.env).map (·.2) = [assign (.Tuple es k tpos) X.env]:=by rfl)
  (hn:(assignEach es X.env).length = is.length:=by rfl) (hst:(assignEach es X.env).findIdx? (·.1) = none:=by rfl):CS X (.Assign [.Tuple es k tpos] e pos) (ZhW f is):=
 (Zkr he (Zo7 (n:=is.length) hc h hn hst) hs hw h1).imp fun D σ H zz1=>by
 obtain ⟨ι,M,env,S,E,hh⟩:=zz1
 refine ⟨ι,M,env,S,E,?_⟩
 unfold ZhW at hh
 cases q:f env M with
 | exc x M1=>rw [q] at hh; exact hh.elim
 | bad=>rw [q] at hh; exact hh.elim
 | ok d M1=>
  rw [q] at hh
  cases d with
  | ref n=>
   simp only at hh
   cases hm:M1[n]? with
   | none=>simp only [hm] at hh; exact hh.elim
   | some o=>
    cases o with
    | dct _=>simp only [hm] at hh; exact hh.elim
    | fdct _=>simp only [hm] at hh; exact hh.elim
    | ins _ _=>simp only [hm] at hh; exact hh.elim
    | lst ds=>
     simp only [hm] at hh
     cases qb:bindAll is ds env with
     | none=>simp only [qb] at hh; exact hh.elim
     | some env1=>
      simp only [qb] at hh
      intro v H1 ι1 x1 S1 r1
      obtain ⟨a,ha,rfl⟩:=r1.ref_inv
      obtain ⟨vs,hv,rv⟩:=S1.obj n _ a hm ha
      exact ⟨a,vs,rfl,SqL.of hv,by rw [rv.length]; exact Zjy _ _ _ _ qb,ι1,M1,env,ds,env1,S1,E.mono x1,rv,qb,fun σ' E'=>hh σ' H1 ι1 x1 S1 E'⟩
  | _=>exact hh.elim
end
end L3
namespace L3
open PySem PySem.Spec PyProof.Rows L2
section
variable {X:Cx} {a b c:Expr} {p p2 pos pos2:Pos} {f g h:E3}
end
end L3
namespace L3
open PySem PySem.Spec PyProof.Rows L2
open AutoSeq1 (wpAny_loadPart')
set_option maxRecDepth 100000
section
variable {X:Cx} {o e:Expr} {es:List Expr} {apos cpos:Pos} {f:E3} {gl:EL3}
end
end L3
namespace L3
open PySem PySem.Spec PyProof.Rows L2
set_option maxRecDepth 100000
section
variable {X:Cx} {es:List Expr} {k:Nat} {a b:Expr} {p pos tpos:Pos} {f g:E3}
end
end L3
namespace L3
open PySem PySem.Spec PyProof.Rows L2
set_option maxRecDepth 100000
section
variable {X:Cx} {elt tg iter:Expr} {ifs:List Expr} {scope:Scope} {pos:Pos} {i:IL3} {own:Nat} {g:G3} {ts:List E3} {f:E3} {N':List Str}
end
end L3
namespace L3
open PySem PySem.W PyProof.Rows
section
variable {M:Model} {A:Around} {E:Value → Shared → Prop} {G:Shared → Prop}
noncomputable def TT (M:Model) (A:Around) (E:Value → Shared → Prop) (G:Shared → Prop) {α:Type} (m:StateT SortSt Sem α) (Q:α → SortSt → Prop) (st:SortSt):Prop:=∀ s,G s → kasC M A E m (fun a st' s'=>Q a st' ∧ G s') st s
end
structure Cmp (prog:Program) (w:World) (A:Around) (E:Value → Shared → Prop) (G:Shared → Prop) (κ:SortKind) (it:Array Keyed) (lt:Nat → Nat → Bool) (N:Nat):Prop where
 ok:Zdy lt
 ask:∀ i j (C:Bool → Shared → Prop) s,i < N → j < N → G s → (∀ s',G s' → C (lt i j) s') → kas_cmp prog w A κ it i j C s
section
variable {prog:Program} {w:World} {A:Around} {E:Value → Shared → Prop} {G:Shared → Prop} {κ:SortKind} {it:Array Keyed} {lt:Nat → Nat → Bool} {N:Nat}
noncomputable abbrev Zkx (it:Array Keyed) (l:List Nat):Array Keyed:=(l.map (kas_item it)).toArray
noncomputable def Srt (lt:Nat → Nat → Bool) (l:List Nat):Prop:=l.Pairwise fun x y=>lt y x = false
section
variable {left:Bool} {key:Nat} {l:List Nat} {base n:Nat} {st:SortSt} {B:Nat → Bool}
end
end
end L3
namespace L3
open PySem PySem.W PyProof.Rows
section
variable {lt:Nat → Nat → Bool}
structure W (lt:Nat → Nat → Bool) (la lb out:List Nat) (ia ib:Nat):Prop where
 p:out.Perm (la.take ia ++ lb.take ib)
 s:Srt lt out
 a:∀ x ∈ out,∀ y ∈ la.drop ia,lt y x = false
 b:∀ x ∈ out,∀ y ∈ lb.drop ib,lt y x = false
 ha:ia ≤ la.length
 hb:ib ≤ lb.length
noncomputable def RR (lt:Nat → Nat → Bool) (la lb r:List Nat):Prop:=r.Perm (la ++ lb) ∧ Srt lt r
theorem W.last {la lb out:List Nat} {ia ib x:Nat} (sb:Srt lt lb) (w:W lt la lb out ia ib) (h:ia + 1 = la.length) (hx:la[ia]? = some x) (hm:∀ y ∈ lb,lt x y = false):RR lt la lb (out ++ lb.drop ib ++ la.drop ia):=by
 obtain ⟨hl,e⟩:=List.getElem?_eq_some_iff.mp hx
 have d:la.drop ia = [x]:=by rw [List.drop_eq_getElem_cons hl,e,h,List.drop_length]
 have p:=w.p
 refine ⟨?_,?_⟩
 ·refine ((p.append_right _).append_right _).trans ?_
  rw [List.append_assoc (la.take ia),List.take_append_drop,List.append_assoc]
  refine (List.Perm.append_left _ List.perm_append_comm).trans ?_
  rw [← List.append_assoc,List.take_append_drop]
 ·refine List.pairwise_append.mpr ⟨List.pairwise_append.mpr ⟨w.s,List.Pairwise.sublist (List.drop_sublist _ _) sb,w.b⟩,by rw [d]; simp,fun u hu y hy=>?_⟩
  rw [d,List.mem_singleton] at hy
  rw [hy]
  rcases List.mem_append.mp hu with hu | hu
  ·exact w.a u hu x (by rw [d]; simp)
  ·exact hm u (List.mem_of_mem_drop hu)
end
section
variable {prog:Program} {w:World} {A:Around} {E:Value → Shared → Prop} {G:Shared → Prop} {κ:SortKind} {it:Array Keyed} {lt:Nat → Nat → Bool} {N:Nat}
noncomputable def ZoK (st st':SortSt):Prop:=∃ g,st' = SortSt.mk' (kindOf st) (arrOf st) (pendingOf st) g (failedOf st)
theorem ZoK.kind {st st':SortSt} (h:ZoK st st'):kindOf st' = kindOf st:=by obtain ⟨g,rfl⟩:=h; rfl
structure Two (lt:Nat → Nat → Bool) (N:Nat) (la lb:List Nat):Prop where
 sa:Srt lt la
 sb:Srt lt lb
 na:∀ x ∈ la,x < N
 nb:∀ x ∈ lb,x < N
structure Mid (lt:Nat → Nat → Bool) (la lb:List Nat) (n:Nat) (out:List Nat) (ia ib:Nat):Prop where
 w:W lt la lb out ia ib
 a:ia + 1 < la.length
 b:ib < lb.length
 n:n ≤ ia + ib
noncomputable def DD (lt:Nat → Nat → Bool) (it:Array Keyed) (la lb:List Nat) (n:Nat) (r:Option (Array Keyed)) (o:Array Keyed) (ia ib:Nat):Prop:=(∃ l,r = some (Zkx it l) ∧ RR lt la lb l) ∨ (r = none ∧ ∃ out,o = Zkx it out ∧ Mid lt la lb n out ia ib)
noncomputable def YY (lt:Nat → Nat → Bool) (it:Array Keyed) (la lb:List Nat) (n:Nat) (r:Option (Array Keyed)) (o:Array Keyed) (ia ib:Nat):Prop:=r = none ∧ ∃ out,o = Zkx it out ∧ Mid lt la lb n out ia ib
section
variable {la lb:List Nat} {st st':SortSt} {n:Nat} {out:List Nat} {ia ib:Nat}
theorem Srt.from {l:List Nat} (s:Srt lt l) (o:Zdy lt) {i x y:Nat} (hx:l[i]? = some x) (h:lt x y = false):∀ z ∈ l.drop i,lt z y = false:=fun z hz=>by
 obtain ⟨hl,e⟩:=List.getElem?_eq_some_iff.mp hx
 rw [List.drop_eq_getElem_cons hl,e] at hz
 rcases List.mem_cons.mp hz with rfl | hz
 ·exact h
 ·have sd:(x :: l.drop (i + 1)).Pairwise fun x y=>lt y x = false:=by
   have:=List.Pairwise.sublist (List.drop_sublist i _) s
   rw [List.drop_eq_getElem_cons hl,e] at this
   exact this
  exact o.tr h ((List.pairwise_cons.mp sd).1 z hz)
theorem Mid.le {m:Nat} (h:Mid lt la lb n out ia ib) (hm:m ≤ n):Mid lt la lb m out ia ib:=⟨h.w,h.a,h.b,Nat.le_trans hm h.n⟩
theorem DD.le {m:Nat} {r:Option (Array Keyed)} {o:Array Keyed} (h:DD lt it la lb n r o ia ib) (hm:m ≤ n):DD lt it la lb m r o ia ib:=by
 rcases h with h | ⟨h1,out,h2,h3⟩
 ·exact .inl h
 ·exact .inr ⟨h1,out,h2,h3.le hm⟩
theorem YY.le {m:Nat} {r:Option (Array Keyed)} {o:Array Keyed} (h:YY lt it la lb n r o ia ib) (hm:m ≤ n):YY lt it la lb m r o ia ib:=⟨h.1,h.2.elim fun out h=>⟨out,h.1,h.2.le hm⟩⟩
end
end
end L3
namespace L3
open PySem PySem.W PyProof.Rows
section
variable {prog:Program} {w:World} {A:Around} {E:Value → Shared → Prop} {G:Shared → Prop} {κ:SortKind} {it:Array Keyed} {lt:Nat → Nat → Bool} {N:Nat}
noncomputable abbrev fl (lt:Nat → Nat → Bool):Nat → Nat → Bool:=fun x y=>lt y x
theorem Srt.rev {l:List Nat} (h:Srt lt l):Srt (fl lt) l.reverse:=List.pairwise_reverse.mpr h
theorem RR.rev {la lb r:List Nat} (h:RR (fl lt) lb.reverse la.reverse r):RR lt la lb r.reverse:=by
 refine ⟨(List.reverse_perm r).trans (h.1.trans ?_),List.pairwise_reverse.mpr h.2⟩
 exact ((List.reverse_perm lb).append (List.reverse_perm la)).trans List.perm_append_comm
theorem Zq0 (o:Zdy lt):Zdy (fl lt):=⟨fun h=>o.asym h,fun h1 h2=>o.tr h2 h1⟩
theorem Zn2 {l:List Nat} {k x:Nat} (h0:0 < k) (hk:k ≤ l.length) (hx:l[k - 1]? = some x):l.reverse[l.length - k]? = some x:=by
 rw [List.getElem?_reverse (by exact lC 2 581779561975313 T1 h0 (Nat.sub_add_cancel hk)),show l.length - 1 - (l.length - k) = k - 1 by exact Nat.le_antisymm (lF 4 0x450025c21a4c30132c1011a0c21 T1 (Nat.sub_add_cancel (lB 2 1786942394369 T1 hk h0)) (sbA _ _) (sbA _ _) (Nat.sub_add_cancel (lD 3 0x230103c21a2c1010e11 T1 h0 (sbA _ _) (Nat.sub_add_cancel hk)))) (lF 4 0x4503a5c2124c101032c21a1c001 T1 (sbA _ _) (Nat.sub_add_cancel hk) (sbA _ _) (Nat.sub_add_cancel (lA 1 10489361 T1 h0))),hx]
theorem ZiZ {l:List Nat} {k:Nat} (hk:k ≤ l.length):l.reverse.drop (l.length - k) = (l.take k).reverse:=by
 rw [List.drop_reverse,show l.length - (l.length - k) = k by exact Nat.le_antisymm (lD 2 0x230013c2121c001 T1 (sbA _ _) (Nat.sub_add_cancel ((Nat.sub_le _ _)))) (lD 2 0x31003c201210c21 T1 (Nat.sub_add_cancel hk) (sbA _ _))]
section
variable {la lb:List Nat} {st st':SortSt} {n:Nat} {out:List Nat} {na nb:Nat}
structure ZmR (lt:Nat → Nat → Bool) (la lb:List Nat) (n:Nat) (out:List Nat) (na nb:Nat):Prop where
 w:W (fl lt) lb.reverse la.reverse out (lb.length - nb) (la.length - na)
 a:0 < na
 b:1 < nb
 ha:na ≤ la.length
 hb:nb ≤ lb.length
 n:n + na + nb ≤ la.length + lb.length
theorem ZnZ (h:RR (fl lt) lb.reverse la.reverse (out ++ la.reverse.drop (la.length - na) ++ lb.reverse.drop (lb.length - nb))) (ha:na ≤ la.length) (hb:nb ≤ lb.length):RR lt la lb (lb.take nb ++ la.take na ++ out.reverse):=by
 have:=h.rev
 rw [ZiZ ha,ZiZ hb] at this
 simpa using this
noncomputable def DH (lt:Nat → Nat → Bool) (it:Array Keyed) (la lb:List Nat) (n:Nat) (r:Option (Array Keyed)) (na nb:Nat) (o:Array Keyed):Prop:=(∃ l,r = some (Zkx it l) ∧ RR lt la lb l) ∨ (r = none ∧ ∃ out,o = Zkx it out ∧ ZmR lt la lb n out na nb)
noncomputable def YH (lt:Nat → Nat → Bool) (it:Array Keyed) (la lb:List Nat) (n:Nat) (r:Option (Array Keyed)) (na nb:Nat) (o:Array Keyed):Prop:=r = none ∧ ∃ out,o = Zkx it out ∧ ZmR lt la lb n out na nb
structure Hi (prog:Program) (w:World) (A:Around) (E:Value → Shared → Prop) (G:Shared → Prop) (κ:SortKind) (it:Array Keyed) (lt:Nat → Nat → Bool) (N:Nat) (la lb:List Nat) (st:SortSt):Prop where
 K:Cmp prog w A E G κ it lt N
 T:Two lt N la lb
 hm:∀ x,lb[0]? = some x → ∀ y ∈ la,lt y x = false
 hk:kindOf st = κ
theorem Hi.o (H:Hi prog w A E G κ it lt N la lb st):Zdy (fl lt):=Zq0 H.K.ok
theorem Hi.first (H:Hi prog w A E G κ it lt N la lb st) (hw:W (fl lt) lb.reverse la.reverse out (lb.length - nb) (la.length - na)) (h1:nb = 1) (ha:na ≤ la.length) (hb:0 < lb.length):RR lt la lb (lb.take nb ++ la.take na ++ out.reverse):=by
 subst h1
 have hx:lb[0]? = some lb[0]:=by simp
 refine ZnZ (hw.last H.T.sa.rev (by rw [List.length_reverse]; exact Nat.le_antisymm (Nat.le_of_eq (Nat.sub_add_cancel (lA 1 10489361 T1 hb))) ((sbA _ _))) (Zn2 (lN [] 0 2785 rfl) hb hx) fun y hy=>H.hm _ hx y (List.mem_reverse.mp hy)) ha hb
theorem Srt.at {l:List Nat} (s:Srt lt l) (o:Zdy lt) {i j:Nat} (hij:i ≤ j) (hj:j < l.length):lt (l.getD j 0) (l.getD i 0) = false:=by
 have e:∀ k,(hk:k < l.length) → l.getD k 0 = l[k]:=fun k hk=>by rw [List.getD_eq_getElem?_getD,List.getElem?_eq_getElem hk]; rfl
 rcases Nat.lt_or_eq_of_le hij with c | c
 ·rw [e i (Nat.lt_trans c hj),e j hj]
  exact List.pairwise_iff_getElem.mp s i j (Nat.lt_trans c hj) hj c
 ·rw [c]; exact o.rf _
theorem ZmR.le {m:Nat} (h:ZmR lt la lb n out na nb) (hm:m ≤ n):ZmR lt la lb m out na nb:=⟨h.w,h.a,h.b,h.ha,h.hb,by have:=h.n; exact lF 2 0x43c215cc0050143c210cc01 T1 this hm⟩
theorem DH.le {m:Nat} {r:Option (Array Keyed)} {o:Array Keyed} (h:DH lt it la lb n r na nb o) (hm:m ≤ n):DH lt it la lb m r na nb o:=by
 rcases h with h | ⟨h1,out,h2,h3⟩
 ·exact .inl h
 ·exact .inr ⟨h1,out,h2,h3.le hm⟩
theorem YH.le {m:Nat} {r:Option (Array Keyed)} {o:Array Keyed} (h:YH lt it la lb n r na nb o) (hm:m ≤ n):YH lt it la lb m r na nb o:=⟨h.1,h.2.elim fun out h=>⟨out,h.1,h.2.le hm⟩⟩
end
end
end L3
namespace L3
open PySem PySem.W PyProof.Rows
section
variable {prog:Program} {w:World} {A:Around} {E:Value → Shared → Prop} {G:Shared → Prop} {κ:SortKind} {it:Array Keyed} {lt:Nat → Nat → Bool} {N:Nat}
structure SS (κ:SortKind) (it:Array Keyed) (st:SortSt) (l:List Nat) (pd:Array (Nat × Nat × Nat)):Prop where
 kind:kindOf st = κ
 arr:arrOf st = Zkx it l
 pend:pendingOf st = pd
 fail:failedOf st = none
section
variable {st:SortSt} {l:List Nat} {pd:Array (Nat × Nat × Nat)}
end
end
end L3
namespace L3
open PySem PySem.W PyProof.Rows
section
variable {prog:Program} {w:World} {A:Around} {E:Value → Shared → Prop} {G:Shared → Prop} {κ:SortKind} {it:Array Keyed} {lt:Nat → Nat → Bool} {N:Nat}
variable {st:SortSt} {pd:Array (Nat × Nat × Nat)}
structure Dn (lt:Nat → Nat → Bool) (T X B:List Nat) (neq:Nat):Prop where
 e:T = X ++ B
 len:B.length = neq + 1
 s:Srt (fl lt) T
 eq:∀ x ∈ B,∀ y ∈ B,lt x y = false
theorem Dn.rev {T X B:List Nat} {neq:Nat} (d:Dn lt T X B neq):Srt (fl lt) (X ++ B.reverse):=by
 have s:=d.s
 rw [d.e] at s
 obtain ⟨s1,s2,s3⟩:=List.pairwise_append.mp s
 refine List.pairwise_append.mpr ⟨s1,?_,fun x hx y hy=>s3 x hx y (List.mem_reverse.mp hy)⟩
 exact List.pairwise_of_forall_mem_list fun x hx y hy=>d.eq x (List.mem_reverse.mp hx) y (List.mem_reverse.mp hy)
theorem Dn.last {T X B:List Nat} {neq z:Nat} (d:Dn lt T X B neq) (hz:B[neq]? = some z):∀ x ∈ T,lt x z = false:=fun x hx=>by
 have zB:=List.mem_of_getElem? hz
 rw [d.e] at hx
 rcases List.mem_append.mp hx with hx | hx
 ·have s:=d.s
  rw [d.e] at s
  exact (List.pairwise_append.mp s).2.2 x hx z zB
 ·exact d.eq x hx z zB
end
end L3
namespace L3
open PySem PySem.W PyProof.Rows
section
variable {prog:Program} {w:World} {A:Around} {E:Value → Shared → Prop} {G:Shared → Prop} {κ:SortKind} {it:Array Keyed} {lt:Nat → Nat → Bool} {N:Nat}
variable {st:SortSt} {l':List Nat} {pd:Array (Nat × Nat × Nat)}
inductive BnI {α:Type} (lt:Nat → Nat → Bool) (X:List Nat) (u k:Nat) (st':SortSt) (x:Nat) (c:Option α × Nat × Nat) (st2:SortSt):Prop
 | mk (l r:Nat) (e0:st2 = st') (e:c = (none,l,r)) (a1:l ≤ r) (a2:r ≤ k) (a3:r - l ≤ k - x) (a4:∀ i z,i < l → X[i]? = some z → lt u z = false) (a5:∀ i z,r ≤ i → X[i]? = some z → lt u z = true)
inductive BnQ {α:Type} (lt:Nat → Nat → Bool) (X:List Nat) (u k:Nat) (st':SortSt) (c:Option α × Nat × Nat) (st2:SortSt):Prop
 | mk (l:Nat) (e0:st2 = st') (e1:c.1 = none) (e2:c.2.1 = l) (a2:l ≤ k) (a4:∀ i z,i < l → X[i]? = some z → lt u z = false) (a5:∀ i z,l ≤ i → X[i]? = some z → lt u z = true)
end
end L3
namespace L3
open PySem PySem.W PyProof.Rows
section
variable {prog:Program} {w:World} {A:Around} {E:Value → Shared → Prop} {G:Shared → Prop} {κ:SortKind} {it:Array Keyed} {lt:Nat → Nat → Bool} {N:Nat}
variable {st:SortSt} {pd:Array (Nat × Nat × Nat)}
theorem merged (o:Zdy lt) {X Y r:List Nat} {k k2 y0 x1:Nat} (sX:Srt lt X) (sY:Srt lt Y) (hk:∀ x ∈ X.take k,lt y0 x = false) (h2:∀ y ∈ Y.drop k2,lt y x1 = false) (hy:∀ y ∈ Y,lt y y0 = false) (hx:∀ x ∈ X,lt x1 x = false) (hr:RR lt (X.drop k) (Y.take k2) r):RR lt X Y (X.take k ++ r ++ Y.drop k2):=by
 have eX:=List.take_append_drop k X
 have eY:=List.take_append_drop k2 Y
 rw [← eX] at sX
 rw [← eY] at sY
 obtain ⟨a1,a2,a3⟩:=List.pairwise_append.mp sX
 obtain ⟨b1,b2,b3⟩:=List.pairwise_append.mp sY
 obtain ⟨hp,hs⟩:=hr
 have xy:∀ x ∈ X.take k,∀ y ∈ Y,lt y x = false:=fun x hx' y hy'=>o.tr (hk x hx') (hy y hy')
 refine ⟨?_,?_⟩
 ·have e:(X.take k ++ (X.drop k ++ Y.take k2) ++ Y.drop k2) = X ++ Y:=by
   rw [← List.append_assoc,eX,List.append_assoc,eY]
  rw [← e]
  exact (hp.append_left _).append_right _
 ·refine List.pairwise_append.mpr ⟨List.pairwise_append.mpr ⟨a1,hs,fun x hx' z hz=>?_⟩,b2,fun z hz y hy'=>?_⟩
  ·rcases List.mem_append.mp (hp.mem_iff.mp hz) with q | q
   ·exact a3 x hx' z q
   ·exact xy x hx' z (List.mem_of_mem_take q)
  ·rcases List.mem_append.mp hz with q | q
   ·exact xy z q y (List.mem_of_mem_drop hy')
   ·rcases List.mem_append.mp (hp.mem_iff.mp q) with q | q
    ·exact o.tr (hx z (List.mem_of_mem_drop q)) (h2 y hy')
    ·exact b3 z q y hy'
end
end L3
namespace L3
open PySem PySem.W PyProof.Rows
section
variable {prog:Program} {w:World} {A:Around} {E:Value → Shared → Prop} {G:Shared → Prop} {κ:SortKind} {it:Array Keyed} {lt:Nat → Nat → Bool} {N:Nat}
variable {st:SortSt}
noncomputable def Rn (lt:Nat → Nat → Bool):Nat → List (List Nat) → List (Nat × Nat × Nat) → Prop
 | _,[],[]=>True
 | b,X :: rs,z :: pd=>z.1 = b ∧ z.2.1 = X.length ∧ 0 < X.length ∧ Srt lt X ∧ Rn lt (b + X.length) rs pd
 | _,_,_=>False
theorem Rn.len:∀ {b:Nat} {rs:List (List Nat)} {pd:List (Nat × Nat × Nat)},Rn lt b rs pd → pd.length = rs.length
 | _,[],[],_=>rfl
 | _,_ :: _,_ :: _,h=>congrArg (· + 1) h.2.2.2.2.len
 | _,[],_ :: _,h=>h.elim
 | _,_ :: _,[],h=>h.elim
theorem Rn.many:∀ {b:Nat} {rs:List (List Nat)} {pd:List (Nat × Nat × Nat)},Rn lt b rs pd → rs.length ≤ rs.flatten.length
 | _,[],[],_=>Nat.le_refl _
 | _,X :: rs,_ :: _,h=>by
  have:=h.2.2.2.2.many
  have:=h.2.2.1
  rw [List.flatten_cons,List.length_append,List.length_cons]; omega
 | _,[],_ :: _,h=>h.elim
 | _,_ :: _,[],h=>h.elim
theorem Rn.push:∀ {b:Nat} {rs:List (List Nat)} {pd:List (Nat × Nat × Nat)} (_:Rn lt b rs pd) {X:List Nat} (_:0 < X.length) (_:Srt lt X) {z:Nat × Nat × Nat} (_:z.1 = b + rs.flatten.length) (_:z.2.1 = X.length),Rn lt b (rs ++ [X]) (pd ++ [z])
 | _,[],[],_,_,h1,h2,_,h3,h4=>⟨h3,h4,h1,h2,trivial⟩
 | _,Y :: rs,_ :: _,h,_,h1,h2,_,h3,h4=>⟨h.1,h.2.1,h.2.2.1,h.2.2.2.1,h.2.2.2.2.push h1 h2 (by rw [h3,List.flatten_cons,List.length_append]; exact Nat.le_antisymm (lC 0 2271167496384 T1) (lC 0 2319485832384 T1)) h4⟩
 | _,[],_ :: _,h,_,_,_,_,_,_=>h.elim
 | _,_ :: _,[],h,_,_,_,_,_,_=>h.elim
theorem Rn.at:∀ {i b:Nat} {rs:List (List Nat)} {pd:List (Nat × Nat × Nat)} (_:Rn lt b rs pd) (_:i + 1 < pd.length),∃ rs0 X Y rs1 p q,rs = rs0 ++ X :: Y :: rs1 ∧ 0 < X.length ∧ 0 < Y.length ∧ Srt lt X ∧ Srt lt Y ∧
  pd[i]? = some (b + rs0.flatten.length,X.length,p) ∧ pd[i + 1]? = some (b + rs0.flatten.length + X.length,Y.length,q) ∧ ∀ Z,Z.length = X.length + Y.length → Srt lt Z → Rn lt b (rs0 ++ Z :: rs1) ((pd.set i (b + rs0.flatten.length,X.length + Y.length,p)).eraseIdx (i + 1))
 | 0,b,X :: Y :: rs,z :: z' :: pd,h,_=>by
  obtain ⟨h1,h2,h3,h4,h5,h6,h7,h8,h9⟩:=h
  refine ⟨[],X,Y,rs,z.2.2,z'.2.2,rfl,h3,h7,h4,h8,?_,?_,fun Z hZ sZ=>⟨rfl,hZ.symm,lC 2 0xe12e1121c031 T1 hZ h7,sZ,?_⟩⟩
  ·obtain ⟨z1,z2,z3⟩:=z; cases h1; cases h2; rfl
  ·obtain ⟨z1,z2,z3⟩:=z'; cases h5; cases h6; rfl
  ·rw [hZ,← Nat.add_assoc]; exact h9
 | i + 1,b,X0 :: rs,z :: pd,h,hi=>by
  obtain ⟨h1,h2,h3,h4,h5⟩:=h
  obtain ⟨rs0,X,Y,rs1,p,q,rfl,a1,a2,a3,a4,a5,a6,a7⟩:=h5.at (i:=i) (by simpa using hi)
  have e:b + X0.length + rs0.flatten.length = b + (X0 :: rs0).flatten.length:=by rw [List.flatten_cons,List.length_append]; exact Nat.le_antisymm (lC 0 2319485832384 T1) (lC 0 2271167496384 T1)
  rw [e] at a5 a6 a7
  exact ⟨X0 :: rs0,X,Y,rs1,p,q,rfl,a1,a2,a3,a4,a5,a6,fun Z hZ sZ=>⟨h1,h2,h3,h4,a7 Z hZ sZ⟩⟩
 | 0,_,_ :: [],_ :: _ :: _,h,_=>h.2.2.2.2.elim
 | 0,_,_,[],_,hi=>by cases hi
 | 0,_,_,[_],_,hi=>by simp at hi
 | _ + 1,_,_,[],_,hi=>by cases hi
 | _,_,[],_ :: _,h,_=>h.elim
structure MM (κ:SortKind) (it:Array Keyed) (lt:Nat → Nat → Bool) (st:SortSt) (rs:List (List Nat)) (R:List Nat):Prop where
 s:SS κ it st (rs.flatten ++ R) (pendingOf st)
 r:Rn lt 0 rs (pendingOf st).toList
theorem MM.push {rs rs':List (List Nat)} {R X l:List Nat} {n x lo:Nat} (hp:(rs.flatten ++ R).Perm l) (hX:X.Perm (R.take n)) (sX:Srt lt X) (h1:1 ≤ n) (hn:n ≤ R.length) (hr:rs'.flatten.Perm rs.flatten) (m:MM κ it lt st rs' (X ++ R.drop n)) (hx:x ≤ rs.flatten.length ∨ R = []) (hlo:lo = rs.flatten.length):∃ rs2 R2,((none,lo + n):Option Unit × Nat) = (none,rs2.flatten.length) ∧ (rs2.flatten ++ R2).Perm l ∧ MM κ it lt (setPending st ((pendingOf st).push (lo,n,0))) rs2 R2 ∧ (x + 1 ≤ rs2.flatten.length ∨ R2 = []):=by
 subst hlo
 have Xl:X.length = n:=by rw [hX.length_eq,List.length_take,Nat.min_eq_left hn]
 have fl2:(rs' ++ [X]).flatten = rs'.flatten ++ X:=by simp
 have ln:(rs' ++ [X]).flatten.length = rs.flatten.length + n:=by rw [fl2,List.length_append,hr.length_eq,Xl]
 obtain ⟨⟨a1,a2,a3,a4⟩,r⟩:=m
 refine ⟨rs' ++ [X],R.drop n,by rw [ln],?_,⟨⟨a1,?_,rfl,a4⟩,?_⟩,?_⟩
 ·refine List.Perm.trans ?_ hp
  rw [fl2,List.append_assoc]
  refine List.Perm.trans (hr.append_right _) (List.Perm.append_left _ ?_)
  have:=hX.append_right (R.drop n)
  rwa [List.take_append_drop] at this
 ·rw [fl2,List.append_assoc]; exact a2
 ·show Rn lt 0 _ ((pendingOf st).push (rs.flatten.length,n,0)).toList
  rw [Array.toList_push]
  exact r.push (lB 2 966803918897 T1 Xl h1) sX (by rw [Nat.zero_add,hr.length_eq]) Xl.symm
 ·rcases hx with q | q
  ·exact .inl (by rw [ln]; exact lC 2 0x21ca0c02a011001 T1 q h1)
  ·subst q; exact .inr (by simp)
end
end L3
namespace L3
open PySem PySem.W PyProof.Rows
section
variable {prog:Program} {w:World} {A:Around} {E:Value → Shared → Prop} {s:Shared}
end
end L3
namespace L3
open PySem PySem.W PySem.Spec PyProof.Rows L2
section
variable {X:Cx}
end
end L3
namespace L3
open PySem PySem.Spec PyProof.Rows L2
noncomputable def gK {α:Type} (n:Nat) (us ws:List α):List α:=if us.length = n ∧ ws.length = 1 then us ++ ws else []
noncomputable def ZqO (P:Program) (w:World) (K:PySem.W.Frag) (mg:Str → Option Value) (base:Heap) (k:Nat) (x:Str) (ps:List Str) (F:F3) (dd:List D) (n:Nat) (nm:Str):Prop:=
 (∀ ds M,ds.length ≠ ps.length → F ds M = .bad) ∧ ∃ f fd ds dvs,mg x = some (.ref f) ∧ PySem.W.keepIn K (.ref f) = true ∧ Binds K fd ps [] ∧ Binds K fd ps ds ∧ Vals dvs ds ∧ (∀ H ι,Zaf K H ι dd dvs) ∧ ZpW K fd ps [nm] (gK n) (gK n) ∧ ZdF P w K mg base CX0 k f fd ps (sp3 K ps.length F)
section
variable {P:Program} {w:World} {K:PySem.W.Frag} {mg:Str → Option Value} {base:Heap} {dd:List D} {n:Nat} {nm:Str}
theorem ZqO.fn {k:Nat} {x:Str} {ps:List Str} {F:F3} (h:ZqO P w K mg base k x ps F dd n nm):Fn3 P w K mg base k x ps F:=
 let ⟨a,f,fd,_,_,b,c,d,_,_,_,_,e⟩:=h; ⟨a,f,fd,b,c,d,e⟩
end
section
variable {X:Cx} {e e':Expr} {es:List Expr} {pos p kpos:Pos} {gl:EL3} {g:E3} {x nm:Str} {k n:Nat} {ps:List Str} {F:F3} {dd:List D}
end
end L3
namespace L3
open PySem PySem.W PySem.Spec PyProof.Rows L2
@[simp] noncomputable def Ze7 (a b:D) (M:Store):R3 D:=match a,b with
 | .non,.non=>.ok (.bl false) M
 | .tup _,.non=>.ok (.bl true) M
 | .non,.tup _=>.ok (.bl true) M
 | a,b=>Zed a b M
section
variable {X:Cx}
theorem ZkO (hu:X.A.units + 80 < cLine):OpR X (compareOp .NotEq) (r2 X.K Ze7):=by
 intro pins s σ H x y v u Q I rx ry h
 obtain ⟨ι,M,a,b,S,ra,rb,h⟩:=h
 have hu1:X.A.units < cLine:=lB 1 17666545486865 T1 hu
 have old:Ze7 a b M = Zed a b M → wpAny (model X.prog X.w) X.A (compareOp .NotEq v u) (EP X pins σ Q) X.xe s:=fun e=>by
  rw [e] at h
  exact Zje hu pins s σ H x y v u Q I rx ry ⟨ι,M,a,b,S,ra,rb,h⟩
 cases a with
 | non=>
  cases b with
  | non=>
   have e1:=ra.non_inv; subst e1
   have e2:=rb.non_inv; subst e2
   cases rx
   cases ry
   exact EqNone.ne_none_none ⟨.bl false,H,I,rfl,Zap.ok h S Rep.bl⟩
  | tup ds=>
   have e1:=ra.non_inv; subst e1
   obtain ⟨p,vs,rfl,sq,r⟩:=rb.tup_inv
   cases rx
   cases ry
   obtain ⟨its,rr,pl,zl⟩:=I.tuple sq
   exact SeqAt.RcNeAt.none_tuple (show s.heap.IsTuple p its.toArray from pl) hu1 X.prog X.w X.xe _ ⟨.bl true,H,I,rfl,Zap.ok h S Rep.bl⟩
  | _=>exact old rfl
 | tup ds=>
  cases b with
  | non=>
   have e1:=rb.non_inv; subst e1
   obtain ⟨p,vs,rfl,sq,r⟩:=ra.tup_inv
   cases rx
   cases ry
   obtain ⟨its,rr,pl,zl⟩:=I.tuple sq
   exact SeqAt.RcNeAt.tuple_none (show s.heap.IsTuple p its.toArray from pl) hu1 X.prog X.w X.xe _ ⟨.bl true,H,I,rfl,Zap.ok h S Rep.bl⟩
  | _=>exact old rfl
 | _=>cases b <;> exact old rfl
end
end L3
namespace L3
open PySem PySem.Spec PyProof.Rows L2
noncomputable abbrev nm (f:List Nat):Str:=⟨f.toArray⟩
theorem ZmI {f g:List Nat} (h:nm f = nm g):f = g:=by
 have:=congrArg (fun s:Str=>s.cps.toList) h
 simpa using this
section
variable {K:PySem.W.Frag} {H H':Hp} {ι ι':List Addr} {fs:List (List Nat × D)} {gs:List (Str × V)}
theorem FsR.mono (e:Ext K H ι H' ι') (h:FsR K H ι fs gs):FsR K H' ι' fs gs:=⟨h.1,h.2.mono e⟩
theorem FsR.nil:FsR K H ι [] []:=⟨rfl,Zaf.nil⟩
theorem FsR.nil_inv (h:FsR K H ι [] gs):gs = []:=List.map_eq_nil_iff.mp h.1
theorem FsR.cons_inv {f:List Nat} {d:D} (h:FsR K H ι ((f,d) :: fs) gs):∃ v gs',gs = (nm f,v) :: gs' ∧ Rep K H ι d v ∧ FsR K H ι fs gs':=by
 cases gs with
 | nil=>cases h.1
 | cons p gs'=>
  obtain ⟨g,v⟩:=p
  obtain ⟨h1,h2⟩:=h
  rw [List.map_cons,List.map_cons] at h1 h2
  obtain ⟨e1,e2⟩:=List.cons.inj h1
  obtain ⟨v',ws,e,r,q⟩:=h2.cons_inv
  obtain ⟨rfl,rfl⟩:=List.cons.inj e
  exact ⟨v,gs',by rw [show g = nm f from e1],r,e2,q⟩
theorem FsR.cons {f:List Nat} {d:D} {v:V} (r:Rep K H ι d v) (h:FsR K H ι fs gs):FsR K H ι ((f,d) :: fs) ((nm f,v) :: gs):=⟨by rw [List.map_cons,List.map_cons,h.1],Zaf.cons r h.2⟩
theorem FsR.length (h:FsR K H ι fs gs):gs.length = fs.length:=by
 have:=congrArg List.length h.1
 simpa using this
theorem FsR.look {f:List Nat}:∀ {fs:List (List Nat × D)} {gs:List (Str × V)},FsR K H ι fs gs → (fs.lookup f = none → gs.lookup (nm f) = none) ∧ ∀ d,fs.lookup f = some d → ∃ v,gs.lookup (nm f) = some v ∧ Rep K H ι d v
 | [],_,h=>by rw [h.nil_inv]; exact ⟨fun _=>rfl,fun d e=>by cases e⟩
 | (g,x) :: fs,_,h=>by
  obtain ⟨v,gs',rfl,r,t⟩:=h.cons_inv
  rw [List.lookup_cons,List.lookup_cons]
  by_cases e:f = g
  ·subst e
   rw [beq_self_eq_true,beq_self_eq_true]
   exact ⟨fun q=>(by cases q),fun d q=>(by cases q; exact ⟨v,rfl,r⟩)⟩
  ·rw [beq_false_of_ne e,beq_false_of_ne fun q=>e (ZmI q)]
   exact t.look
theorem FsR.put {f:List Nat} {d:D} {v:V} (r:Rep K H ι d v):∀ {fs:List (List Nat × D)} {gs:List (Str × V)},FsR K H ι fs gs → FsR K H ι (ZgZ f d fs) (Zd5 (nm f) v gs)
 | [],_,h=>by rw [h.nil_inv]; exact FsR.cons r FsR.nil
 | (g,x) :: fs,_,h=>by
  obtain ⟨w,gs',rfl,r',t⟩:=h.cons_inv
  unfold ZgZ Zd5
  by_cases e:g = f
  ·subst e
   rw [if_pos rfl,if_pos rfl]; exact FsR.cons r t
  ·rw [if_neg e,if_neg fun q=>e (ZmI q)]; exact FsR.cons r' (t.put r)
end
structure ZfF (K:PySem.W.Frag) (c:List Nat) (C:Addr):Prop where
 at_:ClsAt K c C
 cls:Cls K C
theorem ZfF.same {K:PySem.W.Frag} {c:List Nat} {C C':Addr} (h:ZfF K c C) (q:ClsAt K c C'):C' = C:=by
 have:=q.symm.trans h.at_
 cases this; rfl
section
variable {X:Cx} {o e:Expr} {es:List Expr} {f g:E3} {gl:EL3} {c m:List Nat} {C:Addr} {fn:Str} {pos pos' apos p:Pos} {x:Str}
theorem ZgB {M:Store} {n:Nat} {H:Hp} {ι:List Addr} {a:Addr} (kc:ZfF X.K c C) (S:Zau X.K H ι M) (ha:ι[n]? = some a) {fs:List (List Nat × D)} (hn:M[n]? = some (.ins c fs)):∃ dx gs,H a = some (.ins C dx gs) ∧ FsR X.K H ι fs gs:=by
 obtain ⟨C',dx,gs,q,ca,fr⟩:=S.obj n _ a hn ha
 rw [kc.same ca] at q
 exact ⟨dx,gs,q,fr⟩
theorem Zjf (kc:ZfF X.K c C) (nf:ZdV X.K C (nm m)) (he:C3 X e f) (hf:fn = nm m:=by decide +kernel) (hb:attributeBase e fn X.env (eval e X.env) = eval e X.env:=by rfl):C3 X (.Attribute e fn pos) (e1 (ZdL c m) f):=by
 subst hf
 refine (Zp0 he hb).imp fun σ H Q zz1=>?_
 obtain ⟨ι,M,env,S,E,h⟩:=zz1
 obtain ⟨d,M1,e1,hh⟩:=Zap.bind h
 refine ⟨ι,M,env,S,E,?_⟩
 rw [e1]
 intro v H1 ι1 x1 S1 r1
 cases d with
 | ref n=>
  simp only [ZdL] at hh
  cases hn:M1[n]? with
  | none=>simp only [hn] at hh; exact hh.elim
  | some ob=>
   cases ob with
   | ins c' fs=>
    simp only [hn] at hh
    split at hh
    ·rename_i ec
     subst ec
     obtain ⟨a,ha,rfl⟩:=r1.ref_inv
     obtain ⟨dx,gs,q,fr⟩:=ZgB kc S1 ha hn
     split at hh
     ·rename_i d hl
      obtain ⟨w,lw,rw'⟩:=(fr.look (f:=m)).2 d hl
      exact ⟨a,C,dx,gs,w,rfl,q,kc.cls,nf,lw,hh w H1 ι1 x1 S1 rw'⟩
     ·exact hh.elim
    ·exact hh.elim
   | _=>simp only [hn] at hh; exact hh.elim
 | _=>exact hh.elim
theorem Zl4 (kc:ZfF X.K c C) (nf:ZdV X.K C (nm m)) (ho:C3 X o f) (hv:C3 X e g) (hf:fn = nm m:=by decide +kernel) (hs:swapsWith e (some (.Attribute o fn pos')) pos.line X.env = pure false:=by rfl):CS X (.Assign [.Attribute o fn pos'] e pos) (Zm1 c m f g):=by
 subst hf
 refine (ZpB ho hv hs).imp fun D' σ H zz1=>?_
 obtain ⟨ι,M,env,S,E,hh⟩:=zz1
 have hh:=ZiY E hh
 obtain ⟨d,M1,e1,hh⟩:=Zap.bind hh
 obtain ⟨b,M2,e2,hh⟩:=Zap.bind hh
 refine ⟨ι,M,env,S,E,?_⟩
 rw [e1]
 intro y H1 ι1 x1 S1 r1
 refine ⟨ι1,M1,env,S1,E.mono x1,?_⟩
 rw [e2]
 intro w H2 ι2 x2 S2 r2
 cases b with
 | ref n=>
  simp only [Zf2] at hh
  cases hn:M2[n]? with
  | none=>simp only [hn] at hh; exact hh.elim
  | some ob=>
   cases ob with
   | ins c' fs=>
    simp only [hn] at hh
    split at hh
    ·rename_i ec
     obtain ⟨ec,lf⟩:=ec
     subst ec
     obtain ⟨a,ha,rfl⟩:=r2.ref_inv
     obtain ⟨dx,gs,q,fr⟩:=ZgB kc S2 ha hn
     have l0:Loose H2 a:=.inr (.inr (.inr ⟨C,dx,gs,q⟩))
     have x3:Ext X.K H2 ι2 (upd H2 a (.ins C dx (Zd5 (nm m) y gs))) ι2:=l0.ext
     have S3:Zau X.K (upd H2 a (.ins C dx (Zd5 (nm m) y gs))) ι2 (M2.set n (.ins c' (ZgZ m d fs))):=S2.put l0 ha ⟨C,dx,_,Zch,kc.at_,(fr.put (r1.mono x2)).mono x3⟩
     exact ⟨a,C,dx,gs,rfl,q,kc.cls,nf,by rw [fr.length]; exact lf,hh .non _ _ ((x1.trans x2).trans x3) S3 Rep.non⟩
    ·exact hh.elim
   | _=>simp only [hn] at hh; exact hh.elim
 | _=>exact hh.elim
noncomputable def ZfX (P:Program) (w:World) (K:PySem.W.Frag) (mg:Str → Option Value) (base:Heap) (k:Nat) (C:Addr) (m:Str) (ps:List Str) (F:F3):Prop:=
 (∀ ds M,ds.length ≠ ps.length → F ds M = .bad) ∧ ∃ f fd,Meth K C m f ∧ Binds K fd ps [] ∧ ZdF P w K mg base CX0 k f fd ps (sp3 K ps.length F)
theorem ZjI {ps:List Str} {F:F3} {a:D} {M1:Store} {n:Nat} (hi:Zh0 c m a M1 = true):∃ n fs,a = .ref n ∧ M1[n]? = some (.ins c fs) ∧ fs.lookup m = none:=by
 cases a with
 | ref n=>
  simp only [Zh0] at hi
  cases hn:M1[n]? with
  | none=>simp [hn] at hi
  | some ob=>
   cases ob with
   | ins c' fs=>
    simp only [hn,Bool.and_eq_true,decide_eq_true_eq,Option.isNone_iff_eq_none] at hi
    obtain ⟨rfl,hl⟩:=hi
    exact ⟨n,fs,rfl,hn,hl⟩
   | _=>simp [hn] at hi
 | _=>simp at hi
theorem Zm5 {k:Nat} {ps:List Str} {F:F3} {pl:Sem Bool} (kc:ZfF X.K c C) (G:ZfX X.prog X.w X.K X.mg X.base k C fn ps F) (hr:ZbD k X.A) (ho:C3 X o f) (ha:CA X (e :: es) gl) (hf:fn = nm m:=by decide +kernel)
  (hst:starEach (e :: es) X.env = (false,eval e X.env) :: starEach es X.env:=by rfl) (hpl:(backTo pos (starEach es X.env)).any (·.1) = false:=by rfl)
  (ht:eval (.Call (.Attribute o fn apos) (e :: es) [] pos) X.env = (do
   let ov ← eval o X.env
   standAt apos.atName
   let (f,first) ← holding [ov] (getMethod ov fn pl)
   callWith pos f first (backTo pos (starEach (e :: es) X.env)) (backToKw pos (keywordEach [] X.env))):=by rfl):C3 X (.Call (.Attribute o fn apos) (e :: es) [] pos) (ZbA c m F f gl):=by
 subst hf
 obtain ⟨hn,fa,fd,mt,bi,ok⟩:=G
 refine (ZnM ho kc.cls mt ok hr bi .nil Zle ha hst hpl ht).imp fun σ H Q zz1=>?_
 obtain ⟨ι,M,env,S,E,h⟩:=zz1
 obtain ⟨a,M1,e1,h⟩:=Zap.bind h
 refine ⟨ι,M,env,S,E,?_⟩
 rw [e1]
 intro v H1 ι1 x1 S1 r1
 split at h
 ·rename_i hi
  obtain ⟨n,fs,rfl,hm,hl⟩:=ZjI (ps:=ps) (F:=F) (n:=0) hi
  obtain ⟨p,hp,rfl⟩:=r1.ref_inv
  obtain ⟨dx,gs,q,fr⟩:=ZgB kc S1 hp hm
  refine ⟨p,dx,gs,rfl,q,(fr.look (f:=m)).1 hl,?_⟩
  obtain ⟨ds,M2,e2,h⟩:=Zap.bind h
  refine ⟨ι1,M1,env,S1,E.mono x1,?_⟩
  rw [e2]
  intro vs H2 ι2 x2 S2 r2
  have hl:(D.ref n :: ds).length = ps.length:=by
   refine Decidable.byContradiction fun q=>?_
   rw [hn _ M2 q] at h
   exact h.elim
  exact ⟨ι2,M2,_,S2,by rw [List.append_nil]; exact Zaf.cons (r1.mono x2) r2,hl,h.up (x1.trans x2)⟩
 ·exact h.elim
theorem ZeS {k:Nat} {ps:List Str} {F:F3} {pl:Sem Bool} (kc:ZfF X.K c C) (G:ZfX X.prog X.w X.K X.mg X.base k C fn ps F) (hr:ZbD k X.A) (ho:C3 X o f) (hf:fn = nm m:=by decide +kernel)
  (ht:eval (.Call (.Attribute o fn apos) [] [] pos) X.env = (do
   let ov ← eval o X.env
   standAt apos.atName
   let (f,first) ← holding [ov] (getMethod ov fn pl)
   callWith pos f first (backTo pos (starEach [] X.env)) (backToKw pos (keywordEach [] X.env))):=by rfl):C3 X (.Call (.Attribute o fn apos) [] [] pos) (ZbA c m F f Zi):=by
 subst hf
 obtain ⟨hn,fa,fd,mt,bi,ok⟩:=G
 refine (ZmA ho kc.cls mt ok hr bi .nil Zle ht).imp fun σ H Q zz1=>?_
 obtain ⟨ι,M,env,S,E,h⟩:=zz1
 obtain ⟨a,M1,e1,h⟩:=Zap.bind h
 refine ⟨ι,M,env,S,E,?_⟩
 rw [e1]
 intro v H1 ι1 x1 S1 r1
 split at h
 ·rename_i hi
  obtain ⟨n,fs,rfl,hm,hl⟩:=ZjI (ps:=ps) (F:=F) (n:=0) hi
  obtain ⟨p,hp,rfl⟩:=r1.ref_inv
  obtain ⟨dx,gs,q,fr⟩:=ZgB kc S1 hp hm
  refine ⟨p,dx,gs,rfl,q,(fr.look (f:=m)).1 hl,?_⟩
  have hl:([D.ref n]:List D).length = ps.length:=by
   refine Decidable.byContradiction fun q=>?_
   have h':Zap X.K H ι Q (F [.ref n] M1):=h
   rw [hn _ M1 q] at h'
   exact h'.elim
  exact ⟨ι1,M1,[.ref n],S1,Zaf.cons r1 Zaf.nil,hl,Zap.up x1 h⟩
 ·exact h.elim
theorem ZpG {k:Nat} {ps:List Str} {F:F3} {fa:Addr} {fd:FuncData} (at_:ClsAt X.K c C) (Mc:Mk X.K C fa) (hF:∀ ds M,ds.length ≠ ps.length → F ds M = .bad) (ok:ZdF X.prog X.w X.K X.mg X.base CX0 k fa fd ps (sp3 X.K ps.length F)) (bi:Binds X.K fd ps []) (hm:X.mg x = some (.ref C)) (hr:ZbD (k + 1) X.A) (ha:CA X (e :: es) gl) (hg:Gl X x:=by rfl)
  (hdb:(x == ("__debug__":Str)) = false:=by decide) (he:starEach (e :: es) X.env = (false,eval e X.env) :: starEach es X.env:=by rfl) (hpl:(backTo pos (starEach es X.env)).any (·.1) = false:=by rfl):C3 X (.Call (.Name x p) (e :: es) [] pos) (ZhM c F gl):=by
 refine (ZnA Mc ok hr hg hm bi .nil Zle ha hdb he hpl).imp fun σ H Q zz1=>?_
 obtain ⟨ι,M,env,S,E,h⟩:=zz1
 obtain ⟨ds,M1,e1,h⟩:=Zap.bind h
 refine ⟨ι,M,env,S,E,?_⟩
 rw [e1]
 intro vs H1 ι1 x1 S1 r1 y dx hy hd ne
 have y2:upd H1 dx (.own y) y = none:=by rw [Za5 (Ne.symm ne)]; exact hy
 have x2:Ext X.K H1 ι1 (upd H1 dx (.own y)) ι1:=Loose.ext (.inl hd)
 have S2:Zau X.K (upd H1 dx (.own y)) ι1 M1:=S1.other (.inl hd) (S1.fresh hd)
 have x3:Ext X.K (upd H1 dx (.own y)) ι1 (upd (upd H1 dx (.own y)) y (.ins C dx [])) (ι1 ++ [y]):=Loose.extA (.inl y2)
 have S3:Zau X.K (upd (upd H1 dx (.own y)) y (.ins C dx [])) (ι1 ++ [y]) (M1 ++ [.ins c []]):=S2.new y2 ⟨C,dx,[],Zch,at_,FsR.nil⟩
 have hy':(ι1 ++ [y])[M1.length]? = some y:=by rw [← S1.len]; simp
 have rr:Rep X.K (upd (upd H1 dx (.own y)) y (.ins C dx [])) (ι1 ++ [y]) (.ref M1.length) (.ref y):=Rep.ref hy'
 cases q:F (.ref M1.length :: ds) (M1 ++ [.ins c []]) with
 | bad=>simp only [q] at h; exact h.elim
 | exc _ _=>simp only [q] at h; exact h.elim
 | ok d M2=>
  have hl:(D.ref M1.length :: ds).length = ps.length:=by
   refine Decidable.byContradiction fun z=>?_
   rw [hF _ _ z] at q; cases q
  refine ⟨ι1 ++ [y],M1 ++ [.ins c []],.ref M1.length :: ds,S3,by rw [List.append_nil]; exact Zaf.cons rr ((r1.mono x2).mono x3),hl,?_⟩
  rw [q]
  simp only [q] at h
  cases d with
  | non=>
   intro v H4 ι4 x4 S4 r4
   exact ⟨r4.non_inv,h _ H4 ι4 (((x1.trans x2).trans x3).trans x4) S4 (rr.mono x4)⟩
  | _=>exact h.elim
end
noncomputable def Zgz (s:Stmt):List Stmt:=match s with
 | .ClassDef _ _ _ b _ _ _ _ _ _ _=>b
 | _=>[]
noncomputable def Zgj (K:PySem.W.Frag) (C:Addr) (m qual:Str) (st:Stmt) (ps:List Str):Prop:=∃ f fd,Fun K m qual st f fd ∧ Meth K C m f ∧ Binds K fd ps []
noncomputable def Zn3 (K:PySem.W.Frag) (C:Addr) (qual:Str) (st:Stmt) (ps:List Str):Prop:=∃ f fd,Fun K "__init__" qual st f fd ∧ Mk K C f ∧ Binds K fd ps []
noncomputable def Mk3 (P:Program) (w:World) (K:PySem.W.Frag) (mg:Str → Option Value) (base:Heap) (k:Nat) (C:Addr) (ps:List Str) (F:F3):Prop:=
 (∀ ds M,ds.length ≠ ps.length → F ds M = .bad) ∧ ∃ f fd,Mk K C f ∧ Binds K fd ps [] ∧ ZdF P w K mg base CX0 k f fd ps (sp3 K ps.length F)
section
variable {P:Program} {w:World} {K:PySem.W.Frag} {mg:Str → Option Value} {base:Heap} {C f:Addr} {m qual:Str} {st:Stmt} {N ps:List Str} {k:Nat} {body:S3} {oc:Value} {od an:Option Addr} {osl:Array (Option Value)} {dV kV doc pm cdv ct:Value}
theorem Zg9 (a:PySem.W.findIn K (.ref C) m = some (some (.ref f))) (i:PySem.W.isFn K (.ref f) = true) (l:K.lookup f = some ⟨oc,od,.func (PySem.W.fnOf m qual (Zaq st) (Zan st) (Zo st) dV kV doc pm an cdv ct),osl⟩)
  (c:PySem.W.codeIn K cdv qual = true) (kp:PySem.W.keepIn K (.ref f) = true) (b:Binds K (PySem.W.fnOf m qual (Zaq st) (Zan st) (Zo st) dV kV doc pm an cdv ct) ps []):Zgj K C m qual st ps:=
 ⟨f,_,⟨⟨oc,od,dV,kV,doc,pm,an,cdv,ct,osl,rfl,l,c⟩,kp⟩,⟨a,i,kp⟩,b⟩
theorem Zos (mk:PySem.W.makesIn K C = true) (kc:PySem.W.keepIn K (.ref C) = true) (a:PySem.W.findIn K (.ref C) "__init__" = some (some (.ref f))) (i:PySem.W.isFn K (.ref f) = true) (l:K.lookup f = some ⟨oc,od,.func (PySem.W.fnOf "__init__" qual (Zaq st) (Zan st) (Zo st) dV kV doc pm an cdv ct),osl⟩)
  (c:PySem.W.codeIn K cdv qual = true) (kp:PySem.W.keepIn K (.ref f) = true) (b:Binds K (PySem.W.fnOf "__init__" qual (Zaq st) (Zan st) (Zo st) dV kV doc pm an cdv ct) ps []):Zn3 K C qual st ps:=
 ⟨f,_,⟨⟨oc,od,dV,kV,doc,pm,an,cdv,ct,osl,rfl,l,c⟩,kp⟩,⟨mk,a,i,kc⟩,b⟩
theorem ZfX.of (d:Zgj K C m qual st ps) (S:Zav N ps (Zo st))
  (hb:∀ (f:Addr) (cdv:Value) (A:Around) (outer:List Env) (s:Shared) (H:Hp) (E:XK),ZbD k (A.deeper (envOfC qual (Zo st) s.heap.objs.size f cdv)) → CSs (Zhi CX0 P w K mg base N qual (Zo st) f cdv A outer s H E).nox (Zan st) body):
  ZfX P w K mg base (k + 1) C m ps (mkF ps.length N.length body):=by
 obtain ⟨f,fd,F,mt,bi⟩:=d
 exact ⟨fun ds M h=>if_neg h,f,fd,mt,bi,fn3 F S (hb f)⟩
theorem Mk3.of (d:Zn3 K C qual st ps) (S:Zav N ps (Zo st))
  (hb:∀ (f:Addr) (cdv:Value) (A:Around) (outer:List Env) (s:Shared) (H:Hp) (E:XK),ZbD k (A.deeper (envOfC qual (Zo st) s.heap.objs.size f cdv)) → CSs (Zhi CX0 P w K mg base N qual (Zo st) f cdv A outer s H E).nox (Zan st) body):
  Mk3 P w K mg base (k + 1) C ps (mkF ps.length N.length body):=by
 obtain ⟨f,fd,F,mk,bi⟩:=d
 exact ⟨fun ds M h=>if_neg h,f,fd,mk,bi,fn3 F S (hb f)⟩
end
theorem Zrw {X:Cx} {e:Expr} {es:List Expr} {gl:EL3} {c:List Nat} {C:Addr} {pos p:Pos} {x:Str} {k:Nat} {ps:List Str} {F:F3} (kc:ZfF X.K c C) (G:Mk3 X.prog X.w X.K X.mg X.base k C ps F) (hm:X.mg x = some (.ref C)) (hr:ZbD (k + 1) X.A) (ha:CA X (e :: es) gl) (hg:Gl X x:=by rfl)
  (hdb:(x == ("__debug__":Str)) = false:=by decide) (he:starEach (e :: es) X.env = (false,eval e X.env) :: starEach es X.env:=by rfl) (hpl:(backTo pos (starEach es X.env)).any (·.1) = false:=by rfl):C3 X (.Call (.Name x p) (e :: es) [] pos) (ZhM c F gl):=by
 obtain ⟨hF,f,fd,mk,bi,ok⟩:=G
 exact ZpG kc.at_ mk hF ok bi hm hr ha hg hdb he hpl
end L3
namespace L3
open PySem PySem.Spec PyProof.Rows L2
set_option maxRecDepth 100000
section
variable {X:Cx} {o e:Expr} {es:List Expr} {apos cpos:Pos} {f:E3} {gl:EL3}
theorem Zaf.rev {K:PySem.W.Frag} {H:Hp} {ι:List Addr}:∀ {ds:List D} {vs:List V},Zaf K H ι ds vs → Zaf K H ι ds.reverse vs.reverse
 | [],_,h=>by rw [h.nil_inv]; exact Zaf.nil
 | d :: ds,_,h=>by
  obtain ⟨v,us,rfl,r,t⟩:=h.cons_inv
  rw [List.reverse_cons,List.reverse_cons]
  exact t.rev.append (Zaf.cons r Zaf.nil)
end
end L3
set_option maxHeartbeats 400000
namespace Law
open PySem L3
noncomputable section
noncomputable def ZfK:S3:=Zx (sIf (e2 Zaz (e2 Zk (Za 0) (eC (.int 0))) (eC (.str [106,117,109,112]))) (Zax (e2 Zk (Za 0) (eC (.int 1)))) (Zam)) (Zx (sIf (Zcm (e2 Zaz (e2 Zk (Za 0) (eC (.int 0))) (eC (.str [119,104,101,110]))) (e2 ZcS (e2 Zk (Za 2) (e2 Zk (Za 0) (eC (.int 1)))) (eC (.int 0)))) (Zax (e2 Zk (Za 0) (eC (.int 2)))) (Zam)) (Zax (e2 Zz (Za 1) (eC (.int 1)))))
noncomputable def ZcP:F3:=mkF 3 3 ZfK
noncomputable def Zey:S3:=Zx (sIf (e2 Zaz (Za 0) (eC (.str [97,100,100]))) (Zax (e2 Zz (Za 1) (Za 2))) (Zam)) (Zx (sIf (e2 Zaz (Za 0) (eC (.str [115,117,98]))) (Zax (e2 Zcu (Za 1) (Za 2))) (Zam)) (Zax (eIf (e2 ZcS (Za 1) (Za 2)) (eC (.int 1)) (eC (.int 0)))))
noncomputable def ZbS:F3:=mkF 3 3 Zey
noncomputable def ZgS:S3:=Zax (e2 Zz (e2 Zz (eSl (Za 0) (Zb7) (Zb8 (Za 1))) (Za4 (Zb (Za 2) (Zi)))) (eSl (Za 0) (Zb8 (e2 Zz (Za 1) (eC (.int 1)))) (Zb7)))
noncomputable def ZbQ:F3:=mkF 3 3 ZgS
noncomputable def Zfy:S3:=Zax (Zce Zgs ZgW (ZaL Zc6 (Zb (Za 0) (Zi))) (Zb (Za 1) (Zb (eC (.int 0)) (Zi))))
noncomputable def ZcC:F3:=mkF 2 2 Zfy
noncomputable def Zei:S3:=Zx (Zaj 3 (e2 Zk (Za 0) (eC (.int 0)))) (Zx (sIf (e2 Zaz (Za 3) (eC (.str [112,117,116]))) (Zax (Zai ZbQ (Zb (Za 1) (Zb (e2 Zk (Za 0) (eC (.int 1))) (Zb (e2 Zk (Za 0) (eC (.int 2))) (Zi)))))) (Zam)) (Zx (sIf (e2 Zaz (Za 3) (eC (.str [103,101,116]))) (Zax (Zai ZbQ (Zb (Za 1) (Zb (e2 Zk (Za 0) (eC (.int 1))) (Zb (Zai ZcC (Zb (Za 2) (Zb (e2 Zk (Za 1) (e2 Zk (Za 0) (eC (.int 2)))) (Zi)))) (Zi)))))) (Zam)) (Zx (sIf (e2 Znt (Za 3) (Za4 (Zb (eC (.str [97,100,100])) (Zb (eC (.str [115,117,98])) (Zb (eC (.str [109,111,114,101])) (Zi)))))) (Zax (Zai ZbQ (Zb (Za 1) (Zb (e2 Zk (Za 0) (eC (.int 1))) (Zb (Zai ZbS (Zb (Za 3) (Zb (e2 Zk (Za 1) (e2 Zk (Za 0) (eC (.int 2)))) (Zb (e2 Zk (Za 1) (e2 Zk (Za 0) (eC (.int 3)))) (Zi))))) (Zi)))))) (Zam)) (Zax (Za 1)))))
noncomputable def ZcD:F3:=mkF 3 4 Zei
noncomputable def ZdP:S3:=Zx (Zaj 3 (eLC (ZfW (Za 0)) 1 (Zci 6) [e2 ZlI (e2 Zk (Za 6) (eC (.int 0))) (Za 1)] (Za 6))) (Zx (Zaj 4 (eLC (ZfW (Za 0)) 1 (Zci 6) [e2 ZcS (e2 Zk (Za 6) (eC (.int 0))) (Za 1)] (Za 6))) (Zx (Zaj 5 (eIf (e2 Zed (Za 2) (eC (.int 0))) (Zcg (Zb (Za4 (Zb (Za 1) (Zb (Za 2) (Zi)))) (Zi))) (Zcg (Zi)))) (Zax (ZaL Zcd (Zb (e2 Zz (e2 Zz (Za 3) (Za 5)) (Za 4)) (Zi))))))
noncomputable def Zcx:F3:=mkF 3 6 ZdP
noncomputable def Zd9:S3:=Zx (sIf (e2 Zaz (e2 Zk (Za 0) (eC (.int 0))) (eC (.str [115,101,116]))) (Zax (Zai Zcx (Zb (Za 2) (Zb (e2 Zk (Za 1) (e2 Zk (Za 0) (eC (.int 1)))) (Zb (e2 Zk (Za 1) (e2 Zk (Za 0) (eC (.int 2)))) (Zi)))))) (Zam)) (Zax (Za 2))
noncomputable def ZcQ:F3:=mkF 3 3 Zd9
noncomputable def Zec:S3:=Zx (Zaj 2 (e2 Zk (Za 1) (eC (.int 0)))) (Zx (Zaj 3 (e2 Zk (Za 1) (eC (.int 1)))) (Zx (Zaj 4 (e2 Zk (Za 1) (eC (.int 2)))) (Zx (Zaj 5 (e2 Zk (Za 0) (Za 2))) (Zx (sIf (e2 Zaz (e2 Zk (Za 5) (eC (.int 0))) (eC (.str [104,97,108,116]))) (Zax (eC .non)) (Zam)) (Zax (Za4 (Zb (Zai ZcP (Zb (Za 5) (Zb (Za 2) (Zb (Za 3) (Zi))))) (Zb (Zai ZcD (Zb (Za 5) (Zb (Za 3) (Zb (Za 4) (Zi))))) (Zb (Zai ZcQ (Zb (Za 5) (Zb (Za 3) (Zb (Za 4) (Zi))))) (Zi))))))))))
noncomputable def Zdi:F3:=mkF 2 6 Zec
noncomputable def ZeE:S3:=Zax (Zcm (e2 ZjG (Za 0) (eC (.int 0))) (e2 ZlI (Za 0) (Za 1)))
noncomputable def Zcy:F3:=mkF 2 2 ZeE
noncomputable def Ze2:S3:=Zax (ZaL Za7 (Zb (e1 (ZdL [84,101,108,108,101,114] [115,116,97,116,101,115]) (Za 0)) (Zi)))
noncomputable def Zbj:F3:=mkF 1 1 Ze2
noncomputable def ZdH:S3:=Zx (sIf (e1 Zev (Zai Zcy (Zb (Za 1) (Zb (ZaL Za7 (Zb (e1 (ZdL [84,101,108,108,101,114] [115,116,97,116,101,115]) (Za 0)) (Zi))) (Zi))))) (Zj0) (Zam)) (Zx (ZaP (Zce tyL ZaS (e1 (ZdL [84,101,108,108,101,114] [97,115,107,101,100]) (Za 0)) (Zb (Za 1) (Zi)))) (Zax (e2 Zk (e1 (ZdL [84,101,108,108,101,114] [115,116,97,116,101,115]) (Za 0)) (Za 1))))
noncomputable def Zbr:F3:=mkF 2 2 ZdH
noncomputable def ZhU:S3:=Zax (Za4 (Zb (ZbA [84,101,108,108,101,114] [115,116,97,116,101,95,97,116] Zbr (Za 0) (Zb (Za 2) (Zi))) (Zb (ZbA [84,101,108,108,101,114] [115,116,97,116,101,95,97,116] Zbr (Za 1) (Zb (Za 2) (Zi))) (Zi))))
noncomputable def Zct:F3:=mkF 3 3 ZhU
noncomputable def ZfR:S3:=Zax (e2 Zed (e2 Zk (Za 0) (eC (.int 0))) (e2 Zk (Za 0) (eC (.int 1))))
noncomputable def Zby:F3:=mkF 1 1 ZfR
noncomputable def ZfQ:S3:=Zx (Zaj 3 (Zai Zdi (Zb (Za 0) (Zb (Za 1) (Zi))))) (Zax (Za4 (Zb (e2 Ze7 (e2 Zk (Za 2) (eC (.int 0))) (Za 3)) (Zb (e2 Ze7 (e2 Zk (Za 2) (eC (.int 1))) (Za 3)) (Zi)))))
noncomputable def Zdg:F3:=mkF 3 4 ZfQ
noncomputable def Zjb:S3:=Zx (sIf (eOr (e2 Zed (ZbA [84,101,108,108,101,114] [109,97,110,121] Zbj (Za 1) (Zi)) (ZbA [84,101,108,108,101,114] [109,97,110,121] Zbj (Za 2) (Zi))) (e2 ZlI (ZbA [84,101,108,108,101,114] [109,97,110,121] Zbj (Za 1) (Zi)) (eC (.int 2)))) (Zj0) (Zam)) (Zx (Zaj 3 (eC (.int 0))) (Zx (Zaj 4 (Zai Zct (Zb (Za 1) (Zb (Za 2) (Zb (Za 3) (Zi)))))) (Zx (sIf (Zai Zby (Zb (Za 4) (Zi))) (Zj0) (Zam)) (Zx (Zaj 5 (e2 Zcu (ZbA [84,101,108,108,101,114] [109,97,110,121] Zbj (Za 1) (Zi)) (eC (.int 1)))) (Zx (Zaj 6 (Zai Zct (Zb (Za 1) (Zb (Za 2) (Zb (Za 5) (Zi)))))) (Zx (sIf (e1 Zev (Zai Zby (Zb (Za 6) (Zi)))) (Zj0) (Zam)) (Zx (Zaj 7 (e2 Zk (Za 4) (eC (.int 0)))) (Zx (Zaj 8 (Za 6)) (Zx (Zg2 (e2 Zed (Za 5) (e2 Zz (Za 3) (eC (.int 1)))) (Zx (Zaj 9 (e2 Zad (e2 Zz (Za 3) (Za 5)) (eC (.int 2)))) (Zx (Zaj 10 (Zai Zct (Zb (Za 1) (Zb (Za 2) (Zb (Za 9) (Zi)))))) (sIf (Zai Zby (Zb (Za 10) (Zi))) (Zx (Zaj 5 (Za 9)) (Zaj 8 (Za 10))) (Zx (Zaj 3 (Za 9)) (Zaj 7 (e2 Zk (Za 10) (eC (.int 0))))))))) (Zax (Za4 (Zb (Za 3) (Zb (Zai Zdg (Zb (Za 0) (Zb (Za 7) (Zb (Za 8) (Zi))))) (Zi))))))))))))))
noncomputable def Zew:F3:=mkF 3 11 Zjb
noncomputable def Zcp:S3:=Zx (Zaj 1 (e2 Zk (Za 0) (eC (.int 0)))) (Zx (Zaj 2 (e2 Zk (Za 0) (eC (.int 1)))) (Zx (ZbR (Za 0) (eC (.int 1)) (e2 Zz (Za 2) (eC (.int 1)))) (Zx (sIf (e2 ZlI (Za 2) (ZaL Za7 (Zb (Za 1) (Zi)))) (Zax (e2 Zk (Za 1) (Za 2))) (Zam)) (Zx (sIf (e2 Zaz (ZaL Za7 (Zb (Za 1) (Zi))) (eC (.int 0))) (Zax (e2 Zz (e2 Zez (e2 Zez (Za 2) (Za 2)) (eC (.int 3))) (Za 2))) (Zam)) (Zax (e2 Zz (e2 Zad (e2 Zk (Za 1) (e2 Zae (Za 2) (ZaL Za7 (Zb (Za 1) (Zi))))) (eC (.int 2))) (e2 Zez (Za 2) (Za 2))))))))
noncomputable def Zar:F3:=mkF 1 3 Zcp
noncomputable def ZaX (rec:F3):S3:=Zx (sIf (e1 (ZfG .tuple .list) (Za 1)) (Zx (sIf (eOr (e2 Zed (e1 (ZdA .tuple) (Za 0)) (e1 (ZdA .tuple) (Za 1))) (e1 Zev (e1 (ZfG .tuple .list) (Za 0)))) (Zax (eC (.bl false))) (Zam)) (Zax (Zcm (e2 Zaz (ZaL Za7 (Zb (Za 0) (Zi))) (ZaL Za7 (Zb (Za 1) (Zi)))) (ZaL Zkt (Zb (eLC (ZcO (ZaL Za7 (Zb (Za 1) (Zi)))) 1 (Zci 2) [] (Zai rec (Zb (e2 Zk (Za 0) (Za 2)) (Zb (e2 Zk (Za 1) (Za 2)) (Zi))))) (Zi)))))) (Zam)) (Zx (sIf (e1 (ZdA .str) (Za 1)) (Zax (Zcm (e1 (ZdA .str) (Za 0)) (e2 Zaz (Za 0) (Za 1)))) (Zam)) (Zx (sIf (e1 (ZdA .bool) (Za 1)) (Zax (Zcm (e1 (ZdA .bool) (Za 0)) (e2 Zaz (Za 0) (Za 1)))) (Zam)) (Zax (Zcm (e1 (ZdA .int) (Za 0)) (Zcm (e1 Zev (e1 (ZdA .bool) (Za 0))) (e2 Zaz (Za 0) (Za 1)))))))
noncomputable def ZaJ:Nat → F3
 | 0=>mkF 2 2 Zj0
 | n + 1=>mkF 2 2 (ZaX (ZaJ n))
noncomputable def Zbh:F3:=ZaJ 7
noncomputable def ZeI:S3:=Zx (Zaj 1 (Zcg (Zi))) (Zx (ZkL (Zl0 (Za 0)) (Zep [2,3]) (Zx (Zaj 4 (e2 Zk (Zcg (Zb (eC (.str [112,117,116])) (Zb (eC (.str [97,100,100])) (Zb (eC (.str [115,117,98])) (Zb (eC (.str [109,111,114,101])) (Zb (eC (.str [103,101,116])) (Zb (eC (.str [115,101,116])) (Zb (eC (.str [119,104,101,110])) (Zb (eC (.str [106,117,109,112])) (Zb (eC (.str [116,101,108,108])) (Zb (eC (.str [112,117,116])) (Zi)))))))))))) (e2 Zae (Za 3) (eC (.int 10))))) (Zx (Zaj 5 (e2 Zad (Za 3) (eC (.int 10)))) (Zx (Zaj 6 (e2 Zae (Za 5) (eC (.int 8)))) (Zx (Zaj 7 (e2 Zae (e2 Zad (Za 5) (eC (.int 8))) (eC (.int 8)))) (Zx (Zaj 8 (e2 Zae (e2 Zad (Za 5) (eC (.int 64))) (eC (.int 8)))) (Zx (Zaj 9 (e2 Zz (e2 Zz (Za 2) (eC (.int 1))) (e2 Zae (e2 Zad (Za 5) (eC (.int 512))) (e2 Zcu (ZaL Za7 (Zb (Za 0) (Zi))) (Za 2))))) (Zx (sIf (e2 Zaz (e2 Zae (e2 Zad (Za 5) (eC (.int 5))) (eC (.int 4))) (eC (.int 1))) (Zaj 9 (e2 Zae (e2 Zad (Za 5) (eC (.int 512))) (e2 Zz (ZaL Za7 (Zb (Za 0) (Zi))) (eC (.int 1))))) (Zam)) (sIf (e2 Zaz (Za 4) (eC (.str [112,117,116]))) (ZaP (Zce tyL ZaS (Za 1) (Zb (Za4 (Zb (Za 4) (Zb (Za 6) (Zb (e2 Zk (Zcg (Zb (e2 Zae (e2 Zad (Za 5) (eC (.int 8))) (eC (.int 3))) (Zb (e2 Zcu (eC (.int 0)) (e2 Zae (e2 Zad (Za 5) (eC (.int 8))) (e2 Zen (eC (.int 10)) (eC (.int 40))))) (Zb (e2 Zae (e2 Zad (Za 5) (eC (.int 8))) (e2 Zen (eC (.int 10)) (eC (.int 40)))) (Zi))))) (e2 Zae (Za 7) (eC (.int 3)))) (Zi))))) (Zi)))) (sIf (e2 Zge (Za 4) (Zcg (Zb (eC (.str [97,100,100])) (Zb (eC (.str [115,117,98])) (Zb (eC (.str [109,111,114,101])) (Zi)))))) (ZaP (Zce tyL ZaS (Za 1) (Zb (Za4 (Zb (Za 4) (Zb (Za 6) (Zb (Za 7) (Zb (Za 8) (Zi)))))) (Zi)))) (sIf (e2 Zge (Za 4) (Zcg (Zb (eC (.str [103,101,116])) (Zb (eC (.str [115,101,116])) (Zi))))) (ZaP (Zce tyL ZaS (Za 1) (Zb (Za4 (Zb (Za 4) (Zb (Za 6) (Zb (Za 7) (Zi))))) (Zi)))) (sIf (e2 Zaz (Za 4) (eC (.str [119,104,101,110]))) (ZaP (Zce tyL ZaS (Za 1) (Zb (Za4 (Zb (Za 4) (Zb (Za 6) (Zb (Za 9) (Zi))))) (Zi)))) (sIf (e2 Zaz (Za 4) (eC (.str [106,117,109,112]))) (ZaP (Zce tyL ZaS (Za 1) (Zb (Za4 (Zb (Za 4) (Zb (Za 9) (Zi)))) (Zi)))) (ZaP (Zce tyL ZaS (Za 1) (Zb (Za4 (Zb (Za 4) (Zb (Za 6) (Zi)))) (Zi))))))))))))))))) (Zx (Zaj 10 (Za4 (Zb (eC (.str [104,97,108,116])) (Zi)))) (Zx (sIf (Zcm (e2 ZcS (ZaL Za7 (Zb (Za 0) (Zi))) (eC (.int 0))) (e2 Zaz (e2 Zae (e2 Zk (Za 0) (e1 Zgi (eC (.int 1)))) (eC (.int 4))) (eC (.int 1)))) (Zaj 10 (Za4 (Zb (eC (.str [106,117,109,112])) (Zb (e2 Zae (e2 Zad (e2 Zk (Za 0) (e1 Zgi (eC (.int 1)))) (eC (.int 4))) (e2 Zz (ZaL Za7 (Zb (Za 0) (Zi))) (eC (.int 1)))) (Zi))))) (Zam)) (Zax (ZaL Zcd (Zb (e2 Zz (Za 1) (Zcg (Zb (Za 10) (Zi)))) (Zi)))))))
noncomputable def ZdT:F3:=mkF 1 11 ZeI
noncomputable def ZaD:S3:=Zx (Zaj 1 (e2 Zz (Za 1) (eC (.int 1)))) (Zx (Zaj 4 (eC .non)) (Zx (sIf (e2 Zaz (e2 Zk (Za 0) (eC (.int 0))) (eC (.str [112,117,116]))) (Zaj 4 (e2 Zk (Za 0) (eC (.int 2)))) (Zam)) (Zx (sIf (e2 Zaz (e2 Zk (Za 0) (eC (.int 0))) (eC (.str [97,100,100]))) (Zaj 4 (e2 Zz (e2 Zk (Za 2) (e2 Zk (Za 0) (eC (.int 2)))) (e2 Zk (Za 2) (e2 Zk (Za 0) (eC (.int 3)))))) (Zam)) (Zx (sIf (e2 Zaz (e2 Zk (Za 0) (eC (.int 0))) (eC (.str [115,117,98]))) (Zaj 4 (e2 Zcu (e2 Zk (Za 2) (e2 Zk (Za 0) (eC (.int 2)))) (e2 Zk (Za 2) (e2 Zk (Za 0) (eC (.int 3)))))) (Zam)) (Zx (sIf (e2 Zaz (e2 Zk (Za 0) (eC (.int 0))) (eC (.str [109,111,114,101]))) (Zaj 4 (e2 Zk (Zcg (Zb (eC (.int 0)) (Zb (eC (.int 1)) (Zi)))) (ZaL Znm (Zb (e2 ZcS (e2 Zk (Za 2) (e2 Zk (Za 0) (eC (.int 2)))) (e2 Zk (Za 2) (e2 Zk (Za 0) (eC (.int 3))))) (Zi))))) (Zam)) (Zx (sIf (e2 Zaz (e2 Zk (Za 0) (eC (.int 0))) (eC (.str [103,101,116]))) (Zaj 4 (Za 3)) (Zam)) (Zx (sIf (eOr (e2 Zaz (e2 Zk (Za 0) (eC (.int 0))) (eC (.str [106,117,109,112]))) (Zcm (e2 Zaz (e2 Zk (Za 0) (eC (.int 0))) (eC (.str [119,104,101,110]))) (e2 ZcS (e2 Zk (Za 2) (e2 Zk (Za 0) (eC (.int 1)))) (eC (.int 0))))) (Zaj 1 (e2 Zk (Za 0) (e1 Zgi (eC (.int 1))))) (Zam)) (Zx (sIf (e2 Zk8 (Za 4) (eC .non)) (Zaj 2 (e2 Zz (e2 Zz (eSl (Za 2) (Zb7) (Zb8 (e2 Zk (Za 0) (eC (.int 1))))) (Za4 (Zb (Za 4) (Zi)))) (eSl (Za 2) (Zb8 (e2 Zz (e2 Zk (Za 0) (eC (.int 1))) (eC (.int 1)))) (Zb7)))) (Zam)) (Zax (Za4 (Zb (Za 1) (Zb (Za 2) (Zi)))))))))))))
noncomputable def Zbi:F3:=mkF 4 5 ZaD
noncomputable def ZdO:S3:=Zx (Zaj 3 (eLC (ZfW (Za 0)) 1 (Zci 4) [e2 Zed (e2 Zk (Za 4) (eC (.int 0))) (Za 1)] (Za 4))) (Zx (sIf (e2 Zed (Za 2) (eC (.int 0))) (ZaP (Zce tyL ZaS (Za 3) (Zb (Za4 (Zb (Za 1) (Zb (Za 2) (Zi)))) (Zi)))) (Zam)) (Zax (ZaL Zcd (Zb (ZaL ZdR (Zb (Za 3) (Zi))) (Zi)))))
noncomputable def Za8:F3:=mkF 3 4 ZdO
noncomputable def ZbL:S3:=Zx (Zg1 (Za 1) (Zep [2,3,4])) (Zx (Zaj 5 (e2 Zk (Za 0) (Za 2))) (Zx (sIf (e2 Zaz (e2 Zk (Za 5) (eC (.int 0))) (eC (.str [104,97,108,116]))) (Zax (eC .non)) (Zam)) (Zx (Zaj 6 (eC (.int 0))) (Zx (sIf (e2 Zaz (e2 Zk (Za 5) (eC (.int 0))) (eC (.str [103,101,116]))) (Zaj 6 (Zce Zgs ZgW (ZaL Zc6 (Zb (Za 4) (Zi))) (Zb (e2 Zk (Za 3) (e2 Zk (Za 5) (eC (.int 2)))) (Zb (eC (.int 0)) (Zi))))) (Zam)) (Zx (sIf (e2 Zaz (e2 Zk (Za 5) (eC (.int 0))) (eC (.str [115,101,116]))) (Zaj 4 (Zai Za8 (Zb (Za 4) (Zb (e2 Zk (Za 3) (e2 Zk (Za 5) (eC (.int 1)))) (Zb (e2 Zk (Za 3) (e2 Zk (Za 5) (eC (.int 2)))) (Zi)))))) (Zam)) (Zx (Zg1 (Zai Zbi (Zb (Za 5) (Zb (Za 2) (Zb (Za 3) (Zb (Za 6) (Zi)))))) (Zep [2,3])) (Zax (Za4 (Zb (Za 2) (Zb (Za 3) (Zb (Za 4) (Zi))))))))))))
noncomputable def ZbK:F3:=mkF 2 7 ZbL
noncomputable def ZfP:S3:=Zx (Zaj 2 (Zai Zar (Zb (Za 0) (Zi)))) (Zx (Zaj 3 (eLC (ZcO (eC (.int 8))) 1 (Zci 5) [] (e2 Zcu (Za 5) (eC (.int 3))))) (Zx (ZbR (Za 3) (e2 Zae (Za 2) (eC (.int 8))) (e2 Zae (e2 Zad (Za 2) (eC (.int 8))) (e2 Zen (eC (.int 10)) (eC (.int 40))))) (Zx (Zaj 4 (eLC (ZfA (e1 Zgi (eC (.int 3))) (eC (.int 5))) 1 (Zci 5) [e2 Zaz (e2 Zae (e2 Zad (e2 Zad (Za 2) (eC (.int 16))) (e2 Zz (Za 5) (eC (.int 4)))) (eC (.int 2))) (eC (.int 1))] (Za4 (Zb (Za 5) (Zb (e2 Zz (eC (.int 1)) (e2 Zae (e2 Zez (Za 5) (Za 5)) (eC (.int 7)))) (Zi)))))) (Zax (Za4 (Zb (e2 Zae (e2 Zad (Za 2) (eC (.int 3))) (ZaL Za7 (Zb (Za 1) (Zi)))) (Zb (ZaL Zcd (Zb (Za 3) (Zi))) (Zb (ZaL Zcd (Zb (Za 4) (Zi))) (Zi)))))))))
noncomputable def ZbC:F3:=mkF 2 5 ZfP
noncomputable def Zek:S3:=Zx (Zg1 (Za 0) (Zep [3,4,5])) (Zx (sIf (e2 Zaz (e2 Zae (Za 1) (eC (.int 3))) (eC (.int 0))) (Zax (Za4 (Zb (Za 3) (Zb (Za 4) (Zb (Zai Za8 (Zb (Za 5) (Zb (eC (.int 9)) (Zb (e2 Zz (e2 Zz (Zce Zgs ZgW (ZaL Zc6 (Zb (Za 5) (Zi))) (Zb (eC (.int 9)) (Zb (eC (.int 0)) (Zi)))) (eC (.int 1))) (e2 Zae (e2 Zad (Za 1) (eC (.int 3))) (eC (.int 5)))) (Zi))))) (Zi)))))) (Zam)) (Zx (sIf (Zcm (e2 Zaz (e2 Zae (Za 1) (eC (.int 3))) (eC (.int 1))) (e2 ZcS (Za 2) (eC (.int 1)))) (Zax (Za4 (Zb (e2 Zae (e2 Zz (e2 Zz (Za 3) (eC (.int 1))) (e2 Zae (e2 Zad (Za 1) (eC (.int 3))) (e2 Zcu (Za 2) (eC (.int 1))))) (Za 2)) (Zb (Za 4) (Zb (Za 5) (Zi)))))) (Zam)) (Zx (Zaj 6 (e2 Zae (e2 Zad (Za 1) (eC (.int 3))) (eC (.int 8)))) (Zax (Za4 (Zb (Za 3) (Zb (e2 Zz (e2 Zz (eSl (Za 4) (Zb7) (Zb8 (Za 6))) (Za4 (Zb (e2 Zz (e2 Zz (e2 Zk (Za 4) (Za 6)) (eC (.int 1))) (e2 Zae (e2 Zad (Za 1) (eC (.int 24))) (eC (.int 3)))) (Zi)))) (eSl (Za 4) (Zb8 (e2 Zz (Za 6) (eC (.int 1)))) (Zb7))) (Zb (Za 5) (Zi)))))))))
noncomputable def ZaE:F3:=mkF 3 7 Zek
noncomputable def ZfJ:S3:=Zx (Zaj 4 (eLC (ZcO (ZaL ZkW (Zb (Za 2) (Zb (eC (.int 41)) (Zi))))) 1 (Zci 10) [] (Zai ZbC (Zb (Za 0) (Zb (Za 1) (Zi)))))) (Zx (Zaj 5 (eLC (ZcO (Za 2)) 1 (Zci 10) [] (e2 Zk (Za 4) (e2 Zae (Za 10) (ZaL Za7 (Zb (Za 4) (Zi))))))) (Zx (Zaj 6 (eLC (ZfW (Za 4)) 1 (Zci 10) [] (Zai ZaE (Zb (Za 10) (Zb (Zai Zar (Zb (Za 0) (Zi))) (Zb (ZaL Za7 (Zb (Za 1) (Zi))) (Zi))))))) (Zx (Zaj 7 (ZaL Ze0 (Zb (Za 5) (Zi)))) (Zx (Zaj 8 (e2 Zz (eC (.int 1)) (e2 Zae (Zai Zar (Zb (Za 0) (Zi))) (e2 Zcu (Za 2) (eC (.int 1)))))) (Zx (Zjg (ZfA (eC (.int 1)) (Za 2)) (Zci 9) (sIf (eOr (e2 Zaz (Za 9) (e2 Zcu (Za 2) (eC (.int 1)))) (eOr (Zcm (e2 Zaz (Za 3) (eC (.int 0))) (e2 ZjG (Za 9) (Za 8))) (Zcm (e2 ZcS (Za 3) (eC (.int 0))) (e2 ZcS (e2 Zae (Zai Zar (Zb (Za 0) (Zi))) (e2 Zz (Za 3) (eC (.int 1)))) (eC (.int 0)))))) (ZbR (Za 7) (Za 9) (e2 Zk (Za 6) (e2 Zae (Za 9) (ZaL Za7 (Zb (Za 4) (Zi)))))) (Zam))) (Zax (Zcg (Zb (Za 5) (Zb (Za 7) (Zi))))))))))
noncomputable def Zdb:F3:=mkF 4 10 ZfJ
noncomputable def Zeu:S3:=Zx (Zaj 2 (eC (.int 0))) (Zx (Zaj 3 (e2 Zcu (ZaL Za7 (Zb (Za 0) (Zi))) (eC (.int 1)))) (Zx (Zaj 4 (Zcg (Zb (Za 2) (Zb (Za 3) (Zi))))) (Zx (Zg2 (e2 ZcS (Za 3) (e2 Zz (Za 2) (eC (.int 1)))) (Zx (Zaj 5 (e2 Zad (e2 Zz (Za 2) (Za 3)) (eC (.int 2)))) (Zx (ZaP (Zce tyL ZaS (Za 4) (Zb (Za 5) (Zi)))) (sIf (e2 Zaz (e2 Zk (Za 0) (Za 5)) (e2 Zk (Za 1) (Za 5))) (Zaj 2 (Za 5)) (Zaj 3 (Za 5)))))) (Zax (Zcg (Zb (Za 2) (Zb (Za 4) (Zi))))))))
noncomputable def ZcK:F3:=mkF 2 6 Zeu
noncomputable def ZdQ:S3:=Zx (Zm1 [84,101,108,108,101,114] [115,116,97,116,101,115] (Za 0) (ZaL Zcd (Zb (Za 1) (Zi)))) (Zm1 [84,101,108,108,101,114] [97,115,107,101,100] (Za 0) (Zcg (Zi)))
noncomputable def Zba:F3:=mkF 2 2 ZdQ
noncomputable def Zc2:S3:=Zax (ZaL Ze0 (Zb (e1 (ZdL [84,101,108,108,101,114] [97,115,107,101,100]) (Za 0)) (Zi)))
noncomputable def ZaI:F3:=mkF 1 1 Zc2
noncomputable def Zmf:S3:=Zx (Zaj 1 (Zcg (Zb (eSl (Za 0) (Zb7) (Zb8 (eC (.int 400)))) (Zb (eC (.int 0)) (Zi))))) (Zx (Zaj 2 (Zai Zar (Zb (Za 1) (Zi)))) (Zx (Zaj 3 (Zai ZdT (Zb (eSl (Za 0) (Zb7) (Zb8 (eC (.int 40)))) (Zi)))) (Zx (Zaj 4 (e2 Zz (eC (.int 2)) (e2 Zk (Zcg (Zb (e2 Zae (e2 Zad (Za 2) (eC (.int 12))) (eC (.int 5))) (Zb (e2 Zae (e2 Zad (Za 2) (eC (.int 12))) (eC (.int 40))) (Zb (e2 Zae (e2 Zad (Za 2) (eC (.int 12))) (eC (.int 399))) (Zi))))) (e2 Zae (Za 2) (eC (.int 3)))))) (Zx (sIf (e2 Zaz (e2 Zae (e2 Zad (Za 2) (eC (.int 12))) (eC (.int 8))) (eC (.int 5))) (Zaj 4 (e2 Zz (eC (.int 2)) (e2 Zae (e2 Zad (Za 2) (eC (.int 96))) (eC (.int 2000))))) (Zam)) (Zx (ZhW (Zai Zdb (Zb (Za 1) (Zb (Za 3) (Zb (Za 4) (Zb (e2 Zae (e2 Zad (Za 2) (eC (.int 3))) (eC (.int 4))) (Zi)))))) [5,6]) (Zx (ZhW (Zai ZcK (Zb (Za 5) (Zb (Za 6) (Zi)))) [7,8]) (Zx (Zaj 9 (Zai ZbK (Zb (Za 3) (Zb (e2 Zk (Za 5) (Za 7)) (Zi))))) (Zx (Zaj 10 (Zai Zar (Zb (Za 1) (Zi)))) (Zx (Zaj 11 (Za 9)) (Zx (sIf (e2 ZpF (Za 9) (eC .non)) (Zaj 11 (e2 Zk (Za 5) (Za 7))) (Zam)) (Zx (sIf (e2 Zaz (e2 Zae (Za 10) (eC (.int 2))) (eC (.int 1))) (Zx (ZbR (Za 5) (e2 Zz (Za 7) (eC (.int 1))) (Za 11)) (sIf (e2 Zaz (e2 Zk (Za 6) (e2 Zz (Za 7) (eC (.int 1)))) (Za 11)) (ZbR (Za 6) (e2 Zz (Za 7) (eC (.int 1))) (Zai ZaE (Zb (Za 11) (Zb (e2 Zad (Za 10) (eC (.int 4))) (Zb (ZaL Za7 (Zb (Za 3) (Zi))) (Zi)))))) (Zam))) (sIf (e2 Zaz (e2 Zae (Za 10) (eC (.int 4))) (eC (.int 2))) (Zx (ZbR (Za 6) (e2 Zz (Za 7) (eC (.int 1))) (Za 11)) (sIf (e2 Zaz (e2 Zk (Za 5) (e2 Zz (Za 7) (eC (.int 1)))) (Za 11)) (ZbR (Za 5) (e2 Zz (Za 7) (eC (.int 1))) (Zai ZaE (Zb (Za 11) (Zb (e2 Zad (Za 10) (eC (.int 4))) (Zb (ZaL Za7 (Zb (Za 3) (Zi))) (Zi)))))) (Zam))) (Zam))) (Zx (Zaj 12 (Zcg (Zb (ZhM [84,101,108,108,101,114] Zba (Zb (Za 5) (Zi))) (Zb (ZhM [84,101,108,108,101,114] Zba (Zb (Za 6) (Zi))) (Zi))))) (Zx (Zaj 13 (Za4 (Zb (e2 Ze7 (e2 Zk (Za 5) (e2 Zz (Za 7) (eC (.int 1)))) (Za 9)) (Zb (e2 Ze7 (e2 Zk (Za 6) (e2 Zz (Za 7) (eC (.int 1)))) (Za 9)) (Zi))))) (Zx (sIf (e1 Zev (Zai Zbh (Zb (Zai Zew (Zb (Za 3) (Zb (e2 Zk (Za 12) (eC (.int 0))) (Zb (e2 Zk (Za 12) (eC (.int 1))) (Zi))))) (Zb (Za4 (Zb (Za 7) (Zb (Za 13) (Zi)))) (Zi))))) (Zax (eC (.bl false))) (Zam)) (Zx (Zjg (ZfW (Za 12)) (Zci 14) (sIf (e1 Zev (Zai Zbh (Zb (ZbA [84,101,108,108,101,114] [116,105,109,101,115,95,97,115,107,101,100] ZaI (Za 14) (Zi)) (Zb (Za 8) (Zi))))) (Zax (eC (.bl false))) (Zam))) (Zx (Zaj 15 (Zai Zew (Zb (Za 3) (Zb (e2 Zk (Za 12) (eC (.int 1))) (Zb (e2 Zk (Za 12) (eC (.int 0))) (Zi)))))) (Zx (sIf (e1 Zev (Zai Zbh (Zb (Za 15) (Zb (Za4 (Zb (Za 7) (Zb (Za4 (Zb (e2 Zk (Za 13) (eC (.int 1))) (Zb (e2 Zk (Za 13) (eC (.int 0))) (Zi)))) (Zi)))) (Zi))))) (Zax (eC (.bl false))) (Zam)) (Zax (Zai Zbh (Zb (ZbA [84,101,108,108,101,114] [116,105,109,101,115,95,97,115,107,101,100] ZaI (e2 Zk (Za 12) (eC (.int 0))) (Zi)) (Zb (e2 Zz (Za 8) (Za 8)) (Zi))))))))))))))))))))))
noncomputable def ZkG:F3:=mkF 1 16 Zmf
end
end Law
namespace Law
open PySem PySem.Spec PyProof.Rows L2 L3
noncomputable def top (i:Nat):Stmt:=PySem.Challenge.pw_stepledger_k52_judged.main.body.getD i (.Pass ⟨0,0,0,0⟩)
noncomputable abbrev Zb1:Stmt:=top 5
noncomputable abbrev ZbW:Stmt:=top 6
noncomputable abbrev Zb5:Stmt:=top 7
noncomputable abbrev Zd3:Stmt:=top 8
noncomputable abbrev Zb4:Stmt:=top 9
noncomputable abbrev ZcY:Stmt:=top 10
noncomputable abbrev ZbX:Stmt:=top 11
noncomputable abbrev Zcr:Stmt:=top 12
noncomputable abbrev Zcv:Stmt:=top 14
noncomputable abbrev ZdY:Stmt:=top 17
noncomputable abbrev Zdk:Stmt:=top 18
noncomputable abbrev Zb6:Stmt:=top 19
noncomputable abbrev ZbU:Stmt:=top 20
noncomputable abbrev Zcz:Stmt:=top 22
noncomputable abbrev Zcs:Stmt:=top 23
noncomputable abbrev Zcq:Stmt:=top 24
noncomputable abbrev ZbF:Stmt:=top 25
noncomputable abbrev Zbd:Stmt:=top 26
noncomputable abbrev Zbc:Stmt:=top 27
noncomputable abbrev Zb2:Stmt:=top 28
noncomputable abbrev Zb3:Stmt:=top 29
noncomputable abbrev Zb0:Stmt:=top 30
noncomputable abbrev Zbw:Stmt:=top 31
noncomputable abbrev ZfM:Stmt:=top 32
noncomputable abbrev Zbb:Stmt:=(Zgz (top 16)).getD 0 (.Pass ⟨0,0,0,0⟩)
noncomputable abbrev Za9:Stmt:=(Zgz (top 16)).getD 1 (.Pass ⟨0,0,0,0⟩)
noncomputable abbrev ZbE:Stmt:=(Zgz (top 16)).getD 2 (.Pass ⟨0,0,0,0⟩)
noncomputable abbrev ZaR:Stmt:=(Zgz (top 16)).getD 3 (.Pass ⟨0,0,0,0⟩)
structure Zcw (K:W.Frag) (mg:Str → Option Value) (C:Addr):Prop where
  ok:ZfF K [84,101,108,108,101,114] C
  mg:mg "Teller" = some (.ref C)
  n_asked:ZdV K C (nm [97,115,107,101,100])
  n_states:ZdV K C (nm [115,116,97,116,101,115])
structure Txt (K:W.Frag) (mg:Str → Option Value):Prop where
  kin:True
  m_all:mg "all" = none
  m_bool:mg "bool" = none
  m_dict:mg "dict" = none
  m_enumerate:mg "enumerate" = none
  m_int:mg "int" = none
  m_isinstance:mg "isinstance" = none
  m_len:mg "len" = none
  m_list:mg "list" = none
  m_min:mg "min" = none
  m_range:mg "range" = none
  m_sorted:mg "sorted" = none
  m_str:mg "str" = none
  m_tuple:mg "tuple" = none
section
variable {P:Program} {w:World} {K:W.Frag} {mg:Str → Option Value} {base:Heap}
theorem Zhh:Zav ["row","place","boxes"] ["row","place","boxes"] (Zo ZbW):=⟨rfl,rfl,rfl,by decide +kernel,rfl,by decide +kernel,by decide +kernel⟩
theorem ZhE (A:ZaF K mg "next_place" ZbW ["row","place","boxes"]) (T:Txt K mg):Fn3 P w K mg base 1 "next_place" ["row","place","boxes"] ZcP:=
  Fn3.of (N:=["row","place","boxes"]) (k:=0) A Zhh fun f cdv A outer s H E hr=>by
    have hu:=ZcT hr
    unfold ZfK
    refine Zg ?_ ?_
    ·exact ZaC (Zak ((ZbB hu)) (Zac Zab (Zc 0) Zh) ZaQ) (Zr (Zas (Zac Zab (Zc 0) Zh))) Zao
    ·refine Zg ?_ ?_
     ·refine ZaC ?_ ?_ ?_
      ·exact CW.ct (Zf7 (Zak ((ZbB hu)) (Zac Zab (Zc 0) Zh) ZaQ) (ZeO (Zak Zhk (Zac Zab (Zc 2) (Zac Zab (Zc 0) Zh)) Zh)))
      ·exact Zr (Zas (Zac Zab (Zc 0) Zh))
      ·exact Zao
     ·exact Zr (Zas (Zu ZaG (Zc 1) Zh))
theorem ZlC:Zav ["name","one","other"] ["name","one","other"] (Zo Zd3):=⟨rfl,rfl,rfl,by decide +kernel,rfl,by decide +kernel,by decide +kernel⟩
theorem Zln (A:ZaF K mg "worked" Zd3 ["name","one","other"]) (T:Txt K mg):Fn3 P w K mg base 1 "worked" ["name","one","other"] ZbS:=
  Fn3.of (N:=["name","one","other"]) (k:=0) A ZlC fun f cdv A outer s H E hr=>by
    have hu:=ZcT hr
    unfold Zey
    refine Zg ?_ ?_
    ·exact ZaC (Zak ((ZbB hu)) (Zc 0) ZaQ) (Zr (Zas (Zu ZaG (Zc 1) (Zc 2)))) Zao
    ·exact Zg (ZaC (Zak ((ZbB hu)) (Zc 0) ZaQ) (Zr (Zas (Zu ZeZ (Zc 1) (Zc 2)))) Zao) (Zr (Zas (Zro (Zak Zhk (Zc 1) (Zc 2)) Zh Zh)))
theorem Zjp:Zav ["boxes","box","value"] ["boxes","box","value"] (Zo ZcY):=⟨rfl,rfl,rfl,by decide +kernel,rfl,by decide +kernel,by decide +kernel⟩
theorem Zjd (A:ZaF K mg "with_box" ZcY ["boxes","box","value"]) (T:Txt K mg):Fn3 P w K mg base 1 "with_box" ["boxes","box","value"] ZbQ:=
  Fn3.of (N:=["boxes","box","value"]) (k:=0) A Zjp fun f cdv A outer s H E hr=>by
    have hu:=ZcT hr
    unfold ZgS
    refine Zr ?_
    refine Zas ?_
    refine Zu ?_ ?_ ?_
    ·exact ZaG
    ·exact Zu ZaG (Zjs Zjr (Zc 0) ZdS (ZdK (Zc 1))) (Zbp (Zd (Zc 2) Zm))
    ·exact Zjs Zjr (Zc 0) (ZdK (Zu ZaG (Zc 1) Zh)) ZdS
theorem Zhu:Zav ["cells","number"] ["cells","number"] (Zo ZbX):=⟨rfl,rfl,rfl,by decide +kernel,rfl,by decide +kernel,by decide +kernel⟩
theorem Zhy (A:ZaF K mg "cell_value" ZbX ["cells","number"]) (T:Txt K mg):Fn3 P w K mg base 1 "cell_value" ["cells","number"] ZcC:=
  Fn3.of (N:=["cells","number"]) (k:=0) A Zhu fun f cdv A outer s H E hr=>by
    have hu:=ZcT hr
    unfold Zfy
    exact Zr (Zas (Zkk hu (Zer (T:="dict") ((Zj8 rfl)) T.m_dict ZiU (Zd (Zc 0) Zm)) (Zc 1) Zh))
theorem Ze5:Zav ["row","boxes","cells","name"] ["row","boxes","cells"] (Zo Zb5):=⟨rfl,rfl,rfl,by decide +kernel,rfl,by decide +kernel,by decide +kernel⟩
theorem Zho (A:ZaF K mg "next_boxes" Zb5 ["row","boxes","cells"]) (T:Txt K mg) (F_worked:Fn3 P w K mg base 1 "worked" ["name","one","other"] ZbS) (F_with_box:Fn3 P w K mg base 1 "with_box" ["boxes","box","value"] ZbQ) (F_cell_value:Fn3 P w K mg base 1 "cell_value" ["cells","number"] ZcC):Fn3 P w K mg base 2 "next_boxes" ["row","boxes","cells"] ZcD:=
  Fn3.of (N:=["row","boxes","cells","name"]) (k:=1) A Ze5 fun f cdv A outer s H E hr=>by
    have hu:=ZcT hr
    unfold Zei
    refine Zg ?_ ?_
    ·exact Zah 3 Ze5.nd (Zac Zab (Zc 0) Zh)
    ·refine Zg ?_ ?_
     ·refine ZaC ?_ ?_ ?_
      ·exact Zak ((ZbB hu)) (Zc 3) ZaQ
      ·exact Zr (Zas (Zay (k:=1) (ps:=["boxes","box","value"]) F_with_box (hr.mono (by decide)) (Zd (Zc 1) (Zd (Zac Zab (Zc 0) Zh) (Zd (Zac Zab (Zc 0) Zh) Zm)))))
      ·exact Zao
     ·refine Zg ?_ ?_
      ·refine ZaC ?_ ?_ ?_
       ·exact Zak ((ZbB hu)) (Zc 3) ZaQ
       ·refine Zr ?_
        refine Zas ?_
        refine Zay (k:=1) (ps:=["boxes","box","value"]) ?_ ?_ ?_
        ·exact F_with_box
        ·exact hr.mono (by decide)
        ·refine Zd ?_ ?_
         ·exact Zc 1
         ·exact Zd (Zac Zab (Zc 0) Zh) (Zd (Zay (k:=1) (ps:=["cells","number"]) F_cell_value (hr.mono (by decide)) (Zd (Zc 2) (Zd (Zac Zab (Zc 1) (Zac Zab (Zc 0) Zh)) Zm))) Zm)
       ·exact Zao
      ·refine Zg ?_ ?_
       ·refine ZaC ?_ ?_ ?_
        ·exact Zak ((Zse hu)) (Zc 3) (Zbp (Zd ZaQ (Zd ZaQ (Zd ZaQ Zm))))
        ·refine Zr ?_
         refine Zas ?_
         refine Zay (k:=1) (ps:=["boxes","box","value"]) ?_ ?_ ?_
         ·exact F_with_box
         ·exact hr.mono (by decide)
         ·refine Zd ?_ ?_
          ·exact Zc 1
          ·refine Zd ?_ ?_
           ·exact Zac Zab (Zc 0) Zh
           ·refine Zd ?_ ?_
            ·exact Zay (k:=1) (ps:=["name","one","other"]) F_worked (hr.mono (by decide)) (Zd (Zc 3) (Zd (Zac Zab (Zc 1) (Zac Zab (Zc 0) Zh)) (Zd (Zac Zab (Zc 1) (Zac Zab (Zc 0) Zh)) Zm)))
            ·exact Zm
        ·exact Zao
       ·exact Zr (Zas (Zc 1))
theorem Zdd:Zav ["cells","number","value","below","above","here"] ["cells","number","value"] (Zo Zcr):=⟨rfl,rfl,rfl,by decide +kernel,rfl,by decide +kernel,by decide +kernel⟩
theorem ZiA (A:ZaF K mg "with_cell" Zcr ["cells","number","value"]) (T:Txt K mg):Fn3 P w K mg base 1 "with_cell" ["cells","number","value"] Zcx:=
  Fn3.of (N:=["cells","number","value","below","above","here"]) (k:=0) A Zdd fun f cdv A outer s H E hr=>by
    have hu:=ZcT hr
    unfold ZdP
    refine Zg ?_ ?_
    ·exact ZdB (N':=["cells","number","value","below","above","here","cell"]) 3 (ZbV rfl (by kernel_rfl)) rfl rfl Zdd.nd (Zni (Zc 0)) (fun C cl s H ex=>⟨(ZcJ 6 ((show List.Nodup (["cells","number","value","below","above","here","cell"]:List Str) by decide +kernel))),(Zgx (Zak Zou (Zac Zab (Zc 6) Zh) (Zc 1))),(Zc 6)⟩)
    ·refine Zg ?_ ?_
     ·exact ZdB (N':=["cells","number","value","below","above","here","cell"]) 4 (ZbV rfl (by kernel_rfl)) rfl rfl Zdd.nd (Zni (Zc 0)) (fun C cl s H ex=>⟨(ZcJ 6 ((show List.Nodup (["cells","number","value","below","above","here","cell"]:List Str) by decide +kernel))),(Zgx (Zak Zhk (Zac Zab (Zc 6) Zh) (Zc 1))),(Zc 6)⟩)
     ·refine Zg ?_ ?_
      ·exact Zah 5 Zdd.nd (Zro (Zak ((Zje hu)) (Zc 2) Zh) (Zc9 (Zd (Zbp (Zd (Zc 1) (Zd (Zc 2) Zm))) Zm)) (Zc9 Zm))
      ·exact Zr (Zas (Zer (T:="tuple") ZeK T.m_tuple Zd7 (Zd (Zu ZaG (Zu ZaG (Zc 3) (Zc 5)) (Zc 4)) Zm)))
theorem Zhv:Zav ["row","boxes","cells"] ["row","boxes","cells"] (Zo Zb4):=⟨rfl,rfl,rfl,by decide +kernel,rfl,by decide +kernel,by decide +kernel⟩
theorem Zhs (A:ZaF K mg "next_cells" Zb4 ["row","boxes","cells"]) (T:Txt K mg) (F_with_cell:Fn3 P w K mg base 1 "with_cell" ["cells","number","value"] Zcx):Fn3 P w K mg base 2 "next_cells" ["row","boxes","cells"] ZcQ:=
  Fn3.of (N:=["row","boxes","cells"]) (k:=1) A Zhv fun f cdv A outer s H E hr=>by
    have hu:=ZcT hr
    unfold Zd9
    refine Zg ?_ ?_
    ·refine ZaC ?_ ?_ ?_
     ·exact Zak ((ZbB hu)) (Zac Zab (Zc 0) Zh) ZaQ
     ·refine Zr ?_
      refine Zas ?_
      exact Zay (k:=1) (ps:=["cells","number","value"]) F_with_cell (hr.mono (by decide)) (Zd (Zc 2) (Zd (Zac Zab (Zc 1) (Zac Zab (Zc 0) Zh)) (Zd (Zac Zab (Zc 1) (Zac Zab (Zc 0) Zh)) Zm)))
     ·exact Zao
    ·exact Zr (Zas (Zc 2))
theorem Zcj:Zav ["roll","state","place","boxes","cells","row"] ["roll","state"] (Zo Zb1):=⟨rfl,rfl,rfl,by decide +kernel,rfl,by decide +kernel,by decide +kernel⟩
theorem Zhw (A:ZaF K mg "next_state" Zb1 ["roll","state"]) (T:Txt K mg) (F_next_place:Fn3 P w K mg base 1 "next_place" ["row","place","boxes"] ZcP) (F_next_boxes:Fn3 P w K mg base 2 "next_boxes" ["row","boxes","cells"] ZcD) (F_next_cells:Fn3 P w K mg base 2 "next_cells" ["row","boxes","cells"] ZcQ):Fn3 P w K mg base 3 "next_state" ["roll","state"] Zdi:=
  Fn3.of (N:=["roll","state","place","boxes","cells","row"]) (k:=2) A Zcj fun f cdv A outer s H E hr=>by
    have hu:=ZcT hr
    unfold Zec
    refine Zg ?_ ?_
    ·exact Zah 2 Zcj.nd (Zac Zab (Zc 1) Zh)
    ·refine Zg ?_ ?_
     ·exact Zah 3 Zcj.nd (Zac Zab (Zc 1) Zh)
     ·refine Zg ?_ ?_
      ·exact Zah 4 Zcj.nd (Zac Zab (Zc 1) Zh)
      ·refine Zg ?_ ?_
       ·exact Zah 5 Zcj.nd (Zac Zab (Zc 0) (Zc 2))
       ·refine Zg ?_ ?_
        ·exact ZaC (Zak ((ZbB hu)) (Zac Zab (Zc 5) Zh) ZaQ) (Zr (Zas Zjk)) Zao
        ·refine Zr ?_
         refine Zas ?_
         refine Zbp ?_
         refine Zd ?_ ?_
         ·exact Zay (k:=1) (ps:=["row","place","boxes"]) F_next_place (hr.mono (by decide)) (Zd (Zc 5) (Zd (Zc 2) (Zd (Zc 3) Zm)))
         ·refine Zd ?_ ?_
          ·exact Zay (k:=2) (ps:=["row","boxes","cells"]) F_next_boxes (hr.mono (by decide)) (Zd (Zc 5) (Zd (Zc 3) (Zd (Zc 4) Zm)))
          ·exact Zd (Zay (k:=2) (ps:=["row","boxes","cells"]) F_next_cells (hr.mono (by decide)) (Zd (Zc 5) (Zd (Zc 3) (Zd (Zc 4) Zm)))) Zm
theorem Zik:Zav ["number","many"] ["number","many"] (Zo Zcv):=⟨rfl,rfl,rfl,by decide +kernel,rfl,by decide +kernel,by decide +kernel⟩
theorem Ziq (A:ZaF K mg "is_within" Zcv ["number","many"]) (T:Txt K mg):Fn3 P w K mg base 1 "is_within" ["number","many"] Zcy:=
  Fn3.of (N:=["number","many"]) (k:=0) A Zik fun f cdv A outer s H E hr=>by
    have hu:=ZcT hr
    unfold ZeE
    exact Zr (Zas (ZhT (Zeq ZqY (Zc 0) Zh) (ZjJ (Zeq Zou (Zc 0) (Zc 1)))))
theorem Zg4:Zav ["self"] ["self"] (Zo ZbE):=⟨rfl,rfl,rfl,by decide +kernel,rfl,by decide +kernel,by decide +kernel⟩
theorem Zha {C_Teller:Addr} (O_Teller:Zcw K mg C_Teller) (A:Zgj K C_Teller "many" "Teller.many" ZbE ["self"]) (T:Txt K mg):ZfX P w K mg base 1 C_Teller "many" ["self"] Zbj:=
  ZfX.of (N:=["self"]) (k:=0) A Zg4 fun f cdv A outer s H E hr=>by
    have hu:=ZcT hr
    unfold Ze2
    exact Zr (Zas (Zb9 (id:="len") ZcE T.m_len Zbz (Zd (Zjf (C:=C_Teller) (c:=[84,101,108,108,101,114]) (m:=[115,116,97,116,101,115]) O_Teller.ok O_Teller.n_states (Zc 0)) Zm)))
theorem Zfp:Zav ["self","time"] ["self","time"] (Zo Za9):=⟨rfl,rfl,rfl,by decide +kernel,rfl,by decide +kernel,by decide +kernel⟩
theorem Zfd {C_Teller:Addr} (O_Teller:Zcw K mg C_Teller) (A:Zgj K C_Teller "state_at" "Teller.state_at" Za9 ["self","time"]) (T:Txt K mg) (F_is_within:Fn3 P w K mg base 1 "is_within" ["number","many"] Zcy):ZfX P w K mg base 2 C_Teller "state_at" ["self","time"] Zbr:=
  ZfX.of (N:=["self","time"]) (k:=1) A Zfp fun f cdv A outer s H E hr=>by
    have hu:=ZcT hr
    unfold ZdH
    refine Zg ?_ ?_
    ·refine ZaC ?_ ?_ ?_
     ·exact ZfZ (Zdz (Zay (k:=1) (ps:=["number","many"]) F_is_within (hr.mono (by decide)) (Zd (Zc 1) (Zd (Zb9 (id:="len") ZcE T.m_len Zbz (Zd (Zjf (C:=C_Teller) (c:=[84,101,108,108,101,114]) (m:=[115,116,97,116,101,115]) O_Teller.ok O_Teller.n_states (Zc 0)) Zm)) Zm))))
     ·exact Zr Zix
     ·exact Zao
    ·exact Zg (Zdc (Zbg (Zjf (C:=C_Teller) (c:=[84,101,108,108,101,114]) (m:=[97,115,107,101,100]) O_Teller.ok O_Teller.n_asked (Zc 0)) (Zd (Zc 1) Zm))) (Zr (Zas (Zac Zab (Zjf (C:=C_Teller) (c:=[84,101,108,108,101,114]) (m:=[115,116,97,116,101,115]) O_Teller.ok O_Teller.n_states (Zc 0)) (Zc 1))))
theorem Zkj:Zav ["one","other","time"] ["one","other","time"] (Zo Zdk):=⟨rfl,rfl,rfl,by decide +kernel,rfl,by decide +kernel,by decide +kernel⟩
theorem Zky (A:ZaF K mg "both_at" Zdk ["one","other","time"]) (T:Txt K mg) {C_Teller:Addr} (O_Teller:Zcw K mg C_Teller) (M_Teller_state_at:ZfX P w K mg base 2 C_Teller "state_at" ["self","time"] Zbr):Fn3 P w K mg base 3 "both_at" ["one","other","time"] Zct:=
  Fn3.of (N:=["one","other","time"]) (k:=2) A Zkj fun f cdv A outer s H E hr=>by
    have hu:=ZcT hr
    unfold ZhU
    exact Zr (Zas (Zbp (Zd (Zm5 (C:=C_Teller) (c:=[84,101,108,108,101,114]) (m:=[115,116,97,116,101,95,97,116]) (k:=2) (ps:=["self","time"]) O_Teller.ok M_Teller_state_at (hr.mono (by decide)) (Zc 0) (Zd (Zc 2) Zm)) (Zd (Zm5 (C:=C_Teller) (c:=[84,101,108,108,101,114]) (m:=[115,116,97,116,101,95,97,116]) (k:=2) (ps:=["self","time"]) O_Teller.ok M_Teller_state_at (hr.mono (by decide)) (Zc 1) (Zd (Zc 2) Zm)) Zm))))
theorem ZhI:Zav ["both"] ["both"] (Zo Zb6):=⟨rfl,rfl,rfl,by decide +kernel,rfl,by decide +kernel,by decide +kernel⟩
theorem ZhA (A:ZaF K mg "are_unlike" Zb6 ["both"]) (T:Txt K mg):Fn3 P w K mg base 1 "are_unlike" ["both"] Zby:=
  Fn3.of (N:=["both"]) (k:=0) A ZhI fun f cdv A outer s H E hr=>by
    have hu:=ZcT hr
    unfold ZfR
    exact Zr (Zas (Zeq ((Zje hu)) (Zac Zab (Zc 0) Zh) (Zac Zab (Zc 0) Zh)))
theorem Zfb:Zav ["roll","state","both","right"] ["roll","state","both"] (Zo ZbU):=⟨rfl,rfl,rfl,by decide +kernel,rfl,by decide +kernel,by decide +kernel⟩
theorem ZhF (A:ZaF K mg "wrong_ones" ZbU ["roll","state","both"]) (T:Txt K mg) (F_next_state:Fn3 P w K mg base 3 "next_state" ["roll","state"] Zdi):Fn3 P w K mg base 4 "wrong_ones" ["roll","state","both"] Zdg:=
  Fn3.of (N:=["roll","state","both","right"]) (k:=3) A Zfb fun f cdv A outer s H E hr=>by
    have hu:=ZcT hr
    unfold ZfQ
    refine Zg ?_ ?_
    ·exact Zah 3 Zfb.nd (Zay (k:=3) (ps:=["roll","state"]) F_next_state (hr.mono (by decide)) (Zd (Zc 0) (Zd (Zc 1) Zm)))
    ·exact Zr (Zas (Zbp (Zd (Zeq ((ZkO hu)) (Zac Zab (Zc 2) Zh) (Zc 3)) (Zd (Zeq ((ZkO hu)) (Zac Zab (Zc 2) Zh) (Zc 3)) Zm))))
theorem Zbk:Zav ["roll","one","other","low","first","high","last","alike","unlike","middle","both"] ["roll","one","other"] (Zo ZdY):=⟨rfl,rfl,rfl,by decide +kernel,rfl,by decide +kernel,by decide +kernel⟩
theorem Zlu (A:ZaF K mg "judged" ZdY ["roll","one","other"]) (T:Txt K mg) {C_Teller:Addr} (O_Teller:Zcw K mg C_Teller) (M_Teller_many:ZfX P w K mg base 1 C_Teller "many" ["self"] Zbj) (F_both_at:Fn3 P w K mg base 3 "both_at" ["one","other","time"] Zct) (F_are_unlike:Fn3 P w K mg base 1 "are_unlike" ["both"] Zby) (F_wrong_ones:Fn3 P w K mg base 4 "wrong_ones" ["roll","state","both"] Zdg):Fn3 P w K mg base 5 "judged" ["roll","one","other"] Zew:=
  Fn3.of (N:=["roll","one","other","low","first","high","last","alike","unlike","middle","both"]) (k:=4) A Zbk fun f cdv A outer s H E hr=>by
    have hu:=ZcT hr
    unfold Zjb
    refine Zg ?_ ?_
    ·refine ZaC ?_ ?_ ?_
     ·refine CW.ct ?_
      exact Zi4 (Zak ((Zje hu)) (ZeS (C:=C_Teller) (c:=[84,101,108,108,101,114]) (m:=[109,97,110,121]) (k:=1) (ps:=["self"]) O_Teller.ok M_Teller_many (hr.mono (by decide)) (Zc 1)) (ZeS (C:=C_Teller) (c:=[84,101,108,108,101,114]) (m:=[109,97,110,121]) (k:=1) (ps:=["self"]) O_Teller.ok M_Teller_many (hr.mono (by decide)) (Zc 2))) (ZiB (Zak Zou (ZeS (C:=C_Teller) (c:=[84,101,108,108,101,114]) (m:=[109,97,110,121]) (k:=1) (ps:=["self"]) O_Teller.ok M_Teller_many (hr.mono (by decide)) (Zc 1)) Zh))
     ·exact Zr Zix
     ·exact Zao
    ·refine Zg ?_ ?_
     ·exact Zah 3 Zbk.nd Zh
     ·refine Zg ?_ ?_
      ·exact Zah 4 Zbk.nd (Zay (k:=3) (ps:=["one","other","time"]) F_both_at (hr.mono (by decide)) (Zd (Zc 1) (Zd (Zc 2) (Zd (Zc 3) Zm))))
      ·refine Zg ?_ ?_
       ·exact ZaC (Zdz (Zay (k:=1) (ps:=["both"]) F_are_unlike (hr.mono (by decide)) (Zd (Zc 4) Zm))) (Zr Zix) Zao
       ·refine Zg ?_ ?_
        ·exact Zah 5 Zbk.nd (Zu ZeZ (ZeS (C:=C_Teller) (c:=[84,101,108,108,101,114]) (m:=[109,97,110,121]) (k:=1) (ps:=["self"]) O_Teller.ok M_Teller_many (hr.mono (by decide)) (Zc 1)) Zh)
        ·refine Zg ?_ ?_
         ·exact Zah 6 Zbk.nd (Zay (k:=3) (ps:=["one","other","time"]) F_both_at (hr.mono (by decide)) (Zd (Zc 1) (Zd (Zc 2) (Zd (Zc 5) Zm))))
         ·refine Zg ?_ ?_
          ·exact ZaC (ZfZ (Zdz (Zay (k:=1) (ps:=["both"]) F_are_unlike (hr.mono (by decide)) (Zd (Zc 6) Zm)))) (Zr Zix) Zao
          ·refine Zg ?_ ?_
           ·exact Zah 7 Zbk.nd (Zac Zab (Zc 4) Zh)
           ·refine Zg ?_ ?_
            ·exact Zah 8 Zbk.nd (Zc 6)
            ·refine Zg ?_ ?_
             ·refine ZjF ?_ ?_ ?_
              ·exact rfl
              ·exact Zak ((Zje hu)) (Zc 5) (Zu ZaG (Zc 3) Zh)
              ·refine Zg ?_ ?_
               ·exact Zah 9 Zbk.nd (Zu ZaV (Zu ZaG (Zc 3) (Zc 5)) Zh)
               ·refine Zg ?_ ?_
                ·exact Zah 10 Zbk.nd (Zay (k:=3) (ps:=["one","other","time"]) F_both_at (hr.mono (by decide)) (Zd (Zc 1) (Zd (Zc 2) (Zd (Zc 9) Zm))))
                ·refine Zr ?_
                 refine ZaC ?_ ?_ ?_
                 ·exact Zdz (Zay (k:=1) (ps:=["both"]) F_are_unlike (hr.mono (by decide)) (Zd (Zc 10) Zm))
                 ·exact Zg (Zah 5 Zbk.nd (Zc 9)) (Zr (Zah 8 Zbk.nd (Zc 10)))
                 ·exact Zg (Zah 3 Zbk.nd (Zc 9)) (Zr (Zah 7 Zbk.nd (Zac Zab (Zc 10) Zh)))
             ·exact Zr (Zas (Zbp (Zd (Zc 3) (Zd (Zay (k:=4) (ps:=["roll","state","both"]) F_wrong_ones (hr.mono (by decide)) (Zd (Zc 0) (Zd (Zc 7) (Zd (Zc 8) Zm)))) Zm))))
theorem Zeg:Zav ["deck","cells","at"] ["deck"] (Zo Zcz):=⟨rfl,rfl,rfl,by decide +kernel,rfl,by decide +kernel,by decide +kernel⟩
theorem ZiJ (A:ZaF K mg "_law_next" Zcz ["deck"]) (T:Txt K mg):Fn3 P w K mg base 1 "_law_next" ["deck"] Zar:=
  Fn3.of (N:=["deck","cells","at"]) (k:=0) A Zeg fun f cdv A outer s H E hr=>by
    have hu:=ZcT hr
    unfold Zcp
    refine Zg ?_ ?_
    ·exact Zah 1 Zeg.nd (Zac Zab (Zc 0) Zh)
    ·refine Zg ?_ ?_
     ·exact Zah 2 Zeg.nd (Zac Zab (Zc 0) Zh)
     ·refine Zg ?_ ?_
      ·exact Zeh (Zc 0) Zh (Zu ZaG (Zc 2) Zh)
      ·refine Zg ?_ ?_
       ·exact ZaC (Zak Zou (Zc 2) (Zb9 (id:="len") ZcE T.m_len Zbz (Zd (Zc 1) Zm))) (Zr (Zas (Zac Zab (Zc 1) (Zc 2)))) Zao
       ·refine Zg ?_ ?_
        ·refine ZaC ?_ ?_ ?_
         ·exact Zak ((ZbB hu)) (Zb9 (id:="len") ZcE T.m_len Zbz (Zd (Zc 1) Zm)) Zh
         ·exact Zr (Zas (Zu ZaG (Zu ZkZ (Zu ZkZ (Zc 2) (Zc 2)) Zh) (Zc 2)))
         ·exact Zao
        ·refine Zr ?_
         refine Zas ?_
         exact Zu ZaG (Zu ZaV (Zac Zab (Zc 1) (Zu ZaU (Zc 2) (Zb9 (id:="len") ZcE T.m_len Zbz (Zd (Zc 1) Zm)))) Zh) (Zu ZkZ (Zc 2) (Zc 2))
theorem ZfL:Zav ["found","due"] ["found","due"] (Zo Zcs):=⟨rfl,rfl,rfl,by decide +kernel,rfl,by decide +kernel,by decide +kernel⟩
theorem ZiD (A:ZaF K mg "_law_same" Zcs ["found","due"]) (T:Txt K mg):Fn3 P w K mg base 8 "_law_same" ["found","due"] Zbh:=by
  have all:∀ n:Nat,Fn3 P w K mg base (n + 1) "_law_same" ["found","due"] (ZaJ n):=by
    intro n
    induction n with
    | zero=>exact Fn3.of (N:=["found","due"]) (k:=0) A ZfL fun f cdv A outer s H E hr=>ZnX
    | succ n IH=>
      refine (Fn3.of (N:=["found","due"]) (k:=n + 1) A ZfL fun f cdv A outer s H E hr=>?_).mono (by omega)
      have hu:=ZcT hr
      unfold ZaX
      refine Zg ?_ ?_
      ·refine ZaC ?_ ?_ ?_
       ·exact Zdz (ZkU .tuple .list T.m_isinstance T.m_tuple T.m_list (Zc 1))
       ·refine Zg ?_ ?_
        ·refine ZaC ?_ ?_ ?_
         ·exact CW.ct (Zi4 (Zak ((Zje hu)) (ZeC .tuple T.m_isinstance T.m_tuple (Zc 0)) (ZeC .tuple T.m_isinstance T.m_tuple (Zc 1))) (ZiB (ZfZ (Zdz (ZkU .tuple .list T.m_isinstance T.m_tuple T.m_list (Zc 0))))))
         ·exact Zr (Zas Zov)
         ·exact Zao
        ·refine Zr ?_
         refine Zas ?_
         refine ZhT ?_ ?_
         ·exact Zeq ((ZbB hu)) (Zb9 (id:="len") ZcE T.m_len Zbz (Zd (Zc 0) Zm)) (Zb9 (id:="len") ZcE T.m_len Zbz (Zd (Zc 1) Zm))
         ·refine ZjJ ?_
          refine Zb9 (id:="all") ?_ ?_ ?_ ?_
          ·exact (Zre rfl)
          ·exact T.m_all
          ·exact Zph
          ·refine Zd ?_ ?_
           ·refine ZqN (N':=["found","due","k"]) ?_ ?_ ?_ ?_ (fun C cl s H ex=>⟨?_,?_,?_⟩)
            ·exact ZbV rfl (by kernel_rfl)
            ·exact rfl
            ·exact rfl
            ·exact ZeL T.m_range (Zb9 (id:="len") ZcE T.m_len Zbz (Zd (Zc 1) Zm))
            ·exact ZcJ 2 ((show List.Nodup (["found","due","k"]:List Str) by decide +kernel))
            ·exact ZfD
            ·exact Zay (k:=n + 1) (ps:=["found","due"]) IH hr (Zd (Zac Zab (Zc 0) (Zc 2)) (Zd (Zac Zab (Zc 1) (Zc 2)) Zm))
           ·exact Zm
       ·exact Zao
      ·refine Zg ?_ ?_
       ·exact ZaC (Zdz (ZeC .str T.m_isinstance T.m_str (Zc 1))) (Zr (Zas (ZhT (ZeC .str T.m_isinstance T.m_str (Zc 0)) (ZjJ (Zeq ((ZbB hu)) (Zc 0) (Zc 1)))))) Zao
       ·refine Zg ?_ ?_
        ·exact ZaC (Zdz (ZeC .bool T.m_isinstance T.m_bool (Zc 1))) (Zr (Zas (ZhT (ZeC .bool T.m_isinstance T.m_bool (Zc 0)) (ZjJ (Zeq ((ZbB hu)) (Zc 0) (Zc 1)))))) Zao
        ·exact Zr (Zas (ZhT (ZeC .int T.m_isinstance T.m_int (Zc 0)) (ZhT (ZqR (ZeC .bool T.m_isinstance T.m_bool (Zc 0))) (ZjJ (Zeq ((ZbB hu)) (Zc 0) (Zc 1))))))
  exact all 7
theorem ZaN:Zav ["cells","roll","k","cell","word","more","a","b","c","goal","last"] ["cells"] (Zo Zcq):=⟨rfl,rfl,rfl,by decide +kernel,rfl,by decide +kernel,by decide +kernel⟩
theorem ZiI (A:ZaF K mg "_law_roll" Zcq ["cells"]) (T:Txt K mg):Fn3 P w K mg base 1 "_law_roll" ["cells"] ZdT:=
  Fn3.of (N:=["cells","roll","k","cell","word","more","a","b","c","goal","last"]) (k:=0) A ZaN fun f cdv A outer s H E hr=>by
    have hu:=ZcT hr
    unfold ZeI
    refine Zg ?_ ?_
    ·exact Zah 1 ZaN.nd (Zc9 Zm)
    ·refine Zg ?_ ?_
     ·refine ZnN ?_ ?_ ?_ ?_ ?_
      ·exact rfl
      ·exact rfl
      ·exact ZnJ T.m_enumerate (Zc 0)
      ·exact ZiC rfl (Zbn 2 ZaN.nd (Zbn 3 ZaN.nd ZeN))
      ·refine Zg ?_ ?_
       ·refine Zah 4 ?_ ?_
        ·exact ZaN.nd
        ·refine Zac ?_ ?_ ?_
         ·exact Zab
         ·exact Zc9 (Zd ZaQ (Zd ZaQ (Zd ZaQ (Zd ZaQ (Zd ZaQ (Zd ZaQ (Zd ZaQ (Zd ZaQ (Zd ZaQ (Zd ZaQ Zm))))))))))
         ·exact Zu ZaU (Zc 3) Zh
       ·refine Zg ?_ ?_
        ·exact Zah 5 ZaN.nd (Zu ZaV (Zc 3) Zh)
        ·refine Zg ?_ ?_
         ·exact Zah 6 ZaN.nd (Zu ZaU (Zc 5) Zh)
         ·refine Zg ?_ ?_
          ·exact Zah 7 ZaN.nd (Zu ZaU (Zu ZaV (Zc 5) Zh) Zh)
          ·refine Zg ?_ ?_
           ·exact Zah 8 ZaN.nd (Zu ZaU (Zu ZaV (Zc 5) Zh) Zh)
           ·refine Zg ?_ ?_
            ·refine Zah 9 ?_ ?_
             ·exact ZaN.nd
             ·exact Zu ZaG (Zu ZaG (Zc 2) Zh) (Zu ZaU (Zu ZaV (Zc 5) Zh) (Zu ZeZ (Zb9 (id:="len") ZcE T.m_len Zbz (Zd (Zc 0) Zm)) (Zc 2)))
            ·refine Zg ?_ ?_
             ·refine ZaC ?_ ?_ ?_
              ·exact Zak ((ZbB hu)) (Zu ZaU (Zu ZaV (Zc 5) Zh) Zh) Zh
              ·exact Zr (Zah 9 ZaN.nd (Zu ZaU (Zu ZaV (Zc 5) Zh) (Zu ZaG (Zb9 (id:="len") ZcE T.m_len Zbz (Zd (Zc 0) Zm)) Zh)))
              ·exact Zao
             ·refine Zr ?_
              refine ZaC ?_ ?_ ?_
              ·exact Zak ((ZbB hu)) (Zc 4) ZaQ
              ·refine Zr ?_
               refine Zdc ?_
               refine Zbg ?_ ?_
               ·exact Zc 1
               ·refine Zd ?_ ?_
                ·refine Zbp ?_
                 refine Zd ?_ ?_
                 ·exact Zc 4
                 ·refine Zd ?_ ?_
                  ·exact Zc 6
                  ·refine Zd ?_ ?_
                   ·refine Zac ?_ ?_ ?_
                    ·exact Zab
                    ·refine Zc9 ?_
                     refine Zd ?_ ?_
                     ·exact Zu ZaU (Zu ZaV (Zc 5) Zh) Zh
                     ·refine Zd ?_ ?_
                      ·exact Zu ZeZ Zh (Zu ZaU (Zu ZaV (Zc 5) Zh) (Zu Zmo Zh Zh))
                      ·exact Zd (Zu ZaU (Zu ZaV (Zc 5) Zh) (Zu Zmo Zh Zh)) Zm
                    ·exact Zu ZaU (Zc 7) Zh
                   ·exact Zm
                ·exact Zm
              ·refine Zr ?_
               refine ZaC ?_ ?_ ?_
               ·exact Zak ZoB (Zc 4) (Zc9 (Zd ZaQ (Zd ZaQ (Zd ZaQ Zm))))
               ·exact Zr (Zdc (Zbg (Zc 1) (Zd (Zbp (Zd (Zc 4) (Zd (Zc 6) (Zd (Zc 7) (Zd (Zc 8) Zm))))) Zm)))
               ·refine Zr ?_
                refine ZaC ?_ ?_ ?_
                ·exact Zak ZoB (Zc 4) (Zc9 (Zd ZaQ (Zd ZaQ Zm)))
                ·exact Zr (Zdc (Zbg (Zc 1) (Zd (Zbp (Zd (Zc 4) (Zd (Zc 6) (Zd (Zc 7) Zm)))) Zm)))
                ·refine Zr ?_
                 refine ZaC ?_ ?_ ?_
                 ·exact Zak ((ZbB hu)) (Zc 4) ZaQ
                 ·exact Zr (Zdc (Zbg (Zc 1) (Zd (Zbp (Zd (Zc 4) (Zd (Zc 6) (Zd (Zc 9) Zm)))) Zm)))
                 ·refine Zr ?_
                  refine ZaC ?_ ?_ ?_
                  ·exact Zak ((ZbB hu)) (Zc 4) ZaQ
                  ·exact Zr (Zdc (Zbg (Zc 1) (Zd (Zbp (Zd (Zc 4) (Zd (Zc 9) Zm))) Zm)))
                  ·exact Zr (Zdc (Zbg (Zc 1) (Zd (Zbp (Zd (Zc 4) (Zd (Zc 6) Zm))) Zm)))
     ·refine Zg ?_ ?_
      ·exact Zah 10 ZaN.nd (Zbp (Zd ZaQ Zm))
      ·refine Zg ?_ ?_
       ·refine ZaC ?_ ?_ ?_
        ·refine CW.ct ?_
         refine Zf7 ?_ ?_
         ·exact Zak Zhk (Zb9 (id:="len") ZcE T.m_len Zbz (Zd (Zc 0) Zm)) Zh
         ·exact ZeO (Zak ((ZbB hu)) (Zu ZaU (Zac Zab (Zc 0) (Zor ZkV Zh)) Zh) Zh)
        ·refine Zr ?_
         refine Zah 10 ?_ ?_
         ·exact ZaN.nd
         ·refine Zbp ?_
          refine Zd ?_ ?_
          ·exact ZaQ
          ·refine Zd ?_ ?_
           ·exact Zu ZaU (Zu ZaV (Zac Zab (Zc 0) (Zor ZkV Zh)) Zh) (Zu ZaG (Zb9 (id:="len") ZcE T.m_len Zbz (Zd (Zc 0) Zm)) Zh)
           ·exact Zm
        ·exact Zao
       ·exact Zr (Zas (Zer (T:="tuple") ZeK T.m_tuple Zd7 (Zd (Zu ZaG (Zc 1) (Zc9 (Zd (Zc 10) Zm))) Zm)))
theorem ZaO:Zav ["deed","place","boxes","held","value"] ["deed","place","boxes","held"] (Zo ZbF):=⟨rfl,rfl,rfl,by decide +kernel,rfl,by decide +kernel,by decide +kernel⟩
theorem ZgK (A:ZaF K mg "_law_behind" ZbF ["deed","place","boxes","held"]) (T:Txt K mg):Fn3 P w K mg base 1 "_law_behind" ["deed","place","boxes","held"] Zbi:=
  Fn3.of (N:=["deed","place","boxes","held","value"]) (k:=0) A ZaO fun f cdv A outer s H E hr=>by
    have hu:=ZcT hr
    unfold ZaD
    refine Zg ?_ ?_
    ·exact Zah 1 ZaO.nd (Zu ZaG (Zc 1) Zh)
    ·refine Zg ?_ ?_
     ·exact Zah 4 ZaO.nd Zjk
     ·refine Zg ?_ ?_
      ·exact ZaC (Zak ((ZbB hu)) (Zac Zab (Zc 0) Zh) ZaQ) (Zr (Zah 4 ZaO.nd (Zac Zab (Zc 0) Zh))) Zao
      ·refine Zg ?_ ?_
       ·refine ZaC ?_ ?_ ?_
        ·exact Zak ((ZbB hu)) (Zac Zab (Zc 0) Zh) ZaQ
        ·exact Zr (Zah 4 ZaO.nd (Zu ZaG (Zac Zab (Zc 2) (Zac Zab (Zc 0) Zh)) (Zac Zab (Zc 2) (Zac Zab (Zc 0) Zh))))
        ·exact Zao
       ·refine Zg ?_ ?_
        ·refine ZaC ?_ ?_ ?_
         ·exact Zak ((ZbB hu)) (Zac Zab (Zc 0) Zh) ZaQ
         ·exact Zr (Zah 4 ZaO.nd (Zu ZeZ (Zac Zab (Zc 2) (Zac Zab (Zc 0) Zh)) (Zac Zab (Zc 2) (Zac Zab (Zc 0) Zh))))
         ·exact Zao
        ·refine Zg ?_ ?_
         ·refine ZaC ?_ ?_ ?_
          ·exact Zak ((ZbB hu)) (Zac Zab (Zc 0) Zh) ZaQ
          ·refine Zr ?_
           refine Zah 4 ?_ ?_
           ·exact ZaO.nd
           ·refine Zac ?_ ?_ ?_
            ·exact Zab
            ·exact Zc9 (Zd Zh (Zd Zh Zm))
            ·exact Zer (T:="int") Zqq T.m_int Zpa (Zd (Zeq Zhk (Zac Zab (Zc 2) (Zac Zab (Zc 0) Zh)) (Zac Zab (Zc 2) (Zac Zab (Zc 0) Zh))) Zm)
          ·exact Zao
         ·refine Zg ?_ ?_
          ·exact ZaC (Zak ((ZbB hu)) (Zac Zab (Zc 0) Zh) ZaQ) (Zr (Zah 4 ZaO.nd (Zc 3))) Zao
          ·refine Zg ?_ ?_
           ·refine ZaC ?_ ?_ ?_
            ·refine CW.ct ?_
             refine Zi4 ?_ ?_
             ·exact Zak ((ZbB hu)) (Zac Zab (Zc 0) Zh) ZaQ
             ·exact ZiB (CW.ct (Zf7 (Zak ((ZbB hu)) (Zac Zab (Zc 0) Zh) ZaQ) (ZeO (Zak Zhk (Zac Zab (Zc 2) (Zac Zab (Zc 0) Zh)) Zh))))
            ·exact Zr (Zah 1 ZaO.nd (Zac Zab (Zc 0) (Zor ZkV Zh)))
            ·exact Zao
           ·refine Zg ?_ ?_
            ·refine ZaC ?_ ?_ ?_
             ·exact Zak Zn4 (Zc 4) Zjk
             ·refine Zr ?_
              refine Zah 2 ?_ ?_
              ·exact ZaO.nd
              ·refine Zu ?_ ?_ ?_
               ·exact ZaG
               ·exact Zu ZaG (Zjs Zjr (Zc 2) ZdS (ZdK (Zac Zab (Zc 0) Zh))) (Zbp (Zd (Zc 4) Zm))
               ·exact Zjs Zjr (Zc 2) (ZdK (Zu ZaG (Zac Zab (Zc 0) Zh) Zh)) ZdS
             ·exact Zao
            ·exact Zr (Zas (Zbp (Zd (Zc 1) (Zd (Zc 2) Zm))))
theorem Zdu:Zav ["cells","number","value","found"] ["cells","number","value"] (Zo Zbd):=⟨rfl,rfl,rfl,by decide +kernel,rfl,by decide +kernel,by decide +kernel⟩
theorem Zfq (A:ZaF K mg "_law_cells_with" Zbd ["cells","number","value"]) (T:Txt K mg):Fn3 P w K mg base 1 "_law_cells_with" ["cells","number","value"] Za8:=
  Fn3.of (N:=["cells","number","value","found"]) (k:=0) A Zdu fun f cdv A outer s H E hr=>by
    have hu:=ZcT hr
    unfold ZdO
    refine Zg ?_ ?_
    ·exact ZdB (N':=["cells","number","value","found","pair"]) 3 (ZbV rfl (by kernel_rfl)) rfl rfl Zdu.nd (Zni (Zc 0)) (fun C cl s H ex=>⟨(ZcJ 4 ((show List.Nodup (["cells","number","value","found","pair"]:List Str) by decide +kernel))),(Zgx (Zak ((Zje hu)) (Zac Zab (Zc 4) Zh) (Zc 1))),(Zc 4)⟩)
    ·refine Zg ?_ ?_
     ·exact ZaC (Zak ((Zje hu)) (Zc 2) Zh) (Zr (Zdc (Zbg (Zc 3) (Zd (Zbp (Zd (Zc 1) (Zd (Zc 2) Zm))) Zm)))) Zao
     ·exact Zr (Zas (Zer (T:="tuple") ZeK T.m_tuple Zd7 (Zd (Zb9 (id:="sorted") Zml T.m_sorted Zlz (Zd (Zc 3) Zm)) Zm)))
theorem Zaw:Zav ["roll","state","place","boxes","cells","deed","held"] ["roll","state"] (Zo Zbc):=⟨rfl,rfl,rfl,by decide +kernel,rfl,by decide +kernel,by decide +kernel⟩
theorem Zfj (A:ZaF K mg "_law_next_state" Zbc ["roll","state"]) (T:Txt K mg) (F__law_behind:Fn3 P w K mg base 1 "_law_behind" ["deed","place","boxes","held"] Zbi) (F__law_cells_with:Fn3 P w K mg base 1 "_law_cells_with" ["cells","number","value"] Za8):Fn3 P w K mg base 2 "_law_next_state" ["roll","state"] ZbK:=
  Fn3.of (N:=["roll","state","place","boxes","cells","deed","held"]) (k:=1) A Zaw fun f cdv A outer s H E hr=>by
    have hu:=ZcT hr
    unfold ZbL
    refine Zg ?_ ?_
    ·exact ZjS (Zc 1) (ZiC rfl (Zbn 2 Zaw.nd (Zbn 3 Zaw.nd (Zbn 4 Zaw.nd ZeN))))
    ·refine Zg ?_ ?_
     ·exact Zah 5 Zaw.nd (Zac Zab (Zc 0) (Zc 2))
     ·refine Zg ?_ ?_
      ·exact ZaC (Zak ((ZbB hu)) (Zac Zab (Zc 5) Zh) ZaQ) (Zr (Zas Zjk)) Zao
      ·refine Zg ?_ ?_
       ·exact Zah 6 Zaw.nd Zh
       ·refine Zg ?_ ?_
        ·refine ZaC ?_ ?_ ?_
         ·exact Zak ((ZbB hu)) (Zac Zab (Zc 5) Zh) ZaQ
         ·exact Zr (Zah 6 Zaw.nd (Zkk hu (Zer (T:="dict") ((Zj8 rfl)) T.m_dict ZiU (Zd (Zc 4) Zm)) (Zac Zab (Zc 3) (Zac Zab (Zc 5) Zh)) Zh))
         ·exact Zao
        ·refine Zg ?_ ?_
         ·refine ZaC ?_ ?_ ?_
          ·exact Zak ((ZbB hu)) (Zac Zab (Zc 5) Zh) ZaQ
          ·refine Zr ?_
           refine Zah 4 ?_ ?_
           ·exact Zaw.nd
           ·exact Zay (k:=1) (ps:=["cells","number","value"]) F__law_cells_with (hr.mono (by decide)) (Zd (Zc 4) (Zd (Zac Zab (Zc 3) (Zac Zab (Zc 5) Zh)) (Zd (Zac Zab (Zc 3) (Zac Zab (Zc 5) Zh)) Zm)))
          ·exact Zao
         ·refine Zg ?_ ?_
          ·exact ZjS (Zay (k:=1) (ps:=["deed","place","boxes","held"]) F__law_behind (hr.mono (by decide)) (Zd (Zc 5) (Zd (Zc 2) (Zd (Zc 3) (Zd (Zc 6) Zm))))) (ZiC rfl (Zbn 2 Zaw.nd (Zbn 3 Zaw.nd ZeN)))
          ·exact Zr (Zas (Zbp (Zd (Zc 2) (Zd (Zc 3) (Zd (Zc 4) Zm)))))
theorem ZcZ:Zav ["deck","roll","cell","boxes","cells"] ["deck","roll"] (Zo Zb2):=⟨rfl,rfl,rfl,by decide +kernel,rfl,by decide +kernel,by decide +kernel⟩
theorem Zhj (A:ZaF K mg "_law_state" Zb2 ["deck","roll"]) (T:Txt K mg) (F__law_next:Fn3 P w K mg base 1 "_law_next" ["deck"] Zar):Fn3 P w K mg base 2 "_law_state" ["deck","roll"] ZbC:=
  Fn3.of (N:=["deck","roll","cell","boxes","cells"]) (k:=1) A ZcZ fun f cdv A outer s H E hr=>by
    have hu:=ZcT hr
    unfold ZfP
    refine Zg ?_ ?_
    ·exact Zah 2 ZcZ.nd (Zay (k:=1) (ps:=["deck"]) F__law_next (hr.mono (by decide)) (Zd (Zc 0) Zm))
    ·refine Zg ?_ ?_
     ·exact ZdB (N':=["deck","roll","cell","boxes","cells","k"]) 3 (ZbV rfl (by kernel_rfl)) rfl rfl ZcZ.nd (ZeL T.m_range Zh) (fun C cl s H ex=>⟨(ZcJ 5 ((show List.Nodup (["deck","roll","cell","boxes","cells","k"]:List Str) by decide +kernel))),ZfD,(Zu ZeZ (Zc 5) Zh)⟩)
     ·refine Zg ?_ ?_
      ·exact Zeh (Zc 3) (Zu ZaU (Zc 2) Zh) (Zu ZaU (Zu ZaV (Zc 2) Zh) (Zu Zmo Zh Zh))
      ·refine Zg ?_ ?_
       ·refine ZdB (N':=["deck","roll","cell","boxes","cells","number"]) 4 ?_ ?_ ?_ ?_ ?_ (fun C cl s H ex=>⟨?_,?_,?_⟩)
        ·exact ZbV rfl (by kernel_rfl)
        ·exact rfl
        ·exact rfl
        ·exact ZcZ.nd
        ·exact Zh5 T.m_range (Zor ZkV Zh) Zh
        ·exact ZcJ 5 ((show List.Nodup (["deck","roll","cell","boxes","cells","number"]:List Str) by decide +kernel))
        ·exact Zgx (Zak ((ZbB hu)) (Zu ZaU (Zu ZaV (Zu ZaV (Zc 2) Zh) (Zu ZaG (Zc 5) Zh)) Zh) Zh)
        ·exact Zbp (Zd (Zc 5) (Zd (Zu ZaG Zh (Zu ZaU (Zu ZkZ (Zc 5) (Zc 5)) Zh)) Zm))
       ·refine Zr ?_
        refine Zas ?_
        refine Zbp ?_
        refine Zd ?_ ?_
        ·exact Zu ZaU (Zu ZaV (Zc 2) Zh) (Zb9 (id:="len") ZcE T.m_len Zbz (Zd (Zc 1) Zm))
        ·exact Zd (Zer (T:="tuple") ZeK T.m_tuple Zd7 (Zd (Zc 3) Zm)) (Zd (Zer (T:="tuple") ZeK T.m_tuple Zd7 (Zd (Zc 4) Zm)) Zm)
theorem Zck:Zav ["state","cell","size","place","boxes","cells","box"] ["state","cell","size"] (Zo Zb3):=⟨rfl,rfl,rfl,by decide +kernel,rfl,by decide +kernel,by decide +kernel⟩
theorem Zhn (A:ZaF K mg "_law_other" Zb3 ["state","cell","size"]) (T:Txt K mg) (F__law_cells_with:Fn3 P w K mg base 1 "_law_cells_with" ["cells","number","value"] Za8):Fn3 P w K mg base 2 "_law_other" ["state","cell","size"] ZaE:=
  Fn3.of (N:=["state","cell","size","place","boxes","cells","box"]) (k:=1) A Zck fun f cdv A outer s H E hr=>by
    have hu:=ZcT hr
    unfold Zek
    refine Zg ?_ ?_
    ·exact ZjS (Zc 0) (ZiC rfl (Zbn 3 Zck.nd (Zbn 4 Zck.nd (Zbn 5 Zck.nd ZeN))))
    ·refine Zg ?_ ?_
     ·refine ZaC ?_ ?_ ?_
      ·exact Zak ((ZbB hu)) (Zu ZaU (Zc 1) Zh) Zh
      ·refine Zr ?_
       refine Zas ?_
       refine Zbp ?_
       refine Zd ?_ ?_
       ·exact Zc 3
       ·refine Zd ?_ ?_
        ·exact Zc 4
        ·refine Zd ?_ ?_
         ·refine Zay (k:=1) (ps:=["cells","number","value"]) ?_ ?_ ?_
          ·exact F__law_cells_with
          ·exact hr.mono (by decide)
          ·refine Zd ?_ ?_
           ·exact Zc 5
           ·refine Zd ?_ ?_
            ·exact Zh
            ·refine Zd ?_ ?_
             ·refine Zu ?_ ?_ ?_
              ·exact ZaG
              ·exact Zu ZaG (Zkk hu (Zer (T:="dict") ((Zj8 rfl)) T.m_dict ZiU (Zd (Zc 5) Zm)) Zh Zh) Zh
              ·exact Zu ZaU (Zu ZaV (Zc 1) Zh) Zh
             ·exact Zm
         ·exact Zm
      ·exact Zao
     ·refine Zg ?_ ?_
      ·refine ZaC ?_ ?_ ?_
       ·exact CW.ct (Zf7 (Zak ((ZbB hu)) (Zu ZaU (Zc 1) Zh) Zh) (ZeO (Zak Zhk (Zc 2) Zh)))
       ·refine Zr ?_
        refine Zas ?_
        refine Zbp ?_
        refine Zd ?_ ?_
        ·exact Zu ZaU (Zu ZaG (Zu ZaG (Zc 3) Zh) (Zu ZaU (Zu ZaV (Zc 1) Zh) (Zu ZeZ (Zc 2) Zh))) (Zc 2)
        ·exact Zd (Zc 4) (Zd (Zc 5) Zm)
       ·exact Zao
      ·refine Zg ?_ ?_
       ·exact Zah 6 Zck.nd (Zu ZaU (Zu ZaV (Zc 1) Zh) Zh)
       ·refine Zr ?_
        refine Zas ?_
        refine Zbp ?_
        refine Zd ?_ ?_
        ·exact Zc 3
        ·refine Zd ?_ ?_
         ·refine Zu ?_ ?_ ?_
          ·exact ZaG
          ·refine Zu ?_ ?_ ?_
           ·exact ZaG
           ·exact Zjs Zjr (Zc 4) ZdS (ZdK (Zc 6))
           ·exact Zbp (Zd (Zu ZaG (Zu ZaG (Zac Zab (Zc 4) (Zc 6)) Zh) (Zu ZaU (Zu ZaV (Zc 1) Zh) Zh)) Zm)
          ·exact Zjs Zjr (Zc 4) (ZdK (Zu ZaG (Zc 6) Zh)) ZdS
         ·exact Zd (Zc 5) Zm
theorem Zbt:Zav ["deck","roll","many","way","base","ones","bent","others","at","k"] ["deck","roll","many","way"] (Zo Zb0):=⟨rfl,rfl,rfl,by decide +kernel,rfl,by decide +kernel,by decide +kernel⟩
theorem Zhx (A:ZaF K mg "_law_lists" Zb0 ["deck","roll","many","way"]) (T:Txt K mg) (F__law_next:Fn3 P w K mg base 1 "_law_next" ["deck"] Zar) (F__law_state:Fn3 P w K mg base 2 "_law_state" ["deck","roll"] ZbC) (F__law_other:Fn3 P w K mg base 2 "_law_other" ["state","cell","size"] ZaE):Fn3 P w K mg base 3 "_law_lists" ["deck","roll","many","way"] Zdb:=
  Fn3.of (N:=["deck","roll","many","way","base","ones","bent","others","at","k"]) (k:=2) A Zbt fun f cdv A outer s H E hr=>by
    have hu:=ZcT hr
    unfold ZfJ
    refine Zg ?_ ?_
    ·refine Zah 4 ?_ ?_
     ·exact Zbt.nd
     ·refine ZqN (N':=["deck","roll","many","way","base","ones","bent","others","at",".k","k"]) ?_ ?_ ?_ ?_ (fun C cl s H ex=>⟨?_,?_,?_⟩)
      ·exact ZbV rfl (by kernel_rfl)
      ·exact rfl
      ·exact rfl
      ·exact ZeL T.m_range (Zb9 (id:="min") ((Zqn rfl)) T.m_min Zo1 (Zd (Zc 2) (Zd Zh Zm)))
      ·exact ZcJ 10 ((show List.Nodup (["deck","roll","many","way","base","ones","bent","others","at",".k","k"]:List Str) by decide +kernel))
      ·exact ZfD
      ·exact Zay (k:=2) (ps:=["deck","roll"]) F__law_state (hr.mono (by decide)) (Zd (Zc 0) (Zd (Zc 1) Zm))
    ·refine Zg ?_ ?_
     ·refine ZdB (N':=["deck","roll","many","way","base","ones","bent","others","at",".k","k"]) 5 ?_ ?_ ?_ ?_ ?_ (fun C cl s H ex=>⟨?_,?_,?_⟩)
      ·exact ZbV rfl (by kernel_rfl)
      ·exact rfl
      ·exact rfl
      ·exact Zbt.nd
      ·exact ZeL T.m_range (Zc 2)
      ·exact ZcJ 10 ((show List.Nodup (["deck","roll","many","way","base","ones","bent","others","at",".k","k"]:List Str) by decide +kernel))
      ·exact ZfD
      ·exact Zac Zab (Zc 4) (Zu ZaU (Zc 10) (Zb9 (id:="len") ZcE T.m_len Zbz (Zd (Zc 4) Zm)))
     ·refine Zg ?_ ?_
      ·refine ZdB (N':=["deck","roll","many","way","base","ones","bent","others","at","k","state"]) 6 ?_ ?_ ?_ ?_ ?_ (fun C cl s H ex=>⟨?_,?_,?_⟩)
       ·exact ZbV rfl (by kernel_rfl)
       ·exact rfl
       ·exact rfl
       ·exact Zbt.nd
       ·exact Zni (Zc 4)
       ·exact ZcJ 10 ((show List.Nodup (["deck","roll","many","way","base","ones","bent","others","at","k","state"]:List Str) by decide +kernel))
       ·exact ZfD
       ·exact Zay (k:=2) (ps:=["state","cell","size"]) F__law_other (hr.mono (by decide)) (Zd (Zc 10) (Zd (Zay (k:=1) (ps:=["deck"]) F__law_next (hr.mono (by decide)) (Zd (Zc 0) Zm)) (Zd (Zb9 (id:="len") ZcE T.m_len Zbz (Zd (Zc 1) Zm)) Zm)))
      ·refine Zg ?_ ?_
       ·exact Zah 7 Zbt.nd (Zer (T:="list") Zmv T.m_list Zlc (Zd (Zc 5) Zm))
       ·refine Zg ?_ ?_
        ·exact Zah 8 Zbt.nd (Zu ZaG Zh (Zu ZaU (Zay (k:=1) (ps:=["deck"]) F__law_next (hr.mono (by decide)) (Zd (Zc 0) Zm)) (Zu ZeZ (Zc 2) Zh)))
        ·refine Zg ?_ ?_
         ·refine Zne ?_ ?_ ?_ ?_ ?_
          ·exact rfl
          ·exact rfl
          ·exact Zh5 T.m_range Zh (Zc 2)
          ·exact ZcJ 9 Zbt.nd
          ·refine Zr ?_
           refine ZaC ?_ ?_ ?_
           ·refine CW.ct ?_
            refine Zi4 ?_ ?_
            ·exact Zak ((ZbB hu)) (Zc 9) (Zu ZeZ (Zc 2) Zh)
            ·refine Zi4 ?_ ?_
             ·exact CW.ct (Zf7 (Zak ((ZbB hu)) (Zc 3) Zh) (ZeO (Zak ZqY (Zc 9) (Zc 8))))
             ·refine ZiB ?_
              exact CW.ct (Zf7 (Zak Zhk (Zc 3) Zh) (ZeO (Zak Zhk (Zu ZaU (Zay (k:=1) (ps:=["deck"]) F__law_next (hr.mono (by decide)) (Zd (Zc 0) Zm)) (Zu ZaG (Zc 3) Zh)) Zh)))
           ·exact Zr (Zeh (Zc 7) (Zc 9) (Zac Zab (Zc 6) (Zu ZaU (Zc 9) (Zb9 (id:="len") ZcE T.m_len Zbz (Zd (Zc 4) Zm)))))
           ·exact Zao
         ·exact Zr (Zas (Zc9 (Zd (Zc 5) (Zd (Zc 7) Zm))))
theorem Zbe:Zav ["ones","others","low","high","times","amid"] ["ones","others"] (Zo Zbw):=⟨rfl,rfl,rfl,by decide +kernel,rfl,by decide +kernel,by decide +kernel⟩
theorem Zgw (A:ZaF K mg "_law_halving" Zbw ["ones","others"]) (T:Txt K mg):Fn3 P w K mg base 1 "_law_halving" ["ones","others"] ZcK:=
  Fn3.of (N:=["ones","others","low","high","times","amid"]) (k:=0) A Zbe fun f cdv A outer s H E hr=>by
    have hu:=ZcT hr
    unfold Zeu
    refine Zg ?_ ?_
    ·exact Zah 2 Zbe.nd Zh
    ·refine Zg ?_ ?_
     ·exact Zah 3 Zbe.nd (Zu ZeZ (Zb9 (id:="len") ZcE T.m_len Zbz (Zd (Zc 0) Zm)) Zh)
     ·refine Zg ?_ ?_
      ·exact Zah 4 Zbe.nd (Zc9 (Zd (Zc 2) (Zd (Zc 3) Zm)))
      ·refine Zg ?_ ?_
       ·refine ZjF ?_ ?_ ?_
        ·exact rfl
        ·exact Zak Zhk (Zc 3) (Zu ZaG (Zc 2) Zh)
        ·refine Zg ?_ ?_
         ·exact Zah 5 Zbe.nd (Zu ZaV (Zu ZaG (Zc 2) (Zc 3)) Zh)
         ·refine Zg ?_ ?_
          ·exact Zdc (Zbg (Zc 4) (Zd (Zc 5) Zm))
          ·exact Zr (ZaC (Zak ((ZbB hu)) (Zac Zab (Zc 0) (Zc 5)) (Zac Zab (Zc 1) (Zc 5))) (Zr (Zah 2 Zbe.nd (Zc 5))) (Zr (Zah 3 Zbe.nd (Zc 5))))
       ·exact Zr (Zas (Zc9 (Zd (Zc 2) (Zd (Zc 4) Zm))))
theorem Zfc:Zav ["self","states"] ["self","states"] (Zo Zbb):=⟨rfl,rfl,rfl,by decide +kernel,rfl,by decide +kernel,by decide +kernel⟩
theorem Zfl {C_Teller:Addr} (O_Teller:Zcw K mg C_Teller) (A:Zn3 K C_Teller "Teller.__init__" Zbb ["self","states"]) (T:Txt K mg):Mk3 P w K mg base 1 C_Teller ["self","states"] Zba:=
  Mk3.of (N:=["self","states"]) (k:=0) A Zfc fun f cdv A outer s H E hr=>by
    have hu:=ZcT hr
    unfold ZdQ
    exact Zg (Zl4 (C:=C_Teller) (c:=[84,101,108,108,101,114]) (m:=[115,116,97,116,101,115]) O_Teller.ok O_Teller.n_states (Zc 0) (Zer (T:="tuple") ZeK T.m_tuple Zd7 (Zd (Zc 1) Zm))) (Zr (Zl4 (C:=C_Teller) (c:=[84,101,108,108,101,114]) (m:=[97,115,107,101,100]) O_Teller.ok O_Teller.n_asked (Zc 0) (Zc9 Zm)))
theorem Zet:Zav ["self"] ["self"] (Zo ZaR):=⟨rfl,rfl,rfl,by decide +kernel,rfl,by decide +kernel,by decide +kernel⟩
theorem Zes {C_Teller:Addr} (O_Teller:Zcw K mg C_Teller) (A:Zgj K C_Teller "times_asked" "Teller.times_asked" ZaR ["self"]) (T:Txt K mg):ZfX P w K mg base 1 C_Teller "times_asked" ["self"] ZaI:=
  ZfX.of (N:=["self"]) (k:=0) A Zet fun f cdv A outer s H E hr=>by
    have hu:=ZcT hr
    unfold Zc2
    exact Zr (Zas (Zer (T:="list") Zmv T.m_list Zlc (Zd (Zjf (C:=C_Teller) (c:=[84,101,108,108,101,114]) (m:=[97,115,107,101,100]) O_Teller.ok O_Teller.n_asked (Zc 0)) Zm)))
theorem ZbI:Zav ["script","deck","cell","roll","many","ones","others","low","times","due","mend","stay","tellers","wrong","teller","found"] ["script"] (Zo ZfM):=⟨rfl,rfl,rfl,by decide +kernel,rfl,by decide +kernel,by decide +kernel⟩
theorem Zpe {f:Addr} {fd:FuncData} (F:Fun K "law" "law" ZfM f fd) (T:Txt K mg) {C_Teller:Addr} (O_Teller:Zcw K mg C_Teller) (M_Teller___init__:Mk3 P w K mg base 1 C_Teller ["self","states"] Zba) (M_Teller_times_asked:ZfX P w K mg base 1 C_Teller "times_asked" ["self"] ZaI) (F_judged:Fn3 P w K mg base 5 "judged" ["roll","one","other"] Zew) (F__law_next:Fn3 P w K mg base 1 "_law_next" ["deck"] Zar) (F__law_same:Fn3 P w K mg base 8 "_law_same" ["found","due"] Zbh) (F__law_roll:Fn3 P w K mg base 1 "_law_roll" ["cells"] ZdT) (F__law_next_state:Fn3 P w K mg base 2 "_law_next_state" ["roll","state"] ZbK) (F__law_other:Fn3 P w K mg base 2 "_law_other" ["state","cell","size"] ZaE) (F__law_lists:Fn3 P w K mg base 3 "_law_lists" ["deck","roll","many","way"] Zdb) (F__law_halving:Fn3 P w K mg base 1 "_law_halving" ["ones","others"] ZcK):ZdF P w K mg base CX0 9 f fd ["script"] (sp3 K 1 ZkG):=
  fn3 (N:=["script","deck","cell","roll","many","ones","others","low","times","due","mend","stay","tellers","wrong","teller","found"]) (k:=8) F ZbI fun cdv A outer s H E hr=>by
    have hu:=ZcT hr
    unfold Zmf
    refine Zg ?_ ?_
    ·exact Zah 1 ZbI.nd (Zc9 (Zd (Zjs Zjr (Zc 0) ZdS (ZdK Zh)) (Zd Zh Zm)))
    ·refine Zg ?_ ?_
     ·exact Zah 2 ZbI.nd (Zay (k:=1) (ps:=["deck"]) F__law_next (hr.mono (by decide)) (Zd (Zc 1) Zm))
     ·refine Zg ?_ ?_
      ·exact Zah 3 ZbI.nd (Zay (k:=1) (ps:=["cells"]) F__law_roll (hr.mono (by decide)) (Zd (Zjs Zjr (Zc 0) ZdS (ZdK Zh)) Zm))
      ·refine Zg ?_ ?_
       ·refine Zah 4 ?_ ?_
        ·exact ZbI.nd
        ·refine Zu ?_ ?_ ?_
         ·exact ZaG
         ·exact Zh
         ·refine Zac ?_ ?_ ?_
          ·exact Zab
          ·refine Zc9 ?_
           refine Zd ?_ ?_
           ·exact Zu ZaU (Zu ZaV (Zc 2) Zh) Zh
           ·exact Zd (Zu ZaU (Zu ZaV (Zc 2) Zh) Zh) (Zd (Zu ZaU (Zu ZaV (Zc 2) Zh) Zh) Zm)
          ·exact Zu ZaU (Zc 2) Zh
       ·refine Zg ?_ ?_
        ·refine ZaC ?_ ?_ ?_
         ·exact Zak ((ZbB hu)) (Zu ZaU (Zu ZaV (Zc 2) Zh) Zh) Zh
         ·exact Zr (Zah 4 ZbI.nd (Zu ZaG Zh (Zu ZaU (Zu ZaV (Zc 2) Zh) Zh)))
         ·exact Zao
        ·refine Zg ?_ ?_
         ·refine ZkQ ?_ ?_ ?_
          ·exact rfl
          ·exact Zay (k:=3) (ps:=["deck","roll","many","way"]) F__law_lists (hr.mono (by decide)) (Zd (Zc 1) (Zd (Zc 3) (Zd (Zc 4) (Zd (Zu ZaU (Zu ZaV (Zc 2) Zh) Zh) Zm))))
          ·exact Zbn 5 ZbI.nd (Zbn 6 ZbI.nd ZeN)
         ·refine Zg ?_ ?_
          ·exact ZkQ rfl (Zay (k:=1) (ps:=["ones","others"]) F__law_halving (hr.mono (by decide)) (Zd (Zc 5) (Zd (Zc 6) Zm))) (Zbn 7 ZbI.nd (Zbn 8 ZbI.nd ZeN))
          ·refine Zg ?_ ?_
           ·exact Zah 9 ZbI.nd (Zay (k:=2) (ps:=["roll","state"]) F__law_next_state (hr.mono (by decide)) (Zd (Zc 3) (Zd (Zac Zab (Zc 5) (Zc 7)) Zm)))
           ·refine Zg ?_ ?_
            ·exact Zah 10 ZbI.nd (Zay (k:=1) (ps:=["deck"]) F__law_next (hr.mono (by decide)) (Zd (Zc 1) Zm))
            ·refine Zg ?_ ?_
             ·exact Zah 11 ZbI.nd (Zc 9)
             ·refine Zg ?_ ?_
              ·exact ZaC (Zak Zss (Zc 9) Zjk) (Zr (Zah 11 ZbI.nd (Zac Zab (Zc 5) (Zc 7)))) Zao
              ·refine Zg ?_ ?_
               ·refine ZaC ?_ ?_ ?_
                ·exact Zak ((ZbB hu)) (Zu ZaU (Zc 10) Zh) Zh
                ·refine Zg ?_ ?_
                 ·exact Zeh (Zc 5) (Zu ZaG (Zc 7) Zh) (Zc 11)
                 ·refine Zr ?_
                  refine ZaC ?_ ?_ ?_
                  ·exact Zak ((ZbB hu)) (Zac Zab (Zc 6) (Zu ZaG (Zc 7) Zh)) (Zc 11)
                  ·refine Zr ?_
                   refine Zeh ?_ ?_ ?_
                   ·exact Zc 6
                   ·exact Zu ZaG (Zc 7) Zh
                   ·exact Zay (k:=2) (ps:=["state","cell","size"]) F__law_other (hr.mono (by decide)) (Zd (Zc 11) (Zd (Zu ZaV (Zc 10) Zh) (Zd (Zb9 (id:="len") ZcE T.m_len Zbz (Zd (Zc 3) Zm)) Zm)))
                  ·exact Zao
                ·refine Zr ?_
                 refine ZaC ?_ ?_ ?_
                 ·exact Zak ((ZbB hu)) (Zu ZaU (Zc 10) Zh) Zh
                 ·refine Zg ?_ ?_
                  ·exact Zeh (Zc 6) (Zu ZaG (Zc 7) Zh) (Zc 11)
                  ·refine Zr ?_
                   refine ZaC ?_ ?_ ?_
                   ·exact Zak ((ZbB hu)) (Zac Zab (Zc 5) (Zu ZaG (Zc 7) Zh)) (Zc 11)
                   ·refine Zr ?_
                    refine Zeh ?_ ?_ ?_
                    ·exact Zc 5
                    ·exact Zu ZaG (Zc 7) Zh
                    ·exact Zay (k:=2) (ps:=["state","cell","size"]) F__law_other (hr.mono (by decide)) (Zd (Zc 11) (Zd (Zu ZaV (Zc 10) Zh) (Zd (Zb9 (id:="len") ZcE T.m_len Zbz (Zd (Zc 3) Zm)) Zm)))
                   ·exact Zao
                 ·exact Zao
               ·refine Zg ?_ ?_
                ·exact Zah 12 ZbI.nd (Zc9 (Zd (Zrw (C:=C_Teller) (c:=[84,101,108,108,101,114]) (k:=1) (ps:=["self","states"]) O_Teller.ok M_Teller___init__ O_Teller.mg (hr.mono (by decide)) (Zd (Zc 5) Zm)) (Zd (Zrw (C:=C_Teller) (c:=[84,101,108,108,101,114]) (k:=1) (ps:=["self","states"]) O_Teller.ok M_Teller___init__ O_Teller.mg (hr.mono (by decide)) (Zd (Zc 6) Zm)) Zm)))
                ·refine Zg ?_ ?_
                 ·refine Zah 13 ?_ ?_
                  ·exact ZbI.nd
                  ·refine Zbp ?_
                   refine Zd ?_ ?_
                   ·exact Zeq ((ZkO hu)) (Zac Zab (Zc 5) (Zu ZaG (Zc 7) Zh)) (Zc 9)
                   ·exact Zd (Zeq ((ZkO hu)) (Zac Zab (Zc 6) (Zu ZaG (Zc 7) Zh)) (Zc 9)) Zm
                 ·refine Zg ?_ ?_
                  ·refine ZaC ?_ ?_ ?_
                   ·refine ZfZ ?_
                    refine Zdz ?_
                    refine Zay (k:=8) (ps:=["found","due"]) ?_ ?_ ?_
                    ·exact F__law_same
                    ·exact hr.mono (by decide)
                    ·refine Zd ?_ ?_
                     ·exact Zay (k:=5) (ps:=["roll","one","other"]) F_judged (hr.mono (by decide)) (Zd (Zc 3) (Zd (Zac Zab (Zc 12) Zh) (Zd (Zac Zab (Zc 12) Zh) Zm)))
                     ·exact Zd (Zbp (Zd (Zc 7) (Zd (Zc 13) Zm))) Zm
                   ·exact Zr (Zas Zov)
                   ·exact Zao
                  ·refine Zg ?_ ?_
                   ·refine Zne ?_ ?_ ?_ ?_ ?_
                    ·exact rfl
                    ·exact rfl
                    ·exact Zni (Zc 12)
                    ·exact ZcJ 14 ZbI.nd
                    ·exact Zr (ZaC (ZfZ (Zdz (Zay (k:=8) (ps:=["found","due"]) F__law_same (hr.mono (by decide)) (Zd (ZeS (C:=C_Teller) (c:=[84,101,108,108,101,114]) (m:=[116,105,109,101,115,95,97,115,107,101,100]) (k:=1) (ps:=["self"]) O_Teller.ok M_Teller_times_asked (hr.mono (by decide)) (Zc 14)) (Zd (Zc 8) Zm))))) (Zr (Zas Zov)) Zao)
                   ·refine Zg ?_ ?_
                    ·exact Zah 15 ZbI.nd (Zay (k:=5) (ps:=["roll","one","other"]) F_judged (hr.mono (by decide)) (Zd (Zc 3) (Zd (Zac Zab (Zc 12) Zh) (Zd (Zac Zab (Zc 12) Zh) Zm))))
                    ·refine Zg ?_ ?_
                     ·refine ZaC ?_ ?_ ?_
                      ·refine ZfZ ?_
                       refine Zdz ?_
                       refine Zay (k:=8) (ps:=["found","due"]) ?_ ?_ ?_
                       ·exact F__law_same
                       ·exact hr.mono (by decide)
                       ·exact Zd (Zc 15) (Zd (Zbp (Zd (Zc 7) (Zd (Zbp (Zd (Zac Zab (Zc 13) Zh) (Zd (Zac Zab (Zc 13) Zh) Zm))) Zm))) Zm)
                      ·exact Zr (Zas Zov)
                      ·exact Zao
                     ·exact Zr (Zas (Zay (k:=8) (ps:=["found","due"]) F__law_same (hr.mono (by decide)) (Zd (ZeS (C:=C_Teller) (c:=[84,101,108,108,101,114]) (m:=[116,105,109,101,115,95,97,115,107,101,100]) (k:=1) (ps:=["self"]) O_Teller.ok M_Teller_times_asked (hr.mono (by decide)) (Zac Zab (Zc 12) Zh)) (Zd (Zu ZaG (Zc 8) (Zc 8)) Zm))))
end
end Law
set_option maxHeartbeats 200000
namespace Law
open L3
theorem Zhc (n d:Nat):sIx n d none = d:=rfl
theorem Zil (n d k:Nat):sIx n d (some (k:Int)) = min k n:=by
 have h:¬ ((k:Int) < 0):=by omega
 simp only [sIx,if_neg h,Int.toNat_natCast]
theorem ZjM {α:Type} (w:List α) (k:Nat):cutD w (some (k:Int)) none = w.drop k:=by
 unfold cutD
 rw [Zil,Zhc]
 by_cases h:k ≤ w.length
 ·rw [Nat.min_eq_left h,List.take_of_length_le (by simp)]
 ·rw [Nat.min_eq_right (by exact lB 1 1052737 T1 h),List.drop_eq_nil_of_le (Nat.le_refl _),List.drop_eq_nil_of_le (by exact lB 1 1052737 T1 h)]; simp
theorem Zif {α:Type} (w:List α) (k:Nat):cutD w none (some (k:Int)) = w.take k:=by
 unfold cutD
 rw [Zil,Zhc]
 by_cases h:k ≤ w.length
 ·rw [Nat.min_eq_left h]; simp
 ·rw [Nat.min_eq_right (by exact lB 1 1052737 T1 h),Nat.sub_zero,List.drop_zero,List.take_of_length_le (Nat.le_refl _),List.take_of_length_le (by exact lB 1 1052737 T1 h)]
theorem Zef (n:Nat) (bs:List Int):below n (Zt bs) = true:=by
 unfold Zt below
 induction bs with
 | nil=>rfl
 | cons b bs ih=>simp only [List.map_cons,belowL,below,ih,Bool.and_self]
theorem ZdN (n:Nat) (cs:List (Int × Int)):below n (Zv cs) = true:=by
 unfold Zv below
 induction cs with
 | nil=>rfl
 | cons b bs ih=>simp only [List.map_cons,belowL,ih,Zaa,below,Bool.and_self]
theorem Zgo (n:Nat) (s:Stt):below n (Ze s) = true:=by
 simp only [Ze,below,belowL,Zef,ZdN,Bool.and_self]
theorem Zg8 (n:Nat) (s:Option Stt):below n (ZeT s) = true:=by
 cases s with
 | none=>rfl
 | some s=>exact Zgo n s
theorem ZrK {bs:List Int} (h:bs.length = 8) {a:Nat} (ha:a < 8):bs[a]? = some (bs.getD a 0):=by
 rw [List.getD_eq_getElem?_getD,List.getElem?_eq_getElem (by exact lB 2 72481667054415889 T1 ha h)]; rfl
theorem Zbu {bs:List Int} (h:bs.length = 8) {a:Nat} (ha:a < 8):∃ x,bs.getD a 0 = x ∧ Za0 (bs.map D.int) (a:Int) = some (.int x):=⟨bs.getD a 0,rfl,by rw [ZaT,List.getElem?_map,ZrK h ha]; rfl⟩
theorem Zjj (bs:List Int) (a:Nat) (v:Int) (M:Store) (ha:a < bs.length) (hl:bs.length ≤ 1000):ZbQ [Zt bs,.int a,.int v] M = .ok (Zt (bs.set a v)) M:=by
 have h1:(e2 Zz (e2 Zz (eSl (Za 0) (Zb7) (Zb8 (Za 1))) (Za4 (Zb (Za 2) (Zi)))) (eSl (Za 0) (Zb8 (e2 Zz (Za 1) (eC (.int 1)))) (Zb7))) [some (Zt bs),some (.int a),some (.int v)] M = .ok (Zt (bs.set a v)) M:=by
  have c1:cutD (bs.map D.int) none (some (a:Int)) = (bs.take a).map D.int:=by rw [Zif,List.map_take]
  have c2:cutD (bs.map D.int) (some ((a:Int) + 1)) none = (bs.drop (a + 1)).map D.int:=by
   rw [show ((a:Int) + 1) = ((a + 1:Nat):Int) by exact rfl,ZjM,List.map_drop]
  have s1:eSl (Za 0) (Zb7) (Zb8 (Za 1)) [some (Zt bs),some (.int a),some (.int v)] M = .ok (.tup ((bs.take a).map D.int)) M:=by
   simp only [eSl,Za,Zb7,Zb8,Zt,List.getElem?_cons_zero,List.getElem?_cons_succ,R3.bind,ZhC,c1]
  have s2:eSl (Za 0) (Zb8 (e2 Zz (Za 1) (eC (.int 1)))) (Zb7) [some (Zt bs),some (.int a),some (.int v)] M = .ok (.tup ((bs.drop (a + 1)).map D.int)) M:=by
   simp only [eSl,e2,eC,Zz,Za,Zb7,Zb8,Zt,List.getElem?_cons_zero,List.getElem?_cons_succ,R3.bind,ZhC,c2]
  have s3:Za4 (Zb (Za 2) (Zi)) [some (Zt bs),some (.int a),some (.int v)] M = .ok (.tup [.int v]) M:=by simp
  have a1:Zz (.tup ((bs.take a).map D.int)) (.tup [.int v]) M = .ok (.tup ((bs.take a).map D.int ++ [.int v])) M:=by
   simp only [Zz]; rw [if_pos (by simp; exact lB 2 0xf423f5b1001013e83b001 T1 hl (Nat.min_le_right _ _))]
  refine (Zn (Zn s1 s3 a1) s2 ?_)
  simp only [Zz]
  rw [if_pos (by simp; exact lD 3 0xf42405b3a1cc00a2c3c2121013e83b001 T1 hl (Nat.min_le_left _ _) (Nat.sub_add_cancel (lB 1 6991908881 T1 ha))),Zt,List.set_eq_take_append_cons_drop,if_pos ha]
  simp
 exact Rt.pure (G:=[]) (env:=[some (Zt bs),some (.int a),some (.int v)]) (by rw [List.append_nil]; exact ZaH h1) (Zef _ _)
theorem Zhp (cs:List (Int × Int)) (n:Int) (M:Store) (h:keysOk cs) (hl:cs.length ≤ 5000):ZcC [Zv cs,.int n] M = .ok (.int (Zdx cs n)) M:=by
 have h1:(Zce Zgs ZgW (ZaL Zc6 (Zb (Za 0) (Zi))) (Zb (Za 1) (Zb (eC (.int 0)) (Zi)))) [some (Zv cs),some (.int n)] M = .ok (.int (Zdx cs n)) (M ++ [.dct (dictOf (Zc5 cs))]):=by
  have hz:(Zc5 cs).length ≤ 100000:=by simp [Zc5]; exact lA 1 0x186a05b0013884b001 T1 hl
  have b1:ZaL Zc6 (Zb (Za 0) (Zi)) [some (Zv cs),some (.int n)] M = .ok (.ref M.length) (M ++ [.dct (dictOf (Zc5 cs))]):=by
   refine Zco (a:=Zv cs) (M1:=M) rfl ?_
   simp only [Zv,Zc6,Zfi]
   rw [if_pos hz]; rfl
  simp only [Zce,b1,R3.bind,Zgs,Zb,Za,eC,Zi,List.getElem?_cons_zero,List.getElem?_cons_succ]
  simp only [ZaA,ZdJ,Option.isSome_some,if_true,ZgW,Zga]
  rw [Zf8 h]
 exact Rt.pure (env:=[some (Zv cs),some (.int n)]) (ZaH h1) rfl
theorem Zhl (r:Row) (bs:List Int) (p many:Nat) (M:Store) (hb:bs.length = 8) (hr:r.ok many):ZcP [Zw r,.int p,Zt bs] M = .ok (.int (r.place bs p)) M:=by
 refine Rt.pure (G:=[]) (env:=[some (Zw r),some (.int p),some (Zt bs)]) ?_ rfl
 rw [List.append_nil]
 cases r with
 | when a k=>
  obtain ⟨x,hx,gx⟩:=Zbu hb hr.1
  have g:Zk (Zt bs) (.int (a:Int)) M = .ok (.int x) M:=by simp only [Zt,Zk,gx]
  have cc:(Zcm (e2 Zaz (e2 Zk (Za 0) (eC (.int 0))) (eC (.str [119,104,101,110]))) (e2 ZcS (e2 Zk (Za 2) (e2 Zk (Za 0) (eC (.int 1)))) (eC (.int 0)))) [some (Zw (.when a k)),some (.int p),some (Zt bs)] M = .ok (.bl (decide (0 < x))) M:=(ZeG (M1:=M) rfl).trans (Zn (Zn (b:=.int (a:Int)) rfl rfl g) rfl rfl)
  have s0:(e2 Zaz (e2 Zk (Za 0) (eC (.int 0))) (eC (.str [106,117,109,112]))) [some (Zw (.when a k)),some (.int p),some (Zt bs)] M = .ok (.bl false) M:=rfl
  simp only [Row.place,hx]
  by_cases c:0 < x
  ·rw [decide_eq_true c] at cc
   rw [if_pos c]
   exact (Zf (Zj s0)).trans (Zc0 ((ZaM cc).trans rfl))
  ·rw [decide_eq_false c] at cc
   rw [if_neg c]
   exact (Zf (Zj s0)).trans ((Zf (Zj cc)).trans rfl)
 | _=>rfl
theorem Zkw (x y:Int) (M:Store):ZbS [.str [97,100,100],.int x,.int y] M = .ok (.int (x + y)) M:=by simp [ZbS,Zey,Zx,Zaj,Zax,sIf,Zam,ZaP,mkF,ZcB,below,belowL,ZbP]
theorem ZkD (x y:Int) (M:Store):ZbS [.str [115,117,98],.int x,.int y] M = .ok (.int (x - y)) M:=by simp [ZbS,Zey,Zx,Zaj,Zax,sIf,Zam,ZaP,mkF,ZcB,below,belowL,ZbP]
theorem Zju (x y:Int) (M:Store):ZbS [.str [109,111,114,101],.int x,.int y] M = .ok (.int (if y < x then 1 else 0)) M:=by
 by_cases c:y < x <;> simp [ZbS,Zey,Zx,Zaj,Zax,sIf,Zam,ZaP,mkF,ZcB,below,belowL,ZbP,c]
theorem Zhq (r:Row) (bs:List Int) (cs:List (Int × Int)) (many:Nat) (M:Store) (hb:bs.length = 8) (hr:r.ok many) (hk:keysOk cs) (hl:cs.length ≤ 5000):ZcD [Zw r,Zt bs,Zv cs] M = .ok (Zt (r.boxes bs cs)) M:=by
 have wb:∀ (a:Nat) (v:Int),a < 8 → ZbQ [Zt bs,.int a,.int v] M = .ok (Zt (bs.set a v)) M:=fun a v ha=>Zjj bs a v M (by rw [hb]; exact ha) (by rw [hb]; decide)
 have cv:∀ (n:Int),ZcC [Zv cs,.int n] M = .ok (.int (Zdx cs n)) M:=fun n=>Zhp cs n M hk hl
 have gt:∀ {a:Nat} {x:Int},Za0 (bs.map D.int) (a:Int) = some (.int x) → Zk (Zt bs) (.int (a:Int)) M = .ok (.int x) M:=fun {a x} g=>by simp only [Zt,Zk,g]
 have tp:∀ env,(Za4 (Zb (eC (.str [97,100,100])) (Zb (eC (.str [115,117,98])) (Zb (eC (.str [109,111,114,101])) (Zi))))) env M = .ok (.tup [.str [97,100,100],.str [115,117,98],.str [109,111,114,101]]) M:=fun env=>by simp
 refine Rt.pure (G:=[]) (env:=[some (Zw r),some (Zt bs),some (Zv cs),none]) ?_ (Zef _ _)
 rw [List.append_nil]
 have pre:∀ {w:List Nat} {o:O3} {k:S3},Zk (Zw r) (.int 0) M = .ok (.str w) M → k [some (Zw r),some (Zt bs),some (Zv cs),some (.str w)] M = o → Zx (Zaj 3 (e2 Zk (Za 0) (eC (.int 0)))) k [some (Zw r),some (Zt bs),some (Zv cs),none] M = o:=fun {w o k} h1 h=>(Zf (Zq (Zn rfl rfl h1))).trans h
 have sk:∀ {w v:List Nat} {f k:S3} {o:O3},decide (w = v) = false → k [some (Zw r),some (Zt bs),some (Zv cs),some (.str w)] M = o → Zx (sIf (e2 Zaz (Za 3) (eC (.str v))) f Zam) k [some (Zw r),some (Zt bs),some (Zv cs),some (.str w)] M = o:=fun {w v f k o} h1 h=>(Zf (Zj (M':=M) (Zn rfl rfl (by simp only [Zaz,eqD,h1])))).trans h
 have wk:∀ {w:List Nat} {a b c:Nat} {x y z:Int},Zw r = .tup [.str w,.int a,.int b,.int c] → ZbS [.str w,.int x,.int y] M = .ok (.int z) M → a < 8 → Za0 (bs.map D.int) (b:Int) = some (.int x) → Za0 (bs.map D.int) (c:Int) = some (.int y) → Znt (.str w) (.tup [.str [97,100,100],.str [115,117,98],.str [109,111,114,101]]) M = .ok (.bl true) M →
   (Zx (sIf (e2 Znt (Za 3) (Za4 (Zb (eC (.str [97,100,100])) (Zb (eC (.str [115,117,98])) (Zb (eC (.str [109,111,114,101])) (Zi)))))) (Zax (Zai ZbQ (Zb (Za 1) (Zb (e2 Zk (Za 0) (eC (.int 1))) (Zb (Zai ZbS (Zb (Za 3) (Zb (e2 Zk (Za 1) (e2 Zk (Za 0) (eC (.int 2)))) (Zb (e2 Zk (Za 1) (e2 Zk (Za 0) (eC (.int 3)))) (Zi))))) (Zi)))))) (Zam)) (Zax (Za 1))) [some (Zw r),some (Zt bs),some (Zv cs),some (.str w)] M = .rt (Zt (bs.set a z)) M:=fun {w a b c x y z} he hw ha gx gy hin=>by
  rw [he]
  exact Zc0 ((ZaM (Zn rfl (tp _) hin)).trans (ZaH (ZcL rfl (b:=.int (a:Int)) (M2:=M) rfl (ZcL rfl (Zn rfl (b:=.int (b:Int)) (M2:=M) rfl (gt gx)) (Zn rfl (b:=.int (c:Int)) (M2:=M) rfl (gt gy)) hw) (wb a z ha))))
 have no:∀ {w:List Nat},Zk (Zw r) (.int 0) M = .ok (.str w) M → decide (w = [112,117,116]) = false → decide (w = [103,101,116]) = false → Znt (.str w) (.tup [.str [97,100,100],.str [115,117,98],.str [109,111,114,101]]) M = .ok (.bl false) M → Zei [some (Zw r),some (Zt bs),some (Zv cs),none] M = .rt (Zt bs) M:=fun {w} h1 h2 h3 h4=>
  pre h1 (sk h2 (sk h3 ((Zf (Zj (Zn rfl (tp _) h4))).trans rfl)))
 cases r with
 | put a n=>exact pre rfl (Zc0 ((ZaM (M':=M) rfl).trans (ZaH (ZcL rfl rfl rfl (wb a n hr)))))
 | get a b=>
  obtain ⟨x,hx,gx⟩:=Zbu hb hr.2
  simp only [Row.boxes,hx]
  exact pre rfl (sk rfl (Zc0 ((ZaM (M':=M) rfl).trans (ZaH (ZcL rfl (b:=.int (a:Int)) (M2:=M) rfl (Zdr rfl (Zn rfl (b:=.int (b:Int)) (M2:=M) rfl (gt gx)) (cv x)) (wb a _ hr.1))))))
 | add a b c=>
  obtain ⟨x,hx,gx⟩:=Zbu hb hr.2.1
  obtain ⟨y,hy,gy⟩:=Zbu hb hr.2.2
  simp only [Row.boxes,hx,hy]
  exact pre rfl (sk rfl (sk rfl (wk rfl (Zkw x y M) hr.1 gx gy rfl)))
 | sub a b c=>
  obtain ⟨x,hx,gx⟩:=Zbu hb hr.2.1
  obtain ⟨y,hy,gy⟩:=Zbu hb hr.2.2
  simp only [Row.boxes,hx,hy]
  exact pre rfl (sk rfl (sk rfl (wk rfl (ZkD x y M) hr.1 gx gy rfl)))
 | more a b c=>
  obtain ⟨x,hx,gx⟩:=Zbu hb hr.2.1
  obtain ⟨y,hy,gy⟩:=Zbu hb hr.2.2
  simp only [Row.boxes,hx,hy]
  exact pre rfl (sk rfl (sk rfl (wk rfl (Zju x y M) hr.1 gx gy rfl)))
 | _=>exact no rfl rfl rfl rfl
theorem Ziw (cs:List (Int × Int)) (n v:Int) (M:Store) (hl:cs.length ≤ 5000):Zcx [Zv cs,.int n,.int v] M = .ok (Zv (Za1 cs n v)) M:=by
 have b1:=ZeM (α:=Int × Int) (enc:=Zaa) (h:=Zaa) (p:=fun c=>decide (c.1 < n)) (own:=1) (i:=6) (it:=ZfW (Za 0)) (c:=e2 ZlI (e2 Zk (Za 6) (eC (.int 0))) (Za 1)) (elt:=Za 6) (env:=[some (Zv cs),some (.int n),some (.int v),none,none,none]) (M:=M) (M1:=M) (lock:=none) (as:=cs)
  (by exact rfl) (fun _ h=>by cases h) (fun a _ M=>by exact rfl) (fun a _ _ M=>by exact rfl) (lA 1 0x186a05b0013884b001 T1 hl)
 have b2:=ZeM (α:=Int × Int) (enc:=Zaa) (h:=Zaa) (p:=fun c=>decide (n < c.1)) (own:=1) (i:=6) (it:=ZfW (Za 0)) (c:=e2 ZcS (e2 Zk (Za 6) (eC (.int 0))) (Za 1)) (elt:=Za 6) (env:=[some (Zv cs),some (.int n),some (.int v),some (.ref M.length),none,none]) (M:=M ++ [.lst ((cs.filter fun c=>decide (c.1 < n)).map Zaa)]) (M1:=M ++ [.lst ((cs.filter fun c=>decide (c.1 < n)).map Zaa)]) (lock:=none) (as:=cs)
  (by exact rfl) (fun _ h=>by cases h) (fun a _ M=>by exact rfl) (fun a _ _ M=>by exact rfl) (lA 1 0x186a05b0013884b001 T1 hl)
 have f1:=List.length_filter_le (fun c:Int × Int=>decide (c.1 < n)) cs
 have f2:=List.length_filter_le (fun c:Int × Int=>decide (n < c.1)) cs
 suffices h:∃ G,ZdP [some (Zv cs),some (.int n),some (.int v),none,none,none] M = .rt (Zv (Za1 cs n v)) (M ++ G) by
  obtain ⟨G,h⟩:=h
  exact Rt.pure h (ZdN _ _)
 unfold ZdP
 by_cases c:v = 0
 ·subst c
  refine ⟨_,(Zf (Zq b1)).trans ((Zf (Zq b2)).trans ((Zf (Zq (d:=.ref (M.length + 2)) (M':=M ++ [.lst ((cs.filter fun c=>decide (c.1 < n)).map Zaa),.lst ((cs.filter fun c=>decide (n < c.1)).map Zaa),.lst []]) (by simp))).trans (ZaH (M':=M ++ [.lst ((cs.filter fun c=>decide (c.1 < n)).map Zaa),.lst ((cs.filter fun c=>decide (n < c.1)).map Zaa),.lst [],.lst ((cs.filter fun c=>decide (c.1 < n)).map Zaa),.lst ((cs.filter fun c=>decide (c.1 < n)).map Zaa ++ (cs.filter fun c=>decide (n < c.1)).map Zaa)]) ?_)))⟩
  have z1:(cs.filter fun c=>decide (c.1 < n)).length ≤ 1000000:=lB 2 0xf42405b0013884b1011001 T1 f1 hl
  have z2:(cs.filter fun c=>decide (c.1 < n)).length + (cs.filter fun c=>decide (n < c.1)).length ≤ 1000000:=lC 3 0xf42405b02c013884b10212011001 T1 f2 f1 hl
  simp [z1,z2,Za1,Zv]
 ·refine ⟨_,(Zf (Zq b1)).trans ((Zf (Zq b2)).trans ((Zf (Zq (d:=.ref (M.length + 2)) (M':=M ++ [.lst ((cs.filter fun c=>decide (c.1 < n)).map Zaa),.lst ((cs.filter fun c=>decide (n < c.1)).map Zaa),.lst [Zaa (n,v)]]) (by simp [c,Zaa]))).trans (ZaH (M':=M ++ [.lst ((cs.filter fun c=>decide (c.1 < n)).map Zaa),.lst ((cs.filter fun c=>decide (n < c.1)).map Zaa),.lst [Zaa (n,v)],.lst ((cs.filter fun c=>decide (c.1 < n)).map Zaa ++ [Zaa (n,v)]),.lst ((cs.filter fun c=>decide (c.1 < n)).map Zaa ++ [Zaa (n,v)] ++ (cs.filter fun c=>decide (n < c.1)).map Zaa)]) ?_)))⟩
  have z1:(cs.filter fun c=>decide (c.1 < n)).length + 1 ≤ 1000000:=lB 2 0xf42405ba0c013884b1011001 T1 f1 hl
  have z2:(cs.filter fun c=>decide (c.1 < n)).length + ((cs.filter fun c=>decide (n < c.1)).length + 1) ≤ 1000000:=lC 3 0xf42405ba0c2c013884b10212011001 T1 f2 f1 hl
  have z3:(cs.filter fun c=>decide (c.1 < n)).length + 1 + (cs.filter fun c=>decide (n < c.1)).length ≤ 1000000:=lB 1 0xf42405b1a0cc0f42405ba1c0c01 T1 z2
  simp [z1,z2,z3,c,Za1,Zv]
theorem ZhG (r:Row) (bs:List Int) (cs:List (Int × Int)) (many:Nat) (M:Store) (hb:bs.length = 8) (hr:r.ok many) (hl:cs.length ≤ 5000):ZcQ [Zw r,Zt bs,Zv cs] M = .ok (Zv (r.cells bs cs)) M:=by
 have wc:∀ (n v:Int) (M:Store),Zcx [Zv cs,.int n,.int v] M = .ok (Zv (Za1 cs n v)) M:=fun n v M=>Ziw cs n v M hl
 refine Rt.pure (G:=[]) (env:=[some (Zw r),some (Zt bs),some (Zv cs)]) ?_ (ZdN _ _)
 rw [List.append_nil]
 unfold Zd9
 generalize Zcx = F1 at *
 cases r with
 | set a b=>
  obtain ⟨x,hx,gx⟩:=Zbu hb hr.1
  obtain ⟨y,hy,gy⟩:=Zbu hb hr.2
  simp only [Row.cells,hx,hy]
  simp [Zx,Zaj,Zax,sIf,Zam,ZaP,mkF,ZcB,below,belowL,ZbP,Zw,Zt,-Zdl,gx,gy,wc]
 | _=>simp [Zx,Zaj,Zax,sIf,Zam,ZaP,mkF,ZcB,below,belowL,ZbP,Zw,Row.cells]
theorem Zhm (roll:ZcV) (s:Stt) (M:Store) (hok:∀ x ∈ roll,x.ok roll.length) (hs:s.ok roll) (hk:keysOk s.cells) (hl:s.cells.length ≤ 5000):Zdi [Zy roll,Ze s] M = .ok (ZeT (Za6 roll s)) M:=by
 obtain ⟨hp,hb⟩:=hs
 have hr:roll[s.place]? = some roll[s.place]:=by simp [hp]
 have ro:=hok _ (List.getElem_mem hp)
 unfold Za6
 rw [hr]
 generalize roll[s.place] = r at hr ro
 show _ = R3.ok (ZeT (Zfz s r)) M
 have np:=Zhl r s.boxes s.place roll.length
 have nb:=Zhq r s.boxes s.cells roll.length
 have nc:=ZhG r s.boxes s.cells roll.length
 refine Rt.pure (G:=[]) (env:=[some (Zy roll),some (Ze s),none,none,none,none]) ?_ (Zg8 _ _)
 rw [List.append_nil]
 unfold Zec
 generalize ZcP = F1 at *
 generalize ZcD = F2 at *
 generalize ZcQ = F3' at *
 refine (Zf (Zq (d:=.int s.place) (M':=M) (by exact rfl))).trans ((Zf (Zq (d:=Zt s.boxes) (M':=M) (by exact rfl))).trans ((Zf (Zq (d:=Zv s.cells) (M':=M) (by exact rfl))).trans ((Zf (Zq (d:=Zw r) (M':=M) (by simp [Zy,hr]))).trans ?_)))
 have e3:Za4 (Zb (Zai F1 (Zb (Za 5) (Zb (Za 2) (Zb (Za 3) (Zi))))) (Zb (Zai F2 (Zb (Za 5) (Zb (Za 3) (Zb (Za 4) (Zi))))) (Zb (Zai F3' (Zb (Za 5) (Zb (Za 3) (Zb (Za 4) (Zi))))) (Zi)))) [some (Zy roll),some (Ze s),some (.int s.place),some (Zt s.boxes),some (Zv s.cells),some (Zw r)] M = .ok (Ze ⟨r.place s.boxes s.place,r.boxes s.boxes s.cells,r.cells s.boxes s.cells⟩) M:=by
  simp [np M hb ro,nb M hb ro hk hl,nc M hb ro hl,Ze]
 cases hh:r.isHalt with
 | true=>
  cases r <;> simp at hh
  exact Zc0 ((ZaM (M':=M) (by exact rfl)).trans (ZaH (by exact rfl)))
 | false=>
  have e4:(e2 Zaz (e2 Zk (Za 5) (eC (.int 0))) (eC (.str [104,97,108,116]))) [some (Zy roll),some (Ze s),some (.int s.place),some (Zt s.boxes),some (Zv s.cells),some (Zw r)] M = .ok (.bl false) M:=by
   cases r <;> first | exact rfl | simp [Zw] at hh ⊢
  refine (Zf (Zj e4)).trans (ZaH (e3.trans ?_))
  simp [Zfz,hh,ZeT]
theorem Zrn {i j:Int} (h:-(2 ^ 64) < i ∧ i < 2 ^ 64):ZbP i j = true:=by
 unfold ZbP; rw [Bool.or_eq_true]; left; simp only [Bool.and_eq_true,decide_eq_true_eq]; exact h
theorem mul_r {i j:Int} (h:-(2 ^ 64) < j ∧ j < 2 ^ 64):ZbP i j = true:=by
 unfold ZbP; rw [Bool.or_eq_true]; right; simp only [Bool.and_eq_true,decide_eq_true_eq]; exact h
theorem Zbv (x:Int) (m:Nat) (h:0 < m):∃ a:Nat,x % (m:Int) = a ∧ a < m:=by
 have h1:=Int.emod_nonneg x (b:=(m:Int)) (by exact fun z=>iN [_] [] 2 416093702305 T1 z h)
 have h2:=Int.emod_lt_of_pos x (b:=(m:Int)) (by exact iN [_] [] 1 149491217 T1 h)
 exact ⟨(x % (m:Int)).toNat,(Int.toNat_of_nonneg h1).symm,by exact iN [_,_] [_] 2 18698308976785 T1 h2 (Int.toNat_of_nonneg h1)⟩
theorem ZdZ {M M':Store} {d:D} (h:M'.length = M.length):ZcB M d M' = .ok d M':=by
 unfold ZcB
 rw [List.take_of_length_le (Nat.le_of_eq h)]
 split <;> rfl
noncomputable abbrev TEL:List Nat:=[84,101,108,108,101,114]
noncomputable abbrev STS:List Nat:=[115,116,97,116,101,115]
noncomputable abbrev ASK:List Nat:=[97,115,107,101,100]
noncomputable abbrev ZcR (ss:List D) (a:Nat):MO:=.ins TEL [(STS,.tup ss),(ASK,.ref a)]
theorem ZlJ (a b:Int) (M:Store):Zcy [.int a,.int b] M = .ok (.bl (decide (0 ≤ a) && decide (a < b))) M:=by
 by_cases h:0 ≤ a <;> simp [Zcy,ZeE,Zx,Zaj,Zax,sIf,Zam,ZaP,mkF,ZcB,below,belowL,ZbP,h]
theorem ZiT {ss:List D} {a n:Nat} {M:Store} (h:M[n]? = some (ZcR ss a)):ZdL TEL STS (.ref n) M = .ok (.tup ss) M:=by
 simp only [ZdL,h,if_true]; rfl
theorem ZkX {ss:List D} {a n:Nat} {M:Store} (h:M[n]? = some (ZcR ss a)):ZdL TEL ASK (.ref n) M = .ok (.ref a) M:=by
 simp only [ZdL,h,if_true]; rfl
theorem ZfC {c f:List Nat} {o:E3} {env:Zat} {M M1:Store} {a d:D} (h1:o env M = .ok a M1) (h2:ZdL c f a M1 = .ok d M1):e1 (ZdL c f) o env M = .ok d M1:=Zh1 h1 h2
theorem Zdp {c m:List Nat} {F:F3} {o:E3} {g:EL3} {env:Zat} {M M1 M2 M3:Store} {a d:D} {ds:List D} (h1:o env M = .ok a M1) (hi:Zh0 c m a M1 = true) (h2:g env M1 = .ok ds M2) (h3:F (a :: ds) M2 = .ok d M3):ZbA c m F o g env M = .ok d M3:=by
 simp only [ZbA,h1,R3.bind,hi,if_true,h2,h3]
theorem Zdn {ss:List D} {a n:Nat} {M:Store} {m:List Nat} (h:M[n]? = some (ZcR ss a)) (h1:decide (m = STS) = false) (h2:decide (m = ASK) = false):Zh0 TEL m (.ref n) M = true:=by
 have e1:¬ m = STS:=of_decide_eq_false h1
 have e2:¬ m = ASK:=of_decide_eq_false h2
 simp [Zh0,h,ZcR,List.lookup,beq_false_of_ne e1,beq_false_of_ne e2]
theorem Zn9 {ss:List D} {a n:Nat} {M:Store} (h:M[n]? = some (ZcR ss a)):Zbj [.ref n] M = .ok (.int (ss.length:Int)) M:=
 (ZcW (env:=[some (.ref n)]) (M':=M) (d:=.int (ss.length:Int)) (ZaH (Zco (ZfC rfl (ZiT h)) rfl))).trans (ZdZ rfl)
theorem Zgn {ss ts:List D} {a n k:Nat} {d:D} {M:Store} (h:M[n]? = some (ZcR ss a)) (ha:M[a]? = some (.lst ts)) (hn:n ≠ a) (hd:ss[k]? = some d) (hz:ts.length < 1000000):Zbr [.ref n,.int (k:Int)] M = .ok d (M.set a (.lst (ts ++ [.int (k:Int)]))):=by
 have hk:k < ss.length:=(List.getElem?_eq_some_iff.mp hd).1
 have h':(M.set a (.lst (ts ++ [.int (k:Int)])))[n]? = some (ZcR ss a):=by rw [List.getElem?_set_ne (Ne.symm hn)]; exact h
 have w:Zai Zcy (Zb (Za 1) (Zb (ZaL Za7 (Zb (e1 (ZdL TEL STS) (Za 0)) (Zi))) (Zi))) [some (.ref n),some (.int (k:Int))] M = .ok (.bl true) M:=by
  refine Zdr rfl (Zco (ZfC rfl (ZiT h)) rfl) ((ZlJ _ _ _).trans ?_)
  rw [decide_eq_true (Int.natCast_nonneg _),decide_eq_true (Int.ofNat_lt.2 hk)]; rfl
 refine (ZcW (env:=[some (.ref n),some (.int (k:Int))]) (M':=M.set a (.lst (ts ++ [.int (k:Int)]))) (d:=d) ?_).trans (ZdZ (by simp))
 refine (Zf (Zj (M':=M) (Zh1 w rfl))).trans ((Zf (ZcH (Zf6 (ZfC rfl (ZkX h)) ha rfl ha hz))).trans (ZaH (Zn (ZfC rfl (ZiT h')) rfl (ZeQ ?_))))
 rw [ZaT]; exact hd
theorem ZeB {ss ts:List D} {a n:Nat} {M:Store} (h:M[n]? = some (ZcR ss a)) (ha:M[a]? = some (.lst ts)) (hz:ts.length ≤ 1000000):ZaI [.ref n] M = .ok (.ref M.length) (M ++ [.lst ts]):=by
 refine (ZcW (env:=[some (.ref n)]) (M':=M ++ [.lst ts]) (d:=.ref M.length) (ZaH (Zco (ZfC rfl (ZkX h)) ?_))).trans (by simp [ZcB,below])
 simp only [Ze0,ha]
 simp [hz]
theorem Zog {ss:List D} {m:Nat} {M:Store} (hM:M[m]? = some (.lst ss)):Zba [.ref M.length,.ref m] (M ++ [.ins TEL []]) = .ok .non (M ++ [ZcR ss (M.length + 1),.lst []]):=by
 have g0:(M ++ [MO.ins TEL []])[M.length]? = some (.ins TEL []):=ZaA _ _ _
 have s1:(M ++ [MO.ins TEL []]).set M.length (.ins TEL [(STS,.tup ss)]) = M ++ [.ins TEL [(STS,.tup ss)]]:=ZeP M _ 0 _
 have p1:Zf2 TEL STS (.tup ss) (.ref M.length) (M ++ [.ins TEL []]) = .ok .non (M ++ [.ins TEL [(STS,.tup ss)]]):=by
  simp only [Zf2,g0]
  rw [if_pos ⟨trivial,by simp⟩,show ZgZ STS (.tup ss) [] = [(STS,.tup ss)] from rfl,s1]
 have g1:(M ++ [MO.ins TEL [(STS,.tup ss)],.lst []])[M.length]? = some (.ins TEL [(STS,.tup ss)]):=ZaA _ _ _
 have p2:Zf2 TEL ASK (.ref (M.length + 1)) (.ref M.length) (M ++ [.ins TEL [(STS,.tup ss)],.lst []]) = .ok .non (M ++ [ZcR ss (M.length + 1),.lst []]):=by
  simp only [Zf2,g1]
  rw [if_pos ⟨trivial,by simp⟩,show ZgZ ASK (.ref (M.length + 1)) [(STS,.tup ss)] = [(STS,.tup ss),(ASK,.ref (M.length + 1))] from rfl]
  exact congrArg (R3.ok D.non) (ZeP M [MO.ins TEL [(STS,.tup ss)],.lst []] 0 _)
 refine (ZpS (env:=[some (.ref M.length),some (.ref m)]) (env':=[some (.ref M.length),some (.ref m)]) (M':=M ++ [ZcR ss (M.length + 1),.lst []]) ?_).trans ?_
 ·refine (Zf (ZcH (Zn (Zco rfl (ZgD (Zal hM _))) rfl p1))).trans (ZcH (Zn (a:=.ref (M.length + 1)) (M1:=M ++ [.ins TEL [(STS,.tup ss)],.lst []]) ?_ rfl p2))
  simp
 ·have e:(M ++ [ZcR ss (M.length + 1),.lst []]).take (M ++ [MO.ins TEL []]).length = M ++ [ZcR ss (M.length + 1)]:=by
   rw [show M ++ [ZcR ss (M.length + 1),.lst []] = (M ++ [ZcR ss (M.length + 1)]) ++ [.lst []] by simp]
   exact List.take_left' (by simp)
  unfold ZcB
  rw [e,if_neg]
  simp [Zfk,belowL,below,ZcR]
theorem ZkP:∀ a b:List Int,Zcb (a.map D.int) (b.map D.int) = decide (a = b)
 | [],[]=>by exact rfl
 | [],_ :: _=>by exact rfl
 | _ :: _,[]=>by exact rfl
 | x :: a,y :: b=>by
  simp only [List.map_cons,Zcb,deq,ZkP a b,List.cons.injEq,Bool.decide_and]
  rfl
theorem Zi0:∀ a b:List (Int × Int),Zcb (a.map Zaa) (b.map Zaa) = decide (a = b)
 | [],[]=>by exact rfl
 | [],_ :: _=>by exact rfl
 | _ :: _,[]=>by exact rfl
 | (x1,x2) :: a,(y1,y2) :: b=>by
  simp only [List.map_cons,Zaa,Zcb,deq,Zi0 a b,List.cons.injEq,Prod.mk.injEq,Bool.decide_and,Bool.and_true]
  rfl
theorem Zjw (s t:Stt):deq (Ze s) (Ze t) = decide (s = t):=by
 obtain ⟨p,bs,cs⟩:=s
 obtain ⟨q,bs',cs'⟩:=t
 have e:((p:Int) == (q:Int)) = decide (p = q):=by
  by_cases h:p = q
  ·subst h; simp
  ·rw [decide_eq_false h]; exact beq_false_of_ne (fun z=>iN [_,_] [] 2 6666076031153 T1 z (Nat.lt_of_le_of_ne (iN [_,_] [] 1 4296542369 T1 z) h))
 simp only [Ze,Zt,Zv,deq,Zcb,ZkP,Zi0,e,Stt.mk.injEq,Bool.decide_and,Bool.and_true]
theorem ZoV (s t:Stt) (M:Store):Zed (Ze s) (Ze t) M = .ok (.bl (!decide (s = t))) M:=by
 have h1:∀ s:Stt,∃ ds,Ze s = .tup ds ∧ ds.all (ZaB DEEP) = true:=fun s=>⟨_,rfl,by simp [ZfI,Zh9,ZgT,DEEP]⟩
 obtain ⟨ds,e1,p1⟩:=h1 s
 obtain ⟨es,e2,p2⟩:=h1 t
 have:=Zjw s t
 rw [e1,e2] at this ⊢
 simp only [deq] at this
 simp only [Zed,eqD,p1,p2,Bool.and_self,if_true,this]
theorem Zf3 (s t:Stt) (M:Store):Zby [.tup [Ze s,Ze t]] M = .ok (.bl (!decide (s = t))) M:=
 (ZcW (env:=[some (.tup [Ze s,Ze t])]) (M':=M) (ZaH (Zn (Zn rfl rfl rfl) (Zn rfl rfl rfl) (ZoV s t M)))).trans (ZdZ rfl)
structure Tw (M:Store) (n1 a1 n2 a2:Nat) (s1 s2:List Stt) (t1 t2:List D):Prop where
 o1:M[n1]? = some (ZcR (s1.map Ze) a1)
 o2:M[n2]? = some (ZcR (s2.map Ze) a2)
 l1:M[a1]? = some (.lst t1)
 l2:M[a2]? = some (.lst t2)
 aa:a1 ≠ a2
 n11:n1 ≠ a1
 n12:n1 ≠ a2
 n21:n2 ≠ a1
 n22:n2 ≠ a2
section
variable {M:Store} {n1 a1 n2 a2:Nat} {s1 s2:List Stt} {t1 t2:List D}
noncomputable def asked (M:Store) (a1 a2:Nat) (t1 t2:List D):Store:=(M.set a1 (.lst t1)).set a2 (.lst t2)
theorem ZhZ:(asked M a1 a2 t1 t2).length = M.length:=by simp [asked]
theorem ZdG {u1 u2:List D} (h:a1 ≠ a2):asked (asked M a1 a2 t1 t2) a1 a2 u1 u2 = asked M a1 a2 u1 u2:=by
 unfold asked
 rw [List.set_comm _ _ (Ne.symm h),List.set_set,List.set_set]
theorem Zii {i:Nat} {o x:MO} (h:M[i]? = some o):(M.set i x)[i]? = some x:=List.getElem?_set_self (List.getElem?_eq_some_iff.mp h).1
theorem Tw.put (T:Tw M n1 a1 n2 a2 s1 s2 t1 t2) (u1 u2:List D):Tw (asked M a1 a2 u1 u2) n1 a1 n2 a2 s1 s2 u1 u2:=by
 obtain ⟨o1,o2,l1,l2,aa,n11,n12,n21,n22⟩:=T
 unfold asked
 refine ⟨?_,?_,?_,?_,aa,n11,n12,n21,n22⟩
 ·rw [List.getElem?_set_ne (Ne.symm n12),List.getElem?_set_ne (Ne.symm n11)]; exact o1
 ·rw [List.getElem?_set_ne (Ne.symm n22),List.getElem?_set_ne (Ne.symm n21)]; exact o2
 ·rw [List.getElem?_set_ne (Ne.symm aa)]; exact Zii l1
 ·exact Zii (o:=.lst t2) (by rw [List.getElem?_set_ne aa]; exact l2)
theorem Zkn (T:Tw M n1 a1 n2 a2 s1 s2 t1 t2):asked M a1 a2 t1 t2 = M:=by
 have e1:M.set a1 (.lst t1) = M:=by
  apply List.ext_getElem?
  intro k
  by_cases h:a1 = k
  ·subst h; rw [Zii T.l1,T.l1]
  ·rw [List.getElem?_set_ne h]
 have e2:M.set a2 (.lst t2) = M:=by
  apply List.ext_getElem?
  intro k
  by_cases h:a2 = k
  ·subst h; rw [Zii T.l2,T.l2]
  ·rw [List.getElem?_set_ne h]
 unfold asked
 rw [e1,e2]
theorem ZiE (T:Tw M n1 a1 n2 a2 s1 s2 t1 t2) {k:Nat} {x y:Stt} (hx:s1[k]? = some x) (hy:s2[k]? = some y) (z1:t1.length < 1000000) (z2:t2.length < 1000000):
  Zct [.ref n1,.ref n2,.int (k:Int)] M = .ok (.tup [Ze x,Ze y]) (asked M a1 a2 (t1 ++ [.int (k:Int)]) (t2 ++ [.int (k:Int)])):=by
 obtain ⟨o1,o2,l1,l2,aa,n11,n12,n21,n22⟩:=T
 have o2':(M.set a1 (.lst (t1 ++ [.int (k:Int)])))[n2]? = some (ZcR (s2.map Ze) a2):=by rw [List.getElem?_set_ne (Ne.symm n21)]; exact o2
 have l2':(M.set a1 (.lst (t1 ++ [.int (k:Int)])))[a2]? = some (.lst t2):=by rw [List.getElem?_set_ne aa]; exact l2
 have r1:=Zgn (k:=k) (d:=Ze x) o1 l1 n11 (by rw [List.getElem?_map,hx]; rfl) z1
 have r2:=Zgn (k:=k) (d:=Ze y) o2' l2' n22 (by rw [List.getElem?_map,hy]; rfl) z2
 refine (ZcW (env:=[some (.ref n1),some (.ref n2),some (.int (k:Int))]) (d:=.tup [Ze x,Ze y]) (M':=asked M a1 a2 (t1 ++ [.int (k:Int)]) (t2 ++ [.int (k:Int)])) (ZaH (ZaW (Zag (Zdp rfl (Zdn o1 rfl rfl) rfl r1) (Zag (Zdp rfl (Zdn o2' rfl rfl) rfl r2) rfl)) rfl))).trans (ZdZ ZhZ)
end
noncomputable def hv (eq:Nat → Bool):Nat → Nat → Nat → List Nat × Nat
 | 0,low,_=>([],low)
 | f + 1,low,high=>if high = low + 1 then ([],low) else if eq ((low + high) / 2) then ((low + high) / 2 :: (hv eq f ((low + high) / 2) high).1,(hv eq f ((low + high) / 2) high).2) else ((low + high) / 2 :: (hv eq f low ((low + high) / 2)).1,(hv eq f low ((low + high) / 2)).2)
theorem whT {c:E3} {body:S3} {n:Nat} {env e:Zat} {M M1 M':Store} (h:c env M = .ok (.bl true) M1) (h':body env M1 = .nx e M'):Zdv c body (n + 1) env M = Zdv c body n e M':=by
 show (match c env M with | .ok (.bl true) M1=>_ | .ok (.bl false) M1=>_ | .exc x M1=>_ | _=>_) = _
 rw [h]; simp only [h']
theorem whF {c:E3} {body:S3} {n:Nat} {env:Zat} {M M1:Store} (h:c env M = .ok (.bl false) M1):Zdv c body (n + 1) env M = .nx env M1:=by
 show (match c env M with | .ok (.bl true) M1=>_ | .ok (.bl false) M1=>_ | .exc x M1=>_ | _=>_) = _
 rw [h]
noncomputable abbrev ZlK (d0:D) (n1 n2 low:Nat) (d4:D) (high:Nat) (d6 alike unlike:D) (x9 x10:Option D):Zat:=[some d0,some (.ref n1),some (.ref n2),some (.int (low:Int)),some d4,some (.int (high:Int)),some d6,some alike,some unlike,x9,x10]
theorem ZjK {n1 a1 n2 a2:Nat} {s1 s2:List Stt} (d0 d4 d6:D) (hlen:s2.length = s1.length):
  ∀ (f low high fuel:Nat) (M:Store) (t1 t2:List D) (x9 x10:Option D) (x xh yh:Stt),high - low ≤ f → f < fuel → low < high → high < s1.length → Tw M n1 a1 n2 a2 s1 s2 t1 t2 → t1.length + f < 1000000 → t2.length + f < 1000000 →
   s1[low]? = some x → s1[high]? = some xh → s2[high]? = some yh →
  ∃ x9' x10' x' u v,s1[(hv (fun m=>decide (s1[m]? = s2[m]?)) f low high).2]? = some x' ∧ s1[(hv (fun m=>decide (s1[m]? = s2[m]?)) f low high).2 + 1]? = some u ∧ s2[(hv (fun m=>decide (s1[m]? = s2[m]?)) f low high).2 + 1]? = some v ∧
   Zdv (e2 Zed (Za 5) (e2 Zz (Za 3) (eC (.int 1)))) (Zx (Zaj 9 (e2 Zad (e2 Zz (Za 3) (Za 5)) (eC (.int 2)))) (Zx (Zaj 10 (Zai Zct (Zb (Za 1) (Zb (Za 2) (Zb (Za 9) (Zi)))))) (sIf (Zai Zby (Zb (Za 10) (Zi))) (Zx (Zaj 5 (Za 9)) (Zaj 8 (Za 10))) (Zx (Zaj 3 (Za 9)) (Zaj 7 (e2 Zk (Za 10) (eC (.int 0)))))))) fuel
    (ZlK d0 n1 n2 low d4 high d6 (Ze x) (.tup [Ze xh,Ze yh]) x9 x10) M =
   .nx (ZlK d0 n1 n2 (hv (fun m=>decide (s1[m]? = s2[m]?)) f low high).2 d4 ((hv (fun m=>decide (s1[m]? = s2[m]?)) f low high).2 + 1) d6 (Ze x') (.tup [Ze u,Ze v]) x9' x10')
    (asked M a1 a2 (t1 ++ (hv (fun m=>decide (s1[m]? = s2[m]?)) f low high).1.map fun m=>.int (m:Int)) (t2 ++ (hv (fun m=>decide (s1[m]? = s2[m]?)) f low high).1.map fun m=>.int (m:Int))):=by
 intro f
 induction f with
 | zero=>intro low high fuel M t1 t2 x9 x10 x xh yh h1 h2 h3; exact (lC 3 0x602c101e2011011 T1 h3 h1 (sbA _ _)).elim
 | succ f ih=>
  intro low high fuel M t1 t2 x9 x10 x xh yh h1 h2 h3 h4 T z1 z2 hx hxh hyh
  cases fuel with
  | zero=>exact (lA 1 116001809 T1 h2).elim
  | succ fuel=>
   by_cases q:high = low + 1
   ·subst q
    have e:hv (fun m=>decide (s1[m]? = s2[m]?)) (f + 1) low (low + 1) = ([],low):=by simp [hv]
    rw [e]
    refine ⟨x9,x10,x,xh,yh,hx,hxh,hyh,?_⟩
    simp only [List.map_nil,List.append_nil]
    rw [Zkn T]
    refine whF (Zn rfl (Zn rfl rfl rfl) ?_)
    simp
   ·have c:(e2 Zed (Za 5) (e2 Zz (Za 3) (eC (.int 1)))) (ZlK d0 n1 n2 low d4 high d6 (Ze x) (.tup [Ze xh,Ze yh]) x9 x10) M = .ok (.bl true) M:=by
     refine Zn rfl (Zn rfl rfl rfl) ?_
     have:¬ ((high:Int) = (low:Int) + 1):=(fun z=>iN [_,_] [] 2 0x6a1c011a18c08b1 T1 z (Nat.lt_of_le_of_ne (iN [_,_] [] 1 0xa1c00a18c08a1 T1 z) q))
     simp [this]
    have lm:low < (low + high) / 2:=Nat.lt_of_not_le fun z=>lC 3 0x6a0c02d21c112a1c111002 T1 z (Nat.lt_of_le_of_ne (lB 1 6991908881 T1 h3) (Ne.symm q)) (Nat.lt_mul_div_succ _ (by decide))
    have mh:(low + high) / 2 < high:=lC 2 0x21120c102d011011 T1 lm (Nat.mul_div_le _ _)
    have hm:(e2 Zad (e2 Zz (Za 3) (Za 5)) (eC (.int 2))) (ZlK d0 n1 n2 low d4 high d6 (Ze x) (.tup [Ze xh,Ze yh]) x9 x10) M = .ok (.int (((low + high) / 2:Nat):Int)) M:=by
     refine Zn (Zn rfl rfl rfl) rfl ?_
     simp
    have hv':hv (fun m=>decide (s1[m]? = s2[m]?)) (f + 1) low high = if decide (s1[(low + high) / 2]? = s2[(low + high) / 2]?) then ((low + high) / 2 :: (hv (fun m=>decide (s1[m]? = s2[m]?)) f ((low + high) / 2) high).1,(hv (fun m=>decide (s1[m]? = s2[m]?)) f ((low + high) / 2) high).2) else ((low + high) / 2 :: (hv (fun m=>decide (s1[m]? = s2[m]?)) f low ((low + high) / 2)).1,(hv (fun m=>decide (s1[m]? = s2[m]?)) f low ((low + high) / 2)).2):=by
     show (if high = low + 1 then _ else _) = _
     rw [if_neg q]
    rw [hv']
    generalize (low + high) / 2 = m at *
    have gu:s1[m]? = some (s1[m]'(Nat.lt_trans mh h4)):=List.getElem?_eq_getElem _
    have gv:s2[m]? = some (s2[m]'(lD 3 0x301233121111011 T1 mh h4 hlen)):=List.getElem?_eq_getElem _
    generalize s1[m]'(Nat.lt_trans mh h4) = u at gu
    generalize s2[m]'(lD 3 0x301233121111011 T1 mh h4 hlen) = v at gv
    have ba:=ZiE T gu gv (lB 1 0xf42405b01f42405ba1c0c11 T1 z1) (lB 1 0xf42405b01f42405ba1c0c11 T1 z2)
    have T':=T.put (t1 ++ [.int (m:Int)]) (t2 ++ [.int (m:Int)])
    have un:=Zf3 u v (asked M a1 a2 (t1 ++ [.int (m:Int)]) (t2 ++ [.int (m:Int)]))
    have st1:∀ g:S3,Zx (Zaj 9 (e2 Zad (e2 Zz (Za 3) (Za 5)) (eC (.int 2)))) (Zx (Zaj 10 (Zai Zct (Zb (Za 1) (Zb (Za 2) (Zb (Za 9) (Zi)))))) g) (ZlK d0 n1 n2 low d4 high d6 (Ze x) (.tup [Ze xh,Ze yh]) x9 x10) M = g (ZlK d0 n1 n2 low d4 high d6 (Ze x) (.tup [Ze xh,Ze yh]) (some (.int (m:Int))) (some (.tup [Ze u,Ze v]))) (asked M a1 a2 (t1 ++ [.int (m:Int)]) (t2 ++ [.int (m:Int)])):=fun g=>
     (Zf (Zq hm)).trans (Zf (Zq (ZcL rfl rfl rfl ba)))
    rw [gu,gv]
    by_cases uv:u = v
    ·subst uv
     rw [if_pos (by simp)]
     rw [decide_eq_true rfl] at un
     obtain ⟨x9',x10',x',u',v',g1,g2,g3,w⟩:=ih m high fuel _ (t1 ++ [.int (m:Int)]) (t2 ++ [.int (m:Int)]) (some (.int (m:Int))) (some (.tup [Ze u,Ze u])) u xh yh (lF 4 0x34002c501514c21a3c2011011 T1 lm h1 (Nat.sub_add_cancel (Nat.le_of_lt mh)) (sbA _ _)) (lB 1 1106520968209 T1 h2) mh h4 T' (by simp; exact lB 1 0xf42405b1a0cc1f42405ba1c0c11 T1 z1) (by simp; exact lB 1 0xf42405b1a0cc1f42405ba1c0c11 T1 z2) gu hxh hyh
     refine ⟨x9',x10',x',u',v',g1,g2,g3,(whT c ((st1 _).trans ((ZbT (Zdq rfl un)).trans ((Zf (Zq rfl)).trans (Zq (Zn rfl rfl rfl)))))).trans (w.trans ?_)⟩
     rw [ZdG T.aa]
     simp
    ·rw [if_neg (by simpa using uv)]
     rw [decide_eq_false uv] at un
     obtain ⟨x9',x10',x',u',v',g1,g2,g3,w⟩:=ih low m fuel _ (t1 ++ [.int (m:Int)]) (t2 ++ [.int (m:Int)]) (some (.int (m:Int))) (some (.tup [Ze u,Ze v])) x u v (lF 4 0x34052c101054c21a3c2011011 T1 mh h1 (Nat.sub_add_cancel (Nat.le_of_lt lm)) (sbA _ _)) (lB 1 1106520968209 T1 h2) lm (Nat.lt_trans mh h4) T' (by simp; exact lB 1 0xf42405b1a0cc1f42405ba1c0c11 T1 z1) (by simp; exact lB 1 0xf42405b1a0cc1f42405ba1c0c11 T1 z2) hx gu gv
     refine ⟨x9',x10',x',u',v',g1,g2,g3,(whT c ((st1 _).trans ((ZaM (Zdq rfl un)).trans ((Zf (Zq rfl)).trans (Zq rfl))))).trans (w.trans ?_)⟩
     rw [ZdG T.aa]
     simp
theorem ZiO (u:Stt) (r:Option Stt) (M:Store):Ze7 (Ze u) (ZeT r) M = .ok (.bl (!decide (some u = r))) M:=by
 cases r with
 | none=>rfl
 | some y=>
  have e:Ze7 (Ze u) (ZeT (some y)) M = Zed (Ze u) (Ze y) M:=rfl
  rw [e,ZoV]
  simp
theorem Zm8 (roll:ZcV) (hok:∀ x ∈ roll,x.ok roll.length) (s u v:Stt) (hs:s.ok roll) (hk:keysOk s.cells) (hl:s.cells.length ≤ 5000) (M:Store):
  Zdg [Zy roll,Ze s,.tup [Ze u,Ze v]] M = .ok (.tup [.bl (!decide (some u = Za6 roll s)),.bl (!decide (some v = Za6 roll s))]) M:=by
 have ns:=Zhm roll s M hok hs hk hl
 refine (ZcW (env:=[some (Zy roll),some (Ze s),some (.tup [Ze u,Ze v]),none]) (d:=.tup [.bl (!decide (some u = Za6 roll s)),.bl (!decide (some v = Za6 roll s))]) (M':=M) ?_).trans (ZdZ rfl)
 exact (Zf (Zq (Zdr rfl rfl ns))).trans (ZaH (ZaW (Zag (Zn (Zn rfl rfl rfl) rfl (ZiO u _ M)) (Zag (Zn (Zn rfl rfl rfl) rfl (ZiO v _ M)) rfl)) rfl))
theorem Zow {a b:Int} {M:Store} (h:a = b):Zed (.int a) (.int b) M = .ok (.bl false) M:=by simp [h]
theorem ZhK {n1 a1 n2 a2:Nat} {s1 s2:List Stt} {t1 t2:List D} {M:Store} (roll:ZcV) (hok:∀ x ∈ roll,x.ok roll.length) (T:Tw M n1 a1 n2 a2 s1 s2 t1 t2) (hlen:s2.length = s1.length) (h2:2 ≤ s1.length) (z1:t1.length + s1.length < 900000) (z2:t2.length + s1.length < 900000)
  (h0:s1[0]? = s2[0]?) (hl:s1[s1.length - 1]? ≠ s2[s1.length - 1]?) (good:∀ x ∈ s1,x.ok roll ∧ keysOk x.cells ∧ x.cells.length ≤ 5000):
  ∃ x u v,s1[(hv (fun m=>decide (s1[m]? = s2[m]?)) (s1.length - 1) 0 (s1.length - 1)).2]? = some x ∧ s1[(hv (fun m=>decide (s1[m]? = s2[m]?)) (s1.length - 1) 0 (s1.length - 1)).2 + 1]? = some u ∧ s2[(hv (fun m=>decide (s1[m]? = s2[m]?)) (s1.length - 1) 0 (s1.length - 1)).2 + 1]? = some v ∧
   Zew [Zy roll,.ref n1,.ref n2] M = .ok (.tup [.int ((hv (fun m=>decide (s1[m]? = s2[m]?)) (s1.length - 1) 0 (s1.length - 1)).2:Int),.tup [.bl (!decide (some u = Za6 roll x)),.bl (!decide (some v = Za6 roll x))]])
    (asked M a1 a2 (t1 ++ ((0:Nat) :: (s1.length - 1) :: (hv (fun m=>decide (s1[m]? = s2[m]?)) (s1.length - 1) 0 (s1.length - 1)).1).map fun m=>.int (m:Int)) (t2 ++ ((0:Nat) :: (s1.length - 1) :: (hv (fun m=>decide (s1[m]? = s2[m]?)) (s1.length - 1) 0 (s1.length - 1)).1).map fun m=>.int (m:Int))):=by
 have g0:s1[0]? = some (s1[0]'(lA 1 3775011585 T1 h2)):=List.getElem?_eq_getElem _
 generalize s1[0]'(lA 1 3775011585 T1 h2) = x0 at g0
 have g0':s2[0]? = some x0:=by rw [← h0]; exact g0
 have gl:s1[s1.length - 1]? = some (s1[s1.length - 1]'(lB 1 4313451553 T1 (Nat.sub_add_cancel (lA 1 2684492545 T1 h2)))):=List.getElem?_eq_getElem _
 have gl':s2[s1.length - 1]? = some (s2[s1.length - 1]'(lC 2 36396293230641 T1 hlen (Nat.sub_add_cancel (lA 1 2684492545 T1 h2)))):=List.getElem?_eq_getElem _
 generalize s1[s1.length - 1]'(lB 1 4313451553 T1 (Nat.sub_add_cancel (lA 1 2684492545 T1 h2))) = xl at gl
 generalize s2[s1.length - 1]'(lC 2 36396293230641 T1 hlen (Nat.sub_add_cancel (lA 1 2684492545 T1 h2))) = yl at gl'
 have ne:¬ xl = yl:=fun e=>hl (by rw [gl,gl',e])
 have b0:=ZiE T g0 g0' (lB 1 0xf42405b01dbba05b10c11 T1 z1) (lB 1 0xf42405b01dbba05b10c11 T1 z2)
 have T1:=T.put (t1 ++ [.int ((0:Nat):Int)]) (t2 ++ [.int ((0:Nat):Int)])
 generalize hM1:asked M a1 a2 (t1 ++ [.int ((0:Nat):Int)]) (t2 ++ [.int ((0:Nat):Int)]) = M1 at b0 T1
 have b1:=ZiE T1 gl gl' (by simp; omega) (by simp; omega)
 have T2:=T1.put (t1 ++ [.int ((0:Nat):Int)] ++ [.int ((s1.length - 1:Nat):Int)]) (t2 ++ [.int ((0:Nat):Int)] ++ [.int ((s1.length - 1:Nat):Int)])
 generalize hM2:asked M1 a1 a2 (t1 ++ [.int ((0:Nat):Int)] ++ [.int ((s1.length - 1:Nat):Int)]) (t2 ++ [.int ((0:Nat):Int)] ++ [.int ((s1.length - 1:Nat):Int)]) = M2 at b1 T2
 have u0:=Zf3 x0 x0 M1
 rw [decide_eq_true rfl] at u0
 have ul:=Zf3 xl yl M2
 rw [decide_eq_false ne] at ul
 obtain ⟨x9,x10,x,u,v,gx,gu,gv,lp⟩:=ZjK (n1:=n1) (a1:=a1) (n2:=n2) (a2:=a2) (s1:=s1) (s2:=s2) (Zy roll) (.tup [Ze x0,Ze x0]) (.tup [Ze xl,Ze yl]) hlen (s1.length - 1) 0 (s1.length - 1) 1000000 M2 _ _ none none x0 xl yl ((Nat.sub_le _ _)) (by omega) (by omega) (by omega) T2 (by simp; omega) (by simp; omega) g0 gl gl'
 refine ⟨x,u,v,gx,gu,gv,?_⟩
 obtain ⟨ox,kx,lx⟩:=good x (List.mem_of_getElem? gx)
 generalize hv (fun m=>decide (s1[m]? = s2[m]?)) (s1.length - 1) 0 (s1.length - 1) = r at gx gu gv lp ⊢
 generalize hM3:asked M2 a1 a2 (t1 ++ [.int ((0:Nat):Int)] ++ [.int ((s1.length - 1:Nat):Int)] ++ r.1.map fun m=>.int (m:Int)) (t2 ++ [.int ((0:Nat):Int)] ++ [.int ((s1.length - 1:Nat):Int)] ++ r.1.map fun m=>.int (m:Int)) = M3 at lp
 have we:=Zm8 roll hok x u v ox kx lx M3
 have eM:M3 = asked M a1 a2 (t1 ++ ((0:Nat) :: (s1.length - 1) :: r.1).map fun m=>.int (m:Int)) (t2 ++ ((0:Nat) :: (s1.length - 1) :: r.1).map fun m=>.int (m:Int)):=by
  rw [← hM3,← hM2,← hM1,ZdG T.aa,ZdG T.aa]
  simp
 rw [← eM]
 have mn:∀ {i n a:Nat} {ss:List Stt} {M:Store} {env:Zat},env[i]? = some (some (.ref n)) → M[n]? = some (ZcR (ss.map Ze) a) → ZbA TEL [109,97,110,121] Zbj (Za i) (Zi) env M = .ok (.int (ss.length:Int)) M:=fun {i n a ss M env} he ho=>by
  have:=Zn9 ho
  rw [List.length_map] at this
  exact Zdp (by simp [he]) (Zdn ho rfl rfl) rfl this
 refine (ZcW (env:=[some (Zy roll),some (.ref n1),some (.ref n2),none,none,none,none,none,none,none,none]) (M':=M3) (d:=.tup [.int (r.2:Int),.tup [.bl (!decide (some u = Za6 roll x)),.bl (!decide (some v = Za6 roll x))]]) ?_).trans (ZdZ (by rw [eM,ZhZ]))
 refine (Zf (Zj (M':=M) ?_)).trans ?_
 ·rw [Zgl (Zn (mn rfl T.o1) (mn rfl T.o2) (Zow (by rw [hlen])))]
  refine Zn (mn rfl T.o1) rfl ?_
  have:¬ ((s1.length:Int) < 2):=by omega
  simp [this]
 refine (Zf (Zq rfl)).trans ((Zf (Zq (ZcL rfl rfl rfl b0))).trans ((Zf (Zj (Zdq rfl u0))).trans ?_))
 refine (Zf (Zq (d:=.int ((s1.length - 1:Nat):Int)) (M':=M1) (Zn (mn rfl T1.o1) rfl ?_))).trans ?_
 ·have:(s1.length:Int) - 1 = ((s1.length - 1:Nat):Int):=by omega
  simp [this]
 refine (Zf (Zq (ZcL rfl rfl rfl b1))).trans ((Zf (Zj (Zh1 (Zdq rfl ul) rfl))).trans ((Zf (Zq (Zn rfl rfl rfl))).trans ((Zf (Zq rfl)).trans ((Zf (f:=Zg2 _ _) lp).trans (ZaH (ZaW (Zag rfl (Zag (ZcL rfl rfl rfl we) rfl)) rfl))))))
theorem ZjU {α:Type} {enc:α → D} {P:D → α → Prop} {it:It3} {i n:Nat} {elt:E3} {env0 env:Zat} {ds acc:List D} {M:Store} (he:∀ d,env.set i (some d) = env0.set i (some d))
  (hf:∀ d ∈ ds,∃ a,P d a ∧ ∀ x,elt (env0.set i (some d)) (M.set n (.lst x)) = .ok (enc a) (M.set n (.lst x))) (hl:∀ x,locked it (M.set n (.lst x)) = true) (hM:M[n]? = some (.lst acc)) (hz:acc.length + ds.length ≤ SZ):
  ∃ as:List α,as.length = ds.length ∧ (∀ (j:Nat) d a,ds[j]? = some d → as[j]? = some a → P d a) ∧ Zca it (Zci i) [] elt n ds env M = .ok (.ref n) (M.set n (.lst (acc ++ as.map enc))):=by
 obtain ⟨es,le,re,h⟩:=ZgH (it:=it) (i:=i) (n:=n) (elt:=elt) (R:=fun d e=>∃ a,e = enc a ∧ P d a) (env0:=env0) ds acc env M he (fun d hd x=>by
  obtain ⟨a,pa,ha⟩:=hf d hd
  exact ⟨enc a,ha _,a,rfl,pa⟩) hl hM hz
 obtain ⟨as,rfl,ps⟩:=Zjx (enc:=enc) (P:=fun j a=>∀ d,ds[j]? = some d → P d a) es fun j e hj=>by
  have hlt:j < ds.length:=by rw [← le]; exact (List.getElem?_eq_some_iff.mp hj).1
  obtain ⟨a,ea,pa⟩:=re j ds[j] e (by simp [hlt]) hj
  refine ⟨a,ea,fun d hd=>?_⟩
  rw [List.getElem?_eq_getElem hlt] at hd
  cases hd
  exact pa
 exact ⟨as,by simpa using le,fun j d a hd ha=>ps j a ha d hd,h⟩
theorem ZjX (n:Nat) (r:ZcV):below n (Zy r) = true:=by
 unfold Zy below
 induction r with
 | nil=>rfl
 | cons x r ih=>
  simp only [List.map_cons,belowL,ih,Bool.and_true]
  cases x <;> rfl
noncomputable def Znh:S3:=(sIf (e2 Zaz (Za 4) (eC (.str [112,117,116]))) (ZaP (Zce tyL ZaS (Za 1) (Zb (Za4 (Zb (Za 4) (Zb (Za 6) (Zb (e2 Zk (Zcg (Zb (e2 Zae (e2 Zad (Za 5) (eC (.int 8))) (eC (.int 3))) (Zb (e2 Zcu (eC (.int 0)) (e2 Zae (e2 Zad (Za 5) (eC (.int 8))) (e2 Zen (eC (.int 10)) (eC (.int 40))))) (Zb (e2 Zae (e2 Zad (Za 5) (eC (.int 8))) (e2 Zen (eC (.int 10)) (eC (.int 40)))) (Zi))))) (e2 Zae (Za 7) (eC (.int 3)))) (Zi))))) (Zi)))) (sIf (e2 Zge (Za 4) (Zcg (Zb (eC (.str [97,100,100])) (Zb (eC (.str [115,117,98])) (Zb (eC (.str [109,111,114,101])) (Zi)))))) (ZaP (Zce tyL ZaS (Za 1) (Zb (Za4 (Zb (Za 4) (Zb (Za 6) (Zb (Za 7) (Zb (Za 8) (Zi)))))) (Zi)))) (sIf (e2 Zge (Za 4) (Zcg (Zb (eC (.str [103,101,116])) (Zb (eC (.str [115,101,116])) (Zi))))) (ZaP (Zce tyL ZaS (Za 1) (Zb (Za4 (Zb (Za 4) (Zb (Za 6) (Zb (Za 7) (Zi))))) (Zi)))) (sIf (e2 Zaz (Za 4) (eC (.str [119,104,101,110]))) (ZaP (Zce tyL ZaS (Za 1) (Zb (Za4 (Zb (Za 4) (Zb (Za 6) (Zb (Za 9) (Zi))))) (Zi)))) (sIf (e2 Zaz (Za 4) (eC (.str [106,117,109,112]))) (ZaP (Zce tyL ZaS (Za 1) (Zb (Za4 (Zb (Za 4) (Zb (Za 9) (Zi)))) (Zi)))) (ZaP (Zce tyL ZaS (Za 1) (Zb (Za4 (Zb (Za 4) (Zb (Za 6) (Zi)))) (Zi)))))))))
noncomputable def Zop:S3:=(Zx (Zaj 4 (e2 Zk (Zcg (Zb (eC (.str [112,117,116])) (Zb (eC (.str [97,100,100])) (Zb (eC (.str [115,117,98])) (Zb (eC (.str [109,111,114,101])) (Zb (eC (.str [103,101,116])) (Zb (eC (.str [115,101,116])) (Zb (eC (.str [119,104,101,110])) (Zb (eC (.str [106,117,109,112])) (Zb (eC (.str [116,101,108,108])) (Zb (eC (.str [112,117,116])) (Zi)))))))))))) (e2 Zae (Za 3) (eC (.int 10))))) (Zx (Zaj 5 (e2 Zad (Za 3) (eC (.int 10)))) (Zx (Zaj 6 (e2 Zae (Za 5) (eC (.int 8)))) (Zx (Zaj 7 (e2 Zae (e2 Zad (Za 5) (eC (.int 8))) (eC (.int 8)))) (Zx (Zaj 8 (e2 Zae (e2 Zad (Za 5) (eC (.int 64))) (eC (.int 8)))) (Zx (Zaj 9 (e2 Zz (e2 Zz (Za 2) (eC (.int 1))) (e2 Zae (e2 Zad (Za 5) (eC (.int 512))) (e2 Zcu (ZaL Za7 (Zb (Za 0) (Zi))) (Za 2))))) (Zx (sIf (e2 Zaz (e2 Zae (e2 Zad (Za 5) (eC (.int 5))) (eC (.int 4))) (eC (.int 1))) (Zaj 9 (e2 Zae (e2 Zad (Za 5) (eC (.int 512))) (e2 Zz (ZaL Za7 (Zb (Za 0) (Zi))) (eC (.int 1))))) (Zam)) Znh)))))))
noncomputable def kindB (j:Nat):List Nat:=[[112,117,116],[97,100,100],[115,117,98],[109,111,114,101],[103,101,116],[115,101,116],[119,104,101,110],[106,117,109,112],[116,101,108,108],[112,117,116]].getD j []
theorem ZbZ {i j:Int} {M:Store} (h:0 < j ∧ j < 1073741824):Zad (.int i) (.int j) M = .ok (.int (i / j)) M:=by simp only [Zad,if_pos h]
theorem Zcn {g:EL3} {env:Zat} {M M':Store} {ds:List D} (h:g env M = .ok ds M') (hl:decide (ds.length ≤ 100) = true):Zcg g env M = .ok (.ref M'.length) (M' ++ [.lst ds]):=by
 have z:ds.length ≤ SZ:=Nat.le_trans (of_decide_eq_true hl) (by decide)
 simp only [Zcg,h,R3.bind,if_pos z,alloc]
noncomputable def Ziz:List D:=[.str [112,117,116],.str [97,100,100],.str [115,117,98],.str [109,111,114,101],.str [103,101,116],.str [115,101,116],.str [119,104,101,110],.str [106,117,109,112],.str [116,101,108,108],.str [112,117,116]]
theorem ten:∀ {j:Nat},j < 10 → j = 0 ∨ j = 1 ∨ j = 2 ∨ j = 3 ∨ j = 4 ∨ j = 5 ∨ j = 6 ∨ j = 7 ∨ j = 8 ∨ j = 9:=by decide
theorem ZiK {c:Int} {j:Nat} (hj:c % 10 = j) (lj:j < 10):Za0 Ziz (c % 10) = some (.str (kindB j)):=by
 rw [hj,ZaT]
 rcases ten lj with h | h | h | h | h | h | h | h | h | h <;> subst h <;> rfl
theorem ZcU {a:D} {M:Store} {ys:List D} {b:Bool} (hf:(ZaZ a && ys.all ZaZ) = true) (hb:(ys.any fun y=>deq y a) = b):Zge a (.ref M.length) (M ++ [.lst ys]) = .ok (.bl b) (M ++ [.lst ys]):=by
 simp only [Zge,ZaA,if_pos hf,hb]
theorem ZdU {env:Zat} {M M':Store} {n:Nat} {xs:List D} {d:D} {o t:E3} (ho:o env M = .ok (.ref n) M) (hM:M[n]? = some (.lst xs)) (ht:t env M = .ok d M') (hM':M'[n]? = some (.lst xs)) (hl:xs.length < SZ):
  ZaP (Zce tyL ZaS o (Zb t (Zi))) env M = .nx env (M'.set n (.lst (xs ++ [d]))):=by
 have e:Zce tyL ZaS o (Zb t (Zi)) env M = .ok .non (M'.set n (.lst (xs ++ [d]))):=by
  simp only [Zce,ho,R3.bind,tyL,hM,Zb,ht,Zi,ZaS,hM',if_pos hl,if_true]
 rw [ZaP,e]
noncomputable def lsA:List D:=[.str [97,100,100],.str [115,117,98],.str [109,111,114,101]]
noncomputable def lsB:List D:=[.str [103,101,116],.str [115,101,116]]
noncomputable def nsB (p:Int):List D:=[D.int (p / 8 % 3),D.int (-(p / 8 % 10000000000000000000000000000000000000000)),D.int (p / 8 % 10000000000000000000000000000000000000000)]
theorem three (b:Nat) (p:Int):∃ v:Int,Za0 (nsB p) ((b:Int) % 3) = some (.int v):=by
 obtain ⟨i,e,l⟩:=Zbv b 3 (by decide)
 rw [show (b:Int) % 3 = i from e,ZaT]
 rcases (by decide:∀ i:Nat,i < 3 → i = 0 ∨ i = 1 ∨ i = 2) i l with h | h | h <;> subst h <;> exact ⟨_,rfl⟩
theorem pw {env:Zat} {M:Store}:e2 Zen (eC (.int 10)) (eC (.int 40)) env M = .ok (.int 10000000000000000000000000000000000000000) M:=by simp
theorem ZoF {p v:Int} {a b:Nat} {M:Store} {x0 x1 x2 x3 x8 x9 x10:Option D} (hv:Za0 (nsB p) ((b:Int) % 3) = some (.int v)):
  (Za4 (Zb (Za 4) (Zb (Za 6) (Zb (e2 Zk (Zcg (Zb (e2 Zae (e2 Zad (Za 5) (eC (.int 8))) (eC (.int 3))) (Zb (e2 Zcu (eC (.int 0)) (e2 Zae (e2 Zad (Za 5) (eC (.int 8))) (e2 Zen (eC (.int 10)) (eC (.int 40))))) (Zb (e2 Zae (e2 Zad (Za 5) (eC (.int 8))) (e2 Zen (eC (.int 10)) (eC (.int 40)))) (Zi))))) (e2 Zae (Za 7) (eC (.int 3)))) (Zi))))) [x0,x1,x2,x3,some (.str [112,117,116]),some (.int p),some (.int a),some (.int b),x8,x9,x10] M = .ok (.tup [.str [112,117,116],.int a,.int v]) (M ++ [.lst (nsB p)]):=
 ZaW (Zag rfl (Zag rfl (Zag (Zn (a:=.ref M.length) (M1:=M ++ [.lst (nsB p)]) (Zcn (Zag (Zn (Zn rfl rfl (ZbZ (by decide))) rfl (ZaY (by decide))) (Zag (Zn rfl (Zn (Zn rfl rfl (ZbZ (by decide))) pw (ZaY (by decide))) (by simp)) (Zag (Zn (Zn rfl rfl (ZbZ (by decide))) pw (ZaY (by decide))) rfl))) rfl) (Zn rfl rfl (ZaY (by decide))) (Zbo (ZaA _ _ _) hv)) rfl))) rfl
theorem Zrt (n m0:Nat) (k c many:Int) (cs:List D) (M:Store) (hn:M[n]? = some (.lst cs)) (hl:(cs.length:Int) = many) (hk:k < many) (h0:0 ≤ k) (x4 x5 x6 x7 x8 x9 x10:Option D) (j:Nat) (hj:c % 10 = j) (lj:j < 10):
  ∃ G,Zop [some (.ref n),some (.ref m0),some (.int k),some (.int c),x4,x5,x6,x7,x8,x9,x10] M = Znh [some (.ref n),some (.ref m0),some (.int k),some (.int c),some (.str (kindB j)),some (.int (c / 10)),some (.int (c / 10 % 8)),some (.int (c / 10 / 8 % 8)),some (.int (c / 10 / 64 % 8)),some (.int (if c / 10 / 5 % 4 = 1 then c / 10 / 512 % (many + 1) else k + 1 + c / 10 / 512 % (many - k))),x10] (M ++ [G]):=by
 refine ⟨.lst Ziz,?_⟩
 unfold Zop
 generalize hG:MO.lst Ziz = G
 have hnG:(M ++ [G])[n]? = some (.lst cs):=Zal hn _
 rw [Zf (Zq (M':=M ++ [G]) (d:=.str (kindB j)) (Zn (a:=.ref M.length) (M1:=M ++ [G]) (by rw [← hG]; exact Zcn rfl rfl) (Zn rfl rfl (ZaY (by decide))) (Zbo (xs:=Ziz) (by rw [← hG]; exact ZaA _ _ _) (ZiK hj lj))))]
 rw [Zf (Zq (M':=M ++ [G]) (d:=.int (c / 10)) (Zn rfl rfl (ZbZ (by decide))))]
 rw [Zf (Zq (M':=M ++ [G]) (d:=.int (c / 10 % 8)) (by exact rfl))]
 rw [Zf (Zq (M':=M ++ [G]) (d:=.int (c / 10 / 8 % 8)) (Zn (Zn rfl rfl (ZbZ (by decide))) rfl (ZaY (by decide))))]
 rw [Zf (Zq (M':=M ++ [G]) (d:=.int (c / 10 / 64 % 8)) (Zn (Zn rfl rfl (ZbZ (by decide))) rfl (ZaY (by decide))))]
 have p1:0 < many - k:=iN [] [_,_] 1 535367825 T1 hk
 have p2:0 < many + 1:=iN [_] [_] 1 690660313249 T1 hl
 rw [Zf (Zq (M':=M ++ [G]) (d:=.int (k + 1 + c / 10 / 512 % (many - k))) (by simp [hnG,hl,hk]))]
 by_cases z:c / 10 / 5 % 4 = 1
 ·rw [Zf (M':=M ++ [G]) (env':=[some (.ref n),some (.ref m0),some (.int k),some (.int c),some (.str (kindB j)),some (.int (c / 10)),some (.int (c / 10 % 8)),some (.int (c / 10 / 8 % 8)),some (.int (c / 10 / 64 % 8)),some (.int (c / 10 / 512 % (many + 1))),x10]) (by rw [ZaM (M':=M ++ [G]) (by simp [z])]; exact Zq (d:=.int (c / 10 / 512 % (many + 1))) (by simp [hnG,hl,p2]))]
  rw [if_pos z]
 ·rw [Zf (Zj (M':=M ++ [G]) (by simp [z])),if_neg z]
theorem Zmi (n m0 many:Nat) (k c p:Int) (a b d q j:Nat) (rows:List Row) (M:Store) (x10:Option D) (hm:M[m0]? = some (.lst (rows.map Zw))) (hr:rows.length ≤ 63) (la:a < 8) (lb:b < 8) (ld:d < 8) (lq:q < many) (hj:j < 10):
  ∃ (r:Row) (G:Store),r.ok many ∧ Znh [some (.ref n),some (.ref m0),some (.int k),some (.int c),some (.str (kindB j)),some (.int p),some (.int a),some (.int b),some (.int d),some (.int q),x10] M = .nx [some (.ref n),some (.ref m0),some (.int k),some (.int c),some (.str (kindB j)),some (.int p),some (.int a),some (.int b),some (.int d),some (.int q),x10] ((M ++ G).set m0 (.lst (rows.map Zw ++ [Zw r]))):=by
 have hmG:∀ G,(M ++ G)[m0]? = some (.lst (rows.map Zw)):=fun G=>Zal hm G
 have lz:(rows.map Zw).length < SZ:=by rw [List.length_map]; exact Nat.lt_of_le_of_lt hr (by decide)
 have hm2:(M ++ [.lst lsA] ++ [.lst lsB])[m0]? = some (.lst (rows.map Zw)):=Zal (hmG _) _
 obtain ⟨v,hv⟩:=three b p
 rcases ten hj with h | h | h | h | h | h | h | h | h | h <;> subst h
 ·exact ⟨.put a v,[.lst (nsB p)],la,(ZaM (M':=M) rfl).trans (ZdU rfl hm (ZoF hv) (hmG _) lz)⟩
 ·exact ⟨.add a b d,[.lst lsA],⟨la,lb,ld⟩,(ZbT (M':=M) rfl).trans ((ZaM (M':=M ++ [.lst lsA]) (Zn rfl (Zcn rfl rfl) (ZcU rfl rfl))).trans (ZdU rfl (hmG _) (ZaW rfl rfl) (hmG _) lz))⟩
 ·exact ⟨.sub a b d,[.lst lsA],⟨la,lb,ld⟩,(ZbT (M':=M) rfl).trans ((ZaM (M':=M ++ [.lst lsA]) (Zn rfl (Zcn rfl rfl) (ZcU rfl rfl))).trans (ZdU rfl (hmG _) (ZaW rfl rfl) (hmG _) lz))⟩
 ·exact ⟨.more a b d,[.lst lsA],⟨la,lb,ld⟩,(ZbT (M':=M) rfl).trans ((ZaM (M':=M ++ [.lst lsA]) (Zn rfl (Zcn rfl rfl) (ZcU rfl rfl))).trans (ZdU rfl (hmG _) (ZaW rfl rfl) (hmG _) lz))⟩
 ·exact ⟨.get a b,[.lst lsA,.lst lsB],⟨la,lb⟩,by rw [List.append_cons]; exact (ZbT (M':=M) rfl).trans ((ZbT (M':=M ++ [.lst lsA]) (Zn rfl (Zcn rfl rfl) (ZcU rfl rfl))).trans ((ZaM (M':=M ++ [.lst lsA] ++ [.lst lsB]) (Zn rfl (Zcn rfl rfl) (ZcU rfl rfl))).trans (ZdU rfl hm2 (ZaW rfl rfl) hm2 lz)))⟩
 ·exact ⟨.set a b,[.lst lsA,.lst lsB],⟨la,lb⟩,by rw [List.append_cons]; exact (ZbT (M':=M) rfl).trans ((ZbT (M':=M ++ [.lst lsA]) (Zn rfl (Zcn rfl rfl) (ZcU rfl rfl))).trans ((ZaM (M':=M ++ [.lst lsA] ++ [.lst lsB]) (Zn rfl (Zcn rfl rfl) (ZcU rfl rfl))).trans (ZdU rfl hm2 (ZaW rfl rfl) hm2 lz)))⟩
 ·exact ⟨.when a q,[.lst lsA,.lst lsB],⟨la,lq⟩,by rw [List.append_cons]; exact (ZbT (M':=M) rfl).trans ((ZbT (M':=M ++ [.lst lsA]) (Zn rfl (Zcn rfl rfl) (ZcU rfl rfl))).trans ((ZbT (M':=M ++ [.lst lsA] ++ [.lst lsB]) (Zn rfl (Zcn rfl rfl) (ZcU rfl rfl))).trans ((ZaM (M':=M ++ [.lst lsA] ++ [.lst lsB]) rfl).trans (ZdU rfl hm2 (ZaW rfl rfl) hm2 lz))))⟩
 ·exact ⟨.jump q,[.lst lsA,.lst lsB],lq,by rw [List.append_cons]; exact (ZbT (M':=M) rfl).trans ((ZbT (M':=M ++ [.lst lsA]) (Zn rfl (Zcn rfl rfl) (ZcU rfl rfl))).trans ((ZbT (M':=M ++ [.lst lsA] ++ [.lst lsB]) (Zn rfl (Zcn rfl rfl) (ZcU rfl rfl))).trans ((ZbT (M':=M ++ [.lst lsA] ++ [.lst lsB]) rfl).trans ((ZaM (M':=M ++ [.lst lsA] ++ [.lst lsB]) rfl).trans (ZdU rfl hm2 (ZaW rfl rfl) hm2 lz)))))⟩
 ·exact ⟨.tell a,[.lst lsA,.lst lsB],la,by rw [List.append_cons]; exact (ZbT (M':=M) rfl).trans ((ZbT (M':=M ++ [.lst lsA]) (Zn rfl (Zcn rfl rfl) (ZcU rfl rfl))).trans ((ZbT (M':=M ++ [.lst lsA] ++ [.lst lsB]) (Zn rfl (Zcn rfl rfl) (ZcU rfl rfl))).trans ((ZbT (M':=M ++ [.lst lsA] ++ [.lst lsB]) rfl).trans ((ZbT (M':=M ++ [.lst lsA] ++ [.lst lsB]) rfl).trans (ZdU rfl hm2 (ZaW rfl rfl) hm2 lz)))))⟩
 ·exact ⟨.put a v,[.lst (nsB p)],la,(ZaM (M':=M) rfl).trans (ZdU rfl hm (ZoF hv) (hmG _) lz)⟩
theorem ZlM (cs:List D) (n k m0:Nat) (c:Int) (rows:List Row) (M:Store) (x4 x5 x6 x7 x8 x9 x10:Option D) (hn:M[n]? = some (.lst cs)) (hm:M[m0]? = some (.lst (rows.map Zw))) (hne:n ≠ m0) (hk:k < cs.length) (hr:rows.length ≤ 63):
  ∃ (r:Row) (M':Store) (y4 y5 y6 y7 y8 y9:Option D),r.ok (cs.length + 1) ∧ Zop [some (.ref n),some (.ref m0),some (.int (k:Int)),some (.int c),x4,x5,x6,x7,x8,x9,x10] M = .nx [some (.ref n),some (.ref m0),some (.int (k:Int)),some (.int c),y4,y5,y6,y7,y8,y9,x10] M' ∧ M'[n]? = some (.lst cs) ∧ M'[m0]? = some (.lst ((rows ++ [r]).map Zw)) ∧ M'.take m0 = M.take m0:=by
 have hnl:=(List.getElem?_eq_some_iff.mp hn).1
 have hml:=(List.getElem?_eq_some_iff.mp hm).1
 obtain ⟨a,ha,la⟩:=Zbv (c / 10) 8 (lN [] 0 531425 rfl)
 obtain ⟨b,hb,lb⟩:=Zbv (c / 10 / 8) 8 (lN [] 0 531425 rfl)
 obtain ⟨d,hd,ld⟩:=Zbv (c / 10 / 64) 8 (lN [] 0 531425 rfl)
 obtain ⟨j,hj,lj⟩:=Zbv c 10 (lN [] 0 662497 rfl)
 have b1:=Int.emod_nonneg (c / 10 / 512) (b:=(cs.length:Int) - k) (fun z=>iN [_,_] [] 2 0x60111e1808fa1 T1 z hk)
 have b2:=Int.emod_lt_of_pos (c / 10 / 512) (b:=(cs.length:Int) - k) (iN [_,_] [] 1 556465197073 T1 hk)
 have b3:=Int.emod_nonneg (c / 10 / 512) (b:=(cs.length:Int) + 1) (fun z=>iN [_] [] 1 1856015521 T1 z)
 have b4:=Int.emod_lt_of_pos (c / 10 / 512) (b:=(cs.length:Int) + 1) (iN [_] [] 0 10521833 T1)
 obtain ⟨q,hq,lq⟩:∃ q:Nat,(if c / 10 / 5 % 4 = 1 then c / 10 / 512 % ((cs.length:Int) + 1) else (k:Int) + 1 + c / 10 / 512 % ((cs.length:Int) - k)) = (q:Int) ∧ q < cs.length + 1:=by
  split
  ·exact ⟨(c / 10 / 512 % ((cs.length:Int) + 1)).toNat,Int.le_antisymm ((Int.self_le_toNat _)) (Int.le_of_eq (Int.toNat_of_nonneg b3)),iN [_,_] [_] 2 0xa0c11018a1a08c091 T1 b4 (Int.toNat_of_nonneg b3)⟩
  ·exact ⟨((k:Int) + 1 + c / 10 / 512 % ((cs.length:Int) - k)).toNat,Int.le_antisymm ((Int.self_le_toNat _)) (Int.le_of_eq (Int.toNat_of_nonneg (iN [_] [_] 1 0xa08cce80e81 T1 b1))),iN [_,_,_] [_] 2 0xa0c210a18cc28a11808f091 T1 b2 (Int.toNat_of_nonneg (iN [_] [_] 1 0xa08cce80e81 T1 b1))⟩
 obtain ⟨G,h1⟩:=Zrt n m0 k c cs.length cs M hn rfl (Int.ofNat_lt.2 hk) (Int.natCast_nonneg _) x4 x5 x6 x7 x8 x9 x10 j hj lj
 rw [hq] at h1
 have ha':c / 10 % 8 = (a:Int):=ha
 have hb':c / 10 / 8 % 8 = (b:Int):=hb
 have hd':c / 10 / 64 % 8 = (d:Int):=hd
 rw [ha',hb',hd'] at h1
 obtain ⟨r,G2,ok,h2⟩:=Zmi n m0 (cs.length + 1) k c (c / 10) a b d q j rows (M ++ [G]) x10 (Zal hm _) hr la lb ld lq lj
 refine ⟨r,_,_,_,_,_,_,_,ok,h1.trans h2,?_,?_,?_⟩
 ·rw [List.getElem?_set_ne (Ne.symm hne)]; exact Zal (Zal hn _) G2
 ·rw [List.getElem?_set_self (by simp; exact lC 1 0xa2c1c011011 T1 hml)]; simp
 ·rw [List.take_set_of_le (Nat.le_refl _),List.append_assoc,List.take_append_of_le_length (Nat.le_of_lt hml)]
theorem ZgI (cs:List Int) (n m0:Nat) (hne:n ≠ m0) (hl:cs.length ≤ 63) (x10:Option D):∀ (ds:List Int) (k:Nat) (rows:List Row) (M:Store) (x2 x3 x4 x5 x6 x7 x8 x9:Option D),k + ds.length = cs.length → rows.length = k → (∀ r ∈ rows,r.ok (cs.length + 1)) → M[n]? = some (.lst (cs.map D.int)) → M[m0]? = some (.lst (rows.map Zw)) →
  ∃ (rows':List Row) (M':Store) (y2 y3 y4 y5 y6 y7 y8 y9:Option D),rows'.length = cs.length ∧ (∀ r ∈ rows',r.ok (cs.length + 1)) ∧ Ze6 [(n,cs.map D.int)] (Zep [2,3]) Zop (Zd0 k (ds.map D.int)) [some (.ref n),some (.ref m0),x2,x3,x4,x5,x6,x7,x8,x9,x10] M = .nx [some (.ref n),some (.ref m0),y2,y3,y4,y5,y6,y7,y8,y9,x10] M' ∧ M'[n]? = some (.lst (cs.map D.int)) ∧ M'[m0]? = some (.lst (rows'.map Zw)) ∧ M'.take m0 = M.take m0
 | [],k,rows,M,x2,x3,x4,x5,x6,x7,x8,x9,hk,hr,ho,hn,hm=>by
  simp only [List.length_nil] at hk
  refine ⟨rows,M,x2,x3,x4,x5,x6,x7,x8,x9,Nat.le_antisymm (lC 2 563147993845793 T1 hr hk) (lC 2 35382413561905 T1 hr hk),ho,?_,hn,hm,rfl⟩
  simp [Zd0,Ze6,Zdh,hn]
 | c :: ds,k,rows,M,x2,x3,x4,x5,x6,x7,x8,x9,hk,hr,ho,hn,hm=>by
  simp only [List.length_cons] at hk
  obtain ⟨r,M1,y4,y5,y6,y7,y8,y9,ok,h1,hn1,hm1,ht⟩:=ZlM (cs.map D.int) n k m0 c rows M x4 x5 x6 x7 x8 x9 x10 hn hm hne (by simp; exact lC 1 2204024704033 T1 hk) (lD 3 0x3f2b003f2b3013a2c1c211021 T1 hr hk hl)
  rw [List.length_map] at ok
  obtain ⟨rows',M',z2,z3,z4,z5,z6,z7,z8,z9,l',o',h2,hn2,hm2,ht2⟩:=ZgI cs n m0 hne hl x10 ds (k + 1) (rows ++ [r]) M1 (some (.int (k:Int))) (some (.int c)) y4 y5 y6 y7 y8 y9 (Nat.le_antisymm (lC 1 0x21a0cc02a1c0c21 T1 hk) (lC 1 0x1a0cc202a1c0c31 T1 hk)) (by simp [hr]) (fun q hq=>by
   rcases List.mem_append.mp hq with h | h
   ·exact ho q h
   ·rw [List.mem_singleton.mp h]; exact ok) hn1 hm1
  refine ⟨rows',M',z2,z3,z4,z5,z6,z7,z8,z9,l',o',?_,hn2,hm2,ht2.trans ht⟩
  have lk:Zdh [(n,cs.map D.int)] M = true:=by simp [Zdh,hn]
  simp only [List.map_cons,Zd0,Ze6,lk,if_true,Zep,bindAll,List.set_cons_succ,List.set_cons_zero]
  rw [h1]
  exact h2
theorem getD_last (q:List Int) (l:Int):Za0 ((q ++ [l]).map D.int) (-1) = some (.int l):=by
 have h:ixD ((q ++ [l]).map D.int).length (-1) = some q.length:=by
  simp [ixD] <;> exact ⟨iN [_] [] 0 10521768 T1,Nat.le_antisymm (iN [_,_] [] 1 4514701222086817 T1 (Int.toNat_of_nonneg (iN [_] [] 0 43097169128 T1))) (iN [_,_] [] 1 4505291991981185 T1 (Int.self_le_toNat _))⟩
 rw [Za0,h]
 simp
noncomputable def ZoH:S3:=(Zx (Zaj 10 (Za4 (Zb (eC (.str [104,97,108,116])) (Zi)))) (Zx (sIf (Zcm (e2 ZcS (ZaL Za7 (Zb (Za 0) (Zi))) (eC (.int 0))) (e2 Zaz (e2 Zae (e2 Zk (Za 0) (e1 Zgi (eC (.int 1)))) (eC (.int 4))) (eC (.int 1)))) (Zaj 10 (Za4 (Zb (eC (.str [106,117,109,112])) (Zb (e2 Zae (e2 Zad (e2 Zk (Za 0) (e1 Zgi (eC (.int 1)))) (eC (.int 4))) (e2 Zz (ZaL Za7 (Zb (Za 0) (Zi))) (eC (.int 1)))) (Zi))))) (Zam)) (Zax (ZaL Zcd (Zb (e2 Zz (Za 1) (Zcg (Zb (Za 10) (Zi)))) (Zi))))))
theorem Zl5 (cs:List Int) (n m0:Nat) (rows:List Row) (M:Store) (hn:M[n]? = some (.lst (cs.map D.int))) (hm:M[m0]? = some (.lst (rows.map Zw))) (hl:cs.length ≤ 63) (hr:rows.length = cs.length) (x2 x3 x4 x5 x6 x7 x8 x9:Option D):
  ∃ (r:Row) (G:Store),r.ok (cs.length + 1) ∧ (r = .halt ∨ ∃ k,r = .jump k) ∧ ZoH [some (.ref n),some (.ref m0),x2,x3,x4,x5,x6,x7,x8,x9,none] M = .rt (Zy (rows ++ [r])) (M ++ G):=by
 have fin:∀ r:Row,(Zax (ZaL Zcd (Zb (e2 Zz (Za 1) (Zcg (Zb (Za 10) (Zi)))) (Zi)))) [some (.ref n),some (.ref m0),x2,x3,x4,x5,x6,x7,x8,x9,some (Zw r)] M = .rt (Zy (rows ++ [r])) (M ++ [.lst [Zw r],.lst ((rows ++ [r]).map Zw)]):=fun r=>by
  have g1:(M ++ [MO.lst [Zw r]])[m0]? = some (.lst (rows.map Zw)):=Zal hm _
  have lz:rows.length + 1 ≤ 1000000:=lB 2 0xf42405ba0c03f2b1011021 T1 hr hl
  refine ZaH ?_
  simp [g1,Zy,lz]
 unfold ZoH
 rw [Zf (Zq (M':=M) (d:=Zw .halt) (by simp [Zw]))]
 rcases List.eq_nil_or_concat cs with e | ⟨q,l,e⟩
 ·subst e
  refine ⟨.halt,[.lst [Zw .halt],.lst ((rows ++ [Row.halt]).map Zw)],trivial,.inl rfl,?_⟩
  rw [Zf (Zj (M':=M) (by simp [hn]))]
  exact fin .halt
 ·rw [List.concat_eq_append] at e
  have e1:Za0 (cs.map D.int) (-1) = some (.int l):=by rw [e]; exact getD_last q l
  have p0:0 < cs.length:=by rw [e]; simp
  by_cases z:l % 4 = 1
  ·obtain ⟨k,hk,lk⟩:=Zbv (l / 4) (cs.length + 1) (lA 0 658657 T1)
   have hk':l / 4 % ((cs.length:Int) + 1) = k:=hk
   refine ⟨.jump k,[.lst [Zw (.jump k)],.lst ((rows ++ [Row.jump k]).map Zw)],lk,.inr ⟨k,rfl⟩,?_⟩
   rw [Zf (env':=[some (.ref n),some (.ref m0),x2,x3,x4,x5,x6,x7,x8,x9,some (Zw (.jump k))]) (M':=M) (by rw [ZaM (M':=M) (by simp [hn,e1,p0,z])]; exact Zq (d:=Zw (.jump k)) (by simp [hn,e1,hk',Zw]))]
   exact fin (.jump k)
  ·refine ⟨.halt,[.lst [Zw .halt],.lst ((rows ++ [Row.halt]).map Zw)],trivial,.inl rfl,?_⟩
   rw [Zf (Zj (M':=M) (by simp [hn,e1,p0,z]))]
   exact fin .halt
theorem ZmB (cs:List Int) (n:Nat) (M:Store) (hn:M[n]? = some (.lst (cs.map D.int))) (hl:cs.length ≤ 63):
  ∃ roll:ZcV,roll.length = cs.length + 1 ∧ Zj2 roll ∧ ZdT [.ref n] M = .ok (Zy roll) M:=by
 have hnl:=(List.getElem?_eq_some_iff.mp hn).1
 obtain ⟨rows,M',y2,y3,y4,y5,y6,y7,y8,y9,lr,ok,h,hn',hm',ht⟩:=ZgI cs n M.length (fun z=>lB 2 26039357489 T1 z hnl) hl none cs 0 [] (M ++ [.lst []]) none none none none none none none none (Nat.le_antisymm (lA 0 3776 T1) (Nat.le_add_left _ _)) rfl (by simp) (Zal hn _) (by simp)
 obtain ⟨r,G,rok,rl,h2⟩:=Zl5 cs n M.length rows M' hn' hm' hl lr y2 y3 y4 y5 y6 y7 y8 y9
 have hM':M' = M ++ M'.drop M.length:=by
  have e:=List.take_append_drop M.length M'
  rw [ht] at e
  rw [← e]; simp
 have hb:ZeI [some (.ref n),none,none,none,none,none,none,none,none,none,none] M = .rt (Zy (rows ++ [r])) (M ++ (M'.drop M.length ++ G)):=by
  rw [← List.append_assoc,← hM',← h2]
  refine (Zf (Zq (M':=M ++ [.lst []]) (d:=.ref M.length) (by simp))).trans ?_
  refine Zf ?_
  rw [ZkL]
  have hi:Zl0 (Za 0) [some (.ref n),some (.ref M.length),none,none,none,none,none,none,none,none,none] (M ++ [.lst []]) = .ok ⟨Zd0 0 (cs.map D.int),[(n,cs.map D.int)]⟩ (M ++ [.lst []]):=by
   have:=Zal hn [MO.lst []]
   simp [this]
  rw [hi]
  exact h
 refine ⟨rows ++ [r],by simp [lr],⟨fun x hx=>?_,rows,r,rfl,rl⟩,Rt.pure hb (ZjX _ _)⟩
 rw [List.length_append,List.length_singleton,lr]
 rcases List.mem_append.mp hx with hx | hx
 ·exact ok x hx
 ·rw [List.mem_singleton.mp hx]; exact rok
theorem ZeJ {fb fi fv:E3} {env:Zat} {M:Store} {bs:List Int} {a:Nat} {v:Int} (hb:fb env M = .ok (Zt bs) M) (hi:fi env M = .ok (.int a) M) (hv:fv env M = .ok (.int v) M) (ha:a < bs.length) (hl:bs.length ≤ 1000):
  (e2 Zz (e2 Zz (eSl fb (Zb7) (Zb8 fi)) (Za4 (Zb fv (Zi)))) (eSl fb (Zb8 (e2 Zz fi (eC (.int 1)))) (Zb7))) env M = .ok (Zt (bs.set a v)) M:=by
 have c1:cutD (bs.map D.int) none (some (a:Int)) = (bs.take a).map D.int:=by rw [Zif,List.map_take]
 have c2:cutD (bs.map D.int) (some ((a:Int) + 1)) none = (bs.drop (a + 1)).map D.int:=by
  rw [show ((a:Int) + 1) = ((a + 1:Nat):Int) by exact rfl,ZjM,List.map_drop]
 have s1:eSl fb (Zb7) (Zb8 fi) env M = .ok (.tup ((bs.take a).map D.int)) M:=by
  simp only [eSl,Zb7,Zb8,hb,hi,R3.bind,ZhC,Zt,c1]
 have s2:eSl fb (Zb8 (e2 Zz fi (eC (.int 1)))) (Zb7) env M = .ok (.tup ((bs.drop (a + 1)).map D.int)) M:=by
  simp only [eSl,e2,eC,Zz,Zb7,Zb8,hb,hi,R3.bind,ZhC,Zt,c2]
 have s3:Za4 (Zb fv (Zi)) env M = .ok (.tup [.int v]) M:=by simp [hv]
 have a1:Zz (.tup ((bs.take a).map D.int)) (.tup [.int v]) M = .ok (.tup ((bs.take a).map D.int ++ [.int v])) M:=by
  simp only [Zz]; rw [if_pos (by simp; exact lB 2 0xf423f5b1001013e83b001 T1 hl (Nat.min_le_right _ _))]
 refine (Zn (Zn s1 s3 a1) s2 ?_)
 simp only [Zz]
 rw [if_pos (by simp; exact lD 3 0xf42405b3a1cc00a2c3c2121013e83b001 T1 hl (Nat.min_le_left _ _) (Nat.sub_add_cancel (lB 1 6991908881 T1 ha))),Zt,List.set_eq_take_append_cons_drop,if_pos ha]
 simp
noncomputable def Zbm (r:Row) (bs:List Int) (held:Int):List Int:=match r with
 | .get a _=>bs.set a held
 | r=>r.boxes bs []
theorem ZlW (r:Row) (p:Nat) (bs:List Int) (held:Int) (many:Nat) (hr:r.ok many) (hb:bs.length = 8) (M:Store):Zbi [Zw r,.int p,Zt bs,.int held] M = .ok (.tup [.int (r.place bs p:Nat),Zt (Zbm r bs held)]) M:=by
 have fin:∀ G,ZaD [some (Zw r),some (.int p),some (Zt bs),some (.int held),none] M = .rt (.tup [.int (r.place bs p:Nat),Zt (Zbm r bs held)]) (M ++ G) → Zbi [Zw r,.int p,Zt bs,.int held] M = .ok (.tup [.int (r.place bs p:Nat),Zt (Zbm r bs held)]) M:=fun G h=>Rt.pure h (by simp [below,belowL,Zef])
 have g0:Za0 [D.int 0,D.int 1] 0 = some (.int 0):=rfl
 have g1:Za0 [D.int 0,D.int 1] 1 = some (.int 1):=rfl
 cases r with
 | put a n=>
  refine fin [] ?_
  rw [List.append_nil]
  unfold ZaD
  refine Eq.trans (Zf (Zq (M':=M) (d:=.int ((p + 1:Nat):Int)) (by exact rfl))) ?_
  refine Eq.trans (Zf (Zq (M':=M) (d:=.non) (by exact rfl))) ?_
  refine Eq.trans (Zf (env':=[some (Zw (.put a n)),some (.int ((p + 1:Nat):Int)),some (Zt bs),some (.int held),some (.int (n))]) (M':=M) (by rw [ZaM (M':=M) (by exact rfl)]; exact Zq (d:=.int (n)) (by exact rfl))) ?_
  refine Eq.trans (Zf (Zj (M':=M) (by exact rfl))) ?_
  refine Eq.trans (Zf (Zj (M':=M) (by exact rfl))) ?_
  refine Eq.trans (Zf (Zj (M':=M) (by exact rfl))) ?_
  refine Eq.trans (Zf (Zj (M':=M) (by exact rfl))) ?_
  refine Eq.trans (Zf (Zj (M':=M) (by exact rfl))) ?_
  refine Eq.trans (Zf (env':=[some (Zw (.put a n)),some (.int ((p + 1:Nat):Int)),some (Zt (bs.set a n)),some (.int held),some (.int (n))]) (M':=M) (by rw [ZaM (M':=M) (by exact rfl)]; exact Zq (ZeJ (a:=a) (v:=n) rfl (by exact rfl) rfl (by rw [hb]; exact hr) (lA 1 0x3e83b0081b021 T1 hb)))) ?_
  simp only [Zbm,Row.place,Row.boxes]
  simp [Zax]
 | add a b c=>
  obtain ⟨x,hx,gx⟩:=Zbu hb hr.2.1
  obtain ⟨y,hy,gy⟩:=Zbu hb hr.2.2
  refine fin [] ?_
  rw [List.append_nil]
  unfold ZaD
  refine Eq.trans (Zf (Zq (M':=M) (d:=.int ((p + 1:Nat):Int)) (by exact rfl))) ?_
  refine Eq.trans (Zf (Zq (M':=M) (d:=.non) (by exact rfl))) ?_
  refine Eq.trans (Zf (Zj (M':=M) (by exact rfl))) ?_
  refine Eq.trans (Zf (env':=[some (Zw (.add a b c)),some (.int ((p + 1:Nat):Int)),some (Zt bs),some (.int held),some (.int (x + y))]) (M':=M) (by rw [ZaM (M':=M) (by exact rfl)]; exact Zq (d:=.int (x + y)) (by simp [Zw,Zt,gx,gy,-Zdl]))) ?_
  refine Eq.trans (Zf (Zj (M':=M) (by exact rfl))) ?_
  refine Eq.trans (Zf (Zj (M':=M) (by exact rfl))) ?_
  refine Eq.trans (Zf (Zj (M':=M) (by exact rfl))) ?_
  refine Eq.trans (Zf (Zj (M':=M) (by exact rfl))) ?_
  refine Eq.trans (Zf (env':=[some (Zw (.add a b c)),some (.int ((p + 1:Nat):Int)),some (Zt (bs.set a (x + y))),some (.int held),some (.int (x + y))]) (M':=M) (by rw [ZaM (M':=M) (by exact rfl)]; exact Zq (ZeJ (a:=a) (v:=x + y) rfl (by exact rfl) rfl (by rw [hb]; exact hr.1) (lA 1 0x3e83b0081b021 T1 hb)))) ?_
  simp only [Zbm,Row.place,Row.boxes,hx,hy]
  simp [Zax]
 | sub a b c=>
  obtain ⟨x,hx,gx⟩:=Zbu hb hr.2.1
  obtain ⟨y,hy,gy⟩:=Zbu hb hr.2.2
  refine fin [] ?_
  rw [List.append_nil]
  unfold ZaD
  refine Eq.trans (Zf (Zq (M':=M) (d:=.int ((p + 1:Nat):Int)) (by exact rfl))) ?_
  refine Eq.trans (Zf (Zq (M':=M) (d:=.non) (by exact rfl))) ?_
  refine Eq.trans (Zf (Zj (M':=M) (by exact rfl))) ?_
  refine Eq.trans (Zf (Zj (M':=M) (by exact rfl))) ?_
  refine Eq.trans (Zf (env':=[some (Zw (.sub a b c)),some (.int ((p + 1:Nat):Int)),some (Zt bs),some (.int held),some (.int (x - y))]) (M':=M) (by rw [ZaM (M':=M) (by exact rfl)]; exact Zq (d:=.int (x - y)) (by simp [Zw,Zt,gx,gy,-Zdl]))) ?_
  refine Eq.trans (Zf (Zj (M':=M) (by exact rfl))) ?_
  refine Eq.trans (Zf (Zj (M':=M) (by exact rfl))) ?_
  refine Eq.trans (Zf (Zj (M':=M) (by exact rfl))) ?_
  refine Eq.trans (Zf (env':=[some (Zw (.sub a b c)),some (.int ((p + 1:Nat):Int)),some (Zt (bs.set a (x - y))),some (.int held),some (.int (x - y))]) (M':=M) (by rw [ZaM (M':=M) (by exact rfl)]; exact Zq (ZeJ (a:=a) (v:=x - y) rfl (by exact rfl) rfl (by rw [hb]; exact hr.1) (lA 1 0x3e83b0081b021 T1 hb)))) ?_
  simp only [Zbm,Row.place,Row.boxes,hx,hy]
  simp [Zax]
 | more a b c=>
  obtain ⟨x,hx,gx⟩:=Zbu hb hr.2.1
  obtain ⟨y,hy,gy⟩:=Zbu hb hr.2.2
  refine fin [.lst [.int 0,.int 1]] ?_
  unfold ZaD
  refine Eq.trans (Zf (Zq (M':=M) (d:=.int ((p + 1:Nat):Int)) (by exact rfl))) ?_
  refine Eq.trans (Zf (Zq (M':=M) (d:=.non) (by exact rfl))) ?_
  refine Eq.trans (Zf (Zj (M':=M) (by exact rfl))) ?_
  refine Eq.trans (Zf (Zj (M':=M) (by exact rfl))) ?_
  refine Eq.trans (Zf (Zj (M':=M) (by exact rfl))) ?_
  refine Eq.trans (Zf (env':=[some (Zw (.more a b c)),some (.int ((p + 1:Nat):Int)),some (Zt bs),some (.int held),some (.int (if y < x then 1 else 0))]) (M':=M ++ [.lst [.int 0,.int 1]]) (by rw [ZaM (M':=M) (by exact rfl)]; exact Zq (d:=.int (if y < x then 1 else 0)) (by by_cases q:y < x <;> simp [Zw,Zt,gx,gy,q,g0,g1,-Zdl]))) ?_
  refine Eq.trans (Zf (Zj (M':=M ++ [.lst [.int 0,.int 1]]) (by exact rfl))) ?_
  refine Eq.trans (Zf (Zj (M':=M ++ [.lst [.int 0,.int 1]]) (by exact rfl))) ?_
  refine Eq.trans (Zf (env':=[some (Zw (.more a b c)),some (.int ((p + 1:Nat):Int)),some (Zt (bs.set a (if y < x then 1 else 0))),some (.int held),some (.int (if y < x then 1 else 0))]) (M':=M ++ [.lst [.int 0,.int 1]]) (by rw [ZaM (M':=M ++ [.lst [.int 0,.int 1]]) (by exact rfl)]; exact Zq (ZeJ (a:=a) (v:=if y < x then 1 else 0) rfl (by exact rfl) rfl (by rw [hb]; exact hr.1) (lA 1 0x3e83b0081b021 T1 hb)))) ?_
  simp only [Zbm,Row.place,Row.boxes,hx,hy]
  simp [Zax]
 | get a b=>
  refine fin [] ?_
  rw [List.append_nil]
  unfold ZaD
  refine Eq.trans (Zf (Zq (M':=M) (d:=.int ((p + 1:Nat):Int)) (by exact rfl))) ?_
  refine Eq.trans (Zf (Zq (M':=M) (d:=.non) (by exact rfl))) ?_
  refine Eq.trans (Zf (Zj (M':=M) (by exact rfl))) ?_
  refine Eq.trans (Zf (Zj (M':=M) (by exact rfl))) ?_
  refine Eq.trans (Zf (Zj (M':=M) (by exact rfl))) ?_
  refine Eq.trans (Zf (Zj (M':=M) (by exact rfl))) ?_
  refine Eq.trans (Zf (env':=[some (Zw (.get a b)),some (.int ((p + 1:Nat):Int)),some (Zt bs),some (.int held),some (.int (held))]) (M':=M) (by rw [ZaM (M':=M) (by exact rfl)]; exact Zq (d:=.int (held)) (by exact rfl))) ?_
  refine Eq.trans (Zf (Zj (M':=M) (by exact rfl))) ?_
  refine Eq.trans (Zf (env':=[some (Zw (.get a b)),some (.int ((p + 1:Nat):Int)),some (Zt (bs.set a held)),some (.int held),some (.int (held))]) (M':=M) (by rw [ZaM (M':=M) (by exact rfl)]; exact Zq (ZeJ (a:=a) (v:=held) rfl (by exact rfl) rfl (by rw [hb]; exact hr.1) (lA 1 0x3e83b0081b021 T1 hb)))) ?_
  simp only [Zbm,Row.place,Row.boxes]
  simp [Zax]
 | set a b=>
  refine fin [] ?_
  rw [List.append_nil]
  unfold ZaD
  refine Eq.trans (Zf (Zq (M':=M) (d:=.int ((p + 1:Nat):Int)) (by exact rfl))) ?_
  refine Eq.trans (Zf (Zq (M':=M) (d:=.non) (by exact rfl))) ?_
  refine Eq.trans (Zf (Zj (M':=M) (by exact rfl))) ?_
  refine Eq.trans (Zf (Zj (M':=M) (by exact rfl))) ?_
  refine Eq.trans (Zf (Zj (M':=M) (by exact rfl))) ?_
  refine Eq.trans (Zf (Zj (M':=M) (by exact rfl))) ?_
  refine Eq.trans (Zf (Zj (M':=M) (by exact rfl))) ?_
  refine Eq.trans (Zf (Zj (M':=M) (by exact rfl))) ?_
  refine Eq.trans (Zf (Zj (M':=M) (by exact rfl))) ?_
  simp only [Zbm,Row.place,Row.boxes]
  simp [Zax]
 | when a k=>
  refine fin [] ?_
  rw [List.append_nil]
  unfold ZaD
  refine Eq.trans (Zf (Zq (M':=M) (d:=.int ((p + 1:Nat):Int)) (by exact rfl))) ?_
  refine Eq.trans (Zf (Zq (M':=M) (d:=.non) (by exact rfl))) ?_
  refine Eq.trans (Zf (Zj (M':=M) (by exact rfl))) ?_
  refine Eq.trans (Zf (Zj (M':=M) (by exact rfl))) ?_
  refine Eq.trans (Zf (Zj (M':=M) (by exact rfl))) ?_
  refine Eq.trans (Zf (Zj (M':=M) (by exact rfl))) ?_
  refine Eq.trans (Zf (Zj (M':=M) (by exact rfl))) ?_
  obtain ⟨x,hx,gx⟩:=Zbu hb hr.1
  by_cases q:0 < x
  ·refine Eq.trans (Zf (env':=[some (Zw (.when a k)),some (.int (k:Int)),some (Zt bs),some (.int held),some .non]) (M':=M) (by rw [ZaM (M':=M) (by simp [Zw,Zt,gx,q,-Zdl])]; exact Zq (d:=.int (k:Int)) (by exact rfl))) ?_
   refine Eq.trans (Zf (Zj (M':=M) (by exact rfl))) ?_
   simp only [Zbm,Row.place,Row.boxes,hx,q,if_true,if_false]
   simp [Zax]
  ·refine Eq.trans (Zf (Zj (M':=M) (by simp [Zw,Zt,gx,q,-Zdl]))) ?_
   refine Eq.trans (Zf (Zj (M':=M) (by exact rfl))) ?_
   simp only [Zbm,Row.place,Row.boxes,hx,q,if_true,if_false]
   simp [Zax]
 | jump k=>
  refine fin [] ?_
  rw [List.append_nil]
  unfold ZaD
  refine Eq.trans (Zf (Zq (M':=M) (d:=.int ((p + 1:Nat):Int)) (by exact rfl))) ?_
  refine Eq.trans (Zf (Zq (M':=M) (d:=.non) (by exact rfl))) ?_
  refine Eq.trans (Zf (Zj (M':=M) (by exact rfl))) ?_
  refine Eq.trans (Zf (Zj (M':=M) (by exact rfl))) ?_
  refine Eq.trans (Zf (Zj (M':=M) (by exact rfl))) ?_
  refine Eq.trans (Zf (Zj (M':=M) (by exact rfl))) ?_
  refine Eq.trans (Zf (Zj (M':=M) (by exact rfl))) ?_
  refine Eq.trans (Zf (env':=[some (Zw (.jump k)),some (.int (k:Int)),some (Zt bs),some (.int held),some .non]) (M':=M) (by rw [ZaM (M':=M) (by exact rfl)]; exact Zq (d:=.int (k:Int)) (by exact rfl))) ?_
  refine Eq.trans (Zf (Zj (M':=M) (by exact rfl))) ?_
  simp only [Zbm,Row.place,Row.boxes]
  simp [Zax]
 | tell a=>
  refine fin [] ?_
  rw [List.append_nil]
  unfold ZaD
  refine Eq.trans (Zf (Zq (M':=M) (d:=.int ((p + 1:Nat):Int)) (by exact rfl))) ?_
  refine Eq.trans (Zf (Zq (M':=M) (d:=.non) (by exact rfl))) ?_
  refine Eq.trans (Zf (Zj (M':=M) (by exact rfl))) ?_
  refine Eq.trans (Zf (Zj (M':=M) (by exact rfl))) ?_
  refine Eq.trans (Zf (Zj (M':=M) (by exact rfl))) ?_
  refine Eq.trans (Zf (Zj (M':=M) (by exact rfl))) ?_
  refine Eq.trans (Zf (Zj (M':=M) (by exact rfl))) ?_
  refine Eq.trans (Zf (Zj (M':=M) (by exact rfl))) ?_
  refine Eq.trans (Zf (Zj (M':=M) (by exact rfl))) ?_
  simp only [Zbm,Row.place,Row.boxes]
  simp [Zax]
 | halt=>
  refine fin [] ?_
  rw [List.append_nil]
  unfold ZaD
  refine Eq.trans (Zf (Zq (M':=M) (d:=.int ((p + 1:Nat):Int)) (by exact rfl))) ?_
  refine Eq.trans (Zf (Zq (M':=M) (d:=.non) (by exact rfl))) ?_
  refine Eq.trans (Zf (Zj (M':=M) (by exact rfl))) ?_
  refine Eq.trans (Zf (Zj (M':=M) (by exact rfl))) ?_
  refine Eq.trans (Zf (Zj (M':=M) (by exact rfl))) ?_
  refine Eq.trans (Zf (Zj (M':=M) (by exact rfl))) ?_
  refine Eq.trans (Zf (Zj (M':=M) (by exact rfl))) ?_
  refine Eq.trans (Zf (Zj (M':=M) (by exact rfl))) ?_
  refine Eq.trans (Zf (Zj (M':=M) (by exact rfl))) ?_
  simp only [Zbm,Row.place,Row.boxes]
  simp [Zax]
theorem ZnY (cs:List Int) (c d:Nat) (at_:Nat) (M:Store) (hd:M[d]? = some (.lst [.ref c,.int (at_:Int)])) (hc:M[c]? = some (.lst (cs.map D.int))) (ha:at_ < 1000000) (hne:c ≠ d):
  ∃ v:Int,Zar [.ref d] M = .ok (.int v) (M.set d (.lst [.ref c,.int ((at_ + 1:Nat):Int)])):=by
 have hdl:=(List.getElem?_eq_some_iff.mp hd).1
 have hc2:(M.set d (.lst [.ref c,.int ((at_:Int) + 1)]))[c]? = some (.lst (cs.map D.int)):=by rw [List.getElem?_set_ne (Ne.symm hne)]; exact hc
 have fin:∀ v:Int,Zcp [some (.ref d),none,none] M = .rt (.int v) (M.set d (.lst [.ref c,.int ((at_:Int) + 1)])) → ∃ v:Int,Zar [.ref d] M = .ok (.int v) (M.set d (.lst [.ref c,.int ((at_ + 1:Nat):Int)])):=fun v h=>by
  refine ⟨v,(ZcW h).trans ?_⟩
  unfold ZcB
  rw [List.take_of_length_le (by simp)]
  split <;> first | exact rfl | simp
 have m1:ZbP (at_:Int) (at_:Int) = true:=Zrn (by omega)
 have m2:ZbP ((at_:Int) * at_) 3 = true:=mul_r (by omega)
 by_cases h1:at_ < cs.length
 ·exact fin cs[at_] (by simp [Zcp,Zx,Zaj,Zax,sIf,Zam,ZaP,ZbR,hd,hc2,h1])
 ·by_cases h2:cs.length = 0
  ·have n0:¬ ((at_:Int) < 0):=(fun z=>iN [_] [] 1 7211153 T1 z)
   exact fin ((at_:Int) * at_ * 3 + at_) (by simp [Zcp,Zx,Zaj,Zax,sIf,Zam,ZaP,ZbR,hd,hc2,h2,m1,m2,n0])
  ·obtain ⟨a,ha',la⟩:=Zbv (at_:Int) cs.length ((Nat.lt_of_le_of_ne (Nat.zero_le _) (Ne.symm h2)))
   have p0:0 < cs.length:=lB 1 31526929 T1 la
   exact fin (cs[a] / 2 + (at_:Int) * at_) (by simp [Zcp,Zx,Zaj,Zax,sIf,Zam,ZaP,ZbR,hd,hc2,h1,h2,m1,p0,ha',la])
structure ZcG (cs:List Int) (c d:Nat) (at_:Nat) (M:Store):Prop where
 hd:M[d]? = some (.lst [.ref c,.int (at_:Int)])
 hc:M[c]? = some (.lst (cs.map D.int))
 ne:c ≠ d
theorem ZcG.next {cs:List Int} {c d at_:Nat} {M:Store} (K:ZcG cs c d at_ M) (ha:at_ < 1000000):∃ (v:Int) (M':Store),Zar [.ref d] M = .ok (.int v) M' ∧ ZcG cs c d (at_ + 1) M' ∧ M'.length = M.length ∧ ∀ j,j ≠ d → M'[j]? = M[j]?:=by
 obtain ⟨v,h⟩:=ZnY cs c d at_ M K.hd K.hc ha K.ne
 have hdl:=(List.getElem?_eq_some_iff.mp K.hd).1
 exact ⟨v,_,h,⟨List.getElem?_set_self hdl,by rw [List.getElem?_set_ne (Ne.symm K.ne)]; exact K.hc,K.ne⟩,by simp,fun j hj=>List.getElem?_set_ne (Ne.symm hj)⟩
theorem Zlh (n:Int):∀ cs:List (Int × Int),(cs.filter (fun c=>decide (c.1 < n)) ++ cs.filter fun c=>decide (n < c.1)).Perm (cs.filter fun c=>decide (c.1 ≠ n))
 | []=>List.Perm.refl _
 | c :: cs=>by
  have ih:=Zlh n cs
  rcases Int.lt_trichotomy c.1 n with h | h | h
  ·rw [List.filter_cons_of_pos (by simpa using h),List.filter_cons_of_neg (by simp; exact Int.le_of_lt h),List.filter_cons_of_pos (by simp; exact fun z=>iN [] [_,_] 2 26047746225 T1 z h),List.cons_append]
   exact ih.cons c
  ·rw [List.filter_cons_of_neg (by simp; exact Int.le_of_eq h.symm),List.filter_cons_of_neg (by simp; exact Int.le_of_eq h),List.filter_cons_of_neg (by simpa using h)]
   exact ih
  ·rw [List.filter_cons_of_neg (by simp; exact Int.le_of_lt h),List.filter_cons_of_pos (by simpa using h),List.filter_cons_of_pos (by simp; exact fun z=>iN [] [_,_] 2 25796087969 T1 z h)]
   exact List.perm_middle.trans (ih.cons c)
theorem Zmm (cs:List (Int × Int)) (n v:Int):(Za1 cs n v).Perm (cs.filter (fun c=>decide (c.1 ≠ n)) ++ if v ≠ 0 then [(n,v)] else []):=by
 unfold Za1
 rw [List.append_assoc]
 refine (List.Perm.append_left _ List.perm_append_comm).trans ?_
 rw [← List.append_assoc]
 exact (Zlh n cs).append_right _
theorem ZoS (cs:List (Int × Int)) (h:ZeW cs) (n v:Int) (M:Store) (hl:cs.length ≤ 60):Za8 [Zv cs,.int n,.int v] M = .ok (Zv (Za1 cs n v)) M:=by
 have b1:=ZeM (α:=Int × Int) (enc:=Zaa) (h:=Zaa) (p:=fun c=>decide (c.1 ≠ n)) (own:=1) (i:=4) (it:=ZfW (Za 0)) (c:=e2 Zed (e2 Zk (Za 4) (eC (.int 0))) (Za 1)) (elt:=Za 4) (env:=[some (Zv cs),some (.int n),some (.int v),none]) (M:=M) (M1:=M) (lock:=none) (as:=cs)
  (by exact rfl) (fun _ h=>by cases h) (fun a _ M=>by simp [Zaa]) (fun a _ _ M=>by exact rfl) (lA 1 0x186a05b003c2b001 T1 hl)
 have f1:=List.length_filter_le (fun c:Int × Int=>decide (c.1 ≠ n)) cs
 have g0:(M ++ [MO.lst ((cs.filter fun c=>decide (c.1 ≠ n)).map Zaa)])[M.length]? = some (.lst ((cs.filter fun c=>decide (c.1 ≠ n)).map Zaa)):=ZaA _ _ _
 have st:(sIf (e2 Zed (Za 2) (eC (.int 0))) (ZaP (Zce tyL ZaS (Za 3) (Zb (Za4 (Zb (Za 1) (Zb (Za 2) (Zi)))) (Zi)))) (Zam)) [some (Zv cs),some (.int n),some (.int v),some (.ref M.length)] (M ++ [.lst ((cs.filter fun c=>decide (c.1 ≠ n)).map Zaa)]) =
   .nx [some (Zv cs),some (.int n),some (.int v),some (.ref M.length)] (M ++ [.lst ((cs.filter (fun c=>decide (c.1 ≠ n)) ++ if v ≠ 0 then [(n,v)] else []).map Zaa)]):=by
  by_cases c:v = 0
  ·rw [if_neg (by simpa using c),List.append_nil]
   exact Zj (Zn rfl rfl (by simp [c]))
  ·rw [if_pos c]
   have:=Zf6 (o:=Za 3) (env:=[some (Zv cs),some (.int n),some (.int v),some (.ref M.length)]) (arg:=Za4 (Zb (Za 1) (Zb (Za 2) (Zi)))) (d:=Zaa (n,v)) rfl g0 (ZaW (Zag rfl (Zag rfl rfl)) rfl) g0 (by rw [List.length_map]; exact lB 2 0xf42405b013c2b1011001 T1 f1 hl)
   refine (ZaM (M':=M ++ [.lst ((cs.filter fun c=>decide (c.1 ≠ n)).map Zaa)]) (Zn rfl rfl (by simp [c]))).trans ((ZcH this).trans ?_)
   rw [List.map_append]
   exact congrArg _ (ZeP M _ 0 _)
 have g1:(M ++ [MO.lst ((cs.filter (fun c=>decide (c.1 ≠ n)) ++ if v ≠ 0 then [(n,v)] else []).map Zaa)])[M.length]? = some (.lst ((cs.filter (fun c=>decide (c.1 ≠ n)) ++ if v ≠ 0 then [(n,v)] else []).map Zaa)):=ZaA _ _ _
 have so:Zk7 ((cs.filter (fun c=>decide (c.1 ≠ n)) ++ if v ≠ 0 then [(n,v)] else []).map Zaa) = (Za1 cs n v).map Zaa:=Zi5 (Zj9 (Zmm cs n v) (Zee h))
 have ok:=ZiH (x:=cs.filter (fun c=>decide (c.1 ≠ n)) ++ if v ≠ 0 then [(n,v)] else []) (by
  rw [List.length_append]
  have:(if v ≠ 0 then [(n,v)] else []).length ≤ 1:=by split <;> simp
  exact lC 3 0x402b01c13c2b2012101a001 T1 this f1 hl)
 refine Rt.pure (G:=[.lst ((cs.filter (fun c=>decide (c.1 ≠ n)) ++ if v ≠ 0 then [(n,v)] else []).map Zaa),.lst ((Za1 cs n v).map Zaa)]) (env:=[some (Zv cs),some (.int n),some (.int v),none]) ?_ (ZdN _ _)
 refine (Zf (Zq b1)).trans ((Zf st).trans (ZaH ?_))
 refine Zco (Zco (a:=.ref M.length) (d:=.ref (M.length + 1)) (M2:=M ++ [.lst ((cs.filter (fun c=>decide (c.1 ≠ n)) ++ if v ≠ 0 then [(n,v)] else []).map Zaa),.lst ((Za1 cs n v).map Zaa)]) rfl ?_) (ZgD (ZgC _ _ 1))
 simp only [ZdR,g1,if_pos ok,so,alloc]
 simp
noncomputable def rnm:Row → List Nat
 | .put ..=>[112,117,116] | .add ..=>[97,100,100] | .sub ..=>[115,117,98] | .more ..=>[109,111,114,101] | .get ..=>[103,101,116] | .set ..=>[115,101,116] | .jump ..=>[106,117,109,112] | .when ..=>[119,104,101,110] | .tell ..=>[116,101,108,108] | .halt=>[104,97,108,116]
theorem Zlg (r:Row) (M:Store):Zk (Zw r) (.int 0) M = .ok (.str (rnm r)) M:=by cases r <;> rfl
theorem ZlG (r:Row):r = .halt ∨ (∃ a b,r = .get a b) ∨ (∃ a b,r = .set a b) ∨ (r.isHalt = false ∧ ¬ rnm r = [104,97,108,116] ∧ ¬ rnm r = [103,101,116] ∧ ¬ rnm r = [115,101,116] ∧ (∀ bs held cs,Zbm r bs held = r.boxes bs cs) ∧ ∀ bs cs,r.cells bs cs = cs):=by
 cases r with
 | halt=>exact .inl rfl
 | get a b=>exact .inr (.inl ⟨a,b,rfl⟩)
 | set a b=>exact .inr (.inr (.inl ⟨a,b,rfl⟩))
 | _=>exact .inr (.inr (.inr ⟨rfl,of_decide_eq_true rfl,of_decide_eq_true rfl,of_decide_eq_true rfl,fun _ _ _=>rfl,fun _ _=>rfl⟩))
theorem Zrg {a:List Nat} {M:Store}:Zaz (.str a) (.str a) M = .ok (.bl true) M:=by simp
theorem Zrm {a b:List Nat} {M:Store} (h:¬ a = b):Zaz (.str a) (.str b) M = .ok (.bl false) M:=by simp [h]
noncomputable abbrev ZfE (roll:ZcV) (s:Stt) (p:Nat) (bs:List Int) (cs:List (Int × Int)) (x5 x6:Option D):Zat:=[some (Zy roll),some (Ze s),some (.int (p:Int)),some (Zt bs),some (Zv cs),x5,x6]
theorem Zpk (roll:ZcV) (hok:∀ x ∈ roll,x.ok roll.length) (s:Stt) (M:Store) (hs:s.ok roll) (hr:ZeW s.cells) (hl:s.cells.length ≤ 60):ZbK [Zy roll,Ze s] M = .ok (ZeT (Za6 roll s)) M:=by
 obtain ⟨hp,hb⟩:=hs
 obtain ⟨p,bs,cs⟩:=s
 dsimp only at hp hb hr hl
 have gr:roll[p]? = some roll[p]:=by simp [hp]
 have ro:=hok _ (List.getElem_mem hp)
 have eS:Za6 roll ⟨p,bs,cs⟩ = Zfz ⟨p,bs,cs⟩ roll[p]:=by simp [Za6,gr]
 rw [eS]
 generalize roll[p] = r at gr ro
 suffices h:∃ G,ZbL [some (Zy roll),some (Ze ⟨p,bs,cs⟩),none,none,none,none,none] M = .rt (ZeT (Zfz ⟨p,bs,cs⟩ r)) (M ++ G) by
  obtain ⟨G,h⟩:=h
  exact Rt.pure h (Zg8 _ _)
 have s1:Zg1 (Za 1) (Zep [2,3,4]) [some (Zy roll),some (Ze ⟨p,bs,cs⟩),none,none,none,none,none] M = .nx (ZfE roll ⟨p,bs,cs⟩ p bs cs none none) M:=rfl
 have s2:(e2 Zk (Za 0) (Za 2)) (ZfE roll ⟨p,bs,cs⟩ p bs cs none none) M = .ok (Zw r) M:=Zn rfl rfl (ZeQ (by rw [ZaT,List.getElem?_map,gr]; rfl))
 have nmT:∀ {w:List Nat} {cs':List (Int × Int)} {x6:Option D} {M:Store},rnm r = w → (e2 Zaz (e2 Zk (Za 5) (eC (.int 0))) (eC (.str w))) (ZfE roll ⟨p,bs,cs⟩ p bs cs' (some (Zw r)) x6) M = .ok (.bl true) M:=fun {w cs' x6 M} h=>by
  subst h; exact Zn (Zn rfl rfl (Zlg r M)) rfl Zrg
 have nmF:∀ {w:List Nat} {cs':List (Int × Int)} {x6:Option D} {M:Store},¬ rnm r = w → (e2 Zaz (e2 Zk (Za 5) (eC (.int 0))) (eC (.str w))) (ZfE roll ⟨p,bs,cs⟩ p bs cs' (some (Zw r)) x6) M = .ok (.bl false) M:=fun {w cs' x6 M} h=>Zn (Zn rfl rfl (Zlg r M)) rfl (Zrm h)
 have fin:∀ (cs':List (Int × Int)) (held:Int) (M':Store),(Zx (Zg1 (Zai Zbi (Zb (Za 5) (Zb (Za 2) (Zb (Za 3) (Zb (Za 6) (Zi)))))) (Zep [2,3])) (Zax (Za4 (Zb (Za 2) (Zb (Za 3) (Zb (Za 4) (Zi))))))) (ZfE roll ⟨p,bs,cs⟩ p bs cs' (some (Zw r)) (some (.int held))) M' = .rt (Ze ⟨r.place bs p,Zbm r bs held,cs'⟩) M':=fun cs' held M'=>by
  have be:=ZlW r p bs held roll.length ro hb M'
  have b1:Zg1 (Zai Zbi (Zb (Za 5) (Zb (Za 2) (Zb (Za 3) (Zb (Za 6) (Zi)))))) (Zep [2,3]) (ZfE roll ⟨p,bs,cs⟩ p bs cs' (some (Zw r)) (some (.int held))) M' = .nx (ZfE roll ⟨p,bs,cs⟩ (r.place bs p) (Zbm r bs held) cs' (some (Zw r)) (some (.int held))) M':=by
   have:Zai Zbi (Zb (Za 5) (Zb (Za 2) (Zb (Za 3) (Zb (Za 6) (Zi))))) (ZfE roll ⟨p,bs,cs⟩ p bs cs' (some (Zw r)) (some (.int held))) M' = .ok (.tup [.int (r.place bs p:Nat),Zt (Zbm r bs held)]) M':=Zm0 rfl rfl rfl rfl be
   unfold Zg1
   rw [this]
   rfl
  exact (Zf b1).trans (ZaH (ZaW (Zag rfl (Zag rfl (Zag rfl rfl))) rfl))
 have st0:∀ (g:S3),Zx (Zg1 (Za 1) (Zep [2,3,4])) (Zx (Zaj 5 (e2 Zk (Za 0) (Za 2))) g) [some (Zy roll),some (Ze ⟨p,bs,cs⟩),none,none,none,none,none] M = g (ZfE roll ⟨p,bs,cs⟩ p bs cs (some (Zw r)) none) M:=fun g=>(Zf s1).trans (Zf (Zq s2))
 unfold ZbL
 rw [st0]
 have x6:∀ (g:S3),Zx (Zaj 6 (eC (.int 0))) g (ZfE roll ⟨p,bs,cs⟩ p bs cs (some (Zw r)) none) M = g (ZfE roll ⟨p,bs,cs⟩ p bs cs (some (Zw r)) (some (.int 0))) M:=fun g=>Zf (Zq rfl)
 rcases ZlG r with rfl | ⟨a,b,rfl⟩ | ⟨a,b,rfl⟩ | ⟨nh,n1,n2,n3,hbx,hcx⟩
 ·exact ⟨[],by rw [List.append_nil]; exact Zc0 ((ZaM (nmT rfl)).trans rfl)⟩
 ·obtain ⟨y,hy,gy⟩:=Zbu hb ro.2
  have hz:(Zc5 cs).length ≤ 100000:=by simp [Zc5]; exact lA 1 0x186a05b003c2b001 T1 hl
  have b1:ZaL Zc6 (Zb (Za 4) (Zi)) (ZfE roll ⟨p,bs,cs⟩ p bs cs (some (Zw (.get a b))) (some (.int 0))) M = .ok (.ref M.length) (M ++ [.dct (dictOf (Zc5 cs))]):=by
   refine Zco (a:=Zv cs) (M1:=M) rfl ?_
   simp only [Zv,Zc6,Zfi]
   rw [if_pos hz]; rfl
  have k1:∀ M,(e2 Zk (Za 3) (e2 Zk (Za 5) (eC (.int 2)))) (ZfE roll ⟨p,bs,cs⟩ p bs cs (some (Zw (.get a b))) (some (.int 0))) M = .ok (.int y) M:=fun M=>Zn (b:=.int (b:Int)) rfl (Zn rfl rfl rfl) (ZeQ gy)
  have gt:(Zce Zgs ZgW (ZaL Zc6 (Zb (Za 4) (Zi))) (Zb (e2 Zk (Za 3) (e2 Zk (Za 5) (eC (.int 2)))) (Zb (eC (.int 0)) (Zi)))) (ZfE roll ⟨p,bs,cs⟩ p bs cs (some (Zw (.get a b))) (some (.int 0))) M = .ok (.int (Zdx cs y)) (M ++ [.dct (dictOf (Zc5 cs))]):=by
   have k2:=k1 (M ++ [.dct (dictOf (Zc5 cs))])
   generalize (e2 Zk (Za 3) (e2 Zk (Za 5) (eC (.int 2)))) = E at k2
   simp only [Zce,b1,R3.bind,Zgs,Zb,k2,eC,Zi]
   simp only [ZaA,ZdJ,Option.isSome_some,if_true,ZgW,Zga]
   rw [Zf8 hr.keys]
  refine ⟨[.dct (dictOf (Zc5 cs))],(Zf (Zj (nmF (of_decide_eq_true rfl)))).trans ((x6 _).trans ((Zf ((ZaM (nmT rfl)).trans (Zq gt))).trans ((Zf (Zj (nmF (of_decide_eq_true rfl)))).trans ((fin cs (Zdx cs y) _).trans ?_))))⟩
  rw [← hy]; rfl
 ·obtain ⟨y1,hy1,gy1⟩:=Zbu hb ro.1
  obtain ⟨y2,hy2,gy2⟩:=Zbu hb ro.2
  have cw:=ZoS cs hr y1 y2 M hl
  refine ⟨[],?_⟩
  rw [List.append_nil]
  refine (Zf (Zj (nmF (of_decide_eq_true rfl)))).trans ((x6 _).trans ((Zf (Zj (nmF (of_decide_eq_true rfl)))).trans ((Zf ((ZaM (nmT rfl)).trans (Zq (d:=Zv (Za1 cs y1 y2)) (ZcL rfl (Zn (b:=.int (a:Int)) rfl (Zn rfl rfl rfl) (ZeQ gy1)) (Zn (b:=.int (b:Int)) rfl (Zn rfl rfl rfl) (ZeQ gy2)) cw)))).trans ((fin _ 0 _).trans ?_))))
  rw [← hy1,← hy2]; rfl
 ·refine ⟨[],?_⟩
  rw [List.append_nil]
  refine (Zf (Zj (nmF n1))).trans ((x6 _).trans ((Zf (Zj (nmF n2))).trans ((Zf (Zj (nmF n3))).trans ((fin cs 0 _).trans ?_))))
  simp only [Zfz,nh,hbx bs 0 cs,hcx]; rfl
theorem ZoL (s t:Stt) (M:Store):Zaz (Ze s) (Ze t) M = .ok (.bl (decide (s = t))) M:=by
 have h1:∀ s:Stt,∃ ds,Ze s = .tup ds ∧ ds.all (ZaB DEEP) = true:=fun s=>⟨_,rfl,by simp [ZfI,Zh9,ZgT,DEEP]⟩
 obtain ⟨ds,e1,p1⟩:=h1 s
 obtain ⟨es,e2,p2⟩:=h1 t
 have:=Zjw s t
 rw [e1,e2] at this ⊢
 simp only [deq] at this
 simp only [Zaz,eqD,p1,p2,Bool.and_self,if_true,this]
noncomputable abbrev ZlR (m1 m2 low high n:Nat) (x5:Option D):Zat:=[some (.ref m1),some (.ref m2),some (.int (low:Int)),some (.int (high:Int)),some (.ref n),x5]
theorem ZlD {M:Store} {m1 m2:Nat} {s1 s2:List Stt} (g1:M[m1]? = some (.lst (s1.map Ze))) (g2:M[m2]? = some (.lst (s2.map Ze))) (hlen:s2.length = s1.length):
  ∀ (f low high fuel:Nat) (ts:List Nat) (x5:Option D),high - low ≤ f → f < fuel → low < high → high < s1.length → ts.length + f < 1000000 →
  ∃ x5',Zdv (e2 ZcS (Za 3) (e2 Zz (Za 2) (eC (.int 1)))) (Zx (Zaj 5 (e2 Zad (e2 Zz (Za 2) (Za 3)) (eC (.int 2)))) (Zx (ZaP (Zce tyL ZaS (Za 4) (Zb (Za 5) (Zi)))) (sIf (e2 Zaz (e2 Zk (Za 0) (Za 5)) (e2 Zk (Za 1) (Za 5))) (Zaj 2 (Za 5)) (Zaj 3 (Za 5))))) fuel (ZlR m1 m2 low high M.length x5) (M ++ [.lst (ts.map fun m:Nat=>D.int (m:Int))]) =
   .nx (ZlR m1 m2 (hv (fun m=>decide (s1[m]? = s2[m]?)) f low high).2 ((hv (fun m=>decide (s1[m]? = s2[m]?)) f low high).2 + 1) M.length x5') (M ++ [.lst ((ts ++ (hv (fun m=>decide (s1[m]? = s2[m]?)) f low high).1).map fun m:Nat=>D.int (m:Int))]):=by
 intro f
 induction f with
 | zero=>intro low high fuel ts x5 h1 h2 h3; exact (lC 3 0x602c101e2011011 T1 h3 h1 (sbA _ _)).elim
 | succ f ih=>
  intro low high fuel ts x5 h1 h2 h3 h4 z
  cases fuel with
  | zero=>exact (lA 1 116001809 T1 h2).elim
  | succ fuel=>
   by_cases q:high = low + 1
   ·subst q
    have e:hv (fun m=>decide (s1[m]? = s2[m]?)) (f + 1) low (low + 1) = ([],low):=by simp [hv]
    rw [e]
    refine ⟨x5,?_⟩
    rw [List.append_nil]
    refine whF (Zn rfl (Zn rfl rfl rfl) ?_)
    simp
   ·have c:(e2 ZcS (Za 3) (e2 Zz (Za 2) (eC (.int 1)))) (ZlR m1 m2 low high M.length x5) (M ++ [.lst (ts.map fun m:Nat=>D.int (m:Int))]) = .ok (.bl true) (M ++ [.lst (ts.map fun m:Nat=>D.int (m:Int))]):=by
     refine Zn rfl (Zn rfl rfl rfl) ?_
     have:(low:Int) + 1 < (high:Int):=iN [_,_] [] 1 433245315009553 T1 (Nat.lt_of_le_of_ne (lB 1 6991908881 T1 h3) (Ne.symm q))
     simp [this]
    have lm:low < (low + high) / 2:=Nat.lt_of_not_le fun z=>lC 3 0x6a0c02d21c112a1c111002 T1 z (Nat.lt_of_le_of_ne (lB 1 6991908881 T1 h3) (Ne.symm q)) (Nat.lt_mul_div_succ _ (by decide))
    have mh:(low + high) / 2 < high:=lC 2 0x21120c102d011011 T1 lm (Nat.mul_div_le _ _)
    have hm:(e2 Zad (e2 Zz (Za 2) (Za 3)) (eC (.int 2))) (ZlR m1 m2 low high M.length x5) (M ++ [.lst (ts.map fun m:Nat=>D.int (m:Int))]) = .ok (.int (((low + high) / 2:Nat):Int)) (M ++ [.lst (ts.map fun m:Nat=>D.int (m:Int))]):=by
     refine Zn (Zn rfl rfl rfl) rfl ?_
     simp
    have hv':hv (fun m=>decide (s1[m]? = s2[m]?)) (f + 1) low high = if decide (s1[(low + high) / 2]? = s2[(low + high) / 2]?) then ((low + high) / 2 :: (hv (fun m=>decide (s1[m]? = s2[m]?)) f ((low + high) / 2) high).1,(hv (fun m=>decide (s1[m]? = s2[m]?)) f ((low + high) / 2) high).2) else ((low + high) / 2 :: (hv (fun m=>decide (s1[m]? = s2[m]?)) f low ((low + high) / 2)).1,(hv (fun m=>decide (s1[m]? = s2[m]?)) f low ((low + high) / 2)).2):=by
     show (if high = low + 1 then _ else _) = _
     rw [if_neg q]
    rw [hv']
    generalize (low + high) / 2 = m at *
    have gu:s1[m]? = some (s1[m]'(Nat.lt_trans mh h4)):=List.getElem?_eq_getElem _
    have gv:s2[m]? = some (s2[m]'(lD 3 0x301233121111011 T1 mh h4 hlen)):=List.getElem?_eq_getElem _
    generalize s1[m]'(Nat.lt_trans mh h4) = u at gu
    generalize s2[m]'(lD 3 0x301233121111011 T1 mh h4 hlen) = v at gv
    have g0:(M ++ [MO.lst (ts.map fun m:Nat=>D.int (m:Int))])[M.length]? = some (.lst (ts.map fun m:Nat=>D.int (m:Int))):=ZaA _ _ _
    have ap:=ZcH (Zf6 (o:=Za 4) (arg:=Za 5) (env:=ZlR m1 m2 low high M.length (some (.int (m:Int)))) rfl g0 rfl g0 (by rw [List.length_map]; exact lB 1 0xf42405b01f42405ba1c0c11 T1 z))
    have es:(M ++ [MO.lst (ts.map fun m:Nat=>D.int (m:Int))]).set M.length (.lst ((ts.map fun m:Nat=>D.int (m:Int)) ++ [.int (m:Int)])) = M ++ [.lst ((ts ++ [m]).map fun m:Nat=>D.int (m:Int))]:=by
     rw [List.map_append]; exact ZeP M _ 0 _
    rw [es] at ap
    have cq:(e2 Zaz (e2 Zk (Za 0) (Za 5)) (e2 Zk (Za 1) (Za 5))) (ZlR m1 m2 low high M.length (some (.int (m:Int)))) (M ++ [.lst ((ts ++ [m]).map fun m:Nat=>D.int (m:Int))]) = .ok (.bl (decide (u = v))) (M ++ [.lst ((ts ++ [m]).map fun m:Nat=>D.int (m:Int))]):=
     Zn (Zn rfl rfl (Zbo (Zal g1 _) (by rw [ZaT,List.getElem?_map,gu]; rfl))) (Zn rfl rfl (Zbo (Zal g2 _) (by rw [ZaT,List.getElem?_map,gv]; rfl))) (ZoL u v _)
    rw [gu,gv]
    by_cases uv:u = v
    ·subst uv
     rw [if_pos (by simp)]
     rw [decide_eq_true rfl] at cq
     obtain ⟨x5',w⟩:=ih m high fuel (ts ++ [m]) (some (.int (m:Int))) (lF 4 0x34002c501514c21a3c2011011 T1 lm h1 (Nat.sub_add_cancel (Nat.le_of_lt mh)) (sbA _ _)) (lB 1 1106520968209 T1 h2) mh h4 (by simp; exact lB 1 0xf42405b1a0cc1f42405ba1c0c11 T1 z)
     refine ⟨x5',(whT c ((Zf (Zq hm)).trans ((Zf ap).trans ((ZaM cq).trans (Zq rfl))))).trans (w.trans ?_)⟩
     rw [List.append_assoc]; rfl
    ·rw [if_neg (by simpa using uv)]
     rw [decide_eq_false uv] at cq
     obtain ⟨x5',w⟩:=ih low m fuel (ts ++ [m]) (some (.int (m:Int))) (lF 4 0x34052c101054c21a3c2011011 T1 mh h1 (Nat.sub_add_cancel (Nat.le_of_lt lm)) (sbA _ _)) (lB 1 1106520968209 T1 h2) lm (Nat.lt_trans mh h4) (by simp; exact lB 1 0xf42405b1a0cc1f42405ba1c0c11 T1 z)
     refine ⟨x5',(whT c ((Zf (Zq hm)).trans ((Zf ap).trans ((ZbT cq).trans (Zq rfl))))).trans (w.trans ?_)⟩
     rw [List.append_assoc]; rfl
theorem Zkc {M:Store} {m1 m2:Nat} {s1 s2:List Stt} (g1:M[m1]? = some (.lst (s1.map Ze))) (g2:M[m2]? = some (.lst (s2.map Ze))) (hlen:s2.length = s1.length) (h2:2 ≤ s1.length) (hz:s1.length ≤ 5000):
  ZcK [.ref m1,.ref m2] M = .ok (.ref (M.length + 1)) (M ++ [.lst ((0 :: (s1.length - 1) :: (hv (fun m=>decide (s1[m]? = s2[m]?)) (s1.length - 1) 0 (s1.length - 1)).1).map fun m:Nat=>D.int (m:Int)),.lst [.int ((hv (fun m=>decide (s1[m]? = s2[m]?)) (s1.length - 1) 0 (s1.length - 1)).2:Int),.ref M.length]]):=by
 obtain ⟨x5,lp⟩:=ZlD g1 g2 hlen (s1.length - 1) 0 (s1.length - 1) 1000000 [0,s1.length - 1] none ((Nat.sub_le _ _)) (lB 2 0xf42405b11010113884b001 T1 hz (Nat.sub_le _ _)) (lB 2 0x1e1a1c001021b01 T1 h2 (sbA _ _)) (lB 1 4313451553 T1 (Nat.sub_add_cancel (lA 1 2684492545 T1 h2))) (by simp; exact lB 2 0xf42405b121bc1010113884b001 T1 hz (Nat.sub_le _ _))
 generalize hv (fun m=>decide (s1[m]? = s2[m]?)) (s1.length - 1) 0 (s1.length - 1) = r at lp ⊢
 refine (ZcW (env:=[some (.ref m1),some (.ref m2),none,none,none,none]) (d:=.ref (M.length + 1)) (M':=M ++ [.lst ((0 :: (s1.length - 1) :: r.1).map fun m:Nat=>D.int (m:Int)),.lst [.int (r.2:Int),.ref M.length]]) ?_).trans (by simp [ZcB,below])
 have e:(s1.length:Int) - 1 = ((s1.length - 1:Nat):Int):=Int.le_antisymm (iN [_,_] [] 1 433246112432129 T1 (sbA _ _)) (iN [_,_] [] 1 0xa18f0881a0c21 T1 (Nat.sub_add_cancel (lA 1 2684492545 T1 h2)))
 refine (Zf (Zq rfl)).trans ((Zf (Zq (d:=.int ((s1.length - 1:Nat):Int)) (M':=M) (Zn (Zco rfl (ZiM g1)) rfl ?_))).trans ((Zf (Zq (d:=.ref M.length) (M':=M ++ [.lst ([0,s1.length - 1].map fun m:Nat=>D.int (m:Int))]) ?_)).trans ((Zf (f:=Zg2 _ _) lp).trans (ZaH ?_))))
 ·simp [e]
 ·simp
 ·simp
theorem ZiL (eq:Nat → Bool):∀ (f low high:Nat),high - low ≤ f → low < high → eq low = true → eq high = false → eq (hv eq f low high).2 = true ∧ eq ((hv eq f low high).2 + 1) = false ∧ low ≤ (hv eq f low high).2 ∧ (hv eq f low high).2 + 1 ≤ high
 | 0,low,high,h1,h2,_,_=>by omega
 | f + 1,low,high,h1,h2,hl,hh=>by
  unfold hv
  by_cases q:high = low + 1
  ·subst q; rw [if_pos rfl]; exact ⟨hl,hh,Nat.le_refl _,Nat.le_refl _⟩
  ·rw [if_neg q]
   have lm:low < (low + high) / 2:=Nat.lt_of_not_le fun z=>lC 3 0x6a0c02d21c112a1c111002 T1 z (Nat.lt_of_le_of_ne (lB 1 6991908881 T1 h2) (Ne.symm q)) (Nat.lt_mul_div_succ _ (by decide))
   have mh:(low + high) / 2 < high:=lC 2 0x21120c102d011011 T1 lm (Nat.mul_div_le _ _)
   cases c:eq ((low + high) / 2) with
   | true=>
    have:=ZiL eq f ((low + high) / 2) high (lF 4 0x34002c501514c21a3c2011011 T1 lm h1 (Nat.sub_add_cancel (Nat.le_of_lt mh)) (sbA _ _)) mh c hh
    rw [if_pos rfl]
    exact ⟨this.1,this.2.1,by have:=this.2.2.1; omega,this.2.2.2⟩
   | false=>
    have:=ZiL eq f low ((low + high) / 2) (lF 4 0x34052c101054c21a3c2011011 T1 mh h1 (Nat.sub_add_cancel (Nat.le_of_lt lm)) (sbA _ _)) lm hl c
    rw [if_neg (by decide)]
    exact ⟨this.1,this.2.1,this.2.2.1,by have:=this.2.2.2; omega⟩
theorem ZpZ {s1 s2:List Stt} {i:Nat} {x y:Stt} (h1:i < s1.length) (h2:i < s2.length) (h:s1[i]? ≠ s2[i]?) (hxy:x ≠ y):(fun m:Nat=>decide ((s1.set i x)[m]? = (s2.set i y)[m]?)) = fun m:Nat=>decide (s1[m]? = s2[m]?):=by
 funext m
 by_cases q:i = m
 ·subst q
  rw [List.getElem?_set_self h1,List.getElem?_set_self h2,decide_eq_false h,decide_eq_false fun e=>hxy (Option.some.inj e)]
 ·rw [List.getElem?_set_ne q,List.getElem?_set_ne q]
theorem ZnK {s1 s2:List Stt}:(fun m:Nat=>decide (s2[m]? = s1[m]?)) = fun m:Nat=>decide (s1[m]? = s2[m]?):=by
 funext m
 by_cases q:s1[m]? = s2[m]?
 ·rw [decide_eq_true q,decide_eq_true q.symm]
 ·rw [decide_eq_false q,decide_eq_false fun e=>q e.symm]
theorem Znb (M:Store) (d:D) (M1:Store) (hl:M.length ≤ M1.length):∃ M2,ZcB M d M1 = .ok d M2 ∧ (∀ j,j < M.length → M2[j]? = M1[j]?) ∧ M.length ≤ M2.length:=by
 unfold ZcB
 split
 ·exact ⟨_,rfl,fun j hj=>List.getElem?_take_of_lt hj,by rw [List.length_take]; omega⟩
 ·exact ⟨_,rfl,fun _ _=>rfl,hl⟩
theorem ZcG.keep {cs:List Int} {c d at_:Nat} {M M':Store} (K:ZcG cs c d at_ M) (h:∀ j,j < M.length → M'[j]? = M[j]?):ZcG cs c d at_ M':=
 ⟨by rw [h d (List.getElem?_eq_some_iff.mp K.hd).1]; exact K.hd,by rw [h c (List.getElem?_eq_some_iff.mp K.hc).1]; exact K.hc,K.ne⟩
theorem Zg3 (roll:ZcV) {M:Store}:Za7 [Zy roll] M = .ok (.int (roll.length:Int)) M:=by simp [Zy]
theorem Zpm {op:D → D → D → Store → R3 D} {f g h:E3} {env:Zat} {M M1 M2 M3 M4:Store} {a b c d:D} (h1:f env M = .ok a M1) (h2:g env M1 = .ok b M2) (h3:h env M2 = .ok c M3) (h4:op a b c M3 = .ok d M4):e3 op f g h env M = .ok d M4:=by simp only [e3,h1,h2,h3,h4,R3.bind]
theorem Zqy {i j:Int} {M:Store} (h:ZbP i j = true):Zez (.int i) (.int j) M = .ok (.int (i * j)) M:=by simp only [Zez,h,if_true]
structure Drawn (roll:ZcV) (k:Nat) (s:Stt):Prop where
 ok:s.ok roll
 rise:ZeW s.cells
 len:s.cells.length ≤ k
theorem Zmj (p:Nat → Bool) (n:Nat):ZeW (((List.range n).filter p).map fun (k:Nat)=>((-3:Int) + (k:Int),1 + ((-3:Int) + (k:Int)) * ((-3:Int) + (k:Int)) % 7)):=by
 unfold ZeW
 rw [List.pairwise_map]
 refine List.Pairwise.imp (fun {a b} h=>?_) (List.Pairwise.filter p (List.pairwise_lt_range (n:=n)))
 show (-3:Int) + (a:Int) < (-3:Int) + (b:Int)
 exact iN [_,_] [] 1 0x1831b9c0831b9c91011 T1 h
theorem Znr {cs:List Int} {c d at_:Nat} {M:Store} (K:ZcG cs c d at_ M) (ha:at_ < 1000000) (roll:ZcV) (hp:0 < roll.length):
  ∃ (s:Stt) (M':Store),ZbC [.ref d,Zy roll] M = .ok (Ze s) M' ∧ Drawn roll 8 s ∧ ZcG cs c d (at_ + 1) M' ∧ M.length ≤ M'.length ∧ ∀ j,j < M.length → j ≠ d → M'[j]? = M[j]?:=by
 obtain ⟨v,M1,en,K1,l1,o1⟩:=K.next ha
 have b3:=Zm7 (α:=Nat) (enc:=fun (q:Nat)=>D.int (0 + (q:Int))) (h:=fun (q:Nat)=>D.int ((q:Int) - 3)) (own:=1) (i:=5) (it:=ZcO (eC (.int 8))) (elt:=e2 Zcu (Za 5) (eC (.int 3))) (env:=[some (.ref d),some (Zy roll),some (.int v),none,none]) (M:=M1) (M1:=M1) (lock:=none) (as:=List.range 8)
  (by simp [Zc4]) (fun _ h=>by cases h) (fun a _ M=>by simp) (by simp)
 obtain ⟨j,hj,lj⟩:=Zbv v 8 (lN [] 0 531425 rfl)
 have hj':v % 8 = (j:Int):=hj
 have g3:(M1 ++ [MO.lst ((List.range 8).map fun (q:Nat)=>D.int ((q:Int) - 3))])[M1.length]? = some (.lst ((List.range 8).map fun (q:Nat)=>D.int ((q:Int) - 3))):=ZaA _ _ _
 have pu:ZbR (Za 3) (e2 Zae (Za 2) (eC (.int 8))) (e2 Zae (e2 Zad (Za 2) (eC (.int 8))) (e2 Zen (eC (.int 10)) (eC (.int 40)))) [some (.ref d),some (Zy roll),some (.int v),some (.ref M1.length),none] (M1 ++ [.lst ((List.range 8).map fun (q:Nat)=>D.int ((q:Int) - 3))]) = .nx [some (.ref d),some (Zy roll),some (.int v),some (.ref M1.length),none] (M1 ++ [.lst ((((List.range 8).map fun (q:Nat)=>((q:Int) - 3)).set j (v / 8 % 10 ^ 40)).map D.int)]):=by
  have ix:ixD ((List.range 8).map fun (q:Nat)=>D.int ((q:Int) - 3)).length ((j:Nat):Int) = some j:=by simp [lj]
  have hs:(M1 ++ [MO.lst ((List.range 8).map fun (q:Nat)=>D.int ((q:Int) - 3))]).set M1.length (.lst (((List.range 8).map fun (q:Nat)=>D.int ((q:Int) - 3)).set j (.int (v / 8 % 10 ^ 40)))) = M1 ++ [.lst ((((List.range 8).map fun (q:Nat)=>((q:Int) - 3)).set j (v / 8 % 10 ^ 40)).map D.int)]:=by
   rw [List.map_set,List.map_map]; exact ZeP M1 _ 0 _
  have pa:Zfr (.int (v / 8 % 10 ^ 40)) (.ref M1.length) (.int (j:Int)) (M1 ++ [.lst ((List.range 8).map fun (q:Nat)=>D.int ((q:Int) - 3))]) = .ok .non (M1 ++ [.lst ((((List.range 8).map fun (q:Nat)=>((q:Int) - 3)).set j (v / 8 % 10 ^ 40)).map D.int)]):=by
   simp only [Zfr,g3,ix]
   rw [hs]
  have pw:(e2 Zae (e2 Zad (Za 2) (eC (.int 8))) (e2 Zen (eC (.int 10)) (eC (.int 40)))) [some (.ref d),some (Zy roll),some (.int v),some (.ref M1.length),none] (M1 ++ [.lst ((List.range 8).map fun (q:Nat)=>D.int ((q:Int) - 3))]) = .ok (.int (v / 8 % 10 ^ 40)) (M1 ++ [.lst ((List.range 8).map fun (q:Nat)=>D.int ((q:Int) - 3))]):=by simp
  have m8:(e2 Zae (Za 2) (eC (.int 8))) [some (.ref d),some (Zy roll),some (.int v),some (.ref M1.length),none] (M1 ++ [.lst ((List.range 8).map fun (q:Nat)=>D.int ((q:Int) - 3))]) = .ok (.int (j:Int)) (M1 ++ [.lst ((List.range 8).map fun (q:Nat)=>D.int ((q:Int) - 3))]):=by simp [hj']
  exact ZcH (Zpm pw rfl m8 pa)
 generalize hbs:((List.range 8).map fun (q:Nat)=>((q:Int) - 3)).set j (v / 8 % 10 ^ 40) = bs at pu
 have lb:bs.length = 8:=by rw [← hbs]; simp
 have b4:=ZeM (α:=Nat) (enc:=fun (q:Nat)=>D.int (-3 + (q:Int))) (h:=fun (q:Nat)=>Zaa (-3 + (q:Int),1 + (-3 + (q:Int)) * (-3 + (q:Int)) % 7)) (p:=fun (q:Nat)=>decide (v / 16 / (-3 + (q:Int) + 4) % 2 = 1)) (own:=1) (i:=5) (it:=ZfA (e1 Zgi (eC (.int 3))) (eC (.int 5))) (c:=e2 Zaz (e2 Zae (e2 Zad (e2 Zad (Za 2) (eC (.int 16))) (e2 Zz (Za 5) (eC (.int 4)))) (eC (.int 2))) (eC (.int 1))) (elt:=Za4 (Zb (Za 5) (Zb (e2 Zz (eC (.int 1)) (e2 Zae (e2 Zez (Za 5) (Za 5)) (eC (.int 7)))) (Zi)))) (env:=[some (.ref d),some (Zy roll),some (.int v),some (.ref M1.length),none]) (M:=M1 ++ [.lst (bs.map D.int)]) (M1:=M1 ++ [.lst (bs.map D.int)]) (lock:=none) (as:=List.range 8)
  (by simp [Zc4]) (fun _ h=>by cases h) (fun a ha M=>by
   have:(0:Int) < -3 + (a:Int) + 4 ∧ -3 + (a:Int) + 4 < 1073741824:=by have:=List.mem_range.mp ha; exact ⟨iN [_] [] 0 0x41b0831b9cce9 T1,iN [_] [] 1 0x400000008b41b0831b9cc981b011 T1 this⟩
   simp [this]) (fun a ha _ M=>by
   have hb:=List.mem_range.mp ha
   have mk:ZbP (-3 + (a:Int)) (-3 + (a:Int)) = true:=by
    have q1:(-(2 ^ 64):Int) < -3 + (a:Int):=by omega
    have q2:-3 + (a:Int) < (2 ^ 64:Int):=by omega
    simp only [ZbP,Bool.or_eq_true,Bool.and_eq_true,decide_eq_true_eq]
    exact .inl ⟨q1,q2⟩
   exact ZaW (Zag rfl (Zag (Zn rfl (Zn (Zn rfl rfl (Zqy mk)) rfl (ZaY (by decide))) rfl) rfl)) rfl) (by simp)
 obtain ⟨p,hpp,lp⟩:=Zbv (v / 3) roll.length hp
 have hp':v / 3 % (roll.length:Int) = (p:Int):=hpp
 generalize hcs:(((List.range 8).filter fun (q:Nat)=>decide (v / 16 / (-3 + (q:Int) + 4) % 2 = 1)).map fun (q:Nat)=>((-3:Int) + (q:Int),1 + ((-3:Int) + (q:Int)) * ((-3:Int) + (q:Int)) % 7)) = ce
 have ec:(((List.range 8).filter fun (q:Nat)=>decide (v / 16 / (-3 + (q:Int) + 4) % 2 = 1)).map fun (q:Nat)=>Zaa (-3 + (q:Int),1 + (-3 + (q:Int)) * (-3 + (q:Int)) % 7)) = ce.map Zaa:=by rw [← hcs,List.map_map]; rfl
 rw [ec] at b4
 have rc:ZeW ce:=by rw [← hcs]; exact Zmj _ 8
 have lc:ce.length ≤ 8:=by rw [← hcs,List.length_map]; exact Nat.le_trans (List.length_filter_le _ _) (by simp)
 obtain ⟨M2,t1,t2,t3⟩:=Znb M (Ze ⟨p,bs,ce⟩) (M1 ++ [.lst (bs.map D.int),.lst (ce.map Zaa)]) (by simp [l1])
 have hg:∀ j,j < M.length → M2[j]? = M1[j]?:=fun j hj=>by rw [t2 j hj,List.getElem?_append_left (by exact lC 2 2203623428113 T1 hj l1)]
 refine ⟨⟨p,bs,ce⟩,M2,(ZcW (env:=[some (.ref d),some (Zy roll),none,none,none]) (d:=Ze ⟨p,bs,ce⟩) (M':=M1 ++ [.lst (bs.map D.int),.lst (ce.map Zaa)]) ?_).trans t1,⟨⟨lp,lb⟩,rc,lc⟩,K1.keep fun j hj=>hg j (lC 2 2203874037777 T1 hj l1),t3,fun j hj hjd=>by rw [hg j hj,o1 j hjd]⟩
 have e4:(M1 ++ [MO.lst (bs.map D.int)]) ++ [.lst (ce.map Zaa)] = M1 ++ [.lst (bs.map D.int),.lst (ce.map Zaa)]:=by simp
 have e5:(M1 ++ [MO.lst (bs.map D.int)]).length = M1.length + 1:=by simp
 rw [e4,e5] at b4
 refine (Zf (Zq (Zdq rfl en))).trans ((Zf (Zq b3)).trans ((Zf pu).trans ((Zf (Zq b4)).trans (ZaH (ZaW (Zag (d:=.int (p:Int)) (Zn (a:=.int (v / 3)) (b:=.int (roll.length:Int)) (Zn rfl rfl (ZbZ (by decide))) (Zco rfl (Zg3 roll)) ?_) (Zag (Zco rfl (ZgD (ZaA _ _ _))) (Zag (Zco rfl (ZgD (ZgC _ _ 1))) rfl))) rfl)))))
 rw [← hp']; exact ZaY (iN [_,_] [] 1 417927185 T1 lp)
theorem Zht {cs:List (Int × Int)} (h:ZeW cs) {n v:Int} (hv:v ≠ Zdx cs n):Za1 cs n v ≠ cs:=fun e=>by
 by_cases hz:v = 0
 ·apply hv
  rw [hz,ZhN]
  simp only [List.any_eq_true,decide_eq_true_eq,not_exists,not_and]
  intro q hq hn
  rw [← e] at hq
  rcases Zgg.mp hq with ⟨_,h0⟩ | ⟨h1,_⟩
  ·exact h0 hz
  ·exact h1 hn
 ·have:(n,v) ∈ cs:=by rw [← e]; exact Zgg.mpr (.inl ⟨rfl,hz⟩)
  exact hv (Zl1 h.keys this).symm
theorem ZjH {roll:ZcV} {k:Nat} {s:Stt} (hd:Drawn roll k s) (hk:k ≤ 50) (cell:Int) (M:Store):
  ∃ s':Stt,ZaE [Ze s,.int cell,.int (roll.length:Int)] M = .ok (Ze s') M ∧ Drawn roll (k + 1) s' ∧ s' ≠ s:=by
 obtain ⟨⟨hp,hb⟩,hr,hl⟩:=hd
 obtain ⟨p,bs,cs⟩:=s
 dsimp only at hp hb hr hl
 suffices h:∃ s':Stt,(∃ G,Zek [some (Ze ⟨p,bs,cs⟩),some (.int cell),some (.int (roll.length:Int)),none,none,none,none] M = .rt (Ze s') (M ++ G)) ∧ Drawn roll (k + 1) s' ∧ s' ≠ ⟨p,bs,cs⟩ by
  obtain ⟨s',⟨G,h⟩,h2,h3⟩:=h
  exact ⟨s',Rt.pure h (Zgo _ _),h2,h3⟩
 have s1:Zg1 (Za 0) (Zep [3,4,5]) [some (Ze ⟨p,bs,cs⟩),some (.int cell),some (.int (roll.length:Int)),none,none,none,none] M = .nx [some (Ze ⟨p,bs,cs⟩),some (.int cell),some (.int (roll.length:Int)),some (.int (p:Int)),some (Zt bs),some (Zv cs),none] M:=rfl
 have m3:(e2 Zae (Za 1) (eC (.int 3))) [some (Ze ⟨p,bs,cs⟩),some (.int cell),some (.int (roll.length:Int)),some (.int (p:Int)),some (Zt bs),some (Zv cs),none] M = .ok (.int (cell % 3)) M:=Zn rfl rfl (ZaY (by decide))
 have d3:∀ (x6:Option D) (M:Store),(e2 Zad (Za 1) (eC (.int 3))) [some (Ze ⟨p,bs,cs⟩),some (.int cell),some (.int (roll.length:Int)),some (.int (p:Int)),some (Zt bs),some (Zv cs),x6] M = .ok (.int (cell / 3)) M:=fun x6 M=>Zn rfl rfl (ZbZ (by decide))
 by_cases c0:cell % 3 = 0
 ·have w0:Zdx cs 9 + 1 + cell / 3 % 5 ≠ Zdx cs 9:=(fun z=>iN [] [_,_] 2 0x61e8101a0cca1 T1 z (Int.emod_nonneg _ (by decide)))
  refine ⟨⟨p,bs,Za1 cs 9 (Zdx cs 9 + 1 + cell / 3 % 5)⟩,⟨[.dct (dictOf (Zc5 cs))],?_⟩,⟨⟨hp,hb⟩,Zee hr,Nat.le_trans (Zff hr _ _) (lB 1 0xa1ca0c01001 T1 hl)⟩,fun e=>Zht hr w0 (Stt.mk.inj e).2.2⟩
  have hz:(Zc5 cs).length ≤ 100000:=by simp [Zc5]; exact lB 2 0x186a05b00322b1011001 T1 hl hk
  have b1:ZaL Zc6 (Zb (Za 5) (Zi)) [some (Ze ⟨p,bs,cs⟩),some (.int cell),some (.int (roll.length:Int)),some (.int (p:Int)),some (Zt bs),some (Zv cs),none] M = .ok (.ref M.length) (M ++ [.dct (dictOf (Zc5 cs))]):=by
   refine Zco (a:=Zv cs) (M1:=M) rfl ?_
   simp only [Zv,Zc6,Zfi]
   rw [if_pos hz]; rfl
  have gt:(Zce Zgs ZgW (ZaL Zc6 (Zb (Za 5) (Zi))) (Zb (eC (.int 9)) (Zb (eC (.int 0)) (Zi)))) [some (Ze ⟨p,bs,cs⟩),some (.int cell),some (.int (roll.length:Int)),some (.int (p:Int)),some (Zt bs),some (Zv cs),none] M = .ok (.int (Zdx cs 9)) (M ++ [.dct (dictOf (Zc5 cs))]):=by
   simp only [Zce,b1,R3.bind,Zgs,Zb,eC,Zi]
   simp only [ZaA,ZdJ,Option.isSome_some,if_true,ZgW,Zga]
   rw [Zf8 hr.keys]
  have cw:=ZoS cs hr 9 (Zdx cs 9 + 1 + cell / 3 % 5) (M ++ [.dct (dictOf (Zc5 cs))]) (lB 2 0x3c2b00322b1011001 T1 hl hk)
  exact (Zf s1).trans (Zc0 ((ZaM (Zn m3 rfl (Zjh c0))).trans (ZaH (ZaW (Zag rfl (Zag rfl (Zag (ZcL rfl rfl (Zn (Zn gt rfl rfl) (Zn (d3 _ _) rfl (ZaY (by decide))) rfl) cw) rfl))) rfl))))
 ·by_cases c1:cell % 3 = 1 ∧ 1 < roll.length
  ·obtain ⟨c1,c2⟩:=c1
   obtain ⟨x,hx,lx⟩:=Zbv (cell / 3) (roll.length - 1) (lB 2 529559803988497 T1 c2 (sbA _ _))
   have hx':cell / 3 % ((roll.length:Int) - 1) = (x:Int):=by rw [← hx]; congr 1; exact Int.le_antisymm (iN [_,_] [] 1 433246112432129 T1 (sbA _ _)) (iN [_,_] [] 1 0xa18f0881a0c21 T1 (Nat.sub_add_cancel (Nat.le_of_lt c2)))
   have hm:((p:Int) + 1 + (x:Int)) % (roll.length:Int) = (((p + 1 + x) % roll.length:Nat):Int):=by
    rw [Int.natCast_emod]; congr 1
   have ne:(p + 1 + x) % roll.length ≠ p:=by
    by_cases q:p + 1 + x < roll.length
    ·rw [Nat.mod_eq_of_lt q]; exact fun z=>lB 1 25797119009 T1 z
    ·rw [Nat.mod_eq_sub_mod (Nat.le_of_not_lt q),Nat.mod_eq_of_lt (by exact lE 4 0x34131010a2cc34c2132111011 T1 lx hp (Nat.sub_add_cancel (Nat.le_of_not_lt q)) (Nat.sub_le _ _))]; exact fun z=>lE 4 0x64a3c212a1cc40c2132111031 T1 z lx (Nat.sub_add_cancel (Nat.le_of_not_lt q)) (Nat.sub_add_cancel (Nat.le_of_lt c2))
   refine ⟨⟨(p + 1 + x) % roll.length,bs,cs⟩,⟨[],?_⟩,⟨⟨Nat.mod_lt _ (lA 1 14748177 T1 c2),hb⟩,hr,by show cs.length ≤ k + 1; exact lB 1 43419439105 T1 hl⟩,fun e=>ne (Stt.mk.inj e).1⟩
   rw [List.append_nil]
   have cc:(Zcm (e2 Zaz (e2 Zae (Za 1) (eC (.int 3))) (eC (.int 1))) (e2 ZcS (Za 2) (eC (.int 1)))) [some (Ze ⟨p,bs,cs⟩),some (.int cell),some (.int (roll.length:Int)),some (.int (p:Int)),some (Zt bs),some (Zv cs),none] M = .ok (.bl true) M:=by
    rw [ZeG (Zn m3 rfl (Zjh c1))]
    refine Zn rfl rfl ?_
    have:(1:Int) < (roll.length:Int):=iN [_] [] 1 145295889 T1 c2
    simp [this]
   refine (Zf s1).trans ((Zf (Zj (Zn m3 rfl (Zis c0)))).trans (Zc0 ((ZaM cc).trans (ZaH (ZaW (Zag (d:=.int (((p + 1 + x) % roll.length:Nat):Int)) (Zn (Zn (Zn rfl rfl rfl) (Zn (b:=.int ((roll.length:Int) - 1)) (d3 _ _) (Zn rfl rfl rfl) (ZaY (iN [_] [] 1 689609181713 T1 c2))) rfl) rfl ?_) (Zag rfl (Zag rfl rfl))) rfl)))))
   rw [hx',← hm]
   exact ZaY (iN [_] [] 1 149490193 T1 c2)
  ·obtain ⟨x,hx,lx⟩:=Zbv (cell / 3) 8 (lN [] 0 531425 rfl)
   have hx':cell / 3 % 8 = (x:Int):=hx
   obtain ⟨y,hy,gy⟩:=Zbu hb lx
   refine ⟨⟨p,bs.set x (y + 1 + cell / 24 % 3),cs⟩,⟨[],?_⟩,⟨⟨hp,by simp [hb]⟩,hr,by show cs.length ≤ k + 1; exact lB 1 43419439105 T1 hl⟩,fun e=>?_⟩
   ·rw [List.append_nil]
    have cc:(Zcm (e2 Zaz (e2 Zae (Za 1) (eC (.int 3))) (eC (.int 1))) (e2 ZcS (Za 2) (eC (.int 1)))) [some (Ze ⟨p,bs,cs⟩),some (.int cell),some (.int (roll.length:Int)),some (.int (p:Int)),some (Zt bs),some (Zv cs),none] M = .ok (.bl false) M:=by
     by_cases q:cell % 3 = 1
     ·rw [ZeG (Zn m3 rfl (Zjh q))]
      refine Zn rfl rfl ?_
      have:¬ (1:Int) < (roll.length:Int):=fun h=>c1 ⟨q,iN [_] [] 1 168856209 T1 h⟩
      simp [this]
     ·rw [ZkC (Zn m3 rfl (Zis q))]
    have m8:(e2 Zae (e2 Zad (Za 1) (eC (.int 3))) (eC (.int 8))) [some (Ze ⟨p,bs,cs⟩),some (.int cell),some (.int (roll.length:Int)),some (.int (p:Int)),some (Zt bs),some (Zv cs),none] M = .ok (.int (x:Int)) M:=by
     rw [← hx']; exact Zn (d3 _ _) rfl (ZaY (by decide))
    have up:=ZeJ (fb:=Za 4) (fi:=Za 6) (fv:=e2 Zz (e2 Zz (e2 Zk (Za 4) (Za 6)) (eC (.int 1))) (e2 Zae (e2 Zad (Za 1) (eC (.int 24))) (eC (.int 3)))) (env:=[some (Ze ⟨p,bs,cs⟩),some (.int cell),some (.int (roll.length:Int)),some (.int (p:Int)),some (Zt bs),some (Zv cs),some (.int (x:Int))]) (M:=M) (bs:=bs) (a:=x) (v:=y + 1 + cell / 24 % 3) rfl rfl
     (Zn (Zn (Zn rfl rfl (ZeQ gy)) rfl rfl) (Zn (Zn rfl rfl (ZbZ (by decide))) rfl (ZaY (by decide))) rfl) (lB 2 72481667054415889 T1 lx hb) (lA 1 0x3e83b0081b021 T1 hb)
    exact (Zf s1).trans ((Zf (Zj (Zn m3 rfl (Zis c0)))).trans ((Zf (Zj cc)).trans ((Zf (Zq m8)).trans (ZaH (ZaW (Zag rfl (Zag up (Zag rfl rfl))) rfl)))))
   ·have e2:=(Stt.mk.inj e).2.1
    have:=congrArg (fun l:List Int=>l.getD x 0) e2
    simp only [List.getD_eq_getElem?_getD] at this
    rw [List.getElem?_set_self (by exact lB 2 72481667054415889 T1 lx hb),Option.getD_some,← List.getD_eq_getElem?_getD,hy] at this
    exact iN [] [_,_] 2 0x61e8101a0cca1 T1 this (Int.emod_nonneg _ (by decide))
theorem Zfg {i:Nat} {env:Zat} {d:D} {M:Store} (h:env[i]? = some (some d)):Za i env M = .ok d M:=by simp only [Za,h]
theorem Zh8 (cs:List Int) (c d n:Nat) (roll:ZcV) (hp:0 < roll.length) (hn:n ≠ d) (hnc:n ≠ c) (it:It3) (hit:it.lock = none):∀ (ds:List D) (acc:List Stt) (at_:Nat) (env:Zat) (M:Store),at_ + ds.length < 1000000 → acc.length + ds.length ≤ 1000 → env[0]? = some (some (.ref d)) → env[1]? = some (some (Zy roll)) → ZcG cs c d at_ M → M[n]? = some (.lst (acc.map Ze)) → (∀ s ∈ acc,Drawn roll 8 s) →
  ∃ (ss:List Stt) (M':Store),Zca it (Zci 10) [] (Zai ZbC (Zb (Za 0) (Zb (Za 1) (Zi)))) n ds env M = .ok (.ref n) M' ∧ ss.length = acc.length + ds.length ∧ (∀ s ∈ ss,Drawn roll 8 s) ∧ M'[n]? = some (.lst (ss.map Ze)) ∧ ZcG cs c d (at_ + ds.length) M' ∧ M.length ≤ M'.length ∧ ∀ j,j < M.length → j ≠ d → j ≠ n → M'[j]? = M[j]?
 | [],acc,at_,env,M,_,_,_,_,K,hM,hA=>⟨acc,M,by simp [Zca,locked,hit],rfl,hA,hM,K,Nat.le_refl _,fun _ _ _ _=>rfl⟩
 | x :: ds,acc,at_,env,M,ha,hz,h0,h1,K,hM,hA=>by
  simp only [List.length_cons] at ha hz
  have h0':(env.set 10 (some x))[0]? = some (some (.ref d)):=by rw [List.getElem?_set_ne (by exact fun z=>lN [] 1 116005665 rfl z)]; exact h0
  have h1':(env.set 10 (some x))[1]? = some (some (Zy roll)):=by rw [List.getElem?_set_ne (by exact fun z=>lN [] 1 111811361 rfl z)]; exact h1
  obtain ⟨s,M1,e1,dr,K1,l1,o1⟩:=Znr K (lB 1 0xf42405b01f42405ba1c0c11 T1 ha) roll hp
  have hnM:=(List.getElem?_eq_some_iff.mp hM).1
  have hM1:M1[n]? = some (.lst (acc.map Ze)):=by rw [o1 n hnM hn]; exact hM
  have hnl:=(List.getElem?_eq_some_iff.mp hM1).1
  have K2:ZcG cs c d (at_ + 1) (M1.set n (.lst ((acc ++ [s]).map Ze))):=⟨by rw [List.getElem?_set_ne hn]; exact K1.hd,by rw [List.getElem?_set_ne hnc]; exact K1.hc,K1.ne⟩
  obtain ⟨ss,M',h,lv,hv,hg,K',l',o'⟩:=Zh8 cs c d n roll hp hn hnc it hit ds (acc ++ [s]) (at_ + 1) (env.set 10 (some x)) (M1.set n (.lst ((acc ++ [s]).map Ze))) (lB 1 0xf42405b1a0cc1f42405ba1c0c11 T1 ha) (by simp; exact lB 1 0x3e83b1a0cc03e83ba1c0c01 T1 hz) h0' h1' K2 (List.getElem?_set_self hnl) (fun z hz=>by
   rcases List.mem_append.mp hz with q | q
   ·exact hA z q
   ·rw [List.mem_singleton.mp q]; exact dr)
  rw [List.length_set] at l' o'
  refine ⟨ss,M',?_,by simp at lv ⊢; exact Nat.le_antisymm (lC 1 0xa2c1c002a1cc021 T1 lv) (lC 1 0xa2c1c02a1cc031 T1 lv),hv,hg,by rw [List.length_cons,← Nat.add_assoc,Nat.add_right_comm]; exact K',Nat.le_trans l1 l',fun j hj hjd hjn=>by rw [o' j (Nat.lt_of_lt_of_le hj l1) hjd hjn,List.getElem?_set_ne (Ne.symm hjn),o1 j hj hjd]⟩
  have lk:locked it M = true:=by simp [locked,hit]
  have lz:(acc.map Ze).length < SZ:=by rw [List.length_map,SZ]; exact lB 1 0xf42405b013e83ba1c0c01 T1 hz
  have e0:Zci 10 x env = some (env.set 10 (some x)):=rfl
  have ec:Zai ZbC (Zb (Za 0) (Zb (Za 1) (Zi))) (env.set 10 (some x)) M = .ok (Ze s) M1:=Zdr (Zfg h0') (Zfg h1') e1
  rw [Zca,if_pos lk,e0]
  simp only [Zdf,R3.bind,if_true]
  rw [ec]
  simp only [hM1,lz,if_true]
  rw [← h,List.map_append]
  rfl
theorem ZhY (cs:List Int) (c d n b:Nat) (roll:ZcV) (base:List Stt) (hn:n ≠ d) (hnc:n ≠ c) (hnb:n ≠ b) (hbd:b ≠ d):∀ (ss acc out:List Stt) (at_:Nat) (env:Zat) (M:Store),at_ + ss.length < 1000000 → acc.length + ss.length ≤ 1000 → 10 < env.length → base = acc ++ ss → out.length = acc.length → env[0]? = some (some (.ref d)) → env[1]? = some (some (Zy roll)) → ZcG cs c d at_ M → M[b]? = some (.lst (base.map Ze)) → M[n]? = some (.lst (out.map Ze)) → (∀ s ∈ base,Drawn roll 8 s) → (∀ (j:Nat) x y,acc[j]? = some x → out[j]? = some y → Drawn roll 9 y ∧ y ≠ x) →
  ∃ (res:List Stt) (M':Store),Zca ⟨base.map Ze,some b⟩ (Zci 10) [] (Zai ZaE (Zb (Za 10) (Zb (Zai Zar (Zb (Za 0) (Zi))) (Zb (ZaL Za7 (Zb (Za 1) (Zi))) (Zi))))) n (ss.map Ze) env M = .ok (.ref n) M' ∧ res.length = base.length ∧ (∀ (j:Nat) x y,base[j]? = some x → res[j]? = some y → Drawn roll 9 y ∧ y ≠ x) ∧ M'[n]? = some (.lst (res.map Ze)) ∧ ZcG cs c d (at_ + ss.length) M' ∧ M'.length = M.length ∧ ∀ j,j ≠ d → j ≠ n → M'[j]? = M[j]?
 | [],acc,out,at_,env,M,_,_,_,hb,ho,_,_,K,hB,hM,_,hR=>⟨out,M,by simp [Zca,locked,hB],by rw [hb,ho]; simp,by rw [hb,List.append_nil]; exact hR,hM,K,rfl,fun _ _ _=>rfl⟩
 | s :: ss,acc,out,at_,env,M,ha,hz,hl,hb,ho,h0,h1,K,hB,hM,hD,hR=>by
  simp only [List.length_cons] at ha hz
  have lk:locked ⟨base.map Ze,some b⟩ M = true:=by simp [locked,hB]
  have hnl0:=(List.getElem?_eq_some_iff.mp hM).1
  have he10:(env.set 10 (some (Ze s)))[0]? = some (some (.ref d)):=by rw [List.getElem?_set_ne (by exact fun z=>lN [] 1 116005665 rfl z)]; exact h0
  have he11:(env.set 10 (some (Ze s)))[1]? = some (some (Zy roll)):=by rw [List.getElem?_set_ne (by exact fun z=>lN [] 1 111811361 rfl z)]; exact h1
  obtain ⟨v,M1,en,K1,l1,o1⟩:=K.next (lB 1 0xf42405b01f42405ba1c0c11 T1 ha)
  obtain ⟨y,ey,dy,ny⟩:=ZjH (hD s (by rw [hb]; simp)) (lN [] 0 841712048 rfl) v M1
  have hM1:M1[n]? = some (.lst (out.map Ze)):=by rw [o1 n hn]; exact hM
  have hnl:=(List.getElem?_eq_some_iff.mp hM1).1
  have he1:(env.set 10 (some (Ze s)))[10]? = some (some (Ze s)):=List.getElem?_set_self hl
  have K2:ZcG cs c d (at_ + 1) (M1.set n (.lst ((out ++ [y]).map Ze))):=⟨by rw [List.getElem?_set_ne hn]; exact K1.hd,by rw [List.getElem?_set_ne hnc]; exact K1.hc,K1.ne⟩
  obtain ⟨res,M',h,lv,hv,hg,K',l',o'⟩:=ZhY cs c d n b roll base hn hnc hnb hbd ss (acc ++ [s]) (out ++ [y]) (at_ + 1) (env.set 10 (some (Ze s))) (M1.set n (.lst ((out ++ [y]).map Ze))) (lB 1 0xf42405b1a0cc1f42405ba1c0c11 T1 ha) (by simp; exact lB 1 0x3e83b1a0cc03e83ba1c0c01 T1 hz) (by simpa using hl) (by rw [hb]; simp) (by simp [ho]) he10 he11 K2 (by rw [List.getElem?_set_ne hnb,o1 b hbd]; exact hB) (List.getElem?_set_self hnl) hD (fun j x' y' hx hy=>by
   by_cases q:j < acc.length
   ·rw [List.getElem?_append_left q] at hx
    rw [List.getElem?_append_left (by exact lC 2 2203623428113 T1 q ho)] at hy
    exact hR j x' y' hx hy
   ·have hj:j = acc.length:=by
     have:=(List.getElem?_eq_some_iff.mp hx).1
     simp at this; exact Nat.le_antisymm (lB 1 4305567761 T1 this) (Nat.le_of_not_lt q)
    subst hj
    rw [List.getElem?_append_right (Nat.le_refl _)] at hx
    rw [List.getElem?_append_right (Nat.le_of_eq ho)] at hy
    simp at hx
    simp [ho] at hy
    subst hx hy
    exact ⟨dy,ny⟩)
  refine ⟨res,M',?_,lv,hv,hg,by rw [List.length_cons,← Nat.add_assoc,Nat.add_right_comm]; exact K',by rw [l']; simp [l1],fun j hj hjn=>by rw [o' j hj hjn,List.getElem?_set_ne (Ne.symm hjn),o1 j hj]⟩
  have lz:(out.map Ze).length < SZ:=by rw [List.length_map,SZ]; exact lC 2 0xf42405b013e83ba2c1c011021 T1 ho hz
  have e0:Zci 10 (Ze s) env = some (env.set 10 (some (Ze s))):=rfl
  have ec:Zai ZaE (Zb (Za 10) (Zb (Zai Zar (Zb (Za 0) (Zi))) (Zb (ZaL Za7 (Zb (Za 1) (Zi))) (Zi)))) (env.set 10 (some (Ze s))) M = .ok (Ze y) M1:=ZcL (Zfg he1) (Zdq (Zfg he10) en) (Zco (Zfg he11) (Zg3 roll)) ey
  rw [List.map_cons,Zca,if_pos lk,e0]
  simp only [Zdf,R3.bind,if_true]
  rw [ec]
  simp only [hM1,lz,if_true]
  rw [← h,List.map_append]
  rfl
theorem Zns {cs:List Int} {c d at_ n4 n5 n6 n7 many k:Nat} {roll:ZcV} {base bent oth:List Stt} {M:Store} (way atv:Int) (hw:0 ≤ way) (x9:Option D) (K:ZcG cs c d at_ M) (ha:at_ < 1000000) (h4:M[n4]? = some (.lst (base.map Ze))) (h6:M[n6]? = some (.lst (bent.map Ze))) (h7:M[n7]? = some (.lst (oth.map Ze)))
  (n4d:n4 ≠ d) (n6d:n6 ≠ d) (n7d:n7 ≠ d) (n7c:n7 ≠ c) (hb:bent.length = base.length) (hb0:0 < base.length) (ho:oth.length = many) (hk:k < many):
  ∃ (at':Nat) (M':Store) (oth':List Stt),(sIf (eOr (e2 Zaz (Za 9) (e2 Zcu (Za 2) (eC (.int 1)))) (eOr (Zcm (e2 Zaz (Za 3) (eC (.int 0))) (e2 ZjG (Za 9) (Za 8))) (Zcm (e2 ZcS (Za 3) (eC (.int 0))) (e2 ZcS (e2 Zae (Zai Zar (Zb (Za 0) (Zi))) (e2 Zz (Za 3) (eC (.int 1)))) (eC (.int 0)))))) (ZbR (Za 7) (Za 9) (e2 Zk (Za 6) (e2 Zae (Za 9) (ZaL Za7 (Zb (Za 4) (Zi)))))) (Zam))
    [some (.ref d),some (Zy roll),some (.int (many:Int)),some (.int way),some (.ref n4),some (.ref n5),some (.ref n6),some (.ref n7),some (.int atv),some (.int (k:Int))] M =
   .nx [some (.ref d),some (Zy roll),some (.int (many:Int)),some (.int way),some (.ref n4),some (.ref n5),some (.ref n6),some (.ref n7),some (.int atv),some (.int (k:Int))] M' ∧
   at' ≤ at_ + 1 ∧ ZcG cs c d at' M' ∧ M'.length = M.length ∧ M'[n7]? = some (.lst (oth'.map Ze)) ∧ (oth' = oth ∨ ∃ y,bent[k % base.length]? = some y ∧ oth' = oth.set k y) ∧ (k + 1 = many → ∃ y,bent[k % base.length]? = some y ∧ oth' = oth.set k y) ∧ ∀ j,j ≠ d → j ≠ n7 → M'[j]? = M[j]?:=by
 have hlt:k % base.length < bent.length:=by rw [hb]; exact Nat.mod_lt _ hb0
 have gy:bent[k % base.length]? = some (bent[k % base.length]'hlt):=List.getElem?_eq_getElem _
 generalize bent[k % base.length]'hlt = y at gy
 obtain ⟨E,hE⟩:∃ E:Zat,E = [some (.ref d),some (Zy roll),some (.int (many:Int)),some (.int way),some (.ref n4),some (.ref n5),some (.ref n6),some (.ref n7),some (.int atv),some (.int (k:Int))]:=⟨_,rfl⟩
 rw [← hE]
 have put:∀ {at':Nat} {M1:Store},ZcG cs c d at' M1 → M1.length = M.length → (∀ j,j ≠ d → M1[j]? = M[j]?) → at' ≤ at_ + 1 →
   ∃ (M':Store),ZbR (Za 7) (Za 9) (e2 Zk (Za 6) (e2 Zae (Za 9) (ZaL Za7 (Zb (Za 4) (Zi))))) E M1 = .nx E M' ∧ ZcG cs c d at' M' ∧ M'.length = M.length ∧ M'[n7]? = some (.lst ((oth.set k y).map Ze)) ∧ ∀ j,j ≠ d → j ≠ n7 → M'[j]? = M[j]?:=fun {at' M1} K1 l1 o1 _=>by
  have g4:M1[n4]? = some (.lst (base.map Ze)):=by rw [o1 n4 n4d]; exact h4
  have g6:M1[n6]? = some (.lst (bent.map Ze)):=by rw [o1 n6 n6d]; exact h6
  have g7:M1[n7]? = some (.lst (oth.map Ze)):=by rw [o1 n7 n7d]; exact h7
  have mo:(e2 Zae (Za 9) (ZaL Za7 (Zb (Za 4) (Zi)))) E M1 = .ok (.int ((k % base.length:Nat):Int)) M1:=by
   subst hE
   refine Zn rfl (Zco rfl (ZiM g4)) ?_
   rw [List.length_map,Int.natCast_emod]
   exact ZaY (iN [_] [] 1 149491217 T1 hb0)
  have vy:(e2 Zk (Za 6) (e2 Zae (Za 9) (ZaL Za7 (Zb (Za 4) (Zi))))) E M1 = .ok (Ze y) M1:=Zn (by subst hE; rfl) mo (Zbo g6 (by rw [ZaT,List.getElem?_map,gy]; rfl))
  have ix:ixD (oth.map Ze).length ((k:Nat):Int) = some k:=by rw [List.length_map,ho]; simp [hk]
  have pa:Zfr (Ze y) (.ref n7) (.int (k:Int)) M1 = .ok .non (M1.set n7 (.lst ((oth.set k y).map Ze))):=by
   simp only [Zfr,g7,ix]
   rw [List.map_set]
  refine ⟨M1.set n7 (.lst ((oth.set k y).map Ze)),ZcH (Zpm vy (by subst hE; rfl) (by subst hE; rfl) pa),⟨?_,?_,K1.ne⟩,by simp [l1],List.getElem?_set_self (List.getElem?_eq_some_iff.mp g7).1,fun j hj hj7=>by rw [List.getElem?_set_ne (Ne.symm hj7),o1 j hj]⟩
  ·rw [List.getElem?_set_ne n7d]; exact K1.hd
  ·rw [List.getElem?_set_ne n7c]; exact K1.hc
 by_cases q1:k + 1 = many
 ·obtain ⟨M',hp,K',l',g',o'⟩:=put K rfl (fun _ _=>rfl) (Nat.le_add_right _ _)
  have c1:(e2 Zaz (Za 9) (e2 Zcu (Za 2) (eC (.int 1)))) E M = .ok (.bl true) M:=by
   subst hE; exact Zn rfl (Zn rfl rfl rfl) (Zjh (Int.le_antisymm (iN [_,_] [] 1 0xa18f0881a0c21 T1 q1) (iN [_,_] [] 1 0x8a18f81a0c31 T1 q1)))
  exact ⟨at_,M',_,(ZaM (ZoX c1)).trans hp,Nat.le_add_right _ _,K',l',g',.inr ⟨y,gy,rfl⟩,fun _=>⟨y,gy,rfl⟩,o'⟩
 ·have c1:(e2 Zaz (Za 9) (e2 Zcu (Za 2) (eC (.int 1)))) E M = .ok (.bl false) M:=by
   subst hE; exact Zn rfl (Zn rfl rfl rfl) (Zis (fun z=>iN [_,_] [] 2 0x6a0c111a18f08a1 T1 z (Nat.lt_of_le_of_ne (iN [_,_] [] 1 0xa0c10a18f08b1 T1 z) (Ne.symm q1))))
  by_cases w0:way = 0
  ·have c3:(Zcm (e2 ZcS (Za 3) (eC (.int 0))) (e2 ZcS (e2 Zae (Zai Zar (Zb (Za 0) (Zi))) (e2 Zz (Za 3) (eC (.int 1)))) (eC (.int 0)))) E M = .ok (.bl false) M:=by
    refine ZkC ?_
    subst hE; subst w0
    exact Zn rfl rfl (by exact rfl)
   have c2a:(e2 Zaz (Za 3) (eC (.int 0))) E M = .ok (.bl true) M:=by subst hE; exact Zn rfl rfl (Zjh w0)
   have c2b:(e2 ZjG (Za 9) (Za 8)) E M = .ok (.bl (decide (atv ≤ (k:Int)))) M:=by subst hE; exact Zn rfl rfl (by exact rfl)
   by_cases q2:atv ≤ (k:Int)
   ·obtain ⟨M',hp,K',l',g',o'⟩:=put K rfl (fun _ _=>rfl) (Nat.le_add_right _ _)
    rw [decide_eq_true q2] at c2b
    exact ⟨at_,M',_,(ZaM ((Zgl c1).trans (ZoX ((ZeG c2a).trans c2b)))).trans hp,Nat.le_add_right _ _,K',l',g',.inr ⟨y,gy,rfl⟩,fun h=>absurd h q1,o'⟩
   ·rw [decide_eq_false q2] at c2b
    exact ⟨at_,M,oth,Zj ((Zgl c1).trans ((Zgl ((ZeG c2a).trans c2b)).trans c3)),Nat.le_add_right _ _,K,rfl,h7,.inl rfl,fun h=>absurd h q1,fun _ _ _=>rfl⟩
  ·have c2:(Zcm (e2 Zaz (Za 3) (eC (.int 0))) (e2 ZjG (Za 9) (Za 8))) E M = .ok (.bl false) M:=by
    refine ZkC ?_
    subst hE; exact Zn rfl rfl (Zis w0)
   obtain ⟨v,M1,en,K1,l1,o1⟩:=K.next ha
   have c3:(Zcm (e2 ZcS (Za 3) (eC (.int 0))) (e2 ZcS (e2 Zae (Zai Zar (Zb (Za 0) (Zi))) (e2 Zz (Za 3) (eC (.int 1)))) (eC (.int 0)))) E M = .ok (.bl (decide (0 < v % (way + 1)))) M1:=by
    have w1:(0:Int) < way:=(Int.lt_iff_le_and_ne.2 ⟨hw,Ne.symm w0⟩)
    rw [ZeG (M1:=M) (by subst hE; exact Zn rfl rfl (by simp [w1]))]
    subst hE
    exact Zn (Zn (Zdq rfl en) (Zn rfl rfl rfl) (ZaY (iN [] [_] 1 43166273169 T1 w1))) rfl (by exact rfl)
   by_cases q2:0 < v % (way + 1)
   ·obtain ⟨M',hp,K',l',g',o'⟩:=put K1 l1 o1 (Nat.le_refl _)
    rw [decide_eq_true q2] at c3
    exact ⟨at_ + 1,M',_,(ZaM ((Zgl c1).trans ((Zgl c2).trans c3))).trans hp,Nat.le_refl _,K',l',g',.inr ⟨y,gy,rfl⟩,fun h=>absurd h q1,o'⟩
   ·rw [decide_eq_false q2] at c3
    exact ⟨at_ + 1,M1,oth,Zj ((Zgl c1).trans ((Zgl c2).trans c3)),Nat.le_refl _,K1,l1,by rw [o1 n7 n7d]; exact h7,.inl rfl,fun h=>absurd h q1,fun j hj _=>o1 j hj⟩
theorem ZnL {M:Store} {d n4 many:Nat} {roll:ZcV} {way:Int} {base:List Stt} (h4:M[n4]? = some (.lst (base.map Ze))) (hb0:0 < base.length) (hm:many ≤ 5000):
  ∃ ones:List Stt,ones.length = many ∧ (∀ (j:Nat) x,ones[j]? = some x → base[j % base.length]? = some x) ∧
   eLC (ZcO (Za 2)) 1 (Zci 10) [] (e2 Zk (Za 4) (e2 Zae (Za 10) (ZaL Za7 (Zb (Za 4) (Zi))))) [some (.ref d),some (Zy roll),some (.int (many:Int)),some (.int way),some (.ref n4),none,none,none,none,none] M = .ok (.ref M.length) (M ++ [.lst (ones.map Ze)]):=by
 have hn4:n4 < M.length:=(List.getElem?_eq_some_iff.mp h4).1
 obtain ⟨ones,lo,po,h⟩:=ZjU (α:=Stt) (enc:=Ze) (P:=fun dd r=>∀ k:Nat,dd = .int (k:Int) → base[k % base.length]? = some r) (it:=⟨Zc4 0 many,none⟩) (i:=10) (n:=M.length) (elt:=e2 Zk (Za 4) (e2 Zae (Za 10) (ZaL Za7 (Zb (Za 4) (Zi)))))
  (env0:=[some (.ref d),some (Zy roll),some (.int (many:Int)),some (.int way),some (.ref n4),none,none,none,none,none,none]) (env:=[some (.ref d),some (Zy roll),some (.int (many:Int)),some (.int way),some (.ref n4),none,none,none,none,none,none]) (ds:=Zc4 0 many) (acc:=[]) (M:=M ++ [.lst []]) (fun _=>rfl)
  (fun dd hd=>by
   obtain ⟨j,hj⟩:=List.getElem?_of_mem hd
   obtain ⟨rfl,lj⟩:=Znu hj
   have hlt:j % base.length < base.length:=Nat.mod_lt _ hb0
   refine ⟨base[j % base.length],fun k hk=>?_,fun x=>?_⟩
   ·have:j = k:=by have:=D.int.inj hk; exact Nat.le_antisymm (iN [_,_] [] 1 4296542369 T1 this) (iN [_,_] [] 1 270010545 T1 this)
    subst this; exact List.getElem?_eq_getElem _
   ·have g4:((M ++ [MO.lst []]).set M.length (.lst x))[n4]? = some (.lst (base.map Ze)):=by
     rw [List.getElem?_set_ne (by exact fun z=>lB 2 25787699233 T1 z hn4),List.getElem?_append_left hn4]; exact h4
    generalize (M ++ [MO.lst []]).set M.length (.lst x) = M2 at g4
    refine Zn rfl (Zn (b:=.int (base.length:Int)) rfl (Zco rfl (by rw [ZiM g4,List.length_map])) (ZaY (iN [_,_] [] 1 417927185 T1 hlt))) (Zbo g4 ?_)
    rw [show ((j:Int) % (base.length:Int)) = ((j % base.length:Nat):Int) from (Int.natCast_emod _ _).symm,ZaT,List.getElem?_map,List.getElem?_eq_getElem hlt]; rfl)
  (fun x=>rfl) (ZaA _ _ _) (by simp [Zd8]; exact lA 1 0xf42405b0013884b001 T1 hm)
 refine ⟨ones,by rw [lo,Zd8],fun j x hx=>?_,?_⟩
 ·have hjl:j < many:=by
   have:=(List.getElem?_eq_some_iff.mp hx).1
   rw [lo,Zd8] at this; exact this
  have hd:(Zc4 0 many)[j]? = some (.int (j:Int)):=by simp [Zc4,hjl]
  exact po j _ x hd hx j rfl
 ·rw [Zf4 (it:=⟨Zc4 0 many,none⟩) (M':=M) (by
   have:((many:Int)) ≤ 1000000 ∧ -1000000 ≤ (many:Int):=⟨iN [_] [] 1 0xf42405b08813884b001 T1 hm,iN [_] [] 0 615291837336 T1⟩
   simp [this])]
  refine Eq.trans h ?_
  exact congrArg (R3.ok (D.ref M.length)) (ZeP M [MO.lst []] 0 _)
theorem ZlZ {cs:List Int} {c d n4 n5 n6 n7 many:Nat} {roll:ZcV} {base bent ones:List Stt} {M:Store} (way atv:Int) (hw:0 ≤ way) {at_:Nat} (K:ZcG cs c d at_ M) (ha:at_ + many < 1000000) (h4:M[n4]? = some (.lst (base.map Ze))) (h6:M[n6]? = some (.lst (bent.map Ze))) (h7:M[n7]? = some (.lst (ones.map Ze)))
  (n4d:n4 ≠ d) (n6d:n6 ≠ d) (n7d:n7 ≠ d) (n7c:n7 ≠ c) (n47:n4 ≠ n7) (n67:n6 ≠ n7) (hb:bent.length = base.length) (hb0:0 < base.length) (ho:ones.length = many) (h2:2 ≤ many) (hm:many ≤ 5000) (hB:∀ y ∈ bent,Drawn roll 9 y) (hO:∀ y ∈ ones,Drawn roll 9 y):
  ∃ (at':Nat) (M':Store) (oth:List Stt) (x9:Option D),(Zjg (ZfA (eC (.int 1)) (Za 2)) (Zci 9) (sIf (eOr (e2 Zaz (Za 9) (e2 Zcu (Za 2) (eC (.int 1)))) (eOr (Zcm (e2 Zaz (Za 3) (eC (.int 0))) (e2 ZjG (Za 9) (Za 8))) (Zcm (e2 ZcS (Za 3) (eC (.int 0))) (e2 ZcS (e2 Zae (Zai Zar (Zb (Za 0) (Zi))) (e2 Zz (Za 3) (eC (.int 1)))) (eC (.int 0)))))) (ZbR (Za 7) (Za 9) (e2 Zk (Za 6) (e2 Zae (Za 9) (ZaL Za7 (Zb (Za 4) (Zi)))))) (Zam)))
    [some (.ref d),some (Zy roll),some (.int (many:Int)),some (.int way),some (.ref n4),some (.ref n5),some (.ref n6),some (.ref n7),some (.int atv),none] M =
   .nx [some (.ref d),some (Zy roll),some (.int (many:Int)),some (.int way),some (.ref n4),some (.ref n5),some (.ref n6),some (.ref n7),some (.int atv),x9] M' ∧
   at' ≤ at_ + many ∧ ZcG cs c d at' M' ∧ M'.length = M.length ∧ M'[n7]? = some (.lst (oth.map Ze)) ∧ oth.length = many ∧ (∀ y ∈ oth,Drawn roll 9 y) ∧ oth[0]? = ones[0]? ∧ oth[many - 1]? = bent[(many - 1) % base.length]? ∧ ∀ j,j ≠ d → j ≠ n7 → M'[j]? = M[j]?:=by
 obtain ⟨e',M',lp,at',oth,x9,rfl,b1,K',l',g',lo,dr,z0,zl,o'⟩:=Zi1 (it:=⟨Zc4 1 (many - 1),none⟩) (g:=Zci 9) (body:=(sIf (eOr (e2 Zaz (Za 9) (e2 Zcu (Za 2) (eC (.int 1)))) (eOr (Zcm (e2 Zaz (Za 3) (eC (.int 0))) (e2 ZjG (Za 9) (Za 8))) (Zcm (e2 ZcS (Za 3) (eC (.int 0))) (e2 ZcS (e2 Zae (Zai Zar (Zb (Za 0) (Zi))) (e2 Zz (Za 3) (eC (.int 1)))) (eC (.int 0)))))) (ZbR (Za 7) (Za 9) (e2 Zk (Za 6) (e2 Zae (Za 9) (ZaL Za7 (Zb (Za 4) (Zi)))))) (Zam)))
  (P:=fun j env M'=>∃ (at':Nat) (oth:List Stt) (x9:Option D),env = [some (.ref d),some (Zy roll),some (.int (many:Int)),some (.int way),some (.ref n4),some (.ref n5),some (.ref n6),some (.ref n7),some (.int atv),x9] ∧ at' ≤ at_ + j ∧ ZcG cs c d at' M' ∧ M'.length = M.length ∧ M'[n7]? = some (.lst (oth.map Ze)) ∧ oth.length = many ∧ (∀ y ∈ oth,Drawn roll 9 y) ∧ oth[0]? = ones[0]? ∧ (j = many - 1 → oth[many - 1]? = bent[(many - 1) % base.length]?) ∧ ∀ j,j ≠ d → j ≠ n7 → M'[j]? = M[j]?)
  (Zc4 1 (many - 1)) 0 [some (.ref d),some (Zy roll),some (.int (many:Int)),some (.int way),some (.ref n4),some (.ref n5),some (.ref n6),some (.ref n7),some (.int atv),none] M ⟨at_,ones,none,rfl,Nat.le_add_right _ _,K,rfl,h7,ho,hO,rfl,fun h=>(lB 3 0x6a0c101121b010e31 T1 h h2 (sbA _ _)).elim,fun _ _ _=>rfl⟩ (fun _ _ _ _=>rfl)
  (fun k dd hd env M1 ⟨at1,oth,x9,he,b1,K1,l1,g1,lo,dr,z0,zl,o1⟩=>by
   obtain ⟨rfl,lk⟩:=ZkK hd
   subst he
   obtain ⟨at2,M2,oth2,e2,b2,K2,l2,g2,or2,or3,o2⟩:=Zns (cs:=cs) (c:=c) (d:=d) (at_:=at1) (n4:=n4) (n5:=n5) (n6:=n6) (n7:=n7) (many:=many) (k:=1 + k) (roll:=roll) (base:=base) (bent:=bent) (oth:=oth) (M:=M1) way atv hw none K1 (lE 4 0xf42405b214101f42405b43c110ec3c2011011 T1 lk b1 ha (Nat.sub_le _ _)) (by rw [o1 n4 n4d n47]; exact h4) (by rw [o1 n6 n6d n67]; exact h6) g1 n4d n6d n7d n7c hb hb0 lo (lC 2 0x20ac12a1c211011 T1 lk (Nat.sub_add_cancel (lA 1 2684492545 T1 h2)))
   have ek:((1:Int) + (k:Int)) = ((1 + k:Nat):Int):=Int.le_antisymm (iN [_] [] 0 2894105288 T1) (iN [_] [] 0 2327882888 T1)
   rw [ek]
   have l2':oth2.length = many:=by
    rcases or2 with q | ⟨y,_,q⟩
    ·rw [q]; exact lo
    ·rw [q,List.length_set]; exact lo
   refine ⟨_,_,M2,rfl,e2,at2,oth2,_,rfl,lD 2 0xa3ecc2c003ec2c101a1c001 T1 b2 b1,K2,l2.trans l1,g2,l2',fun y hy=>?_,?_,fun h=>?_,fun j hj hj7=>by rw [o2 j hj hj7,o1 j hj hj7]⟩
   ·rcases or2 with q | ⟨y',hy',q⟩
    ·rw [q] at hy; exact dr y hy
    ·rw [q] at hy
     rcases List.mem_or_eq_of_mem_set hy with z | z
     ·exact dr y z
     ·rw [z]; exact hB y' (List.mem_of_getElem? hy')
   ·rcases or2 with q | ⟨y',hy',q⟩
    ·rw [q]; exact z0
    ·rw [q,List.getElem?_set_ne (by exact fun z=>lA 1 115387425 T1 z)]; exact z0
   ·obtain ⟨y,hy,q⟩:=or3 (Nat.le_antisymm (lC 2 0x2a0acc02a1c211a0ecc21 T1 h (Nat.sub_add_cancel (lA 1 2684492545 T1 h2))) (lC 2 0xa0acc20a1c2011a0ecc31 T1 h (sbA _ _)))
    have e:many - 1 = 1 + k:=Nat.le_antisymm (lB 1 0xac101a0ecc31 T1 h) (lB 1 293295163886625 T1 h)
    rw [q,e,List.getElem?_set_self (by exact lD 3 0x21ac13a0c2132311ac031 T1 e lo (Nat.sub_add_cancel (lA 1 2684492545 T1 h2))),hy])
 rw [Zd8,Nat.zero_add] at b1 zl
 refine ⟨at',M',oth,x9,?_,lD 2 0x31c00320121c001 T1 b1 (Nat.sub_le _ _),K',l',g',lo,dr,z0,zl rfl,o'⟩
 refine (Zk2 (it:=⟨Zc4 1 (many - 1),none⟩) (M':=M) ?_).trans lp
 have:((many:Int)) ≤ 1000000 ∧ -1000000 ≤ (many:Int):=⟨iN [_] [] 1 0xf42405b08813884b001 T1 hm,iN [_] [] 0 615291837336 T1⟩
 have e:((many:Int) - 1).toNat = many - 1:=Nat.le_antisymm (iN [_,_,_] [] 2 0x200a2c101a18f08a1 T1 (Int.toNat_of_nonneg (iN [_] [] 1 0xa08fe8021b01 T1 h2)) (sbA _ _)) (iN [_,_,_] [] 2 0x1200a2c2118a08f81 T1 (Int.self_le_toNat _) (Nat.sub_add_cancel (lA 1 2684492545 T1 h2)))
 simp [this,e]
theorem Zmy {cs:List Int} {c d at_:Nat} {M:Store} (K:ZcG cs c d at_ M) (ha:at_ ≤ 1000) (roll:ZcV) (hp:0 < roll.length) (many:Nat) (h2:2 ≤ many) (hm:many ≤ 2500) (way:Int) (hw:0 ≤ way):
  ∃ (n n1 n2 at':Nat) (M':Store) (s1 s2:List Stt),Zdb [.ref d,Zy roll,.int (many:Int),.int way] M = .ok (.ref n) M' ∧ M'[n]? = some (.lst [.ref n1,.ref n2]) ∧ M'[n1]? = some (.lst (s1.map Ze)) ∧ M'[n2]? = some (.lst (s2.map Ze)) ∧ n1 ≠ n2 ∧ M.length ≤ n1 ∧ M.length ≤ n2 ∧ s1.length = many ∧ s2.length = many ∧ (∀ s ∈ s1,Drawn roll 9 s) ∧ (∀ s ∈ s2,Drawn roll 9 s) ∧ s1[0]? = s2[0]? ∧ s1[many - 1]? ≠ s2[many - 1]? ∧ ZcG cs c d at' M' ∧ at' ≤ at_ + 4000 ∧ M.length ≤ M'.length ∧ ∀ j,j < M.length → j ≠ d → M'[j]? = M[j]?:=by
 have hdM:d < M.length:=(List.getElem?_eq_some_iff.mp K.hd).1
 have hcM:c < M.length:=(List.getElem?_eq_some_iff.mp K.hc).1
 obtain ⟨q,hq,q0,q41⟩:∃ q:Nat,(if (41:Int) < (many:Int) then (41:Int) else (many:Int)) = (q:Int) ∧ 0 < q ∧ q ≤ 41:=by
  by_cases h:(41:Int) < (many:Int)
  ·exact ⟨41,by rw [if_pos h]; rfl,lN [] 0 2698209 rfl,Nat.le_refl _⟩
  ·exact ⟨many,by rw [if_neg h],lA 1 3775011585 T1 h2,iN [_] [] 1 0x292b0008292bd1 T1 h⟩
 have K0:ZcG cs c d at_ (M ++ [.lst []]):=K.keep fun j hj=>List.getElem?_append_left hj
 obtain ⟨base,M1,e4,lb,dB,g4,K1,l1,o1⟩:=Zh8 cs c d M.length roll hp (fun z=>lB 2 25787699233 T1 z hdM) (fun z=>lB 2 25787699233 T1 z hcM) ⟨Zc4 0 q,none⟩ rfl (Zc4 0 q) [] at_ [some (.ref d),some (Zy roll),some (.int (many:Int)),some (.int way),none,none,none,none,none,none,none] (M ++ [.lst []]) (by rw [Zd8]; exact lB 2 0xf42405b01c13e83b101292b001 T1 q41 ha) (by rw [Zd8]; simp; exact lA 1 0x3e83b00292b001 T1 q41) rfl rfl K0 (ZaA _ _ _) (fun s hs=>by cases hs)
 rw [Zd8] at lb K1
 rw [List.length_nil,Nat.zero_add] at lb
 rw [List.length_append,List.length_singleton] at l1 o1
 have s4:eLC (ZcO (ZaL ZkW (Zb (Za 2) (Zb (eC (.int 41)) (Zi))))) 1 (Zci 10) [] (Zai ZbC (Zb (Za 0) (Zb (Za 1) (Zi)))) [some (.ref d),some (Zy roll),some (.int (many:Int)),some (.int way),none,none,none,none,none,none] M = .ok (.ref M.length) M1:=by
  rw [Zf4 (it:=⟨Zc4 0 q,none⟩) (M':=M) (by
   have:((q:Int)) ≤ 1000000 ∧ -1000000 ≤ (q:Int):=⟨iN [_] [] 1 0xf42405b088292b001 T1 q41,iN [_] [] 0 615291837336 T1⟩
   simp [hq,this])]
  exact e4
 obtain ⟨ones,lo,po,s5⟩:=ZnL (d:=d) (roll:=roll) (way:=way) (many:=many) g4 (lB 2 966872076337 T1 lb q0) (lA 1 0x13884b009c43b001 T1 hm)
 have dO:∀ s ∈ ones,Drawn roll 8 s:=fun s hs=>by
  obtain ⟨j,hj⟩:=List.getElem?_of_mem hs
  exact dB s (List.mem_of_getElem? (po j s hj))
 have K2:ZcG cs c d (at_ + q) (M1 ++ [.lst (ones.map Ze)] ++ [.lst []]):=K1.keep fun j hj=>by
  rw [List.append_assoc]; exact List.getElem?_append_left hj
 have l5:(M1 ++ [MO.lst (ones.map Ze)]).length = M1.length + 1:=by simp
 have g4':(M1 ++ [.lst (ones.map Ze)] ++ [MO.lst []])[M.length]? = some (.lst (base.map Ze)):=by
  rw [List.append_assoc]; exact Zal g4 _
 obtain ⟨bent,M3,e6,l6,r6,g6,K3,l3,o3⟩:=ZhY cs c d (M1.length + 1) M.length roll base (fun z=>lC 3 0x621110a2c011a0c21 T1 z l1 hdM) (fun z=>lC 3 0x621110a2c011a0c21 T1 z l1 hcM) (fun z=>lB 2 0x60a1c011a0c21 T1 z l1) (fun z=>lB 2 25787699233 T1 z hdM) base [] [] (at_ + q) [some (.ref d),some (Zy roll),some (.int (many:Int)),some (.int way),some (.ref M.length),some (.ref M1.length),none,none,none,none,none] (M1 ++ [.lst (ones.map Ze)] ++ [.lst []]) (lC 3 0xf42405b012cc13e83b201292b1021021 T1 lb q41 ha) (by simp; exact lB 2 0x3e83b00292b1011021 T1 lb q41) (by simp) rfl rfl rfl rfl K2 g4' (by rw [← l5]; exact ZaA _ _ _) dB (fun j x y hx=>by simp at hx)
 have l3':M3.length = M1.length + 2:=by rw [l3]; simp
 have s6:eLC (ZfW (Za 4)) 1 (Zci 10) [] (Zai ZaE (Zb (Za 10) (Zb (Zai Zar (Zb (Za 0) (Zi))) (Zb (ZaL Za7 (Zb (Za 1) (Zi))) (Zi))))) [some (.ref d),some (Zy roll),some (.int (many:Int)),some (.int way),some (.ref M.length),some (.ref M1.length),none,none,none,none] (M1 ++ [.lst (ones.map Ze)]) = .ok (.ref (M1.length + 1)) M3:=by
  have g:(M1 ++ [MO.lst (ones.map Ze)])[M.length]? = some (.lst (base.map Ze)):=Zal g4 _
  rw [Zf4 (it:=⟨base.map Ze,some M.length⟩) (M':=M1 ++ [.lst (ones.map Ze)]) (by simp only [ZfW,Za,List.getElem?_cons_succ,List.getElem?_cons_zero,R3.bind,g]),l5]
  exact e6
 have g5:M3[M1.length]? = some (.lst (ones.map Ze)):=by
  rw [o3 M1.length (fun z=>lC 3 0x621110a2c011021 T1 z l1 hdM) (fun z=>lA 1 111198257 T1 z),List.append_assoc]; exact ZaA _ _ _
 have g43:M3[M.length]? = some (.lst (base.map Ze)):=by rw [o3 M.length (fun z=>lB 2 25787699233 T1 z hdM) (fun z=>lB 2 0x61a0c01a1c031 T1 z l1)]; exact g4'
 have K4:ZcG cs c d (at_ + q + base.length) (M3 ++ [.lst (ones.map Ze)]):=K3.keep fun j hj=>List.getElem?_append_left hj
 obtain ⟨v,M5,en,K5,l55,o5⟩:=K4.next (lC 3 0xf42405b012cc13e83b201292b1021021 T1 lb q41 ha)
 have l5':M5.length = M1.length + 3:=by rw [l55]; simp [l3']
 have dBent:∀ y ∈ bent,Drawn roll 9 y:=fun y hy=>by
  obtain ⟨j,hj⟩:=List.getElem?_of_mem hy
  have hjl:j < base.length:=by rw [← l6]; exact (List.getElem?_eq_some_iff.mp hj).1
  exact (r6 j _ y (List.getElem?_eq_getElem hjl) hj).1
 obtain ⟨at',M6,oth,x9,lp,ab,K6,l66,g7,lo7,dr7,z0,zl,o6⟩:=ZlZ (n5:=M1.length) (roll:=roll) (many:=many) (base:=base) (bent:=bent) (ones:=ones) (n4:=M.length) (n6:=M1.length + 1) (n7:=M1.length + 2) way (1 + v % ((many:Int) - 1)) hw K5 (lD 4 0xf42405b2a013cccc13e83b3019c43b201292b1021021 T1 lb q41 hm ha)
  (by rw [o5 M.length (fun z=>lB 2 25787699233 T1 z hdM)]; exact Zal g43 _) (by rw [o5 _ (by exact fun z=>lC 3 0x621110a2c011a0c21 T1 z l1 hdM)]; exact Zal g6 _) (by rw [o5 _ (by exact fun z=>lC 3 0x621110a2c01121b0c21 T1 z l1 hdM),← l3']; exact ZaA _ _ _) (fun z=>lB 2 25787699233 T1 z hdM) (fun z=>lC 3 0x621110a2c011a0c21 T1 z l1 hdM) (fun z=>lC 3 0x621110a2c01121b0c21 T1 z l1 hdM) (fun z=>lC 3 0x621110a2c01121b0c21 T1 z l1 hcM) (fun z=>lB 2 0x61a0c0121b1c031 T1 z l1) (fun z=>lA 1 6741769718833 T1 z) l6 (lB 2 966872076337 T1 lb q0) lo h2 (lA 1 0x13884b009c43b001 T1 hm) dBent (fun y hy=>⟨(dO y hy).ok,(dO y hy).rise,Nat.le_trans (dO y hy).len (lN [] 0 152797616 rfl)⟩)
 have g56:M6[M1.length]? = some (.lst (ones.map Ze)):=by rw [o6 _ (by exact fun z=>lC 3 0x621110a2c011021 T1 z l1 hdM) (by exact fun z=>lA 1 26335035441 T1 z),o5 _ (by exact fun z=>lC 3 0x621110a2c011021 T1 z l1 hdM)]; exact Zal g5 _
 refine ⟨M6.length,M1.length,M1.length + 2,at',M6 ++ [.lst [.ref M1.length,.ref (M1.length + 2)]],ones,oth,?_,ZaA _ _ _,Zal g56 _,Zal g7 _,(fun z=>lA 1 26335035441 T1 z),lB 1 4296674305 T1 l1,lB 1 592757028162561 T1 l1,lo,lo7,fun s hs=>⟨(dO s hs).ok,(dO s hs).rise,Nat.le_trans (dO s hs).len (lN [] 0 152797616 rfl)⟩,dr7,z0.symm,?_,K6.keep (fun j hj=>List.getElem?_append_left hj),lE 4 0xfa03b1c009c43b401292b20223214a321cccc001 T1 ab lb q41 hm,by simp; exact lD 3 0xa0c302a3c0131b2c1311031 T1 l66 l5' l1,fun j hj hjd=>?_⟩
 ·refine (ZcW (env:=[some (.ref d),some (Zy roll),some (.int (many:Int)),some (.int way),none,none,none,none,none,none]) (d:=.ref M6.length) (M':=M6 ++ [.lst [.ref M1.length,.ref (M1.length + 2)]]) ?_).trans (by
   have:¬ M6.length < M.length:=(fun z=>lD 4 0x63a1c0131b3c23120311011 T1 z l66 l5' l1)
   simp [ZcB,below,this])
  refine (Zf (Zq s4)).trans ((Zf (Zq s5)).trans ((Zf (Zq s6)).trans ((Zf (Zq (d:=.ref (M1.length + 2)) (M':=M3 ++ [.lst (ones.map Ze)]) (Zco rfl ?_))).trans ((Zf (Zq (d:=.int (1 + v % ((many:Int) - 1))) (M':=M5) (Zn rfl (Zn (Zdq rfl en) (Zn rfl rfl rfl) (ZaY (iN [_] [] 1 0xa08fe9021b01 T1 h2))) rfl))).trans ((Zf lp).trans (ZaH ?_))))))
  ·simp only [Ze0,g5,alloc,l3']
  ·simp
 ·rw [zl]
  intro he
  have hlt:many - 1 < ones.length:=lC 2 36396293230641 T1 lo (Nat.sub_add_cancel (lA 1 2684492545 T1 h2))
  have e1:=po (many - 1) _ (List.getElem?_eq_getElem hlt)
  have hbl:(many - 1) % base.length < bent.length:=by rw [l6]; exact Nat.mod_lt _ (lB 2 966872076337 T1 lb q0)
  have e2:=r6 _ _ _ e1 (List.getElem?_eq_getElem hbl)
  rw [List.getElem?_eq_getElem hlt,List.getElem?_eq_getElem hbl] at he
  exact e2.2 (Option.some.inj he).symm
 ·rw [List.getElem?_append_left (by exact lE 4 0x2014a1c0131b4c33132311011 T1 hj l66 l5' l1),o6 j hjd (fun z=>lC 3 0x61a2c01201121b1c031 T1 z hj l1),o5 j hjd,List.getElem?_append_left (by exact lD 3 0x2013a1c0121b3c2311011 T1 hj l3' l1),o3 j hjd (fun z=>lC 3 0x61a2c012011a1c031 T1 z hj l1),List.append_assoc,List.getElem?_append_left (by exact lC 2 564230323507217 T1 hj l1),o1 j (lB 1 43419504657 T1 hj) hjd (fun z=>lB 2 26039357489 T1 z hj),List.getElem?_append_left hj]
noncomputable def Zej:Nat → D → Bool
 | _,.int _=>true
 | _,.str _=>true
 | _,.bl _=>true
 | n + 1,.tup ds=>decide (ds.length ≤ 1000) && ds.all (Zej n)
 | _,_=>false
theorem Zjq:∀ (n:Nat) (d:D) (M:Store),Zej n d = true → ZaJ (n + 1) [d,d] M = .ok (.bl true) M:=by
 intro n
 induction n with
 | zero=>
  intro d M h
  cases d with
  | str x=>simp [ZaJ,ZaX,Zx,Zaj,Zax,sIf,Zam,ZaP,mkF,ZcB,below,belowL,ZbP]
  | int i=>simp [ZaJ,ZaX,Zx,Zaj,Zax,sIf,Zam,ZaP,mkF,ZcB,below,belowL,ZbP]
  | bl b=>simp [ZaJ,ZaX,Zx,Zaj,Zax,sIf,Zam,ZaP,mkF,ZcB,below,belowL,ZbP]
  | _=>simp [Zej] at h
 | succ n ih=>
  intro d M h
  cases d with
  | str x=>simp [ZaJ,ZaX,Zx,Zaj,Zax,sIf,Zam,ZaP,mkF,ZcB,below,belowL,ZbP]
  | int i=>simp [ZaJ,ZaX,Zx,Zaj,Zax,sIf,Zam,ZaP,mkF,ZcB,below,belowL,ZbP]
  | bl b=>simp [ZaJ,ZaX,Zx,Zaj,Zax,sIf,Zam,ZaP,mkF,ZcB,below,belowL,ZbP]
  | tup ds=>
   simp only [Zej,Bool.and_eq_true,decide_eq_true_eq,List.all_eq_true] at h
   obtain ⟨hl,hd⟩:=h
   show mkF 2 2 (ZaX (ZaJ (n + 1))) [.tup ds,.tup ds] M = _
   generalize ZaJ (n + 1) = F at ih
   have lc:=Zm7 (α:=Nat) (enc:=fun k=>D.int (0 + (k:Int))) (h:=fun _=>D.bl true) (own:=1) (i:=2) (it:=ZcO (ZaL Za7 (Zb (Za 1) (Zi)))) (elt:=Zai F (Zb (e2 Zk (Za 0) (Za 2)) (Zb (e2 Zk (Za 1) (Za 2)) (Zi)))) (env:=[some (.tup ds),some (.tup ds)]) (M:=M) (M1:=M) (lock:=none) (as:=List.range ds.length)
    (by
     have:(ds.length:Int) ≤ 1000000 ∧ -1000000 ≤ (ds.length:Int):=⟨iN [_] [] 1 0xf42405b0883e83b001 T1 hl,iN [_] [] 0 615291837336 T1⟩
     simp [this,Zc4]) (fun _ h=>by cases h)
    (fun k hk M=>by
     have hk':k < ds.length:=by simpa using hk
     have hg:ds[k]? = some ds[k]:=by simp [hk']
     have:=ih ds[k] M (hd _ (List.getElem_mem hk'))
     have gk:Za0 ds (0 + (k:Int)) = some ds[k]:=by rw [Int.zero_add,ZaT,hg]
     simp only [Zai,Zb,e2,Za,Zi,List.cons_append,List.nil_append,List.replicate,List.set,List.getElem?_cons_zero,List.getElem?_cons_succ,R3.bind,Zk,gk,this]) (by simp; exact lA 1 0x186a05b003e83b001 T1 hl)
   refine Rt.pure (G:=[.lst ((List.range ds.length).map fun _=>D.bl true)]) (env:=[some (.tup ds),some (.tup ds)]) ?_ rfl
   unfold ZaX
   refine Zc0 ((ZaM (M':=M) (by exact rfl)).trans ((Zf (Zj (M':=M) (by exact rfl))).trans (ZaH ((ZeG (M1:=M) (by simp)).trans (Zco lc ?_)))))
   simp [allB,isB,isT]
  | _=>simp [Zej] at h
theorem ZlS (n:Nat) (ds:List D) (p q:Nat) (M:Store) (hp:M[p]? = some (.lst ds)) (hq:M[q]? = some (.lst ds)) (h:∀ d ∈ ds,Zej n d = true) (hl:ds.length ≤ 10000):ZaJ (n + 2) [.ref p,.ref q] M = .ok (.bl true) M:=by
 show mkF 2 2 (ZaX (ZaJ (n + 1))) [.ref p,.ref q] M = _
 have ih:=Zjq n
 generalize ZaJ (n + 1) = F at ih
 have b:(ds.length:Int) ≤ 1000000 ∧ -1000000 ≤ (ds.length:Int):=⟨iN [_] [] 1 0xf42405b08827104b001 T1 hl,iN [_] [] 0 615291837336 T1⟩
 have ir:ZcO (ZaL Za7 (Zb (Za 1) (Zi))) [some (.ref p),some (.ref q)] M = .ok ⟨(List.range ds.length).map fun (k:Nat)=>D.int (0 + (k:Int)),none⟩ M:=by simp [hq,b,Zc4]
 obtain ⟨es,le,re,hh⟩:=ZgH (it:=⟨(List.range ds.length).map fun (k:Nat)=>D.int (0 + (k:Int)),none⟩) (i:=2) (n:=M.length) (elt:=Zai F (Zb (e2 Zk (Za 0) (Za 2)) (Zb (e2 Zk (Za 1) (Za 2)) (Zi)))) (R:=fun _ e=>e = .bl true) (env0:=[some (.ref p),some (.ref q),none]) ((List.range ds.length).map fun (k:Nat)=>D.int (0 + (k:Int))) [] [some (.ref p),some (.ref q),none] (M ++ [.lst []]) (fun _=>rfl)
  (fun d hd x=>by
   obtain ⟨k,hk,rfl⟩:=List.mem_map.mp hd
   have hk':k < ds.length:=by simpa using hk
   have hg:ds[k]? = some ds[k]:=by simp [hk']
   have:=h _ (List.getElem_mem hk')
   generalize ds[k] = e at hg this
   have gk:Za0 ds (0 + (k:Int)) = some e:=by rw [Int.zero_add,ZaT,hg]
   rw [show (M ++ [MO.lst []]).set M.length (.lst x) = M ++ [.lst x] by simp]
   have g1:=Zal hp [.lst x]
   have g2:=Zal hq [.lst x]
   refine ⟨.bl true,Zdr (a:=e) (b:=e) (M1:=M ++ [.lst x]) (M2:=M ++ [.lst x]) ?_ ?_ (ih e _ this),rfl⟩
   ·simp only [e2,Za,List.set,List.getElem?_cons_zero,List.getElem?_cons_succ,R3.bind,Zk,g1,gk]
   ·simp only [e2,Za,List.set,List.getElem?_cons_zero,List.getElem?_cons_succ,R3.bind,Zk,g2,gk])
  (fun _=>rfl) (by simp) (by simp; exact lA 1 0xf42405b0027104b001 T1 hl)
 have all:allB es = some true:=by
  have:∀ e ∈ es,e = .bl true:=fun e he=>by
   obtain ⟨j,hj,ej⟩:=List.mem_iff_getElem.mp he
   exact re j (((List.range ds.length).map fun (k:Nat)=>D.int (0 + (k:Int)))[j]'(by rw [← le]; exact hj)) e (List.getElem?_eq_getElem _) (by rw [← ej]; simp)
  unfold allB
  rw [if_pos (List.all_eq_true.mpr fun e he=>by rw [this e he]; rfl),List.all_eq_true.mpr fun e he=>by rw [this e he]; rfl]
 have lc:(eLC (ZcO (ZaL Za7 (Zb (Za 1) (Zi)))) 1 (Zci 2) [] (Zai F (Zb (e2 Zk (Za 0) (Za 2)) (Zb (e2 Zk (Za 1) (Za 2)) (Zi))))) [some (.ref p),some (.ref q)] M = .ok (.ref M.length) (M ++ [.lst es]):=by
  rw [Zf4 ir]
  refine Eq.trans hh ?_
  simp
 refine Rt.pure (G:=[.lst es]) (env:=[some (.ref p),some (.ref q)]) ?_ rfl
 unfold ZaX
 refine Zc0 ((ZaM (M':=M) (by simp [hq])).trans ((Zf (Zj (M':=M) (by simp [hp,hq]))).trans (ZaH ((ZeG (M1:=M) (by simp [hp,hq])).trans (Zco lc ?_)))))
 simp [all]
theorem set_same {s:List Stt} {i:Nat} {x:Stt} (h:s[i]? = some x):s.set i x = s:=by
 apply List.ext_getElem?
 intro k
 by_cases q:i = k
 ·subst q; rw [List.getElem?_set_self (List.getElem?_eq_some_iff.mp h).1,h]
 ·rw [List.getElem?_set_ne q]
theorem Zk3 {o i f:E3} {env:Zat} {M:Store} {n k:Nat} {s:List Stt} {x:Stt} (hf:f env M = .ok (Ze x) M) (ho:o env M = .ok (.ref n) M) (hi:i env M = .ok (.int (k:Int)) M) (hM:M[n]? = some (.lst (s.map Ze))) (hk:k < s.length):ZbR o i f env M = .nx env (M.set n (.lst ((s.set k x).map Ze))):=by
 have ix:ixD (s.map Ze).length ((k:Nat):Int) = some k:=by rw [List.length_map]; simp [hk]
 refine ZcH (d:=.non) (Zpm hf ho hi ?_)
 simp only [Zfr,hM,ix]
 rw [List.map_set]
theorem ZhX {roll:ZcV} {E:Zat} {M:Store} {n1 n2 i:Nat} {s1 s2:List Stt} {stay:Stt} {o1 o2 ix st:E3} (mend:Int) (h1:M[n1]? = some (.lst (s1.map Ze))) (h2:M[n2]? = some (.lst (s2.map Ze))) (hn:n1 ≠ n2) (l1:i < s1.length) (l2:i < s2.length) (hd:Drawn roll 10 stay) (dr2:∀ s ∈ s2,Drawn roll 9 s)
  (e1:∀ M,o1 E M = .ok (.ref n1) M) (e2':∀ M,o2 E M = .ok (.ref n2) M) (ei:∀ M,ix E M = .ok (.int (i:Int)) M) (es:∀ M,st E M = .ok (Ze stay) M) (em:∀ M,Za 10 E M = .ok (.int mend) M) (er:∀ M,Za 3 E M = .ok (Zy roll) M):
  ∃ (y:Stt) (M':Store),(Zx (ZbR o1 ix st) (sIf (e2 Zaz (e2 Zk o2 ix) st) (ZbR o2 ix (Zai ZaE (Zb st (Zb (e2 Zad (Za 10) (eC (.int 4))) (Zb (ZaL Za7 (Zb (Za 3) (Zi))) (Zi)))))) (Zam))) E M = .nx E M' ∧ y ≠ stay ∧ Drawn roll 11 y ∧ M'[n1]? = some (.lst ((s1.set i stay).map Ze)) ∧ M'[n2]? = some (.lst ((s2.set i y).map Ze)) ∧ M'.length = M.length ∧ ∀ j,j ≠ n1 → j ≠ n2 → M'[j]? = M[j]?:=by
 have p1:=Zk3 (es M) (e1 M) (ei M) h1 l1
 have g1:(M.set n1 (.lst ((s1.set i stay).map Ze)))[n1]? = some (.lst ((s1.set i stay).map Ze)):=List.getElem?_set_self (List.getElem?_eq_some_iff.mp h1).1
 have g2:(M.set n1 (.lst ((s1.set i stay).map Ze)))[n2]? = some (.lst (s2.map Ze)):=by rw [List.getElem?_set_ne hn]; exact h2
 generalize hM1:M.set n1 (.lst ((s1.set i stay).map Ze)) = M1 at p1 g1 g2
 have lM1:M1.length = M.length:=by rw [← hM1]; simp
 have oM1:∀ j,j ≠ n1 → M1[j]? = M[j]?:=fun j hj=>by rw [← hM1,List.getElem?_set_ne (Ne.symm hj)]
 have gx:s2[i]? = some s2[i]:=List.getElem?_eq_getElem l2
 have dx:=dr2 _ (List.getElem_mem l2)
 generalize s2[i] = x at gx dx
 have cq:(e2 Zaz (e2 Zk o2 ix) st) E M1 = .ok (.bl (decide (x = stay))) M1:=Zn (Zn (e2' M1) (ei M1) (Zbo g2 (by rw [ZaT,List.getElem?_map,gx]; rfl))) (es M1) (ZoL x stay M1)
 by_cases q:x = stay
 ·obtain ⟨y,ey,dy,ny⟩:=ZjH hd (lN [] 0 841720240 rfl) (mend / 4) M1
  rw [decide_eq_true q] at cq
  have p2:=Zk3 (o:=o2) (i:=ix) (x:=y) (f:=Zai ZaE (Zb st (Zb (e2 Zad (Za 10) (eC (.int 4))) (Zb (ZaL Za7 (Zb (Za 3) (Zi))) (Zi))))) (ZcL (es M1) (Zn (em M1) rfl (ZbZ (by decide))) (Zco (er M1) (Zg3 roll)) ey) (e2' M1) (ei M1) g2 l2
  refine ⟨y,_,(Zf p1).trans ((ZaM cq).trans p2),ny,dy,?_,List.getElem?_set_self (List.getElem?_eq_some_iff.mp g2).1,by simp [lM1],fun j hj1 hj2=>?_⟩
  ·rw [List.getElem?_set_ne (Ne.symm hn)]; exact g1
  ·rw [List.getElem?_set_ne (Ne.symm hj2),oM1 j hj1]
 ·rw [decide_eq_false q] at cq
  exact ⟨x,M1,(Zf p1).trans (Zj cq),q,⟨dx.ok,dx.rise,Nat.le_trans dx.len (lN [] 0 186356144 rfl)⟩,g1,by rw [set_same gx]; exact g2,lM1,fun j hj1 _=>oM1 j hj1⟩
theorem Znz {roll:ZcV} {M:Store} {n1 n2 low:Nat} {s1 s2:List Stt} {stay:Stt} (mend:Int) (x0 x1 x2 x4 x8 x9 x12 x13 x14 x15:Option D) (h1:M[n1]? = some (.lst (s1.map Ze))) (h2:M[n2]? = some (.lst (s2.map Ze))) (hn:n1 ≠ n2) (l1:low + 1 < s1.length) (l2:low + 1 < s2.length) (hd:Drawn roll 10 stay) (dr1:∀ s ∈ s1,Drawn roll 9 s) (dr2:∀ s ∈ s2,Drawn roll 9 s) (hne:s1[low + 1]? ≠ s2[low + 1]?):
  ∃ (x y:Stt) (M':Store),(sIf (e2 Zaz (e2 Zae (Za 10) (eC (.int 2))) (eC (.int 1))) (Zx (ZbR (Za 5) (e2 Zz (Za 7) (eC (.int 1))) (Za 11)) (sIf (e2 Zaz (e2 Zk (Za 6) (e2 Zz (Za 7) (eC (.int 1)))) (Za 11)) (ZbR (Za 6) (e2 Zz (Za 7) (eC (.int 1))) (Zai ZaE (Zb (Za 11) (Zb (e2 Zad (Za 10) (eC (.int 4))) (Zb (ZaL Za7 (Zb (Za 3) (Zi))) (Zi)))))) (Zam))) (sIf (e2 Zaz (e2 Zae (Za 10) (eC (.int 4))) (eC (.int 2))) (Zx (ZbR (Za 6) (e2 Zz (Za 7) (eC (.int 1))) (Za 11)) (sIf (e2 Zaz (e2 Zk (Za 5) (e2 Zz (Za 7) (eC (.int 1)))) (Za 11)) (ZbR (Za 5) (e2 Zz (Za 7) (eC (.int 1))) (Zai ZaE (Zb (Za 11) (Zb (e2 Zad (Za 10) (eC (.int 4))) (Zb (ZaL Za7 (Zb (Za 3) (Zi))) (Zi)))))) (Zam))) (Zam)))
    [x0,x1,x2,some (Zy roll),x4,some (.ref n1),some (.ref n2),some (.int (low:Int)),x8,x9,some (.int mend),some (Ze stay),x12,x13,x14,x15] M =
   .nx [x0,x1,x2,some (Zy roll),x4,some (.ref n1),some (.ref n2),some (.int (low:Int)),x8,x9,some (.int mend),some (Ze stay),x12,x13,x14,x15] M' ∧ x ≠ y ∧ Drawn roll 11 x ∧ Drawn roll 11 y ∧ M'[n1]? = some (.lst ((s1.set (low + 1) x).map Ze)) ∧ M'[n2]? = some (.lst ((s2.set (low + 1) y).map Ze)) ∧ M'.length = M.length ∧ ∀ j,j ≠ n1 → j ≠ n2 → M'[j]? = M[j]?:=by
 obtain ⟨E,hE⟩:∃ E:Zat,E = [x0,x1,x2,some (Zy roll),x4,some (.ref n1),some (.ref n2),some (.int (low:Int)),x8,x9,some (.int mend),some (Ze stay),x12,x13,x14,x15]:=⟨_,rfl⟩
 rw [← hE]
 have v5:∀ M,Za 5 E M = .ok (.ref n1) M:=fun M=>by subst hE; rfl
 have v6:∀ M,Za 6 E M = .ok (.ref n2) M:=fun M=>by subst hE; rfl
 have vi:∀ M,(e2 Zz (Za 7) (eC (.int 1))) E M = .ok (.int ((low + 1:Nat):Int)) M:=fun M=>by subst hE; exact Zn rfl rfl rfl
 have vs:∀ M,Za 11 E M = .ok (Ze stay) M:=fun M=>by subst hE; rfl
 have vm:∀ M,Za 10 E M = .ok (.int mend) M:=fun M=>by subst hE; rfl
 have vr:∀ M,Za 3 E M = .ok (Zy roll) M:=fun M=>by subst hE; rfl
 have up:Drawn roll 11 stay:=⟨hd.ok,hd.rise,Nat.le_trans hd.len (lN [] 0 186360240 rfl)⟩
 by_cases q1:mend % 2 = 1
 ·obtain ⟨y,M',e,ny,dy,g1,g2,l,o⟩:=ZhX (E:=E) mend h1 h2 hn l1 l2 hd dr2 v5 v6 vi vs vm vr
  exact ⟨stay,y,M',(ZaM (Zn (Zn (vm M) rfl (ZaY (by decide))) rfl (Zjh q1))).trans e,Ne.symm ny,up,dy,g1,g2,l,o⟩
 ·by_cases q2:mend % 4 = 2
  ·obtain ⟨y,M',e,ny,dy,g2,g1,l,o⟩:=ZhX (E:=E) mend h2 h1 (Ne.symm hn) l2 l1 hd dr1 v6 v5 vi vs vm vr
   exact ⟨y,stay,M',(ZbT (Zn (Zn (vm M) rfl (ZaY (by decide))) rfl (Zis q1))).trans ((ZaM (Zn (Zn (vm M) rfl (ZaY (by decide))) rfl (Zjh q2))).trans e),ny,dy,up,g1,g2,l,fun j a b=>o j b a⟩
  ·have gx:=List.getElem?_eq_getElem l1
   have gy:=List.getElem?_eq_getElem l2
   have dx:=dr1 _ (List.getElem_mem l1)
   have dy:=dr2 _ (List.getElem_mem l2)
   refine ⟨s1[low + 1],s2[low + 1],M,(ZbT (Zn (Zn (vm M) rfl (ZaY (by decide))) rfl (Zis q1))).trans (Zj (Zn (Zn (vm M) rfl (ZaY (by decide))) rfl (Zis q2))),fun e=>hne (by rw [gx,gy,e]),⟨dx.ok,dx.rise,Nat.le_trans dx.len (lN [] 0 186356144 rfl)⟩,⟨dy.ok,dy.rise,Nat.le_trans dy.len (lN [] 0 186356144 rfl)⟩,by rw [set_same gx]; exact h1,by rw [set_same gy]; exact h2,rfl,fun _ _ _=>rfl⟩
theorem Zqr (v:Int) (x0 x1 x3:Option D) (M:Store):∃ (many:Nat) (G:MO),2 ≤ many ∧ many ≤ 2001 ∧ ∀ g:S3,(Zx (Zaj 4 (e2 Zz (eC (.int 2)) (e2 Zk (Zcg (Zb (e2 Zae (e2 Zad (Za 2) (eC (.int 12))) (eC (.int 5))) (Zb (e2 Zae (e2 Zad (Za 2) (eC (.int 12))) (eC (.int 40))) (Zb (e2 Zae (e2 Zad (Za 2) (eC (.int 12))) (eC (.int 399))) (Zi))))) (e2 Zae (Za 2) (eC (.int 3)))))) (Zx (sIf (e2 Zaz (e2 Zae (e2 Zad (Za 2) (eC (.int 12))) (eC (.int 8))) (eC (.int 5))) (Zaj 4 (e2 Zz (eC (.int 2)) (e2 Zae (e2 Zad (Za 2) (eC (.int 96))) (eC (.int 2000))))) (Zam)) g))
   [x0,x1,some (.int v),x3,none,none,none,none,none,none,none,none,none,none,none,none] M = g [x0,x1,some (.int v),x3,some (.int (many:Int)),none,none,none,none,none,none,none,none,none,none,none] (M ++ [G]):=by
 obtain ⟨j,hj,lj⟩:=Zbv v 3 (lN [] 0 203745 rfl)
 obtain ⟨a,ha,la⟩:=Zbv (v / 12) 5 (lN [] 0 334817 rfl)
 obtain ⟨b,hb,lb⟩:=Zbv (v / 12) 40 (lN [] 0 2632673 rfl)
 obtain ⟨c,hc,lc⟩:=Zbv (v / 12) 399 (lN [] 0 26164193 rfl)
 obtain ⟨e,he,le⟩:=Zbv (v / 96) 2000 (lN [] 0 131087329 rfl)
 have hj':v % 3 = (j:Int):=hj
 have ha':v / 12 % 5 = (a:Int):=ha
 have hb':v / 12 % 40 = (b:Int):=hb
 have hc':v / 12 % 399 = (c:Int):=hc
 have he':v / 96 % 2000 = (e:Int):=he
 obtain ⟨t,lt,ht⟩:∃ t:Nat,t < 399 ∧ Za0 [D.int (a:Int),.int (b:Int),.int (c:Int)] (j:Int) = some (.int (t:Int)):=by
  rw [ZaT]
  match j,lj with
  | 0,_=>exact ⟨a,lA 1 438958564683793 T1 la,rfl⟩
  | 1,_=>exact ⟨b,lA 1 7023336991404049 T1 lb,rfl⟩
  | 2,_=>exact ⟨c,lc,rfl⟩
  | j + 3,h=>exact absurd h (fun z=>lA 1 6810528058385 T1 z)
 have d12:∀ (x4:Option D) (M:Store),(e2 Zad (Za 2) (eC (.int 12))) [x0,x1,some (.int v),x3,x4,none,none,none,none,none,none,none,none,none,none,none] M = .ok (.int (v / 12)) M:=fun x4 M=>Zn rfl rfl (ZbZ (by decide))
 have md:∀ (x4:Option D) (k:Int) (M:Store),0 < k → (e2 Zae (e2 Zad (Za 2) (eC (.int 12))) (eC (.int k))) [x0,x1,some (.int v),x3,x4,none,none,none,none,none,none,none,none,none,none,none] M = .ok (.int (v / 12 % k)) M:=fun x4 k M hk=>Zn (d12 x4 M) rfl (ZaY hk)
 have ls:(Zcg (Zb (e2 Zae (e2 Zad (Za 2) (eC (.int 12))) (eC (.int 5))) (Zb (e2 Zae (e2 Zad (Za 2) (eC (.int 12))) (eC (.int 40))) (Zb (e2 Zae (e2 Zad (Za 2) (eC (.int 12))) (eC (.int 399))) (Zi))))) [x0,x1,some (.int v),x3,none,none,none,none,none,none,none,none,none,none,none,none] M = .ok (.ref M.length) (M ++ [.lst [.int (a:Int),.int (b:Int),.int (c:Int)]]):=by
  have h:=Zag (md none 5 M (iN [] [] 0 334825 T1)) (Zag (md none 40 M (iN [] [] 0 2632681 T1)) (Zag (md none 399 M (iN [] [] 0 26164201 T1)) (g:=Zi) rfl))
  rw [ha',hb',hc'] at h
  simp only [Zcg,h,R3.bind]
  simp
 have s4:(e2 Zz (eC (.int 2)) (e2 Zk (Zcg (Zb (e2 Zae (e2 Zad (Za 2) (eC (.int 12))) (eC (.int 5))) (Zb (e2 Zae (e2 Zad (Za 2) (eC (.int 12))) (eC (.int 40))) (Zb (e2 Zae (e2 Zad (Za 2) (eC (.int 12))) (eC (.int 399))) (Zi))))) (e2 Zae (Za 2) (eC (.int 3))))) [x0,x1,some (.int v),x3,none,none,none,none,none,none,none,none,none,none,none,none] M = .ok (.int ((2 + t:Nat):Int)) (M ++ [.lst [.int (a:Int),.int (b:Int),.int (c:Int)]]):=by
  refine Zn (b:=.int (t:Int)) rfl (Zn (b:=.int (j:Int)) ls (by rw [← hj']; exact Zn rfl rfl (ZaY (by decide))) (Zbo (ZaA _ _ _) ht)) ?_
  simp
 by_cases q:v / 12 % 8 = 5
 ·refine ⟨2 + e,.lst [.int (a:Int),.int (b:Int),.int (c:Int)],Nat.le_add_right _ _,lA 1 0x7d13b021bc07d03b011 T1 le,fun g=>(Zf (Zq s4)).trans (Zf ((ZaM (Zn (md _ 8 _ (iN [] [] 0 531433 T1)) rfl (Zjh q))).trans (Zq (d:=.int ((2 + e:Nat):Int)) (M':=M ++ [.lst [.int (a:Int),.int (b:Int),.int (c:Int)]]) ?_)))⟩
  refine Zn (b:=.int (e:Int)) rfl (by rw [← he']; exact Zn (Zn rfl rfl (ZbZ (by decide))) rfl (ZaY (by decide))) ?_
  simp
 ·exact ⟨2 + t,.lst [.int (a:Int),.int (b:Int),.int (c:Int)],Nat.le_add_right _ _,lA 1 0x7d13b021bc018f3b011 T1 lt,fun g=>(Zf (Zq s4)).trans (Zf (Zj (Zn (md _ 8 _ (iN [] [] 0 531433 T1)) rfl (Zis q))))⟩
theorem ZkT {f:E3} {i j:Nat} {env:Zat} {M M1:Store} {n:Nat} {a b:D} (h:f env M = .ok (.ref n) M1) (hn:M1[n]? = some (.lst [a,b])):ZhW f [i,j] env M = .nx ((env.set i (some a)).set j (some b)) M1:=by
 simp [ZhW,h,hn]
noncomputable def ZfN (roll:ZcV) (x:Stt):Stt:=(Za6 roll x).getD x
theorem Zkh {roll:ZcV} (R:Zj2 roll) {x:Stt} (h:Drawn roll 9 x):Drawn roll 10 (ZfN roll x):=by
 unfold ZfN
 cases q:Za6 roll x with
 | none=>exact ⟨h.ok,h.rise,Nat.le_trans h.len (lN [] 0 169578928 rfl)⟩
 | some y=>
  have g:Good roll x:=⟨h.ok.1,h.ok.2,h.rise⟩
  have g':=(ZlT R g q).1
  refine ⟨⟨g'.pl,g'.bx⟩,g'.rs,?_⟩
  have hr:roll[x.place]? = some (roll[x.place]'h.ok.1):=List.getElem?_eq_getElem _
  unfold Za6 at q
  rw [hr] at q
  simp only [Option.bind_some,Zfz] at q
  split at q
  ·cases q
  ·cases q
   show (Row.cells x.boxes x.cells _).length ≤ 10
   have:=h.len
   cases roll[x.place]'h.ok.1 <;> simp only [Row.cells] <;> first | omega | exact Nat.le_trans (Zff h.rise _ _) (lA 1 0xa1ba0c091b001 T1 this)
theorem Zkq (eq:Nat → Bool):∀ f low high,(hv eq f low high).1.length ≤ f
 | 0,_,_=>Nat.le_refl _
 | f + 1,low,high=>by
  unfold hv
  split
  ·exact Nat.zero_le _
  ·split
   ·exact Nat.succ_le_succ (Zkq eq f _ _)
   ·exact Nat.succ_le_succ (Zkq eq f _ _)
theorem ZmH {f g:E3} {env:Zat} {M M1 M2:Store} {a b:D} (h1:f env M = .ok a M1) (h2:g env M1 = .ok b M2):Zcg (Zb f (Zb g (Zi))) env M = .ok (.ref M2.length) (M2 ++ [.lst [a,b]]):=by
 have h:Zb f (Zb g (Zi)) env M = .ok [a,b] M2:=Zag h1 (Zag h2 rfl)
 simp only [Zcg,h,R3.bind]
 simp
theorem Zk9 {o:E3} {env:Zat} {M:Store} {m:Nat} {ss:List D} (ho:o env M = .ok (.ref m) M) (hM:M[m]? = some (.lst ss)):ZhM TEL Zba (Zb o (Zi)) env M = .ok (.ref M.length) (M ++ [ZcR ss (M.length + 1),.lst []]):=by
 have h:Zb o (Zi) env M = .ok [.ref m] M:=Zag ho rfl
 simp only [ZhM,h,R3.bind,Zog hM]
theorem law_holds:∀ ns:List Int,ns.length ≤ 63 → ∃ M',ZkG [.scr (ns.map D.int)] [] = .ok (.bl true) M':=by
 intro ns hns
 refine Rt.law (env:=[some (.scr (ns.map D.int)),none,none,none,none,none,none,none,none,none,none,none,none,none,none,none]) ?_
 unfold Zmf
 have c400:cutD (ns.map D.int) none (some 400) = (ns.take 400).map D.int:=by
  have:=Zif (ns.map D.int) 400
  rw [← List.map_take] at this
  exact this
 have c40:cutD (ns.map D.int) none (some 40) = (ns.take 40).map D.int:=by
  have:=Zif (ns.map D.int) 40
  rw [← List.map_take] at this
  exact this
 have hl40:(ns.take 40).length ≤ 63:=by simp; exact lA 1 0x3f2b00282b001 T1 (Nat.min_le_left _ _)
 generalize ns.take 400 = cs at c400
 generalize ns.take 40 = cr at c40 hl40
 refine Rt.set (d:=.ref 1) (M':=[.lst (cs.map D.int),.lst [.ref 0,.int 0]]) (by simp [c400]) ?_
 have K0:ZcG cs 0 1 0 [.lst (cs.map D.int),.lst [.ref 0,.int 0]]:=⟨rfl,rfl,(fun z=>lN [] 1 437809 rfl z)⟩
 obtain ⟨v,M1,en1,K1,l1,o1⟩:=K0.next (lN [] 0 65536023521 rfl)
 have l1':M1.length = 2:=by rw [l1]; rfl
 refine Rt.set (Zdq rfl en1) ?_
 obtain ⟨roll,lr,R,er⟩:=ZmB cr M1.length (M1 ++ [.lst (cr.map D.int)]) (ZaA _ _ _) hl40
 have sl:(eSl (Za 0) (Zb7) (Zb8 (eC (.int 40)))) [some (.scr (ns.map D.int)),some (.ref 1),some (.int v),none,none,none,none,none,none,none,none,none,none,none,none,none] M1 = .ok (.ref M1.length) (M1 ++ [.lst (cr.map D.int)]):=by simp [c40]
 refine Rt.set (Zdq sl er) ?_
 obtain ⟨many,G,m2,mm,st⟩:=Zqr v (some (.scr (ns.map D.int))) (some (.ref 1)) (some (Zy roll)) (M1 ++ [.lst (cr.map D.int)])
 rw [st]
 have K2:ZcG cs 0 1 1 (M1 ++ [.lst (cr.map D.int)] ++ [G]):=K1.keep fun j hj=>by rw [List.append_assoc]; exact List.getElem?_append_left hj
 have rp:0 < roll.length:=lB 1 3785474097 T1 lr
 obtain ⟨n,n1,n2,at2,M2,s1,s2,el,gn,g1,g2,hn12,b1,b2,ls1,ls2,dr1,dr2,z0,zl,K3,ab,lM2,_⟩:=Zmy K2 (lN [] 0 65551264 rfl) roll rp many m2 (lA 1 0x9c43b007d13b001 T1 mm) (v / 3 % 4) ((Int.emod_nonneg _ (by decide)))
 have lM3:4 ≤ M2.length:=by
  have:(M1 ++ [MO.lst (cr.map D.int)] ++ [G]).length = 4:=by simp [l1']
  exact lB 2 90547050311168049 T1 this lM2
 have b1':4 ≤ n1:=by
  have:(M1 ++ [MO.lst (cr.map D.int)] ++ [G]).length = 4:=by simp [l1']
  exact lB 2 90547050311168049 T1 this b1
 have b2':4 ≤ n2:=by
  have:(M1 ++ [MO.lst (cr.map D.int)] ++ [G]).length = 4:=by simp [l1']
  exact lB 2 90547050311168049 T1 this b2
 refine Rt.step (ZkT (Zm0 rfl rfl rfl (Zn (Zn rfl rfl (ZbZ (by decide))) rfl (ZaY (by decide))) el) gn) ?_
 have eh:=Zkc g1 g2 (Nat.le_antisymm (lC 2 2199328460833 T1 ls2 ls1) (lC 2 137743110193 T1 ls2 ls1)) (lB 2 9482266040406065 T1 ls1 m2) (lB 2 0x13884b007d13b1011021 T1 ls1 mm)
 rw [ls1] at eh
 have hvs:=ZiL (fun m=>decide (s1[m]? = s2[m]?)) (many - 1) 0 (many - 1) ((Nat.sub_le _ _)) (lB 2 0x1e1a1c001021b01 T1 m2 (sbA _ _)) (decide_eq_true z0) (decide_eq_false zl)
 refine Rt.step (ZkT (Zdr rfl rfl eh) (ZgC _ _ 1)) ?_
 generalize hr:hv (fun m=>decide (s1[m]? = s2[m]?)) (many - 1) 0 (many - 1) = r at hvs ⊢
 obtain ⟨hv1,hv2,hv3,hv4⟩:=hvs
 have ne1:s1[r.2 + 1]? ≠ s2[r.2 + 1]?:=of_decide_eq_false hv2
 generalize hM3:M2 ++ [MO.lst ((0 :: (many - 1) :: r.1).map fun m:Nat=>D.int (m:Int)),.lst [.int (r.2:Int),.ref M2.length]] = M3
 have g13:M3[n1]? = some (.lst (s1.map Ze)):=by rw [← hM3]; exact Zal g1 _
 have g23:M3[n2]? = some (.lst (s2.map Ze)):=by rw [← hM3]; exact Zal g2 _
 have gt3:M3[M2.length]? = some (.lst ((0 :: (many - 1) :: r.1).map fun m:Nat=>D.int (m:Int))):=by rw [← hM3]; exact ZaA _ _ _
 have K4:ZcG cs 0 1 at2 M3:=by rw [← hM3]; exact K3.keep fun j hj=>List.getElem?_append_left hj
 have hlow:r.2 < s1.length:=lD 3 0x201310132311a0c01 T1 hv4 ls1 (Nat.sub_le _ _)
 have gx:s1[r.2]? = some s1[r.2]:=List.getElem?_eq_getElem hlow
 have dx:=dr1 _ (List.getElem_mem hlow)
 generalize s1[r.2] = x at gx dx
 have du:=Zpk roll R.rows x M3 dx.ok dx.rise (Nat.le_trans dx.len (lN [] 0 1009488304 rfl))
 refine Rt.set (Zdr rfl (Zn rfl rfl (Zbo g13 (by rw [ZaT,List.getElem?_map,gx]; rfl))) du) ?_
 obtain ⟨mend,M4,en4,K5,l4,o4⟩:=K4.next (lA 1 0xf42405b01fa03bac001 T1 ab)
 refine Rt.set (Zdq rfl en4) ?_
 refine Rt.set rfl ?_
 have g14:M4[n1]? = some (.lst (s1.map Ze)):=by rw [o4 n1 (fun z=>lA 2 6614702727201 T1 z b1')]; exact g13
 have g24:M4[n2]? = some (.lst (s2.map Ze)):=by rw [o4 n2 (fun z=>lA 2 6614702727201 T1 z b2')]; exact g23
 have hgt:M2.length ≠ 1:=(fun z=>lA 2 6614702727201 T1 z lM3)
 have gt4:M4[M2.length]? = some (.lst ((0 :: (many - 1) :: r.1).map fun m:Nat=>D.int (m:Int))):=by rw [o4 _ hgt]; exact gt3
 have stp:(sIf (e2 ZpF (Za 9) (eC .non)) (Zaj 11 (e2 Zk (Za 5) (Za 7))) (Zam)) [some (.scr (ns.map D.int)),some (.ref 1),some (.int v),some (Zy roll),some (.int (many:Int)),some (.ref n1),some (.ref n2),some (.int (r.2:Int)),some (.ref M2.length),some (ZeT (Za6 roll x)),some (.int mend),some (ZeT (Za6 roll x)),none,none,none,none] M4 = .nx [some (.scr (ns.map D.int)),some (.ref 1),some (.int v),some (Zy roll),some (.int (many:Int)),some (.ref n1),some (.ref n2),some (.int (r.2:Int)),some (.ref M2.length),some (ZeT (Za6 roll x)),some (.int mend),some (Ze (ZfN roll x)),none,none,none,none] M4:=by
  unfold ZfN
  cases q:Za6 roll x with
  | none=>exact (ZaM (M':=M4) rfl).trans (Zq (Zn rfl rfl (Zbo g14 (by rw [ZaT,List.getElem?_map,gx]; rfl))))
  | some y=>exact Zj (M':=M4) rfl
 refine Rt.step stp ?_
 obtain ⟨x',y',M5,em,nxy,dx',dy',g15,g25,l5,o5⟩:=Znz (roll:=roll) (low:=r.2) (stay:=ZfN roll x) mend (some (.scr (ns.map D.int))) (some (.ref 1)) (some (.int v)) (some (.int (many:Int))) (some (.ref M2.length)) (some (ZeT (Za6 roll x))) none none none none g14 g24 hn12 (lD 3 0x2a0c13a1c2132311a0c01 T1 hv4 ls1 (Nat.sub_add_cancel (lA 1 2684492545 T1 m2))) (lD 3 0x2a0c13a1c2132311a0c01 T1 hv4 ls2 (Nat.sub_add_cancel (lA 1 2684492545 T1 m2))) (Zkh R dx) dr1 dr2 ne1
 refine Rt.step em ?_
 have h1l:M2.length ≠ n1:=by have:=(List.getElem?_eq_some_iff.mp g1).1; exact fun z=>lB 2 25787699233 T1 z this
 have h2l:M2.length ≠ n2:=by have:=(List.getElem?_eq_some_iff.mp g2).1; exact fun z=>lB 2 25787699233 T1 z this
 have gt5:M5[M2.length]? = some (.lst ((0 :: (many - 1) :: r.1).map fun m:Nat=>D.int (m:Int))):=by rw [o5 _ h1l h2l]; exact gt4
 generalize hs1:s1.set (r.2 + 1) x' = s1' at g15
 generalize hs2:s2.set (r.2 + 1) y' = s2' at g25
 have ls1':s1'.length = many:=by rw [← hs1]; simp [ls1]
 have ls2':s2'.length = many:=by rw [← hs2]; simp [ls2]
 have mk1:=fun (env:Zat) (h:env[5]? = some (some (.ref n1)))=>Zk9 (o:=Za 5) (env:=env) (M:=M5) (m:=n1) (Zfg h) g15
 have g25':(M5 ++ [ZcR (s1'.map Ze) (M5.length + 1),MO.lst []])[n2]? = some (.lst (s2'.map Ze)):=Zal g25 _
 have mk2:=fun (env:Zat) (h:env[6]? = some (some (.ref n2)))=>Zk9 (o:=Za 6) (env:=env) (M:=M5 ++ [ZcR (s1'.map Ze) (M5.length + 1),.lst []]) (m:=n2) (Zfg h) g25'
 have lL:(M5 ++ [ZcR (s1'.map Ze) (M5.length + 1),MO.lst []]).length = M5.length + 2:=by simp
 rw [lL,List.append_assoc] at mk2
 generalize hM6:M5 ++ ([ZcR (s1'.map Ze) (M5.length + 1),MO.lst []] ++ [ZcR (s2'.map Ze) (M5.length + 2 + 1),.lst []]) = M6 at mk2
 have lM6:M6.length = M5.length + 4:=by rw [← hM6]; simp
 refine Rt.set (d:=.ref M6.length) (M':=M6 ++ [.lst [.ref M5.length,.ref (M5.length + 2)]]) (ZmH (mk1 _ rfl) (mk2 _ rfl)) ?_
 have gl:(M6 ++ [MO.lst [.ref M5.length,.ref (M5.length + 2)]])[M6.length]? = some (.lst [.ref M5.length,.ref (M5.length + 2)]):=ZaA _ _ _
 have T:Tw (M6 ++ [.lst [.ref M5.length,.ref (M5.length + 2)]]) M5.length (M5.length + 1) (M5.length + 2) (M5.length + 3) s1' s2' [] []:=by
  have g:∀ k,k < 4 → (M6 ++ [MO.lst [.ref M5.length,.ref (M5.length + 2)]])[M5.length + k]? = ([ZcR (s1'.map Ze) (M5.length + 1),MO.lst [],ZcR (s2'.map Ze) (M5.length + 2 + 1),.lst []]:Store)[k]?:=fun k hk=>by
   rw [List.getElem?_append_left (by exact lC 2 0x102c141b2c13141b011 T1 hk lM6),← hM6]; exact ZgC _ _ k
  exact ⟨g 0 (lN [] 0 269281 rfl),g 2 (lN [] 0 68886961 rfl),g 1 (lN [] 0 269217 rfl),g 3 (lN [] 0 68891057 rfl),(fun z=>lA 1 6810489195569 T1 z),(fun z=>lA 1 111198257 T1 z),(fun z=>lA 1 26603470897 T1 z),(fun z=>lA 1 7287521086497 T1 z),(fun z=>lA 1 0x631b0c21b0c31 T1 z)⟩
 have gt7:(M6 ++ [MO.lst [.ref M5.length,.ref (M5.length + 2)]])[M2.length]? = some (.lst ((0 :: (many - 1) :: r.1).map fun m:Nat=>D.int (m:Int))):=by
  rw [← hM6]; exact Zal (Zal gt5 _) _
 have g17:(M6 ++ [MO.lst [.ref M5.length,.ref (M5.length + 2)]])[n1]? = some (.lst (s1'.map Ze)):=by
  rw [← hM6]; exact Zal (Zal g15 _) _
 have g27:(M6 ++ [MO.lst [.ref M5.length,.ref (M5.length + 2)]])[n2]? = some (.lst (s2'.map Ze)):=by
  rw [← hM6]; exact Zal (Zal g25 _) _
 have hT:M2.length < M5.length:=(List.getElem?_eq_some_iff.mp gt5).1
 generalize M6 ++ [MO.lst [.ref M5.length,.ref (M5.length + 2)]] = M7 at gl T gt7 g17 g27
 generalize M5.length = L at gl T hT lM6
 generalize M6.length = Q at gl lM6
 have ix:s1'[r.2 + 1]? = some x':=by rw [← hs1]; exact List.getElem?_set_self (lD 3 0x2a0c13a1c2132311a0c01 T1 hv4 ls1 (Nat.sub_add_cancel (lA 1 2684492545 T1 m2)))
 have iy:s2'[r.2 + 1]? = some y':=by rw [← hs2]; exact List.getElem?_set_self (lD 3 0x2a0c13a1c2132311a0c01 T1 hv4 ls2 (Nat.sub_add_cancel (lA 1 2684492545 T1 m2)))
 have ilow:s1'[r.2]? = some x:=by rw [← hs1,List.getElem?_set_ne (by exact fun z=>lA 1 101321761 T1 z)]; exact gx
 have ilow2:s2'[r.2]? = some x:=by
  rw [← hs2,List.getElem?_set_ne (by exact fun z=>lA 1 101321761 T1 z),← gx]
  exact (of_decide_eq_true hv1).symm
 have eqf:(fun m:Nat=>decide (s1'[m]? = s2'[m]?)) = fun m:Nat=>decide (s1[m]? = s2[m]?):=by rw [← hs1,← hs2]; exact ZpZ (lD 3 0x2a0c13a1c2132311a0c01 T1 hv4 ls1 (Nat.sub_add_cancel (lA 1 2684492545 T1 m2))) (lD 3 0x2a0c13a1c2132311a0c01 T1 hv4 ls2 (Nat.sub_add_cancel (lA 1 2684492545 T1 m2))) ne1 nxy
 have z0':s1'[0]? = s2'[0]?:=of_decide_eq_true (by have:=congrFun eqf 0; rw [this]; exact decide_eq_true z0)
 have zl':s1'[many - 1]? ≠ s2'[many - 1]?:=of_decide_eq_false (by have:=congrFun eqf (many - 1); rw [this]; exact decide_eq_false zl)
 have good1:∀ s ∈ s1',s.ok roll ∧ keysOk s.cells ∧ s.cells.length ≤ 5000:=fun s hs=>by
  rw [← hs1] at hs
  rcases List.mem_or_eq_of_mem_set hs with q | q
  ·have d:=dr1 s q; exact ⟨d.ok,d.rise.keys,Nat.le_trans d.len (lN [] 0 83891032496 rfl)⟩
  ·rw [q]; exact ⟨dx'.ok,dx'.rise.keys,Nat.le_trans dx'.len (lN [] 0 83891040688 rfl)⟩
 have good2:∀ s ∈ s2',s.ok roll ∧ keysOk s.cells ∧ s.cells.length ≤ 5000:=fun s hs=>by
  rw [← hs2] at hs
  rcases List.mem_or_eq_of_mem_set hs with q | q
  ·have d:=dr2 s q; exact ⟨d.ok,d.rise.keys,Nat.le_trans d.len (lN [] 0 83891032496 rfl)⟩
  ·rw [q]; exact ⟨dy'.ok,dy'.rise.keys,Nat.le_trans dy'.len (lN [] 0 83891040688 rfl)⟩
 have wr:(Za4 (Zb (e2 Ze7 (e2 Zk (Za 5) (e2 Zz (Za 7) (eC (.int 1)))) (Za 9)) (Zb (e2 Ze7 (e2 Zk (Za 6) (e2 Zz (Za 7) (eC (.int 1)))) (Za 9)) (Zi)))) [some (.scr (ns.map D.int)),some (.ref 1),some (.int v),some (Zy roll),some (.int (many:Int)),some (.ref n1),some (.ref n2),some (.int (r.2:Int)),some (.ref M2.length),some (ZeT (Za6 roll x)),some (.int mend),some (Ze (ZfN roll x)),some (.ref Q),none,none,none] M7 = .ok (.tup [.bl (!decide (some x' = Za6 roll x)),.bl (!decide (some y' = Za6 roll x))]) M7:=by
  have ek:((r.2:Int) + 1) = ((r.2 + 1:Nat):Int):=rfl
  refine ZaW (Zag (Zn (Zn (b:=.int ((r.2 + 1:Nat):Int)) rfl (Zn rfl rfl rfl) (Zbo g17 (by rw [ZaT,List.getElem?_map,ix]; rfl))) rfl (ZiO x' _ M7)) (Zag (Zn (Zn (b:=.int ((r.2 + 1:Nat):Int)) rfl (Zn rfl rfl rfl) (Zbo g27 (by rw [ZaT,List.getElem?_map,iy]; rfl))) rfl (ZiO y' _ M7)) rfl)) rfl
 refine Rt.set wr ?_
 obtain ⟨x2,u2,v2,gx2,gu2,gv2,jd⟩:=ZhK roll R.rows T (Nat.le_antisymm (lC 2 2199328460833 T1 ls2' ls1') (lC 2 137743110193 T1 ls2' ls1')) (lB 2 9482266040406065 T1 ls1' m2) (by simp; exact lB 2 0xdbba05b017d13b1011021 T1 ls1' mm) (by simp; exact lB 2 0xdbba05b017d13b1011021 T1 ls1' mm) z0' (by rw [ls1']; exact zl') good1
 rw [eqf,ls1',hr] at gx2 gu2 gv2 jd
 have e1:x2 = x:=Option.some.inj (gx2.symm.trans ilow)
 have e2':u2 = x':=Option.some.inj (gu2.symm.trans ix)
 have e3':v2 = y':=Option.some.inj (gv2.symm.trans iy)
 subst e1 e2' e3'
 rw [List.nil_append] at jd
 generalize hts:((0:Nat) :: (many - 1) :: r.1).map (fun m:Nat=>D.int (m:Int)) = ts at jd gt7
 have T1:=T.put ts ts
 have oA:∀ j,j ≠ L + 1 → j ≠ L + 3 → (asked M7 (L + 1) (L + 3) ts ts)[j]? = M7[j]?:=fun j h1 h3=>by
  unfold asked
  rw [List.getElem?_set_ne (Ne.symm h3),List.getElem?_set_ne (Ne.symm h1)]
 have glA:(asked M7 (L + 1) (L + 3) ts ts)[Q]? = some (.lst [.ref L,.ref (L + 2)]):=by rw [oA Q (by omega) (by omega)]; exact gl
 have gtA:(asked M7 (L + 1) (L + 3) ts ts)[M2.length]? = some (.lst ts):=by rw [oA _ (by omega) (by omega)]; exact gt7
 generalize asked M7 (L + 1) (L + 3) ts ts = A1 at jd T1 glA gtA
 have lts:ts.length ≤ 3000:=by
  have:=Zkq (fun m=>decide (s1[m]? = s2[m]?)) (many - 1) 0 (many - 1)
  rw [hr] at this
  rw [← hts]
  simp
  omega
 have pts:∀ d ∈ ts,Zej 0 d = true:=fun d hd=>by
  rw [← hts] at hd
  obtain ⟨m,_,rfl⟩:=List.mem_map.mp hd
  rfl
 have sm:∀ (b1 b2:Bool) (M:Store),Zbh [.tup [.int (r.2:Int),.tup [.bl b1,.bl b2]],.tup [.int (r.2:Int),.tup [.bl b1,.bl b2]]] M = .ok (.bl true) M:=fun b1 b2 M=>Zjq 6 _ M rfl
 refine Rt.skip (M':=A1) (Zh1 (Zdr (ZcL rfl (Zn rfl rfl (Zbo gl rfl)) (Zn rfl rfl (Zbo gl rfl)) jd) (ZaW (Zag rfl (Zag rfl rfl)) rfl) (sm _ _ A1)) rfl) ?_
 have smL:∀ {M:Store} {p q:Nat} {zs:List D},M[p]? = some (.lst zs) → M[q]? = some (.lst zs) → (∀ d ∈ zs,Zej 0 d = true) → zs.length ≤ 10000 → Zbh [.ref p,.ref q] M = .ok (.bl true) M:=fun {M p q zs} hp hq hz hl=>ZlS 5 zs p q M hp hq (fun d hd=>by have:=hz d hd; cases d <;> first | exact rfl | simp [Zej] at this ⊢) hl
 obtain ⟨e',M8,lp,x14,G8,rfl,rfl⟩:=Zi1 (it:=⟨[.ref L,.ref (L + 2)],some Q⟩) (g:=Zci 14) (body:=(sIf (e1 Zev (Zai Zbh (Zb (ZbA [84,101,108,108,101,114] [116,105,109,101,115,95,97,115,107,101,100] ZaI (Za 14) (Zi)) (Zb (Za 8) (Zi))))) (Zax (eC (.bl false))) (Zam)))
  (P:=fun _ env M'=>∃ x14 G8,env = [some (.scr (ns.map D.int)),some (.ref 1),some (.int v),some (Zy roll),some (.int (many:Int)),some (.ref n1),some (.ref n2),some (.int (r.2:Int)),some (.ref M2.length),some (ZeT (Za6 roll x2)),some (.int mend),some (Ze (ZfN roll x2)),some (.ref Q),some (.tup [.bl (!decide (some u2 = Za6 roll x2)),.bl (!decide (some v2 = Za6 roll x2))]),x14,none] ∧ M' = A1 ++ G8)
  [.ref L,.ref (L + 2)] 0 _ A1 ⟨none,[],rfl,by simp⟩ (fun j env M' ⟨_,G8,_,h⟩=>by
   subst h
   simp only [locked,decide_eq_true_eq]
   exact Zal glA G8)
  (fun k d hd env M' ⟨x14,G8,he,hm⟩=>by
   subst he hm
   have each:∀ {n a:Nat} {ss:List D},A1[n]? = some (ZcR ss a) → A1[a]? = some (.lst ts) → ∃ env1 e' M',Zci 14 (.ref n) [some (.scr (ns.map D.int)),some (.ref 1),some (.int v),some (Zy roll),some (.int (many:Int)),some (.ref n1),some (.ref n2),some (.int (r.2:Int)),some (.ref M2.length),some (ZeT (Za6 roll x2)),some (.int mend),some (Ze (ZfN roll x2)),some (.ref Q),some (.tup [.bl (!decide (some u2 = Za6 roll x2)),.bl (!decide (some v2 = Za6 roll x2))]),x14,none] = some env1 ∧ (sIf (e1 Zev (Zai Zbh (Zb (ZbA [84,101,108,108,101,114] [116,105,109,101,115,95,97,115,107,101,100] ZaI (Za 14) (Zi)) (Zb (Za 8) (Zi))))) (Zax (eC (.bl false))) (Zam)) env1 (A1 ++ G8) = .nx e' M' ∧ ∃ x14 G8,e' = [some (.scr (ns.map D.int)),some (.ref 1),some (.int v),some (Zy roll),some (.int (many:Int)),some (.ref n1),some (.ref n2),some (.int (r.2:Int)),some (.ref M2.length),some (ZeT (Za6 roll x2)),some (.int mend),some (Ze (ZfN roll x2)),some (.ref Q),some (.tup [.bl (!decide (some u2 = Za6 roll x2)),.bl (!decide (some v2 = Za6 roll x2))]),x14,none] ∧ M' = A1 ++ G8:=fun {n a ss} ho ha=>by
    have ta:=ZeB (Zal ho G8) (Zal ha G8) (by omega)
    refine ⟨_,_,_,rfl,Zj (M':=A1 ++ G8 ++ [.lst ts]) (Zh1 (Zdr (Zdp rfl (Zdn (Zal ho G8) rfl rfl) rfl ta) rfl (smL (ZaA _ _ _) (Zal (Zal gtA G8) _) pts (by omega))) rfl),_,G8 ++ [.lst ts],rfl,by rw [List.append_assoc]⟩
   match k,hd with
   | 0,hd=>cases hd; exact each T1.o1 T1.l1
   | 1,hd=>cases hd; exact each T1.o2 T1.l2
   | k + 2,hd=>cases hd)
 refine Rt.loop (it:=⟨[.ref L,.ref (L + 2)],some Q⟩) (M1:=A1) (by simp only [ZfW,Za,List.getElem?_cons_succ,List.getElem?_cons_zero,R3.bind,glA]) lp ?_
 have T2:Tw (A1 ++ G8) (L + 2) (L + 3) L (L + 1) s2' s1' ts ts:=⟨Zal T1.o2 _,Zal T1.o1 _,Zal T1.l2 _,Zal T1.l1 _,by omega,by omega,by omega,by omega,by omega⟩
 obtain ⟨x3,u3,v3,gx3,gu3,gv3,jd2⟩:=ZhK roll R.rows T2 (by omega) (by omega) (by omega) (by omega) z0'.symm (by rw [ls2']; exact Ne.symm zl') good2
 rw [ZnK,eqf,ls2',hr] at gx3 gu3 gv3 jd2
 have f1:x3 = x2:=Option.some.inj (gx3.symm.trans ilow2)
 have f2:u3 = v2:=Option.some.inj (gu3.symm.trans iy)
 have f3:v3 = u2:=Option.some.inj (gv3.symm.trans ix)
 subst f1 f2 f3
 rw [hts] at jd2
 have T3:=T2.put (ts ++ ts) (ts ++ ts)
 have oA2:∀ j,j ≠ L + 3 → j ≠ L + 1 → (asked (A1 ++ G8) (L + 3) (L + 1) (ts ++ ts) (ts ++ ts))[j]? = (A1 ++ G8)[j]?:=fun j h1 h3=>by
  unfold asked
  rw [List.getElem?_set_ne (Ne.symm h3),List.getElem?_set_ne (Ne.symm h1)]
 have glA2:(asked (A1 ++ G8) (L + 3) (L + 1) (ts ++ ts) (ts ++ ts))[Q]? = some (.lst [.ref L,.ref (L + 2)]):=by rw [oA2 Q (by omega) (by omega)]; exact Zal glA _
 have gtA2:(asked (A1 ++ G8) (L + 3) (L + 1) (ts ++ ts) (ts ++ ts))[M2.length]? = some (.lst ts):=by rw [oA2 _ (by omega) (by omega)]; exact Zal gtA _
 generalize asked (A1 ++ G8) (L + 3) (L + 1) (ts ++ ts) (ts ++ ts) = A2 at jd2 T3 glA2 gtA2
 refine Rt.set (ZcL rfl (Zn rfl rfl (Zbo (Zal glA _) rfl)) (Zn rfl rfl (Zbo (Zal glA _) rfl)) jd2) ?_
 refine Rt.skip (M':=A2) (Zh1 (Zdr rfl (ZaW (Zag rfl (Zag (ZaW (Zag (Zn rfl rfl rfl) (Zag (Zn rfl rfl rfl) rfl)) rfl) rfl)) rfl) (sm _ _ A2)) rfl) ?_
 have ta:=ZeB T3.o2 T3.l2 (by rw [List.length_append]; omega)
 refine Rt.ret (M':=A2 ++ [.lst (ts ++ ts)] ++ [.lst (ts ++ ts)]) (Zdr (b:=.ref (A2 ++ [MO.lst (ts ++ ts)]).length) (Zdp (Zn rfl rfl (Zbo glA2 rfl)) (Zdn T3.o2 rfl rfl) rfl ta) (Zn rfl rfl ?_) (smL (zs:=ts ++ ts) (Zal (ZaA _ _ _) _) (ZaA _ _ _) (fun d hd=>by
  rcases List.mem_append.mp hd with q | q
  ·exact pts d q
  ·exact pts d q) (by rw [List.length_append]; omega)))
 have g9:(A2 ++ [MO.lst (ts ++ ts)])[M2.length]? = some (.lst ts):=Zal gtA2 _
 have z9:ts.length + ts.length ≤ SZ:=by show _ ≤ 1000000; omega
 simp only [Zz,g9]
 rw [if_pos z9]
 rfl
end Law
set_option maxHeartbeats 400000
namespace Law
open PySem PySem.Spec PyProof.Rows L2 L3
theorem uZ {P:List Value → Prop} (h:P []):∀ us:List Value,us.length = 0 → P us:=fun us e=>(List.eq_nil_of_length_eq_zero e) ▸ h
theorem uS {P:List Value → Prop} {n:Nat} (h:∀ a us,us.length = n → P (a :: us)) (us:List Value) (e:us.length = n + 1):P us:=by
 cases us with
 | nil=>exact absurd e (Nat.succ_ne_zero n).symm
 | cons a us=>exact h a us (Nat.succ.inj e)
theorem ub1 {P:List Value → Prop} {xa:Str} (h:∀ a,P [a]):∀ us:List Value,us.length = [xa].length → P us:=uS fun a=>uZ (h a)
theorem ub2 {P:List Value → Prop} {xa xb:Str} (h:∀ a b,P [a,b]):∀ us:List Value,us.length = [xa,xb].length → P us:=uS fun a=>uS fun b=>uZ (h a b)
theorem ub3 {P:List Value → Prop} {xa xb xc:Str} (h:∀ a b c,P [a,b,c]):∀ us:List Value,us.length = [xa,xb,xc].length → P us:=uS fun a=>uS fun b=>uS fun c=>uZ (h a b c)
theorem ub4 {P:List Value → Prop} {xa xb xc xd:Str} (h:∀ a b c d,P [a,b,c,d]):∀ us:List Value,us.length = [xa,xb,xc,xd].length → P us:=uS fun a=>uS fun b=>uS fun c=>uS fun d=>uZ (h a b c d)
theorem Zpg {l:PySem.W.OpenLaw} {w:World} {K:W.Frag} {h:Heap} {mg:Str → Option Value} {fa f0 f1 f2 f3 f4 f5 f6 f7 f8 f9 f10 f11 f12 f13 f14 f15 f16 f17 f18 f19 f20 f21 f22 f23 f24 f25 f26 f27:Addr} (X:K.In h) (G:h.Ns mainGlobals mg) (hfa:mg "law" = some (.ref fa))
  {od0 an0 od1 an1 od2 an2 od3 an3 od4 an4 od5 an5 od6 an6 od7 an7 od8 an8 od9 an9 od10 an10 od11 an11 od12 an12 od13 an13 od14 an14 od15 an15 od16 an16 od17 an17 od18 an18 od19 an19 od20 an20 od21 an21 od22 an22 od23 an23 od24 an24 od25 an25 od26 an26 od27 an27:Option Addr} {sl0 sl1 sl2 sl3 sl4 sl5 sl6 sl7 sl8 sl9 sl10 sl11 sl12 sl13 sl14 sl15 sl16 sl17 sl18 sl19 sl20 sl21 sl22 sl23 sl24 sl25 sl26 sl27:Array (Option Value)} {oc0 kV0 dc0 pm0 cd0 ct0 oc1 kV1 dc1 pm1 cd1 ct1 oc2 kV2 dc2 pm2 cd2 ct2 oc3 kV3 dc3 pm3 cd3 ct3 oc4 kV4 dc4 pm4 cd4 ct4 oc5 kV5 dc5 pm5 cd5 ct5 oc6 kV6 dc6 pm6 cd6 ct6 oc7 kV7 dc7 pm7 cd7 ct7 oc8 kV8 dc8 pm8 cd8 ct8 oc9 kV9 dc9 pm9 cd9 ct9 oc10 kV10 dc10 pm10 cd10 ct10 oc11 kV11 dc11 pm11 cd11 ct11 oc12 kV12 dc12 pm12 cd12 ct12 oc13 kV13 dc13 pm13 cd13 ct13 oc14 kV14 dc14 pm14 cd14 ct14 oc15 kV15 dc15 pm15 cd15 ct15 oc16 kV16 dc16 pm16 cd16 ct16 oc17 kV17 dc17 pm17 cd17 ct17 oc18 kV18 dc18 pm18 cd18 ct18 oc19 kV19 dc19 pm19 cd19 ct19 oc20 kV20 dc20 pm20 cd20 ct20 oc21 kV21 dc21 pm21 cd21 ct21 oc22 kV22 dc22 pm22 cd22 ct22 oc23 kV23 dc23 pm23 cd23 ct23 oc24 kV24 dc24 pm24 cd24 ct24 oc25 kV25 dc25 pm25 cd25 ct25 oc26 kV26 dc26 pm26 cd26 ct26 oc27 kV27 dc27 pm27 cd27 ct27:Value} {C_Teller:Addr}
  (w_Teller_a:W.nsIn K mainGlobals "Teller" = some (some (.ref C_Teller)))
  (w_Teller_pg:PySem.W.plainGet K C_Teller Str.empty = true)
  (w_Teller_hd:PySem.W.hasDictIn K C_Teller = true)
  (w_Teller_po:PySem.W.plainOver K C_Teller = true)
  (w_Teller_sa:PySem.W.findIn K (.ref C_Teller) "__setattr__" = some (some (.builtin "object.__setattr__")))
  (w_Teller_mk:PySem.W.makesIn K C_Teller = true)
  (w_Teller_kp:W.keepIn K (.ref C_Teller) = true)
  (w_Teller_n_asked:PySem.W.findIn K (.ref C_Teller) "asked" = some none)
  (w_Teller_n_states:PySem.W.findIn K (.ref C_Teller) "states" = some none)
  (a0:W.nsIn K mainGlobals "next_place" = some (some (.ref f0))) (l0:K.lookup f0 = some ⟨oc0,od0,.func (W.fnOf "next_place" "next_place" (Zaq ZbW) (Zan ZbW) (Zo ZbW) .none kV0 dc0 pm0 an0 cd0 ct0),sl0⟩) (c0:W.codeIn K cd0 "next_place" = true) (k0:W.keepIn K (.ref f0) = true)
  (a1:W.nsIn K mainGlobals "worked" = some (some (.ref f1))) (l1:K.lookup f1 = some ⟨oc1,od1,.func (W.fnOf "worked" "worked" (Zaq Zd3) (Zan Zd3) (Zo Zd3) .none kV1 dc1 pm1 an1 cd1 ct1),sl1⟩) (c1:W.codeIn K cd1 "worked" = true) (k1:W.keepIn K (.ref f1) = true)
  (a2:W.nsIn K mainGlobals "with_box" = some (some (.ref f2))) (l2:K.lookup f2 = some ⟨oc2,od2,.func (W.fnOf "with_box" "with_box" (Zaq ZcY) (Zan ZcY) (Zo ZcY) .none kV2 dc2 pm2 an2 cd2 ct2),sl2⟩) (c2:W.codeIn K cd2 "with_box" = true) (k2:W.keepIn K (.ref f2) = true)
  (a3:W.nsIn K mainGlobals "cell_value" = some (some (.ref f3))) (l3:K.lookup f3 = some ⟨oc3,od3,.func (W.fnOf "cell_value" "cell_value" (Zaq ZbX) (Zan ZbX) (Zo ZbX) .none kV3 dc3 pm3 an3 cd3 ct3),sl3⟩) (c3:W.codeIn K cd3 "cell_value" = true) (k3:W.keepIn K (.ref f3) = true)
  (a4:W.nsIn K mainGlobals "next_boxes" = some (some (.ref f4))) (l4:K.lookup f4 = some ⟨oc4,od4,.func (W.fnOf "next_boxes" "next_boxes" (Zaq Zb5) (Zan Zb5) (Zo Zb5) .none kV4 dc4 pm4 an4 cd4 ct4),sl4⟩) (c4:W.codeIn K cd4 "next_boxes" = true) (k4:W.keepIn K (.ref f4) = true)
  (a5:W.nsIn K mainGlobals "with_cell" = some (some (.ref f5))) (l5:K.lookup f5 = some ⟨oc5,od5,.func (W.fnOf "with_cell" "with_cell" (Zaq Zcr) (Zan Zcr) (Zo Zcr) .none kV5 dc5 pm5 an5 cd5 ct5),sl5⟩) (c5:W.codeIn K cd5 "with_cell" = true) (k5:W.keepIn K (.ref f5) = true)
  (a6:W.nsIn K mainGlobals "next_cells" = some (some (.ref f6))) (l6:K.lookup f6 = some ⟨oc6,od6,.func (W.fnOf "next_cells" "next_cells" (Zaq Zb4) (Zan Zb4) (Zo Zb4) .none kV6 dc6 pm6 an6 cd6 ct6),sl6⟩) (c6:W.codeIn K cd6 "next_cells" = true) (k6:W.keepIn K (.ref f6) = true)
  (a7:W.nsIn K mainGlobals "next_state" = some (some (.ref f7))) (l7:K.lookup f7 = some ⟨oc7,od7,.func (W.fnOf "next_state" "next_state" (Zaq Zb1) (Zan Zb1) (Zo Zb1) .none kV7 dc7 pm7 an7 cd7 ct7),sl7⟩) (c7:W.codeIn K cd7 "next_state" = true) (k7:W.keepIn K (.ref f7) = true)
  (a8:W.nsIn K mainGlobals "is_within" = some (some (.ref f8))) (l8:K.lookup f8 = some ⟨oc8,od8,.func (W.fnOf "is_within" "is_within" (Zaq Zcv) (Zan Zcv) (Zo Zcv) .none kV8 dc8 pm8 an8 cd8 ct8),sl8⟩) (c8:W.codeIn K cd8 "is_within" = true) (k8:W.keepIn K (.ref f8) = true)
  (a9:PySem.W.findIn K (.ref C_Teller) "many" = some (some (.ref f9))) (i9:PySem.W.isFn K (.ref f9) = true) (l9:K.lookup f9 = some ⟨oc9,od9,.func (W.fnOf "many" "Teller.many" (Zaq ZbE) (Zan ZbE) (Zo ZbE) .none kV9 dc9 pm9 an9 cd9 ct9),sl9⟩) (c9:W.codeIn K cd9 "Teller.many" = true) (k9:W.keepIn K (.ref f9) = true)
  (a10:PySem.W.findIn K (.ref C_Teller) "state_at" = some (some (.ref f10))) (i10:PySem.W.isFn K (.ref f10) = true) (l10:K.lookup f10 = some ⟨oc10,od10,.func (W.fnOf "state_at" "Teller.state_at" (Zaq Za9) (Zan Za9) (Zo Za9) .none kV10 dc10 pm10 an10 cd10 ct10),sl10⟩) (c10:W.codeIn K cd10 "Teller.state_at" = true) (k10:W.keepIn K (.ref f10) = true)
  (a11:W.nsIn K mainGlobals "both_at" = some (some (.ref f11))) (l11:K.lookup f11 = some ⟨oc11,od11,.func (W.fnOf "both_at" "both_at" (Zaq Zdk) (Zan Zdk) (Zo Zdk) .none kV11 dc11 pm11 an11 cd11 ct11),sl11⟩) (c11:W.codeIn K cd11 "both_at" = true) (k11:W.keepIn K (.ref f11) = true)
  (a12:W.nsIn K mainGlobals "are_unlike" = some (some (.ref f12))) (l12:K.lookup f12 = some ⟨oc12,od12,.func (W.fnOf "are_unlike" "are_unlike" (Zaq Zb6) (Zan Zb6) (Zo Zb6) .none kV12 dc12 pm12 an12 cd12 ct12),sl12⟩) (c12:W.codeIn K cd12 "are_unlike" = true) (k12:W.keepIn K (.ref f12) = true)
  (a13:W.nsIn K mainGlobals "wrong_ones" = some (some (.ref f13))) (l13:K.lookup f13 = some ⟨oc13,od13,.func (W.fnOf "wrong_ones" "wrong_ones" (Zaq ZbU) (Zan ZbU) (Zo ZbU) .none kV13 dc13 pm13 an13 cd13 ct13),sl13⟩) (c13:W.codeIn K cd13 "wrong_ones" = true) (k13:W.keepIn K (.ref f13) = true)
  (a14:W.nsIn K mainGlobals "judged" = some (some (.ref f14))) (l14:K.lookup f14 = some ⟨oc14,od14,.func (W.fnOf "judged" "judged" (Zaq ZdY) (Zan ZdY) (Zo ZdY) .none kV14 dc14 pm14 an14 cd14 ct14),sl14⟩) (c14:W.codeIn K cd14 "judged" = true) (k14:W.keepIn K (.ref f14) = true)
  (a15:W.nsIn K mainGlobals "_law_next" = some (some (.ref f15))) (l15:K.lookup f15 = some ⟨oc15,od15,.func (W.fnOf "_law_next" "_law_next" (Zaq Zcz) (Zan Zcz) (Zo Zcz) .none kV15 dc15 pm15 an15 cd15 ct15),sl15⟩) (c15:W.codeIn K cd15 "_law_next" = true) (k15:W.keepIn K (.ref f15) = true)
  (a16:W.nsIn K mainGlobals "_law_same" = some (some (.ref f16))) (l16:K.lookup f16 = some ⟨oc16,od16,.func (W.fnOf "_law_same" "_law_same" (Zaq Zcs) (Zan Zcs) (Zo Zcs) .none kV16 dc16 pm16 an16 cd16 ct16),sl16⟩) (c16:W.codeIn K cd16 "_law_same" = true) (k16:W.keepIn K (.ref f16) = true)
  (a17:W.nsIn K mainGlobals "_law_roll" = some (some (.ref f17))) (l17:K.lookup f17 = some ⟨oc17,od17,.func (W.fnOf "_law_roll" "_law_roll" (Zaq Zcq) (Zan Zcq) (Zo Zcq) .none kV17 dc17 pm17 an17 cd17 ct17),sl17⟩) (c17:W.codeIn K cd17 "_law_roll" = true) (k17:W.keepIn K (.ref f17) = true)
  (a18:W.nsIn K mainGlobals "_law_behind" = some (some (.ref f18))) (l18:K.lookup f18 = some ⟨oc18,od18,.func (W.fnOf "_law_behind" "_law_behind" (Zaq ZbF) (Zan ZbF) (Zo ZbF) .none kV18 dc18 pm18 an18 cd18 ct18),sl18⟩) (c18:W.codeIn K cd18 "_law_behind" = true) (k18:W.keepIn K (.ref f18) = true)
  (a19:W.nsIn K mainGlobals "_law_cells_with" = some (some (.ref f19))) (l19:K.lookup f19 = some ⟨oc19,od19,.func (W.fnOf "_law_cells_with" "_law_cells_with" (Zaq Zbd) (Zan Zbd) (Zo Zbd) .none kV19 dc19 pm19 an19 cd19 ct19),sl19⟩) (c19:W.codeIn K cd19 "_law_cells_with" = true) (k19:W.keepIn K (.ref f19) = true)
  (a20:W.nsIn K mainGlobals "_law_next_state" = some (some (.ref f20))) (l20:K.lookup f20 = some ⟨oc20,od20,.func (W.fnOf "_law_next_state" "_law_next_state" (Zaq Zbc) (Zan Zbc) (Zo Zbc) .none kV20 dc20 pm20 an20 cd20 ct20),sl20⟩) (c20:W.codeIn K cd20 "_law_next_state" = true) (k20:W.keepIn K (.ref f20) = true)
  (a21:W.nsIn K mainGlobals "_law_state" = some (some (.ref f21))) (l21:K.lookup f21 = some ⟨oc21,od21,.func (W.fnOf "_law_state" "_law_state" (Zaq Zb2) (Zan Zb2) (Zo Zb2) .none kV21 dc21 pm21 an21 cd21 ct21),sl21⟩) (c21:W.codeIn K cd21 "_law_state" = true) (k21:W.keepIn K (.ref f21) = true)
  (a22:W.nsIn K mainGlobals "_law_other" = some (some (.ref f22))) (l22:K.lookup f22 = some ⟨oc22,od22,.func (W.fnOf "_law_other" "_law_other" (Zaq Zb3) (Zan Zb3) (Zo Zb3) .none kV22 dc22 pm22 an22 cd22 ct22),sl22⟩) (c22:W.codeIn K cd22 "_law_other" = true) (k22:W.keepIn K (.ref f22) = true)
  (a23:W.nsIn K mainGlobals "_law_lists" = some (some (.ref f23))) (l23:K.lookup f23 = some ⟨oc23,od23,.func (W.fnOf "_law_lists" "_law_lists" (Zaq Zb0) (Zan Zb0) (Zo Zb0) .none kV23 dc23 pm23 an23 cd23 ct23),sl23⟩) (c23:W.codeIn K cd23 "_law_lists" = true) (k23:W.keepIn K (.ref f23) = true)
  (a24:W.nsIn K mainGlobals "_law_halving" = some (some (.ref f24))) (l24:K.lookup f24 = some ⟨oc24,od24,.func (W.fnOf "_law_halving" "_law_halving" (Zaq Zbw) (Zan Zbw) (Zo Zbw) .none kV24 dc24 pm24 an24 cd24 ct24),sl24⟩) (c24:W.codeIn K cd24 "_law_halving" = true) (k24:W.keepIn K (.ref f24) = true)
  (a25:PySem.W.findIn K (.ref C_Teller) "__init__" = some (some (.ref f25))) (i25:PySem.W.isFn K (.ref f25) = true) (l25:K.lookup f25 = some ⟨oc25,od25,.func (W.fnOf "__init__" "Teller.__init__" (Zaq Zbb) (Zan Zbb) (Zo Zbb) .none kV25 dc25 pm25 an25 cd25 ct25),sl25⟩) (c25:W.codeIn K cd25 "Teller.__init__" = true) (k25:W.keepIn K (.ref f25) = true)
  (a26:PySem.W.findIn K (.ref C_Teller) "times_asked" = some (some (.ref f26))) (i26:PySem.W.isFn K (.ref f26) = true) (l26:K.lookup f26 = some ⟨oc26,od26,.func (W.fnOf "times_asked" "Teller.times_asked" (Zaq ZaR) (Zan ZaR) (Zo ZaR) .none kV26 dc26 pm26 an26 cd26 ct26),sl26⟩) (c26:W.codeIn K cd26 "Teller.times_asked" = true) (k26:W.keepIn K (.ref f26) = true)
  (a27:W.nsIn K mainGlobals "law" = some (some (.ref f27))) (l27:K.lookup f27 = some ⟨oc27,od27,.func (W.fnOf "law" "law" (Zaq ZfM) (Zan ZfM) (Zo ZfM) .none kV27 dc27 pm27 an27 cd27 ct27),sl27⟩) (c27:W.codeIn K cd27 "law" = true) (k27:W.keepIn K (.ref f27) = true)
  (z_all:W.nsIn K mainGlobals "all" = some none)
  (z_bool:W.nsIn K mainGlobals "bool" = some none)
  (z_dict:W.nsIn K mainGlobals "dict" = some none)
  (z_enumerate:W.nsIn K mainGlobals "enumerate" = some none)
  (z_int:W.nsIn K mainGlobals "int" = some none)
  (z_isinstance:W.nsIn K mainGlobals "isinstance" = some none)
  (z_len:W.nsIn K mainGlobals "len" = some none)
  (z_list:W.nsIn K mainGlobals "list" = some none)
  (z_min:W.nsIn K mainGlobals "min" = some none)
  (z_range:W.nsIn K mainGlobals "range" = some none)
  (z_sorted:W.nsIn K mainGlobals "sorted" = some none)
  (z_str:W.nsIn K mainGlobals "str" = some none)
  (z_tuple:W.nsIn K mainGlobals "tuple" = some none):
  ∃ fd:FuncData,(∀ (s:Shared) (v:Value),BindsTo s fd ⟨[v],[]⟩ [("script",v)]) ∧ ∀ base:Heap,K.In base → base.Ns mainGlobals mg → ZdF l.prog w K mg base CX0 9 fa fd ["script"] (sp3 K 1 ZkG):=by
 have e:=hfa.symm.trans (W.mg_of X G a27)
 cases e
 have T:Txt K mg:=⟨trivial,W.mg_none_of X G z_all,W.mg_none_of X G z_bool,W.mg_none_of X G z_dict,W.mg_none_of X G z_enumerate,W.mg_none_of X G z_int,W.mg_none_of X G z_isinstance,W.mg_none_of X G z_len,W.mg_none_of X G z_list,W.mg_none_of X G z_min,W.mg_none_of X G z_range,W.mg_none_of X G z_sorted,W.mg_none_of X G z_str,W.mg_none_of X G z_tuple⟩
 have O_Teller:Zcw K mg C_Teller:=⟨⟨by unfold L3.ClsAt; rw [show (⟨([84,101,108,108,101,114]:List Nat).toArray⟩:Str) = "Teller" by decide +kernel]; exact w_Teller_a,⟨w_Teller_pg,w_Teller_hd,w_Teller_po,w_Teller_sa⟩⟩,W.mg_of X G w_Teller_a,by rw [show nm [97,115,107,101,100] = "asked" by decide +kernel]; exact w_Teller_n_asked,by rw [show nm [115,116,97,116,101,115] = "states" by decide +kernel]; exact w_Teller_n_states⟩
 have D_next_place:ZaF K mg "next_place" ZbW ["row","place","boxes"]:=ZaK X G a0 l0 c0 k0 (Binds.all (ub3 fun _ _ _=>rfl))
 have D_worked:ZaF K mg "worked" Zd3 ["name","one","other"]:=ZaK X G a1 l1 c1 k1 (Binds.all (ub3 fun _ _ _=>rfl))
 have D_with_box:ZaF K mg "with_box" ZcY ["boxes","box","value"]:=ZaK X G a2 l2 c2 k2 (Binds.all (ub3 fun _ _ _=>rfl))
 have D_cell_value:ZaF K mg "cell_value" ZbX ["cells","number"]:=ZaK X G a3 l3 c3 k3 (Binds.all (ub2 fun _ _=>rfl))
 have D_next_boxes:ZaF K mg "next_boxes" Zb5 ["row","boxes","cells"]:=ZaK X G a4 l4 c4 k4 (Binds.all (ub3 fun _ _ _=>rfl))
 have D_with_cell:ZaF K mg "with_cell" Zcr ["cells","number","value"]:=ZaK X G a5 l5 c5 k5 (Binds.all (ub3 fun _ _ _=>rfl))
 have D_next_cells:ZaF K mg "next_cells" Zb4 ["row","boxes","cells"]:=ZaK X G a6 l6 c6 k6 (Binds.all (ub3 fun _ _ _=>rfl))
 have D_next_state:ZaF K mg "next_state" Zb1 ["roll","state"]:=ZaK X G a7 l7 c7 k7 (Binds.all (ub2 fun _ _=>rfl))
 have D_is_within:ZaF K mg "is_within" Zcv ["number","many"]:=ZaK X G a8 l8 c8 k8 (Binds.all (ub2 fun _ _=>rfl))
 have D_Teller_many:Zgj K C_Teller "many" "Teller.many" ZbE ["self"]:=Zg9 a9 i9 l9 c9 k9 (Binds.all (ub1 fun _=>rfl))
 have D_Teller_state_at:Zgj K C_Teller "state_at" "Teller.state_at" Za9 ["self","time"]:=Zg9 a10 i10 l10 c10 k10 (Binds.all (ub2 fun _ _=>rfl))
 have D_both_at:ZaF K mg "both_at" Zdk ["one","other","time"]:=ZaK X G a11 l11 c11 k11 (Binds.all (ub3 fun _ _ _=>rfl))
 have D_are_unlike:ZaF K mg "are_unlike" Zb6 ["both"]:=ZaK X G a12 l12 c12 k12 (Binds.all (ub1 fun _=>rfl))
 have D_wrong_ones:ZaF K mg "wrong_ones" ZbU ["roll","state","both"]:=ZaK X G a13 l13 c13 k13 (Binds.all (ub3 fun _ _ _=>rfl))
 have D_judged:ZaF K mg "judged" ZdY ["roll","one","other"]:=ZaK X G a14 l14 c14 k14 (Binds.all (ub3 fun _ _ _=>rfl))
 have D__law_next:ZaF K mg "_law_next" Zcz ["deck"]:=ZaK X G a15 l15 c15 k15 (Binds.all (ub1 fun _=>rfl))
 have D__law_same:ZaF K mg "_law_same" Zcs ["found","due"]:=ZaK X G a16 l16 c16 k16 (Binds.all (ub2 fun _ _=>rfl))
 have D__law_roll:ZaF K mg "_law_roll" Zcq ["cells"]:=ZaK X G a17 l17 c17 k17 (Binds.all (ub1 fun _=>rfl))
 have D__law_behind:ZaF K mg "_law_behind" ZbF ["deed","place","boxes","held"]:=ZaK X G a18 l18 c18 k18 (Binds.all (ub4 fun _ _ _ _=>rfl))
 have D__law_cells_with:ZaF K mg "_law_cells_with" Zbd ["cells","number","value"]:=ZaK X G a19 l19 c19 k19 (Binds.all (ub3 fun _ _ _=>rfl))
 have D__law_next_state:ZaF K mg "_law_next_state" Zbc ["roll","state"]:=ZaK X G a20 l20 c20 k20 (Binds.all (ub2 fun _ _=>rfl))
 have D__law_state:ZaF K mg "_law_state" Zb2 ["deck","roll"]:=ZaK X G a21 l21 c21 k21 (Binds.all (ub2 fun _ _=>rfl))
 have D__law_other:ZaF K mg "_law_other" Zb3 ["state","cell","size"]:=ZaK X G a22 l22 c22 k22 (Binds.all (ub3 fun _ _ _=>rfl))
 have D__law_lists:ZaF K mg "_law_lists" Zb0 ["deck","roll","many","way"]:=ZaK X G a23 l23 c23 k23 (Binds.all (ub4 fun _ _ _ _=>rfl))
 have D__law_halving:ZaF K mg "_law_halving" Zbw ["ones","others"]:=ZaK X G a24 l24 c24 k24 (Binds.all (ub2 fun _ _=>rfl))
 have D_Teller___init__:Zn3 K C_Teller "Teller.__init__" Zbb ["self","states"]:=Zos w_Teller_mk w_Teller_kp a25 i25 l25 c25 k25 (Binds.all (ub2 fun _ _=>rfl))
 have D_Teller_times_asked:Zgj K C_Teller "times_asked" "Teller.times_asked" ZaR ["self"]:=Zg9 a26 i26 l26 c26 k26 (Binds.all (ub1 fun _=>rfl))
 refine ⟨W.fnOf "law" "law" (Zaq ZfM) (Zan ZfM) (Zo ZfM) .none kV27 dc27 pm27 an27 cd27 ct27,fun s v=>.of_eq rfl,fun base _ _=>?_⟩
 have F_next_place:=ZhE (P:=l.prog) (w:=w) (base:=base) D_next_place T
 have F_worked:=Zln (P:=l.prog) (w:=w) (base:=base) D_worked T
 have F_with_box:=Zjd (P:=l.prog) (w:=w) (base:=base) D_with_box T
 have F_cell_value:=Zhy (P:=l.prog) (w:=w) (base:=base) D_cell_value T
 have F_next_boxes:=Zho (P:=l.prog) (w:=w) (base:=base) D_next_boxes T F_worked F_with_box F_cell_value
 have F_with_cell:=ZiA (P:=l.prog) (w:=w) (base:=base) D_with_cell T
 have F_next_cells:=Zhs (P:=l.prog) (w:=w) (base:=base) D_next_cells T F_with_cell
 have F_next_state:=Zhw (P:=l.prog) (w:=w) (base:=base) D_next_state T F_next_place F_next_boxes F_next_cells
 have F_is_within:=Ziq (P:=l.prog) (w:=w) (base:=base) D_is_within T
 have M_Teller_many:=Zha (P:=l.prog) (w:=w) (base:=base) O_Teller D_Teller_many T
 have M_Teller_state_at:=Zfd (P:=l.prog) (w:=w) (base:=base) O_Teller D_Teller_state_at T F_is_within
 have F_both_at:=Zky (P:=l.prog) (w:=w) (base:=base) D_both_at T O_Teller M_Teller_state_at
 have F_are_unlike:=ZhA (P:=l.prog) (w:=w) (base:=base) D_are_unlike T
 have F_wrong_ones:=ZhF (P:=l.prog) (w:=w) (base:=base) D_wrong_ones T F_next_state
 have F_judged:=Zlu (P:=l.prog) (w:=w) (base:=base) D_judged T O_Teller M_Teller_many F_both_at F_are_unlike F_wrong_ones
 have F__law_next:=ZiJ (P:=l.prog) (w:=w) (base:=base) D__law_next T
 have F__law_same:=ZiD (P:=l.prog) (w:=w) (base:=base) D__law_same T
 have F__law_roll:=ZiI (P:=l.prog) (w:=w) (base:=base) D__law_roll T
 have F__law_behind:=ZgK (P:=l.prog) (w:=w) (base:=base) D__law_behind T
 have F__law_cells_with:=Zfq (P:=l.prog) (w:=w) (base:=base) D__law_cells_with T
 have F__law_next_state:=Zfj (P:=l.prog) (w:=w) (base:=base) D__law_next_state T F__law_behind F__law_cells_with
 have F__law_state:=Zhj (P:=l.prog) (w:=w) (base:=base) D__law_state T F__law_next
 have F__law_other:=Zhn (P:=l.prog) (w:=w) (base:=base) D__law_other T F__law_cells_with
 have F__law_lists:=Zhx (P:=l.prog) (w:=w) (base:=base) D__law_lists T F__law_next F__law_state F__law_other
 have F__law_halving:=Zgw (P:=l.prog) (w:=w) (base:=base) D__law_halving T
 have M_Teller___init__:=Zfl (P:=l.prog) (w:=w) (base:=base) O_Teller D_Teller___init__ T
 have M_Teller_times_asked:=Zes (P:=l.prog) (w:=w) (base:=base) O_Teller D_Teller_times_asked T
 exact Zpe (ZmC (st:=ZfM) l27 c27 k27) T O_Teller M_Teller___init__ M_Teller_times_asked F_judged F__law_next F__law_same F__law_roll F__law_next_state F__law_other F__law_lists F__law_halving
end Law
open PySem PySem.W PyProof.Rows
set_option maxRecDepth 100000 in
set_option maxHeartbeats 0 in
theorem PySem.Challenge.cw_stepledger_k52_judged_holds : PySem.Challenge.rw_stepledger_k52_judged.Holds := by
 w_on; o_law; k_head; (case hw=>w_witness2)
 k_fill
 refine L3.Zrp (l:=PySem.Challenge.rw_stepledger_k52_judged) (k:=9) (F:=Law.ZkG) rfl rfl ⟨rfl,by decide,by decide⟩ (fun w h Y=>W.kIn_of Y) ?G Law.law_holds
 case G=>
  intro w mg fa h KX G hmg
  refine' Law.Zpg KX G hmg ?w_Teller_a ?w_Teller_pg ?w_Teller_hd ?w_Teller_po ?w_Teller_sa ?w_Teller_mk ?w_Teller_kp ?w_Teller_n_asked ?w_Teller_n_states ?a0 ?l0 ?c0 ?k0 ?a1 ?l1 ?c1 ?k1 ?a2 ?l2 ?c2 ?k2 ?a3 ?l3 ?c3 ?k3 ?a4 ?l4 ?c4 ?k4 ?a5 ?l5 ?c5 ?k5 ?a6 ?l6 ?c6 ?k6 ?a7 ?l7 ?c7 ?k7 ?a8 ?l8 ?c8 ?k8 ?a9 ?i9 ?l9 ?c9 ?k9 ?a10 ?i10 ?l10 ?c10 ?k10 ?a11 ?l11 ?c11 ?k11 ?a12 ?l12 ?c12 ?k12 ?a13 ?l13 ?c13 ?k13 ?a14 ?l14 ?c14 ?k14 ?a15 ?l15 ?c15 ?k15 ?a16 ?l16 ?c16 ?k16 ?a17 ?l17 ?c17 ?k17 ?a18 ?l18 ?c18 ?k18 ?a19 ?l19 ?c19 ?k19 ?a20 ?l20 ?c20 ?k20 ?a21 ?l21 ?c21 ?k21 ?a22 ?l22 ?c22 ?k22 ?a23 ?l23 ?c23 ?k23 ?a24 ?l24 ?c24 ?k24 ?a25 ?i25 ?l25 ?c25 ?k25 ?a26 ?i26 ?l26 ?c26 ?k26 ?a27 ?l27 ?c27 ?k27 ?z_all ?z_bool ?z_dict ?z_enumerate ?z_int ?z_isinstance ?z_len ?z_list ?z_min ?z_range ?z_sorted ?z_str ?z_tuple
  (case w_Teller_a=>k_is)
  (case w_Teller_pg=>k_is)
  (case w_Teller_hd=>k_is)
  (case w_Teller_po=>k_is)
  (case w_Teller_sa=>k_is)
  (case w_Teller_mk=>k_is)
  (case w_Teller_kp=>k_is)
  (case w_Teller_n_asked=>k_is)
  (case w_Teller_n_states=>k_is)
  (case a0=>k_is)
  (case l0=>k_is)
  (case c0=>k_is)
  (case k0=>k_is)
  (case a1=>k_is)
  (case l1=>k_is)
  (case c1=>k_is)
  (case k1=>k_is)
  (case a2=>k_is)
  (case l2=>k_is)
  (case c2=>k_is)
  (case k2=>k_is)
  (case a3=>k_is)
  (case l3=>k_is)
  (case c3=>k_is)
  (case k3=>k_is)
  (case a4=>k_is)
  (case l4=>k_is)
  (case c4=>k_is)
  (case k4=>k_is)
  (case a5=>k_is)
  (case l5=>k_is)
  (case c5=>k_is)
  (case k5=>k_is)
  (case a6=>k_is)
  (case l6=>k_is)
  (case c6=>k_is)
  (case k6=>k_is)
  (case a7=>k_is)
  (case l7=>k_is)
  (case c7=>k_is)
  (case k7=>k_is)
  (case a8=>k_is)
  (case l8=>k_is)
  (case c8=>k_is)
  (case k8=>k_is)
  (case a9=>k_is)
  (case i9=>k_is)
  (case l9=>k_is)
  (case c9=>k_is)
  (case k9=>k_is)
  (case a10=>k_is)
  (case i10=>k_is)
  (case l10=>k_is)
  (case c10=>k_is)
  (case k10=>k_is)
  (case a11=>k_is)
  (case l11=>k_is)
  (case c11=>k_is)
  (case k11=>k_is)
  (case a12=>k_is)
  (case l12=>k_is)
  (case c12=>k_is)
  (case k12=>k_is)
  (case a13=>k_is)
  (case l13=>k_is)
  (case c13=>k_is)
  (case k13=>k_is)
  (case a14=>k_is)
  (case l14=>k_is)
  (case c14=>k_is)
  (case k14=>k_is)
  (case a15=>k_is)
  (case l15=>k_is)
  (case c15=>k_is)
  (case k15=>k_is)
  (case a16=>k_is)
  (case l16=>k_is)
  (case c16=>k_is)
  (case k16=>k_is)
  (case a17=>k_is)
  (case l17=>k_is)
  (case c17=>k_is)
  (case k17=>k_is)
  (case a18=>k_is)
  (case l18=>k_is)
  (case c18=>k_is)
  (case k18=>k_is)
  (case a19=>k_is)
  (case l19=>k_is)
  (case c19=>k_is)
  (case k19=>k_is)
  (case a20=>k_is)
  (case l20=>k_is)
  (case c20=>k_is)
  (case k20=>k_is)
  (case a21=>k_is)
  (case l21=>k_is)
  (case c21=>k_is)
  (case k21=>k_is)
  (case a22=>k_is)
  (case l22=>k_is)
  (case c22=>k_is)
  (case k22=>k_is)
  (case a23=>k_is)
  (case l23=>k_is)
  (case c23=>k_is)
  (case k23=>k_is)
  (case a24=>k_is)
  (case l24=>k_is)
  (case c24=>k_is)
  (case k24=>k_is)
  (case a25=>k_is)
  (case i25=>k_is)
  (case l25=>k_is)
  (case c25=>k_is)
  (case k25=>k_is)
  (case a26=>k_is)
  (case i26=>k_is)
  (case l26=>k_is)
  (case c26=>k_is)
  (case k26=>k_is)
  (case a27=>k_is)
  (case l27=>k_is)
  (case c27=>k_is)
  (case k27=>k_is)
  (case z_all=>k_is)
  (case z_bool=>k_is)
  (case z_dict=>k_is)
  (case z_enumerate=>k_is)
  (case z_int=>k_is)
  (case z_isinstance=>k_is)
  (case z_len=>k_is)
  (case z_list=>k_is)
  (case z_min=>k_is)
  (case z_range=>k_is)
  (case z_sorted=>k_is)
  (case z_str=>k_is)
  (case z_tuple=>k_is)
