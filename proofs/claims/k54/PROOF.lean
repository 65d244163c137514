import PyProof.Rows.All
import Wide.All
import OpenK.AllK
import Wide.FinOn
import Lean
import PyProof.EqAt
import PyProof.EqKinds
import PyProof.TupleCall
import PySem.Challenge.RW_stepledger_k54_no_dispute
namespace L3
set_option compiler.extract_closed false
set_option genSizeOf false in
set_option genInjectivity false in
inductive AE where
 | v (i:Nat)
 | k (n:Nat)
 | a (x y:AE)
 | m (n:Nat) (x:AE)
noncomputable def Zos:List Nat → Nat → Nat
 | [],_=>0
 | x :: _,0=>x
 | _ :: l,n + 1=>Zos l n
noncomputable def AE.ev (c:List Nat):AE → Nat
 | .v i=>Zos c i
 | .k n=>n
 | .a x y=>x.ev c + y.ev c
 | .m n x=>n * x.ev c
noncomputable def aL:List Nat → List Nat → List Nat
 | [],r=>r
 | x :: l,[]=>x :: l
 | x :: l,y :: r=>(x + y) :: aL l r
noncomputable def sL (n:Nat):List Nat → List Nat
 | []=>[]
 | x :: l=>(n * x) :: sL n l
noncomputable def uL:Nat → List Nat
 | 0=>[1]
 | n + 1=>0 :: uL n
noncomputable def AE.li:AE → List Nat
 | .v i=>0 :: uL i
 | .k n=>[n]
 | .a x y=>aL x.li y.li
 | .m n x=>sL n x.li
noncomputable def dt:List Nat → List Nat → Nat
 | x :: c,y :: l=>x * y + dt c l
 | [],_=>0
 | _,[]=>0
noncomputable def leL:List Nat → List Nat → Bool
 | [],_=>true
 | x :: l,[]=>Nat.ble x 0 && leL l []
 | x :: l,y :: r=>Nat.ble x y && leL l r
theorem ZcZ:∀ c,dt c [] = 0
 | []=>rfl
 | _ :: _=>rfl
theorem ZeP:∀ c l r,dt c (aL l r) = dt c l + dt c r
 | c,[],r=>by rw [ZcZ,Nat.zero_add]; rfl
 | c,x :: l,[]=>by rw [ZcZ]; rfl
 | [],x :: l,y :: r=>rfl
 | z :: c,x :: l,y :: r=>by
  show z * (x + y) + dt c (aL l r) = _
  rw [ZeP c l r,Nat.mul_add]; exact Nat.add_add_add_comm _ _ _ _
theorem Zjy (n:Nat):∀ c l,dt c (sL n l) = n * dt c l
 | c,[]=>by rw [ZcZ]; exact ZcZ c
 | [],x :: l=>rfl
 | z :: c,x :: l=>by
  show z * (n * x) + dt c (sL n l) = n * (z * x + dt c l)
  rw [Zjy n c l,Nat.mul_add,Nat.mul_left_comm]
theorem ZpR:∀ c i,dt c (uL i) = Zos c i
 | [],0=>rfl
 | [],_ + 1=>rfl
 | x :: c,0=>by show x * 1 + dt c [] = x; rw [ZcZ,Nat.mul_one]; rfl
 | x :: c,n + 1=>by show x * 0 + dt c (uL n) = Zos c n; rw [ZpR c n,Nat.mul_zero,Nat.zero_add]
theorem ZfW:∀ c l r,leL l r = true → dt c l ≤ dt c r
 | c,[],r,_=>by rw [ZcZ]; exact Nat.zero_le _
 | [],x :: l,r,_=>Nat.zero_le _
 | z :: c,x :: l,[],h=>by
  have h:=(Bool.and_eq_true _ _).mp h
  have e:x = 0:=Nat.le_zero.1 (Nat.le_of_ble_eq_true h.1)
  have i:=ZfW c l [] h.2
  rw [ZcZ] at i
  show z * x + dt c l ≤ 0
  rw [e,Nat.le_zero.1 i]; exact Nat.le_refl 0
 | z :: c,x :: l,y :: r,h=>
  have h:=(Bool.and_eq_true _ _).mp h
  Nat.add_le_add (Nat.mul_le_mul_left z (Nat.le_of_ble_eq_true h.1)) (ZfW c l r h.2)
theorem AE.li_ev (c:List Nat):∀ e:AE,dt (1 :: c) e.li = e.ev c
 | .v i=>(Nat.zero_add _).trans (ZpR c i)
 | .k n=>by show 1 * n + dt c [] = n; rw [ZcZ,Nat.one_mul]; rfl
 | .a x y=>(ZeP _ _ _).trans (congr (congrArg _ (x.li_ev c)) (y.li_ev c))
 | .m n x=>(Zjy n _ _).trans (congrArg _ (x.li_ev c))
noncomputable def rdE:Nat → Nat → AE × Nat
 | 0,s=>(.k 0,s)
 | f + 1,s=>bif Nat.ble (s % 16) 9 then (.v (s % 16),s / 16) else bif Nat.beq (s % 16) 10 then (.k 1,s / 16)
  else bif Nat.beq (s % 16) 11 then (.k (s / 256 % 16 ^ (s / 16 % 16)),s / 256 / 16 ^ (s / 16 % 16))
  else bif Nat.beq (s % 16) 12 then (.a (rdE f (s / 16)).1 (rdE f (rdE f (s / 16)).2).1,(rdE f (rdE f (s / 16)).2).2)
  else bif Nat.beq (s % 16) 13 then (.m (s / 16 % 256) (rdE f (s / 4096)).1,(rdE f (s / 4096)).2)
  else (.k 0,s / 16)
noncomputable def Znj:Nat → Nat → Nat → Prop
 | 0,x,y=>x ≤ y
 | 1,x,y=>x < y
 | 2,x,y=>x = y
 | 3,x,y=>x = y
 | 4,x,y=>¬ x ≤ y
 | 5,x,y=>¬ x < y
 | _,_,_=>False
noncomputable def loN:Nat → AE → AE → List Nat
 | 0,x,_=>x.li
 | 1,x,_=>aL [1] x.li
 | 2,x,_=>x.li
 | 4,_,y=>aL [1] y.li
 | _,_,y=>y.li
noncomputable def hiN:Nat → AE → AE → List Nat
 | 0,_,y=>y.li
 | 1,_,y=>y.li
 | 2,_,y=>y.li
 | _,x,_=>x.li
noncomputable def Zi2 (c:List Nat):Nat → Nat → Prop
 | 0,s=>Znj (s % 16) ((rdE 9 (s / 16)).1.ev c) ((rdE 9 (rdE 9 (s / 16)).2).1.ev c)
 | n + 1,s=>Znj (s / 16 % 16) ((rdE 9 (s / 256)).1.ev c) ((rdE 9 (rdE 9 (s / 256)).2).1.ev c) → Zi2 c n (rdE 9 (rdE 9 (s / 256)).2).2
noncomputable def gN:Nat → AE → AE → List Nat → List Nat → Bool
 | 0,x,y,L,R=>leL (aL R x.li) (aL L y.li)
 | 1,x,y,L,R=>leL (aL [1] (aL R x.li)) (aL L y.li)
 | _,_,_,L,R=>leL (aL [1] R) L
noncomputable def chN:Nat → Nat → List Nat → List Nat → Bool
 | 0,s,L,R=>gN (s % 16) (rdE 9 (s / 16)).1 (rdE 9 (rdE 9 (s / 16)).2).1 L R
 | n + 1,s,L,R=>chN n (rdE 9 (rdE 9 (s / 256)).2).2 (aL L (sL (s % 16) (loN (s / 16 % 16) (rdE 9 (s / 256)).1 (rdE 9 (rdE 9 (s / 256)).2).1))) (aL R (sL (s % 16) (hiN (s / 16 % 16) (rdE 9 (s / 256)).1 (rdE 9 (rdE 9 (s / 256)).2).1)))
theorem ZgM (c l:List Nat):dt (1 :: c) (aL [1] l) = dt (1 :: c) l + 1:=by
 rw [ZeP]; show 1 * 1 + dt c [] + _ = _; rw [ZcZ]; exact Nat.add_comm _ _
theorem Zm3 (c:List Nat) (x y:AE):∀ r,Znj r (x.ev c) (y.ev c) → dt (1 :: c) (loN r x y) ≤ dt (1 :: c) (hiN r x y)
 | 0,h=>by show dt _ x.li ≤ dt _ y.li; rw [x.li_ev,y.li_ev]; exact h
 | 1,h=>by show dt _ (aL [1] x.li) ≤ dt _ y.li; rw [ZgM,x.li_ev,y.li_ev]; exact h
 | 2,h=>by show dt _ x.li ≤ dt _ y.li; rw [x.li_ev,y.li_ev]; exact Nat.le_of_eq h
 | 3,h=>by show dt _ y.li ≤ dt _ x.li; rw [x.li_ev,y.li_ev]; exact Nat.le_of_eq h.symm
 | 4,h=>by show dt _ (aL [1] y.li) ≤ dt _ x.li; rw [ZgM,x.li_ev,y.li_ev]; exact Nat.lt_of_not_le h
 | 5,h=>by show dt _ y.li ≤ dt _ x.li; rw [x.li_ev,y.li_ev]; exact Nat.le_of_not_lt h
 | _ + 6,h=>h.elim
theorem Zs3 (c:List Nat) (x y:AE) (L R:List Nat) (h:dt (1 :: c) L ≤ dt (1 :: c) R):∀ r,gN r x y L R = true → Znj r (x.ev c) (y.ev c)
 | 0,k=>by
  have e:=ZfW (1 :: c) _ _ k
  rw [ZeP,ZeP,x.li_ev,y.li_ev] at e
  exact Nat.le_of_add_le_add_left (Nat.le_trans e (Nat.add_le_add_right h _))
 | 1,k=>by
  have e:=ZfW (1 :: c) _ _ k
  rw [ZgM,ZeP,ZeP,x.li_ev,y.li_ev] at e
  exact Nat.lt_of_add_lt_add_left (Nat.le_trans e (Nat.add_le_add_right h _))
 | r + 2,k=>by
  have e:=ZfW (1 :: c) _ _ k
  rw [ZgM] at e
  exact absurd (Nat.le_trans e h) (Nat.not_succ_le_self _)
theorem arN (c:List Nat):∀ (n s:Nat) (L R:List Nat),dt (1 :: c) L ≤ dt (1 :: c) R → chN n s L R = true → Zi2 c n s
 | 0,s,L,R,h,k=>Zs3 c _ _ L R h _ k
 | n + 1,s,L,R,h,k=>fun g=>arN c n _ _ _ (by
   rw [ZeP,ZeP,Zjy,Zjy]; exact Nat.add_le_add h (Nat.mul_le_mul_left _ (Zm3 c _ _ _ g))) k
end L3
theorem lN (c:List Nat) (n s:Nat) (h:L3.chN n s [] [] = true):L3.Zi2 c n s:=L3.arN c n s [] [] (Nat.le_refl _) h
theorem sbA (a b:Nat):a ≤ a - b + b:=Nat.le_add_of_sub_le (Nat.le_refl _)
theorem T1:true = true:=rfl
theorem lA {a:Nat} (n s:Nat) (y:L3.chN n s [] [] = true):L3.Zi2 [a] n s:=lN _ n s y
theorem lB {a b:Nat} (n s:Nat) (y:L3.chN n s [] [] = true):L3.Zi2 [a,b] n s:=lN _ n s y
theorem lC {a b c:Nat} (n s:Nat) (y:L3.chN n s [] [] = true):L3.Zi2 [a,b,c] n s:=lN _ n s y
theorem lD {a b c d:Nat} (n s:Nat) (y:L3.chN n s [] [] = true):L3.Zi2 [a,b,c,d] n s:=lN _ n s y
theorem lE {a b c d e:Nat} (n s:Nat) (y:L3.chN n s [] [] = true):L3.Zi2 [a,b,c,d,e] n s:=lN _ n s y
theorem lF {a b c d e f:Nat} (n s:Nat) (y:L3.chN n s [] [] = true):L3.Zi2 [a,b,c,d,e,f] n s:=lN _ n s y
theorem clA (w:Int):max w 0 = (w.toNat:Int):=(Int.ofNat_toNat w).symm
theorem clB (v:Int) (n:Nat) (h:¬ v < 0):min v (n:Int) = ((min v.toNat n:Nat):Int):=by
 obtain ⟨k,rfl⟩:=Int.eq_ofNat_of_zero_le (Int.not_lt.1 h)
 rcases Nat.le_total k n with z | z
 ·rw [Int.min_eq_left (Int.ofNat_le.2 z)]; exact congrArg Int.ofNat (Nat.min_eq_left z).symm
 ·rw [Int.min_eq_right (Int.ofNat_le.2 z)]; exact congrArg Int.ofNat (Nat.min_eq_right z).symm
theorem clC (v:Int) (n:Nat) (h:v < 0):max 0 (min (v + (n:Int)) (n:Int)) = ((v + (n:Int)).toNat:Int):=by
 rw [Int.min_eq_left (Int.le_of_lt (Int.lt_of_lt_of_le (Int.add_lt_add_right h _) (Int.le_of_eq (Int.zero_add _)))),Int.max_comm]; exact clA _
theorem clD (v:Int) (n:Nat) (h:¬ v < 0):max 0 (min v (n:Int)) = ((min v.toNat n:Nat):Int):=by
 rw [clB v n h]; exact Int.max_eq_right (Int.natCast_nonneg _)
namespace L3
set_option genSizeOf false in
set_option genInjectivity false in
inductive AI where
 | v (i:Nat)
 | k (n:Nat)
 | c (e:AE)
 | a (x y:AI)
 | s (x y:AI)
 | g (x:AI)
 | m (n:Nat) (x:AI)
noncomputable def Zok:List Int → Nat → Int
 | [],_=>0
 | x :: _,0=>x
 | _ :: l,n + 1=>Zok l n
noncomputable def AI.ev (c:List Nat) (d:List Int):AI → Int
 | .v i=>Zok d i
 | .k n=>Int.ofNat n
 | .c e=>((e.ev c:Nat):Int)
 | .a x y=>x.ev c d + y.ev c d
 | .s x y=>x.ev c d - y.ev c d
 | .g x=>-x.ev c d
 | .m n x=>Int.ofNat n * x.ev c d
noncomputable def pL (u w:List Nat × List Nat):List Nat × List Nat:=(aL u.1 w.1,aL u.2 w.2)
noncomputable def AI.li:AI → Bool → List Nat × List Nat
 | .v i,b=>bif b then ([],uL i) else ([],[])
 | .k n,b=>bif b then ([n],[]) else ([],[])
 | .c e,b=>bif b then (e.li,[]) else ([],[])
 | .a x y,b=>pL (x.li b) (y.li b)
 | .s x y,b=>pL (x.li b) (y.li (!b))
 | .g x,b=>x.li (!b)
 | .m n x,b=>(sL n (x.li b).1,sL n (x.li b).2)
noncomputable def dtI:List Int → List Nat → Int
 | x :: c,y :: l=>x * (y:Int) + dtI c l
 | [],_=>0
 | _,[]=>0
noncomputable def dI (c:List Nat) (d:List Int) (u:List Nat × List Nat):Int:=((dt (1 :: c) u.1:Nat):Int) + dtI d u.2
theorem ZpJ (p q r s:Int):p + q + (r + s) = p + r + (q + s):=by omega
theorem Zce:∀ c,dtI c [] = 0
 | []=>rfl
 | _ :: _=>rfl
theorem ZnD:∀ c l r,dtI c (aL l r) = dtI c l + dtI c r
 | c,[],r=>by rw [Zce,Int.zero_add]; rfl
 | c,x :: l,[]=>by rw [Zce,Int.add_zero]; rfl
 | [],x :: l,y :: r=>rfl
 | z :: c,x :: l,y :: r=>by
  show z * ((x + y:Nat):Int) + dtI c (aL l r) = (z * x + dtI c l) + (z * y + dtI c r)
  rw [ZnD c l r,Int.natCast_add,Int.mul_add]; exact ZpJ _ _ _ _
theorem ZnZ (n:Nat):∀ c l,dtI c (sL n l) = Int.ofNat n * dtI c l
 | c,[]=>by rw [Zce,Int.mul_zero]; exact Zce c
 | [],x :: l=>(Int.mul_zero _).symm
 | z :: c,x :: l=>by
  show z * ((n * x:Nat):Int) + dtI c (sL n l) = Int.ofNat n * (z * x + dtI c l)
  rw [ZnZ n c l,Int.mul_add,Int.natCast_mul,Int.mul_left_comm]; rfl
theorem Znl:∀ c i,dtI c (uL i) = Zok c i
 | [],0=>rfl
 | [],_ + 1=>rfl
 | x :: c,0=>by show x * 1 + dtI c [] = x; rw [Zce,Int.mul_one,Int.add_zero]
 | x :: c,n + 1=>by show x * 0 + dtI c (uL n) = Zok c n; rw [Znl c n,Int.mul_zero,Int.zero_add]
section
variable (c:List Nat) (d:List Int)
theorem Zc0 (u w:List Nat × List Nat):dI c d (pL u w) = dI c d u + dI c d w:=by
 show ((dt (1 :: c) (aL u.1 w.1):Nat):Int) + dtI d (aL u.2 w.2) = _
 rw [ZeP,ZnD,Int.natCast_add]; exact ZpJ _ _ _ _
theorem Zk4 (n:Nat) (u:List Nat × List Nat):dI c d (sL n u.1,sL n u.2) = Int.ofNat n * dI c d u:=by
 show ((dt (1 :: c) (sL n u.1):Nat):Int) + dtI d (sL n u.2) = _
 rw [Zjy,ZnZ,Int.natCast_mul]; exact (Int.mul_add _ _ _).symm
theorem Zrc:dI c d ([],[]) = 0:=by
 show ((dt (1 :: c) []:Nat):Int) + dtI d [] = 0
 rw [ZcZ,Zce]; rfl
theorem Zqd (p q r s:Int):p - q + (r - s) = p + r - (q + s):=by omega
theorem Zmu (p q r s:Int):p - q - (r - s) = p + s - (q + r):=by omega
theorem AI.li_ev:∀ e:AI,e.ev c d = dI c d (e.li true) - dI c d (e.li false)
 | .v i=>by show Zok d i = dI c d ([],uL i) - dI c d ([],[]); rw [Zrc,Int.sub_zero]; show _ = ((dt (1 :: c) []:Nat):Int) + dtI d (uL i); rw [ZcZ,Znl]; exact (Int.zero_add _).symm
 | .k n=>by show Int.ofNat n = dI c d ([n],[]) - dI c d ([],[]); rw [Zrc,Int.sub_zero]; show _ = ((dt (1 :: c) [n]:Nat):Int) + dtI d []; rw [Zce,Int.add_zero]; show _ = ((1 * n + dt c []:Nat):Int); rw [ZcZ,Nat.one_mul]; rfl
 | .c e=>by show ((e.ev c:Nat):Int) = dI c d (e.li,[]) - dI c d ([],[]); rw [Zrc,Int.sub_zero]; show _ = ((dt (1 :: c) e.li:Nat):Int) + dtI d []; rw [Zce,Int.add_zero,e.li_ev]
 | .a x y=>by show x.ev c d + y.ev c d = dI c d (pL (x.li true) (y.li true)) - dI c d (pL (x.li false) (y.li false)); rw [Zc0,Zc0,x.li_ev,y.li_ev]; exact Zqd _ _ _ _
 | .s x y=>by show x.ev c d - y.ev c d = dI c d (pL (x.li true) (y.li false)) - dI c d (pL (x.li false) (y.li true)); rw [Zc0,Zc0,x.li_ev,y.li_ev]; exact Zmu _ _ _ _
 | .g x=>by show -x.ev c d = dI c d (x.li false) - dI c d (x.li true); rw [x.li_ev]; exact Int.neg_sub _ _
 | .m n x=>by show Int.ofNat n * x.ev c d = dI c d (sL n (x.li true).1,sL n (x.li true).2) - dI c d (sL n (x.li false).1,sL n (x.li false).2); rw [Zk4,Zk4,x.li_ev]; exact Int.mul_sub _ _ _
noncomputable def cI (x y:AI):List Nat × List Nat:=pL (x.li true) (y.li false)
noncomputable def Zkp (u:List Nat × List Nat):List Nat × List Nat:=(aL [1] u.1,u.2)
theorem ZiI (u:List Nat × List Nat):dI c d (Zkp u) = dI c d u + 1:=by
 show ((dt (1 :: c) (aL [1] u.1):Nat):Int) + dtI d u.2 = ((dt (1 :: c) u.1:Nat):Int) + dtI d u.2 + 1
 rw [ZgM,Int.natCast_add,Int.add_right_comm]; rfl
theorem ZiF (x y:AI):dI c d (cI x y) - dI c d (cI y x) = x.ev c d - y.ev c d:=by
 unfold cI
 rw [Zc0,Zc0,x.li_ev,y.li_ev,Zmu,Int.add_comm (dI c d (y.li true))]
theorem ZkO {x y:AI} (h:x.ev c d ≤ y.ev c d):dI c d (cI x y) ≤ dI c d (cI y x):=by
 have:=ZiF c d x y; omega
theorem Ztc {x y:AI} (h:dI c d (cI x y) ≤ dI c d (cI y x)):x.ev c d ≤ y.ev c d:=by
 have:=ZiF c d x y; omega
noncomputable def Zsg:Nat → Int → Int → Prop
 | 0,x,y=>x ≤ y
 | 1,x,y=>x < y
 | 2,x,y=>x = y
 | 3,x,y=>x = y
 | 4,x,y=>¬ x ≤ y
 | 5,x,y=>¬ x < y
 | _,_,_=>False
noncomputable def loI:Nat → AI → AI → List Nat × List Nat
 | 0,x,y=>cI x y
 | 1,x,y=>Zkp (cI x y)
 | 2,x,y=>cI x y
 | 4,x,y=>Zkp (cI y x)
 | _,x,y=>cI y x
noncomputable def hiI:Nat → AI → AI → List Nat × List Nat
 | 0,x,y=>cI y x
 | 1,x,y=>cI y x
 | 2,x,y=>cI y x
 | _,x,y=>cI x y
theorem ZpD {x y:AI} (h:x.ev c d < y.ev c d):dI c d (Zkp (cI x y)) ≤ dI c d (cI y x):=by
 have:=ZiF c d x y; rw [ZiI]; omega
theorem Zqj (x y:AI):∀ r,Zsg r (x.ev c d) (y.ev c d) → dI c d (loI r x y) ≤ dI c d (hiI r x y)
 | 0,h=>ZkO c d h
 | 1,h=>ZpD c d h
 | 2,h=>ZkO c d (Int.le_of_eq h)
 | 3,h=>ZkO c d (Int.le_of_eq h.symm)
 | 4,h=>ZpD c d (Int.not_le.1 h)
 | 5,h=>ZkO c d (Int.not_lt.1 h)
 | _ + 6,h=>h.elim
end
noncomputable def rdI:Nat → Nat → AI × Nat
 | 0,s=>(.k 0,s)
 | f + 1,s=>bif Nat.ble (s % 16) 7 then (.v (s % 16),s / 16) else bif Nat.beq (s % 16) 8 then (.c (rdE 9 (s / 16)).1,(rdE 9 (s / 16)).2)
  else bif Nat.beq (s % 16) 9 then (.g (rdI f (s / 16)).1,(rdI f (s / 16)).2) else bif Nat.beq (s % 16) 10 then (.k 1,s / 16)
  else bif Nat.beq (s % 16) 11 then (.k (s / 256 % 16 ^ (s / 16 % 16)),s / 256 / 16 ^ (s / 16 % 16))
  else bif Nat.beq (s % 16) 12 then (.a (rdI f (s / 16)).1 (rdI f (rdI f (s / 16)).2).1,(rdI f (rdI f (s / 16)).2).2)
  else bif Nat.beq (s % 16) 13 then (.m (s / 16 % 256) (rdI f (s / 4096)).1,(rdI f (s / 4096)).2)
  else bif Nat.beq (s % 16) 14 then (.k 0,s / 16) else (.s (rdI f (s / 16)).1 (rdI f (rdI f (s / 16)).2).1,(rdI f (rdI f (s / 16)).2).2)
def hP (c:List Nat) (d:List Int) (r s:Nat):Prop:=bif Nat.ble 8 r then Zsg (r - 8) ((rdI 9 s).1.ev c d) ((rdI 9 (rdI 9 s).2).1.ev c d) else Znj r ((rdE 9 s).1.ev c) ((rdE 9 (rdE 9 s).2).1.ev c)
noncomputable def hR (r s:Nat):Nat:=bif Nat.ble 8 r then (rdI 9 (rdI 9 s).2).2 else (rdE 9 (rdE 9 s).2).2
noncomputable def hL (r s:Nat):List Nat × List Nat:=bif Nat.ble 8 r then loI (r - 8) (rdI 9 s).1 (rdI 9 (rdI 9 s).2).1 else (loN r (rdE 9 s).1 (rdE 9 (rdE 9 s).2).1,[])
noncomputable def hH (r s:Nat):List Nat × List Nat:=bif Nat.ble 8 r then hiI (r - 8) (rdI 9 s).1 (rdI 9 (rdI 9 s).2).1 else (hiN r (rdE 9 s).1 (rdE 9 (rdE 9 s).2).1,[])
theorem ZsF (c:List Nat) (d:List Int) (r s:Nat) (h:hP c d r s):dI c d (hL r s) ≤ dI c d (hH r s):=by
 unfold hP at h
 unfold hL hH
 cases e:Nat.ble 8 r <;> rw [e] at h
 ·exact Int.add_le_add_right (Int.ofNat_le.2 (Zm3 c _ _ _ h)) _
 ·exact Zqj c d _ _ _ h
noncomputable def zL:List Nat → Bool
 | []=>true
 | x :: l=>Nat.beq x 0 && zL l
noncomputable def eqL:List Nat → List Nat → Bool
 | [],r=>zL r
 | x :: l,[]=>Nat.beq x 0 && zL l
 | x :: l,y :: r=>Nat.beq x y && eqL l r
theorem Zno:∀ c l,zL l = true → dtI c l = 0
 | c,[],_=>Zce c
 | [],x :: l,_=>rfl
 | z :: c,x :: l,h=>by
  have h:=(Bool.and_eq_true _ _).mp h
  show z * (x:Int) + dtI c l = 0
  rw [Nat.eq_of_beq_eq_true h.1,Zno c l h.2,Int.add_zero]; exact Int.mul_zero z
theorem Zof:∀ c l r,eqL l r = true → dtI c l = dtI c r
 | c,[],r,h=>(Zce c).trans (Zno c r h).symm
 | c,x :: l,[],h=>(Zno c (x :: l) h).trans (Zce c).symm
 | [],x :: l,y :: r,_=>rfl
 | z :: c,x :: l,y :: r,h=>by
  have h:=(Bool.and_eq_true _ _).mp h
  show z * (x:Int) + dtI c l = z * (y:Int) + dtI c r
  rw [Nat.eq_of_beq_eq_true h.1,Zof c l r h.2]
noncomputable def leP (u w:List Nat × List Nat):Bool:=leL u.1 w.1 && eqL u.2 w.2
theorem ZgN (c:List Nat) (d:List Int) {u w:List Nat × List Nat} (h:leP u w = true):dI c d u ≤ dI c d w:=by
 have h:=(Bool.and_eq_true _ _).mp h
 exact Int.add_le_add (Int.ofNat_le.2 (ZfW _ _ _ h.1)) (Int.le_of_eq (Zof d _ _ h.2))
noncomputable def Zqz (c:List Nat) (d:List Int):Nat → Nat → Prop
 | 0,s=>hP c d (s % 16) (s / 16)
 | n + 1,s=>hP c d (s / 16 % 16) (s / 256) → Zqz c d n (hR (s / 16 % 16) (s / 256))
noncomputable def gI (r s:Nat) (L R:List Nat × List Nat):Bool:=bif Nat.beq r 0 then leP (pL R ((rdE 9 s).1.li,[])) (pL L ((rdE 9 (rdE 9 s).2).1.li,[]))
 else bif Nat.beq r 1 then leP (Zkp (pL R ((rdE 9 s).1.li,[]))) (pL L ((rdE 9 (rdE 9 s).2).1.li,[]))
 else bif Nat.beq r 8 then leP (pL R (cI (rdI 9 s).1 (rdI 9 (rdI 9 s).2).1)) (pL L (cI (rdI 9 (rdI 9 s).2).1 (rdI 9 s).1))
 else bif Nat.beq r 9 then leP (Zkp (pL R (cI (rdI 9 s).1 (rdI 9 (rdI 9 s).2).1))) (pL L (cI (rdI 9 (rdI 9 s).2).1 (rdI 9 s).1))
 else leP (Zkp R) L
noncomputable def chI:Nat → Nat → List Nat × List Nat → List Nat × List Nat → Bool
 | 0,s,L,R=>gI (s % 16) (s / 16) L R
 | n + 1,s,L,R=>chI n (hR (s / 16 % 16) (s / 256)) (pL L (sL (s % 16) (hL (s / 16 % 16) (s / 256)).1,sL (s % 16) (hL (s / 16 % 16) (s / 256)).2)) (pL R (sL (s % 16) (hH (s / 16 % 16) (s / 256)).1,sL (s % 16) (hH (s / 16 % 16) (s / 256)).2))
theorem Zld (c:List Nat) (d:List Int) (e:AE):dI c d (e.li,[]) = ((e.ev c:Nat):Int):=by
 show ((dt (1 :: c) e.li:Nat):Int) + dtI d [] = _
 rw [Zce,Int.add_zero,e.li_ev]
theorem ZnE {a b l r:Int} (h:l ≤ r) (e:r + a ≤ l + b):a ≤ b:=by omega
theorem ZmC {a b l r:Int} (h:l ≤ r) (e:r + a + 1 ≤ l + b):a < b:=by omega
theorem Zqb {l r:Int} (h:l ≤ r) (e:r + 1 ≤ l):False:=by omega
theorem Zs8 (c:List Nat) (d:List Int) (r s:Nat) (L R:List Nat × List Nat) (h:dI c d L ≤ dI c d R) (k:gI r s L R = true):hP c d r s:=by
 unfold gI at k
 cases e0:Nat.beq r 0 with
 | true=>
  rw [Nat.eq_of_beq_eq_true e0] at k ⊢
  have e:=ZgN c d k
  rw [Zc0,Zc0,Zld,Zld] at e
  exact Int.ofNat_le.1 (ZnE h e)
 | false=>
  cases e1:Nat.beq r 1 with
  | true=>
   rw [Nat.eq_of_beq_eq_true e1] at k ⊢
   have e:=ZgN c d k
   rw [ZiI,Zc0,Zc0,Zld,Zld] at e
   exact Int.ofNat_lt.1 (ZmC h e)
  | false=>
   cases e8:Nat.beq r 8 with
   | true=>
    rw [Nat.eq_of_beq_eq_true e8] at k ⊢
    have e:=ZgN c d k
    rw [Zc0,Zc0] at e
    exact Ztc c d (ZnE h e)
   | false=>
    cases e9:Nat.beq r 9 with
    | true=>
     rw [Nat.eq_of_beq_eq_true e9] at k ⊢
     have e:=ZgN c d k
     rw [ZiI,Zc0,Zc0] at e
     have z:=ZmC h e
     have y:=ZiF c d (rdI 9 s).1 (rdI 9 (rdI 9 s).2).1
     show (rdI 9 s).1.ev c d < (rdI 9 (rdI 9 s).2).1.ev c d
     exact Int.lt_of_sub_neg (y ▸ Int.sub_neg_of_lt z)
    | false=>
     rw [e0,e1,e8,e9] at k
     have e:=ZgN c d k
     rw [ZiI] at e
     exact (Zqb h e).elim
theorem arI (c:List Nat) (d:List Int):∀ (n s:Nat) (L R:List Nat × List Nat),dI c d L ≤ dI c d R → chI n s L R = true → Zqz c d n s
 | 0,s,L,R,h,k=>Zs8 c d _ _ L R h k
 | n + 1,s,L,R,h,k=>fun g=>arI c d n _ _ _ (by
   rw [Zc0,Zc0,Zk4,Zk4]; exact Int.add_le_add h (Int.mul_le_mul_of_nonneg_left (ZsF c d _ _ g) (Int.natCast_nonneg _))) k
end L3
theorem iN (c:List Nat) (d:List Int) (n s:Nat) (h:L3.chI n s ([],[]) ([],[]) = true):L3.Zqz c d n s:=L3.arI c d n s ([],[]) ([],[]) (Int.le_refl _) h
set_option Elab.async false
set_option linter.all false
set_option maxRecDepth 100000
namespace L2
open PySem PySem.Spec PyProof.Rows
noncomputable abbrev Key:=Sum Int Str
noncomputable def ZhY:Key → Value → Bool
 | .inl k,v=>Value.isInt k v
 | .inr x,v=>Value.isStrOf x v
noncomputable def Zuo (w:World):Key → Int
 | .inl k=>hashInt k
 | .inr x=>hashStr w x
theorem Zbl:∀ {k:Key} {v:Value},ZhY k v = true → (∃ i t,k = Sum.inl i ∧ v = Value.int i t) ∨ (∃ x t,k = Sum.inr x ∧ v = Value.str x t)
 | .inl i,v,h=>by
  obtain ⟨t,e⟩:=Value.isInt_shape (k:=i) (v:=v) h
  exact .inl ⟨i,t,rfl,e⟩
 | .inr x,v,h=>by
  obtain ⟨t,e⟩:=Value.isStrOf_shape (x:=x) (v:=v) h
  exact .inr ⟨x,t,rfl,e⟩
theorem ZlM (i:Int) (t:Tok):ZhY (.inl i) (.int i t) = true:=by simp [ZhY,Value.isInt]
theorem Zl6 (x:Str) (t:Tok):ZhY (.inr x) (.str x t) = true:=by simp [ZhY,Value.isStrOf]
theorem Zry (a b:Int):decide ((Sum.inl a:Key) = Sum.inl b) = (a == b):=by
 by_cases e:a = b
 ·subst e; simp
 ·have h:¬ (Sum.inl a:Key) = Sum.inl b:=fun q=>e (Sum.inl.inj q)
  rw [decide_eq_false h]
  exact (beq_eq_false_iff_ne.mpr e).symm
theorem ZrB (a b:Str):decide ((Sum.inr a:Key) = Sum.inr b) = decide (a = b):=by
 by_cases e:a = b
 ·subst e; simp
 ·have h:¬ (Sum.inr a:Key) = Sum.inr b:=fun q=>e (Sum.inr.inj q)
  rw [decide_eq_false h,decide_eq_false e]
theorem Zqx (a:Int) (b:Str):decide ((Sum.inl a:Key) = Sum.inr b) = false:=decide_eq_false (fun q=>nomatch q)
theorem ZqC (a:Str) (b:Int):decide ((Sum.inr a:Key) = Sum.inl b) = false:=decide_eq_false (fun q=>nomatch q)
noncomputable def Za0 (prog:Program) (w:World):PySem.KeyKind prog w Key where
 is:=ZhY
 hash:=Zuo w
 inj:=fun v a b ha hb=>by
  rcases Zbl ha with ⟨i,t,rfl,rfl⟩ | ⟨x,t,rfl,rfl⟩
  ·rcases Zbl hb with ⟨j,u,rfl,e⟩ | ⟨y,u,rfl,e⟩
   ·injection e with e1 _; rw [e1]
   ·exact nomatch e
  ·rcases Zbl hb with ⟨j,u,rfl,e⟩ | ⟨y,u,rfl,e⟩
   ·exact nomatch e
   ·injection e with e1 _; rw [e1]
 byValue:=fun k v h=>by
  rcases Zbl h with ⟨i,t,rfl,rfl⟩ | ⟨x,t,rfl,rfl⟩ <;> rfl
 pyHash:=fun hv h=>by
  rcases Zbl hv with ⟨i,t,rfl,rfl⟩ | ⟨x,t,rfl,rfl⟩
  ·exact wpAny_pyHash_int h
  ·exact wpAny_pyHash_str h
 eqBool:=fun hu hv h=>by
  rcases Zbl hu with ⟨i,t,rfl,rfl⟩ | ⟨x,t,rfl,rfl⟩
  ·rcases Zbl hv with ⟨j,u,rfl,rfl⟩ | ⟨y,u,rfl,rfl⟩
   ·rw [Zry] at h; exact wpAny_eqBool_int h
   ·rw [Zqx] at h; exact SeqAt.EqAt.int_str i t y u _ _ _ _ h
  ·rcases Zbl hv with ⟨j,u,rfl,rfl⟩ | ⟨y,u,rfl,rfl⟩
   ·rw [ZqC] at h; exact SeqAt.EqAt.str_int x t j u _ _ _ _ h
   ·rw [ZrB] at h; exact wpAny_eqBool_str h
 «strs»:=fun k x t v h=>by
  rcases Zbl h with ⟨i,u,rfl,e⟩ | ⟨y,u,rfl,e⟩
  ·exact nomatch e
  ·injection e with e1 _
   subst e1
   cases v <;> rfl
theorem Zja (prog:Program) (w:World) (i:Int) (t:Tok):(Za0 prog w).is (.inl i) (.int i t) = true:=ZlM i t
theorem Zju (prog:Program) (w:World) (x:Str) (t:Tok):(Za0 prog w).is (.inr x) (.str x t) = true:=Zl6 x t
end L2
namespace L2
open PySem PySem.Spec PyProof.Rows
inductive V where
 | non | bl (b:Bool) | int (i:Int) | str (x:Str) | byt (b:Array UInt8) | flt (b:UInt64) | ref (a:Addr) | ty (n:String)
 deriving DecidableEq
noncomputable def RelV:V → Value → Prop
 | .non,u=>u = Value.none
 | .bl b,u=>u = Value.bool b
 | .int i,u=>∃ t,u = Value.int i t
 | .str x,u=>∃ t,u = Value.str x t
 | .byt b,u=>∃ t,u = Value.bytes b t
 | .flt b,u=>∃ t,u = Value.float b t
 | .ref a,u=>u = Value.ref a
 | .ty n,u=>u = Value.type n
noncomputable abbrev Vals:List V → List Value → Prop:=Paired RelV
theorem Vals.length {xs:List V} {us:List Value} (r:Vals xs us):xs.length = us.length:=Paired.length r
theorem Vals.get:∀ {xs:List V} {us:List Value} {i:Nat} {x:V},Vals xs us → xs[i]? = some x → ∃ u,us[i]? = some u ∧ RelV x u
 | _,_,_,_,.nil,e=>by simp at e
 | _,_,0,_,.cons r _,e=>by simp at e; subst e; exact ⟨_,rfl,r⟩
 | _,_,i + 1,x,.cons _ t,e=>by
  obtain ⟨u,h1,h2⟩:=Vals.get (i:=i) (x:=x) t (by simpa using e)
  exact ⟨u,by simpa using h1,h2⟩
theorem Vals.set {x:V} {u:Value} (r:RelV x u):∀ {xs:List V} {us:List Value} (i:Nat),Vals xs us → Vals (xs.set i x) (us.set i u)
 | _,_,_,.nil=>.nil
 | _,_,0,.cons _ t=>.cons r t
 | _,_,i + 1,.cons q t=>.cons q (Vals.set r i t)
theorem Vals.append:∀ {xs ys:List V} {us ws:List Value},Vals xs us → Vals ys ws → Vals (xs ++ ys) (us ++ ws)
 | _,_,_,_,.nil,s=>s
 | _,_,_,_,.cons r t,s=>.cons r (Vals.append t s)
theorem Vals.take:∀ {xs:List V} {us:List Value} (n:Nat),Vals xs us → Vals (xs.take n) (us.take n)
 | _,_,0,_=>.nil
 | _,_,_ + 1,.nil=>.nil
 | _,_,n + 1,.cons r t=>.cons r (Vals.take n t)
theorem Vals.drop:∀ {xs:List V} {us:List Value} (n:Nat),Vals xs us → Vals (xs.drop n) (us.drop n)
 | _,_,0,r=>r
 | _,_,_ + 1,.nil=>.nil
 | _,_,n + 1,.cons _ t=>Vals.drop n t
noncomputable def ZfE:Option V → Option Value → Prop
 | some v,some u=>RelV v u
 | none,none=>True
 | _,_=>False
noncomputable def KV {κ:Type}:List (κ × V) → List (κ × Value) → Prop:=Paired fun (p:κ × V) (q:κ × Value)=>p.1 = q.1 ∧ RelV p.2 q.2
noncomputable def kV:Key → V
 | .inl i=>.int i
 | .inr x=>.str x
inductive HO where
 /-- a list -/
 | lst (xs:List V)
 /-- a tuple (never changes) -/
 | tup (xs:List V)
 /-- a dict whose keys are ints and texts; one whose keys are tuples of ints and texts (the empty one is both) -/
 | dK (kvs:List (Key × V)) | dT (kvs:List (List Key × V))
 /-- a set of ints: its members,its size -/
 | set (S:Int → Bool) (n:Nat)
 /-- an instance of the class at C,its dict at dx,its attributes -/
 | ins (C dx:Addr) (fs:List (Str × V))
 /-- the dict of the instance at x -/
 | own (x:Addr)
 /-- the dict of an exception -/
 | xd (fs:List (Str × V))
 /-- a bound method,f of x -/
 | met (f x:Addr)
 /-- a range object lo,lo + 1,.. below hi -/
 | rng (lo hi:Int)
 /-- a thing that is known to the object (the script; a dict while a loop walks it): read,never written while it is so -/
 | frz (o:Obj) (u:HO)
 /-- a code object's table -/
 | tbl (ps:Array Value)
 /-- any other thing,by what is true of its one object (a def of one's own: SetO a S n:=HO.ext fun h=>..) -/
 | ext (φ:Heap → Prop)
noncomputable abbrev Hp:=Addr → Option HO
noncomputable def upd (H:Hp) (a:Addr) (o:HO):Hp:=fun b=>if b = a then some o else H b
theorem Zbm {H:Hp} {a:Addr} {o:HO}:upd H a o a = some o:=by unfold upd; rw [if_pos rfl]
theorem ZaE {H:Hp} {a b:Addr} {o:HO} (h:b ≠ a):upd H a o b = H b:=by unfold upd; rw [if_neg h]
theorem Zbn {H:Hp} {a b:Addr} {o:HO} (h:H a = some o) (h':H b = none):a ≠ b:=by
 intro e; subst e; rw [h] at h'; cases h'
section
variable (P:Program) (w:World)
def Zdg (h:Heap) (a:Addr) (items:Array Value):Prop:=∃ o,h.get? a = some o ∧ (o.cls = .type "tuple" ∧ o.dict = none) ∧ ∃ n,o.data = .seq items n
theorem Zdg.tup {h:Heap} {a:Addr} {items:Array Value} (x:Zdg h a items):IsTup h a items:=let ⟨o,e,c,d⟩:=x; ⟨o,e,c.1,d⟩
theorem Zdg.new (h:Heap) (items:Array Value):Zdg (h.push { cls:=.type "tuple",data:=.seq items }) h.objs.size items:=⟨_,Heap.get?_push_size _ rfl,⟨rfl,rfl⟩,0,rfl⟩
noncomputable def Za7 (H:Hp) (h:Heap) (a:Addr):HO → Prop
 | .lst xs=>xs.length ≤ sizeLine ∧ ∃ (its:List Value) (n:Nat),Vals xs its ∧ h.get? a = some { cls:=.type "list",data:=.seq its.toArray n }
 | .tup xs=>xs.length ≤ sizeLine ∧ ∃ its:List Value,Vals xs its ∧ Zdg h a its.toArray
 | .dK kvs=>kvs.length ≤ sizeLine ∧ (a == sysModules) = false ∧ ∃ vs,KV kvs vs ∧ h.DictOf (Za0 P w) a vs
 | .dT kvs=>kvs.length ≤ sizeLine ∧ (a == sysModules) = false ∧ ∃ xs:List (List Key × Addr × Value),
   Paired (fun (p:List Key × V) (q:List Key × Addr × Value)=>p.1 = q.1 ∧ H q.2.1 = some (.tup (p.1.map kV)) ∧ RelV p.2 q.2.2) kvs xs ∧
   ∃ o es ep,h.get? a = some o ∧ o.ExactDict ∧ o.data = .dict es ep ∧ es.toList = xs.map (entryOfKey (tupleKind (Za0 P w))) ∧ (xs.map (·.1)).Nodup
 | .set S n=>h.SetOf (intKind P w) a S n
 | .ins C dx fs=>H dx = some (.own a) ∧ fs.length ≤ 1000 ∧ dx ≠ a ∧ h.get? a = some (PySem.W.instObj C dx) ∧
   ∃ mA,h.Ns1 dx mA ∧ (∀ f,ZfE (fs.lookup f) (mA f)) ∧ PySem.Within mA (fs.map (·.1))
 | .own _=>∃ o,h.get? a = some o
 | .xd fs=>∃ mA,h.Ns1 a mA ∧ ∀ f,ZfE (fs.lookup f) (mA f)
 | .rng lo hi=>∃ t u v,h.get? a = some { cls:=.type "range",data:=.fields #[.int lo t,.int hi u,.int 1 v] }
 | .frz o u=>h.get? a = some o ∧ Za7 H h a u
 | .tbl ps=>h.get? a = some { cls:=.none,data:=.fields ps }
 | .met f x=>h.get? a = some (PySem.W.methodObj (.ref f) (.ref x))
 | .ext φ=>φ h ∧ (∃ o,h.get? a = some o) ∧ ∀ h1 h2:Heap,φ h1 → (∀ o,h1.get? a = some o → h2.get? a = some o) → φ h2
def HOk (H:Hp) (h:Heap):Prop:=∀ a o,H a = some o → Za7 P w H h a o
end
section
variable {P:Program} {w:World} {H H':Hp} {h h':Heap} {a:Addr} {o:HO}
theorem Za7.lt (x:Za7 P w H h a o):a < h.objs.size:=by
 cases o with
 | lst xs=>obtain ⟨_,_,_,_,e⟩:=x; exact Heap.lt_size e
 | tup xs=>obtain ⟨_,_,_,p⟩:=x; exact p.tup.lt
 | dK kvs=>obtain ⟨_,_,_,_,o,_,_,e,_⟩:=x; exact Heap.lt_size e
 | dT kvs=>obtain ⟨_,_,_,_,o,_,_,e,_⟩:=x; exact Heap.lt_size e
 | set S n=>obtain ⟨o,_,_,_,e,_⟩:=x; exact Heap.lt_size e
 | ins C dx fs=>obtain ⟨_,_,_,e,_⟩:=x; exact Heap.lt_size e
 | own y=>obtain ⟨_,e⟩:=x; exact Heap.lt_size e
 | xd fs=>obtain ⟨_,⟨_,_,_,e,_⟩,_⟩:=x; exact Heap.lt_size e
 | rng lo hi=>obtain ⟨_,_,_,e⟩:=x; exact Heap.lt_size e
 | frz ob u=>obtain ⟨e,_⟩:=x; exact Heap.lt_size e
 | tbl ps=>exact Heap.lt_size (show h.get? a = some _ from x)
 | met f y=>exact Heap.lt_size (show h.get? a = some _ from x)
 | ext φ=>obtain ⟨_,⟨_,e⟩,_⟩:=x; exact Heap.lt_size e
theorem Paired.mapP {α β:Type} {F G:α → β → Prop}:∀ {l₁:List α} {l₂:List β},Paired F l₁ l₂ → (∀ a b,F a b → G a b) → Paired G l₁ l₂
 | _,_,.nil,_=>.nil
 | _,_,.cons r t,f=>.cons (f _ _ r) (Paired.mapP t f)
theorem Za7.stay (x:Za7 P w H h a o) (k:∀ b u,(b = a ∨ H b = some (.own a)) → h.get? b = some u → h'.get? b = some u)
  (ho:∀ b,H b = some (.own a) → H' b = some (.own a)) (ht:∀ b xs,H b = some (.tup xs) → H' b = some (.tup xs)):Za7 P w H' h' a o:=by
 induction o with
 | lst xs=>obtain ⟨z,its,n,r,e⟩:=x; exact ⟨z,its,n,r,k _ _ (.inl rfl) e⟩
 | tup xs=>obtain ⟨z,its,r,ob,e,c⟩:=x; exact ⟨z,its,r,ob,k _ _ (.inl rfl) e,c⟩
 | dK kvs=>obtain ⟨z,y,vs,r,ob,es,ep,e,c⟩:=x; exact ⟨z,y,vs,r,ob,es,ep,k _ _ (.inl rfl) e,c⟩
 | dT kvs=>
  obtain ⟨z,y,xs,r,ob,es,ep,e,c⟩:=x
  exact ⟨z,y,xs,Paired.mapP r fun p q z=>⟨z.1,ht _ _ z.2.1,z.2.2⟩,ob,es,ep,k _ _ (.inl rfl) e,c⟩
 | set S n=>obtain ⟨ob,es,ep,t,e,c⟩:=x; exact ⟨ob,es,ep,t,k _ _ (.inl rfl) e,c⟩
 | ins C dx fs=>
  obtain ⟨d,z,ne,e,mA,⟨od,es,ep,e2,c⟩,r⟩:=x
  exact ⟨ho _ d,z,ne,k _ _ (.inl rfl) e,mA,⟨od,es,ep,k _ _ (.inr d) e2,c⟩,r⟩
 | own y=>obtain ⟨ob,e⟩:=x; exact ⟨ob,k _ _ (.inl rfl) e⟩
 | xd fs=>obtain ⟨mA,⟨od,es,ep,e,c⟩,r⟩:=x; exact ⟨mA,⟨od,es,ep,k _ _ (.inl rfl) e,c⟩,r⟩
 | rng lo hi=>obtain ⟨t,u,v,e⟩:=x; exact ⟨t,u,v,k _ _ (.inl rfl) e⟩
 | frz ob u ih=>obtain ⟨e,q⟩:=x; exact ⟨k _ _ (.inl rfl) e,ih q⟩
 | tbl ps=>
  have e:h.get? a = some { cls:=.none,data:=.fields ps }:=x
  show h'.get? a = some { cls:=.none,data:=.fields ps }
  exact k a _ (.inl rfl) e
 | met f y=>
  have e:h.get? a = some (PySem.W.methodObj (.ref f) (.ref y)):=x
  show h'.get? a = some (PySem.W.methodObj (.ref f) (.ref y))
  exact k a _ (.inl rfl) e
 | ext φ=>obtain ⟨p,⟨o,e⟩,st⟩:=x; exact ⟨st _ _ p fun o q=>k _ _ (.inl rfl) q,⟨o,k _ _ (.inl rfl) e⟩,st⟩
theorem HOk.lt (x:HOk P w H h) (e:H a = some o):a < h.objs.size:=(x a o e).lt
theorem HOk.fresh (x:HOk P w H h) (e:h.objs.size ≤ a):H a = none:=by
 cases q:H a with
 | none=>rfl
 | some u=>exact absurd (Nat.lt_of_lt_of_le (x.lt q) e) (Nat.lt_irrefl _)
theorem HOk.kept (x:HOk P w H h) (k:∀ b u,h.get? b = some u → h'.get? b = some u):HOk P w H h':=fun a o e=>
 (x a o e).stay (fun b u _ q=>k b u q) (fun _ q=>q) fun _ _ q=>q
theorem HOk.laid (x:HOk P w H h) (k:∀ b u,h.get? b = some u → h'.get? b = some u) (hp:h.objs.size ≤ a) (new:Za7 P w (upd H a o) h' a o):HOk P w (upd H a o) h':=fun b u e=>by
 have hn:=x.fresh hp
 by_cases hb:b = a
 ·subst hb; rw [Zbm] at e; cases e; exact new
 ·rw [ZaE hb] at e
  exact (x b u e).stay (fun c v _ q=>k c v q) (fun c q=>by rw [ZaE (Zbn q hn)]; exact q) fun c xs q=>by rw [ZaE (Zbn q hn)]; exact q
end
def Rd (H:Hp) (a:Addr) (u:HO):Prop:=H a = some u ∨ ∃ o,H a = some (.frz o u)
theorem Rd.ok {P:Program} {w:World} {H:Hp} {h:Heap} {a:Addr} {u:HO} (r:Rd H a u) (x:HOk P w H h):Za7 P w H h a u:=by
 rcases r with r | ⟨o,r⟩
 ·exact x a u r
 ·obtain ⟨_,q⟩:=x a _ r
  exact q
noncomputable def Mut:Option HO → Prop
 | some (.lst _)=>True
 | some (.dK _)=>True
 | some (.dT _)=>True
 | some (.set _ _)=>True
 | some (.ins _ _ _)=>True
 | some (.ext _)=>True
 | _=>False
section
variable {P:Program} {w:World} {H:Hp} {h h':Heap} {x e:Addr} {o':HO}
theorem HOk.write (ok:HOk P w H h) (mu:Mut (H x)) (he:e = x ∨ H e = some (.own x)) (k:∀ b u,b ≠ e → h.get? b = some u → h'.get? b = some u) (heo:∃ u,h'.get? e = some u)
  (new:Za7 P w (upd H x o') h' x o'):HOk P w (upd H x o') h':=fun b u q=>by
 have nown:∀ c y,H c = some (.own y) → c ≠ x:=fun c y r z=>by subst z; rw [r] at mu; exact mu
 have ntup:∀ c xs,H c = some (.tup xs) → c ≠ x:=fun c xs r z=>by subst z; rw [r] at mu; exact mu
 by_cases hb:b = x
 ·subst hb; rw [Zbm] at q; cases q; exact new
 ·rw [ZaE hb] at q
  by_cases hbe:b = e
  ·have q':H b = some (.own x):=by
    rcases he with z | z
    ·exact absurd (hbe.trans z) hb
    ·rw [hbe]; exact z
   rw [q] at q'; cases q'
   obtain ⟨v,hv⟩:=heo
   exact ⟨v,by rw [hbe]; exact hv⟩
  ·refine (ok b u q).stay (fun c v hc r=>k c v ?_ r) (fun c r=>by rw [ZaE (nown c b r)]; exact r) fun c xs r=>by rw [ZaE (ntup c xs r)]; exact r
   rcases hc with rfl | hc
   ·exact hbe
   ·rintro rfl
    rcases he with z | z
    ·exact nown c b hc z
    ·rw [hc] at z; cases z; exact hb rfl
end
structure Un (fs ex:List Addr) (H H':Hp) (h h':Heap):Prop where
 keep:∀ b o,h.get? b = some o → H b = none → b ∉ fs → b ∉ ex → h'.get? b = some o
 slot:∀ b o,h.get? b = some o → H b = none → b ∈ fs → b ∉ ex → ∃ sl,h'.get? b = some { o with slots:=sl }
 free:∀ b o,h.get? b = some o → H b = none → b ∉ ex → H' b = none
 there:∀ b o,h.get? b = some o → b ∉ ex → ∃ o',h'.get? b = some o'
 tups:∀ b xs,H b = some (.tup xs) → H' b = some (.tup xs)
 frzs:∀ b o u,H b = some (.frz o u) → H' b = some (.frz o u)
 tbls:∀ b ps,H b = some (.tbl ps) → ∃ more,H' b = some (.tbl (ps ++ more))
section
variable {fs fs' ex ex':List Addr} {H H1 H2:Hp} {h h1 h2 h':Heap} {a x e:Addr} {o:HO}
theorem Un.any (u:Un fs ex H H1 h h1) {b:Addr} {ob:Obj} (q:h.get? b = some ob) (n:H b = none) (hx:b ∉ ex):∃ sl,h1.get? b = some { ob with slots:=sl }:=by
 by_cases hb:b ∈ fs
 ·exact u.slot b ob q n hb hx
 ·exact ⟨ob.slots,u.keep b ob q n hb hx⟩
theorem Un.kept (k:∀ b u,h.get? b = some u → h'.get? b = some u):Un fs ex H H h h':=
 ⟨fun b ob q _ _ _=>k b ob q,fun b ob q _ _ _=>⟨ob.slots,k b ob q⟩,fun _ _ _ n _=>n,fun b ob q _=>⟨ob,k b ob q⟩,fun _ _ q=>q,fun _ _ _ q=>q,fun _ ps q=>⟨#[],by rw [q]; simp⟩⟩
theorem Un.refl:Un fs ex H H h h:=Un.kept fun _ _ q=>q
theorem Un.laid (k:∀ b u,h.get? b = some u → h'.get? b = some u) (hp:h.objs.size ≤ a) (hn:H a = none):Un fs ex H (upd H a o) h h' where
 keep:=fun b u q _ _ _=>k b u q
 slot:=fun b u q _ _ _=>⟨u.slots,k b u q⟩
 free:=fun b u q n _=>by rw [ZaE (Nat.ne_of_lt (Nat.lt_of_lt_of_le (Heap.lt_size q) hp))]; exact n
 there:=fun b u q _=>⟨u,k b u q⟩
 tups:=fun b xs q=>by rw [ZaE (Zbn q hn)]; exact q
 frzs:=fun b u xs q=>by rw [ZaE (Zbn q hn)]; exact q
 tbls:=fun b ps q=>⟨#[],by rw [ZaE (Zbn q hn),q]; simp⟩
theorem Un.write (mu:Mut (H x)) (he:e = x ∨ H e = some (.own x)) (k:∀ b u,b ≠ e → h.get? b = some u → h'.get? b = some u) (heo:∃ u,h'.get? e = some u):Un fs ex H (upd H x o) h h':=by
 have hx:∀ b,H b = none → b ≠ x:=fun b n z=>by subst z; rw [n] at mu; exact mu
 have hb:∀ b,H b = none → b ≠ e:=fun b n z=>by
  subst z
  rcases he with r | r
  ·exact hx b n r
  ·rw [n] at r; cases r
 have hm:∀ b u,H b = some u → ¬ Mut (some u) → b ≠ x:=fun b u q nm z=>by subst z; rw [q] at mu; exact nm mu
 refine ⟨fun b u q n _ _=>k b u (hb b n) q,fun b u q n _ _=>⟨u.slots,k b u (hb b n) q⟩,fun b u q n _=>by rw [ZaE (hx b n)]; exact n,fun b u q _=>?_,
  fun b xs q=>by rw [ZaE (hm b _ q fun z=>z)]; exact q,fun b u xs q=>by rw [ZaE (hm b _ q fun z=>z)]; exact q,fun b ps q=>⟨#[],by rw [ZaE (hm b _ q fun z=>z),q]; simp⟩⟩
 by_cases hbe:b = e
 ·subst hbe; exact heo
 ·exact ⟨u,k b u hbe q⟩
end
noncomputable def trk (h:Heap) (H:Hp):List Addr:=(List.range h.objs.size).filter fun a=>(H a).isSome
noncomputable def ZiC (h:Heap) (H:Hp):Heap:=PySem.W.hideAll h (trk h H)
theorem ZlK (h:Heap) (H:Hp):(ZiC h H).objs.size = h.objs.size:=PySem.W.hideAll_size _ _
theorem Zna {h:Heap} {H:Hp} {b:Addr} {o:Obj} (e:h.get? b = some o) (n:H b = none):(ZiC h H).get? b = some o:=
 PySem.W.hideAll_get _ e fun hm=>by
  have q:(H b).isSome = true:=(List.mem_filter.mp hm).2
  rw [n] at q; simp at q
theorem ZpC {h:Heap} {H:Hp} {b:Addr} {o:Obj} (e:(ZiC h H).get? b = some o):h.get? b = some o ∧ H b = none:=by
 have e':h.get? b = some o:=PySem.W.of_hideAll (trk h H) e
 refine ⟨e',?_⟩
 cases q:H b with
 | none=>rfl
 | some x=>
  have hm:b ∈ trk h H:=List.mem_filter.mpr ⟨List.mem_range.mpr (Heap.lt_size e'),by simp [q]⟩
  have z:(ZiC h H).get? b = none:=PySem.W.hideAll_none (trk h H) hm
  rw [z] at e; cases e
noncomputable def Zpg (g h:Heap) (L:Addr):List (Addr × Obj):=(List.range h.objs.size).filterMap fun a=>if a = L ∨ (g.get? a).isSome = true then none else (h.get? a).map fun o=>(a,o)
noncomputable def rest (g h:Heap) (L d:Addr):List (Addr × Obj):=(Zpg g h L).filter fun p=>decide (p.1 ≠ d)
end L2
namespace L2
open PySem PySem.Spec PyProof.Rows
structure Mod (K:PySem.W.Frag) (mg:Str → Option Value) (base:Heap):Prop where
 kin:K.In base
 glob:base.Ns mainGlobals mg
 blt:∃ mb,base.Ns builtinsNs mb ∧ ∀ x:Str,x ≠ "__name__" → mb x = bootBuiltins x
 nolimit:base.NoLimit
/-- the context: a def's body (or a comprehension's block) running. base: fixed through the whole law; s₀,H₀: the entry; outer: the frames whose slots others may change (a def's callers); stack: all frames that run;
  ex: iterators that were made ahead of the entry and are walked here (a comprehension's); fn: the names whose cells were made at the entry (a def: all; a comprehension's block: its own); calm: not within an except suite; pn: pins that every state bears; xe: what is wanted of an exception that leaves the code -/
structure Cx where
 prog:Program
 w:World
 K:PySem.W.Frag
 mg:Str → Option Value
 base:Heap
 A:Around
 N:List Str
 s₀:Shared
 H₀:Hp
 env:Env
 outer:List Env
 stack:List Env
 ex:List Addr
 fn:Str → Bool
 calm:Bool
 pn:List (Addr × Obj)
 xe:Value → Shared → Prop
noncomputable def frs (l:List Env):List Addr:=l.filterMap (·.frame)
noncomputable abbrev Cx.fs (X:Cx):List Addr:=frs X.outer
def Vis (sc:Scope) (x:Str):Prop:=sc.names.lookup x = some .local ∨ sc.names.lookup x = some .cell ∨ sc.names.lookup x = some .free
def Loc (sc:Scope) (x:Str):Prop:=sc.names.lookup x = some .local ∨ sc.names.lookup x = some .cell
def Look (env:Env) (h:Heap) (m:Str → Option Value) (x:Str) (u:Value):Prop:=
 (env.kindOf x = some .local ∧ m x = some u) ∨ ((env.kindOf x = some .cell ∨ env.kindOf x = some .free) ∧ ∃ c,env.cells.lookup x = some c ∧ h.IsCell c (some u))
structure Cx.Ok (X:Cx):Prop where
 mod:Mod X.K X.mg X.base
 kind:X.env.scope.kind = .function
 glob:X.env.globals = mainGlobals
 blt:X.env.builtins = builtinsNs
 above:X.s₀.heap.objs.size ≤ X.env.locals
 inj:∀ x y c,X.env.cells.lookup x = some c → X.env.cells.lookup y = some c → x = y
 has:∀ x,(X.env.kindOf x = some .cell ∨ X.env.kindOf x = some .free) → ∃ c,X.env.cells.lookup x = some c
 cab:∀ x c,X.fn x = true → X.env.cells.lookup x = some c → X.s₀.heap.objs.size ≤ c
 hd:X.calm = true → X.A.handled = none
 frames:X.A.frames = some X.stack
 stk:X.stack = X.outer ∨ (X.stack = X.env :: X.outer ∧ X.env.frame = some X.env.locals)
 exf:∀ b ∈ X.ex,b ≠ X.env.locals ∧ ∀ x c,X.env.cells.lookup x = some c → c ≠ b
 bs:∀ b o,X.base.get? b = some o → X.s₀.heap.get? b = some o ∧ X.H₀ b = none
 bsz:X.base.objs.size ≤ X.s₀.heap.objs.size
 noex:∀ b o,X.base.get? b = some o → b ∉ X.ex
 exfs:∀ b ∈ X.ex,b ∉ X.fs
 funs:X.s₀.heap.FunFrames X.base X.outer
 frf:∀ b ∈ X.fs,X.H₀ b = none
structure Inv (X:Cx) (pins:List (Addr × Obj)) (σ:List (Option V)) (H:Hp) (s:Shared):Prop where
 ok:X.Ok
 os:s.os = X.s₀.os
 bare:AllBare s.gens
 base:Un X.fs X.ex X.H₀ H X.s₀.heap s.heap
 loc:∃ m,s.heap.Ns X.env.locals m ∧ ∀ (i:Nat) (x:Str) (v:V),X.N[i]? = some x → σ[i]? = some (some v) → Vis X.env.scope x → ∃ u,RelV v u ∧ Look X.env s.heap m x u
 cell:∀ x c,X.env.cells.lookup x = some c → ∃ v,s.heap.IsCell c v
 free:H X.env.locals = none
 freeC:∀ x c,X.env.cells.lookup x = some c → H c = none
 pin:∀ p ∈ X.pn ++ pins,s.heap.get? p.1 = some p.2 ∧ H p.1 = none ∧ p.1 ≠ X.env.locals ∧ p.1 ∉ X.fs ∧ ∀ v,p.2.data ≠ .cell v
 hok:HOk X.prog X.w H s.heap
 len:σ.length = X.N.length
section
variable {X:Cx} {pins:List (Addr × Obj)} {σ:List (Option V)} {H H':Hp} {s:Shared} {h':Heap}
theorem Cx.Ok.nofr (ok:X.Ok) {b:Addr} {o:Obj} (e:X.base.get? b = some o):b ∉ X.fs:=fun hb=>by
 have:=(ok.funs.mem hb).1
 rw [e] at this; cases this
theorem Inv.bs (I:Inv X pins σ H s):∀ b o,X.base.get? b = some o → s.heap.get? b = some o ∧ H b = none:=fun b o e=>
 ⟨I.base.keep b o (I.ok.bs b o e).1 (I.ok.bs b o e).2 (I.ok.nofr e) (I.ok.noex b o e),I.base.free b o (I.ok.bs b o e).1 (I.ok.bs b o e).2 (I.ok.noex b o e)⟩
theorem Inv.bk (I:Inv X pins σ H s):∀ b o,X.base.get? b = some o → s.heap.get? b = some o:=fun b o e=>(I.bs b o e).1
theorem Inv.mod (I:Inv X pins σ H s):Mod X.K X.mg X.base:=I.ok.mod
theorem Inv.kIn (I:Inv X pins σ H s):X.K.In s.heap:=I.ok.mod.kin.keeps I.bk
theorem Inv.nolimit (I:Inv X pins σ H s):s.heap.NoLimit:=I.ok.mod.nolimit.keeps I.bk
theorem Inv.fr (I:Inv X pins σ H s):∃ m,Fr X.base X.env.locals s.heap m:=
 let ⟨m,hn,_⟩:=I.loc
 ⟨m,hn,I.bk,Nat.le_trans I.ok.bsz I.ok.above⟩
theorem Inv.lt (I:Inv X pins σ H s):X.env.locals < s.heap.objs.size:=let ⟨_,hn,_⟩:=I.loc; hn.lt
theorem Inv.sz (I:Inv X pins σ H s):X.s₀.heap.objs.size ≤ s.heap.objs.size:=Nat.le_trans I.ok.above (Nat.le_of_lt I.lt)
theorem Inv.nofs (I:Inv X pins σ H s) {a:Addr} (h:s.heap.objs.size ≤ a):a ∉ X.fs:=fun hb=>by
 obtain ⟨_,o,ho,_⟩:=I.ok.funs.mem hb
 exact absurd (Nat.lt_of_lt_of_le (Heap.lt_size ho) (Nat.le_trans I.sz h)) (Nat.lt_irrefl _)
theorem Inv.cne (I:Inv X pins σ H s):∀ x c,X.env.cells.lookup x = some c → c ≠ X.env.locals:=fun x c e z=>by
 obtain ⟨v,o,ho,hd⟩:=I.cell x c e
 obtain ⟨m,⟨o',es,ep,ho',hd',_⟩,_⟩:=I.loc
 rw [z,ho'] at ho; cases ho; rw [hd'] at hd; cases hd
theorem Inv.funs (I:Inv X pins σ H s):s.heap.FunFrames X.base X.outer:=by
 have all:∀ (l:List Env),(∀ b ∈ frs l,b ∈ X.fs) → X.s₀.heap.FunFrames X.base l → s.heap.FunFrames X.base l:=by
  intro l
  induction l with
  | nil=>intro _ _; trivial
  | cons env r ih=>
   intro hs hl
   obtain ⟨hk,⟨L,o,hf,hn,ho,hd⟩,hr⟩:=hl
   have hL:L ∈ X.fs:=hs L (by unfold frs; rw [List.filterMap_cons,hf]; exact List.mem_cons_self)
   obtain ⟨sl,e⟩:=I.base.slot L o ho (I.ok.frf L hL) hL fun z=>I.ok.exfs L z hL
   exact ⟨hk,⟨L,_,hf,hn,e,hd⟩,ih (fun b hb=>hs b (by unfold frs; rw [List.filterMap_cons,hf]; exact List.mem_cons_of_mem _ hb)) hr⟩
 exact all X.outer (fun _ hb=>hb) I.ok.funs
theorem Inv.stack (I:Inv X pins σ H s):s.heap.FunFrames X.base X.stack:=by
 rcases I.ok.stk with e | ⟨e,hf⟩
 ·rw [e]; exact I.funs
 ·rw [e]
  obtain ⟨m,hn,_⟩:=I.loc
  refine .cons (by rw [I.ok.kind]; decide) hf hn ?_ I.funs
  exact Heap.get?_none_of_le (Nat.le_trans I.ok.bsz I.ok.above)
theorem Inv.stkSub (I:Inv X pins σ H s):∀ b ∈ frs X.stack,b ∈ X.env.locals :: X.fs:=fun b hb=>by
 rcases I.ok.stk with e | ⟨e,hf⟩
 ·rw [e] at hb; exact List.mem_cons_of_mem _ hb
 ·rw [e] at hb
  unfold frs at hb
  rw [List.filterMap_cons,hf] at hb
  exact hb
theorem Inv.stkFree (I:Inv X pins σ H s):∀ b ∈ frs X.stack,H b = none:=fun b hb=>by
 rcases List.mem_cons.mp (I.stkSub b hb) with e | hb
 ·rw [e]; exact I.free
 ·obtain ⟨_,o,ho,_⟩:=I.ok.funs.mem hb
  exact I.base.free b o ho (I.ok.frf b hb) fun z=>I.ok.exfs b z hb
theorem Inv.step {g':Array GenState} {t':Nat} {d':Drawn} {ch:List Addr} (I:Inv X pins σ H s)
  (hch:∀ b ∈ ch,(b ∈ X.ex ∨ X.s₀.heap.objs.size ≤ b) ∧ b ≠ X.env.locals ∧ (∀ x c,X.env.cells.lookup x = some c → c ≠ b) ∧ ∀ p ∈ X.pn ++ pins,p.1 ≠ b)
  (keep:∀ b o,b ≠ X.env.locals → b ∉ X.fs → b ∉ ch → s.heap.get? b = some o → H b = none → h'.get? b = some o)
  (slot:∀ b o,b ≠ X.env.locals → b ∈ X.fs → b ∉ ch → s.heap.get? b = some o → H b = none → ∃ sl,h'.get? b = some { o with slots:=sl }) (free:∀ b o,b ∉ ch → s.heap.get? b = some o → H b = none → H' b = none)
  (there:∀ b o,b ∉ ch → s.heap.get? b = some o → ∃ o',h'.get? b = some o')
  (tups:∀ b xs,H b = some (.tup xs) → H' b = some (.tup xs)) (frzs:∀ b o u,H b = some (.frz o u) → H' b = some (.frz o u)) (tbls:∀ b ps,H b = some (.tbl ps) → ∃ more,H' b = some (.tbl (ps ++ more)))
  (ns:∀ m,s.heap.Ns X.env.locals m → h'.Ns X.env.locals m) (hok:HOk X.prog X.w H' h') (hg:AllBare g'):
  Inv X pins σ H' { s with heap:=h',gens:=g',drawn:=d',toks:=t' }:=by
 have neL:∀ b o,X.s₀.heap.get? b = some o → b ≠ X.env.locals:=fun b o e=>Nat.ne_of_lt (Nat.lt_of_lt_of_le (Heap.lt_size e) I.ok.above)
 have neC:∀ b o,X.s₀.heap.get? b = some o → b ∉ X.ex → b ∉ ch:=fun b o e hx hb=>by
  rcases (hch b hb).1 with z | z
  ·exact hx z
  ·exact absurd (Nat.lt_of_lt_of_le (Heap.lt_size e) z) (Nat.lt_irrefl _)
 have cellK:∀ x c,X.env.cells.lookup x = some c → ∀ v,s.heap.IsCell c v → h'.IsCell c v:=fun x c e v zz1=>by
  obtain ⟨o,ho,hd⟩:=zz1
  have nch:c ∉ ch:=fun z=>(hch c z).2.2.1 x c e rfl
  by_cases hc:c ∈ X.fs
  ·obtain ⟨sl,q⟩:=slot c o (I.cne x c e) hc nch ho (I.freeC x c e)
   exact ⟨_,q,hd⟩
  ·exact ⟨o,keep c o (I.cne x c e) hc nch ho (I.freeC x c e),hd⟩
 refine ⟨I.ok,I.os,hg,⟨fun b o e n hb hx=>?_,fun b o e n hb hx=>?_,fun b o e n hx=>?_,fun b o e hx=>?_,fun b xs e=>tups b xs (I.base.tups b xs e),fun b o xs e=>frzs b o xs (I.base.frzs b o xs e),fun b ps e=>?_⟩,?_,fun x c e=>?_,?_,fun x c e=>?_,fun p hp=>?_,hok,I.len⟩
 ·exact keep b o (neL b o e) hb (neC b o e hx) (I.base.keep b o e n hb hx) (I.base.free b o e n hx)
 ·obtain ⟨sl,e1⟩:=I.base.slot b o e n hb hx
  obtain ⟨sl',e2⟩:=slot b _ (neL b o e) hb (neC b o e hx) e1 (I.base.free b o e n hx)
  exact ⟨sl',e2⟩
 ·obtain ⟨o',e1⟩:=I.base.there b o e hx
  exact free b o' (neC b o e hx) e1 (I.base.free b o e n hx)
 ·obtain ⟨o',e1⟩:=I.base.there b o e hx
  exact there b o' (neC b o e hx) e1
 ·obtain ⟨m1,e1⟩:=I.base.tbls b ps e
  obtain ⟨m2,e2⟩:=tbls b _ e1
  exact ⟨m1 ++ m2,by rw [e2,Array.append_assoc]⟩
 ·obtain ⟨m,hn,hl⟩:=I.loc
  refine ⟨m,ns m hn,fun i x v e1 e2 e3=>?_⟩
  obtain ⟨u,r,l⟩:=hl i x v e1 e2 e3
  refine ⟨u,r,?_⟩
  rcases l with l | ⟨k,c,e,z⟩
  ·exact .inl l
  ·exact .inr ⟨k,c,e,cellK x c e _ z⟩
 ·obtain ⟨v,z⟩:=I.cell x c e
  exact ⟨v,cellK x c e v z⟩
 ·obtain ⟨m,⟨o,_,_,ho,_⟩,_⟩:=I.loc
  exact free _ o (fun z=>(hch _ z).2.1 rfl) ho I.free
 ·obtain ⟨v,o,ho,hd⟩:=I.cell x c e
  exact free c o (fun z=>(hch c z).2.2.1 x c e rfl) ho (I.freeC x c e)
 ·obtain ⟨e,n,ne,nf,d⟩:=I.pin p hp
  have nch:p.1 ∉ ch:=fun z=>(hch p.1 z).2.2.2 p hp rfl
  exact ⟨keep p.1 p.2 ne nf nch e n,free p.1 p.2 nch e n,ne,nf,d⟩
theorem Inv.un {t':Nat} (I:Inv X pins σ H s) (u:Un X.fs [] H H' s.heap h') (hok:HOk X.prog X.w H' h'):Inv X pins σ H' { s with heap:=h',toks:=t' }:=by
 obtain ⟨m,⟨o,es,ep,ho,r⟩,_⟩:=id I.loc
 obtain ⟨sl,hL⟩:=u.any ho I.free (by simp)
 exact I.step (g':=s.gens) (d':=s.drawn) (ch:=[]) (fun _ z=>nomatch z) (fun b o _ hb _ e n=>u.keep b o e n hb (by simp)) (fun b o _ hb _ e n=>u.slot b o e n hb (by simp)) (fun b o _ e n=>u.free b o e n (by simp)) (fun b o _ e=>u.there b o e (by simp)) u.tups u.frzs u.tbls (fun m' hm=>by
  obtain ⟨o',es',ep',ho',r'⟩:=hm
  rw [ho] at ho'; cases ho'
  exact ⟨_,es',ep',hL,r'⟩) hok I.bare
theorem Inv.call {g':Array GenState} {t':Nat} {d':Drawn} {ch:List Addr} (I:Inv X pins σ H s) (u:Un (frs X.stack) ch H H' s.heap h') (hok:HOk X.prog X.w H' h') (hg:AllBare g')
  (hch:∀ b ∈ ch,(b ∈ X.ex ∨ X.s₀.heap.objs.size ≤ b) ∧ b ≠ X.env.locals ∧ (∀ x c,X.env.cells.lookup x = some c → c ≠ b) ∧ ∀ p ∈ X.pn ++ pins,p.1 ≠ b):
  Inv X pins σ H' { s with heap:=h',gens:=g',drawn:=d',toks:=t' }:=by
 obtain ⟨m,⟨o,es,ep,ho,r⟩,_⟩:=id I.loc
 obtain ⟨sl,hL⟩:=u.any ho I.free fun z=>(hch _ z).2.1 rfl
 exact I.step (ch:=ch) hch (fun b o hL hb hc e n=>u.keep b o e n (fun z=>(List.mem_cons.mp (I.stkSub b z)).elim hL hb) hc) (fun b o _ _ hc e n=>u.any e n hc) (fun b o hc e n=>u.free b o e n hc) (fun b o hc e=>u.there b o e hc) u.tups u.frzs u.tbls (fun m' hm=>by
  obtain ⟨o',es',ep',ho',r'⟩:=hm
  rw [ho] at ho'; cases ho'
  exact ⟨_,es',ep',hL,r'⟩) hok hg
theorem Inv.turned {t':Nat} {it:Addr} (I:Inv X pins σ H s) (k:∀ b o,b ≠ it → s.heap.get? b = some o → h'.get? b = some o) (hn:H it = none) (hL:it ≠ X.env.locals)
  (h1:it ∈ X.ex ∨ X.s₀.heap.objs.size ≤ it) (h2:∀ x c,X.env.cells.lookup x = some c → c ≠ it) (h3:∀ p ∈ X.pn ++ pins,p.1 ≠ it):Inv X pins σ H { s with heap:=h',toks:=t' }:=by
 have nit:∀ b u,H b = some u → b ≠ it:=fun b u e z=>by rw [z,hn] at e; cases e
 refine I.step (g':=s.gens) (d':=s.drawn) (ch:=[it]) (fun b hb=>?_) (fun b o _ _ hc e _=>k b o (fun z=>hc (by simp [z])) e) (fun b o _ _ hc e _=>⟨o.slots,k b o (fun z=>hc (by simp [z])) e⟩) (fun _ _ _ _ n=>n)
  (fun b o hc e=>⟨o,k b o (fun z=>hc (by simp [z])) e⟩) (fun _ _ e=>e) (fun _ _ _ e=>e) (fun b ps e=>⟨#[],by rw [e]; simp⟩) (fun m hm=>?_) (fun b u e=>?_) I.bare
 ·have e:b = it:=by simpa using hb
  subst e
  exact ⟨h1,hL,h2,h3⟩
 ·obtain ⟨o,es,ep,ho,r⟩:=hm
  exact ⟨o,es,ep,k _ o (Ne.symm hL) ho,r⟩
 ·refine (I.hok b u e).stay (fun c v hc q=>k c v ?_ q) (fun _ q=>q) fun _ _ q=>q
  rcases hc with z | z
  ·rw [z]; exact nit b u e
  ·exact nit c _ z
theorem Inv.tok (I:Inv X pins σ H s) (t:Nat):Inv X pins σ H { s with toks:=t }:=I.un (h':=s.heap) (t':=t) Un.refl I.hok
theorem Inv.kept {t':Nat} (I:Inv X pins σ H s) (k:∀ b u,s.heap.get? b = some u → h'.get? b = some u):Inv X pins σ H { s with heap:=h',toks:=t' }:=I.un (Un.kept k) (I.hok.kept k)
theorem Inv.laid {a:Addr} {o:HO} {t':Nat} (I:Inv X pins σ H s) (k:∀ b u,s.heap.get? b = some u → h'.get? b = some u) (hp:s.heap.objs.size ≤ a) (new:Za7 X.prog X.w (upd H a o) h' a o):
  Inv X pins σ (upd H a o) { s with heap:=h',toks:=t' }:=I.un (Un.laid k hp (I.hok.fresh hp)) (I.hok.laid k hp new)
theorem Inv.write {x e:Addr} {o:HO} {t':Nat} (I:Inv X pins σ H s) (mu:Mut (H x)) (he:e = x ∨ H e = some (.own x)) (k:∀ b u,b ≠ e → s.heap.get? b = some u → h'.get? b = some u) (heo:∃ u,h'.get? e = some u)
  (new:Za7 X.prog X.w (upd H x o) h' x o):Inv X pins σ (upd H x o) { s with heap:=h',toks:=t' }:=I.un (Un.write mu he k heo) (I.hok.write mu he k heo new)
theorem Inv.pins_of {pins':List (Addr × Obj)} (I:Inv X pins σ H s) (h:∀ p ∈ pins',s.heap.get? p.1 = some p.2 ∧ H p.1 = none ∧ p.1 ≠ X.env.locals ∧ p.1 ∉ X.fs ∧ ∀ v,p.2.data ≠ .cell v):Inv X pins' σ H s:=
 ⟨I.ok,I.os,I.bare,I.base,I.loc,I.cell,I.free,I.freeC,fun p hp=>(List.mem_append.mp hp).elim (fun z=>I.pin p (List.mem_append_left _ z)) (h p),I.hok,I.len⟩
theorem ZgC {N:List Str} (hN:N.Nodup) {i j:Nat} {x:Str} (a:N[i]? = some x) (b:N[j]? = some x):i = j:=by
 obtain ⟨h1,e1⟩:=List.getElem?_eq_some_iff.mp a
 obtain ⟨h2,e2⟩:=List.getElem?_eq_some_iff.mp b
 exact (List.getElem_inj hN).mp (e1.trans e2.symm)
theorem Zh1 {M:Model} {A:Around} {E:Value → Shared → Prop} {i:Nat} {x:Str} {v:V} {u:Value} {Q:Unit → Shared → Prop} (I:Inv X pins σ H s) (hN:X.N.Nodup) (hi:X.N[i]? = some x) (hx:Loc X.env.scope x) (r:RelV v u)
  (h:∀ s',Inv X pins (σ.set i (some v)) H s' → (∃ a,Heap.SameBut a s.heap s'.heap ∧ (a = X.env.locals ∨ X.env.cells.lookup x = some a)) → Q () s') (hf:X.fn x = true ∨ X.env.scope.names.lookup x = some .local:=by first | exact .inl rfl | exact .inr rfl | assumption):wpAny M A (storeName X.env x u) Q E s:=by
 obtain ⟨m,hn,hl⟩:=id I.loc
 have hcls:(X.env.scope.kind == .class || (X.env.scope.kind == .module && X.env.locals != X.env.globals)) = false:=by rw [I.ok.kind]; rfl
 have hiσ:i < σ.length:=by rw [I.len]; exact (List.getElem?_eq_some_iff.mp hi).1
 have cne:=I.cne
 have tracked:∀ {a:Addr} {h':Heap},(∃ o,s.heap.get? a = some o ∧ H a = none) → Heap.SameBut a s.heap h' → HOk X.prog X.w H h':=fun {a h'} ha hs b ob e=>by
  obtain ⟨_,_,hfree⟩:=ha
  refine (I.hok b ob e).stay (fun c w' hc q=>(hs.2 c ?_).trans q) (fun _ q=>q) fun _ _ q=>q
  rintro rfl
  rcases hc with rfl | hc
  ·rw [hfree] at e; cases e
  ·rw [hfree] at hc; cases hc
 rcases hx with hk | hk
 ·refine wpAny_storeName_local hk hn (fun h' hn' hs=>?_) hcls
  obtain ⟨oL,_,_,hoL,_⟩:=id hn
  refine h _ ⟨I.ok,I.os,I.bare,⟨fun b o e n hb hx=>?_,fun b o e n hb hx=>?_,I.base.free,fun b o e hx=>?_,I.base.tups,I.base.frzs,I.base.tbls⟩,⟨_,hn',fun j y v' e1 e2 e3=>?_⟩,fun y c e=>?_,I.free,I.freeC,fun p hp=>?_,tracked ⟨oL,hoL,I.free⟩ hs,by simpa using I.len⟩ ⟨_,hs,.inl rfl⟩
  ·exact (hs.2 b (Nat.ne_of_lt (Nat.lt_of_lt_of_le (Heap.lt_size e) I.ok.above))).trans (I.base.keep b o e n hb hx)
  ·obtain ⟨sl,e1⟩:=I.base.slot b o e n hb hx
   exact ⟨sl,(hs.2 b (Nat.ne_of_lt (Nat.lt_of_lt_of_le (Heap.lt_size e) I.ok.above))).trans e1⟩
  ·obtain ⟨o',e1⟩:=I.base.there b o e hx
   exact ⟨o',(hs.2 b (Nat.ne_of_lt (Nat.lt_of_lt_of_le (Heap.lt_size e) I.ok.above))).trans e1⟩
  ·by_cases hj:j = i
   ·subst hj
    rw [hi] at e1; cases e1
    rw [List.getElem?_set_self hiσ] at e2
    cases e2
    exact ⟨u,r,.inl ⟨hk,by simp⟩⟩
   ·rw [List.getElem?_set_ne (Ne.symm hj)] at e2
    obtain ⟨u',r',q⟩:=hl j y v' e1 e2 e3
    refine ⟨u',r',?_⟩
    rcases q with ⟨k,e⟩ | ⟨k,c,e,z⟩
    ·refine .inl ⟨k,?_⟩
     have:y ≠ x:=fun e=>hj (ZgC hN e1 (e ▸ hi))
     simp [this,e]
    ·exact .inr ⟨k,c,e,z.sameBut hs (cne y c e)⟩
  ·obtain ⟨w',z⟩:=I.cell y c e
   exact ⟨w',z.sameBut hs (cne y c e)⟩
  ·obtain ⟨e,n,ne,nf,d⟩:=I.pin p hp
   exact ⟨(hs.2 p.1 ne).trans e,n,ne,nf,d⟩
 ·have hfn:X.fn x = true:=by
   rcases hf with z | z
   ·exact z
   ·rw [z] at hk; cases hk
  obtain ⟨c,hc⟩:=I.ok.has x (.inl hk)
  obtain ⟨w',z⟩:=I.cell x c hc
  refine wpAny_storeName_cell I.ok.kind hk hc z (fun h' hc' hs=>?_)
  obtain ⟨oc,hoc,hocd⟩:=id z
  refine h { s with heap:=h' } ⟨I.ok,I.os,I.bare,⟨fun b o e n hb hx=>?_,fun b o e n hb hx=>?_,I.base.free,fun b o e hx=>?_,I.base.tups,I.base.frzs,I.base.tbls⟩,⟨m,hn.sameBut hs (Ne.symm (cne x c hc)),fun j y v' e1 e2 e3=>?_⟩,fun y c' e=>?_,I.free,I.freeC,fun p hp=>?_,tracked ⟨oc,hoc,I.freeC x c hc⟩ hs,by simpa using I.len⟩ ⟨c,hs,.inr hc⟩
  ·exact (hs.2 b (Nat.ne_of_lt (Nat.lt_of_lt_of_le (Heap.lt_size e) (I.ok.cab x c hfn hc)))).trans (I.base.keep b o e n hb hx)
  ·obtain ⟨sl,e1⟩:=I.base.slot b o e n hb hx
   exact ⟨sl,(hs.2 b (Nat.ne_of_lt (Nat.lt_of_lt_of_le (Heap.lt_size e) (I.ok.cab x c hfn hc)))).trans e1⟩
  ·obtain ⟨o',e1⟩:=I.base.there b o e hx
   exact ⟨o',(hs.2 b (Nat.ne_of_lt (Nat.lt_of_lt_of_le (Heap.lt_size e) (I.ok.cab x c hfn hc)))).trans e1⟩
  ·by_cases hj:j = i
   ·subst hj
    rw [hi] at e1; cases e1
    rw [List.getElem?_set_self hiσ] at e2
    cases e2
    exact ⟨u,r,.inr ⟨.inl hk,c,hc,hc'⟩⟩
   ·rw [List.getElem?_set_ne (Ne.symm hj)] at e2
    obtain ⟨u',r',q⟩:=hl j y v' e1 e2 e3
    refine ⟨u',r',?_⟩
    rcases q with q | ⟨k,c',e,z'⟩
    ·exact .inl q
    ·refine .inr ⟨k,c',e,z'.sameBut hs ?_⟩
     rintro rfl
     exact hj (ZgC hN e1 (I.ok.inj _ _ _ e hc ▸ hi))
  ·by_cases hcc:c' = c
   ·subst hcc; exact ⟨_,hc'⟩
   ·obtain ⟨w2,z2⟩:=I.cell y c' e
    exact ⟨w2,z2.sameBut hs hcc⟩
  ·obtain ⟨e,n,ne,nf,d⟩:=I.pin p hp
   refine ⟨(hs.2 p.1 ?_).trans e,n,ne,nf,d⟩
   intro q
   rw [q,hoc] at e
   have q':oc = p.2:=Option.some.inj e
   exact d w' (by rw [← q']; exact hocd)
theorem ZgY {M:Model} {A:Around} {E:Value → Shared → Prop} {i:Nat} {x:Str} {v:V} {u:Value} {Q:Unit → Shared → Prop} (I:Inv X pins σ H s) (hN:X.N.Nodup) (hi:X.N[i]? = some x) (hx:Loc X.env.scope x) (r:RelV v u)
  (h:∀ s',Inv X pins (σ.set i (some v)) H s' → Q () s') (hf:X.fn x = true ∨ X.env.scope.names.lookup x = some .local:=by first | exact .inl rfl | exact .inr rfl | assumption):wpAny M A (storeName X.env x u) Q E s:=
 Zh1 I hN hi hx r (fun s' I' _=>h s' I') hf
theorem Inv.call' {s':Shared} {ch:List Addr} (I:Inv X pins σ H s) (ho:s'.os = s.os) (u:Un (frs X.stack) ch H H' s.heap s'.heap) (hok:HOk X.prog X.w H' s'.heap) (hg:AllBare s'.gens)
  (hch:∀ b ∈ ch,(b ∈ X.ex ∨ X.s₀.heap.objs.size ≤ b) ∧ b ≠ X.env.locals ∧ (∀ x c,X.env.cells.lookup x = some c → c ≠ b) ∧ ∀ p ∈ X.pn ++ pins,p.1 ≠ b):Inv X pins σ H' s':=by
 obtain ⟨h',g',d',t',o'⟩:=s'
 have e:o' = s.os:=ho
 subst e
 exact I.call (g':=g') (t':=t') (d':=d') u hok hg hch
end
noncomputable abbrev XK:=Value → Option Addr → Hp → Prop
noncomputable abbrev St:=List (Option V)
noncomputable abbrev VK:=V → Hp → Prop
noncomputable abbrev TE:=St → Hp → VK → Prop
noncomputable abbrev TT:=St → Hp → (Bool → Hp → Prop) → Prop
noncomputable abbrev TA:=St → Hp → (List V → Hp → Prop) → Prop
structure Ends where
 nx:St → Hp → Prop
 rt:VK
 bk:St → Hp → Prop:=fun _ _=>False
 ct:St → Hp → Prop:=fun _ _=>False
noncomputable abbrev TS:=Ends → St → Hp → Prop
inductive EP (X:Cx) (pins:List (Addr × Obj)) (σ:St) (Q:VK) (u:Value) (s':Shared):Prop where
 | mk (v:V) (H':Hp) (I:Inv X pins σ H' s') (r:RelV v u) (q:Q v H'):EP X pins σ Q u s'
inductive TP (X:Cx) (pins:List (Addr × Obj)) (σ:St) (Q:Bool → Hp → Prop) (b:Bool) (s':Shared):Prop where
 | mk (H':Hp) (I:Inv X pins σ H' s') (q:Q b H'):TP X pins σ Q b s'
inductive AP (X:Cx) (pins:List (Addr × Obj)) (σ:St) (Q:List V → Hp → Prop) (us:List Value) (s':Shared):Prop where
 | mk (vs:List V) (H':Hp) (I:Inv X pins σ H' s') (r:Vals vs us) (q:Q vs H'):AP X pins σ Q us s'
def SP (X:Cx) (pins:List (Addr × Obj)) (D:Ends) (f:Flow) (s':Shared):Prop:=
 match f with
 | .next=>∃ σ' H',Inv X pins σ' H' s' ∧ D.nx σ' H'
 | .brk=>∃ σ' H',Inv X pins σ' H' s' ∧ D.bk σ' H'
 | .cont=>∃ σ' H',Inv X pins σ' H' s' ∧ D.ct σ' H'
 | .ret u=>∃ v σ' H',Inv X pins σ' H' s' ∧ RelV v u ∧ D.rt v H'
def PE (X:Cx) (e:Expr) (t:TE):Prop:=
 ∀ (pins:List (Addr × Obj)) (s:Shared) (σ:St) (H:Hp) (Q:VK),Inv X pins σ H s → t σ H Q → wpAny (model X.prog X.w) X.A (eval e X.env) (EP X pins σ Q) X.xe s
def PT (X:Cx) (e:Expr) (t:TT):Prop:=
 ∀ (pins:List (Addr × Obj)) (s:Shared) (σ:St) (H:Hp) (Q:Bool → Hp → Prop),Inv X pins σ H s → t σ H Q → wpAny (model X.prog X.w) X.A (isTrue e X.env (eval e X.env)) (TP X pins σ Q) X.xe s
def PW (X:Cx) (e:Expr) (t:TT):Prop:=
 ∀ (whole:Sem Value) (pins:List (Addr × Obj)) (s:Shared) (σ:St) (H:Hp) (Q:Bool → Hp → Prop),Inv X pins σ H s → t σ H Q → wpAny (model X.prog X.w) X.A (isTrue e X.env whole) (TP X pins σ Q) X.xe s
theorem PW.pt {X:Cx} {e:Expr} {t:TT} (h:PW X e t):PT X e t:=h _
def PA (X:Cx) (es:List Expr) (t:TA):Prop:=
 ∀ (pos:Pos) (pins:List (Addr × Obj)) (s:Shared) (σ:St) (H:Hp) (Q:List V → Hp → Prop),Inv X pins σ H s → t σ H Q → wpAny (model X.prog X.w) X.A (spliced (backTo pos (starEach es X.env))) (AP X pins σ Q) X.xe s
def PS (X:Cx) (st:Stmt) (t:TS):Prop:=
 ∀ (pins:List (Addr × Obj)) (s:Shared) (σ:St) (H:Hp) (D:Ends),Inv X pins σ H s → t D σ H → wpAny (model X.prog X.w) X.A (exec st X.env) (SP X pins D) X.xe s
def PSs (X:Cx) (st:List Stmt) (t:TS):Prop:=
 ∀ (pins:List (Addr × Obj)) (s:Shared) (σ:St) (H:Hp) (D:Ends),Inv X pins σ H s → t D σ H → wpAny (model X.prog X.w) X.A (execs st X.env) (SP X pins D) X.xe s
theorem thn {α:Type} {t:Sem α} {Q Q':α → Shared → Prop} {M:Model} {A:Around} {E:Value → Shared → Prop} {s:Shared} (h:wpAny M A t Q E s) (hQ:∀ a s,Q a s → Q' a s):wpAny M A t Q' E s:=wpAny_mono h hQ fun _ _ x=>x
end L2
namespace L2
open PySem PySem.Spec PyProof.Rows
section
variable {X:Cx}
def Zui (i:Nat):TE:=fun σ H Q=>∃ v,σ[i]? = some (some v) ∧ Q v H
def tC (v:V):TE:=fun _ H Q=>Q v H
theorem ZqR {i:Nat} {x:Str} {pos:Pos} (hN:X.N[i]? = some x) (hv:Vis X.env.scope x) (hd:(x == ("__debug__":Str)) = false:=by decide) (hcd:(x == ("__classdict__":Str)) = false:=by decide):PE X (.Name x pos) (Zui i):=by
 intro pins s σ H Q I h
 obtain ⟨v,e,h⟩:=h
 obtain ⟨m,hn,hl⟩:=I.loc
 obtain ⟨u,r,l⟩:=hl i x v hN e hv
 have fin:EP X pins σ Q u s:=⟨v,H,I,r,h⟩
 rcases l with ⟨hk,hm⟩ | ⟨hk,c,hc,hcell⟩
 ·exact wpAny_Name (wpAny_loadName_local I.ok.kind hk hn hm fin) hd
 ·rcases hk with hk | hk
  ·exact wpAny_Name (wpAny_loadName_cell I.ok.kind hk hc hcell fin) hd
  ·exact wpAny_Name (wpAny_loadName_free I.ok.kind hk hc hcell fin hcd) hd
theorem ZrC {i j pos}:PE X (.Constant (.int i) j pos) (tC (.int i)):=fun _ _ _ H _ I h=>wpAny_Constant_int ⟨.int i,H,I.tok _,⟨_,rfl⟩,h⟩
theorem ZsT {b j pos}:PE X (.Constant (.bool b) j pos) (tC (.bl b)):=fun _ _ _ H _ I h=>Constant_bool ⟨.bl b,H,I,rfl,h⟩
theorem Zrd {j pos}:PE X (.Constant .none j pos) (tC .non):=fun _ _ _ H _ I h=>Constant_none ⟨.non,H,I,rfl,h⟩
theorem Zq1 {x j pos}:PE X (.Constant (.str x) j pos) (tC (.str x)):=fun _ _ _ H _ I h=>Calls.Constant_str ⟨.str x,H,I.tok _,⟨_,rfl⟩,h⟩
def Gl (X:Cx) (x:Str):Prop:=X.env.kindOf x = some .globalImplicit
theorem ZeK {E:Value → Shared → Prop} {pins:List (Addr × Obj)} {s:Shared} {σ:St} {H:Hp} {x:Str} {u:Value} {pos:Pos} {Q:Value → Shared → Prop} (I:Inv X pins σ H s) (hg:Gl X x) (hm:X.mg x = some u) (h:Q u s)
  (hd:(x == ("__debug__":Str)) = false:=by decide):wpAny (model X.prog X.w) X.A (eval (.Name x pos) X.env) Q E s:=
 Calls.Name_function_global I.ok.kind hg (Calls.loadGlobal_global (by rw [I.ok.glob]; exact I.mod.glob.keeps I.bk) hm h) hd
theorem Zg5 {E:Value → Shared → Prop} {pins:List (Addr × Obj)} {s:Shared} {σ:St} {H:Hp} {x:Str} {u:Value} {pos:Pos} {Q:Value → Shared → Prop} (I:Inv X pins σ H s) (hg:Gl X x) (hm:X.mg x = none) (hv:bootBuiltins x = some u) (h:Q u s)
  (hn:x ≠ "__name__":=by decide) (hd:(x == ("__debug__":Str)) = false:=by decide):wpAny (model X.prog X.w) X.A (eval (.Name x pos) X.env) Q E s:=by
 obtain ⟨mb,h1,h2⟩:=I.mod.blt
 exact Calls.Name_function_global I.ok.kind hg (Calls.loadGlobal_builtin (by rw [I.ok.glob]; exact I.mod.glob.keeps I.bk) hm (by rw [I.ok.blt]; exact h1.keeps I.bk) ((h2 x hn).trans hv) h) hd
theorem Zlr {x:Str} {v:V} {u:Value} {pos:Pos} (hg:Gl X x) (hm:X.mg x = some u) (r:RelV v u) (hd:(x == ("__debug__":Str)) = false:=by decide):PE X (.Name x pos) (tC v):=
 fun _ _ _ H _ I h=>ZeK I hg hm ⟨v,H,I,r,h⟩ hd
theorem Zgq {x:Str} {v:V} {u:Value} {pos:Pos} (hg:Gl X x) (hm:X.mg x = none) (hv:bootBuiltins x = some u) (r:RelV v u) (hn:x ≠ "__name__":=by decide) (hd:(x == ("__debug__":Str)) = false:=by decide):PE X (.Name x pos) (tC v):=
 fun _ _ _ H _ I h=>Zg5 I hg hm hv ⟨v,H,I,r,h⟩ hn hd
variable {a b:Expr} {ta tb:TE} {pos:Pos}
def tB (t:TE):TT:=fun σ H Q=>t σ H fun x H1=>∃ c,x = .bl c ∧ Q c H1
theorem Zrq {e:Expr} {t:TE} (h:PE X e t) (he:∀ whole,isTrue e X.env whole = (do let v ← whole; standAt e.pos; holding [v] (truthy v)):=by intro _; rfl):PT X e (tB t):=by
 intro pins s σ H Q I hw
 refine isTrue_plain (thn (h pins s σ H _ I hw) fun v s1 zz1=>?_) (he _)
 obtain ⟨x,H1,I1,r1,q1⟩:=zz1
 obtain ⟨d,rfl,q⟩:=q1
 cases r1
 exact wpAny_truthy_bool ⟨H1,I1,q⟩
variable {tA tB':TT} {rest:List Expr}
def ZtA (t u:TT):TT:=fun σ H Q=>t σ H fun c H1=>if c = true then u σ H1 Q else Q false H1
def tOr (t u:TT):TT:=fun σ H Q=>t σ H fun c H1=>if c = true then Q true H1 else u σ H1 Q
def Zul (t:TT):TT:=fun σ H Q=>t σ H fun c H1=>Q (!c) H1
theorem Zpb (ha:PT X a tA):PW X (.BoolOp .And [a] pos) tA:=by
 intro wh pins s σ H Q I h
 refine isTrue_and (thn (ha pins s σ H Q I h) fun c s1 e=>?_)
 cases c with
 | true=>exact isTrue_and_nil e
 | false=>exact e
theorem ZqZ (ha:PT X a tA):PW X (.BoolOp .Or [a] pos) tA:=by
 intro wh pins s σ H Q I h
 refine isTrue_or (thn (ha pins s σ H Q I h) fun c s1 e=>?_)
 cases c with
 | false=>exact isTrue_or_nil e
 | true=>exact e
theorem ZqX (ha:PT X a tA) (hb:PW X (.BoolOp .And (b :: rest) pos) tB'):PW X (.BoolOp .And (a :: b :: rest) pos) (ZtA tA tB'):=by
 intro wh pins s σ H Q I h
 refine isTrue_and (thn (ha pins s σ H _ I h) fun c s1 zz1=>?_)
 obtain ⟨H1,I1,q1⟩:=zz1
 cases c with
 | true=>exact hb wh pins s1 σ H1 Q I1 q1
 | false=>exact ⟨H1,I1,q1⟩
theorem ZsV (ha:PT X a tA) (hb:PW X (.BoolOp .Or (b :: rest) pos) tB'):PW X (.BoolOp .Or (a :: b :: rest) pos) (tOr tA tB'):=by
 intro wh pins s σ H Q I h
 refine isTrue_or (thn (ha pins s σ H _ I h) fun c s1 zz1=>?_)
 obtain ⟨H1,I1,q1⟩:=zz1
 cases c with
 | true=>exact ⟨H1,I1,q1⟩
 | false=>exact hb wh pins s1 σ H1 Q I1 q1
theorem Zqu (ha:PT X a tA):PT X (.UnaryOp .Not a pos) (Zul tA):=by
 intro pins s σ H Q I h
 exact isTrue_not (thn (ha pins s σ H (fun c H1=>Q (!c) H1) I h) fun c s' ⟨H',I',q⟩=>⟨H',I',q⟩)
def Zsj (ta tb:TE):TE:=fun σ H Q=>ta σ H fun x H1=>∃ c,x = .bl c ∧ if c = true then tb σ H1 Q else Q (.bl false) H1
def ZsM (ta:TE):TE:=fun σ H Q=>ta σ H fun x H1=>∃ c,x = .bl c ∧ Q (.bl (!c)) H1
theorem ZqJ {op} {t:TE} (h:PE X a t):PE X (.BoolOp op [a] pos) t:=fun pins s σ H Q I hw=>BoolOp_one (h pins s σ H Q I hw)
theorem Zp7 (ha:PE X a ta) (hb:PE X (.BoolOp .And (b :: rest) pos) tb):PE X (.BoolOp .And (a :: b :: rest) pos) (Zsj ta tb):=by
 intro pins s σ H Q I h
 refine BoolOp_and (thn (ha pins s σ H _ I h) fun v s1 zz1=>?_)
 obtain ⟨x,H1,I1,r1,q1⟩:=zz1
 obtain ⟨c,rfl,q1⟩:=q1
 cases r1
 refine wpAny_truthy_bool ?_
 cases c with
 | true=>exact hb pins s1 σ H1 Q I1 q1
 | false=>exact ⟨.bl false,H1,I1,rfl,q1⟩
theorem Zrt (ha:PE X a ta):PE X (.UnaryOp .Not a pos) (ZsM ta):=by
 intro pins s σ H Q I h
 refine UnaryOp_ (thn (ha pins s σ H _ I h) fun v s1 zz1=>?_)
 obtain ⟨x,H1,I1,r1,q1⟩:=zz1
 obtain ⟨c,rfl,q1⟩:=q1
 cases r1
 exact not_of (wpAny_truthy_bool ⟨.bl (!c),H1,I1,rfl,q1⟩)
def tIf (t:TT) (ta tb:TE):TE:=fun σ H Q=>t σ H fun c H1=>if c = true then ta σ H1 Q else tb σ H1 Q
theorem Zm4 {c:Expr} (hc:PT X c tA) (ha:PE X a ta) (hb:PE X b tb):PE X (.IfExp c a b pos) (tIf tA ta tb):=by
 intro pins s σ H Q I h
 refine wpAny_IfExp (thn (hc pins s σ H _ I h) fun d s1 zz1=>?_)
 obtain ⟨H1,I1,q1⟩:=zz1
 cases d with
 | true=>exact ha pins s1 σ H1 Q I1 q1
 | false=>exact hb pins s1 σ H1 Q I1 q1
end
end L2
namespace L2
open PySem PySem.Spec PyProof.Rows
def SqL (K:PySem.W.Frag) (H:Hp) (a:Addr) (xs:List V):Prop:=
 Rd H a (.lst xs) ∨
  ∃ (o:Obj) (its:Array Value) (n:Nat),K.lookup a = some o ∧ o.cls = .type "list" ∧ o.dict = none ∧ o.data = .seq its n ∧ its.size ≤ sizeLine ∧ Vals xs its.toList
def SqT (K:PySem.W.Frag) (H:Hp) (a:Addr) (xs:List V):Prop:=
 Rd H a (.tup xs) ∨
  ∃ (o:Obj) (its:Array Value) (n:Nat),K.lookup a = some o ∧ (o.cls = .type "tuple" ∧ o.dict = none) ∧ o.data = .seq its n ∧ its.size ≤ sizeLine ∧ Vals xs its.toList
noncomputable def Zuq:Value → Option V
 | .none=>some .non
 | .bool b=>some (.bl b)
 | .int i _=>some (.int i)
 | .str x _=>some (.str x)
 | .bytes b _=>some (.byt b)
 | .float b _=>some (.flt b)
 | .ref a=>some (.ref a)
 | .type n=>some (.ty n)
 | _=>none
theorem RelV.abs {x:V} {u:Value} (r:RelV x u):Zuq u = some x:=by
 cases x with
 | non=>cases r; rfl
 | bl _=>cases r; rfl
 | int _=>obtain ⟨t,rfl⟩:=r; rfl
 | str _=>obtain ⟨t,rfl⟩:=r; rfl
 | byt _=>obtain ⟨t,rfl⟩:=r; rfl
 | flt _=>obtain ⟨t,rfl⟩:=r; rfl
 | ref _=>cases r; rfl
 | ty _=>cases r; rfl
theorem RelV.inj {x y:V} {u:Value} (r:RelV x u) (q:RelV y u):x = y:=Option.some.inj (r.abs.symm.trans q.abs)
theorem Vals.inj:∀ {xs ys:List V} {us:List Value},Vals xs us → Vals ys us → xs = ys
 | _,_,_,.nil,.nil=>rfl
 | _,_,_,.cons r t,.cons r' t'=>by rw [r.inj r',Vals.inj t t']
section
variable {X:Cx} {pins:List (Addr × Obj)} {σ:St} {H:Hp} {s:Shared} {a:Addr} {xs ys:List V}
theorem SqL.of {K:PySem.W.Frag} (h:H a = some (.lst xs)):SqL K H a xs:=.inl (.inl h)
theorem SqT.of {K:PySem.W.Frag} (h:H a = some (.tup xs)):SqT K H a xs:=.inl (.inl h)
theorem Inv.list (I:Inv X pins σ H s) (h:SqL X.K H a xs):∃ its:List Value,Vals xs its ∧ PlainL s.heap a its.toArray ∧ xs.length ≤ sizeLine:=by
 rcases h with h | ⟨o,its,n,hk,hc,hd,hs,hz,r⟩
 ·obtain ⟨z,its,n,r,e⟩:=h.ok I.hok
  exact ⟨its,r,⟨_,n,e,rfl,rfl,rfl⟩,z⟩
 ·refine ⟨its.toList,r,⟨o,n,I.kIn a o hk,hc,hd,by simpa using hs⟩,?_⟩
  have e:=r.length
  simp only [Array.length_toList] at e
  exact lC 2 2199576973345 T1 e hz
theorem Inv.tuple (I:Inv X pins σ H s) (h:SqT X.K H a xs):∃ its:List Value,Vals xs its ∧ IsTup s.heap a its.toArray ∧ xs.length ≤ sizeLine:=by
 rcases h with h | ⟨o,its,n,hk,hc,hs,hz,r⟩
 ·obtain ⟨z,its,r,p⟩:=h.ok I.hok
  exact ⟨its,r,p.tup,z⟩
 ·refine ⟨its.toList,r,⟨o,I.kIn a o hk,hc.1,n,by simpa using hs⟩,?_⟩
  have e:=r.length
  simp only [Array.length_toList] at e
  exact lC 2 2199576973345 T1 e hz
theorem Inv.list_inj (I:Inv X pins σ H s) (h:SqL X.K H a xs) (h':SqL X.K H a ys):xs = ys:=by
 obtain ⟨its,r,⟨o,n,e,_,_,d⟩,_⟩:=I.list h
 obtain ⟨its',r',⟨o',n',e',_,_,d'⟩,_⟩:=I.list h'
 rw [e] at e'; cases e'
 rw [d] at d'
 injection d' with d1 _
 have:its = its':=by simpa using congrArg Array.toList d1
 subst this
 exact r.inj r'
theorem Inv.tupleN (I:Inv X pins σ H s) (h:SqT X.K H a xs):∃ its:List Value,Vals xs its ∧ Zdg s.heap a its.toArray ∧ xs.length ≤ sizeLine:=by
 rcases h with h | ⟨o,its,n,hk,hc,hs,hz,r⟩
 ·obtain ⟨z,its,r,p⟩:=h.ok I.hok; exact ⟨its,r,p,z⟩
 ·refine ⟨its.toList,r,⟨o,I.kIn a o hk,hc,n,by simpa using hs⟩,?_⟩; have e:=r.length; simp only [Array.length_toList] at e; exact lC 2 2199576973345 T1 e hz
theorem Inv.tuple_inj (I:Inv X pins σ H s) (h:SqT X.K H a xs) (h':SqT X.K H a ys):xs = ys:=by
 obtain ⟨its,r,⟨o,e,_,n,d⟩,_⟩:=I.tuple h
 obtain ⟨its',r',⟨o',e',_,n',d'⟩,_⟩:=I.tuple h'
 rw [e] at e'; cases e'
 rw [d] at d'
 injection d' with d1 _
 have:its = its':=by simpa using congrArg Array.toList d1
 subst this
 exact r.inj r'
end
noncomputable abbrev Cx.wish (X:Cx) (E:Value → Shared → Prop):Cx:={ X with xe:=E }
noncomputable abbrev Cx.nox (X:Cx):Cx:=X.wish fun _ _=>False
theorem Cx.Ok.wish {X:Cx} (ok:X.Ok) (E:Value → Shared → Prop):(X.wish E).Ok:=
 ⟨ok.mod,ok.kind,ok.glob,ok.blt,ok.above,ok.inj,ok.has,ok.cab,ok.hd,ok.frames,ok.stk,ok.exf,ok.bs,ok.bsz,ok.noex,ok.exfs,ok.funs,ok.frf⟩
theorem Cx.Ok.unwish {X:Cx} {E:Value → Shared → Prop} (ok:(X.wish E).Ok):X.Ok:=
 ⟨ok.mod,ok.kind,ok.glob,ok.blt,ok.above,ok.inj,ok.has,ok.cab,ok.hd,ok.frames,ok.stk,ok.exf,ok.bs,ok.bsz,ok.noex,ok.exfs,ok.funs,ok.frf⟩
section
variable {X:Cx} {pins:List (Addr × Obj)} {σ:St} {H:Hp} {s:Shared} {E:Value → Shared → Prop}
theorem Inv.wish (I:Inv X pins σ H s) (E:Value → Shared → Prop):Inv (X.wish E) pins σ H s:=⟨I.ok.wish E,I.os,I.bare,I.base,I.loc,I.cell,I.free,I.freeC,I.pin,I.hok,I.len⟩
theorem Inv.unwish (I:Inv (X.wish E) pins σ H s):Inv X pins σ H s:=⟨I.ok.unwish,I.os,I.bare,I.base,I.loc,I.cell,I.free,I.freeC,I.pin,I.hok,I.len⟩
theorem SP.unwish {D:Ends} {f:Flow} {s':Shared} (h:SP (X.wish E) pins D f s'):SP X pins D f s':=by
 cases f with
 | next=>obtain ⟨σ',H',I,q⟩:=h; exact ⟨σ',H',I.unwish,q⟩
 | brk=>obtain ⟨σ',H',I,q⟩:=h; exact ⟨σ',H',I.unwish,q⟩
 | cont=>obtain ⟨σ',H',I,q⟩:=h; exact ⟨σ',H',I.unwish,q⟩
 | ret u=>obtain ⟨v,σ',H',I,r,q⟩:=h; exact ⟨v,σ',H',I.unwish,r,q⟩
theorem PT.nox {e:Expr} {t:TT} (h:PT X.nox e t):PT X e t:=fun pins s σ H Q I hw=>
 wpAny_mono (h pins s σ H Q (I.wish _) hw) (fun _ _ ⟨H',I',q⟩=>⟨H',I'.unwish,q⟩) fun _ _ z=>False.elim z
theorem PSs.nox {st:List Stmt} {t:TS} (h:PSs X.nox st t):PSs X st t:=fun pins s σ H D I hw=>
 wpAny_mono (h pins s σ H D (I.wish _) hw) (fun _ _ q=>q.unwish) fun _ _ z=>False.elim z
end
section
variable {X:Cx} {st:Stmt} {rest:List Stmt} {t u:TS} {e:Expr} {te:TE} {pos:Pos}
def Zsw:TS:=fun D σ H=>D.nx σ H
def ZtO (t u:TS):TS:=fun D σ H=>t { D with nx:=u D } σ H
theorem ZoC:PSs X [] Zsw:=fun _ _ σ H _ I h=>wpAny_execs_nil ⟨σ,H,I,h⟩
theorem Zjb (h1:PS X st t) (h2:PSs X rest u):PSs X (st :: rest) (ZtO t u):=by
 intro pins s σ H D I h
 refine wpAny_execs_cons (thn (h1 pins s σ H { D with nx:=u D } I h) fun f s1 q=>?_)
 cases f with
 | next=>
  obtain ⟨σ',H',I',q⟩:=q
  exact h2 pins s1 σ' H' D I' q
 | ret v=>exact q
 | brk=>exact q
 | cont=>exact q
theorem Zk3 (h1:PS X st t):PSs X [st] t:=by
 intro pins s σ H D I h
 refine wpAny_execs_cons (thn (h1 pins s σ H D I h) fun f s1 q=>?_)
 cases f with
 | next=>exact wpAny_execs_nil q
 | ret v=>exact q
 | brk=>exact q
 | cont=>exact q
theorem Inv.quiet {pins:List (Addr × Obj)} {σ:St} {H:Hp} {s:Shared} (I:Inv X pins σ H s):interactive X.env = false:=by simp [interactive,I.ok.kind]
def ZsR (te:TE):TS:=fun D σ H=>te σ H fun _ H1=>D.nx σ H1
theorem Zo8 (he:PE X e te) (hs:swapsWith e none pos.line X.env = pure false:=by rfl):PS X (.Expr e pos) (ZsR te):=by
 intro pins s σ H D I h
 exact wpAny_Expr_any (thn (he pins s σ H _ I h) fun v s1 ⟨x,H1,I1,r1,q1⟩=>⟨σ,H1,I1,q1⟩) I.quiet hs
def Zt0 (te:TE):TS:=fun D σ H=>te σ H D.rt
theorem Zqv (he:PE X e te):PS X (.Return (some e) pos) (Zt0 te):=by
 intro pins s σ H D I h
 exact wpAny_Return_some (thn (he pins s σ H _ I h) fun v s1 ⟨x,H1,I1,r1,q1⟩=>⟨x,σ,H1,I1,r1,q1⟩)
def Zum (c:TT) (t u:TS):TS:=fun D σ H=>c σ H fun b H1=>if b = true then t D σ H1 else u D σ H1
theorem Zp3 {c:Expr} {a b:List Stmt} {tc:TT} (hc:PT X c tc) (ha:PSs X a t) (hb:PSs X b u):PS X (.If c a b pos) (Zum tc t u):=by
 intro pins s σ H D I h
 refine wpAny_If (thn (hc pins s σ H _ I h) fun d s1 zz1=>?_)
 obtain ⟨H1,I1,q1⟩:=zz1
 cases d with
 | true=>exact ha pins s1 σ H1 D I1 q1
 | false=>exact hb pins s1 σ H1 D I1 q1
end
noncomputable abbrev TG:=V → St → Hp → (St → Hp → Prop) → Prop
noncomputable abbrev TGs:=List V → St → Hp → (St → Hp → Prop) → Prop
def PG (X:Cx) (target:Expr) (t:TG):Prop:=
 ∀ (pins:List (Addr × Obj)) (s:Shared) (σ:St) (H:Hp) (v:V) (u:Value) (Q:St → Hp → Prop),Inv X pins σ H s → RelV v u → t v σ H Q →
  wpAny (model X.prog X.w) X.A (assign target X.env u) (fun _ s'=>∃ σ' H',Inv X pins σ' H' s' ∧ Q σ' H') X.xe s
def PGs (X:Cx) (ts:List Expr) (t:TGs):Prop:=
 ∀ (pins:List (Addr × Obj)) (s:Shared) (σ:St) (H:Hp) (vs:List V) (us:List Value) (Q:St → Hp → Prop),Inv X pins σ H s → Vals vs us → t vs σ H Q →
  wpAny (model X.prog X.w) X.A (assignInOrder ((assignEach ts X.env).map (·.2)) us) (fun _ s'=>∃ σ' H',Inv X pins σ' H' s' ∧ Q σ' H') X.xe s
noncomputable abbrev Zrh:=V → V → V → Hp → (Hp → Prop) → Prop
def Zs2 (X:Cx) (t:Zrh):Prop:=
 ∀ (pins:List (Addr × Obj)) (s:Shared) (σ:St) (H:Hp) (o i v:V) (ov iv u:Value) (Q:Hp → Prop),Inv X pins σ H s → RelV o ov → RelV i iv → RelV v u → t o i v H Q →
  wpAny (model X.prog X.w) X.A (setItem ov iv u) (fun _ s'=>∃ H',Inv X pins σ H' s' ∧ Q H') X.xe s
section
variable {X:Cx} {pos:Pos}
def ZpG (i:Nat):TG:=fun v σ H Q=>Q (σ.set i (some v)) H
theorem ZlJ {i:Nat} {x:Str} (hN:X.N.Nodup) (hi:X.N[i]? = some x) (hx:Loc X.env.scope x) (hf:X.fn x = true ∨ X.env.scope.names.lookup x = some .local:=by first | exact .inl rfl | exact .inr rfl | assumption):PG X (.Name x pos) (ZpG i):=by
 intro pins s σ H v u Q I r h
 exact wpAny_assign_Name (ZgY I hN hi hx r (fun s' I'=>⟨_,H,I',h⟩) hf)
def ZtU:TGs:=fun vs σ H Q=>vs = [] ∧ Q σ H
def ZsI (t:TG) (u:TGs):TGs:=fun vs σ H Q=>∃ v r,vs = v :: r ∧ t v σ H fun σ' H'=>u r σ' H' Q
theorem Zpj:PGs X [] ZtU:=by
 intro pins s σ H vs us Q I r h
 obtain ⟨e,h⟩:=h
 subst e
 cases r
 exact assignInOrder_nil ⟨σ,H,I,h⟩
theorem Zoc {e:Expr} {es:List Expr} {t:TG} {u:TGs} (h1:PG X e t) (h2:PGs X es u)
  (hs:(assignEach (e :: es) X.env).map (·.2) = assign e X.env :: (assignEach es X.env).map (·.2):=by rfl):PGs X (e :: es) (ZsI t u):=by
 intro pins s σ H vs us Q I r h
 obtain ⟨v,vr,e1,h⟩:=h
 subst e1
 cases r with
 | cons r rr=>
  rw [hs]
  refine assignInOrder_cons (thn (h1 pins s σ H _ _ _ I r h) fun _ s1 zz1=>?_)
  obtain ⟨σ1,H1,I1,q1⟩:=zz1
  exact h2 pins s1 σ1 H1 _ _ Q I1 rr q1
def Zua (K:PySem.W.Frag) (n:Nat) (t:TGs):TG:=fun v σ H Q=>∃ a xs,v = .ref a ∧ SqT K H a xs ∧ xs.length = n ∧ t xs σ H Q
theorem Zrl {es:List Expr} {k:Nat} {t:TGs} {n:Nat} (hc:X.calm = true) (h:PGs X es t)
  (hn:(assignEach es X.env).length = n:=by rfl) (hst:(assignEach es X.env).findIdx? (·.1) = none:=by rfl):PG X (.Tuple es k pos) (Zua X.K n t):=by
 intro pins s σ H v u Q I r hw
 obtain ⟨a,xs,e1,hq,hl,hw⟩:=hw
 subst e1
 cases r
 obtain ⟨its,rv,ht,hz⟩:=I.tuple hq
 refine assign_Tuple_tuple (I.ok.hd hc) ht (by simp [hn,← hl,rv.length]) hst fun h' hx=>?_
 have I1:Inv X pins σ H { s with heap:=h' }:=I.kept (t':=s.toks) fun b o e=>hx b o (Nat.ne_of_lt (Heap.lt_size e)) e
 exact h pins _ σ H xs _ Q I1 (by simpa using rv) hw
def Zuh (to ti:TE) (t:Zrh):TG:=fun v σ H Q=>to σ H fun o H1=>ti σ H1 fun i H2=>t o i v H2 fun H3=>Q σ H3
theorem Zp4 {o i:Expr} {to ti:TE} {t:Zrh} (ho:PE X o to) (hi:PE X i ti) (hs:Zs2 X t)
  (ha:∀ v,assign (.Subscript o i pos) X.env v = (do
   let ov ← holding [v] (eval o X.env)
   let iv ← holding [v,ov] (eval i X.env)
   standAt pos
   holding [v,ov,iv] (setItem ov iv v)
   release [v,ov,iv] []):=by intro _; rfl):PG X (.Subscript o i pos) (Zuh to ti t):=by
 intro pins s σ H v u Q I r h
 rw [ha]
 refine wpAny_bind (wpAny_holding (thn (ho pins s σ H _ I h) fun ov s1 zz1=>?_))
 obtain ⟨x,H1,I1,r1,q1⟩:=zz1
 refine wpAny_bind (wpAny_holding (thn (hi pins s1 σ H1 _ I1 q1) fun iv s2 zz1=>?_))
 obtain ⟨y,H2,I2,r2,q2⟩:=zz1
 refine wpAny_bind (wpAny_standAt (wpAny_bind (wpAny_holding (thn (hs pins s2 σ H2 x y v ov iv u _ I2 r1 r2 r q2) fun _ s3 zz1=>?_))))
 obtain ⟨H3,I3,q3⟩:=zz1
 exact wpAny_release ⟨σ,H3,I3,q3⟩
def Zsi (te:TE) (g:TG):TS:=fun D σ H=>te σ H fun x H1=>g x σ H1 D.nx
theorem Zki {tg e:Expr} {te:TE} {g:TG} (he:PE X e te) (hg:PG X tg g) (hs:swapsWithSole [tg] e pos.line X.env = pure false:=by rfl) (hw:swappedStores [tg] e X.env = pure none:=by rfl)
  (h1:(assignEach [tg] X.env).map (·.2) = [assign tg X.env]:=by rfl):PS X (.Assign [tg] e pos) (Zsi te g):=by
 intro pins s σ H D I h
 refine wpAny_Assign_stores (thn (he pins s σ H _ I h) fun v s1 zz1=>?_) hs hw
 obtain ⟨x,H1,I1,r1,q1⟩:=zz1
 rw [h1]
 exact thn (hg pins s1 σ H1 x v _ I1 r1 q1) fun _ s2 q=>q
theorem Zn7 {i:Nat} {x:Str} {e:Expr} {te:TE} {pos':Pos} (hN:X.N.Nodup) (hi:X.N[i]? = some x) (hx:Loc X.env.scope x) (he:PE X e te) (hs:swapsWith e (some (.Name x pos')) pos.line X.env = pure false:=by rfl) (hf:X.fn x = true ∨ X.env.scope.names.lookup x = some .local:=by first | exact .inl rfl | exact .inr rfl | assumption):
  PS X (.Assign [.Name x pos'] e pos) (Zsi te (ZpG i)):=by
 intro pins s σ H D I h
 refine wpAny_Assign_Name (thn (he pins s σ H _ I h) fun v s1 zz1=>?_) hs
 obtain ⟨y,H1,I1,r1,q1⟩:=zz1
 exact ZgY I1 hN hi hx r1 (fun s2 I2=>⟨_,H1,I2,q1⟩) hf
end
section
variable {X:Cx} {pos:Pos}
def ZqA (c:TT) (tb:TS):TS:=fun D σ H=>∃ W:Nat → St → Hp → Prop,(∃ m,W m σ H) ∧ ∀ m σ H,W m σ H →
 c σ H fun b H1=>if b = true then ∃ N:St → Hp → Prop,(∀ σ' H',N σ' H' → ∃ m',m' < m ∧ W m' σ' H') ∧ tb { D with nx:=N,ct:=N,bk:=D.nx } σ H1 else D.nx σ H1
theorem Zn1 {c:Expr} {body:List Stmt} {tc:TT} {tb:TS} (hp:PassesOwn (model X.prog X.w) X.A X.env X.xe) (hc:PT X c tc) (hb:PSs X body tb):PS X (.While c body [] pos) (ZqA tc tb):=by
 intro pins s σ H D I h
 obtain ⟨W,⟨m0,w0⟩,turn⟩:=h
 refine wpAny_While (codeAny_whileLoop (fun n s'=>∃ σ' H',Inv X pins σ' H' s' ∧ W n σ' H') ?_ m0 ⟨σ,H,I,w0⟩)
 rintro n s1 ⟨σ1,H1,I1,w1⟩
 refine wpAny_passesOwn hp (thn (hc pins s1 σ1 H1 _ I1 (turn n σ1 H1 w1)) fun b s2 zz1=>?_)
 obtain ⟨H2,I2,q2⟩:=zz1
 cases b with
 | true=>
  obtain ⟨N,hN,q2⟩:=q2
  rw [if_pos rfl]
  refine wpAny_passesOwn hp (thn (hb pins s2 σ1 H2 _ I2 q2) fun f s3 q3=>?_)
  cases f with
  | next=>
   obtain ⟨σ3,H3,I3,n3⟩:=q3
   obtain ⟨m',hm,w3⟩:=hN σ3 H3 n3
   exact ⟨m',hm,σ3,H3,I3,w3⟩
  | cont=>
   obtain ⟨σ3,H3,I3,n3⟩:=q3
   obtain ⟨m',hm,w3⟩:=hN σ3 H3 n3
   exact ⟨m',hm,σ3,H3,I3,w3⟩
  | brk=>exact q3
  | ret v=>exact q3
 | false=>
  rw [if_neg Bool.false_ne_true]
  exact wpAny_execs_nil ⟨σ1,H2,I2,q2⟩
end
structure It where
 go:Nat → Hp → Prop
 yld:Nat → Hp → V → Hp → Prop
 stop:Nat → Hp → Prop
def ZeA (X:Cx) (pins:List (Addr × Obj)) (H:Hp) (b:Addr):Prop:=
 H b = none ∧ b ≠ X.env.locals ∧ b ∉ X.fs ∧ (b ∈ X.ex ∨ X.s₀.heap.objs.size ≤ b) ∧ (∀ x c,X.env.cells.lookup x = some c → c ≠ b) ∧ ∀ p ∈ X.pn ++ pins,p.1 ≠ b
theorem Inv.fpOk {X:Cx} {pins:List (Addr × Obj)} {σ:St} {H H':Hp} {s:Shared} {b:Addr} (I:Inv X pins σ H s) (hb:s.heap.objs.size ≤ b) (hn:H' b = none):ZeA X pins H' b:=by
 refine ⟨hn,Nat.ne_of_gt (Nat.lt_of_lt_of_le I.lt hb),I.nofs hb,.inr (Nat.le_trans I.sz hb),fun x c e z=>?_,fun p hp z=>?_⟩
 ·obtain ⟨v,q⟩:=I.cell x c e
  exact absurd (Nat.lt_of_lt_of_le q.lt (by rw [z]; exact hb)) (Nat.lt_irrefl _)
 ·exact absurd (Nat.lt_of_lt_of_le (Heap.lt_size (I.pin p hp).1) (by rw [z]; exact hb)) (Nat.lt_irrefl _)
structure Turn (P:Program) (w:World) (K:PySem.W.Frag) (tg:Expr) (J:It) (fp:List Addr) (it:Addr) (tn:Nat → Heap → Prop):Prop where
 mem:it ∈ fp
 obj:∀ i h,tn i h → ∀ b ∈ fp,∃ o,h.get? b = some o ∧ ∀ v,o.data ≠ .cell v
 keep:∀ i h h',tn i h → (∀ b ∈ fp,∀ o,h.get? b = some o → h'.get? b = some o) → tn i h'
 item:∀ (X:Cx),X.prog = P → X.w = w → X.K = K → X.calm = true → ∀ (i:Nat) (pins:List (Addr × Obj)) (s:Shared) (σ:St) (H:Hp) (E:Value → Shared → Prop),Inv X pins σ H s → (∀ b ∈ fp,ZeA X pins H b) → tn i s.heap → J.go i H →
  wpAny (model P w) X.A (pyNext (.ref it)) (fun r s1=>∃ u,r = some u ∧
   wpAny (model P w) X.A (letOwnedTupleGo tg (.ref it) u) (fun _ s2=>∃ x H',Inv X pins σ H' s2 ∧ RelV x u ∧ J.yld i H x H' ∧ tn (i + 1) s2.heap ∧ ∀ b ∈ fp,H' b = none) E s1) E s
 done:∀ (X:Cx),X.prog = P → X.w = w → X.K = K → X.calm = true → ∀ (i:Nat) (pins:List (Addr × Obj)) (s:Shared) (σ:St) (H:Hp) (E:Value → Shared → Prop),Inv X pins σ H s → (∀ b ∈ fp,ZeA X pins H b) → tn i s.heap → J.stop i H →
  wpAny (model P w) X.A (pyNext (.ref it)) (fun r s1=>r = none ∧ Inv X pins σ H s1) E s
 self:∀ (A:Around) (i:Nat) (s:Shared) (Q:Value → Shared → Prop) (E:Value → Shared → Prop),tn i s.heap → Q (.ref it) s → wpAny (model P w) A (pyIter (.ref it)) Q E s
noncomputable abbrev TI:=St → Hp → (It → Hp → Prop) → Prop
def PIE (X:Cx) (pins:List (Addr × Obj)) (σ:St) (tg:Expr) (R:It → Hp → Prop) (itv:Value) (s2:Shared):Prop:=
 ∃ (it:Addr) (fp:List Addr) (tn:Nat → Heap → Prop) (J:It) (H':Hp),itv = .ref it ∧ Inv X pins σ H' s2 ∧ Turn X.prog X.w X.K tg J fp it tn ∧ tn 0 s2.heap ∧ (∀ b ∈ fp,ZeA X pins H' b) ∧ R J H'
def PI (X:Cx) (tg iter:Expr) (wi:TI):Prop:=
 ∀ (pins:List (Addr × Obj)) (s:Shared) (σ:St) (H:Hp) (R:It → Hp → Prop),Inv X pins σ H s → wi σ H R →
  wpAny (model X.prog X.w) X.A (eval iter X.env) (fun v s1=>wpAny (model X.prog X.w) X.A (pyIter v) (PIE X pins σ tg R) X.xe s1) X.xe s
theorem ZkT {M:Model} {A:Around} {E:Value → Shared → Prop} {s:Shared} {tg:Expr} {it:Addr} {u:Value} {o:Obj} {n:String} {vs:Array Value} {Q:Unit → Shared → Prop} (ho:s.heap.get? it = some o) (hc:o.cls = .type n) (hd:o.data = .fields vs)
  (hn:["enumerate","zip","dict_itemiterator","dict_reverseitemiterator","odict_iterator","itertools.zip_longest","itertools.pairwise"].contains n = false) (hQ:Q () s):wpAny M A (letOwnedTupleGo tg (.ref it) u) Q E s:=by
 unfold letOwnedTupleGo
 cases tg <;> first
  | exact wpAny_pure hQ
  | (cases u <;> first
    | exact wpAny_pure hQ
    | (refine wpAny_bind (wpAny_load ho ?_)
       rw [hc,hd]
       show wpAny M A (if (["enumerate","zip","dict_itemiterator","dict_reverseitemiterator","odict_iterator","itertools.zip_longest","itertools.pairwise"].contains n && vs[0]? == some (rawInt _)) = true then _ else _) Q E s
       rw [if_neg (by intro h; rw [hn,Bool.false_and] at h; cases h)]
       exact wpAny_pure hQ))
noncomputable def Itl (K:PySem.W.Frag) (a:Addr):It:=
 ⟨fun i H=>∃ xs x,SqL K H a xs ∧ xs[i]? = some x,fun i H x H'=>H' = H ∧ ∀ xs,SqL K H a xs → xs[i]? = some x,fun i H=>∃ xs,SqL K H a xs ∧ xs.length ≤ i⟩
noncomputable def Itt (K:PySem.W.Frag) (a:Addr):It:=
 ⟨fun i H=>∃ xs x,SqT K H a xs ∧ xs[i]? = some x,fun i H x H'=>H' = H ∧ ∀ xs,SqT K H a xs → xs[i]? = some x,fun i H=>∃ xs,SqT K H a xs ∧ xs.length ≤ i⟩
noncomputable def Itr (lo:Int) (n:Nat):It:=⟨fun i _=>i < n,fun i H x H'=>H' = H ∧ x = .int (lo + i),fun i _=>n ≤ i⟩
theorem Zl1 {P:Program} {w:World} {K:PySem.W.Frag} {tg:Expr} (a it:Addr):Turn P w K tg (Itl K a) [it] it (fun i h=>h.IsListIter it a i) where
 mem:=by simp
 obj:=fun i h st b hb=>by
  have e:b = it:=by simpa using hb
  subst e
  obtain ⟨o,e,c,d⟩:=st
  exact ⟨o,e,fun v z=>by rw [d] at z; cases z⟩
 keep:=fun i h h' st k=>st.at fun o e=>k it (by simp) o e
 item:=by
  intro X hP hw hK hc i pins s σ H E I hf st hg
  subst hP hw hK
  obtain ⟨xs,x,hq,hx⟩:=hg
  obtain ⟨its,rv,p,hz⟩:=I.list hq
  obtain ⟨u,hu,ru⟩:=rv.get hx
  obtain ⟨f0,f1,f2,f3,f4,f5⟩:=hf it (by simp)
  refine wpAny_pyNext_list_item st p.isList (x:=u) (by simpa using hu) fun h' st' sb=>?_
  have I1:Inv X pins σ H { s with heap:=h' }:=I.turned (t':=s.toks) (fun b o hb e=>(sb.2 b hb).trans e) f0 f1 f3 f4 f5
  obtain ⟨o,e,c,d⟩:=id st'
  exact ⟨u,rfl,ZkT (s:={ s with heap:=h' }) e c d (by decide) ⟨x,H,I1,ru,⟨rfl,fun ys hy=>by rw [I.list_inj hy hq]; exact hx⟩,st',fun b hb=>(hf b hb).1⟩⟩
 done:=by
  intro X hP hw hK hc i pins s σ H E I hf st hg
  subst hP hw hK
  obtain ⟨xs,hq,hx⟩:=hg
  obtain ⟨its,rv,p,hz⟩:=I.list hq
  obtain ⟨f0,f1,f2,f3,f4,f5⟩:=hf it (by simp)
  have hl:=rv.length
  exact wpAny_pyNext_list_end (I.ok.hd hc) st p.isList (by simp; exact lC 2 2268279672881 T1 hl hx) fun h' eb=>⟨rfl,I.turned (t':=s.toks) (fun b o hb e=>eb b o hb e) f0 f1 f3 f4 f5⟩
 self:=fun _ _ _ _ _ st h=>wpAny_pyIter_listiter st h
theorem Zky {P:Program} {w:World} {K:PySem.W.Frag} {tg:Expr} (a it:Addr):Turn P w K tg (Itt K a) [it] it (fun i h=>h.IsTupleIter it a i) where
 mem:=by simp
 obj:=fun i h st b hb=>by
  have e:b = it:=by simpa using hb
  subst e
  obtain ⟨o,e,c,d⟩:=st
  exact ⟨o,e,fun v z=>by rw [d] at z; cases z⟩
 keep:=fun i h h' st k=>st.at fun o e=>k it (by simp) o e
 item:=by
  intro X hP hw hK hc i pins s σ H E I hf st hg
  subst hP hw hK
  obtain ⟨xs,x,hq,hx⟩:=hg
  obtain ⟨its,rv,p,hz⟩:=I.tuple hq
  obtain ⟨u,hu,ru⟩:=rv.get hx
  obtain ⟨f0,f1,f2,f3,f4,f5⟩:=hf it (by simp)
  refine wpAny_pyNext_tuple_item st (show s.heap.IsTuple a its.toArray from p) (x:=u) (by simpa using hu) fun h' st' sb=>?_
  have I1:Inv X pins σ H { s with heap:=h' }:=I.turned (t':=s.toks) (fun b o hb e=>(sb.2 b hb).trans e) f0 f1 f3 f4 f5
  obtain ⟨o,e,c,d⟩:=id st'
  exact ⟨u,rfl,ZkT (s:={ s with heap:=h' }) e c d (by decide) ⟨x,H,I1,ru,⟨rfl,fun ys hy=>by rw [I.tuple_inj hy hq]; exact hx⟩,st',fun b hb=>(hf b hb).1⟩⟩
 done:=by
  intro X hP hw hK hc i pins s σ H E I hf st hg
  subst hP hw hK
  obtain ⟨xs,hq,hx⟩:=hg
  obtain ⟨its,rv,p,hz⟩:=I.tuple hq
  obtain ⟨f0,f1,f2,f3,f4,f5⟩:=hf it (by simp)
  have hl:=rv.length
  exact wpAny_pyNext_tuple_end (I.ok.hd hc) st (show s.heap.IsTuple a its.toArray from p) (by simp; exact lC 2 2268279672881 T1 hl hx) fun h' eb=>⟨rfl,I.turned (t':=s.toks) (fun b o hb e=>eb b o hb e) f0 f1 f3 f4 f5⟩
 self:=fun _ _ _ _ _ st h=>wpAny_pyIter_tupleiter st h
theorem Zkg {P:Program} {w:World} {K:PySem.W.Frag} {tg:Expr} (it:Addr) (lo:Int) (n:Nat):Turn P w K tg (Itr lo n) [it] it (fun i h=>IsRangeIter h it (lo + (i:Nat) * 1) ((n:Int) - (i:Nat)) 1) where
 mem:=by simp
 obj:=fun i h st b hb=>by
  have e:b = it:=by simpa using hb
  subst e
  exact ⟨_,st,fun v z=>by
   have z':Data.fields _ = Data.cell v:=z
   cases z'⟩
 keep:=fun i h h' st k=>k it (by simp) _ st
 item:=by
  intro X hP hw hK hc i pins s σ H E I hf st hg
  subst hP hw hK
  obtain ⟨f0,f1,f2,f3,f4,f5⟩:=hf it (by simp)
  have W:=Walks.range (prog:=X.prog) (w:=X.w) (I.ok.hd hc) it lo 1 n
  refine W.item i s _ _ hg st fun v h' tk hv st' kk=>?_
  obtain ⟨t,rfl⟩:=hv
  have I1:Inv X pins σ H { s with heap:=h',toks:=tk }:=I.turned (fun b o hb e=>kk b o (by simpa using hb) e) f0 f1 f3 f4 f5
  refine ⟨_,rfl,ZkT (s:={ s with heap:=h',toks:=tk }) (n:="range_iterator") st' rfl rfl (by decide) ⟨.int (lo + i),H,I1,⟨t,?_⟩,⟨rfl,rfl⟩,st',fun b hb=>(hf b hb).1⟩⟩
  rw [Int.mul_one]
 done:=by
  intro X hP hw hK hc i pins s σ H E I hf st hg
  subst hP hw hK
  obtain ⟨f0,f1,f2,f3,f4,f5⟩:=hf it (by simp)
  exact wpAny_pyNext_range_end (I.ok.hd hc) st (by have:n ≤ i:=hg; exact iN [_,_] [] 1 0xe1808f81001 T1 this) fun h' eb=>⟨rfl,I.turned (t':=s.toks) (fun b o hb e=>eb b o hb e) f0 f1 f3 f4 f5⟩
 self:=fun _ _ _ _ _ st h=>wpAny_pyIter_rangeiter st h
end L2
namespace L2
open PySem PySem.Spec PyProof.Rows
section
variable {X:Cx} {tg:Expr}
def ZsH (K:PySem.W.Frag) (tl:TE):TI:=fun σ H R=>tl σ H fun x H1=>∃ a,x = .ref a ∧ (∃ xs,SqL K H1 a xs) ∧ R (Itl K a) H1
def Zup (K:PySem.W.Frag) (tl:TE):TI:=fun σ H R=>tl σ H fun x H1=>∃ a,x = .ref a ∧ (∃ xs,SqT K H1 a xs) ∧ R (Itt K a) H1
theorem Zo4 {l:Expr} {tl:TE} (hl:PE X l tl):PI X tg l (ZsH X.K tl):=by
 intro pins s σ H R I h
 refine thn (hl pins s σ H _ I h) fun v s1 zz1=>?_
 obtain ⟨x,H1,I1,r1,q1⟩:=zz1
 obtain ⟨a,e,⟨xs,hq⟩,q⟩:=q1
 subst e
 cases r1
 obtain ⟨its,rv,p,hz⟩:=I1.list hq
 refine wpAny_pyIter_list p.isList ?_
 refine ⟨s1.heap.objs.size,[s1.heap.objs.size],_,_,H1,rfl,I1.kept (t':=s1.toks) fun b o e=>Heap.get?_push_of_some _ e,Zl1 a _,⟨_,Heap.get?_push_size _ rfl,rfl,rfl⟩,fun b hb=>?_,q⟩
 have e:b = s1.heap.objs.size:=by simpa using hb
 subst e
 exact I1.fpOk (Nat.le_refl _) (I1.hok.fresh (Nat.le_refl _))
theorem ZqQ {l:Expr} {tl:TE} (hl:PE X l tl):PI X tg l (Zup X.K tl):=by
 intro pins s σ H R I h
 refine thn (hl pins s σ H _ I h) fun v s1 zz1=>?_
 obtain ⟨x,H1,I1,r1,q1⟩:=zz1
 obtain ⟨a,e,⟨xs,hq⟩,q⟩:=q1
 subst e
 cases r1
 obtain ⟨its,rv,p,hz⟩:=I1.tuple hq
 refine wpAny_pyIter_tuple (show s1.heap.IsTuple a its.toArray from p) ?_
 refine ⟨s1.heap.objs.size,[s1.heap.objs.size],_,_,H1,rfl,I1.kept (t':=s1.toks) fun b o e=>Heap.get?_push_of_some _ e,Zky a _,⟨_,Heap.get?_push_size _ rfl,rfl,rfl⟩,fun b hb=>?_,q⟩
 have e:b = s1.heap.objs.size:=by simpa using hb
 subst e
 exact I1.fpOk (Nat.le_refl _) (I1.hok.fresh (Nat.le_refl _))
theorem Zmq {pins:List (Addr × Obj)} {σ:St} {H:Hp} {s:Shared} {R:It → Hp → Prop} {E:Value → Shared → Prop} {lo hi:Int} {t u v:Tok} {tk:Nat} (I:Inv X pins σ H s) (h1:-(2 ^ 62) ≤ lo) (h2:lo < 2 ^ 62) (h3:-(2 ^ 62) ≤ hi) (h4:hi < 2 ^ 62)
  (q:R (Itr lo (hi - lo).toNat) H):wpAny (model X.prog X.w) X.A (pyIter (.ref s.heap.objs.size)) (PIE X pins σ tg R) E { s with heap:=s.heap.push { cls:=.type "range",data:=.fields #[.int lo t,.int hi u,.int 1 v] },toks:=tk }:=by
 refine wpAny_pyIter_range (IsRange.new ..) (small_one h1 h2 h3 h4) ?_
 have I1:Inv X pins σ H { s with heap:=s.heap.push { cls:=.type "range",data:=.fields #[.int lo t,.int hi u,.int 1 v] },toks:=tk }:=I.kept fun b o e=>Heap.get?_push_of_some _ e
 refine ⟨(s.heap.push { cls:=.type "range",data:=.fields #[.int lo t,.int hi u,.int 1 v] }).objs.size,[(s.heap.push { cls:=.type "range",data:=.fields #[.int lo t,.int hi u,.int 1 v] }).objs.size],_,_,H,rfl,
  I1.kept (t':=tk) fun b o e=>Heap.get?_push_of_some _ e,Zkg _ lo (hi - lo).toNat,?_,fun b hb=>?_,q⟩
 ·have e1:lo + ((0:Nat):Int) * 1 = lo:=by simp
  have e2:(((hi - lo).toNat:Nat):Int) - ((0:Nat):Int) = Builtin.Range.rangeSize lo hi 1:=by rw [rangeSize_one]; split <;> omega
  show IsRangeIter _ _ (lo + ((0:Nat):Int) * 1) ((((hi - lo).toNat:Nat):Int) - ((0:Nat):Int)) 1
  rw [e1,e2]
  exact Heap.get?_push_size _ rfl
 ·have e:b = (s.heap.push { cls:=.type "range",data:=.fields #[.int lo t,.int hi u,.int 1 v] }).objs.size:=by simpa using hb
  subst e
  exact I1.fpOk (Nat.le_refl _) (I1.hok.fresh (Nat.le_refl _))
def Zsc (ta:TA):TI:=fun σ H R=>ta σ H fun vs H1=>∃ j:Int,vs = [.int j] ∧ -(2 ^ 62) ≤ j ∧ j < 2 ^ 62 ∧ R (Itr 0 j.toNat) H1
theorem Zmj {a:Expr} {ta:TA} {p pos:Pos} (hg:Gl X "range") (hm:X.mg "range" = none) (ha:PA X [a] ta) (hs:starEach [a] X.env = [(false,eval a X.env)]:=by rfl):PI X tg (.Call (.Name "range" p) [a] [] pos) (Zsc ta):=by
 intro pins s σ H R I h
 refine Call_ (Zg5 I hg hm boot_range (PyProof.Rows.callWith_type1 (thn (ha pos pins s σ H _ I h) fun us s1 zz1=>?_) hs rfl))
 obtain ⟨vs,H1,I1,r1,q1⟩:=zz1
 obtain ⟨j,e,q1,q2,q⟩:=q1
 subst e
 cases r1 with
 | cons r rr=>
  cases rr
  obtain ⟨t,rfl⟩:=r
  exact call_range_1 (Zmq I1 (by omega) (by omega) q1 q2 (by simpa using q))
def Zud (wi:TI) (g:TG) (tb:TS):TS:=fun D σ H=>wi σ H fun J H1=>∃ W:Nat → Nat → St → Hp → Prop,(∃ m,W 0 m σ H1) ∧ ∀ i m σ H,W i m σ H →
 (J.stop i H ∧ D.nx σ H) ∨ (J.go i H ∧ ∃ N:St → Hp → Prop,(∀ σ' H',N σ' H' → ∃ m',m' < m ∧ W (i + 1) m' σ' H') ∧ ∀ x H',J.yld i H x H' → g x σ H' fun σ2 H2=>tb { D with nx:=N,ct:=N,bk:=D.nx } σ2 H2)
noncomputable def Zeu (fp:List Addr) (h:Heap):List (Addr × Obj):=fp.filterMap fun b=>(h.get? b).map fun o=>(b,o)
theorem Zd4 {fp:List Addr} {h:Heap} {b:Addr} {o:Obj} (hb:b ∈ fp) (e:h.get? b = some o):(b,o) ∈ Zeu fp h:=List.mem_filterMap.mpr ⟨b,hb,by rw [e]; rfl⟩
theorem ZlY {fp:List Addr} {h:Heap} {p:Addr × Obj} (hp:p ∈ Zeu fp h):p.1 ∈ fp ∧ h.get? p.1 = some p.2:=by
 obtain ⟨b,hb,e⟩:=List.mem_filterMap.mp hp
 cases q:h.get? b with
 | none=>rw [q] at e; cases e
 | some o=>
  rw [q] at e
  have e':(b,o) = p:=Option.some.inj e
  subst e'
  exact ⟨hb,q⟩
theorem Inv.pinned {pins:List (Addr × Obj)} {σ:St} {H:Hp} {s:Shared} {fp:List Addr} (I:Inv X pins σ H s) (hf:∀ b ∈ fp,ZeA X pins H b) (ho:∀ b ∈ fp,∃ o,s.heap.get? b = some o ∧ ∀ v,o.data ≠ .cell v):Inv X (pins ++ Zeu fp s.heap) σ H s:=
 I.pins_of fun p hp=>(List.mem_append.mp hp).elim (fun z=>I.pin p (List.mem_append_right _ z)) fun z=>by
  obtain ⟨hb,e⟩:=ZlY z
  obtain ⟨f0,f1,f2,_⟩:=hf p.1 hb
  obtain ⟨o,e',d⟩:=ho p.1 hb
  rw [e] at e'; cases e'
  exact ⟨e,f0,f1,f2,d⟩
theorem Inv.unpinned {pins pl:List (Addr × Obj)} {σ:St} {H:Hp} {s:Shared} (I:Inv X (pins ++ pl) σ H s):Inv X pins σ H s:=I.pins_of fun p hp=>I.pin p (List.mem_append_right _ (List.mem_append_left _ hp))
theorem Znf {iter:Expr} {body:List Stmt} {wi:TI} {g:TG} {tb:TS} {pos:Pos} (hp:PassesOwn (model X.prog X.w) X.A X.env X.xe) (hc:X.calm = true) (hi:PI X tg iter wi) (hg:PG X tg g) (hb:PSs X body tb)
  (hs:∀ x,foldedSetIterable iter X.env x = pure x:=by intro _; rfl):PS X (.For tg iter body [] pos) (Zud wi g tb):=by
 intro pins s σ H D I h
 refine wpAny_For (thn (hi pins s σ H _ I h) fun v s1 h1=>thn h1 fun itv s2 h2=>?_) hs
 obtain ⟨it,fp,tn,J,H2,e,I2,T,st2,f2,W,⟨m0,w0⟩,turn⟩:=h2
 subst e
 have stat:∀ {H':Hp},(∀ b ∈ fp,H' b = none) → ∀ b ∈ fp,ZeA X pins H' b:=fun hn b hb=>⟨hn b hb,(f2 b hb).2⟩
 refine codeAny_forLoop_any (fun n s'=>∃ i σ' H',Inv X pins σ' H' s' ∧ tn i s'.heap ∧ (∀ b ∈ fp,H' b = none) ∧ W i n σ' H') ?_ m0 ⟨0,σ,H2,I2,st2,fun b hb=>(f2 b hb).1,w0⟩
 rintro n s3 ⟨i,σ3,H3,I3,st3,fr3,w3⟩
 rcases turn i n σ3 H3 w3 with ⟨stop,qn⟩ | ⟨go,N,hN,step⟩
 ·refine wpAny_passesOwn hp (thn (T.done X rfl rfl rfl hc i pins s3 σ3 H3 X.xe I3 (stat fr3) st3 stop) fun r s4 ⟨hr,I4⟩=>?_)
  subst hr
  exact wpAny_execs_nil ⟨σ3,H3,I4,qn⟩
 ·refine wpAny_passesOwn hp (thn (T.item X rfl rfl rfl hc i pins s3 σ3 H3 X.xe I3 (stat fr3) st3 go) fun r s4 ⟨u,hr,h4⟩=>?_)
  subst hr
  refine wpAny_passesOwn hp (thn h4 fun _ s5 zz1=>?_)
  obtain ⟨x,H5,I5,r5,y5,st5,fr5⟩:=zz1
  have I5':=I5.pinned (stat fr5) (T.obj _ _ st5)
  refine wpAny_passesOwn hp (thn (hg _ s5 σ3 H5 x u _ I5' r5 (step x H5 y5)) fun _ s6 zz1=>?_)
  obtain ⟨σ6,H6,I6,q6⟩:=zz1
  refine wpAny_passesOwn hp (thn (hb _ s6 σ6 H6 _ I6 q6) fun f s7 q7=>?_)
  have again:∀ {σ7:St} {H7:Hp},Inv X (pins ++ Zeu fp s5.heap) σ7 H7 s7 → N σ7 H7 → ∃ m,m < n ∧ ∃ i σ' H',Inv X pins σ' H' s7 ∧ tn i s7.heap ∧ (∀ b ∈ fp,H' b = none) ∧ W i m σ' H':=fun {σ7 H7} I7 n7=>by
   obtain ⟨m',hm,w7⟩:=hN σ7 H7 n7
   refine ⟨m',hm,i + 1,σ7,H7,I7.unpinned,T.keep _ _ _ st5 fun b hb o e=>(I7.pin (b,o) (List.mem_append_right _ (List.mem_append_right _ (Zd4 hb e)))).1,fun b hb=>?_,w7⟩
   obtain ⟨o,e,d⟩:=T.obj _ _ st5 b hb
   exact (I7.pin (b,o) (List.mem_append_right _ (List.mem_append_right _ (Zd4 hb e)))).2.1
  cases f with
  | next=>obtain ⟨σ7,H7,I7,n7⟩:=q7; exact again I7 n7
  | cont=>obtain ⟨σ7,H7,I7,n7⟩:=q7; exact again I7 n7
  | brk=>obtain ⟨σ7,H7,I7,q7⟩:=q7; exact ⟨σ7,H7,I7.unpinned,q7⟩
  | ret v=>obtain ⟨x7,σ7,H7,I7,r7,q7⟩:=q7; exact ⟨x7,σ7,H7,I7.unpinned,r7,q7⟩
end
end L2
namespace L2
open PySem PySem.Spec PyProof.Rows
noncomputable abbrev R2:=V → V → Hp → VK → Prop
def OpR (X:Cx) (f:Value → Value → Sem Value) (r:R2):Prop:=
 ∀ (pins:List (Addr × Obj)) (s:Shared) (σ:St) (H:Hp) (x y:V) (v u:Value) (Q:VK),Inv X pins σ H s → RelV x v → RelV y u → r x y H Q →
  wpAny (model X.prog X.w) X.A (f v u) (EP X pins σ Q) X.xe s
def UnR (X:Cx) (f:Value → Sem Value) (r:V → Hp → VK → Prop):Prop:=
 ∀ (pins:List (Addr × Obj)) (s:Shared) (σ:St) (H:Hp) (x:V) (v:Value) (Q:VK),Inv X pins σ H s → RelV x v → r x H Q →
  wpAny (model X.prog X.w) X.A (f v) (EP X pins σ Q) X.xe s
def Zb2 (X:Cx) (f:Value) (r:List V → Hp → VK → Prop):Prop:=
 ∀ (pins:List (Addr × Obj)) (s:Shared) (σ:St) (H:Hp) (xs:List V) (us:List Value) (Q:VK),Inv X pins σ H s → Vals xs us → r xs H Q →
  wpAny (model X.prog X.w) X.A (call f us) (EP X pins σ Q) X.xe s
def tOp (r:R2) (ta tb:TE):TE:=fun σ H Q=>ta σ H fun x H1=>tb σ H1 fun y H2=>r x y H2 Q
def tUn (r:V → Hp → VK → Prop) (ta:TE):TE:=fun σ H Q=>ta σ H fun x H1=>r x H1 Q
def rI (C:Int → Int → Prop) (g:Int → Int → V):R2:=fun x y H Q=>∃ i j,x = .int i ∧ y = .int j ∧ C i j ∧ Q (g i j) H
def rI0 (g:Int → Int → V):R2:=fun x y H Q=>∃ i j,x = .int i ∧ y = .int j ∧ Q (g i j) H
noncomputable def rU (g:Int → V):V → Hp → VK → Prop:=fun x H Q=>∃ i,x = .int i ∧ Q (g i) H
section
variable {X:Cx} {a b c:Expr} {ta tb tc:TE} {pos:Pos}
theorem Zrw (ha:PE X a ta) (hb:PE X b tb) {pins:List (Addr × Obj)} {s:Shared} {σ:St} {H:Hp} {R:V → V → Hp → Prop} (I:Inv X pins σ H s)
  (h:ta σ H fun x H1=>tb σ H1 fun y H2=>R x y H2) {Q:Value → Shared → Prop} {f:Value → Value → Sem Value}
  (hf:∀ v u s2 x y H2,Inv X pins σ H2 s2 → RelV x v → RelV y u → R x y H2 → wpAny (model X.prog X.w) X.A (f v u) Q X.xe s2):
  wpAny (model X.prog X.w) X.A (eval a X.env) (fun v s₁=>wpAny (model X.prog X.w) X.A (eval b X.env) (fun u s₂=>wpAny (model X.prog X.w) X.A (f v u) Q X.xe s₂) X.xe s₁) X.xe s:=by
 refine thn (ha pins s σ H _ I h) fun v s1 zz1=>?_
 obtain ⟨x,H1,I1,r1,q1⟩:=zz1
 refine thn (hb pins s1 σ H1 _ I1 q1) fun u s2 zz1=>?_
 obtain ⟨y,H2,I2,r2,q2⟩:=zz1
 exact hf v u s2 x y H2 I2 r1 r2 q2
theorem Zr6 {op:Operator} {r:R2} (ho:OpR X (binaryOp op) r) (ha:PE X a ta) (hb:PE X b tb):PE X (.BinOp a op b pos) (tOp r ta tb):=by
 intro pins s σ H Q I h
 exact wpAny_BinOp (Zrw ha hb I h fun v u s2 x y H2 I2 rx ry q=>ho pins s2 σ H2 x y v u Q I2 rx ry q)
theorem Zs4 {op:UnaryOp} {r:V → Hp → VK → Prop} (ho:UnR X (unaryOp op) r) (ha:PE X a ta):PE X (.UnaryOp op a pos) (tUn r ta):=by
 intro pins s σ H Q I h
 exact UnaryOp_ (thn (ha pins s σ H _ I h) fun v s1 ⟨x,H1,I1,r1,q1⟩=>ho pins s1 σ H1 x v Q I1 r1 q1)
theorem opI {f:Value → Value → Sem Value} {C:Int → Int → Prop} {g:Int → Int → Int}
  (rule:∀ (i j:Int) (t u:Tok) (s:Shared) (Q:Value → Shared → Prop) (E:Value → Shared → Prop),C i j → Q (.int (g i j) s.toks) { s with toks:=s.toks + 1 } → wpAny (model X.prog X.w) X.A (f (.int i t) (.int j u)) Q E s):
  OpR X f (rI C fun i j=>.int (g i j)):=by
 intro pins s σ H x y v u Q I rx ry h
 obtain ⟨i,j,rfl,rfl,hc,q⟩:=h
 obtain ⟨t,rfl⟩:=rx
 obtain ⟨t',rfl⟩:=ry
 exact rule i j t t' s _ _ hc ⟨.int (g i j),H,I.tok _,⟨_,rfl⟩,q⟩
theorem ZsO {f:Value → Value → Sem Value} {g:Int → Int → Int}
  (rule:∀ (i j:Int) (t u:Tok) (s:Shared) (Q:Value → Shared → Prop) (E:Value → Shared → Prop),Q (.int (g i j) s.toks) { s with toks:=s.toks + 1 } → wpAny (model X.prog X.w) X.A (f (.int i t) (.int j u)) Q E s):
  OpR X f (rI0 fun i j=>.int (g i j)):=by
 intro pins s σ H x y v u Q I rx ry h
 obtain ⟨i,j,rfl,rfl,q⟩:=h
 obtain ⟨t,rfl⟩:=rx
 obtain ⟨t',rfl⟩:=ry
 exact rule i j t t' s _ _ ⟨.int (g i j),H,I.tok _,⟨_,rfl⟩,q⟩
theorem ZrP {f:Value → Value → Sem Value} {g:Int → Int → Bool}
  (rule:∀ (i j:Int) (t u:Tok) (s:Shared) (Q:Value → Shared → Prop) (E:Value → Shared → Prop),Q (.bool (g i j)) s → wpAny (model X.prog X.w) X.A (f (.int i t) (.int j u)) Q E s):
  OpR X f (rI0 fun i j=>.bl (g i j)):=by
 intro pins s σ H x y v u Q I rx ry h
 obtain ⟨i,j,rfl,rfl,q⟩:=h
 obtain ⟨t,rfl⟩:=rx
 obtain ⟨t',rfl⟩:=ry
 exact rule i j t t' s _ _ ⟨.bl (g i j),H,I,rfl,q⟩
def ZtR (i j:Int):Prop:=0 < j ∧ j < 1073741824
def ZtV (i j:Int):Prop:=0 ≤ j ∧ j ≤ 1000000 ∧ i.natAbs < 2 ^ 64
def Zrf (i j:Int):Prop:=(-(2 ^ 64) < i ∧ i < 2 ^ 64) ∨ (-(2 ^ 64) < j ∧ j < 2 ^ 64)
theorem Zrf.ok {i j:Int} (h:Zrf i j):IntMulOk i j:=by
 rcases h with ⟨h1,h2⟩ | ⟨h1,h2⟩
 ·exact .of_left (intBits_le_64 h1 h2)
 ·exact .of_right (intBits_le_64 h1 h2)
theorem Zq3:OpR X (binaryOp .Add) (rI0 fun i j=>.int (i + j)):=ZsO fun _ _ _ _ _ _ _ q=>add_int q
theorem Zqf:OpR X (binaryOp .Sub) (rI0 fun i j=>.int (i - j)):=ZsO fun _ _ _ _ _ _ _ q=>sub_int q
theorem Zqa:OpR X (binaryOp .Mult) (rI Zrf fun i j=>.int (i * j)):=opI fun _ _ _ _ _ _ _ hc q=>mul_int q hc.ok
theorem Zpu:OpR X (binaryOp .FloorDiv) (rI ZtR fun i j=>.int (i / j)):=opI fun i j _ _ _ _ _ hc q=>by
 have h1:(0:Int) < j:=hc.1
 have h2:j < 1073741824:=hc.2
 exact floordiv_int (by exact fun z=>iN [] [_] 2 26014245025 T1 z h1) (by rw [Int.fdiv_eq_ediv_of_nonneg i (by exact Int.le_of_lt h1)]; exact q) (.inl (PyProof.noPylong_small (by omega)))
theorem Zqo:OpR X (binaryOp .Mod) (rI (fun _ j=>0 < j) fun i j=>.int (i % j)):=opI fun i j _ _ _ _ _ hc q=>by
 have h1:(0:Int) < j:=hc
 exact mod_int' (by exact fun z=>iN [] [_] 2 26014245025 T1 z h1) (by rw [Int.fmod_eq_emod_of_nonneg i (by exact Int.le_of_lt h1)]; exact q)
theorem Zrs:OpR X (binaryOp .Pow) (rI ZtV fun i j=>.int (i ^ j.toNat)):=opI fun _ _ _ _ _ _ _ hc q=>pow_int_small hc.1 hc.2.1 hc.2.2 q
theorem unI {f:Value → Sem Value} {g:Int → Int}
  (rule:∀ (i:Int) (t:Tok) (s:Shared) (Q:Value → Shared → Prop) (E:Value → Shared → Prop),Q (.int (g i) s.toks) { s with toks:=s.toks + 1 } → wpAny (model X.prog X.w) X.A (f (.int i t)) Q E s):
  UnR X f (rU fun i=>.int (g i)):=by
 intro pins s σ H x v Q I rx h
 obtain ⟨i,rfl,q⟩:=h
 obtain ⟨t,rfl⟩:=rx
 exact rule i t s _ _ ⟨.int (g i),H,I.tok _,⟨_,rfl⟩,q⟩
theorem ZqK:UnR X (unaryOp .USub) (rU fun i=>.int (-i)):=unI fun _ _ _ _ _ q=>neg_int q
end
theorem Zir {i j:Str}:decide (V.str i = V.str j) = (i == j):=by
 rw [Bool.eq_iff_iff]
 simp
section
variable {X:Cx} {a b c:Expr} {ta tb tc:TE} {pos:Pos}
theorem ZqG {pins:List (Addr × Obj)} {σ:St} {H:Hp} {s:Shared} {Q:VK} {k k':Bool} (I:Inv X pins σ H s) (q:Q (.bl k) H) (e:k = k'):EP X pins σ Q (.bool k') s:=by
 subst e
 exact ⟨.bl k,H,I,rfl,q⟩
theorem Zs5:OpR X (compareOp .Lt) (rI0 fun i j=>.bl (decide (i < j))):=ZrP fun _ _ _ _ _ _ _ q=>lt_int q
theorem ZsB:OpR X (compareOp .Gt) (rI0 fun i j=>.bl (decide (j < i))):=ZrP fun _ _ _ _ _ _ _ q=>gt_int q
theorem ZsK:OpR X (compareOp .GtE) (rI0 fun i j=>.bl (decide (j ≤ i))):=ZrP fun _ _ _ _ _ _ _ q=>ge_int q
theorem ZlP:OpR X (compareOp .In) (fun x y H Q=>∃ i j,x = .str i ∧ y = .str j ∧ Q (.bl (!(Builtin.Str.occurrences j i 0 j.length 1).isEmpty)) H):=by
 intro pins s σ H x y v u Q I rx ry h
 obtain ⟨i,j,rfl,rfl,q⟩:=h
 obtain ⟨t,rfl⟩:=rx
 obtain ⟨t',rfl⟩:=ry
 exact in_str (ZqG I q rfl)
noncomputable def isObj:HO → Bool
 | .lst _=>true
 | .ins _ _ _=>true
 | _=>false
theorem ZfK {pins:List (Addr × Obj)} {s:Shared} {σ:St} {H:Hp} {a:Addr} {o:HO} (I:Inv X pins σ H s) (h:H a = some o) (p:isObj o = true):∃ ob,s.heap.get? a = some ob ∧ ob.cls ≠ .type "tuple":=by
 cases o with
 | lst xs=>
  obtain ⟨_,its,n,_,e⟩:xs.length ≤ sizeLine ∧ ∃ (its:List Value) (n:Nat),Vals xs its ∧ s.heap.get? a = some { cls:=.type "list",data:=.seq its.toArray n }:=I.hok a _ h
  exact ⟨_,e,(by show Value.type "list" ≠ .type "tuple"; decide +kernel)⟩
 | ins C dx fs=>
  have x:=I.hok a _ h
  obtain ⟨_,_,_,e,_⟩:=x
  exact ⟨_,e,(by show Value.ref C ≠ .type "tuple"; exact fun z=>by cases z)⟩
 | _=>exact absurd (show false = true from p) Bool.false_ne_true
theorem OpR.or {f:Value → Value → Sem Value} {r r':R2} (h:OpR X f r) (h':OpR X f r'):OpR X f (fun x y H Q=>r x y H Q ∨ r' x y H Q):=by
 intro pins s σ H x y v u Q I rx ry q
 rcases q with q | q
 ·exact h pins s σ H x y v u Q I rx ry q
 ·exact h' pins s σ H x y v u Q I rx ry q
theorem Zpm {op:CmpOp} {r:R2} (ho:OpR X (compareOp op) r) (ha:PE X a ta) (hb:PE X b tb) (hm:behindInMarks op b = false):PE X (.Compare a [op] [b] pos) (tOp r ta tb):=by
 intro pins s σ H Q I h
 exact wpAny_Compare1 (Zrw ha hb I h fun v u s2 x y H2 I2 rx ry q=>ho pins s2 σ H2 x y v u Q I2 rx ry q) hm
def ZsE (t:TE):TT:=fun σ H Q=>t σ H fun x H'=>∃ k,x = .bl k ∧ Q k H'
theorem ZoR {op:CmpOp} {r:R2} (ho:OpR X (compareOp op) r) (ha:PE X a ta) (hb:PE X b tb) (hm:behindInMarks op b = false):PT X (.Compare a [op] [b] pos) (ZsE (tOp r ta tb)):=by
 intro pins s σ H Q I h
 refine wpAny_isTrue_Compare1 (thn (ha pins s σ H _ I h) fun v s1 ⟨x,H1,I1,r1,q1⟩=>thn (hb pins s1 σ H1 _ I1 q1) fun u s2 ⟨y,H2,I2,r2,q2⟩=>
  thn (ho pins s2 σ H2 x y v u _ I2 r1 r2 q2) fun c s3 ⟨z,H3,I3,r3,k,e,q3⟩=>?_) hm
 subst e
 cases r3
 exact wpAny_truthy_bool ⟨H3,I3,q3⟩
theorem ZgP:(sizeLine:Nat) < 2 ^ 63:=by rw [sizeLine_eq]; decide
theorem Zj9:OpR X (binaryOp .Add) (fun x y H Q=>∃ i j,x = .str i ∧ y = .str j ∧ i.length + j.length ≤ sizeLine ∧ Q (.str (i ++ j)) H):=by
 intro pins s σ H x y v u Q I rx ry h
 obtain ⟨i,j,rfl,rfl,hz,q⟩:=h
 obtain ⟨t,rfl⟩:=rx
 obtain ⟨t',rfl⟩:=ry
 exact add_str (fun t' tk=>⟨.str (i ++ j),H,I.tok _,⟨_,rfl⟩,q⟩) hz
theorem vals1 {x:V} {us:List Value} (r:Vals [x] us):∃ u,us = [u] ∧ RelV x u:=by
 cases r with
 | cons r1 r2=>cases r2; exact ⟨_,rfl,r1⟩
theorem vals2 {x y:V} {us:List Value} (r:Vals [x,y] us):∃ u w',us = [u,w'] ∧ RelV x u ∧ RelV y w':=by
 cases r with
 | cons r1 r2=>
  cases r2 with
  | cons r3 r4=>cases r4; exact ⟨_,_,rfl,r1,r3⟩
def ZtS (K:PySem.W.Frag) (x:V) (H:Hp) (n:Nat):Prop:=
 match x with
 | .str y=>y.length ≤ sizeLine ∧ n = y.length
 | .byt y=>y.size ≤ sizeLine ∧ n = y.size
 | .ref p=>(∃ xs,SqL K H p xs ∧ n = xs.length) ∨ ∃ xs,SqT K H p xs ∧ n = xs.length
 | _=>False
theorem ZnJ:Zb2 X (.builtin "len") (fun xs H Q=>∃ x n,xs = [x] ∧ ZtS X.K x H n ∧ Q (.int n) H):=by
 intro pins s σ H xs us Q I r h
 obtain ⟨x,n,rfl,e,q⟩:=h
 obtain ⟨u,rfl,rx⟩:=vals1 r
 have hl:=ZgP
 have hs:sizeLine = 16777216:=sizeLine_eq
 cases x with
 | str y=>
  obtain ⟨t,rfl⟩:=rx
  obtain ⟨hy,e'⟩:y.length ≤ sizeLine ∧ n = y.length:=e
  subst e'
  exact len_str (by omega) ⟨.int _,H,I.tok _,⟨_,rfl⟩,q⟩
 | byt y=>
  obtain ⟨t,rfl⟩:=rx
  obtain ⟨hy,e'⟩:y.size ≤ sizeLine ∧ n = y.size:=e
  subst e'
  exact PySem.W.len_bytes (by omega) ⟨.int _,H,I.tok _,⟨_,rfl⟩,q⟩
 | ref p=>
  cases rx
  have e':(∃ xs,SqL X.K H p xs ∧ n = xs.length) ∨ ∃ xs,SqT X.K H p xs ∧ n = xs.length:=e
  rcases e' with ⟨xs,hx,e'⟩ | ⟨xs,hx,e'⟩
  ·subst e'
   obtain ⟨its,r',pl,hz⟩:=I.list hx
   have hlen:=r'.length
   exact Calls.call_len_list pl.isList (by simp only [List.size_toArray]; omega) ⟨.int xs.length,H,I.tok _,⟨_,by simp only [List.size_toArray]; rw [hlen]⟩,q⟩
  ·subst e'
   obtain ⟨its,r',pl,hz⟩:=I.tuple hx
   have hlen:=r'.length
   exact len_tuple pl (by simp only [List.size_toArray]; omega) ⟨.int xs.length,H,I.tok _,⟨_,by simp only [List.size_toArray]; rw [hlen]⟩,q⟩
 | _=>exact (show False from e).elim
end
end L2
namespace L2
open PySem PySem.Spec PyProof.Rows
structure ZkI (h:Heap) (x dx C:Addr) (mA:Str → Option Value):Prop where
 obj:h.get? x = some (PySem.W.instObj C dx)
 ns:h.Ns1 dx mA
 ne:dx ≠ x
theorem Zl8 {h:Heap} {dx:Addr} {mA:Str → Option Value} (n:h.Ns1 dx mA):∃ od,h.get? dx = some od ∧ ∀ name,PySem.W.lookIn name od = some (mA name):=by
 obtain ⟨o,es,ep,ho,hd,hk,_,hm⟩:=n
 refine ⟨o,ho,fun name=>?_⟩
 have e:=hm name
 unfold nsFind findBy at e
 rw [← Array.find?_toList] at e
 unfold PySem.W.lookIn
 rw [hd]
 dsimp only
 split
 ·rename_i y q
  rw [q] at e
  exact congrArg some e
 ·rename_i q
  rw [q] at e
  have a:es.toList.any (·.refKey) = false:=by
   rw [List.any_eq_false]
   intro y hy
   obtain ⟨z,t,hkey⟩:=hk y (Array.mem_toList_iff.mp hy)
   simp [DictEntry.refKey,hkey]
  have a':¬ es.toList.any (·.refKey) = true:=by rw [a]; exact Bool.false_ne_true
  rw [if_neg a']
  exact congrArg some e
theorem ZkI.look {h:Heap} {x dx C:Addr} {mA:Str → Option Value} (I:ZkI h x dx C mA):∃ od,PySem.W.InstAt h x (PySem.W.instObj C dx) C (some od) ∧ ∀ name,PySem.W.lookIn name od = some (mA name):=
 let ⟨od,ho,hl⟩:=Zl8 I.ns
 ⟨od,⟨I.obj,rfl,rfl,ho⟩,hl⟩
section
variable {prog:Program} {w:World} {A:Around} {E:Value → Shared → Prop} {s:Shared} {K:PySem.W.Frag} {x dx C f:Addr} {mA:Str → Option Value} {name:Str} {v:Value}
theorem ZoD {expr:Bool} {Q:Value → Shared → Prop} (X:K.In s.heap) (I:ZkI s.heap x dx C mA) (hg:PySem.W.plainGet K C name = true) (hh:PySem.W.hasDictIn K C = true)
  (ha:PySem.W.findIn K (.ref C) name = some none) (hv:mA name = some v) (hv':PySem.W.handedIn v = true) (h:Q v { s with toks:=s.toks + 1 }):
  wpAny (model prog w) A (getAttr (.ref x) name expr) Q E s:=by
 obtain ⟨od,J,hl⟩:=I.look
 exact PySem.W.get_value X J (PySem.W.plainGet_of hg).1 (PySem.W.findObj_own hh ha rfl (by rw [hl,hv])) hv' h
theorem ZmS {pl:Sem Bool} {Q:Value × List Value → Shared → Prop} (X:K.In s.heap) (I:ZkI s.heap x dx C mA) (hg:PySem.W.plainGet K C name = true)
  (hf:PySem.W.findIn K (.ref C) name = some (some (.ref f))) (ht:PySem.W.isFn K (.ref f) = true) (hv:mA name = none) (h:Q (.ref f,[.ref x]) s):
  wpAny (model prog w) A (getMethod (.ref x) name pl) Q E s:=by
 obtain ⟨od,J,hl⟩:=I.look
 exact PySem.W.method_fn X J (PySem.W.plainGet_of hg).1 (PySem.W.plainGet_of hg).2 hf (beq_iff_eq.mp ht) (by show (PySem.W.lookIn name od).map (·.isSome) = some false; rw [hl,hv]; rfl) h
theorem Zpa {ns:List Str} {Q:Unit → Shared → Prop} (X:K.In s.heap) (I:ZkI s.heap x dx C mA)
  (hs:PySem.W.findIn K (.ref C) "__setattr__" = some (some (.builtin "object.__setattr__"))) (hp:PySem.W.plainOver K C = true) (ht:PySem.W.takerIn K C name = some none) (hh:PySem.W.hasDictIn K C = true)
  (hw:PySem.Within mA ns) (hsz:ns.length ≤ sizeLine)
  (h:∀ h',ZkI h' x dx C (fun y=>if y = name then some v else mA y) → Heap.SameBut dx s.heap h' → Q () { s with heap:=h',toks:=s.toks + 2 }):
  wpAny (model prog w) A (setAttr (.ref x) name v) Q E s:=by
 obtain ⟨od,J,hl⟩:=I.look
 refine PySem.W.set_plain X J hs (PySem.W.osa_open (s:={ s with toks:=s.toks + 1 }) (r:=none) X J hp ht fun b=>?_)
 obtain ⟨cd,hc,hd'⟩:=PySem.W.any_some hh
 have hx:s.heap.get? x = some ⟨.ref C,some dx,.plain,#[]⟩:=I.obj
 refine wpAny_bind (wpAny_pure (wpAny_bind (wpAny_bind (wpAny_loadPart hx (wpAny_bind (PySem.W.Looks.here (s:={ s with toks:=s.toks + 1 }) (PySem.W.looks_clsIn X hc) ?_))))))
 rw [hd']
 refine wpAny_pure (a:=some dx) (wpAny_bind (wpAny_pure (wpAny_bind ?_)))
 refine wpAny_nsSet1 (s:={ s with toks:=s.toks + 1 }) I.ns fun h' hn2 hs2=>?_
 obtain ⟨oD,esD,epD,hoD,hdD,hcD⟩:=hn2.count (PySem.Within.cons name v hw)
 refine wpAny_bind (wpAny_lookBehind hoD (by rw [hdD]; exact pastItsLine_dict (Nat.le_trans hcD (by rw [List.length_cons]; exact lB 1 0xa1ca0c01001 T1 hsz))) ?_)
 exact wpAny_pure (h _ ⟨(hs2.2 _ (Ne.symm I.ne)).trans I.obj,hn2,I.ne⟩ hs2)
theorem Zn6 {R:Result → Shared → Prop} {vs:List Value} {kw:List (Str × Value)} (X:K.In s.heap) (hm:PySem.W.makesIn K C = true)
  (hi:PySem.W.findIn K (.ref C) "__init__" = some (some (.ref f))) (hf:PySem.W.typeIn K (.ref f) = some (.type "function"))
  (h:codeAny (model prog w) (A.under (.builtin "type.__call__" ⟨.ref C :: vs,kw⟩)) (.call (.ref f) ⟨.ref (s.heap.objs.size + 1) :: vs,kw⟩) (PySem.W.InitBack (s.heap.objs.size + 1) R)
   { s with heap:=(s.heap.push PySem.W.emptyDict).push (PySem.W.instObj C s.heap.objs.size) }):
  codeAny (model prog w) A (.call (.ref C) ⟨vs,kw⟩) R s:=by
 obtain ⟨hh,g,d,t,os⟩:=s
 exact PySem.W.make_core (PySem.W.makes_of X hm) (PySem.W.looks_findIn X hi) (fun self=>PySem.W.bind_fn X self hf) (.inl rfl) h
end
noncomputable def ZdJ (f:Str) (v:V):List (Str × V) → List (Str × V)
 | []=>[(f,v)]
 | (g,x) :: r=>if g = f then (g,v) :: r else (g,x) :: ZdJ f v r
theorem Zf2 (f g:Str) (v:V):∀ fs:List (Str × V),(ZdJ f v fs).lookup g = if g = f then some v else fs.lookup g
 | []=>by
  show List.lookup g [(f,v)] = _
  by_cases h:g = f
  ·have hb:(g == f) = true:=beq_iff_eq.mpr h
   simp only [List.lookup,hb,if_pos h]
  ·have hb:(g == f) = false:=beq_eq_false_iff_ne.mpr h
   simp only [List.lookup,hb,if_neg h]
 | (k,x) :: r=>by
  have ih:=Zf2 f g v r
  rw [show ZdJ f v ((k,x) :: r) = (if k = f then (k,v) :: r else (k,x) :: ZdJ f v r) from rfl]
  by_cases hk:k = f
  ·rw [if_pos hk]
   by_cases h:g = k
   ·have hb:(g == k) = true:=beq_iff_eq.mpr h
    simp only [List.lookup,hb,if_pos (h.trans hk)]
   ·have hb:(g == k) = false:=beq_eq_false_iff_ne.mpr h
    simp only [List.lookup,hb,if_neg (fun e:g = f=>h (e.trans hk.symm))]
  ·rw [if_neg hk]
   by_cases h:g = k
   ·have hb:(g == k) = true:=beq_iff_eq.mpr h
    simp only [List.lookup,hb,if_neg (fun e:g = f=>hk (h.symm.trans e))]
   ·have hb:(g == k) = false:=beq_eq_false_iff_ne.mpr h
    simp only [List.lookup,hb]
    exact ih
theorem ZfM (f:Str) (v:V):∀ fs:List (Str × V),f ∈ (ZdJ f v fs).map (·.1) ∧ ∀ g,g ∈ fs.map (·.1) → g ∈ (ZdJ f v fs).map (·.1)
 | []=>⟨by simp [ZdJ],fun g h=>by simp at h⟩
 | (k,x) :: r=>by
  obtain ⟨i1,i2⟩:=ZfM f v r
  rw [show ZdJ f v ((k,x) :: r) = (if k = f then (k,v) :: r else (k,x) :: ZdJ f v r) from rfl]
  by_cases hk:k = f
  ·rw [if_pos hk]
   subst hk
   exact ⟨by simp,fun g h=>by simpa using h⟩
  ·rw [if_neg hk]
   refine ⟨?_,fun g h=>?_⟩
   ·rw [List.map_cons]
    exact List.mem_cons_of_mem _ i1
   ·rw [List.map_cons] at h ⊢
    rcases List.mem_cons.mp h with e | e
    ·exact List.mem_cons.mpr (.inl e)
    ·exact List.mem_cons_of_mem _ (i2 g e)
theorem Zf9 (f:Str) (v:V):∀ fs:List (Str × V),(ZdJ f v fs).length ≤ fs.length + 1
 | []=>by simp [ZdJ]
 | (k,x) :: r=>by
  have ih:=Zf9 f v r
  rw [show ZdJ f v ((k,x) :: r) = (if k = f then (k,v) :: r else (k,x) :: ZdJ f v r) from rfl]
  by_cases hk:k = f
  ·rw [if_pos hk,List.length_cons,List.length_cons]; exact Nat.le_add_right _ _
  ·rw [if_neg hk,List.length_cons,List.length_cons]; exact lB 1 0xaa1cca0c0a1c001 T1 ih
theorem ZfE.some_of {v:V} {o:Option Value} (r:ZfE (some v) o):∃ u,o = some u ∧ RelV v u:=by
 cases o with
 | none=>exact (show False from r).elim
 | some u=>exact ⟨u,rfl,r⟩
theorem ZfE.none_of {o:Option Value} (r:ZfE none o):o = none:=by
 cases o with
 | none=>rfl
 | some u=>exact (show False from r).elim
theorem Zmh {v:V} {u:Value} (r:RelV v u):PySem.W.handedIn u = true:=by
 cases v with
 | non=>cases (show u = Value.none from r); rfl
 | bl b=>cases (show u = Value.bool b from r); rfl
 | int i=>obtain ⟨t,e⟩:=(show ∃ t,u = Value.int i t from r); cases e; rfl
 | str x=>obtain ⟨t,e⟩:=(show ∃ t,u = Value.str x t from r); cases e; rfl
 | byt b=>obtain ⟨t,e⟩:=(show ∃ t,u = Value.bytes b t from r); cases e; rfl
 | flt b=>obtain ⟨t,e⟩:=(show ∃ t,u = Value.float b t from r); cases e; rfl
 | ref a=>cases (show u = Value.ref a from r); rfl
 | ty n=>cases (show u = Value.type n from r); rfl
section
variable {P:Program} {w:World} {H H':Hp} {h h':Heap} {a C dx:Addr} {fs fs':List (Str × V)}
theorem Zgr (hok:HOk P w H h) (e:H a = some (.ins C dx fs)):∃ mA,ZkI h a dx C mA ∧ (∀ f,ZfE (fs.lookup f) (mA f)) ∧ PySem.Within mA (fs.map (·.1)) ∧ fs.length ≤ 1000 ∧ H dx = some (.own a):=by
 obtain ⟨d,z,ne,ob,mA,n,r,q⟩:=(show Za7 P w H h a (.ins C dx fs) from hok a _ e)
 exact ⟨mA,⟨ob,n,ne⟩,r,q,z,d⟩
end
structure Cls (K:PySem.W.Frag) (C:Addr):Prop where
 pg:PySem.W.plainGet K C Str.empty = true
 hd:PySem.W.hasDictIn K C = true
 po:PySem.W.plainOver K C = true
 sa:PySem.W.findIn K (.ref C) "__setattr__" = some (some (.builtin "object.__setattr__"))
theorem Cls.get {K:PySem.W.Frag} {C:Addr} (c:Cls K C) (f:Str):PySem.W.plainGet K C f = true:=c.pg
def ZdE (K:PySem.W.Frag) (C:Addr) (f:Str):Prop:=PySem.W.findIn K (.ref C) f = some none
theorem ZdE.taker {K:PySem.W.Frag} {C:Addr} {f:Str} (n:ZdE K C f):PySem.W.takerIn K C f = some none:=by
 unfold PySem.W.takerIn
 rw [show PySem.W.findIn K (.ref C) f = some none from n]
 rfl
structure Meth (K:PySem.W.Frag) (C:Addr) (m:Str) (f:Addr):Prop where
 at_:PySem.W.findIn K (.ref C) m = some (some (.ref f))
 fn:PySem.W.isFn K (.ref f) = true
 kp:PySem.W.keepIn K (.ref f) = true
section
variable {X:Cx} {pins:List (Addr × Obj)} {σ:St} {H:Hp} {s:Shared} {a C dx:Addr} {fs:List (Str × V)} {f:Str} {v:V} {A:Around} {E:Value → Shared → Prop}
theorem Zkx {b:Bool} {Q:Value → Shared → Prop} (I:Inv X pins σ H s) (e:H a = some (.ins C dx fs)) (c:Cls X.K C) (n:ZdE X.K C f) (l:fs.lookup f = some v)
  (h:∀ u s',Inv X pins σ H s' → RelV v u → Q u s'):wpAny (model X.prog X.w) A (getAttr (.ref a) f b) Q E s:=by
 obtain ⟨mA,O,r,_,_,_⟩:=Zgr I.hok e
 obtain ⟨u,hu,ru⟩:=ZfE.some_of (v:=v) (o:=mA f) (by rw [← l]; exact r f)
 exact ZoD I.kIn O (c.get f) c.hd n hu (Zmh ru) (h u _ (I.tok _) ru)
theorem ZgE {m:Str} {g:Addr} {pl:Sem Bool} {Q:Value × List Value → Shared → Prop} (I:Inv X pins σ H s) (e:H a = some (.ins C dx fs)) (c:Cls X.K C) (k:Meth X.K C m g) (l:fs.lookup m = none)
  (h:Q (.ref g,[.ref a]) s):wpAny (model X.prog X.w) A (getMethod (.ref a) m pl) Q E s:=by
 obtain ⟨mA,O,r,_,_,_⟩:=Zgr I.hok e
 have hn:mA m = none:=ZfE.none_of (by rw [← l]; exact r m)
 exact ZmS I.kIn O (c.get m) k.at_ k.fn hn h
theorem Zkv {y:V} {u:Value} {Q:Unit → Shared → Prop} (I:Inv X pins σ H s) (e:H a = some (.ins C dx fs)) (c:Cls X.K C) (n:ZdE X.K C f) (hl:fs.length < 1000) (ry:RelV y u)
  (h:∀ s',Inv X pins σ (upd H a (.ins C dx (ZdJ f y fs))) s' → Q () s'):wpAny (model X.prog X.w) A (setAttr (.ref a) f u) Q E s:=by
 obtain ⟨mA,O,r,wi,_,ho⟩:=Zgr I.hok e
 have hz:(fs.map (·.1)).length ≤ sizeLine:=by rw [List.length_map,sizeLine_eq]; exact lA 1 0x10000007b003e83b011 T1 hl
 refine Zpa I.kIn O c.sa c.po n.taker c.hd wi hz fun h' O' sb=>h _ ?_
 have hd:∃ o,h'.get? dx = some o:=let ⟨o,_,_,e',_⟩:=O'.ns; ⟨o,e'⟩
 refine I.write (x:=a) (e:=dx) (by rw [e]; exact True.intro) (.inr ho) (fun b q hb z=>(sb.2 b hb).trans z) hd ?_
 refine ⟨by rw [ZaE O.ne]; exact ho,?_,O.ne,O'.obj,_,O'.ns,fun g=>?_,fun g hg=>?_⟩
 ·have:=Zf9 f y fs; exact lB 2 0x3e83b003e83b111a1c001 T1 this hl
 ·show ZfE ((ZdJ f y fs).lookup g) (if g = f then some u else mA g)
  rw [Zf2]
  by_cases q:g = f
  ·rw [if_pos q,if_pos q]; exact ry
  ·rw [if_neg q,if_neg q]; exact r g
 ·by_cases q:g = f
  ·rw [q]; exact (ZfM f y fs).1
  ·refine (ZfM f y fs).2 g (wi g fun z=>hg ?_)
   show (if g = f then some u else mA g) = none
   rw [if_neg q]; exact z
theorem Inv.made (I:Inv X pins σ H s):Inv X pins σ (upd (upd H s.heap.objs.size (.own (s.heap.objs.size + 1))) (s.heap.objs.size + 1) (.ins C s.heap.objs.size []))
  { s with heap:=(s.heap.push PySem.W.emptyDict).push (PySem.W.instObj C s.heap.objs.size) }:=by
 have e1:(s.heap.push PySem.W.emptyDict).get? s.heap.objs.size = some PySem.W.emptyDict:=Heap.get?_push_size s.heap rfl
 have e2:((s.heap.push PySem.W.emptyDict).push (PySem.W.instObj C s.heap.objs.size)).get? (s.heap.objs.size + 1) = some (PySem.W.instObj C s.heap.objs.size):=by
  have:=Heap.get?_push_size (s.heap.push PySem.W.emptyDict) (o:=PySem.W.instObj C s.heap.objs.size) rfl
  rwa [Heap.size_push] at this
 have e3:(s.heap.push PySem.W.emptyDict).Ns s.heap.objs.size (fun _=>none):=⟨PySem.W.emptyDict,#[],_,e1,rfl,(fun e he=>absurd he (by simp)),fun _=>rfl⟩
 have I1:=I.laid (a:=s.heap.objs.size) (o:=.own (s.heap.objs.size + 1)) (h':=s.heap.push PySem.W.emptyDict) (t':=s.toks) (fun b u q=>Heap.get?_push_of_some _ q) (Nat.le_refl _) ⟨_,e1⟩
 refine I1.laid (a:=s.heap.objs.size + 1) (o:=.ins C s.heap.objs.size []) (t':=s.toks) (fun b u q=>Heap.get?_push_of_some _ q) (Nat.le_of_eq (Heap.size_push _ _)) ?_
 have ne:s.heap.objs.size ≠ s.heap.objs.size + 1:=Nat.ne_of_lt (Nat.lt_succ_self _)
 refine ⟨by rw [ZaE ne,Zbm],Nat.zero_le _,ne,e2,fun _=>none,(Heap.Ns1.of_empty e3).at fun o q=>Heap.get?_push_of_some _ q,fun _=>True.intro,fun y hy=>absurd rfl hy⟩
theorem Zps {prog:Program} {w:World} {env:Env} {e:Expr} {f:Str} {pos:Pos} {s:Shared} {Q:Value → Shared → Prop} (hb:attributeBase e f env (eval e env) = eval e env)
  (h:wpAny (model prog w) A (eval e env) (fun o s₁=>wpAny (model prog w) A (getAttr o f true) Q E s₁) E s):wpAny (model prog w) A (eval (.Attribute e f pos) env) Q E s:=
 Attribute_any_ h (by rw [arm_eval_Attribute,hb])
end
def ZtE (K:PySem.W.Frag) (ta:TE) (f:Str):TE:=fun σ H Q=>ta σ H fun x H1=>∃ a C dx fs v,x = .ref a ∧ H1 a = some (.ins C dx fs) ∧ Cls K C ∧ ZdE K C f ∧ fs.lookup f = some v ∧ Q v H1
def ZtK (K:PySem.W.Frag) (ta tv:TE) (f:Str):TS:=fun D σ H=>tv σ H fun y H1=>ta σ H1 fun x H2=>∃ a C dx fs,x = .ref a ∧ H2 a = some (.ins C dx fs) ∧ Cls K C ∧ ZdE K C f ∧ fs.length < 1000 ∧
 D.nx σ (upd H2 a (.ins C dx (ZdJ f y fs)))
section
variable {X:Cx} {o e value:Expr} {f:Str} {pos pos' tpos:Pos} {ta tv:TE}
theorem Zrb (he:PE X e ta) (hb:attributeBase e f X.env (eval e X.env) = eval e X.env):PE X (.Attribute e f pos) (ZtE X.K ta f):=by
 intro pins s σ H Q I h
 refine Zps hb (thn (he pins s σ H _ I h) fun u s1 zz1=>?_)
 obtain ⟨x,H1,I1,rx,a,C,dx,fs,v,ex,ea,c,n,l,q⟩:=zz1
 subst ex
 obtain rfl:u = Value.ref a:=rx
 exact Zkx I1 ea c n l fun u' s2 I2 ru=>⟨v,H1,I2,ru,q⟩
theorem Zql (ha:PE X o ta) (hv:PE X value tv) (hs:swapsWith value (some (.Attribute o f pos')) pos.line X.env = pure false):PS X (.Assign [.Attribute o f pos'] value pos) (ZtK X.K ta tv f):=by
 intro pins s σ H D I h
 refine plainObj_wpAny_Assign_Attribute (thn (hv pins s σ H _ I h) fun u s1 ⟨y,H1,I1,ry,q⟩=>thn (ha pins s1 σ H1 _ I1 q) fun ov s2 zz1=>?_) hs
 obtain ⟨x,H2,I2,rx,a,C,dx,fs,ex,ea,c,n,l,q2⟩:=zz1
 subst ex
 obtain rfl:ov = Value.ref a:=rx
 exact Zkv I2 ea c n l ry fun s3 I3=>⟨σ,_,I3,q2⟩
end
section
variable {X:Cx} {pins:List (Addr × Obj)} {σ:St} {H:Hp} {s:Shared} {A:Around} {E:Value → Shared → Prop} {Q:Value → Shared → Prop} {c:Value} {b:Bool}
inductive Zgm (K:PySem.W.Frag) (H:Hp):V → Value → Prop where
 | non:Zgm K H .non (.type "NoneType")
 | bl (x:Bool):Zgm K H (.bl x) (.type "bool")
 | int (i:Int):Zgm K H (.int i) (.type "int")
 | str (x:Str):Zgm K H (.str x) (.type "str")
 | flt (x:UInt64):Zgm K H (.flt x) (.type "float")
 | lst {a:Addr} {xs:List V} (e:H a = some (.lst xs)):Zgm K H (.ref a) (.type "list")
 | frz {a:Addr} {o:Obj} {xs:List V} (e:H a = some (.frz o (.lst xs))):Zgm K H (.ref a) (.type "list")
 | tup {a:Addr} {xs:List V} (e:H a = some (.tup xs)):Zgm K H (.ref a) (.type "tuple")
 | dK {a:Addr} {kvs:List (Key × V)} (e:H a = some (.dK kvs)):Zgm K H (.ref a) (.type "dict")
 | dT {a:Addr} {kvs:List (List Key × V)} (e:H a = some (.dT kvs)):Zgm K H (.ref a) (.type "dict")
 | ins {a C dx:Addr} {fs:List (Str × V)} (e:H a = some (.ins C dx fs)) (cl:Cls K C) (ha:PySem.W.findIn K (.ref C) "__class__" = some (some (.builtin "object.__class__")))
   (hn:PySem.W.specialIn K (.builtin "object.__class__") "__get__" = some (some (.builtin "getset_descriptor.__get__"))) (htk:PySem.W.takesIn K (.builtin "object.__class__") = some true)
   (hm:PySem.W.mroIn K C (.type "object") = some true):Zgm K H (.ref a) (.ref C)
theorem Zc9 {x:V} {u t:Value} (I:Inv X pins σ H s) (rx:RelV x u) (ty:Zgm X.K H x t) (e:PySem.W.kitOne X.K t c = some b) (h:∀ tk,Q (.bool b) { s with toks:=tk }):
  wpAny (model X.prog X.w) A (call (.builtin "isinstance") [u,c]) Q E s:=by
 cases ty with
 | non=>cases (show u = Value.none from rx); exact PySem.W.kia_one PySem.W.kitx_none I.kIn True.intro e (fun z=>nomatch z) h
 | bl y=>cases (show u = Value.bool y from rx); exact PySem.W.kia_one PySem.W.kitx_bool I.kIn True.intro e (fun z=>nomatch z) h
 | int i=>obtain ⟨t,q⟩:=(show ∃ t,u = Value.int i t from rx); cases q; exact PySem.W.kia_one PySem.W.kitx_int I.kIn True.intro e (fun z=>nomatch z) h
 | str y=>obtain ⟨t,q⟩:=(show ∃ t,u = Value.str y t from rx); cases q; exact PySem.W.kia_one PySem.W.kitx_str I.kIn True.intro e (fun z=>nomatch z) h
 | flt y=>obtain ⟨t,q⟩:=(show ∃ t,u = Value.float y t from rx); cases q; exact PySem.W.kia_one PySem.W.kitx_float I.kIn True.intro e (fun z=>nomatch z) h
 | @lst a xs ea=>
  cases (show u = Value.ref a from rx)
  obtain ⟨_,_,n,_,h1⟩:=(show Za7 X.prog X.w H s.heap a (.lst xs) from I.hok a _ ea)
  exact PySem.W.kia_one PySem.W.kitx_list I.kIn ⟨_,h1,rfl⟩ e (fun z=>nomatch z) h
 | @frz a ob xs ea=>
  cases (show u = Value.ref a from rx)
  obtain ⟨_,_,_,n,_,h1⟩:=(show Za7 X.prog X.w H s.heap a (.frz ob (.lst xs)) from I.hok a _ ea)
  exact PySem.W.kia_one PySem.W.kitx_list I.kIn ⟨_,h1,rfl⟩ e (fun z=>nomatch z) h
 | @tup a xs ea=>
  cases (show u = Value.ref a from rx)
  obtain ⟨_,_,_,p⟩:=(show Za7 X.prog X.w H s.heap a (.tup xs) from I.hok a _ ea)
  obtain ⟨o,h1,h2,_⟩:=p
  exact PySem.W.kia_one PySem.W.kitx_tuple I.kIn ⟨o,h1,h2.1⟩ e (fun z=>nomatch z) h
 | @dK a kvs ea=>
  cases (show u = Value.ref a from rx)
  obtain ⟨_,_,vs,_,p⟩:=(show Za7 X.prog X.w H s.heap a (.dK kvs) from I.hok a _ ea)
  obtain ⟨o,es,ep,h1,h2,_⟩:=p
  exact PySem.W.kia_one PySem.W.kitx_dict I.kIn ⟨o,h1,h2.1⟩ e (fun z=>nomatch z) h
 | @dT a kvs ea=>
  cases (show u = Value.ref a from rx)
  obtain ⟨_,_,xs,_,o,es,ep,h1,h2,_⟩:=(show Za7 X.prog X.w H s.heap a (.dT kvs) from I.hok a _ ea)
  exact PySem.W.kia_one PySem.W.kitx_dict I.kIn ⟨o,h1,h2.1⟩ e (fun z=>nomatch z) h
 | @ins a C dx fs ea cl ha hn htk hm=>
  cases (show u = Value.ref a from rx)
  obtain ⟨mA,O,_⟩:=Zgr I.hok ea
  obtain ⟨od,J,_⟩:=O.look
  exact PySem.W.kia_one (PySem.W.kitx_own (cl.get _) cl.hd ha hn htk hm) I.kIn J e (fun z=>nomatch z) h
end
end L2
namespace L2
open PySem PySem.Spec PyProof.Rows
structure Zbr (k:Nat) (A:Around):Prop where
 hd:A.handled = none
 dp:A.depth + 3 * k + 5 < recursionLimit
 un:A.units + 16 * k + 200 < cLine
theorem Zbr.mono {j k:Nat} {A:Around} (r:Zbr k A) (h:j ≤ k):Zbr j A:=⟨r.hd,by have:=r.dp; exact lD 2 0x251b303d0cc11303251b103d0cc11 T1 this h,by have:=r.un; omega⟩
theorem Zbr.deeper {k:Nat} {A:Around} (r:Zbr (k + 1) A) (env:Env):Zbr k (A.deeper env):=
 ⟨r.hd,by have:=r.dp; show A.depth + 1 + 3 * k + 5 < _; exact lC 1 0x251b103da0ccc1251ba1c03d0cc11 T1 this,by have:=r.un; show A.units + 3 + 16 * k + 200 < _; exact lC 1 0x2c82b110d31b0ccc12c82ba1c10d0cc11 T1 this⟩
theorem Zbr.in1 {k:Nat} {A:Around} (r:Zbr (k + 1) A):Zbr k A.in1:=
 ⟨r.hd,by have:=r.dp; show A.depth + 3 * k + 5 < _; exact lC 1 0x251b103d0cc1251ba1c03d0cc11 T1 this,by have:=r.un; show A.units + 1 + 16 * k + 200 < _; exact lC 1 0x2c82b110da0ccc12c82ba1c10d0cc11 T1 this⟩
theorem ZkJ {A:Around} {C:Addr} {us:List Value} {kw:List (Str × Value)}:(A.under (.builtin "type.__call__" ⟨.ref C :: us,kw⟩)).depth = A.depth + 1:=by
 first | rfl | simp [Around.under,Code.weight,Code.isCreation,Code.isGuard,Code.isCaller,Code.frames,Code.isFrame,guardIds]
theorem ZkC {A:Around} {C:Addr} {us:List Value} {kw:List (Str × Value)}:(A.under (.builtin "type.__call__" ⟨.ref C :: us,kw⟩)).units = A.units + 1:=by
 first | rfl | simp [Around.under,Code.cUnits,Code.frames,Code.isFrame]
theorem Zbr.make {k:Nat} {A:Around} (r:Zbr (k + 1) A) (C:Addr) (us:List Value) (kw:List (Str × Value)):Zbr k (A.under (.builtin "type.__call__" ⟨.ref C :: us,kw⟩)):=
 ⟨r.hd,by have:=r.dp; rw [ZkJ]; exact lC 1 0x251b103da0ccc1251ba1c03d0cc11 T1 this,by have:=r.un; rw [ZkC]; exact lC 1 0x2c82b110da0ccc12c82ba1c10d0cc11 T1 this⟩
theorem Zbr.depth {k:Nat} {A:Around} (r:Zbr k A):A.depth < recursionLimit:=by have:=r.dp; exact lC 1 0x201251b103d0cc11 T1 this
theorem Zbr.units {k:Nat} {A:Around} (r:Zbr k A):A.units + 64 < cLine:=by have:=r.un; exact lC 1 0x2402b0c12c82b110d0cc11 T1 this
def Zsu:TA:=fun _ H Q=>Q [] H
def Zss (ta:TE) (tr:TA):TA:=fun σ H Q=>ta σ H fun x H1=>tr σ H1 fun xs H2=>Q (x :: xs) H2
section
variable {X:Cx} {e:Expr} {es:List Expr} {te:TE} {t:TA} {pos:Pos}
theorem Ze4:PA X [] Zsu:=fun _ _ _ _ H Q I h=>Calls.spliced_nil ⟨[],H,I,.nil,h⟩
theorem Zcf (ha:PE X e te) (hr:PA X es t) (hs:starEach (e :: es) X.env = (false,eval e X.env) :: starEach es X.env:=by rfl):PA X (e :: es) (Zss te t):=by
 intro pos pins s σ H Q I h
 rw [hs]
 show wpAny _ _ (spliced ((false,eval e X.env) :: backTo pos (starEach es X.env))) _ _ s
 refine Calls.spliced_cons (thn (ha pins s σ H _ I h) fun u s1 zz1=>?_)
 obtain ⟨x,H1,I1,r1,q1⟩:=zz1
 exact thn (hr pos pins s1 σ H1 _ I1 q1) fun us s2 ⟨xs,H2,I2,r2,q2⟩=>⟨x :: xs,H2,I2,.cons r1 r2,q2⟩
def Zt1 (t:TA):TE:=fun σ H Q=>t σ H fun xs H1=>xs.length ≤ sizeLine ∧ ∀ p,H1 p = none → Q (.ref p) (upd H1 p (.tup xs))
def ZtG (t:TA):TE:=fun σ H Q=>t σ H fun xs H1=>xs.length ≤ sizeLine ∧ ∀ p,H1 p = none → Q (.ref p) (upd H1 p (.lst xs))
theorem Zj2 {x1} (h:PA X es t):PE X (.Tuple es x1 pos) (Zt1 t):=by
 intro pins s σ H Q I hq
 refine wpAny_Tuple_spliced (thn (h pos pins s σ H _ I hq) fun us s1 ⟨xs,H1,I1,r,z,q⟩=>⟨by rw [← r.length]; exact z,?_⟩)
 have hf:H1 s1.heap.objs.size = none:=I1.hok.fresh (Nat.le_refl _)
 refine ⟨.ref s1.heap.objs.size,upd H1 s1.heap.objs.size (.tup xs),I1.laid (t':=s1.toks) (fun b u e=>Heap.get?_push_of_some _ e) (Nat.le_refl _) ?_,rfl,q _ hf⟩
 exact ⟨z,us,r,⟨_,Heap.get?_push_size _ rfl,⟨rfl,rfl⟩,_,rfl⟩⟩
theorem ZrA (h:PA X es t):PE X (.List es pos) (ZtG t):=by
 intro pins s σ H Q I hq
 refine wpAny_List_spliced (thn (h pos pins s σ H _ I hq) fun us s1 ⟨xs,H1,I1,r,z,q⟩=>⟨by rw [← r.length]; exact z,?_⟩)
 have hf:H1 s1.heap.objs.size = none:=I1.hok.fresh (Nat.le_refl _)
 refine ⟨.ref s1.heap.objs.size,upd H1 s1.heap.objs.size (.lst xs),I1.laid (t':=s1.toks) (fun b u e=>Heap.get?_push_of_some _ e) (Nat.le_refl _) ?_,rfl,q _ hf⟩
 exact ⟨z,us,0,r,Heap.get?_push_size _ rfl⟩
end
noncomputable abbrev Sp:=List V → Hp → VK → XK → Prop
noncomputable abbrev CXT:=List Env → Hp → Shared → XK → Value → Shared → Prop
structure Zhp (P:Program) (w:World) (K:PySem.W.Frag) (mg:Str → Option Value) (base:Heap) (A:Around) (outer:List Env) (s:Shared) (H:Hp):Prop where
 frames:A.frames = some outer
 mod:Mod K mg base
 bs:∀ b o,base.get? b = some o → s.heap.get? b = some o ∧ H b = none
 bsz:base.objs.size ≤ s.heap.objs.size
 funs:s.heap.FunFrames base outer
 frf:∀ b ∈ frs outer,H b = none
 hok:HOk P w H s.heap
 bare:AllBare s.gens
def CE (outer:List Env) (P:Program) (w:World) (H:Hp) (s:Shared) (Q:VK) (u:Value) (s':Shared):Prop:=
 ∃ v H',s'.os = s.os ∧ AllBare s'.gens ∧ Un (frs outer) [] H H' s.heap s'.heap ∧ HOk P w H' s'.heap ∧ RelV v u ∧ Q v H'
def CR (CX:CXT) (outer:List Env) (P:Program) (w:World) (H:Hp) (s:Shared) (Q:VK) (E:XK) (r:Result) (s':Shared):Prop:=
 match r with
 | .ok (.ret u)=>CE outer P w H s Q u s'
 | .ok _=>False
 | .error e=>CX outer H s E e s'
structure ZcD (P:Program) (w:World) (K:PySem.W.Frag) (mg:Str → Option Value) (base:Heap) (CX:CXT) (k:Nat) (f:Addr) (fd:FuncData) (ps:List Str) (sp:Sp):Prop where
 len:∀ vs H Q E,sp vs H Q E → vs.length = ps.length
 run:∀ (A:Around) (outer:List Env) (s:Shared) (H:Hp) (args:Args) (us:List Value) (vs:List V) (Q:VK) (E:XK),Zbr k A → Zhp P w K mg base A outer s H → BindsTo s fd args (ps.zip us) → Vals vs us → sp vs H Q E →
  codeAny (model P w) A (.call (.ref f) args) (CR CX outer P w H s Q E) s
theorem ZcD.mono {P:Program} {w:World} {K:PySem.W.Frag} {mg:Str → Option Value} {base:Heap} {CX:CXT} {j k:Nat} {f:Addr} {fd:FuncData} {ps:List Str} {sp:Sp} (F:ZcD P w K mg base CX j f fd ps sp) (h:j ≤ k):
  ZcD P w K mg base CX k f fd ps sp:=⟨F.len,fun A outer s H args us vs Q E hr=>F.run A outer s H args us vs Q E (hr.mono h)⟩
theorem ZcD.imp {P:Program} {w:World} {K:PySem.W.Frag} {mg:Str → Option Value} {base:Heap} {CX:CXT} {k:Nat} {f:Addr} {fd:FuncData} {ps:List Str} {sp sp':Sp} (F:ZcD P w K mg base CX k f fd ps sp)
  (h:∀ vs H Q E,sp' vs H Q E → sp vs H Q E):ZcD P w K mg base CX k f fd ps sp':=
 ⟨fun vs H Q E q=>F.len vs H Q E (h _ _ _ _ q),fun A outer s H args us vs Q E hr he hb hv hs=>F.run A outer s H args us vs Q E hr he hb hv (h _ _ _ _ hs)⟩
theorem Zhp.make {P:Program} {w:World} {K:PySem.W.Frag} {mg:Str → Option Value} {base:Heap} {A:Around} {outer:List Env} {s:Shared} {H:Hp} (e:Zhp P w K mg base A outer s H) (C:Addr) (us:List Value) (kw:List (Str × Value)):
  Zhp P w K mg base (A.under (.builtin "type.__call__" ⟨.ref C :: us,kw⟩)) outer s H:=⟨by first | exact e.frames | (simpa [Around.under,Code.envs,Code.isFrame,pushEnvs] using e.frames),e.mod,e.bs,e.bsz,e.funs,e.frf,e.hok,e.bare⟩
theorem Zhp.in1 {P:Program} {w:World} {K:PySem.W.Frag} {mg:Str → Option Value} {base:Heap} {A:Around} {outer:List Env} {s:Shared} {H:Hp} (e:Zhp P w K mg base A outer s H):
  Zhp P w K mg base A.in1 outer s H:=⟨e.frames,e.mod,e.bs,e.bsz,e.funs,e.frf,e.hok,e.bare⟩
section
variable {X:Cx} {pins:List (Addr × Obj)} {σ:St} {H:Hp} {s s':Shared}
theorem Inv.env0 (I:Inv X pins σ H s):Zhp X.prog X.w X.K X.mg X.base X.A X.stack s H:=
 ⟨I.ok.frames,I.ok.mod,I.bs,Nat.le_trans I.ok.bsz I.sz,I.stack,I.stkFree,I.hok,I.bare⟩
theorem Inv.after {Q:VK} {u:Value} (I:Inv X pins σ H s) (h:CE X.stack X.prog X.w H s Q u s'):EP X pins σ Q u s':=by
 obtain ⟨v,H',os,bare,un,hok,r,q⟩:=h
 obtain ⟨hh,g,d,t,os'⟩:=s'
 obtain rfl:os' = s.os:=os
 exact ⟨v,H',I.call (h':=hh) (g':=g) (d':=d) (t':=t) (ch:=[]) un hok bare (fun b z=>absurd z (by simp)),r,q⟩
end
def Zsm (sp:Sp) (dvs:List V) (E:XK) (t:TA):TE:=fun σ H Q=>t σ H fun vs H1=>sp (vs ++ dvs) H1 Q E
def ZpP (C:Addr) (m:Str) (sp:Sp) (dvs:List V) (E:XK) (ta:TE) (t:TA):TE:=fun σ H Q=>ta σ H fun x H1=>∃ a dx fs,x = .ref a ∧ H1 a = some (.ins C dx fs) ∧ fs.lookup m = none ∧
 t σ H1 fun vs H2=>sp (x :: (vs ++ dvs)) H2 Q E
def ZsZ (C:Addr) (sp:Sp) (dvs:List V) (E:XK) (t:TA):TE:=fun σ H Q=>t σ H fun vs H1=>∀ x dx,H1 x = none → H1 dx = none → dx ≠ x →
 sp (.ref x :: (vs ++ dvs)) (upd (upd H1 dx (.own x)) x (.ins C dx [])) (fun v H2=>v = .non ∧ Q (.ref x) H2) E
def Binds (K:PySem.W.Frag) (fd:FuncData) (ps:List Str) (ds:List Value):Prop:=
 ∀ (s:Shared) (us:List Value),K.In s.heap → (us ++ ds).length = ps.length → BindsTo s fd ⟨us,[]⟩ (ps.zip (us ++ ds))
theorem Binds.all {K:PySem.W.Frag} {fd:FuncData} {ps:List Str} (h:∀ us:List Value,us.length = ps.length → bindArgs fd ⟨us,[]⟩ = pure (ps.zip us)):Binds K fd ps []:=fun s us _ hl=>by
 rw [List.append_nil] at hl ⊢
 exact .of_eq (h us hl)
def Ze6 (CX:CXT) (X:Cx) (E:XK):Prop:=∀ (pins:List (Addr × Obj)) (σ:St) (H:Hp) (s:Shared) (e:Value) (s':Shared),Inv X pins σ H s → CX X.stack H s E e s' → X.xe e s'
section
variable {X:Cx} {CX:CXT} {k:Nat} {f C:Addr} {fd:FuncData} {ps:List Str} {sp:Sp} {dvs:List V} {ds:List Value} {E:XK} {x m:Str} {p pos apos:Pos} {e o:Expr} {es:List Expr} {ta:TE} {t:TA}
theorem ZkM {pins:List (Addr × Obj)} {σ:St} {H:Hp} {s:Shared} {Q:VK} {us:List Value} {vs:List V} (F:ZcD X.prog X.w X.K X.mg X.base CX k f fd ps sp) (hr:Zbr k X.A) (hb:Binds X.K fd ps ds) (hd:Vals dvs ds) (hx:Ze6 CX X E)
  (I:Inv X pins σ H s) (r:Vals vs us) (h:sp (vs ++ dvs) H Q E):wpAny (model X.prog X.w) X.A (call (.ref f) us) (EP X pins σ Q) X.xe s:=by
 have r2:Vals (vs ++ dvs) (us ++ ds):=r.append hd
 have hl:(us ++ ds).length = ps.length:=by rw [← r2.length]; exact F.len _ _ _ _ h
 refine wpAny_call (codeAny_mono (F.run X.A X.stack s H ⟨us,[]⟩ (us ++ ds) (vs ++ dvs) Q E hr I.env0 (hb s us I.kIn hl) r2 h) fun r s' hq=>?_)
 cases r with
 | error e=>exact hx pins σ H s e s' I hq
 | ok fl=>
  cases fl with
  | ret u=>exact I.after hq
  | next=>exact False.elim hq
  | brk=>exact False.elim hq
  | cont=>exact False.elim hq
theorem ZoM (F:ZcD X.prog X.w X.K X.mg X.base CX k f fd ps sp) (hr:Zbr k X.A) (hg:Gl X x) (hm:X.mg x = some (.ref f)) (hk:PySem.W.keepIn X.K (.ref f) = true) (hb:Binds X.K fd ps ds) (hd:Vals dvs ds) (hx:Ze6 CX X E)
  (ha:PA X (e :: es) t) (hdb:(x == ("__debug__":Str)) = false:=by decide) (he:starEach (e :: es) X.env = (false,eval e X.env) :: starEach es X.env:=by rfl) (hpl:(backTo pos (starEach es X.env)).any (·.1) = false:=by rfl):
  PE X (.Call (.Name x p) (e :: es) [] pos) (Zsm sp dvs E t):=by
 intro pins s σ H Q I h
 refine wpAny_Call_Name_kw (ZeK I hg hm ?_ hdb)
 refine PySem.W.callWith_K (h₀:=X.base) I.ok.mod.kin hk (thn (ha pos pins s σ H _ I h) fun us s1 ⟨vs,H1,I1,r,q⟩=>⟨I1.kIn,?_⟩) he hpl
 exact ZkM F hr hb hd hx I1 r q
theorem ZoL {pl:Sem Bool} (he:PE X o ta) (c:Cls X.K C) (hm:Meth X.K C m f) (F:ZcD X.prog X.w X.K X.mg X.base CX k f fd ps sp) (hr:Zbr k X.A) (hb:Binds X.K fd ps ds) (hd:Vals dvs ds) (hx:Ze6 CX X E) (ha:PA X (e :: es) t)
  (hst:starEach (e :: es) X.env = (false,eval e X.env) :: starEach es X.env:=by rfl) (hpl:(backTo pos (starEach es X.env)).any (·.1) = false:=by rfl)
  (ht:eval (.Call (.Attribute o m apos) (e :: es) [] pos) X.env = (do
   let ov ← eval o X.env
   standAt apos.atName
   let (f,first) ← holding [ov] (getMethod ov m pl)
   callWith pos f first (backTo pos (starEach (e :: es) X.env)) (backToKw pos (keywordEach [] X.env))):=by rfl):
  PE X (.Call (.Attribute o m apos) (e :: es) [] pos) (ZpP C m sp dvs E ta t):=by
 intro pins s σ H Q I h
 refine PySem.W.methodCall_KW (pl:=pl) (thn (he pins s σ H _ I h) fun u s1 zz1=>?_) ht
 obtain ⟨x,H1,I1,rx,a,dx,fs,ex,ea,l,q⟩:=zz1
 subst ex
 obtain rfl:u = Value.ref a:=rx
 refine ZgE I1 ea c hm l ?_
 refine PySem.W.callWith_K (first:=[.ref a]) (h₀:=X.base) I.ok.mod.kin hm.kp (thn (ha pos pins s1 σ H1 _ I1 q) fun us s2 ⟨vs,H2,I2,r,q2⟩=>⟨I2.kIn,?_⟩) hst hpl
 exact ZkM (us:=.ref a :: us) (vs:=.ref a :: vs) F hr hb hd hx I2 (.cons rfl r) q2
theorem ZmF {pl:Sem Bool} (he:PE X o ta) (c:Cls X.K C) (hm:Meth X.K C m f) (F:ZcD X.prog X.w X.K X.mg X.base CX k f fd ps sp) (hr:Zbr k X.A) (hb:Binds X.K fd ps ds) (hd:Vals dvs ds) (hx:Ze6 CX X E)
  (ht:eval (.Call (.Attribute o m apos) [] [] pos) X.env = (do
   let ov ← eval o X.env
   standAt apos.atName
   let (f,first) ← holding [ov] (getMethod ov m pl)
   callWith pos f first (backTo pos (starEach [] X.env)) (backToKw pos (keywordEach [] X.env))):=by rfl):
  PE X (.Call (.Attribute o m apos) [] [] pos) (ZpP C m sp dvs E ta Zsu):=by
 intro pins s σ H Q I h
 refine PySem.W.methodCall_KW (pl:=pl) (thn (he pins s σ H _ I h) fun u s1 zz1=>?_) ht
 obtain ⟨x,H1,I1,rx,a,dx,fs,ex,ea,l,q⟩:=zz1
 subst ex
 obtain rfl:u = Value.ref a:=rx
 refine ZgE I1 ea c hm l ?_
 exact PySem.W.callWith_K0 (first:=[.ref a]) I1.kIn hm.kp (ZkM (us:=[.ref a]) (vs:=[.ref a]) F hr hb hd hx I1 (.cons rfl .nil) q)
structure Mk (K:PySem.W.Frag) (C f:Addr):Prop where
 makes:PySem.W.makesIn K C = true
 init:PySem.W.findIn K (.ref C) "__init__" = some (some (.ref f))
 fn:PySem.W.isFn K (.ref f) = true
 kp:PySem.W.keepIn K (.ref C) = true
theorem Zmv {pins:List (Addr × Obj)} {σ:St} {H:Hp} {s:Shared} {Q:VK} {us:List Value} {vs:List V} (M:Mk X.K C f) (F:ZcD X.prog X.w X.K X.mg X.base CX k f fd ps sp) (hr:Zbr (k + 1) X.A) (hb:Binds X.K fd ps ds) (hd:Vals dvs ds)
  (hx:Ze6 CX X E) (I:Inv X pins σ H s) (r:Vals vs us)
  (h:∀ x dx,H x = none → H dx = none → dx ≠ x → sp (.ref x :: (vs ++ dvs)) (upd (upd H dx (.own x)) x (.ins C dx [])) (fun v H2=>v = .non ∧ Q (.ref x) H2) E):
  wpAny (model X.prog X.w) X.A (call (.ref C) us) (EP X pins σ Q) X.xe s:=by
 have hq:=h (s.heap.objs.size + 1) s.heap.objs.size (I.hok.fresh (Nat.le_succ _)) (I.hok.fresh (Nat.le_refl _)) (Nat.ne_of_lt (Nat.lt_succ_self _))
 have I2:=Inv.made (C:=C) I
 have r2:Vals (V.ref (s.heap.objs.size + 1) :: (vs ++ dvs)) (Value.ref (s.heap.objs.size + 1) :: (us ++ ds)):=.cons rfl (r.append hd)
 have hl:(Value.ref (s.heap.objs.size + 1) :: us ++ ds).length = ps.length:=by
  have e:=r2.length
  rw [F.len _ _ _ _ hq] at e
  exact e.symm
 refine wpAny_call (Zn6 (f:=f) I.kIn M.makes M.init (beq_iff_eq.mp M.fn) (codeAny_mono (F.run _ X.stack _ _ ⟨Value.ref (s.heap.objs.size + 1) :: us,[]⟩ (Value.ref (s.heap.objs.size + 1) :: (us ++ ds)) _ _ E (hr.make C us [])
  (I2.env0.make C us []) (hb _ (Value.ref (s.heap.objs.size + 1) :: us) I2.kIn hl) r2 hq) fun r s' hq'=>?_))
 cases r with
 | error e=>exact hx pins σ _ _ e s' I2 hq'
 | ok fl=>
  cases fl with
  | ret u=>
   obtain ⟨v,H',I3,rv,ev,q3⟩:=I2.after hq'
   subst ev
   exact ⟨rv,⟨V.ref (s.heap.objs.size + 1),H',I3,rfl,q3⟩⟩
  | next=>exact False.elim hq'
  | brk=>exact False.elim hq'
  | cont=>exact False.elim hq'
theorem Zo2 (M:Mk X.K C f) (F:ZcD X.prog X.w X.K X.mg X.base CX k f fd ps sp) (hr:Zbr (k + 1) X.A) (hg:Gl X x) (hm:X.mg x = some (.ref C)) (hb:Binds X.K fd ps ds) (hd:Vals dvs ds) (hx:Ze6 CX X E)
  (ha:PA X (e :: es) t) (hdb:(x == ("__debug__":Str)) = false:=by decide) (he:starEach (e :: es) X.env = (false,eval e X.env) :: starEach es X.env:=by rfl) (hpl:(backTo pos (starEach es X.env)).any (·.1) = false:=by rfl):
  PE X (.Call (.Name x p) (e :: es) [] pos) (ZsZ C sp dvs E t):=by
 intro pins s σ H Q I h
 refine wpAny_Call_Name_kw (ZeK I hg hm ?_ hdb)
 refine PySem.W.callWith_K (h₀:=X.base) I.ok.mod.kin M.kp (thn (ha pos pins s σ H _ I h) fun us s1 ⟨vs,H1,I1,r,q⟩=>⟨I1.kIn,?_⟩) he hpl
 exact Zmv M F hr hb hd hx I1 r q
end
section
variable {X:Cx} {CX:CXT} {k:Nat} {f C:Addr} {fd:FuncData} {ps ks:List Str} {sp:Sp} {E:XK} {x m:Str} {p pos apos kpos:Pos} {e o:Expr} {es:List Expr} {kws:List Keyword} {te ta:TE} {t tk:TA} {nm:Option Str}
variable {g:List Value → List Value → List Value} {gV:List V → List V → List V}
end
structure Zar (N P:List Str) (sc:Scope):Prop where
 kind:sc.kind = .function
 co:sc.isCoroutine = false
 gen:sc.isGenerator = false
 nd:N.Nodup
 pre:N.take P.length = P
 par:∀ x ∈ P,sc.names.lookup x = some .local ∨ sc.names.lookup x = some .cell
 nofree:∀ y ∈ sc.names,y.2 ≠ .free
theorem ZhX {kindOf:Str → Option NameKind} {x:Str}:∀ {binds:List (Str × Value)} {m:Str → Option Value},(∀ v,(x,v) ∉ binds) → bindL kindOf binds m x = m x
 | [],_,_=>rfl
 | (n,v) :: r,m,h=>by
  unfold bindL
  rw [ZhX fun w hw=>h w (List.mem_cons_of_mem _ hw)]
  split
  ·have:x ≠ n:=by rintro rfl; exact h v List.mem_cons_self
   simp [this]
  ·rfl
theorem Zib {kindOf:Str → Option NameKind} {x:Str}:∀ {binds:List (Str × Value)} {m:Str → Option Value},(∀ v,(x,v) ∉ binds) → bindC kindOf binds m x = m x
 | [],_,_=>rfl
 | (n,v) :: r,m,h=>by
  unfold bindC
  rw [Zib fun w hw=>h w (List.mem_cons_of_mem _ hw)]
  split
  ·rfl
  ·have:x ≠ n:=by rintro rfl; exact h v List.mem_cons_self
   simp [this]
theorem ZhN {kindOf:Str → Option NameKind} {x:Str} {v:Value}:∀ {P:List Str} {vs:List Value} {i:Nat} {m:Str → Option Value},P.Nodup → P[i]? = some x → vs[i]? = some v → kindOf x = some .local →
  bindL kindOf (P.zip vs) m x = some v
 | [],_,_,_,_,h,_,_=>by simp at h
 | _ :: _,[],_,_,_,_,h,_=>by simp at h
 | p :: P,w :: vs,0,m,nd,h1,h2,hk=>by
  simp at h1 h2; subst h1; subst h2
  show bindL kindOf ((p,w) :: P.zip vs) m p = _
  unfold bindL
  rw [ZhX fun v hv=>(List.nodup_cons.mp nd).1 (List.of_mem_zip hv).1,if_pos hk]
  simp
 | p :: P,w :: vs,i + 1,m,nd,h1,h2,hk=>by
  show bindL kindOf ((p,w) :: P.zip vs) m x = _
  unfold bindL
  exact ZhN (i:=i) (List.nodup_cons.mp nd).2 (by simpa using h1) (by simpa using h2) hk
theorem Zh9 {kindOf:Str → Option NameKind} {x:Str} {v:Value}:∀ {P:List Str} {vs:List Value} {i:Nat} {m:Str → Option Value},P.Nodup → P[i]? = some x → vs[i]? = some v → kindOf x ≠ some .local →
  bindC kindOf (P.zip vs) m x = some v
 | [],_,_,_,_,h,_,_=>by simp at h
 | _ :: _,[],_,_,_,_,h,_=>by simp at h
 | p :: P,w :: vs,0,m,nd,h1,h2,hk=>by
  simp at h1 h2; subst h1; subst h2
  show bindC kindOf ((p,w) :: P.zip vs) m p = _
  unfold bindC
  rw [Zib fun v hv=>(List.nodup_cons.mp nd).1 (List.of_mem_zip hv).1,if_neg hk]
  simp
 | p :: P,w :: vs,i + 1,m,nd,h1,h2,hk=>by
  show bindC kindOf ((p,w) :: P.zip vs) m x = _
  unfold bindC
  exact Zh9 (i:=i) (List.nodup_cons.mp nd).2 (by simpa using h1) (by simpa using h2) hk
noncomputable def start (N:List Str) (vs:List V):St:=vs.map some ++ List.replicate (N.length - vs.length) none
noncomputable def ZfS (CX:CXT) (P:Program) (w:World) (K:PySem.W.Frag) (mg:Str → Option Value) (base:Heap) (N:List Str) (qual:Str) (scope:Scope) (f:Addr) (cd:Value) (A:Around) (outer:List Env) (s:Shared) (H:Hp) (E:XK):Cx where
 prog:=P
 w:=w
 K:=K
 mg:=mg
 base:=base
 A:=A.deeper (envOfC qual scope s.heap.objs.size f cd)
 N:=N
 s₀:=s
 H₀:=H
 env:=envOfC qual scope s.heap.objs.size f cd
 outer:=outer
 stack:=envOfC qual scope s.heap.objs.size f cd :: outer
 ex:=[]
 calm:=true
 fn:=fun _=>true
 pn:=[]
 xe:=fun e s'=>wpAny (model P w) (A.deeper (envOfC qual scope s.heap.objs.size f cd)) (leaving (envOfC qual scope s.heap.objs.size f cd) e) (fun _ s''=>CX outer H s E e s'') (fun e' s''=>CX outer H s E e' s'') s'
theorem Zjl {sc:Scope} {n:Nat} {x:Str} (h:sc.names.lookup x = some .cell):∃ c,(cellsFrom n sc.names []).lookup x = some c:=by
 have q:=PySem.W.cellsFrom_some sc.names n [] (.inl h)
 exact Option.isSome_iff_exists.mp q
theorem ZlZ {CX:CXT} {P:Program} {w:World} {K:PySem.W.Frag} {mg:Str → Option Value} {base:Heap} {N ps:List Str} {qual:Str} {scope:Scope} {f:Addr} {cd:Value} {A:Around} {outer:List Env} {s s1:Shared} {H:Hp} {E:XK} {us:List Value} {vs:List V}
  (S:Zar N ps scope) (hd:A.handled = none) (e0:Zhp P w K mg base A outer s H) (hl:vs.length = ps.length) (r:Vals vs us)
  (x:InCallC s s.heap.objs.size (bindL (envOfC qual scope s.heap.objs.size f cd).kindOf (ps.zip us) fun _=>none) (cellsFrom (s.heap.objs.size + 1) scope.names []) (bindC (envOfC qual scope s.heap.objs.size f cd).kindOf (ps.zip us) fun _=>none) s1):
  Inv (ZfS CX P w K mg base N qual scope f cd A outer s H E) [] (start N vs) H s1:=by
 have hpl:ps.length ≤ N.length:=by have:=congrArg List.length S.pre; rw [List.length_take] at this; omega
 obtain ⟨h1,tk,rfl,hk⟩:=x.done
 have noA:∀ b:Addr,b ∉ (ZfS CX P w K mg base N qual scope f cd A outer s H E).ex:=fun b z=>absurd (show b ∈ ([]:List Addr) from z) (by simp)
 refine ⟨⟨e0.mod,S.kind,rfl,rfl,Nat.le_refl _,fun y z c h1 h2=>?_,fun y hy=>?_,fun y c _ h=>?_,fun _=>hd,Around.frames_deeper e0.frames,.inr ⟨rfl,rfl⟩,fun b z=>absurd z (noA b),e0.bs,e0.bsz,fun b _ _=>noA b,fun b z=>absurd z (noA b),e0.funs,e0.frf⟩,
  rfl,e0.bare,Un.kept hk,⟨_,x.toInCall.ns,fun i y v h1 h2 h3=>?_⟩,fun y c h=>⟨_,x.cell y c h⟩,e0.hok.fresh (Nat.le_refl _),fun y c h=>?_,fun p hp=>absurd (show p ∈ ([]:List (Addr × Obj)) from hp) (by simp),e0.hok.kept hk,?_⟩
 ·exact name_of_addr x.apart (PySem.mem_of_lookup h1) (PySem.mem_of_lookup h2)
 ·have hy:scope.names.lookup y = some .cell ∨ scope.names.lookup y = some .free:=hy
  rcases hy with hy | hy
  ·exact Zjl hy
  ·exact absurd rfl (S.nofree _ (PySem.mem_of_lookup hy))
 ·exact Nat.le_of_lt (x.above y c (PySem.mem_of_lookup h))
 ·have hi:i < vs.length:=by
   unfold start at h2
   by_cases hi:i < vs.length
   ·exact hi
   ·rw [List.getElem?_append_right (by simpa using hi)] at h2
    rw [List.getElem?_replicate] at h2
    split at h2 <;> cases h2
  have ha:vs[i]? = some v:=by
   unfold start at h2
   rw [List.getElem?_append_left (by simpa using hi),List.getElem?_map] at h2
   cases e:vs[i]? with
   | none=>rw [e] at h2; cases h2
   | some a=>rw [e] at h2; cases h2; rfl
  obtain ⟨u,hu,rv⟩:=r.get ha
  have hp:ps[i]? = some y:=by
   rw [← S.pre,List.getElem?_take_of_lt (by exact lC 2 2203874037777 T1 hi hl)]; exact h1
  have ndP:ps.Nodup:=by rw [← S.pre]; exact S.nd.sublist (List.take_sublist _ _)
  refine ⟨u,rv,?_⟩
  rcases S.par y (List.mem_of_getElem? hp) with k | k
  ·exact .inl ⟨k,ZhN ndP hp hu k⟩
  ·obtain ⟨c,e⟩:=Zjl (n:=s.heap.objs.size + 1) k
   refine .inr ⟨.inl k,c,e,?_⟩
   have q:=x.cell y c e
   rw [Zh9 ndP hp hu (by show scope.names.lookup y ≠ _; rw [k]; decide)] at q
   exact q
 ·exact e0.hok.fresh (Nat.le_of_lt (x.above y c (PySem.mem_of_lookup h)))
 ·unfold start
  show _ = N.length
  rw [List.length_append,List.length_map,List.length_replicate]
  exact Nat.le_antisymm (lC 1 2206541614113 T1 (Nat.sub_add_cancel (lC 2 1236986302465 T1 hpl hl))) (lC 1 1288492400641 T1 (sbA _ _))
theorem ZpF {CX:CXT} {P:Program} {w:World} {K:PySem.W.Frag} {mg:Str → Option Value} {base:Heap} {k:Nat} {f:Addr} {name qual:Str} {params:Arguments} {body:List Stmt} {scope:Scope} {dV kV doc pm cdv ct oc:Value} {an od:Option Addr}
  {osl:Array (Option Value)} {N ps:List Str} {sp:Sp} (lk:K.lookup f = some ⟨oc,od,.func (PySem.W.fnOf name qual params body scope dV kV doc pm an cdv ct),osl⟩) (hcd:PySem.W.codeIn K cdv qual = true) (S:Zar N ps scope)
  (len:∀ vs H Q E,sp vs H Q E → vs.length = ps.length)
  (hbody:∀ (A:Around) (outer:List Env) (s:Shared) (H:Hp) (vs:List V) (Q:VK) (E:XK),Zbr k (A.deeper (envOfC qual scope s.heap.objs.size f cdv)) → sp vs H Q E →
   ∃ t,PSs (ZfS CX P w K mg base N qual scope f cdv A outer s H E) body t ∧ t { nx:=fun _ H'=>Q .non H',rt:=Q } (start N vs) H):
  ZcD P w K mg base CX (k + 1) f (PySem.W.fnOf name qual params body scope dV kV doc pm an cdv ct) ps sp:=by
 refine ⟨len,fun A outer s H args us vs Q E hr e0 hb r hsp=>?_⟩
 have hl:=len _ _ _ _ hsp
 have KX:K.In s.heap:=e0.mod.kin.keeps fun b o e=>(e0.bs b o e).1
 have lim:s.heap.NoLimit:=e0.mod.nolimit.keeps fun b o e=>(e0.bs b o e).1
 have hkind:∀ y ∈ ps.zip us,scope.names.lookup y.1 = some .local ∨ (scope.names.lookup y.1 = some .cell ∧ ((cellsFrom (s.heap.objs.size + 1) scope.names []).lookup y.1).isSome = true):=fun ⟨n,v⟩ hy=>by
  rcases S.par n (List.of_mem_zip hy).1 with q | q
  ·exact .inl q
  ·exact .inr ⟨q,PySem.W.cellsFrom_some _ _ _ (.inl q)⟩
 refine codeAny_call_function hr.depth (KX _ _ lk) rfl S.co S.gen rfl (PySem.W.codeRec_of KX hcd) (hb _ _ _ _ ?_)
 refine wpAny_newFunctionEnv_cells S.kind hkind fun env he s1 x=>?_
 subst he
 refine ⟨lim.keeps x.toInCall.keep,codeAny_func ?_⟩
 obtain ⟨t,ht,hq⟩:=hbody A outer s H vs Q E (hr.deeper _) hsp
 have I:Inv (ZfS CX P w K mg base N qual scope f cdv A outer s H E) [] (start N vs) H s1:=ZlZ S hr.hd e0 hl r x
 refine wpAny_mono (ht [] s1 (start N vs) H _ I hq) (fun fl s' hs=>?_) fun e s' hs=>hs
 have fin:∀ {σ':St} {H':Hp} {v:V} {u:Value},Inv (ZfS CX P w K mg base N qual scope f cdv A outer s H E) [] σ' H' s' → RelV v u → Q v H' → CE outer P w H s Q u s':=
  fun {σ' H' v u} J rv q=>⟨v,H',J.os,J.bare,J.base,J.hok,rv,q⟩
 cases fl with
 | ret u=>
  obtain ⟨v,σ',H',J,rv,q⟩:=hs
  exact fin J rv q
 | next=>
  obtain ⟨σ',H',J,q⟩:=hs
  exact fin (v:=V.non) (u:=Value.none) J rfl q
 | brk=>
  obtain ⟨_,_,_,q⟩:=hs
  exact False.elim q
 | cont=>
  obtain ⟨_,_,_,q⟩:=hs
  exact False.elim q
end L2
namespace L2
open PySem PySem.Spec PyProof.Rows
section
variable {X:Cx} {x:Str} {p pos:Pos} {e:Expr} {es:List Expr} {t:TA} {id T:String} {r:List V → Hp → VK → Prop}
def tCB (r:List V → Hp → VK → Prop) (t:TA):TE:=fun σ H Q=>t σ H fun vs H1=>r vs H1 Q
theorem Zey (hc:Zb2 X (.builtin id) r) (hg:Gl X x) (hm:X.mg x = none) (hv:bootBuiltins x = some (.builtin id)) (ha:PA X (e :: es) t) (hn:x ≠ "__name__":=by decide) (hdb:(x == ("__debug__":Str)) = false:=by decide)
  (he:starEach (e :: es) X.env = (false,eval e X.env) :: starEach es X.env:=by rfl) (hpl:(backTo pos (starEach es X.env)).any (·.1) = false:=by rfl):PE X (.Call (.Name x p) (e :: es) [] pos) (tCB r t):=by
 intro pins s σ H Q I h
 refine wpAny_Call_Name_kw (Zg5 I hg hm hv ?_ hn hdb)
 exact PyProof.Rows.callWith_builtin1 (thn (ha pos pins s σ H _ I h) fun us s1 ⟨vs,H1,I1,r1,q1⟩=>hc pins s1 σ H1 vs us Q I1 r1 q1) he hpl
theorem Zmc (hc:Zb2 X (.type T) r) (hg:Gl X x) (hm:X.mg x = none) (hv:bootBuiltins x = some (.type T)) (ha:PA X (e :: es) t) (hn:x ≠ "__name__":=by decide) (hdb:(x == ("__debug__":Str)) = false:=by decide)
  (he:starEach (e :: es) X.env = (false,eval e X.env) :: starEach es X.env:=by rfl) (hpl:(backTo pos (starEach es X.env)).any (·.1) = false:=by rfl):PE X (.Call (.Name x p) (e :: es) [] pos) (tCB r t):=by
 intro pins s σ H Q I h
 refine wpAny_Call_Name_kw (Zg5 I hg hm hv ?_ hn hdb)
 exact PyProof.Rows.callWith_type1 (thn (ha pos pins s σ H _ I h) fun us s1 ⟨vs,H1,I1,r1,q1⟩=>hc pins s1 σ H1 vs us Q I1 r1 q1) he hpl
end
end L2
namespace HT
open PySem PyProof.Rows
section
open PySem.SeqAt
open PySem.AutoSeq1 (wpAny_loadPart')
open PySem.MeetsSeq PySem.MeetsSeq2 PySem.MeetsSeq3
end
section
variable {prog:Program} {w:World} {A:Around} {E:Value → Shared → Prop} {s:Shared}
theorem cat_tup {t b:Addr} {vs ws:List Value} {Q:Value → Shared → Prop} (ht:IsTup s.heap t vs.toArray) (hb:IsTup s.heap b ws.toArray) (hv:vs ≠ [])
  (h1:ws = [] → Q (.ref t) s) (h2:ws ≠ [] → Q (.ref s.heap.objs.size) { s with heap:=s.heap.push { cls:=.type "tuple",data:=.seq (vs ++ ws).toArray } })
  (hsz:vs.length + ws.length ≤ sizeLine):wpAny (model prog w) A (binaryOp .Add (.ref t) (.ref b)) Q E s:=by
 obtain ⟨⟨cls,dd,data,sl⟩,ho,hc,n,hd⟩:=id ht
 obtain ⟨⟨cls2,dd2,data2,sl2⟩,ho2,hc2,n2,hd2⟩:=id hb
 simp only at hc hd hc2 hd2
 subst hc hd hc2 hd2
 have e:vs.toArray ++ ws.toArray = (vs ++ ws).toArray:=by simp
 by_cases hw:ws = []
 ·exact concat_meets ⟨_,ho,rfl⟩ ⟨_,ho2,rfl⟩ noFill_tuple_add seq_tuple_add PySem.F.slot_tuple_add PySem.F.entry_tuple_add (PySem.F.args_tuple_add_2 _ _)
   (tuple_addW1 t b vs.toArray ws.toArray n n2 dd dd2 sl sl2 (by simpa using hv) (by simp [hw])) ⟨ho,ho2,h1 hw⟩
 ·refine concat_meets ⟨_,ho,rfl⟩ ⟨_,ho2,rfl⟩ noFill_tuple_add seq_tuple_add PySem.F.slot_tuple_add PySem.F.entry_tuple_add (PySem.F.args_tuple_add_2 _ _)
   (tuple_addW2 t b vs.toArray ws.toArray n n2 dd dd2 sl sl2 (by simpa using hv) (by simpa using hw) (by rw [List.size_toArray,List.size_toArray]; exact hsz)) ⟨ho,ho2,?_⟩
  rw [e]
  exact h2 hw
noncomputable def sIx (n d:Nat):Option Int → Nat
 | none=>d
 | some v=>if v < 0 then (v + (n:Int)).toNat else min v.toNat n
theorem ZgK (n d:Nat):sIx n d none = d:=rfl
theorem ZiA (n d k:Nat):sIx n d (some (k:Int)) = min k n:=by
 show (if (k:Int) < 0 then ((k:Int) + (n:Int)).toNat else min (k:Int).toNat n) = min k n
 rw [if_neg (Int.not_lt.2 (Int.natCast_nonneg _)),Int.toNat_natCast]
theorem Ziz (n d:Nat) (hd:d ≤ n) (o:Option Int):sIx n d o ≤ n:=by
 cases o with
 | none=>exact hd
 | some v=>
  show (if v < 0 then (v + (n:Int)).toNat else min v.toNat n) ≤ n
  by_cases hv:v < 0
  ·rw [if_pos hv]; omega
  ·rw [if_neg hv]; exact Nat.min_le_right _ _
theorem ZkZ (v:Int) (n d:Nat):(if v < 0 then max (v + (n:Int)) 0 else min v (n:Int)) = ((sIx n d (some v):Nat):Int):=by
 show (if v < 0 then max (v + (n:Int)) 0 else min v (n:Int)) = (((if v < 0 then (v + (n:Int)).toNat else min v.toNat n):Nat):Int)
 by_cases hv:v < 0
 ·simp only [if_pos hv]; exact clA _
 ·simp only [if_neg hv]; exact clB _ _ hv
theorem Zkc (lo hi:Option Int) (n:Nat):Builtin.Slice.sliceAdjust lo hi 1 (n:Int) = (((sIx n 0 lo:Nat):Int),((sIx n n hi:Nat):Int)):=by
 have h1:¬ ((1:Int) < 0):=by decide
 unfold Builtin.Slice.sliceAdjust
 simp only [h1,if_false]
 refine Prod.ext ?_ ?_
 ·cases lo with
  | none=>rfl
  | some v=>exact ZkZ v n 0
 ·cases hi with
  | none=>rfl
  | some v=>exact ZkZ v n n
theorem Zku (i j:Nat):Builtin.Slice.slicePlaces (i:Int) (j:Int) 1 = j - i:=by
 unfold Builtin.Slice.slicePlaces
 have h1:(1:Int) > 0:=by decide
 simp only [h1,if_true,Int.ediv_one]
 split <;> omega
theorem Zg6 {v:Value} {o:Option Int} {Q:Option Int → Shared → Prop} (p:IsPart v o) (h:Q o s):wpAny (model prog w) A (Builtin.Slice.slicePartIndex v) Q E s:=by
 cases p with
 | none=>exact slicePart_none h
 | int i t=>exact slicePart_int h
theorem sliceApplied_gen {sl:Addr} {vl vu:Value} {lo hi:Option Int} {n:Nat} {Q:Int × Int × Nat → Shared → Prop} (hs:s.heap.IsSliceOf sl vl vu .none) (pl:IsPart vl lo) (pu:IsPart vu hi)
  (h:Q (((sIx n 0 lo:Nat):Int),1,sIx n n hi - sIx n 0 lo) s):wpAny (model prog w) A (Builtin.Slice.sliceApplied (.ref sl) (pure (n:Int))) Q E s:=by
 obtain ⟨os,hos,hcs,hds⟩:=id hs
 unfold Builtin.Slice.sliceApplied Builtin.Slice.sliceFields
 refine wpAny_bind (wpAny_bind (wpAny_field hos hds (x:=vl) rfl (wpAny_bind (wpAny_field hos hds (x:=vu) rfl (wpAny_bind (wpAny_field hos hds (x:=.none) rfl (wpAny_pure ?_)))))))
 refine wpAny_bind (slicePart_none ?_)
 show wpAny _ _ (if ((1:Int) == 0) = true then _ else _) _ _ s
 rw [if_neg (by decide)]
 refine wpAny_bind (Zg6 pl (wpAny_bind (Zg6 pu (wpAny_bind (wpAny_pure ?_)))))
 show wpAny _ _ (match Builtin.Slice.sliceAdjust lo hi 1 (n:Int) with | (lo,hi)=>pure (lo,(1:Int),Builtin.Slice.slicePlaces lo hi 1)) _ _ s
 rw [Zkc lo hi n]
 show wpAny _ _ (pure (((sIx n 0 lo:Nat):Int),(1:Int),Builtin.Slice.slicePlaces ((sIx n 0 lo:Nat):Int) ((sIx n n hi:Nat):Int) 1)) _ _ s
 rw [Zku]
 exact wpAny_pure h
theorem Znt (xs:Array Value) (i k:Nat):((List.range k).filterMap fun (m:Nat)=>xs[((i:Int) + (m:Int) * 1).toNat]?).toArray = ((xs.toList.drop i).take k).toArray:=by
 have e:(fun (m:Nat)=>xs[((i:Int) + (m:Int) * 1).toNat]?) = fun m=>xs[i + m]?:=by
  funext m
  have:((i:Int) + (m:Int) * 1).toNat = i + m:=by omega
  rw [this]
 rw [e]
 have:=pick_run xs i k
 rw [List.filterMap_map] at this
 have e2:((fun x=>xs[x]?) ∘ fun x=>i + x) = fun m=>xs[i + m]?:=rfl
 rw [e2] at this
 rw [this]
theorem getItem_tuple_cut {t sl:Addr} {items:Array Value} {vl vu:Value} {lo hi:Option Int} {Q:Value → Shared → Prop} (ht:IsTup s.heap t items) (hs:s.heap.IsSliceOf sl vl vu .none) (pl:IsPart vl lo) (pu:IsPart vu hi)
  (hw:¬ (sIx items.size 0 lo = 0 ∧ sIx items.size items.size hi = items.size))
  (h:Q (.ref s.heap.objs.size) { s with heap:=s.heap.push { cls:=.type "tuple",data:=.seq ((items.toList.drop (sIx items.size 0 lo)).take (sIx items.size items.size hi - sIx items.size 0 lo)).toArray } })
  (hsz:items.size ≤ sizeLine):wpAny (model prog w) A (getItem (.ref t) (.ref sl)) Q E s:=by
 have htake:sizeOk (.seq ((items.toList.drop (sIx items.size 0 lo)).take (sIx items.size items.size hi - sIx items.size 0 lo)).toArray):=by
  show ((items.toList.drop (sIx items.size 0 lo)).take (sIx items.size items.size hi - sIx items.size 0 lo)).toArray.size ≤ sizeLine
  rw [List.size_toArray,List.length_take,List.length_drop,Array.length_toList]
  exact lD 3 85606880155602945 T1 hsz (Nat.sub_le _ _) (Nat.min_le_right _ _)
 have hj:sIx items.size items.size hi ≤ items.size:=Ziz _ _ (Nat.le_refl _) hi
 obtain ⟨os,hos,hcs,hds⟩:=id hs
 have hTs:s.TypeIs (.ref sl) "slice":=⟨os,hos,hcs⟩
 unfold getItem
 try with_reducible refine wpAny_holding ?_
 first | refine wpAny_bind (wpAny_pure ?_) | skip
 refine wpAny_bind (wpAny_sequenceKey ht.typeIs (by decide) ?_)
 refine wpAny_bind (wpAny_callSpecial?_slot (name:=Str.ofString "__getitem__") ht.typeIs PyProof.Rows.slot_tuple_getitem
  (wpAny_call_entry PyProof.Rows.slot_tuple_getitem ht.typeIs entry_tuple_getitem ?_ (args_tuple_getitem _ _)))
 show wpAny _ _ (Builtin.Tuple.tupleItemsOf (.ref t) >>= _) _ _ s
 refine wpAny_bind (tupleItemsOf_ ht ?_)
 refine wpAny_bind (wpAny_typeOf hTs ?_)
 rw [if_pos (by decide)]
 refine wpAny_bind (sliceApplied_gen hs pl pu ?_)
 have hno:¬ ((((sIx items.size 0 lo:Nat):Int) == 0 && (1:Int) == 1 && (sIx items.size items.size hi - sIx items.size 0 lo) == items.size) = true):=by
  intro q
  rw [Bool.and_eq_true,Bool.and_eq_true] at q
  have q1:((sIx items.size 0 lo:Nat):Int) = 0:=eq_of_beq q.1.1
  have q2:sIx items.size items.size hi - sIx items.size 0 lo = items.size:=eq_of_beq q.2
  exact hw ⟨by exact Nat.le_antisymm (iN [_] [] 1 3759016097 T1 q1) (Nat.zero_le _),by exact Nat.le_antisymm hj (lC 2 2268279672881 T1 q2 (Nat.sub_le _ _))⟩
 show wpAny _ _ (if (((sIx items.size 0 lo:Nat):Int) == 0 && (1:Int) == 1 && (sIx items.size items.size hi - sIx items.size 0 lo) == items.size) = true then _ else _) _ _ s
 rw [if_neg hno,Znt]
 first
  | exact wpAny_bind (m:=Builtin.Tuple.tupleExact _) (wpAny_newObj_type (wpAny_pure ⟨_,rfl,wpAny_pure h⟩) htake)
  | exact wpAny_bind (m:=Builtin.Tuple.tupleExact _) (wpAny_newObj_type (wpAny_bind (wpAny_pure (wpAny_pure ⟨_,rfl,wpAny_pure h⟩))) htake)
  | exact wpAny_bind (wpAny_bind (m:=Builtin.Tuple.tupleExact _) (wpAny_newObj_type (wpAny_pure (wpAny_pure ⟨_,rfl,wpAny_pure h⟩)) htake))
  | exact wpAny_bind (wpAny_bind (m:=Builtin.Tuple.tupleExact _) (wpAny_newObj_type (wpAny_pure ⟨_,rfl,wpAny_pure h⟩) htake))
end
end HT
namespace L2
open PySem PySem.Spec PyProof.Rows
noncomputable abbrev TO:=St → Hp → (Option Int → Hp → Prop) → Prop
def PO (X:Cx) (e:Option Expr) (t:TO):Prop:=
 ∀ (pins:List (Addr × Obj)) (s:Shared) (σ:St) (H:Hp) (Q:Option Int → Hp → Prop),Inv X pins σ H s → t σ H Q →
  wpAny (model X.prog X.w) X.A (evalPart e X.env) (fun u s'=>∃ o H',Inv X pins σ H' s' ∧ IsPart u o ∧ Q o H') X.xe s
def Zpr:TO:=fun _ H Q=>Q none H
def Zso (t:TE):TO:=fun σ H Q=>t σ H fun x H1=>∃ i,x = .int i ∧ Q (some i) H1
section
variable {X:Cx} {e:Expr} {te:TE} {lo hi:Option Expr} {tl th:TO} {pos p2:Pos}
theorem ZoU:PO X none Zpr:=by
 intro pins s σ H Q I h
 rw [evalPart_none]
 exact wpAny_pure ⟨none,H,I,.none,h⟩
theorem Zo9 (h:PE X e te):PO X (some e) (Zso te):=by
 intro pins s σ H Q I hw
 rw [evalPart_some]
 refine thn (h pins s σ H _ I hw) fun u s1 zz1=>?_
 obtain ⟨x,H1,I1,r1,q1⟩:=zz1
 obtain ⟨i,rfl,q⟩:=q1
 obtain ⟨t,rfl⟩:=r1
 exact ⟨some i,H1,I1,.int i t,q⟩
def SlR (X:Cx) (r:V → Option Int → Option Int → Hp → VK → Prop):Prop:=
 ∀ (pins:List (Addr × Obj)) (s:Shared) (σ:St) (H:Hp) (x:V) (v vl vu:Value) (lo hi:Option Int) (sl:Addr) (Q:VK),Inv X pins σ H s → RelV x v → s.heap.IsSliceOf sl vl vu .none → IsPart vl lo → IsPart vu hi → r x lo hi H Q →
  ∃ T id,typeLookup (.type T) "__getitem__" = pure (some (.builtin id)) ∧ s.TypeIs v T ∧ wpAny (model X.prog X.w) X.A (getItem v (.ref sl)) (EP X pins σ Q) X.xe s
theorem SlR.or {r r':V → Option Int → Option Int → Hp → VK → Prop} (h:SlR X r) (h':SlR X r'):SlR X (fun x lo hi H Q=>r x lo hi H Q ∨ r' x lo hi H Q):=by
 intro pins s σ H x v vl vu lo hi sl Q I rx hs pl pu q
 rcases q with q | q
 ·exact h pins s σ H x v vl vu lo hi sl Q I rx hs pl pu q
 ·exact h' pins s σ H x v vl vu lo hi sl Q I rx hs pl pu q
def tSl (r:V → Option Int → Option Int → Hp → VK → Prop) (te:TE) (tl th:TO):TE:=fun σ H Q=>te σ H fun x H1=>tl σ H1 fun l H2=>th σ H2 fun u H3=>r x l u H3 Q
theorem Zne {r:V → Option Int → Option Int → Hp → VK → Prop} (hr:SlR X r) (he:PE X e te) (hl:PO X lo tl) (hu:PO X hi th):PE X (.Subscript e (.Slice lo hi none p2) pos) (tSl r te tl th):=by
 intro pins s σ H Q I h
 refine Subscript_ (thn (he pins s σ H _ I h) fun v s1 zz1=>?_)
 obtain ⟨x,H1,I1,r1,q1⟩:=zz1
 refine wpAny_Slice (thn (hl pins s1 σ H1 _ I1 q1) fun vl s2 ⟨l,H2,I2,pl,q2⟩=>thn (hu pins s2 σ H2 _ I2 q2) fun vu s3 zz1=>?_)
 obtain ⟨u,H3,I3,pu,q3⟩:=zz1
 rw [evalPart_none]
 refine wpAny_pure ?_
 have I4:Inv X pins σ H3 { s3 with heap:=s3.heap.push { cls:=.type "slice",data:=.fields #[vl,vu,.none] } }:=I3.kept (t':=s3.toks) fun b ob q=>Heap.get?_push_of_some _ q
 obtain ⟨T,id,hT,ht,hg⟩:=hr pins { s3 with heap:=s3.heap.push { cls:=.type "slice",data:=.fields #[vl,vu,.none] } } σ H3 x v vl vu l u s3.heap.objs.size Q I4 r1 (Heap.IsSliceOf.new ..) pl pu q3
 show wpAny (model X.prog X.w) X.A (subscriptTail e (.Slice lo hi none p2) v (.ref s3.heap.objs.size)) (EP X pins σ Q) X.xe { s3 with heap:=s3.heap.push { cls:=.type "slice",data:=.fields #[vl,vu,.none] } }
 exact tail_any (ops:=[.ref s3.heap.objs.size,v]) ht hT hg (by with_unfolding_all rfl)
noncomputable def Zjn (xs:List V) (lo hi:Option Int):List V:=(xs.drop (HT.sIx xs.length 0 lo)).take (HT.sIx xs.length xs.length hi - HT.sIx xs.length 0 lo)
theorem Zf4 (xs:List V) (lo hi:Option Int):(Zjn xs lo hi).length ≤ xs.length:=by
 unfold Zjn
 rw [List.length_take,List.length_drop]
 exact Nat.le_trans (Nat.min_le_right _ _) (Nat.sub_le _ _)
noncomputable def Zt8 (K:PySem.W.Frag):V → Option Int → Option Int → Hp → VK → Prop:=fun x lo hi H Q=>∃ a xs,x = .ref a ∧ SqT K H a xs ∧
 ¬ (HT.sIx xs.length 0 lo = 0 ∧ HT.sIx xs.length xs.length hi = xs.length) ∧ ∀ p,H p = none → Q (.ref p) (upd H p (.tup (Zjn xs lo hi)))
theorem ZqO:SlR X (Zt8 X.K):=by
 intro pins s σ H x v vl vu lo hi sl Q I rx hs pl pu h
 obtain ⟨a,xs,rfl,hx,hw,q⟩:=h
 cases rx
 obtain ⟨its,r,ht,hz⟩:=I.tuple hx
 have hlen:its.toArray.size = xs.length:=by rw [List.size_toArray]; exact r.length.symm
 refine ⟨"tuple",_,PyProof.Rows.slot_tuple_getitem.lookup,ht.typeIs,?_⟩
 refine HT.getItem_tuple_cut ht hs pl pu (by rw [hlen]; exact hw) ?_ (by rw [hlen]; exact hz)
 rw [hlen]
 refine ⟨.ref s.heap.objs.size,_,I.laid (t':=s.toks) (o:=.tup (Zjn xs lo hi)) (fun b ob q=>Heap.get?_push_of_some _ q) (Nat.le_refl _) ?_,rfl,q _ (I.hok.fresh (Nat.le_refl _))⟩
 exact ⟨Nat.le_trans (Zf4 xs lo hi) hz,_,(r.drop (HT.sIx xs.length 0 lo)).take (HT.sIx xs.length xs.length hi - HT.sIx xs.length 0 lo),Zdg.new _ _⟩
def Zsp (K:PySem.W.Frag):R2:=fun x y H Q=>∃ a b xs ys,x = .ref a ∧ y = .ref b ∧ SqT K H a xs ∧ SqT K H b ys ∧ xs ≠ [] ∧ xs.length + ys.length ≤ sizeLine ∧
 (ys = [] → Q (.ref a) H) ∧ (ys ≠ [] → ∀ p,H p = none → Q (.ref p) (upd H p (.tup (xs ++ ys))))
theorem Vals.nil_iff {xs:List V} {us:List Value} (r:Vals xs us):us = [] ↔ xs = []:=by
 cases r with
 | nil=>simp
 | cons _ _=>simp
theorem ZoQ:OpR X (binaryOp .Add) (Zsp X.K):=by
 intro pins s σ H x y v u Q I rx ry h
 obtain ⟨a,b,xs,ys,rfl,rfl,ha,hb,hx,hz,q1,q2⟩:=h
 cases rx
 cases ry
 obtain ⟨its,r1,p1,_⟩:=I.tuple ha
 obtain ⟨its2,r2,p2,_⟩:=I.tuple hb
 refine HT.cat_tup p1 p2 (fun z=>hx (r1.nil_iff.mp z)) (fun z=>⟨.ref a,H,I,rfl,q1 (r2.nil_iff.mp z)⟩) (fun z=>?_) (by rw [← r1.length,← r2.length]; exact hz)
 refine ⟨.ref s.heap.objs.size,_,I.laid (t':=s.toks) (o:=.tup (xs ++ ys)) (fun b ob q=>Heap.get?_push_of_some _ q) (Nat.le_refl _) ?_,rfl,q2 (fun w=>z (r2.nil_iff.mpr w)) _ (I.hok.fresh (Nat.le_refl _))⟩
 exact ⟨by rw [List.length_append]; exact hz,_,r1.append r2,Zdg.new _ _⟩
end
end L2
namespace L2
open PySem PySem.Spec PyProof.Rows
noncomputable def ixN (n:Nat) (i:Int):Option Nat:=if 0 ≤ i then (if i < n then some i.toNat else none) else if -(n:Int) ≤ i then some (i + n).toNat else none
noncomputable def atI {α:Type} (xs:List α) (i:Int):Option α:=(ixN xs.length i).bind fun j=>xs[j]?
theorem Zk6 {n:Nat} {i:Int} {j:Nat} (h:ixN n i = some j):seqIndex? i n = some j ∧ j < n ∧ -(n:Int) ≤ i ∧ i < n:=by
 unfold ixN at h
 by_cases h0:0 ≤ i
 ·rw [if_pos h0] at h
  by_cases h1:i < n
  ·rw [if_pos h1] at h
   have e:i.toNat = j:=Option.some.inj h
   exact ⟨by rw [seqIndex_of h0 h1,e],by exact iN [_,_,_] [_] 3 0x211008a1280911031 T1 e h1 (Int.toNat_of_nonneg h0),by exact iN [_] [_] 1 144182913 T1 h0,h1⟩
  ·rw [if_neg h1] at h; cases h
 ·rw [if_neg h0] at h
  by_cases h1:-(n:Int) ≤ i
  ·rw [if_pos h1] at h
   have e:(i + n).toNat = j:=Option.some.inj h
   exact ⟨by rw [seqIndex_neg (by exact Int.not_le.1 h0) h1,e],by exact iN [_,_,_] [_] 3 0x211280c08a10ec11031 T1 e h0 (Int.toNat_of_nonneg (iN [_] [_] 1 8851524979073 T1 h1)),h1,by exact iN [_] [_] 1 134811329 T1 h0⟩
  ·rw [if_neg h1] at h; cases h
theorem Zim {α:Type} {xs:List α} {i:Int} {v:α} (h:atI xs i = some v):∃ j,seqIndex? i xs.length = some j ∧ xs[j]? = some v ∧ j < xs.length ∧ -(xs.length:Int) ≤ i ∧ i < xs.length:=by
 unfold atI at h
 cases e:ixN xs.length i with
 | none=>rw [e] at h; cases h
 | some j=>
  rw [e] at h
  obtain ⟨h1,h2,h3,h4⟩:=Zk6 e
  exact ⟨j,h1,h,h2,h3,h4⟩
def Zln (b:Expr):Prop:=∀ o i,subscripted b false o i = operate [o,i] (getItem o i)
def IxR (X:Cx) (r:R2):Prop:=
 ∀ (value slice:Expr) (pins:List (Addr × Obj)) (s:Shared) (σ:St) (H:Hp) (x y:V) (v u:Value) (Q:VK),Inv X pins σ H s → RelV x v → RelV y u → r x y H Q →
  subscripted slice false v u = operate [v,u] (getItem v u) → wpAny (model X.prog X.w) X.A (subscriptTail value slice v u) (EP X pins σ Q) X.xe s
def MtR (X:Cx) (id:String) (r:V → List V → Hp → VK → Prop):Prop:=
 ∀ (pins:List (Addr × Obj)) (s:Shared) (σ:St) (H:Hp) (x:V) (xs:List V) (v:Value) (us:List Value) (Q:VK),Inv X pins σ H s → RelV x v → Vals xs us → r x xs H Q →
  wpAny (model X.prog X.w) X.A (call (.builtin id) (v :: us)) (EP X pins σ Q) X.xe s
section
variable {X:Cx} {a b:Expr} {ta tb:TE} {pos:Pos}
theorem IxR.or {r r':R2} (h:IxR X r) (h':IxR X r'):IxR X (fun x y H Q=>r x y H Q ∨ r' x y H Q):=by
 intro value slice pins s σ H x y v u Q I rx ry q hs
 rcases q with q | q
 ·exact h value slice pins s σ H x y v u Q I rx ry q hs
 ·exact h' value slice pins s σ H x y v u Q I rx ry q hs
theorem ZsC {r:R2} (hr:IxR X r) (ha:PE X a ta) (hb:PE X b tb) (hs:Zln b):PE X (.Subscript a b pos) (tOp r ta tb):=by
 intro pins s σ H Q I h
 exact Subscript_ (Zrw ha hb I h fun v u s2 x y H2 I2 rx ry q=>hr a b pins s2 σ H2 x y v u Q I2 rx ry q (hs _ _))
def ZsW (K:PySem.W.Frag):R2:=fun x y H Q=>∃ p xs i v,x = .ref p ∧ y = .int i ∧ SqL K H p xs ∧ atI xs i = some v ∧ Q v H
def Zr7 (K:PySem.W.Frag):R2:=fun x y H Q=>∃ p xs i v,x = .ref p ∧ y = .int i ∧ SqT K H p xs ∧ atI xs i = some v ∧ Q v H
def Zsb:R2:=fun x y H Q=>∃ z i c,x = .str z ∧ y = .int i ∧ z.length ≤ sizeLine ∧ atI z.cps.toList i = some c ∧ Q (.str ⟨#[c]⟩) H
theorem ZoW:IxR X (ZsW X.K):=by
 intro value slice pins s σ H x y v u Q I rx ry h hs
 obtain ⟨p,xs,i,z,rfl,rfl,hq,he,q⟩:=h
 cases rx
 obtain ⟨t,rfl⟩:=ry
 obtain ⟨its,r,pl,hz⟩:=I.list hq
 obtain ⟨j,h1,h2,h3,h4,h5⟩:=Zim he
 obtain ⟨w,ew,rw'⟩:=r.get h2
 have hl:=r.length
 have hn:=ZgP
 have fin:EP X pins σ Q w s:=⟨z,H,I,rw',q⟩
 by_cases h0:0 ≤ i
 ·have hj:i.toNat = j:=by
   rw [seqIndex_of h0 h5] at h1
   exact Option.some.inj h1
  exact item_listR pl.isList h0 (by omega) (by rw [hj]; simpa using ew) fin hs
 ·have hj:(i + (its.toArray.size:Int)).toNat = j:=by
   rw [seqIndex_neg (by exact Int.not_le.1 h0) h4] at h1
   rw [List.size_toArray,← hl]
   exact Option.some.inj h1
  exact subscriptTail_builtinR (x:=w) pl.isList.typeIs slot_list_getitem.lookup
   (wpAny_getItem_list_neg (Q:=fun r s'=>r = w ∧ EP X pins σ Q r s') pl.isList (by exact Int.not_le.1 h0) (by rw [List.size_toArray] <;> exact iN [_,_] [_] 2 6922527515414561 T1 hl h4) (by omega) (by rw [hj]; simpa using ew) ⟨rfl,fin⟩) hs
theorem Zq9:IxR X (Zr7 X.K):=by
 intro value slice pins s σ H x y v u Q I rx ry h hs
 obtain ⟨p,xs,i,z,rfl,rfl,hq,he,q⟩:=h
 cases rx
 obtain ⟨t,rfl⟩:=ry
 obtain ⟨its,r,pl,hz⟩:=I.tuple hq
 obtain ⟨j,h1,h2,h3,h4,h5⟩:=Zim he
 obtain ⟨w,ew,rw'⟩:=r.get h2
 have hl:=r.length
 have hn:=ZgP
 have fin:EP X pins σ Q w s:=⟨z,H,I,rw',q⟩
 exact subscriptTail_builtinR (x:=w) pl.typeIs slot_tuple_getitem.lookup
  (getItem_tuple (j:=j) (Q:=fun r s'=>r = w ∧ EP X pins σ Q r s') pl (by omega) (by omega) (by rw [List.size_toArray,← hl]; exact h1) (by simpa using ew) ⟨rfl,fin⟩) hs
theorem Zq2:IxR X Zsb:=by
 intro value slice pins s σ H x y v u Q I rx ry h hs
 obtain ⟨z,i,c,rfl,rfl,hz,he,q⟩:=h
 obtain ⟨t,rfl⟩:=rx
 obtain ⟨t',rfl⟩:=ry
 obtain ⟨j,h1,h2,h3,h4,h5⟩:=Zim he
 have hl:z.cps.toList.length = z.length:=by simp [Str.length]
 rw [hl] at h1 h4 h5
 have hn:=ZgP
 exact tail_any (typeIs_str s z t) slot_str_getitem.lookup (getItem_str (c:=c) (by
  have e1:decide (i < -(2 ^ 63:Int)) = false:=decide_eq_false (by omega)
  have e2:decide (i ≥ 2 ^ 63) = false:=decide_eq_false (by omega)
  rw [e1,e2,Bool.or_false]) (by rw [h1]; simpa using h2) ⟨.str ⟨#[c]⟩,H,I.tok _,⟨_,rfl⟩,q⟩) hs
def rIx (K:PySem.W.Frag):R2:=fun x y H Q=>ZsW K x y H Q ∨ Zr7 K x y H Q ∨ Zsb x y H Q
theorem Zrv:IxR X (rIx X.K):=ZoW.or (Zq9.or Zq2)
theorem Zj5 (its:List Value) (n j:Nat) (u:Value):Obj.mapSeq (·.setIfInBounds j u) { cls:=.type "list",data:=.seq its.toArray n } = { cls:=.type "list",data:=.seq (its.set j u).toArray n }:=by
 simp [Obj.mapSeq]
theorem Inv.lst {pins:List (Addr × Obj)} {σ:St} {H:Hp} {s:Shared} {p:Addr} {xs:List V} (I:Inv X pins σ H s) (h:H p = some (.lst xs)):
  ∃ (its:List Value) (n:Nat),Vals xs its ∧ s.heap.get? p = some { cls:=.type "list",data:=.seq its.toArray n } ∧ xs.length ≤ sizeLine:=by
 obtain ⟨z,its,n,r,e⟩:=I.hok p _ h
 exact ⟨its,n,r,e,z⟩
theorem Inv.lstUpd {pins:List (Addr × Obj)} {σ:St} {H:Hp} {s:Shared} {p:Addr} {xs ys:List V} {its its':List Value} {n n':Nat} {f:Obj → Obj} (I:Inv X pins σ H s) (h:H p = some (.lst xs))
  (ho:s.heap.get? p = some { cls:=.type "list",data:=.seq its.toArray n }) (hf:f { cls:=.type "list",data:=.seq its.toArray n } = { cls:=.type "list",data:=.seq its'.toArray n' }) (r:Vals ys its') (hz:ys.length ≤ sizeLine) (t:Nat):
  Inv X pins σ (upd H p (.lst ys)) { s with heap:=s.heap.update p f,toks:=t }:=by
 have e:(s.heap.update p f).get? p = some { cls:=.type "list",data:=.seq its'.toArray n' }:=by
  rw [Heap.get?_update_self f ho (by rw [hf] <;> rfl),hf]
 refine I.write (x:=p) (e:=p) (by rw [h]; trivial) (.inl rfl) (fun b u hb q=>(Heap.get?_update_other _ _ (Ne.symm hb)).trans q) ⟨_,e⟩ ?_
 exact ⟨hz,its',n',r,e⟩
noncomputable def Zsd:V → V → V → Hp → (Hp → Prop) → Prop:=fun o i v H Q=>∃ p xs k j,o = .ref p ∧ i = .int k ∧ H p = some (.lst xs) ∧ ixN xs.length k = some j ∧ Q (upd H p (.lst (xs.set j v)))
theorem set_list:Zs2 X Zsd:=by
 intro pins s σ H o i v ov iv u Q I ro ri rv h
 obtain ⟨p,xs,k,j,rfl,rfl,hp,hj,q⟩:=h
 cases ro
 obtain ⟨t,rfl⟩:=ri
 obtain ⟨its,n,r,ho,hz⟩:=I.lst hp
 obtain ⟨h1,h2,h3,h4⟩:=Zk6 hj
 have hl:=r.length
 have hn:=ZgP
 have I':Inv X pins σ (upd H p (.lst (xs.set j v))) { s with heap:=s.heap.update p (Obj.mapSeq (·.setIfInBounds j u)) }:=
  I.lstUpd hp ho (Zj5 its n j u) (r.set rv j) (by rw [List.length_set]; exact hz) s.toks
 by_cases h0:0 ≤ k
 ·have hk:k.toNat = j:=by
   rw [seqIndex_of h0 h4] at h1
   exact Option.some.inj h1
  exact PySem.W.ki_setAt ho h0 (by omega) (by rw [List.size_toArray,← hl]; exact h4) (by rw [hk]; exact ⟨_,I',q⟩)
 ·have hk:(k + (its.toArray.size:Int)).toNat = j:=by
   rw [seqIndex_neg (by exact Int.not_le.1 h0) h3] at h1
   rw [List.size_toArray,← hl]
   exact Option.some.inj h1
  exact PySem.W.ki_setBack ho (by exact Int.not_le.1 h0) (by rw [List.size_toArray,← hl]; exact h3) (by omega) (by rw [hk]; exact ⟨_,I',q⟩)
theorem ZiJ (lo hi:Option Int) (n:Nat):(sliceBounds lo hi none n).1 = ((HT.sIx n 0 lo:Nat):Int) ∧ (sliceBounds lo hi none n).2.1 = ((HT.sIx n n hi:Nat):Int) ∧ (sliceBounds lo hi none n).2.2 = 1:=by
 refine ⟨?_,?_,rfl⟩
 ·cases lo with
  | none=>simp [sliceBounds,HT.sIx]
  | some i=>
   simp only [sliceBounds,HT.sIx,Option.getD_none,show (1:Int) > 0 by decide,if_true]
   by_cases h:i < 0
   ·simp only [h,if_true] <;> exact clC _ _ h
   ·simp only [h,if_false] <;> exact clD _ _ h
 ·cases hi with
  | none=>simp [sliceBounds,HT.sIx]
  | some i=>
   simp only [sliceBounds,HT.sIx,Option.getD_none,show (1:Int) > 0 by decide,if_true]
   by_cases h:i < 0
   ·simp only [h,if_true] <;> exact clC _ _ h
   ·simp only [h,if_false] <;> exact clD _ _ h
theorem Zhk (its:List Value) (lo hi:Option Int):slicePick its.toArray lo hi none = ((its.drop (HT.sIx its.length 0 lo)).take (HT.sIx its.length its.length hi - HT.sIx its.length 0 lo)).toArray:=by
 obtain ⟨h1,h2,h3⟩:=ZiJ lo hi its.toArray.size
 unfold slicePick
 rw [h1,h2,h3]
 simp only [sliceRange_one,pick_run,List.size_toArray] <;> rfl
noncomputable def ZtW (K:PySem.W.Frag):V → Option Int → Option Int → Hp → VK → Prop:=fun x lo hi H Q=>∃ a xs,x = .ref a ∧ SqL K H a xs ∧ ∀ p,H p = none → Q (.ref p) (upd H p (.lst (Zjn xs lo hi)))
theorem Zoz:SlR X (ZtW X.K):=by
 intro pins s σ H x v vl vu lo hi sl Q I rx hs pl pu h
 obtain ⟨a,xs,rfl,hx,q⟩:=h
 cases rx
 obtain ⟨its,r,ht,hz⟩:=I.list hx
 have hlen:=r.length
 refine ⟨"list",_,slot_list_getitem.lookup,ht.isList.typeIs,?_⟩
 refine wpAny_getItem_list_slice ht.isList hs pl pu .none (by simp) ?_ (by rw [List.size_toArray] <;> exact lC 2 2268279672881 T1 hlen hz)
 rw [Zhk,← hlen]
 refine ⟨.ref s.heap.objs.size,_,I.laid (t':=s.toks) (o:=.lst (Zjn xs lo hi)) (fun b ob q=>Heap.get?_push_of_some _ q) (Nat.le_refl _) ?_,rfl,q _ (I.hok.fresh (Nat.le_refl _))⟩
 exact ⟨Nat.le_trans (Zf4 xs lo hi) hz,_,0,(r.drop (HT.sIx xs.length 0 lo)).take (HT.sIx xs.length xs.length hi - HT.sIx xs.length 0 lo),Heap.get?_push_size _ rfl⟩
noncomputable def ZeU:V → Bool
 | .non=>true
 | .bl _=>true
 | .int _=>true
 | .str _=>true
 | _=>false
noncomputable def eqV:V → V → Bool
 | .non,.non=>true
 | .bl a,.bl b=>a == b
 | .bl a,.int b=>(if a then 1 else 0) == b
 | .int a,.bl b=>a == (if b then 1 else 0)
 | .int a,.int b=>a == b
 | .str a,.str b=>a == b
 | _,_=>false
theorem ZqW {A:Around} {s:Shared} {y x:V} {u v:Value} (ry:RelV y u) (rx:RelV x v) (fy:ZeU y = true) (fx:ZeU x = true):SeqAt.EqAt A s u v (eqV y x):=by
 cases y with
 | non=>
  cases ry
  cases x with
  | non=>cases rx; exact SeqAt.EqAt.same _
  | bl b=>cases rx; exact SeqAt.EqAt.none_bool b
  | int b=>obtain ⟨t,rfl⟩:=rx; exact SeqAt.EqAt.none_int b t
  | str b=>obtain ⟨t,rfl⟩:=rx; exact SeqAt.EqAt.none_str b t
  | _=>exact absurd (show false = true from fx) Bool.false_ne_true
 | bl a=>
  cases ry
  cases x with
  | non=>cases rx; exact SeqAt.EqAt.bool_none a
  | bl b=>cases rx; exact SeqAt.EqAt.bool_bool a b
  | int b=>obtain ⟨t,rfl⟩:=rx; exact SeqAt.EqAt.bool_int a b t
  | str b=>obtain ⟨t,rfl⟩:=rx; exact SeqAt.EqAt.bool_str a b t
  | _=>exact absurd (show false = true from fx) Bool.false_ne_true
 | int a=>
  obtain ⟨t',rfl⟩:=ry
  cases x with
  | non=>cases rx; exact SeqAt.EqAt.int_none a t'
  | bl b=>cases rx; exact SeqAt.EqAt.int_bool a t' b
  | int b=>obtain ⟨t,rfl⟩:=rx; exact SeqAt.EqAt.int_int a t' b t
  | str b=>obtain ⟨t,rfl⟩:=rx; exact SeqAt.EqAt.int_str a t' b t
  | _=>exact absurd (show false = true from fx) Bool.false_ne_true
 | str a=>
  obtain ⟨t',rfl⟩:=ry
  cases x with
  | non=>cases rx; exact SeqAt.EqAt.str_none a t'
  | bl b=>cases rx; exact SeqAt.EqAt.str_bool a t' b
  | int b=>obtain ⟨t,rfl⟩:=rx; exact SeqAt.EqAt.str_int a t' b t
  | str b=>obtain ⟨t,rfl⟩:=rx; exact SeqAt.EqAt.str_str a t' b t
  | _=>exact absurd (show false = true from fx) Bool.false_ne_true
 | _=>exact absurd (show false = true from fy) Bool.false_ne_true
noncomputable def eqU (x:V) (u:Value):Bool:=match u with
 | .none=>eqV .non x
 | .bool b=>eqV (.bl b) x
 | .int i _=>eqV (.int i) x
 | .str z _=>eqV (.str z) x
 | _=>false
theorem ZmM {x y:V} {u:Value} (r:RelV y u) (f:ZeU y = true):eqU x u = eqV y x:=by
 cases y with
 | non=>cases r; rfl
 | bl b=>cases r; rfl
 | int i=>obtain ⟨t,rfl⟩:=r; rfl
 | str z=>obtain ⟨t,rfl⟩:=r; rfl
 | _=>exact absurd (show false = true from f) Bool.false_ne_true
theorem ZiD {x:V}:∀ {xs:List V} {us:List Value},Vals xs us → xs.all ZeU = true → us.any (eqU x) = xs.any fun y=>eqV y x
 | _,_,.nil,_=>rfl
 | y :: xs,u :: us,.cons r t,f=>by
  rw [List.all_cons,Bool.and_eq_true] at f
  rw [List.any_cons,List.any_cons,ZmM r f.1,ZiD t f.2]
theorem ZgD {A:Around} {s:Shared} {x:V} {v:Value} (rx:RelV x v) (fx:ZeU x = true):∀ {xs:List V} {us:List Value},Vals xs us → xs.all ZeU = true → ∀ u ∈ us,SeqAt.EqAt A s u v (eqU x u)
 | _,_,.nil,_=>fun u hu=>by cases hu
 | y :: xs,u :: us,.cons r t,f=>fun u' hu=>by
  rw [List.all_cons,Bool.and_eq_true] at f
  rcases List.mem_cons.mp hu with rfl | hu
  ·rw [ZmM r f.1]; exact ZqW r rx f.1 fx
  ·exact ZgD rx fx t f.2 u' hu
noncomputable def inV (x:V) (xs:List V):Bool:=xs.any fun y=>eqV y x
def rIn (K:PySem.W.Frag) (neg:Bool):R2:=fun x y H Q=>∃ p xs,y = .ref p ∧ (SqL K H p xs ∨ SqT K H p xs) ∧ ZeU x = true ∧ xs.all ZeU = true ∧ Q (.bl (if neg then !inV x xs else inV x xs)) H
theorem Zme:OpR X (compareOp .In) (rIn X.K false):=by
 intro pins s σ H x y v u Q I rx ry h
 obtain ⟨p,xs,rfl,hq,fx,fs,q⟩:=h
 cases ry
 rcases hq with hq | hq
 ·obtain ⟨its,r,pl,hz⟩:=I.list hq
  refine SeqAt.in_listAt (eqU x) pl.isList (fun w hw=>ZgD rx fx r fs w (by simpa using hw)) ⟨.bl _,H,I,rfl,?_⟩
  rw [show its.toArray.any (eqU x) = its.any (eqU x) by simp,ZiD r fs]
  exact q
 ·obtain ⟨its,r,pl,hz⟩:=I.tuple hq
  refine SeqAt.in_tupleAt (eqU x) pl (fun w hw=>ZgD rx fx r fs w (by simpa using hw)) ⟨.bl _,H,I,rfl,?_⟩
  rw [show its.toArray.any (eqU x) = its.any (eqU x) by simp,ZiD r fs]
  exact q
theorem ZiZ:Zb2 X (.type "list") (fun xs H Q=>∃ p ys,xs = [.ref p] ∧ (SqL X.K H p ys ∨ SqT X.K H p ys) ∧ ∀ l,H l = none → Q (.ref l) (upd H l (.lst ys))):=by
 intro pins s σ H xs us Q I r h
 obtain ⟨p,ys,rfl,hq,q⟩:=h
 obtain ⟨u,rfl,rx⟩:=vals1 r
 cases rx
 have fin:∀ (its:List Value),Vals ys its → ys.length ≤ sizeLine → ∀ (h':Heap) (c':Nat),(∀ b o',s.heap.get? b = some o' → h'.get? b = some o') →
   h'.get? s.heap.objs.size = some { cls:=.type "list",dict:=none,data:=.seq its.toArray c',slots:=#[] } → EP X pins σ Q (.ref s.heap.objs.size) { s with heap:=h' }:=fun its r' hz h' c' kp e=>
  ⟨.ref s.heap.objs.size,_,I.laid (t':=s.toks) kp (Nat.le_refl _) (show Za7 X.prog X.w _ h' _ (.lst ys) from ⟨hz,its,c',r',e⟩),rfl,q _ (I.hok.fresh (Nat.le_refl _))⟩
 rcases hq with hq | hq
 ·obtain ⟨its,r',pl,hz⟩:=I.list hq
  have hlen:=r'.length
  obtain ⟨o,ho,hc,n,hd⟩:=pl.isList
  exact call_list_seq p (.inl rfl) ho hc hd (fun h' c' kp e=>fin its r' hz h' c' kp e) (by simp only [List.size_toArray] <;> exact lC 2 2268279672881 T1 hlen hz)
 ·obtain ⟨its,r',pl,hz⟩:=I.tuple hq
  have hlen:=r'.length
  obtain ⟨o,ho,hc,n,hd⟩:=pl
  exact call_list_seq p (.inr rfl) ho hc hd (fun h' c' kp e=>fin its r' hz h' c' kp e) (by simp only [List.size_toArray] <;> exact lC 2 2268279672881 T1 hlen hz)
theorem Zhx:Zb2 X (.type "tuple") (fun xs H Q=>∃ p ys,xs = [.ref p] ∧ ((SqL X.K H p ys ∧ ∀ l,H l = none → Q (.ref l) (upd H l (.tup ys))) ∨ (SqT X.K H p ys ∧ Q (.ref p) H))):=by
 intro pins s σ H xs us Q I r h
 obtain ⟨p,ys,rfl,h⟩:=h
 obtain ⟨u,rfl,rx⟩:=vals1 r
 cases rx
 rcases h with ⟨hq,q⟩ | ⟨hq,q⟩
 ·obtain ⟨its,r',pl,hz⟩:=I.list hq
  have hlen:=r'.length
  refine call_tuple_list pl.isList (fun h' kp=>?_) (by simp only [List.size_toArray] <;> exact lC 2 2268279672881 T1 hlen hz)
  have I1:Inv X pins σ H { s with heap:=h' }:=I.kept (t':=s.toks) kp
  have I2:Inv X pins σ (upd H h'.objs.size (.tup ys)) { s with heap:=h'.push { cls:=.type "tuple",data:=.seq its.toArray } }:=
   I1.laid (t':=s.toks) (fun b o e=>Heap.get?_push_of_some _ e) (Nat.le_refl _) (show Za7 X.prog X.w _ _ _ (.tup ys) from ⟨hz,its,r',Zdg.new _ _⟩)
  exact ⟨.ref h'.objs.size,_,I2,rfl,q _ (I1.hok.fresh (Nat.le_refl _))⟩
 ·obtain ⟨its,r',pl,hz⟩:=I.tuple hq
  exact call_tuple_same pl ⟨.ref p,H,I,rfl,q⟩
def tyV (K:PySem.W.Frag) (T:String) (x:V) (H:Hp):Prop:=match x with
 | .str _=>T = "str"
 | .int _=>T = "int"
 | .ref p=>(T = "list" ∧ ∃ xs,SqL K H p xs) ∨ (T = "tuple" ∧ ∃ o,K.lookup p = some o ∧ o.cls = .type "tuple" ∧ o.dict = none) ∨
   (T = "dict" ∧ ((∃ kvs,H p = some (.dK kvs)) ∨ ∃ kvs,H p = some (.dT kvs))) ∨ (T = "set" ∧ ∃ S n,H p = some (.set S n))
 | _=>False
theorem ZqE {pins:List (Addr × Obj)} {σ:St} {H:Hp} {s:Shared} {T:String} {x:V} {v:Value} (I:Inv X pins σ H s) (r:RelV x v) (ty:tyV X.K T x H):
  s.TypeIs v T ∧ ∀ a,v = .ref a → ∃ ob,s.heap.get? a = some ob ∧ ob.dict = none:=by
 cases x with
 | str z=>
  obtain ⟨t,rfl⟩:=r
  cases (show T = "str" from ty)
  exact ⟨typeIs_str s z t,fun _ e=>nomatch e⟩
 | int i=>
  obtain ⟨t,rfl⟩:=r
  cases (show T = "int" from ty)
  exact ⟨typeIs_int s i t,fun _ e=>nomatch e⟩
 | ref p=>
  cases r
  rcases ty with ⟨rfl,xs,hq⟩ | ⟨rfl,o,hk,hc,hd⟩ | ⟨rfl,hk⟩ | ⟨rfl,S,n,hk⟩
  ·obtain ⟨its,_,pl,_⟩:=I.list hq
   refine ⟨pl.isList.typeIs,fun a e=>?_⟩
   cases e
   obtain ⟨o,n,e,c,hd,_⟩:=pl
   exact ⟨o,e,hd⟩
  ·refine ⟨⟨o,I.kIn p o hk,hc⟩,fun a e=>?_⟩
   cases e
   exact ⟨o,I.kIn _ o hk,hd⟩
  ·have z:∃ o,s.heap.get? p = some o ∧ o.ExactDict:=by
    rcases hk with ⟨kvs,hk⟩ | ⟨kvs,hk⟩
    ·obtain ⟨_,_,_,_,o,_,_,e,ex,_⟩:=I.hok p _ hk
     exact ⟨o,e,ex⟩
    ·obtain ⟨_,_,_,_,o,_,_,e,ex,_⟩:=I.hok p _ hk
     exact ⟨o,e,ex⟩
   obtain ⟨o,e,ex⟩:=z
   refine ⟨⟨o,e,ex.1⟩,fun a e2=>?_⟩
   cases e2
   exact ⟨o,e,ex.2.1⟩
  ·obtain ⟨o,_,_,_,e,ex,_⟩:=I.hok p _ hk
   refine ⟨⟨o,e,ex.1⟩,fun a e2=>?_⟩
   cases e2
   exact ⟨o,e,ex.2.1⟩
 | _=>exact False.elim ty
def tBM (K:PySem.W.Frag) (T:String) (r:V → List V → Hp → VK → Prop) (to:TE) (t:TA):TE:=fun σ H Q=>to σ H fun x H1=>tyV K T x H1 ∧ t σ H1 fun xs H2=>r x xs H2 Q
variable {o e:Expr} {es:List Expr} {to:TE} {t:TA} {name:Str} {apos cpos:Pos} {T id:String} {r:V → List V → Hp → VK → Prop}
theorem Zs6 (pa:PlainAttrs T) (slot:Slot T name id) (hty:typeOf (.builtin id) = pure (.type "method_descriptor")) (hm:MtR X id r) (ho:PE X o to) (ha:PA X (e :: es) t)
  (hbase:attributeBase o name X.env (eval o X.env) = eval o X.env:=by rfl)
  (hfew:((backTo cpos (starEach (e :: es) X.env)).all (fun x=>!x.1) && (backToKw cpos (keywordEach [] X.env)).all (fun x=>x.1.isSome)
   && decide ((e :: es).length + ([]:List Keyword).length + (if ([]:List Keyword).isEmpty then 0 else 1) < 30)) = true:=by rfl)
  (hline:(apos.endLine == cpos.line) = true:=by rfl) (hs:starEach (e :: es) X.env = (false,eval e X.env) :: starEach es X.env:=by rfl) (hplain:(backTo cpos (starEach es X.env)).any (·.1) = false:=by rfl):
  PE X (.Call (.Attribute o name apos) (e :: es) [] cpos) (tBM X.K T r to t):=by
 intro pins s σ H Q I h
 refine wpAny_Call_method_late hbase hfew hline rfl (thn (ho pins s σ H _ I h) fun v s1 zz1=>?_)
 obtain ⟨x,H1,I1,r1,ty,q1⟩:=zz1
 obtain ⟨h1,h2⟩:=ZqE I1 r1 ty
 refine ⟨T,id,pa,slot,hty,h1,h2,?_⟩
 have hA:=ha cpos pins s1 σ H1 _ I1 q1
 rw [hs] at hA ⊢
 refine Calls.callWith_builtin (by show (false || (backTo cpos (starEach es X.env)).any (·.1)) = false; rw [hplain] <;> rfl) (Calls.evalArgs_plain ?_)
 exact thn hA fun us s2 ⟨vs,H2,I2,r2,q2⟩=>hm pins s2 σ H2 x vs v us Q I2 r1 r2 q2
/- xs.append(e),list.index on a module's tuple .. are MtR facts of 06m -/
end
end L2
namespace L2
open PySem PySem.Spec PyProof.Rows
def MtM (X:Cx) (id:String) (r:V → List V → Hp → VK → Prop):Prop:=
 ∀ (pins:List (Addr × Obj)) (s:Shared) (σ:St) (H:Hp) (x:V) (xs:List V) (v:Value) (us:List Value) (Q:VK),Inv X pins σ H s → RelV x v → Vals xs us → r x xs H Q →
  wpAny (model X.prog X.w) X.A (call (.builtin id) (v :: us)) (EP X pins σ Q) X.xe s
theorem Vals.one:∀ {x:V} {us:List Value},Vals [x] us → ∃ u,us = [u] ∧ RelV x u
 | _,_,.cons r .nil=>⟨_,rfl,r⟩
theorem Vals.zero:∀ {us:List Value},Vals [] us → us = []
 | _,.nil=>rfl
theorem Vals.dropLast {xs:List V} {us:List Value} (h:Vals xs us):Vals xs.dropLast us.dropLast:=by
 induction h with
 | nil=>exact .nil
 | cons r t ih=>
  cases t with
  | nil=>exact .nil
  | cons q t'=>exact .cons r ih
theorem Vals.rep {xs:List V} {us:List Value} (h:Vals xs us):∀ k:Nat,Vals (List.replicate k xs).flatten (List.replicate k us).flatten
 | 0=>.nil
 | k + 1=>by
  rw [List.replicate_succ,List.replicate_succ,List.flatten_cons,List.flatten_cons]
  exact Vals.append h (Vals.rep h k)
theorem foldl_rep (its:List Value):∀ (k:Nat) (acc:List Value),
  List.foldl (fun x1 x2=>x1 ++ x2) acc.toArray (List.replicate k its.toArray) = (acc ++ (List.replicate k its).flatten).toArray
 | 0,acc=>by simp
 | k + 1,acc=>by
  have e:acc.toArray ++ its.toArray = (acc ++ its).toArray:=by simp
  have e2:(acc ++ its) ++ (List.replicate k its).flatten = acc ++ (List.replicate (k + 1) its).flatten:=by
   rw [List.replicate_succ,List.flatten_cons,List.append_assoc]
  rw [← e2,← foldl_rep its k (acc ++ its),← e,List.replicate_succ,List.foldl_cons]
section
variable {X:Cx} {pins:List (Addr × Obj)} {σ:St} {H:Hp} {s:Shared} {l b:Addr} {xs ys zs:List V}
theorem Inv.lset {its its':List Value} {n:Nat} {f:Array Value → Array Value} {t':Nat} (I:Inv X pins σ H s) (hH:H l = some (.lst xs))
  (e:s.heap.get? l = some { cls:=.type "list",data:=.seq its.toArray n }) (hf:f its.toArray = its'.toArray) (hv:Vals ys its') (hz:ys.length ≤ sizeLine):
  Inv X pins σ (upd H l (.lst ys)) { s with heap:=s.heap.update l (Obj.mapSeq f),toks:=t' }:=by
 have q:=PySem.IsL.update e f
 rw [hf] at q
 refine I.write (x:=l) (e:=l) (by rw [hH]; exact trivial) (.inl rfl) (fun b' u hb hu=>(Heap.get?_update_other s.heap (Obj.mapSeq f) (Ne.symm hb)).trans hu) ⟨_,q⟩ ?_
 exact ⟨hz,its',_,hv,q⟩
theorem Inv.lnew {its:List Value} {t':Nat} (I:Inv X pins σ H s) (hv:Vals ys its) (hz:ys.length ≤ sizeLine):
  Inv X pins σ (upd H s.heap.objs.size (.lst ys)) { s with heap:=s.heap.push { cls:=.type "list",data:=.seq its.toArray },toks:=t' }:=
 I.laid (fun _ _ q=>Heap.get?_push_of_some _ q) (Nat.le_refl _) ⟨hz,its,0,hv,Heap.get?_push_size _ rfl⟩
theorem Inv.fresh (I:Inv X pins σ H s):H s.heap.objs.size = none:=I.hok.fresh (Nat.le_refl _)
theorem Inv.lstM (I:Inv X pins σ H s) (hH:H l = some (.lst xs)):xs.length ≤ sizeLine ∧ ∃ (its:List Value) (n:Nat),Vals xs its ∧ xs.length = its.length ∧ s.heap.get? l = some { cls:=.type "list",data:=.seq its.toArray n }:=by
 obtain ⟨z,its,n,r,e⟩:=I.hok l _ hH
 exact ⟨z,its,n,r,r.length,e⟩
theorem ZnU {n:Nat} (h:n ≤ sizeLine):Builtin.List.listTooLong n = false:=by
 unfold Builtin.List.listTooLong
 exact decide_eq_false (by omega)
end
section
variable {X:Cx}
noncomputable def Zlm:V → List V → Hp → VK → Prop:=fun x vs H Q=>∃ l xs y,x = .ref l ∧ vs = [y] ∧ H l = some (.lst xs) ∧ xs.length < sizeLine ∧ Q .non (upd H l (.lst (xs ++ [y])))
theorem ZhW:MtM X "list.append" Zlm:=by
 intro pins s σ H x vs v us Q I rx rv h
 obtain ⟨l,xs,y,rfl,rfl,hH,hz,q⟩:=h
 cases rx
 obtain ⟨u,rfl,ru⟩:=rv.one
 obtain ⟨z,its,n,r,hl,e⟩:=I.lstM hH
 refine call_meets F.slot_list_append ⟨_,e,rfl⟩ F.entry_list_append (F.args_list_append_2 _ _) (PySem.list_append l its.toArray n u (by rw [List.size_toArray]; exact lC 2 2268279672881 T1 hl z)) ⟨e,?_⟩
 refine ⟨.non,_,I.lset (its':=its ++ [u]) hH e (by simp) (r.append (.cons ru .nil)) ?_,rfl,q⟩
 rw [List.length_append,List.length_singleton]
 exact lB 1 6991908881 T1 hz
def Zt9:R2:=fun x y H Q=>∃ l b xs zs,x = .ref l ∧ y = .ref b ∧ H l = some (.lst xs) ∧ H b = some (.lst zs) ∧ xs.length + zs.length ≤ sizeLine ∧ ∀ p,H p = none → Q (.ref p) (upd H p (.lst (xs ++ zs)))
theorem Zq0:OpR X (binaryOp .Add) Zt9:=by
 intro pins s σ H x y v u Q I rx ry h
 obtain ⟨l,b,xs,zs,rfl,rfl,hH,hB,hz,q⟩:=h
 cases rx
 cases ry
 obtain ⟨z,its,n,r,hl,e⟩:=I.lstM hH
 obtain ⟨z2,its2,n2,r2,hl2,e2⟩:=I.lstM hB
 refine PySem.P.add_list e e2 ?_ (by rw [List.size_toArray,List.size_toArray]; exact lE 3 0x413c0402c0132311031 T1 hl2 hl hz)
 have ea:its.toArray ++ its2.toArray = (its ++ its2).toArray:=by simp
 rw [ea]
 exact ⟨.ref _,_,I.lnew (t':=s.toks) (r.append r2) (by rw [List.length_append]; exact hz),rfl,q _ I.fresh⟩
def ZtT:R2:=fun x y H Q=>∃ l k xs,x = .ref l ∧ y = .int k ∧ H l = some (.lst xs) ∧ -(2 ^ 63) ≤ k ∧ k < 2 ^ 63 ∧ xs.length * k.toNat ≤ sizeLine ∧
 ∀ p,H p = none → Q (.ref p) (upd H p (.lst (List.replicate k.toNat xs).flatten))
theorem len_rep {α:Type} (xs:List α) (k:Nat):(List.replicate k xs).flatten.length = k * xs.length:=by
 induction k with
 | zero=>simp
 | succ k ih=>rw [List.replicate_succ,List.flatten_cons,List.length_append,ih,Nat.succ_mul,Nat.add_comm]
theorem Zqw:OpR X (binaryOp .Mult) ZtT:=by
 intro pins s σ H x y v u Q I rx ry h
 obtain ⟨l,k,xs,rfl,rfl,hH,h1,h2,hz,q⟩:=h
 cases rx
 obtain ⟨t,rfl⟩:=ry
 obtain ⟨z,its,n,r,hl,e⟩:=I.lstM hH
 have hlen:its.toArray.size * k.toNat ≤ sizeLine:=by rw [List.size_toArray,← hl]; exact hz
 have hcap:¬ its.toArray.size * k.toNat > (2 ^ 63 - 1) / 8:=by
  have:(sizeLine:Nat) ≤ (2 ^ 63 - 1) / 8:=by decide
  omega
 have hfit:¬ (!Builtin.List.listFitsIndex k) = true:=by
  rw [fitsIndex_both h1 h2]
  exact Bool.false_ne_true
 have hlong:¬ Builtin.List.listTooLong (its.toArray.size * k.toNat) = true:=by
  rw [ZnU hlen]
  exact Bool.false_ne_true
 have hnew:List.foldl (fun x1 x2=>x1 ++ x2) #[] (List.replicate (if its.toArray.isEmpty = true then 0 else k.toNat) its.toArray) = (List.replicate k.toNat its).flatten.toArray:=by
  have f0:∀ m:Nat,List.foldl (fun x1 x2=>x1 ++ x2) #[] (List.replicate m its.toArray) = (List.replicate m its).flatten.toArray:=fun m=>by
   have:=foldl_rep its m []
   rw [List.nil_append] at this
   exact this
  rw [f0]
  cases its with
  | nil=>simp
  | cons a r'=>rw [if_neg (by simp)]
 refine wpAny_binaryOp_repeat_ref (T:="list") (U:="int") (by decide) ⟨_,e,rfl⟩ (fun s'=>typeIs_int s' k t) noFill_list_mul F.fills_int_mul F.slot_int_rmul repeat_list F.slot_int_index.lookup
  (call_meets F.slot_int_rmul (typeIs_int s k t) F.entry_int_rmul (F.args_int_rmul_2 _ _) (int___rmul___int_list k t l its.toArray n)
   ⟨e,rfl,⟨_,e,rfl⟩,call_meets F.slot_list_mul ⟨_,e,rfl⟩ F.entry_list_mul (F.args_list_mul_2 _ _) (AutoListH.list___mul___list_int_3 l its.toArray n k t hfit hcap hlong) ⟨e,?_⟩⟩)
 rw [hnew]
 exact ⟨.ref _,_,I.lnew (t':=s.toks) (r.rep k.toNat) (by rw [len_rep,Nat.mul_comm]; exact hz),rfl,q _ I.fresh⟩
end
section
variable {prog:Program} {w:World} {A:Around} {E:Value → Shared → Prop} {s:Shared}
end
section
variable {X:Cx}
end
end L2
namespace Att
open PySem PySem.W PySem.Calls PyProof.Rows
theorem Zgk {P:Params} {h:Heap}:∀ (ns:List Int) (vs:List Value),WellAll P h vs (ns.map WData.int) → IntsAre vs ns:=by
 intro ns
 induction ns with
 | nil=>
  intro vs w
  rw [List.map_nil] at w
  cases w
  exact .nil
 | cons n ns ih=>
  intro vs w
  rw [List.map_cons] at w
  cases w with
  | cons a b=>
   cases a
   exact .cons _ _ (ih _ b)
theorem Zmi {l:OpenLaw} {n:Nat} (hn:l.most = some n) {P:Params} {h:Heap} {args:List WData} {vals:List Value}
  (hpre:l.row.toRowW.claim.pre args = true) (hwl:WellAll P h vals args):
  ∃ a vs ns,vals = [Value.ref a] ∧ args = [WData.list (ns.map WData.int)] ∧ h.get? a = some { cls:=.type "list",data:=.seq vs.toArray } ∧ IntsAre vs ns ∧ ns.length ≤ n:=by
 have hsh:WShape.hasAll [] args [.list .int] = true:=(pre_splitW hpre).1
 have hc:l.pre.holds [] { args:=args } = true:=(pre_splitW hpre).2
 obtain ⟨d,r,rfl,h1,h2⟩:=hasAllW_cons hsh
 obtain rfl:=hasAllW_nil h2
 obtain ⟨xs,rfl,h3⟩:=hasW_list h1
 obtain ⟨ns,rfl⟩:=items_int h3
 have hlen:ns.length ≤ n:=by
  unfold OpenLaw.pre at hc
  have h4:(WTm.not (.lt (.lit (.int (n:Int))) (.len (.arg 0)))).holds [] { args:=[.list (ns.map .int)] } = true:=by
   have h4:=(holds_andW hc).1
   rw [hn] at h4
   exact h4
  have h5:=condW_of h4 (w_not (w_lt w_lit (w_len_list (w_arg rfl))))
  rw [List.length_map] at h5
  refine Nat.le_of_not_lt fun q=>?_
  have q':(n:Int) < ((ns.length:Nat):Int):=by exact Int.ofNat_lt.2 q
  first
   | (rw [decide_eq_true q'] at h5; exact absurd h5 (by decide))
   | (simp at h5; omega)
 cases hwl with
 | cons w1 w2=>
  cases w2
  cases w1 with
  | list ho hall=>exact ⟨_,_,ns,rfl,rfl,ho,Zgk ns _ hall,hlen⟩
theorem Zl3 (l:OpenLaw) (args:List WData):l.row.toRowW.claim.post args (.bool true) args = true:=
 postW_of (r:=l.row.toRowW) (X:=(true == true))
  (show WShape.has [] (.bool true) .bool = true by first | rfl | decide | simp [WShape.has,WShape.arms,WShape.armsAll])
  (show (WTm.eq .res (.lit (.bool true))).value [] { args:=args,res:=some (.bool true),after:=args } = some (.bool (true == true)) from w_eq_bool (w_res rfl) w_lit) rfl
theorem attach_call {l:OpenLaw} {n:Nat} {q:Program} {loose:List Str} {XP:(Str → Option Value) → Heap → Prop} {YP:World → Heap → Prop} {d:DefRec}
  (hn:l.most = some n) (hdf:d.params.defaults = [])
  (call:∀ (w:World) (s₀ s₁:Shared) (mg mb:Str → Option Value) (fa:Addr) (o:Obj) (pm cd doc:Value) (a:Addr) (vs:List Value) (ns:List Int),
   Ground q loose [] XP w s₀ mg mb s₁.heap → YP w s₁.heap →
   s₁.heap.get? fa = some o → o.data = .func (docDef d.name d.params d.body d.scope pm cd doc) → s₁.heap.CodeRec cd d.name → mg d.name = some (.ref fa) →
   s₁.heap.get? a = some { cls:=.type "list",data:=.seq vs.toArray } → IntsAre vs ns → ns.length ≤ n → s₁.gens = #[] →
   codeAny (model l.prog w) callerA (.call (.ref fa) ⟨[.ref a],[]⟩) (fun r s'=>r = .ok (.ret (.bool true)) ∧ OldK s₁.heap s'.heap ∧ s'.os = s₁.os ∧ AllBare s'.gens) s₁):
  WalkO q loose XP YP l.row.toRowW d [] (fun f vs=>PySem.call f vs):=by
 intro w s₀ s₁ mg mb G Y fa o pm cd doc dV kV ho hd hcd hD hmg hg args vals as hpre hlay hrd hwl hlo
 obtain rfl:dV = .none:=Dflts.none hD hdf
 obtain rfl:kV = .none:=Dflts.noKw hD
 obtain ⟨a,vs,ns,rfl,rfl,hobj,hints,hlen⟩:=Zmi hn hpre hwl
 refine enter_call (codeAny_mono (call w s₀ s₁ mg mb fa o pm cd doc a vs ns G Y ho (fd_plain hd) hcd hmg hobj hints hlen hg) fun r s' hq=>?_)
 obtain ⟨rfl,h2,h3,h4⟩:=hq
 exact ⟨.inl ⟨.bool true,.bool true,[],rfl,fun _=>rfl,.bool true,Zl3 l _,fun _=>⟨List.Pairwise.nil,fun _ hm=>(nomatch hm)⟩⟩,h2,h3,h4⟩
section
variable {prog:Program} {w:World} {A:Around} {E:Value → Shared → Prop} {s:Shared} {K:Frag}
end
end Att
namespace L2
open PySem PySem.Spec PyProof.Rows
theorem ZhE:∀ {vs:List Value} {ns:List Int},IntsAre vs ns → Vals (ns.map V.int) vs
 | _,_,.nil=>.nil
 | _,_,.cons n t h=>.cons ⟨t,rfl⟩ (ZhE h)
def Only (H:Hp):Prop:=∀ b,H b = none ∨ ∃ o xs,H b = some (.frz o (.lst xs))
theorem Znq {P:Program} {w:World} {K:PySem.W.Frag} {mg mb:Str → Option Value} {CX:CXT} {k:Nat} {fa a:Addr} {fd:FuncData} {x:Str} {sp:Sp} {s₁:Shared} {vs:List Value} {ns:List Int}
  (KX:K.In s₁.heap) (hns:s₁.heap.Ns mainGlobals mg) (hb:s₁.heap.Ns builtinsNs mb) (hbb:∀ x:Str,x ≠ "__name__" → mb x = bootBuiltins x) (hlim:s₁.heap.NoLimit) (hg:s₁.gens = #[])
  (ha:s₁.heap.get? a = some { cls:=.type "list",data:=.seq vs.toArray }) (hi:IntsAre vs ns) (hl:ns.length ≤ sizeLine) (hr:Zbr k callerA)
  (F:∀ base:Heap,K.In base → base.Ns mainGlobals mg → ZcD P w K mg base CX k fa fd [x] sp) (hbind:∀ (s:Shared) (u:Value),BindsTo s fd ⟨[u],[]⟩ [(x,u)])
  (hsp:∀ H:Hp,Only H → SqL K H a (ns.map V.int) → sp [.ref a] H (fun v _=>v = .bl true) fun _ _ _=>False)
  (hCX:∀ H e s',CX [] H s₁ (fun _ _ _=>False) e s' → False):
  codeAny (model P w) callerA (.call (.ref fa) ⟨[.ref a],[]⟩) (fun r s'=>r = .ok (.ret (.bool true)) ∧ OldK s₁.heap s'.heap ∧ s'.os = s₁.os ∧ AllBare s'.gens) s₁:=by
 have rv:=ZhE hi
 have lenV:=hi.length
 have core:∀ H:Hp,Only H → SqL K H a (ns.map V.int) → HOk P w H s₁.heap → (∀ b,H b ≠ none → b = a) → (H a ≠ none → K.lookup a = none) →
   codeAny (model P w) callerA (.call (.ref fa) ⟨[.ref a],[]⟩) (fun r s'=>r = .ok (.ret (.bool true)) ∧ OldK s₁.heap s'.heap ∧ s'.os = s₁.os ∧ AllBare s'.gens) s₁:=by
  intro H hO hS hok hA hK
  have base_of:∀ {b:Addr} {o:Obj},s₁.heap.get? b = some o → H b = none → (ZiC s₁.heap H).get? b = some o:=fun e n=>Zna e n
  have noA:∀ {b:Addr} {o:Obj} {es:Array DictEntry} {ep:Nat},s₁.heap.get? b = some o → o.data = .dict es ep → H b = none:=fun {b o es ep} e d=>by
   cases q:H b with
   | none=>rfl
   | some u=>
    have e':b = a:=hA b (by rw [q]; simp)
    subst e'
    rw [ha] at e; cases e
    have d':Data.seq vs.toArray _ = Data.dict es ep:=d
    cases d'
  have nsK:∀ {b:Addr} {m:Str → Option Value},s₁.heap.Ns b m → (ZiC s₁.heap H).Ns b m:=fun {b m} ⟨o,es,ep,e,d,r⟩=>⟨o,es,ep,base_of e (noA e d),d,r⟩
  have hKb:K.In (ZiC s₁.heap H):=fun b o e=>base_of (KX b o e) (by
   cases q:H b with
   | none=>rfl
   | some u=>
    have e':b = a:=hA b (by rw [q]; simp)
    subst e'
    rw [hK (by rw [q]; simp)] at e; cases e)
  have hM:Mod K mg (ZiC s₁.heap H):=⟨hKb,nsK hns,⟨mb,nsK hb,hbb⟩,let ⟨mc,h1,h2⟩:=hlim; ⟨mc,nsK h1,h2⟩⟩
  have e0:Zhp P w K mg (ZiC s₁.heap H) callerA [] s₁ H:=⟨rfl,hM,fun b o e=>ZpC e,Nat.le_of_eq (ZlK _ _),trivial,fun b hb=>absurd (show b ∈ ([]:List Addr) from hb) (by simp),hok,.of_eq hg⟩
  refine codeAny_mono ((F _ hKb (nsK hns)).run callerA [] s₁ H ⟨[.ref a],[]⟩ [.ref a] [.ref a] _ _ hr e0 (hbind s₁ (.ref a)) (.cons rfl .nil) (hsp H hO hS)) fun r s' h=>?_
  cases r with
  | error e=>exact (hCX H e s' h).elim
  | ok fl=>
   cases fl with
   | next=>exact False.elim h
   | brk=>exact False.elim h
   | cont=>exact False.elim h
   | ret u=>
    obtain ⟨v,H',os,bare,un,hok',r',q⟩:=h
    have q':v = .bl true:=q
    subst q'
    obtain rfl:u = Value.bool true:=r'
    refine ⟨rfl,OldK.of_keep fun b o e=>?_,os,bare⟩
    cases q:H b with
    | none=>exact un.keep b o e q (by intro z; exact absurd (show b ∈ ([]:List Addr) from z) (by simp)) (by simp)
    | some u=>
     rcases hO b with z | ⟨ob,xs,z⟩
     ·rw [q] at z; cases z
     ·have z2:=un.frzs b ob _ z
      obtain ⟨e1,_⟩:=hok b _ z
      obtain ⟨e2,_⟩:=hok' b _ z2
      rw [e] at e1; cases e1
      exact e2
 cases hk:K.lookup a with
 | some o=>
  have e:=KX a o hk
  rw [ha] at e
  cases e
  refine core (fun _=>none) (fun _=>.inl rfl) (.inr ⟨_,vs.toArray,_,hk,rfl,rfl,rfl,by rw [List.size_toArray,lenV]; exact hl,by simpa using rv⟩) (fun b u z=>by have z':(none:Option HO) = some u:=z; cases z') (fun b z=>absurd rfl z) fun z=>absurd rfl z
 | none=>
  refine core (fun b=>if b = a then some (.frz { cls:=.type "list",data:=.seq vs.toArray } (.lst (ns.map V.int))) else none) (fun b=>?_) (.inl (.inr ⟨{ cls:=.type "list",data:=.seq vs.toArray },if_pos rfl⟩)) (fun b u z=>?_) (fun b z=>?_) fun _=>hk
  ·by_cases hb:b = a
   ·exact .inr ⟨_,_,if_pos hb⟩
   ·exact .inl (if_neg hb)
  ·by_cases hb:b = a
   ·have z':=(if_pos hb).symm.trans z
    cases z'
    subst hb
    exact ⟨ha,by rw [List.length_map]; exact hl,vs,_,rv,ha⟩
   ·have z':=(if_neg hb).symm.trans z
    cases z'
  ·by_cases hb:b = a
   ·exact hb
   ·exact absurd (if_neg hb) z
end L2
namespace L2
open PySem PySem.Spec PyProof.Rows
theorem ZlG {l:PySem.W.OpenLaw} {n k:Nat} {q:Program} {loose:List Str} {XP:(Str → Option Value) → Heap → Prop} {YP:World → Heap → Prop} {d:DefRec} {K:Params → PySem.W.Frag} {CX:World → CXT} {sp:World → Sp} {x:Str}
  (hn:l.most = some n) (hn2:n ≤ sizeLine) (hdf:d.params.defaults = []) (hr:Zbr k callerA)
  (hY:∀ (w:World) (h:Heap),YP w h → (K w.params).In h)
  (F:∀ (w:World) (mg:Str → Option Value) (fa:Addr) (h:Heap),(K w.params).In h → h.Ns mainGlobals mg → mg d.name = some (.ref fa) →
   ∃ fd:FuncData,(∀ (s:Shared) (u:Value),BindsTo s fd ⟨[u],[]⟩ [(x,u)]) ∧
    ∀ base:Heap,(K w.params).In base → base.Ns mainGlobals mg → ZcD l.prog w (K w.params) mg base (CX w) k fa fd [x] (sp w))
  (hsp:∀ (w:World) (H:Hp) (a:Addr) (ns:List Int),ns.length ≤ n → Only H → SqL (K w.params) H a (ns.map V.int) → sp w [.ref a] H (fun v _=>v = .bl true) fun _ _ _=>False)
  (hCX:∀ (w:World) (H:Hp) (s:Shared) (e:Value) (s':Shared),CX w [] H s (fun _ _ _=>False) e s' → False):
  PySem.W.WalkO q loose XP YP l.row.toRowW d [] (fun f vs=>PySem.call f vs):=by
 refine Att.attach_call hn hdf fun w s₀ s₁ mg mb fa o pm cd doc a vs ns G Y ho hd hcd hmg hobj hints hlen hg=>?_
 have KX:=hY w _ Y
 obtain ⟨fd,hb,hF⟩:=F w mg fa _ KX G.T.g hmg
 exact Znq KX G.T.g G.T.b G.T.builtins G.T.nolimit hg hobj hints (Nat.le_trans hlen hn2) hr hF hb (fun H hO hS=>hsp w H a ns hlen hO hS) fun H e s'=>hCX w H s₁ e s'
end L2
/- THE LAST THEOREM (shape; LID,My.* are yours):
  My.Adr: a structure of the addresses that your layer names (classes,functions); My.Txt K t: a structure (Prop) of the equations over K;
  My.txt_mk:{K} {implicit addresses ..} (e1:nsIn K mainGlobals "law" = some (some (.ref f))) (e2:K.lookup f = some ⟨oc,od,.func (fnOf "law" "law" params body scope dV kV doc pm an cdv ct),sl⟩) (e3:codeIn K cdv "law" = true) ..:∃ t,My.Txt K t
set_option maxRecDepth 100000 in
set_option maxHeartbeats 0 in
theorem PySem.Challenge.cw_LID_holds : PySem.Challenge.rw_LID.Holds := by
 w_on; o_law; k_head; (case hw=>w_witness2)
 k_fill
 refine L2.ZlG (l:=PySem.Challenge.rw_LID) (n:=63) (k:=40) (x:="script") (CX:=fun w=>..) (sp:=fun _=>My.sp_law) rfl (by decide) rfl ⟨rfl,by decide,by decide⟩ (fun w h Y=>PySem.W.kIn_of Y) ?F ?S ?C
 case F=>
  intro w mg fa h KX G hmg
  have T:∃ t,My.Txt (L2.KOf KX) t:=by
   dsimp only [L2.KOf]                          -- K must stand as «<heap const> w.params» for k_is
   refine' My.txt_mk ?e1 ?e2 ?e3 ..
   (case e1=>PySem.W.k_is)                    -- in the order: a name -> its address -> its object -> its parts
   (case e2=>PySem.W.k_is)
   ..
  obtain ⟨t,T⟩:=T
  have e0:=hmg.symm.trans (PySem.W.mg_of KX G T.law)
  cases e0                                       -- fa is the law's own address
  exact ⟨_,fun s u=>.of_eq rfl,fun base kb nb=>My.law_fn T kb nb⟩     -- if «.of_eq rfl» comes too early: refine' ⟨_,?b,fun base kb nb=>My.law_fn T kb nb⟩; exact fun s u=>.of_eq rfl
 case S=>exact fun w H a ns hl hO hS=>..
 case C=>exact ..
(the tactic k_is has no namespace: write k_is) -/
namespace L2
open PySem PySem.Spec PyProof.Rows
noncomputable def Zaq (s:Stmt):Arguments:=match s with
 | .FunctionDef _ a _ _ _ _ _ _ _ _=>a
 | _=>{ posonlyargs:=[],args:=[],vararg:=none,kwonlyargs:=[],kw_defaults:=[],kwarg:=none,defaults:=[] }
noncomputable def Zah (s:Stmt):List Stmt:=match s with
 | .FunctionDef _ _ b _ _ _ _ _ _ _=>b
 | _=>[]
noncomputable def Zh (s:Stmt):Scope:=match s with
 | .FunctionDef _ _ _ _ _ _ sc _ _ _=>sc
 | _=>{ kind:=.function,names:=[],isGenerator:=false,isCoroutine:=false }
noncomputable abbrev CX0:CXT:=fun _ _ _ _ _ _=>False
noncomputable abbrev E0:XK:=fun _ _ _=>False
theorem Zlk {X:Cx}:Ze6 CX0 X E0:=fun _ _ _ _ _ _ _ h=>h.elim
structure Fun (K:PySem.W.Frag) (x qual:Str) (st:Stmt) (f:Addr) (fd:FuncData):Prop where
 ex:∃ (oc:Value) (od:Option Addr) (dV kV doc pm:Value) (an:Option Addr) (cdv ct:Value) (osl:Array (Option Value)),
  fd = PySem.W.fnOf x qual (Zaq st) (Zah st) (Zh st) dV kV doc pm an cdv ct ∧ K.lookup f = some ⟨oc,od,.func fd,osl⟩ ∧ PySem.W.codeIn K cdv qual = true
 kp:PySem.W.keepIn K (.ref f) = true
section
variable {P:Program} {w:World} {K:PySem.W.Frag} {mg:Str → Option Value} {base:Heap}
theorem Fun.ok {x qual:Str} {st:Stmt} {f:Addr} {fd:FuncData} {N ps:List Str} {k:Nat} {sp:Sp} (F:Fun K x qual st f fd) (S:Zar N ps (Zh st)) (len:∀ vs H Q E,sp vs H Q E → vs.length = ps.length)
  (hbody:∀ (cdv:Value) (A:Around) (outer:List Env) (s:Shared) (H:Hp) (vs:List V) (Q:VK) (E:XK),Zbr k (A.deeper (envOfC qual (Zh st) s.heap.objs.size f cdv)) → sp vs H Q E →
   ∃ t,PSs (ZfS CX0 P w K mg base N qual (Zh st) f cdv A outer s H E).nox (Zah st) t ∧ t { nx:=fun _ H'=>Q .non H',rt:=Q } (start N vs) H):ZcD P w K mg base CX0 (k + 1) f fd ps sp:=by
 obtain ⟨oc,od,dV,kV,doc,pm,an,cdv,ct,osl,rfl,lk,hcd⟩:=F.ex
 refine ZpF lk hcd S len fun A outer s H vs Q E hr hsp=>?_
 obtain ⟨t,h,q⟩:=hbody cdv A outer s H vs Q E hr hsp
 exact ⟨t,h.nox,q⟩
theorem Fun.binds {x qual:Str} {st:Stmt} {f:Addr} {fd:FuncData} {ps:List Str} (F:Fun K x qual st f fd)
  (h:∀ (dV kV doc pm:Value) (an:Option Addr) (cdv ct:Value) (us:List Value),us.length = ps.length → bindArgs (PySem.W.fnOf x qual (Zaq st) (Zah st) (Zh st) dV kV doc pm an cdv ct) ⟨us,[]⟩ = pure (ps.zip us)):Binds K fd ps []:=by
 obtain ⟨oc,od,dV,kV,doc,pm,an,cdv,ct,osl,rfl,lk,hcd⟩:=F.ex
 exact .all (h dV kV doc pm an cdv ct)
theorem ZnS {x qual:Str} {st:Stmt} {f:Addr} {oc:Value} {od an:Option Addr} {osl:Array (Option Value)} {dV kV doc pm cdv ct:Value} (l:K.lookup f = some ⟨oc,od,.func (PySem.W.fnOf x qual (Zaq st) (Zah st) (Zh st) dV kV doc pm an cdv ct),osl⟩)
  (c:PySem.W.codeIn K cdv qual = true) (k:PySem.W.keepIn K (.ref f) = true):Fun K x qual st f (PySem.W.fnOf x qual (Zaq st) (Zah st) (Zh st) dV kV doc pm an cdv ct):=⟨⟨oc,od,dV,kV,doc,pm,an,cdv,ct,osl,rfl,l,c⟩,k⟩
end
section
variable {X:Cx}
end
def Zpc (H H':Hp):Prop:=∀ b o,H b = some o → H' b = some o
theorem Zpc.free {H H':Hp} (e:Zpc H H') {l:Addr} (h:H' l = Option.none):H l = Option.none:=by
 cases q:H l with
 | none=>rfl
 | some o=>
  rw [e l o q] at h
  cases h
theorem Zpc.seq {K:PySem.W.Frag} {H H':Hp} {a:Addr} {xs:List V} (e:Zpc H H') (h:SqL K H a xs):SqL K H' a xs:=by
 rcases h with (h | ⟨o,h⟩) | h
 ·exact .inl (.inl (e _ _ h))
 ·exact .inl (.inr ⟨o,e _ _ h⟩)
 ·exact .inr h
end L2
namespace L2
open PySem PySem.Spec PyProof.Rows
section
variable {κ:Type} [DecidableEq κ]
noncomputable def ZeM (kvs:List (κ × V)) (k:κ):Option V:=(kvs.find? fun kv=>decide (kv.1 = k)).map (·.2)
noncomputable def putK (kvs:List (κ × V)) (k:κ) (v:V):List (κ × V):=
 if (kvs.any fun kv=>decide (kv.1 = k)) = true then kvs.map (fun kv=>if kv.1 = k then (kv.1,v) else kv) else kvs ++ [(k,v)]
theorem Zm7 {k:κ}:ZeM ([]:List (κ × V)) k = none:=rfl
theorem Zg1 {p:κ × V} {r:List (κ × V)} {k:κ} (e:p.1 = k):ZeM (p :: r) k = some p.2:=by simp [ZeM,List.find?_cons,e]
theorem ZgR {p:κ × V} {r:List (κ × V)} {k:κ} (e:¬ p.1 = k):ZeM (p :: r) k = ZeM r k:=by simp [ZeM,List.find?_cons,e]
theorem ZjV (kvs:List (κ × V)) (k:κ) (v:V):(putK kvs k v).length ≤ kvs.length + 1:=by
 unfold putK
 split
 ·rw [List.length_map]; exact Nat.le_add_right _ _
 ·rw [List.length_append,List.length_cons,List.length_nil]; exact lA 0 43162452160 T1
theorem ZfE.getD {o:Option V} {u:Option Value} {d:V} {d':Value} (r:ZfE o u) (rd:RelV d d'):RelV (o.getD d) (u.getD d'):=by
 cases o with
 | none=>cases u with
  | none=>exact rd
  | some _=>exact (show False from r).elim
 | some _=>cases u with
  | none=>exact (show False from r).elim
  | some _=>exact r
theorem KV.val {kvs:List (κ × V)} {vs:List (κ × Value)} (r:KV kvs vs) (k:κ):ZfE (ZeM kvs k) (valueAt vs k):=by
 unfold KV at r
 induction r with
 | nil=>exact True.intro
 | @cons p q ps qs h t ih=>
  obtain ⟨h1,h2⟩:=h
  by_cases e:p.1 = k
  ·have e':q.1 = k:=h1.symm.trans e
   have b:valueAt (q :: qs) k = some q.2:=by simp [valueAt,List.find?_cons,e']
   rw [Zg1 e,b]; exact h2
  ·have e':¬ q.1 = k:=fun z=>e (h1.trans z)
   have b:valueAt (q :: qs) k = valueAt qs k:=by simp [valueAt,List.find?_cons,e']
   rw [ZgR e,b]; exact ih
theorem KV.any {kvs:List (κ × V)} {vs:List (κ × Value)} (r:KV kvs vs) (k:κ):(kvs.any fun kv=>decide (kv.1 = k)) = vs.any fun kv=>decide (kv.1 = k):=by
 unfold KV at r
 induction r with
 | nil=>rfl
 | cons h t ih=>rw [List.any_cons,List.any_cons,ih,h.1]
theorem KV.repl {kvs:List (κ × V)} {vs:List (κ × Value)} (r:KV kvs vs) (k:κ) {y:V} {u:Value} (ry:RelV y u):
  KV (kvs.map fun kv=>if kv.1 = k then (kv.1,y) else kv) (vs.map fun kv=>if kv.1 = k then (kv.1,u) else kv):=by
 unfold KV at r ⊢
 induction r with
 | nil=>exact .nil
 | @cons p q ps qs h t ih=>
  rw [List.map_cons,List.map_cons]
  refine .cons ?_ ih
  obtain ⟨h1,h2⟩:=h
  by_cases e:p.1 = k
  ·rw [if_pos e,if_pos (h1.symm.trans e)]; exact ⟨h1,ry⟩
  ·rw [if_neg e,if_neg (fun z=>e (h1.trans z))]; exact ⟨h1,h2⟩
theorem KV.put {kvs:List (κ × V)} {vs:List (κ × Value)} (r:KV kvs vs) (k:κ) {y:V} {u:Value} (ry:RelV y u):KV (putK kvs k y) (stored vs k u):=by
 unfold putK stored
 rw [r.any k]
 by_cases e:(vs.any fun kv=>decide (kv.1 = k)) = true
 ·rw [if_pos e,if_pos e]; exact r.repl k ry
 ·rw [if_neg e,if_neg e]; exact Paired.snoc r ⟨rfl,ry⟩
theorem KV.keys {kvs:List (κ × V)} {vs:List (κ × Value)} (r:KV kvs vs):kvs.map (·.1) = vs.map (·.1):=by
 unfold KV at r
 induction r with
 | nil=>rfl
 | cons h t ih=>rw [List.map_cons,List.map_cons,ih,h.1]
theorem KV.length {kvs:List (κ × V)} {vs:List (κ × Value)} (r:KV kvs vs):kvs.length = vs.length:=Paired.length r
end
theorem Zoh {P:Program} {w:World} {k:Key} {u:Value} (r:RelV (kV k) u):(Za0 P w).is k u = true:=by
 cases k with
 | inl i=>obtain ⟨t,e⟩:=(show ∃ t,u = Value.int i t from r); subst e; exact Zja P w i t
 | inr x=>obtain ⟨t,e⟩:=(show ∃ t,u = Value.str x t from r); subst e; exact Zju P w x t
theorem ZhM {P:Program} {w:World}:∀ {ks:List Key} {us:List Value},Vals (ks.map kV) us → ItemsAre (Za0 P w) ks us
 | [],_,r=>by rw [List.map_nil] at r; cases r; exact .nil
 | k :: ks,_,r=>by
  rw [List.map_cons] at r
  cases r with
  | cons h t=>exact .cons (Zoh h) (ZhM t)
noncomputable abbrev KT (H:Hp):List (List Key × V) → List (List Key × Addr × Value) → Prop:=Paired fun p q=>p.1 = q.1 ∧ H q.2.1 = some (.tup (p.1.map kV)) ∧ RelV p.2 q.2.2
theorem KT.val {H:Hp} {kvs:List (List Key × V)} {xs:List (List Key × Addr × Value)} (r:KT H kvs xs) (k:List Key):ZfE (ZeM kvs k) ((atKey xs k).map (·.2)):=by
 induction r with
 | nil=>exact True.intro
 | @cons p q ps qs h t ih=>
  obtain ⟨h1,_,h2⟩:=h
  by_cases e:p.1 = k
  ·have e':q.1 = k:=h1.symm.trans e
   have b:atKey (q :: qs) k = some q.2:=by simp [atKey,List.find?_cons,e']
   rw [Zg1 e,b]; exact h2
  ·have e':¬ q.1 = k:=fun z=>e (h1.trans z)
   have b:atKey (q :: qs) k = atKey qs k:=by simp [atKey,List.find?_cons,e']
   rw [ZgR e,b]; exact ih
theorem KT.keeps {H H':Hp} {kvs:List (List Key × V)} {xs:List (List Key × Addr × Value)} (r:KT H kvs xs) (ht:∀ b ys,H b = some (.tup ys) → H' b = some (.tup ys)):KT H' kvs xs:=
 Paired.mapP r fun _ _ z=>⟨z.1,ht _ _ z.2.1,z.2.2⟩
section
variable {P:Program} {w:World} {H:Hp} {h:Heap} {a:Addr}
theorem Zp0 {u:HO} (ok:HOk P w H h) (e:Rd H a u):Za7 P w H h a u:=e.ok ok
theorem Zoj {kvs:List (Key × V)} (ok:HOk P w H h) (e:Rd H a (.dK kvs)):kvs.length ≤ sizeLine ∧ (a == sysModules) = false ∧ ∃ vs,KV kvs vs ∧ h.DictOf (Za0 P w) a vs:=
 show Za7 P w H h a (.dK kvs) from Zp0 ok e
theorem ZnM {ks:List Key} (ok:HOk P w H h) (e:H a = some (.tup (ks.map kV))):(tupleKind (Za0 P w)).is h ks a:=by
 obtain ⟨_,its,r,o,h1,h2,n,h3⟩:=(show Za7 P w H h a (.tup (ks.map kV)) from ok a _ e)
 exact ⟨o,its.toArray,n,h1,h2.1,h3,by simpa using ZhM r⟩
theorem Zp1 {kvs:List (List Key × V)} (ok:HOk P w H h) (e:Rd H a (.dT kvs)):kvs.length ≤ sizeLine ∧ (a == sysModules) = false ∧
  ∃ xs,KT H kvs xs ∧ h.DictOfH (tupleKind (Za0 P w)) a xs:=by
 obtain ⟨z,y,xs,r,o,es,ep,h1,h2,h3,h4,h5⟩:=(show Za7 P w H h a (.dT kvs) from Zp0 ok e)
 refine ⟨z,y,xs,r,o,es,ep,h1,h2,h3,h4,fun x hx=>?_,h5⟩
 have all:∀ {l:List (List Key × V)} {m:List (List Key × Addr × Value)},KT H l m → ∀ x ∈ m,(tupleKind (Za0 P w)).is h x.1 x.2.1:=by
  intro l m q
  induction q with
  | nil=>intro x hx; exact nomatch hx
  | @cons p q ps qs hq t ih=>
   intro x hx
   rcases List.mem_cons.mp hx with e | hx
   ·subst e
    exact ZnM ok (by rw [← hq.1]; exact hq.2.1)
   ·exact ih x hx
 exact all r x hx
end
def ZlS (H:Hp) (a:Addr) (y:V) (r:Option V):Prop:=
 (∃ kvs k,Rd H a (.dK kvs) ∧ y = kV k ∧ r = ZeM kvs k) ∨ ∃ kvs k b,Rd H a (.dT kvs) ∧ y = .ref b ∧ H b = some (.tup (k.map kV)) ∧ r = ZeM kvs k
def ZpB (H:Hp) (a:Addr) (y v:V) (H':Hp):Prop:=
 (∃ kvs k,H a = some (.dK kvs) ∧ y = kV k ∧ kvs.length < sizeLine ∧ H' = upd H a (.dK (putK kvs k v))) ∨
 ∃ kvs k b,H a = some (.dT kvs) ∧ y = .ref b ∧ H b = some (.tup (k.map kV)) ∧ kvs.length < sizeLine ∧ H' = upd H a (.dT (putK kvs k v))
theorem ZlS.k {H:Hp} {a:Addr} {kvs:List (Key × V)} {k:Key} (e:H a = some (.dK kvs)):ZlS H a (kV k) (ZeM kvs k):=.inl ⟨kvs,k,.inl e,rfl,rfl⟩
theorem ZlS.t {H:Hp} {a b:Addr} {kvs:List (List Key × V)} {k:List Key} (e:H a = some (.dT kvs)) (eb:H b = some (.tup (k.map kV))):ZlS H a (.ref b) (ZeM kvs k):=.inr ⟨kvs,k,b,.inl e,rfl,eb,rfl⟩
theorem ZpB.k {H:Hp} {a:Addr} {kvs:List (Key × V)} {k:Key} {v:V} (e:H a = some (.dK kvs)) (hl:kvs.length < sizeLine):ZpB H a (kV k) v (upd H a (.dK (putK kvs k v))):=.inl ⟨kvs,k,e,rfl,hl,rfl⟩
theorem ZpB.t {H:Hp} {a b:Addr} {kvs:List (List Key × V)} {k:List Key} {v:V} (e:H a = some (.dT kvs)) (eb:H b = some (.tup (k.map kV))) (hl:kvs.length < sizeLine):
  ZpB H a (.ref b) v (upd H a (.dT (putK kvs k v))):=.inr ⟨kvs,k,b,e,rfl,eb,hl,rfl⟩
section
variable {X:Cx} {pins:List (Addr × Obj)} {σ:St} {H:Hp} {s:Shared} {a:Addr} {y v:V} {u r:Value} {o:Option V} {A:Around} {E:Value → Shared → Prop}
theorem Inv.big (I:Inv X pins σ H s):sysModules < s.heap.objs.size:=by
 have h:mainGlobals < s.heap.objs.size:=(I.mod.glob.keeps I.bk).lt
 exact Nat.lt_trans (by decide) h
theorem Zmy {P:Program} {w:World} {H':Hp} {h':Heap} {kvs:List (Key × V)} {vs:List (Key × Value)} (z:kvs.length ≤ sizeLine) (hd:(a == sysModules) = false) (rel:KV kvs vs) (dd:h'.DictOf (Za0 P w) a vs):
  Za7 P w H' h' a (.dK kvs):=⟨z,hd,vs,rel,dd⟩
end
section
variable {X:Cx} {pins:List (Addr × Obj)} {σ:St} {H:Hp} {s:Shared} {a:Addr} {kvs:List (Key × V)} {k:Key} {u:Value} {A:Around} {E:Value → Shared → Prop}
end
section
variable {X:Cx} {o i e value:Expr} {pos pos' tpos:Pos} {td ty tv:TE}
end
section
variable {X:Cx} {pos:Pos}
end
noncomputable def Zhd (kvs more:List (Key × V)):List (Key × V):=more.foldl (fun acc kv=>putK acc kv.1 kv.2) kvs
theorem KV.merge:∀ {more:List (Key × V)} {rs:List (Key × Value)} {kvs:List (Key × V)} {vs:List (Key × Value)},KV more rs → KV kvs vs → KV (Zhd kvs more) (merged vs rs):=by
 intro more rs kvs vs r
 unfold KV at r
 induction r generalizing kvs vs with
 | nil=>intro q; exact q
 | @cons p q ps qs h t ih=>
  intro r0
  have e:KV (putK kvs p.1 p.2) (stored vs q.1 q.2):=by
   have:=r0.put p.1 h.2
   rw [← h.1]; exact this
  exact ih e
theorem ZeV:∀ (more kvs:List (Key × V)),(Zhd kvs more).length ≤ kvs.length + more.length
 | [],kvs=>by show kvs.length ≤ kvs.length + 0; exact Nat.le_add_right _ _
 | p :: r,kvs=>by
  have h1:=ZeV r (putK kvs p.1 p.2)
  have h2:=ZjV kvs p.1 p.2
  show (Zhd (putK kvs p.1 p.2) r).length ≤ _
  rw [List.length_cons]; exact lD 2 0xa3c1c2030c201a1c001 T1 h2 h1
structure M1 (X:Cx) (o:Expr) (m:Str) (apos:Pos) (e:Expr) (cpos:Pos):Prop where
 base:attributeBase o m X.env (eval o X.env) = eval o X.env
 few:((backTo cpos (starEach [e] X.env)).all (fun x=>!x.1) && (backToKw cpos (keywordEach [] X.env)).all (fun x=>x.1.isSome)
  && decide (([e]:List Expr).length + ([]:List Keyword).length + (if ([]:List Keyword).isEmpty then 0 else 1) < 30)) = true
 line:(apos.endLine == cpos.line) = true
 trees:backTo cpos (starEach [e] X.env) = [(false,eval e X.env)]
structure M2 (X:Cx) (o:Expr) (m:Str) (apos:Pos) (e f:Expr) (cpos:Pos):Prop where
 base:attributeBase o m X.env (eval o X.env) = eval o X.env
 few:((backTo cpos (starEach [e,f] X.env)).all (fun x=>!x.1) && (backToKw cpos (keywordEach [] X.env)).all (fun x=>x.1.isSome)
  && decide (([e,f]:List Expr).length + ([]:List Keyword).length + (if ([]:List Keyword).isEmpty then 0 else 1) < 30)) = true
 line:(apos.endLine == cpos.line) = true
 trees:backTo cpos (starEach [e,f] X.env) = [(false,eval e X.env),(false,eval f X.env)]
def IsD (H:Hp) (a:Addr):Prop:=(∃ kvs,Rd H a (.dK kvs)) ∨ ∃ kvs,Rd H a (.dT kvs)
theorem Zra {X:Cx} {pins:List (Addr × Obj)} {σ:St} {H:Hp} {s:Shared} {a:Addr} (I:Inv X pins σ H s) (d:IsD H a):
  s.TypeIs (.ref a) "dict" ∧ (∀ b,Value.ref a = .ref b → ∃ ob,s.heap.get? b = some ob ∧ ob.dict = none) ∧ (a == sysModules) = false:=by
 rcases d with ⟨kvs,e⟩ | ⟨kvs,e⟩
 ·obtain ⟨_,hd,vs,_,dd⟩:=Zoj I.hok e
  refine ⟨dd.typeIs,fun b q=>?_,hd⟩
  cases q
  obtain ⟨ob,_,_,h1,h2,_⟩:=dd
  exact ⟨ob,h1,h2.2.1⟩
 ·obtain ⟨_,hd,xs,_,dd⟩:=Zp1 I.hok e
  refine ⟨dd.typeIs,fun b q=>?_,hd⟩
  cases q
  obtain ⟨ob,_,_,h1,h2,_⟩:=dd
  exact ⟨ob,h1,h2.2.1⟩
section
variable {X:Cx} {pins:List (Addr × Obj)} {σ:St} {H:Hp} {s:Shared} {a:Addr} {y d:V} {u r:Value} {o:Option V} {A:Around} {E:Value → Shared → Prop}
theorem Zqt {Q:Value → Shared → Prop} (hu:A.units + 1 < cLine) (I:Inv X pins σ H s) (g:ZlS H a y o) (ry:RelV y u) (rd:RelV d r) (h:∀ w' s',Inv X pins σ H s' → RelV (o.getD d) w' → Q w' s'):
  wpAny (model X.prog X.w) A (call (.builtin "dict.get") [.ref a,u,r]) Q E s:=by
 rcases g with ⟨kvs,k,e,ey,l⟩ | ⟨kvs,k,b,e,ey,eb,l⟩
 ·subst ey
  obtain ⟨z,hd,vs,rel,dd⟩:=Zoj I.hok e
  refine call_meetsIn PySem.F.slot_dict_get dd.typeIs PySem.F.entry_dict_get (PySem.F.args_dict_get_3 _ _ _) (meets_dict_get_default (Za0 X.prog X.w) a (Zoh ry) hd r) ⟨_,dd.mapOf,h _ _ (I.tok _) ?_⟩
  rw [l]
  exact (rel.val k).getD rd
 ·subst ey
  cases (show u = Value.ref b from ry)
  obtain ⟨z,hd,xs,rel,dd⟩:=Zp1 I.hok e
  refine call_meetsIn PySem.F.slot_dict_get dd.typeIs PySem.F.entry_dict_get (PySem.F.args_dict_get_3 _ _ _) (meetsH_dict_get_default (tupleKind (Za0 X.prog X.w)) a b hd r) ⟨tupleKind_room_in1 hu,k,xs,ZnM I.hok eb,dd,h _ _ (I.tok _) ?_⟩
  rw [l]
  exact (rel.val k).getD rd
end
def Zrm (td ty tx:TE):TE:=fun σ H Q=>td σ H fun x H1=>∃ a,x = .ref a ∧ IsD H1 a ∧ ty σ H1 fun y H2=>tx σ H2 fun z H3=>∃ o,ZlS H3 a y o ∧ Q (o.getD z) H3
section
variable {X:Cx} {o e f:Expr} {apos cpos:Pos} {td ty tx:TE}
theorem ZmO (hu:X.A.units + 1 < cLine) (ho:PE X o td) (he:PE X e ty) (hf:PE X f tx) (m:M2 X o "get" apos e f cpos):PE X (.Call (.Attribute o "get" apos) [e,f] [] cpos) (Zrm td ty tx):=by
 intro pins s σ H Q I h
 refine wpAny_Call_method m.base m.few m.line PySem.F.plainAttrs_dict PySem.F.slot_dict_get PySem.F.type_dict_get (thn (ho pins s σ H _ I h) fun u s1 zz1=>?_)
 obtain ⟨x,H1,I1,rx,a,ex,d,q1⟩:=zz1
 subst ex
 obtain rfl:u = Value.ref a:=rx
 obtain ⟨t1,t2,_⟩:=Zra I1 d
 refine ⟨t1,t2,?_⟩
 rw [m.trees]
 refine Calls.callWith_builtin rfl (Calls.evalArgs_plain (Calls.spliced_cons (thn (he pins s1 σ H1 _ I1 q1) fun iv s2 ⟨y,H2,I2,ry,q2⟩=>
  Calls.spliced_cons (thn (hf pins s2 σ H2 _ I2 q2) fun fv s3 ⟨z,H3,I3,rz,ov,g,q3⟩=>Calls.spliced_nil ?_))))
 exact Zqt hu I3 g ry rz fun w' s4 I4 rw'=>⟨_,H3,I4,rw',q3⟩
end
section
variable {X:Cx} {pins:List (Addr × Obj)} {σ:St} {H:Hp} {s:Shared} {a:Addr} {kvs:List (Key × V)} {A:Around} {E:Value → Shared → Prop}
theorem Zn8 {Q:Value → Shared → Prop} (I:Inv X pins σ H s) (e:Rd H a (.dK kvs)) (h:∀ p s',H p = none → Inv X pins σ (upd H p (.dK kvs)) s' → Q (.ref p) s'):wpAny (model X.prog X.w) A (call (.type "dict") [.ref a]) Q E s:=by
 obtain ⟨z,hd,vs,rel,dd⟩:=Zoj I.hok e
 refine kt_call_dict hd dd (by rw [← rel.length]; exact z) fun h' dd' hs=>?_
 refine h _ _ (I.hok.fresh (Nat.le_refl _)) (I.laid (a:=s.heap.objs.size) (o:=.dK kvs) (t':=s.toks) (fun b q hq=>?_) (Nat.le_refl _) (Zmy z (beq_eq_false_iff_ne.mpr (Ne.symm (Nat.ne_of_lt I.big))) rel dd'))
 exact (hs.2 b (Nat.ne_of_lt (Heap.lt_size hq))).trans (Heap.get?_push_of_some _ hq)
end
section
variable {X:Cx} {pins:List (Addr × Obj)} {σ:St} {H:Hp} {s:Shared} {a:Addr} {y:V} {u:Value} {A:Around} {E:Value → Shared → Prop}
end
end L2
namespace L3
open PySem
noncomputable section
inductive D where
 | non | bl (b:Bool) | int (i:Int) | str (x:List Nat) | tup (ds:List D) | scr (ds:List D) | ref (n:Nat)
 deriving Inhabited
noncomputable abbrev Za5:=Sum Int (List Nat)
inductive MO where
 | lst (xs:List D) | dct (kvs:List (Za5 × D)) | fdct (kvs:List (Za5 × D)) | ins (c:List Nat) (fs:List (List Nat × D))
 deriving Inhabited
noncomputable abbrev Store:=List MO
structure X3 where
 cls:List Nat
 arg:D
inductive R3 (α:Type) where
 | ok (a:α) (M:Store) | exc (x:X3) (M:Store) | bad
@[simp] noncomputable def R3.bind {α β:Type} (r:R3 α) (k:α → Store → R3 β):R3 β:=match r with
 | .ok a M=>k a M
 | .exc x M=>.exc x M
 | .bad=>.bad
theorem R3.bind_ok {α β:Type} (a:α) (M:Store) (k:α → Store → R3 β):(R3.ok a M).bind k = k a M:=rfl
theorem ft {C:Prop} (h:false = true):C:=Bool.noConfusion h
theorem nsm {α:Type} {C:Prop} {k:α} (h:none = some k):C:=by cases h
noncomputable def ZaI:Nat → D → Bool
 | _,.non=>true | _,.bl _=>true | _,.int _=>true | _,.str _=>true
 | n + 1,.tup ds=>ds.all (ZaI n)
 | _,_=>false
noncomputable abbrev DEEP:Nat:=60
mutual
noncomputable def deq:D → D → Bool
 | .non,.non=>true
 | .bl a,.bl b=>a == b
 | .int a,.int b=>a == b
 | .str a,.str b=>a == b
 | .tup a,.tup b=>Zc4 a b
 | .bl a,.int b=>(if a then 1 else 0) == b
 | .int a,.bl b=>a == (if b then 1 else 0)
 | _,_=>false
noncomputable def Zc4:List D → List D → Bool
 | [],[]=>true
 | a :: x,b :: y=>deq a b && Zc4 x y
 | _,_=>false
end
theorem Zlx:deq .non .non = true:=rfl
theorem ZkW (a b:Bool):deq (.bl a) (.bl b) = (a == b):=rfl
theorem Zk2 (a b:Int):deq (.int a) (.int b) = (a == b):=rfl
theorem Zlj (a b:List Nat):deq (.str a) (.str b) = (a == b):=rfl
theorem Zh8 (a b:List D):deq (.tup a) (.tup b) = Zc4 a b:=rfl
theorem Zip:Zc4 [] [] = true:=rfl
theorem ZfJ (a b:D) (x y:List D):Zc4 (a :: x) (b :: y) = (deq a b && Zc4 x y):=rfl
theorem Zin (n:Nat):ZaI n .non = true:=by cases n <;> rfl
theorem Zif (n:Nat) (b:Bool):ZaI n (.bl b) = true:=by cases n <;> rfl
theorem Zie (n:Nat) (i:Int):ZaI n (.int i) = true:=by cases n <;> rfl
theorem ZiV (n:Nat) (x:List Nat):ZaI n (.str x) = true:=by cases n <;> rfl
theorem Zi4 (n:Nat) (ds:List D):ZaI (n + 1) (.tup ds) = ds.all (ZaI n):=rfl
mutual
noncomputable def below (n:Nat):D → Bool
 | .tup ds=>belowL n ds
 | .scr ds=>belowL n ds
 | .ref k=>k < n
 | .non=>true | .bl _=>true | .int _=>true | .str _=>true
noncomputable def belowL (n:Nat):List D → Bool
 | []=>true
 | d :: ds=>below n d && belowL n ds
end
mutual
noncomputable def same:D → D → Bool
 | .non,.non=>true
 | .bl a,.bl b=>a == b
 | .int a,.int b=>a == b
 | .str a,.str b=>a == b
 | .tup a,.tup b=>Zh0 a b
 | .scr a,.scr b=>Zh0 a b
 | .ref a,.ref b=>a == b
 | _,_=>false
noncomputable def Zh0:List D → List D → Bool
 | [],[]=>true
 | a :: x,b :: y=>same a b && Zh0 x y
 | _,_=>false
end
mutual
theorem Zlu:∀ {a b:D},same a b = true → a = b
 | .non,b,h=>by cases b <;> first | exact rfl | exact ft h
 | .bl a,b,h=>by cases b <;> first | exact congrArg D.bl (beq_iff_eq.mp h) | exact ft h
 | .int a,b,h=>by cases b <;> first | exact congrArg D.int (beq_iff_eq.mp h) | exact ft h
 | .str a,b,h=>by cases b <;> first | exact congrArg D.str (beq_iff_eq.mp h) | exact ft h
 | .tup a,b,h=>by cases b <;> first | exact congrArg D.tup (ZgU h) | exact ft h
 | .scr a,b,h=>by cases b <;> first | exact congrArg D.scr (ZgU h) | exact ft h
 | .ref a,b,h=>by cases b <;> first | exact congrArg D.ref (beq_iff_eq.mp h) | exact ft h
theorem ZgU:∀ {x y:List D},Zh0 x y = true → x = y
 | [],y,h=>by cases y <;> first | exact rfl | exact ft h
 | a :: x,y,h=>by
  cases y with
  | nil=>exact ft h
  | cons b y=>exact have w:=Bool.and_eq_true_iff.mp (h:(same a b && Zh0 x y) = true); congr (congrArg _ (Zlu w.1)) (ZgU w.2)
end
mutual
theorem ZkP:∀ (a:D),same a a = true
 | .non=>rfl
 | .bl a=>beq_self_eq_true a
 | .int a=>beq_self_eq_true a
 | .str a=>beq_self_eq_true a
 | .tup a=>Zg4 a
 | .scr a=>Zg4 a
 | .ref a=>beq_self_eq_true a
theorem Zg4:∀ (x:List D),Zh0 x x = true
 | []=>rfl
 | a :: x=>Bool.and_eq_true_iff.mpr ⟨ZkP a,Zg4 x⟩
end
theorem same_iff {a b:D}:same a b = true ↔ a = b:=⟨Zlu,fun h=>h ▸ ZkP a⟩
noncomputable instance:DecidableEq D:=fun a b=>decidable_of_iff (same a b = true) same_iff
noncomputable instance:DecidableEq MO:=fun a b=>match a,b with
 | .lst x,.lst y=>if h:x = y then isTrue (by rw [h]) else isFalse (by intro e; cases e; exact h rfl)
 | .dct x,.dct y=>if h:x = y then isTrue (by rw [h]) else isFalse (by intro e; cases e; exact h rfl)
 | .fdct x,.fdct y=>if h:x = y then isTrue (by rw [h]) else isFalse (by intro e; cases e; exact h rfl)
 | .ins c x,.ins d y=>if h:c = d ∧ x = y then isTrue (by rw [h.1,h.2]) else isFalse (by intro e; cases e; exact h ⟨rfl,rfl⟩)
 | .ins _ _,.lst _=>isFalse (by intro e; cases e)
 | .ins _ _,.dct _=>isFalse (by intro e; cases e)
 | .ins _ _,.fdct _=>isFalse (by intro e; cases e)
 | .lst _,.ins _ _=>isFalse (by intro e; cases e)
 | .dct _,.ins _ _=>isFalse (by intro e; cases e)
 | .fdct _,.ins _ _=>isFalse (by intro e; cases e)
 | .lst _,.dct _=>isFalse (by intro e; cases e)
 | .lst _,.fdct _=>isFalse (by intro e; cases e)
 | .dct _,.lst _=>isFalse (by intro e; cases e)
 | .dct _,.fdct _=>isFalse (by intro e; cases e)
 | .fdct _,.lst _=>isFalse (by intro e; cases e)
 | .fdct _,.dct _=>isFalse (by intro e; cases e)
@[simp] noncomputable abbrev SZ:Nat:=1000000
noncomputable abbrev Zaf:=List (Option D)
noncomputable abbrev E3:=Zaf → Store → R3 D
noncomputable abbrev EL3:=Zaf → Store → R3 (List D)
noncomputable abbrev F3:=List D → Store → R3 D
inductive O3 where
 | nx (env:Zaf) (M:Store) | rt (d:D) (M:Store) | bk (env:Zaf) (M:Store) | ct (env:Zaf) (M:Store) | exc (x:X3) (M:Store) | bad
noncomputable abbrev S3:=Zaf → Store → O3
@[simp] noncomputable def Zb (i:Nat):E3:=fun env M=>match env[i]? with
 | some (some d)=>.ok d M
 | _=>.bad
@[simp] noncomputable def eC (d:D):E3:=fun _ M=>.ok d M
@[simp] noncomputable def e1 (op:D → Store → R3 D) (f:E3):E3:=fun env M=>(f env M).bind op
@[simp] noncomputable def e2 (op:D → D → Store → R3 D) (f g:E3):E3:=fun env M=>(f env M).bind fun a M1=>(g env M1).bind fun b M2=>op a b M2
@[simp] noncomputable def Zf:EL3:=fun _ M=>.ok [] M
@[simp] noncomputable def Za (f:E3) (g:EL3):EL3:=fun env M=>(f env M).bind fun a M1=>(g env M1).bind fun b M2=>.ok (a :: b) M2
@[simp] noncomputable def alloc (o:MO) (M:Store):R3 D:=.ok (.ref M.length) (M ++ [o])
section
local instance (priority:=100000) clP1 (p:Prop):Decidable p:=Classical.propDecidable p
@[simp] noncomputable def Zbg (g:EL3):E3:=fun env M=>(g env M).bind fun ds M1=>if ds.length ≤ SZ then .ok (.tup ds) M1 else .bad
end
section
local instance (priority:=100000) clP2 (p:Prop):Decidable p:=Classical.propDecidable p
@[simp] noncomputable def ZaY (g:EL3):E3:=fun env M=>(g env M).bind fun ds M1=>if ds.length ≤ SZ then alloc (.lst ds) M1 else .bad
end
@[simp] noncomputable def ZbG (f g:E3):E3:=fun env M=>(f env M).bind fun a M1=>match a with
 | .bl true=>g env M1
 | .bl false=>.ok (.bl false) M1
 | _=>.bad
@[simp] noncomputable def eOr (f g:E3):E3:=fun env M=>(f env M).bind fun a M1=>match a with
 | .bl false=>g env M1
 | .bl true=>.ok (.bl true) M1
 | _=>.bad
noncomputable def ZdN (a:D) (M:Store):R3 D:=match a with
 | .bl b=>.ok (.bl (!b)) M
 | _=>.bad
@[simp] theorem Zs7 {M:Store}:∀ b,ZdN (.bl b) M = .ok (.bl (!b)) M:=fun _=>rfl
@[simp] noncomputable def eIf (c f g:E3):E3:=fun env M=>(c env M).bind fun a M1=>match a with
 | .bl true=>f env M1
 | .bl false=>g env M1
 | _=>.bad
@[simp] noncomputable def Zae (F:F3) (g:EL3):E3:=fun env M=>(g env M).bind fun ds M1=>F ds M1
section
local instance (priority:=100000) clP3 (p:Prop):Decidable p:=Classical.propDecidable p
noncomputable def Zay (a b:D) (M:Store):R3 D:=match a,b with
 | .int i,.int j=>.ok (.int (i + j)) M
 | .str x,.str y=>if x.length + y.length ≤ SZ then .ok (.str (x ++ y)) M else .bad
 | .tup x,.tup y=>if x.length + y.length ≤ SZ then .ok (.tup (x ++ y)) M else .bad
 | .ref n,.ref m=>match M[n]?,M[m]? with
  | some (.lst x),some (.lst y)=>if x.length + y.length ≤ SZ then alloc (.lst (x ++ y)) M else .bad
  | _,_=>.bad
 | _,_=>.bad
@[simp] theorem ZdM {M:Store}:∀ i j,Zay (.int i) (.int j) M = .ok (.int (i + j)) M:=fun _ _=>rfl
@[simp] theorem ZdQ {M:Store}:∀ x y,Zay (.str x) (.str y) M = (if x.length + y.length ≤ SZ then .ok (.str (x ++ y)) M else .bad):=fun _ _=>rfl
@[simp] theorem ZdI {M:Store}:∀ x y,Zay (.tup x) (.tup y) M = (if x.length + y.length ≤ SZ then .ok (.tup (x ++ y)) M else .bad):=fun _ _=>rfl
@[simp] theorem ZdO {M:Store}:∀ n m,Zay (.ref n) (.ref m) M = (match M[n]?,M[m]? with
  | some (.lst x),some (.lst y)=>if x.length + y.length ≤ SZ then alloc (.lst (x ++ y)) M else .bad
  | _,_=>.bad):=fun _ _=>rfl
end
noncomputable def Zcp (a b:D) (M:Store):R3 D:=match a,b with
 | .int i,.int j=>.ok (.int (i - j)) M
 | _,_=>.bad
@[simp] theorem Zjg {M:Store}:∀ i j,Zcp (.int i) (.int j) M = .ok (.int (i - j)) M:=fun _ _=>rfl
section
local instance (priority:=100000) clP4 (p:Prop):Decidable p:=Classical.propDecidable p
noncomputable def ZcC (i j:Int):Bool:=(decide (-(2 ^ 64) < i) && decide (i < 2 ^ 64)) || (decide (-(2 ^ 64) < j) && decide (j < 2 ^ 64))
end
section
local instance (priority:=100000) clP5 (p:Prop):Decidable p:=Classical.propDecidable p
noncomputable def ZgB (a b:D) (M:Store):R3 D:=match a,b with
 | .int i,.int j=>if ZcC i j then .ok (.int (i * j)) M else .bad
 | .str x,.int k=>if x.length * k.toNat ≤ SZ ∧ k < 1000000 ∧ -1000000 < k then .ok (.str (List.replicate k.toNat x).flatten) M else .bad
 | .ref n,.int k=>match M[n]? with
  | some (.lst x)=>if x.length * k.toNat ≤ SZ ∧ k < 1000000 ∧ -1000000 < k then alloc (.lst (List.replicate k.toNat x).flatten) M else .bad
  | _=>.bad
 | _,_=>.bad
@[simp] theorem Zsn {M:Store}:∀ i j,ZgB (.int i) (.int j) M = (if ZcC i j then .ok (.int (i * j)) M else .bad):=fun _ _=>rfl
@[simp] theorem Zsx {M:Store}:∀ x k,ZgB (.str x) (.int k) M = (if x.length * k.toNat ≤ SZ ∧ k < 1000000 ∧ -1000000 < k then .ok (.str (List.replicate k.toNat x).flatten) M else .bad):=fun _ _=>rfl
@[simp] theorem Zs9 {M:Store}:∀ n k,ZgB (.ref n) (.int k) M = (match M[n]? with
  | some (.lst x)=>if x.length * k.toNat ≤ SZ ∧ k < 1000000 ∧ -1000000 < k then alloc (.lst (List.replicate k.toNat x).flatten) M else .bad
  | _=>.bad):=fun _ _=>rfl
end
noncomputable def Zai (a b:D) (M:Store):R3 D:=match a,b with
 | .int i,.int j=>if 0 < j then .ok (.int (i % j)) M else .bad
 | _,_=>.bad
@[simp] theorem Zjd {M:Store}:∀ i j,Zai (.int i) (.int j) M = (if 0 < j then .ok (.int (i % j)) M else .bad):=fun _ _=>rfl
section
local instance (priority:=100000) clP6 (p:Prop):Decidable p:=Classical.propDecidable p
noncomputable def Zad (a b:D) (M:Store):R3 D:=match a,b with
 | .int i,.int j=>if 0 < j ∧ j < 1073741824 then .ok (.int (i / j)) M else .bad
 | _,_=>.bad
@[simp] theorem Zh2 {M:Store}:∀ i j,Zad (.int i) (.int j) M = (if 0 < j ∧ j < 1073741824 then .ok (.int (i / j)) M else .bad):=fun _ _=>rfl
end
noncomputable def Zen (a b:D) (M:Store):R3 D:=match a,b with
 | .int i,.int j=>if 0 ≤ j ∧ j ≤ 1000 ∧ i.natAbs < 1000 then .ok (.int (i ^ j.toNat)) M else .bad
 | _,_=>.bad
@[simp] theorem Znc {M:Store}:∀ i j,Zen (.int i) (.int j) M = (if 0 ≤ j ∧ j ≤ 1000 ∧ i.natAbs < 1000 then .ok (.int (i ^ j.toNat)) M else .bad):=fun _ _=>rfl
noncomputable def Zcw (a:D) (M:Store):R3 D:=match a with
 | .int i=>.ok (.int (-i)) M
 | _=>.bad
@[simp] theorem Zst {M:Store}:∀ i,Zcw (.int i) M = .ok (.int (-i)) M:=fun _=>rfl
noncomputable def ZhA (a b:D) (M:Store):R3 D:=match a,b with
 | .int i,.int j=>.ok (.bl (decide (i < j))) M
 | _,_=>.bad
@[simp] theorem Zla {M:Store}:∀ i j,ZhA (.int i) (.int j) M = .ok (.bl (decide (i < j))) M:=fun _ _=>rfl
noncomputable def Zei (a b:D) (M:Store):R3 D:=match a,b with
 | .int i,.int j=>.ok (.bl (decide (j < i))) M
 | _,_=>.bad
@[simp] theorem ZfA {M:Store}:∀ i j,Zei (.int i) (.int j) M = .ok (.bl (decide (j < i))) M:=fun _ _=>rfl
noncomputable def Zrr (a b:D) (M:Store):R3 D:=match a,b with
 | .int i,.int j=>.ok (.bl (decide (j ≤ i))) M
 | _,_=>.bad
@[simp] theorem Ztt {M:Store}:∀ i j,Zrr (.int i) (.int j) M = .ok (.bl (decide (j ≤ i))) M:=fun _ _=>rfl
noncomputable def eqD (a b:D) (M:Store):Option Bool:=match a,b with
 | .ref n,.ref m=>match M[n]?,M[m]? with
  | some (.lst x),some (.lst y)=>if x.all (ZaI DEEP) && y.all (ZaI DEEP) then some (Zc4 x y) else none
  | _,_=>none
 | .int i,.int j=>some (decide (i = j))
 | .str x,.str y=>some (decide (x = y))
 | .bl x,.bl y=>some (decide (x = y))
 | .tup x,.tup y=>if x.all (ZaI DEEP) && y.all (ZaI DEEP) then some (Zc4 x y) else none
 | _,_=>none
@[simp] theorem ZdV {M:Store}:∀ n m,eqD (.ref n) (.ref m) M = (match M[n]?,M[m]? with
  | some (.lst x),some (.lst y)=>if x.all (ZaI DEEP) && y.all (ZaI DEEP) then some (Zc4 x y) else none
  | _,_=>none):=fun _ _=>rfl
@[simp] theorem Zd0 {M:Store}:∀ i j,eqD (.int i) (.int j) M = some (decide (i = j)):=fun _ _=>rfl
@[simp] theorem Zd8 {M:Store}:∀ x y,eqD (.str x) (.str y) M = some (decide (x = y)):=fun _ _=>rfl
@[simp] theorem ZdU {M:Store}:∀ x y,eqD (.bl x) (.bl y) M = some (decide (x = y)):=fun _ _=>rfl
@[simp] theorem ZdX {M:Store}:∀ x y,eqD (.tup x) (.tup y) M = (if x.all (ZaI DEEP) && y.all (ZaI DEEP) then some (Zc4 x y) else none):=fun _ _=>rfl
@[simp] noncomputable def ZaK (a b:D) (M:Store):R3 D:=match eqD a b M with
 | some r=>.ok (.bl r) M
 | none=>.bad
@[simp] noncomputable def ZbJ (a b:D) (M:Store):R3 D:=match eqD a b M with
 | some r=>.ok (.bl (!r)) M
 | none=>.bad
noncomputable def Zbb:D → Bool
 | .non=>true | .bl _=>true | .int _=>true | .str _=>true | _=>false
noncomputable def inS (a:D) (y:List Nat):Option Bool:=match a with
 | .str [c]=>some (decide (c ∈ y))
 | _=>none
@[simp] theorem Zt4 {y:List Nat}:∀ c,inS (.str [c]) y = some (decide (c ∈ y)):=fun _=>rfl
noncomputable def inD (a b:D):Option Bool:=match b with
 | .str y=>inS a y
 | .tup ys=>if Zbb a && ys.all Zbb then some (ys.any fun y=>deq y a) else none
 | _=>none
@[simp] theorem ZtB {a:D}:∀ y,inD a (.str y) = inS a y:=fun _=>rfl
@[simp] theorem Zug {a:D}:∀ ys,inD a (.tup ys) = (if Zbb a && ys.all Zbb then some (ys.any fun y=>deq y a) else none):=fun _=>rfl
@[simp] noncomputable def ZlX (a b:D) (M:Store):R3 D:=match inD a b with
 | some r=>.ok (.bl r) M
 | none=>.bad
noncomputable def ixD (n:Nat) (i:Int):Option Nat:=if 0 ≤ i then (if i < n then some i.toNat else none) else if -(n:Int) ≤ i then some (i + n).toNat else none
noncomputable def ZaN {α:Type} (xs:List α) (i:Int):Option α:=(ixD xs.length i).bind fun j=>xs[j]?
noncomputable def ZdD:D → Option Za5
 | .int i=>some (.inl i)
 | .str x=>some (.inr x)
 | _=>none
@[simp] theorem ZtL:ZdD .non = none:=rfl
@[simp] theorem ZtY (b:Bool):ZdD (.bl b) = none:=rfl
@[simp] theorem Zty (x:List D):ZdD (.tup x) = none:=rfl
@[simp] theorem Zub (x:List D):ZdD (.scr x) = none:=rfl
@[simp] theorem Zun (n:Nat):ZdD (.ref n) = none:=rfl
@[simp] theorem Zpn:∀ i,ZdD (.int i) = some (.inl i):=fun _=>rfl
@[simp] theorem ZpA:∀ x,ZdD (.str x) = some (.inr x):=fun _=>rfl
noncomputable def Zb9:List (Za5 × D) → Za5 → Option D
 | [],_=>none
 | (k,v) :: r,x=>if k = x then some v else Zb9 r x
section
local instance (priority:=100000) clP7 (p:Prop):Decidable p:=Classical.propDecidable p
noncomputable def Zq (a b:D) (M:Store):R3 D:=match a,b with
 | .tup ds,.int i=>match ZaN ds i with
  | some d=>.ok d M
  | none=>.bad
 | .scr ds,.int i=>match ZaN ds i with
  | some d=>.ok d M
  | none=>.bad
 | .str x,.int i=>match ZaN x i with
  | some c=>if x.length ≤ SZ then .ok (.str [c]) M else .bad
  | none=>.bad
 | .ref n,.int i=>match M[n]? with
  | some (.lst ds)=>match ZaN ds i with
   | some d=>.ok d M
   | none=>.bad
  | _=>.bad
 | _,_=>.bad
@[simp] theorem ZbM {M:Store}:∀ ds i,Zq (.tup ds) (.int i) M = (match ZaN ds i with
  | some d=>.ok d M
  | none=>.bad):=fun _ _=>rfl
@[simp] theorem ZbN {M:Store}:∀ ds i,Zq (.scr ds) (.int i) M = (match ZaN ds i with
  | some d=>.ok d M
  | none=>.bad):=fun _ _=>rfl
@[simp] theorem ZbK {M:Store}:∀ x i,Zq (.str x) (.int i) M = (match ZaN x i with
  | some c=>if x.length ≤ SZ then .ok (.str [c]) M else .bad
  | none=>.bad):=fun _ _=>rfl
@[simp] theorem Zbf {M:Store}:∀ n i,Zq (.ref n) (.int i) M = (match M[n]? with
  | some (.lst ds)=>match ZaN ds i with
   | some d=>.ok d M
   | none=>.bad
  | _=>.bad):=fun _ _=>rfl
end
noncomputable def Zcb:Option MO → Option (List (Za5 × D))
 | some (.dct kvs)=>some kvs
 | some (.fdct kvs)=>some kvs
 | _=>none
@[simp] theorem Ztk:Zcb none = none:=rfl
@[simp] theorem Ztu (x:List D):Zcb (some (.lst x)) = none:=rfl
@[simp] theorem Zth (c:List Nat) (f:List (List Nat × D)):Zcb (some (.ins c f)) = none:=rfl
@[simp] theorem Zmo:∀ kvs,Zcb (some (.dct kvs)) = some kvs:=fun _=>rfl
@[simp] theorem Zms:∀ kvs,Zcb (some (.fdct kvs)) = some kvs:=fun _=>rfl
noncomputable def ZrE (a b:D) (M:Store):R3 D:=match a with
 | .ref n=>match Zcb M[n]?,ZdD b with
  | some kvs,some x=>match Zb9 kvs x with
   | some d=>.ok d M
   | none=>.bad
  | _,_=>.bad
 | _=>.bad
@[simp] theorem ZrS {b:D} {M:Store}:∀ n,ZrE (.ref n) b M = (match Zcb M[n]?,ZdD b with
  | some kvs,some x=>match Zb9 kvs x with
   | some d=>.ok d M
   | none=>.bad
  | _,_=>.bad):=fun _=>rfl
noncomputable def sIx (n d:Nat):Option Int → Nat
 | none=>d
 | some v=>if v < 0 then (v + (n:Int)).toNat else min v.toNat n
noncomputable def cutD {α:Type} (xs:List α) (lo hi:Option Int):List α:=(xs.drop (sIx xs.length 0 lo)).take (sIx xs.length xs.length hi - sIx xs.length 0 lo)
noncomputable abbrev EO3:=Zaf → Store → R3 (Option Int)
@[simp] noncomputable def Zb3:EO3:=fun _ M=>.ok none M
@[simp] noncomputable def Zb5 (f:E3):EO3:=fun env M=>(f env M).bind fun a M1=>match a with
 | .int i=>.ok (some i) M1
 | _=>.bad
section
local instance (priority:=100000) clP8 (p:Prop):Decidable p:=Classical.propDecidable p
noncomputable def ZjL (a:D) (lo hi:Option Int) (M:Store):R3 D:=match a with
 | .tup ds=>.ok (.tup (cutD ds lo hi)) M
 | .scr ds=>alloc (.lst (cutD ds lo hi)) M
 | .str x=>if x.length ≤ SZ then .ok (.str (cutD x lo hi)) M else .bad
 | .ref n=>match M[n]? with
  | some (.lst ds)=>alloc (.lst (cutD ds lo hi)) M
  | _=>.bad
 | _=>.bad
@[simp] theorem Zds {lo:Option Int} {hi:Option Int} {M:Store}:∀ ds,ZjL (.tup ds) lo hi M = .ok (.tup (cutD ds lo hi)) M:=fun _=>rfl
@[simp] theorem Zdv {lo:Option Int} {hi:Option Int} {M:Store}:∀ ds,ZjL (.scr ds) lo hi M = alloc (.lst (cutD ds lo hi)) M:=fun _=>rfl
@[simp] theorem Zdx {lo:Option Int} {hi:Option Int} {M:Store}:∀ x,ZjL (.str x) lo hi M = (if x.length ≤ SZ then .ok (.str (cutD x lo hi)) M else .bad):=fun _=>rfl
@[simp] theorem Zdu {lo:Option Int} {hi:Option Int} {M:Store}:∀ n,ZjL (.ref n) lo hi M = (match M[n]? with
  | some (.lst ds)=>alloc (.lst (cutD ds lo hi)) M
  | _=>.bad):=fun _=>rfl
end
@[simp] noncomputable def eSl (f:E3) (lo hi:EO3):E3:=fun env M=>(f env M).bind fun a M1=>(lo env M1).bind fun l M2=>(hi env M2).bind fun h M3=>ZjL a l h M3
section
local instance (priority:=100000) clP9 (p:Prop):Decidable p:=Classical.propDecidable p
noncomputable def ZaS (ds:List D) (M:Store):R3 D:=match ds with
 | [.tup x]=>.ok (.int x.length) M
 | [.scr x]=>.ok (.int x.length) M
 | [.str x]=>if x.length ≤ SZ then .ok (.int x.length) M else .bad
 | [.ref n]=>match M[n]? with
  | some (.lst x)=>.ok (.int x.length) M
  | _=>.bad
 | _=>.bad
@[simp] theorem Ziw {M:Store}:∀ x,ZaS ([.tup x]) M = .ok (.int x.length) M:=fun _=>rfl
@[simp] theorem Zik {M:Store}:∀ x,ZaS ([.scr x]) M = .ok (.int x.length) M:=fun _=>rfl
@[simp] theorem Ziq {M:Store}:∀ x,ZaS ([.str x]) M = (if x.length ≤ SZ then .ok (.int x.length) M else .bad):=fun _=>rfl
@[simp] theorem Zd7 {M:Store}:∀ n,ZaS ([.ref n]) M = (match M[n]? with
  | some (.lst x)=>.ok (.int x.length) M
  | _=>.bad):=fun _=>rfl
end
noncomputable def ZcX (ds:List D) (M:Store):R3 D:=match ds with
 | [.tup x]=>.ok (.tup x) M
 | [.scr x]=>.ok (.tup x) M
 | [.ref n]=>match M[n]? with
  | some (.lst x)=>.ok (.tup x) M
  | _=>.bad
 | _=>.bad
@[simp] theorem ZhR {M:Store}:∀ x,ZcX ([.tup x]) M = .ok (.tup x) M:=fun _=>rfl
@[simp] theorem ZhK {M:Store}:∀ x,ZcX ([.scr x]) M = .ok (.tup x) M:=fun _=>rfl
@[simp] theorem Zda {M:Store}:∀ n,ZcX ([.ref n]) M = (match M[n]? with
  | some (.lst x)=>.ok (.tup x) M
  | _=>.bad):=fun _=>rfl
noncomputable def Zgb (ds:List D) (M:Store):R3 D:=match ds with
 | [.tup x]=>alloc (.lst x) M
 | [.scr x]=>alloc (.lst x) M
 | [.ref n]=>match M[n]? with
  | some (.lst x)=>alloc (.lst x) M
  | _=>.bad
 | _=>.bad
@[simp] theorem ZgG {M:Store}:∀ x,Zgb ([.tup x]) M = alloc (.lst x) M:=fun _=>rfl
@[simp] theorem ZgF {M:Store}:∀ x,Zgb ([.scr x]) M = alloc (.lst x) M:=fun _=>rfl
@[simp] theorem Zde {M:Store}:∀ n,Zgb ([.ref n]) M = (match M[n]? with
  | some (.lst x)=>alloc (.lst x) M
  | _=>.bad):=fun _=>rfl
inductive Ty3 where
 | int | bool | str | list | tuple
 deriving DecidableEq
noncomputable def Zeq (T:Ty3) (d:D) (M:Store):Option Bool:=match d with
 | .non=>some false
 | .bl _=>some (T == .bool || T == .int)
 | .int _=>some (T == .int)
 | .str _=>some (T == .str)
 | .tup _=>some (T == .tuple)
 | .scr _=>none
 | .ref n=>match M[n]? with
  | some (.lst _)=>some (T == .list)
  | some (.dct _)=>some false
  | some (.fdct _)=>none
  | some (.ins _ _)=>none
  | none=>none
@[simp] theorem Zlb {T:Ty3} {M:Store}:Zeq T (.non) M = some false:=rfl
@[simp] theorem ZlD {T:Ty3} {M:Store}:∀ w0,Zeq T (.bl w0) M = some (T == .bool || T == .int):=fun _=>rfl
@[simp] theorem ZkR {T:Ty3} {M:Store}:∀ w0,Zeq T (.int w0) M = some (T == .int):=fun _=>rfl
@[simp] theorem Zll {T:Ty3} {M:Store}:∀ w0,Zeq T (.str w0) M = some (T == .str):=fun _=>rfl
@[simp] theorem Zk1 {T:Ty3} {M:Store}:∀ w0,Zeq T (.tup w0) M = some (T == .tuple):=fun _=>rfl
@[simp] theorem Zly {T:Ty3} {M:Store}:∀ w0,Zeq T (.scr w0) M = none:=fun _=>rfl
@[simp] theorem Zk7 {T:Ty3} {M:Store}:∀ n,Zeq T (.ref n) M = (match M[n]? with
  | some (.lst _)=>some (T == .list)
  | some (.dct _)=>some false
  | some (.fdct _)=>none
  | some (.ins _ _)=>none
  | none=>none):=fun _=>rfl
@[simp] noncomputable def ZcL (T:Ty3) (d:D) (M:Store):R3 D:=match Zeq T d M with
 | some b=>.ok (.bl b) M
 | none=>.bad
noncomputable def isB:D → Bool
 | .bl _=>true
 | _=>false
noncomputable def isT:D → Bool
 | .bl b=>b
 | _=>false
noncomputable def allB (l:List D):Option Bool:=if l.all isB then some (l.all isT) else none
noncomputable def Zp9 (ds:List D) (M:Store):R3 D:=match ds with
 | [.ref n]=>match M[n]? with
  | some (.lst x)=>match allB x with
   | some b=>.ok (.bl b) M
   | none=>.bad
  | _=>.bad
 | _=>.bad
@[simp] theorem Zfv {M:Store}:∀ n,Zp9 ([.ref n]) M = (match M[n]? with
  | some (.lst x)=>match allB x with
   | some b=>.ok (.bl b) M
   | none=>.bad
  | _=>.bad):=fun _=>rfl
section
local instance (priority:=100000) clP11 (p:Prop):Decidable p:=Classical.propDecidable p
noncomputable def ZaV (o:D) (ds:List D) (M:Store):R3 D:=match o,ds with
 | .ref n,[d]=>match M[n]? with
  | some (.lst x)=>if x.length < SZ then .ok .non (M.set n (.lst (x ++ [d]))) else .bad
  | _=>.bad
 | _,_=>.bad
@[simp] theorem Zg8 {M:Store}:∀ n d,ZaV (.ref n) ([d]) M = (match M[n]? with
  | some (.lst x)=>if x.length < SZ then .ok .non (M.set n (.lst (x ++ [d]))) else .bad
  | _=>.bad):=fun _ _=>rfl
end
section
local instance (priority:=100000) clPp (p:Prop):Decidable p:=Classical.propDecidable p
end
noncomputable def tyL (a:D) (M:Store):Bool:=match a with
 | .ref n=>match M[n]? with
  | some (.lst _)=>true
  | _=>false
 | _=>false
@[simp] theorem Zmt {M:Store}:∀ n,tyL (.ref n) M = (match M[n]? with
  | some (.lst _)=>true
  | _=>false):=fun _=>rfl
noncomputable def Zo7 (a:D) (M:Store):Bool:=match a with
 | .ref n=>(Zcb M[n]?).isSome
 | _=>false
@[simp] theorem Zix {M:Store}:∀ n,Zo7 (.ref n) M = (Zcb M[n]?).isSome:=fun _=>rfl
@[simp] noncomputable def ZcR (ty:D → Store → Bool) (m:D → List D → Store → R3 D) (o:E3) (g:EL3):E3:=fun env M=>(o env M).bind fun a M1=>if ty a M1 then (g env M1).bind fun ds M2=>m a ds M2 else .bad
@[simp] noncomputable def Zaz (b:List D → Store → R3 D) (g:EL3):E3:=fun env M=>(g env M).bind fun ds M1=>b ds M1
noncomputable def putD (k:Za5) (v:D) (kvs:List (Za5 × D)):List (Za5 × D):=
 if (kvs.any fun p=>decide (p.1 = k)) = true then kvs.map (fun p=>if p.1 = k then (p.1,v) else p) else kvs ++ [(k,v)]
noncomputable abbrev EP3:=Zaf → Store → R3 (List (Za5 × D))
@[simp] noncomputable def ZuB (f g:E3) (r:EP3):EP3:=fun env M=>(f env M).bind fun a M1=>(g env M1).bind fun b M2=>match ZdD a with
 | some k=>(r env M2).bind fun l M3=>.ok ((k,b) :: l) M3
 | none=>.bad
noncomputable def dictOf (l:List (Za5 × D)):List (Za5 × D):=l.foldl (fun acc p=>putD p.1 p.2 acc) []
@[simp] noncomputable def e3 (op:D → D → D → Store → R3 D) (f g h:E3):E3:=fun env M=>(f env M).bind fun a M1=>(g env M1).bind fun b M2=>(h env M2).bind fun c M3=>op a b c M3
section
local instance (priority:=100000) clP12 (p:Prop):Decidable p:=Classical.propDecidable p
end
noncomputable def ZmG (v a b:D) (M:Store):R3 D:=match a,b with
 | .ref n,.int i=>match M[n]? with
  | some (.lst xs)=>match ixD xs.length i with
   | some j=>.ok .non (M.set n (.lst (xs.set j v)))
   | none=>.bad
  | _=>.bad
 | _,_=>.bad
@[simp] theorem ZfH {v:D} {M:Store}:∀ n i,ZmG v (.ref n) (.int i) M = (match M[n]? with
  | some (.lst xs)=>match ixD xs.length i with
   | some j=>.ok .non (M.set n (.lst (xs.set j v)))
   | none=>.bad
  | _=>.bad):=fun _ _=>rfl
noncomputable def ZmB (o:D) (ds:List D) (M:Store):R3 D:=match o,ds with
 | .ref n,[b]=>match Zcb M[n]?,ZdD b with
  | some kvs,some k=>.ok ((Zb9 kvs k).getD .non) M
  | _,_=>.bad
 | .ref n,[b,d]=>match Zcb M[n]?,ZdD b with
  | some kvs,some k=>.ok ((Zb9 kvs k).getD d) M
  | _,_=>.bad
 | _,_=>.bad
@[simp] theorem Zlw {M:Store}:∀ n b,ZmB (.ref n) ([b]) M = (match Zcb M[n]?,ZdD b with
  | some kvs,some k=>.ok ((Zb9 kvs k).getD .non) M
  | _,_=>.bad):=fun _ _=>rfl
@[simp] theorem Zlt {M:Store}:∀ n b d,ZmB (.ref n) ([b,d]) M = (match Zcb M[n]?,ZdD b with
  | some kvs,some k=>.ok ((Zb9 kvs k).getD d) M
  | _,_=>.bad):=fun _ _ _=>rfl
noncomputable def ZcY:List D → Option (List (Za5 × D))
 | []=>some []
 | .tup [a,b] :: r=>match ZdD a with
  | some k=>(ZcY r).map fun l=>(k,b) :: l
  | none=>none
 | _ :: _=>none
theorem ZmK (i:Int) (b:D) (r:List D):ZcY (.tup [.int i,b] :: r) = (ZcY r).map fun l=>(.inl i,b) :: l:=rfl
section
local instance (priority:=100000) clP13 (p:Prop):Decidable p:=Classical.propDecidable p
noncomputable def Zh6 (ds:List D) (M:Store):R3 D:=match ds with
 | [.ref n]=>match Zcb M[n]? with
  | some kvs=>alloc (.dct kvs) M
  | none=>.bad
 | [.tup x]=>match ZcY x with
  | some l=>if l.length ≤ 100000 then alloc (.dct (dictOf l)) M else .bad
  | none=>.bad
 | _=>.bad
@[simp] theorem ZfD {M:Store}:∀ n,Zh6 ([.ref n]) M = (match Zcb M[n]? with
  | some kvs=>alloc (.dct kvs) M
  | none=>.bad):=fun _=>rfl
@[simp] theorem ZgL {M:Store}:∀ x,Zh6 ([.tup x]) M = (match ZcY x with
  | some l=>if l.length ≤ 100000 then alloc (.dct (dictOf l)) M else .bad
  | none=>.bad):=fun _=>rfl
end
section
local instance (priority:=100000) clPs (p:Prop):Decidable p:=Classical.propDecidable p
end
noncomputable def Zan:S3:=fun env M=>.nx env M
noncomputable def Zow:S3:=fun _ _=>.bad
noncomputable def Zv (f g:S3):S3:=fun env M=>match f env M with
 | .nx env' M'=>g env' M'
 | o=>o
noncomputable def sIf (c:E3) (f g:S3):S3:=fun env M=>match c env M with
 | .ok (.bl true) M1=>f env M1
 | .ok (.bl false) M1=>g env M1
 | .exc x M1=>.exc x M1
 | _=>.bad
noncomputable def Zax (f:E3):S3:=fun env M=>match f env M with
 | .ok d M1=>.rt d M1
 | .exc x M1=>.exc x M1
 | .bad=>.bad
noncomputable def ZaR (f:E3):S3:=fun env M=>match f env M with
 | .ok _ M1=>.nx env M1
 | .exc x M1=>.exc x M1
 | .bad=>.bad
noncomputable def Zaj (i:Nat) (f:E3):S3:=fun env M=>match f env M with
 | .ok d M1=>.nx (env.set i (some d)) M1
 | .exc x M1=>.exc x M1
 | .bad=>.bad
noncomputable def Zeb (o i f:E3):S3:=ZaR (e3 ZmG f o i)
noncomputable abbrev G3:=D → Zaf → Option Zaf
@[simp] noncomputable def Zdz (i:Nat):G3:=fun d env=>some (env.set i (some d))
noncomputable def bindAll:List Nat → List D → Zaf → Option Zaf
 | [],[],env=>some env
 | i :: is,d :: ds,env=>bindAll is ds (env.set i (some d))
 | _,_,_=>none
@[simp] theorem Zkn:∀ env,bindAll ([]) ([]) (env) = some env:=fun _=>rfl
@[simp] theorem Zkr:∀ i is d ds env,bindAll (i :: is) (d :: ds) (env) = bindAll is ds (env.set i (some d)):=fun _ _ _ _ _=>rfl
@[simp] noncomputable def ZhD (is:List Nat):G3:=fun d env=>match d with
 | .tup ds=>bindAll is ds env
 | _=>none
structure It3 where
 items:List D
 lock:Option Nat
noncomputable abbrev I3:=Zaf → Store → R3 It3
section
local instance (priority:=100000) clP14 (p:Prop):Decidable p:=Classical.propDecidable p
@[simp] noncomputable def Zhl (f:E3):I3:=fun env M=>(f env M).bind fun a M1=>match a with
 | .tup ds=>.ok ⟨ds,none⟩ M1
 | .scr ds=>.ok ⟨ds,none⟩ M1
 | .str x=>if x.length ≤ SZ then .ok ⟨x.map fun c=>.str [c],none⟩ M1 else .bad
 | .ref n=>match M1[n]? with
  | some (.lst ds)=>.ok ⟨ds,some n⟩ M1
  | _=>.bad
 | _=>.bad
end
noncomputable def ZeL (lo:Int) (n:Nat):List D:=(List.range n).map fun (k:Nat)=>D.int (lo + (k:Int))
section
local instance (priority:=100000) clP15 (p:Prop):Decidable p:=Classical.propDecidable p
@[simp] noncomputable def ZcP (f:E3):I3:=fun env M=>(f env M).bind fun a M1=>match a with
 | .int j=>if j ≤ 1000000 ∧ -1000000 ≤ j then .ok ⟨ZeL 0 j.toNat,none⟩ M1 else .bad
 | _=>.bad
end
section
local instance (priority:=100000) clP16 (p:Prop):Decidable p:=Classical.propDecidable p
end
noncomputable def locked (it:It3) (M:Store):Bool:=match it.lock with
 | none=>true
 | some n=>decide (M[n]? = some (.lst it.items))
noncomputable def ZdK (it:It3) (g:G3) (body:S3):List D → Zaf → Store → O3
 | [],env,M=>if locked it M then .nx env M else .bad
 | d :: ds,env,M=>if locked it M then match g d env with
  | none=>.bad
  | some env1=>match body env1 M with
   | .nx e M'=>ZdK it g body ds e M'
   | .ct e M'=>ZdK it g body ds e M'
   | .bk e M'=>.nx e M'
   | o=>o
  else .bad
noncomputable def ZiS (i:I3) (g:G3) (body:S3):S3:=fun env M=>match i env M with
 | .ok it M1=>ZdK it g body it.items env M1
 | .exc x M1=>.exc x M1
 | .bad=>.bad
noncomputable def ZdC (c:E3) (body:S3):Nat → Zaf → Store → O3
 | 0,_,_=>.bad
 | n + 1,env,M=>match c env M with
  | .ok (.bl true) M1=>match body env M1 with
   | .nx e M'=>ZdC c body n e M'
   | .ct e M'=>ZdC c body n e M'
   | .bk e M'=>.nx e M'
   | o=>o
  | .ok (.bl false) M1=>.nx env M1
  | .exc x M1=>.exc x M1
  | _=>.bad
noncomputable def ZkF (c:E3) (body:S3):S3:=ZdC c body 1000000
noncomputable def Zc5:List E3 → Zaf → Store → R3 Bool
 | [],_,M=>.ok true M
 | c :: cs,env,M=>(c env M).bind fun a M1=>match a with
  | .bl true=>Zc5 cs env M1
  | .bl false=>.ok false M1
  | _=>.bad
section
local instance (priority:=100000) clP17 (p:Prop):Decidable p:=Classical.propDecidable p
noncomputable def ZbH (it:It3) (g:G3) (ifs:List E3) (elt:E3) (n:Nat):List D → Zaf → Store → R3 D
 | [],_,M=>if locked it M then .ok (.ref n) M else .bad
 | d :: ds,env,M=>if locked it M then match g d env with
  | none=>.bad
  | some env1=>(Zc5 ifs env1 M).bind fun b M1=>if b then (elt env1 M1).bind fun e M2=>match M2[n]? with
    | some (.lst x)=>if x.length < SZ then ZbH it g ifs elt n ds env1 (M2.set n (.lst (x ++ [e]))) else .bad
    | _=>.bad
   else ZbH it g ifs elt n ds env1 M1
  else .bad
end
noncomputable def eLC (i:I3) (own:Nat) (g:G3) (ifs:List E3) (elt:E3):E3:=fun env M=>(i env M).bind fun it M1=>
 ZbH it g ifs elt M1.length it.items (env ++ List.replicate own none) (M1 ++ [.lst []])
noncomputable def Zfa (n:Nat):MO → Bool
 | .lst xs=>belowL n xs
 | .dct kvs=>belowL n (kvs.map (·.2))
 | .fdct kvs=>belowL n (kvs.map (·.2))
 | .ins _ fs=>belowL n (fs.map (·.2))
noncomputable def Zcv (M:Store) (d:D) (M':Store):R3 D:=
 if below M.length d && (decide (M'.take M.length = M) || (M'.take M.length).all (Zfa M.length)) then .ok d (M'.take M.length) else .ok d M'
noncomputable def mkF (ps n:Nat) (body:S3):F3:=fun ds M=>if ds.length = ps then match body (ds.map some ++ List.replicate (n - ps) none) M with
  | .nx _ M'=>Zcv M .non M'
  | .rt d M'=>Zcv M d M'
  | .exc x M'=>.exc x M'
  | _=>.bad
 else .bad
end
end L3
namespace L3
theorem Zji {it:It3} {i n:Nat} {elt:E3} {R:D → D → Prop} {env0:Zaf}:∀ (ds:List D) (acc:List D) (env:Zaf) (M:Store),(∀ d,env.set i (some d) = env0.set i (some d)) →
  (∀ d ∈ ds,∀ x,∃ e,elt (env0.set i (some d)) (M.set n (.lst x)) = .ok e (M.set n (.lst x)) ∧ R d e) → (∀ x,locked it (M.set n (.lst x)) = true) → M[n]? = some (.lst acc) → acc.length + ds.length ≤ SZ →
  ∃ es,es.length = ds.length ∧ (∀ (j:Nat) d e,ds[j]? = some d → es[j]? = some e → R d e) ∧ ZbH it (Zdz i) [] elt n ds env M = .ok (.ref n) (M.set n (.lst (acc ++ es))):=by
 intro ds
 induction ds with
 | nil=>
  intro acc env M _ _ hl hM _
  have e:M.set n (.lst acc) = M:=by
   apply List.ext_getElem?
   intro j
   by_cases hj:j = n
   ·subst hj
    rw [List.getElem?_set_self (List.getElem?_eq_some_iff.mp hM).1,hM]
   ·rw [List.getElem?_set_ne (Ne.symm hj)]
  have hl':=hl acc
  rw [e] at hl'
  exact ⟨[],rfl,fun j d e h=>by simp at h,by simp only [ZbH,hl',if_true,List.append_nil,e]⟩
 | cons d ds ih=>
  intro acc env M he hf hl hM hz
  have hn:n < M.length:=(List.getElem?_eq_some_iff.mp hM).1
  have e:M.set n (.lst acc) = M:=by
   apply List.ext_getElem?
   intro j
   by_cases hj:j = n
   ·subst hj
    rw [List.getElem?_set_self hn,hM]
   ·rw [List.getElem?_set_ne (Ne.symm hj)]
  have hl':=hl acc
  rw [e] at hl'
  obtain ⟨v,hf',hR⟩:=hf d List.mem_cons_self acc
  rw [e] at hf'
  have hz':acc.length < SZ:=by simp at hz ⊢; exact lB 1 0xf42405b01f42405ba1c0c01 T1 hz
  obtain ⟨es,le,re,h⟩:=ih (acc ++ [v]) (env0.set i (some d)) (M.set n (.lst (acc ++ [v]))) (fun d'=>by rw [List.set_set]) (fun d' hd' x=>by rw [List.set_set]; exact hf d' (List.mem_cons_of_mem _ hd') x) (fun x=>by rw [List.set_set]; exact hl x) (by rw [List.getElem?_set_self hn]) (by simp at hz ⊢; exact lB 1 0xf42405b1a0cc0f42405ba1c0c01 T1 hz)
  refine ⟨v :: es,by simp [le],fun j d' e' h1 h2=>?_,?_⟩
  ·cases j with
   | zero=>simp at h1 h2; subst h1 h2; exact hR
   | succ j=>exact re j d' e' (by simpa using h1) (by simpa using h2)
  ·simp only [ZbH,hl',if_true,Zdz,he d,Zc5,R3.bind_ok,hf',hM,hz']
   rw [h,List.set_set]
   simp
theorem Znd {it:It3} {g:G3} {body:S3} {P:Nat → Zaf → Store → Prop}:∀ (ds:List D) (j:Nat) (env:Zaf) (M:Store),P j env M → (∀ j env M,P j env M → locked it M = true) →
  (∀ (k:Nat) d,ds[k]? = some d → ∀ env M,P (j + k) env M → ∃ env1 e' M',g d env = some env1 ∧ body env1 M = .nx e' M' ∧ P (j + k + 1) e' M') → ∃ e' M',ZdK it g body ds env M = .nx e' M' ∧ P (j + ds.length) e' M':=by
 intro ds
 induction ds with
 | nil=>intro j env M p hl _; exact ⟨env,M,by simp only [ZdK,hl j env M p,if_true],p⟩
 | cons d ds ih=>
  intro j env M p hl hs
  obtain ⟨env1,e',M',h1,h2,p'⟩:=hs 0 d rfl env M p
  obtain ⟨e2,M2,h3,p2⟩:=ih (j + 1) e' M' p' hl fun k d' hd' env M p=>by
   have:=hs (k + 1) d' (by simpa using hd') env M (by rw [show j + (k + 1) = j + 1 + k by exact Nat.le_antisymm (lB 0 1790139547840 T1) (lB 0 0xa1c0c1a0cc0 T1)]; exact p)
   rw [show j + (k + 1) + 1 = j + 1 + k + 1 by exact Nat.le_antisymm (lB 0 0xa1a0cccaa1c0cc0 T1) (lB 0 0xaa1c0cca1a0ccc0 T1)] at this
   exact this
  exact ⟨e2,M2,by simp only [ZdK,hl j env M p,if_true,h1,h2,h3],by rw [List.length_cons,show j + (ds.length + 1) = j + 1 + ds.length by exact Nat.le_antisymm (lB 0 1790139547840 T1) (lB 0 0xa1c0c1a0cc0 T1)]; exact p2⟩
theorem Zj {f g:S3} {env env':Zaf} {M M':Store} (h:f env M = .nx env' M'):Zv f g env M = g env' M':=by rw [Zv,h]
theorem Zch {f g:S3} {env:Zaf} {M M':Store} {d:D} (h:f env M = .rt d M'):Zv f g env M = .rt d M':=by rw [Zv,h]
theorem Zbc {c:E3} {f g:S3} {env:Zaf} {M M':Store} (h:c env M = .ok (.bl true) M'):sIf c f g env M = f env M':=by rw [sIf,h]
theorem Zbp {c:E3} {f g:S3} {env:Zaf} {M M':Store} (h:c env M = .ok (.bl false) M'):sIf c f g env M = g env M':=by rw [sIf,h]
theorem Zaw {f:E3} {env:Zaf} {M M':Store} {d:D} (h:f env M = .ok d M'):Zax f env M = .rt d M':=by rw [Zax,h]
theorem Zw {f:E3} {i:Nat} {env env':Zaf} {M M':Store} {d:D} (h:f env M = .ok d M') (he:env.set i (some d) = env':=by first | (dsimp only [List.set_cons_succ,List.set_cons_zero] <;> exact rfl) | exact rfl):Zaj i f env M = .nx env' M':=by rw [Zaj,h]; simp only [he]
theorem Zau {c:E3} {f:S3} {env:Zaf} {M M':Store} (h:c env M = .ok (.bl false) M'):sIf c f Zan env M = .nx env M':=by rw [sIf,h]; rfl
theorem ZdG {f:E3} {env:Zaf} {M M':Store} {d:D} (h:f env M = .ok d M'):ZaR f env M = .nx env M':=by rw [ZaR,h]
theorem ZkS {i:I3} {g:G3} {u:S3} {env:Zaf} {M M':Store} {it:It3} (h:i env M = .ok it M'):ZiS i g u env M = ZdK it g u it.items env M':=by rw [ZiS,h]
theorem Ziy {i:I3} {own:Nat} {g:G3} {ts:List E3} {f:E3} {env:Zaf} {M M':Store} {it:It3} (h:i env M = .ok it M'):eLC i own g ts f env M = ZbH it g ts f M'.length it.items (env ++ List.replicate own none) (M' ++ [.lst []]):=by rw [eLC,h]; rfl
theorem Zb6 {ps n:Nat} {body:S3} {ds:List D} {env:Zaf} {M M':Store} {d:D} (h:body env M = .rt d M') (hl:ds.length = ps:=by rfl) (he:ds.map some ++ List.replicate (n - ps) none = env:=by rfl):mkF ps n body ds M = Zcv M d M':=by rw [mkF,if_pos hl,he,h]
theorem ZqL {ps n:Nat} {body:S3} {ds:List D} {env env':Zaf} {M M':Store} (h:body env M = .nx env' M') (hl:ds.length = ps:=by rfl) (he:ds.map some ++ List.replicate (n - ps) none = env:=by rfl):mkF ps n body ds M = Zcv M .non M':=by rw [mkF,if_pos hl,he,h]
theorem ZnL {M G:Store} {d:D} (h:below M.length d = true):Zcv M d (M ++ G) = .ok d M:=by
 simp [Zcv,h]
end L3
namespace L3
theorem Zam {α:Type} (M:List α) (x:α) (xs:List α):(M ++ x :: xs)[M.length]? = some x:=by simp
theorem Zdr {α:Type} (M xs:List α) (k:Nat):(M ++ xs)[M.length + k]? = xs[k]?:=by
 rw [List.getElem?_append_right (Nat.le_add_right _ _)]; congr 1; exact Nat.le_antisymm (lC 1 2199589555233 T1 (Nat.sub_add_cancel (Nat.le_add_right _ _))) (lC 1 2267788938241 T1 (sbA _ _))
theorem Zii {α:Type} (M xs:List α) (k:Nat) (o:α):(M ++ xs).set (M.length + k) o = M ++ xs.set k o:=by
 rw [List.set_append_right _ _ (Nat.le_add_right _ _)]; congr 2; exact Nat.le_antisymm (lC 1 2199589555233 T1 (Nat.sub_add_cancel (Nat.le_add_right _ _))) (lC 1 2267788938241 T1 (sbA _ _))
theorem Zt {α:Type} {M:List α} {n:Nat} {o:α} (h:M[n]? = some o) (xs:List α):(M ++ xs)[n]? = some o:=by
 rw [List.getElem?_append_left (List.getElem?_eq_some_iff.mp h).1,h]
theorem ZbO {α:Type} (xs:List α) (k:Nat):ZaN xs (k:Int) = xs[k]?:=by
 unfold ZaN ixD
 rw [if_pos (Int.natCast_nonneg k)]
 by_cases h:k < xs.length
 ·rw [if_pos (Int.ofNat_lt.2 h)]; simp
 ·rw [if_neg (by exact fun z=>iN [_,_] [] 2 6667149772945 T1 z h)]; simp at h ⊢; exact h
@[simp] theorem ZrV {α:Type} (xs:List α) (k:Nat):ZaN xs (k:Int) = xs[k]?:=ZbO xs k
@[simp] theorem ZsN {α:Type} (xs:List α) (n:Nat):ZaN xs (no_index (OfNat.ofNat n:Int)) = xs[(OfNat.ofNat n:Nat)]?:=ZbO xs n
@[simp] theorem Zh3 {α:Type} (xs:List α):ZaN xs (-1) = xs.getLast?:=by
 unfold ZaN ixD
 rw [if_neg (by decide),List.getLast?_eq_getElem?]
 by_cases h:0 < xs.length
 ·rw [if_pos (by exact iN [_] [] 1 725993655825 T1 h)]
  simp only [Option.bind_some]
  congr 1; exact Nat.le_antisymm (iN [_,_,_] [] 2 0x200a2c10118a9c08a1 T1 (Int.toNat_of_nonneg (iN [_] [] 1 595337940497 T1 h)) (sbA _ _)) (iN [_,_,_] [] 2 0x1200a2c211808a9c81 T1 (Int.self_le_toNat _) (Nat.sub_add_cancel (lA 1 10489361 T1 h)))
 ·have:xs = []:=by simpa using h
  subst this; rfl
theorem Zid (n k:Nat):ixD n (k:Int) = if k < n then some k else none:=by
 unfold ixD
 rw [if_pos (Int.natCast_nonneg k)]
 by_cases h:k < n
 ·rw [if_pos (Int.ofNat_lt.2 h),if_pos h]; simp
 ·rw [if_neg (by exact fun z=>iN [_,_] [] 2 6667149772945 T1 z h),if_neg h]
@[simp] theorem Zsf (n k:Nat):ixD n (k:Int) = if k < n then some k else none:=Zid n k
@[simp] theorem Ztv (m n:Nat):ixD m (no_index (OfNat.ofNat n:Int)) = if (OfNat.ofNat n:Nat) < m then some (OfNat.ofNat n:Nat) else none:=Zid m n
theorem getD_last {α:Type} (xs:List α) (x:α):ZaN (xs ++ [x]) (-1) = some x:=by
 unfold ZaN ixD
 rw [if_neg (by decide),if_pos (by simp; exact iN [_] [] 0 10521768 T1)]
 have:(-1 + ((xs ++ [x]).length:Int)).toNat = xs.length:=by simp; exact Nat.le_antisymm (iN [_,_] [] 1 4514701222086817 T1 (Int.toNat_of_nonneg (iN [_] [] 0 43097169128 T1))) (iN [_,_] [] 1 4505291991981185 T1 (Int.self_le_toNat _))
 simp only [Option.bind_some,this]
 simp
theorem Znp {α:Type} (xs:List α):cutD xs none (some (-1)) = xs.dropLast:=by
 unfold cutD sIx
 simp only [List.drop_zero]
 rw [if_pos (by decide),List.dropLast_eq_take]
 congr 1
 omega
inductive Row where
 | put (a:Nat) (n:Int) | add (a b c:Nat) | sub (a b c:Nat) | more (a b c:Nat) | get (a b:Nat) | set (a b:Nat) | jump (k:Nat) | when (a k:Nat) | tell (a:Nat) | halt
 deriving Inhabited
noncomputable def Zal:Row → D
 | .put a n=>.tup [.str [112,117,116],.int a,.int n]
 | .add a b c=>.tup [.str [97,100,100],.int a,.int b,.int c]
 | .sub a b c=>.tup [.str [115,117,98],.int a,.int b,.int c]
 | .more a b c=>.tup [.str [109,111,114,101],.int a,.int b,.int c]
 | .get a b=>.tup [.str [103,101,116],.int a,.int b]
 | .set a b=>.tup [.str [115,101,116],.int a,.int b]
 | .jump k=>.tup [.str [106,117,109,112],.int k]
 | .when a k=>.tup [.str [119,104,101,110],.int a,.int k]
 | .tell a=>.tup [.str [116,101,108,108],.int a]
 | .halt=>.tup [.str [104,97,108,116]]
noncomputable def Row.ok (many:Nat):Row → Prop
 | .put a _=>a < 8
 | .add a b c=>a < 8 ∧ b < 8 ∧ c < 8
 | .sub a b c=>a < 8 ∧ b < 8 ∧ c < 8
 | .more a b c=>a < 8 ∧ b < 8 ∧ c < 8
 | .get a b=>a < 8 ∧ b < 8
 | .set a b=>a < 8 ∧ b < 8
 | .jump k=>k < many
 | .when a k=>a < 8 ∧ k < many
 | .tell a=>a < 8
 | .halt=>True
noncomputable abbrev Zd9:=List Row
noncomputable def Zr (r:Zd9):D:=.tup (r.map Zal)
structure ZnT (r:Zd9):Prop where
 rows:∀ x ∈ r,x.ok r.length
 last:∃ q x,r = q ++ [x] ∧ (x = .halt ∨ ∃ k,x = .jump k)
structure Stt where
 place:Nat
 boxes:List Int
 cells:List (Int × Int)
 deriving Inhabited,DecidableEq
noncomputable def Zac (bs:List Int):D:=.tup (bs.map D.int)
noncomputable def ZaM (c:Int × Int):D:=.tup [.int c.1,.int c.2]
noncomputable def Zab (cs:List (Int × Int)):D:=.tup (cs.map ZaM)
noncomputable def Zd (s:Stt):D:=.tup [.int s.place,Zac s.boxes,Zab s.cells]
def Stt.ok (r:Zd9) (s:Stt):Prop:=s.place < r.length ∧ s.boxes.length = 8
noncomputable def Row.tells (bs:List Int):Row → Option Int
 | .tell a=>bs[a]?
 | _=>none
noncomputable def Row.isHalt:Row → Bool
 | .halt=>true
 | _=>false
@[simp] theorem ZrZ {a:Nat} {n:Int} {bs:List Int}:(Row.put a n).tells bs = none:=rfl
@[simp] theorem ZrM {a:Nat} {n:Int}:(Row.put a n).isHalt = false:=rfl
@[simp] theorem ZrY {a:Nat} {b:Nat} {c:Nat} {bs:List Int}:(Row.add a b c).tells bs = none:=rfl
@[simp] theorem Zrx {a:Nat} {b:Nat} {c:Nat}:(Row.add a b c).isHalt = false:=rfl
@[simp] theorem Zr2 {a:Nat} {b:Nat} {c:Nat} {bs:List Int}:(Row.sub a b c).tells bs = none:=rfl
@[simp] theorem ZrH {a:Nat} {b:Nat} {c:Nat}:(Row.sub a b c).isHalt = false:=rfl
@[simp] theorem Zqe {a:Nat} {b:Nat} {c:Nat} {bs:List Int}:(Row.more a b c).tells bs = none:=rfl
@[simp] theorem ZpE {a:Nat} {b:Nat} {c:Nat}:(Row.more a b c).isHalt = false:=rfl
@[simp] theorem Zr0 {a:Nat} {b:Nat} {bs:List Int}:(Row.get a b).tells bs = none:=rfl
@[simp] theorem Zqn {a:Nat} {b:Nat}:(Row.get a b).isHalt = false:=rfl
@[simp] theorem ZrW {a:Nat} {b:Nat} {bs:List Int}:(Row.set a b).tells bs = none:=rfl
@[simp] theorem Zrj {a:Nat} {b:Nat}:(Row.set a b).isHalt = false:=rfl
@[simp] theorem Zri {k:Nat} {bs:List Int}:(Row.jump k).tells bs = none:=rfl
@[simp] theorem ZpW {k:Nat}:(Row.jump k).isHalt = false:=rfl
@[simp] theorem Zre {a:Nat} {k:Nat} {bs:List Int}:(Row.when a k).tells bs = none:=rfl
@[simp] theorem ZpL {a:Nat} {k:Nat}:(Row.when a k).isHalt = false:=rfl
@[simp] theorem ZrF {a:Nat} {bs:List Int}:(Row.tell a).tells bs = bs[a]?:=rfl
@[simp] theorem Zp2 {a:Nat}:(Row.tell a).isHalt = false:=rfl
@[simp] theorem Zqq  {bs:List Int}:(Row.halt).tells bs = none:=rfl
@[simp] theorem ZpM :(Row.halt).isHalt = true:=rfl
theorem ZfC (n:Nat) (i:Int):ZaI n (.int i) = true:=by cases n <;> rfl
theorem ZhI (n:Nat) (bs:List Int):ZaI (n + 1) (Zac bs) = true:=by simp [Zac,Zin,Zif,Zie,ZiV,Zi4,ZfC]
theorem Zgw (n:Nat) (cs:List (Int × Int)):ZaI (n + 2) (Zab cs) = true:=by simp [Zab,ZaM,Zin,Zif,Zie,ZiV,Zi4,ZfC]
theorem Zj4 (n:Nat) (s:Stt):ZaI (n + 3) (Zd s) = true:=by simp [Zd,Zin,Zif,Zie,ZiV,Zi4,ZfC,ZhI,Zgw]
theorem Zjk (ss:List Stt):(ss.map Zd).all (ZaI DEEP) = true:=by
 simp only [List.all_map,List.all_eq_true]
 intro s _
 exact Zj4 57 s
mutual
theorem Zmf:∀ (n:Nat) (d:D),ZaI n d = true → deq d d = true
 | _,.non,_=>rfl
 | _,.bl b,_=>beq_self_eq_true b
 | _,.int b,_=>beq_self_eq_true b
 | _,.str b,_=>beq_self_eq_true b
 | 0,.tup _,h=>ft h
 | n + 1,.tup ds,h=>ZgW n ds (List.all_eq_true.mp h)
 | n,.scr _,h=>by cases n <;> exact ft h
 | n,.ref _,h=>by cases n <;> exact ft h
theorem ZgW:∀ (n:Nat) (ds:List D),(∀ d ∈ ds,ZaI n d = true) → Zc4 ds ds = true
 | _,[],_=>rfl
 | n,d :: ds,h=>by
  simp only [Zip,ZfJ,Bool.and_eq_true]
  exact ⟨Zmf n d (h d List.mem_cons_self),ZgW n ds fun x hx=>h x (List.mem_cons_of_mem _ hx)⟩
end
end L3
namespace L3
def Rt (o:O3) (d:D):Prop:=∃ M',o = .rt d M'
theorem Rt.set {i:Nat} {f:E3} {g:S3} {env env':Zaf} {M M':Store} {d r:D} (h:f env M = .ok d M') (k:Rt (g env' M') r) (he:env.set i (some d) = env':=by first | (dsimp only [List.set_cons_succ,List.set_cons_zero] <;> exact rfl) | exact rfl):Rt (Zv (Zaj i f) g env M) r:=by
 rw [Rt,Zj (Zw h he)]; exact k
theorem Rt.expr {f:E3} {g:S3} {env:Zaf} {M M':Store} {d r:D} (h:f env M = .ok d M') (k:Rt (g env M') r):Rt (Zv (ZaR f) g env M) r:=by
 rw [Rt,Zj (ZdG h)]; exact k
theorem Rt.skip {c:E3} {u g:S3} {env:Zaf} {M M':Store} {r:D} (h:c env M = .ok (.bl false) M') (k:Rt (g env M') r):Rt (Zv (sIf c u Zan) g env M) r:=by
 rw [Rt,Zj (Zau h)]; exact k
theorem Rt.loop {i:I3} {t:G3} {u g:S3} {env env':Zaf} {M M' M1:Store} {it:It3} {r:D} (h:i env M = .ok it M1) (hl:ZdK it t u it.items env M1 = .nx env' M') (k:Rt (g env' M') r):Rt (Zv (ZiS i t u) g env M) r:=by
 rw [Rt,Zj ((ZkS h).trans hl)]; exact k
theorem Rt.step {f g:S3} {env env':Zaf} {M M':Store} {r:D} (h:f env M = .nx env' M') (k:Rt (g env' M') r):Rt (Zv f g env M) r:=by
 rw [Rt,Zj h]; exact k
theorem Rt.ret {f:E3} {env:Zaf} {M M':Store} {d:D} (h:f env M = .ok d M'):Rt (Zax f env M) d:=⟨M',Zaw h⟩
theorem Rt.law {ps n:Nat} {body:S3} {ds:List D} {env:Zaf} {b:Bool} (h:Rt (body env []) (.bl b)) (hl:ds.length = ps:=by rfl) (he:ds.map some ++ List.replicate (n - ps) none = env:=by rfl):∃ M',mkF ps n body ds [] = .ok (.bl b) M':=by
 obtain ⟨M',h⟩:=h
 exact ⟨_,(Zb6 h hl he).trans (by rw [Zcv,if_pos (by simp [below])])⟩
theorem Rt.pure {ps n:Nat} {body:S3} {ds:List D} {env:Zaf} {M G:Store} {d:D} (h:body env M = .rt d (M ++ G)) (hd:below M.length d = true) (hl:ds.length = ps:=by rfl) (he:ds.map some ++ List.replicate (n - ps) none = env:=by rfl):mkF ps n body ds M = .ok d M:=
 (Zb6 h hl he).trans (ZnL hd)
end L3
namespace L3
theorem Zmk {o arg:E3} {env:Zaf} {M M2:Store} {n:Nat} {xs ys:List D} {d:D} (ho:o env M = .ok (.ref n) M) (hM:M[n]? = some (.lst xs)) (ha:arg env M = .ok d M2) (hM2:M2[n]? = some (.lst ys)) (hz:ys.length < 1000000):
  ZcR tyL ZaV o (Za arg Zf) env M = .ok .non (M2.set n (.lst (ys ++ [d]))):=by
 simp [ho,hM,ha,hM2,hz]
theorem Zm {op:D → D → Store → R3 D} {f g:E3} {env:Zaf} {M M1 M2 M3:Store} {a b d:D} (h1:f env M = .ok a M1) (h2:g env M1 = .ok b M2) (h3:op a b M2 = .ok d M3):e2 op f g env M = .ok d M3:=by
 simp only [e2,h1,h2,h3,R3.bind]
theorem Zdf {F:F3} {f:E3} {env:Zaf} {M M1 M2:Store} {a d:D} (h1:f env M = .ok a M1) (h2:F [a] M1 = .ok d M2):Zae F (Za f Zf) env M = .ok d M2:=by
 simp only [Zae,Za,Zf,h1,h2,R3.bind]
theorem Zdd {F:F3} {f g:E3} {env:Zaf} {M M1 M2 M3:Store} {a b d:D} (h1:f env M = .ok a M1) (h2:g env M1 = .ok b M2) (h3:F [a,b] M2 = .ok d M3):Zae F (Za f (Za g Zf)) env M = .ok d M3:=by
 simp only [Zae,Za,Zf,h1,h2,h3,R3.bind]
theorem Zb7 {F:F3} {f g h:E3} {env:Zaf} {M M1 M2 M3 M4:Store} {a b c d:D} (h1:f env M = .ok a M1) (h2:g env M1 = .ok b M2) (h3:h env M2 = .ok c M3) (h4:F [a,b,c] M3 = .ok d M4):Zae F (Za f (Za g (Za h Zf))) env M = .ok d M4:=by
 simp only [Zae,Za,Zf,h1,h2,h3,h4,R3.bind]
@[simp] theorem ZtM (a b:Ty3):(a == b) = decide (a = b):=by cases a <;> cases b <;> rfl
theorem ZcG {b:List D → Store → R3 D} {f:E3} {env:Zaf} {M M1 M2:Store} {a d:D} (h1:f env M = .ok a M1) (h2:b [a] M1 = .ok d M2):Zaz b (Za f Zf) env M = .ok d M2:=by
 simp only [Zaz,Za,Zf,h1,h2,R3.bind]
theorem Zfk {op:D → Store → R3 D} {f:E3} {env:Zaf} {M M1 M2:Store} {a d:D} (h1:f env M = .ok a M1) (h2:op a M1 = .ok d M2):e1 op f env M = .ok d M2:=by
 simp only [e1,h1,h2,R3.bind]
theorem Zo {f:E3} {g:EL3} {env:Zaf} {M M1 M2:Store} {d:D} {ds:List D} (h1:f env M = .ok d M1) (h2:g env M1 = .ok ds M2):Za f g env M = .ok (d :: ds) M2:=by
 simp only [Za,h1,h2,R3.bind]
theorem ZaL {g:EL3} {env:Zaf} {M M':Store} {ds:List D} (h:g env M = .ok ds M') (hl:decide (ds.length ≤ 100) = true):Zbg g env M = .ok (.tup ds) M':=by
 have:=of_decide_eq_true hl
 simp only [Zbg,h,R3.bind]
 rw [if_pos (Nat.le_trans this (by decide))]
theorem Zfj {n:Nat} {M:Store} {xs:List D} (h:M[n]? = some (.lst xs)):ZaS [.ref n] M = .ok (.int (xs.length:Int)) M:=by simp only [Ziw,Zik,Ziq,Zd7,h]
theorem ZiN {n:Nat} {M:Store} {xs:List D} (h:M[n]? = some (.lst xs)):ZcX [.ref n] M = .ok (.tup xs) M:=by simp only [ZhR,ZhK,Zda,h]
theorem Zci {n:Nat} {M:Store} {xs:List D} {i:Int} {d:D} (h:M[n]? = some (.lst xs)) (hd:ZaN xs i = some d):Zq (.ref n) (.int i) M = .ok d M:=by simp only [ZbM,ZbN,ZbK,Zbf,h,hd]
theorem Zgo {M:Store} {xs:List D} {i:Int} {d:D} (hd:ZaN xs i = some d):Zq (.tup xs) (.int i) M = .ok d M:=by simp only [ZbM,ZbN,ZbK,Zbf,hd]
theorem ZjN {a b:Int} {M:Store} (h:a = b):ZaK (.int a) (.int b) M = .ok (.bl true) M:=by simp only [ZaK,ZdV,Zd0,Zd8,ZdU,ZdX,decide_eq_true h]
theorem ZkG {a b:Int} {M:Store} (h:¬ a = b):ZaK (.int a) (.int b) M = .ok (.bl false) M:=by simp only [ZaK,ZdV,Zd0,Zd8,ZdU,ZdX,decide_eq_false h]
theorem ZaT {i j:Int} {M:Store} (h:0 < j):Zai (.int i) (.int j) M = .ok (.int (i % j)) M:=by simp only [Zjd,if_pos h]
theorem Zjm {f g:E3} {env:Zaf} {M M1:Store} (h1:f env M = .ok (.bl false) M1):eOr f g env M = g env M1:=by simp only [eOr,h1,R3.bind]
theorem ZpN {f g:E3} {env:Zaf} {M M1:Store} (h1:f env M = .ok (.bl true) M1):eOr f g env M = .ok (.bl true) M1:=by simp only [eOr,h1,R3.bind]
theorem ZcK {f g:E3} {env:Zaf} {M M1:Store} (h1:f env M = .ok (.bl true) M1):ZbG f g env M = g env M1:=by simp only [ZbG,h1,R3.bind]
theorem Zet {f g:E3} {env:Zaf} {M M1:Store} (h1:f env M = .ok (.bl false) M1):ZbG f g env M = .ok (.bl false) M1:=by simp only [ZbG,h1,R3.bind]
theorem ZsQ {c f g:E3} {env:Zaf} {M M1:Store} (h1:c env M = .ok (.bl true) M1):eIf c f g env M = f env M1:=by simp only [eIf,h1,R3.bind]
theorem ZsS {c f g:E3} {env:Zaf} {M M1:Store} (h1:c env M = .ok (.bl false) M1):eIf c f g env M = g env M1:=by simp only [eIf,h1,R3.bind]
theorem ZrQ {α:Type} {enc:α → D} {h:α → D} {own:Nat} {i:Nat} {it:I3} {elt:E3} {env:Zaf} {M M1:Store} {lock:Option Nat} {as:List α} (hi:it env M = .ok ⟨as.map enc,lock⟩ M1) (hlock:∀ n,lock = some n → M1[n]? = some (.lst (as.map enc)))
  (he:∀ a ∈ as,∀ M,elt ((env ++ List.replicate own none).set i (some (enc a))) M = .ok (h a) M) (hz:as.length ≤ 100000):eLC it own (Zdz i) [] elt env M = .ok (.ref M1.length) (M1 ++ [.lst (as.map h)]):=by
 rw [Ziy hi]
 obtain ⟨es,le,re,hh⟩:=Zji (it:=⟨as.map enc,lock⟩) (i:=i) (n:=M1.length) (elt:=elt) (R:=fun d e=>∀ a ∈ as,d = enc a → e = h a) (env0:=env ++ List.replicate own none) (as.map enc) [] (env ++ List.replicate own none) (M1 ++ [.lst []]) (fun _=>rfl)
  (fun d hd x=>by
   obtain ⟨a,ha,rfl⟩:=List.mem_map.mp hd
   refine ⟨h a,he a ha _,fun b hb e=>?_⟩
   have h1:=he a ha []
   have h2:=he b hb []
   rw [e,h2] at h1
   injection h1 with h1 _
   exact h1.symm)
  (fun x=>by
   cases lock with
   | none=>rfl
   | some n=>
    have hn:=hlock n rfl
    have hlt:=(List.getElem?_eq_some_iff.mp hn).1
    simp only [locked,decide_eq_true_eq]
    rw [List.getElem?_set_ne (by exact fun z=>lB 2 25787699233 T1 z hlt),List.getElem?_append_left hlt,hn]) (by simp) (by simp; exact lA 1 0xf42405b00186a05b001 T1 hz)
 rw [show (⟨as.map enc,lock⟩:It3).items = as.map enc from rfl,hh]
 have:es = as.map h:=by
  apply List.ext_getElem?
  intro j
  rw [List.getElem?_map]
  cases ha:as[j]? with
  | none=>
   have:as.length ≤ j:=by simpa using ha
   simp [le]; exact this
  | some a=>
   have hj:j < es.length:=by
    have:=(List.getElem?_eq_some_iff.mp ha).1
    simpa [le] using this
   have h2:=re j (enc a) es[j] (by simp [ha]) (by simp [hj]) a (List.mem_of_getElem? ha) rfl
   rw [List.getElem?_eq_getElem hj,h2]; rfl
 rw [this]
 simp
end L3
namespace L3
noncomputable def Zgi (t:List (Int × Int)):List (Za5 × D):=t.map fun p=>(.inl p.1,.int p.2)
def keysOk (t:List (Int × Int)):Prop:=(t.map (·.1)).Nodup
noncomputable def Zgl:List (Int × Int) → Int → Int
 | [],_=>0
 | (k,v) :: r,n=>if k = n then v else Zgl r n
theorem ZnI (t:List (Int × Int)) (n:Int):Zb9 (Zgi t) (.inl n) = (if t.any (fun p=>decide (p.1 = n)) = true then some (D.int (Zgl t n)) else none):=by
 induction t with
 | nil=>rfl
 | cons p t ih=>
  obtain ⟨k,v⟩:=p
  show (if (Sum.inl k:Za5) = Sum.inl n then some (D.int v) else Zb9 (Zgi t) (.inl n)) = _
  by_cases e:k = n
  ·simp [e,Zgl]
  ·rw [if_neg (by simp [e]),ih]
   simp only [List.any_cons,Zgl,if_neg e,decide_eq_false e,Bool.false_or]
theorem Zma {t:List (Int × Int)} {n:Int} (h:¬ t.any (fun p=>decide (p.1 = n)) = true):Zgl t n = 0:=by
 induction t with
 | nil=>rfl
 | cons p t ih=>
  obtain ⟨k,v⟩:=p
  simp only [List.any_cons,Bool.or_eq_true,decide_eq_true_eq,not_or] at h
  simp only [Zgl,if_neg h.1]
  exact ih (by simpa using h.2)
theorem Zn2 (t:List (Int × Int)) (n:Int):(Zb9 (Zgi t) (.inl n)).getD (.int 0) = .int (Zgl t n):=by
 rw [ZnI]
 by_cases c:(t.any fun p=>decide (p.1 = n)) = true
 ·rw [if_pos c]; rfl
 ·rw [if_neg c,Zma c]; rfl
def Zoq (cs:List (Int × Int)):Prop:=cs.Pairwise fun a b=>a.1 < b.1
theorem Zoq.keys {cs:List (Int × Int)} (h:Zoq cs):keysOk cs:=by
 unfold keysOk Zoq at *
 rw [List.Nodup,List.pairwise_map]
 exact h.imp fun h=>(fun z=>iN [] [_,_] 2 26047746225 T1 z h)
noncomputable def ZeE (cs:List (Int × Int)) (n v:Int):List (Int × Int):=cs.filter (fun c=>decide (c.1 < n)) ++ (if v ≠ 0 then [(n,v)] else []) ++ cs.filter (fun c=>decide (n < c.1))
noncomputable def Row.place (bs:List Int) (p:Nat):Row → Nat
 | .jump k=>k
 | .when a k=>if 0 < bs.getD a 0 then k else p + 1
 | _=>p + 1
noncomputable def Row.boxes (bs:List Int) (cs:List (Int × Int)):Row → List Int
 | .put a n=>bs.set a n
 | .add a b c=>bs.set a (bs.getD b 0 + bs.getD c 0)
 | .sub a b c=>bs.set a (bs.getD b 0 - bs.getD c 0)
 | .more a b c=>bs.set a (if bs.getD c 0 < bs.getD b 0 then 1 else 0)
 | .get a b=>bs.set a (Zgl cs (bs.getD b 0))
 | _=>bs
noncomputable def Row.cells (bs:List Int) (cs:List (Int × Int)):Row → List (Int × Int)
 | .set a b=>ZeE cs (bs.getD a 0) (bs.getD b 0)
 | _=>cs
noncomputable def ZnN (s:Stt) (r:Row):Option Stt:=if r.isHalt then none else some ⟨r.place s.boxes s.place,r.boxes s.boxes s.cells,r.cells s.boxes s.cells⟩
noncomputable def ZeZ (roll:Zd9) (s:Stt):Option Stt:=(roll[s.place]?).bind (ZnN s)
noncomputable def Zml:Option Stt → D
 | none=>.non
 | some s=>Zd s
theorem Zj3 (cs:List (Int × Int)):ZcY (cs.map ZaM) = some (Zgi cs):=by
 induction cs with
 | nil=>rfl
 | cons p cs ih=>rw [List.map_cons,ZaM,ZmK,ih]; rfl
theorem Zny (kvs:List (Za5 × D)) (k j:Za5) (v:D):Zb9 (putD k v kvs) j = if j = k then some v else Zb9 kvs j:=by
 have mp:∀ l:List (Za5 × D),Zb9 (l.map fun p=>if p.1 = k then (p.1,v) else p) j = if j = k then (if l.any (fun p=>decide (p.1 = k)) then some v else none) else Zb9 l j:=by
  intro l
  induction l with
  | nil=>simp [Zb9]
  | cons p l ih=>
   obtain ⟨a,b⟩:=p
   rw [List.map_cons]
   by_cases e:a = k
   ·subst e
    simp only [if_true,Zb9]
    by_cases ej:a = j
    ·subst ej; simp
    ·rw [if_neg ej,ih,if_neg (Ne.symm ej),if_neg (Ne.symm ej),if_neg ej]
   ·simp only [if_neg e,Zb9]
    by_cases ej:a = j
    ·subst ej; simp [e]
    ·rw [if_neg ej,ih,if_neg ej]; simp only [List.any_cons,decide_eq_false e,Bool.false_or]
 have ap:∀ l:List (Za5 × D),¬ l.any (fun p=>decide (p.1 = k)) = true → Zb9 (l ++ [(k,v)]) j = if j = k then some v else Zb9 l j:=by
  intro l
  induction l with
  | nil=>intro _; simp only [List.nil_append,Zb9]; by_cases e:k = j <;> simp [e,Ne.symm,eq_comm]
  | cons p l ih=>
   intro h
   obtain ⟨a,b⟩:=p
   simp only [List.any_cons,Bool.or_eq_true,decide_eq_true_eq,not_or] at h
   simp only [List.cons_append,Zb9]
   by_cases ej:a = j
   ·subst ej; rw [if_pos rfl,if_neg h.1,if_pos rfl]
   ·rw [if_neg ej,if_neg ej]; exact ih (by simpa using h.2)
 unfold putD
 by_cases c:(kvs.any fun p=>decide (p.1 = k)) = true
 ·rw [if_pos c,mp,c]; simp
 ·rw [if_neg c]; exact ap kvs c
theorem ZhZ:∀ (l acc:List (Za5 × D)) (j:Za5),(l.map (·.1)).Nodup → Zb9 (l.foldl (fun a p=>putD p.1 p.2 a) acc) j = (match Zb9 l j with | some v=>some v | none=>Zb9 acc j)
 | [],acc,j,_=>rfl
 | p :: l,acc,j,h=>by
  obtain ⟨k,v⟩:=p
  simp only [List.map_cons,List.nodup_cons] at h
  rw [List.foldl_cons,ZhZ l _ j h.2,Zny]
  simp only [Zb9]
  by_cases e:k = j
  ·subst e
   have:Zb9 l k = none:=by
    have hn:=h.1
    clear h
    induction l with
    | nil=>rfl
    | cons q l ih=>
     simp only [List.map_cons,List.mem_cons,not_or] at hn
     simp only [Zb9]
     rw [if_neg (Ne.symm hn.1)]; exact ih hn.2
   rw [this]; simp
  ·rw [if_neg e,if_neg (Ne.symm e)]
theorem ZlW {t:List (Int × Int)} (h:keysOk t):((Zgi t).map (·.1)).Nodup:=by
 unfold keysOk at h
 simp only [Zgi,List.map_map]
 rw [List.Nodup,List.pairwise_map] at *
 exact h.imp fun h e=>h (by simpa using e)
theorem Zl7 {t:List (Int × Int)} (h:keysOk t) (n:Int):(Zb9 (dictOf (Zgi t)) (.inl n)).getD (.int 0) = .int (Zgl t n):=by
 unfold dictOf
 rw [ZhZ _ _ _ (ZlW h),← Zn2]
 cases Zb9 (Zgi t) (.inl n) <;> rfl
theorem Zij {α:Type} {enc h:α → D} {p:α → Bool} {it:It3} {i n:Nat} {c elt:E3} {env0:Zaf}:∀ (as:List α) (acc:List D) (env:Zaf) (M:Store),(∀ d,env.set i (some d) = env0.set i (some d)) →
  (∀ a ∈ as,∀ x,c (env0.set i (some (enc a))) (M.set n (.lst x)) = .ok (.bl (p a)) (M.set n (.lst x))) → (∀ a ∈ as,p a = true → ∀ x,elt (env0.set i (some (enc a))) (M.set n (.lst x)) = .ok (h a) (M.set n (.lst x))) →
  (∀ x,locked it (M.set n (.lst x)) = true) → M[n]? = some (.lst acc) → acc.length + as.length ≤ SZ →
  ZbH it (Zdz i) [c] elt n (as.map enc) env M = .ok (.ref n) (M.set n (.lst (acc ++ (as.filter p).map h))):=by
 intro as
 induction as with
 | nil=>
  intro acc env M _ _ _ hl hM _
  have e:M.set n (.lst acc) = M:=by
   apply List.ext_getElem?
   intro j
   by_cases hj:j = n
   ·subst hj; rw [List.getElem?_set_self (List.getElem?_eq_some_iff.mp hM).1,hM]
   ·rw [List.getElem?_set_ne (Ne.symm hj)]
  have hl':=hl acc
  rw [e] at hl'
  simp only [List.map_nil,ZbH,hl',if_true,List.filter_nil,List.append_nil,e]
 | cons a as ih=>
  intro acc env M he hc hf hl hM hz
  have hn:n < M.length:=(List.getElem?_eq_some_iff.mp hM).1
  have e:M.set n (.lst acc) = M:=by
   apply List.ext_getElem?
   intro j
   by_cases hj:j = n
   ·subst hj; rw [List.getElem?_set_self hn,hM]
   ·rw [List.getElem?_set_ne (Ne.symm hj)]
  have hl':=hl acc
  rw [e] at hl'
  have hc':=hc a List.mem_cons_self acc
  rw [e] at hc'
  rw [List.map_cons]
  cases hp:p a with
  | false=>
   rw [hp] at hc'
   simp only [ZbH,hl',if_true,Zdz,he (enc a),Zc5,hc',R3.bind,Bool.false_eq_true,if_false]
   rw [ih acc (env0.set i (some (enc a))) M (fun d'=>by rw [List.set_set]) (fun b hb x=>hc b (List.mem_cons_of_mem _ hb) x) (fun b hb=>hf b (List.mem_cons_of_mem _ hb)) hl hM (by simp at hz ⊢; exact lB 1 0xf42405b10c0f42405ba1c0c01 T1 hz),List.filter_cons_of_neg (by simp [hp])]
  | true=>
   rw [hp] at hc'
   have hf':=hf a List.mem_cons_self hp acc
   rw [e] at hf'
   have hz':acc.length < SZ:=by simp at hz ⊢; exact lB 1 0xf42405b01f42405ba1c0c01 T1 hz
   simp only [ZbH,hl',if_true,Zdz,he (enc a),Zc5,hc',R3.bind,hf',hM,hz']
   rw [ih (acc ++ [h a]) (env0.set i (some (enc a))) (M.set n (.lst (acc ++ [h a]))) (fun d'=>by rw [List.set_set]) (fun b hb x=>by rw [List.set_set]; exact hc b (List.mem_cons_of_mem _ hb) x) (fun b hb hpb x=>by rw [List.set_set]; exact hf b (List.mem_cons_of_mem _ hb) hpb x) (fun x=>by rw [List.set_set]; exact hl x) (by rw [List.getElem?_set_self hn]) (by simp at hz ⊢; exact lB 1 0xf42405b1a0cc0f42405ba1c0c01 T1 hz),List.filter_cons_of_pos hp,List.set_set]
   simp
theorem ZhP {α:Type} {enc h:α → D} {p:α → Bool} {own:Nat} {i:Nat} {it:I3} {c elt:E3} {env:Zaf} {M M1:Store} {lock:Option Nat} {as:List α} (hi:it env M = .ok ⟨as.map enc,lock⟩ M1) (hlock:∀ n,lock = some n → M1[n]? = some (.lst (as.map enc)))
  (hc:∀ a ∈ as,∀ M,c ((env ++ List.replicate own none).set i (some (enc a))) M = .ok (.bl (p a)) M) (he:∀ a ∈ as,p a = true → ∀ M,elt ((env ++ List.replicate own none).set i (some (enc a))) M = .ok (h a) M) (hz:as.length ≤ 100000):
  eLC it own (Zdz i) [c] elt env M = .ok (.ref M1.length) (M1 ++ [.lst ((as.filter p).map h)]):=by
 rw [Ziy hi]
 have:=Zij (it:=⟨as.map enc,lock⟩) (i:=i) (n:=M1.length) (c:=c) (elt:=elt) (env0:=env ++ List.replicate own none) as [] (env ++ List.replicate own none) (M1 ++ [.lst []]) (fun _=>rfl) (fun a ha x=>hc a ha _) (fun a ha hp x=>he a ha hp _)
  (fun x=>by
   cases lock with
   | none=>rfl
   | some n=>
    have hn:=hlock n rfl
    have hlt:=(List.getElem?_eq_some_iff.mp hn).1
    simp only [locked,decide_eq_true_eq]
    rw [List.getElem?_set_ne (by exact fun z=>lB 2 25787699233 T1 z hlt),List.getElem?_append_left hlt,hn]) (by simp) (by simp; exact lA 1 0xf42405b00186a05b001 T1 hz)
 refine this.trans ?_
 simp
end L3
namespace L3
end L3
namespace L3
end L3
namespace L3
noncomputable section
local instance (priority:=100000) clQ1 (p:Prop):Decidable p:=Classical.propDecidable p
noncomputable def ZmV:List D → Option (List (List Nat))
 | []=>some []
 | .str x :: ds=>(ZmV ds).map (x :: ·)
 | _=>none
noncomputable def glue (sep:List Nat):List (List Nat) → List Nat
 | []=>[]
 | [x]=>x
 | x :: y :: xs=>x ++ sep ++ glue sep (y :: xs)
noncomputable def ZkX (sep:List Nat) (ts:List (List Nat)):Nat:=(ts.map fun t=>t.length + sep.length).sum
noncomputable def ZsY (o:D) (ds:List D) (M:Store):R3 D:=match o,ds with
 | .str sep,[.ref n]=>match M[n]? with
  | some (.lst x)=>match ZmV x with
   | some ts=>if ZkX sep ts ≤ SZ then .ok (.str (glue sep ts)) M else .bad
   | none=>.bad
  | _=>.bad
 | _,_=>.bad
@[simp] theorem Zsh {M:Store}:∀ sep n,ZsY (.str sep) ([.ref n]) M = (match M[n]? with
  | some (.lst x)=>match ZmV x with
   | some ts=>if ZkX sep ts ≤ SZ then .ok (.str (glue sep ts)) M else .bad
   | none=>.bad
  | _=>.bad):=fun _ _=>rfl
@[simp] noncomputable def Zfs (T1 T2:Ty3) (d:D) (M:Store):R3 D:=match Zeq T1 d M,Zeq T2 d M with
 | some a,some b=>.ok (.bl (a || b)) M
 | _,_=>.bad
end
end L3
namespace L3
noncomputable section
noncomputable def Zmb (f:E3) (g:G3):S3:=fun env M=>match f env M with
 | .ok d M1=>match g d env with
  | some env1=>.nx env1 M1
  | none=>.bad
 | .exc x M1=>.exc x M1
 | .bad=>.bad
structure ItL where
 items:List D
 lk:List (Nat × List D)
noncomputable def Zc2 (lk:List (Nat × List D)) (M:Store):Bool:=lk.all fun q=>decide (M[q.1]? = some (.lst q.2))
noncomputable def ZeR (lk:List (Nat × List D)) (g:G3) (body:S3):List D → Zaf → Store → O3
 | [],env,M=>if Zc2 lk M then .nx env M else .bad
 | d :: ds,env,M=>if Zc2 lk M then match g d env with
  | none=>.bad
  | some env1=>match body env1 M with
   | .nx e M'=>ZeR lk g body ds e M'
   | .ct e M'=>ZeR lk g body ds e M'
   | .bk e M'=>.nx e M'
   | o=>o
  else .bad
noncomputable abbrev IL3:=Zaf → Store → R3 ItL
noncomputable def Zk9 (i:IL3) (g:G3) (body:S3):S3:=fun env M=>match i env M with
 | .ok it M1=>ZeR it.lk g body it.items env M1
 | .exc x M1=>.exc x M1
 | .bad=>.bad
noncomputable def ZdF:Nat → List D → List D
 | _,[]=>[]
 | k,d :: ds=>.tup [.int k,d] :: ZdF (k + 1) ds
@[simp] noncomputable def Zm0 (f:E3):IL3:=fun env M=>(f env M).bind fun a M1=>match a with
 | .tup ds=>.ok ⟨ZdF 0 ds,[]⟩ M1
 | .ref n=>match M1[n]? with
  | some (.lst ds)=>.ok ⟨ZdF 0 ds,[(n,ds)]⟩ M1
  | _=>.bad
 | _=>.bad
noncomputable def ZgI (f:E3) (is:List Nat):S3:=fun env M=>match f env M with
 | .ok (.ref n) M1=>(match M1[n]? with
  | some (.lst ds)=>(match bindAll is ds env with
   | some env1=>.nx env1 M1
   | none=>.bad)
  | _=>.bad)
 | _=>.bad
noncomputable def Zf7 (a b:D) (M:Store):R3 D:=match b with
 | .ref n=>match M[n]? with
  | some (.lst ys)=>if Zbb a && ys.all Zbb then .ok (.bl (ys.any fun y=>deq y a)) M else .bad
  | _=>.bad
 | _=>.bad
@[simp] theorem Znx {a:D} {M:Store}:∀ n,Zf7 a (.ref n) M = (match M[n]? with
  | some (.lst ys)=>if Zbb a && ys.all Zbb then .ok (.bl (ys.any fun y=>deq y a)) M else .bad
  | _=>.bad):=fun _=>rfl
theorem Zf1:∀ (k:Nat) (ds:List D) (i:Nat),(ZdF k ds)[i]? = (ds[i]?).map fun d=>.tup [.int ((k + i:Nat):Int),d]
 | _,[],_=>by simp [ZdF]
 | k,d :: ds,0=>by simp [ZdF]
 | k,d :: ds,i + 1=>by
  simp only [ZdF,List.getElem?_cons_succ,Zf1 (k + 1) ds i]
  rw [show k + 1 + i = k + (i + 1) by exact Nat.le_antisymm (lB 0 0xa1c0c1a0cc0 T1) (lB 0 1790139547840 T1)]
theorem ZfO:∀ (k:Nat) (ds:List D),(ZdF k ds).length = ds.length
 | _,[]=>rfl
 | k,d :: ds=>by simp [ZdF,ZfO (k + 1) ds]
end
end L3
namespace L3
noncomputable section
section
local instance (priority:=100000) clZ1 (p:Prop):Decidable p:=Classical.propDecidable p
end
section
local instance (priority:=100000) clZ2 (p:Prop):Decidable p:=Classical.propDecidable p
end
end
end L3
namespace L3
noncomputable section
section
local instance (priority:=100000) clPg (p:Prop):Decidable p:=Classical.propDecidable p
end
end
end L3
namespace L3
noncomputable def Zgg (f:List Nat) (d:D):List (List Nat × D) → List (List Nat × D)
 | []=>[(f,d)]
 | (g,x) :: r=>if g = f then (g,d) :: r else (g,x) :: Zgg f d r
noncomputable def Zef (c f:List Nat) (a:D) (M:Store):R3 D:=match a with
 | .ref n=>match M[n]? with
  | some (.ins c' fs)=>if c' = c then (match fs.lookup f with
   | some d=>.ok d M
   | none=>.bad) else .bad
  | _=>.bad
 | _=>.bad
@[simp] theorem Zhc {c:List Nat} {f:List Nat} {M:Store}:∀ n,Zef c f (.ref n) M = (match M[n]? with
  | some (.ins c' fs)=>if c' = c then (match fs.lookup f with
   | some d=>.ok d M
   | none=>.bad) else .bad
  | _=>.bad):=fun _=>rfl
noncomputable def ZiM (c f:List Nat) (v a:D) (M:Store):R3 D:=match a with
 | .ref n=>match M[n]? with
  | some (.ins c' fs)=>if c' = c ∧ fs.length < 1000 then .ok .non (M.set n (.ins c (Zgg f v fs))) else .bad
  | _=>.bad
 | _=>.bad
@[simp] theorem ZfN {c:List Nat} {f:List Nat} {v:D} {M:Store}:∀ n,ZiM c f v (.ref n) M = (match M[n]? with
  | some (.ins c' fs)=>if c' = c ∧ fs.length < 1000 then .ok .non (M.set n (.ins c (Zgg f v fs))) else .bad
  | _=>.bad):=fun _=>rfl
noncomputable def Zoa (c f:List Nat) (o v:E3):S3:=ZaR (e2 (ZiM c f) v o)
noncomputable def Zjh (c m:List Nat) (a:D) (M:Store):Bool:=match a with
 | .ref n=>match M[n]? with
  | some (.ins c' fs)=>decide (c' = c) && (fs.lookup m).isNone
  | _=>false
 | _=>false
@[simp] theorem Zoe {c:List Nat} {m:List Nat} {M:Store}:∀ n,Zjh c m (.ref n) M = (match M[n]? with
  | some (.ins c' fs)=>decide (c' = c) && (fs.lookup m).isNone
  | _=>false):=fun _=>rfl
@[simp] noncomputable def ZaA (c m:List Nat) (F:F3) (o:E3) (g:EL3):E3:=fun env M=>(o env M).bind fun a M1=>if Zjh c m a M1 then (g env M1).bind fun ds M2=>F (a :: ds) M2 else .bad
@[simp] noncomputable def ZcS (c:List Nat) (F:F3) (g:EL3):E3:=fun env M=>(g env M).bind fun ds M1=>match F (.ref M1.length :: ds) (M1 ++ [.ins c []]) with
 | .ok .non M2=>.ok (.ref M1.length) M2
 | _=>.bad
end L3
namespace L3
noncomputable section
@[simp] noncomputable def eNo (f:E3):E3:=fun env M=>match f env M with
 | .exc _ _=>.bad
 | r=>r
@[simp] noncomputable def Zjo (f:EL3):EL3:=fun env M=>match f env M with
 | .exc _ _=>.bad
 | r=>r
noncomputable def sNo (f:S3):S3:=fun env M=>match f env M with
 | .exc _ _=>.bad
 | o=>o
noncomputable def Ze1 (c:List Nat) (g:EL3):S3:=fun env M=>match g env M with
 | .ok [_] M1=>.exc ⟨c,.ref M1.length⟩ (M1 ++ [.ins (0 :: c) []])
 | _=>.bad
noncomputable def Zj7 (cs:List (List Nat)) (j:Nat) (b h:S3):S3:=fun env M=>match b env M with
 | .exc x M'=>if cs.contains x.cls then (match h (env.set j (some x.arg)) M' with
  | .nx e' M2=>.nx (e'.set j none) M2
  | _=>.bad) else .bad
 | o=>o
@[simp] noncomputable def Zbw (yes no:List (List Nat)) (d:D) (M:Store):R3 D:=match d with
 | .non=>.ok (.bl false) M
 | .ref n=>match M[n]? with
  | some (.ins (0 :: c) _)=>if yes.contains c then .ok (.bl true) M else if no.contains c then .ok (.bl false) M else .bad
  | _=>.bad
 | _=>.bad
end
end L3
namespace L3
noncomputable section
end
end L3
namespace L3
noncomputable section
end
end L3
namespace L3
open PySem PySem.Spec PyProof.Rows L2
noncomputable abbrev St:=L2.St
theorem ZbS:SZ ≤ sizeLine:=by rw [sizeLine_eq]; decide
def SqF (K:PySem.W.Frag) (H:Hp) (a:Addr) (xs:List V):Prop:=
 (∃ o,H a = some (.frz o (.lst xs))) ∨
  ∃ (o:Obj) (its:Array Value) (n:Nat),K.lookup a = some o ∧ o.cls = .type "list" ∧ o.dict = none ∧ o.data = .seq its n ∧ its.size ≤ sizeLine ∧ Vals xs its.toList
theorem SqF.sq {K:PySem.W.Frag} {H:Hp} {a:Addr} {xs:List V} (h:SqF K H a xs):SqL K H a xs:=by
 rcases h with ⟨o,h⟩ | h
 ·exact .inl (.inr ⟨o,h⟩)
 ·exact .inr h
mutual
noncomputable def Rep (K:PySem.W.Frag) (H:Hp) (ι:List Addr):D → V → Prop
 | .non,v=>v = .non
 | .bl b,v=>v = .bl b
 | .int i,v=>v = .int i
 | .str x,v=>v = .str ⟨x.toArray⟩
 | .tup ds,v=>∃ a vs,v = .ref a ∧ SqT K H a vs ∧ Zy K H ι ds vs
 | .scr ds,v=>∃ a vs,v = .ref a ∧ SqF K H a vs ∧ Zy K H ι ds vs
 | .ref n,v=>∃ a,ι[n]? = some a ∧ v = .ref a
noncomputable def Zy (K:PySem.W.Frag) (H:Hp) (ι:List Addr):List D → List V → Prop
 | [],vs=>vs = []
 | d :: ds,vs=>∃ v ws,vs = v :: ws ∧ Rep K H ι d v ∧ Zy K H ι ds ws
end
structure Ext (K:PySem.W.Frag) (H:Hp) (ι:List Addr) (H':Hp) (ι':List Addr):Prop where
 tup:∀ a xs,SqT K H a xs → SqT K H' a xs
 scr:∀ a xs,SqF K H a xs → SqF K H' a xs
 pre:∀ (n:Nat) (a:Addr),ι[n]? = some a → ι'[n]? = some a
 frz:∀ a o u,H a = some (.frz o u) → H' a = some (.frz o u)
section
variable {K:PySem.W.Frag} {H H' H1 H2:Hp} {ι ι' ι1 ι2:List Addr}
theorem Ext.refl:Ext K H ι H ι:=⟨fun _ _ h=>h,fun _ _ h=>h,fun _ _ h=>h,fun _ _ _ h=>h⟩
theorem Ext.trans (a:Ext K H ι H1 ι1) (b:Ext K H1 ι1 H2 ι2):Ext K H ι H2 ι2:=
 ⟨fun x xs h=>b.tup x xs (a.tup x xs h),fun x xs h=>b.scr x xs (a.scr x xs h),fun n x h=>b.pre n x (a.pre n x h),fun x o u h=>b.frz x o u (a.frz x o u h)⟩
mutual
theorem Rep.mono (e:Ext K H ι H' ι'):∀ {d:D} {v:V},Rep K H ι d v → Rep K H' ι' d v
 | .non,_,h=>by simpa [Rep] using h
 | .bl _,_,h=>by simpa [Rep] using h
 | .int _,_,h=>by simpa [Rep] using h
 | .str _,_,h=>by simpa [Rep] using h
 | .tup ds,_,h=>by
  simp only [Rep] at h ⊢
  obtain ⟨a,vs,rfl,s,r⟩:=h
  exact ⟨a,vs,rfl,e.tup _ _ s,Zy.mono e (ds:=ds) r⟩
 | .scr ds,_,h=>by
  simp only [Rep] at h ⊢
  obtain ⟨a,vs,rfl,s,r⟩:=h
  exact ⟨a,vs,rfl,e.scr _ _ s,Zy.mono e (ds:=ds) r⟩
 | .ref n,_,h=>by
  simp only [Rep] at h ⊢
  obtain ⟨a,s,rfl⟩:=h
  exact ⟨a,e.pre _ _ s,rfl⟩
theorem Zy.mono (e:Ext K H ι H' ι'):∀ {ds:List D} {vs:List V},Zy K H ι ds vs → Zy K H' ι' ds vs
 | [],_,h=>by simpa [Zy] using h
 | d :: ds,_,h=>by
  simp only [Zy] at h ⊢
  obtain ⟨v,ws,rfl,r,q⟩:=h
  exact ⟨v,ws,rfl,Rep.mono e (d:=d) r,Zy.mono e (ds:=ds) q⟩
end
mutual
theorem Rep.keep (ht:∀ a xs,SqT K H a xs → SqT K H' a xs) (hs:∀ a xs,SqF K H a xs → SqF K H' a xs):∀ {d:D} {v:V},Rep K H ι d v → Rep K H' ι d v
 | .non,_,h=>by simpa [Rep] using h
 | .bl _,_,h=>by simpa [Rep] using h
 | .int _,_,h=>by simpa [Rep] using h
 | .str _,_,h=>by simpa [Rep] using h
 | .tup ds,_,h=>by
  simp only [Rep] at h ⊢
  obtain ⟨a,vs,rfl,s,r⟩:=h
  exact ⟨a,vs,rfl,ht _ _ s,Zy.keep ht hs (ds:=ds) r⟩
 | .scr ds,_,h=>by
  simp only [Rep] at h ⊢
  obtain ⟨a,vs,rfl,s,r⟩:=h
  exact ⟨a,vs,rfl,hs _ _ s,Zy.keep ht hs (ds:=ds) r⟩
 | .ref n,_,h=>by simpa [Rep] using h
theorem Zy.keep (ht:∀ a xs,SqT K H a xs → SqT K H' a xs) (hs:∀ a xs,SqF K H a xs → SqF K H' a xs):∀ {ds:List D} {vs:List V},Zy K H ι ds vs → Zy K H' ι ds vs
 | [],_,h=>by simpa [Zy] using h
 | d :: ds,_,h=>by
  simp only [Zy] at h ⊢
  obtain ⟨v,ws,rfl,r,q⟩:=h
  exact ⟨v,ws,rfl,Rep.keep ht hs (d:=d) r,Zy.keep ht hs (ds:=ds) q⟩
end
theorem Zy.nil:Zy K H ι [] []:=by simp [Zy]
theorem Zy.cons {d:D} {ds:List D} {v:V} {vs:List V} (h:Rep K H ι d v) (t:Zy K H ι ds vs):Zy K H ι (d :: ds) (v :: vs):=by
 simp only [Zy]
 exact ⟨v,vs,rfl,h,t⟩
theorem Zy.nil_inv {vs:List V} (h:Zy K H ι [] vs):vs = []:=by simpa [Zy] using h
theorem Zy.cons_inv {d:D} {ds:List D} {vs:List V} (h:Zy K H ι (d :: ds) vs):∃ v ws,vs = v :: ws ∧ Rep K H ι d v ∧ Zy K H ι ds ws:=by simpa [Zy] using h
theorem Zy.length:∀ {ds:List D} {vs:List V},Zy K H ι ds vs → vs.length = ds.length
 | [],_,h=>by rw [h.nil_inv]; rfl
 | d :: ds,_,h=>by
  obtain ⟨v,ws,rfl,_,q⟩:=h.cons_inv
  simp [q.length]
theorem Zy.append:∀ {ds es:List D} {vs ws:List V},Zy K H ι ds vs → Zy K H ι es ws → Zy K H ι (ds ++ es) (vs ++ ws)
 | [],_,_,_,h,q=>by rw [h.nil_inv]; exact q
 | d :: ds,_,_,_,h,q=>by
  obtain ⟨v,us,rfl,r,t⟩:=h.cons_inv
  exact Zy.cons r (t.append q)
theorem Zy.drop:∀ {ds:List D} {vs:List V} (n:Nat),Zy K H ι ds vs → Zy K H ι (ds.drop n) (vs.drop n)
 | _,_,0,h=>h
 | [],_,n + 1,h=>by rw [h.nil_inv]; exact Zy.nil
 | d :: ds,_,n + 1,h=>by
  obtain ⟨v,us,rfl,r,t⟩:=h.cons_inv
  exact t.drop n
theorem Zy.take:∀ {ds:List D} {vs:List V} (n:Nat),Zy K H ι ds vs → Zy K H ι (ds.take n) (vs.take n)
 | _,_,0,h=>Zy.nil
 | [],_,n + 1,h=>by rw [h.nil_inv]; exact Zy.nil
 | d :: ds,_,n + 1,h=>by
  obtain ⟨v,us,rfl,r,t⟩:=h.cons_inv
  exact Zy.cons r (t.take n)
theorem Zy.get:∀ {ds:List D} {vs:List V} {i:Nat} {d:D},Zy K H ι ds vs → ds[i]? = some d → ∃ v,vs[i]? = some v ∧ Rep K H ι d v
 | [],_,_,_,_,e=>by simp at e
 | d :: ds,_,0,_,h,e=>by
  obtain ⟨v,us,rfl,r,t⟩:=h.cons_inv
  simp at e; subst e
  exact ⟨v,rfl,r⟩
 | d :: ds,_,i + 1,_,h,e=>by
  obtain ⟨v,us,rfl,r,t⟩:=h.cons_inv
  obtain ⟨w,q,z⟩:=t.get (i:=i) (by simpa using e)
  exact ⟨w,by simpa using q,z⟩
theorem Zy.set:∀ {ds:List D} {vs:List V} {d:D} {v:V} (i:Nat),Zy K H ι ds vs → Rep K H ι d v → Zy K H ι (ds.set i d) (vs.set i v)
 | [],_,_,_,_,h,_=>by rw [h.nil_inv]; exact Zy.nil
 | d :: ds,_,_,_,0,h,q=>by
  obtain ⟨v,us,rfl,r,t⟩:=h.cons_inv
  exact Zy.cons q t
 | d :: ds,_,_,_,i + 1,h,q=>by
  obtain ⟨v,us,rfl,r,t⟩:=h.cons_inv
  exact Zy.cons r (t.set i q)
theorem Zy.ints:∀ (ns:List Int),Zy K H ι (ns.map D.int) (ns.map V.int)
 | []=>Zy.nil
 | n :: ns=>Zy.cons (by simp [Rep]) (Zy.ints ns)
theorem Rep.non_inv {v:V} (h:Rep K H ι .non v):v = .non:=by simpa [Rep] using h
theorem Rep.bl_inv {v:V} {b:Bool} (h:Rep K H ι (.bl b) v):v = .bl b:=by simpa [Rep] using h
theorem Rep.int_inv {v:V} {i:Int} (h:Rep K H ι (.int i) v):v = .int i:=by simpa [Rep] using h
theorem Rep.str_inv {v:V} {x:List Nat} (h:Rep K H ι (.str x) v):v = .str ⟨x.toArray⟩:=by simpa [Rep] using h
theorem Rep.tup_inv {v:V} {ds:List D} (h:Rep K H ι (.tup ds) v):∃ a vs,v = .ref a ∧ SqT K H a vs ∧ Zy K H ι ds vs:=by simpa [Rep] using h
theorem Rep.scr_inv {v:V} {ds:List D} (h:Rep K H ι (.scr ds) v):∃ a vs,v = .ref a ∧ SqF K H a vs ∧ Zy K H ι ds vs:=by simpa [Rep] using h
theorem Rep.ref_inv {v:V} {n:Nat} (h:Rep K H ι (.ref n) v):∃ a,ι[n]? = some a ∧ v = .ref a:=by simpa [Rep] using h
theorem Rep.non:Rep K H ι .non .non:=by simp [Rep]
theorem Rep.bl {b:Bool}:Rep K H ι (.bl b) (.bl b):=by simp [Rep]
theorem Rep.int {i:Int}:Rep K H ι (.int i) (.int i):=by simp [Rep]
theorem Rep.str {x:List Nat}:Rep K H ι (.str x) (.str ⟨x.toArray⟩):=by simp [Rep]
theorem Rep.tup {a:Addr} {vs:List V} {ds:List D} (s:SqT K H a vs) (r:Zy K H ι ds vs):Rep K H ι (.tup ds) (.ref a):=by
 simp only [Rep]; exact ⟨a,vs,rfl,s,r⟩
theorem Rep.ref {a:Addr} {n:Nat} (s:ι[n]? = some a):Rep K H ι (.ref n) (.ref a):=by
 simp only [Rep]; exact ⟨a,s,rfl⟩
end
def ExO (e C:Addr) (h:Heap):Prop:=∃ o vs,h.get? e = some o ∧ o.cls = .ref C ∧ o.data = .fields vs
noncomputable abbrev exH (e C:Addr):HO:=.ext (ExO e C)
noncomputable def dk:Za5 → Key
 | .inl i=>.inl i
 | .inr x=>.inr ⟨x.toArray⟩
def KvR (K:PySem.W.Frag) (H:Hp) (ι:List Addr) (kvs:List (Za5 × D)) (ws:List (Key × V)):Prop:=
 ws.map (·.1) = kvs.map (fun p=>dk p.1) ∧ Zy K H ι (kvs.map (·.2)) (ws.map (·.2))
def FsR (K:PySem.W.Frag) (H:Hp) (ι:List Addr) (fs:List (List Nat × D)) (gs:List (Str × V)):Prop:=
 gs.map (·.1) = fs.map (fun p=>(⟨p.1.toArray⟩:Str)) ∧ Zy K H ι (fs.map (·.2)) (gs.map (·.2))
def ClsAt (K:PySem.W.Frag) (c:List Nat) (C:Addr):Prop:=PySem.W.nsIn K mainGlobals ⟨c.toArray⟩ = some (some (.ref C))
noncomputable def Ze3 (K:PySem.W.Frag) (H:Hp) (ι:List Addr):MO → Addr → Prop
 | .lst xs,a=>∃ vs,H a = some (.lst vs) ∧ Zy K H ι xs vs
 | .dct kvs,a=>∃ ws,H a = some (.dK ws) ∧ KvR K H ι kvs ws
 | .fdct kvs,a=>∃ ws,(∃ o,H a = some (.frz o (.dK ws))) ∧ KvR K H ι kvs ws
 | .ins c fs,a=>(∃ C dx gs,H a = some (.ins C dx gs) ∧ (ClsAt K c C ∧ c.head? ≠ some 0) ∧ FsR K H ι fs gs) ∨ ∃ C,H a = some (exH a C) ∧ c.head? = some 0 ∧ ClsAt K c.tail C ∧ fs = []
structure Zag (K:PySem.W.Frag) (H:Hp) (ι:List Addr) (M:Store):Prop where
 len:ι.length = M.length
 nd:ι.Nodup
 obj:∀ (n:Nat) o a,M[n]? = some o → ι[n]? = some a → Ze3 K H ι o a
def Loose (H:Hp) (p:Addr):Prop:=H p = none ∨ (∃ vs,H p = some (.lst vs)) ∨ (∃ ws,H p = some (.dK ws)) ∨ ∃ C dx gs,H p = some (.ins C dx gs)
section
variable {K:PySem.W.Frag} {H H':Hp} {ι ι':List Addr} {M:Store} {p:Addr} {o:HO}
theorem Loose.ne {a:Addr} {u:HO} (l:Loose H p) (h:H a = some u) (h1:∀ vs,u ≠ .lst vs) (h2:∀ ws,u ≠ .dK ws) (h3:∀ C dx gs,u ≠ .ins C dx gs:=by exact fun _ _ _ z=>nomatch z):a ≠ p:=by
 rintro rfl
 rcases l with l | ⟨vs,l⟩ | ⟨ws,l⟩ | ⟨C,dx,gs,l⟩
 ·rw [h] at l; cases l
 ·rw [h] at l; exact h1 vs (Option.some.inj l)
 ·rw [h] at l; exact h2 ws (Option.some.inj l)
 ·rw [h] at l; exact h3 C dx gs (Option.some.inj l)
theorem Loose.tup (l:Loose H p) {a:Addr} {xs:List V} (h:SqT K H a xs):SqT K (upd H p o) a xs:=by
 rcases h with (h | ⟨ob,h⟩) | h
 ·exact .inl (.inl (by rw [ZaE (l.ne h (fun _ z=>nomatch z) (fun _ z=>nomatch z))]; exact h))
 ·exact .inl (.inr ⟨ob,by rw [ZaE (l.ne h (fun _ z=>nomatch z) (fun _ z=>nomatch z))]; exact h⟩)
 ·exact .inr h
theorem Loose.scr (l:Loose H p) {a:Addr} {xs:List V} (h:SqF K H a xs):SqF K (upd H p o) a xs:=by
 rcases h with ⟨ob,h⟩ | h
 ·exact .inl ⟨ob,by rw [ZaE (l.ne h (fun _ z=>nomatch z) (fun _ z=>nomatch z))]; exact h⟩
 ·exact .inr h
theorem Loose.frz (l:Loose H p) {a:Addr} {ob:Obj} {u:HO} (h:H a = some (.frz ob u)):upd H p o a = some (.frz ob u):=by
 rw [ZaE (l.ne h (fun _ z=>nomatch z) (fun _ z=>nomatch z))]; exact h
theorem Loose.ext (l:Loose H p):Ext K H ι (upd H p o) ι:=⟨fun _ _ h=>l.tup h,fun _ _ h=>l.scr h,fun _ _ h=>h,fun _ _ _ h=>l.frz h⟩
theorem Loose.extA (l:Loose H p):Ext K H ι (upd H p o) (ι ++ [p]):=⟨fun _ _ h=>l.tup h,fun _ _ h=>l.scr h,fun n a h=>by
 rw [List.getElem?_append_left (List.getElem?_eq_some_iff.mp h).1]; exact h,fun _ _ _ h=>l.frz h⟩
theorem Ze3.mono {m:MO} {a:Addr} (e:Ext K H ι H' ι') (h:Ze3 K H ι m a) (k:H' a = H a):Ze3 K H' ι' m a:=by
 cases m with
 | lst xs=>obtain ⟨vs,q,r⟩:=h; exact ⟨vs,k.trans q,r.mono e⟩
 | dct kvs=>obtain ⟨ws,q,r1,r2⟩:=h; exact ⟨ws,k.trans q,r1,r2.mono e⟩
 | fdct kvs=>obtain ⟨ws,⟨o,q⟩,r1,r2⟩:=h; exact ⟨ws,⟨o,k.trans q⟩,r1,r2.mono e⟩
 | ins c fs=>
  rcases h with ⟨C,dx,gs,q,c,r1,r2⟩ | ⟨C,q,r⟩
  ·exact .inl ⟨C,dx,gs,k.trans q,c,r1,r2.mono e⟩
  ·exact .inr ⟨C,k.trans q,r⟩
theorem Ze3.ne {m:MO} {a:Addr} (h:Ze3 K H ι m a):H a ≠ none:=by
 cases m with
 | lst xs=>obtain ⟨vs,q,r⟩:=h; rw [q]; simp
 | dct kvs=>obtain ⟨ws,q,r⟩:=h; rw [q]; simp
 | fdct kvs=>obtain ⟨ws,⟨o,q⟩,r⟩:=h; rw [q]; simp
 | ins c fs=>rcases h with ⟨C,dx,gs,q,r⟩ | ⟨C,q,r⟩ <;> (rw [q]; simp)
theorem Zag.at (S:Zag K H ι M) {n:Nat} {m:MO} (h:M[n]? = some m):∃ a,ι[n]? = some a ∧ Ze3 K H ι m a:=by
 have hn:n < ι.length:=by rw [S.len]; exact (List.getElem?_eq_some_iff.mp h).1
 exact ⟨ι[n],by simp [hn],S.obj n m _ h (by simp [hn])⟩
theorem Zag.there (S:Zag K H ι M) {n:Nat} {a:Addr} (h:ι[n]? = some a):∃ m,M[n]? = some m ∧ Ze3 K H ι m a:=by
 have hn:n < M.length:=by rw [← S.len]; exact (List.getElem?_eq_some_iff.mp h).1
 exact ⟨M[n],by simp [hn],S.obj n _ _ (by simp [hn]) h⟩
theorem Zag.fresh (S:Zag K H ι M) (hp:H p = none):p ∉ ι:=fun h=>by
 obtain ⟨n,hn⟩:=List.getElem?_of_mem h
 obtain ⟨m,_,q⟩:=S.there hn
 exact q.ne hp
theorem Zag.other (S:Zag K H ι M) (l:Loose H p) (hp:p ∉ ι):Zag K (upd H p o) ι M:=
 ⟨S.len,S.nd,fun n m a h1 h2=>(S.obj n m a h1 h2).mono l.ext (by
  rw [ZaE]; rintro rfl; exact hp (List.mem_of_getElem? h2))⟩
theorem Zag.new (S:Zag K H ι M) (hp:H p = none) {m:MO} (h:Ze3 K (upd H p o) (ι ++ [p]) m p):Zag K (upd H p o) (ι ++ [p]) (M ++ [m]):=by
 have hf:=S.fresh hp
 refine ⟨by simp [S.len],?_,fun n m' a h1 h2=>?_⟩
 ·exact List.nodup_append.mpr ⟨S.nd,by simp,fun x hx y hy=>by
   have e:y = p:=by simpa using hy
   subst e
   rintro rfl
   exact hf hx⟩
 ·by_cases hn:n < ι.length
  ·rw [List.getElem?_append_left hn] at h2
   rw [List.getElem?_append_left (by rw [← S.len]; exact hn)] at h1
   refine (S.obj n m' a h1 h2).mono (Loose.extA (.inl hp)) ?_
   rw [ZaE]
   rintro rfl
   exact hf (List.mem_of_getElem? h2)
  ·rw [List.getElem?_append_right (Nat.le_of_not_lt hn)] at h2
   rw [List.getElem?_append_right (by rw [← S.len]; exact Nat.le_of_not_lt hn)] at h1
   have hlt:n - ι.length < 1:=by
    have:=(List.getElem?_eq_some_iff.mp h2).1
    simpa using this
   have e0:n - ι.length = 0:=Nat.le_antisymm (lA 1 234922001 T1 hlt) (Nat.zero_le _)
   rw [e0] at h2
   rw [← S.len,e0] at h1
   simp at h1 h2
   subst h1 h2
   exact h
theorem Zag.put (S:Zag K H ι M) {n:Nat} (l0:Loose H p) (hn:ι[n]? = some p) {m:MO} (h:Ze3 K (upd H p o) ι m p):Zag K (upd H p o) ι (M.set n m):=by
 obtain ⟨m0,hm0,q0⟩:=S.there hn
 refine ⟨by simp [S.len],S.nd,fun k m' a h1 h2=>?_⟩
 by_cases hk:k = n
 ·subst hk
  rw [hn] at h2
  cases h2
  have hlt:k < M.length:=(List.getElem?_eq_some_iff.mp hm0).1
  rw [List.getElem?_set_self hlt] at h1
  cases h1
  exact h
 ·rw [List.getElem?_set_ne (Ne.symm hk)] at h1
  refine (S.obj k m' a h1 h2).mono (Loose.ext l0) ?_
  rw [ZaE]
  rintro rfl
  have hlt1:=(List.getElem?_eq_some_iff.mp h2)
  have hlt2:=(List.getElem?_eq_some_iff.mp hn)
  exact hk ((List.getElem_inj S.nd).mp (hlt1.2.trans hlt2.2.symm))
theorem Zag.lst (S:Zag K H ι M) (hp:H p = none) {xs:List D} {vs:List V} (r:Zy K H ι xs vs):Ext K H ι (upd H p (.lst vs)) (ι ++ [p]) ∧ Zag K (upd H p (.lst vs)) (ι ++ [p]) (M ++ [.lst xs]) ∧ Rep K (upd H p (.lst vs)) (ι ++ [p]) (.ref M.length) (.ref p):=by
 have e:Ext K H ι (upd H p (.lst vs)) (ι ++ [p]):=Loose.extA (.inl hp)
 refine ⟨e,S.new hp ⟨vs,Zbm,r.mono e⟩,Rep.ref ?_⟩
 rw [← S.len]; simp
theorem Zag.tupl (S:Zag K H ι M) (hp:H p = none) {xs:List D} {vs:List V} (r:Zy K H ι xs vs):Ext K H ι (upd H p (.tup vs)) ι ∧ Zag K (upd H p (.tup vs)) ι M ∧ Rep K (upd H p (.tup vs)) ι (.tup xs) (.ref p):=by
 have e:Ext K H ι (upd H p (.tup vs)) ι:=Loose.ext (.inl hp)
 exact ⟨e,S.other (.inl hp) (S.fresh hp),Rep.tup (SqT.of Zbm) (r.mono e)⟩
theorem Zag.setl (S:Zag K H ι M) {n:Nat} (l0:Loose H p) (hn:ι[n]? = some p) {xs:List D} {vs:List V} (r:Zy K H ι xs vs):Ext K H ι (upd H p (.lst vs)) ι ∧ Zag K (upd H p (.lst vs)) ι (M.set n (.lst xs)):=by
 have e:Ext K H ι (upd H p (.lst vs)) ι:=Loose.ext l0
 exact ⟨e,S.put l0 hn ⟨vs,Zbm,r.mono e⟩⟩
end
def Za1 (K:PySem.W.Frag) (H:Hp) (ι:List Addr) (env:Zaf) (σ:St):Prop:=
 env.length = σ.length ∧ ∀ (i:Nat) d,env[i]? = some (some d) → ∃ v,σ[i]? = some (some v) ∧ Rep K H ι d v
theorem Za1.mono {K:PySem.W.Frag} {H H':Hp} {ι ι':List Addr} {env:Zaf} {σ:St} (r:Za1 K H ι env σ) (e:Ext K H ι H' ι'):Za1 K H' ι' env σ:=
 ⟨r.1,fun i d h=>let ⟨v,q,z⟩:=r.2 i d h; ⟨v,q,z.mono e⟩⟩
theorem Za1.set {K:PySem.W.Frag} {H:Hp} {ι:List Addr} {env:Zaf} {σ:St} {d:D} {v:V} (r:Za1 K H ι env σ) (i:Nat) (h:Rep K H ι d v):Za1 K H ι (env.set i (some d)) (σ.set i (some v)):=by
 refine ⟨by simp [r.1],fun j e hj=>?_⟩
 by_cases hij:j = i
 ·subst hij
  have hlt:j < env.length:=by
   have:=(List.getElem?_eq_some_iff.mp hj).1
   simpa using this
  rw [List.getElem?_set_self hlt] at hj
  cases hj
  exact ⟨v,by rw [List.getElem?_set_self (by rw [← r.1]; exact hlt)],h⟩
 ·rw [List.getElem?_set_ne (Ne.symm hij)] at hj
  obtain ⟨w,q,z⟩:=r.2 j e hj
  exact ⟨w,by rw [List.getElem?_set_ne (Ne.symm hij)]; exact q,z⟩
def Zz (K:PySem.W.Frag) (H:Hp) (ι:List Addr) (Q:VK) (r:R3 D):Prop:=match r with
 | .ok d M'=>∀ v H' ι',Ext K H ι H' ι' → Zag K H' ι' M' → Rep K H' ι' d v → Q v H'
 | _=>False
inductive TOf (K:PySem.W.Frag) (f:E3) (σ:St) (H:Hp) (Q:VK):Prop where
 | mk (ι:List Addr) (M:Store) (env:Zaf) (S:Zag K H ι M) (E:Za1 K H ι env σ) (h:Zz K H ι Q (f env M)):TOf K f σ H Q
def tOf (K:PySem.W.Frag) (f:E3):TE:=fun σ H Q=>TOf K f σ H Q
def ZgH (K:PySem.W.Frag) (H:Hp) (ι:List Addr) (Q:Bool → Hp → Prop) (r:R3 D):Prop:=match r with
 | .ok (.bl b) M'=>∀ H' ι',Ext K H ι H' ι' → Zag K H' ι' M' → Q b H'
 | _=>False
inductive TTf (K:PySem.W.Frag) (f:E3) (σ:St) (H:Hp) (Q:Bool → Hp → Prop):Prop where
 | mk (ι:List Addr) (M:Store) (env:Zaf) (S:Zag K H ι M) (E:Za1 K H ι env σ) (h:ZgH K H ι Q (f env M)):TTf K f σ H Q
def tTf (K:PySem.W.Frag) (f:E3):TT:=fun σ H Q=>TTf K f σ H Q
def Zl5 (K:PySem.W.Frag) (H:Hp) (ι:List Addr) (Q:List V → Hp → Prop) (r:R3 (List D)):Prop:=match r with
 | .ok ds M'=>∀ vs H' ι',Ext K H ι H' ι' → Zag K H' ι' M' → Zy K H' ι' ds vs → Q vs H'
 | _=>False
inductive TAf (K:PySem.W.Frag) (f:EL3) (σ:St) (H:Hp) (Q:List V → Hp → Prop):Prop where
 | mk (ι:List Addr) (M:Store) (env:Zaf) (S:Zag K H ι M) (E:Za1 K H ι env σ) (h:Zl5 K H ι Q (f env M)):TAf K f σ H Q
def tAf (K:PySem.W.Frag) (f:EL3):TA:=fun σ H Q=>TAf K f σ H Q
def Zog (K:PySem.W.Frag) (H:Hp) (ι:List Addr) (Q:Option Int → Hp → Prop) (r:R3 (Option Int)):Prop:=match r with
 | .ok o M'=>∀ H' ι',Ext K H ι H' ι' → Zag K H' ι' M' → Q o H'
 | _=>False
def tOo (K:PySem.W.Frag) (f:EO3):TO:=fun σ H Q=>∃ ι M env,Zag K H ι M ∧ Za1 K H ι env σ ∧ Zog K H ι Q (f env M)
def Zem (K:PySem.W.Frag) (H:Hp) (ι:List Addr) (E:Ends) (r:O3):Prop:=match r with
 | .nx env' M'=>∀ σ' H' ι',Ext K H ι H' ι' → Zag K H' ι' M' → Za1 K H' ι' env' σ' → E.nx σ' H'
 | .bk env' M'=>∀ σ' H' ι',Ext K H ι H' ι' → Zag K H' ι' M' → Za1 K H' ι' env' σ' → E.bk σ' H'
 | .ct env' M'=>∀ σ' H' ι',Ext K H ι H' ι' → Zag K H' ι' M' → Za1 K H' ι' env' σ' → E.ct σ' H'
 | .rt d M'=>∀ v H' ι',Ext K H ι H' ι' → Zag K H' ι' M' → Rep K H' ι' d v → E.rt v H'
 | _=>False
inductive TSf (K:PySem.W.Frag) (f:S3) (D:Ends) (σ:St) (H:Hp):Prop where
 | mk (ι:List Addr) (M:Store) (env:Zaf) (S:Zag K H ι M) (E:Za1 K H ι env σ) (h:Zem K H ι D (f env M)):TSf K f D σ H
def tSf (K:PySem.W.Frag) (f:S3):TS:=fun E σ H=>TSf K f E σ H
def C3 (X:Cx) (e:Expr) (f:E3):Prop:=PE X e (tOf X.K f)
def CT (X:Cx) (e:Expr) (f:E3):Prop:=PT X e (tTf X.K f)
def CA (X:Cx) (es:List Expr) (f:EL3):Prop:=PA X es (tAf X.K f)
def CO (X:Cx) (e:Option Expr) (f:EO3):Prop:=PO X e (tOo X.K f)
def CS (X:Cx) (st:Stmt) (f:S3):Prop:=PS X st (tSf X.K f)
def CSs (X:Cx) (st:List Stmt) (f:S3):Prop:=PSs X st (tSf X.K f)
theorem _root_.L2.PE.imp {X:Cx} {e:Expr} {t t':TE} (h:PE X e t) (i:∀ σ H Q,t' σ H Q → t σ H Q):PE X e t':=fun pins s σ H Q I q=>h pins s σ H Q I (i σ H Q q)
theorem _root_.L2.PT.imp {X:Cx} {e:Expr} {t t':TT} (h:PT X e t) (i:∀ σ H Q,t' σ H Q → t σ H Q):PT X e t':=fun pins s σ H Q I q=>h pins s σ H Q I (i σ H Q q)
theorem _root_.L2.PA.imp {X:Cx} {e:List Expr} {t t':TA} (h:PA X e t) (i:∀ σ H Q,t' σ H Q → t σ H Q):PA X e t':=fun pos pins s σ H Q I q=>h pos pins s σ H Q I (i σ H Q q)
theorem _root_.L2.PO.imp {X:Cx} {e:Option Expr} {t t':TO} (h:PO X e t) (i:∀ σ H Q,t' σ H Q → t σ H Q):PO X e t':=fun pins s σ H Q I q=>h pins s σ H Q I (i σ H Q q)
theorem _root_.L2.PS.imp {X:Cx} {e:Stmt} {t t':TS} (h:PS X e t) (i:∀ D σ H,t' D σ H → t D σ H):PS X e t':=fun pins s σ H D I q=>h pins s σ H D I (i D σ H q)
theorem _root_.L2.PSs.imp {X:Cx} {e:List Stmt} {t t':TS} (h:PSs X e t) (i:∀ D σ H,t' D σ H → t D σ H):PSs X e t':=fun pins s σ H D I q=>h pins s σ H D I (i D σ H q)
theorem _root_.L2.OpR.imp {X:Cx} {f:Value → Value → Sem Value} {r r':R2} (h:OpR X f r) (i:∀ x y H Q,r' x y H Q → r x y H Q):OpR X f r':=fun pins s σ H x y v u Q I rx ry q=>h pins s σ H x y v u Q I rx ry (i x y H Q q)
theorem _root_.L2.UnR.imp {X:Cx} {f:Value → Sem Value} {r r':V → Hp → VK → Prop} (h:UnR X f r) (i:∀ x H Q,r' x H Q → r x H Q):UnR X f r':=fun pins s σ H x v Q I rx q=>h pins s σ H x v Q I rx (i x H Q q)
theorem _root_.L2.Zb2.imp {X:Cx} {f:Value} {r r':List V → Hp → VK → Prop} (h:Zb2 X f r) (i:∀ x H Q,r' x H Q → r x H Q):Zb2 X f r':=fun pins s σ H xs us Q I rx q=>h pins s σ H xs us Q I rx (i xs H Q q)
theorem _root_.L2.IxR.imp {X:Cx} {r r':R2} (h:IxR X r) (i:∀ x y H Q,r' x y H Q → r x y H Q):IxR X r':=fun value slice pins s σ H x y v u Q I rx ry q hs=>h value slice pins s σ H x y v u Q I rx ry (i x y H Q q) hs
theorem _root_.L2.SlR.imp {X:Cx} {r r':V → Option Int → Option Int → Hp → VK → Prop} (h:SlR X r) (i:∀ x lo hi H Q,r' x lo hi H Q → r x lo hi H Q):SlR X r':=fun pins s σ H x v vl vu lo hi sl Q I rx hs pl pu q=>h pins s σ H x v vl vu lo hi sl Q I rx hs pl pu (i x lo hi H Q q)
section
variable {K:PySem.W.Frag} {H H1:Hp} {ι ι1:List Addr}
theorem Zz.up {Q:VK} {r:R3 D} (e:Ext K H ι H1 ι1) (h:Zz K H ι Q r):Zz K H1 ι1 Q r:=by
 cases r with
 | ok d M=>exact fun v H' ι' e' S r=>h v H' ι' (e.trans e') S r
 | exc x M=>exact h
 | bad=>exact h
theorem ZgH.up {Q:Bool → Hp → Prop} {r:R3 D} (e:Ext K H ι H1 ι1) (h:ZgH K H ι Q r):ZgH K H1 ι1 Q r:=by
 cases r with
 | ok d M=>cases d <;> first | exact h | exact fun H' ι' e' S=>h H' ι' (e.trans e') S
 | exc x M=>exact h
 | bad=>exact h
theorem Zem.up {Q:Ends} {r:O3} (e:Ext K H ι H1 ι1) (h:Zem K H ι Q r):Zem K H1 ι1 Q r:=by
 cases r with
 | nx d M=>exact fun v H' ι' e' S r=>h v H' ι' (e.trans e') S r
 | bk d M=>exact fun v H' ι' e' S r=>h v H' ι' (e.trans e') S r
 | ct d M=>exact fun v H' ι' e' S r=>h v H' ι' (e.trans e') S r
 | rt d M=>exact fun v H' ι' e' S r=>h v H' ι' (e.trans e') S r
 | exc x M=>exact h
 | bad=>exact h
theorem Zz.ok {Q:VK} {d:D} {M:Store} {v:V} (h:Zz K H ι Q (.ok d M)) (S:Zag K H ι M) (r:Rep K H ι d v):Q v H:=h v H ι Ext.refl S r
theorem Zz.bind {α:Type} {Q:VK} {r:R3 α} {k:α → Store → R3 D} (h:Zz K H ι Q (r.bind k)):∃ a M,r = .ok a M ∧ Zz K H ι Q (k a M):=by
 cases r with
 | ok a M=>exact ⟨a,M,rfl,h⟩
 | exc x M=>exact h.elim
 | bad=>exact h.elim
theorem Zl5.bind {α:Type} {Q:List V → Hp → Prop} {r:R3 α} {k:α → Store → R3 (List D)} (h:Zl5 K H ι Q (r.bind k)):∃ a M,r = .ok a M ∧ Zl5 K H ι Q (k a M):=by
 cases r with
 | ok a M=>exact ⟨a,M,rfl,h⟩
 | exc x M=>exact h.elim
 | bad=>exact h.elim
theorem Zog.bind {α:Type} {Q:Option Int → Hp → Prop} {r:R3 α} {k:α → Store → R3 (Option Int)} (h:Zog K H ι Q (r.bind k)):∃ a M,r = .ok a M ∧ Zog K H ι Q (k a M):=by
 cases r with
 | ok a M=>exact ⟨a,M,rfl,h⟩
 | exc x M=>exact h.elim
 | bad=>exact h.elim
theorem ZgH.bind {α:Type} {Q:Bool → Hp → Prop} {r:R3 α} {k:α → Store → R3 D} (h:ZgH K H ι Q (r.bind k)):∃ a M,r = .ok a M ∧ ZgH K H ι Q (k a M):=by
 cases r with
 | ok a M=>exact ⟨a,M,rfl,h⟩
 | exc x M=>exact h.elim
 | bad=>exact h.elim
end
inductive R2I (K:PySem.W.Frag) (op:D → D → Store → R3 D) (x y:V) (H:Hp) (Q:VK):Prop where
 | mk (ι:List Addr) (M:Store) (a b:D) (S:Zag K H ι M) (ra:Rep K H ι a x) (rb:Rep K H ι b y) (h:Zz K H ι Q (op a b M)):R2I K op x y H Q
def r2 (K:PySem.W.Frag) (op:D → D → Store → R3 D):R2:=fun x y H Q=>R2I K op x y H Q
noncomputable def r1 (K:PySem.W.Frag) (op:D → Store → R3 D):V → Hp → VK → Prop:=fun x H Q=>∃ ι M a,Zag K H ι M ∧ Rep K H ι a x ∧ Zz K H ι Q (op a M)
inductive RBI (K:PySem.W.Frag) (b:List D → Store → R3 D) (xs:List V) (H:Hp) (Q:VK):Prop where
 | mk (ι:List Addr) (M:Store) (ds:List D) (S:Zag K H ι M) (r:Zy K H ι ds xs) (h:Zz K H ι Q (b ds M)):RBI K b xs H Q
noncomputable def rB (K:PySem.W.Frag) (b:List D → Store → R3 D):List V → Hp → VK → Prop:=fun xs H Q=>RBI K b xs H Q
noncomputable def rM (K:PySem.W.Frag) (m:D → List D → Store → R3 D):V → List V → Hp → VK → Prop:=fun x xs H Q=>∃ ι M a ds,Zag K H ι M ∧ Rep K H ι a x ∧ Zy K H ι ds xs ∧ Zz K H ι Q (m a ds M)
noncomputable def rS (K:PySem.W.Frag):V → Option Int → Option Int → Hp → VK → Prop:=fun x lo hi H Q=>∃ ι M a,Zag K H ι M ∧ Rep K H ι a x ∧ Zz K H ι Q (ZjL a lo hi M)
theorem ZiW {K:PySem.W.Frag} {op:D → D → Store → R3 D} {f g:E3} (σ:St) (H:Hp) (Q:VK) (h:tOf K (e2 op f g) σ H Q):tOp (r2 K op) (tOf K f) (tOf K g) σ H Q:=by
 obtain ⟨ι,M,env,S,E,h⟩:=h
 obtain ⟨a,M1,e1,h⟩:=Zz.bind h
 obtain ⟨b,M2,e2,h⟩:=Zz.bind h
 refine ⟨ι,M,env,S,E,?_⟩
 rw [e1]
 intro v H1 ι1 x1 S1 r1
 refine ⟨ι1,M1,env,S1,E.mono x1,?_⟩
 rw [e2]
 intro u H2 ι2 x2 S2 r2
 exact ⟨ι2,M2,a,b,S2,r1.mono x2,r2,(h.up x1).up x2⟩
theorem Zro {K:PySem.W.Frag} {op:D → Store → R3 D} {f:E3} (σ:St) (H:Hp) (Q:VK) (h:tOf K (e1 op f) σ H Q):tUn (r1 K op) (tOf K f) σ H Q:=by
 obtain ⟨ι,M,env,S,E,h⟩:=h
 obtain ⟨a,M1,e1,h⟩:=Zz.bind h
 refine ⟨ι,M,env,S,E,?_⟩
 rw [e1]
 intro v H1 ι1 x1 S1 r1
 exact ⟨ι1,M1,a,S1,r1,h.up x1⟩
section
variable {X:Cx} {a b c e o:Expr} {es:List Expr} {pos p:Pos} {f g h:E3} {gl:EL3}
theorem Ze (i:Nat) {x:Str} (hN:X.N[i]? = some x:=by rfl) (hv:Vis X.env.scope x:=by first | exact Or.inl rfl | exact Or.inr (Or.inl rfl) | exact Or.inr (Or.inr rfl)) (hd:(x == ("__debug__":Str)) = false:=by decide)
  (hcd:(x == ("__classdict__":Str)) = false:=by decide):C3 X (.Name x pos) (Zb i):=(ZqR hN hv hd hcd).imp fun σ H Q zz1=>by
 obtain ⟨ι,M,env,S,E,h⟩:=zz1
 unfold Zb at h
 cases q:env[i]? with
 | none=>rw [q] at h; exact h.elim
 | some od=>
  cases od with
  | none=>rw [q] at h; exact h.elim
  | some d=>
   rw [q] at h
   obtain ⟨v,e1,r⟩:=E.2 i d q
   exact ⟨v,e1,Zz.ok h S r⟩
theorem Zi {i j}:C3 X (.Constant (.int i) j pos) (eC (.int i)):=ZrC.imp fun σ H Q ⟨ι,M,env,S,E,h⟩=>Zz.ok h S Rep.int
theorem ZmA {i j}:C3 X (.Constant (.bool i) j pos) (eC (.bl i)):=ZsT.imp fun σ H Q ⟨ι,M,env,S,E,h⟩=>Zz.ok h S Rep.bl
theorem Zn4 {j}:C3 X (.Constant .none j pos) (eC .non):=Zrd.imp fun σ H Q ⟨ι,M,env,S,E,h⟩=>Zz.ok h S Rep.non
theorem Za3 {x:Str} {cs:List Nat} {j} (hx:x = ⟨cs.toArray⟩:=by decide +kernel):C3 X (.Constant (.str x) j pos) (eC (.str cs)):=Zq1.imp fun σ H Q zz1=>by
 obtain ⟨ι,M,env,S,E,h⟩:=zz1
 subst hx
 exact Zz.ok h S Rep.str
theorem Zx {op:Operator} {q:D → D → Store → R3 D} (ho:OpR X (binaryOp op) (r2 X.K q)) (ha:C3 X a f) (hb:C3 X b g):C3 X (.BinOp a op b pos) (e2 q f g):=(Zr6 ho ha hb).imp ZiW
theorem ZjU {op:UnaryOp} {q:D → Store → R3 D} (ho:UnR X (unaryOp op) (r1 X.K q)) (ha:C3 X a f):C3 X (.UnaryOp op a pos) (e1 q f):=(Zs4 ho ha).imp Zro
theorem Zec {op:CmpOp} {q:D → D → Store → R3 D} (ho:OpR X (compareOp op) (r2 X.K q)) (ha:C3 X a f) (hb:C3 X b g) (hm:behindInMarks op b = false:=by rfl):C3 X (.Compare a [op] [b] pos) (e2 q f g):=(Zpm ho ha hb hm).imp ZiW
theorem ZhQ {K:PySem.W.Frag} {H:Hp} {ι:List Addr} {Q:Bool → Hp → Prop} {r:R3 D} (h:ZgH K H ι Q r):Zz K H ι (fun x H'=>∃ k,x = .bl k ∧ Q k H') r:=by
 cases r with
 | ok d M=>
  cases d with
  | bl b=>exact fun v H' ι' e S r=>⟨b,r.bl_inv,h H' ι' e S⟩
  | _=>exact h.elim
 | exc x M=>exact h.elim
 | bad=>exact h.elim
theorem Zdb (h:C3 X e f) (he:∀ whole,isTrue e X.env whole = (do let v ← whole; standAt e.pos; holding [v] (truthy v)):=by intro _; rfl):CT X e f:=(Zrq h he).imp fun σ H Q ⟨ι,M,env,S,E,h⟩=>⟨ι,M,env,S,E,ZhQ h⟩
theorem Zao {op:CmpOp} {q:D → D → Store → R3 D} (ho:OpR X (compareOp op) (r2 X.K q)) (ha:C3 X a f) (hb:C3 X b g) (hm:behindInMarks op b = false:=by rfl):CT X (.Compare a [op] [b] pos) (e2 q f g):=
 (ZoR ho ha hb hm).imp fun σ H Q ⟨ι,M,env,S,E,h⟩=>ZiW σ H _ ⟨ι,M,env,S,E,ZhQ h⟩
end
end L3
namespace L3
open PySem PySem.Spec PyProof.Rows L2
section
variable {X:Cx} {a b c e o:Expr} {es rest:List Expr} {pos p:Pos} {f g h:E3} {gl:EL3}
theorem Zfp {op} (h:C3 X a f):C3 X (.BoolOp op [a] pos) f:=ZqJ h
theorem ZeW (ha:C3 X a f) (hb:C3 X (.BoolOp .And (b :: rest) pos) g):C3 X (.BoolOp .And (a :: b :: rest) pos) (ZbG f g):=(Zp7 ha hb).imp fun σ H Q zz1=>by
 obtain ⟨ι,M,env,S,E,h⟩:=zz1
 obtain ⟨d,M1,e1,h⟩:=Zz.bind h
 refine ⟨ι,M,env,S,E,?_⟩
 rw [e1]
 intro v H1 ι1 x1 S1 r1
 cases d with
 | bl k=>
  refine ⟨k,r1.bl_inv,?_⟩
  cases k with
  | true=>rw [if_pos rfl]; exact ⟨ι1,M1,env,S1,E.mono x1,h.up x1⟩
  | false=>rw [if_neg (by decide)]; exact Zz.ok (h.up x1) S1 Rep.bl
 | _=>exact h.elim
theorem Ztd (ha:C3 X a f):C3 X (.UnaryOp .Not a pos) (e1 ZdN f):=(Zrt ha).imp fun σ H Q zz1=>by
 obtain ⟨ι,M,env,S,E,h⟩:=zz1
 obtain ⟨d,M1,e1,h⟩:=Zz.bind h
 refine ⟨ι,M,env,S,E,?_⟩
 rw [e1]
 intro v H1 ι1 x1 S1 r1
 cases d with
 | bl k=>exact ⟨k,r1.bl_inv,Zz.ok (h.up x1) S1 Rep.bl⟩
 | _=>exact h.elim
def CW (X:Cx) (e:Expr) (f:E3):Prop:=PW X e (tTf X.K f)
theorem CW.ct (h:CW X e f):CT X e f:=PW.pt h
theorem PW.imp {t t':TT} (h:PW X e t) (i:∀ σ H Q,t' σ H Q → t σ H Q):PW X e t':=fun wh pins s σ H Q I q=>h wh pins s σ H Q I (i σ H Q q)
theorem Zd3 (ha:CT X a f):CW X (.BoolOp .And [a] pos) f:=Zpb ha
theorem Zg3 (ha:CT X a f):CW X (.BoolOp .Or [a] pos) f:=ZqZ ha
theorem Ze7 (ha:CT X a f) (hb:CW X (.BoolOp .And (b :: rest) pos) g):CW X (.BoolOp .And (a :: b :: rest) pos) (ZbG f g):=PW.imp (ZqX ha hb) fun σ H Q zz1=>by
 obtain ⟨ι,M,env,S,E,h⟩:=zz1
 obtain ⟨d,M1,e1,h⟩:=ZgH.bind h
 refine ⟨ι,M,env,S,E,?_⟩
 rw [e1]
 cases d with
 | bl k=>
  intro H1 ι1 x1 S1
  cases k with
  | true=>rw [if_pos rfl]; exact ⟨ι1,M1,env,S1,E.mono x1,h.up x1⟩
  | false=>rw [if_neg (by decide)]; exact h H1 ι1 x1 S1
 | _=>exact h.elim
theorem ZjS (ha:CT X a f) (hb:CW X (.BoolOp .Or (b :: rest) pos) g):CW X (.BoolOp .Or (a :: b :: rest) pos) (eOr f g):=PW.imp (ZsV ha hb) fun σ H Q zz1=>by
 obtain ⟨ι,M,env,S,E,h⟩:=zz1
 obtain ⟨d,M1,e1,h⟩:=ZgH.bind h
 refine ⟨ι,M,env,S,E,?_⟩
 rw [e1]
 cases d with
 | bl k=>
  intro H1 ι1 x1 S1
  cases k with
  | false=>rw [if_neg (by decide)]; exact ⟨ι1,M1,env,S1,E.mono x1,h.up x1⟩
  | true=>rw [if_pos rfl]; exact h H1 ι1 x1 S1
 | _=>exact h.elim
theorem ZgJ (ha:CT X a f):CT X (.UnaryOp .Not a pos) (e1 ZdN f):=(Zqu ha).imp fun σ H Q zz1=>by
 obtain ⟨ι,M,env,S,E,h⟩:=zz1
 obtain ⟨d,M1,e1,h⟩:=ZgH.bind h
 refine ⟨ι,M,env,S,E,?_⟩
 rw [e1]
 cases d with
 | bl k=>exact fun H1 ι1 x1 S1=>h H1 ι1 x1 S1
 | _=>exact h.elim
theorem ZsJ (hc:CT X c f) (ha:C3 X a g) (hb:C3 X b h):C3 X (.IfExp c a b pos) (eIf f g h):=(Zm4 hc ha hb).imp fun σ H Q zz1=>by
 obtain ⟨ι,M,env,S,E,h⟩:=zz1
 obtain ⟨d,M1,e1,h⟩:=Zz.bind h
 refine ⟨ι,M,env,S,E,?_⟩
 rw [e1]
 cases d with
 | bl k=>
  intro H1 ι1 x1 S1
  cases k with
  | true=>rw [if_pos rfl]; exact ⟨ι1,M1,env,S1,E.mono x1,h.up x1⟩
  | false=>rw [if_neg (by decide)]; exact ⟨ι1,M1,env,S1,E.mono x1,h.up x1⟩
 | _=>exact h.elim
theorem Zg:CA X [] Zf:=Ze4.imp fun σ H Q ⟨ι,M,env,S,E,h⟩=>h [] H ι Ext.refl S Zy.nil
theorem Zc (ha:C3 X e f) (hr:CA X es gl) (hs:starEach (e :: es) X.env = (false,eval e X.env) :: starEach es X.env:=by rfl):CA X (e :: es) (Za f gl):=(Zcf ha hr hs).imp fun σ H Q zz1=>by
 obtain ⟨ι,M,env,S,E,h⟩:=zz1
 obtain ⟨d,M1,e1,h⟩:=Zl5.bind h
 obtain ⟨ds,M2,e2,h⟩:=Zl5.bind h
 refine ⟨ι,M,env,S,E,?_⟩
 rw [e1]
 intro v H1 ι1 x1 S1 r1
 refine ⟨ι1,M1,env,S1,E.mono x1,?_⟩
 rw [e2]
 intro vs H2 ι2 x2 S2 r2
 exact h (v :: vs) H2 ι2 (x1.trans x2) S2 (Zy.cons (r1.mono x2) r2)
theorem ZbA {x1} (h:CA X es gl):C3 X (.Tuple es x1 pos) (Zbg gl):=(Zj2 h).imp fun σ H Q zz1=>by
 obtain ⟨ι,M,env,S,E,h⟩:=zz1
 obtain ⟨ds,M1,e1,h⟩:=Zz.bind h
 refine ⟨ι,M,env,S,E,?_⟩
 rw [e1]
 intro vs H1 ι1 x1 S1 r1
 by_cases hz:ds.length ≤ SZ
 ·rw [if_pos hz] at h
  refine ⟨by rw [r1.length]; exact Nat.le_trans hz ZbS,fun p hp=>?_⟩
  obtain ⟨x2,S2,r2⟩:=S1.tupl hp r1
  exact h _ _ _ (x1.trans x2) S2 r2
 ·rw [if_neg hz] at h; exact h.elim
theorem ZbQ (h:CA X es gl):C3 X (.List es pos) (ZaY gl):=(ZrA h).imp fun σ H Q zz1=>by
 obtain ⟨ι,M,env,S,E,h⟩:=zz1
 obtain ⟨ds,M1,e1,h⟩:=Zz.bind h
 refine ⟨ι,M,env,S,E,?_⟩
 rw [e1]
 intro vs H1 ι1 x1 S1 r1
 by_cases hz:ds.length ≤ SZ
 ·rw [if_pos hz] at h
  refine ⟨by rw [r1.length]; exact Nat.le_trans hz ZbS,fun p hp=>?_⟩
  obtain ⟨x2,S2,r2⟩:=S1.lst hp r1
  exact h _ _ _ (x1.trans x2) S2 r2
 ·rw [if_neg hz] at h; exact h.elim
theorem Znv {K:PySem.W.Frag} {q:List D → Store → R3 D} (σ:St) (H:Hp) (Q:VK) (h:tOf K (Zaz q gl) σ H Q):tCB (rB K q) (tAf K gl) σ H Q:=by
 obtain ⟨ι,M,env,S,E,h⟩:=h
 obtain ⟨ds,M1,e1,h⟩:=Zz.bind h
 refine ⟨ι,M,env,S,E,?_⟩
 rw [e1]
 intro vs H1 ι1 x1 S1 r1
 exact ⟨ι1,M1,ds,S1,r1,h.up x1⟩
theorem Zbu {x:Str} {id:String} {q:List D → Store → R3 D} (hc:Zb2 X (.builtin id) (rB X.K q)) (hm:X.mg x = none) (hv:bootBuiltins x = some (.builtin id)) (ha:CA X (e :: es) gl) (hg:Gl X x:=by rfl) (hn:x ≠ "__name__":=by decide) (hdb:(x == ("__debug__":Str)) = false:=by decide)
  (he:starEach (e :: es) X.env = (false,eval e X.env) :: starEach es X.env:=by rfl) (hpl:(backTo pos (starEach es X.env)).any (·.1) = false:=by rfl):C3 X (.Call (.Name x p) (e :: es) [] pos) (Zaz q gl):=(Zey hc hg hm hv ha hn hdb he hpl).imp Znv
theorem ZgZ {x:Str} {T:String} {q:List D → Store → R3 D} (hc:Zb2 X (.type T) (rB X.K q)) (hm:X.mg x = none) (hv:bootBuiltins x = some (.type T)) (ha:CA X (e :: es) gl) (hg:Gl X x:=by rfl) (hn:x ≠ "__name__":=by decide) (hdb:(x == ("__debug__":Str)) = false:=by decide)
  (he:starEach (e :: es) X.env = (false,eval e X.env) :: starEach es X.env:=by rfl) (hpl:(backTo pos (starEach es X.env)).any (·.1) = false:=by rfl):C3 X (.Call (.Name x p) (e :: es) [] pos) (Zaz q gl):=(Zmc hc hg hm hv ha hn hdb he hpl).imp Znv
theorem Zas (hr:IxR X (r2 X.K Zq)) (ha:C3 X a f) (hb:C3 X b g) (hs:Zln b:=by exact fun _ _=>rfl):C3 X (.Subscript a b pos) (e2 Zq f g):=(ZsC hr ha hb hs).imp ZiW
theorem ZdZ:CO X none Zb3:=ZoU.imp fun σ H Q ⟨ι,M,env,S,E,h⟩=>h H ι Ext.refl S
theorem ZdW (h:C3 X e f):CO X (some e) (Zb5 f):=(Zo9 h).imp fun σ H Q zz1=>by
 obtain ⟨ι,M,env,S,E,h⟩:=zz1
 obtain ⟨d,M1,e1,h⟩:=Zog.bind h
 refine ⟨ι,M,env,S,E,?_⟩
 rw [e1]
 intro v H1 ι1 x1 S1 r1
 cases d with
 | int i=>exact ⟨i,r1.int_inv,h H1 ι1 x1 S1⟩
 | _=>exact h.elim
theorem Zj1 {lo hi:Option Expr} {ol oh:EO3} {p2:Pos} (hr:SlR X (rS X.K)) (he:C3 X e f) (hl:CO X lo ol) (hu:CO X hi oh):C3 X (.Subscript e (.Slice lo hi none p2) pos) (eSl f ol oh):=(Zne hr he hl hu).imp fun σ H Q zz1=>by
 obtain ⟨ι,M,env,S,E,h⟩:=zz1
 obtain ⟨d,M1,e1,h⟩:=Zz.bind h
 obtain ⟨l,M2,e2,h⟩:=Zz.bind h
 obtain ⟨u,M3,e3,h⟩:=Zz.bind h
 refine ⟨ι,M,env,S,E,?_⟩
 rw [e1]
 intro v H1 ι1 x1 S1 r1
 refine ⟨ι1,M1,env,S1,E.mono x1,?_⟩
 rw [e2]
 intro H2 ι2 x2 S2
 refine ⟨ι2,M2,env,S2,(E.mono x1).mono x2,?_⟩
 rw [e3]
 intro H3 ι3 x3 S3
 exact ⟨ι3,M3,d,S3,(r1.mono x2).mono x3,((h.up x1).up x2).up x3⟩
theorem Zav:CSs X [] Zan:=ZoC.imp fun D σ H ⟨ι,M,env,S,E,h⟩=>h σ H ι Ext.refl S E
theorem Zn {st:Stmt} {u:S3} (h:CS X st u):CSs X [st] u:=Zk3 h
theorem Zk {st:Stmt} {sts:List Stmt} {u w:S3} (h1:CS X st u) (h2:CSs X sts w):CSs X (st :: sts) (Zv u w):=(Zjb h1 h2).imp fun D σ H zz1=>by
 obtain ⟨ι,M,env,S,E,h⟩:=zz1
 refine ⟨ι,M,env,S,E,?_⟩
 have h':Zem X.K H ι D (match u env M with | .nx env' M'=>w env' M' | o=>o):=h
 cases q:u env M with
 | nx env' M'=>rw [q] at h'; exact fun σ' H' ι' x S' E'=>⟨ι',M',env',S',E',h'.up x⟩
 | _=>rw [q] at h'; exact h'
theorem ZaW {c1:Expr} {x y:List Stmt} {u w:S3} (hc:CT X c1 f) (ha:CSs X x u) (hb:CSs X y w):CS X (.If c1 x y pos) (sIf f u w):=(Zp3 hc ha hb).imp fun D σ H zz1=>by
 obtain ⟨ι,M,env,S,E,h⟩:=zz1
 refine ⟨ι,M,env,S,E,?_⟩
 unfold sIf at h
 cases q:f env M with
 | ok d M1=>
  rw [q] at h
  cases d with
  | bl k=>
   intro H1 ι1 x1 S1
   cases k with
   | true=>rw [if_pos rfl]; exact ⟨ι1,M1,env,S1,E.mono x1,h.up x1⟩
   | false=>rw [if_neg (by decide)]; exact ⟨ι1,M1,env,S1,E.mono x1,h.up x1⟩
  | _=>exact h.elim
 | exc x M1=>rw [q] at h; exact h.elim
 | bad=>rw [q] at h; exact h.elim
theorem Zap (h:C3 X e f):CS X (.Return (some e) pos) (Zax f):=(Zqv h).imp fun D σ H zz1=>by
 obtain ⟨ι,M,env,S,E,h⟩:=zz1
 refine ⟨ι,M,env,S,E,?_⟩
 unfold Zax at h
 cases q:f env M with
 | ok d M1=>rw [q] at h; exact h
 | exc x M1=>rw [q] at h; exact h.elim
 | bad=>rw [q] at h; exact h.elim
theorem Zdq (h:C3 X e f) (hs:swapsWith e none pos.line X.env = pure false:=by rfl):CS X (.Expr e pos) (ZaR f):=(Zo8 h hs).imp fun D σ H zz1=>by
 obtain ⟨ι,M,env,S,E,h⟩:=zz1
 refine ⟨ι,M,env,S,E,?_⟩
 unfold ZaR at h
 cases q:f env M with
 | ok d M1=>rw [q] at h; exact fun v H1 ι1 x1 S1 r1=>h σ H1 ι1 x1 S1 (E.mono x1)
 | exc x M1=>rw [q] at h; exact h.elim
 | bad=>rw [q] at h; exact h.elim
theorem Zak (i:Nat) {x:Str} {pos':Pos} (hN:X.N.Nodup) (he:C3 X e f) (hi:X.N[i]? = some x:=by rfl) (hx:Loc X.env.scope x:=by first | exact Or.inl rfl | exact Or.inr rfl) (hs:swapsWith e (some (.Name x pos')) pos.line X.env = pure false:=by rfl)
  (hf:X.fn x = true ∨ X.env.scope.names.lookup x = some .local:=by first | exact .inl rfl | exact .inr rfl):CS X (.Assign [.Name x pos'] e pos) (Zaj i f):=(Zn7 hN hi hx he hs hf).imp fun D σ H zz1=>by
 obtain ⟨ι,M,env,S,E,h⟩:=zz1
 refine ⟨ι,M,env,S,E,?_⟩
 unfold Zaj at h
 cases q:f env M with
 | ok d M1=>rw [q] at h; exact fun v H1 ι1 x1 S1 r1=>h _ H1 ι1 x1 S1 ((E.mono x1).set i r1)
 | exc x M1=>rw [q] at h; exact h.elim
 | bad=>rw [q] at h; exact h.elim
theorem Zqg {st:Stmt}:CS X st Zow:=fun _ _ _ _ _ _ ⟨_,_,_,_,_,h⟩=>h.elim
end
noncomputable def sp3 (K:PySem.W.Frag) (n:Nat) (F:F3):Sp:=fun vs H Q _=>∃ ι M ds,Zag K H ι M ∧ Zy K H ι ds vs ∧ ds.length = n ∧ Zz K H ι Q (F ds M)
section
variable {K:PySem.W.Frag} {H H':Hp} {ι ι':List Addr} {M M':Store}
mutual
theorem Rep.below:∀ {d:D} {v:V},Rep K H ι d v → L3.below ι.length d = true
 | .non,_,_=>rfl
 | .bl _,_,_=>rfl
 | .int _,_,_=>rfl
 | .str _,_,_=>rfl
 | .tup ds,_,h=>by
  obtain ⟨a,vs,_,_,r⟩:=h.tup_inv
  simp only [L3.below]
  exact Zy.belowL (ds:=ds) r
 | .scr ds,_,h=>by
  obtain ⟨a,vs,_,_,r⟩:=h.scr_inv
  simp only [L3.below]
  exact Zy.belowL (ds:=ds) r
 | .ref n,_,h=>by
  obtain ⟨a,q,_⟩:=h.ref_inv
  simp only [L3.below,decide_eq_true_eq]
  exact (List.getElem?_eq_some_iff.mp q).1
theorem Zy.belowL:∀ {ds:List D} {vs:List V},Zy K H ι ds vs → L3.belowL ι.length ds = true
 | [],_,_=>rfl
 | d :: ds,_,h=>by
  obtain ⟨v,ws,_,r,q⟩:=h.cons_inv
  simp only [L3.belowL,Bool.and_eq_true]
  exact ⟨Rep.below (d:=d) r,Zy.belowL (ds:=ds) q⟩
end
mutual
theorem Rep.cut {n:Nat}:∀ {d:D} {v:V},L3.below n d = true → Rep K H ι d v → Rep K H (ι.take n) d v
 | .non,_,_,h=>by simpa [Rep] using h
 | .bl _,_,_,h=>by simpa [Rep] using h
 | .int _,_,_,h=>by simpa [Rep] using h
 | .str _,_,_,h=>by simpa [Rep] using h
 | .tup ds,_,hb,h=>by
  obtain ⟨a,vs,rfl,s,r⟩:=h.tup_inv
  exact Rep.tup s (Zy.cut (ds:=ds) (by simpa only [L3.below] using hb) r)
 | .scr ds,_,hb,h=>by
  obtain ⟨a,vs,rfl,s,r⟩:=h.scr_inv
  simp only [Rep]
  exact ⟨a,vs,rfl,s,Zy.cut (ds:=ds) (by simpa only [L3.below] using hb) r⟩
 | .ref k,_,hb,h=>by
  obtain ⟨a,q,rfl⟩:=h.ref_inv
  refine Rep.ref ?_
  rw [List.getElem?_take_of_lt (by simpa [L3.below] using hb)]
  exact q
theorem Zy.cut {n:Nat}:∀ {ds:List D} {vs:List V},L3.belowL n ds = true → Zy K H ι ds vs → Zy K H (ι.take n) ds vs
 | [],_,_,h=>by simpa [Zy] using h
 | d :: ds,_,hb,h=>by
  obtain ⟨v,ws,rfl,r,q⟩:=h.cons_inv
  simp only [L3.belowL,Bool.and_eq_true] at hb
  exact Zy.cons (Rep.cut (d:=d) hb.1 r) (Zy.cut (ds:=ds) hb.2 q)
end
theorem Ze3.below {m:MO} {a:Addr} (h:Ze3 K H ι m a):Zfa ι.length m = true:=by
 cases m with
 | lst xs=>obtain ⟨vs,_,r⟩:=h; exact r.belowL
 | dct kvs=>obtain ⟨ws,_,_,r⟩:=h; exact r.belowL
 | fdct kvs=>obtain ⟨ws,_,_,r⟩:=h; exact r.belowL
 | ins c fs=>
  rcases h with ⟨_,_,gs,_,_,_,r⟩ | ⟨_,_,_,_,rfl⟩
  ·exact r.belowL
  ·rfl
theorem Ze3.cut {n:Nat} {m:MO} {a:Addr} (hb:Zfa n m = true) (h:Ze3 K H ι m a):Ze3 K H (ι.take n) m a:=by
 cases m with
 | lst xs=>obtain ⟨vs,q,r⟩:=h; exact ⟨vs,q,r.cut hb⟩
 | dct kvs=>obtain ⟨ws,q,r1,r2⟩:=h; exact ⟨ws,q,r1,r2.cut hb⟩
 | fdct kvs=>obtain ⟨ws,q,r1,r2⟩:=h; exact ⟨ws,q,r1,r2.cut hb⟩
 | ins c fs=>
  rcases h with ⟨C,dx,gs,q,c,r1,r2⟩ | h
  ·exact .inl ⟨C,dx,gs,q,c,r1,r2.cut hb⟩
  ·exact .inr h
theorem Zag.cut {n:Nat} (S:Zag K H ι M) (h:(M.take n).all (Zfa n) = true):Zag K H (ι.take n) (M.take n):=by
 refine ⟨by simp [S.len],S.nd.sublist (List.take_sublist _ _),fun k m a h1 h2=>?_⟩
 have hk:k < n:=by
  have:=(List.getElem?_eq_some_iff.mp h1).1
  rw [List.length_take] at this
  exact Nat.lt_of_lt_of_le this (Nat.min_le_left _ _)
 have hb:Zfa n m = true:=List.all_eq_true.mp h m (List.mem_of_getElem? h1)
 rw [List.getElem?_take_of_lt hk] at h1 h2
 exact (S.obj k m a h1 h2).cut hb
theorem ZiT {Q:VK} {d:D} {v:V} (S:Zag K H ι M) (x:Ext K H ι H' ι') (S':Zag K H' ι' M') (r:Rep K H' ι' d v) (h:Zz K H ι Q (Zcv M d M')):Q v H':=by
 unfold Zcv at h
 split at h
 ·rename_i c
  simp only [Bool.and_eq_true,Bool.or_eq_true,decide_eq_true_eq] at c
  have hall:(M'.take M.length).all (Zfa M.length) = true:=by
   rcases c.2 with e | e
   ·rw [e,List.all_eq_true]
    intro m hm
    obtain ⟨n,hn⟩:=List.getElem?_of_mem hm
    obtain ⟨a,q,w⟩:=S.at hn
    rw [← S.len]
    exact w.below
   ·exact e
  refine h v H' (ι'.take M.length) ⟨x.tup,x.scr,fun n a q=>?_,x.frz⟩ (S'.cut hall) (r.cut c.1)
  rw [List.getElem?_take_of_lt (by rw [← S.len]; exact (List.getElem?_eq_some_iff.mp q).1)]
  exact x.pre n a q
 ·exact h v H' ι' x S' r
end
theorem Za1.start {K:PySem.W.Frag} {H:Hp} {ι:List Addr} {ds:List D} {vs:List V} (r:Zy K H ι ds vs) (n:Nat):Za1 K H ι (ds.map some ++ List.replicate n none) (vs.map some ++ List.replicate n none):=by
 refine ⟨by simp [r.length],fun i d h=>?_⟩
 by_cases hi:i < ds.length
 ·rw [List.getElem?_append_left (by simpa using hi),List.getElem?_map] at h
  cases q:ds[i]? with
  | none=>rw [q] at h; simp at h
  | some d'=>
   rw [q] at h
   simp at h
   subst h
   obtain ⟨v,e,z⟩:=r.get q
   refine ⟨v,?_,z⟩
   rw [List.getElem?_append_left (by simpa [r.length] using hi),List.getElem?_map,e]
   rfl
 ·rw [List.getElem?_append_right (by simpa using hi),List.getElem?_replicate] at h
  split at h <;> simp at h
section
variable {P:Program} {w:World} {K:PySem.W.Frag} {mg:Str → Option Value} {base:Heap}
theorem fn3 {x qual:Str} {st:Stmt} {f:Addr} {fd:FuncData} {N ps:List Str} {k:Nat} {body:S3} (F:Fun K x qual st f fd) (S:Zar N ps (Zh st))
  (hb:∀ (cdv:Value) (A:Around) (outer:List Env) (s:Shared) (H:Hp) (E:XK),Zbr k (A.deeper (envOfC qual (Zh st) s.heap.objs.size f cdv)) → CSs (ZfS CX0 P w K mg base N qual (Zh st) f cdv A outer s H E).nox (Zah st) body):
  ZcD P w K mg base CX0 (k + 1) f fd ps (sp3 K ps.length (mkF ps.length N.length body)):=by
 refine F.ok S (fun vs H Q E ⟨ι,M,ds,_,r,l,_⟩=>by rw [r.length,l]) fun cdv A outer s H vs Q E hr zz1=>?_
 obtain ⟨ι,M,ds,SR,r,l,h⟩:=zz1
 refine ⟨_,hb cdv A outer s H E hr,ι,M,ds.map some ++ List.replicate (N.length - ps.length) none,SR,?_,?_⟩
 ·have e:L2.start N vs = vs.map some ++ List.replicate (N.length - ps.length) none:=by unfold L2.start; rw [r.length,l]
  rw [e]
  exact Za1.start r _
 ·unfold mkF at h
  rw [if_pos l] at h
  cases q:body (ds.map some ++ List.replicate (N.length - ps.length) none) M with
  | nx env' M'=>rw [q] at h; exact fun σ' H' ι' x S' E'=>ZiT SR x S' Rep.non h
  | rt d M'=>rw [q] at h; exact fun v H' ι' x S' r'=>ZiT SR x S' r' h
  | bk _ _=>rw [q] at h; exact h.elim
  | ct _ _=>rw [q] at h; exact h.elim
  | exc _ _=>rw [q] at h; exact h.elim
  | bad=>rw [q] at h; exact h.elim
def Fn3 (P:Program) (w:World) (K:PySem.W.Frag) (mg:Str → Option Value) (base:Heap) (k:Nat) (x:Str) (ps:List Str) (F:F3):Prop:=
 (∀ ds M,ds.length ≠ ps.length → F ds M = .bad) ∧ ∃ f fd,mg x = some (.ref f) ∧ PySem.W.keepIn K (.ref f) = true ∧ Binds K fd ps [] ∧ ZcD P w K mg base CX0 k f fd ps (sp3 K ps.length F)
def ZaH (K:PySem.W.Frag) (mg:Str → Option Value) (x:Str) (st:Stmt) (ps:List Str):Prop:=∃ f fd,Fun K x x st f fd ∧ mg x = some (.ref f) ∧ Binds K fd ps []
theorem Fn3.mono {j k:Nat} {x:Str} {ps:List Str} {F:F3} (h:Fn3 P w K mg base j x ps F) (l:j ≤ k):Fn3 P w K mg base k x ps F:=
 let ⟨n,f,fd,a,b,c,d⟩:=h; ⟨n,f,fd,a,b,c,d.mono l⟩
theorem Fn3.of {x:Str} {st:Stmt} {N ps:List Str} {k:Nat} {body:S3} (d:ZaH K mg x st ps) (S:Zar N ps (Zh st))
  (hb:∀ (f:Addr) (cdv:Value) (A:Around) (outer:List Env) (s:Shared) (H:Hp) (E:XK),Zbr k (A.deeper (envOfC x (Zh st) s.heap.objs.size f cdv)) → CSs (ZfS CX0 P w K mg base N x (Zh st) f cdv A outer s H E).nox (Zah st) body):
  Fn3 P w K mg base (k + 1) x ps (mkF ps.length N.length body):=by
 obtain ⟨f,fd,F,m,bi⟩:=d
 exact ⟨fun ds M h=>if_neg h,f,fd,m,F.kp,bi,fn3 F S (hb f)⟩
end
section
variable {X:Cx} {e:Expr} {es:List Expr} {pos p:Pos} {gl:EL3} {x:Str} {k:Nat} {ps:List Str} {F:F3}
theorem ZaG (G:Fn3 X.prog X.w X.K X.mg X.base k x ps F) (hr:Zbr k X.A) (ha:CA X (e :: es) gl) (hg:Gl X x:=by rfl) (hdb:(x == ("__debug__":Str)) = false:=by decide)
  (he:starEach (e :: es) X.env = (false,eval e X.env) :: starEach es X.env:=by rfl) (hpl:(backTo pos (starEach es X.env)).any (·.1) = false:=by rfl):C3 X (.Call (.Name x p) (e :: es) [] pos) (Zae F gl):=by
 obtain ⟨hn,f,fd,m,kp,bi,ok⟩:=G
 refine (ZoM ok hr hg m kp bi .nil Zlk ha hdb he hpl).imp fun σ H Q zz1=>?_
 obtain ⟨ι,M,env,S,E,h⟩:=zz1
 obtain ⟨ds,M1,e1,h⟩:=Zz.bind h
 refine ⟨ι,M,env,S,E,?_⟩
 rw [e1]
 intro vs H1 ι1 x1 S1 r1
 have hl:ds.length = ps.length:=by
  refine Decidable.byContradiction fun q=>?_
  rw [hn ds M1 q] at h
  exact h.elim
 exact ⟨ι1,M1,ds,S1,by rw [List.append_nil]; exact r1,hl,h.up x1⟩
end
end L3
namespace L3
open PySem PySem.Spec PyProof.Rows L2
def tGf (K:PySem.W.Frag) (g:G3):TG:=fun v σ H Q=>∃ ι M env d env',Zag K H ι M ∧ Za1 K H ι env σ ∧ Rep K H ι d v ∧ g d env = some env' ∧ ∀ σ',Za1 K H ι env' σ' → Q σ' H
def tGs (K:PySem.W.Frag) (is:List Nat):TGs:=fun vs σ H Q=>∃ ι M env ds env',Zag K H ι M ∧ Za1 K H ι env σ ∧ Zy K H ι ds vs ∧ bindAll is ds env = some env' ∧ ∀ σ',Za1 K H ι env' σ' → Q σ' H
def CG (X:Cx) (tg:Expr) (g:G3):Prop:=PG X tg (tGf X.K g)
def CGs (X:Cx) (tg:List Expr) (is:List Nat):Prop:=PGs X tg (tGs X.K is)
theorem PG.imp {X:Cx} {e:Expr} {t t':TG} (h:PG X e t) (i:∀ v σ H Q,t' v σ H Q → t v σ H Q):PG X e t':=fun pins s σ H v u Q I r q=>h pins s σ H v u Q I r (i v σ H Q q)
theorem PGs.imp {X:Cx} {e:List Expr} {t t':TGs} (h:PGs X e t) (i:∀ v σ H Q,t' v σ H Q → t v σ H Q):PGs X e t':=fun pins s σ H v u Q I r q=>h pins s σ H v u Q I r (i v σ H Q q)
section
variable {X:Cx} {e:Expr} {es:List Expr} {pos:Pos}
theorem ZeG (i:Nat) {x:Str} (hN:X.N.Nodup) (hi:X.N[i]? = some x:=by rfl) (hx:Loc X.env.scope x:=by first | exact Or.inl rfl | exact Or.inr rfl)
  (hf:X.fn x = true ∨ X.env.scope.names.lookup x = some .local:=by first | exact .inl rfl | exact .inr rfl):CG X (.Name x pos) (Zdz i):=PG.imp (ZlJ hN hi hx hf) fun v σ H Q zz1=>by
 obtain ⟨ι,M,env,d,env',S,E,r,q,h⟩:=zz1
 cases q
 exact h _ (E.set i r)
theorem ZiG:CGs X [] []:=PGs.imp Zpj fun v σ H Q zz1=>by
 obtain ⟨ι,M,env,ds,env',S,E,r,q,h⟩:=zz1
 cases ds with
 | nil=>cases q; exact ⟨r.nil_inv,h σ E⟩
 | cons d ds=>cases q
theorem Zdk (i:Nat) {is:List Nat} {x:Str} (hN:X.N.Nodup) (ht:CGs X es is) (hi:X.N[i]? = some x:=by rfl) (hx:Loc X.env.scope x:=by first | exact Or.inl rfl | exact Or.inr rfl)
  (hf:X.fn x = true ∨ X.env.scope.names.lookup x = some .local:=by first | exact .inl rfl | exact .inr rfl) (hs:(assignEach (.Name x pos :: es) X.env).map (·.2) = assign (.Name x pos) X.env :: (assignEach es X.env).map (·.2):=by rfl):
  CGs X (.Name x pos :: es) (i :: is):=PGs.imp (Zoc (ZlJ hN hi hx hf) ht hs) fun v σ H Q zz1=>by
 obtain ⟨ι,M,env,ds,env',S,E,r,q,h⟩:=zz1
 cases ds with
 | nil=>cases q
 | cons d ds=>
  obtain ⟨v,ws,rfl,r1,r2⟩:=r.cons_inv
  exact ⟨v,ws,rfl,ι,M,env.set i (some d),ds,env',S,E.set i r1,r2,q,h⟩
theorem Zmp {is:List Nat} {k:Nat} (hc:X.calm = true) (h:CGs X es is) (hl:es.length = is.length:=by rfl) (hn:(assignEach es X.env).length = is.length:=by rfl) (hst:(assignEach es X.env).findIdx? (·.1) = none:=by rfl):CG X (.Tuple es k pos) (ZhD is):=
 PG.imp (Zrl (n:=is.length) hc h hn hst) fun v σ H Q zz1=>by
  obtain ⟨ι,M,env,d,env',S,E,r,q,h⟩:=zz1
  cases d with
  | tup ds=>
   obtain ⟨a,vs,rfl,s,r⟩:=r.tup_inv
   have hlen:∀ (is:List Nat) (ds:List D) (env env':Zaf),bindAll is ds env = some env' → ds.length = is.length:=by
    intro is
    induction is with
    | nil=>intro ds env env' h; cases ds with | nil=>rfl | cons d ds=>cases h
    | cons i is ih=>intro ds env env' h; cases ds with | nil=>cases h | cons d ds=>simp [ih ds _ _ h]
   exact ⟨a,vs,rfl,s,by rw [r.length]; exact hlen _ _ _ _ q,ι,M,env,ds,env',S,E,r,q,h⟩
  | _=>cases q
end
def Zg0 (K:PySem.W.Frag) (H:Hp) (ι:List Addr) (it:It3) (J:It):Prop:=∀ (i:Nat) H2 ι2 M2,Ext K H ι H2 ι2 → Zag K H2 ι2 M2 → locked it M2 = true →
 (∀ d,it.items[i]? = some d → J.go i H2 ∧ ∀ x H3,J.yld i H2 x H3 → H3 = H2 ∧ Rep K H2 ι2 d x) ∧ (i = it.items.length → J.stop i H2)
def ZlV (K:PySem.W.Frag) (H:Hp) (ι:List Addr) (R:It → Hp → Prop) (r:R3 It3):Prop:=match r with
 | .ok it M'=>∀ J H' ι',Ext K H ι H' ι' → Zag K H' ι' M' → Zg0 K H' ι' it J → R J H'
 | _=>False
def tIf (K:PySem.W.Frag) (g:I3):TI:=fun σ H R=>∃ ι M env,Zag K H ι M ∧ Za1 K H ι env σ ∧ ZlV K H ι R (g env M)
def CI (X:Cx) (tg e:Expr) (g:I3):Prop:=PI X tg e (tIf X.K g)
theorem PI.imp {X:Cx} {tg e:Expr} {t t':TI} (h:PI X tg e t) (i:∀ σ H Q,t' σ H Q → t σ H Q):PI X tg e t':=fun pins s σ H Q I q=>h pins s σ H Q I (i σ H Q q)
theorem PI.or {X:Cx} {tg e:Expr} {t t':TI} (h:PI X tg e t) (h':PI X tg e t'):PI X tg e (fun σ H R=>t σ H R ∨ t' σ H R):=fun pins s σ H Q I q=>q.elim (h pins s σ H Q I) (h' pins s σ H Q I)
theorem ZlV.bind {K:PySem.W.Frag} {H:Hp} {ι:List Addr} {α:Type} {Q:It → Hp → Prop} {r:R3 α} {k:α → Store → R3 It3} (h:ZlV K H ι Q (r.bind k)):∃ a M,r = .ok a M ∧ ZlV K H ι Q (k a M):=by
 cases r with
 | ok a M=>exact ⟨a,M,rfl,h⟩
 | exc x M=>exact h.elim
 | bad=>exact h.elim
section
variable {K:PySem.W.Frag} {H:Hp} {ι:List Addr}
end
section
variable {X:Cx} {tg e a b:Expr} {pos p:Pos} {f g:E3}
theorem Zrz (h:C3 X e f) (hs:PI X tg e (fun σ H R=>tOf X.K f σ H fun x H1=>∃ z:Str,x = .str z ∧ z.length ≤ SZ ∧ ∀ J,(∀ ι,Zg0 X.K H1 ι ⟨z.cps.toList.map fun c=>.str [c],none⟩ J) → R J H1)):CI X tg e (Zhl f):=
 PI.imp (PI.or (ZqQ h) (PI.or (Zo4 h) hs)) fun σ H R zz1=>by
  obtain ⟨ι,M,env,S,E,h⟩:=zz1
  obtain ⟨d,M1,e1,h⟩:=ZlV.bind h
  cases d with
  | tup ds=>
   refine .inl ⟨ι,M,env,S,E,?_⟩
   rw [e1]
   intro v H1 ι1 x1 S1 r1
   obtain ⟨a,vs,rfl,s,r⟩:=r1.tup_inv
   refine ⟨a,rfl,⟨vs,s⟩,h _ H1 ι1 x1 S1 ?_⟩
   intro i H2 ι2 M2 x S2 _
   refine ⟨fun d hd=>?_,fun hl=>⟨vs,x.tup _ _ s,by rw [r.length,hl]; exact Nat.le_refl _⟩⟩
   obtain ⟨v,hv,rv⟩:=r.get hd
   refine ⟨⟨vs,v,x.tup _ _ s,hv⟩,fun y H3 hy=>⟨hy.1,?_⟩⟩
   have e:=hy.2 vs (x.tup _ _ s)
   rw [hv] at e
   cases e
   exact rv.mono x
  | scr ds=>
   refine .inr (.inl ⟨ι,M,env,S,E,?_⟩)
   rw [e1]
   intro v H1 ι1 x1 S1 r1
   obtain ⟨a,vs,rfl,s,r⟩:=r1.scr_inv
   refine ⟨a,rfl,⟨vs,s.sq⟩,h _ H1 ι1 x1 S1 ?_⟩
   intro i H2 ι2 M2 x S2 _
   refine ⟨fun d hd=>?_,fun hl=>⟨vs,(x.scr _ _ s).sq,by rw [r.length,hl]; exact Nat.le_refl _⟩⟩
   obtain ⟨v,hv,rv⟩:=r.get hd
   refine ⟨⟨vs,v,(x.scr _ _ s).sq,hv⟩,fun y H3 hy=>⟨hy.1,?_⟩⟩
   have e:=hy.2 vs (x.scr _ _ s).sq
   rw [hv] at e
   cases e
   exact rv.mono x
  | ref n=>
   refine .inr (.inl ⟨ι,M,env,S,E,?_⟩)
   rw [e1]
   intro v H1 ι1 x1 S1 r1
   cases hm:M1[n]? with
   | none=>simp only [hm] at h; exact h.elim
   | some o=>
    cases o with
    | dct kvs=>simp only [hm] at h; exact h.elim
    | fdct kvs=>simp only [hm] at h; exact h.elim
    | ins _ _=>simp only [hm] at h; exact h.elim
    | lst ds=>
     simp only [hm] at h
     obtain ⟨a,ha,rfl⟩:=r1.ref_inv
     obtain ⟨vs,q,r⟩:=S1.obj n _ a hm ha
     refine ⟨a,rfl,⟨vs,SqL.of q⟩,h _ H1 ι1 x1 S1 ?_⟩
     intro i H2 ι2 M2 x S2 lk
     have lk':M2[n]? = some (.lst ds):=of_decide_eq_true lk
     obtain ⟨vs2,q2,r2⟩:=S2.obj n _ a lk' (x.pre _ _ ha)
     refine ⟨fun d hd=>?_,fun hl=>⟨vs2,SqL.of q2,by rw [r2.length,hl]; exact Nat.le_refl _⟩⟩
     obtain ⟨v,hv,rv⟩:=r2.get hd
     refine ⟨⟨vs2,v,SqL.of q2,hv⟩,fun y H3 hy=>⟨hy.1,?_⟩⟩
     have e:=hy.2 vs2 (SqL.of q2)
     rw [hv] at e
     cases e
     exact rv
  | str z=>
   refine .inr (.inr ⟨ι,M,env,S,E,?_⟩)
   rw [e1]
   intro v H1 ι1 x1 S1 r1
   have hv:=r1.str_inv
   subst hv
   by_cases hz:z.length ≤ SZ
   ·simp only [if_pos hz] at h
    refine ⟨_,rfl,by simpa [Str.length] using hz,fun J hJ=>h J H1 ι1 x1 S1 ?_⟩
    simpa using hJ ι1
   ·simp only [if_neg hz] at h; exact h.elim
  | non=>exact h.elim
  | bl b=>exact h.elim
  | int i=>exact h.elim
theorem Znw {K:PySem.W.Frag} {H:Hp} {ι:List Addr} (lo:Int) (n:Nat):Zg0 K H ι ⟨ZeL lo n,none⟩ (Itr lo n):=by
 intro i H2 ι2 M2 x S _
 refine ⟨fun d hd=>?_,fun hl=>?_⟩
 ·unfold ZeL at hd
  rw [List.getElem?_map] at hd
  cases q:(List.range n)[i]? with
  | none=>rw [q] at hd; cases hd
  | some k=>
   rw [q] at hd
   obtain ⟨hi,e⟩:=List.getElem?_eq_some_iff.mp q
   rw [List.getElem_range] at e
   subst e
   have hd':D.int (lo + (i:Int)) = d:=by simpa using hd
   subst hd'
   exact ⟨(by show i < n; simpa using hi),fun y H3 hy=>⟨hy.1,by rw [hy.2]; exact Rep.int⟩⟩
 ·show n ≤ i
  rw [hl]
  simp [ZeL]
theorem ZfQ (hm:X.mg "range" = none) (h:C3 X a f) (hg:Gl X "range":=by rfl) (hs:starEach [a] X.env = [(false,eval a X.env)]:=by rfl) (hs':starEach (a :: []) X.env = (false,eval a X.env) :: starEach [] X.env:=by rfl):CI X tg (.Call (.Name "range" p) [a] [] pos) (ZcP f):=
 PI.imp (Zmj hg hm (Zc h Zg hs') hs) fun σ H R zz1=>by
  obtain ⟨ι,M,env,S,E,h⟩:=zz1
  obtain ⟨d,M1,e1,h⟩:=ZlV.bind h
  refine ⟨ι,M,env,S,E,?_⟩
  have e2:Za f Zf env M = .ok [d] M1:=by unfold Za; rw [e1]; rfl
  rw [e2]
  intro vs H1 ι1 x1 S1 r1
  obtain ⟨v,ws,rfl,r,q⟩:=r1.cons_inv
  have:=q.nil_inv
  subst this
  cases d with
  | int j=>
   have hv:=r.int_inv
   subst hv
   by_cases hj:j ≤ 1000000 ∧ -1000000 ≤ j
   ·simp only [if_pos hj] at h
    exact ⟨j,rfl,by omega,by omega,h _ H1 ι1 x1 S1 (Znw 0 j.toNat)⟩
   ·simp only [if_neg hj] at h; exact h.elim
  | _=>exact h.elim
theorem ZmJ {iter:Expr} {body:List Stmt} {i:I3} {g:G3} {u:S3} (hxe:X.xe = fun _ _=>False) (hc:X.calm = true) (hi:CI X tg iter i) (hg:CG X tg g) (hb:CSs X body u) (hs:∀ x,foldedSetIterable iter X.env x = pure x:=by intro _; rfl):
  CS X (.For tg iter body [] pos) (ZiS i g u):=(Znf (by rw [hxe]; exact PassesOwn.never) hc hi hg hb hs).imp fun D σ H zz1=>by
 obtain ⟨ι,M,env,S,E,h⟩:=zz1
 unfold ZiS at h
 cases q:i env M with
 | exc x M1=>rw [q] at h; exact h.elim
 | bad=>rw [q] at h; exact h.elim
 | ok it M1=>
  rw [q] at h
  refine ⟨ι,M,env,S,E,?_⟩
  rw [q]
  intro J H1 ι1 x1 S1 ok
  refine ⟨fun i m σ2 H2=>m = it.items.length - i ∧ i ≤ it.items.length ∧ ∃ ι2 M2 env2,Ext X.K H1 ι1 H2 ι2 ∧ Zag X.K H2 ι2 M2 ∧ Za1 X.K H2 ι2 env2 σ2 ∧ Zem X.K H2 ι2 D (ZdK it g u (it.items.drop i) env2 M2),
   ⟨_,rfl,Nat.zero_le _,ι1,M1,env,Ext.refl,S1,E.mono x1,Zem.up x1 h⟩,?_⟩
  rintro i m σ2 H2 ⟨rfl,hi,ι2,M2,env2,x2,S2,E2,h2⟩
  by_cases hlt:i < it.items.length
  ·have hd:it.items[i]? = some it.items[i]:=by simp [hlt]
   rw [List.drop_eq_getElem_cons hlt] at h2
   unfold ZdK at h2
   by_cases lk:locked it M2 = true
   ·rw [if_pos lk] at h2
    obtain ⟨go,yl⟩:=(ok i H2 ι2 M2 x2 S2 lk).1 _ hd
    cases eg:g it.items[i] env2 with
    | none=>rw [eg] at h2; exact h2.elim
    | some env3=>
     rw [eg] at h2
     refine .inr ⟨go,fun σ' H'=>∃ ι3 M3 env4,Ext X.K H2 ι2 H' ι3 ∧ Zag X.K H' ι3 M3 ∧ Za1 X.K H' ι3 env4 σ' ∧ Zem X.K H' ι3 D (ZdK it g u (it.items.drop (i + 1)) env4 M3),
      fun σ' H' ⟨ι3,M3,env4,x3,S3,E3,h3⟩=>⟨it.items.length - (i + 1),lD 2 0x30113c2012a1c0c21 T1 (Nat.sub_add_cancel (lB 1 6991908881 T1 hlt)) (sbA _ _),rfl,hlt,ι3,M3,env4,x2.trans x3,S3,E3,h3⟩,fun x H' hy=>?_⟩
     obtain ⟨rfl,rx⟩:=yl x H' hy
     refine ⟨ι2,M2,env2,_,env3,S2,E2,rx,eg,fun σ' E'=>⟨ι2,M2,env3,S2,E',?_⟩⟩
     cases qu:u env3 M2 with
     | nx e' M'=>simp only [qu] at h2; exact fun σ' H' ι' x' S' E'=>⟨ι',M',e',x',S',E',h2.up x'⟩
     | ct e' M'=>simp only [qu] at h2; exact fun σ' H' ι' x' S' E'=>⟨ι',M',e',x',S',E',h2.up x'⟩
     | bk e' M'=>simp only [qu] at h2; exact h2
     | rt d M'=>simp only [qu] at h2; exact h2
     | exc x' M'=>simp only [qu] at h2; exact h2.elim
     | bad=>simp only [qu] at h2; exact h2.elim
   ·rw [if_neg lk] at h2; exact h2.elim
  ·have e0:i = it.items.length:=Nat.le_antisymm hi (Nat.le_of_not_lt hlt)
   subst e0
   rw [List.drop_length] at h2
   unfold ZdK at h2
   by_cases lk:locked it M2 = true
   ·rw [if_pos lk] at h2
    exact .inl ⟨(ok _ H2 ι2 M2 x2 S2 lk).2 rfl,h2 σ2 H2 ι2 Ext.refl S2 E2⟩
   ·rw [if_neg lk] at h2; exact h2.elim
theorem ZnF {c1:Expr} {body:List Stmt} {u:S3} (hxe:X.xe = fun _ _=>False) (hc:CT X c1 f) (hb:CSs X body u):CS X (.While c1 body [] pos) (ZkF f u):=(Zn1 (by rw [hxe]; exact PassesOwn.never) hc hb).imp fun D σ H zz1=>by
 obtain ⟨ι,M,env,S,E,h⟩:=zz1
 refine ⟨fun m σ2 H2=>∃ ι2 M2 env2,Zag X.K H2 ι2 M2 ∧ Za1 X.K H2 ι2 env2 σ2 ∧ Zem X.K H2 ι2 D (ZdC f u m env2 M2),⟨1000000,ι,M,env,S,E,h⟩,?_⟩
 rintro m σ2 H2 ⟨ι2,M2,env2,S2,E2,h2⟩
 cases m with
 | zero=>exact h2.elim
 | succ m=>
  refine ⟨ι2,M2,env2,S2,E2,?_⟩
  unfold ZdC at h2
  cases q:f env2 M2 with
  | exc x M1=>rw [q] at h2; exact h2.elim
  | bad=>rw [q] at h2; exact h2.elim
  | ok d M1=>
   rw [q] at h2
   cases d with
   | bl k=>
    cases k with
    | false=>
     intro H3 ι3 x3 S3
     rw [if_neg (by decide)]
     exact h2 σ2 H3 ι3 x3 S3 (E2.mono x3)
    | true=>
     intro H3 ι3 x3 S3
     rw [if_pos rfl]
     refine ⟨fun σ' H'=>∃ ι4 M4 env4,Zag X.K H' ι4 M4 ∧ Za1 X.K H' ι4 env4 σ' ∧ Zem X.K H' ι4 D (ZdC f u m env4 M4),fun σ' H' q=>⟨m,Nat.lt_succ_self _,q⟩,ι3,M1,env2,S3,E2.mono x3,?_⟩
     have h3:=Zem.up x3 h2
     cases qu:u env2 M1 with
     | nx e' M'=>simp only [qu] at h3; exact fun σ' H' ι' x' S' E'=>⟨ι',M',e',S',E',h3.up x'⟩
     | ct e' M'=>simp only [qu] at h3; exact fun σ' H' ι' x' S' E'=>⟨ι',M',e',S',E',h3.up x'⟩
     | bk e' M'=>simp only [qu] at h3; exact h3
     | rt d M'=>simp only [qu] at h3; exact h3
     | exc x' M'=>simp only [qu] at h3; exact h3.elim
     | bad=>simp only [qu] at h3; exact h3.elim
   | _=>exact h2.elim
end
end L3
namespace L3
open PySem PySem.Spec PyProof.Rows L2
theorem Zgx {x y:List Nat}:decide (V.str ⟨x.toArray⟩ = V.str ⟨y.toArray⟩) = (x == y):=by
 by_cases h:x = y
 ·subst h; simp
 ·rw [decide_eq_false (fun e=>h (by injection e with e1; injection e1 with e2; simpa using congrArg Array.toList e2))]
  exact (beq_eq_false_iff_ne.mpr h).symm
section
variable {X:Cx}
theorem Znz:OpR X (binaryOp .Add) (fun x y H Q=>∃ a b ys,x = .ref a ∧ y = .ref b ∧ SqT X.K H a [] ∧ SqT X.K H b ys ∧ Q (.ref b) H):=by
 intro pins s σ H x y v u Q I rx ry h
 obtain ⟨a,b,ys,rfl,rfl,ha,hb,q⟩:=h
 cases rx
 cases ry
 obtain ⟨its,r1,p1,_⟩:=I.tuple ha
 obtain ⟨its2,r2,p2,_⟩:=I.tuple hb
 cases r1
 obtain ⟨⟨cls,dd,data,sl⟩,ho,hc,n,hd⟩:=id p1
 obtain ⟨⟨cls2,dd2,data2,sl2⟩,ho2,hc2,n2,hd2⟩:=id p2
 simp only at hc hd hc2 hd2
 subst hc hd hc2 hd2
 exact concat_meets ⟨_,ho,rfl⟩ ⟨_,ho2,rfl⟩ noFill_tuple_add seq_tuple_add PySem.F.slot_tuple_add PySem.F.entry_tuple_add (PySem.F.args_tuple_add_2 _ _)
   (tuple_addW0 a b _ its2.toArray n n2 dd dd2 sl sl2 (by simp)) ⟨ho,ho2,⟨.ref b,H,I,rfl,q⟩⟩
theorem Zpv (x y:List Nat):(⟨x.toArray⟩:Str) ++ ⟨y.toArray⟩ = ⟨(x ++ y).toArray⟩:=by
 show Str.append _ _ = _
 unfold Str.append
 simp
noncomputable def onL (o:Option MO) (f:List D → R3 D):R3 D:=match o with
 | some (.lst x)=>f x
 | _=>.bad
theorem Zov {K:PySem.W.Frag} {H:Hp} {ι:List Addr} {Q:VK} {o:Option MO} {f:List D → R3 D} (h:Zz K H ι Q (onL o f)):∃ x,o = some (.lst x) ∧ Zz K H ι Q (f x):=by
 cases o with
 | none=>exact h.elim
 | some o=>cases o with
  | lst x=>exact ⟨x,rfl,h⟩
  | _=>exact h.elim
noncomputable def Zsv (a b:Option MO) (f:List D → List D → R3 D):R3 D:=match a,b with
 | some (.lst x),some (.lst y)=>f x y
 | _,_=>.bad
theorem ZnY {K:PySem.W.Frag} {H:Hp} {ι:List Addr} {Q:VK} {a b:Option MO} {f:List D → List D → R3 D} (h:Zz K H ι Q (Zsv a b f)):∃ x y,a = some (.lst x) ∧ b = some (.lst y) ∧ Zz K H ι Q (f x y):=by
 cases a with
 | none=>exact h.elim
 | some a=>cases a with
  | lst x=>cases b with
   | none=>exact h.elim
   | some b=>cases b with
    | lst y=>exact ⟨x,y,rfl,rfl,h⟩
    | _=>exact h.elim
  | _=>exact h.elim
theorem ZfL {K:PySem.W.Frag} {H:Hp} {ι:List Addr} {Q:VK} {c:Prop} {_:Decidable c} {r:R3 D} (h:Zz K H ι Q (if c then r else .bad)):c ∧ Zz K H ι Q r:=by
 by_cases hc:c
 ·rw [if_pos hc] at h; exact ⟨hc,h⟩
 ·rw [if_neg hc] at h; exact h.elim
theorem Zjv {K:PySem.W.Frag} {H:Hp} {ι:List Addr} {ds:List D} (r:Zy K H ι ds []):ds = []:=List.eq_nil_of_length_eq_zero r.length.symm
theorem Zb4:OpR X (binaryOp .Add) (r2 X.K Zay):=OpR.imp (OpR.or Zq3 (OpR.or Zj9 (OpR.or Zq0 (OpR.or ZoQ Znz)))) fun x y H Q zz1=>by
 obtain ⟨ι,M,a,b,S,ra,rb,h⟩:=zz1
 cases a with
 | int i=>cases b with
  | int j=>exact .inl ⟨i,j,ra.int_inv,rb.int_inv,Zz.ok h S Rep.int⟩
  | _=>exact h.elim
 | str x=>cases b with
  | str y=>
   obtain ⟨hz,h⟩:=ZfL h
   exact .inr (.inl ⟨_,_,ra.str_inv,rb.str_inv,Nat.le_trans hz ZbS,by rw [Zpv]; exact Zz.ok h S Rep.str⟩)
  | _=>exact h.elim
 | tup x=>cases b with
  | tup y=>
   obtain ⟨hz,h⟩:=ZfL h
   obtain ⟨p,vs,e,s,r⟩:=ra.tup_inv
   obtain ⟨q,ws,e',s',r'⟩:=rb.tup_inv
   by_cases hv:vs = []
   ·rw [hv] at r s
    rw [Zjv r] at h
    exact .inr (.inr (.inr (.inr ⟨p,q,ws,e,e',s,s',Zz.ok h S (Rep.tup s' r')⟩)))
   ·refine .inr (.inr (.inr (.inl ⟨p,q,vs,ws,e,e',s,s',hv,by rw [r.length,r'.length]; exact Nat.le_trans hz ZbS,fun hw=>?_,fun hw p' hp=>?_⟩)))
    ·rw [hw] at r'
     rw [Zjv r',List.append_nil] at h
     exact Zz.ok h S (Rep.tup s r)
    ·obtain ⟨x2,S2,r2⟩:=S.tupl hp (r.append r')
     exact h _ _ _ x2 S2 r2
  | _=>exact h.elim
 | ref n=>cases b with
  | ref m=>
   have h:Zz X.K H ι Q (Zsv M[n]? M[m]? fun x y=>@ite _ (x.length + y.length ≤ SZ) (Classical.propDecidable _) (alloc (.lst (x ++ y)) M) .bad):=h
   obtain ⟨x,y,hn,hm,h⟩:=ZnY h
   obtain ⟨hz,h⟩:=ZfL h
   obtain ⟨p,hp,e⟩:=ra.ref_inv
   obtain ⟨q,hq,e'⟩:=rb.ref_inv
   obtain ⟨vs,e1,r1⟩:=S.obj n _ p hn hp
   obtain ⟨ws,e2,r2⟩:=S.obj m _ q hm hq
   refine .inr (.inr (.inl ⟨p,q,vs,ws,e,e',e1,e2,by rw [r1.length,r2.length]; exact Nat.le_trans hz ZbS,fun p' hp'=>?_⟩))
   obtain ⟨x2,S2,r3⟩:=S.lst hp' (r1.append r2)
   exact h _ _ _ x2 S2 r3
  | _=>exact h.elim
 | _=>cases b <;> exact h.elim
theorem Zft:OpR X (binaryOp .Sub) (r2 X.K Zcp):=OpR.imp Zqf fun x y H Q zz1=>by
 obtain ⟨ι,M,a,b,S,ra,rb,h⟩:=zz1
 cases a <;> cases b <;> first | exact h.elim | exact ⟨_,_,ra.int_inv,rb.int_inv,Zz.ok h S Rep.int⟩
theorem Zbe:OpR X (binaryOp .Mod) (r2 X.K Zai):=OpR.imp Zqo fun x y H Q zz1=>by
 obtain ⟨ι,M,a,b,S,ra,rb,h⟩:=zz1
 cases a with
 | int i=>cases b with
  | int j=>
   simp only [Zjd] at h
   split at h
   ·rename_i hj
    exact ⟨i,j,ra.int_inv,rb.int_inv,hj,Zz.ok h S Rep.int⟩
   ·exact h.elim
  | _=>exact h.elim
 | _=>cases b <;> exact h.elim
theorem Za9:OpR X (binaryOp .FloorDiv) (r2 X.K Zad):=OpR.imp Zpu fun x y H Q zz1=>by
 obtain ⟨ι,M,a,b,S,ra,rb,h⟩:=zz1
 cases a with
 | int i=>cases b with
  | int j=>
   simp only [Zh2] at h
   split at h
   ·rename_i hj
    exact ⟨i,j,ra.int_inv,rb.int_inv,hj,Zz.ok h S Rep.int⟩
   ·exact h.elim
  | _=>exact h.elim
 | _=>cases b <;> exact h.elim
theorem Znr:OpR X (binaryOp .Pow) (r2 X.K Zen):=OpR.imp Zrs fun x y H Q zz1=>by
 obtain ⟨ι,M,a,b,S,ra,rb,h⟩:=zz1
 cases a with
 | int i=>cases b with
  | int j=>
   simp only [Znc] at h
   split at h
   ·rename_i hj
    exact ⟨i,j,ra.int_inv,rb.int_inv,⟨hj.1,iN [] [_] 1 0xf42405b083e83b081 T1 hj.2.1,by have:=hj.2.2; omega⟩,Zz.ok h S Rep.int⟩
   ·exact h.elim
  | _=>exact h.elim
 | _=>cases b <;> exact h.elim
theorem Zgf:UnR X (unaryOp .USub) (r1 X.K Zcw):=UnR.imp ZqK fun x H Q zz1=>by
 obtain ⟨ι,M,a,S,ra,h⟩:=zz1
 cases a with
 | int i=>exact ⟨i,ra.int_inv,Zz.ok h S Rep.int⟩
 | _=>exact h.elim
theorem Zn0:OpR X (compareOp .Lt) (r2 X.K ZhA):=OpR.imp Zs5 fun x y H Q zz1=>by
 obtain ⟨ι,M,a,b,S,ra,rb,h⟩:=zz1
 cases a <;> cases b <;> first | exact h.elim | exact ⟨_,_,ra.int_inv,rb.int_inv,Zz.ok h S Rep.bl⟩
theorem ZkE:OpR X (compareOp .Gt) (r2 X.K Zei):=OpR.imp ZsB fun x y H Q zz1=>by
 obtain ⟨ι,M,a,b,S,ra,rb,h⟩:=zz1
 cases a <;> cases b <;> first | exact h.elim | exact ⟨_,_,ra.int_inv,rb.int_inv,Zz.ok h S Rep.bl⟩
theorem Zuf:OpR X (compareOp .GtE) (r2 X.K Zrr):=OpR.imp ZsK fun x y H Q zz1=>by
 obtain ⟨ι,M,a,b,S,ra,rb,h⟩:=zz1
 cases a <;> cases b <;> first | exact h.elim | exact ⟨_,_,ra.int_inv,rb.int_inv,Zz.ok h S Rep.bl⟩
end
theorem units_in1 (A:Around):A.in1.units = A.units + 1:=rfl
section
variable {X:Cx} {pins:List (Addr × Obj)} {σ:St} {H:Hp} {s:Shared} {ι:List Addr}
theorem Zi0 {e:Nat → Bool}:∀ {x y:List D},x.length = y.length → (∀ (j:Nat) a b,x[j]? = some a → y[j]? = some b → e j = deq a b) → (List.range x.length).all e = Zc4 x y:=by
 intro x
 induction x generalizing e with
 | nil=>intro y h _; cases y with | nil=>rfl | cons _ _=>simp at h
 | cons a x ih=>
  intro y h he
  cases y with
  | nil=>simp at h
  | cons b y=>
   rw [List.length_cons,List.range_succ_eq_map,List.all_cons,List.all_map,he 0 a b rfl rfl]
   rw [ZfJ]
   congr 1
   exact ih (e:=e ∘ Nat.succ) (by simpa using h) fun j a' b' h1 h2=>he (j + 1) a' b' (by simpa using h1) (by simpa using h2)
theorem ZjR:∀ {x y:List D},Zc4 x y = true → x.length = y.length
 | [],[],_=>rfl
 | [],_ :: _,h=>ft h
 | _ :: _,[],h=>ft h
 | a :: x,b :: y,h=>congrArg Nat.succ (ZjR (Bool.and_eq_true_iff.mp (h:(deq a b && Zc4 x y) = true)).2)
theorem ZiL {d:D} (h:ZaI 0 d = true):Zbb d = true:=by cases d <;> first | exact rfl | exact h
theorem ZeJ {n:Nat} {d:D} (h:ZaI (n + 1) d = true):Zbb d = true ∨ ∃ ds,d = .tup ds:=by
 cases d with
 | tup ds=>exact .inr ⟨ds,rfl⟩
 | scr _=>exact ft h
 | ref _=>exact ft h
 | _=>exact .inl rfl
theorem Zic {K:PySem.W.Frag} {a b:D} {v:V} (fa:Zbb a = true) (fb:Zbb b = true) (r:Rep K H ι a v) (q:Rep K H ι b v):deq a b = true:=by
 cases a with
 | non=>have e:=r.non_inv; cases b with
  | non=>rfl
  | bl _=>cases e.symm.trans q.bl_inv
  | int _=>cases e.symm.trans q.int_inv
  | str _=>cases e.symm.trans q.str_inv
  | _=>exact ft fb
 | bl x=>have e:=r.bl_inv; cases b with
  | non=>cases e.symm.trans q.non_inv
  | bl _=>exact beq_iff_eq.mpr (V.bl.inj (e.symm.trans q.bl_inv))
  | int _=>cases e.symm.trans q.int_inv
  | str _=>cases e.symm.trans q.str_inv
  | _=>exact ft fb
 | int x=>have e:=r.int_inv; cases b with
  | non=>cases e.symm.trans q.non_inv
  | bl _=>cases e.symm.trans q.bl_inv
  | int _=>exact beq_iff_eq.mpr (V.int.inj (e.symm.trans q.int_inv))
  | str _=>cases e.symm.trans q.str_inv
  | _=>exact ft fb
 | str x=>have e:=r.str_inv; cases b with
  | non=>cases e.symm.trans q.non_inv
  | bl _=>cases e.symm.trans q.bl_inv
  | int _=>cases e.symm.trans q.int_inv
  | str _=>exact Zgx.symm.trans (decide_eq_true (e.symm.trans q.str_inv))
  | _=>exact ft fb
 | _=>exact ft fa
theorem Zjw {K:PySem.W.Frag} {a:D} {v:V} {p:Addr} (fa:Zbb a = true) (r:Rep K H ι a v) (e:v = .ref p):False:=by
 cases a with
 | non=>cases e.symm.trans r.non_inv
 | bl x=>cases e.symm.trans r.bl_inv
 | int x=>cases e.symm.trans r.int_inv
 | str x=>cases e.symm.trans r.str_inv
 | _=>exact ft fa
theorem Rep.fun1 (I:Inv X pins σ H s):∀ (n:Nat) (a b:D) (v:V),ZaI n a = true → ZaI n b = true → Rep X.K H ι a v → Rep X.K H ι b v → deq a b = true:=by
 intro n
 induction n with
 | zero=>intro a b v ha hb r q; exact Zic (ZiL ha) (ZiL hb) r q
 | succ n ih=>
  intro a b v ha hb r q
  rcases ZeJ ha with fa | ⟨ds,ea⟩
  ·rcases ZeJ hb with fb | ⟨es,eb⟩
   ·exact Zic fa fb r q
   ·rw [eb] at q
    obtain ⟨p,vs,e,_⟩:=q.tup_inv
    exact (Zjw fa r e).elim
  ·rw [ea] at r ha ⊢
   obtain ⟨p,vs,e,s1,r1⟩:=r.tup_inv
   rcases ZeJ hb with fb | ⟨es,eb⟩
   ·exact (Zjw fb q e).elim
   ·rw [eb] at q hb ⊢
    obtain ⟨p',ws,e',s2,r2⟩:=q.tup_inv
    rw [← V.ref.inj (e.symm.trans e')] at s2
    rw [← I.tuple_inj s1 s2] at r2
    clear s1 s2 e e' q r eb ea
    rw [Zh8]
    revert ha hb r1 r2
    induction ds generalizing es vs with
    | nil=>
     intro _ r1 _ r2
     cases es with
     | nil=>rfl
     | cons _ _=>obtain ⟨_,_,e,_⟩:=r2.cons_inv; cases r1.nil_inv.symm.trans e
    | cons d ds ih2=>
     intro h1 r1 h2 r2
     obtain ⟨v,ws,e,q1,q2⟩:=r1.cons_inv
     cases es with
     | nil=>cases r2.nil_inv.symm.trans e
     | cons e' es=>
      obtain ⟨v',ws',z,q3,q4⟩:=r2.cons_inv
      obtain ⟨z1,z2⟩:=List.cons.inj (z.symm.trans e)
      rw [z1] at q3
      rw [z2] at q4
      have g1:=Bool.and_eq_true_iff.mp (h1:(ZaI n d && ds.all (ZaI n)) = true)
      have g2:=Bool.and_eq_true_iff.mp (h2:(ZaI n e' && es.all (ZaI n)) = true)
      rw [ZfJ,ih d e' v g1.1 g2.1 q1 q3]
      exact ih2 ws es g1.2 q2 g2.2 q4
theorem Zh7 {K:PySem.W.Frag} {x:V} {u:Value} (r:Rep K H ι .non x) (e:RelV x u):u = .none:=by
 rw [r.non_inv] at e; cases e; rfl
theorem ZjO {K:PySem.W.Frag} {b:Bool} {x:V} {u:Value} (r:Rep K H ι (.bl b) x) (e:RelV x u):u = .bool b:=by
 rw [r.bl_inv] at e; cases e; rfl
theorem Zgc {K:PySem.W.Frag} {i:Int} {x:V} {u:Value} (r:Rep K H ι (.int i) x) (e:RelV x u):∃ t,u = .int i t:=by
 rw [r.int_inv] at e; exact e
theorem Zgd {K:PySem.W.Frag} {i:List Nat} {x:V} {u:Value} (r:Rep K H ι (.str i) x) (e:RelV x u):∃ t,u = .str ⟨i.toArray⟩ t:=by
 rw [r.str_inv] at e; exact e
inductive ZqP (X:Cx) (H:Hp) (ι:List Addr) (T:Addr → Array Value → Prop) (ds:List D) (x:V) (u:Value):Prop
 | mk (p:Addr) (vs:List V) (its:List Value):x = .ref p → u = .ref p → T p its.toArray → Zy X.K H ι ds vs → Vals vs its → ZqP X H ι T ds x u
theorem ZhJ (I:Inv X pins σ H s) {ds:List D} {x:V} {u:Value} (r:Rep X.K H ι (.tup ds) x) (e:RelV x u):ZqP X H ι s.heap.IsTuple ds x u:=by
 obtain ⟨p,vs,ex,s1,r1⟩:=r.tup_inv
 obtain ⟨its,rvs,ht,_⟩:=I.tuple s1
 rw [ex] at e
 exact ⟨p,vs,its,ex,e,ht,r1,rvs⟩
theorem Zir {i k:List Nat}:decide (i = k) = ((⟨i.toArray⟩:Str) == ⟨k.toArray⟩):=by
 rw [← Bool.beq_eq_decide_eq,← Zgx]
 by_cases h:(⟨i.toArray⟩:Str) = ⟨k.toArray⟩
 ·rw [h,beq_self_eq_true]; exact decide_eq_true rfl
 ·rw [beq_eq_false_iff_ne.mpr h]; exact decide_eq_false fun e=>h (V.str.inj e)
theorem Zo1 {i k:List Nat}:deq (.str i) (.str k) = ((⟨i.toArray⟩:Str) == ⟨k.toArray⟩):=
 Eq.trans (show (i == k) = decide (i = k) from Bool.beq_eq_decide_eq i k) Zir
theorem ZfU (A:Around) (a b:D) (x y:V) (u v:Value) (ha:Zbb a = true) (hb:Zbb b = true) (ra:Rep X.K H ι a x) (rb:Rep X.K H ι b y) (ru:RelV x u) (rv:RelV y v):SeqAt.EqAt A s u v (deq a b):=by
 cases a with
 | non=>rw [Zh7 ra ru]; cases b with
  | non=>rw [Zh7 rb rv]; exact SeqAt.EqAt.same _
  | bl k=>rw [ZjO rb rv]; exact SeqAt.EqAt.none_bool _
  | int k=>obtain ⟨t,e⟩:=Zgc rb rv; rw [e]; exact SeqAt.EqAt.none_int _ _
  | str k=>obtain ⟨t,e⟩:=Zgd rb rv; rw [e]; exact SeqAt.EqAt.none_str _ _
  | _=>exact ft hb
 | bl i=>rw [ZjO ra ru]; cases b with
  | non=>rw [Zh7 rb rv]; exact SeqAt.EqAt.bool_none _
  | bl k=>rw [ZjO rb rv]; exact SeqAt.EqAt.bool_bool _ _
  | int k=>obtain ⟨t,e⟩:=Zgc rb rv; rw [e]; exact SeqAt.EqAt.bool_int _ _ _
  | str k=>obtain ⟨t,e⟩:=Zgd rb rv; rw [e]; exact SeqAt.EqAt.bool_str _ _ _
  | _=>exact ft hb
 | int i=>obtain ⟨t0,e0⟩:=Zgc ra ru; rw [e0]; cases b with
  | non=>rw [Zh7 rb rv]; exact SeqAt.EqAt.int_none _ _
  | bl k=>rw [ZjO rb rv]; exact SeqAt.EqAt.int_bool _ _ _
  | int k=>obtain ⟨t,e⟩:=Zgc rb rv; rw [e]; exact SeqAt.EqAt.int_int _ _ _ _
  | str k=>obtain ⟨t,e⟩:=Zgd rb rv; rw [e]; exact SeqAt.EqAt.int_str _ _ _ _
  | _=>exact ft hb
 | str i=>obtain ⟨t0,e0⟩:=Zgd ra ru; rw [e0]; cases b with
  | non=>rw [Zh7 rb rv]; exact SeqAt.EqAt.str_none _ _
  | bl k=>rw [ZjO rb rv]; exact SeqAt.EqAt.str_bool _ _ _
  | int k=>obtain ⟨t,e⟩:=Zgc rb rv; rw [e]; exact SeqAt.EqAt.str_int _ _ _ _
  | str k=>obtain ⟨t,e⟩:=Zgd rb rv; rw [e,Zo1]; exact SeqAt.EqAt.str_str _ _ _ _
  | _=>exact ft hb
 | _=>exact ft ha
noncomputable def dq2 (ds es:List D) (j:Nat):Bool:=match ds[j]?,es[j]? with | some a,some b=>deq a b | _,_=>false
theorem ZlC {ds es:List D} (hl:ds.length ≠ es.length):Zc4 ds es = false:=by
 cases q:Zc4 ds es with
 | false=>rfl
 | true=>exact absurd (ZjR q) hl
theorem ZlH {ds es:List D} {n:Nat} (hn:n = ds.length) (hl:ds.length = es.length):(List.range n).all (dq2 ds es) = Zc4 ds es:=by
 rw [hn]
 exact Zi0 hl fun j a b h1 h2=>by unfold dq2; rw [h1,h2]
theorem Zlo {ds es:List D} {n m:Nat} (hn:n = ds.length) (hm:m = es.length):((List.range (min n m)).all (dq2 ds es) && n == m) = Zc4 ds es:=by
 by_cases hl:ds.length = es.length
 ·have e:n = m:=hn.trans (hl.trans hm.symm)
  rw [← e,Nat.min_self,beq_self_eq_true,Bool.and_true]
  exact ZlH hn hl
 ·rw [ZlC hl,beq_eq_false_iff_ne.mpr fun e=>hl (hn.symm.trans (e.trans hm)),Bool.and_false]
theorem ZcE {ds:List D} {vs:List V} {its:List Value} (r:Zy X.K H ι ds vs) (v:Vals vs its):its.toArray.size = ds.length:=
 List.size_toArray.trans (v.length.symm.trans r.length)
theorem Zkm {A:Around} {n:Nat} {ds es:List D} {vs ws:List V} {its its2:List Value}
  (ih:∀ (a b:D) (x y:V) (u v:Value),ZaI n a = true → ZaI n b = true → Rep X.K H ι a x → Rep X.K H ι b y → RelV x u → RelV y v → SeqAt.EqAt A s u v (deq a b))
  (p1:ds.all (ZaI n) = true) (p2:es.all (ZaI n) = true) (r1:Zy X.K H ι ds vs) (r2:Zy X.K H ι es ws) (v1:Vals vs its) (v2:Vals ws its2)
  (j:Nat) (h1:j < its.toArray.size) (h2:j < its2.toArray.size):SeqAt.EqAt A s its.toArray[j] its2.toArray[j] (dq2 ds es j):=by
 have k1:j < ds.length:=by rw [← ZcE r1 v1]; exact h1
 have k2:j < es.length:=by rw [← ZcE r2 v2]; exact h2
 have q1:=List.getElem?_eq_getElem k1
 have q2:=List.getElem?_eq_getElem k2
 obtain ⟨x,g1,z1⟩:=r1.get q1
 obtain ⟨y,g2,z2⟩:=r2.get q2
 obtain ⟨u,e1,l1⟩:=v1.get g1
 obtain ⟨v,e2,l2⟩:=v2.get g2
 unfold dq2
 rw [q1,q2]
 obtain ⟨_,e1⟩:=List.getElem?_eq_some_iff.mp e1
 obtain ⟨_,e2⟩:=List.getElem?_eq_some_iff.mp e2
 exact ih _ _ x y _ _ (List.all_eq_true.mp p1 _ (List.getElem_mem k1)) (List.all_eq_true.mp p2 _ (List.getElem_mem k2)) z1 z2 (e1 ▸ l1) (e2 ▸ l2)
theorem Zi9 (A:Around) (hu1:A.units < cLine) {a:D} {x:V} {u:Value} {p:Addr} {its:Array Value} {es:List D} (ha:Zbb a = true) (ra:Rep X.K H ι a x) (ru:RelV x u) (it:s.heap.IsTuple p its):SeqAt.EqAt A s u (.ref p) (deq a (.tup es)) ∧ SeqAt.EqAt A s (.ref p) u (deq (.tup es) a):=by
 cases a with
 | non=>rw [Zh7 ra ru]; exact ⟨SeqAt.EqAt.none_tuple it hu1,SeqAt.EqAt.tuple_none it hu1⟩
 | bl k=>rw [ZjO ra ru]; exact ⟨SeqAt.EqAt.bool_tuple _ it hu1,SeqAt.EqAt.tuple_bool _ it hu1⟩
 | int k=>obtain ⟨t,e⟩:=Zgc ra ru; rw [e]; exact ⟨SeqAt.EqAt.int_tuple _ _ it hu1,SeqAt.EqAt.tuple_int _ _ it hu1⟩
 | str k=>obtain ⟨t,e⟩:=Zgd ra ru; rw [e]; exact ⟨SeqAt.EqAt.str_tuple _ _ it hu1,SeqAt.EqAt.tuple_str _ _ it hu1⟩
 | _=>exact ft ha
theorem Zm8 (I:Inv X pins σ H s):∀ (n:Nat) (A:Around) (_:A.units + n + 1 < cLine) (a b:D) (x y:V) (u v:Value),ZaI n a = true → ZaI n b = true → Rep X.K H ι a x → Rep X.K H ι b y → RelV x u → RelV y v → SeqAt.EqAt A s u v (deq a b):=by
 intro n
 induction n with
 | zero=>
  intro A hu a b x y u v ha hb ra rb ru rv
  exact ZfU A a b x y u v (ZiL ha) (ZiL hb) ra rb ru rv
 | succ n ih=>
  intro A hu a b x y u v ha hb ra rb ru rv
  have hu0:A.units + 0 + 1 < cLine:=lC 1 0x2ae0cc12aa1c0cc11 T1 hu
  have hu1:A.units < cLine:=lB 1 1104257534993 T1 hu0
  rcases ZeJ ha with fa | ⟨ds,ea⟩
  ·rcases ZeJ hb with fb | ⟨es,eb⟩
   ·exact ZfU A a b x y u v fa fb ra rb ru rv
   ·rw [eb] at rb ⊢
    obtain ⟨p,vs,its,ex,eu,t,_⟩:=ZhJ I rb rv
    rw [eu]
    exact (Zi9 A hu1 fa ra ru t).1
  ·rw [ea] at ra ha ⊢
   obtain ⟨p,vs,its,ex,eu,t,r1,v1⟩:=ZhJ I ra ru
   rw [eu]
   rcases ZeJ hb with fb | ⟨es,eb⟩
   ·exact (Zi9 A hu1 fb rb rv t).2
   ·rw [eb] at rb hb ⊢
    obtain ⟨q,ws,its2,ey,ev,t',r2,v2⟩:=ZhJ I rb rv
    rw [ev]
    by_cases hp:p = q
    ·rw [ey,← hp,← ex] at rb
     rw [Rep.fun1 I (n + 1) _ _ _ ha hb ra rb,hp]
     exact SeqAt.EqAt.same _
    ·refine SeqAt.EqAt.of_refs hp ?_
     rw [Zh8,← Zlo (ZcE r1 v1) (ZcE r2 v2)]
     exact SeqAt.RcAt.tuples t t' hu1 (Zkm (ih A.in1 (by rw [units_in1]; exact lC 1 0x2a1a0ccc12aa1c0cc11 T1 hu)) ha hb r1 r2 v1 v2)
end
end L3
namespace L3
open PySem PySem.Spec PyProof.Rows L2
section
variable {X:Cx}
section
variable {pins:List (Addr × Obj)} {σ:St} {H:Hp} {s:Shared} {ι:List Addr}
theorem ZpI {M:Store} (I:Inv X pins σ H s) (S:Zag X.K H ι M) {n:Nat} {ds:List D} {x:V} {u:Value} (h:M[n]? = some (.lst ds)) (r:Rep X.K H ι (.ref n) x) (e:RelV x u):ZqP X H ι s.heap.IsList ds x u:=by
 obtain ⟨p,hp1,ex⟩:=r.ref_inv
 obtain ⟨vs,e1,r1⟩:=S.obj n _ p h hp1
 obtain ⟨its,rvs,pl1,_⟩:=I.list (SqL.of e1)
 rw [ex] at e
 exact ⟨p,vs,its,ex,e,pl1.isList,r1,rvs⟩
inductive EqK (M:Store) (a b:D) (k:Bool):Prop
 | ref {n m:Nat} (ds es:List D):a = .ref n → b = .ref m → Zc4 ds es = k → M[n]? = some (.lst ds) → M[m]? = some (.lst es) → ds.all (ZaI DEEP) = true ∧ es.all (ZaI DEEP) = true → EqK M a b k
 | int (i j:Int):a = .int i → b = .int j → decide (i = j) = k → EqK M a b k
 | str (i j:List Nat):a = .str i → b = .str j → decide (i = j) = k → EqK M a b k
 | bl (i j:Bool):a = .bl i → b = .bl j → decide (i = j) = k → EqK M a b k
 | tup {ds es:List D}:a = .tup ds → b = .tup es → Zc4 ds es = k → ds.all (ZaI DEEP) = true ∧ es.all (ZaI DEEP) = true → EqK M a b k
theorem Zkz {α:Type} {c d:Bool} {a k:α} (h:(if c && d then some a else none) = some k):a = k ∧ c = true ∧ d = true:=by
 cases c with
 | false=>exact nsm h
 | true=>cases d with
  | false=>exact nsm h
  | true=>exact ⟨Option.some.inj h,rfl,rfl⟩
noncomputable def ZtJ (a b:Option MO):Option Bool:=match a,b with
 | some (.lst x),some (.lst y)=>if x.all (ZaI DEEP) && y.all (ZaI DEEP) then some (Zc4 x y) else none
 | _,_=>none
theorem Zo3 {M:Store} {n m:Nat} {k:Bool} (h:ZtJ M[n]? M[m]? = some k):EqK M (.ref n) (.ref m) k:=by
 cases e1:M[n]? with
 | none=>rw [e1] at h; exact nsm h
 | some o=>cases o with
  | lst x=>cases e2:M[m]? with
   | none=>rw [e1,e2] at h; exact nsm h
   | some o=>cases o with
    | lst y=>rw [e1,e2] at h; exact have w:=Zkz h; .ref x y rfl rfl w.1 e1 e2 w.2
    | _=>rw [e1,e2] at h; exact nsm h
  | _=>rw [e1] at h; exact nsm h
theorem eqK {M:Store} {a b:D} {k:Bool} (h:eqD a b M = some k):EqK M a b k:=by
 cases a with
 | ref n=>cases b with
  | ref m=>exact Zo3 h
  | _=>exact nsm h
 | int i=>cases b with
  | int j=>exact .int i j rfl rfl (Option.some.inj h)
  | _=>exact nsm h
 | str i=>cases b with
  | str j=>exact .str i j rfl rfl (Option.some.inj h)
  | _=>exact nsm h
 | bl i=>cases b with
  | bl j=>exact .bl i j rfl rfl (Option.some.inj h)
  | _=>exact nsm h
 | tup ds=>cases b with
  | tup es=>exact have w:=Zkz h; .tup rfl rfl w.1 w.2
  | _=>exact nsm h
 | _=>cases b <;> exact nsm h
theorem ZlI {M:Store} {a b:D} {x y:V} {u v:Value} {k:Bool} (hu:X.A.units + 80 < cLine) (I:Inv X pins σ H s) (S:Zag X.K H ι M)
  (ra:Rep X.K H ι a x) (rb:Rep X.K H ι b y) (ru:RelV x u) (rv:RelV y v) (h:eqD a b M = some k):SeqAt.RcAt X.A s u v k ∧ SeqAt.RcNeAt X.A s u v (!k):=by
 have hu1:X.A.units < cLine:=lB 1 17666545486865 T1 hu
 have hu2:X.A.in1.units + DEEP + 1 < cLine:=by rw [units_in1]; exact (show X.A.units + 1 + 60 + 1 < cLine from lB 1 0x1a3c2ba0ccc11502b0c11 T1 hu)
 rcases eqK h with ⟨ds,es,ea,eb,ek,e1,e2,p1,p2⟩ | ⟨i,j,ea,eb,ek⟩ | ⟨i,j,ea,eb,ek⟩ | ⟨i,j,ea,eb,ek⟩ | ⟨ea,eb,ek,p1,p2⟩
 ·rw [ea] at ra
  rw [eb] at rb
  rw [← ek]
  obtain ⟨p,vs,its,_,eu,t,r1,v1⟩:=ZpI I S e1 ra ru
  obtain ⟨q,ws,its2,_,ev,t',r2,v2⟩:=ZpI I S e2 rb rv
  rw [eu,ev]
  by_cases hl:ds.length = es.length
  ·rw [← ZlH (ZcE r1 v1) hl]
   have hz:=(ZcE r1 v1).trans (hl.trans (ZcE r2 v2).symm)
   have w:=Zkm (Zm8 I DEEP X.A.in1 hu2) p1 p2 r1 r2 v1 v2
   exact ⟨SeqAt.RcAt.lists t t' hz hu1 w,SeqAt.RcNeAt.lists t t' hz hu1 w⟩
  ·rw [ZlC hl]
   have hz:(its.toArray.size != its2.toArray.size) = true:=bne_iff_ne.mpr fun e=>hl ((ZcE r1 v1).symm.trans (e.trans (ZcE r2 v2)))
   exact ⟨SeqAt.RcAt.lists_lengths t t' hz hu1,SeqAt.RcNeAt.lists_lengths t t' hz hu1⟩
 ·rw [ea] at ra
  rw [eb] at rb
  obtain ⟨t,e⟩:=Zgc ra ru
  obtain ⟨t',e'⟩:=Zgc rb rv
  rw [e,e',← ek,← Bool.beq_eq_decide_eq]
  exact ⟨SeqAt.RcAt.int_int _ _ _ _,SeqAt.RcNeAt.int_int _ _ _ _⟩
 ·rw [ea] at ra
  rw [eb] at rb
  obtain ⟨t,e⟩:=Zgd ra ru
  obtain ⟨t',e'⟩:=Zgd rb rv
  rw [e,e',← ek,Zir]
  exact ⟨SeqAt.RcAt.str_str _ _ _ _,SeqAt.RcNeAt.str_str _ _ _ _⟩
 ·rw [ea] at ra
  rw [eb] at rb
  rw [ZjO ra ru,ZjO rb rv,← ek,← Bool.beq_eq_decide_eq]
  exact ⟨SeqAt.RcAt.bool_bool _ _,SeqAt.RcNeAt.bool_bool _ _⟩
 ·rw [ea] at ra
  rw [eb] at rb
  obtain ⟨p,vs,its,_,eu,t,r1,v1⟩:=ZhJ I ra ru
  obtain ⟨q,ws,its2,_,ev,t',r2,v2⟩:=ZhJ I rb rv
  rw [eu,ev,← ek,← Zlo (ZcE r1 v1) (ZcE r2 v2)]
  have w:=Zkm (Zm8 I DEEP X.A.in1 hu2) p1 p2 r1 r2 v1 v2
  exact ⟨SeqAt.RcAt.tuples t t' hu1 w,SeqAt.RcNeAt.tuples t t' hu1 w⟩
end
theorem ZcA (hu:X.A.units + 80 < cLine):OpR X (compareOp .Eq) (r2 X.K ZaK):=by
 intro pins s σ H x y v u Q I rx ry h
 obtain ⟨ι,M,a,b,S,ra,rb,h⟩:=h
 unfold ZaK at h
 cases q:eqD a b M with
 | none=>rw [q] at h; exact h.elim
 | some k=>
  rw [q] at h
  exact (ZlI hu I S ra rb rx ry q).1 X.prog X.w X.xe _ ⟨.bl k,H,I,rfl,Zz.ok h S Rep.bl⟩
theorem Zkl {K:PySem.W.Frag} {H:Hp} {ι:List Addr} {ds:List D} {vs:List V} {i:Int} {d:D} (r:Zy K H ι ds vs) (h:ZaN ds i = some d):∃ v,atI vs i = some v ∧ Rep K H ι d v:=by
 unfold ZaN at h
 unfold atI
 have e:ixN vs.length i = ixD ds.length i:=by rw [r.length]; rfl
 rw [e]
 cases q:ixD ds.length i with
 | none=>rw [q] at h; cases h
 | some j=>
  rw [q] at h
  exact r.get h
theorem Zat:IxR X (r2 X.K Zq):=IxR.imp Zrv fun x y H Q zz1=>by
 obtain ⟨ι,M,a,b,S,ra,rb,h⟩:=zz1
 cases a with
 | tup ds=>cases b with
  | int i=>
   simp only [ZbM,ZbN,ZbK,Zbf] at h
   cases q:ZaN ds i with
   | none=>simp only [q] at h; exact h.elim
   | some d=>
    simp only [q] at h
    obtain ⟨p,vs,rfl,s1,r1⟩:=ra.tup_inv
    obtain ⟨v,e,rv⟩:=Zkl r1 q
    exact .inr (.inl ⟨p,vs,i,v,rfl,rb.int_inv,s1,e,Zz.ok h S rv⟩)
  | _=>exact h.elim
 | scr ds=>cases b with
  | int i=>
   simp only [ZbM,ZbN,ZbK,Zbf] at h
   cases q:ZaN ds i with
   | none=>simp only [q] at h; exact h.elim
   | some d=>
    simp only [q] at h
    obtain ⟨p,vs,rfl,s1,r1⟩:=ra.scr_inv
    obtain ⟨v,e,rv⟩:=Zkl r1 q
    exact .inl ⟨p,vs,i,v,rfl,rb.int_inv,s1.sq,e,Zz.ok h S rv⟩
  | _=>exact h.elim
 | str z=>cases b with
  | int i=>
   simp only [ZbM,ZbN,ZbK,Zbf] at h
   cases q:ZaN z i with
   | none=>simp only [q] at h; exact h.elim
   | some c=>
    simp only [q] at h
    split at h
    ·rename_i hz
     refine .inr (.inr ⟨_,i,c,ra.str_inv,rb.int_inv,?_,?_,Zz.ok h S Rep.str⟩)
     ·have:=ZbS
      simp only [Str.length,List.size_toArray]
      exact Nat.le_trans hz this
     ·simpa [atI,ixN,ZaN,ixD] using q
    ·exact h.elim
  | _=>exact h.elim
 | ref n=>cases b with
  | int i=>
   cases hn:M[n]? with
   | none=>rw [Zbf,hn] at h; exact h.elim
   | some o=>
    cases o with
    | dct _=>rw [Zbf,hn] at h; exact h.elim
    | fdct _=>rw [Zbf,hn] at h; exact h.elim
    | ins _ _=>rw [Zbf,hn] at h; exact h.elim
    | lst ds=>
     simp only [ZbM,ZbN,ZbK,Zbf,hn] at h
     cases q:ZaN ds i with
     | none=>simp only [q] at h; exact h.elim
     | some d=>
      simp only [q] at h
      obtain ⟨p,hp,rfl⟩:=ra.ref_inv
      obtain ⟨vs,e1,r1⟩:=S.obj n _ p hn hp
      obtain ⟨v,e,rv⟩:=Zkl r1 q
      exact .inl ⟨p,vs,i,v,rfl,rb.int_inv,SqL.of e1,e,Zz.ok h S rv⟩
  | _=>exact h.elim
 | _=>cases b <;> exact h.elim
theorem ZkK {K:PySem.W.Frag} {H:Hp} {ι:List Addr} {ds:List D} {vs:List V} (r:Zy K H ι ds vs) (lo hi:Option Int):Zy K H ι (cutD ds lo hi) (Zjn vs lo hi):=by
 have e:∀ n d o,HT.sIx n d o = sIx n d o:=fun n d o=>by cases o <;> rfl
 unfold cutD Zjn
 rw [e,e,r.length]
 exact (r.drop _).take _
end
end L3
namespace L3
open PySem PySem.Spec PyProof.Rows L2
noncomputable def Zcr (cells:List (Str × Addr)):List (Str × NameKind) → List (Str × Addr) → List (Str × Addr)
 | [],cs=>cs
 | (n,k) :: r,cs=>Zcr cells r (if k == .free then (n,(cells.lookup n).getD 0) :: cs else cs)
theorem ZeO {scope:Scope} {env:Env} (h:∀ y ∈ scope.names,y.2 = .free → ∃ c,env.cells.lookup y.1 = some c):closureFor scope env = pure (Zcr env.cells scope.names []):=by
 unfold closureFor
 have key:∀ (names:List (Str × NameKind)) (cs:List (Str × Addr)),(∀ y ∈ names,y.2 = .free → ∃ c,env.cells.lookup y.1 = some c) →
   (forIn names cs fun x r=>match x with | (name,kind)=>if (kind == NameKind.free) = true then do let c ← cellOf env name; pure (ForInStep.yield ((name,c) :: r)) else pure (ForInStep.yield r):Sem (List (Str × Addr))) = pure (Zcr env.cells names cs):=by
  intro names
  induction names with
  | nil=>intro cs _; rfl
  | cons y r ih=>
   intro cs hy
   obtain ⟨n,k⟩:=y
   rw [List.forIn_cons]
   by_cases hk:k = .free
   ·subst hk
    obtain ⟨c,hc⟩:=hy (n,.free) List.mem_cons_self rfl
    have e1:cellOf env n = pure c:=by unfold cellOf; rw [hc]
    simp only [beq_self_eq_true,if_true,e1,pure_bind]
    rw [ih _ fun z hz=>hy z (List.mem_cons_of_mem _ hz)]
    simp [Zcr,hc]
   ·have hb:(k == NameKind.free) = false:=by simpa using hk
    simp only [hb,Bool.false_eq_true,if_false,pure_bind]
    rw [ih _ fun z hz=>hy z (List.mem_cons_of_mem _ hz)]
    simp [Zcr,hb]
 have:=key scope.names [] h
 first
  | exact this
  | (simp only [bind_pure]; exact this)
theorem ZlO {cells:List (Str × Addr)} {x:Str} {c:Addr}:∀ (names:List (Str × NameKind)) (cs:List (Str × Addr)),(∀ y ∈ names,y.2 = .free → ∃ c,cells.lookup y.1 = some c) → (Zcr cells names cs).lookup x = some c → cs.lookup x = some c ∨ cells.lookup x = some c:=by
 intro names
 induction names with
 | nil=>intro cs _ h; exact .inl h
 | cons y r ih=>
  intro cs hy h
  obtain ⟨n,k⟩:=y
  rw [Zcr] at h
  rcases ih _ (fun z hz=>hy z (List.mem_cons_of_mem _ hz)) h with q | q
  ·by_cases hk:k = .free
   ·subst hk
    obtain ⟨c0,hc⟩:=hy (n,.free) List.mem_cons_self rfl
    simp only [beq_self_eq_true,if_true,hc,Option.getD_some,List.lookup_cons] at q
    cases hx:x == n with
    | true=>
     simp only [hx] at q
     cases q
     have:x = n:=by simpa using hx
     subst this
     exact .inr hc
    | false=>simp only [hx] at q; exact .inl q
   ·have hb:(k == NameKind.free) = false:=by simpa using hk
    simp only [hb,Bool.false_eq_true,if_false] at q
    exact .inl q
  ·exact .inr q
theorem Zkh {cells:List (Str × Addr)} {x:Str}:∀ (names:List (Str × NameKind)) (cs:List (Str × Addr)),(cs.lookup x).isSome = true → ((Zcr cells names cs).lookup x).isSome = true:=by
 intro names
 induction names with
 | nil=>intro cs h; exact h
 | cons y r ih=>
  intro cs h
  obtain ⟨n,k⟩:=y
  rw [Zcr]
  refine ih _ ?_
  split
  ·rw [List.lookup_cons]
   split
   ·rfl
   ·exact h
  ·exact h
theorem ZhU {cells:List (Str × Addr)} {x:Str}:∀ (names:List (Str × NameKind)) (cs:List (Str × Addr)),(x,NameKind.free) ∈ names → ((Zcr cells names cs).lookup x).isSome = true:=by
 intro names
 induction names with
 | nil=>intro cs h; cases h
 | cons y r ih=>
  intro cs h
  obtain ⟨n,k⟩:=y
  rw [Zcr]
  rcases List.mem_cons.mp h with e | h
  ·cases e
   refine Zkh _ _ ?_
   simp
  ·exact ih _ h
noncomputable def Zcj (X:Cx) (scope:Scope) (N':List Str) (C:Addr) (cl:List (Str × Addr)) (s:Shared) (H:Hp) (ex:List Addr):Cx:=
 { X with N:=N',s₀:=s,H₀:=H,env:=compEnvC scope cl C X.env,outer:=X.stack,stack:=X.stack,ex:=ex,fn:=fun _=>false,pn:=[],xe:=fun _ _=>False }
noncomputable def ZnV (N N':List Str) (scope:Scope):Bool:=(List.range N.length).all fun i=>match N'[i]? with
 | some x=>(scope.names.lookup x).isNone || (decide (N[i]? = some x) && decide (scope.names.lookup x = some .free))
 | none=>false
def CTs (X:Cx) (ifs:List Expr) (ts:List E3):Prop:=∀ (pins:List (Addr × Obj)) (s:Shared) (σ:St) (H:Hp) (Q:Bool → Hp → Prop),Inv X pins σ H s →
 (∃ ι M env,Zag X.K H ι M ∧ Za1 X.K H ι env σ ∧ match Zc5 ts env M with | .ok b M'=>∀ H' ι',Ext X.K H ι H' ι' → Zag X.K H' ι' M' → Q b H' | _=>False) →
 wpAny (model X.prog X.w) X.A (forIn ifs true fun c r=>if r = true then do let ok ← isTrue c X.env (eval c X.env); pure (ForInStep.yield ok) else pure (ForInStep.yield r)) (TP X pins σ Q) X.xe s
theorem Zlf {X:Cx}:CTs X [] []:=fun pins s σ H Q I ⟨ι,M,env,S,E,h⟩=>wpAny_tests_nil ⟨H,I,h H ι Ext.refl S⟩
theorem Zlg {X:Cx} {c:Expr} {f:E3} (hc:CT X c f):CTs X [c] [f]:=fun pins s σ H Q I zz1=>by
 obtain ⟨ι,M,env,S,E,h⟩:=zz1
 refine wpAny_tests_one (hc pins s σ H Q I ⟨ι,M,env,S,E,?_⟩)
 unfold Zc5 at h
 cases q:f env M with
 | ok d M1=>
  rw [q] at h
  cases d with
  | bl b=>cases b with
   | true=>exact h
   | false=>exact h
  | _=>exact h.elim
 | exc x M1=>rw [q] at h; exact h.elim
 | bad=>rw [q] at h; exact h.elim
section
variable {prog:Program} {w:World} {A:Around} {R:Result → Shared → Prop} {s:Shared}
theorem Zi3 {elt target iter:Expr} {ifs:List Expr} {scope:Scope} {pos:Pos} {it acc:Value} {env:Env} (I:Nat → Shared → Prop)
  (turn:∀ n s,I n s → wpAny (model prog w) A (pyNext it) (fun r s₁=>match r with
   | none=>R (.ok .next) s₁
   | some v=>wpAny (model prog w) A (letOwnedTupleGo target it v) (fun _ s₁'=>wpAny (model prog w) A (assign target env v) (fun _ s₂=>
     wpAny (model prog w) A (forIn ifs true fun c r=>if r = true then do let ok ← isTrue c env (eval c env); pure (ForInStep.yield ok) else pure (ForInStep.yield r)) (fun ok s₃=>
      if ok = true then wpAny (model prog w) A (eval elt env) (fun x s₄=>
       wpAny (model prog w) A (call (.builtin "list.append") [acc,x]) (fun _ s₅=>∃ m,m < n ∧ I m s₅) (fun _ _=>False) s₄) (fun _ _=>False) s₃
      else ∃ m,m < n ∧ I m s₃) (fun _ _=>False) s₂) (fun _ _=>False) s₁') (fun _ _=>False) s₁) (fun _ _=>False) s)
  (n:Nat) (h:I n s):codeAny (model prog w) A (.compLoop (.ListComp elt [⟨target,iter,ifs,0⟩] scope pos) 0 it acc env) R s:=by
 refine codeAny_loop rfl I (fun n s hI=>?_) n h
 show wpAny _ A ((compTurn (.ListComp elt [⟨target,iter,ifs,0⟩] scope pos) 0 it acc env).onRaise (fun x=>do noteFrame x env; theTreesLotGoes x)) _ _ s
 refine wpAny_noted ?_
 rw [compTurn_list]
 refine wpAny_bind (wpAny_standAt (wpAny_bind (wpAny_mono (turn n s hI) (fun r s₁ h₁=>?_) fun _ _ h'=>False.elim h')))
 cases r with
 | none=>exact wpAny_pure h₁
 | some v=>
  refine wpAny_bind (wpAny_mono h₁ (fun _ s₁' h₁'=>?_) fun _ _ h'=>False.elim h')
  refine wpAny_bind (wpAny_mono h₁' (fun _ s₂ h₂=>wpAny_bind (wpAny_mono h₂ (fun ok s₃ h₃=>?_) fun _ _ h'=>False.elim h')) fun _ _ h'=>False.elim h')
  cases ok with
  | false=>exact wpAny_pure ⟨rfl,h₃⟩
  | true=>
   exact wpAny_bind (wpAny_bind (wpAny_mono h₃ (fun x s₄ h₄=>wpAny_bind (wpAny_mono h₄ (fun _ s₅ h₅=>wpAny_pure (wpAny_pure ⟨rfl,h₅⟩)) fun _ _ h'=>False.elim h')) fun _ _ h'=>False.elim h'))
end
theorem Zdi {env:Env} {x:Str} {k:NameKind}:∀ {names:List (Str × NameKind)},(names.map fun (n,k)=>if (k == NameKind.free && env.scope.kind == .function && env.kindOf n == some .cell) then (n,NameKind.cell) else (n,k)).lookup x = some k →
  ∃ k0,names.lookup x = some k0 ∧ (k0 = k ∨ (k0 = .free ∧ k = .cell)):=by
 intro names
 induction names with
 | nil=>intro h; simp at h
 | cons y r ih=>
  intro h
  obtain ⟨n,k1⟩:=y
  rw [List.map_cons] at h
  cases hx:x == n with
  | true=>
   refine ⟨k1,by simp [List.lookup_cons,hx],?_⟩
   by_cases hc:(k1 == NameKind.free && env.scope.kind == .function && env.kindOf n == some .cell) = true
   ·simp only [if_pos hc,List.lookup_cons,hx] at h
    cases h
    simp only [Bool.and_eq_true,beq_iff_eq] at hc
    exact .inr ⟨hc.1.1,rfl⟩
   ·simp only [if_neg hc,List.lookup_cons,hx] at h
    cases h
    exact .inl rfl
  | false=>
   have h':(r.map fun (n,k)=>if (k == NameKind.free && env.scope.kind == .function && env.kindOf n == some .cell) then (n,NameKind.cell) else (n,k)).lookup x = some k:=by
    by_cases hc:(k1 == NameKind.free && env.scope.kind == .function && env.kindOf n == some .cell) = true
    ·simp only [if_pos hc,List.lookup_cons,hx] at h; exact h
    ·simp only [if_neg hc,List.lookup_cons,hx] at h; exact h
   obtain ⟨k0,e,q⟩:=ih h'
   exact ⟨k0,by simp [List.lookup_cons,hx,e],q⟩
theorem ZiX {env:Env} {x:Str}:∀ {names:List (Str × NameKind)},names.lookup x = some .free →
  (names.map fun (n,k)=>if (k == NameKind.free && env.scope.kind == .function && env.kindOf n == some .cell) then (n,NameKind.cell) else (n,k)).lookup x = some .free ∨
  (names.map fun (n,k)=>if (k == NameKind.free && env.scope.kind == .function && env.kindOf n == some .cell) then (n,NameKind.cell) else (n,k)).lookup x = some .cell:=by
 intro names
 induction names with
 | nil=>intro h; simp at h
 | cons y r ih=>
  intro h
  obtain ⟨n,k1⟩:=y
  rw [List.map_cons]
  cases hx:x == n with
  | true=>
   simp only [List.lookup_cons,hx] at h
   cases h
   by_cases hc:(NameKind.free == NameKind.free && env.scope.kind == .function && env.kindOf n == some .cell) = true
   ·simp only [if_pos hc,List.lookup_cons,hx]; exact .inr trivial
   ·simp only [if_neg hc,List.lookup_cons,hx]; exact .inl trivial
  | false=>
   simp only [List.lookup_cons,hx] at h
   by_cases hc:(k1 == NameKind.free && env.scope.kind == .function && env.kindOf n == some .cell) = true
   ·simp only [if_pos hc,List.lookup_cons,hx]; exact ih h
   ·simp only [if_neg hc,List.lookup_cons,hx]; exact ih h
section
variable {X:Cx} {pins:List (Addr × Obj)} {σ:St} {H:Hp} {s:Shared} {scope:Scope} {N':List Str} {own:Nat} {fp:List Addr}
theorem Zmx (I:Inv X pins σ H s) (hk:scope.kind = .function) (hcell:∀ y ∈ scope.names,y.2 ≠ .cell) (hfree:∀ y ∈ scope.names,y.2 = .free → X.env.kindOf y.1 = some .cell ∨ X.env.kindOf y.1 = some .free)
  (hN:N'.length = X.N.length + own) (hv:ZnV X.N N' scope = true) (hfp:∀ b ∈ fp,ZeA X pins H b) (hlt:∀ b ∈ fp,b < s.heap.objs.size) {h1:Heap} {tk:Nat}
  (hns:h1.Ns s.heap.objs.size fun _=>none) (keep:∀ b o,s.heap.get? b = some o → h1.get? b = some o):
  Inv (Zcj X scope N' s.heap.objs.size (Zcr X.env.cells scope.names []) s H fp) [] (σ ++ List.replicate own none) H { s with heap:=h1,toks:=tk }:=by
 have hc0:∀ y ∈ scope.names,y.2 = .free → ∃ c,X.env.cells.lookup y.1 = some c:=fun y hy e=>I.ok.has y.1 (hfree y hy e)
 have sub:∀ x c,(Zcr X.env.cells scope.names []).lookup x = some c → X.env.cells.lookup x = some c:=fun x c h=>by
  rcases ZlO scope.names [] hc0 h with q | q
  ·simp at q
  ·exact q
 have cellK:∀ {c:Addr} {v:Option Value},s.heap.IsCell c v → h1.IsCell c v:=fun ⟨o,ho,hd⟩=>⟨o,keep _ o ho,hd⟩
 refine ⟨⟨I.ok.mod,hk,I.ok.glob,I.ok.blt,Nat.le_refl _,fun x y c h1 h2=>I.ok.inj x y c (sub x c h1) (sub y c h2),fun x hx=>?_,fun x c h=>?_,I.ok.hd,I.ok.frames,.inl rfl,fun b hb=>⟨Nat.ne_of_lt (hlt b hb),fun x c h=>(hfp b hb).2.2.2.2.1 x c (sub x c h)⟩,
   I.bs,Nat.le_trans I.ok.bsz I.sz,fun b o e hb=>?_,fun b hb hz=>?_,I.stack,I.stkFree⟩,rfl,I.bare,Un.kept keep,⟨_,hns,fun i x v h1 h2 h3=>?_⟩,fun x c h=>?_,I.hok.fresh (Nat.le_refl _),fun x c h=>I.freeC x c (sub x c h),
  fun p hp=>absurd (show p ∈ ([]:List (Addr × Obj)) from hp) (by simp),I.hok.kept keep,?_⟩
 ·have hx':(relabel scope X.env).names.lookup x = some .cell ∨ (relabel scope X.env).names.lookup x = some .free:=hx
  have:scope.names.lookup x = some .free:=by
   rcases hx' with hx' | hx'
   ·obtain ⟨k0,e,q⟩:=Zdi (names:=scope.names) hx'
    rcases q with q | ⟨q,_⟩
    ·subst q; exact absurd rfl (hcell _ (PySem.mem_of_lookup e))
    ·rw [e,q]
   ·obtain ⟨k0,e,q⟩:=Zdi (names:=scope.names) hx'
    rcases q with q | ⟨_,q⟩
    ·rw [e,q]
    ·cases q
  exact Option.isSome_iff_exists.mp (ZhU scope.names [] (PySem.mem_of_lookup this))
 ·cases h
 ·obtain ⟨_,_,_,q,_⟩:=hfp b hb
  rcases q with q | q
  ·exact I.ok.noex b o e q
  ·exact absurd (Nat.lt_of_lt_of_le (Heap.lt_size e) (Nat.le_trans I.ok.bsz q)) (Nat.lt_irrefl _)
 ·have hz':b ∈ frs X.stack:=hz
  obtain ⟨_,q1,q2,_⟩:=hfp b hb
  rcases List.mem_cons.mp (I.stkSub b hz') with e | e
  ·exact q1 e
  ·exact q2 e
 ·have hi:i < σ.length:=by
   by_cases hi:i < σ.length
   ·exact hi
   ·rw [List.getElem?_append_right (Nat.le_of_not_lt hi),List.getElem?_replicate] at h2
    split at h2 <;> cases h2
  rw [List.getElem?_append_left hi] at h2
  have hiN:i < X.N.length:=by rw [← I.len]; exact hi
  have hN':N'[i]? = some x:=h1
  have vq:=List.all_eq_true.mp hv i (List.mem_range.mpr hiN)
  rw [hN'] at vq
  have h3':(relabel scope X.env).names.lookup x = some .local ∨ (relabel scope X.env).names.lookup x = some .cell ∨ (relabel scope X.env).names.lookup x = some .free:=h3
  have some_of:∃ k0,scope.names.lookup x = some k0:=by
   rcases h3' with q | q | q <;> (obtain ⟨k0,e,_⟩:=Zdi (names:=scope.names) q; exact ⟨k0,e⟩)
  obtain ⟨k0,ek⟩:=some_of
  simp only [ek,Option.isNone_some,Bool.false_or,Bool.and_eq_true,decide_eq_true_eq] at vq
  obtain ⟨vq1,vq2⟩:=vq
  cases vq2
  have hkind:=hfree (x,.free) (PySem.mem_of_lookup ek) rfl
  obtain ⟨m,hn,hl⟩:=I.loc
  have hVis:Vis X.env.scope x:=by
   rcases hkind with q | q
   ·exact .inr (.inl q)
   ·exact .inr (.inr q)
  obtain ⟨u,ru,lk⟩:=hl i x v vq1 h2 hVis
  refine ⟨u,ru,?_⟩
  rcases lk with ⟨kl,_⟩ | ⟨_,c,ec,ic⟩
  ·rcases hkind with q | q <;> (rw [q] at kl; cases kl)
  ·have hkk:(compEnvC scope (Zcr X.env.cells scope.names []) s.heap.objs.size X.env).kindOf x = some .cell ∨ (compEnvC scope (Zcr X.env.cells scope.names []) s.heap.objs.size X.env).kindOf x = some .free:=by
    rcases ZiX (env:=X.env) ek with q | q
    ·exact .inr q
    ·exact .inl q
   obtain ⟨c',ec'⟩:=Option.isSome_iff_exists.mp (ZhU (cells:=X.env.cells) scope.names [] (PySem.mem_of_lookup ek))
   have e2:=sub x c' ec'
   rw [ec] at e2
   cases e2
   exact .inr ⟨hkk,c,ec',cellK ic⟩
 ·obtain ⟨v,ic⟩:=I.cell x c (sub x c h)
  exact ⟨v,cellK ic⟩
 ·show (σ ++ List.replicate own none).length = N'.length
  rw [List.length_append,List.length_replicate,I.len,hN]
theorem Za1.grow {K:PySem.W.Frag} {H:Hp} {ι:List Addr} {env:Zaf} {σ:St} (E:Za1 K H ι env σ) (n:Nat):Za1 K H ι (env ++ List.replicate n none) (σ ++ List.replicate n none):=by
 refine ⟨by simp [E.1],fun i d h=>?_⟩
 by_cases hi:i < env.length
 ·rw [List.getElem?_append_left hi] at h
  obtain ⟨v,e,r⟩:=E.2 i d h
  exact ⟨v,by rw [List.getElem?_append_left (by rw [← E.1]; exact hi)]; exact e,r⟩
 ·rw [List.getElem?_append_right (Nat.le_of_not_lt hi),List.getElem?_replicate] at h
  split at h <;> cases h
end
section
structure Cb where
 Y:Cx
 fp:List Addr
 tn:Nat → Heap → Prop
 itd:It3
 H2:Hp
 ι2:List Addr
 Q:VK
 g:G3
 ts:List E3
 f:E3
 nM:Nat
 acc:Addr
inductive CbJ (P:Cb) (n:Nat) (s':Shared):Prop
 | mk (k:Nat) (σ5:St) (H5:Hp) (ι5:List Addr) (M5:Store) (env5:Zaf) (I5:Inv P.Y [] σ5 H5 s') (st5:P.tn k s'.heap) (fr5:∀ b ∈ P.fp,H5 b = none) (hn:P.itd.items.length - k = n) (hk:k ≤ P.itd.items.length)
   (x5:Ext P.Y.K P.H2 P.ι2 H5 ι5) (S5:Zag P.Y.K H5 ι5 M5) (E5:Za1 P.Y.K H5 ι5 env5 σ5) (hι:ι5[P.nM]? = some P.acc) (h5:Zz P.Y.K H5 ι5 P.Q (ZbH P.itd P.g P.ts P.f P.nM (P.itd.items.drop k) env5 M5))
def CbL (P:Cb) (n:Nat) (s':Shared):Prop:=∃ m,m < n ∧ CbJ P m s'
section
noncomputable local instance (priority:=100000) clP18a (p:Prop):Decidable p:=clP17 p
noncomputable def cbE (P:Cb) (k:Nat) (env:Zaf) (e:D) (M2:Store):R3 D:=match M2[P.nM]? with
 | some (.lst x)=>if x.length < SZ then ZbH P.itd P.g P.ts P.f P.nM (P.itd.items.drop (k + 1)) env (M2.set P.nM (.lst (x ++ [e]))) else .bad
 | _=>.bad
noncomputable def cbB (P:Cb) (k:Nat) (env:Zaf) (b:Bool) (M1:Store):R3 D:=if b then (P.f env M1).bind (cbE P k env) else ZbH P.itd P.g P.ts P.f P.nM (P.itd.items.drop (k + 1)) env M1
end
def cbF (P:Cb) (n:Nat) (xv:Value) (s:Shared):Prop:=wpAny (model P.Y.prog P.Y.w) P.Y.A (call (.builtin "list.append") [.ref P.acc,xv]) (fun _ s'=>CbL P n s') P.Y.xe s
def cbO (P:Cb) (elt:Expr) (n:Nat) (ok:Bool) (s:Shared):Prop:=if ok = true then wpAny (model P.Y.prog P.Y.w) P.Y.A (eval elt P.Y.env) (cbF P n) P.Y.xe s else CbL P n s
def cbS (P:Cb) (elt:Expr) (ifs:List Expr) (n:Nat) (s:Shared):Prop:=wpAny (model P.Y.prog P.Y.w) P.Y.A (forIn ifs true fun c r=>if r = true then do let ok ← isTrue c P.Y.env (eval c P.Y.env); pure (ForInStep.yield ok) else pure (ForInStep.yield r)) (cbO P elt n) P.Y.xe s
def cbA (P:Cb) (tg elt:Expr) (ifs:List Expr) (n:Nat) (u:Value) (s:Shared):Prop:=wpAny (model P.Y.prog P.Y.w) P.Y.A (assign tg P.Y.env u) (fun _=>cbS P elt ifs n) P.Y.xe s
def cbN (P:Cb) (tg elt:Expr) (ifs:List Expr) (it:Addr) (n:Nat) (F:Shared → Prop) (r:Option Value) (s:Shared):Prop:=match r with
 | none=>F s
 | some v=>wpAny (model P.Y.prog P.Y.w) P.Y.A (letOwnedTupleGo tg (.ref it) v) (fun _=>cbA P tg elt ifs n v) P.Y.xe s
variable {P:Cb} {tg elt:Expr} {ifs:List Expr} {J:It} {it:Addr} {k:Nat} {h7:Heap} {σ:St} {H H':Hp} {s:Shared} {ι:List Addr} {M M1:Store} {env:Zaf}
theorem ZlB (T:Turn P.Y.prog P.Y.w P.Y.K tg J P.fp it P.tn) (st7:P.tn (k + 1) h7) (hlt:k < P.itd.items.length) (I':Inv P.Y ([] ++ Zeu P.fp h7) σ H s) (x:Ext P.Y.K P.H2 P.ι2 H ι) (S:Zag P.Y.K H ι M) (E:Za1 P.Y.K H ι env σ) (hι:ι[P.nM]? = some P.acc)
  (h:Zz P.Y.K H ι P.Q (ZbH P.itd P.g P.ts P.f P.nM (P.itd.items.drop (k + 1)) env M)):CbL P (P.itd.items.length - k) s:=
 ⟨P.itd.items.length - (k + 1),lD 2 0x30113c2012a1c0c21 T1 (Nat.sub_add_cancel (lB 1 6991908881 T1 hlt)) (sbA _ _),⟨k + 1,σ,H,ι,M,env,I'.unpinned,T.keep _ _ _ st7 fun b hb o e=>(I'.pin (b,o) (List.mem_append_right _ (List.mem_append_right _ (Zd4 hb e)))).1,fun b hb=>(T.obj _ _ st7 b hb).elim fun o e=>(I'.pin (b,o) (List.mem_append_right _ (List.mem_append_right _ (Zd4 hb e.1)))).2.1,rfl,hlt,x,S,E,hι,h⟩⟩
theorem Zsy:cbB P k env true M = (P.f env M).bind (cbE P k env):=if_pos rfl
theorem Zta:cbB P k env false M = ZbH P.itd P.g P.ts P.f P.nM (P.itd.items.drop (k + 1)) env M:=if_neg (by decide)
theorem Zz.iff {K:PySem.W.Frag} {H:Hp} {ι:List Addr} {Q:VK} {c:Prop} {dc:Decidable c} {r:R3 D} (h:Zz K H ι Q (if c then r else .bad)):c ∧ Zz K H ι Q r:=by
 by_cases hc:c
 ·rw [if_pos hc] at h; exact ⟨hc,h⟩
 ·rw [if_neg hc] at h; exact h.elim
theorem ZqV {xs:List D} {d:D} {v:V} {xv:Value} (T:Turn P.Y.prog P.Y.w P.Y.K tg J P.fp it P.tn) (st7:P.tn (k + 1) h7) (hlt:k < P.itd.items.length) (I':Inv P.Y ([] ++ Zeu P.fp h7) σ H s) (r:RelV v xv) (x:Ext P.Y.K P.H2 P.ι2 H ι) (S:Zag P.Y.K H ι M) (E:Za1 P.Y.K H ι env σ) (rd:Rep P.Y.K H ι d v) (hι:ι[P.nM]? = some P.acc)
  (hm:M[P.nM]? = some (.lst xs)) (hz:xs.length < SZ) (h:Zz P.Y.K H ι P.Q (ZbH P.itd P.g P.ts P.f P.nM (P.itd.items.drop (k + 1)) env (M.set P.nM (.lst (xs ++ [d]))))):
  cbF P (P.itd.items.length - k) xv s:=by
 obtain ⟨vs,ev,rvs⟩:=S.obj _ _ _ hm hι
 obtain ⟨x11,S11⟩:=S.setl (.inr (.inl ⟨_,ev⟩)) hι (rvs.append (Zy.cons rd Zy.nil))
 refine thn (Q':=fun _ s'=>CbL P (P.itd.items.length - k) s') (ZhW _ s σ H (.ref P.acc) [v] (.ref P.acc) [xv] (fun _ H'=>H' = upd H P.acc (.lst (vs ++ [v]))) I' rfl (.cons r .nil) ⟨_,vs,v,rfl,rfl,ev,by rw [rvs.length]; exact Nat.lt_of_lt_of_le hz ZbS,rfl⟩) fun _ s11 zz1=>?_
 obtain ⟨_,H11,I11,_,eH⟩:=zz1
 rw [eH] at I11
 exact ZlB T st7 hlt I11 (x.trans x11) S11 (E.mono x11) (x11.pre _ _ hι) (h.up x11)
theorem Zrk (T:Turn P.Y.prog P.Y.w P.Y.K tg J P.fp it P.tn) (helt:C3 P.Y elt P.f) (st7:P.tn (k + 1) h7) (hlt:k < P.itd.items.length) (I':Inv P.Y ([] ++ Zeu P.fp h7) σ H s) (x:Ext P.Y.K P.H2 P.ι2 H ι) (S:Zag P.Y.K H ι M) (E:Za1 P.Y.K H ι env σ) (hι:ι[P.nM]? = some P.acc)
  (h:Zz P.Y.K H ι P.Q ((P.f env M).bind (cbE P k env))):
  wpAny (model P.Y.prog P.Y.w) P.Y.A (eval elt P.Y.env) (cbF P (P.itd.items.length - k)) P.Y.xe s:=by
 obtain ⟨d,M10,e10,h10⟩:=Zz.bind h
 refine thn (Q':=cbF P (P.itd.items.length - k)) (helt _ s σ H (fun v H'=>∃ ι10,Ext P.Y.K H ι H' ι10 ∧ Zag P.Y.K H' ι10 M10 ∧ Rep P.Y.K H' ι10 d v) I' ⟨ι,M,env,S,E,by rw [e10]; exact fun v H' ι' x' S' r'=>⟨ι',x',S',r'⟩⟩) fun xv s10 zz1=>?_
 obtain ⟨v,H10,I10,r10,ι10,x10,S10,rd⟩:=zz1
 unfold cbE at h10
 cases hm:M10[P.nM]? with
 | none=>rw [hm] at h10; exact h10.elim
 | some o=>
  rw [hm] at h10
  cases o with
  | dct _=>exact h10.elim
  | fdct _=>exact h10.elim
  | ins _ _=>exact h10.elim
  | lst xs=>
   exact ZqV T st7 hlt I10 r10 (x.trans x10) S10 (E.mono x10) rd (x10.pre _ _ hι) hm (Zz.iff h10).1 ((Zz.iff h10).2.up x10)
theorem ZqI (T:Turn P.Y.prog P.Y.w P.Y.K tg J P.fp it P.tn) (hts:CTs P.Y ifs P.ts) (helt:C3 P.Y elt P.f) (st7:P.tn (k + 1) h7) (hlt:k < P.itd.items.length) (I':Inv P.Y ([] ++ Zeu P.fp h7) σ H s) (x:Ext P.Y.K P.H2 P.ι2 H ι) (S:Zag P.Y.K H ι M) (E:Za1 P.Y.K H ι env σ) (hι:ι[P.nM]? = some P.acc)
  (h:Zz P.Y.K H ι P.Q ((Zc5 P.ts env M).bind (cbB P k env))):
  cbS P elt ifs (P.itd.items.length - k) s:=by
 obtain ⟨b,M9,e9,h9⟩:=Zz.bind h
 refine thn (Q':=cbO P elt (P.itd.items.length - k)) (hts _ s σ H (fun b' H'=>b' = b ∧ ∃ ι9,Ext P.Y.K H ι H' ι9 ∧ Zag P.Y.K H' ι9 M9) I' ⟨ι,M,env,S,E,by rw [e9]; exact fun H' ι' x' S'=>⟨rfl,ι',x',S'⟩⟩) fun b' s9 zz1=>?_
 obtain ⟨H9,I9,eb,ι9,x9,S9⟩:=zz1
 rw [← eb] at h9
 cases b' with
 | false=>exact ZlB T st7 hlt I9 (x.trans x9) S9 (E.mono x9) (x9.pre _ _ hι) (Zz.up x9 (Zta ▸ h9))
 | true=>exact Zrk T helt st7 hlt I9 (x.trans x9) S9 (E.mono x9) (x9.pre _ _ hι) (Zz.up x9 (Zsy ▸ h9))
theorem ZsP (T:Turn P.Y.prog P.Y.w P.Y.K tg J P.fp it P.tn) (hc:P.Y.calm = true) (hfp:∀ {H':Hp},(∀ b ∈ P.fp,H' b = none) → ∀ b ∈ P.fp,ZeA P.Y [] H' b) (hg:CG P.Y tg P.g) (hts:CTs P.Y ifs P.ts) (helt:C3 P.Y elt P.f) (hlt:k < P.itd.items.length)
  (I5:Inv P.Y [] σ H s) (st5:P.tn k s.heap) (fr5:∀ b ∈ P.fp,H b = none) (x:Ext P.Y.K P.H2 P.ι2 H ι) (S:Zag P.Y.K H ι M) (E:Za1 P.Y.K H ι env σ) (hι:ι[P.nM]? = some P.acc) (ok:Zg0 P.Y.K P.H2 P.ι2 P.itd J)
  (h:Zz P.Y.K H ι P.Q (ZbH P.itd P.g P.ts P.f P.nM (P.itd.items[k] :: P.itd.items.drop (k + 1)) env M)) (F:Shared → Prop):
  wpAny (model P.Y.prog P.Y.w) P.Y.A (pyNext (.ref it)) (cbN P tg elt ifs it (P.itd.items.length - k) F) P.Y.xe s:=by
 obtain ⟨lk,h⟩:=Zz.iff h
 obtain ⟨go,yl⟩:=(ok k H ι M x S lk).1 _ (List.getElem?_eq_getElem hlt)
 cases eg:P.g P.itd.items[k] env with
 | none=>rw [eg] at h; exact h.elim
 | some env6=>
  rw [eg] at h
  refine thn (T.item P.Y rfl rfl rfl hc k [] s σ H P.Y.xe I5 (hfp fr5) st5 go) fun r s6 zz1=>?_
  obtain ⟨u,hr,h6⟩:=zz1
  rw [hr]
  refine thn (Q':=fun _=>cbA P tg elt ifs (P.itd.items.length - k) u) h6 fun _ s7 zz1=>?_
  obtain ⟨y,H7,I7,r7,y7,st7,fr7⟩:=zz1
  obtain ⟨e7,rx⟩:=yl y H7 y7
  rw [e7] at I7 fr7
  refine thn (Q':=fun _=>cbS P elt ifs (P.itd.items.length - k)) (hg _ s7 σ H y u (fun σ' H'=>H' = H ∧ Za1 P.Y.K H ι env6 σ') (I7.pinned (hfp fr7) (T.obj _ _ st7)) r7 ⟨ι,M,env,_,env6,S,E,rx,eg,fun σ' E'=>⟨rfl,E'⟩⟩) fun _ s8 zz1=>?_
  obtain ⟨σ8,H8,I8,e8,E8⟩:=zz1
  rw [e8] at I8
  exact ZqI T hts helt st7 hlt I8 x S E8 hι h
theorem Zpw {n:Nat} (T:Turn P.Y.prog P.Y.w P.Y.K tg J P.fp it P.tn) (hc:P.Y.calm = true) (hfp:∀ {H':Hp},(∀ b ∈ P.fp,H' b = none) → ∀ b ∈ P.fp,ZeA P.Y [] H' b)
  (I5:Inv P.Y [] σ H s) (st5:P.tn P.itd.items.length s.heap) (fr5:∀ b ∈ P.fp,H b = none) (x:Ext P.Y.K P.H2 P.ι2 H ι) (S:Zag P.Y.K H ι M) (hι:ι[P.nM]? = some P.acc) (ok:Zg0 P.Y.K P.H2 P.ι2 P.itd J)
  (h:Zz P.Y.K H ι P.Q (ZbH P.itd P.g P.ts P.f P.nM [] env M)) {F:Shared → Prop} (hF:∀ s6,Inv P.Y [] σ H s6 → P.Q (.ref P.acc) H → F s6):
  wpAny (model P.Y.prog P.Y.w) P.Y.A (pyNext (.ref it)) (cbN P tg elt ifs it n F) P.Y.xe s:=by
 obtain ⟨lk,h⟩:=Zz.iff h
 refine thn (T.done P.Y rfl rfl rfl hc _ [] s σ H P.Y.xe I5 (hfp fr5) st5 ((ok _ H ι M x S lk).2 rfl)) fun r s6 zz1=>?_
 rw [zz1.1]
 exact hF s6 zz1.2 (h _ H ι Ext.refl S (Rep.ref hι))
end
section
variable {X:Cx} {elt tg iter:Expr} {ifs:List Expr} {scope:Scope} {pos:Pos} {i:I3} {own:Nat} {g:G3} {ts:List E3} {f:E3} {N':List Str}
structure Zgz (X:Cx) (scope:Scope) (N':List Str) (own:Nat):Prop where
 kind:scope.kind = .function
 cell:∀ y ∈ scope.names,y.2 ≠ .cell
 free:∀ y ∈ scope.names,y.2 = .free → X.env.kindOf y.1 = some .cell ∨ X.env.kindOf y.1 = some .free
 names:∀ y ∈ scope.names,y.2 = .local → scope.names.lookup y.1 = some .local
 len:N'.length = X.N.length + own
 vis:ZnV X.N N' scope = true
theorem Zpd {P:Cb} {J:It} {it:Addr} {s:Shared} {F:Shared → Prop} (T:Turn P.Y.prog P.Y.w P.Y.K tg J P.fp it P.tn) (hc:P.Y.calm = true) (hfp:∀ {H':Hp},(∀ b ∈ P.fp,H' b = none) → ∀ b ∈ P.fp,ZeA P.Y [] H' b)
  (hb:CG P.Y tg P.g ∧ CTs P.Y ifs P.ts ∧ C3 P.Y elt P.f) (ok:Zg0 P.Y.K P.H2 P.ι2 P.itd J) {n:Nat} (z:CbJ P n s)
  (fin:∀ σ H s',Inv P.Y [] σ H s' → P.Q (.ref P.acc) H → F s'):wpAny (model P.Y.prog P.Y.w) P.Y.A (pyNext (.ref it)) (cbN P tg elt ifs it n F) P.Y.xe s:=by
 obtain ⟨k,σ5,H5,ι5,M5,env5,I5,st5,fr5,hn,hk,x5,S5,E5,hι,h5⟩:=z
 by_cases hlt:k < P.itd.items.length
 ·rw [List.drop_eq_getElem_cons hlt] at h5
  exact hn ▸ ZsP T hc hfp hb.1 hb.2.1 hb.2.2 hlt I5 st5 fr5 x5 S5 E5 hι ok h5 _
 ·rw [Nat.le_antisymm hk (Nat.le_of_not_lt hlt)] at st5 h5
  rw [List.drop_length] at h5
  exact Zpw T hc hfp I5 st5 fr5 x5 S5 hι ok h5 fun s6 I6 q=>fin σ5 H5 s6 I6 q
theorem ZjQ {pins:List (Addr × Obj)} {σ:St} {s3:Shared} {H2 H3:Hp} {ι2 ι3:List Addr} {M3:Store} {nM:Nat} {D:Addr} {env:Zaf} {it:Addr} {fp:List Addr} {tn:Nat → Heap → Prop} {J:It} {itd:It3} {Q:VK} {E:Value → Shared → Prop} (O:Zgz X scope N' own) (hc:X.calm = true)
  (hb:∀ C cl s H ex,CG (Zcj X scope N' C cl s H ex) tg g ∧ CTs (Zcj X scope N' C cl s H ex) ifs ts ∧ C3 (Zcj X scope N' C cl s H ex) elt f)
  (T:Turn X.prog X.w X.K tg J fp it tn) (st3:tn 0 s3.heap) (hlt3:∀ b ∈ fp,b < s3.heap.objs.size) (I3:Inv X pins σ H3 s3) (hfp3:∀ b ∈ fp,ZeA X pins H3 b) (x3:Ext X.K H2 ι2 H3 ι3) (S3:Zag X.K H3 ι3 M3) (E2:Za1 X.K H3 ι3 env σ) (ok:Zg0 X.K H2 ι2 itd J)
  (h:Zz X.K H3 ι3 Q (ZbH itd g ts f nM itd.items (env ++ List.replicate own none) M3)) (hι:ι3[nM]? = some D)
  (RR:Value → Addr → Result → Shared → Prop)
  (fin:∀ (acc C:Addr) (s':Shared) (m:Str → Option Value) (H':Hp),s'.heap.Ns C m → ZeA X pins H' C → Inv X pins σ H' s' → Q (.ref acc) H' → RR (.ref acc) C (.ok .next) s'):
  wpAny (model X.prog X.w) X.A (newFunctionEnv scope X.env.globals (Zcr X.env.cells scope.names []) [] X.env.qual none .none (some X.env)) (fun cenv s₄=>
   codeAny (model X.prog X.w) X.A (.compStart (.ListComp elt [⟨tg,iter,ifs,0⟩] scope pos) 0 (.ref it) (.ref D) { cenv with scope:=relabel scope X.env }) (RR (.ref D) cenv.locals) s₄) E s3:=by
 refine wpAny_newFunctionEnv O.cell (by intro y hy; cases hy) (fun h4 hns hsb=>?_) O.kind
 have keep34:∀ b o,s3.heap.get? b = some o → h4.get? b = some o:=fun b o e=>hsb.extBut b o (Nat.ne_of_lt (Heap.lt_size e)) (Heap.get?_push_of_some _ e)
 have I4:=Zmx (own:=own) (N':=N') (tk:=s3.toks + ([]:List (Str × Value)).length) I3 O.kind O.cell O.free O.len O.vis hfp3 hlt3 hns keep34
 have st4:tn 0 h4:=T.keep _ _ _ st3 fun b hb o e=>keep34 b o e
 have L:=Zi3 (prog:=X.prog) (w:=X.w) (A:=X.A) (R:=RR (.ref D) s3.heap.objs.size) (scope:=scope) (pos:=pos) (iter:=iter) (elt:=elt) (target:=tg) (ifs:=ifs) (env:=compEnvC scope (Zcr X.env.cells scope.names []) s3.heap.objs.size X.env) (CbJ ⟨Zcj X scope N' s3.heap.objs.size (Zcr X.env.cells scope.names []) s3 H3 fp,fp,tn,itd,H2,ι2,Q,g,ts,f,nM,D⟩) (fun n s5 z=>Zpd (P:=⟨Zcj X scope N' s3.heap.objs.size (Zcr X.env.cells scope.names []) s3 H3 fp,fp,tn,itd,H2,ι2,Q,g,ts,f,nM,D⟩) T hc
  (fun hn b hb=>⟨hn b hb,Nat.ne_of_lt (hlt3 b hb),fun hz=>I4.ok.exfs b hb hz,.inl hb,fun x c hx=>(I4.ok.exf b hb).2 x c hx,fun p hp=>absurd (show p ∈ ([]:List (Addr × Obj)) from hp) (by simp)⟩)
  (hb _ _ _ _ _) ok z
  fun σ' H' s6 I6 q=>I6.loc.elim fun m6 hn6=>fin _ _ s6 m6 H' hn6.1 (I3.fpOk (Nat.le_refl _) I6.free) (I3.call' (ch:=fp) I6.os I6.base I6.hok I6.bare fun b hb=>⟨(hfp3 b hb).2.2.2.1,(hfp3 b hb).2.1,(hfp3 b hb).2.2.2.2.1,(hfp3 b hb).2.2.2.2.2⟩) q) _
  ⟨0,_,_,_,_,_,I4,st4,fun b hb=>(hfp3 b hb).1,rfl,Nat.zero_le _,x3,S3,E2.grow own,hι,h⟩
 exact codeAny_compStart_list L (T.self _ 0 _ _ _ st4 L)
theorem ZgQ {pins:List (Addr × Obj)} {σ:St} {s2:Shared} {H2:Hp} {ι2:List Addr} {M2:Store} {env:Zaf} {it:Addr} {fp:List Addr} {tn:Nat → Heap → Prop} {J:It} {itd:It3} {Q:VK} {E:Value → Shared → Prop} (O:Zgz X scope N' own) (hc:X.calm = true)
  (hb:∀ C cl s H ex,CG (Zcj X scope N' C cl s H ex) tg g ∧ CTs (Zcj X scope N' C cl s H ex) ifs ts ∧ C3 (Zcj X scope N' C cl s H ex) elt f)
  (I2:Inv X pins σ H2 s2) (T:Turn X.prog X.w X.K tg J fp it tn) (st0:tn 0 s2.heap) (hfp:∀ b ∈ fp,ZeA X pins H2 b) (S2:Zag X.K H2 ι2 M2) (E2:Za1 X.K H2 ι2 env σ) (ok:Zg0 X.K H2 ι2 itd J)
  (h:Zz X.K H2 ι2 Q (ZbH itd g ts f M2.length itd.items (env ++ List.replicate own none) (M2 ++ [.lst []])))
  (RR:Value → Addr → Result → Shared → Prop)
  (fin:∀ (acc C:Addr) (s':Shared) (m:Str → Option Value) (H':Hp),s'.heap.Ns C m → ZeA X pins H' C → Inv X pins σ H' s' → Q (.ref acc) H' → RR (.ref acc) C (.ok .next) s'):
  wpAny (model X.prog X.w) X.A (newList []) (fun acc s₃=>wpAny (model X.prog X.w) X.A (newFunctionEnv scope X.env.globals (Zcr X.env.cells scope.names []) [] X.env.qual none .none (some X.env)) (fun cenv s₄=>
   codeAny (model X.prog X.w) X.A (.compStart (.ListComp elt [⟨tg,iter,ifs,0⟩] scope pos) 0 (.ref it) acc { cenv with scope:=relabel scope X.env }) (RR acc cenv.locals) s₄) E s₃) E s2:=by
 refine wpAny_newObj_type ?_
 have hD:H2 s2.heap.objs.size = none:=I2.hok.fresh (Nat.le_refl _)
 obtain ⟨x3,S3,r3⟩:=S2.lst hD (Zy.nil (K:=X.K) (H:=H2) (ι:=ι2))
 have I3:Inv X pins σ (upd H2 s2.heap.objs.size (.lst [])) { s2 with heap:=s2.heap.push { cls:=.type "list",data:=.seq ([]:List Value).toArray } }:=
  I2.laid (t':=s2.toks) (fun b u e=>Heap.get?_push_of_some _ e) (Nat.le_refl _) ⟨Nat.zero_le _,[],0,.nil,Heap.get?_push_size _ rfl⟩
 have keep23:∀ b o,s2.heap.get? b = some o → (s2.heap.push { cls:=.type "list",data:=.seq ([]:List Value).toArray }).get? b = some o:=fun b o e=>Heap.get?_push_of_some _ e
 generalize hs3:({ s2 with heap:=s2.heap.push { cls:=.type "list",data:=.seq ([]:List Value).toArray } }:Shared) = s3 at I3 ⊢
 have keep23:∀ b o,s2.heap.get? b = some o → s3.heap.get? b = some o:=by rw [← hs3]; exact keep23
 have lt2:∀ b ∈ fp,b < s2.heap.objs.size:=fun b hb=>(T.obj _ _ st0 b hb).elim fun o e=>Heap.lt_size e.1
 have hlt3:∀ b ∈ fp,b < s3.heap.objs.size:=fun b hb=>(T.obj _ _ st0 b hb).elim fun o e=>Heap.lt_size (keep23 b o e.1)
 exact ZjQ O hc hb (T:=T) (st3:=T.keep _ _ _ st0 fun b hb o e=>keep23 b o e) (hlt3:=hlt3) (I3:=I3) (hfp3:=fun b hb=>⟨(ZaE (Nat.ne_of_lt (lt2 b hb))).trans (hfp b hb).1,(hfp b hb).2⟩) (x3:=x3) (S3:=S3) (E2:=E2.mono x3) (ok:=ok) (h:=h.up x3) (hι:=by rw [← S2.len]; simp) RR fin
theorem ZtQ (O:Zgz X scope N' own) (hxe:X.xe = fun _ _=>False) (hc:X.calm = true) (hi:CI X tg iter i)
  (hb:∀ C cl s H ex,CG (Zcj X scope N' C cl s H ex) tg g ∧ CTs (Zcj X scope N' C cl s H ex) ifs ts ∧ C3 (Zcj X scope N' C cl s H ex) elt f)
  (hs:∀ x,foldedSetIterable iter X.env x = pure x:=by intro _; rfl):C3 X (.ListComp elt [⟨tg,iter,ifs,0⟩] scope pos) (eLC i own g ts f):=by
 intro pins s σ H Q I h
 obtain ⟨ι,M,env,S,E,h⟩:=h
 obtain ⟨itd,M1,e1,h⟩:=Zz.bind h
 have hc0:∀ y ∈ scope.names,y.2 = .free → ∃ c,X.env.cells.lookup y.1 = some c:=fun y hy e=>I.ok.has y.1 (O.free y hy e)
 rw [eval_ListComp]
 refine wpAny_comprehension_free (use:=none) rfl hs (ZeO hc0) O.kind O.names ?_
 refine thn (hi pins s σ H (fun J H'=>∃ ι',Ext X.K H ι H' ι' ∧ Zag X.K H' ι' M1 ∧ Zg0 X.K H' ι' itd J) I ⟨ι,M,env,S,E,by rw [e1]; exact fun J H' ι' x S' o=>⟨ι',x,S',o⟩⟩) fun v s1 h1=>thn h1 fun itv s2 h2=>?_
 obtain ⟨it,fp,tn,J,H2,rfl,I2,T,st2,f2,ι2,x2,S2,ok⟩:=h2
 refine ZgQ (own:=own) (g:=g) (ts:=ts) (f:=f) O hc hb I2 T st2 f2 S2 (E.mono x2) ok (h.up x2) (fun acc C=>compPost (model X.prog X.w) X.A X.xe none (EP X pins σ Q) acc C) ?_
 intro acc C s' m H' hn hf I' hq
 obtain ⟨f0,f1,f2',f3,f4,f5⟩:=hf
 exact ⟨m,hn,fun h' sb=>⟨.ref acc,H',I'.turned (t':=s'.toks) (fun b o hb e=>(sb.2 b hb).trans e) f0 f1 f3 f4 f5,rfl,hq⟩⟩
theorem Zgy (j:Nat) {x:Str} {pos' spos:Pos} (O:Zgz X scope N' own) (hxe:X.xe = fun _ _=>False) (hc:X.calm = true) (hN:X.N.Nodup) (hi:CI X tg iter i)
  (hb:∀ C cl s H ex,CG (Zcj X scope N' C cl s H ex) tg g ∧ CTs (Zcj X scope N' C cl s H ex) ifs ts ∧ C3 (Zcj X scope N' C cl s H ex) elt f)
  (hj:X.N[j]? = some x:=by rfl) (hx:Loc X.env.scope x:=by first | exact Or.inl rfl | exact Or.inr rfl)
  (hf:X.fn x = true ∨ X.env.scope.names.lookup x = some .local:=by first | exact .inl rfl | exact .inr rfl)
  (hsw:swapsWith (.ListComp elt [⟨tg,iter,ifs,0⟩] scope pos) (some (.Name x pos')) spos.line X.env = pure true:=by rfl)
  (hs:∀ x,foldedSetIterable iter X.env x = pure x:=by intro _; rfl):CS X (.Assign [.Name x pos'] (.ListComp elt [⟨tg,iter,ifs,0⟩] scope pos) spos) (Zaj j (eLC i own g ts f)):=by
 intro pins s σ H D I h
 obtain ⟨ι,M,env,S,E,h⟩:=h
 have h0:Zz X.K H ι (fun v H'=>D.nx (σ.set j (some v)) H') (eLC i own g ts f env M):=by
  unfold Zaj at h
  cases q:eLC i own g ts f env M with
  | ok d M1=>rw [q] at h; exact fun v H1 ι1 x1 S1 r1=>h _ H1 ι1 x1 S1 ((E.mono x1).set j r1)
  | exc _ _=>rw [q] at h; exact h.elim
  | bad=>rw [q] at h; exact h.elim
 obtain ⟨itd,M1,e1,h1⟩:=Zz.bind h0
 have hc0:∀ y ∈ scope.names,y.2 = .free → ∃ c,X.env.cells.lookup y.1 = some c:=fun y hy e=>I.ok.has y.1 (O.free y hy e)
 rw [exec_Assign_Name_used _ _ _ _ hsw]
 refine wpAny_bind (wpAny_standAt (wpAny_bind ?_))
 show wpAny _ X.A (do let _ ← comprehension (.ListComp elt [⟨tg,iter,ifs,0⟩] scope pos) scope X.env _ (newList []) false (eval iter X.env) (some (assign (.Name x pos') X.env))) _ _ s
 refine wpAny_bind (wpAny_mono (wpAny_comprehension_free (use:=some (assign (.Name x pos') X.env)) (Q:=fun _ s'=>SP X pins D .next s') rfl hs (ZeO hc0) O.kind O.names ?_) (fun _ s' hq=>wpAny_pure (wpAny_pure hq)) fun _ _ e=>e)
 refine thn (hi pins s σ H (fun J H'=>∃ ι',Ext X.K H ι H' ι' ∧ Zag X.K H' ι' M1 ∧ Zg0 X.K H' ι' itd J) I ⟨ι,M,env,S,E,by rw [e1]; exact fun J H' ι' x S' o=>⟨ι',x,S',o⟩⟩) fun v s1 h1'=>thn h1' fun itv s2 h2=>?_
 obtain ⟨it,fp,tn,J,H2,rfl,I2,T,st2,f2,ι2,x2,S2,ok⟩:=h2
 refine ZgQ (own:=own) (g:=g) (ts:=ts) (f:=f) O hc hb I2 T st2 f2 S2 (E.mono x2) ok (h1.up x2) (fun acc C=>compPost (model X.prog X.w) X.A X.xe (some (assign (.Name x pos') X.env)) (fun _ s'=>SP X pins D .next s') acc C) ?_
 intro acc C s' m H' hn hfC I' hq
 obtain ⟨f0,f1,f2',f3,f4,f5⟩:=hfC
 show wpAny _ X.A (assign (.Name x pos') X.env (.ref acc)) _ _ s'
 refine wpAny_assign_Name (Zh1 I' hN hj hx (show RelV (.ref acc) (.ref acc) from rfl) (fun s'' I'' ⟨a,sb,ha⟩=>?_) hf)
 have hCa:C ≠ a:=by
  rcases ha with rfl | ha
  ·exact f1
  ·exact Ne.symm (f4 x a ha)
 exact ⟨m,hn.sameBut sb hCa,fun h' sb'=>⟨_,H',I''.turned (t':=s''.toks) (fun b o hb e=>(sb'.2 b hb).trans e) f0 f1 f3 f4 f5,hq⟩⟩
end
end L3
namespace L3
open PySem PySem.Spec PyProof.Rows L2
theorem ZcW {k:Nat} {A:Around} (r:Zbr k A):A.units + 80 < cLine:=by have:=r.un; exact lC 1 0x2502b0c12c82b110d0cc11 T1 this
noncomputable def Its (x:Str):It:=⟨fun i _=>i < x.cps.size,fun i H y H'=>H' = H ∧ ∃ c,x.cps[i]? = some c ∧ y = .str ⟨#[c]⟩,fun i _=>i = x.cps.size⟩
theorem Zmz {P:Program} {w:World} {K:PySem.W.Frag} {tg:Expr} {it:Addr} {x:Str} {t:Tok} {ty:String} (W:∀ A':Around,A'.handled = none → Walks P w A' it [it] [it] x.cps.size (SignAt x) (fun i h=>h.IsStrIter it ty x t i))
  (hs:∀ (A:Around) (i:Nat) (s:Shared) (Q:Value → Shared → Prop) (E:Value → Shared → Prop),s.heap.IsStrIter it ty x t i → Q (.ref it) s → wpAny (model P w) A (pyIter (.ref it)) Q E s)
  (hty:["enumerate","zip","dict_itemiterator","dict_reverseitemiterator","odict_iterator","itertools.zip_longest","itertools.pairwise"].contains ty = false):Turn P w K tg (Its x) [it] it (fun i h=>h.IsStrIter it ty x t i) where
 mem:=by simp
 obj:=fun i h st b hb=>by
  have e:b = it:=by simpa using hb
  subst e
  obtain ⟨o,e,c,d⟩:=st
  exact ⟨o,e,fun v z=>by rw [d] at z; cases z⟩
 keep:=fun i h h' st k=>let ⟨o,e,r⟩:=st; ⟨o,k it (by simp) o e,r⟩
 item:=by
  intro X hP hw hK hc i pins s σ H E I hf st hg
  subst hP hw hK
  obtain ⟨f0,f1,f2,f3,f4,f5⟩:=hf it (by simp)
  refine (W X.A (I.ok.hd hc)).item i s _ _ hg st fun v h' tk hv st' kk=>?_
  obtain ⟨c,u,hx,rfl⟩:=hv
  have I1:Inv X pins σ H { s with heap:=h',toks:=tk }:=I.turned (fun b o hb e=>kk b o (by simpa using hb) e) f0 f1 f3 f4 f5
  obtain ⟨o,e,cc,d⟩:=id st'
  exact ⟨_,rfl,ZkT (s:={ s with heap:=h',toks:=tk }) e cc d hty ⟨.str ⟨#[c]⟩,H,I1,⟨u,rfl⟩,⟨rfl,c,hx,rfl⟩,st',fun b hb=>(hf b hb).1⟩⟩
 done:=by
  intro X hP hw hK hc i pins s σ H E I hf st hg
  subst hP hw hK
  obtain ⟨f0,f1,f2,f3,f4,f5⟩:=hf it (by simp)
  have e:i = x.cps.size:=hg
  subst e
  exact (W X.A (I.ok.hd hc)).done s _ _ st fun h' tk kk=>⟨rfl,I.turned (fun b o hb e=>kk b o (by simpa using hb) e) f0 f1 f3 f4 f5⟩
 self:=hs
section
variable {X:Cx} {tg e o:Expr} {es:List Expr} {pos p apos cpos:Pos} {f:E3} {gl:EL3}
theorem Zru (h:C3 X e f):PI X tg e (fun σ H R=>tOf X.K f σ H fun x H1=>∃ z:Str,x = .str z ∧ z.length ≤ SZ ∧ ∀ J,(∀ ι,Zg0 X.K H1 ι ⟨z.cps.toList.map fun c=>.str [c],none⟩ J) → R J H1):=by
 intro pins s σ H R I hw
 refine thn (h pins s σ H _ I hw) fun v s1 zz1=>?_
 obtain ⟨x,H1,I1,r1,z,ex,hz,q⟩:=zz1
 subst ex
 obtain ⟨t,rfl⟩:=r1
 have key:∀ (ty:String) (o:Obj),(∀ A':Around,A'.handled = none → Walks X.prog X.w A' s1.heap.objs.size [s1.heap.objs.size] [s1.heap.objs.size] z.cps.size (SignAt z) (fun i h=>h.IsStrIter s1.heap.objs.size ty z t i)) →
   (∀ (A:Around) (i:Nat) (s:Shared) (Q:Value → Shared → Prop) (E:Value → Shared → Prop),s.heap.IsStrIter s1.heap.objs.size ty z t i → Q (.ref s1.heap.objs.size) s → wpAny (model X.prog X.w) A (pyIter (.ref s1.heap.objs.size)) Q E s) →
   ["enumerate","zip","dict_itemiterator","dict_reverseitemiterator","odict_iterator","itertools.zip_longest","itertools.pairwise"].contains ty = false → (s1.heap.push o).IsStrIter s1.heap.objs.size ty z t 0 →
   PIE X pins σ tg R (.ref s1.heap.objs.size) { s1 with heap:=s1.heap.push o }:=by
  intro ty o W hs hty st
  refine ⟨s1.heap.objs.size,[s1.heap.objs.size],_,_,H1,rfl,I1.kept (t':=s1.toks) fun b o e=>Heap.get?_push_of_some _ e,Zmz W hs hty,st,fun b hb=>?_,q _ fun ι=>?_⟩
  ·have e:b = s1.heap.objs.size:=by simpa using hb
   subst e
   exact I1.fpOk (Nat.le_refl _) (I1.hok.fresh (Nat.le_refl _))
  ·intro i H2 ι2 M2 x S _
   refine ⟨fun d hd=>?_,fun hl=>?_⟩
   ·rw [List.getElem?_map] at hd
    cases hq:z.cps.toList[i]? with
    | none=>rw [hq] at hd; cases hd
    | some c=>
     rw [hq] at hd
     have hd':D.str [c] = d:=by simpa using hd
     subst hd'
     have hi:i < z.cps.size:=by
      have:=(List.getElem?_eq_some_iff.mp hq).1
      simpa using this
     refine ⟨hi,fun y H3 hy=>⟨hy.1,?_⟩⟩
     obtain ⟨_,c',hc',rfl⟩:=hy
     have:c' = c:=by
      rw [← Array.getElem?_toList,hq] at hc'
      exact (Option.some.inj hc').symm
     subst this
     exact Rep.str
   ·show i = z.cps.size
    rw [hl]
    simp
 cases ha:z.cps.all (· < 128)
 ·exact wpAny_pyIter_wide ha (key "str_iterator" _ (fun A' hA=>Walks.strWide hA _ z t) (fun _ _ _ _ _ st h=>wpAny_pyIter_striter_wide st h) (by decide) ⟨_,Heap.get?_push_size _ rfl,rfl,rfl⟩)
 ·exact wpAny_pyIter_ascii ha (key "str_ascii_iterator" _ (fun A' hA=>Walks.strAscii hA _ z t) (fun _ _ _ _ _ st h=>wpAny_pyIter_striter_ascii st h) (by decide) ⟨_,Heap.get?_push_size _ rfl,rfl,rfl⟩)
theorem Zq8 (h:C3 X e f):CI X tg e (Zhl f):=Zrz h (Zru h)
theorem Zqp {K:PySem.W.Frag} {T:String} {ty:D → Store → Bool} {m:D → List D → Store → R3 D} (hty:∀ H ι M a x,Zag K H ι M → Rep K H ι a x → ty a M = true → tyV K T x H) (σ:St) (H:Hp) (Q:VK) (h:tOf K (ZcR ty m f gl) σ H Q):tBM K T (rM K m) (tOf K f) (tAf K gl) σ H Q:=by
 obtain ⟨ι,M,env,S,E,h⟩:=h
 obtain ⟨a,M1,e1,h⟩:=Zz.bind h
 refine ⟨ι,M,env,S,E,?_⟩
 rw [e1]
 intro v H1 ι1 x1 S1 r1
 by_cases ht:ty a M1 = true
 ·rw [if_pos ht] at h
  obtain ⟨ds,M2,e2,h⟩:=Zz.bind h
  refine ⟨hty _ _ _ _ _ S1 r1 ht,ι1,M1,env,S1,E.mono x1,?_⟩
  rw [e2]
  intro vs H2 ι2 x2 S2 r2
  exact ⟨ι2,M2,a,ds,S2,r1.mono x2,r2,(h.up x1).up x2⟩
 ·rw [if_neg ht] at h; exact h.elim
theorem Zp6 {K:PySem.W.Frag} (H:Hp) (ι:List Addr) (M:Store) (a:D) (x:V) (S:Zag K H ι M) (r:Rep K H ι a x) (h:tyL a M = true):tyV K "list" x H:=by
 cases a with
 | ref n=>
  rw [Zmt] at h
  cases hn:M[n]? with
  | none=>rw [hn] at h; exact ft h
  | some o=>
   cases o with
   | dct _=>rw [hn] at h; exact ft h
   | fdct _=>rw [hn] at h; exact ft h
   | ins _ _=>rw [hn] at h; exact ft h
   | lst xs=>
    obtain ⟨p,hp,rfl⟩:=r.ref_inv
    obtain ⟨vs,e,_⟩:=S.obj n _ p hn hp
    exact .inl ⟨rfl,vs,SqL.of e⟩
 | _=>exact ft h
theorem _root_.L2.MtR.imp {id:String} {r r':V → List V → Hp → VK → Prop} (h:MtR X id r) (i:∀ x xs H Q,r' x xs H Q → r x xs H Q):MtR X id r':=fun pins s σ H x xs v us Q I rx rs q=>h pins s σ H x xs v us Q I rx rs (i x xs H Q q)
theorem ZnA:MtR X "list.append" (rM X.K ZaV):=MtR.imp (r:=Zlm) ZhW fun x xs H Q zz1=>by
 obtain ⟨ι,M,a,ds,S,ra,rd,h⟩:=zz1
 cases a with
 | ref n=>
  cases ds with
  | nil=>exact h.elim
  | cons d ds=>
   cases ds with
   | cons _ _=>exact h.elim
   | nil=>
    simp only [Zg8] at h
    cases hn:M[n]? with
    | none=>simp only [hn] at h; exact h.elim
    | some o=>
     cases o with
     | dct _=>simp only [hn] at h; exact h.elim
     | fdct _=>simp only [hn] at h; exact h.elim
     | ins _ _=>simp only [hn] at h; exact h.elim
     | lst z=>
      simp only [hn] at h
      split at h
      ·rename_i hz
       obtain ⟨p,hp,rfl⟩:=ra.ref_inv
       obtain ⟨v,ws,rfl,r1,r2⟩:=rd.cons_inv
       have:=r2.nil_inv
       subst this
       obtain ⟨vs,e,rv⟩:=S.obj n _ p hn hp
       obtain ⟨x2,S2⟩:=S.setl (.inr (.inl ⟨_,e⟩)) hp (rv.append (Zy.cons r1 Zy.nil))
       exact ⟨p,vs,v,rfl,rfl,e,by rw [rv.length]; exact Nat.lt_of_lt_of_le hz ZbS,h _ _ _ x2 S2 Rep.non⟩
      ·exact h.elim
 | _=>exact h.elim
theorem Zbj (ho:C3 X o f) (ha:CA X (e :: es) gl)
  (hbase:attributeBase o "append" X.env (eval o X.env) = eval o X.env:=by rfl)
  (hfew:((backTo cpos (starEach (e :: es) X.env)).all (fun x=>!x.1) && (backToKw cpos (keywordEach [] X.env)).all (fun x=>x.1.isSome)
   && decide ((e :: es).length + ([]:List Keyword).length + (if ([]:List Keyword).isEmpty then 0 else 1) < 30)) = true:=by rfl)
  (hline:(apos.endLine == cpos.line) = true:=by rfl) (hs:starEach (e :: es) X.env = (false,eval e X.env) :: starEach es X.env:=by rfl) (hplain:(backTo cpos (starEach es X.env)).any (·.1) = false:=by rfl):
  C3 X (.Call (.Attribute o "append" apos) (e :: es) [] cpos) (ZcR tyL ZaV f gl):=
 (Zs6 PySem.F.plainAttrs_list PySem.F.slot_list_append PySem.F.type_list_append ZnA ho ha hbase hfew hline hs hplain).imp (Zqp Zp6)
theorem ZsD:OpR X (compareOp .In) (r2 X.K fun a b M=>match a,b with | .str [c],.str y=>.ok (.bl (decide (c ∈ y))) M | _,_=>.bad):=OpR.imp ZlP fun x y H Q zz1=>by
 obtain ⟨ι,M,a,b,S,ra,rb,h⟩:=zz1
 cases a with
 | str z=>
  cases z with
  | nil=>cases b <;> exact h.elim
  | cons c z=>
   cases z with
   | cons _ _=>cases b <;> exact h.elim
   | nil=>
    cases b with
    | str y=>
     refine ⟨_,_,ra.str_inv,rb.str_inv,?_⟩
     have e:=StrLaws.found_one (⟨y.toArray⟩:Str) c
     rw [show (⟨[c].toArray⟩:Str) = ⟨#[c]⟩ from rfl,e]
     exact Zz.ok h S Rep.bl
    | _=>exact h.elim
 | _=>cases b <;> exact h.elim
end
end L3
namespace L3
open PySem PySem.Spec PyProof.Rows L2
section
variable {X:Cx}
theorem Zgh (hu:X.A.units + 80 < cLine):OpR X (compareOp .NotEq) (r2 X.K ZbJ):=by
 intro pins s σ H x y v u Q I rx ry h
 obtain ⟨ι,M,a,b,S,ra,rb,h⟩:=h
 unfold ZbJ at h
 cases q:eqD a b M with
 | none=>rw [q] at h; exact h.elim
 | some k=>
  rw [q] at h
  exact (ZlI hu I S ra rb rx ry q).2 X.prog X.w X.xe _ ⟨.bl (!k),H,I,rfl,Zz.ok h S Rep.bl⟩
theorem ZjC {K:PySem.W.Frag} {H:Hp} {ι:List Addr} {d:D} {v:V} (r:Rep K H ι d v) (h:Zbb d = true):ZeU v = true:=by
 cases d with
 | non=>rw [r.non_inv]; rfl
 | bl b=>rw [r.bl_inv]; rfl
 | int i=>rw [r.int_inv]; rfl
 | str x=>rw [r.str_inv]; rfl
 | _=>exact ft h
theorem ZoV (x y:List Nat):((⟨x.toArray⟩:Str) == ⟨y.toArray⟩) = (x == y):=by
 rw [Bool.eq_iff_iff]
 simp
theorem Zpz {K:PySem.W.Frag} {H:Hp} {ι:List Addr} {d e:D} {v w:V} (r:Rep K H ι d v) (q:Rep K H ι e w) (h:Zbb d = true) (h':Zbb e = true):eqV v w = deq d e:=by
 cases d with
 | non=>rw [r.non_inv]; cases e with
  | non=>rw [q.non_inv]; rfl
  | bl _=>rw [q.bl_inv]; rfl
  | int _=>rw [q.int_inv]; rfl
  | str _=>rw [q.str_inv]; rfl
  | _=>exact ft h'
 | bl _=>rw [r.bl_inv]; cases e with
  | non=>rw [q.non_inv]; rfl
  | bl _=>rw [q.bl_inv]; rfl
  | int _=>rw [q.int_inv]; rfl
  | str _=>rw [q.str_inv]; rfl
  | _=>exact ft h'
 | int _=>rw [r.int_inv]; cases e with
  | non=>rw [q.non_inv]; rfl
  | bl _=>rw [q.bl_inv]; rfl
  | int _=>rw [q.int_inv]; rfl
  | str _=>rw [q.str_inv]; rfl
  | _=>exact ft h'
 | str _=>rw [r.str_inv]; cases e with
  | non=>rw [q.non_inv]; rfl
  | bl _=>rw [q.bl_inv]; rfl
  | int _=>rw [q.int_inv]; rfl
  | str _=>rw [q.str_inv]; exact ZoV _ _
  | _=>exact ft h'
 | _=>exact ft h
theorem Zlv {K:PySem.W.Frag} {H:Hp} {ι:List Addr} {d:D} {v:V} (r:Rep K H ι d v) (h:Zbb d = true):∀ {ds:List D} {vs:List V},Zy K H ι ds vs → ds.all Zbb = true → vs.all ZeU = true ∧ inV v vs = ds.any fun y=>deq y d
 | [],_,q,_=>by rw [q.nil_inv]; exact ⟨rfl,rfl⟩
 | e :: ds,_,q,hd=>by
  obtain ⟨w,ws,rfl,r1,r2⟩:=q.cons_inv
  rw [List.all_cons,Bool.and_eq_true] at hd
  obtain ⟨h1,h2⟩:=Zlv r h r2 hd.2
  refine ⟨by rw [List.all_cons,ZjC r1 hd.1,h1]; rfl,?_⟩
  unfold inV at h2 ⊢
  rw [List.any_cons,List.any_cons,h2,Zpz r1 r hd.1 h]
inductive InK (a b:D) (k:Bool):Prop
 | tup (ys:List D):b = .tup ys → (ys.any fun y=>deq y a) = k → Zbb a = true → ys.all Zbb = true → InK a b k
 | str (c:Nat) (y:List Nat):a = .str [c] → b = .str y → decide (c ∈ y) = k → InK a b k
theorem inK {a b:D} {k:Bool} (h:inD a b = some k):InK a b k:=by
 cases b with
 | tup ys=>exact have w:=Zkz h; .tup ys rfl w.1 w.2.1 w.2.2
 | str y=>
  cases a with
  | str z=>cases z with
   | nil=>exact nsm h
   | cons c z=>cases z with
    | nil=>exact .str c y rfl rfl (Option.some.inj h)
    | cons _ _=>exact nsm h
  | _=>exact nsm h
 | _=>exact nsm h
theorem ZqB {K:PySem.W.Frag} {H:Hp} {ι:List Addr} {Q:VK} {a:D} {ys:List D} {x y:V} (n:Bool) (ra:Rep K H ι a x) (rb:Rep K H ι (.tup ys) y) (fa:Zbb a = true) (fs:ys.all Zbb = true) (q:Q (.bl (if n then !(ys.any fun y=>deq y a) else ys.any fun y=>deq y a)) H):rIn K n x y H Q:=by
 obtain ⟨p,vs,e,s,r⟩:=rb.tup_inv
 obtain ⟨h1,h2⟩:=Zlv ra fa r fs
 exact ⟨p,vs,e,.inr s,ZjC ra fa,h1,by rw [h2]; exact q⟩
theorem Zt3 (hu:X.A.units + 80 < cLine):OpR X (compareOp .In) (r2 X.K ZlX):=OpR.imp (OpR.or ZsD Zme) fun x y H Q zz1=>by
 obtain ⟨ι,M,a,b,S,ra,rb,h⟩:=zz1
 unfold ZlX at h
 cases q:inD a b with
 | none=>rw [q] at h; exact h.elim
 | some k=>
  rw [q] at h
  rcases inK q with ⟨ys,eb,ek,fa,fs⟩ | ⟨c,z,ea,eb,ek⟩
  ·rw [eb] at rb
   rw [← ek] at h
   exact .inr (ZqB false ra rb fa fs (Zz.ok h S Rep.bl))
  ·rw [ea] at ra
   rw [eb] at rb
   rw [← ek] at h
   exact .inl ⟨ι,M,_,_,S,ra,rb,h⟩
theorem ZnX (x:List Nat) (n:Nat) (a:List Nat):(List.replicate n x.toArray).foldl (· ++ ·) a.toArray = (a ++ (List.replicate n x).flatten).toArray:=by
 induction n generalizing a with
 | zero=>simp
 | succ n ih=>
  rw [List.replicate_succ,List.foldl_cons,List.replicate_succ,List.flatten_cons]
  have:=ih (a ++ x)
  simp only [List.append_toArray] at this ⊢
  rw [this]
  simp
theorem ZrK (x:List Nat) (k:Int):Txt.mul (⟨x.toArray⟩:Str) k = ⟨(List.replicate k.toNat x).flatten.toArray⟩:=by
 unfold Txt.mul
 split
 ·rename_i h
  have:k.toNat = 0:=Nat.le_antisymm (Nat.le_of_eq (Int.toNat_of_nonpos (iN [] [_] 1 235446417 T1 h))) (Nat.zero_le _)
  rw [this]; rfl
 ·split
  ·rename_i h1 h2
   simp only [Bool.or_eq_true,beq_iff_eq,Str.length,List.size_toArray] at h2
   rcases h2 with h2 | h2
   ·subst h2; simp
   ·have:x = []:=List.eq_nil_of_length_eq_zero h2
    subst this
    simp
  ·have:=ZnX x k.toNat []
   rw [List.nil_append] at this
   exact congrArg Str.mk this
theorem Zy.repl {K:PySem.W.Frag} {H:Hp} {ι:List Addr} {ds:List D} {vs:List V} (r:Zy K H ι ds vs):∀ k:Nat,Zy K H ι (List.replicate k ds).flatten (List.replicate k vs).flatten
 | 0=>Zy.nil
 | k + 1=>by rw [List.replicate_succ,List.replicate_succ,List.flatten_cons,List.flatten_cons]; exact r.append (Zy.repl r k)
theorem Zm1:OpR X (binaryOp .Mult) (r2 X.K ZgB):=by
 have hs:OpR X (binaryOp .Mult) (fun x y H Q=>∃ (z:List Nat) (k:Int),x = .str ⟨z.toArray⟩ ∧ y = .int k ∧ z.length * k.toNat ≤ 1000000 ∧ k < 1000000 ∧ -1000000 < k ∧ Q (.str ⟨(List.replicate k.toNat z).flatten.toArray⟩) H):=by
  intro pins s σ H x y v u Q I rx ry h
  obtain ⟨z,k,rfl,rfl,h1,h2,h3,q⟩:=h
  obtain ⟨t,rfl⟩:=rx
  obtain ⟨t',rfl⟩:=ry
  refine SB.mul ⟨?_,fun h4 h5=>?_,fun h4 h5=>?_⟩ fun t'' tk=>?_
  ·simp; omega
  ·simp only [Str.length,List.size_toArray]
   simp at h4 h5
   have hk:2 ≤ k:=by
    simp only [Str.length,List.size_toArray] at h5
    omega
   have e:(k.toNat:Int) = k:=Int.le_antisymm (Int.le_of_eq (Int.toNat_of_nonneg (iN [] [_] 1 3892452225 T1 hk))) ((Int.self_le_toNat _))
   have hm:(z.length:Int) * k ≤ 1000000:=by
    have h1':((z.length * k.toNat:Nat):Int) ≤ 1000000:=Int.ofNat_le.mpr h1
    rw [Int.natCast_mul,e] at h1'
    exact h1'
   have hd:(z.length:Int) ≤ 9223372036854775807 / k:=Int.le_ediv_of_mul_le (iN [] [_] 1 3909229441 T1 hk) (by omega)
   show ¬ ((z.length:Int) > (2 ^ 63 - 1) / k)
   have e3:((2:Int) ^ 63 - 1) = 9223372036854775807:=by decide
   rw [e3]
   exact fun z=>iN [_] [_] 2 6599352549521 T1 z hd
  ·unfold Builtin.Str.tooLong
   simp only [Str.length,List.size_toArray,decide_eq_false_iff_not]
   have hsz:(1000000:Nat) ≤ sizeLine:=ZbS
   exact fun z=>lB 3 0x6f42405b1010f42405b011011 T1 z hsz h1
  ·rw [ZrK]
   exact ⟨.str _,H,I.tok _,⟨_,rfl⟩,q⟩
 refine OpR.imp (OpR.or Zqa (OpR.or hs Zqw)) fun x y H Q zz1=>?_
 obtain ⟨ι,M,a,b,S,ra,rb,h⟩:=zz1
 cases a with
 | int i=>cases b with
  | int j=>
   obtain ⟨hm,h⟩:=ZfL h
   refine .inl ⟨i,j,ra.int_inv,rb.int_inv,?_,Zz.ok h S Rep.int⟩
   simp only [ZcC,Bool.or_eq_true,Bool.and_eq_true,decide_eq_true_eq] at hm
   exact hm
  | _=>exact h.elim
 | str z=>cases b with
  | int k=>
   obtain ⟨hz,h⟩:=ZfL h
   exact .inr (.inl ⟨z,k,ra.str_inv,rb.int_inv,hz.1,hz.2.1,hz.2.2,Zz.ok h S Rep.str⟩)
  | _=>exact h.elim
 | ref n=>cases b with
  | int k=>
   have h:Zz X.K H ι Q (onL M[n]? fun x=>@ite _ (x.length * k.toNat ≤ SZ ∧ k < 1000000 ∧ -1000000 < k) (Classical.propDecidable _) (alloc (.lst (List.replicate k.toNat x).flatten) M) .bad):=h
   obtain ⟨z,hn,h⟩:=Zov h
   obtain ⟨hz,h⟩:=ZfL h
   obtain ⟨p,hp,e'⟩:=ra.ref_inv
   obtain ⟨vs,e,r⟩:=S.obj n _ p hn hp
   refine .inr (.inr ⟨p,k,vs,e',rb.int_inv,e,?_,?_,by rw [r.length]; exact Nat.le_trans hz.1 ZbS,fun q hq=>?_⟩)
   ·exact Int.le_trans (by decide) (Int.le_of_lt hz.2.2)
   ·exact Int.lt_of_lt_of_le hz.2.1 (by decide)
   obtain ⟨x2,S2,r2⟩:=S.lst hq (Zy.repl r k.toNat)
   exact h _ _ _ x2 S2 r2
  | _=>exact h.elim
 | _=>cases b <;> exact h.elim
theorem Zlz (n d:Nat) (hd:d ≤ n) (o:Option Int):(match o with | none=>(d:Int) | some i=>max 0 (min (if i < 0 then i + (n:Int) else i) (n:Int))) = ((sIx n d o:Nat):Int):=by
 cases o with
 | none=>rfl
 | some v=>
  show max 0 (min (if v < 0 then v + (n:Int) else v) (n:Int)) = (((if v < 0 then (v + (n:Int)).toNat else min v.toNat n):Nat):Int)
  by_cases h:v < 0
  ·rw [if_pos h,if_pos h]; exact clC v n h
  ·rw [if_neg h,if_neg h]; exact clD v n h
theorem Zf5 (lo hi:Option Int) (n:Nat):Builtin.Str.strSliceIndices lo hi 1 n = (List.range (sIx n n hi - sIx n 0 lo)).map (fun k=>sIx n 0 lo + k):=by
 have e1:=Zlz n 0 (Nat.zero_le _) lo
 have e2:=Zlz n n (Nat.le_refl _) hi
 have key:Builtin.Str.strSliceIndices lo hi 1 n = sliceRange ((sIx n 0 lo:Nat):Int) ((sIx n n hi:Nat):Int) 1:=by
  rw [← e1,← e2]
  simp only [Builtin.Str.strSliceIndices,show ((1:Int) > 0) = True from by simp,if_true]
  cases lo <;> cases hi <;> rfl
 rw [key]
 generalize sIx n 0 lo = a
 generalize sIx n n hi = b
 simp only [sliceRange,show ((1:Int) > 0) = True from by simp,if_true]
 by_cases hlt:(a:Int) < b
 ·have e3:(((b:Int) - a + 1 - 1) / 1).toNat = b - a:=by first | exact Nat.le_antisymm (iN [_,_,_,_] [_] 3 0x230038a112c001aa1808fcf001d81 T1 (Int.mul_ediv_self_le (by decide)) (sbA _ _) (Int.toNat_of_nonneg (iN [_,_] [_] 2 0xe8a001dcaa0818fcf91180891 T1 hlt (Int.lt_mul_ediv_self_add (by decide))))) (iN [_,_,_,_] [_] 3 0x230013c2128081a001dcaa1808fcf91 T1 (Int.lt_mul_ediv_self_add (by decide)) (Int.self_le_toNat _) (Nat.sub_add_cancel (iN [_,_] [] 1 4296542353 T1 hlt))) | (simp; done) | (simp; omega)
  simp only [hlt,if_true,e3]
  refine List.map_congr_left fun k _=>?_
  exact Nat.le_antisymm (iN [_,_,_] [] 1 0x21c002801d18c08a1 T1 (Int.toNat_of_nonneg (iN [_,_] [] 0 103109659880 T1))) (iN [_,_,_] [] 1 0x210c0281801d08c81 T1 (Int.self_le_toNat _))
 ·have:b - a = 0:=Nat.le_antisymm (Nat.le_of_eq (Nat.sub_eq_zero_of_le (iN [_,_] [] 1 270010577 T1 hlt))) (Nat.zero_le _)
  simp [hlt,this]
theorem Ziz (n d:Nat) (hd:d ≤ n) (o:Option Int):sIx n d o ≤ n:=by
 cases o with
 | none=>exact hd
 | some v=>simp only [sIx]; split <;> omega
theorem Zka (z:List Nat) (lo hi:Option Int) (l u:Option (Int × Tok)) (hl:l.map (·.1) = lo) (hu:u.map (·.1) = hi):
  (if ((1:Int) == 1 && (slicePicked ⟨z.toArray⟩ l u none).length == (⟨z.toArray⟩:Str).length) = true then (⟨z.toArray⟩:Str) else ⟨((slicePicked ⟨z.toArray⟩ l u none).filterMap ((⟨z.toArray⟩:Str).cps[·]?)).toArray⟩) = ⟨(cutD z lo hi).toArray⟩:=by
 have e0:slicePicked ⟨z.toArray⟩ l u none = (List.range (sIx z.length z.length hi - sIx z.length 0 lo)).map (fun k=>sIx z.length 0 lo + k):=by
  unfold slicePicked
  rw [hl,hu]
  simp only [Str.length,List.size_toArray]
  exact Zf5 lo hi z.length
 have hb:=Ziz z.length z.length (Nat.le_refl _) hi
 rw [e0]
 have pick:((List.range (sIx z.length z.length hi - sIx z.length 0 lo)).map (fun k=>sIx z.length 0 lo + k)).filterMap ((⟨z.toArray⟩:Str).cps[·]?) = cutD z lo hi:=by
  unfold cutD
  by_cases hab:sIx z.length 0 lo ≤ sIx z.length z.length hi
  ·have h:=StrLaws.picks z (sIx z.length z.length hi - sIx z.length 0 lo) (sIx z.length 0 lo) (lD 2 82120338080600065 T1 hb (Nat.sub_add_cancel hab))
   simpa using h
  ·have:sIx z.length z.length hi - sIx z.length 0 lo = 0:=Nat.le_antisymm (Nat.le_of_eq (Nat.sub_eq_zero_of_le (lB 1 1052737 T1 hab))) (Nat.zero_le _)
   rw [this]
   simp
 rw [pick]
 split
 ·rename_i hc
  simp only [List.length_map,List.length_range,Str.length,List.size_toArray,Bool.and_eq_true,beq_iff_eq] at hc
  have hc2:=hc.2
  have h0:sIx z.length 0 lo = 0 ∨ z.length = 0:=by omega
  have:cutD z lo hi = z:=by
   unfold cutD
   rcases h0 with h0 | h0
   ·rw [h0,List.drop_zero,List.take_of_length_le (by exact lD 3 0x3102001e3c2011031 T1 hc2 (sbA _ _) (Nat.sub_le _ _))]
   ·have:z = []:=List.eq_nil_of_length_eq_zero h0
    subst this
    simp
  rw [this]
 ·rfl
theorem Zp8:SlR X (fun x lo hi H Q=>∃ z:List Nat,x = .str ⟨z.toArray⟩ ∧ z.length ≤ SZ ∧ Q (.str ⟨(cutD z lo hi).toArray⟩) H):=by
 intro pins s σ H x v vl vu lo hi sl Q I rx hs pl pu h
 obtain ⟨z,rfl,hz,q⟩:=h
 obtain ⟨t,rfl⟩:=rx
 have part:∀ {v:Value} {o:Option Int},IsPart v o → ∃ p:Option (Int × Tok),v = partValue p ∧ p.map (·.1) = o:=by
  intro v o h
  cases h with
  | none=>exact ⟨none,rfl,rfl⟩
  | int i t=>exact ⟨some (i,t),rfl,rfl⟩
 obtain ⟨l,rfl,hl⟩:=part pl
 obtain ⟨u,rfl,hu⟩:=part pu
 refine ⟨"str",_,PySem.F.slot_str_getitem.lookup,typeIs_str _ _ _,?_⟩
 refine wpAny_getItem_str_slice (l:=l) (u:=u) (st:=none) hs rfl ?_
 unfold sliceMade
 refine post_val_or_made (fun _=>?_) fun t' k=>?_
 ·show ((slicePicked ⟨z.toArray⟩ l u none).filterMap ((⟨z.toArray⟩:Str).cps[·]?)).toArray.size ≤ sizeLine
  rw [List.size_toArray]
  refine Nat.le_trans (List.length_filterMap_le _ _) ?_
  show (Builtin.Str.strSliceIndices (l.map (·.1)) (u.map (·.1)) 1 (⟨z.toArray⟩:Str).length).length ≤ sizeLine
  rw [Zf5]
  simp only [List.length_map,List.length_range,Str.length,List.size_toArray]
  have:=Ziz z.length z.length (Nat.le_refl _) (u.map (·.1))
  have:=ZbS
  omega
 ·have e:=Zka z lo hi l u hl hu
  have e':(if (((none:Option (Int × Tok)).map (·.1)).getD 1 == 1 && (slicePicked ⟨z.toArray⟩ l u none).length == (⟨z.toArray⟩:Str).length) = true then (⟨z.toArray⟩:Str) else ⟨((slicePicked ⟨z.toArray⟩ l u none).filterMap ((⟨z.toArray⟩:Str).cps[·]?)).toArray⟩) = ⟨(cutD z lo hi).toArray⟩:=e
  rw [e']
  exact ⟨.str _,H,I.tok _,⟨_,rfl⟩,q⟩
theorem Ze2 {prog:Program} {w:World} {A:Around} {E:Value → Shared → Prop} {s:Shared} {t sl:Addr} {items:Array Value} {vl vu:Value} {lo hi:Option Int} {Q:Value → Shared → Prop} (ht:IsTup s.heap t items) (hs:s.heap.IsSliceOf sl vl vu .none) (pl:IsPart vl lo) (pu:IsPart vu hi)
  (hw:HT.sIx items.size 0 lo = 0 ∧ HT.sIx items.size items.size hi = items.size) (h:Q (.ref t) s):wpAny (model prog w) A (getItem (.ref t) (.ref sl)) Q E s:=by
 obtain ⟨os,hos,hcs,hds⟩:=id hs
 have hTs:s.TypeIs (.ref sl) "slice":=⟨os,hos,hcs⟩
 unfold getItem
 try with_reducible refine wpAny_holding ?_
 first | refine wpAny_bind (wpAny_pure ?_) | skip
 refine wpAny_bind (wpAny_sequenceKey ht.typeIs (by decide) ?_)
 refine wpAny_bind (wpAny_callSpecial?_slot (name:=Str.ofString "__getitem__") ht.typeIs PyProof.Rows.slot_tuple_getitem
  (wpAny_call_entry PyProof.Rows.slot_tuple_getitem ht.typeIs entry_tuple_getitem ?_ (args_tuple_getitem _ _)))
 show wpAny _ _ (Builtin.Tuple.tupleItemsOf (.ref t) >>= _) _ _ s
 refine wpAny_bind (tupleItemsOf_ ht ?_)
 refine wpAny_bind (wpAny_typeOf hTs ?_)
 rw [if_pos (by decide)]
 refine wpAny_bind (HT.sliceApplied_gen hs pl pu ?_)
 have hyes:(((HT.sIx items.size 0 lo:Nat):Int) == 0 && (1:Int) == 1 && (HT.sIx items.size items.size hi - HT.sIx items.size 0 lo) == items.size) = true:=by
  rw [hw.1,hw.2]; simp
 show wpAny _ _ (if (((HT.sIx items.size 0 lo:Nat):Int) == 0 && (1:Int) == 1 && (HT.sIx items.size items.size hi - HT.sIx items.size 0 lo) == items.size) = true then _ else _) _ _ s
 rw [if_pos hyes]
 unfold Builtin.Tuple.tupleIsExact
 refine wpAny_bind (wpAny_bind (wpAny_typeOf ht.typeIs (wpAny_pure ?_)))
 rw [if_pos (by decide)]
 exact wpAny_bind (wpAny_rule (wpAny_pure ⟨_,rfl,wpAny_pure h⟩))
theorem Zpp:SlR X (fun x lo hi H Q=>∃ a xs,x = .ref a ∧ SqT X.K H a xs ∧ (HT.sIx xs.length 0 lo = 0 ∧ HT.sIx xs.length xs.length hi = xs.length) ∧ Q (.ref a) H):=by
 intro pins s σ H x v vl vu lo hi sl Q I rx hs pl pu h
 obtain ⟨a,xs,rfl,hx,hw,q⟩:=h
 cases rx
 obtain ⟨its,r,ht,hz⟩:=I.tuple hx
 have hlen:its.toArray.size = xs.length:=by rw [List.size_toArray]; exact r.length.symm
 refine ⟨"tuple",_,PyProof.Rows.slot_tuple_getitem.lookup,ht.typeIs,?_⟩
 exact Ze2 ht hs pl pu (by rw [hlen]; exact hw) ⟨.ref a,H,I,rfl,q⟩
theorem Zkb:SlR X (rS X.K):=SlR.imp (SlR.or (SlR.or ZqO Zpp) (SlR.or Zoz Zp8)) fun x lo hi H Q zz1=>by
 obtain ⟨ι,M,a,S,ra,h⟩:=zz1
 have ex:∀ n d o,HT.sIx n d o = sIx n d o:=fun n d o=>by cases o <;> rfl
 cases a with
 | tup ds=>
  simp only [Zds,Zdv,Zdx,Zdu] at h
  obtain ⟨p,vs,rfl,s,r⟩:=ra.tup_inv
  by_cases hw:sIx ds.length 0 lo = 0 ∧ sIx ds.length ds.length hi = ds.length
  ·refine .inl (.inr ⟨p,vs,rfl,s,by rw [ex,ex,r.length]; exact hw,?_⟩)
   have e:cutD ds lo hi = ds:=by unfold cutD; rw [hw.1,hw.2]; simp
   rw [e] at h
   exact Zz.ok h S (Rep.tup s r)
  ·refine .inl (.inl ⟨p,vs,rfl,s,by rw [ex,ex,r.length]; exact hw,fun q hq=>?_⟩)
   obtain ⟨x2,S2,r2⟩:=S.tupl hq (ZkK r lo hi)
   exact h _ _ _ x2 S2 r2
 | scr ds=>
  simp only [Zds,Zdv,Zdx,Zdu] at h
  obtain ⟨p,vs,rfl,s,r⟩:=ra.scr_inv
  refine .inr (.inl ⟨p,vs,rfl,s.sq,fun q hq=>?_⟩)
  obtain ⟨x2,S2,r2⟩:=S.lst hq (ZkK r lo hi)
  exact h _ _ _ x2 S2 r2
 | str z=>
  simp only [Zds,Zdv,Zdx,Zdu] at h
  split at h
  ·rename_i hz
   exact .inr (.inr ⟨z,ra.str_inv,hz,Zz.ok h S Rep.str⟩)
  ·exact h.elim
 | ref n=>
  simp only [Zds,Zdv,Zdx,Zdu] at h
  cases hn:M[n]? with
  | none=>simp only [hn] at h; exact h.elim
  | some o=>
   cases o with
   | dct _=>simp only [hn] at h; exact h.elim
   | fdct _=>simp only [hn] at h; exact h.elim
   | ins _ _=>simp only [hn] at h; exact h.elim
   | lst ds=>
    simp only [hn] at h
    obtain ⟨p,hp,rfl⟩:=ra.ref_inv
    obtain ⟨vs,e,r⟩:=S.obj n _ p hn hp
    refine .inr (.inl ⟨p,vs,rfl,SqL.of e,fun q hq=>?_⟩)
    obtain ⟨x2,S2,r2⟩:=S.lst hq (ZkK r lo hi)
    exact h _ _ _ x2 S2 r2
 | _=>exact h.elim
theorem Zfn {K:PySem.W.Frag} {H:Hp} {ι:List Addr} {d:D} {xs:List V} (r:Zy K H ι [d] xs):∃ x,xs = [x] ∧ Rep K H ι d x:=by
 obtain ⟨v,ws,rfl,r1,r2⟩:=r.cons_inv
 have:=r2.nil_inv
 subst this
 exact ⟨v,rfl,r1⟩
theorem ZbB:Zb2 X (.builtin "len") (rB X.K ZaS):=Zb2.imp ZnJ fun xs H Q zz1=>by
 obtain ⟨ι,M,ds,S,rd,h⟩:=zz1
 cases ds with
 | nil=>exact h.elim
 | cons d ds=>
  cases ds with
  | cons _ _=>cases d <;> exact h.elim
  | nil=>
   obtain ⟨x,rfl,r⟩:=Zfn rd
   cases d with
   | tup z=>
    obtain ⟨p,vs,rfl,s,r'⟩:=r.tup_inv
    exact ⟨_,vs.length,rfl,.inr ⟨vs,s,rfl⟩,by rw [r'.length]; exact Zz.ok h S Rep.int⟩
   | scr z=>
    obtain ⟨p,vs,rfl,s,r'⟩:=r.scr_inv
    exact ⟨_,vs.length,rfl,.inl ⟨vs,s.sq,rfl⟩,by rw [r'.length]; exact Zz.ok h S Rep.int⟩
   | str z=>
    simp only [Ziw,Zik,Ziq,Zd7] at h
    split at h
    ·rename_i hz
     have:=r.str_inv
     subst this
     refine ⟨_,z.length,rfl,⟨?_,?_⟩,Zz.ok h S Rep.int⟩
     ·show z.toArray.size ≤ sizeLine
      rw [List.size_toArray]
      exact Nat.le_trans hz ZbS
     ·show z.length = z.toArray.size
      rw [List.size_toArray]
    ·exact h.elim
   | ref n=>
    cases hn:M[n]? with
    | none=>rw [Zd7,hn] at h; exact h.elim
    | some o=>
     cases o with
     | dct _=>rw [Zd7,hn] at h; exact h.elim
     | fdct _=>rw [Zd7,hn] at h; exact h.elim
     | ins _ _=>rw [Zd7,hn] at h; exact h.elim
     | lst z=>
      simp only [Ziw,Zik,Ziq,Zd7,hn] at h
      obtain ⟨p,hp,rfl⟩:=r.ref_inv
      obtain ⟨vs,e,r'⟩:=S.obj n _ p hn hp
      exact ⟨_,vs.length,rfl,.inl ⟨vs,SqL.of e,rfl⟩,by rw [r'.length]; exact Zz.ok h S Rep.int⟩
   | _=>exact h.elim
theorem Zgu:Zb2 X (.type "tuple") (rB X.K ZcX):=Zb2.imp Zhx fun xs H Q zz1=>by
 obtain ⟨ι,M,ds,S,rd,h⟩:=zz1
 cases ds with
 | nil=>exact h.elim
 | cons d ds=>
  cases ds with
  | cons _ _=>cases d <;> exact h.elim
  | nil=>
   obtain ⟨x,rfl,r⟩:=Zfn rd
   cases d with
   | tup z=>
    obtain ⟨p,vs,rfl,s,r'⟩:=r.tup_inv
    exact ⟨p,vs,rfl,.inr ⟨s,Zz.ok h S (Rep.tup s r')⟩⟩
   | scr z=>
    obtain ⟨p,vs,rfl,s,r'⟩:=r.scr_inv
    refine ⟨p,vs,rfl,.inl ⟨s.sq,fun q hq=>?_⟩⟩
    obtain ⟨x2,S2,r2⟩:=S.tupl hq r'
    exact h _ _ _ x2 S2 r2
   | ref n=>
    cases hn:M[n]? with
    | none=>rw [Zda,hn] at h; exact h.elim
    | some o=>
     cases o with
     | dct _=>rw [Zda,hn] at h; exact h.elim
     | fdct _=>rw [Zda,hn] at h; exact h.elim
     | ins _ _=>rw [Zda,hn] at h; exact h.elim
     | lst z=>
      simp only [ZhR,ZhK,Zda,hn] at h
      obtain ⟨p,hp,rfl⟩:=r.ref_inv
      obtain ⟨vs,e,r'⟩:=S.obj n _ p hn hp
      refine ⟨p,vs,rfl,.inl ⟨SqL.of e,fun q hq=>?_⟩⟩
      obtain ⟨x2,S2,r2⟩:=S.tupl hq r'
      exact h _ _ _ x2 S2 r2
   | _=>exact h.elim
theorem ZnB:Zb2 X (.type "list") (rB X.K Zgb):=Zb2.imp ZiZ fun xs H Q zz1=>by
 obtain ⟨ι,M,ds,S,rd,h⟩:=zz1
 cases ds with
 | nil=>exact h.elim
 | cons d ds=>
  cases ds with
  | cons _ _=>cases d <;> exact h.elim
  | nil=>
   obtain ⟨x,rfl,r⟩:=Zfn rd
   cases d with
   | tup z=>
    obtain ⟨p,vs,rfl,s,r'⟩:=r.tup_inv
    refine ⟨p,vs,rfl,.inr s,fun q hq=>?_⟩
    obtain ⟨x2,S2,r2⟩:=S.lst hq r'
    exact h _ _ _ x2 S2 r2
   | scr z=>
    obtain ⟨p,vs,rfl,s,r'⟩:=r.scr_inv
    refine ⟨p,vs,rfl,.inl s.sq,fun q hq=>?_⟩
    obtain ⟨x2,S2,r2⟩:=S.lst hq r'
    exact h _ _ _ x2 S2 r2
   | ref n=>
    cases hn:M[n]? with
    | none=>rw [Zde,hn] at h; exact h.elim
    | some o=>
     cases o with
     | dct _=>rw [Zde,hn] at h; exact h.elim
     | fdct _=>rw [Zde,hn] at h; exact h.elim
     | ins _ _=>rw [Zde,hn] at h; exact h.elim
     | lst z=>
      simp only [ZgG,ZgF,Zde,hn] at h
      obtain ⟨p,hp,rfl⟩:=r.ref_inv
      obtain ⟨vs,e,r'⟩:=S.obj n _ p hn hp
      refine ⟨p,vs,rfl,.inl (SqL.of e),fun q hq=>?_⟩
      obtain ⟨x2,S2,r2⟩:=S.lst hq r'
      exact h _ _ _ x2 S2 r2
   | _=>exact h.elim
end
end L3
namespace L3
open PySem PySem.Spec PyProof.Rows L2
theorem Za6:bootBuiltins "len" = some (.builtin "len"):=by decide +kernel
theorem ZrL:bootBuiltins "all" = some (.builtin "all"):=by decide +kernel
theorem ZcO:bootBuiltins "isinstance" = some (.builtin "isinstance"):=by decide +kernel
theorem Zk5:bootBuiltins "list" = some (.type "list"):=by decide +kernel
theorem Zfo:bootBuiltins "tuple" = some (.type "tuple"):=by decide +kernel
theorem Zpy:bootBuiltins "dict" = some (.type "dict"):=by decide +kernel
section
variable {X:Cx} {a:Expr} {pos p p2:Pos} {f:E3}
noncomputable def tyN:Ty3 → String
 | .int=>"int" | .bool=>"bool" | .str=>"str" | .list=>"list" | .tuple=>"tuple"
theorem Zfc (K:PySem.W.Frag) (t:String) (T:Ty3) (ht:t ∈ ["NoneType","bool","int","str","list","tuple","dict"]):
  PySem.W.kitOne K (.type t) (.type (tyN T)) = some (t == tyN T || (t == "bool" && tyN T == "int")):=by
 simp only [List.mem_cons,List.not_mem_nil,or_false] at ht
 rcases ht with rfl | rfl | rfl | rfl | rfl | rfl | rfl <;> cases T <;> kernel_rfl
theorem Zn3 (T:Ty3):bootBuiltins (tyN T) = some (.type (tyN T)):=by cases T <;> decide +kernel
noncomputable def Zr9 (T:Ty3) (o:Option MO):Option Bool:=match o with
 | some (.lst _)=>some (T == .list)
 | some (.dct _)=>some false
 | some (.fdct _)=>none
 | some (.ins _ _)=>none
 | none=>none
theorem ZoB {pins:List (Addr × Obj)} {σ:St} {H:Hp} {s:Shared} {ι:List Addr} {M:Store} {A:Around} {E:Value → Shared → Prop} {Q:Value → Shared → Prop} {T:Ty3} {d:D} {x:V} {u:Value} {b:Bool} (I:Inv X pins σ H s) (S:Zag X.K H ι M) (r:Rep X.K H ι d x) (ru:RelV x u)
  (e:Zeq T d M = some b) (h:∀ tk,Q (.bool b) { s with toks:=tk }):wpAny (model X.prog X.w) A (call (.builtin "isinstance") [u,.type (tyN T)]) Q E s:=by
 cases d with
 | non=>
  rw [r.non_inv] at ru
  exact Zc9 I ru .non ((Zfc X.K "NoneType" T (by decide)).trans (Eq.trans (by cases T <;> rfl) e)) h
 | bl c=>
  rw [r.bl_inv] at ru
  exact Zc9 I ru (.bl c) ((Zfc X.K "bool" T (by decide)).trans (Eq.trans (by cases T <;> rfl) e)) h
 | int i=>
  rw [r.int_inv] at ru
  exact Zc9 I ru (.int i) ((Zfc X.K "int" T (by decide)).trans (Eq.trans (by cases T <;> rfl) e)) h
 | str z=>
  rw [r.str_inv] at ru
  exact Zc9 I ru (.str _) ((Zfc X.K "str" T (by decide)).trans (Eq.trans (by cases T <;> rfl) e)) h
 | tup ds=>
  obtain ⟨p,vs,its,_,eu,⟨o,h1,h2,_⟩,_⟩:=ZhJ I r ru
  rw [eu]
  exact PySem.W.kia_one PySem.W.kitx_tuple I.kIn ⟨o,h1,h2⟩ ((Zfc X.K "tuple" T (by decide)).trans (Eq.trans (by cases T <;> rfl) e)) (fun z=>nomatch z) h
 | scr ds=>exact nsm e
 | ref n=>
  have e:Zr9 T M[n]? = some b:=e
  obtain ⟨a,ha,ex⟩:=r.ref_inv
  rw [ex] at ru
  cases hn:M[n]? with
  | none=>rw [hn] at e; exact nsm e
  | some o=>
   rw [hn] at e
   cases o with
   | lst z=>
    obtain ⟨vs,ev,_⟩:=S.obj n _ a hn ha
    exact Zc9 I ru (.lst ev) ((Zfc X.K "list" T (by decide)).trans (Eq.trans (by cases T <;> rfl) e)) h
   | dct z=>
    obtain ⟨vs,ev,_⟩:=S.obj n _ a hn ha
    exact Zc9 I ru (.dK ev) ((Zfc X.K "dict" T (by decide)).trans (Eq.trans (by cases T <;> rfl) e)) h
   | fdct z=>exact nsm e
   | ins _ _=>exact nsm e
theorem Zd1 (T:Ty3) {x:Str} (hm:X.mg "isinstance" = none) (hm2:X.mg x = none) (h:C3 X a f) (hx:x = (Str.ofString (tyN T)):=by rfl) (hg:Gl X "isinstance":=by rfl) (hg2:Gl X x:=by rfl)
  (hn:x ≠ "__name__":=by decide) (hd:(x == ("__debug__":Str)) = false:=by decide)
  (hs:starEach (a :: [.Name x p2]) X.env = (false,eval a X.env) :: starEach [.Name x p2] X.env:=by rfl) (hs2:starEach (.Name x p2 :: []) X.env = (false,eval (.Name x p2) X.env) :: starEach [] X.env:=by rfl)
  (hpl:(backTo pos (starEach [.Name x p2] X.env)).any (·.1) = false:=by rfl):C3 X (.Call (.Name "isinstance" p) [a,.Name x p2] [] pos) (e1 (ZcL T) f):=by
 subst hx
 have hc:Zb2 X (.builtin "isinstance") (fun xs H Q=>∃ ι M d x,xs = [x,.ty (tyN T)] ∧ Zag X.K H ι M ∧ Rep X.K H ι d x ∧ Zz X.K H ι Q (ZcL T d M)):=by
  intro pins s σ H xs us Q I r q
  obtain ⟨ι,M,d,x,rfl,S,rd,q⟩:=q
  obtain ⟨u,w',rfl,ru,rw'⟩:=vals2 r
  cases rw'
  unfold ZcL at q
  cases e:Zeq T d M with
  | none=>rw [e] at q; exact q.elim
  | some b=>
   rw [e] at q
   exact ZoB I S rd ru e fun tk=>⟨.bl b,H,I.tok _,rfl,Zz.ok q S Rep.bl⟩
 refine (Zey hc hg hm ZcO (Zcf h (Zcf (Zgq hg2 hm2 (Zn3 T) (v:=.ty (tyN T)) rfl hn hd) Ze4 hs2) hs) (by decide) (by decide) hs hpl).imp fun σ H Q zz1=>?_
 obtain ⟨ι,M,env,S,E,h⟩:=zz1
 obtain ⟨d,M1,e1,h⟩:=Zz.bind h
 refine ⟨ι,M,env,S,E,?_⟩
 rw [e1]
 intro v H1 ι1 x1 S1 r1
 exact ⟨ι1,M1,d,v,rfl,S1,r1,h.up x1⟩
theorem ZeY {p:D → Bool}:∀ {l:List D} {e:Nat → Bool},(∀ (j:Nat) d,l[j]? = some d → e j = p d) → (List.range l.length).all e = l.all p
 | [],_,_=>rfl
 | d :: l,e,h=>by
  rw [List.length_cons,List.range_succ_eq_map,List.all_cons,List.all_map,h 0 d rfl,List.all_cons]
  congr 1
  exact ZeY fun j d' hj=>h (j + 1) d' (by simpa using hj)
theorem Zs1 (hc:X.calm = true):Zb2 X (.builtin "all") (rB X.K Zp9):=by
 intro pins s σ H xs us Q I rs h
 obtain ⟨ι,M,ds,S,rd,h⟩:=h
 cases ds with
 | nil=>exact h.elim
 | cons d ds=>
  cases ds with
  | cons _ _=>cases d <;> exact h.elim
  | nil=>
   obtain ⟨x,rfl,r⟩:=Zfn rd
   obtain ⟨u,rfl,ru⟩:=vals1 rs
   cases d with
   | ref n=>
    cases hn:M[n]? with
    | none=>rw [Zfv,hn] at h; exact h.elim
    | some o=>
     cases o with
     | dct _=>rw [Zfv,hn] at h; exact h.elim
     | fdct _=>rw [Zfv,hn] at h; exact h.elim
     | ins _ _=>rw [Zfv,hn] at h; exact h.elim
     | lst z=>
      simp only [Zfv,hn] at h
      cases q:allB z with
      | none=>rw [q] at h; exact h.elim
      | some b=>
       rw [q] at h
       obtain ⟨a,ha,rfl⟩:=r.ref_inv
       cases ru
       obtain ⟨vs,ev,rv⟩:=S.obj n _ a hn ha
       obtain ⟨its,rr,pl,_⟩:=I.list (SqL.of ev)
       have hz:z.all isB = true ∧ z.all isT = b:=by
        unfold allB at q
        split at q
        ·rename_i hz
         exact ⟨hz,Option.some.inj q⟩
        ·cases q
       have hlen:its.toArray.size = z.length:=by rw [List.size_toArray,← rr.length,rv.length]
       have hhd:X.A.in1.handled = none:=I.ok.hd hc
       refine call_all_walk (wpAny_pyIter_list pl.isList ⟨s.heap.objs.size,_,_,_,_,_,(fun j=>match z[j]? with | some d=>isT d | none=>true),rfl,Walks.list hhd s.heap.objs.size a (Nat.ne_of_lt (I.hok.lt ev)) its.toArray,⟨⟨_,Heap.get?_push_size _ rfl,rfl,rfl⟩,pl.isList.at fun o e=>Heap.get?_push_of_some _ e⟩,?_,?_⟩)
       ·intro j v s' Q' E' hv hq
        have hv':its[j]? = some v:=by simpa using hv
        have hj:j < z.length:=by
         have:=(List.getElem?_eq_some_iff.mp hv').1
         rw [← List.size_toArray,hlen] at this
         exact this
        have e1:z[j]? = some z[j]:=by simp [hj]
        have hb:=List.all_eq_true.mp hz.1 _ (List.getElem_mem hj)
        obtain ⟨w,g1,g2⟩:=rv.get e1
        obtain ⟨u',k1,k2⟩:=rr.get g1
        rw [hv'] at k1
        cases k1
        have hq':Q' (isT z[j]) s':=by
         have:=hq
         simp only [e1] at this
         exact this
        generalize z[j] = dj at hb g2 hq'
        cases dj with
        | bl c=>
         have:=g2.bl_inv
         subst this
         cases k2
         exact wpAny_truthy_bool hq'
        | _=>simp [isB] at hb
       ·intro h' tk kk
        rw [hlen,ZeY (p:=isT) (fun j d hd=>by rw [hd]),hz.2]
        exact ⟨.bl b,H,I.kept (fun c o e=>kk c o (by simp; exact Nat.ne_of_lt (Heap.lt_size e)) (Heap.get?_push_of_some _ e)),rfl,Zz.ok h S Rep.bl⟩
   | _=>exact h.elim
end
noncomputable def ZpQ (outer:List (Str × NameKind)) (N:List Str) (scope:Scope) (N':List Str) (own:Nat):Bool:=
 (scope.names.all fun y=>decide (y.2 ≠ .cell) && (decide (y.2 ≠ .free) || decide (outer.lookup y.1 = some .cell) || decide (outer.lookup y.1 = some .free)) && (decide (y.2 ≠ .local) || decide (scope.names.lookup y.1 = some .local))) &&
  decide (N'.length = N.length + own) && ZnV N N' scope
theorem ZeF {X:Cx} {scope:Scope} {N':List Str} {own:Nat} (hk:scope.kind = .function) (h:ZpQ X.env.scope.names X.N scope N' own = true):Zgz X scope N' own:=by
 simp only [ZpQ,Bool.and_eq_true,decide_eq_true_eq,List.all_eq_true,Bool.or_eq_true] at h
 obtain ⟨⟨h1,h2⟩,h3⟩:=h
 refine ⟨hk,fun y hy=>(h1 y hy).1.1,fun y hy e=>?_,fun y hy e=>?_,h2,h3⟩
 ·rcases (h1 y hy).1.2 with (q | q) | q
  ·exact absurd e q
  ·exact .inl q
  ·exact .inr q
 ·rcases (h1 y hy).2 with q | q
  ·exact absurd e q
  ·exact q
theorem ZaQ {K:PySem.W.Frag} {h:Heap} {mg:Str → Option Value} (KX:K.In h) (G:h.Ns mainGlobals mg) {x:Str} {st:Stmt} {f:Addr} {oc:Value} {od an:Option Addr} {osl:Array (Option Value)} {dV kV doc pm cdv ct:Value}
  (a:PySem.W.nsIn K mainGlobals x = some (some (.ref f))) (l:K.lookup f = some ⟨oc,od,.func (PySem.W.fnOf x x (Zaq st) (Zah st) (Zh st) dV kV doc pm an cdv ct),osl⟩)
  (c:PySem.W.codeIn K cdv x = true) (k:PySem.W.keepIn K (.ref f) = true) {ps:List Str} (b:Binds K (PySem.W.fnOf x x (Zaq st) (Zah st) (Zh st) dV kV doc pm an cdv ct) ps []):ZaH K mg x st ps:=⟨f,_,ZnS l c k,PySem.W.mg_of KX G a,b⟩
theorem ZsG {l:PySem.W.OpenLaw} {k:Nat} {q:Program} {loose:List Str} {XP:(Str → Option Value) → Heap → Prop} {YP:World → Heap → Prop} {d:DefRec} {K:Params → PySem.W.Frag} {F:F3} (hn:l.most = some 63) (hdf:d.params.defaults = []) (hr:Zbr k callerA)
  (hY:∀ (w:World) (h:Heap),YP w h → (K w.params).In h)
  (G:∀ (w:World) (mg:Str → Option Value) (fa:Addr) (h:Heap),(K w.params).In h → h.Ns mainGlobals mg → mg d.name = some (.ref fa) →
   ∃ fd:FuncData,(∀ (s:Shared) (u:Value),BindsTo s fd ⟨[u],[]⟩ [("script",u)]) ∧ ∀ base:Heap,(K w.params).In base → base.Ns mainGlobals mg → ZcD l.prog w (K w.params) mg base CX0 k fa fd ["script"] (sp3 (K w.params) 1 F))
  (hF:∀ ns:List Int,ns.length ≤ 63 → ∃ M',F [.scr (ns.map D.int)] [] = .ok (.bl true) M'):
  PySem.W.WalkO q loose XP YP l.row.toRowW d [] (fun f vs=>PySem.call f vs):=
 L2.ZlG (n:=63) (k:=k) (x:="script") (CX:=fun _=>CX0) (sp:=fun w=>sp3 (K w.params) 1 F) hn (by decide) hdf hr hY G (fun w H a ns hl hO hS=>by
  obtain ⟨M',e⟩:=hF ns hl
  refine ⟨[],[],[.scr (ns.map D.int)],⟨rfl,List.nodup_nil,fun n o a h=>by simp at h⟩,Zy.cons ?_ Zy.nil,rfl,?_⟩
  ·simp only [Rep]
   refine ⟨a,ns.map V.int,rfl,?_,Zy.ints ns⟩
   rcases hS with (h | ⟨o,h⟩) | h
   ·rcases hO a with z | ⟨ob,xs,z⟩
    ·rw [h] at z; cases z
    ·rw [h] at z; cases z
   ·exact .inl ⟨o,h⟩
   ·exact .inr h
  ·rw [e]
   exact fun v H' ι' _ _ r=>r.bl_inv) fun _ _ _ _ _ z=>z
end L3
namespace L3
open PySem PySem.Spec PyProof.Rows L2
theorem Zkd {a b:Za5} (h:dk a = dk b):a = b:=by
 cases a with
 | inl i=>cases b with
  | inl j=>simp only [dk,Sum.inl.injEq] at h; rw [h]
  | inr y=>simp [dk] at h
 | inr x=>cases b with
  | inl j=>simp [dk] at h
  | inr y=>
   simp only [dk,Sum.inr.injEq,Str.mk.injEq] at h
   have:=congrArg Array.toList h
   simp at this
   rw [this]
theorem Zk8 {K:PySem.W.Frag} {H:Hp} {ι:List Addr} {b:D} {y:V} {k:Za5} (h:ZdD b = some k) (r:Rep K H ι b y):y = kV (dk k):=by
 cases b with
 | int i=>cases h; exact r.int_inv
 | str x=>cases h; exact r.str_inv
 | _=>exact nsm h
section
variable {K:PySem.W.Frag} {H H':Hp} {ι ι':List Addr} {M:Store} {p:Addr}
theorem KvR.nil:KvR K H ι [] []:=⟨rfl,Zy.nil⟩
theorem KvR.cons {k:Za5} {d:D} {v:V} {kvs:List (Za5 × D)} {ws:List (Key × V)} (h:Rep K H ι d v) (r:KvR K H ι kvs ws):KvR K H ι ((k,d) :: kvs) ((dk k,v) :: ws):=
 ⟨by simp [r.1],Zy.cons h r.2⟩
theorem KvR.cons_inv {q:Za5 × D} {kvs:List (Za5 × D)} {ws:List (Key × V)} (r:KvR K H ι (q :: kvs) ws):∃ v ws',ws = (dk q.1,v) :: ws' ∧ Rep K H ι q.2 v ∧ KvR K H ι kvs ws':=by
 obtain ⟨h1,h2⟩:=r
 cases ws with
 | nil=>simp at h1
 | cons w ws=>
  simp only [List.map_cons,List.cons.injEq] at h1
  obtain ⟨v,us,e,r1,r2⟩:=Zy.cons_inv h2
  simp only [List.map_cons,List.cons.injEq] at e
  exact ⟨w.2,ws,by rw [← h1.1],e.1 ▸ r1,h1.2,e.2 ▸ r2⟩
theorem KvR.nil_inv {ws:List (Key × V)} (r:KvR K H ι [] ws):ws = []:=by simpa using r.1
theorem KvR.mono {kvs:List (Za5 × D)} {ws:List (Key × V)} (r:KvR K H ι kvs ws) (e:Ext K H ι H' ι'):KvR K H' ι' kvs ws:=⟨r.1,r.2.mono e⟩
theorem KvR.length {kvs:List (Za5 × D)} {ws:List (Key × V)} (r:KvR K H ι kvs ws):ws.length = kvs.length:=by
 have:=congrArg List.length r.1
 simpa using this
theorem KvR.val {kvs:List (Za5 × D)} (k:Za5):∀ {ws:List (Key × V)},KvR K H ι kvs ws → match Zb9 kvs k with | some d=>∃ v,ZeM ws (dk k) = some v ∧ Rep K H ι d v | none=>ZeM ws (dk k) = none:=by
 induction kvs with
 | nil=>intro ws r; rw [r.nil_inv]; exact Zm7
 | cons q kvs ih=>
  intro ws r
  obtain ⟨v,ws',rfl,r1,r2⟩:=r.cons_inv
  obtain ⟨k',d⟩:=q
  unfold Zb9
  by_cases e:k' = k
  ·rw [if_pos e]
   exact ⟨v,Zg1 (by rw [e]),r1⟩
  ·rw [if_neg e,ZgR fun z=>e (Zkd z)]
   exact ih r2
theorem KvR.append {k1 k2:List (Za5 × D)} {w1 w2:List (Key × V)} (a:KvR K H ι k1 w1) (b:KvR K H ι k2 w2):KvR K H ι (k1 ++ k2) (w1 ++ w2):=
 ⟨by simp [a.1,b.1],by rw [List.map_append,List.map_append]; exact a.2.append b.2⟩
theorem KvR.any {kvs:List (Za5 × D)} (k:Za5):∀ {ws:List (Key × V)},KvR K H ι kvs ws → (ws.any fun kv=>decide (kv.1 = dk k)) = (kvs.any fun q=>decide (q.1 = k)):=by
 induction kvs with
 | nil=>intro ws r; rw [r.nil_inv]; rfl
 | cons q kvs ih=>
  intro ws r
  obtain ⟨v,ws',rfl,r1,r2⟩:=r.cons_inv
  rw [List.any_cons,List.any_cons,ih r2]
  congr 1
  by_cases e:q.1 = k
  ·simp [e]
  ·simp [e]; exact fun z=>e (Zkd z)
theorem KvR.put {kvs:List (Za5 × D)} {k:Za5} {d:D} {v:V} {ws:List (Key × V)} (r:KvR K H ι kvs ws) (rd:Rep K H ι d v):KvR K H ι (putD k d kvs) (putK ws (dk k) v):=by
 unfold putD putK
 rw [r.any k]
 by_cases c:(kvs.any fun q=>decide (q.1 = k)) = true
 ·rw [if_pos c,if_pos c]
  clear c
  induction kvs generalizing ws with
  | nil=>rw [r.nil_inv]; exact KvR.nil
  | cons q kvs ih=>
   obtain ⟨u,ws',rfl,r1,r2⟩:=r.cons_inv
   rw [List.map_cons,List.map_cons]
   by_cases e:q.1 = k
   ·rw [if_pos e,if_pos (by rw [e])]; exact KvR.cons rd (ih r2)
   ·rw [if_neg e,if_neg fun z=>e (Zkd z)]; exact KvR.cons r1 (ih r2)
 ·rw [if_neg c,if_neg c]
  exact r.append (KvR.cons rd KvR.nil)
theorem KvR.merge {l:List (Za5 × D)}:∀ {kvs:List (Za5 × D)} {ws us:List (Key × V)},KvR K H ι l us → KvR K H ι kvs ws → KvR K H ι (l.foldl (fun acc p=>putD p.1 p.2 acc) kvs) (Zhd ws us):=by
 induction l with
 | nil=>intro kvs ws us r r0; rw [r.nil_inv]; exact r0
 | cons q l ih=>
  intro kvs ws us r r0
  obtain ⟨v,us',rfl,r1,r2⟩:=r.cons_inv
  exact ih (ws:=putK ws (dk q.1) v) (us:=us') r2 (r0.put r1)
theorem Zag.dct (S:Zag K H ι M) (hp:H p = none) {kvs:List (Za5 × D)} {ws:List (Key × V)} (r:KvR K H ι kvs ws):Ext K H ι (upd H p (.dK ws)) (ι ++ [p]) ∧ Zag K (upd H p (.dK ws)) (ι ++ [p]) (M ++ [.dct kvs]) ∧ Rep K (upd H p (.dK ws)) (ι ++ [p]) (.ref M.length) (.ref p):=by
 have e:Ext K H ι (upd H p (.dK ws)) (ι ++ [p]):=Loose.extA (.inl hp)
 exact ⟨e,S.new hp ⟨ws,Zbm,r.mono e⟩,Rep.ref (by rw [← S.len]; simp)⟩
end
section
variable {X:Cx} {a b c e o:Expr} {es:List Expr} {pos p pos' apos cpos:Pos} {f g h:E3} {gl:EL3}
def ZrD (K:PySem.W.Frag) (H:Hp) (ι:List Addr) (Q:List (V × V) → Hp → Prop) (r:R3 (List (Za5 × D))):Prop:=match r with
 | .ok l M'=>∀ ws H' ι',Ext K H ι H' ι' → Zag K H' ι' M' → KvR K H' ι' l ws → Q (ws.map fun kv=>(kV kv.1,kv.2)) H'
 | _=>False
theorem ZrD.bind {K:PySem.W.Frag} {H:Hp} {ι:List Addr} {α:Type} {Q:List (V × V) → Hp → Prop} {r:R3 α} {k:α → Store → R3 (List (Za5 × D))} (h:ZrD K H ι Q (r.bind k)):∃ a M,r = .ok a M ∧ ZrD K H ι Q (k a M):=by
 cases r with
 | ok a M=>exact ⟨a,M,rfl,h⟩
 | exc x M=>exact h.elim
 | bad=>exact h.elim
theorem hu1 (hu:X.A.units + 80 < cLine):X.A.units + 1 < cLine:=lB 1 7331617893452817 T1 hu
theorem ZkB {K:PySem.W.Frag} {H:Hp} {ι:List Addr} {M:Store} (S:Zag K H ι M) {n:Nat} {kvs:List (Za5 × D)} {a:Addr} (h:Zcb M[n]? = some kvs) (ha:ι[n]? = some a):∃ ws,Rd H a (.dK ws) ∧ KvR K H ι kvs ws:=by
 cases hn:M[n]? with
 | none=>simp [hn] at h
 | some ob=>
  cases ob with
  | lst _=>simp [hn] at h
  | dct k=>
   have e:k = kvs:=by simpa [hn] using h
   subst e
   obtain ⟨ws,hw,kr⟩:=S.obj n _ a hn ha
   exact ⟨ws,.inl hw,kr⟩
  | fdct k=>
   have e:k = kvs:=by simpa [hn] using h
   subst e
   obtain ⟨ws,⟨o,hw⟩,kr⟩:=S.obj n _ a hn ha
   exact ⟨ws,.inr ⟨o,hw⟩,kr⟩
  | ins _ _=>simp [hn] at h
theorem ZoH {K:PySem.W.Frag} {op:D → D → D → Store → R3 D} {H:Hp} {ι:List Addr} {Q:VK} {env:Zaf} {M:Store} (h':Zz K H ι Q (e3 op f g h env M)):
  ∃ a M1 b M2 c M3,f env M = .ok a M1 ∧ g env M1 = .ok b M2 ∧ h env M2 = .ok c M3 ∧ Zz K H ι Q (op a b c M3):=by
 obtain ⟨a,M1,e1,h'⟩:=Zz.bind h'
 obtain ⟨b,M2,e2,h'⟩:=Zz.bind h'
 obtain ⟨c,M3,e3,h'⟩:=Zz.bind h'
 exact ⟨a,M1,b,M2,c,M3,e1,e2,e3,h'⟩
theorem Zjr {K:PySem.W.Frag} {H:Hp} {ι:List Addr} {D':Ends} {env:Zaf} {M:Store} {σ:St} (E:Za1 K H ι env σ) (h':Zem K H ι D' (ZaR f env M)):Zz K H ι (fun _ H'=>D'.nx σ H') (f env M):=by
 unfold ZaR at h'
 cases q:f env M with
 | ok d M1=>rw [q] at h'; exact fun v H1 ι1 x1 S1 r1=>h' σ H1 ι1 x1 S1 (E.mono x1)
 | exc x M1=>rw [q] at h'; exact h'.elim
 | bad=>rw [q] at h'; exact h'.elim
theorem Zgs {i:Expr} {spos:Pos} (ho:C3 X o f) (hi:C3 X i g) (hv:C3 X e h)
  (ha:∀ v,assign (.Subscript o i spos) X.env v = (do
   let ov ← holding [v] (eval o X.env)
   let iv ← holding [v,ov] (eval i X.env)
   standAt spos
   holding [v,ov,iv] (setItem ov iv v)
   release [v,ov,iv] []):=by intro _; rfl)
  (hs:swapsWithSole [.Subscript o i spos] e pos.line X.env = pure false:=by rfl) (hw:swappedStores [.Subscript o i spos] e X.env = pure none:=by rfl)
  (h1:(assignEach [.Subscript o i spos] X.env).map (·.2) = [assign (.Subscript o i spos) X.env]:=by rfl):CS X (.Assign [.Subscript o i spos] e pos) (Zeb f g h):=(Zki hv (Zp4 ho hi set_list ha) hs hw h1).imp fun D' σ H zz1=>by
 obtain ⟨ι,M,env,S,E,hh⟩:=zz1
 obtain ⟨d,M1,b,M2,k,M3,e1,e2,e3,hh⟩:=ZoH (Zjr E hh)
 refine ⟨ι,M,env,S,E,?_⟩
 rw [e1]
 intro v H1 ι1 x1 S1 r1
 refine ⟨ι1,M1,env,S1,E.mono x1,?_⟩
 rw [e2]
 intro x H2 ι2 x2 S2 r2
 refine ⟨ι2,M2,env,S2,(E.mono x1).mono x2,?_⟩
 rw [e3]
 intro y H3 ι3 x3 S3 r3
 cases b with
 | ref n=>
  cases k with
  | int j=>
   simp only [ZfH] at hh
   cases hn:M3[n]? with
   | none=>simp only [hn] at hh; exact hh.elim
   | some ob=>
    cases ob with
    | dct _=>simp only [hn] at hh; exact hh.elim
    | fdct _=>simp only [hn] at hh; exact hh.elim
    | ins _ _=>simp only [hn] at hh; exact hh.elim
    | lst xs=>
     simp only [hn] at hh
     cases hj:ixD xs.length j with
     | none=>simp only [hj] at hh; exact hh.elim
     | some q=>
      simp only [hj] at hh
      obtain ⟨ad,ha,rfl⟩:=(r2.mono x3).ref_inv
      obtain ⟨ws,hw,kr⟩:=S3.obj n _ ad hn ha
      obtain ⟨x4,S4⟩:=S3.setl (.inr (.inl ⟨_,hw⟩)) ha (kr.set q ((r1.mono x2).mono x3))
      exact ⟨ad,ws,j,q,rfl,r3.int_inv,hw,by rw [kr.length]; exact hj,hh .non _ _ (((x1.trans x2).trans x3).trans x4) S4 Rep.non⟩
  | _=>exact hh.elim
 | _=>exact hh.elim
end
end L3
namespace L3
open PySem PySem.Spec PyProof.Rows L2
section
variable {X:Cx} {a b c e o:Expr} {es:List Expr} {pos p apos cpos:Pos} {f g h:E3} {gl:EL3}
theorem Zq6 {K:PySem.W.Frag} {H:Hp} {ι:List Addr} {M:Store} (S:Zag K H ι M) {n:Nat} {a:Addr} (h:(Zcb M[n]?).isSome = true) (ha:ι[n]? = some a):IsD H a:=by
 cases hn:Zcb M[n]? with
 | none=>rw [hn] at h; cases h
 | some kvs=>
  obtain ⟨ws,hw,_⟩:=ZkB S hn ha
  exact .inl ⟨ws,hw⟩
theorem ZnW {K:PySem.W.Frag} {H:Hp} {ι:List Addr} {kvs:List (Za5 × D)} {ws:List (Key × V)} {d:D} {z:V} (kr:KvR K H ι kvs ws) (k:Za5) (rd:Rep K H ι d z):Rep K H ι ((Zb9 kvs k).getD d) ((ZeM ws (dk k)).getD z):=by
 have hv:=kr.val k
 cases q:Zb9 kvs k with
 | none=>rw [q] at hv; rw [hv]; exact rd
 | some w=>
  rw [q] at hv
  obtain ⟨v,ev,rv⟩:=hv
  rw [ev]; exact rv
theorem Zrg {e':Expr} (hu:X.A.units + 80 < cLine) (ho:C3 X o f) (he:C3 X e g) (he':C3 X e' h) (m:M2 X o "get" apos e e' cpos:=by exact ⟨rfl,rfl,rfl,rfl⟩):C3 X (.Call (.Attribute o "get" apos) [e,e'] [] cpos) (ZcR Zo7 ZmB f (Za g (Za h Zf))):=(ZmO (hu1 hu) ho he he' m).imp fun σ H Q zz1=>by
 obtain ⟨ι,M,env,S,E,hh⟩:=zz1
 obtain ⟨d,M1,e1,hh⟩:=Zz.bind hh
 refine ⟨ι,M,env,S,E,?_⟩
 rw [e1]
 intro x H1 ι1 x1 S1 r1
 cases d with
 | ref n=>
  by_cases hD:(Zcb M1[n]?).isSome = true
  ·simp only [Zix,hD,if_true] at hh
   obtain ⟨ad,ha,rfl⟩:=r1.ref_inv
   obtain ⟨ds,M2,e2,hh⟩:=Zz.bind hh
   refine ⟨ad,rfl,Zq6 S1 hD ha,ι1,M1,env,S1,E.mono x1,?_⟩
   cases q:g env M1 with
   | bad=>simp [q] at e2
   | exc x' M'=>simp [q] at e2
   | ok b M2'=>
    cases q':h env M2' with
    | bad=>simp [q,q'] at e2
    | exc x' M'=>simp [q,q'] at e2
    | ok b' M3'=>
     simp only [Za,q,q',R3.bind,Zf] at e2
     cases e2
     intro y H2 ι2 x2 S2 r2
     refine ⟨ι2,M2',env,S2,(E.mono x1).mono x2,?_⟩
     rw [q']
     intro z H3 ι3 x3 S3 r3
     simp only [Zlw,Zlt] at hh
     cases hn:Zcb M2[n]? with
     | none=>simp only [hn] at hh; exact hh.elim
     | some kvs=>
      cases hk:ZdD b with
      | none=>simp only [hn,hk] at hh; exact hh.elim
      | some kk=>
       simp only [hn,hk] at hh
       obtain ⟨ws,hw,kr⟩:=ZkB S3 hn (x3.pre _ _ (x2.pre _ _ ha))
       refine ⟨ZeM ws (dk kk),.inl ⟨ws,dk kk,hw,Zk8 hk r2,rfl⟩,hh _ H3 ι3 ((x1.trans x2).trans x3) S3 (ZnW kr kk r3)⟩
  ·simp only [Zix,hD] at hh; exact hh.elim
 | _=>exact hh.elim
end
section
variable {X:Cx} {pins:List (Addr × Obj)} {σ:St} {H:Hp} {s:Shared} {d:Addr} {ws:List (Key × V)} {ob:Obj}
end
section
variable {X:Cx} {tg e elt:Expr} {ifs:List Expr} {pos:Pos} {f fe:E3} {ts:List E3} {g:G3} {scope:Scope} {N':List Str} {own:Nat}
end
end L3
namespace L3
open PySem PySem.Spec PyProof.Rows L2
section
variable {prog:Program} {w:World} {A:Around} {E:Value → Shared → Prop} {s:Shared}
theorem Zmg:typeLookup (.type "tuple") (Str.ofString "keys") = pure none:=by rw [typeLookup_type,builtinLookup_eq_fast]; kernel_rfl
set_option maxRecDepth 8000 in
theorem Zjs {a:Addr} {o:Obj} {xs:Array Value} {k:Nat} {Q:Option Value → Shared → Prop} (hx:s.heap.get? a = some o) (hc:o.cls = .type "tuple") (hdat:o.data = .seq xs k) (hd:o.dict = none) (hA:A.handled = none)
  (h:∀ h' tk,(∀ b u,s.heap.get? b = some u → h'.get? b = some u) → Q none { s with heap:=h',toks:=tk }):wpAny (model prog w) A (getAttr? (.ref a) (Str.ofString "keys")) Q E s:=by
 obtain ⟨c,dct,dat,sl⟩:=o
 simp only at hc hdat hd
 subst hc hdat hd
 obtain ⟨hp,g,d,tk,os⟩:=s
 have hT:∀ tk',(⟨hp,g,d,tk',os⟩:Shared).TypeIs (.ref a) "tuple":=fun _=>⟨_,hx,rfl⟩
 have f1:=sub_AttributeError; have f3:=F.slot_tuple_getattribute.lookup; have f4:=F.slot_tuple_getattribute.bind (.ref a); have f5:=am_tuple_getattr_none
 unfold getAttr? getAttrBy? getAttrBy
 repeat (any_goals (first | assumption | exact hT _ | ((with_reducible show wpAny _ _ (call (Value.builtin "tuple.__getattribute__") _ _) _ _ _); refine call_meets F.slot_tuple_getattribute (hT _) am_entry_tuple_getattribute (F.args_tuple_getattribute_2 _ _) (meets_getattribute_miss_tuple a xs k sl _ _ Zmg (by decide) (by rw [sizeLine_eq]; decide)) ⟨hx,hA,fun h' tk' e hx'=>?_⟩) | wp_step))
 obtain ⟨t',u',he⟩:=hx'.there
 show wpAny _ _ (getattributeRaised _ _ _ _ _ _ _) _ _ _
 unfold getattributeRaised
 repeat (any_goals (first | assumption | wp_step))
 all_goals exact h _ _ hx'.of.keeps
theorem ZeB:entryFor table "dict.update.loop" = some Builtin.«dict.update.loop»:=entryFor_of_tree (by kernel_rfl)
theorem ZcH:plainId "dict.update.loop" = true:=by decide +kernel
def ZkA (prog:Program) (w:World) (h:Heap) (v:Value) (q:Key × Value):Prop:=∃ a o key n,v = .ref a ∧ h.get? a = some o ∧ o.cls = .type "tuple" ∧ o.data = .seq #[key,q.2] n ∧ (Za0 prog w).is q.1 key = true
theorem ZnO {d I ax:Addr} {items:Array Value} {ps:List (Key × Value)} {res:Value} (hh:A.in1.handled = none) (hne:ax ≠ I) (hdI:d ≠ I) (hda:d ≠ ax) (hl:ps.length = items.size) (hz:ps.length ≤ 100000):
  ∀ (k i:Nat) (s:Shared) (kvs:List (Key × Value)) {R:Result → Shared → Prop},items.size - i = k → i ≤ items.size → s.heap.IsTupleIter I ax i → s.heap.IsTuple ax items → s.heap.DictOf (Za0 prog w) d kvs → kvs.length ≤ i →
   (∀ (j:Nat) v q,items[j]? = some v → ps[j]? = some q → ZkA prog w s.heap v q ∧ v ≠ .ref d ∧ v ≠ .ref I) →
   (∀ h' tk,h'.DictOf (Za0 prog w) d (merged kvs (ps.drop i)) → (∀ b o,b ≠ d → b ≠ I → s.heap.get? b = some o → h'.get? b = some o) → R (.ok (.ret res)) { s with heap:=h',toks:=tk }) →
   codeAny (model prog w) A (.builtin "dict.update.loop" ⟨[.ref d,.ref I,rawInt i,res],[]⟩) R s:=by
 have W:=Walks.tuple (prog:=prog) (w:=w) hh I ax hne items
 intro k
 induction k with
 | zero=>
  intro i s kvs R hk hi st tup dd hkl hp hR
  have hin:i = items.size:=Nat.le_antisymm hi (lC 2 580682816544801 T1 hk (sbA _ _))
  subst hin
  refine codeAny_builtin ZeB ?_
  rw [Around.under_plainId ZcH _]
  show wpAny _ A.in1 (pyNext (.ref I) >>= _) _ _ s
  refine wpAny_bind (W.done s _ _ ⟨st,tup⟩ fun h' tk kk=>?_)
  show wpAny _ A.in1 (Builtin.Dict.addKeywords d [] >>= _) _ _ _
  refine wpAny_bind (wpAny_pure (wpAny_pure (hR h' tk ?_ fun b o hb hI e=>kk b o (by simpa using hI) e)))
  rw [List.drop_of_length_le (Nat.le_of_eq hl)]
  obtain ⟨o,es,ep,ho,r⟩:=dd
  exact ⟨o,es,ep,kk d o (by simpa using hdI) ho,r⟩
 | succ k ih=>
  intro i s kvs R hk hi st tup dd hkl hp hR
  have hlt:i < items.size:=lD 2 0x321320c21a1c031 T1 hk (Nat.sub_add_cancel hi)
  have hv:items[i]? = some items[i]:=by simp [hlt]
  have hq:ps[i]? = some (ps[i]'(by omega)):=by simp [show i < ps.length by omega]
  refine codeAny_builtin ZeB ?_
  rw [Around.under_plainId ZcH _]
  show wpAny _ A.in1 (pyNext (.ref I) >>= _) _ _ s
  refine wpAny_bind (W.item i s _ _ hlt ⟨st,tup⟩ fun v h1 tk1 hP st1 kk1=>?_)
  rw [hv] at hP
  cases hP
  obtain ⟨⟨a,o,key,n,ev,ho,hc,hd,hkey⟩,nd,nI⟩:=hp i _ _ hv hq
  have haI:a ≠ I:=fun z=>nI (by rw [ev,z])
  have had:a ≠ d:=fun z=>nd (by rw [ev,z])
  have ho1:h1.get? a = some o:=kk1 a o (by simpa using haI) ho
  have dd1:h1.DictOf (Za0 prog w) d kvs:=by
   obtain ⟨o',es,ep,ho',r⟩:=dd
   exact ⟨o',es,ep,kk1 d o' (by simpa using hdI) ho',r⟩
  rw [ev]
  generalize ps[i]'(lC 2 2203623428113 T1 hlt hl) = q at hq hkey hd
  dsimp only
  refine wpAny_bind (wpAny_holding (wpAny_bind (wpAny_tryCatch ?_)))
  unfold Builtin.Dict.pairItems
  refine wpAny_bind (wpAny_typeOf (T:="tuple") ⟨o,ho1,hc⟩ ?_)
  rw [if_pos (by decide)]
  refine wpAny_bind ?_
  unfold seqItems?
  refine wpAny_bind (wpAny_load ho1 ?_)
  rw [hd]
  refine wpAny_pure (wpAny_pure ?_)
  show wpAny _ A.in1 (holding [key,q.2] (dictSet d key q.2)) _ _ _
  refine wpAny_holding (wpAny_dictSet_pairs hkey dd1 (fun h2 dd2 sb=>?_) (by rw [sizeLine_eq]; exact lD 4 0x10000007b201331186a05b30102011011 T1 hlt hkl hz hl))
  refine wpAny_pure ⟨plainId_quiet ZcH _,?_⟩
  show codeAny (model prog w) A (.builtin "dict.update.loop" ⟨[.ref d,.ref I,rawInt ((i:Int) + 1),res],[]⟩) R _
  have e1:((i:Int) + 1) = ((i + 1:Nat):Int):=rfl
  rw [e1]
  have k2:∀ b u,b ≠ d → b ≠ I → s.heap.get? b = some u → h2.get? b = some u:=fun b u hb hI e=>(sb.2 b hb).trans (kk1 b u (by simpa using hI) e)
  refine ih (i + 1) _ (stored kvs q.1 q.2) (Nat.le_antisymm (lE 3 0x12030c4014a3c2c21a1c021 T1 hk (Nat.sub_add_cancel (lB 1 6991908881 T1 hlt)) (sbA _ _)) (lE 3 0x310240c21a4c3c201a1c031 T1 hk (sbA _ _) (Nat.sub_add_cancel (Nat.le_of_lt hlt)))) hlt ?_ ?_ dd2 ?_ ?_ ?_
  ·obtain ⟨o',e',r⟩:=st1.1
   exact ⟨o',(sb.2 I (Ne.symm hdI)).trans e',r⟩
  ·obtain ⟨o',e',r⟩:=st1.2
   exact ⟨o',(sb.2 ax (Ne.symm hda)).trans e',r⟩
  ·have:=(show (stored kvs q.1 q.2).length ≤ kvs.length + 1 from by unfold stored; split <;> simp)
   exact lC 2 0xa2c002101a1c001 T1 this hkl
  ·intro j v q' hj hq'
   obtain ⟨⟨a',o',key',n',ev',ho',r⟩,nd',nI'⟩:=hp j v q' hj hq'
   exact ⟨⟨a',o',key',n',ev',k2 a' o' (fun z=>nd' (by rw [ev',z])) (fun z=>nI' (by rw [ev',z])) ho',r⟩,nd',nI'⟩
  ·intro h' tk dd' kk'
   refine hR h' tk ?_ fun b u hb hI e=>kk' b u hb hI (k2 b u hb hI e)
   have hq2:ps.drop i = q :: ps.drop (i + 1):=by rw [List.drop_eq_getElem_cons (by exact lC 2 2203623428113 T1 hlt hl)]; congr 1; rw [List.getElem?_eq_getElem (by exact lC 2 2203623428113 T1 hlt hl)] at hq; exact Option.some.inj hq
   rw [hq2]
   exact dd'
theorem Zj0 {ax:Addr} {items:Array Value} {ps:List (Key × Value)} {Q:Value → Shared → Prop} (hA:A.handled = none) (ht:Zdg s.heap ax items) (hl:ps.length = items.size) (hz:ps.length ≤ 100000)
  (hp:∀ (j:Nat) v q,items[j]? = some v → ps[j]? = some q → ZkA prog w s.heap v q)
  (h:∀ h' tk,h'.DictOf (Za0 prog w) s.heap.objs.size (merged [] ps) → (∀ b o,s.heap.get? b = some o → h'.get? b = some o) → Q (.ref s.heap.objs.size) { s with heap:=h',toks:=tk }):
  wpAny (model prog w) A (call (.type "dict") [.ref ax]) Q E s:=by
 obtain ⟨o,ho,⟨hc,hdn⟩,n,hdat⟩:=id ht
 have hlt:ax < s.heap.objs.size:=Heap.lt_size ho
 refine callType_codes (Q₁:=fun obj s₁=>obj = .ref s.heap.objs.size ∧ s₁ = { s with heap:=s.heap.push { cls:=.type "dict",data:=.dict #[] } }) F.kt_called_dict (F.kt_typeCall_dict_1 _) F.entry_dict_init (kt_code_dict_new _ ⟨rfl,rfl⟩) ?_
 rintro obj s₁ ⟨rfl,rfl⟩
 have hnew:(s.heap.push { cls:=.type "dict",data:=.dict #[] }).DictOf (Za0 prog w) s.heap.objs.size []:=Heap.DictOf.new s.heap
 have hk1:∀ b u,s.heap.get? b = some u → (s.heap.push { cls:=.type "dict",data:=.dict #[] }).get? b = some u:=fun b u q=>Heap.get?_push_of_some _ q
 refine ⟨hnew.typeIs,F.args_dict_init_2 _ _,?_⟩
 unfold Builtin.«dict.__init__»
 refine wpAny_bind ?_; unfold Builtin.Dict.selfAndRest
 refine wpAny_bind (wpAny_notOrdered_dict hnew.typeIs ?_); show wpAny _ _ (pure (s.heap.objs.size,[Value.ref ax])) _ _ _
 refine wpAny_pure ?_; show wpAny _ _ (Builtin.Dict.updateFrom "dict.__init__" s.heap.objs.size (.ref ax) [] .none) _ _ _
 unfold Builtin.Dict.updateFrom
 refine wpAny_bind (wpAny_typeOf (T:="tuple") ⟨o,hk1 _ _ ho,hc⟩ ?_)
 rw [if_pos (by decide)]
 refine wpAny_bind (Zjs (hk1 _ _ ho) hc hdat hdn hA fun h2 tk2 k2=>?_)
 simp only [Option.isNone_none,if_true]
 refine wpAny_bind (wpAny_rule ?_)
 have d2:h2.DictOf (Za0 prog w) s.heap.objs.size []:=by
  obtain ⟨o',es,ep,ho',r⟩:=hnew
  exact ⟨o',es,ep,k2 _ _ ho',r⟩
 have t2:h2.IsTuple ax items:=⟨o,k2 _ _ (hk1 _ _ ho),hc,n,hdat⟩
 have l2:s.heap.objs.size < h2.objs.size:=by obtain ⟨o',_,_,ho',_⟩:=d2; exact Heap.lt_size ho'
 refine wpAny_bind (wpAny_pyIter_tuple t2 ?_)
 have k3:∀ b u,h2.get? b = some u → (h2.push { cls:=.type "tuple_iterator",data:=.fields #[.ref ax,.int 0 0] }).get? b = some u:=fun b u q=>Heap.get?_push_of_some _ q
 have t3:(h2.push { cls:=.type "tuple_iterator",data:=.fields #[.ref ax,.int 0 0] }).IsTuple ax items:=by obtain ⟨o',e',r⟩:=t2; exact ⟨o',k3 _ _ e',r⟩
 have d3:(h2.push { cls:=.type "tuple_iterator",data:=.fields #[.ref ax,.int 0 0] }).DictOf (Za0 prog w) s.heap.objs.size []:=by obtain ⟨o',es,ep,ho',r⟩:=d2; exact ⟨o',es,ep,k3 _ _ ho',r⟩
 refine wpAny_pure ⟨plainId_quiet ZcH _,ZnO (prog:=prog) (w:=w) (A:=A.in1) (ax:=ax) (items:=items) (ps:=ps) hA (Nat.ne_of_lt (Nat.lt_trans hlt l2)) (Nat.ne_of_lt l2) (Nat.ne_of_gt hlt) hl hz items.size 0 _ [] (Nat.le_antisymm ((Nat.sub_le _ _)) (lB 1 4309762049 T1 (sbA _ _))) (Nat.zero_le _) ⟨_,Heap.get?_push_size _ rfl,rfl,rfl⟩ t3 d3 (Nat.zero_le _) (fun j v q hj hq=>?_) fun h' tk dd' kk'=>?_⟩
 ·obtain ⟨a,o',key,n',ev,ho',r⟩:=hp j v q hj hq
  have hla:a < s.heap.objs.size:=Heap.lt_size ho'
  refine ⟨⟨a,o',key,n',ev,k3 _ _ (k2 _ _ (hk1 _ _ ho')),r⟩,fun z=>?_,fun z=>?_⟩
  ·rw [ev] at z; injection z with z; exact absurd hla (by rw [z]; exact Nat.lt_irrefl _)
  ·rw [ev] at z; injection z with z; exact absurd (Nat.lt_trans hla l2) (by rw [z]; exact Nat.lt_irrefl _)
 ·refine ⟨rfl,h h' tk dd' fun b u q=>kk' b u (Nat.ne_of_lt (Heap.lt_size q)) (Nat.ne_of_lt (Nat.lt_trans (Heap.lt_size q) l2)) (k3 _ _ (k2 _ _ (hk1 _ _ q)))⟩
end
section
variable {X:Cx}
theorem Zkk {d:D} {x:List D} {l:List (Za5 × D)} (h:ZcY (d :: x) = some l):∃ a b k l',d = .tup [a,b] ∧ ZdD a = some k ∧ ZcY x = some l' ∧ l = (k,b) :: l':=by
 cases d with
 | tup ds=>cases ds with
  | nil=>exact nsm h
  | cons a ds=>cases ds with
   | nil=>exact nsm h
   | cons b ds=>cases ds with
    | cons _ _=>exact nsm h
    | nil=>
     have h:(match ZdD a with | some k=>(ZcY x).map fun l=>(k,b) :: l | none=>none) = some l:=h
     cases hk:ZdD a with
     | none=>rw [hk] at h; exact nsm h
     | some k=>
      rw [hk] at h
      cases hx:ZcY x with
      | none=>rw [hx] at h; exact nsm h
      | some l'=>rw [hx] at h; exact ⟨a,b,k,l',rfl,hk,rfl,(Option.some.inj h).symm⟩
 | _=>exact nsm h
def Zi1 (X:Cx) (H:Hp) (s:Shared) (ι:List Addr) (l:List (Za5 × D)) (us:List Value):Prop:=
  ∃ (ws:List (Key × V)) (ps:List (Key × Value)),KvR X.K H ι l ws ∧ KV ws ps ∧ ps.length = us.length ∧ ∀ (j:Nat) v q,us[j]? = some v → ps[j]? = some q → ZkA X.prog X.w s.heap v q
theorem Zkq {pins:List (Addr × Obj)} {σ:St} {H:Hp} {s:Shared} {ι:List Addr} (I:Inv X pins σ H s) {a b:D} {k:Za5} {l:List (Za5 × D)} {u:V} {z:Value} {us:List Value} (hk:ZdD a = some k) (r:Rep X.K H ι (.tup [a,b]) u) (rz:RelV u z) (h:Zi1 X H s ι l us):Zi1 X H s ι ((k,b) :: l) (z :: us):=by
 obtain ⟨ws,ps,kr,kv,lp,hp⟩:=h
 obtain ⟨ad,xs,eu,sq,rr⟩:=r.tup_inv
 rw [eu] at rz
 obtain ⟨ya,ys,rfl,ra,rr⟩:=rr.cons_inv
 obtain ⟨yb,ys,rfl,rb,rr⟩:=rr.cons_inv
 rw [rr.nil_inv] at sq
 obtain ⟨its,rv,⟨o,ho,hc,n,hd⟩,_⟩:=I.tuple sq
 cases rv with
 | @cons _ u1 _ _ q1 rv=>
 cases rv with
 | @cons _ u2 _ _ q2 rv=>
 cases rv
 refine ⟨(dk k,yb) :: ws,(dk k,u2) :: ps,KvR.cons rb kr,.cons ⟨rfl,q2⟩ kv,congrArg Nat.succ lp,fun j v q hj hq=>?_⟩
 cases j with
 | zero=>
  rw [← Option.some.inj hj,← Option.some.inj hq]
  exact ⟨ad,o,u1,n,rz,ho,hc,hd,Zoh (by rw [← Zk8 hk ra]; exact q1)⟩
 | succ j=>exact hp j v q hj hq
theorem pairs_at {pins:List (Addr × Obj)} {σ:St} {H:Hp} {s:Shared} {ι:List Addr} (I:Inv X pins σ H s) {x:List D} {l:List (Za5 × D)} {vs:List V} {us:List Value} (h:ZcY x = some l) (r:Zy X.K H ι x vs) (v:Vals vs us):Zi1 X H s ι l us:=by
 induction x generalizing l vs us with
 | nil=>
  rw [r.nil_inv] at v
  cases v
  rw [← Option.some.inj h]
  exact ⟨[],[],KvR.nil,.nil,rfl,fun j v q h=>nsm h⟩
 | cons d x ih=>
  obtain ⟨a,b,k,l',ed,hk,hx,el⟩:=Zkk h
  obtain ⟨u,vs',ev,r1,r2⟩:=r.cons_inv
  rw [ev] at v
  rw [ed] at r1
  rw [el]
  cases v with
  | cons rz rzs=>exact Zkq I hk r1 rz (ih hx r2 rzs)
theorem Zqk (hc:X.calm = true):Zb2 X (.type "dict") (rB X.K Zh6):=by
 intro pins s σ H xs us Q I rs ⟨ι,M,ds,S,rd,h⟩
 cases ds with
 | nil=>exact h.elim
 | cons d ds=>
  cases ds with
  | cons _ _=>cases d <;> exact h.elim
  | nil=>
   obtain ⟨x,rfl,r⟩:=Zfn rd
   obtain ⟨u,rfl,ru⟩:=vals1 rs
   cases d with
   | ref n=>
    cases hn:Zcb M[n]? with
    | none=>rw [ZfD,hn] at h; exact h.elim
    | some kvs=>
     simp only [ZfD,ZgL,hn] at h
     obtain ⟨a,ha,rfl⟩:=r.ref_inv
     cases ru
     obtain ⟨ws,hw,kr⟩:=ZkB S hn ha
     refine Zn8 I hw fun p s' hp I'=>⟨.ref p,_,I',rfl,?_⟩
     obtain ⟨x2,S2,r2⟩:=S.dct hp kr
     exact h _ _ _ x2 S2 r2
   | tup z=>
    simp only [ZfD,ZgL] at h
    cases hp:ZcY z with
    | none=>rw [hp] at h; exact h.elim
    | some l=>
     rw [hp] at h
     dsimp only at h
     split at h
     ·rename_i hz
      obtain ⟨a,vs,rfl,sq,rr⟩:=r.tup_inv
      cases ru
      obtain ⟨its,rv,ht,_⟩:=I.tupleN sq
      obtain ⟨ws,ps,kr,kv,lp,hpp⟩:=pairs_at I hp rr rv
      have hl:ps.length = l.length:=by rw [← kv.length,kr.length]
      refine Zj0 (ps:=ps) (I.ok.hd hc) ht (by simpa using lp) (by rw [hl]; exact hz) (fun j v q hj hq=>hpp j v q (by simpa using hj) hq) fun h' tk dd kk=>⟨.ref s.heap.objs.size,upd H s.heap.objs.size (.dK (Zhd [] ws)),?_,rfl,?_⟩
      ·have hm:=kv.merge (kvs:=[]) (vs:=[]) .nil
       refine I.laid kk (Nat.le_refl _) (Zmy ?_ (beq_eq_false_iff_ne.mpr (Ne.symm (Nat.ne_of_lt I.big))) hm dd)
       have h1:=ZeV ws []
       rw [List.length_nil] at h1
       rw [sizeLine_eq]
       have:=kr.length
       exact lC 3 0x10000007b20186a05b1010ec2011021 T1 this h1 hz
      ·obtain ⟨x2,S2,r2⟩:=S.dct (I.hok.fresh (Nat.le_refl _)) (KvR.merge (kvs:=[]) (ws:=[]) kr KvR.nil)
       exact h _ _ _ x2 S2 r2
     ·exact h.elim
   | _=>exact h.elim
end
end L3
namespace L3
open PySem PySem.Spec PyProof.Rows L2
theorem ZoY {X:Cx} {sts:List Stmt}:CSs X sts Zow:=fun _ _ _ _ _ _ ⟨_,_,_,_,_,h⟩=>h.elim
end L3
namespace L3
open PySem PySem.Spec PyProof.Rows L2
section
variable {X:Cx} {a b c e o:Expr} {es:List Expr} {pos p p1 p2 p3 pt apos cpos:Pos} {f g h:E3} {gl:EL3}
theorem ZoZ (K:PySem.W.Frag) (t:String) (T1 T2:Ty3) (ht:t ∈ ["NoneType","bool","int","str","list","tuple","dict"]):
  PySem.W.kitAny K (.type t) [.type (tyN T1),.type (tyN T2)] = some ((t == tyN T1 || (t == "bool" && tyN T1 == "int")) || (t == tyN T2 || (t == "bool" && tyN T2 == "int"))):=by
 simp only [List.mem_cons,List.not_mem_nil,or_false] at ht
 rcases ht with rfl | rfl | rfl | rfl | rfl | rfl | rfl <;> cases T1 <;> cases T2 <;> kernel_rfl
theorem Zis {pins:List (Addr × Obj)} {σ:St} {H:Hp} {s:Shared} {ι:List Addr} {M:Store} {d:D} {x:V} {u:Value} (I:Inv X pins σ H s) (S:Zag X.K H ι M) (r:Rep X.K H ι d x) (ru:RelV x u) (hd:Zeq .int d M ≠ none):
  ∃ (t:String) (Hc:Heap → Prop),PySem.W.KitX X.K u (.type t) Hc ∧ Hc s.heap ∧ u ≠ .builtin "__main__.__loader__#opaque" ∧ t ∈ ["NoneType","bool","int","str","list","tuple","dict"] ∧ ∀ T b,Zeq T d M = some b → b = (t == tyN T || (t == "bool" && tyN T == "int")):=by
 cases d with
 | non=>
  have:=r.non_inv; subst this
  cases (show u = Value.none from ru)
  exact ⟨"NoneType",_,PySem.W.kitx_none,True.intro,(fun z=>nomatch z),by simp,fun T b e=>by
   have hb:b = false:=by simpa  using e.symm
   subst hb; cases T <;> rfl⟩
 | bl c=>
  have:=r.bl_inv; subst this
  cases (show u = Value.bool c from ru)
  exact ⟨"bool",_,PySem.W.kitx_bool,True.intro,(fun z=>nomatch z),by simp,fun T b e=>by
   have hb:b = (T == .bool || T == .int):=by simpa  using e.symm
   subst hb; cases T <;> rfl⟩
 | int i=>
  have:=r.int_inv; subst this
  obtain ⟨t,q⟩:=(show ∃ t,u = Value.int i t from ru); cases q
  exact ⟨"int",_,PySem.W.kitx_int,True.intro,(fun z=>nomatch z),by simp,fun T b e=>by
   have hb:b = (T == .int):=by simpa  using e.symm
   subst hb; cases T <;> rfl⟩
 | str z=>
  have:=r.str_inv; subst this
  obtain ⟨t,q⟩:=(show ∃ t,u = Value.str _ t from ru); cases q
  exact ⟨"str",_,PySem.W.kitx_str,True.intro,(fun z=>nomatch z),by simp,fun T b e=>by
   have hb:b = (T == .str):=by simpa  using e.symm
   subst hb; cases T <;> rfl⟩
 | tup ds=>
  obtain ⟨a,vs,rfl,st,rr⟩:=r.tup_inv
  cases ru
  obtain ⟨its,_,pt,_⟩:=I.tuple st
  obtain ⟨o,h1,h2,_⟩:=pt
  exact ⟨"tuple",_,PySem.W.kitx_tuple,⟨o,h1,h2⟩,(fun z=>nomatch z),by simp,fun T b e=>by
   have hb:b = (T == .tuple):=by simpa  using e.symm
   subst hb; cases T <;> rfl⟩
 | scr ds=>exact absurd (by simp ) hd
 | ref n=>
  simp only [Zlb,ZlD,ZkR,Zll,Zk1,Zly,Zk7] at hd
  cases hn:M[n]? with
  | none=>exact absurd (by simp [hn]) hd
  | some o=>
   obtain ⟨a,ha,rfl⟩:=r.ref_inv
   cases o with
   | lst z=>
    obtain ⟨vs,ev,_⟩:=S.obj n _ a hn ha
    cases (show u = Value.ref a from ru)
    obtain ⟨_,_,n',_,h1⟩:=(show Za7 X.prog X.w H s.heap a (.lst vs) from I.hok a _ ev)
    exact ⟨"list",_,PySem.W.kitx_list,⟨_,h1,rfl⟩,(fun z=>nomatch z),by simp,fun T b e=>by
     have hb:b = (T == .list):=by simpa [hn] using e.symm
     subst hb; cases T <;> rfl⟩
   | dct z=>
    obtain ⟨vs,ev,_⟩:=S.obj n _ a hn ha
    cases (show u = Value.ref a from ru)
    obtain ⟨_,_,vs',_,q⟩:=(show Za7 X.prog X.w H s.heap a (.dK vs) from I.hok a _ ev)
    obtain ⟨o,es,ep,h1,h2,_⟩:=q
    exact ⟨"dict",_,PySem.W.kitx_dict,⟨o,h1,h2.1⟩,(fun z=>nomatch z),by simp,fun T b e=>by
     have hb:b = false:=by simpa [hn] using e.symm
     subst hb; cases T <;> rfl⟩
   | fdct z=>exact absurd (by simp [hn]) hd
   | ins _ _=>exact absurd (by simp [hn]) hd
theorem Zlc (T1 T2:Ty3) {x y:Str} {k} (hm:X.mg "isinstance" = none) (hm1:X.mg x = none) (hm2:X.mg y = none) (h:C3 X a f) (hx:x = (Str.ofString (tyN T1)):=by rfl) (hy:y = (Str.ofString (tyN T2)):=by rfl) (hg:Gl X "isinstance":=by rfl) (hg1:Gl X x:=by rfl) (hg2:Gl X y:=by rfl)
  (hn:x ≠ "__name__":=by decide) (hd:(x == ("__debug__":Str)) = false:=by decide) (hn':y ≠ "__name__":=by decide) (hd':(y == ("__debug__":Str)) = false:=by decide)
  (hs:starEach (a :: [.Tuple [.Name x p1,.Name y p2] k pt]) X.env = (false,eval a X.env) :: starEach [.Tuple [.Name x p1,.Name y p2] k pt] X.env:=by rfl) (hs1:starEach (.Tuple [.Name x p1,.Name y p2] k pt :: []) X.env = (false,eval (.Tuple [.Name x p1,.Name y p2] k pt) X.env) :: starEach [] X.env:=by rfl)
  (hs2:starEach (.Name x p1 :: [.Name y p2]) X.env = (false,eval (.Name x p1) X.env) :: starEach [.Name y p2] X.env:=by rfl) (hs3:starEach (.Name y p2 :: []) X.env = (false,eval (.Name y p2) X.env) :: starEach [] X.env:=by rfl)
  (hpl:(backTo pos (starEach [.Tuple [.Name x p1,.Name y p2] k pt] X.env)).any (·.1) = false:=by rfl):C3 X (.Call (.Name "isinstance" p) [a,.Tuple [.Name x p1,.Name y p2] k pt] [] pos) (e1 (Zfs T1 T2) f):=by
 subst hx hy
 have hc:Zb2 X (.builtin "isinstance") (fun xs H Q=>∃ ι M d x q,xs = [x,.ref q] ∧ H q = some (.tup [.ty (tyN T1),.ty (tyN T2)]) ∧ Zag X.K H ι M ∧ Rep X.K H ι d x ∧ Zz X.K H ι Q (Zfs T1 T2 d M)):=by
  intro pins s σ H xs us Q I r q
  obtain ⟨ι,M,d,x,tp,rfl,et,S,rd,q⟩:=q
  obtain ⟨u,w',rfl,ru,rw'⟩:=vals2 r
  cases rw'
  unfold Zfs at q
  cases e1:Zeq T1 d M with
  | none=>rw [e1] at q; exact q.elim
  | some b1=>
   cases e2:Zeq T2 d M with
   | none=>rw [e1,e2] at q; exact q.elim
   | some b2=>
    rw [e1,e2] at q
    have hd:Zeq .int d M ≠ none:=fun z=>by
     cases d with
     | ref n=>
      simp only [Zlb,ZlD,ZkR,Zll,Zk1,Zly,Zk7] at z e1
      cases hn:M[n]? with
      | none=>simp [hn] at e1
      | some o=>cases o <;> simp [hn] at z e1
     | scr _=>simp  at e1
     | _=>simp  at z
    obtain ⟨t,Hc,kx,hh,hl,ht,hb⟩:=Zis I S rd ru hd
    obtain ⟨_,its,rt,pt⟩:=(show Za7 X.prog X.w H s.heap tp (.tup [.ty (tyN T1),.ty (tyN T2)]) from I.hok tp _ et)
    obtain ⟨v1,v2,rfl,q1,q2⟩:=vals2 rt
    cases q1; cases q2
    obtain ⟨ob,g1,⟨g2,g3⟩,n,g4⟩:=pt
    have ho:ob = { cls:=.type "tuple",dict:=ob.dict,data:=.seq [.type (tyN T1),.type (tyN T2)].toArray n,slots:=ob.slots }:=by
     cases ob; simp only at g2 g4; subst g2 g4; rfl
    rw [ho] at g1
    refine PySem.W.kia_tup kx I.kIn hh g1 ((ZoZ X.K t T1 T2 ht).trans ?_) hl fun tk=>⟨.bl (b1 || b2),H,I.tok _,rfl,Zz.ok q S Rep.bl⟩
    rw [hb T1 b1 e1,hb T2 b2 e2]
 refine (Zey hc hg hm ZcO (Zcf h (Zcf (Zj2 (Zcf (Zgq hg1 hm1 (Zn3 T1) (v:=.ty (tyN T1)) rfl hn hd) (Zcf (Zgq hg2 hm2 (Zn3 T2) (v:=.ty (tyN T2)) rfl hn' hd') Ze4 hs3) hs2)) Ze4 hs1) hs) (by decide) (by decide) hs hpl).imp fun σ H Q zz1=>?_
 obtain ⟨ι,M,env,S,E,h⟩:=zz1
 obtain ⟨d,M1,e1,h⟩:=Zz.bind h
 refine ⟨ι,M,env,S,E,?_⟩
 rw [e1]
 intro v H1 ι1 x1 S1 r1
 refine ⟨by simp; exact Nat.le_trans (by decide) ZbS,fun q hq=>?_⟩
 have x2:Ext X.K H1 ι1 (upd H1 q (.tup [.ty (tyN T1),.ty (tyN T2)])) ι1:=Loose.ext (.inl hq)
 exact ⟨ι1,M1,d,v,q,rfl,Zbm,S1.other (.inl hq) (S1.fresh hq),r1.mono x2,h.up (x1.trans x2)⟩
end
end L3
namespace L3
open PySem PySem.Spec PyProof.Rows L2
section
variable {X:Cx} {tg e:Expr} {pos:Pos} {f:E3} {g:G3}
theorem ZqM (he:C3 X e f) (hg:CG X tg g) (hs:swapsWithSole [tg] e pos.line X.env = pure false:=by rfl) (hw:swappedStores [tg] e X.env = pure none:=by rfl)
  (h1:(assignEach [tg] X.env).map (·.2) = [assign tg X.env]:=by rfl):CS X (.Assign [tg] e pos) (Zmb f g):=(Zki he hg hs hw h1).imp fun D σ H zz1=>by
 obtain ⟨ι,M,env,S,E,h⟩:=zz1
 refine ⟨ι,M,env,S,E,?_⟩
 unfold Zmb at h
 cases q:f env M with
 | ok d M1=>
  rw [q] at h
  cases qg:g d env with
  | none=>simp only [qg] at h; exact h.elim
  | some env1=>
   simp only [qg] at h
   exact fun v H1 ι1 x1 S1 r1=>⟨ι1,M1,env,d,env1,S1,E.mono x1,r1,qg,fun σ' E'=>h σ' H1 ι1 x1 S1 E'⟩
 | exc x M1=>rw [q] at h; exact h.elim
 | bad=>rw [q] at h; exact h.elim
end
section
variable {X:Cx} {tg e elt:Expr} {ifs:List Expr} {pos:Pos} {f fe:E3} {ts:List E3} {g:G3} {scope:Scope} {N':List Str} {own:Nat}
end
def Zr8 (K:PySem.W.Frag) (H:Hp) (ι:List Addr) (it:ItL) (J:It):Prop:=∀ (i:Nat) H2 ι2 M2,Ext K H ι H2 ι2 → Zag K H2 ι2 M2 → Zc2 it.lk M2 = true →
 (∀ d,it.items[i]? = some d → J.go i H2 ∧ ∀ x H3,J.yld i H2 x H3 → Ext K H2 ι2 H3 ι2 ∧ Zag K H3 ι2 M2 ∧ Rep K H3 ι2 d x) ∧ (i = it.items.length → J.stop i H2)
def ZjH (K:PySem.W.Frag) (H:Hp) (ι:List Addr) (R:It → Hp → Prop) (r:R3 ItL):Prop:=match r with
 | .ok it M'=>∀ J H' ι',Ext K H ι H' ι' → Zag K H' ι' M' → Zr8 K H' ι' it J → R J H'
 | _=>False
def tIL (K:PySem.W.Frag) (g:IL3):TI:=fun σ H R=>∃ ι M env,Zag K H ι M ∧ Za1 K H ι env σ ∧ ZjH K H ι R (g env M)
def CIL (X:Cx) (tg e:Expr) (g:IL3):Prop:=PI X tg e (tIL X.K g)
theorem ZjH.bind {K:PySem.W.Frag} {H:Hp} {ι:List Addr} {α:Type} {Q:It → Hp → Prop} {r:R3 α} {k:α → Store → R3 ItL} (h:ZjH K H ι Q (r.bind k)):∃ a M,r = .ok a M ∧ ZjH K H ι Q (k a M):=by
 cases r with
 | ok a M=>exact ⟨a,M,rfl,h⟩
 | exc x M=>exact h.elim
 | bad=>exact h.elim
section
variable {X:Cx} {tg:Expr} {pos:Pos}
theorem Zpi {iter:Expr} {body:List Stmt} {i:IL3} {g:G3} {u:S3} (hxe:X.xe = fun _ _=>False) (hc:X.calm = true) (hi:CIL X tg iter i) (hg:CG X tg g) (hb:CSs X body u) (hs:∀ x,foldedSetIterable iter X.env x = pure x:=by intro _; rfl):
  CS X (.For tg iter body [] pos) (Zk9 i g u):=(Znf (by rw [hxe]; exact PassesOwn.never) hc hi hg hb hs).imp fun D σ H zz1=>by
 obtain ⟨ι,M,env,S,E,h⟩:=zz1
 unfold Zk9 at h
 cases q:i env M with
 | exc x M1=>rw [q] at h; exact h.elim
 | bad=>rw [q] at h; exact h.elim
 | ok it M1=>
  rw [q] at h
  refine ⟨ι,M,env,S,E,?_⟩
  rw [q]
  intro J H1 ι1 x1 S1 ok
  refine ⟨fun i m σ2 H2=>m = it.items.length - i ∧ i ≤ it.items.length ∧ ∃ ι2 M2 env2,Ext X.K H1 ι1 H2 ι2 ∧ Zag X.K H2 ι2 M2 ∧ Za1 X.K H2 ι2 env2 σ2 ∧ Zem X.K H2 ι2 D (ZeR it.lk g u (it.items.drop i) env2 M2),
   ⟨_,rfl,Nat.zero_le _,ι1,M1,env,Ext.refl,S1,E.mono x1,Zem.up x1 h⟩,?_⟩
  rintro i m σ2 H2 ⟨rfl,hi,ι2,M2,env2,x2,S2,E2,h2⟩
  by_cases hlt:i < it.items.length
  ·have hd:it.items[i]? = some it.items[i]:=by simp [hlt]
   rw [List.drop_eq_getElem_cons hlt] at h2
   unfold ZeR at h2
   by_cases lk:Zc2 it.lk M2 = true
   ·rw [if_pos lk] at h2
    obtain ⟨go,yl⟩:=(ok i H2 ι2 M2 x2 S2 lk).1 _ hd
    cases eg:g it.items[i] env2 with
    | none=>rw [eg] at h2; exact h2.elim
    | some env3=>
     rw [eg] at h2
     refine .inr ⟨go,fun σ' H'=>∃ ι3 M3 env4,Ext X.K H2 ι2 H' ι3 ∧ Zag X.K H' ι3 M3 ∧ Za1 X.K H' ι3 env4 σ' ∧ Zem X.K H' ι3 D (ZeR it.lk g u (it.items.drop (i + 1)) env4 M3),
      fun σ' H' ⟨ι3,M3,env4,x3,S3,E3,h3⟩=>⟨it.items.length - (i + 1),lD 2 0x30113c2012a1c0c21 T1 (Nat.sub_add_cancel (lB 1 6991908881 T1 hlt)) (sbA _ _),rfl,hlt,ι3,M3,env4,x2.trans x3,S3,E3,h3⟩,fun x H' hy=>?_⟩
     obtain ⟨x7,S7,rx⟩:=yl x H' hy
     refine ⟨ι2,M2,env2,_,env3,S7,E2.mono x7,rx,eg,fun σ' E'=>⟨ι2,M2,env3,S7,E',?_⟩⟩
     have h2':=Zem.up x7 h2
     cases qu:u env3 M2 with
     | nx e' M'=>simp only [qu] at h2'; exact fun σ' H' ι' x' S' E'=>⟨ι',M',e',x7.trans x',S',E',h2'.up x'⟩
     | ct e' M'=>simp only [qu] at h2'; exact fun σ' H' ι' x' S' E'=>⟨ι',M',e',x7.trans x',S',E',h2'.up x'⟩
     | bk e' M'=>simp only [qu] at h2'; exact h2'
     | rt d M'=>simp only [qu] at h2'; exact h2'
     | exc x' M'=>simp only [qu] at h2'; exact h2'.elim
     | bad=>simp only [qu] at h2'; exact h2'.elim
   ·rw [if_neg lk] at h2; exact h2.elim
  ·have e0:i = it.items.length:=Nat.le_antisymm hi (Nat.le_of_not_lt hlt)
   subst e0
   rw [List.drop_length] at h2
   unfold ZeR at h2
   by_cases lk:Zc2 it.lk M2 = true
   ·rw [if_pos lk] at h2
    exact .inl ⟨(ok _ H2 ι2 M2 x2 S2 lk).2 rfl,h2 σ2 H2 ι2 Ext.refl S2 E2⟩
   ·rw [if_neg lk] at h2; exact h2.elim
end
theorem _root_.L2.Inv.turnedL {X:Cx} {pins:List (Addr × Obj)} {σ:St} {H:Hp} {s:Shared} {h':Heap} {t':Nat} {fp:List Addr} (I:Inv X pins σ H s) (k:∀ b o,b ∉ fp → s.heap.get? b = some o → h'.get? b = some o) (hf:∀ b ∈ fp,ZeA X pins H b):
  Inv X pins σ H { s with heap:=h',toks:=t' }:=by
 have nit:∀ b u,H b = some u → b ∉ fp:=fun b u e z=>by rw [(hf b z).1] at e; cases e
 refine I.step (g':=s.gens) (d':=s.drawn) (ch:=fp) (fun b hb=>⟨(hf b hb).2.2.2.1,(hf b hb).2.1,(hf b hb).2.2.2.2.1,(hf b hb).2.2.2.2.2⟩) (fun b o _ _ hc e _=>k b o hc e) (fun b o _ _ hc e _=>⟨o.slots,k b o hc e⟩) (fun _ _ _ _ n=>n)
  (fun b o hc e=>⟨o,k b o hc e⟩) (fun _ _ e=>e) (fun _ _ _ e=>e) (fun b ps e=>⟨#[],by rw [e]; simp⟩) (fun m hm=>?_) (fun b u e=>?_) I.bare
 ·obtain ⟨o,es,ep,ho,r⟩:=hm
  exact ⟨o,es,ep,k _ o (fun z=>(hf _ z).2.1 rfl) ho,r⟩
 ·refine (I.hok b u e).stay (fun c v hc q=>k c v ?_ q) (fun _ q=>q) fun _ _ q=>q
  rcases hc with z | z
  ·rw [z]; exact nit b u e
  ·exact nit c _ z
noncomputable def Ite (S:Hp → List V → Prop):It:=⟨fun i H=>∃ xs x,S H xs ∧ xs[i]? = some x,fun i H x H'=>∃ T y,x = .ref T ∧ H T = none ∧ H' = upd H T (.tup [.int i,y]) ∧ ∀ xs,S H xs → xs[i]? = some y,fun i H=>∃ xs,S H xs ∧ xs.length ≤ i⟩
theorem ZhH {X:Cx} {pins:List (Addr × Obj)} {σ:St} {H:Hp} {s:Shared} {h' h'':Heap} {e it:Addr} {i:Nat} {x:V} {u:Value} {tk tk':Nat} (I:Inv X pins σ H s) (hf:∀ b ∈ [e,it],ZeA X pins H b) (he:e < s.heap.objs.size) (hi:it < s.heap.objs.size) (ru:RelV x u)
  (hT:h'.get? s.heap.objs.size = some { cls:=.type "tuple",data:=.seq #[.int i tk,u] }) (hk:∀ b o,b ≠ e → b ≠ it → s.heap.get? b = some o → h'.get? b = some o) (hs:Heap.SameBut e h' h''):
  Inv X pins σ (upd H s.heap.objs.size (.tup [.int i,x])) { s with heap:=h'',toks:=tk' } ∧ ∀ b ∈ [e,it],upd H s.heap.objs.size (.tup [.int i,x]) b = none:=by
 have hn:∀ b ∈ [e,it],upd H s.heap.objs.size (.tup [.int i,x]) b = none:=fun b hb=>by
  have:b ≠ s.heap.objs.size:=by
   simp only [List.mem_cons,List.not_mem_nil,or_false] at hb
   rcases hb with rfl | rfl
   ·exact Nat.ne_of_lt he
   ·exact Nat.ne_of_lt hi
  rw [ZaE this]; exact (hf b hb).1
 refine ⟨?_,hn⟩
 have I1:Inv X pins σ (upd H s.heap.objs.size (.tup [.int i,x])) { s with heap:=s.heap.push { cls:=.type "tuple",data:=.seq ([.int i tk,u]:List Value).toArray },toks:=s.toks }:=
  I.laid (t':=s.toks) (fun b o e=>Heap.get?_push_of_some _ e) (Nat.le_refl _) (show Za7 X.prog X.w _ _ _ (.tup [.int i,x]) from ⟨by rw [sizeLine_eq]; show 2 ≤ _; decide,[.int i tk,u],.cons ⟨tk,rfl⟩ (.cons ru .nil),Zdg.new _ _⟩)
 have I3:=I1.turnedL (t':=tk') (h':=h'') (fp:=[e,it]) (fun b o hb q=>by
  have hbe:b ≠ e:=fun z=>hb (by simp [z])
  have hbi:b ≠ it:=fun z=>hb (by simp [z])
  rcases Heap.get?_push_cases q with ⟨rfl,rfl⟩ | q
  ·exact (hs.2 _ (Nat.ne_of_gt he)).trans hT
  ·exact (hs.2 _ hbe).trans (hk b o hbe hbi q)) fun b hb=>⟨hn b hb,(hf b hb).2⟩
 exact I3
theorem Zke {P:Program} {w:World} {K:PySem.W.Frag} {es:List Expr} {k:Nat} {pos:Pos} (a e it:Addr) (hne:e ≠ it):
  Turn P w K (.Tuple es k pos) (Ite fun H xs=>SqL K H a xs) [e,it] e (fun i h=>(∃ old,IsEnum h e it i old) ∧ h.IsListIter it a i) where
 mem:=by simp
 obj:=fun i h st b hb=>by
  obtain ⟨⟨old,he⟩,o,ho,c,d⟩:=st
  simp only [List.mem_cons,List.not_mem_nil,or_false] at hb
  rcases hb with rfl | rfl
  ·exact ⟨_,he,fun v z=>by cases z⟩
  ·exact ⟨o,ho,fun v z=>by rw [d] at z; cases z⟩
 keep:=fun i h h' st k=>by
  obtain ⟨⟨old,he⟩,hit⟩:=st
  exact ⟨⟨old,k e (by simp) _ he⟩,hit.at fun o q=>k it (by simp) o q⟩
 item:=by
  intro X hP hw hK hc i pins s σ H E I hf st hg
  subst hP hw hK
  obtain ⟨xs,x,hq,hx⟩:=hg
  obtain ⟨its,rv,p,hz⟩:=I.list hq
  obtain ⟨u,hu,ru⟩:=rv.get hx
  obtain ⟨⟨old,he⟩,hit⟩:=st
  have hel:=Heap.lt_size he
  have hil:it < s.heap.objs.size:=by obtain ⟨o,ho,_⟩:=id hit; exact Heap.lt_size ho
  refine wpAny_pyNext_enum_item he hit p.isList (x:=u) (by simpa using hu) hne fun h' ho hit' hT hsz hk=>?_
  refine ⟨_,rfl,wpAny_letOwnedTupleGo_enum (s:={ s with heap:=h',toks:=s.toks + 1 }) ho fun h'' he'' hs''=>?_⟩
  obtain ⟨I2,n2⟩:=ZhH (x:=x) (tk':=s.toks + 1) I hf hel hil ru hT hk hs''
  exact ⟨.ref s.heap.objs.size,_,I2,rfl,⟨_,x,rfl,I.hok.fresh (Nat.le_refl _),rfl,fun ys hy=>by rw [I.list_inj hy hq]; exact hx⟩,⟨⟨_,by simpa using he''⟩,hit'.extBut hs''.extBut (Ne.symm hne)⟩,n2⟩
 done:=by
  intro X hP hw hK hc i pins s σ H E I hf st hg
  subst hP hw hK
  obtain ⟨xs,hq,hx⟩:=hg
  obtain ⟨its,rv,p,hz⟩:=I.list hq
  obtain ⟨⟨old,he⟩,hit⟩:=st
  have hl:=rv.length
  exact wpAny_pyNext_enum_end (I.ok.hd hc) he hit p.isList (by simp; exact lC 2 2268279672881 T1 hl hx) fun h' eb=>⟨rfl,I.turnedL (t':=s.toks) (fun b o hb q=>eb b o (fun z=>hb (by simp [z])) q) hf⟩
 self:=fun _ _ _ _ _ st h=>by
  obtain ⟨⟨old,he⟩,_⟩:=st
  exact wpAny_pyIter_enum he h
theorem boot_enumerate:bootBuiltins "enumerate" = some (.type "enumerate"):=by decide +kernel
end L3
namespace L3
open PySem PySem.Spec PyProof.Rows L2
open AutoSeq1 (wpAny_loadPart')
set_option maxRecDepth 100000
section
variable {prog:Program} {w:World} {A:Around} {E:Value → Shared → Prop} {s:Shared}
theorem Zfm {it t:Addr} {i:Nat} {items:Array Value} {x:Value} {Q:Value → Shared → Prop} (hit:s.heap.IsTupleIter it t i) (ht:s.heap.IsTuple t items) (hx:items[i]? = some x)
  (hQ:∀ h',h'.IsTupleIter it t (i + 1) → Heap.SameBut it s.heap h' → Q x { s with heap:=h' }):wpAny (model prog w) A (Builtin.SmallTypes.nextOf (.ref it)) Q E s:=by
 obtain ⟨o,ho,hc,hd⟩:=id hit
 obtain ⟨ol,hol,_,nl,hdl⟩:=ht
 unfold Builtin.SmallTypes.nextOf
 refine wpAny_bind (wpAny_callSpecial?_slot (name:=Str.ofString "__next__") hit.typeIs slot_tupleiter_next
  (wpAny_call_entry slot_tupleiter_next hit.typeIs entry_tupleiter_next ?_ (args_tupleiter_next _)))
 show wpAny _ _ (field (.ref it) 0 >>= _) _ _ s
 refine wpAny_bind (wpAny_field ho hd (x:=.ref t) rfl ?_)
 show wpAny _ _ (if (Value.ref t == Value.none) = true then _ else _) _ _ s
 rw [if_neg (show ¬ ((Value.ref t == Value.none) = true) from Bool.false_ne_true)]
 show wpAny _ _ (field (.ref it) 1 >>= _) _ _ s
 refine wpAny_bind (wpAny_field ho hd (x:=.int i 0) rfl ?_)
 show wpAny _ _ (seqItems? (.ref t) >>= _) _ _ s
 refine wpAny_bind (wpAny_seqItems hol hdl ?_)
 simp only [Int.toNat_natCast,hx]
 refine wpAny_bind (wpAny_setField ho hd (by simp) (wpAny_pure ⟨x,rfl,wpAny_pure (hQ _ ?_ (Heap.SameBut.update ..))⟩))
 exact ⟨_,Heap.get?_update_self _ ho (Obj.isFreed_of_fields (Obj.data_mapFields hd _)),(Obj.cls_mapFields ..).trans hc,by
  rw [Obj.data_mapFields hd]; simp [rawInt]⟩
theorem ZdP {it t:Addr} {i:Nat} {items:Array Value} {Q:Value → Shared → Prop} (hh:A.handled = none) (hit:s.heap.IsTupleIter it t i) (ht:s.heap.IsTuple t items) (hx:items[i]? = none)
  (hE:∀ h' e,Heap.ExtBut it s.heap h' → (∃ o,h'.get? e = some o ∧ o.cls = .type "StopIteration") → E (.ref e) { s with heap:=h' }):wpAny (model prog w) A (Builtin.SmallTypes.nextOf (.ref it)) Q E s:=by
 obtain ⟨o,ho,hc,hd⟩:=id hit
 obtain ⟨ol,hol,_,nl,hdl⟩:=ht
 unfold Builtin.SmallTypes.nextOf
 refine wpAny_bind (wpAny_callSpecial?_slot (name:=Str.ofString "__next__") hit.typeIs slot_tupleiter_next
  (wpAny_call_entry slot_tupleiter_next hit.typeIs entry_tupleiter_next ?_ (args_tupleiter_next _)))
 show wpAny _ _ (field (.ref it) 0 >>= _) _ _ s
 refine wpAny_bind (wpAny_field ho hd (x:=.ref t) rfl ?_)
 show wpAny _ _ (if (Value.ref t == Value.none) = true then _ else _) _ _ s
 rw [if_neg (show ¬ ((Value.ref t == Value.none) = true) from Bool.false_ne_true)]
 show wpAny _ _ (field (.ref it) 1 >>= _) _ _ s
 refine wpAny_bind (wpAny_field ho hd (x:=.int i 0) rfl ?_)
 show wpAny _ _ (seqItems? (.ref t) >>= _) _ _ s
 refine wpAny_bind (wpAny_seqItems hol hdl ?_)
 simp only [Int.toNat_natCast,hx]
 refine wpAny_bind (wpAny_rule (wpAny_bind (wpAny_setField ho hd (by simp) ?_)))
 show wpAny _ _ (newExc (.type "StopIteration") [] >>= _) _ _ _
 refine wpAny_bind ?_
 simp only [newExc,newTuple]
 refine wpAny_bind (wpAny_newObj_type ?_ (by size_fits))
 refine wpAny_bind (m:=firstArgMember _ _) (wpAny_of_eq (a:=Value.none) (by first | rfl | (simp only [firstArgMember]; rfl)) ?_)
 refine wpAny_newObj_type ?_ (by size_fits)
 simp only [raiseNew]
 refine wpAny_bind (wpAny_handled ?_)
 first | rw [show A.in1.handled = none from hh] | rw [hh]
 refine wpAny_bind (wpAny_pure (wpAny_throw ?_))
 exact hE _ _ (((Heap.SameBut.update ..).extBut.push _).push _) ⟨_,Heap.get?_push_size _ rfl,rfl⟩
end
theorem Zje {prog:Program} {w:World} {A:Around} (hh:A.handled = none) (it l:Addr) (hne:l ≠ it) (items:Array Value):
  Draws prog w A it [it,l] items.size (fun i v=>items[i]? = some v) (fun i h=>h.IsTupleIter it l i ∧ h.IsTuple l items) where
 live:=fun _ _ st=>let ⟨o,ho,_⟩:=st.1; ⟨o,ho⟩
 frame:=fun _ _ _ st hk=>⟨st.1.at fun o e=>hk it (by simp) o e,st.2.at fun o e=>hk l (by simp) o e⟩
 item:=fun i s Q E hi st hQ=>by
  refine Zfm st.1 st.2 (x:=items[i]) (by simp [hi]) fun h' hit' hs'=>?_
  exact hQ _ h' s.toks (by simp [hi]) ⟨hit',st.2.extBut hs'.extBut hne⟩ hs'
 done:=fun s Q E st hE=>ZdP hh st.1 st.2 (by simp) hE
theorem Zer (l:Addr) (items:Array Value) (n:Nat) (dct:Option Addr) (sl:Array (Option Value)):
  Meets (Builtin.«enumerate.__new__» ⟨[.type "enumerate",.ref l],[]⟩) (fun _ R s=>s.heap.get? l = some { cls:=.type "tuple",dict:=dct,data:=.seq items n,slots:=sl } ∧
   R (.ok (.ret (.ref (s.heap.push { cls:=.type "tuple_iterator",data:=.fields #[.ref l,.int 0 0] }).objs.size)))
    { s with heap:=(s.heap.push { cls:=.type "tuple_iterator",data:=.fields #[.ref l,.int 0 0] }).push { cls:=.type "enumerate",data:=.fields #[.none,.bool false,.ref s.heap.objs.size,rawInt 0,.none,.none] } }):=
 .of_wp fun prog w A R s h=>by
  obtain ⟨hp,g,d,tk,os⟩:=s; obtain ⟨hl,h⟩:=h
  have hsub:=sub_enumerate
  have hL:Heap.IsTuple (Shared.heap ⟨hp,g,d,tk,os⟩) l items:=⟨_,hl,rfl,n,rfl⟩
  wp_walk using wpAny_loadPart' hl
  refine wpAny_stack_any fun st=>wpAny_pure ?_
  split
  ·rename_i c _ _ _ _ _
   cases (c == Value.type "enumerate")
   ·wp_walk using wpAny_loadPart' hl,wpAny_pyIter_tuple hL
    exact ⟨_,rfl,h⟩
   ·wp_walk using wpAny_loadPart' hl,wpAny_pyIter_tuple hL
    exact ⟨_,rfl,h⟩
  ·wp_walk using wpAny_loadPart' hl,wpAny_pyIter_tuple hL
   exact ⟨_,rfl,h⟩
theorem Zeo {prog:Program} {w:World} {A:Around} {E:Value → Shared → Prop} {s:Shared} {l:Addr} {items:Array Value} {Q:Value → Shared → Prop} (hL:s.heap.IsTuple l items)
  (h:∀ h',IsEnum h' (s.heap.objs.size + 1) s.heap.objs.size 0 .none → h'.IsTupleIter s.heap.objs.size l 0 → h'.objs.size = s.heap.objs.size + 2 →
   (∀ b o,s.heap.get? b = some o → h'.get? b = some o) → Q (.ref (s.heap.objs.size + 1)) { s with heap:=h' }):
  wpAny (model prog w) A (call (.type "enumerate") [.ref l]) Q E s:=by
 obtain ⟨⟨c,dct,dt,sl⟩,hl,hc,n,hd⟩:=hL
 replace hc:c = .type "tuple":=hc
 replace hd:dt = .seq items n:=hd
 subst hc hd
 refine callType_new F.called_enumerate (by decide) (F.typeCall_enumerate_1 _) (F.newCall_enumerate_1 _) (fun obj=>F.args_object_init_2 obj _) F.entry_enumerate_new
  (Zer l items n dct sl) ⟨hl,?_⟩
 have hz:(s.heap.push { cls:=.type "tuple_iterator",data:=.fields #[.ref l,.int 0 0] }).objs.size = s.heap.objs.size + 1:=Heap.size_push ..
 show _ ∧ _
 rw [hz]
 have he:IsEnum ((s.heap.push { cls:=.type "tuple_iterator",data:=.fields #[.ref l,.int 0 0] }).push
   { cls:=.type "enumerate",data:=.fields #[.none,.bool false,.ref s.heap.objs.size,rawInt 0,.none,.none] }) (s.heap.objs.size + 1) s.heap.objs.size 0 .none:=by
  have:=Heap.get?_push_size (s.heap.push { cls:=.type "tuple_iterator",data:=.fields #[.ref l,.int 0 0] })
   (o:={ cls:=.type "enumerate",data:=.fields #[.none,.bool false,.ref s.heap.objs.size,rawInt 0,.none,.none] }) rfl
  rw [hz] at this; exact this
 refine ⟨⟨_,he,rfl⟩,h _ he ⟨_,Heap.get?_push_of_some _ (Heap.get?_push_size _ rfl),rfl,rfl⟩ (by rw [Heap.size_push,hz]) fun b o x=>Heap.get?_push_of_some _ (Heap.get?_push_of_some _ x)⟩
theorem Zkf {P:Program} {w:World} {K:PySem.W.Frag} {es:List Expr} {k:Nat} {pos:Pos} (a e it:Addr) (hne:e ≠ it):
  Turn P w K (.Tuple es k pos) (Ite fun H xs=>SqT K H a xs) [e,it] e (fun i h=>(∃ old,IsEnum h e it i old) ∧ h.IsTupleIter it a i) where
 mem:=by simp
 obj:=fun i h st b hb=>by
  obtain ⟨⟨old,he⟩,o,ho,c,d⟩:=st
  simp only [List.mem_cons,List.not_mem_nil,or_false] at hb
  rcases hb with rfl | rfl
  ·exact ⟨_,he,fun v z=>by cases z⟩
  ·exact ⟨o,ho,fun v z=>by rw [d] at z; cases z⟩
 keep:=fun i h h' st k=>by
  obtain ⟨⟨old,he⟩,hit⟩:=st
  exact ⟨⟨old,k e (by simp) _ he⟩,hit.at fun o q=>k it (by simp) o q⟩
 item:=by
  intro X hP hw hK hc i pins s σ H E I hf st hg
  subst hP hw hK
  obtain ⟨xs,x,hq,hx⟩:=hg
  obtain ⟨its,rv,p,hz⟩:=I.tuple hq
  obtain ⟨u,hu,ru⟩:=rv.get hx
  obtain ⟨⟨old,he⟩,hit⟩:=st
  have hel:=Heap.lt_size he
  have hil:it < s.heap.objs.size:=by obtain ⟨o,ho,_⟩:=id hit; exact Heap.lt_size ho
  have pt:s.heap.IsTuple a its.toArray:=p
  have hae:e ≠ a:=by
   rintro rfl
   obtain ⟨o,ho,hc,_⟩:=pt
   rw [he] at ho; cases ho
   exact absurd hc (by simp)
  have hai:a ≠ it:=by
   rintro rfl
   obtain ⟨o,ho,hc,_⟩:=pt
   obtain ⟨o',ho',hc',_⟩:=hit
   rw [ho'] at ho; cases ho
   rw [hc'] at hc
   exact absurd hc (by simp)
  have D:=Zje (prog:=X.prog) (w:=X.w) (A:=X.A.in1) (I.ok.hd hc) it a hai its.toArray
  refine wpAny_pyNext_enum_itemD D he ⟨hit,pt⟩ (by simpa using (List.getElem?_eq_some_iff.mp hu).1) hne (by simp [hne,hae]) fun y h' tk hy ho hst hT hsz hk=>?_
  have ey:y = u:=by
   have:its.toArray[i]? = some u:=by simpa using hu
   rw [this] at hy; cases hy; rfl
  subst ey
  refine ⟨_,rfl,wpAny_letOwnedTupleGo_enum (s:={ s with heap:=h',toks:=tk + 1 }) ho fun h'' he'' hs''=>?_⟩
  obtain ⟨I2,n2⟩:=ZhH (x:=x) (tk':=tk + 1) I hf hel hil ru hT hk hs''
  exact ⟨.ref s.heap.objs.size,_,I2,rfl,⟨_,x,rfl,I.hok.fresh (Nat.le_refl _),rfl,fun ys hy=>by rw [I.tuple_inj hy hq]; exact hx⟩,⟨⟨_,by simpa using he''⟩,hst.1.extBut hs''.extBut (Ne.symm hne)⟩,n2⟩
 done:=by
  intro X hP hw hK hc i pins s σ H E I hf st hg
  subst hP hw hK
  obtain ⟨xs,hq,hx⟩:=hg
  obtain ⟨its,rv,p,hz⟩:=I.tuple hq
  obtain ⟨⟨old,he⟩,hit⟩:=st
  have hl:=rv.length
  have pt:s.heap.IsTuple a its.toArray:=p
  have hT:s.TypeIs (.ref e) "enumerate":=⟨_,he,rfl⟩
  unfold pyNext
  refine wpAny_bind (wpAny_attempt (wpAny_callSpecial?_slot (name:=Str.ofString "__next__") hT F.slot_enumerate_next
   (wpAny_call_entry F.slot_enumerate_next hT F.entry_enumerate_next ?_ (F.args_enumerate_next_1 _))))
  show wpAny _ _ (field (.ref e) 2 >>= _) _ _ _
  refine wpAny_bind (wpAny_field he rfl (x:=.ref it) rfl ?_)
  refine wpAny_bind (ZdP (I.ok.hd hc) hit pt (by simp; exact lC 2 2268279672881 T1 hl hx) fun h' x he' hx'=>?_)
  obtain ⟨o,ho,hc⟩:=hx'
  refine wpAny_bind (wpAny_isInstance (T:="StopIteration") (b:=true) ⟨o,ho,hc⟩ isSubtype_stop ?_)
  exact wpAny_pure ⟨rfl,I.turnedL (t':=s.toks) (fun b o hb q=>he' b o (fun z=>hb (by simp [z])) q) hf⟩
 self:=fun _ _ _ _ _ st h=>by
  obtain ⟨⟨old,he⟩,_⟩:=st
  exact wpAny_pyIter_enum he h
section
variable {X:Cx} {es:List Expr} {k:Nat} {a:Expr} {p pos tpos:Pos} {f:E3}
def Zqh (K:PySem.W.Frag) (ta:TA):TI:=fun σ H R=>ta σ H fun vs H1=>∃ b,vs = [.ref b] ∧ ((∃ xs,SqL K H1 b xs ∧ R (Ite fun H xs=>SqL K H b xs) H1) ∨ ∃ xs,SqT K H1 b xs ∧ R (Ite fun H xs=>SqT K H b xs) H1)
theorem ZoS {ta:TA} (hg:Gl X "enumerate") (hm:X.mg "enumerate" = none) (ha:PA X [a] ta) (hs:starEach [a] X.env = [(false,eval a X.env)]:=by rfl):PI X (.Tuple es k tpos) (.Call (.Name "enumerate" p) [a] [] pos) (Zqh X.K ta):=by
 intro pins s σ H R I h
 refine Call_ (Zg5 I hg hm boot_enumerate (PyProof.Rows.callWith_type1 (thn (ha pos pins s σ H _ I h) fun us s1 ⟨vs,H1,I1,r1,q1⟩=>?_) hs rfl))
 obtain ⟨b,e,q⟩:=q1
 subst e
 cases r1 with
 | cons r rr=>
  cases rr
  cases r
  have fp:∀ {h':Heap} {s2:Shared},∀ c ∈ [s1.heap.objs.size + 1,s1.heap.objs.size],ZeA X pins H1 c:=fun {h' s2} c hc=>by
   have hc':s1.heap.objs.size ≤ c:=by
    simp only [List.mem_cons,List.not_mem_nil,or_false] at hc
    rcases hc with rfl | rfl <;> omega
   exact I1.fpOk hc' (I1.hok.fresh hc')
  rcases q with ⟨xs,hq,q⟩ | ⟨xs,hq,q⟩
  ·obtain ⟨its,rv,pl,hz⟩:=I1.list hq
   refine call_enumerate_list pl.isList fun h' hE hI hsz hk=>?_
   have I2:Inv X pins σ H1 { s1 with heap:=h' }:=I1.kept (t':=s1.toks) hk
   exact wpAny_pyIter_enum (s:={ s1 with heap:=h' }) hE ⟨_,[s1.heap.objs.size + 1,s1.heap.objs.size],_,_,H1,rfl,I2,Zke b _ _ (Nat.succ_ne_self _),⟨⟨_,hE⟩,hI⟩,fp (h':=h') (s2:=s1),q⟩
  ·obtain ⟨its,rv,pl,hz⟩:=I1.tuple hq
   refine Zeo (show s1.heap.IsTuple b its.toArray from pl) fun h' hE hI hsz hk=>?_
   have I2:Inv X pins σ H1 { s1 with heap:=h' }:=I1.kept (t':=s1.toks) hk
   exact wpAny_pyIter_enum (s:={ s1 with heap:=h' }) hE ⟨_,[s1.heap.objs.size + 1,s1.heap.objs.size],_,_,H1,rfl,I2,Zkf b _ _ (Nat.succ_ne_self _),⟨⟨_,hE⟩,hI⟩,fp (h':=h') (s2:=s1),q⟩
theorem Zpe (hm:X.mg "enumerate" = none) (h:C3 X a f) (hg:Gl X "enumerate":=by rfl) (hs:starEach [a] X.env = [(false,eval a X.env)]:=by rfl) (hs':starEach (a :: []) X.env = (false,eval a X.env) :: starEach [] X.env:=by rfl):CIL X (.Tuple es k tpos) (.Call (.Name "enumerate" p) [a] [] pos) (Zm0 f):=
 PI.imp (ZoS hg hm (Zc h Zg hs') hs) fun σ H R zz1=>by
  obtain ⟨ι,M,env,S,E,h⟩:=zz1
  obtain ⟨d,M1,e1,h⟩:=ZjH.bind h
  refine ⟨ι,M,env,S,E,?_⟩
  have e2:Za f Zf env M = .ok [d] M1:=by unfold Za; rw [e1]; rfl
  rw [e2]
  intro vs H1 ι1 x1 S1 r1
  obtain ⟨v,ws,rfl,r,q⟩:=r1.cons_inv
  have:=q.nil_inv
  subst this
  cases d with
  | tup ds=>
   obtain ⟨b,vs,rfl,s,r⟩:=r.tup_inv
   refine ⟨b,rfl,.inr ⟨vs,s,h _ H1 ι1 x1 S1 ?_⟩⟩
   intro i H2 ι2 M2 x S2 _
   refine ⟨fun d hd=>?_,fun hl=>⟨vs,x.tup _ _ s,by rw [r.length,hl,ZfO]; exact Nat.le_refl _⟩⟩
   rw [Zf1] at hd
   cases hq:ds[i]? with
   | none=>rw [hq] at hd; cases hd
   | some d0=>
    rw [hq] at hd
    simp only [Option.map_some,Nat.zero_add,Option.some.injEq] at hd
    subst hd
    obtain ⟨v,hv,rv⟩:=r.get hq
    refine ⟨⟨vs,v,x.tup _ _ s,hv⟩,fun y H3 hy=>?_⟩
    obtain ⟨T,y',rfl,hT,rfl,hall⟩:=hy
    have e:=hall vs (x.tup _ _ s)
    rw [hv] at e
    cases e
    exact S2.tupl hT (Zy.cons Rep.int (Zy.cons (rv.mono x) Zy.nil))
  | ref n=>
   cases hm:M1[n]? with
   | none=>simp only [hm] at h; exact h.elim
   | some o=>
    cases o with
    | dct kvs=>simp only [hm] at h; exact h.elim
    | fdct kvs=>simp only [hm] at h; exact h.elim
    | ins _ _=>simp only [hm] at h; exact h.elim
    | lst ds=>
     simp only [hm] at h
     obtain ⟨b,ha,rfl⟩:=r.ref_inv
     obtain ⟨vs,q,r⟩:=S1.obj n _ b hm ha
     refine ⟨b,rfl,.inl ⟨vs,SqL.of q,h _ H1 ι1 x1 S1 ?_⟩⟩
     intro i H2 ι2 M2 x S2 lk
     have lk':M2[n]? = some (.lst ds):=by simpa [Zc2] using lk
     obtain ⟨vs2,q2,r2⟩:=S2.obj n _ b lk' (x.pre _ _ ha)
     refine ⟨fun d hd=>?_,fun hl=>⟨vs2,SqL.of q2,by rw [r2.length,hl,ZfO]; exact Nat.le_refl _⟩⟩
     rw [Zf1] at hd
     cases hq:ds[i]? with
     | none=>rw [hq] at hd; cases hd
     | some d0=>
      rw [hq] at hd
      simp only [Option.map_some,Nat.zero_add,Option.some.injEq] at hd
      subst hd
      obtain ⟨v,hv,rv⟩:=r2.get hq
      refine ⟨⟨vs2,v,SqL.of q2,hv⟩,fun y H3 hy=>?_⟩
      obtain ⟨T,y',rfl,hT,rfl,hall⟩:=hy
      have e:=hall vs2 (SqL.of q2)
      rw [hv] at e
      cases e
      exact S2.tupl hT (Zy.cons Rep.int (Zy.cons rv Zy.nil))
  | _=>exact h.elim
end
end L3
namespace L3
open PySem PySem.Spec PyProof.Rows L2
section
variable {X:Cx}
noncomputable def ofV:Value → D
 | .int i _=>.int i
 | .bool b=>.bl b
 | .str x _=>.str x.cps.toList
 | _=>.non
theorem ZlA {K:PySem.W.Frag} {H:Hp} {ι:List Addr} {d:D} {v:V} {y:Value} (hf:Zbb d = true) (r:Rep K H ι d v) (rv:RelV v y):ofV y = d:=by
 cases d with
 | non=>have:=r.non_inv; subst this; cases rv; rfl
 | bl b=>have:=r.bl_inv; subst this; cases rv; rfl
 | int i=>have:=r.int_inv; subst this; obtain ⟨t,rfl⟩:=rv; rfl
 | str x=>have:=r.str_inv; subst this; obtain ⟨t,rfl⟩:=rv; rfl
 | _=>simp [Zbb] at hf
theorem Zlh {K:PySem.W.Frag} {H:Hp} {ι:List Addr} {a:D}:∀ {ds:List D} {vs:List V} {its:List Value},Zy K H ι ds vs → Vals vs its → ds.all Zbb = true → (ds.any fun y=>deq y a) = its.any fun y=>deq (ofV y) a
 | [],vs,its,r,rv,_=>by
  have:=r.nil_inv
  subst this
  cases rv
  rfl
 | d :: ds,vs,its,r,rv,hf=>by
  obtain ⟨v,ws,rfl,r1,r2⟩:=r.cons_inv
  cases rv with
  | cons q rv=>
   simp only [List.all_cons,Bool.and_eq_true] at hf
   simp only [List.any_cons,Zlh r2 rv hf.2,ZlA hf.1 r1 q]
theorem ZpO:OpR X (compareOp .In) (r2 X.K Zf7):=by
 intro pins s σ H x y v u Q I rx ry ⟨ι,M,a,b,S,ra,rb,h⟩
 unfold Zf7 at h
 cases b with
 | ref n=>
  cases hn:M[n]? with
  | none=>simp only [hn] at h; exact h.elim
  | some ob=>
   cases ob with
   | dct _=>simp only [hn] at h; exact h.elim
   | fdct _=>simp only [hn] at h; exact h.elim
   | ins _ _=>simp only [hn] at h; exact h.elim
   | lst ds=>
    simp only [hn] at h
    by_cases hf:(Zbb a && ds.all Zbb) = true
    ·rw [if_pos hf] at h
     rw [Bool.and_eq_true] at hf
     obtain ⟨p,hp,rfl⟩:=rb.ref_inv
     cases ry
     obtain ⟨vs,e1,r1⟩:=S.obj n _ p hn hp
     obtain ⟨its,rvs,pl,_⟩:=I.list (SqL.of e1)
     have he:∀ y,y ∈ its.toArray → SeqAt.EqAt X.A.in1 s y v (deq (ofV y) a):=fun y hy=>by
      have hy:y ∈ its:=by simpa using hy
      obtain ⟨j,hj⟩:=List.getElem?_of_mem hy
      have hjl:j < vs.length:=by rw [rvs.length]; exact (List.getElem?_eq_some_iff.mp hj).1
      obtain ⟨w,hw,rw'⟩:=rvs.get (List.getElem?_eq_getElem hjl)
      rw [hj] at hw; cases hw
      have hjd:j < ds.length:=by rw [← r1.length]; exact hjl
      obtain ⟨z,hz,rz⟩:=r1.get (List.getElem?_eq_getElem hjd)
      rw [List.getElem?_eq_getElem hjl] at hz; cases hz
      have hfl:=List.all_eq_true.mp hf.2 _ (List.getElem_mem hjd)
      rw [ZlA hfl rz rw']
      exact ZfU X.A.in1 ds[j] a _ x y v hfl hf.1 rz ra rw' rx
     refine SeqAt.in_listAt (fun y=>deq (ofV y) a) pl.isList he ⟨.bl (ds.any fun y=>deq y a),H,I,?_,h _ H ι Ext.refl S Rep.bl⟩
     show (.bool _:Value) = .bool _
     rw [Zlh r1 rvs hf.2]
     simp
    ·rw [if_neg hf] at h; exact h.elim
 | _=>exact h.elim
end
end L3
namespace L3
open PySem PySem.Spec PyProof.Rows L2
section
variable {prog:Program} {w:World} {A:Around} {E:Value → Shared → Prop} {s:Shared}
theorem Zia {it t:Addr} {items:Array Value} (hne:t ≠ it):∀ (n i:Nat) (s:Shared) (Q:List Value → Shared → Prop),s.heap.IsListIter it t i → s.heap.IsList t items → i + n ≤ items.size →
  (∀ h',h'.IsListIter it t (i + n) → Heap.SameBut it s.heap h' → Q ((items.toList.drop i).take n) { s with heap:=h' }) → wpAny (model prog w) A (draw (.ref it) n) Q E s
 | 0,i,s,Q,hit,_,_,hQ=>by
  show wpAny _ _ (pure []) Q E s
  exact wpAny_pure (by simpa using hQ s.heap hit (Heap.SameBut.refl ..))
 | n + 1,i,s,Q,hit,ht,hle,hQ=>by
  have hlt:i < items.size:=lC 1 2204024704001 T1 hle
  show wpAny _ _ (pyNext (.ref it) >>= _) Q E s
  refine wpAny_bind (wpAny_pyNext_list_item hit ht (x:=items[i]) (by simp [hlt]) fun h₁ hit₁ hs₁=>?_)
  refine wpAny_bind (wpAny_holding (Zia hne n (i + 1) _ _ hit₁ (ht.extBut hs₁.extBut hne) (lC 1 0x21a0cc02a1c0c01 T1 hle) fun h₂ hit₂ hs₂=>wpAny_pure ?_))
  have hd:items.toList.drop i = items[i] :: items.toList.drop (i + 1):=by simp [List.drop_eq_getElem_cons,hlt]
  have:=hQ h₂ (by rw [show i + (n + 1) = i + 1 + n by exact Nat.le_antisymm (lB 0 1790139547840 T1) (lB 0 0xa1c0c1a0cc0 T1)]; exact hit₂) (hs₁.trans hs₂)
  rw [hd,List.take_succ_cons] at this
  exact this
theorem ZfV {t:Addr} {items:Array Value} {Q:List Value → Shared → Prop} (hh:A.handled = none) (ht:s.heap.IsList t items)
  (hQ:∀ h',Heap.ExtBut s.heap.objs.size s.heap h' → Q items.toList { s with heap:=h' }):wpAny (model prog w) A (unpackItems (.ref t) items.size none) Q E s:=by
 have hlt:t ≠ s.heap.objs.size:=by obtain ⟨o,ho,_⟩:=ht; exact Nat.ne_of_lt (Heap.lt_size ho)
 have hT:s.TypeIs (.ref t) "list":=by obtain ⟨o,ho,hc,_⟩:=ht; exact ⟨o,ho,hc⟩
 unfold unpackItems
 refine wpAny_bind ?_
 ·unfold notIterableAtAll
  refine wpAny_bind (wpAny_specialOf hT F.slot_list_iter.lookup ?_)
  refine wpAny_pure ?_
  simp only [Bool.false_eq_true,if_false]
  refine wpAny_bind (wpAny_holding (wpAny_pyIter_list ht ?_))
  have htp:(s.heap.push { cls:=.type "list_iterator",data:=.fields #[.ref t,.int 0 0] }).IsList t items:=ht.at fun o e=>Heap.get?_push_of_some _ e
  refine wpAny_bind (wpAny_holding (Zia hlt items.size 0 _ _ ⟨_,Heap.get?_push_size _ rfl,rfl,rfl⟩ htp (lA 0 3776 T1) fun h₁ hit₁ hs₁=>?_))
  have hall:List.take items.size (List.drop 0 items.toList) = items.toList:=by
   rw [List.drop_zero]; exact List.take_of_length_le (by simp)
  rw [hall]
  rw [if_neg (by simp)]
  have ht₁:h₁.IsList t items:=htp.extBut hs₁.extBut hlt
  refine wpAny_bind (wpAny_holding (wpAny_pyNext_list_end hh hit₁ ht₁ (by simp) fun h₂ he₂=>?_))
  simp only [Option.isSome_none,Bool.false_eq_true,if_false]
  refine wpAny_pure (hQ h₂ fun b o hb e=>he₂ b o hb (hs₁.extBut b o hb (Heap.get?_push_of_some _ e)))
theorem Zfl {env:Env} {elts:List Expr} {x1} {pos:Pos} {t:Addr} {items:Array Value} {Q:Unit → Shared → Prop} (hh:A.handled = none) (ht:s.heap.IsList t items)
  (hn:(assignEach elts env).length = items.size) (hstar:(assignEach elts env).findIdx? (·.1) = none)
  (h:∀ h',Heap.ExtBut s.heap.objs.size s.heap h' → wpAny (model prog w) A (assignInOrder ((assignEach elts env).map (·.2)) items.toList) Q E { s with heap:=h' }):
  wpAny (model prog w) A (assign (.Tuple elts x1 pos) env (.ref t)) Q E s:=by
 rw [assign_Tuple]
 refine wpAny_bind (wpAny_standAt ?_)
 unfold unpack
 rw [hn,hstar]
 exact wpAny_bind (wpAny_holding (ZfV hh ht h))
end
section
variable {X:Cx} {e:Expr} {es:List Expr} {pos:Pos} {f:E3}
def ZtP (K:PySem.W.Frag) (n:Nat) (t:TGs):TG:=fun v σ H Q=>∃ a xs,v = .ref a ∧ SqL K H a xs ∧ xs.length = n ∧ t xs σ H Q
theorem Zp5 {k:Nat} {t:TGs} {n:Nat} (hc:X.calm = true) (h:PGs X es t)
  (hn:(assignEach es X.env).length = n:=by rfl) (hst:(assignEach es X.env).findIdx? (·.1) = none:=by rfl):PG X (.Tuple es k pos) (ZtP X.K n t):=by
 intro pins s σ H v u Q I r hw
 obtain ⟨a,xs,e1,hq,hl,hw⟩:=hw
 subst e1
 cases r
 obtain ⟨its,rv,ht,hz⟩:=I.list hq
 refine Zfl (I.ok.hd hc) ht.isList (by simp [hn,← hl,rv.length]) hst fun h' hx=>?_
 have I1:Inv X pins σ H { s with heap:=h' }:=I.kept (t':=s.toks) fun b o e=>hx b o (Nat.ne_of_lt (Heap.lt_size e)) e
 exact h pins _ σ H xs _ Q I1 (by simpa using rv) hw
theorem Zjp:∀ (is:List Nat) (ds:List D) (env env':Zaf),bindAll is ds env = some env' → ds.length = is.length:=by
 intro is
 induction is with
 | nil=>intro ds env env' h; cases ds with | nil=>rfl | cons d ds=>cases h
 | cons i is ih=>intro ds env env' h; cases ds with | nil=>cases h | cons d ds=>simp [ih ds _ _ h]
theorem ZoX {is:List Nat} {k:Nat} {tpos:Pos} (hc:X.calm = true) (he:C3 X e f) (h:CGs X es is)
  (hs:swapsWithSole [.Tuple es k tpos] e pos.line X.env = pure false:=by rfl) (hw:swappedStores [.Tuple es k tpos] e X.env = pure none:=by rfl)
  (h1:(assignEach [.Tuple es k tpos] X.env).map (·.2) = [assign (.Tuple es k tpos) X.env]:=by rfl)
  (hn:(assignEach es X.env).length = is.length:=by rfl) (hst:(assignEach es X.env).findIdx? (·.1) = none:=by rfl):CS X (.Assign [.Tuple es k tpos] e pos) (ZgI f is):=
 (Zki he (Zp5 (n:=is.length) hc h hn hst) hs hw h1).imp fun D σ H zz1=>by
 obtain ⟨ι,M,env,S,E,hh⟩:=zz1
 refine ⟨ι,M,env,S,E,?_⟩
 unfold ZgI at hh
 cases q:f env M with
 | exc x M1=>rw [q] at hh; exact hh.elim
 | bad=>rw [q] at hh; exact hh.elim
 | ok d M1=>
  rw [q] at hh
  cases d with
  | ref n=>
   simp only at hh
   cases hm:M1[n]? with
   | none=>simp only [hm] at hh; exact hh.elim
   | some o=>
    cases o with
    | dct _=>simp only [hm] at hh; exact hh.elim
    | fdct _=>simp only [hm] at hh; exact hh.elim
    | ins _ _=>simp only [hm] at hh; exact hh.elim
    | lst ds=>
     simp only [hm] at hh
     cases qb:bindAll is ds env with
     | none=>simp only [qb] at hh; exact hh.elim
     | some env1=>
      simp only [qb] at hh
      intro v H1 ι1 x1 S1 r1
      obtain ⟨a,ha,rfl⟩:=r1.ref_inv
      obtain ⟨vs,hv,rv⟩:=S1.obj n _ a hm ha
      exact ⟨a,vs,rfl,SqL.of hv,by rw [rv.length]; exact Zjp _ _ _ _ qb,ι1,M1,env,ds,env1,S1,E.mono x1,rv,qb,fun σ' E'=>hh σ' H1 ι1 x1 S1 E'⟩
  | _=>exact hh.elim
end
end L3
namespace L3
open PySem PySem.W PyProof.Rows
section
variable {M:Model} {A:Around} {E:Value → Shared → Prop} {G:Shared → Prop}
def TT (M:Model) (A:Around) (E:Value → Shared → Prop) (G:Shared → Prop) {α:Type} (m:StateT SortSt Sem α) (Q:α → SortSt → Prop) (st:SortSt):Prop:=∀ s,G s → kasC M A E m (fun a st' s'=>Q a st' ∧ G s') st s
end
section
variable {prog:Program} {w:World} {A:Around} {E:Value → Shared → Prop} {G:Shared → Prop} {κ:SortKind} {it:Array Keyed} {lt:Nat → Nat → Bool} {N:Nat}
section
variable {left:Bool} {key:Nat} {l:List Nat} {base n:Nat} {st:SortSt} {B:Nat → Bool}
end
end
end L3
namespace L3
open PySem PySem.Spec PyProof.Rows L2
section
variable {P:Program} {w:World} {K:PySem.W.Frag} {mg:Str → Option Value} {base:Heap} {dd:List D} {n:Nat} {nm:Str}
end
section
variable {X:Cx} {e e':Expr} {es:List Expr} {pos p kpos:Pos} {gl:EL3} {g:E3} {x nm:Str} {k n:Nat} {ps:List Str} {F:F3} {dd:List D}
end
end L3
namespace L3
open PySem PySem.W PySem.Spec PyProof.Rows L2
@[simp] noncomputable def ZhO (a b:D) (M:Store):R3 D:=match a,b with
 | .non,.non=>.ok (.bl false) M
 | .tup _,.non=>.ok (.bl true) M
 | .non,.tup _=>.ok (.bl true) M
 | a,b=>ZbJ a b M
section
variable {X:Cx}
theorem ZpZ (hu:X.A.units + 80 < cLine):OpR X (compareOp .NotEq) (r2 X.K ZhO):=by
 intro pins s σ H x y v u Q I rx ry h
 obtain ⟨ι,M,a,b,S,ra,rb,h⟩:=h
 have hu1:X.A.units < cLine:=lB 1 17666545486865 T1 hu
 have old:ZhO a b M = ZbJ a b M → wpAny (model X.prog X.w) X.A (compareOp .NotEq v u) (EP X pins σ Q) X.xe s:=fun e=>by
  rw [e] at h
  exact Zgh hu pins s σ H x y v u Q I rx ry ⟨ι,M,a,b,S,ra,rb,h⟩
 cases a with
 | non=>
  cases b with
  | non=>
   have e1:=ra.non_inv; subst e1
   have e2:=rb.non_inv; subst e2
   cases rx
   cases ry
   exact EqNone.ne_none_none ⟨.bl false,H,I,rfl,Zz.ok h S Rep.bl⟩
  | tup ds=>
   have e1:=ra.non_inv; subst e1
   obtain ⟨p,vs,rfl,sq,r⟩:=rb.tup_inv
   cases rx
   cases ry
   obtain ⟨its,rr,pl,zl⟩:=I.tuple sq
   exact SeqAt.RcNeAt.none_tuple (show s.heap.IsTuple p its.toArray from pl) hu1 X.prog X.w X.xe _ ⟨.bl true,H,I,rfl,Zz.ok h S Rep.bl⟩
  | _=>exact old rfl
 | tup ds=>
  cases b with
  | non=>
   have e1:=rb.non_inv; subst e1
   obtain ⟨p,vs,rfl,sq,r⟩:=ra.tup_inv
   cases rx
   cases ry
   obtain ⟨its,rr,pl,zl⟩:=I.tuple sq
   exact SeqAt.RcNeAt.tuple_none (show s.heap.IsTuple p its.toArray from pl) hu1 X.prog X.w X.xe _ ⟨.bl true,H,I,rfl,Zz.ok h S Rep.bl⟩
  | _=>exact old rfl
 | _=>cases b <;> exact old rfl
end
end L3
namespace L3
open PySem PySem.Spec PyProof.Rows L2
noncomputable abbrev nm (f:List Nat):Str:=⟨f.toArray⟩
theorem Zmn {f g:List Nat} (h:nm f = nm g):f = g:=by
 have:=congrArg (fun s:Str=>s.cps.toList) h
 simpa using this
section
variable {K:PySem.W.Frag} {H H':Hp} {ι ι':List Addr} {fs:List (List Nat × D)} {gs:List (Str × V)}
theorem FsR.mono (e:Ext K H ι H' ι') (h:FsR K H ι fs gs):FsR K H' ι' fs gs:=⟨h.1,h.2.mono e⟩
theorem FsR.nil:FsR K H ι [] []:=⟨rfl,Zy.nil⟩
theorem FsR.nil_inv (h:FsR K H ι [] gs):gs = []:=List.map_eq_nil_iff.mp h.1
theorem FsR.cons_inv {f:List Nat} {d:D} (h:FsR K H ι ((f,d) :: fs) gs):∃ v gs',gs = (nm f,v) :: gs' ∧ Rep K H ι d v ∧ FsR K H ι fs gs':=by
 cases gs with
 | nil=>cases h.1
 | cons p gs'=>
  obtain ⟨g,v⟩:=p
  obtain ⟨h1,h2⟩:=h
  rw [List.map_cons,List.map_cons] at h1 h2
  obtain ⟨e1,e2⟩:=List.cons.inj h1
  obtain ⟨v',ws,e,r,q⟩:=h2.cons_inv
  obtain ⟨rfl,rfl⟩:=List.cons.inj e
  exact ⟨v,gs',by rw [show g = nm f from e1],r,e2,q⟩
theorem FsR.cons {f:List Nat} {d:D} {v:V} (r:Rep K H ι d v) (h:FsR K H ι fs gs):FsR K H ι ((f,d) :: fs) ((nm f,v) :: gs):=⟨by rw [List.map_cons,List.map_cons,h.1],Zy.cons r h.2⟩
theorem FsR.length (h:FsR K H ι fs gs):gs.length = fs.length:=by
 have:=congrArg List.length h.1
 simpa using this
theorem FsR.look {f:List Nat}:∀ {fs:List (List Nat × D)} {gs:List (Str × V)},FsR K H ι fs gs → (fs.lookup f = none → gs.lookup (nm f) = none) ∧ ∀ d,fs.lookup f = some d → ∃ v,gs.lookup (nm f) = some v ∧ Rep K H ι d v
 | [],_,h=>by rw [h.nil_inv]; exact ⟨fun _=>rfl,fun d e=>by cases e⟩
 | (g,x) :: fs,_,h=>by
  obtain ⟨v,gs',rfl,r,t⟩:=h.cons_inv
  rw [List.lookup_cons,List.lookup_cons]
  by_cases e:f = g
  ·subst e
   rw [beq_self_eq_true,beq_self_eq_true]
   exact ⟨fun q=>(by cases q),fun d q=>(by cases q; exact ⟨v,rfl,r⟩)⟩
  ·rw [beq_false_of_ne e,beq_false_of_ne fun q=>e (Zmn q)]
   exact t.look
theorem FsR.put {f:List Nat} {d:D} {v:V} (r:Rep K H ι d v):∀ {fs:List (List Nat × D)} {gs:List (Str × V)},FsR K H ι fs gs → FsR K H ι (Zgg f d fs) (ZdJ (nm f) v gs)
 | [],_,h=>by rw [h.nil_inv]; exact FsR.cons r FsR.nil
 | (g,x) :: fs,_,h=>by
  obtain ⟨w,gs',rfl,r',t⟩:=h.cons_inv
  unfold Zgg ZdJ
  by_cases e:g = f
  ·subst e
   rw [if_pos rfl,if_pos rfl]; exact FsR.cons r t
  ·rw [if_neg e,if_neg fun q=>e (Zmn q)]; exact FsR.cons r' (t.put r)
end
structure Zfy (K:PySem.W.Frag) (c:List Nat) (C:Addr):Prop where
 at_:ClsAt K c C
 cls:Cls K C
 nz:c.head? ≠ some 0
theorem Zfy.same {K:PySem.W.Frag} {c:List Nat} {C C':Addr} (h:Zfy K c C) (q:ClsAt K c C'):C' = C:=by
 have:=q.symm.trans h.at_
 cases this; rfl
section
variable {X:Cx} {o e:Expr} {es:List Expr} {f g:E3} {gl:EL3} {c m:List Nat} {C:Addr} {fn:Str} {pos pos' apos p:Pos} {x:Str}
theorem Zgv {M:Store} {n:Nat} {H:Hp} {ι:List Addr} {a:Addr} (kc:Zfy X.K c C) (S:Zag X.K H ι M) (ha:ι[n]? = some a) {fs:List (List Nat × D)} (hn:M[n]? = some (.ins c fs)):∃ dx gs,H a = some (.ins C dx gs) ∧ FsR X.K H ι fs gs:=by
 rcases S.obj n _ a hn ha with ⟨C',dx,gs,q,ca,fr⟩ | ⟨_,_,z,_⟩
 ·rw [kc.same ca.1] at q
  exact ⟨dx,gs,q,fr⟩
 ·exact absurd z kc.nz
theorem ZjE (kc:Zfy X.K c C) (nf:ZdE X.K C (nm m)) (he:C3 X e f) (hf:fn = nm m:=by decide +kernel) (hb:attributeBase e fn X.env (eval e X.env) = eval e X.env:=by rfl):C3 X (.Attribute e fn pos) (e1 (Zef c m) f):=by
 subst hf
 refine (Zrb he hb).imp fun σ H Q zz1=>?_
 obtain ⟨ι,M,env,S,E,h⟩:=zz1
 obtain ⟨d,M1,e1,hh⟩:=Zz.bind h
 refine ⟨ι,M,env,S,E,?_⟩
 rw [e1]
 intro v H1 ι1 x1 S1 r1
 cases d with
 | ref n=>
  simp only [Zhc] at hh
  cases hn:M1[n]? with
  | none=>simp only [hn] at hh; exact hh.elim
  | some ob=>
   cases ob with
   | ins c' fs=>
    simp only [hn] at hh
    split at hh
    ·rename_i ec
     subst ec
     obtain ⟨a,ha,rfl⟩:=r1.ref_inv
     obtain ⟨dx,gs,q,fr⟩:=Zgv kc S1 ha hn
     split at hh
     ·rename_i d hl
      obtain ⟨w,lw,rw'⟩:=(fr.look (f:=m)).2 d hl
      exact ⟨a,C,dx,gs,w,rfl,q,kc.cls,nf,lw,hh w H1 ι1 x1 S1 rw'⟩
     ·exact hh.elim
    ·exact hh.elim
   | _=>simp only [hn] at hh; exact hh.elim
 | _=>exact hh.elim
theorem Zng (kc:Zfy X.K c C) (nf:ZdE X.K C (nm m)) (ho:C3 X o f) (hv:C3 X e g) (hf:fn = nm m:=by decide +kernel) (hs:swapsWith e (some (.Attribute o fn pos')) pos.line X.env = pure false:=by rfl):CS X (.Assign [.Attribute o fn pos'] e pos) (Zoa c m f g):=by
 subst hf
 refine (Zql ho hv hs).imp fun D' σ H zz1=>?_
 obtain ⟨ι,M,env,S,E,hh⟩:=zz1
 have hh:=Zjr E hh
 obtain ⟨d,M1,e1,hh⟩:=Zz.bind hh
 obtain ⟨b,M2,e2,hh⟩:=Zz.bind hh
 refine ⟨ι,M,env,S,E,?_⟩
 rw [e1]
 intro y H1 ι1 x1 S1 r1
 refine ⟨ι1,M1,env,S1,E.mono x1,?_⟩
 rw [e2]
 intro w H2 ι2 x2 S2 r2
 cases b with
 | ref n=>
  simp only [ZfN] at hh
  cases hn:M2[n]? with
  | none=>simp only [hn] at hh; exact hh.elim
  | some ob=>
   cases ob with
   | ins c' fs=>
    simp only [hn] at hh
    split at hh
    ·rename_i ec
     obtain ⟨ec,lf⟩:=ec
     subst ec
     obtain ⟨a,ha,rfl⟩:=r2.ref_inv
     obtain ⟨dx,gs,q,fr⟩:=Zgv kc S2 ha hn
     have l0:Loose H2 a:=.inr (.inr (.inr ⟨C,dx,gs,q⟩))
     have x3:Ext X.K H2 ι2 (upd H2 a (.ins C dx (ZdJ (nm m) y gs))) ι2:=l0.ext
     have S3:Zag X.K (upd H2 a (.ins C dx (ZdJ (nm m) y gs))) ι2 (M2.set n (.ins c' (Zgg m d fs))):=S2.put l0 ha (.inl ⟨C,dx,_,Zbm,⟨kc.at_,kc.nz⟩,(fr.put (r1.mono x2)).mono x3⟩)
     exact ⟨a,C,dx,gs,rfl,q,kc.cls,nf,by rw [fr.length]; exact lf,hh .non _ _ ((x1.trans x2).trans x3) S3 Rep.non⟩
    ·exact hh.elim
   | _=>simp only [hn] at hh; exact hh.elim
 | _=>exact hh.elim
def ZfP (P:Program) (w:World) (K:PySem.W.Frag) (mg:Str → Option Value) (base:Heap) (k:Nat) (C:Addr) (m:Str) (ps:List Str) (F:F3):Prop:=
 (∀ ds M,ds.length ≠ ps.length → F ds M = .bad) ∧ ∃ f fd,Meth K C m f ∧ Binds K fd ps [] ∧ ZcD P w K mg base CX0 k f fd ps (sp3 K ps.length F)
theorem ZjP {ps:List Str} {F:F3} {a:D} {M1:Store} {n:Nat} (hi:Zjh c m a M1 = true):∃ n fs,a = .ref n ∧ M1[n]? = some (.ins c fs) ∧ fs.lookup m = none:=by
 cases a with
 | ref n=>
  simp only [Zoe] at hi
  cases hn:M1[n]? with
  | none=>simp [hn] at hi
  | some ob=>
   cases ob with
   | ins c' fs=>
    simp only [hn,Bool.and_eq_true,decide_eq_true_eq,Option.isNone_iff_eq_none] at hi
    obtain ⟨rfl,hl⟩:=hi
    exact ⟨n,fs,rfl,hn,hl⟩
   | _=>simp [hn] at hi
 | _=>exact ft hi
theorem Zmr {k:Nat} {ps:List Str} {F:F3} {pl:Sem Bool} (kc:Zfy X.K c C) (G:ZfP X.prog X.w X.K X.mg X.base k C fn ps F) (hr:Zbr k X.A) (ho:C3 X o f) (ha:CA X (e :: es) gl) (hf:fn = nm m:=by decide +kernel)
  (hst:starEach (e :: es) X.env = (false,eval e X.env) :: starEach es X.env:=by rfl) (hpl:(backTo pos (starEach es X.env)).any (·.1) = false:=by rfl)
  (ht:eval (.Call (.Attribute o fn apos) (e :: es) [] pos) X.env = (do
   let ov ← eval o X.env
   standAt apos.atName
   let (f,first) ← holding [ov] (getMethod ov fn pl)
   callWith pos f first (backTo pos (starEach (e :: es) X.env)) (backToKw pos (keywordEach [] X.env))):=by rfl):C3 X (.Call (.Attribute o fn apos) (e :: es) [] pos) (ZaA c m F f gl):=by
 subst hf
 obtain ⟨hn,fa,fd,mt,bi,ok⟩:=G
 refine (ZoL ho kc.cls mt ok hr bi .nil Zlk ha hst hpl ht).imp fun σ H Q zz1=>?_
 obtain ⟨ι,M,env,S,E,h⟩:=zz1
 obtain ⟨a,M1,e1,h⟩:=Zz.bind h
 refine ⟨ι,M,env,S,E,?_⟩
 rw [e1]
 intro v H1 ι1 x1 S1 r1
 split at h
 ·rename_i hi
  obtain ⟨n,fs,rfl,hm,hl⟩:=ZjP (ps:=ps) (F:=F) (n:=0) hi
  obtain ⟨p,hp,rfl⟩:=r1.ref_inv
  obtain ⟨dx,gs,q,fr⟩:=Zgv kc S1 hp hm
  refine ⟨p,dx,gs,rfl,q,(fr.look (f:=m)).1 hl,?_⟩
  obtain ⟨ds,M2,e2,h⟩:=Zz.bind h
  refine ⟨ι1,M1,env,S1,E.mono x1,?_⟩
  rw [e2]
  intro vs H2 ι2 x2 S2 r2
  have hl:(D.ref n :: ds).length = ps.length:=by
   refine Decidable.byContradiction fun q=>?_
   rw [hn _ M2 q] at h
   exact h.elim
  exact ⟨ι2,M2,_,S2,by rw [List.append_nil]; exact Zy.cons (r1.mono x2) r2,hl,h.up (x1.trans x2)⟩
 ·exact h.elim
theorem Zd6 {k:Nat} {ps:List Str} {F:F3} {pl:Sem Bool} (kc:Zfy X.K c C) (G:ZfP X.prog X.w X.K X.mg X.base k C fn ps F) (hr:Zbr k X.A) (ho:C3 X o f) (hf:fn = nm m:=by decide +kernel)
  (ht:eval (.Call (.Attribute o fn apos) [] [] pos) X.env = (do
   let ov ← eval o X.env
   standAt apos.atName
   let (f,first) ← holding [ov] (getMethod ov fn pl)
   callWith pos f first (backTo pos (starEach [] X.env)) (backToKw pos (keywordEach [] X.env))):=by rfl):C3 X (.Call (.Attribute o fn apos) [] [] pos) (ZaA c m F f Zf):=by
 subst hf
 obtain ⟨hn,fa,fd,mt,bi,ok⟩:=G
 refine (ZmF ho kc.cls mt ok hr bi .nil Zlk ht).imp fun σ H Q zz1=>?_
 obtain ⟨ι,M,env,S,E,h⟩:=zz1
 obtain ⟨a,M1,e1,h⟩:=Zz.bind h
 refine ⟨ι,M,env,S,E,?_⟩
 rw [e1]
 intro v H1 ι1 x1 S1 r1
 split at h
 ·rename_i hi
  obtain ⟨n,fs,rfl,hm,hl⟩:=ZjP (ps:=ps) (F:=F) (n:=0) hi
  obtain ⟨p,hp,rfl⟩:=r1.ref_inv
  obtain ⟨dx,gs,q,fr⟩:=Zgv kc S1 hp hm
  refine ⟨p,dx,gs,rfl,q,(fr.look (f:=m)).1 hl,?_⟩
  have hl:([D.ref n]:List D).length = ps.length:=by
   refine Decidable.byContradiction fun q=>?_
   have h':Zz X.K H ι Q (F [.ref n] M1):=h
   rw [hn _ M1 q] at h'
   exact h'.elim
  exact ⟨ι1,M1,[.ref n],S1,Zy.cons r1 Zy.nil,hl,Zz.up x1 h⟩
 ·exact h.elim
theorem Zq4 {k:Nat} {ps:List Str} {F:F3} {fa:Addr} {fd:FuncData} (at_:ClsAt X.K c C ∧ c.head? ≠ some 0) (Mc:Mk X.K C fa) (hF:∀ ds M,ds.length ≠ ps.length → F ds M = .bad) (ok:ZcD X.prog X.w X.K X.mg X.base CX0 k fa fd ps (sp3 X.K ps.length F)) (bi:Binds X.K fd ps []) (hm:X.mg x = some (.ref C)) (hr:Zbr (k + 1) X.A) (ha:CA X (e :: es) gl) (hg:Gl X x:=by rfl)
  (hdb:(x == ("__debug__":Str)) = false:=by decide) (he:starEach (e :: es) X.env = (false,eval e X.env) :: starEach es X.env:=by rfl) (hpl:(backTo pos (starEach es X.env)).any (·.1) = false:=by rfl):C3 X (.Call (.Name x p) (e :: es) [] pos) (ZcS c F gl):=by
 refine (Zo2 Mc ok hr hg hm bi .nil Zlk ha hdb he hpl).imp fun σ H Q zz1=>?_
 obtain ⟨ι,M,env,S,E,h⟩:=zz1
 obtain ⟨ds,M1,e1,h⟩:=Zz.bind h
 refine ⟨ι,M,env,S,E,?_⟩
 rw [e1]
 intro vs H1 ι1 x1 S1 r1 y dx hy hd ne
 have y2:upd H1 dx (.own y) y = none:=by rw [ZaE (Ne.symm ne)]; exact hy
 have x2:Ext X.K H1 ι1 (upd H1 dx (.own y)) ι1:=Loose.ext (.inl hd)
 have S2:Zag X.K (upd H1 dx (.own y)) ι1 M1:=S1.other (.inl hd) (S1.fresh hd)
 have x3:Ext X.K (upd H1 dx (.own y)) ι1 (upd (upd H1 dx (.own y)) y (.ins C dx [])) (ι1 ++ [y]):=Loose.extA (.inl y2)
 have S3:Zag X.K (upd (upd H1 dx (.own y)) y (.ins C dx [])) (ι1 ++ [y]) (M1 ++ [.ins c []]):=S2.new y2 (.inl ⟨C,dx,[],Zbm,at_,FsR.nil⟩)
 have hy':(ι1 ++ [y])[M1.length]? = some y:=by rw [← S1.len]; simp
 have rr:Rep X.K (upd (upd H1 dx (.own y)) y (.ins C dx [])) (ι1 ++ [y]) (.ref M1.length) (.ref y):=Rep.ref hy'
 cases q:F (.ref M1.length :: ds) (M1 ++ [.ins c []]) with
 | bad=>simp only [q] at h; exact h.elim
 | exc _ _=>simp only [q] at h; exact h.elim
 | ok d M2=>
  have hl:(D.ref M1.length :: ds).length = ps.length:=by
   refine Decidable.byContradiction fun z=>?_
   rw [hF _ _ z] at q; cases q
  refine ⟨ι1 ++ [y],M1 ++ [.ins c []],.ref M1.length :: ds,S3,by rw [List.append_nil]; exact Zy.cons rr ((r1.mono x2).mono x3),hl,?_⟩
  rw [q]
  simp only [q] at h
  cases d with
  | non=>
   intro v H4 ι4 x4 S4 r4
   exact ⟨r4.non_inv,h _ H4 ι4 (((x1.trans x2).trans x3).trans x4) S4 (rr.mono x4)⟩
  | _=>exact h.elim
end
noncomputable def Zgp (s:Stmt):List Stmt:=match s with
 | .ClassDef _ _ _ b _ _ _ _ _ _ _=>b
 | _=>[]
def Zge (K:PySem.W.Frag) (C:Addr) (m qual:Str) (st:Stmt) (ps:List Str):Prop:=∃ f fd,Fun K m qual st f fd ∧ Meth K C m f ∧ Binds K fd ps []
def Zot (K:PySem.W.Frag) (C:Addr) (qual:Str) (st:Stmt) (ps:List Str):Prop:=∃ f fd,Fun K "__init__" qual st f fd ∧ Mk K C f ∧ Binds K fd ps []
def Mk3 (P:Program) (w:World) (K:PySem.W.Frag) (mg:Str → Option Value) (base:Heap) (k:Nat) (C:Addr) (ps:List Str) (F:F3):Prop:=
 (∀ ds M,ds.length ≠ ps.length → F ds M = .bad) ∧ ∃ f fd,Mk K C f ∧ Binds K fd ps [] ∧ ZcD P w K mg base CX0 k f fd ps (sp3 K ps.length F)
section
variable {P:Program} {w:World} {K:PySem.W.Frag} {mg:Str → Option Value} {base:Heap} {C f:Addr} {m qual:Str} {st:Stmt} {N ps:List Str} {k:Nat} {body:S3} {oc:Value} {od an:Option Addr} {osl:Array (Option Value)} {dV kV doc pm cdv ct:Value}
theorem ZgS (a:PySem.W.findIn K (.ref C) m = some (some (.ref f))) (i:PySem.W.isFn K (.ref f) = true) (l:K.lookup f = some ⟨oc,od,.func (PySem.W.fnOf m qual (Zaq st) (Zah st) (Zh st) dV kV doc pm an cdv ct),osl⟩)
  (c:PySem.W.codeIn K cdv qual = true) (kp:PySem.W.keepIn K (.ref f) = true) (b:Binds K (PySem.W.fnOf m qual (Zaq st) (Zah st) (Zh st) dV kV doc pm an cdv ct) ps []):Zge K C m qual st ps:=
 ⟨f,_,⟨⟨oc,od,dV,kV,doc,pm,an,cdv,ct,osl,rfl,l,c⟩,kp⟩,⟨a,i,kp⟩,b⟩
theorem ZoN (mk:PySem.W.makesIn K C = true) (kc:PySem.W.keepIn K (.ref C) = true) (a:PySem.W.findIn K (.ref C) "__init__" = some (some (.ref f))) (i:PySem.W.isFn K (.ref f) = true) (l:K.lookup f = some ⟨oc,od,.func (PySem.W.fnOf "__init__" qual (Zaq st) (Zah st) (Zh st) dV kV doc pm an cdv ct),osl⟩)
  (c:PySem.W.codeIn K cdv qual = true) (kp:PySem.W.keepIn K (.ref f) = true) (b:Binds K (PySem.W.fnOf "__init__" qual (Zaq st) (Zah st) (Zh st) dV kV doc pm an cdv ct) ps []):Zot K C qual st ps:=
 ⟨f,_,⟨⟨oc,od,dV,kV,doc,pm,an,cdv,ct,osl,rfl,l,c⟩,kp⟩,⟨mk,a,i,kc⟩,b⟩
theorem ZfP.of (d:Zge K C m qual st ps) (S:Zar N ps (Zh st))
  (hb:∀ (f:Addr) (cdv:Value) (A:Around) (outer:List Env) (s:Shared) (H:Hp) (E:XK),Zbr k (A.deeper (envOfC qual (Zh st) s.heap.objs.size f cdv)) → CSs (ZfS CX0 P w K mg base N qual (Zh st) f cdv A outer s H E).nox (Zah st) body):
  ZfP P w K mg base (k + 1) C m ps (mkF ps.length N.length body):=by
 obtain ⟨f,fd,F,mt,bi⟩:=d
 exact ⟨fun ds M h=>if_neg h,f,fd,mt,bi,fn3 F S (hb f)⟩
theorem Mk3.of (d:Zot K C qual st ps) (S:Zar N ps (Zh st))
  (hb:∀ (f:Addr) (cdv:Value) (A:Around) (outer:List Env) (s:Shared) (H:Hp) (E:XK),Zbr k (A.deeper (envOfC qual (Zh st) s.heap.objs.size f cdv)) → CSs (ZfS CX0 P w K mg base N qual (Zh st) f cdv A outer s H E).nox (Zah st) body):
  Mk3 P w K mg base (k + 1) C ps (mkF ps.length N.length body):=by
 obtain ⟨f,fd,F,mk,bi⟩:=d
 exact ⟨fun ds M h=>if_neg h,f,fd,mk,bi,fn3 F S (hb f)⟩
end
theorem ZqN {X:Cx} {e:Expr} {es:List Expr} {gl:EL3} {c:List Nat} {C:Addr} {pos p:Pos} {x:Str} {k:Nat} {ps:List Str} {F:F3} (kc:Zfy X.K c C) (G:Mk3 X.prog X.w X.K X.mg X.base k C ps F) (hm:X.mg x = some (.ref C)) (hr:Zbr (k + 1) X.A) (ha:CA X (e :: es) gl) (hg:Gl X x:=by rfl)
  (hdb:(x == ("__debug__":Str)) = false:=by decide) (he:starEach (e :: es) X.env = (false,eval e X.env) :: starEach es X.env:=by rfl) (hpl:(backTo pos (starEach es X.env)).any (·.1) = false:=by rfl):C3 X (.Call (.Name x p) (e :: es) [] pos) (ZcS c F gl):=by
 obtain ⟨hF,f,fd,mk,bi,ok⟩:=G
 exact Zq4 ⟨kc.at_,kc.nz⟩ mk hF ok bi hm hr ha hg hdb he hpl
end L3
namespace L3
open PySem PySem.Spec PyProof.Rows L2
theorem Znk {P:Program} {w:World} {H:Hp} {h:Heap} {e C:Addr} (x:ExO e C h):Za7 P w H h e (exH e C):=
 ⟨x,(let ⟨o,_,q,_⟩:=x; ⟨o,q⟩),fun _ _ z k=>let ⟨o,vs,a,b,c⟩:=z; ⟨o,vs,k o a,b,c⟩⟩
theorem ZfK {P:Program} {w:World} {H:Hp} {h:Heap} {a:Addr} {o:HO} (x:Za7 P w H h a o):∃ u,h.get? a = some u:=by
 cases o with
 | lst xs=>obtain ⟨_,_,_,_,e⟩:=x; exact ⟨_,e⟩
 | tup xs=>obtain ⟨_,_,_,o,e,_⟩:=x; exact ⟨o,e⟩
 | dK kvs=>obtain ⟨_,_,_,_,o,_,_,e,_⟩:=x; exact ⟨o,e⟩
 | dT kvs=>obtain ⟨_,_,_,_,o,_,_,e,_⟩:=x; exact ⟨o,e⟩
 | set S n=>obtain ⟨o,_,_,_,e,_⟩:=x; exact ⟨o,e⟩
 | ins C dx fs=>obtain ⟨_,_,_,e,_⟩:=x; exact ⟨_,e⟩
 | own y=>exact x
 | xd fs=>obtain ⟨_,⟨o,_,_,e,_⟩,_⟩:=x; exact ⟨o,e⟩
 | rng lo hi=>obtain ⟨_,_,_,e⟩:=x; exact ⟨_,e⟩
 | frz ob u=>obtain ⟨e,_⟩:=x; exact ⟨_,e⟩
 | tbl ps=>exact ⟨_,x⟩
 | met f y=>exact ⟨_,x⟩
 | ext φ=>exact x.2.1
def ZeT (B:Heap) (l:List Env) (e C:Addr) (h:Heap):Prop:=
 ∃ a0,Heap.FlyingW B l e (.ref C) a0 h ∨ (B.StaysIn h ∧ B.get? e = none ∧ h.FunFrames B l ∧ ∃ oe vs,h.get? e = some oe ∧ oe.cls = .ref C ∧ oe.data = .fields vs ∧ vs[0]? = some a0 ∧ vs[1]? = some .none)
section
variable {B h h':Heap} {l:List Env} {e C:Addr}
theorem Zfq {a0:Value} (f:Heap.FlyingW B l e (.ref C) a0 h):ExO e C h:=let ⟨o,vs,a,b,c,_⟩:=f.first; ⟨o,vs,a,b,c⟩
theorem ZeT.stays (f:ZeT B l e C h):B.StaysIn h:=by
 obtain ⟨a0,f | f⟩:=f
 ·exact f.1
 ·exact f.1
theorem ZeT.exo (f:ZeT B l e C h):ExO e C h:=by
 obtain ⟨a0,f | ⟨_,_,_,oe,vs,a,b,c,_⟩⟩:=f
 ·exact Zfq f
 ·exact ⟨oe,vs,a,b,c⟩
end
section
variable {M:Model} {A:Around} {E:Value → Shared → Prop} {s:Shared} {B:Heap} {env:Env} {outer:List Env} {L e C:Addr} {Q:Unit → Shared → Prop}
theorem ZqY (hfr:A.frames = some (env :: outer)) (hf:env.frame = some L) (f:ZeT B (env :: outer) e C s.heap)
  (hQ:∀ h' a0,Heap.HeldW B (env :: outer) e (.ref C) a0 L h' → s.heap.UpToSlots h' → Q () { s with heap:=h' }):wpAny M A (noteFrame (.ref e) env) Q E s:=by
 obtain ⟨a0,f | ⟨f1,f2,f3,oe,vs,he,hc,hd,h0,h1⟩⟩:=f
 ·exact wpAny_looks_onW hfr hf f fun h' x y=>hQ h' a0 x y
 ·unfold noteFrame
  simp only [hf]
  refine wpAny_bind (wpAny_field he hd h1 ?_)
  rw [if_neg (by decide)]
  refine wpAny_entryW hfr f3 hf he f1 f2 hd (Array.getElem?_eq_some_iff.mp h1).1 h0 fun h' hN=>?_
  obtain ⟨k1,k2,k3,k4⟩:=hN
  rw [hc] at k3
  exact hQ h' a0 ⟨k1,f2,k2,k3⟩ k4
theorem Zop (hfr:A.frames = some (env :: outer)) (hf:env.frame = some L) (f:ZeT B (env :: outer) e C s.heap)
  (hQ:∀ h',ZeT B outer e C h' → s.heap.UpToSlots h' → Q () { s with heap:=h' }):wpAny M A (leaving env (.ref e)) Q E s:=by
 obtain ⟨a0,f | ⟨f1,f2,f3,oe,vs,he,hc,hd,h0,h1⟩⟩:=f
 ·exact wpAny_leaves_onW hfr hf f fun h' x y=>hQ h' ⟨a0,.inl x⟩ y
 ·refine wpAny_leaving_firstW hfr f3 hf he f1 f2 hd h1 h0 fun h' hL=>?_
  obtain ⟨k1,⟨_,_,k2⟩,k3,k4⟩:=hL
  rw [hc] at k3
  exact hQ h' ⟨a0,.inl ⟨k1,f2,k2,k3⟩⟩ k4
end
structure Cov (B:Heap) (fs ex:List Addr) (H₀:Hp) (h₀:Heap) (H:Hp) (e:Addr):Prop where
 trk:∀ b,H b ≠ none → b ≠ e → ∃ o,B.get? b = some o
 old:∀ b o,h₀.get? b = some o → H₀ b = none → b ∉ fs → b ∉ ex → B.get? b = some o
 there:∀ b o,h₀.get? b = some o → b ∉ fs → b ∉ ex → ∃ o',B.get? b = some o'
section
variable {B h h' h₀:Heap} {fs ex:List Addr} {H H₀:Hp} {e C:Addr} {P:Program} {w:World}
theorem Cov.hok (c:Cov B fs ex H₀ h₀ H e) (ok:HOk P w H h) (he:H e = some (exH e C)) (s1:B.StaysIn h) (s2:B.StaysIn h') (x:ExO e C h'):HOk P w H h':=fun b u q=>by
 by_cases hb:b = e
 ·subst hb; rw [he] at q; cases q; exact Znk x
 ·refine (ok b u q).stay (fun d v hd z=>?_) (fun _ z=>z) fun _ _ z=>z
  have hd':H d ≠ none ∧ d ≠ e:=by
   rcases hd with rfl | hd
   ·exact ⟨by rw [q]; simp,hb⟩
   ·exact ⟨by rw [hd]; simp,by rintro rfl; rw [he] at hd; cases hd⟩
  obtain ⟨o,ho⟩:=c.trk d hd'.1 hd'.2
  have:=(s1 d o ho).symm.trans z
  cases this
  exact s2 d _ ho
theorem Cov.un (c:Cov B fs ex H₀ h₀ H e) (u:Un fs ex H₀ H h₀ h) (s2:B.StaysIn h') (sl:h.UpToSlots h') (nf:∀ b ∈ fs,H₀ b = none ∧ ∀ o,h₀.get? b = some o → ∀ vs,o.data ≠ .fields vs):Un fs ex H₀ H h₀ h' where
 keep:=fun b o q n hb hx=>s2 b o (c.old b o q n hb hx)
 slot:=fun b o q n hb hx=>by
  obtain ⟨s,e1⟩:=u.slot b o q n hb hx
  obtain ⟨s',e2⟩:=sl b _ e1 ((nf b hb).2 o q)
  exact ⟨s',e2⟩
 free:=u.free
 there:=fun b o q hx=>by
  by_cases hb:b ∈ fs
  ·obtain ⟨s,e1⟩:=u.slot b o q (nf b hb).1 hb hx
   obtain ⟨s',e2⟩:=sl b _ e1 ((nf b hb).2 o q)
   exact ⟨_,e2⟩
  ·exact let ⟨o',z⟩:=c.there b o q hb hx; ⟨o',s2 b o' z⟩
 tups:=u.tups
 frzs:=u.frzs
 tbls:=u.tbls
end
noncomputable def CXr (P:Program) (w:World):CXT:=fun outer H s E ev s'=>∃ e C H' B,ev = .ref e ∧ s'.os = s.os ∧ AllBare s'.gens ∧ Un (frs outer) [] H H' s.heap s'.heap ∧ HOk P w H' s'.heap ∧ H' e = some (exH e C) ∧
 ZeT B outer e C s'.heap ∧ Cov B (frs outer) [] H s.heap H' e ∧ E (.ref C) (some e) H'
def Zn9 (X:Cx) (e C:Addr) (H':Hp) (s':Shared):Prop:=H' e = some (exH e C) ∧ ∃ B,ZeT B X.stack e C s'.heap ∧ Cov B X.fs X.ex X.H₀ X.s₀.heap H' e ∧ ∀ p ∈ X.pn,B.get? p.1 = some p.2
def XW (X:Cx) (σ:St) (e C:Addr) (H':Hp):Prop:=∀ pins s',Inv X pins σ H' s' → Zn9 X e C H' s' → X.xe (.ref e) s'
noncomputable def EX (X:Cx) (σ:St):XK:=fun cv oe H'=>∀ e C,cv = .ref C → oe = some e → XW X σ e C H'
section
variable {X:Cx} {pins:List (Addr × Obj)} {σ:St} {H:Hp} {s s':Shared}
theorem ZeH (I:Inv X pins σ H s) {b:Addr} {o:Obj} (q:X.s₀.heap.get? b = some o) (hb:b ∉ X.fs):b ∉ frs X.stack:=fun z=>by
 rcases List.mem_cons.mp (I.stkSub b z) with e | e
 ·exact absurd (Nat.lt_of_lt_of_le (Heap.lt_size q) I.ok.above) (by rw [e]; exact Nat.lt_irrefl _)
 ·exact hb e
theorem ZmN (I:Inv X pins σ H s):∀ b ∈ X.fs,X.H₀ b = none ∧ ∀ o,X.s₀.heap.get? b = some o → ∀ vs,o.data ≠ .fields vs:=fun b hb=>⟨I.ok.frf b hb,fun o q=>by
 obtain ⟨_,o',ho,hd⟩:=I.ok.funs.mem hb
 rw [ho] at q; cases q; exact hd⟩
theorem Ztb (I:Inv X pins σ H s) {E:XK} {ev:Value} (h:CXr X.prog X.w X.stack H s E ev s'):∃ e C H',ev = .ref e ∧ Inv X pins σ H' s' ∧ Zn9 X e C H' s' ∧ E (.ref C) (some e) H':=by
 obtain ⟨e,C,H',B,rfl,os,bare,un,hok,he,fl,cv,hE⟩:=h
 refine ⟨e,C,H',rfl,I.call' os un hok bare (fun b z=>nomatch z),⟨he,B,fl,⟨cv.trk,fun b o q n hb hx=>?_,fun b o q hb hx=>?_⟩,fun p hp=>?_⟩,hE⟩
 ·exact cv.old b o (I.base.keep b o q n hb hx) (I.base.free b o q n hx) (ZeH I q hb) (fun z=>nomatch z)
 ·obtain ⟨o1,q1⟩:=I.base.there b o q hx
  exact cv.there b o1 q1 (ZeH I q hb) (fun z=>nomatch z)
 ·obtain ⟨e,n,ne,nf,_⟩:=I.pin p (List.mem_append_left _ hp)
  exact cv.old p.1 p.2 e n (fun z=>(List.mem_cons.mp (I.stkSub p.1 z)).elim ne nf) (fun z=>nomatch z)
theorem ZoF (I:Inv X pins σ H s) {h':Heap} {e C:Addr} {vs:List Value} (m:Heap.MadeExcOf s.heap h' e (.ref C) vs):
  H e = none ∧ Inv X pins σ (upd H e (exH e C)) { s with heap:=h' } ∧ Zn9 X e C (upd H e (exH e C)) { s with heap:=h' }:=by
 have hn:H e = none:=by
  cases q:H e with
  | none=>rfl
  | some u=>
   obtain ⟨o,ho⟩:=ZfK (I.hok e u q)
   rw [m.new] at ho; cases ho
 obtain ⟨t,ht,_,_⟩:=m.there
 have xo:ExO e C h':=⟨_,_,ht,rfl,rfl⟩
 have ne:∀ b o,s.heap.get? b = some o → b ≠ e:=fun b o q z=>by subst z; rw [m.new] at q; cases q
 have un:Un X.fs [] H (upd H e (exH e C)) s.heap h':=
  ⟨fun b u q _ _ _=>m.keeps b u q,
   fun b u q _ _ _=>⟨u.slots,m.keeps b u q⟩,
   fun b u q n _=>by rw [ZaE (ne b u q)]; exact n,
   fun b u q _=>⟨u,m.keeps b u q⟩,
   fun b xs q=>by rw [ZaE (Zbn q hn)]; exact q,
   fun b u xs q=>by rw [ZaE (Zbn q hn)]; exact q,
   fun b ps q=>⟨#[],by rw [ZaE (Zbn q hn),q]; simp⟩⟩
 have hok:HOk X.prog X.w (upd H e (exH e C)) h':=fun b u q=>by
  by_cases hb:b = e
  ·subst hb; rw [Zbm] at q; cases q; exact Znk xo
  ·rw [ZaE hb] at q
   exact (I.hok b u q).stay (fun c v _ z=>m.keeps c v z) (fun c z=>by rw [ZaE (Zbn z hn)]; exact z) fun c xs z=>by rw [ZaE (Zbn z hn)]; exact z
 refine ⟨hn,I.un (t':=s.toks) un hok,Zbm,PySem.W.hideAll s.heap (frs X.stack),⟨.ref t,.inr ⟨fun b o q=>m.keeps b o (PySem.W.of_hideAll _ q),?_,?_,_,_,ht,rfl,rfl,rfl,rfl⟩⟩,⟨fun b hb hne=>?_,fun b o q n hb hx=>?_,fun b o q hb hx=>?_⟩,fun p hp=>?_⟩
 ·cases q:(PySem.W.hideAll s.heap (frs X.stack)).get? e with
  | none=>rfl
  | some o=>have:=PySem.W.of_hideAll _ q; rw [m.new] at this; cases this
 ·exact (PySem.W.funFrames_hide I.stack fun env he a ha=>List.mem_filterMap.mpr ⟨env,he,ha⟩).of_keeps fun b o hb _=>⟨o,m.keeps b o hb,rfl⟩
 ·rw [ZaE hne] at hb
  obtain ⟨u,q⟩:=Option.ne_none_iff_exists'.mp hb
  obtain ⟨o,ho⟩:=ZfK (I.hok b u q)
  exact ⟨o,PySem.W.hideAll_get _ ho fun z=>hb (I.stkFree b z)⟩
 ·exact PySem.W.hideAll_get _ (I.base.keep b o q n hb hx) (ZeH I q hb)
 ·obtain ⟨o1,q1⟩:=I.base.there b o q hx
  exact ⟨o1,PySem.W.hideAll_get _ q1 (ZeH I q hb)⟩
 ·obtain ⟨e,n,ne,nf,_⟩:=I.pin p (List.mem_append_left _ hp)
  exact PySem.W.hideAll_get _ e fun z=>(List.mem_cons.mp (I.stkSub p.1 z)).elim ne nf
end
def Zjf (K:PySem.W.Frag) (H:Hp) (ι:List Addr) (Q:VK) (E:XK) (r:R3 D):Prop:=match r with
 | .ok d M'=>∀ v H' ι',Ext K H ι H' ι' → Zag K H' ι' M' → Rep K H' ι' d v → Q v H'
 | .exc x M'=>∀ e C H' ι',Ext K H ι H' ι' → Zag K H' ι' M' → Rep K H' ι' x.arg (.ref e) → ClsAt K x.cls C → E (.ref C) (some e) H'
 | .bad=>False
theorem Zjf.up {K:PySem.W.Frag} {H H1:Hp} {ι ι1:List Addr} {Q:VK} {E:XK} {r:R3 D} (e:Ext K H ι H1 ι1) (h:Zjf K H ι Q E r):Zjf K H1 ι1 Q E r:=by
 cases r with
 | ok d M=>exact fun v H' ι' e' S r=>h v H' ι' (e.trans e') S r
 | exc x M=>exact fun a C H' ι' e' S r=>h a C H' ι' (e.trans e') S r
 | bad=>exact h
theorem Zz.x {K:PySem.W.Frag} {H:Hp} {ι:List Addr} {Q:VK} {E:XK} {r:R3 D} (h:Zz K H ι Q r):Zjf K H ι Q E r:=by
 cases r with
 | ok d M=>exact h
 | exc x M=>exact h.elim
 | bad=>exact h
noncomputable def ZqD (K:PySem.W.Frag) (n:Nat) (F:F3):Sp:=fun vs H Q E=>∃ ι M ds,Zag K H ι M ∧ Zy K H ι ds vs ∧ ds.length = n ∧ Zjf K H ι Q E (F ds M)
def ZtX (X:Cx) (f:E3):TE:=fun σ H Q=>∃ ι M env,Zag X.K H ι M ∧ Za1 X.K H ι env σ ∧ Zjf X.K H ι Q (EX X σ) (f env M)
def Zga (X:Cx) (any:Bool) (σ:St) (H:Hp) (ι:List Addr) (E:Ends) (r:O3):Prop:=match r with
 | .nx env' M'=>∀ σ' H' ι',Ext X.K H ι H' ι' → Zag X.K H' ι' M' → Za1 X.K H' ι' env' σ' → E.nx σ' H'
 | .bk env' M'=>∀ σ' H' ι',Ext X.K H ι H' ι' → Zag X.K H' ι' M' → Za1 X.K H' ι' env' σ' → E.bk σ' H'
 | .ct env' M'=>∀ σ' H' ι',Ext X.K H ι H' ι' → Zag X.K H' ι' M' → Za1 X.K H' ι' env' σ' → E.ct σ' H'
 | .rt d M'=>∀ v H' ι',Ext X.K H ι H' ι' → Zag X.K H' ι' M' → Rep X.K H' ι' d v → E.rt v H'
 | .exc x M'=>∀ σ' e C H' ι',(any = false → σ' = σ) → Ext X.K H ι H' ι' → Zag X.K H' ι' M' → Rep X.K H' ι' x.arg (.ref e) → ClsAt X.K x.cls C → XW X σ' e C H'
 | .bad=>False
def Zsk (X:Cx) (any:Bool) (f:S3):TS:=fun E σ H=>∃ ι M env,Zag X.K H ι M ∧ Za1 X.K H ι env σ ∧ Zga X any σ H ι E (f env M)
def C3X (X:Cx) (e:Expr) (f:E3):Prop:=PE X e (ZtX X f)
def CSX (X:Cx) (any:Bool) (st:Stmt) (f:S3):Prop:=PS X st (Zsk X any f)
def ZiE (X:Cx) (any:Bool) (st:List Stmt) (f:S3):Prop:=PSs X st (Zsk X any f)
theorem Zga.up {X:Cx} {any:Bool} {σ σ1:St} {H H1:Hp} {ι ι1:List Addr} {Q:Ends} {r:O3} (e:Ext X.K H ι H1 ι1) (hs:any = false → σ1 = σ) (h:Zga X any σ H ι Q r):Zga X any σ1 H1 ι1 Q r:=by
 cases r with
 | nx d M=>exact fun v H' ι' e' S r=>h v H' ι' (e.trans e') S r
 | bk d M=>exact fun v H' ι' e' S r=>h v H' ι' (e.trans e') S r
 | ct d M=>exact fun v H' ι' e' S r=>h v H' ι' (e.trans e') S r
 | rt d M=>exact fun v H' ι' e' S r=>h v H' ι' (e.trans e') S r
 | exc x M=>exact fun σ' a C H' ι' z e' S r=>h σ' a C H' ι' (fun q=>(z q).trans (hs q)) (e.trans e') S r
 | bad=>exact h
theorem ZmP {f:S3} {X:Cx} {any:Bool} {env:Zaf} {M:Store} {σ:St} {H:Hp} {ι:List Addr} {E:Ends} (h:Zga X any σ H ι E (sNo f env M)):Zem X.K H ι E (f env M):=by
 unfold sNo at h
 cases q:f env M with
 | exc x M1=>rw [q] at h; exact h.elim
 | bad=>rw [q] at h; exact h.elim
 | nx e M1=>rw [q] at h; exact h
 | rt e M1=>rw [q] at h; exact h
 | bk e M1=>rw [q] at h; exact h
 | ct e M1=>rw [q] at h; exact h
section
variable {X:Cx} {any:Bool} {st:Stmt} {sts:List Stmt} {e c1:Expr} {f:E3} {u w:S3} {pos:Pos}
theorem Zel (h:CS X.nox st u):CSX X any st (sNo u):=fun pins s σ H D I z=>by
 obtain ⟨ι,M,env,S,E,hf⟩:=z
 exact wpAny_mono (h pins s σ H D (I.wish _) ⟨ι,M,env,S,E,ZmP (X:=X) hf⟩) (fun _ _ q=>q.unwish) fun _ _ z=>False.elim z
theorem ZiK (h:CSs X.nox sts u):ZiE X any sts (sNo u):=fun pins s σ H D I z=>by
 obtain ⟨ι,M,env,S,E,hf⟩:=z
 exact wpAny_mono (h pins s σ H D (I.wish _) ⟨ι,M,env,S,E,ZmP (X:=X) hf⟩) (fun _ _ q=>q.unwish) fun _ _ z=>False.elim z
theorem Zex (h:CSX X any st u):ZiE X any [st] u:=Zk3 h
theorem ZbE (h1:CSX X true st u) (h2:ZiE X true sts w):ZiE X true (st :: sts) (Zv u w):=(Zjb h1 h2).imp fun D σ H zz1=>by
 obtain ⟨ι,M,env,S,E,h⟩:=zz1
 refine ⟨ι,M,env,S,E,?_⟩
 unfold Zv at h
 cases q:u env M with
 | nx e M1=>rw [q] at h; exact fun σ' H' ι' x S' E'=>⟨ι',M1,e,S',E',Zga.up x (fun z=>nomatch z) h⟩
 | rt e M1=>rw [q] at h; exact h
 | bk e M1=>rw [q] at h; exact h
 | ct e M1=>rw [q] at h; exact h
 | exc x M1=>rw [q] at h; exact h
 | bad=>rw [q] at h; exact h
theorem ZkH {x y:List Stmt} (hc:CT X.nox c1 f) (ha:ZiE X any x u) (hb:ZiE X any y w):CSX X any (.If c1 x y pos) (sIf (eNo f) u w):=(Zp3 (PT.nox hc) ha hb).imp fun D σ H zz1=>by
 obtain ⟨ι,M,env,S,E,h⟩:=zz1
 refine ⟨ι,M,env,S,E,?_⟩
 unfold sIf eNo at h
 cases q:f env M with
 | ok d M1=>
  rw [q] at h
  cases d with
  | bl k=>
   intro H1 ι1 x1 S1
   cases k with
   | true=>rw [if_pos rfl]; exact ⟨ι1,M1,env,S1,E.mono x1,Zga.up x1 (fun _=>rfl) h⟩
   | false=>rw [if_neg (by decide)]; exact ⟨ι1,M1,env,S1,E.mono x1,Zga.up x1 (fun _=>rfl) h⟩
  | _=>exact h.elim
 | exc x M1=>rw [q] at h; exact h.elim
 | bad=>rw [q] at h; exact h.elim
theorem ZoE (i:Nat) {x:Str} {pos':Pos} (hN:X.N.Nodup) (he:C3X X e f) (hi:X.N[i]? = some x:=by rfl) (hx:Loc X.env.scope x:=by first | exact Or.inl rfl | exact Or.inr rfl) (hs:swapsWith e (some (.Name x pos')) pos.line X.env = pure false:=by rfl)
  (hf:X.fn x = true ∨ X.env.scope.names.lookup x = some .local:=by first | exact .inl rfl | exact .inr rfl):CSX X any (.Assign [.Name x pos'] e pos) (Zaj i f):=(Zn7 hN hi hx he hs hf).imp fun D σ H zz1=>by
 obtain ⟨ι,M,env,S,E,h⟩:=zz1
 refine ⟨ι,M,env,S,E,?_⟩
 unfold Zaj at h
 cases q:f env M with
 | ok d M1=>rw [q] at h; exact fun v H1 ι1 x1 S1 r1=>h _ H1 ι1 x1 S1 ((E.mono x1).set i r1)
 | exc x M1=>rw [q] at h; exact fun a C H' ι' x1 S1 r1 c1 a' C' e1 e2=>by cases e1; cases e2; exact h σ a C H' ι' (fun _=>rfl) x1 S1 r1 c1
 | bad=>rw [q] at h; exact h.elim
end
section
variable {P:Program} {w:World} {K:PySem.W.Frag} {mg:Str → Option Value} {base:Heap}
theorem Zol {N:List Str} {qual:Str} {scope:Scope} {f:Addr} {cd:Value} {A:Around} {outer:List Env} {s:Shared} {H:Hp} {E:XK} {σ:St} {e C:Addr} {H':Hp} (hE:E (.ref C) (some e) H'):
  XW (ZfS (CXr P w) P w K mg base N qual scope f cd A outer s H E) σ e C H':=fun pins s' I x=>by
 obtain ⟨he,B,fl,cv,_⟩:=x
 show wpAny _ _ (leaving _ (.ref e)) _ _ s'
 refine Zop I.ok.frames rfl fl fun h' fl' sl=>?_
 exact ⟨e,C,H',B,rfl,I.os,I.bare,cv.un I.base fl'.stays sl (ZmN I),cv.hok I.hok he fl.stays fl'.stays fl'.exo,he,fl',cv,hE⟩
theorem Zjq {H H':Hp} {ι ι':List Addr} {M M':Store} {Q:VK} {E:XK} {d:D} {v:V} (S:Zag K H ι M) (x:Ext K H ι H' ι') (S':Zag K H' ι' M') (r:Rep K H' ι' d v) (h:Zjf K H ι Q E (Zcv M d M')):Q v H':=
 ZiT S x S' r (by unfold Zcv at h ⊢; split at h <;> (rename_i c; first | rw [if_pos c] | rw [if_neg c]) <;> exact h)
theorem Zt5 {x qual:Str} {st:Stmt} {f:Addr} {fd:FuncData} {N ps:List Str} {k:Nat} {body:S3} (F:Fun K x qual st f fd) (S:Zar N ps (Zh st))
  (hb:∀ (cdv:Value) (A:Around) (outer:List Env) (s:Shared) (H:Hp) (E:XK),Zbr k (A.deeper (envOfC qual (Zh st) s.heap.objs.size f cdv)) → ZiE (ZfS (CXr P w) P w K mg base N qual (Zh st) f cdv A outer s H E) true (Zah st) body):
  ZcD P w K mg base (CXr P w) (k + 1) f fd ps (ZqD K ps.length (mkF ps.length N.length body)):=by
 obtain ⟨oc,od,dV,kV,doc,pm,an,cdv,ct,osl,rfl,lk,hcd⟩:=F.ex
 refine ZpF lk hcd S (fun vs H Q E ⟨ι,M,ds,_,r,l,_⟩=>by rw [r.length,l]) fun A outer s H vs Q E hr zz1=>?_
 obtain ⟨ι,M,ds,SR,r,l,h⟩:=zz1
 refine ⟨_,hb cdv A outer s H E hr,ι,M,ds.map some ++ List.replicate (N.length - ps.length) none,SR,?_,?_⟩
 ·have e:L2.start N vs = vs.map some ++ List.replicate (N.length - ps.length) none:=by unfold L2.start; rw [r.length,l]
  rw [e]
  exact Za1.start r _
 ·unfold mkF at h
  rw [if_pos l] at h
  cases q:body (ds.map some ++ List.replicate (N.length - ps.length) none) M with
  | nx env' M'=>rw [q] at h; exact fun σ' H' ι' x S' E'=>Zjq SR x S' Rep.non h
  | rt d M'=>rw [q] at h; exact fun v H' ι' x S' r'=>Zjq SR x S' r' h
  | bk _ _=>rw [q] at h; exact h.elim
  | ct _ _=>rw [q] at h; exact h.elim
  | exc _ _=>rw [q] at h; exact fun σ' a C H' ι' _ x S' r' c'=>Zol (h a C H' ι' x S' r' c')
  | bad=>rw [q] at h; exact h.elim
end
end L3
namespace L3
open PySem PySem.Spec PyProof.Rows L2
section
variable {P:Program} {w:World} {K:PySem.W.Frag} {mg:Str → Option Value} {base:Heap}
theorem Zo5 {k n:Nat} {f:Addr} {fd:FuncData} {ps:List Str} {F:F3} (G:ZcD P w K mg base (CXr P w) k f fd ps (ZqD K n F)):ZcD P w K mg base CX0 k f fd ps (sp3 K n F):=
 ⟨fun vs H Q E z=>let ⟨ι,M,ds,S,r,l,h⟩:=z; G.len vs H Q E0 ⟨ι,M,ds,S,r,l,h.x⟩,fun A outer s H args us vs Q E hr he hb hv z=>let ⟨ι,M,ds,S,r,l,h⟩:=z; codeAny_mono (G.run A outer s H args us vs Q E0 hr he hb hv ⟨ι,M,ds,S,r,l,h.x⟩) fun r s' z=>by
  cases r with
  | error e=>obtain ⟨_,_,_,_,_,_,_,_,_,_,_,_,z⟩:=z; exact z.elim
  | ok fl=>cases fl <;> exact z⟩
def FnX (P:Program) (w:World) (K:PySem.W.Frag) (mg:Str → Option Value) (base:Heap) (k:Nat) (x:Str) (ps:List Str) (F:F3):Prop:=
 (∀ ds M,ds.length ≠ ps.length → F ds M = .bad) ∧ ∃ f fd,mg x = some (.ref f) ∧ PySem.W.keepIn K (.ref f) = true ∧ Binds K fd ps [] ∧ ZcD P w K mg base (CXr P w) k f fd ps (ZqD K ps.length F)
theorem FnX.fn {k:Nat} {x:Str} {ps:List Str} {F:F3} (h:FnX P w K mg base k x ps F):Fn3 P w K mg base k x ps F:=let ⟨n,f,fd,a,b,c,d⟩:=h; ⟨n,f,fd,a,b,c,Zo5 d⟩
theorem FnX.of {x:Str} {st:Stmt} {N ps:List Str} {k:Nat} {body:S3} (d:ZaH K mg x st ps) (S:Zar N ps (Zh st))
  (hb:∀ (f:Addr) (cdv:Value) (A:Around) (outer:List Env) (s:Shared) (H:Hp) (E:XK),Zbr k (A.deeper (envOfC x (Zh st) s.heap.objs.size f cdv)) → ZiE (ZfS (CXr P w) P w K mg base N x (Zh st) f cdv A outer s H E) true (Zah st) body):
  FnX P w K mg base (k + 1) x ps (mkF ps.length N.length body):=by
 obtain ⟨f,fd,F,m,bi⟩:=d
 exact ⟨fun ds M h=>if_neg h,f,fd,m,F.kp,bi,Zt5 F S (hb f)⟩
end
section
variable {X:Cx} {o e:Expr} {es:List Expr} {f:E3} {gl:EL3} {c m:List Nat} {C:Addr} {fn x:Str} {pos pos' apos p:Pos} {k:Nat} {ps:List Str} {F:F3}
theorem Zsq {fa:Addr} {fd:FuncData} {sp:Sp} {pins:List (Addr × Obj)} {σ:St} {H:Hp} {s:Shared} {Q:VK} {us:List Value} {vs:List V} (G:ZcD X.prog X.w X.K X.mg X.base (CXr X.prog X.w) k fa fd ps sp) (hr:Zbr k X.A) (hb:Binds X.K fd ps [])
  (I:Inv X pins σ H s) (r:Vals vs us) (h:sp vs H Q (EX X σ)):wpAny (model X.prog X.w) X.A (call (.ref fa) us) (EP X pins σ Q) X.xe s:=by
 have hl:(us ++ []).length = ps.length:=by rw [List.append_nil,← r.length]; exact G.len _ _ _ _ h
 have hb':=hb s us I.kIn hl
 rw [List.append_nil] at hb'
 refine wpAny_call (codeAny_mono (G.run X.A X.stack s H ⟨us,[]⟩ us vs Q (EX X σ) hr I.env0 hb' r h) fun r s' hq=>?_)
 cases r with
 | error e=>
  obtain ⟨e,C,H',rfl,I',x,hE⟩:=Ztb I hq
  exact hE e C rfl rfl pins s' I' x
 | ok fl=>
  cases fl with
  | ret u=>exact I.after hq
  | next=>exact False.elim hq
  | brk=>exact False.elim hq
  | cont=>exact False.elim hq
theorem ZmZ {es:List Expr} {pins:List (Addr × Obj)} {σ:St} {H:Hp} {s:Shared} {ι:List Addr} {M M1:Store} {env:Zaf} {ds:List D} {R:List Value → Shared → Prop} (ha:CA X.nox es gl) (I:Inv X pins σ H s) (S:Zag X.K H ι M) (E:Za1 X.K H ι env σ) (q:gl env M = .ok ds M1)
  (h:∀ us s1 vs H1 ι1,Inv X pins σ H1 s1 → Vals vs us → Ext X.K H ι H1 ι1 → Zag X.K H1 ι1 M1 → Zy X.K H1 ι1 ds vs → R us s1):wpAny (model X.prog X.w) X.A (spliced (backTo pos (starEach es X.env))) R X.xe s:=by
 refine wpAny_mono (ha pos pins s σ H (fun vs H1=>∃ ι1,Ext X.K H ι H1 ι1 ∧ Zag X.K H1 ι1 M1 ∧ Zy X.K H1 ι1 ds vs) (I.wish _) ⟨ι,M,env,S,E,?_⟩) (fun us s1 z=>?_) fun _ _ z=>False.elim z
 ·rw [q]; exact fun vs H1 ι1 x1 S1 r1=>⟨ι1,x1,S1,r1⟩
 ·obtain ⟨vs,H1,I1,r,ι1,x1,S1,r1⟩:=z
  exact h us s1 vs H1 ι1 I1.unwish r x1 S1 r1
theorem ZoP (G:FnX X.prog X.w X.K X.mg X.base k x ps F) (hr:Zbr k X.A) (ha:CA X.nox (e :: es) gl) (hg:Gl X x:=by rfl) (hdb:(x == ("__debug__":Str)) = false:=by decide)
  (he:starEach (e :: es) X.env = (false,eval e X.env) :: starEach es X.env:=by rfl) (hpl:(backTo pos (starEach es X.env)).any (·.1) = false:=by rfl):C3X X (.Call (.Name x p) (e :: es) [] pos) (Zae F (Zjo gl)):=by
 obtain ⟨hn,fa,fd,hm,kp,bi,ok⟩:=G
 intro pins s σ H Q I h
 obtain ⟨ι,M,env,S,E,h⟩:=h
 refine wpAny_Call_Name_kw (ZeK I hg hm ?_ hdb)
 unfold Zae Zjo at h
 cases q:gl env M with
 | exc _ _=>rw [q] at h; exact h.elim
 | bad=>rw [q] at h; exact h.elim
 | ok ds M1=>
  rw [q] at h
  have h:Zjf X.K H ι Q (EX X σ) (F ds M1):=h
  have hl:ds.length = ps.length:=by
   refine Decidable.byContradiction fun z=>?_
   rw [hn ds M1 z] at h
   exact h.elim
  exact PySem.W.callWith_K (h₀:=X.base) I.ok.mod.kin kp (ZmZ ha I S E q fun us s1 vs H1 ι1 I1 r x1 S1 r1=>⟨I1.kIn,Zsq ok hr bi I1 r ⟨ι1,M1,ds,S1,r1,hl,h.up x1⟩⟩) he hpl
end
noncomputable abbrev bmV:List Value:=[.type "ValueError",.type "Exception",.type "BaseException",.type "object"]
def ZjG (K:PySem.W.Frag) (c:List Nat) (C:Addr):Prop:=ClsAt K c C ∧ ∃ (na q:Str) (N:Addr) (bs bm:List Value) (hdct:Bool) (sn:List Str) (sub:List Value) (ab:Bool) (col:Option Bool) (dd:Option Addr) (k0 k1 k2 k3 k5:Option Value),
 K.lookup C = some (excClassObj na q C N bs bm hdct sn sub ab col dd k0 k1 k2 k3 k5 "ValueError.__new__") ∧ (∀ h:Heap,K.In h → ∃ mN,h.Ns N mN ∧ mN "__init__" = none) ∧ ∀ h:Heap,K.In h → OwnTail h bmV bm
theorem ZfY {X:Cx} {any:Bool} {c:List Nat} {C:Addr} {x:Str} {np cpos pos:Pos} {a:Expr} {as:List Expr} {gl:EL3} (O:ZjG X.K c C) (hm:X.mg x = some (.ref C)) (ha:CA X.nox (a :: as) gl) (hc:X.calm = true:=by rfl) (hg:Gl X x:=by rfl) (hdb:(x == ("__debug__":Str)) = false:=by decide)
  (he:starEach (a :: as) X.env = (false,eval a X.env) :: starEach as X.env:=by rfl) (hpl:(backTo cpos (starEach as X.env)).any (·.1) = false:=by rfl):CSX X any (.Raise (some (.Call (.Name x np) (a :: as) [] cpos)) none pos) (Ze1 c gl):=by
 obtain ⟨at_,na,q,N,bs,bm,hdct,sn,sub,ab,col,dd,k0,k1,k2,k3,k5,lk,hN,hT⟩:=O
 intro pins s σ H D I z
 obtain ⟨ι,M,env,S,E,h⟩:=z
 unfold Ze1 at h
 cases qg:gl env M with
 | exc _ _=>rw [qg] at h; exact h.elim
 | bad=>rw [qg] at h; exact h.elim
 | ok ds M1=>
  rw [qg] at h
  match ds,h,qg with
  | [],h,_=>exact h.elim
  | _ :: _ :: _,h,_=>exact h.elim
  | [d],h,qg=>
   obtain ⟨mN,hns,hni⟩:=hN X.base I.ok.mod.kin
   refine wpAny_Raise_call_subU (C:=C) (nm:=na) (q:=q) (N:=N) (bs:=bs) (bm:=bm) (hdct:=hdct) (sn:=sn) (sub:=sub) (ab:=ab) (col:=col) (dd:=dd) (k0:=k0) (k1:=k1) (k2:=k2) (k3:=k3) (k5:=k5)
    PySem.F.excBase_ValueError (bmB:=bmV) (by decide) PySem.F.excBase_ValueError (mN:=mN) ((hT X.base I.ok.mod.kin).hasType (by decide)) (I.ok.hd hc) (by rw [he]; show (false || (backTo cpos (starEach as X.env)).any (·.1)) = false; rw [hpl]; rfl) hni (ZeK I hg hm ⟨rfl,?_⟩ hdb)
   have key:=ZmZ (pos:=cpos) (R:=fun us s2=>us.length ≤ sizeLine ∧ s2.heap.get? C = some (excClassObj na q C N bs bm hdct sn sub ab col dd k0 k1 k2 k3 k5 "ValueError.__new__") ∧ s2.heap.Ns N mN ∧ OwnTail s2.heap bmV bm ∧ ∀ h' e,Heap.MadeExcOf s2.heap h' e (.ref C) us → X.xe (.ref e) { s2 with heap:=h' }) ha I S E qg (fun us s1 vs H1 ι1 I1 r x1 S1 r1=>by
    refine ⟨?_,I1.kIn _ _ lk,hns.keeps I1.bk,hT _ I1.kIn,fun h' e mk=>?_⟩
    ·rw [← r.length,r1.length]; exact (by decide:1 ≤ sizeLine)
    ·obtain ⟨hn,I2,xin⟩:=ZoF I1 mk
     exact h σ e C _ (ι1 ++ [e]) (fun _=>rfl) (x1.trans (Loose.extA (.inl hn))) (S1.new hn (.inr ⟨C,Zbm,rfl,at_,rfl⟩)) (Rep.ref (by rw [← S1.len]; simp)) at_ pins _ I2 xin)
   rw [he] at key ⊢
   exact Calls.evalArgs_plain (wpAny_mono key (fun vs s₂ h₂=>⟨rfl,h₂⟩) fun _ _ y=>y)
end L3
namespace L3
open PySem PySem.Spec PyProof.Rows L2
noncomputable abbrev inX (X:Cx) (A':Around) (E':Value → Shared → Prop):Cx:={ X with A:=A',calm:=false,xe:=E' }
noncomputable abbrev inT (X:Cx) (pn':List (Addr × Obj)) (E':Value → Shared → Prop):Cx:={ X with pn:=pn',xe:=E' }
section
variable {X:Cx} {pins:List (Addr × Obj)} {σ:St} {H:Hp} {s:Shared}
theorem ZlE (I:Inv X pins σ H s) (A':Around) (E':Value → Shared → Prop) (hf:A'.frames = X.A.frames):Inv (inX X A' E') pins σ H s:=
 let ok:=I.ok
 ⟨⟨ok.mod,ok.kind,ok.glob,ok.blt,ok.above,ok.inj,ok.has,ok.cab,(fun z=>nomatch z),hf.trans ok.frames,ok.stk,ok.exf,ok.bs,ok.bsz,ok.noex,ok.exfs,ok.funs,ok.frf⟩,I.os,I.bare,I.base,I.loc,I.cell,I.free,I.freeC,I.pin,I.hok,I.len⟩
theorem Zmw {pins':List (Addr × Obj)} {σ':St} {H':Hp} {s':Shared} {A':Around} {E':Value → Shared → Prop} (I:Inv X pins σ H s) (J:Inv (inX X A' E') pins' σ' H' s'):Inv X pins' σ' H' s':=
 ⟨I.ok,J.os,J.bare,J.base,J.loc,J.cell,J.free,J.freeC,J.pin,J.hok,J.len⟩
theorem Zpo (I:Inv X pins σ H s) (E':Value → Shared → Prop):Inv (inT X (X.pn ++ pins) E') [] σ H s:=
 let ok:=I.ok
 ⟨⟨ok.mod,ok.kind,ok.glob,ok.blt,ok.above,ok.inj,ok.has,ok.cab,ok.hd,ok.frames,ok.stk,ok.exf,ok.bs,ok.bsz,ok.noex,ok.exfs,ok.funs,ok.frf⟩,I.os,I.bare,I.base,I.loc,I.cell,I.free,I.freeC,fun p hp=>I.pin p (by simpa using hp),I.hok,I.len⟩
theorem Zez {pins':List (Addr × Obj)} {σ':St} {H':Hp} {s':Shared} {E':Value → Shared → Prop} (I:Inv X pins σ H s) (J:Inv (inT X (X.pn ++ pins) E') pins' σ' H' s'):Inv X pins σ' H' s':=
 ⟨I.ok,J.os,J.bare,J.base,J.loc,J.cell,J.free,J.freeC,fun p hp=>J.pin p (List.mem_append_left _ hp),J.hok,J.len⟩
theorem Zoy {D:Ends} {pins':List (Addr × Obj)} {f:Flow} {s':Shared} {E':Value → Shared → Prop} (I:Inv X pins σ H s) (h:SP (inT X (X.pn ++ pins) E') pins' D f s'):SP X pins D f s':=by
 cases f with
 | next=>obtain ⟨σ',H',J,q⟩:=h; exact ⟨σ',H',Zez I J,q⟩
 | brk=>obtain ⟨σ',H',J,q⟩:=h; exact ⟨σ',H',Zez I J,q⟩
 | cont=>obtain ⟨σ',H',J,q⟩:=h; exact ⟨σ',H',Zez I J,q⟩
 | ret u=>obtain ⟨v,σ',H',J,r,q⟩:=h; exact ⟨v,σ',H',Zez I J,r,q⟩
theorem Zom {B h':Heap} {e C:Addr} (I:Inv X pins σ H s) (he:H e = some (exH e C)) (s1:B.StaysIn s.heap) (cv:Cov B X.fs X.ex X.H₀ X.s₀.heap H e) (hp:∀ p ∈ X.pn ++ pins,B.get? p.1 = some p.2) (s2:B.StaysIn h') (sl:s.heap.UpToSlots h') (xo:ExO e C h'):Inv X pins σ H { s with heap:=h' }:=by
 have cellK:∀ c v,s.heap.IsCell c v → h'.IsCell c v:=fun c v z=>by
  obtain ⟨o,ho,hd⟩:=z
  obtain ⟨s3,e3⟩:=sl c o ho fun vs q=>by rw [hd] at q; cases q
  exact ⟨_,e3,hd⟩
 refine ⟨I.ok,I.os,I.bare,cv.un I.base s2 sl (ZmN I),?_,fun x c z=>?_,I.free,I.freeC,fun p hq=>⟨s2 _ _ (hp p hq),(I.pin p hq).2⟩,cv.hok I.hok he s1 s2 xo,I.len⟩
 ·obtain ⟨m,hn,hl⟩:=I.loc
  refine ⟨m,sl.ns hn,fun i x v e1 e2 e3=>?_⟩
  obtain ⟨u,r,l⟩:=hl i x v e1 e2 e3
  refine ⟨u,r,?_⟩
  rcases l with l | ⟨k,c,e,z⟩
  ·exact .inl l
  ·exact .inr ⟨k,c,e,cellK _ _ z⟩
 ·obtain ⟨v,q⟩:=I.cell x c z
  exact ⟨v,cellK _ _ q⟩
theorem Zrn {M:Model} {A:Around} {E:Value → Shared → Prop} {Q:Unit → Shared → Prop} {j:Nat} {n:Str} {pos:Pos} (I:Inv X pins σ H s) (hN:X.N.Nodup) (hj:X.N[j]? = some n) (hl:X.env.scope.names.lookup n = some .local)
  (h:∀ s',Inv X pins (σ.set j none) H s' → Q () s'):wpAny M A (do bindName X.env n .none; unbindBehindTheSuite X.env n pos) Q E s:=by
 have hl':X.env.kindOf n = some .local:=hl
 have hp:(X.env.scope.kind == .class || (X.env.scope.kind == .module && X.env.locals != X.env.globals)) = false:=by rw [I.ok.kind]; rfl
 obtain ⟨m,hn,hv⟩:=id I.loc
 refine wpAny_bind (wpAny_bindName (wpAny_storeName_local hl' hn (fun h₁ hn₁ hs₁=>?_) hp))
 unfold unbindBehindTheSuite unbindName deleteName
 refine wpAny_onRaise (wpAny_bind (wpAny_point (wpAny_bind ?_)))
 simp only [hp,hl']
 rw [if_neg (by decide)]
 refine wpAny_bind (wpAny_nsDel_keeps hn₁ fun h₂ v hn₂ hs₂=>?_)
 simp only [Option.isSome_some,if_true,if_false,Bool.false_eq_true,Bool.not_true]
 refine wpAny_pure (wpAny_point (h _ ?_))
 have sb:=hs₁.trans hs₂
 have ne:∀ b o,X.s₀.heap.get? b = some o → b ≠ X.env.locals:=fun b o q=>Nat.ne_of_lt (Nat.lt_of_lt_of_le (Heap.lt_size q) I.ok.above)
 have nt:∀ b,H b ≠ none → b ≠ X.env.locals:=fun b q z=>q (by rw [z]; exact I.free)
 have cellK:∀ x c,X.env.cells.lookup x = some c → ∀ v,s.heap.IsCell c v → h₂.IsCell c v:=fun x c z v q=>by
  obtain ⟨o,ho,hd⟩:=q
  exact ⟨o,(sb.2 c (I.cne x c z)).trans ho,hd⟩
 refine ⟨I.ok,I.os,I.bare,⟨fun b o q n hb hx=>?_,fun b o q n hb hx=>?_,I.base.free,fun b o q hx=>?_,I.base.tups,I.base.frzs,I.base.tbls⟩,⟨_,hn₂,fun i x v' e1 e2 e3=>?_⟩,fun x c z=>?_,I.free,I.freeC,fun p hp=>?_,fun b u q=>?_,by rw [List.length_set]; exact I.len⟩
 ·exact (sb.2 b (ne b o q)).trans (I.base.keep b o q n hb hx)
 ·obtain ⟨sl,z⟩:=I.base.slot b o q n hb hx
  exact ⟨sl,(sb.2 b (ne b o q)).trans z⟩
 ·obtain ⟨o',z⟩:=I.base.there b o q hx
  exact ⟨o',(sb.2 b (ne b o q)).trans z⟩
 ·have hij:i ≠ j:=fun z=>by
   subst z
   rw [List.getElem?_set_self'] at e2
   cases q:σ[i]? with
   | none=>rw [q] at e2; simp at e2
   | some _=>rw [q] at e2; simp at e2
  rw [List.getElem?_set_ne (Ne.symm hij)] at e2
  obtain ⟨u,r,l⟩:=hv i x v' e1 e2 e3
  have hxn:x ≠ n:=fun z=>hij (ZgC hN e1 (by rw [z]; exact hj))
  refine ⟨u,r,?_⟩
  rcases l with ⟨k,l⟩ | ⟨k,c,e,z⟩
  ·refine .inl ⟨k,?_⟩
   show (if x = n then _ else _) = _
   rw [if_neg hxn]
   show (if x = n then _ else _) = _
   rw [if_neg hxn]
   exact l
  ·exact .inr ⟨k,c,e,cellK x c e _ z⟩
 ·obtain ⟨v,q⟩:=I.cell x c z
  exact ⟨v,cellK x c z v q⟩
 ·obtain ⟨e,n,ne',r⟩:=I.pin p hp
  exact ⟨(sb.2 _ ne').trans e,n,ne',r⟩
 ·refine (I.hok b u q).stay (fun c v hc z=>(sb.2 c (nt c ?_)).trans z) (fun _ z=>z) fun _ _ z=>z
  rcases hc with rfl | hc
  ·rw [q]; simp
  ·rw [hc]; simp
end
theorem Za1.unset {K:PySem.W.Frag} {H:Hp} {ι:List Addr} {env:Zaf} {σ:St} (r:Za1 K H ι env σ) (j:Nat):Za1 K H ι (env.set j none) (σ.set j none):=by
 refine ⟨by simp [r.1],fun i d h=>?_⟩
 by_cases hij:i = j
 ·subst hij
  rw [List.getElem?_set_self'] at h
  cases q:env[i]? with
  | none=>rw [q] at h; simp at h
  | some _=>rw [q] at h; simp at h
 ·rw [List.getElem?_set_ne (Ne.symm hij)] at h
  obtain ⟨w,q,z⟩:=r.2 i d h
  exact ⟨w,by rw [List.getElem?_set_ne (Ne.symm hij)]; exact q,z⟩
theorem ZqT {X:Cx} {x n:Str} {np pos pos2:Pos} {body suite:List Stmt} {b0:Stmt} {cs:List (List Nat)} (j:Nat) {b h:S3} {CE:Addr} (hN:X.N.Nodup) (hm:X.mg x = some (.ref CE)) (hsub:∀ c C,cs.contains c = true → ClsAt X.K c C → PySem.W.exmOne X.K (.ref C) (.ref CE) = some true)
  (hb:∀ pn' E',ZiE (inT X pn' E') false body b) (hs:∀ A' E',CSs (inX X A' E') (b0 :: suite) h) (hst:X.stack = X.env :: X.outer:=by rfl) (hfr:X.env.frame = some X.env.locals:=by rfl) (hj:X.N[j]? = some n:=by rfl) (hl:X.env.scope.names.lookup n = some .local:=by rfl) (hg:Gl X x:=by rfl)
  (hdb:(x == ("__debug__":Str)) = false:=by decide):CS X (.Try body [.ExceptHandler (some (.Name x np)) (some n) (b0 :: suite) pos] [] [] pos2) (Zj7 cs j b h):=by
 intro pins s σ H D I z
 obtain ⟨ι,M,env,S,E,hf⟩:=z
 refine wpAny_Try_except (wpAny_mono (hb (X.pn ++ pins) _ [] s σ H D (Zpo I _) ⟨ι,M,env,S,E,?_⟩) (fun f s1 q=>?_) (fun _ _ z=>z))
 rotate_left
 ·have q:=Zoy I q
  cases f with
  | next=>obtain ⟨σ',H',J,q⟩:=q; exact wpAny_execs_nil ⟨σ',H',J,q⟩
  | brk=>exact q
  | cont=>exact q
  | ret u=>exact q
 unfold Zj7 at hf
 cases q:b env M with
 | nx e M1=>rw [q] at hf; exact hf
 | rt e M1=>rw [q] at hf; exact hf
 | bk e M1=>rw [q] at hf; exact hf
 | ct e M1=>rw [q] at hf; exact hf
 | bad=>rw [q] at hf; exact hf
 | exc x1 M1=>
  rw [q] at hf
  dsimp only at hf
  have hc:cs.contains x1.cls = true:=Decidable.byContradiction fun z=>by rw [if_neg z] at hf; exact hf
  rw [if_pos hc] at hf
  intro σ' e C H' ι' hσ xt S1 r1 c1 pins' s' J xin
  obtain rfl:=hσ rfl
  obtain ⟨he,B,fl,cv,hpn⟩:=xin
  have I1:Inv X pins σ' H' s':=Zez I J
  have fl0:ZeT B (X.env :: X.outer) e C s'.heap:=by rw [← hst]; exact fl
  have hfrm:X.A.frames = some (X.env :: X.outer):=by rw [← hst]; exact I1.ok.frames
  show wpAny (model X.prog X.w) X.A (noteFrame (.ref e) X.env) _ _ s'
  refine ZqY hfrm hfr fl0 fun h₄ a0 held sl4=>?_
  refine wpAny_landsW held fun h₅ fly5 sl5=>?_
  have I5:Inv X pins σ' H' { s' with heap:=h₅ }:=Zom I1 he fl.stays cv hpn fly5.1 (sl4.trans sl5) (Zfq fly5)
  have I5':=ZlE I5 (X.A.mark (some (.ref e))) (fun _ _=>False) rfl
  refine wpAny_handleBy_cons (codeAny_handlers_test (ZeK I5' hg hm ?_ hdb)) (by intro q; cases q)
  have LT:PySem.W.Looks (model X.prog X.w) h₅ (typeOf (.ref e)) (.ref C):=by
   obtain ⟨o,vs,a,b,_⟩:=Zfq fly5
   exact b ▸ (PySem.W.Looks.ld a).andThen .now
  refine PySem.W.exm_one (K:=X.K) (cls:=.ref C) I5.kIn LT (hsub _ _ hc c1) _ _ _ _ (fun _ _ q=>q) ?_
  refine codeAny_handlers_suite_as ?_
  refine lands_againW fly5 fun h₆ fly6 sl6=>?_
  have I6:Inv X pins σ' H' { s' with heap:=h₆ }:=Zom (s:={ s' with heap:=h₅ }) I5 he fly5.1 cv hpn fly6.1 sl6 (Zfq fly6)
  have I6':=ZlE I6 (X.A.mark (some (.ref e))) (fun _ _=>False) rfl
  refine ZgY (X:=inX X (X.A.mark (some (.ref e))) fun _ _=>False) (v:=.ref e) I6' hN hj (.inl hl) rfl (fun s7 I7=>?_) (.inr hl)
  refine wpAny_mono (hs (X.A.mark (some (.ref e))) (fun _ _=>False) pins s7 (σ'.set j (some (.ref e))) H' { nx:=fun σ2 H2=>D.nx (σ2.set j none) H2,rt:=fun _ _=>False } I7 ⟨ι',M1,env.set j (some x1.arg),S1,(E.mono xt).set j r1,?_⟩) (fun f s8 q=>?_) (fun _ _ z=>False.elim z)
  ·cases qh:h (env.set j (some x1.arg)) M1 with
   | nx e' M2=>rw [qh] at hf; exact fun σ2 H2 ι2 x2 S2 E2=>hf _ H2 ι2 (xt.trans x2) S2 (E2.unset j)
   | rt _ _=>rw [qh] at hf; exact hf.elim
   | bk _ _=>rw [qh] at hf; exact hf.elim
   | ct _ _=>rw [qh] at hf; exact hf.elim
   | exc _ _=>rw [qh] at hf; exact hf.elim
   | bad=>rw [qh] at hf; exact hf.elim
  ·cases f with
   | next=>
    obtain ⟨σ2,H2,I8,q⟩:=q
    exact Zrn (Zmw I I8) hN hj hl fun s9 I9=>⟨σ2.set j none,H2,I9,q⟩
   | brk=>obtain ⟨_,_,_,q⟩:=q; exact q.elim
   | cont=>obtain ⟨_,_,_,q⟩:=q; exact q.elim
   | ret u=>obtain ⟨_,_,_,_,_,q⟩:=q; exact q.elim
end L3
namespace PySem.W
open PySem PySem.Spec PySem.Calls PyProof.Rows Builtin Builtin.ObjectAttr Builtin.Getset_descriptor
section
variable {prog:Program} {w:World} {K:Frag} {x D:Addr}
def ExcTy (x D:Addr) (h:Heap):Prop:=∃ o,h.get? x = some o ∧ o.cls = .ref D
theorem ExcTy.ty {h:Heap} (p:ExcTy x D h) (M:Model):Looks M h (typeOf (.ref x)) (.ref D):=by
 obtain ⟨o,a,b⟩:=p
 exact b ▸ (Looks.ld a).andThen .now
theorem Zpq {M:Model} {h:Heap} {name:Str} {a g:Value} (X:K.In h) (ha:findIn K (.ref D) name = some (some a)) (hg:specialIn K a "__get__" = some (some g)) (ht:takesIn K a = some true):Looks M h (find (.ref x) (.ref D) name) (.bind g a):=
 (looks_findIn (M:=M) X ha).andThen ((show Looks M h (getOf (some a)) (some g) from looks_specialIn X hg).andThen
  ((show Looks M h (dataDescriptor? (some a) (some g)) (some (g,a)) from (looks_takesIn (M:=M) X ht).andThen .now).andThen (Looks.tag .now)))
theorem Zqm {A:Around} {R:Result → Shared → Prop} {s:Shared} {tp:Value} (X:K.In s.heap) (p:ExcTy x D s.heap) (hm:mroIn K D (.type "object") = some true)
  (hq:R (.ok (.ret (.ref D))) s):codeAny (model prog w) A (.call (.builtin "getset_descriptor.__get__") ⟨[.builtin "object.__class__",.ref x,tp],[]⟩) R s:=by
 obtain ⟨hh,gg,dd,tt,oo⟩:=s
 have L0:=p.ty (model prog w)
 have L1:=looks_mroIn (M:=model prog w) X hm
 refine codeAny_call_builtin KF.slot_gs.plain KF.entry_gs (KF.slot_gs.check _ _ _ _ _ _ _ _ KF.type_class (KF.args_gs _ _ _) ?_)
 unfold Builtin.«getset_descriptor.__get__» descrGet; rw [dga_obj]
 refine wpAny_bind (wpAny_pure ?_)
 unfold descrGetter descrCheckInstance descrNameAndClass isInstance; simp only [KF.owner_class]
 repeat lk
 refine ⟨Code.quiet_builtin _ (by decide +kernel),codeAny_builtin KF.entry_class ?_⟩
 unfold Builtin.«object.__class__» shownTypeOf; repeat lk
 exact hq
theorem Ztf {A:Around} {R:Result → Shared → Prop} {s:Shared} {tk:Tok} (ha:findIn K (.ref D) "__class__" = some (some (.builtin "object.__class__")))
  (hn:specialIn K (.builtin "object.__class__") "__get__" = some (some (.builtin "getset_descriptor.__get__"))) (htk:takesIn K (.builtin "object.__class__") = some true) (hm:mroIn K D (.type "object") = some true) (hb:mroIn K D (.type "BaseException") = some true)
  (X:K.In s.heap) (p:ExcTy x D s.heap) (hq:R (.ok (.ret (.ref D))) s):codeAny (model prog w) A (.call (.builtin "BaseException.__getattribute__") ⟨[.ref x,.str "__class__" tk],[]⟩) R s:=by
 obtain ⟨hh,gg,dd,tt,oo⟩:=s
 have L0:=p.ty (model prog w)
 have L1:=looks_mroIn (M:=model prog w) X hb
 have L3:=Zpq (M:=model prog w) (x:=x) X ha hn htk
 have hk:builtinKind "BaseException.__getattribute__" = some .slot:=by decide +kernel
 have hs:splitId "BaseException.__getattribute__" = some ("BaseException","__getattribute__"):=by decide +kernel
 have hz:=F.args_bexc_ga (.ref x) (.str "__class__" tk)
 refine codeAny_call_builtin F.excAttr_ValueError.ga.plain F.entry_bexc_ga ?_
 simp only [checkBuiltinCall,hk,hs]
 refine wpAny_bind ?_
 unfold isInstance
 repeat lk
 refine wpAny_run (h:=none) (Zqm X p hm ?_)
 exact wpAny_pure (wpAny_pure hq)
theorem Zm2 {A:Around} {E:Value → Shared → Prop} {s:Shared} {Q:Option Value → Shared → Prop} (hg:findIn K (.ref D) "__getattribute__" = some (some (.builtin "BaseException.__getattribute__"))) (hg2:findIn K (.ref D) "__getattr__" = some none) (ha:findIn K (.ref D) "__class__" = some (some (.builtin "object.__class__")))
  (hn:specialIn K (.builtin "object.__class__") "__get__" = some (some (.builtin "getset_descriptor.__get__"))) (htk:takesIn K (.builtin "object.__class__") = some true) (hm:mroIn K D (.type "object") = some true) (hb:mroIn K D (.type "BaseException") = some true)
  (X:K.In s.heap) (p:ExcTy x D s.heap) (hq:Q (some (.ref D)) { s with toks:=s.toks + 1 }):wpAny (model prog w) A (getAttr? (.ref x) "__class__") Q E s:=by
 obtain ⟨hh,gg,dd,tt,oo⟩:=s
 have L0:=p.ty (model prog w)
 have L1:=looks_findIn (M:=model prog w) X hg
 have L2:=looks_findIn (M:=model prog w) X hg2
 have f3:=F.excAttr_ValueError.ga.bind (.ref x)
 unfold getAttr? getAttrBy? getAttrBy
 refine wpAny_bind (wpAny_mkText (wpAny_bind (wpAny_attempt (wpAny_holding (wpAny_bind (L0.at (wpAny_bind (L1.at ?_))))))))
 show wpAny _ _ (getAttrByItsOwn _ _ _ _ _ _) _ _ _
 unfold getAttrByItsOwn hookBefore callGetattribute
 refine wpAny_bind (L2.at (wpAny_bind (wpAny_attempt (wpAny_holding ?_))))
 show wpAny _ _ (boundAndCalled _ _ _) _ _ _
 unfold boundAndCalled
 rw [f3]
 refine wpAny_bind (wpAny_pure ?_)
 refine wpAny_call (Ztf ha hn htk hm hb X p ?_)
 exact handed_on rfl (wpAny_pure hq)
theorem kitx_exc (hg:findIn K (.ref D) "__getattribute__" = some (some (.builtin "BaseException.__getattribute__"))) (hg2:findIn K (.ref D) "__getattr__" = some none) (hb:mroIn K D (.type "BaseException") = some true) (hc:(clsIn K D).isSome = true) (ha:findIn K (.ref D) "__class__" = some (some (.builtin "object.__class__")))
  (hn:specialIn K (.builtin "object.__class__") "__get__" = some (some (.builtin "getset_descriptor.__get__"))) (htk:takesIn K (.builtin "object.__class__") = some true) (hm:mroIn K D (.type "object") = some true):
  KitX K (.ref x) (.ref D) (ExcTy x D):=by
 obtain ⟨cdD,hcD⟩:=Option.isSome_iff_exists.mp hc
 unfold clsIn at hcD
 split at hcD
 ·rename_i c' d' cd' sl' ho
  refine ⟨fun M h _ p=>p.ty M,fun M h X _=>?_,fun h tp dd its n sl X htp=>?_,fun X p k=>Zm2 hg hg2 ha hn htk hm hb X p k⟩
  ·intro A' Q' E' s' k q
   unfold isType loadHead
   exact wpAny_bind (wpAny_loadPart (k _ _ (X _ _ ho)) (wpAny_pure q))
  ·refine Bool.eq_false_iff.mpr fun q=>?_
   have e:D = tp:=Value.ref.inj (beq_iff_eq.mp q)
   rw [← e] at htp
   cases (X _ _ ho).symm.trans htp
 ·cases hcD
theorem kit1 {t:Value} {C:Addr} {cd:ClassData} {b:Bool} (cl:clsIn K C = some cd) (ty:typeIn K (.ref C) = some (.type "type")) (se:subIn K (.ref C) (.ref C) = some true) (sb:subIn K t (.ref C) = some b):kitOne K t (.ref C) = some b:=by
 unfold kitOne
 by_cases q:(t == .ref C) = true
 ·rw [if_pos q]
  rw [beq_iff_eq.mp q,se] at sb
  exact sb
 ·rw [if_neg q]
  show (if ((clsIn K C).isSome && typeIn K (.ref C) == some (.type "type")) = true then subIn K t (.ref C) else none) = some b
  rw [cl,ty,if_pos (by rfl)]
  exact sb
theorem kit1T {t:Value} {T:String} {b:Bool} (hm:kitMeta T = true) (ne:(t == .type T) = false) (sb:subIn K t (.type T) = some b):kitOne K t (.type T) = some b:=by
 unfold kitOne
 rw [if_neg (by rw [ne]; decide)]
 show (if kitMeta T = true then subIn K t (.type T) else none) = some b
 rw [if_pos hm]
 exact sb
theorem kitF {t c:Value} {r:List Value} {b:Bool} (h:kitOne K t c = some false) (hr:kitAny K t r = some b):kitAny K t (c :: r) = some b:=by unfold kitAny; rw [h]; exact hr
theorem kitT {t c:Value} {r:List Value} (h:kitOne K t c = some true):kitAny K t (c :: r) = some true:=by unfold kitAny; rw [h]
theorem kit0 {t:Value}:kitAny K t [] = some false:=rfl
theorem exm1 {C CE:Addr} {cd:ClassData} (cl:clsIn K CE = some cd) (ty:typeIn K (.ref CE) = some (.type "type")) (bs:subIn K (.ref CE) (.type "BaseException") = some true) (sb:subIn K (.ref C) (.ref CE) = some true):exmOne K (.ref C) (.ref CE) = some true:=by
 unfold exmOne
 rw [bs,if_pos (by rfl)]
 show (if ((clsIn K CE).isSome && typeIn K (.ref CE) == some (.type "type")) = true then subIn K (.ref C) (.ref CE) else none) = some true
 rw [cl,ty,if_pos (by rfl)]
 exact sb
end
end PySem.W
namespace L3
open PySem PySem.Spec PyProof.Rows L2
theorem Zgj:bootBuiltins "ValueError" = some (.type "ValueError"):=by decide +kernel
structure Zep (K:PySem.W.Frag) (C:Addr):Prop where
 ga:PySem.W.findIn K (.ref C) "__getattribute__" = some (some (.builtin "BaseException.__getattribute__"))
 gh:PySem.W.findIn K (.ref C) "__getattr__" = some none
 be:PySem.W.mroIn K C (.type "BaseException") = some true
 cl:(PySem.W.clsIn K C).isSome = true
 fa:PySem.W.findIn K (.ref C) "__class__" = some (some (.builtin "object.__class__"))
 sp:PySem.W.specialIn K (.builtin "object.__class__") "__get__" = some (some (.builtin "getset_descriptor.__get__"))
 tk:PySem.W.takesIn K (.builtin "object.__class__") = some true
 mo:PySem.W.mroIn K C (.type "object") = some true
theorem Zep.kit {K:PySem.W.Frag} {C x:Addr} (h:Zep K C):PySem.W.KitX K (.ref x) (.ref C) (PySem.W.ExcTy x C):=PySem.W.kitx_exc h.ga h.gh h.be h.cl h.fa h.sp h.tk h.mo
def tK (vs:List V):TA:=fun _ H Q=>Q vs H
section
variable {X:Cx} {a:Expr} {es:List Expr} {f:E3} {p p1 p2 pos pt:Pos} {x:Str} {C:Addr} {vs:List V} {yes no:List (List Nat)}
theorem Zq5:PA X [] (tK []):=Ze4.imp fun σ H Q h=>h
theorem ZdY (hm:X.mg x = some (.ref C)) (h:PA X es (tK vs)) (hg:Gl X x:=by rfl) (hd:(x == ("__debug__":Str)) = false:=by decide) (he:starEach (.Name x p1 :: es) X.env = (false,eval (.Name x p1) X.env) :: starEach es X.env:=by rfl):PA X (.Name x p1 :: es) (tK (.ref C :: vs)):=
 (Zcf (Zlr hg hm (v:=.ref C) rfl hd) h he).imp fun σ H Q h=>h
structure Zf8 (K:PySem.W.Frag) (yes no:List (List Nat)) (cs:List Value):Prop where
 non:PySem.W.kitAny K (.type "NoneType") cs = some false
 yes:∀ c C,yes.contains c = true → ClsAt K c C → Zep K C ∧ PySem.W.kitAny K (.ref C) cs = some true
 no:∀ c C,no.contains c = true → ClsAt K c C → Zep K C ∧ PySem.W.kitAny K (.ref C) cs = some false
theorem ZjK {pins:List (Addr × Obj)} {σ:St} {H:Hp} {s:Shared} {ι:List Addr} {M:Store} {d:D} {v:V} {u:Value} {cs:List Value} {Q:VK} (I:Inv X pins σ H s) (S:Zag X.K H ι M) (r:Rep X.K H ι d v) (ru:RelV v u) (hk:Zf8 X.K yes no cs) (q:Zz X.K H ι Q (Zbw yes no d M)):
  ∃ (t:Value) (Hc:Heap → Prop) (b:Bool),PySem.W.KitX X.K u t Hc ∧ Hc s.heap ∧ u ≠ .builtin "__main__.__loader__#opaque" ∧ PySem.W.kitAny X.K t cs = some b ∧ Q (.bl b) H:=by
 cases d with
 | non=>
  have:=r.non_inv; subst this
  cases (show u = Value.none from ru)
  exact ⟨_,_,false,PySem.W.kitx_none,True.intro,(fun z=>nomatch z),hk.non,Zz.ok q S Rep.bl⟩
 | ref n=>
  simp only [Zbw] at q
  split at q
  ·rename_i c fs hn
   obtain ⟨a,ha,rfl⟩:=r.ref_inv
   cases (show u = Value.ref a from ru)
   rcases S.obj n _ a hn ha with ⟨_,_,_,_,z,_⟩ | ⟨C,e,_,at_,_⟩
   ·exact absurd rfl z.2
   ·have at_:ClsAt X.K c C:=at_
    obtain ⟨⟨o,ws,h1,h2,_⟩,_⟩:=(show Za7 X.prog X.w H s.heap a (exH a C) from I.hok a _ e)
    split at q
    ·rename_i hy
     obtain ⟨k1,k2⟩:=hk.yes c C hy at_
     exact ⟨_,_,true,k1.kit,⟨o,h1,h2⟩,(fun z=>nomatch z),k2,Zz.ok q S Rep.bl⟩
    ·split at q
     ·rename_i hy
      obtain ⟨k1,k2⟩:=hk.no c C hy at_
      exact ⟨_,_,false,k1.kit,⟨o,h1,h2⟩,(fun z=>nomatch z),k2,Zz.ok q S Rep.bl⟩
     ·exact q.elim
  ·exact q.elim
 | _=>exact q.elim
noncomputable def refsOf (cs:List Addr):List Value:=cs.map Value.ref
theorem ZhV:∀ {cs:List Addr} {us:List Value},Vals (cs.map V.ref) us → us = refsOf cs
 | [],_,.nil=>rfl
 | c :: cs,_,.cons r t=>by rw [ZhV (cs:=cs) t]; cases r; rfl
theorem Zm5 {cs:List Addr} {k} (hm:X.mg "isinstance" = none) (hk:Zf8 X.K yes no (refsOf cs)) (h:C3 X a f) (hc:PA X es (tK (cs.map V.ref))) (hl:cs.length ≤ 100:=by exact Nat.le_of_ble_eq_true rfl) (hg:Gl X "isinstance":=by rfl)
  (hs:starEach (a :: [.Tuple es k pt]) X.env = (false,eval a X.env) :: starEach [.Tuple es k pt] X.env:=by rfl) (hs1:starEach (.Tuple es k pt :: []) X.env = (false,eval (.Tuple es k pt) X.env) :: starEach [] X.env:=by rfl)
  (hpl:(backTo pos (starEach [.Tuple es k pt] X.env)).any (·.1) = false:=by rfl):C3 X (.Call (.Name "isinstance" p) [a,.Tuple es k pt] [] pos) (e1 (Zbw yes no) f):=by
 have hcl:Zb2 X (.builtin "isinstance") (fun xs H Q=>∃ ι M d x q,xs = [x,.ref q] ∧ H q = some (.tup (cs.map V.ref)) ∧ Zag X.K H ι M ∧ Rep X.K H ι d x ∧ Zz X.K H ι Q (Zbw yes no d M)):=by
  intro pins s σ H xs us Q I r q
  obtain ⟨ι,M,d,x,tp,rfl,et,S,rd,q⟩:=q
  obtain ⟨u,w',rfl,ru,rw'⟩:=vals2 r
  cases rw'
  obtain ⟨t,Hc,b,kx,hh,hl,ht,hq⟩:=ZjK I S rd ru hk q
  obtain ⟨_,its,rt,ptt⟩:=(show Za7 X.prog X.w H s.heap tp (.tup (cs.map V.ref)) from I.hok tp _ et)
  obtain rfl:=ZhV rt
  obtain ⟨ob,g1,⟨g2,g3⟩,n,g4⟩:=ptt
  have ho:ob = { cls:=.type "tuple",dict:=ob.dict,data:=.seq (refsOf cs).toArray n,slots:=ob.slots }:=by
   cases ob; simp only at g2 g4; subst g2 g4; rfl
  rw [ho] at g1
  exact PySem.W.kia_tup kx I.kIn hh g1 ht hl fun tk=>⟨.bl b,H,I.tok _,rfl,hq⟩
 refine (Zey hcl hg hm ZcO (Zcf h (Zcf (Zj2 hc) Ze4 hs1) hs) (by decide) (by decide) hs hpl).imp fun σ H Q zz1=>?_
 obtain ⟨ι,M,env,S,E,h⟩:=zz1
 obtain ⟨d,M1,e1,h⟩:=Zz.bind h
 refine ⟨ι,M,env,S,E,?_⟩
 rw [e1]
 intro v H1 ι1 x1 S1 r1
 refine ⟨?_,fun tp ht=>?_⟩
 ·rw [List.length_map]; exact Nat.le_trans hl (by decide)
 ·have x2:Ext X.K H1 ι1 (upd H1 tp (.tup (cs.map V.ref))) ι1:=Loose.ext (.inl ht)
  exact ⟨ι1,M1,d,v,tp,rfl,Zbm,S1.other (.inl ht) (S1.fresh ht),r1.mono x2,(h.up x1).up x2⟩
theorem ZjB {c:Value} {cv:V} (hm:X.mg "isinstance" = none) (hk:Zf8 X.K yes no [c]) (h:C3 X a f) (hv:RelV cv c) (hx:PE X (.Name x p1) (tC cv)) (hc:∀ u,RelV cv u → u = c) (hg:Gl X "isinstance":=by rfl)
  (hs:starEach (a :: [.Name x p1]) X.env = (false,eval a X.env) :: starEach [.Name x p1] X.env:=by rfl) (hs1:starEach (.Name x p1 :: []) X.env = (false,eval (.Name x p1) X.env) :: starEach [] X.env:=by rfl)
  (hpl:(backTo pos (starEach [.Name x p1] X.env)).any (·.1) = false:=by rfl):C3 X (.Call (.Name "isinstance" p) [a,.Name x p1] [] pos) (e1 (Zbw yes no) f):=by
 have hcl:Zb2 X (.builtin "isinstance") (fun xs H Q=>∃ ι M d x,xs = [x,cv] ∧ Zag X.K H ι M ∧ Rep X.K H ι d x ∧ Zz X.K H ι Q (Zbw yes no d M)):=by
  intro pins s σ H xs us Q I r q
  obtain ⟨ι,M,d,x,rfl,S,rd,q⟩:=q
  obtain ⟨u,w',rfl,ru,rw'⟩:=vals2 r
  obtain rfl:=hc _ rw'
  obtain ⟨t,Hc,b,kx,hh,hl,ht,hq⟩:=ZjK I S rd ru hk q
  have h1:PySem.W.kitOne X.K t w' = some b:=by
   unfold PySem.W.kitAny at ht
   split at ht
   ·rename_i q; cases ht; exact q
   ·rename_i q; rw [q]; exact ht
   ·cases ht
  exact PySem.W.kia_one kx I.kIn hh h1 hl fun tk=>⟨.bl b,H,I.tok _,rfl,hq⟩
 refine (Zey hcl hg hm ZcO (Zcf h (Zcf hx Ze4 hs1) hs) (by decide) (by decide) hs hpl).imp fun σ H Q zz1=>?_
 obtain ⟨ι,M,env,S,E,h⟩:=zz1
 obtain ⟨d,M1,e1,h⟩:=Zz.bind h
 refine ⟨ι,M,env,S,E,?_⟩
 rw [e1]
 intro v H1 ι1 x1 S1 r1
 exact ⟨ι1,M1,d,v,rfl,S1,r1,h.up x1⟩
theorem Zn5 (hm:X.mg "isinstance" = none) (hx:X.mg x = some (.ref C)) (hk:Zf8 X.K yes no [.ref C]) (h:C3 X a f) (hg1:Gl X x:=by rfl) (hd:(x == ("__debug__":Str)) = false:=by decide) (hg:Gl X "isinstance":=by rfl)
  (hs:starEach (a :: [.Name x p1]) X.env = (false,eval a X.env) :: starEach [.Name x p1] X.env:=by rfl) (hs1:starEach (.Name x p1 :: []) X.env = (false,eval (.Name x p1) X.env) :: starEach [] X.env:=by rfl)
  (hpl:(backTo pos (starEach [.Name x p1] X.env)).any (·.1) = false:=by rfl):C3 X (.Call (.Name "isinstance" p) [a,.Name x p1] [] pos) (e1 (Zbw yes no) f):=
 ZjB (cv:=.ref C) hm hk h rfl (Zlr hg1 hx (v:=.ref C) rfl hd) (fun u q=>q) hg hs hs1 hpl
theorem ZmT {T:String} (hm:X.mg "isinstance" = none) (hx:X.mg x = none) (hv:bootBuiltins x = some (.type T)) (hk:Zf8 X.K yes no [.type T]) (h:C3 X a f) (hg1:Gl X x:=by rfl) (hn:x ≠ "__name__":=by decide) (hd:(x == ("__debug__":Str)) = false:=by decide) (hg:Gl X "isinstance":=by rfl)
  (hs:starEach (a :: [.Name x p1]) X.env = (false,eval a X.env) :: starEach [.Name x p1] X.env:=by rfl) (hs1:starEach (.Name x p1 :: []) X.env = (false,eval (.Name x p1) X.env) :: starEach [] X.env:=by rfl)
  (hpl:(backTo pos (starEach [.Name x p1] X.env)).any (·.1) = false:=by rfl):C3 X (.Call (.Name "isinstance" p) [a,.Name x p1] [] pos) (e1 (Zbw yes no) f):=
 ZjB (cv:=.ty T) hm hk h rfl (Zgq hg1 hx hv (v:=.ty T) rfl hn hd) (fun u q=>q) hg hs hs1 hpl
end
end L3
namespace L3
open PySem PySem.Spec PyProof.Rows L2
noncomputable def Zor (es:Array DictEntry):Bool:=es.toList.all fun e=>match e.key with
 | .str _ _=>true
 | _=>false
theorem ZoJ {es:Array DictEntry} (h:Zor es = true):StrKeys es:=fun e he=>by
 have:=List.all_eq_true.mp h e (Array.mem_toList_iff.mpr he)
 split at this
 ·rename_i n t q; exact ⟨n,t,q⟩
 ·cases this
section
variable {K:PySem.W.Frag} {h:Heap} {a:Addr} {oc:Value} {od:Option Addr} {es:Array DictEntry} {ep:Nat} {sl:Array (Option Value)}
theorem ZpS (X:K.In h) (l:K.lookup a = some ⟨oc,od,.dict es ep,sl⟩) (sk:Zor es = true):h.Ns a (nsFind es):=⟨_,es,ep,X _ _ l,rfl,ZoJ sk,fun _=>rfl⟩
theorem ZlL {c:List Nat} {C C':Addr} (x:ClsAt K c C) (y:ClsAt K c C'):C' = C:=by
 have:=y.symm.trans x
 cases this; rfl
theorem Zd5 {P:Addr → Prop}:∀ c C,([]:List (List Nat)).contains c = true → ClsAt K c C → P C:=fun c C z=>by cases z
theorem Zgn {P:Addr → Prop} {k:List Nat} {ks:List (List Nat)} {C1:Addr} (x:ClsAt K k C1) (p:P C1) (t:∀ c C,ks.contains c = true → ClsAt K c C → P C):∀ c C,(k :: ks).contains c = true → ClsAt K c C → P C:=fun c C z at_=>by
 rw [List.contains_cons,Bool.or_eq_true] at z
 rcases z with z | z
 ·rw [beq_iff_eq.mp z] at at_; rw [ZlL x at_]; exact p
 ·exact t c C z at_
end
end L3
set_option maxHeartbeats 400000
namespace Law
open PySem L3
noncomputable section
def ZfB:S3:=Zv (sIf (e2 ZaK (e2 Zq (Zb 0) (eC (.int 0))) (eC (.str [106,117,109,112]))) (Zax (e2 Zq (Zb 0) (eC (.int 1)))) (Zan)) (Zv (sIf (ZbG (e2 ZaK (e2 Zq (Zb 0) (eC (.int 0))) (eC (.str [119,104,101,110]))) (e2 Zei (e2 Zq (Zb 2) (e2 Zq (Zb 0) (eC (.int 1)))) (eC (.int 0)))) (Zax (e2 Zq (Zb 0) (eC (.int 2)))) (Zan)) (Zax (e2 Zay (Zb 1) (eC (.int 1)))))
def Zcx:F3:=mkF 3 3 ZfB
def Zes:S3:=Zv (sIf (e2 ZaK (Zb 0) (eC (.str [97,100,100]))) (Zax (e2 Zay (Zb 1) (Zb 2))) (Zan)) (Zv (sIf (e2 ZaK (Zb 0) (eC (.str [115,117,98]))) (Zax (e2 Zcp (Zb 1) (Zb 2))) (Zan)) (Zax (eIf (e2 Zei (Zb 1) (Zb 2)) (eC (.int 1)) (eC (.int 0)))))
def ZbL:F3:=mkF 3 3 Zes
def Zhb:S3:=Zax (e2 Zay (e2 Zay (eSl (Zb 0) (Zb3) (Zb5 (Zb 1))) (Zbg (Za (Zb 2) (Zf)))) (eSl (Zb 0) (Zb5 (e2 Zay (Zb 1) (eC (.int 1)))) (Zb3)))
def ZbR:F3:=mkF 3 3 Zhb
def Zfz:S3:=Zax (ZcR Zo7 ZmB (Zaz Zh6 (Za (Zb 0) (Zf))) (Za (Zb 1) (Za (eC (.int 0)) (Zf))))
def Zcy:F3:=mkF 2 2 Zfz
def Zd2:S3:=Zv (Zaj 3 (e2 Zq (Zb 0) (eC (.int 0)))) (Zv (sIf (e2 ZaK (Zb 3) (eC (.str [112,117,116]))) (Zax (Zae ZbR (Za (Zb 1) (Za (e2 Zq (Zb 0) (eC (.int 1))) (Za (e2 Zq (Zb 0) (eC (.int 2))) (Zf)))))) (Zan)) (Zv (sIf (e2 ZaK (Zb 3) (eC (.str [103,101,116]))) (Zax (Zae ZbR (Za (Zb 1) (Za (e2 Zq (Zb 0) (eC (.int 1))) (Za (Zae Zcy (Za (Zb 2) (Za (e2 Zq (Zb 1) (e2 Zq (Zb 0) (eC (.int 2)))) (Zf)))) (Zf)))))) (Zan)) (Zv (sIf (e2 ZlX (Zb 3) (Zbg (Za (eC (.str [97,100,100])) (Za (eC (.str [115,117,98])) (Za (eC (.str [109,111,114,101])) (Zf)))))) (Zax (Zae ZbR (Za (Zb 1) (Za (e2 Zq (Zb 0) (eC (.int 1))) (Za (Zae ZbL (Za (Zb 3) (Za (e2 Zq (Zb 1) (e2 Zq (Zb 0) (eC (.int 2)))) (Za (e2 Zq (Zb 1) (e2 Zq (Zb 0) (eC (.int 3)))) (Zf))))) (Zf)))))) (Zan)) (Zax (Zb 1)))))
def ZcF:F3:=mkF 3 4 Zd2
def Zf6:S3:=Zv (Zaj 3 (eLC (Zhl (Zb 0)) 1 (Zdz 6) [e2 ZhA (e2 Zq (Zb 6) (eC (.int 0))) (Zb 1)] (Zb 6))) (Zv (Zaj 4 (eLC (Zhl (Zb 0)) 1 (Zdz 6) [e2 Zei (e2 Zq (Zb 6) (eC (.int 0))) (Zb 1)] (Zb 6))) (Zv (Zaj 5 (eIf (e2 ZbJ (Zb 2) (eC (.int 0))) (ZaY (Za (Zbg (Za (Zb 1) (Za (Zb 2) (Zf)))) (Zf))) (ZaY (Zf)))) (Zax (Zaz ZcX (Za (e2 Zay (e2 Zay (Zb 3) (Zb 5)) (Zb 4)) (Zf))))))
def Zct:F3:=mkF 3 6 Zf6
def ZdT:S3:=Zv (sIf (e2 ZaK (e2 Zq (Zb 0) (eC (.int 0))) (eC (.str [115,101,116]))) (Zax (Zae Zct (Za (Zb 2) (Za (e2 Zq (Zb 1) (e2 Zq (Zb 0) (eC (.int 1)))) (Za (e2 Zq (Zb 1) (e2 Zq (Zb 0) (eC (.int 2)))) (Zf)))))) (Zan)) (Zax (Zb 2))
def ZcB:F3:=mkF 3 3 ZdT
def ZdR:S3:=Zv (Zaj 2 (e2 Zq (Zb 1) (eC (.int 0)))) (Zv (Zaj 3 (e2 Zq (Zb 1) (eC (.int 1)))) (Zv (Zaj 4 (e2 Zq (Zb 1) (eC (.int 2)))) (Zv (Zaj 5 (e2 Zq (Zb 0) (Zb 2))) (Zv (sIf (e2 ZaK (e2 Zq (Zb 5) (eC (.int 0))) (eC (.str [104,97,108,116]))) (Zax (eC .non)) (Zan)) (Zax (Zbg (Za (Zae Zcx (Za (Zb 5) (Za (Zb 2) (Za (Zb 3) (Zf))))) (Za (Zae ZcF (Za (Zb 5) (Za (Zb 3) (Za (Zb 4) (Zf))))) (Za (Zae ZcB (Za (Zb 5) (Za (Zb 3) (Za (Zb 4) (Zf))))) (Zf))))))))))
def Zc6:F3:=mkF 2 6 ZdR
def Zev:S3:=Zax (ZbG (e2 Zrr (Zb 0) (eC (.int 0))) (e2 ZhA (Zb 0) (Zb 1)))
def Zcq:F3:=mkF 2 2 Zev
def ZeQ:S3:=Zax (Zaz ZaS (Za (e1 (Zef [84,101,108,108,101,114] [115,116,97,116,101,115]) (Zb 0)) (Zf)))
def ZaC:F3:=mkF 1 1 ZeQ
def Zdp:S3:=Zv (sIf (e1 ZdN (Zae Zcq (Za (Zb 1) (Za (Zaz ZaS (Za (e1 (Zef [84,101,108,108,101,114] [115,116,97,116,101,115]) (Zb 0)) (Zf))) (Zf))))) (Zow) (Zan)) (Zv (ZaR (ZcR tyL ZaV (e1 (Zef [84,101,108,108,101,114] [97,115,107,101,100]) (Zb 0)) (Za (Zb 1) (Zf)))) (Zax (e2 Zq (e1 (Zef [84,101,108,108,101,114] [115,116,97,116,101,115]) (Zb 0)) (Zb 1))))
def Zbi:F3:=mkF 2 2 Zdp
def ZhF:S3:=Zax (Zbg (Za (ZaA [84,101,108,108,101,114] [115,116,97,116,101,95,97,116] Zbi (Zb 0) (Za (Zb 2) (Zf))) (Za (ZaA [84,101,108,108,101,114] [115,116,97,116,101,95,97,116] Zbi (Zb 1) (Za (Zb 2) (Zf))) (Zf))))
def Zbh:F3:=mkF 3 3 ZhF
def Zfr:S3:=Zax (e2 ZbJ (e2 Zq (Zb 0) (eC (.int 0))) (e2 Zq (Zb 0) (eC (.int 1))))
def Zby:F3:=mkF 1 1 Zfr
def Zfh:S3:=Zv (Zaj 3 (Zae Zc6 (Za (Zb 0) (Za (Zb 1) (Zf))))) (Zax (Zbg (Za (e2 ZhO (e2 Zq (Zb 2) (eC (.int 0))) (Zb 3)) (Za (e2 ZhO (e2 Zq (Zb 2) (eC (.int 1))) (Zb 3)) (Zf)))))
def Zc1:F3:=mkF 3 4 Zfh
def ZjJ:S3:=Zv (sIf (eNo (eOr (e2 ZbJ (ZaA [84,101,108,108,101,114] [109,97,110,121] ZaC (Zb 1) (Zf)) (ZaA [84,101,108,108,101,114] [109,97,110,121] ZaC (Zb 2) (Zf))) (e2 ZhA (ZaA [84,101,108,108,101,114] [109,97,110,121] ZaC (Zb 1) (Zf)) (eC (.int 2))))) (Ze1 [78,111,68,105,115,112,117,116,101] (Za (eC (.str [116,104,101,32,116,101,108,108,101,114,115,32,100,111,32,110,111,116,32,104,97,118,101,32,97,115,32,109,97,110,121,32,115,116,97,116,101,115,44,32,116,119,111,32,97,116,32,108,101,97,115,116])) (Zf))) (sNo (Zan))) (Zv (sNo (Zaj 3 (eC (.int 0)))) (Zv (sNo (Zaj 4 (Zae Zbh (Za (Zb 1) (Za (Zb 2) (Za (Zb 3) (Zf))))))) (Zv (sIf (eNo (Zae Zby (Za (Zb 4) (Zf)))) (Ze1 [78,111,68,105,115,112,117,116,101] (Za (eC (.str [116,104,101,32,102,105,114,115,116,32,115,116,97,116,101,115,32,97,114,101,32,117,110,108,105,107,101])) (Zf))) (sNo (Zan))) (Zv (sNo (Zaj 5 (e2 Zcp (ZaA [84,101,108,108,101,114] [109,97,110,121] ZaC (Zb 1) (Zf)) (eC (.int 1))))) (Zv (sNo (Zaj 6 (Zae Zbh (Za (Zb 1) (Za (Zb 2) (Za (Zb 5) (Zf))))))) (Zv (sIf (eNo (e1 ZdN (Zae Zby (Za (Zb 6) (Zf))))) (Ze1 [78,111,68,105,115,112,117,116,101] (Za (eC (.str [116,104,101,32,108,97,115,116,32,115,116,97,116,101,115,32,97,114,101,32,97,108,105,107,101])) (Zf))) (sNo (Zan))) (Zv (sNo (Zaj 7 (e2 Zq (Zb 4) (eC (.int 0))))) (Zv (sNo (Zaj 8 (Zb 6))) (Zv (sNo (ZkF (e2 ZbJ (Zb 5) (e2 Zay (Zb 3) (eC (.int 1)))) (Zv (Zaj 9 (e2 Zad (e2 Zay (Zb 3) (Zb 5)) (eC (.int 2)))) (Zv (Zaj 10 (Zae Zbh (Za (Zb 1) (Za (Zb 2) (Za (Zb 9) (Zf)))))) (sIf (Zae Zby (Za (Zb 10) (Zf))) (Zv (Zaj 5 (Zb 9)) (Zaj 8 (Zb 10))) (Zv (Zaj 3 (Zb 9)) (Zaj 7 (e2 Zq (Zb 10) (eC (.int 0)))))))))) (sNo (Zax (Zbg (Za (Zb 3) (Za (Zae Zc1 (Za (Zb 0) (Za (Zb 7) (Za (Zb 8) (Zf))))) (Zf)))))))))))))))
def Zbt:F3:=mkF 3 11 ZjJ
def Zcm:S3:=Zv (Zaj 1 (e2 Zq (Zb 0) (eC (.int 0)))) (Zv (Zaj 2 (e2 Zq (Zb 0) (eC (.int 1)))) (Zv (Zeb (Zb 0) (eC (.int 1)) (e2 Zay (Zb 2) (eC (.int 1)))) (Zv (sIf (e2 ZhA (Zb 2) (Zaz ZaS (Za (Zb 1) (Zf)))) (Zax (e2 Zq (Zb 1) (Zb 2))) (Zan)) (Zv (sIf (e2 ZaK (Zaz ZaS (Za (Zb 1) (Zf))) (eC (.int 0))) (Zax (e2 Zay (e2 ZgB (e2 ZgB (Zb 2) (Zb 2)) (eC (.int 3))) (Zb 2))) (Zan)) (Zax (e2 Zay (e2 Zad (e2 Zq (Zb 1) (e2 Zai (Zb 2) (Zaz ZaS (Za (Zb 1) (Zf))))) (eC (.int 2))) (e2 ZgB (Zb 2) (Zb 2))))))))
def ZaP:F3:=mkF 1 3 Zcm
def ZaU (rec:F3):S3:=Zv (sIf (e1 (Zfs .tuple .list) (Zb 1)) (Zv (sIf (eOr (e2 ZbJ (e1 (ZcL .tuple) (Zb 0)) (e1 (ZcL .tuple) (Zb 1))) (e1 ZdN (e1 (Zfs .tuple .list) (Zb 0)))) (Zax (eC (.bl false))) (Zan)) (Zax (ZbG (e2 ZaK (Zaz ZaS (Za (Zb 0) (Zf))) (Zaz ZaS (Za (Zb 1) (Zf)))) (Zaz Zp9 (Za (eLC (ZcP (Zaz ZaS (Za (Zb 1) (Zf)))) 1 (Zdz 2) [] (Zae rec (Za (e2 Zq (Zb 0) (Zb 2)) (Za (e2 Zq (Zb 1) (Zb 2)) (Zf))))) (Zf)))))) (Zan)) (Zv (sIf (e1 (ZcL .str) (Zb 1)) (Zax (ZbG (e1 (ZcL .str) (Zb 0)) (e2 ZaK (Zb 0) (Zb 1)))) (Zan)) (Zv (sIf (e1 (ZcL .bool) (Zb 1)) (Zax (ZbG (e1 (ZcL .bool) (Zb 0)) (e2 ZaK (Zb 0) (Zb 1)))) (Zan)) (Zax (ZbG (e1 (ZcL .int) (Zb 0)) (ZbG (e1 ZdN (e1 (ZcL .bool) (Zb 0))) (e2 ZaK (Zb 0) (Zb 1)))))))
def ZaB:Nat → F3
 | 0=>mkF 2 2 Zow
 | n + 1=>mkF 2 2 (ZaU (ZaB n))
def Zbk:F3:=ZaB 7
def Zew:S3:=Zv (Zaj 1 (ZaY (Zf))) (Zv (Zk9 (Zm0 (Zb 0)) (ZhD [2,3]) (Zv (Zaj 4 (e2 Zq (ZaY (Za (eC (.str [112,117,116])) (Za (eC (.str [97,100,100])) (Za (eC (.str [115,117,98])) (Za (eC (.str [109,111,114,101])) (Za (eC (.str [103,101,116])) (Za (eC (.str [115,101,116])) (Za (eC (.str [119,104,101,110])) (Za (eC (.str [106,117,109,112])) (Za (eC (.str [116,101,108,108])) (Za (eC (.str [112,117,116])) (Zf)))))))))))) (e2 Zai (Zb 3) (eC (.int 10))))) (Zv (Zaj 5 (e2 Zad (Zb 3) (eC (.int 10)))) (Zv (Zaj 6 (e2 Zai (Zb 5) (eC (.int 8)))) (Zv (Zaj 7 (e2 Zai (e2 Zad (Zb 5) (eC (.int 8))) (eC (.int 8)))) (Zv (Zaj 8 (e2 Zai (e2 Zad (Zb 5) (eC (.int 64))) (eC (.int 8)))) (Zv (Zaj 9 (e2 Zay (e2 Zay (Zb 2) (eC (.int 1))) (e2 Zai (e2 Zad (Zb 5) (eC (.int 512))) (e2 Zcp (Zaz ZaS (Za (Zb 0) (Zf))) (Zb 2))))) (Zv (sIf (e2 ZaK (e2 Zai (e2 Zad (Zb 5) (eC (.int 5))) (eC (.int 4))) (eC (.int 1))) (Zaj 9 (e2 Zai (e2 Zad (Zb 5) (eC (.int 512))) (e2 Zay (Zaz ZaS (Za (Zb 0) (Zf))) (eC (.int 1))))) (Zan)) (sIf (e2 ZaK (Zb 4) (eC (.str [112,117,116]))) (ZaR (ZcR tyL ZaV (Zb 1) (Za (Zbg (Za (Zb 4) (Za (Zb 6) (Za (e2 Zq (ZaY (Za (e2 Zai (e2 Zad (Zb 5) (eC (.int 8))) (eC (.int 3))) (Za (e2 Zcp (eC (.int 0)) (e2 Zai (e2 Zad (Zb 5) (eC (.int 8))) (e2 Zen (eC (.int 10)) (eC (.int 40))))) (Za (e2 Zai (e2 Zad (Zb 5) (eC (.int 8))) (e2 Zen (eC (.int 10)) (eC (.int 40)))) (Zf))))) (e2 Zai (Zb 7) (eC (.int 3)))) (Zf))))) (Zf)))) (sIf (e2 Zf7 (Zb 4) (ZaY (Za (eC (.str [97,100,100])) (Za (eC (.str [115,117,98])) (Za (eC (.str [109,111,114,101])) (Zf)))))) (ZaR (ZcR tyL ZaV (Zb 1) (Za (Zbg (Za (Zb 4) (Za (Zb 6) (Za (Zb 7) (Za (Zb 8) (Zf)))))) (Zf)))) (sIf (e2 Zf7 (Zb 4) (ZaY (Za (eC (.str [103,101,116])) (Za (eC (.str [115,101,116])) (Zf))))) (ZaR (ZcR tyL ZaV (Zb 1) (Za (Zbg (Za (Zb 4) (Za (Zb 6) (Za (Zb 7) (Zf))))) (Zf)))) (sIf (e2 ZaK (Zb 4) (eC (.str [119,104,101,110]))) (ZaR (ZcR tyL ZaV (Zb 1) (Za (Zbg (Za (Zb 4) (Za (Zb 6) (Za (Zb 9) (Zf))))) (Zf)))) (sIf (e2 ZaK (Zb 4) (eC (.str [106,117,109,112]))) (ZaR (ZcR tyL ZaV (Zb 1) (Za (Zbg (Za (Zb 4) (Za (Zb 9) (Zf)))) (Zf)))) (ZaR (ZcR tyL ZaV (Zb 1) (Za (Zbg (Za (Zb 4) (Za (Zb 6) (Zf)))) (Zf))))))))))))))))) (Zv (Zaj 10 (Zbg (Za (eC (.str [104,97,108,116])) (Zf)))) (Zv (sIf (ZbG (e2 Zei (Zaz ZaS (Za (Zb 0) (Zf))) (eC (.int 0))) (e2 ZaK (e2 Zai (e2 Zq (Zb 0) (e1 Zcw (eC (.int 1)))) (eC (.int 4))) (eC (.int 1)))) (Zaj 10 (Zbg (Za (eC (.str [106,117,109,112])) (Za (e2 Zai (e2 Zad (e2 Zq (Zb 0) (e1 Zcw (eC (.int 1)))) (eC (.int 4))) (e2 Zay (Zaz ZaS (Za (Zb 0) (Zf))) (eC (.int 1)))) (Zf))))) (Zan)) (Zax (Zaz ZcX (Za (e2 Zay (Zb 1) (ZaY (Za (Zb 10) (Zf)))) (Zf)))))))
def Zdt:F3:=mkF 1 11 Zew
def Zfi:S3:=Zv (Zaj 2 (Zae ZaP (Za (Zb 0) (Zf)))) (Zv (Zaj 3 (ZaY (Za (eC (.int 0)) (Za (eC (.int 0)) (Za (eC (.int 0)) (Za (eC (.int 0)) (Za (eC (.int 0)) (Za (eC (.int 0)) (Za (eC (.int 0)) (Za (eC (.int 0)) (Zf))))))))))) (Zv (Zeb (Zb 3) (e2 Zai (Zb 2) (eC (.int 8))) (e2 Zcp (e2 Zai (e2 Zad (Zb 2) (eC (.int 8))) (e2 Zen (eC (.int 10)) (eC (.int 40)))) (e2 Zai (e2 Zad (Zb 2) (eC (.int 3))) (eC (.int 2))))) (Zv (Zaj 4 (Zbg (Zf))) (Zv (sIf (e2 ZaK (e2 Zai (Zb 2) (eC (.int 5))) (eC (.int 2))) (Zaj 4 (Zbg (Za (Zbg (Za (e2 Zai (e2 Zad (Zb 2) (eC (.int 5))) (eC (.int 3))) (Za (eC (.int 1)) (Zf)))) (Zf)))) (Zan)) (Zax (Zbg (Za (e2 Zai (e2 Zad (Zb 2) (eC (.int 2))) (Zaz ZaS (Za (Zb 1) (Zf)))) (Za (Zaz ZcX (Za (Zb 3) (Zf))) (Za (Zb 4) (Zf))))))))))
def Za8:F3:=mkF 2 5 Zfi
def ZdA:S3:=Zv (Zmb (Zb 0) (ZhD [3,4,5])) (Zv (sIf (ZbG (e2 ZaK (e2 Zai (Zb 2) (eC (.int 3))) (eC (.int 0))) (e2 Zei (Zaz ZaS (Za (Zb 1) (Zf))) (eC (.int 1)))) (Zax (Zbg (Za (e2 Zai (e2 Zay (Zb 3) (eC (.int 1))) (Zaz ZaS (Za (Zb 1) (Zf)))) (Za (Zb 4) (Za (Zb 5) (Zf)))))) (Zan)) (Zv (sIf (e2 ZaK (e2 Zai (Zb 2) (eC (.int 3))) (eC (.int 1))) (Zax (Zbg (Za (Zb 3) (Za (Zb 4) (Za (e2 Zay (Zb 5) (Zbg (Za (Zbg (Za (eC (.int 7)) (Za (e2 Zcp (e1 Zcw (eC (.int 1))) (e2 Zai (e2 Zad (Zb 2) (eC (.int 3))) (eC (.int 5)))) (Zf)))) (Zf)))) (Zf)))))) (Zan)) (Zax (Zbg (Za (Zb 3) (Za (e2 Zay (eSl (Zb 4) (Zb3) (Zb5 (eC (.int 7)))) (Zbg (Za (e2 Zay (e2 Zq (Zb 4) (eC (.int 7))) (eC (.int 1))) (Zf)))) (Za (Zb 5) (Zf))))))))
def ZaZ:F3:=mkF 3 6 ZdA
def Zfu:S3:=Zv (Zaj 2 (eC .non)) (Zv (Zaj 3 (eC .non)) (Zv (Zj7 [[78,111,68,105,115,112,117,116,101]] 4 (Zaj 3 (Zae Zbt (Zjo (Za (Zb 0) (Za (e2 Zq (Zb 1) (eC (.int 0))) (Za (e2 Zq (Zb 1) (eC (.int 1))) (Zf))))))) (Zaj 2 (Zb 4))) (Zv (sIf (e1 (Zbw [] [[78,111,68,105,115,112,117,116,101]]) (Zb 2)) (Zax (ZaY (Za (eC (.bl false)) (Za (eC (.bl false)) (Zf))))) (Zan)) (Zv (Zaj 5 (ZbG (e1 (Zbw [[78,111,68,105,115,112,117,116,101]] []) (Zb 2)) (e1 (Zbw [[78,111,68,105,115,112,117,116,101]] []) (Zb 2)))) (Zax (ZaY (Za (Zb 5) (Za (ZbG (e1 (ZcL .tuple) (Zb 3)) (e2 ZaK (Zaz ZaS (Za (Zb 3) (Zf))) (eC (.int 2)))) (Zf)))))))))
def ZaJ:F3:=mkF 2 6 Zfu
def Zg2:S3:=Zv (sIf (eOr (e2 ZbJ (Zaz ZaS (Za (Zb 0) (Zf))) (Zaz ZaS (Za (Zb 1) (Zf)))) (e2 ZhA (Zaz ZaS (Za (Zb 0) (Zf))) (eC (.int 2)))) (Zax (ZaY (Zf))) (Zan)) (Zv (sIf (e2 ZbJ (e2 Zq (Zb 0) (eC (.int 0))) (e2 Zq (Zb 1) (eC (.int 0)))) (Zax (ZaY (Za (eC (.int 0)) (Zf)))) (Zan)) (Zax (ZaY (Za (eC (.int 0)) (Za (e2 Zcp (Zaz ZaS (Za (Zb 0) (Zf))) (eC (.int 1))) (Zf))))))
def Zdl:F3:=mkF 2 2 Zg2
def Zdw:S3:=Zv (Zoa [84,101,108,108,101,114] [115,116,97,116,101,115] (Zb 0) (Zaz ZcX (Za (Zb 1) (Zf)))) (Zoa [84,101,108,108,101,114] [97,115,107,101,100] (Zb 0) (ZaY (Zf)))
def Zaa:F3:=mkF 2 2 Zdw
def ZcQ:S3:=Zax (Zaz Zgb (Za (e1 (Zef [84,101,108,108,101,114] [97,115,107,101,100]) (Zb 0)) (Zf)))
def Zu:F3:=mkF 1 1 ZcQ
def ZmY:S3:=Zv (Zaj 1 (ZaY (Za (eSl (Zb 0) (Zb3) (Zb5 (eC (.int 64)))) (Za (eC (.int 0)) (Zf))))) (Zv (Zaj 2 (Zae ZaP (Za (Zb 1) (Zf)))) (Zv (Zaj 3 (Zae Zdt (Za (eSl (Zb 0) (Zb3) (Zb5 (eC (.int 40)))) (Zf)))) (Zv (Zaj 4 (eLC (ZcP (e2 Zq (ZaY (Za (e2 Zai (e2 Zad (Zb 2) (eC (.int 3))) (eC (.int 4))) (Za (e2 Zai (e2 Zad (Zb 2) (eC (.int 3))) (eC (.int 61))) (Za (e2 Zay (eC (.int 2)) (e2 Zai (e2 Zad (Zb 2) (eC (.int 3))) (eC (.int 3)))) (Zf))))) (e2 Zai (Zb 2) (eC (.int 3))))) 1 (Zdz 14) [] (Zae Za8 (Za (Zb 1) (Za (Zb 3) (Zf)))))) (Zv (ZiS (ZcP (eC (.int 8))) (Zdz 5) (Zv (Zaj 6 (Zaz Zgb (Za (Zb 4) (Zf)))) (Zv (sIf (ZbG (e2 ZaK (e2 Zai (Zb 5) (eC (.int 2))) (eC (.int 1))) (e2 ZbJ (Zb 4) (ZaY (Zf)))) (Zeb (Zb 6) (e1 Zcw (eC (.int 1))) (Zae ZaZ (Za (e2 Zq (Zb 4) (e1 Zcw (eC (.int 1)))) (Za (Zb 3) (Za (Zae ZaP (Za (Zb 1) (Zf))) (Zf)))))) (Zan)) (Zv (sIf (ZbG (e2 ZaK (e2 Zai (e2 Zad (Zb 5) (eC (.int 2))) (eC (.int 2))) (eC (.int 1))) (e2 ZbJ (Zb 4) (ZaY (Zf)))) (Zeb (Zb 6) (eC (.int 0)) (Zae ZaZ (Za (e2 Zq (Zb 4) (eC (.int 0))) (Za (Zb 3) (Za (Zae ZaP (Za (Zb 1) (Zf))) (Zf)))))) (Zan)) (Zv (sIf (ZbG (e2 ZaK (e2 Zad (Zb 5) (eC (.int 4))) (eC (.int 1))) (e2 ZaK (e2 Zai (e2 Zad (Zb 2) (eC (.int 183))) (eC (.int 2))) (eC (.int 1)))) (ZaR (ZcR tyL ZaV (Zb 6) (Za (Zae Za8 (Za (Zb 1) (Za (Zb 3) (Zf)))) (Zf)))) (sIf (e2 ZaK (e2 Zad (Zb 5) (eC (.int 4))) (eC (.int 1))) (Zaj 6 (eSl (Zb 6) (Zb3) (Zb5 (e1 Zcw (eC (.int 1)))))) (Zan))) (Zv (Zaj 7 (ZaY (Za (ZcS [84,101,108,108,101,114] Zaa (Za (Zb 4) (Zf))) (Za (ZcS [84,101,108,108,101,114] Zaa (Za (Zb 6) (Zf))) (Zf))))) (Zv (Zaj 8 (Zae Zdl (Za (Zb 4) (Za (Zb 6) (Zf))))) (Zv (Zaj 9 (ZbG (e2 ZaK (Zaz ZaS (Za (Zb 8) (Zf))) (eC (.int 2))) (e2 ZbJ (e2 Zq (Zb 4) (e1 Zcw (eC (.int 1)))) (e2 Zq (Zb 6) (e1 Zcw (eC (.int 1))))))) (Zv (ZgI (Zae ZaJ (Za (Zb 3) (Za (Zb 7) (Zf)))) [10,11]) (Zv (sIf (eOr (e2 ZaK (Zb 10) (Zb 9)) (e2 ZbJ (Zb 11) (Zb 9))) (Zax (eC (.bl false))) (Zan)) (ZiS (Zhl (Zb 7)) (Zdz 12) (sIf (eOr (e1 ZdN (Zae Zbk (Za (eSl (ZaA [84,101,108,108,101,114] [116,105,109,101,115,95,97,115,107,101,100] Zu (Zb 12) (Zf)) (Zb3) (Zb5 (eC (.int 2)))) (Za (Zb 8) (Zf))))) (ZbG (e1 ZdN (Zb 9)) (e2 Zei (Zaz ZaS (Za (ZaA [84,101,108,108,101,114] [116,105,109,101,115,95,97,115,107,101,100] Zu (Zb 12) (Zf)) (Zf))) (eC (.int 2))))) (Zax (eC (.bl false))) (Zan))))))))))))) (Zv (Zaj 13 (ZcS [84,101,108,108,101,114] Zaa (Za (Zb 4) (Zf)))) (Zv (Zaj 8 (ZaY (Zf))) (Zv (sIf (e2 Zei (Zaz ZaS (Za (Zb 4) (Zf))) (eC (.int 1))) (Zaj 8 (ZaY (Za (eC (.int 0)) (Za (eC (.int 0)) (Za (e2 Zcp (Zaz ZaS (Za (Zb 4) (Zf))) (eC (.int 1))) (Za (e2 Zcp (Zaz ZaS (Za (Zb 4) (Zf))) (eC (.int 1))) (Zf))))))) (Zan)) (Zax (ZbG (e2 Zq (Zae ZaJ (Za (Zb 3) (Za (ZaY (Za (Zb 13) (Za (Zb 13) (Zf)))) (Zf)))) (eC (.int 0))) (Zae Zbk (Za (ZaA [84,101,108,108,101,114] [116,105,109,101,115,95,97,115,107,101,100] Zu (Zb 13) (Zf)) (Za (Zb 8) (Zf)))))))))))))
def Zli:F3:=mkF 1 14 ZmY
end
end Law
namespace Law
open PySem PySem.Spec PyProof.Rows L2 L3
noncomputable def top (i:Nat):Stmt:=PySem.Challenge.pw_stepledger_k54_no_dispute.main.body.getD i (.Pass ⟨0,0,0,0⟩)
noncomputable abbrev ZbY:Stmt:=top 11
noncomputable abbrev Zb0:Stmt:=top 12
noncomputable abbrev ZbW:Stmt:=top 13
noncomputable abbrev ZdH:Stmt:=top 14
noncomputable abbrev ZbX:Stmt:=top 15
noncomputable abbrev ZcM:Stmt:=top 16
noncomputable abbrev ZbU:Stmt:=top 17
noncomputable abbrev Zck:Stmt:=top 18
noncomputable abbrev Zco:Stmt:=top 20
noncomputable abbrev ZdL:Stmt:=top 23
noncomputable abbrev Zc8:Stmt:=top 24
noncomputable abbrev Zb1:Stmt:=top 25
noncomputable abbrev ZbV:Stmt:=top 26
noncomputable abbrev Zcu:Stmt:=top 28
noncomputable abbrev Zcn:Stmt:=top 29
noncomputable abbrev Zcs:Stmt:=top 30
noncomputable abbrev ZbT:Stmt:=top 32
noncomputable abbrev ZbC:Stmt:=top 33
noncomputable abbrev ZbZ:Stmt:=top 34
noncomputable abbrev ZcJ:Stmt:=top 35
noncomputable abbrev Zfe:Stmt:=top 36
noncomputable abbrev Za2:Stmt:=(Zgp (top 22)).getD 0 (.Pass ⟨0,0,0,0⟩)
noncomputable abbrev Za4:Stmt:=(Zgp (top 22)).getD 1 (.Pass ⟨0,0,0,0⟩)
noncomputable abbrev ZbD:Stmt:=(Zgp (top 22)).getD 2 (.Pass ⟨0,0,0,0⟩)
noncomputable abbrev ZaO:Stmt:=(Zgp (top 22)).getD 3 (.Pass ⟨0,0,0,0⟩)
structure Zcl (K:W.Frag) (mg:Str → Option Value) (C:Addr):Prop where
  ok:Zfy K [84,101,108,108,101,114] C
  mg:mg "Teller" = some (.ref C)
  n_asked:ZdE K C (nm [97,115,107,101,100])
  n_states:ZdE K C (nm [115,116,97,116,101,115])
structure ExT (K:W.Frag) (mg:Str → Option Value) (C_LedgerError C_BadCut C_BadGiven C_BadRow C_NoDispute C_NoRoll C_NoTime C_Spent C_Unfit:Addr):Prop where
  mg_LedgerError:mg "LedgerError" = some (.ref C_LedgerError)
  mg_BadCut:mg "BadCut" = some (.ref C_BadCut)
  mg_BadGiven:mg "BadGiven" = some (.ref C_BadGiven)
  mg_BadRow:mg "BadRow" = some (.ref C_BadRow)
  mg_NoDispute:mg "NoDispute" = some (.ref C_NoDispute)
  mg_NoRoll:mg "NoRoll" = some (.ref C_NoRoll)
  mg_NoTime:mg "NoTime" = some (.ref C_NoTime)
  mg_Spent:mg "Spent" = some (.ref C_Spent)
  mg_Unfit:mg "Unfit" = some (.ref C_Unfit)
  r_NoDispute:ZjG K [78,111,68,105,115,112,117,116,101] C_NoDispute
  t_LedgerError:∀ c C,([[78,111,68,105,115,112,117,116,101]]:List (List Nat)).contains c = true → ClsAt K c C → PySem.W.exmOne K (.ref C) (.ref C_LedgerError) = some true
  i_NoDispute:Zf8 K [[78,111,68,105,115,112,117,116,101]] [] [.ref C_NoDispute]
  i_ValueError:Zf8 K [[78,111,68,105,115,112,117,116,101]] [] [.type "ValueError"]
  i_BadCut_BadGiven_BadRow_NoRoll_NoTime_Spent_Unfit:Zf8 K [] [[78,111,68,105,115,112,117,116,101]] (refsOf [C_BadCut,C_BadGiven,C_BadRow,C_NoRoll,C_NoTime,C_Spent,C_Unfit])
structure Txt (K:W.Frag) (mg:Str → Option Value):Prop where
  kin:True
  m_ValueError:mg "ValueError" = none
  m_all:mg "all" = none
  m_bool:mg "bool" = none
  m_dict:mg "dict" = none
  m_enumerate:mg "enumerate" = none
  m_int:mg "int" = none
  m_isinstance:mg "isinstance" = none
  m_len:mg "len" = none
  m_list:mg "list" = none
  m_range:mg "range" = none
  m_str:mg "str" = none
  m_tuple:mg "tuple" = none
section
variable {P:Program} {w:World} {K:W.Frag} {mg:Str → Option Value} {base:Heap}
theorem Zht:Zar ["row","place","boxes"] ["row","place","boxes"] (Zh Zb0):=⟨rfl,rfl,rfl,by decide +kernel,rfl,by decide +kernel,by decide +kernel⟩
theorem Zhy (A:ZaH K mg "next_place" Zb0 ["row","place","boxes"]) (T:Txt K mg):Fn3 P w K mg base 1 "next_place" ["row","place","boxes"] Zcx:=
  Fn3.of (N:=["row","place","boxes"]) (k:=0) A Zht fun f cdv A outer s H E hr=>by
    have hu:=ZcW hr
    unfold ZfB
    refine Zk ?_ ?_
    ·refine ZaW ?_ ?_ ?_
     ·exact Zao ((ZcA hu)) (Zas Zat (Ze 0) Zi) Za3
     ·exact Zn (Zap (Zas Zat (Ze 0) Zi))
     ·exact Zav
    ·refine Zk ?_ ?_
     ·refine ZaW ?_ ?_ ?_
      ·refine CW.ct ?_
       refine Ze7 ?_ ?_
       ·exact Zao ((ZcA hu)) (Zas Zat (Ze 0) Zi) Za3
       ·exact Zd3 (Zao ZkE (Zas Zat (Ze 2) (Zas Zat (Ze 0) Zi)) Zi)
      ·exact Zn (Zap (Zas Zat (Ze 0) Zi))
      ·exact Zav
     ·exact Zn (Zap (Zx Zb4 (Ze 1) Zi))
theorem Zl9:Zar ["name","one","other"] ["name","one","other"] (Zh ZdH):=⟨rfl,rfl,rfl,by decide +kernel,rfl,by decide +kernel,by decide +kernel⟩
theorem Zmd (A:ZaH K mg "worked" ZdH ["name","one","other"]) (T:Txt K mg):Fn3 P w K mg base 1 "worked" ["name","one","other"] ZbL:=
  Fn3.of (N:=["name","one","other"]) (k:=0) A Zl9 fun f cdv A outer s H E hr=>by
    have hu:=ZcW hr
    unfold Zes
    refine Zk ?_ ?_
    ·exact ZaW (Zao ((ZcA hu)) (Ze 0) Za3) (Zn (Zap (Zx Zb4 (Ze 1) (Ze 2)))) Zav
    ·refine Zk ?_ ?_
     ·exact ZaW (Zao ((ZcA hu)) (Ze 0) Za3) (Zn (Zap (Zx Zft (Ze 1) (Ze 2)))) Zav
     ·exact Zn (Zap (ZsJ (Zao ZkE (Ze 1) (Ze 2)) Zi Zi))
theorem ZjD:Zar ["boxes","box","value"] ["boxes","box","value"] (Zh ZcM):=⟨rfl,rfl,rfl,by decide +kernel,rfl,by decide +kernel,by decide +kernel⟩
theorem Zjc (A:ZaH K mg "with_box" ZcM ["boxes","box","value"]) (T:Txt K mg):Fn3 P w K mg base 1 "with_box" ["boxes","box","value"] ZbR:=
  Fn3.of (N:=["boxes","box","value"]) (k:=0) A ZjD fun f cdv A outer s H E hr=>by
    have hu:=ZcW hr
    unfold Zhb
    refine Zn ?_
    refine Zap ?_
    refine Zx ?_ ?_ ?_
    ·exact Zb4
    ·exact Zx Zb4 (Zj1 Zkb (Ze 0) ZdZ (ZdW (Ze 1))) (ZbA (Zc (Ze 2) Zg))
    ·exact Zj1 Zkb (Ze 0) (ZdW (Zx Zb4 (Ze 1) Zi)) ZdZ
theorem Zhu:Zar ["cells","number"] ["cells","number"] (Zh ZbU):=⟨rfl,rfl,rfl,by decide +kernel,rfl,by decide +kernel,by decide +kernel⟩
theorem Zhg (A:ZaH K mg "cell_value" ZbU ["cells","number"]) (T:Txt K mg):Fn3 P w K mg base 1 "cell_value" ["cells","number"] Zcy:=
  Fn3.of (N:=["cells","number"]) (k:=0) A Zhu fun f cdv A outer s H E hr=>by
    have hu:=ZcW hr
    unfold Zfz
    refine Zn ?_
    exact Zap (Zrg hu (ZgZ (T:="dict") ((Zqk rfl)) T.m_dict Zpy (Zc (Ze 0) Zg)) (Ze 1) Zi)
theorem ZeX:Zar ["row","boxes","cells","name"] ["row","boxes","cells"] (Zh ZbW):=⟨rfl,rfl,rfl,by decide +kernel,rfl,by decide +kernel,by decide +kernel⟩
theorem ZhC (A:ZaH K mg "next_boxes" ZbW ["row","boxes","cells"]) (T:Txt K mg) (F_worked:Fn3 P w K mg base 1 "worked" ["name","one","other"] ZbL) (F_with_box:Fn3 P w K mg base 1 "with_box" ["boxes","box","value"] ZbR) (F_cell_value:Fn3 P w K mg base 1 "cell_value" ["cells","number"] Zcy):Fn3 P w K mg base 2 "next_boxes" ["row","boxes","cells"] ZcF:=
  Fn3.of (N:=["row","boxes","cells","name"]) (k:=1) A ZeX fun f cdv A outer s H E hr=>by
    have hu:=ZcW hr
    unfold Zd2
    refine Zk ?_ ?_
    ·exact Zak 3 ZeX.nd (Zas Zat (Ze 0) Zi)
    ·refine Zk ?_ ?_
     ·refine ZaW ?_ ?_ ?_
      ·exact Zao ((ZcA hu)) (Ze 3) Za3
      ·refine Zn ?_
       refine Zap ?_
       refine ZaG (k:=1) (ps:=["boxes","box","value"]) ?_ ?_ ?_
       ·exact F_with_box
       ·exact hr.mono (by decide)
       ·refine Zc ?_ ?_
        ·exact Ze 1
        ·exact Zc (Zas Zat (Ze 0) Zi) (Zc (Zas Zat (Ze 0) Zi) Zg)
      ·exact Zav
     ·refine Zk ?_ ?_
      ·refine ZaW ?_ ?_ ?_
       ·exact Zao ((ZcA hu)) (Ze 3) Za3
       ·refine Zn ?_
        refine Zap ?_
        refine ZaG (k:=1) (ps:=["boxes","box","value"]) ?_ ?_ ?_
        ·exact F_with_box
        ·exact hr.mono (by decide)
        ·refine Zc ?_ ?_
         ·exact Ze 1
         ·refine Zc ?_ ?_
          ·exact Zas Zat (Ze 0) Zi
          ·refine Zc ?_ ?_
           ·refine ZaG (k:=1) (ps:=["cells","number"]) ?_ ?_ ?_
            ·exact F_cell_value
            ·exact hr.mono (by decide)
            ·exact Zc (Ze 2) (Zc (Zas Zat (Ze 1) (Zas Zat (Ze 0) Zi)) Zg)
           ·exact Zg
       ·exact Zav
      ·refine Zk ?_ ?_
       ·refine ZaW ?_ ?_ ?_
        ·exact Zao ((Zt3 hu)) (Ze 3) (ZbA (Zc Za3 (Zc Za3 (Zc Za3 Zg))))
        ·refine Zn ?_
         refine Zap ?_
         refine ZaG (k:=1) (ps:=["boxes","box","value"]) ?_ ?_ ?_
         ·exact F_with_box
         ·exact hr.mono (by decide)
         ·refine Zc ?_ ?_
          ·exact Ze 1
          ·refine Zc ?_ ?_
           ·exact Zas Zat (Ze 0) Zi
           ·refine Zc ?_ ?_
            ·refine ZaG (k:=1) (ps:=["name","one","other"]) ?_ ?_ ?_
             ·exact F_worked
             ·exact hr.mono (by decide)
             ·refine Zc ?_ ?_
              ·exact Ze 3
              ·refine Zc ?_ ?_
               ·exact Zas Zat (Ze 1) (Zas Zat (Ze 0) Zi)
               ·exact Zc (Zas Zat (Ze 1) (Zas Zat (Ze 0) Zi)) Zg
            ·exact Zg
        ·exact Zav
       ·exact Zn (Zap (Ze 1))
theorem Zc3:Zar ["cells","number","value","below","above","here"] ["cells","number","value"] (Zh Zck):=⟨rfl,rfl,rfl,by decide +kernel,rfl,by decide +kernel,by decide +kernel⟩
theorem Zi5 (A:ZaH K mg "with_cell" Zck ["cells","number","value"]) (T:Txt K mg):Fn3 P w K mg base 1 "with_cell" ["cells","number","value"] Zct:=
  Fn3.of (N:=["cells","number","value","below","above","here"]) (k:=0) A Zc3 fun f cdv A outer s H E hr=>by
    have hu:=ZcW hr
    unfold Zf6
    refine Zk ?_ ?_
    ·refine Zgy (N':=["cells","number","value","below","above","here","cell"]) 3 ?_ ?_ ?_ ?_ ?_ (fun C cl s H ex=>⟨?_,?_,?_⟩)
     ·exact ZeF rfl (by kernel_rfl)
     ·exact rfl
     ·exact rfl
     ·exact Zc3.nd
     ·exact Zq8 (Ze 0)
     ·exact ZeG 6 ((show List.Nodup (["cells","number","value","below","above","here","cell"]:List Str) by decide +kernel))
     ·exact Zlg (Zao Zn0 (Zas Zat (Ze 6) Zi) (Ze 1))
     ·exact Ze 6
    ·refine Zk ?_ ?_
     ·refine Zgy (N':=["cells","number","value","below","above","here","cell"]) 4 ?_ ?_ ?_ ?_ ?_ (fun C cl s H ex=>⟨?_,?_,?_⟩)
      ·exact ZeF rfl (by kernel_rfl)
      ·exact rfl
      ·exact rfl
      ·exact Zc3.nd
      ·exact Zq8 (Ze 0)
      ·exact ZeG 6 ((show List.Nodup (["cells","number","value","below","above","here","cell"]:List Str) by decide +kernel))
      ·exact Zlg (Zao ZkE (Zas Zat (Ze 6) Zi) (Ze 1))
      ·exact Ze 6
     ·refine Zk ?_ ?_
      ·refine Zak 5 ?_ ?_
       ·exact Zc3.nd
       ·refine ZsJ ?_ ?_ ?_
        ·exact Zao ((Zgh hu)) (Ze 2) Zi
        ·exact ZbQ (Zc (ZbA (Zc (Ze 1) (Zc (Ze 2) Zg))) Zg)
        ·exact ZbQ Zg
      ·refine Zn ?_
       refine Zap ?_
       refine ZgZ (T:="tuple") ?_ ?_ ?_ ?_
       ·exact Zgu
       ·exact T.m_tuple
       ·exact Zfo
       ·exact Zc (Zx Zb4 (Zx Zb4 (Ze 3) (Ze 5)) (Ze 4)) Zg
theorem Zhi:Zar ["row","boxes","cells"] ["row","boxes","cells"] (Zh ZbX):=⟨rfl,rfl,rfl,by decide +kernel,rfl,by decide +kernel,by decide +kernel⟩
theorem Zhw (A:ZaH K mg "next_cells" ZbX ["row","boxes","cells"]) (T:Txt K mg) (F_with_cell:Fn3 P w K mg base 1 "with_cell" ["cells","number","value"] Zct):Fn3 P w K mg base 2 "next_cells" ["row","boxes","cells"] ZcB:=
  Fn3.of (N:=["row","boxes","cells"]) (k:=1) A Zhi fun f cdv A outer s H E hr=>by
    have hu:=ZcW hr
    unfold ZdT
    refine Zk ?_ ?_
    ·refine ZaW ?_ ?_ ?_
     ·exact Zao ((ZcA hu)) (Zas Zat (Ze 0) Zi) Za3
     ·refine Zn ?_
      refine Zap ?_
      refine ZaG (k:=1) (ps:=["cells","number","value"]) ?_ ?_ ?_
      ·exact F_with_cell
      ·exact hr.mono (by decide)
      ·refine Zc ?_ ?_
       ·exact Ze 2
       ·refine Zc ?_ ?_
        ·exact Zas Zat (Ze 1) (Zas Zat (Ze 0) Zi)
        ·exact Zc (Zas Zat (Ze 1) (Zas Zat (Ze 0) Zi)) Zg
     ·exact Zav
    ·exact Zn (Zap (Ze 2))
theorem Zcd:Zar ["roll","state","place","boxes","cells","row"] ["roll","state"] (Zh ZbY):=⟨rfl,rfl,rfl,by decide +kernel,rfl,by decide +kernel,by decide +kernel⟩
theorem Zhr (A:ZaH K mg "next_state" ZbY ["roll","state"]) (T:Txt K mg) (F_next_place:Fn3 P w K mg base 1 "next_place" ["row","place","boxes"] Zcx) (F_next_boxes:Fn3 P w K mg base 2 "next_boxes" ["row","boxes","cells"] ZcF) (F_next_cells:Fn3 P w K mg base 2 "next_cells" ["row","boxes","cells"] ZcB):Fn3 P w K mg base 3 "next_state" ["roll","state"] Zc6:=
  Fn3.of (N:=["roll","state","place","boxes","cells","row"]) (k:=2) A Zcd fun f cdv A outer s H E hr=>by
    have hu:=ZcW hr
    unfold ZdR
    refine Zk ?_ ?_
    ·exact Zak 2 Zcd.nd (Zas Zat (Ze 1) Zi)
    ·refine Zk ?_ ?_
     ·exact Zak 3 Zcd.nd (Zas Zat (Ze 1) Zi)
     ·refine Zk ?_ ?_
      ·exact Zak 4 Zcd.nd (Zas Zat (Ze 1) Zi)
      ·refine Zk ?_ ?_
       ·exact Zak 5 Zcd.nd (Zas Zat (Ze 0) (Ze 2))
       ·refine Zk ?_ ?_
        ·exact ZaW (Zao ((ZcA hu)) (Zas Zat (Ze 5) Zi) Za3) (Zn (Zap Zn4)) Zav
        ·refine Zn ?_
         refine Zap ?_
         refine ZbA ?_
         refine Zc ?_ ?_
         ·exact ZaG (k:=1) (ps:=["row","place","boxes"]) F_next_place (hr.mono (by decide)) (Zc (Ze 5) (Zc (Ze 2) (Zc (Ze 3) Zg)))
         ·refine Zc ?_ ?_
          ·exact ZaG (k:=2) (ps:=["row","boxes","cells"]) F_next_boxes (hr.mono (by decide)) (Zc (Ze 5) (Zc (Ze 3) (Zc (Ze 4) Zg)))
          ·exact Zc (ZaG (k:=2) (ps:=["row","boxes","cells"]) F_next_cells (hr.mono (by decide)) (Zc (Ze 5) (Zc (Ze 3) (Zc (Ze 4) Zg)))) Zg
theorem Ziv:Zar ["number","many"] ["number","many"] (Zh Zco):=⟨rfl,rfl,rfl,by decide +kernel,rfl,by decide +kernel,by decide +kernel⟩
theorem ZiU (A:ZaH K mg "is_within" Zco ["number","many"]) (T:Txt K mg):Fn3 P w K mg base 1 "is_within" ["number","many"] Zcq:=
  Fn3.of (N:=["number","many"]) (k:=0) A Ziv fun f cdv A outer s H E hr=>by
    have hu:=ZcW hr
    unfold Zev
    exact Zn (Zap (ZeW (Zec Zuf (Ze 0) Zi) (Zfp (Zec Zn0 (Ze 0) (Ze 1)))))
theorem Zg7:Zar ["self"] ["self"] (Zh ZbD):=⟨rfl,rfl,rfl,by decide +kernel,rfl,by decide +kernel,by decide +kernel⟩
theorem Zg9 {C_Teller:Addr} (O_Teller:Zcl K mg C_Teller) (A:Zge K C_Teller "many" "Teller.many" ZbD ["self"]) (T:Txt K mg):ZfP P w K mg base 1 C_Teller "many" ["self"] ZaC:=
  ZfP.of (N:=["self"]) (k:=0) A Zg7 fun f cdv A outer s H E hr=>by
    have hu:=ZcW hr
    unfold ZeQ
    exact Zn (Zap (Zbu (id:="len") ZbB T.m_len Za6 (Zc (ZjE (C:=C_Teller) (c:=[84,101,108,108,101,114]) (m:=[115,116,97,116,101,115]) O_Teller.ok O_Teller.n_states (Ze 0)) Zg)))
theorem Zfd:Zar ["self","time"] ["self","time"] (Zh Za4):=⟨rfl,rfl,rfl,by decide +kernel,rfl,by decide +kernel,by decide +kernel⟩
theorem Ze0 {C_Teller:Addr} (O_Teller:Zcl K mg C_Teller) (A:Zge K C_Teller "state_at" "Teller.state_at" Za4 ["self","time"]) (T:Txt K mg) (F_is_within:Fn3 P w K mg base 1 "is_within" ["number","many"] Zcq):ZfP P w K mg base 2 C_Teller "state_at" ["self","time"] Zbi:=
  ZfP.of (N:=["self","time"]) (k:=1) A Zfd fun f cdv A outer s H E hr=>by
    have hu:=ZcW hr
    unfold Zdp
    refine Zk ?_ ?_
    ·refine ZaW ?_ ?_ ?_
     ·refine ZgJ ?_
      refine Zdb ?_
      refine ZaG (k:=1) (ps:=["number","many"]) ?_ ?_ ?_
      ·exact F_is_within
      ·exact hr.mono (by decide)
      ·refine Zc ?_ ?_
       ·exact Ze 1
       ·exact Zc (Zbu (id:="len") ZbB T.m_len Za6 (Zc (ZjE (C:=C_Teller) (c:=[84,101,108,108,101,114]) (m:=[115,116,97,116,101,115]) O_Teller.ok O_Teller.n_states (Ze 0)) Zg)) Zg
     ·exact Zn Zqg
     ·exact Zav
    ·refine Zk ?_ ?_
     ·exact Zdq (Zbj (ZjE (C:=C_Teller) (c:=[84,101,108,108,101,114]) (m:=[97,115,107,101,100]) O_Teller.ok O_Teller.n_asked (Ze 0)) (Zc (Ze 1) Zg))
     ·exact Zn (Zap (Zas Zat (ZjE (C:=C_Teller) (c:=[84,101,108,108,101,114]) (m:=[115,116,97,116,101,115]) O_Teller.ok O_Teller.n_states (Ze 0)) (Ze 1)))
theorem ZkL:Zar ["one","other","time"] ["one","other","time"] (Zh Zc8):=⟨rfl,rfl,rfl,by decide +kernel,rfl,by decide +kernel,by decide +kernel⟩
theorem Zkj (A:ZaH K mg "both_at" Zc8 ["one","other","time"]) (T:Txt K mg) {C_Teller:Addr} (O_Teller:Zcl K mg C_Teller) (M_Teller_state_at:ZfP P w K mg base 2 C_Teller "state_at" ["self","time"] Zbi):Fn3 P w K mg base 3 "both_at" ["one","other","time"] Zbh:=
  Fn3.of (N:=["one","other","time"]) (k:=2) A ZkL fun f cdv A outer s H E hr=>by
    have hu:=ZcW hr
    unfold ZhF
    refine Zn ?_
    refine Zap ?_
    refine ZbA ?_
    refine Zc ?_ ?_
    ·exact Zmr (C:=C_Teller) (c:=[84,101,108,108,101,114]) (m:=[115,116,97,116,101,95,97,116]) (k:=2) (ps:=["self","time"]) O_Teller.ok M_Teller_state_at (hr.mono (by decide)) (Ze 0) (Zc (Ze 2) Zg)
    ·exact Zc (Zmr (C:=C_Teller) (c:=[84,101,108,108,101,114]) (m:=[115,116,97,116,101,95,97,116]) (k:=2) (ps:=["self","time"]) O_Teller.ok M_Teller_state_at (hr.mono (by decide)) (Ze 1) (Zc (Ze 2) Zg)) Zg
theorem Zhn:Zar ["both"] ["both"] (Zh Zb1):=⟨rfl,rfl,rfl,by decide +kernel,rfl,by decide +kernel,by decide +kernel⟩
theorem Zhs (A:ZaH K mg "are_unlike" Zb1 ["both"]) (T:Txt K mg):Fn3 P w K mg base 1 "are_unlike" ["both"] Zby:=
  Fn3.of (N:=["both"]) (k:=0) A Zhn fun f cdv A outer s H E hr=>by
    have hu:=ZcW hr
    unfold Zfr
    exact Zn (Zap (Zec ((Zgh hu)) (Zas Zat (Ze 0) Zi) (Zas Zat (Ze 0) Zi)))
theorem ZeN:Zar ["roll","state","both","right"] ["roll","state","both"] (Zh ZbV):=⟨rfl,rfl,rfl,by decide +kernel,rfl,by decide +kernel,by decide +kernel⟩
theorem Zhq (A:ZaH K mg "wrong_ones" ZbV ["roll","state","both"]) (T:Txt K mg) (F_next_state:Fn3 P w K mg base 3 "next_state" ["roll","state"] Zc6):Fn3 P w K mg base 4 "wrong_ones" ["roll","state","both"] Zc1:=
  Fn3.of (N:=["roll","state","both","right"]) (k:=3) A ZeN fun f cdv A outer s H E hr=>by
    have hu:=ZcW hr
    unfold Zfh
    refine Zk ?_ ?_
    ·exact Zak 3 ZeN.nd (ZaG (k:=3) (ps:=["roll","state"]) F_next_state (hr.mono (by decide)) (Zc (Ze 0) (Zc (Ze 1) Zg)))
    ·refine Zn ?_
     refine Zap ?_
     refine ZbA ?_
     refine Zc ?_ ?_
     ·exact Zec ((ZpZ hu)) (Zas Zat (Ze 2) Zi) (Ze 3)
     ·exact Zc (Zec ((ZpZ hu)) (Zas Zat (Ze 2) Zi) (Ze 3)) Zg
theorem Zbd:Zar ["roll","one","other","low","first","high","last","alike","unlike","middle","both"] ["roll","one","other"] (Zh ZdL):=⟨rfl,rfl,rfl,by decide +kernel,rfl,by decide +kernel,by decide +kernel⟩
theorem ZlQ (A:ZaH K mg "judged" ZdL ["roll","one","other"]) (T:Txt K mg) {C_Teller:Addr} (O_Teller:Zcl K mg C_Teller) {C_LedgerError C_BadCut C_BadGiven C_BadRow C_NoDispute C_NoRoll C_NoTime C_Spent C_Unfit:Addr} (XO:ExT K mg C_LedgerError C_BadCut C_BadGiven C_BadRow C_NoDispute C_NoRoll C_NoTime C_Spent C_Unfit) (M_Teller_many:ZfP P w K mg base 1 C_Teller "many" ["self"] ZaC) (F_both_at:Fn3 P w K mg base 3 "both_at" ["one","other","time"] Zbh) (F_are_unlike:Fn3 P w K mg base 1 "are_unlike" ["both"] Zby) (F_wrong_ones:Fn3 P w K mg base 4 "wrong_ones" ["roll","state","both"] Zc1):FnX P w K mg base 5 "judged" ["roll","one","other"] Zbt:=
  FnX.of (N:=["roll","one","other","low","first","high","last","alike","unlike","middle","both"]) (k:=4) A Zbd fun f cdv A outer s H E hr=>by
    have hu:=ZcW hr
    unfold ZjJ
    refine ZbE ?_ ?_
    ·refine ZkH ?_ ?_ ?_
     ·refine CW.ct ?_
      refine ZjS ?_ ?_
      ·exact Zao ((Zgh hu)) (Zd6 (C:=C_Teller) (c:=[84,101,108,108,101,114]) (m:=[109,97,110,121]) (k:=1) (ps:=["self"]) O_Teller.ok M_Teller_many (hr.mono (by decide)) (Ze 1)) (Zd6 (C:=C_Teller) (c:=[84,101,108,108,101,114]) (m:=[109,97,110,121]) (k:=1) (ps:=["self"]) O_Teller.ok M_Teller_many (hr.mono (by decide)) (Ze 2))
      ·exact Zg3 (Zao Zn0 (Zd6 (C:=C_Teller) (c:=[84,101,108,108,101,114]) (m:=[109,97,110,121]) (k:=1) (ps:=["self"]) O_Teller.ok M_Teller_many (hr.mono (by decide)) (Ze 1)) Zi)
     ·exact Zex (ZfY (C:=C_NoDispute) XO.r_NoDispute XO.mg_NoDispute (Zc Za3 Zg))
     ·exact ZiK Zav
    ·refine ZbE ?_ ?_
     ·exact Zel (Zak 3 Zbd.nd Zi)
     ·refine ZbE ?_ ?_
      ·refine Zel ?_
       exact Zak 4 Zbd.nd (ZaG (k:=3) (ps:=["one","other","time"]) F_both_at (hr.mono (by decide)) (Zc (Ze 1) (Zc (Ze 2) (Zc (Ze 3) Zg))))
      ·refine ZbE ?_ ?_
       ·refine ZkH ?_ ?_ ?_
        ·exact Zdb (ZaG (k:=1) (ps:=["both"]) F_are_unlike (hr.mono (by decide)) (Zc (Ze 4) Zg))
        ·exact Zex (ZfY (C:=C_NoDispute) XO.r_NoDispute XO.mg_NoDispute (Zc Za3 Zg))
        ·exact ZiK Zav
       ·refine ZbE ?_ ?_
        ·exact Zel (Zak 5 Zbd.nd (Zx Zft (Zd6 (C:=C_Teller) (c:=[84,101,108,108,101,114]) (m:=[109,97,110,121]) (k:=1) (ps:=["self"]) O_Teller.ok M_Teller_many (hr.mono (by decide)) (Ze 1)) Zi))
        ·refine ZbE ?_ ?_
         ·refine Zel ?_
          exact Zak 6 Zbd.nd (ZaG (k:=3) (ps:=["one","other","time"]) F_both_at (hr.mono (by decide)) (Zc (Ze 1) (Zc (Ze 2) (Zc (Ze 5) Zg))))
         ·refine ZbE ?_ ?_
          ·refine ZkH ?_ ?_ ?_
           ·exact ZgJ (Zdb (ZaG (k:=1) (ps:=["both"]) F_are_unlike (hr.mono (by decide)) (Zc (Ze 6) Zg)))
           ·exact Zex (ZfY (C:=C_NoDispute) XO.r_NoDispute XO.mg_NoDispute (Zc Za3 Zg))
           ·exact ZiK Zav
          ·refine ZbE ?_ ?_
           ·exact Zel (Zak 7 Zbd.nd (Zas Zat (Ze 4) Zi))
           ·refine ZbE ?_ ?_
            ·exact Zel (Zak 8 Zbd.nd (Ze 6))
            ·refine ZbE ?_ ?_
             ·refine Zel ?_
              refine ZnF ?_ ?_ ?_
              ·exact rfl
              ·exact Zao ((Zgh hu)) (Ze 5) (Zx Zb4 (Ze 3) Zi)
              ·refine Zk ?_ ?_
               ·exact Zak 9 Zbd.nd (Zx Za9 (Zx Zb4 (Ze 3) (Ze 5)) Zi)
               ·refine Zk ?_ ?_
                ·exact Zak 10 Zbd.nd (ZaG (k:=3) (ps:=["one","other","time"]) F_both_at (hr.mono (by decide)) (Zc (Ze 1) (Zc (Ze 2) (Zc (Ze 9) Zg))))
                ·refine Zn ?_
                 refine ZaW ?_ ?_ ?_
                 ·exact Zdb (ZaG (k:=1) (ps:=["both"]) F_are_unlike (hr.mono (by decide)) (Zc (Ze 10) Zg))
                 ·exact Zk (Zak 5 Zbd.nd (Ze 9)) (Zn (Zak 8 Zbd.nd (Ze 10)))
                 ·exact Zk (Zak 3 Zbd.nd (Ze 9)) (Zn (Zak 7 Zbd.nd (Zas Zat (Ze 10) Zi)))
             ·refine Zex ?_
              refine Zel ?_
              refine Zap ?_
              refine ZbA ?_
              refine Zc ?_ ?_
              ·exact Ze 3
              ·exact Zc (ZaG (k:=4) (ps:=["roll","state","both"]) F_wrong_ones (hr.mono (by decide)) (Zc (Ze 0) (Zc (Ze 7) (Zc (Ze 8) Zg)))) Zg
theorem ZdS:Zar ["deck","cells","at"] ["deck"] (Zh Zcu):=⟨rfl,rfl,rfl,by decide +kernel,rfl,by decide +kernel,by decide +kernel⟩
theorem Zig (A:ZaH K mg "_law_next" Zcu ["deck"]) (T:Txt K mg):Fn3 P w K mg base 1 "_law_next" ["deck"] ZaP:=
  Fn3.of (N:=["deck","cells","at"]) (k:=0) A ZdS fun f cdv A outer s H E hr=>by
    have hu:=ZcW hr
    unfold Zcm
    refine Zk ?_ ?_
    ·exact Zak 1 ZdS.nd (Zas Zat (Ze 0) Zi)
    ·refine Zk ?_ ?_
     ·exact Zak 2 ZdS.nd (Zas Zat (Ze 0) Zi)
     ·refine Zk ?_ ?_
      ·exact Zgs (Ze 0) Zi (Zx Zb4 (Ze 2) Zi)
      ·refine Zk ?_ ?_
       ·refine ZaW ?_ ?_ ?_
        ·exact Zao Zn0 (Ze 2) (Zbu (id:="len") ZbB T.m_len Za6 (Zc (Ze 1) Zg))
        ·exact Zn (Zap (Zas Zat (Ze 1) (Ze 2)))
        ·exact Zav
       ·refine Zk ?_ ?_
        ·refine ZaW ?_ ?_ ?_
         ·exact Zao ((ZcA hu)) (Zbu (id:="len") ZbB T.m_len Za6 (Zc (Ze 1) Zg)) Zi
         ·exact Zn (Zap (Zx Zb4 (Zx Zm1 (Zx Zm1 (Ze 2) (Ze 2)) Zi) (Ze 2)))
         ·exact Zav
        ·refine Zn ?_
         refine Zap ?_
         refine Zx ?_ ?_ ?_
         ·exact Zb4
         ·refine Zx ?_ ?_ ?_
          ·exact Za9
          ·refine Zas ?_ ?_ ?_
           ·exact Zat
           ·exact Ze 1
           ·exact Zx Zbe (Ze 2) (Zbu (id:="len") ZbB T.m_len Za6 (Zc (Ze 1) Zg))
          ·exact Zi
         ·exact Zx Zm1 (Ze 2) (Ze 2)
theorem ZfF:Zar ["found","due"] ["found","due"] (Zh Zcn):=⟨rfl,rfl,rfl,by decide +kernel,rfl,by decide +kernel,by decide +kernel⟩
theorem Zil (A:ZaH K mg "_law_same" Zcn ["found","due"]) (T:Txt K mg):Fn3 P w K mg base 8 "_law_same" ["found","due"] Zbk:=by
  have all:∀ n:Nat,Fn3 P w K mg base (n + 1) "_law_same" ["found","due"] (ZaB n):=by
    intro n
    induction n with
    | zero=>exact Fn3.of (N:=["found","due"]) (k:=0) A ZfF fun f cdv A outer s H E hr=>ZoY
    | succ n IH=>
      refine (Fn3.of (N:=["found","due"]) (k:=n + 1) A ZfF fun f cdv A outer s H E hr=>?_).mono (by omega)
      have hu:=ZcW hr
      unfold ZaU
      refine Zk ?_ ?_
      ·refine ZaW ?_ ?_ ?_
       ·exact Zdb (Zlc .tuple .list T.m_isinstance T.m_tuple T.m_list (Ze 1))
       ·refine Zk ?_ ?_
        ·refine ZaW ?_ ?_ ?_
         ·refine CW.ct ?_
          refine ZjS ?_ ?_
          ·exact Zao ((Zgh hu)) (Zd1 .tuple T.m_isinstance T.m_tuple (Ze 0)) (Zd1 .tuple T.m_isinstance T.m_tuple (Ze 1))
          ·exact Zg3 (ZgJ (Zdb (Zlc .tuple .list T.m_isinstance T.m_tuple T.m_list (Ze 0))))
         ·exact Zn (Zap ZmA)
         ·exact Zav
        ·refine Zn ?_
         refine Zap ?_
         refine ZeW ?_ ?_
         ·refine Zec ?_ ?_ ?_
          ·exact (ZcA hu)
          ·exact Zbu (id:="len") ZbB T.m_len Za6 (Zc (Ze 0) Zg)
          ·exact Zbu (id:="len") ZbB T.m_len Za6 (Zc (Ze 1) Zg)
         ·refine Zfp ?_
          refine Zbu (id:="all") ?_ ?_ ?_ ?_
          ·exact (Zs1 rfl)
          ·exact T.m_all
          ·exact ZrL
          ·refine Zc ?_ ?_
           ·refine ZtQ (N':=["found","due","k"]) ?_ ?_ ?_ ?_ (fun C cl s H ex=>⟨?_,?_,?_⟩)
            ·exact ZeF rfl (by kernel_rfl)
            ·exact rfl
            ·exact rfl
            ·exact ZfQ T.m_range (Zbu (id:="len") ZbB T.m_len Za6 (Zc (Ze 1) Zg))
            ·exact ZeG 2 ((show List.Nodup (["found","due","k"]:List Str) by decide +kernel))
            ·exact Zlf
            ·refine ZaG (k:=n + 1) (ps:=["found","due"]) ?_ ?_ ?_
             ·exact IH
             ·exact hr
             ·exact Zc (Zas Zat (Ze 0) (Ze 2)) (Zc (Zas Zat (Ze 1) (Ze 2)) Zg)
           ·exact Zg
       ·exact Zav
      ·refine Zk ?_ ?_
       ·refine ZaW ?_ ?_ ?_
        ·exact Zdb (Zd1 .str T.m_isinstance T.m_str (Ze 1))
        ·exact Zn (Zap (ZeW (Zd1 .str T.m_isinstance T.m_str (Ze 0)) (Zfp (Zec ((ZcA hu)) (Ze 0) (Ze 1)))))
        ·exact Zav
       ·refine Zk ?_ ?_
        ·refine ZaW ?_ ?_ ?_
         ·exact Zdb (Zd1 .bool T.m_isinstance T.m_bool (Ze 1))
         ·exact Zn (Zap (ZeW (Zd1 .bool T.m_isinstance T.m_bool (Ze 0)) (Zfp (Zec ((ZcA hu)) (Ze 0) (Ze 1)))))
         ·exact Zav
        ·refine Zn ?_
         refine Zap ?_
         refine ZeW ?_ ?_
         ·exact Zd1 .int T.m_isinstance T.m_int (Ze 0)
         ·exact ZeW (Ztd (Zd1 .bool T.m_isinstance T.m_bool (Ze 0))) (Zfp (Zec ((ZcA hu)) (Ze 0) (Ze 1)))
  exact all 7
theorem ZaD:Zar ["cells","roll","k","cell","word","more","a","b","c","goal","last"] ["cells"] (Zh Zcs):=⟨rfl,rfl,rfl,by decide +kernel,rfl,by decide +kernel,by decide +kernel⟩
theorem ZiR (A:ZaH K mg "_law_roll" Zcs ["cells"]) (T:Txt K mg):Fn3 P w K mg base 1 "_law_roll" ["cells"] Zdt:=
  Fn3.of (N:=["cells","roll","k","cell","word","more","a","b","c","goal","last"]) (k:=0) A ZaD fun f cdv A outer s H E hr=>by
    have hu:=ZcW hr
    unfold Zew
    refine Zk ?_ ?_
    ·exact Zak 1 ZaD.nd (ZbQ Zg)
    ·refine Zk ?_ ?_
     ·refine Zpi ?_ ?_ ?_ ?_ ?_
      ·exact rfl
      ·exact rfl
      ·exact Zpe T.m_enumerate (Ze 0)
      ·exact Zmp rfl (Zdk 2 ZaD.nd (Zdk 3 ZaD.nd ZiG))
      ·refine Zk ?_ ?_
       ·refine Zak 4 ?_ ?_
        ·exact ZaD.nd
        ·refine Zas ?_ ?_ ?_
         ·exact Zat
         ·refine ZbQ ?_
          refine Zc ?_ ?_
          ·exact Za3
          ·refine Zc ?_ ?_
           ·exact Za3
           ·refine Zc ?_ ?_
            ·exact Za3
            ·refine Zc ?_ ?_
             ·exact Za3
             ·refine Zc ?_ ?_
              ·exact Za3
              ·exact Zc Za3 (Zc Za3 (Zc Za3 (Zc Za3 (Zc Za3 Zg))))
         ·exact Zx Zbe (Ze 3) Zi
       ·refine Zk ?_ ?_
        ·exact Zak 5 ZaD.nd (Zx Za9 (Ze 3) Zi)
        ·refine Zk ?_ ?_
         ·exact Zak 6 ZaD.nd (Zx Zbe (Ze 5) Zi)
         ·refine Zk ?_ ?_
          ·exact Zak 7 ZaD.nd (Zx Zbe (Zx Za9 (Ze 5) Zi) Zi)
          ·refine Zk ?_ ?_
           ·exact Zak 8 ZaD.nd (Zx Zbe (Zx Za9 (Ze 5) Zi) Zi)
           ·refine Zk ?_ ?_
            ·refine Zak 9 ?_ ?_
             ·exact ZaD.nd
             ·refine Zx ?_ ?_ ?_
              ·exact Zb4
              ·exact Zx Zb4 (Ze 2) Zi
              ·refine Zx ?_ ?_ ?_
               ·exact Zbe
               ·exact Zx Za9 (Ze 5) Zi
               ·exact Zx Zft (Zbu (id:="len") ZbB T.m_len Za6 (Zc (Ze 0) Zg)) (Ze 2)
            ·refine Zk ?_ ?_
             ·refine ZaW ?_ ?_ ?_
              ·exact Zao ((ZcA hu)) (Zx Zbe (Zx Za9 (Ze 5) Zi) Zi) Zi
              ·refine Zn ?_
               refine Zak 9 ?_ ?_
               ·exact ZaD.nd
               ·refine Zx ?_ ?_ ?_
                ·exact Zbe
                ·exact Zx Za9 (Ze 5) Zi
                ·exact Zx Zb4 (Zbu (id:="len") ZbB T.m_len Za6 (Zc (Ze 0) Zg)) Zi
              ·exact Zav
             ·refine Zn ?_
              refine ZaW ?_ ?_ ?_
              ·exact Zao ((ZcA hu)) (Ze 4) Za3
              ·refine Zn ?_
               refine Zdq ?_
               refine Zbj ?_ ?_
               ·exact Ze 1
               ·refine Zc ?_ ?_
                ·refine ZbA ?_
                 refine Zc ?_ ?_
                 ·exact Ze 4
                 ·refine Zc ?_ ?_
                  ·exact Ze 6
                  ·refine Zc ?_ ?_
                   ·refine Zas ?_ ?_ ?_
                    ·exact Zat
                    ·refine ZbQ ?_
                     refine Zc ?_ ?_
                     ·exact Zx Zbe (Zx Za9 (Ze 5) Zi) Zi
                     ·refine Zc ?_ ?_
                      ·refine Zx ?_ ?_ ?_
                       ·exact Zft
                       ·exact Zi
                       ·exact Zx Zbe (Zx Za9 (Ze 5) Zi) (Zx Znr Zi Zi)
                      ·exact Zc (Zx Zbe (Zx Za9 (Ze 5) Zi) (Zx Znr Zi Zi)) Zg
                    ·exact Zx Zbe (Ze 7) Zi
                   ·exact Zg
                ·exact Zg
              ·refine Zn ?_
               refine ZaW ?_ ?_ ?_
               ·exact Zao ZpO (Ze 4) (ZbQ (Zc Za3 (Zc Za3 (Zc Za3 Zg))))
               ·refine Zn ?_
                refine Zdq ?_
                refine Zbj ?_ ?_
                ·exact Ze 1
                ·exact Zc (ZbA (Zc (Ze 4) (Zc (Ze 6) (Zc (Ze 7) (Zc (Ze 8) Zg))))) Zg
               ·refine Zn ?_
                refine ZaW ?_ ?_ ?_
                ·exact Zao ZpO (Ze 4) (ZbQ (Zc Za3 (Zc Za3 Zg)))
                ·refine Zn ?_
                 refine Zdq ?_
                 exact Zbj (Ze 1) (Zc (ZbA (Zc (Ze 4) (Zc (Ze 6) (Zc (Ze 7) Zg)))) Zg)
                ·refine Zn ?_
                 refine ZaW ?_ ?_ ?_
                 ·exact Zao ((ZcA hu)) (Ze 4) Za3
                 ·refine Zn ?_
                  refine Zdq ?_
                  exact Zbj (Ze 1) (Zc (ZbA (Zc (Ze 4) (Zc (Ze 6) (Zc (Ze 9) Zg)))) Zg)
                 ·refine Zn ?_
                  refine ZaW ?_ ?_ ?_
                  ·exact Zao ((ZcA hu)) (Ze 4) Za3
                  ·exact Zn (Zdq (Zbj (Ze 1) (Zc (ZbA (Zc (Ze 4) (Zc (Ze 9) Zg))) Zg)))
                  ·exact Zn (Zdq (Zbj (Ze 1) (Zc (ZbA (Zc (Ze 4) (Zc (Ze 6) Zg))) Zg)))
     ·refine Zk ?_ ?_
      ·exact Zak 10 ZaD.nd (ZbA (Zc Za3 Zg))
      ·refine Zk ?_ ?_
       ·refine ZaW ?_ ?_ ?_
        ·refine CW.ct ?_
         refine Ze7 ?_ ?_
         ·exact Zao ZkE (Zbu (id:="len") ZbB T.m_len Za6 (Zc (Ze 0) Zg)) Zi
         ·refine Zd3 ?_
          exact Zao ((ZcA hu)) (Zx Zbe (Zas Zat (Ze 0) (ZjU Zgf Zi)) Zi) Zi
        ·refine Zn ?_
         refine Zak 10 ?_ ?_
         ·exact ZaD.nd
         ·refine ZbA ?_
          refine Zc ?_ ?_
          ·exact Za3
          ·refine Zc ?_ ?_
           ·refine Zx ?_ ?_ ?_
            ·exact Zbe
            ·exact Zx Za9 (Zas Zat (Ze 0) (ZjU Zgf Zi)) Zi
            ·exact Zx Zb4 (Zbu (id:="len") ZbB T.m_len Za6 (Zc (Ze 0) Zg)) Zi
           ·exact Zg
        ·exact Zav
       ·refine Zn ?_
        refine Zap ?_
        refine ZgZ (T:="tuple") ?_ ?_ ?_ ?_
        ·exact Zgu
        ·exact T.m_tuple
        ·exact Zfo
        ·exact Zc (Zx Zb4 (Ze 1) (ZbQ (Zc (Ze 10) Zg))) Zg
theorem Zcc:Zar ["deck","roll","cell","boxes","cells"] ["deck","roll"] (Zh ZbT):=⟨rfl,rfl,rfl,by decide +kernel,rfl,by decide +kernel,by decide +kernel⟩
theorem Zhh (A:ZaH K mg "_law_state" ZbT ["deck","roll"]) (T:Txt K mg) (F__law_next:Fn3 P w K mg base 1 "_law_next" ["deck"] ZaP):Fn3 P w K mg base 2 "_law_state" ["deck","roll"] Za8:=
  Fn3.of (N:=["deck","roll","cell","boxes","cells"]) (k:=1) A Zcc fun f cdv A outer s H E hr=>by
    have hu:=ZcW hr
    unfold Zfi
    refine Zk ?_ ?_
    ·exact Zak 2 Zcc.nd (ZaG (k:=1) (ps:=["deck"]) F__law_next (hr.mono (by decide)) (Zc (Ze 0) Zg))
    ·refine Zk ?_ ?_
     ·refine Zak 3 ?_ ?_
      ·exact Zcc.nd
      ·refine ZbQ ?_
       refine Zc ?_ ?_
       ·exact Zi
       ·refine Zc ?_ ?_
        ·exact Zi
        ·refine Zc ?_ ?_
         ·exact Zi
         ·exact Zc Zi (Zc Zi (Zc Zi (Zc Zi (Zc Zi Zg))))
     ·refine Zk ?_ ?_
      ·refine Zgs ?_ ?_ ?_
       ·exact Ze 3
       ·exact Zx Zbe (Ze 2) Zi
       ·refine Zx ?_ ?_ ?_
        ·exact Zft
        ·exact Zx Zbe (Zx Za9 (Ze 2) Zi) (Zx Znr Zi Zi)
        ·exact Zx Zbe (Zx Za9 (Ze 2) Zi) Zi
      ·refine Zk ?_ ?_
       ·exact Zak 4 Zcc.nd (ZbA Zg)
       ·refine Zk ?_ ?_
        ·refine ZaW ?_ ?_ ?_
         ·exact Zao ((ZcA hu)) (Zx Zbe (Ze 2) Zi) Zi
         ·refine Zn ?_
          refine Zak 4 ?_ ?_
          ·exact Zcc.nd
          ·refine ZbA ?_
           refine Zc ?_ ?_
           ·exact ZbA (Zc (Zx Zbe (Zx Za9 (Ze 2) Zi) Zi) (Zc Zi Zg))
           ·exact Zg
         ·exact Zav
        ·refine Zn ?_
         refine Zap ?_
         refine ZbA ?_
         refine Zc ?_ ?_
         ·refine Zx ?_ ?_ ?_
          ·exact Zbe
          ·exact Zx Za9 (Ze 2) Zi
          ·exact Zbu (id:="len") ZbB T.m_len Za6 (Zc (Ze 1) Zg)
         ·exact Zc (ZgZ (T:="tuple") Zgu T.m_tuple Zfo (Zc (Ze 3) Zg)) (Zc (Ze 4) Zg)
theorem Zcz:Zar ["state","roll","cell","place","boxes","cells"] ["state","roll","cell"] (Zh ZbC):=⟨rfl,rfl,rfl,by decide +kernel,rfl,by decide +kernel,by decide +kernel⟩
theorem Zha (A:ZaH K mg "_law_unlike" ZbC ["state","roll","cell"]) (T:Txt K mg):Fn3 P w K mg base 1 "_law_unlike" ["state","roll","cell"] ZaZ:=
  Fn3.of (N:=["state","roll","cell","place","boxes","cells"]) (k:=0) A Zcz fun f cdv A outer s H E hr=>by
    have hu:=ZcW hr
    unfold ZdA
    refine Zk ?_ ?_
    ·exact ZqM (Ze 0) (Zmp rfl (Zdk 3 Zcz.nd (Zdk 4 Zcz.nd (Zdk 5 Zcz.nd ZiG))))
    ·refine Zk ?_ ?_
     ·refine ZaW ?_ ?_ ?_
      ·refine CW.ct ?_
       refine Ze7 ?_ ?_
       ·exact Zao ((ZcA hu)) (Zx Zbe (Ze 2) Zi) Zi
       ·exact Zd3 (Zao ZkE (Zbu (id:="len") ZbB T.m_len Za6 (Zc (Ze 1) Zg)) Zi)
      ·refine Zn ?_
       refine Zap ?_
       refine ZbA ?_
       refine Zc ?_ ?_
       ·refine Zx ?_ ?_ ?_
        ·exact Zbe
        ·exact Zx Zb4 (Ze 3) Zi
        ·exact Zbu (id:="len") ZbB T.m_len Za6 (Zc (Ze 1) Zg)
       ·exact Zc (Ze 4) (Zc (Ze 5) Zg)
      ·exact Zav
     ·refine Zk ?_ ?_
      ·refine ZaW ?_ ?_ ?_
       ·exact Zao ((ZcA hu)) (Zx Zbe (Ze 2) Zi) Zi
       ·refine Zn ?_
        refine Zap ?_
        refine ZbA ?_
        refine Zc ?_ ?_
        ·exact Ze 3
        ·refine Zc ?_ ?_
         ·exact Ze 4
         ·refine Zc ?_ ?_
          ·refine Zx ?_ ?_ ?_
           ·exact Zb4
           ·exact Ze 5
           ·refine ZbA ?_
            refine Zc ?_ ?_
            ·refine ZbA ?_
             refine Zc ?_ ?_
             ·exact Zi
             ·refine Zc ?_ ?_
              ·exact Zx Zft (ZjU Zgf Zi) (Zx Zbe (Zx Za9 (Ze 2) Zi) Zi)
              ·exact Zg
            ·exact Zg
          ·exact Zg
       ·exact Zav
      ·refine Zn ?_
       refine Zap ?_
       refine ZbA ?_
       refine Zc ?_ ?_
       ·exact Ze 3
       ·refine Zc ?_ ?_
        ·refine Zx ?_ ?_ ?_
         ·exact Zb4
         ·exact Zj1 Zkb (Ze 4) ZdZ (ZdW Zi)
         ·exact ZbA (Zc (Zx Zb4 (Zas Zat (Ze 4) Zi) Zi) Zg)
        ·exact Zc (Ze 5) Zg
theorem Zbo:Zar ["roll","tellers","caught","found","e","refused"] ["roll","tellers"] (Zh ZbZ):=⟨rfl,rfl,rfl,by decide +kernel,rfl,by decide +kernel,by decide +kernel⟩
theorem Zhv (A:ZaH K mg "_law_asked" ZbZ ["roll","tellers"]) (T:Txt K mg) {C_LedgerError C_BadCut C_BadGiven C_BadRow C_NoDispute C_NoRoll C_NoTime C_Spent C_Unfit:Addr} (XO:ExT K mg C_LedgerError C_BadCut C_BadGiven C_BadRow C_NoDispute C_NoRoll C_NoTime C_Spent C_Unfit) (E_judged:FnX P w K mg base 5 "judged" ["roll","one","other"] Zbt):Fn3 P w K mg base 6 "_law_asked" ["roll","tellers"] ZaJ:=
  Fn3.of (N:=["roll","tellers","caught","found","e","refused"]) (k:=5) A Zbo fun f cdv A outer s H E hr=>by
    have hu:=ZcW hr
    unfold Zfu
    refine Zk ?_ ?_
    ·exact Zak 2 Zbo.nd Zn4
    ·refine Zk ?_ ?_
     ·exact Zak 3 Zbo.nd Zn4
     ·refine Zk ?_ ?_
      ·refine ZqT (cs:=[[78,111,68,105,115,112,117,116,101]]) (CE:=C_LedgerError) 4 ?_ ?_ ?_ (fun pn' E'=>?_) (fun A' E'=>?_)
       ·exact Zbo.nd
       ·exact XO.mg_LedgerError
       ·exact XO.t_LedgerError
       ·refine Zex ?_
        refine ZoE 3 ?_ ?_
        ·exact Zbo.nd
        ·refine ZoP (k:=5) (ps:=["roll","one","other"]) ?_ ?_ ?_
         ·exact E_judged
         ·exact hr.mono (by decide)
         ·refine Zc ?_ ?_
          ·exact Ze 0
          ·exact Zc (Zas Zat (Ze 1) Zi) (Zc (Zas Zat (Ze 1) Zi) Zg)
       ·exact Zn (Zak 2 Zbo.nd (Ze 4))
      ·refine Zk ?_ ?_
       ·refine ZaW ?_ ?_ ?_
        ·exact Zdb (Zm5 (cs:=[C_BadCut,C_BadGiven,C_BadRow,C_NoRoll,C_NoTime,C_Spent,C_Unfit]) T.m_isinstance XO.i_BadCut_BadGiven_BadRow_NoRoll_NoTime_Spent_Unfit (Ze 2) ((ZdY XO.mg_BadCut (ZdY XO.mg_BadGiven (ZdY XO.mg_BadRow (ZdY XO.mg_NoRoll (ZdY XO.mg_NoTime (ZdY XO.mg_Spent (ZdY XO.mg_Unfit Zq5)))))))))
        ·exact Zn (Zap (ZbQ (Zc ZmA (Zc ZmA Zg))))
        ·exact Zav
       ·refine Zk ?_ ?_
        ·refine Zak 5 ?_ ?_
         ·exact Zbo.nd
         ·refine ZeW ?_ ?_
          ·exact Zn5 (C:=C_NoDispute) T.m_isinstance XO.mg_NoDispute XO.i_NoDispute (Ze 2)
          ·exact Zfp (ZmT (T:="ValueError") T.m_isinstance T.m_ValueError Zgj XO.i_ValueError (Ze 2))
        ·refine Zn ?_
         refine Zap ?_
         refine ZbQ ?_
         refine Zc ?_ ?_
         ·exact Ze 5
         ·refine Zc ?_ ?_
          ·refine ZeW ?_ ?_
           ·exact Zd1 .tuple T.m_isinstance T.m_tuple (Ze 3)
           ·exact Zfp (Zec ((ZcA hu)) (Zbu (id:="len") ZbB T.m_len Za6 (Zc (Ze 3) Zg)) Zi)
          ·exact Zg
theorem Zi8:Zar ["ones","others"] ["ones","others"] (Zh ZcJ):=⟨rfl,rfl,rfl,by decide +kernel,rfl,by decide +kernel,by decide +kernel⟩
theorem Zjj (A:ZaH K mg "_law_due" ZcJ ["ones","others"]) (T:Txt K mg):Fn3 P w K mg base 1 "_law_due" ["ones","others"] Zdl:=
  Fn3.of (N:=["ones","others"]) (k:=0) A Zi8 fun f cdv A outer s H E hr=>by
    have hu:=ZcW hr
    unfold Zg2
    refine Zk ?_ ?_
    ·refine ZaW ?_ ?_ ?_
     ·refine CW.ct ?_
      refine ZjS ?_ ?_
      ·refine Zao ?_ ?_ ?_
       ·exact (Zgh hu)
       ·exact Zbu (id:="len") ZbB T.m_len Za6 (Zc (Ze 0) Zg)
       ·exact Zbu (id:="len") ZbB T.m_len Za6 (Zc (Ze 1) Zg)
      ·exact Zg3 (Zao Zn0 (Zbu (id:="len") ZbB T.m_len Za6 (Zc (Ze 0) Zg)) Zi)
     ·exact Zn (Zap (ZbQ Zg))
     ·exact Zav
    ·refine Zk ?_ ?_
     ·refine ZaW ?_ ?_ ?_
      ·exact Zao ((Zgh hu)) (Zas Zat (Ze 0) Zi) (Zas Zat (Ze 1) Zi)
      ·exact Zn (Zap (ZbQ (Zc Zi Zg)))
      ·exact Zav
     ·refine Zn ?_
      refine Zap ?_
      refine ZbQ ?_
      refine Zc ?_ ?_
      ·exact Zi
      ·exact Zc (Zx Zft (Zbu (id:="len") ZbB T.m_len Za6 (Zc (Ze 0) Zg)) Zi) Zg
theorem Ze8:Zar ["self","states"] ["self","states"] (Zh Za2):=⟨rfl,rfl,rfl,by decide +kernel,rfl,by decide +kernel,by decide +kernel⟩
theorem Ze9 {C_Teller:Addr} (O_Teller:Zcl K mg C_Teller) (A:Zot K C_Teller "Teller.__init__" Za2 ["self","states"]) (T:Txt K mg):Mk3 P w K mg base 1 C_Teller ["self","states"] Zaa:=
  Mk3.of (N:=["self","states"]) (k:=0) A Ze8 fun f cdv A outer s H E hr=>by
    have hu:=ZcW hr
    unfold Zdw
    refine Zk ?_ ?_
    ·exact Zng (C:=C_Teller) (c:=[84,101,108,108,101,114]) (m:=[115,116,97,116,101,115]) O_Teller.ok O_Teller.n_states (Ze 0) (ZgZ (T:="tuple") Zgu T.m_tuple Zfo (Zc (Ze 1) Zg))
    ·exact Zn (Zng (C:=C_Teller) (c:=[84,101,108,108,101,114]) (m:=[97,115,107,101,100]) O_Teller.ok O_Teller.n_asked (Ze 0) (ZbQ Zg))
theorem Zej:Zar ["self"] ["self"] (Zh ZaO):=⟨rfl,rfl,rfl,by decide +kernel,rfl,by decide +kernel,by decide +kernel⟩
theorem Zeg {C_Teller:Addr} (O_Teller:Zcl K mg C_Teller) (A:Zge K C_Teller "times_asked" "Teller.times_asked" ZaO ["self"]) (T:Txt K mg):ZfP P w K mg base 1 C_Teller "times_asked" ["self"] Zu:=
  ZfP.of (N:=["self"]) (k:=0) A Zej fun f cdv A outer s H E hr=>by
    have hu:=ZcW hr
    unfold ZcQ
    exact Zn (Zap (ZgZ (T:="list") ZnB T.m_list Zk5 (Zc (ZjE (C:=C_Teller) (c:=[84,101,108,108,101,114]) (m:=[97,115,107,101,100]) O_Teller.ok O_Teller.n_asked (Ze 0)) Zg)))
theorem ZbP:Zar ["script","deck","cell","roll","ones","way","others","tellers","due","good","refused","told_two","teller","itself"] ["script"] (Zh Zfe):=⟨rfl,rfl,rfl,by decide +kernel,rfl,by decide +kernel,by decide +kernel⟩
theorem Zqy {f:Addr} {fd:FuncData} (F:Fun K "law" "law" Zfe f fd) (T:Txt K mg) {C_Teller:Addr} (O_Teller:Zcl K mg C_Teller) (M_Teller___init__:Mk3 P w K mg base 1 C_Teller ["self","states"] Zaa) (M_Teller_times_asked:ZfP P w K mg base 1 C_Teller "times_asked" ["self"] Zu) (F__law_next:Fn3 P w K mg base 1 "_law_next" ["deck"] ZaP) (F__law_same:Fn3 P w K mg base 8 "_law_same" ["found","due"] Zbk) (F__law_roll:Fn3 P w K mg base 1 "_law_roll" ["cells"] Zdt) (F__law_state:Fn3 P w K mg base 2 "_law_state" ["deck","roll"] Za8) (F__law_unlike:Fn3 P w K mg base 1 "_law_unlike" ["state","roll","cell"] ZaZ) (F__law_asked:Fn3 P w K mg base 6 "_law_asked" ["roll","tellers"] ZaJ) (F__law_due:Fn3 P w K mg base 1 "_law_due" ["ones","others"] Zdl):ZcD P w K mg base CX0 9 f fd ["script"] (sp3 K 1 Zli):=
  fn3 (N:=["script","deck","cell","roll","ones","way","others","tellers","due","good","refused","told_two","teller","itself"]) (k:=8) F ZbP fun cdv A outer s H E hr=>by
    have hu:=ZcW hr
    unfold ZmY
    refine Zk ?_ ?_
    ·refine Zak 1 ?_ ?_
     ·exact ZbP.nd
     ·exact ZbQ (Zc (Zj1 Zkb (Ze 0) ZdZ (ZdW Zi)) (Zc Zi Zg))
    ·refine Zk ?_ ?_
     ·exact Zak 2 ZbP.nd (ZaG (k:=1) (ps:=["deck"]) F__law_next (hr.mono (by decide)) (Zc (Ze 1) Zg))
     ·refine Zk ?_ ?_
      ·refine Zak 3 ?_ ?_
       ·exact ZbP.nd
       ·exact ZaG (k:=1) (ps:=["cells"]) F__law_roll (hr.mono (by decide)) (Zc (Zj1 Zkb (Ze 0) ZdZ (ZdW Zi)) Zg)
      ·refine Zk ?_ ?_
       ·refine Zgy (N':=["script","deck","cell","roll","ones","way","others","tellers","due","good","refused","told_two","teller","itself","k"]) 4 ?_ ?_ ?_ ?_ ?_ (fun C cl s H ex=>⟨?_,?_,?_⟩)
        ·exact ZeF rfl (by kernel_rfl)
        ·exact rfl
        ·exact rfl
        ·exact ZbP.nd
        ·refine ZfQ ?_ ?_
         ·exact T.m_range
         ·refine Zas ?_ ?_ ?_
          ·exact Zat
          ·refine ZbQ ?_
           refine Zc ?_ ?_
           ·exact Zx Zbe (Zx Za9 (Ze 2) Zi) Zi
           ·refine Zc ?_ ?_
            ·exact Zx Zbe (Zx Za9 (Ze 2) Zi) Zi
            ·exact Zc (Zx Zb4 Zi (Zx Zbe (Zx Za9 (Ze 2) Zi) Zi)) Zg
          ·exact Zx Zbe (Ze 2) Zi
        ·exact ZeG 14 ((show List.Nodup (["script","deck","cell","roll","ones","way","others","tellers","due","good","refused","told_two","teller","itself","k"]:List Str) by decide +kernel))
        ·exact Zlf
        ·exact ZaG (k:=2) (ps:=["deck","roll"]) F__law_state (hr.mono (by decide)) (Zc (Ze 1) (Zc (Ze 3) Zg))
       ·refine Zk ?_ ?_
        ·refine ZmJ ?_ ?_ ?_ ?_ ?_
         ·exact rfl
         ·exact rfl
         ·exact ZfQ T.m_range Zi
         ·exact ZeG 5 ZbP.nd
         ·refine Zk ?_ ?_
          ·exact Zak 6 ZbP.nd (ZgZ (T:="list") ZnB T.m_list Zk5 (Zc (Ze 4) Zg))
          ·refine Zk ?_ ?_
           ·refine ZaW ?_ ?_ ?_
            ·refine CW.ct ?_
             refine Ze7 ?_ ?_
             ·exact Zao ((ZcA hu)) (Zx Zbe (Ze 5) Zi) Zi
             ·exact Zd3 (Zao ((Zgh hu)) (Ze 4) (ZbQ Zg))
            ·refine Zn ?_
             refine Zgs ?_ ?_ ?_
             ·exact Ze 6
             ·exact ZjU Zgf Zi
             ·refine ZaG (k:=1) (ps:=["state","roll","cell"]) ?_ ?_ ?_
              ·exact F__law_unlike
              ·exact hr.mono (by decide)
              ·refine Zc ?_ ?_
               ·exact Zas Zat (Ze 4) (ZjU Zgf Zi)
               ·exact Zc (Ze 3) (Zc (ZaG (k:=1) (ps:=["deck"]) F__law_next (hr.mono (by decide)) (Zc (Ze 1) Zg)) Zg)
            ·exact Zav
           ·refine Zk ?_ ?_
            ·refine ZaW ?_ ?_ ?_
             ·refine CW.ct ?_
              refine Ze7 ?_ ?_
              ·exact Zao ((ZcA hu)) (Zx Zbe (Zx Za9 (Ze 5) Zi) Zi) Zi
              ·exact Zd3 (Zao ((Zgh hu)) (Ze 4) (ZbQ Zg))
             ·refine Zn ?_
              refine Zgs ?_ ?_ ?_
              ·exact Ze 6
              ·exact Zi
              ·refine ZaG (k:=1) (ps:=["state","roll","cell"]) ?_ ?_ ?_
               ·exact F__law_unlike
               ·exact hr.mono (by decide)
               ·refine Zc ?_ ?_
                ·exact Zas Zat (Ze 4) Zi
                ·exact Zc (Ze 3) (Zc (ZaG (k:=1) (ps:=["deck"]) F__law_next (hr.mono (by decide)) (Zc (Ze 1) Zg)) Zg)
             ·exact Zav
            ·refine Zk ?_ ?_
             ·refine ZaW ?_ ?_ ?_
              ·refine CW.ct ?_
               refine Ze7 ?_ ?_
               ·exact Zao ((ZcA hu)) (Zx Za9 (Ze 5) Zi) Zi
               ·exact Zd3 (Zao ((ZcA hu)) (Zx Zbe (Zx Za9 (Ze 2) Zi) Zi) Zi)
              ·refine Zn ?_
               refine Zdq ?_
               exact Zbj (Ze 6) (Zc (ZaG (k:=2) (ps:=["deck","roll"]) F__law_state (hr.mono (by decide)) (Zc (Ze 1) (Zc (Ze 3) Zg))) Zg)
              ·refine Zn ?_
               refine ZaW ?_ ?_ ?_
               ·exact Zao ((ZcA hu)) (Zx Za9 (Ze 5) Zi) Zi
               ·exact Zn (Zak 6 ZbP.nd (Zj1 Zkb (Ze 6) ZdZ (ZdW (ZjU Zgf Zi))))
               ·exact Zav
             ·refine Zk ?_ ?_
              ·refine Zak 7 ?_ ?_
               ·exact ZbP.nd
               ·refine ZbQ ?_
                refine Zc ?_ ?_
                ·exact ZqN (C:=C_Teller) (c:=[84,101,108,108,101,114]) (k:=1) (ps:=["self","states"]) O_Teller.ok M_Teller___init__ O_Teller.mg (hr.mono (by decide)) (Zc (Ze 4) Zg)
                ·exact Zc (ZqN (C:=C_Teller) (c:=[84,101,108,108,101,114]) (k:=1) (ps:=["self","states"]) O_Teller.ok M_Teller___init__ O_Teller.mg (hr.mono (by decide)) (Zc (Ze 6) Zg)) Zg
              ·refine Zk ?_ ?_
               ·exact Zak 8 ZbP.nd (ZaG (k:=1) (ps:=["ones","others"]) F__law_due (hr.mono (by decide)) (Zc (Ze 4) (Zc (Ze 6) Zg)))
               ·refine Zk ?_ ?_
                ·refine Zak 9 ?_ ?_
                 ·exact ZbP.nd
                 ·refine ZeW ?_ ?_
                  ·exact Zec ((ZcA hu)) (Zbu (id:="len") ZbB T.m_len Za6 (Zc (Ze 8) Zg)) Zi
                  ·refine Zfp ?_
                   refine Zec ?_ ?_ ?_
                   ·exact (Zgh hu)
                   ·exact Zas Zat (Ze 4) (ZjU Zgf Zi)
                   ·exact Zas Zat (Ze 6) (ZjU Zgf Zi)
                ·refine Zk ?_ ?_
                 ·refine ZoX ?_ ?_ ?_
                  ·exact rfl
                  ·exact ZaG (k:=6) (ps:=["roll","tellers"]) F__law_asked (hr.mono (by decide)) (Zc (Ze 3) (Zc (Ze 7) Zg))
                  ·exact Zdk 10 ZbP.nd (Zdk 11 ZbP.nd ZiG)
                 ·refine Zk ?_ ?_
                  ·refine ZaW ?_ ?_ ?_
                   ·exact CW.ct (ZjS (Zao ((ZcA hu)) (Ze 10) (Ze 9)) (Zg3 (Zao ((Zgh hu)) (Ze 11) (Ze 9))))
                   ·exact Zn (Zap ZmA)
                   ·exact Zav
                  ·refine Zn ?_
                   refine ZmJ ?_ ?_ ?_ ?_ ?_
                   ·exact rfl
                   ·exact rfl
                   ·exact Zq8 (Ze 7)
                   ·exact ZeG 12 ZbP.nd
                   ·refine Zn ?_
                    refine ZaW ?_ ?_ ?_
                    ·refine CW.ct ?_
                     refine ZjS ?_ ?_
                     ·refine ZgJ ?_
                      refine Zdb ?_
                      refine ZaG (k:=8) (ps:=["found","due"]) ?_ ?_ ?_
                      ·exact F__law_same
                      ·exact hr.mono (by decide)
                      ·refine Zc ?_ ?_
                       ·exact Zj1 Zkb (Zd6 (C:=C_Teller) (c:=[84,101,108,108,101,114]) (m:=[116,105,109,101,115,95,97,115,107,101,100]) (k:=1) (ps:=["self"]) O_Teller.ok M_Teller_times_asked (hr.mono (by decide)) (Ze 12)) ZdZ (ZdW Zi)
                       ·exact Zc (Ze 8) Zg
                     ·refine Zg3 ?_
                      refine CW.ct ?_
                      refine Ze7 ?_ ?_
                      ·exact ZgJ (Zdb (Ze 9))
                      ·refine Zd3 ?_
                       refine Zao ?_ ?_ ?_
                       ·exact ZkE
                       ·exact Zbu (id:="len") ZbB T.m_len Za6 (Zc (Zd6 (C:=C_Teller) (c:=[84,101,108,108,101,114]) (m:=[116,105,109,101,115,95,97,115,107,101,100]) (k:=1) (ps:=["self"]) O_Teller.ok M_Teller_times_asked (hr.mono (by decide)) (Ze 12)) Zg)
                       ·exact Zi
                    ·exact Zn (Zap ZmA)
                    ·exact Zav
        ·refine Zk ?_ ?_
         ·exact Zak 13 ZbP.nd (ZqN (C:=C_Teller) (c:=[84,101,108,108,101,114]) (k:=1) (ps:=["self","states"]) O_Teller.ok M_Teller___init__ O_Teller.mg (hr.mono (by decide)) (Zc (Ze 4) Zg))
         ·refine Zk ?_ ?_
          ·exact Zak 8 ZbP.nd (ZbQ Zg)
          ·refine Zk ?_ ?_
           ·refine ZaW ?_ ?_ ?_
            ·exact Zao ZkE (Zbu (id:="len") ZbB T.m_len Za6 (Zc (Ze 4) Zg)) Zi
            ·refine Zn ?_
             refine Zak 8 ?_ ?_
             ·exact ZbP.nd
             ·refine ZbQ ?_
              refine Zc ?_ ?_
              ·exact Zi
              ·refine Zc ?_ ?_
               ·exact Zi
               ·refine Zc ?_ ?_
                ·exact Zx Zft (Zbu (id:="len") ZbB T.m_len Za6 (Zc (Ze 4) Zg)) Zi
                ·exact Zc (Zx Zft (Zbu (id:="len") ZbB T.m_len Za6 (Zc (Ze 4) Zg)) Zi) Zg
            ·exact Zav
           ·refine Zn ?_
            refine Zap ?_
            refine ZeW ?_ ?_
            ·refine Zas ?_ ?_ ?_
             ·exact Zat
             ·refine ZaG (k:=6) (ps:=["roll","tellers"]) ?_ ?_ ?_
              ·exact F__law_asked
              ·exact hr.mono (by decide)
              ·exact Zc (Ze 3) (Zc (ZbQ (Zc (Ze 13) (Zc (Ze 13) Zg))) Zg)
             ·exact Zi
            ·refine Zfp ?_
             exact ZaG (k:=8) (ps:=["found","due"]) F__law_same (hr.mono (by decide)) (Zc (Zd6 (C:=C_Teller) (c:=[84,101,108,108,101,114]) (m:=[116,105,109,101,115,95,97,115,107,101,100]) (k:=1) (ps:=["self"]) O_Teller.ok M_Teller_times_asked (hr.mono (by decide)) (Ze 13)) (Zc (Ze 8) Zg))
end
end Law
set_option maxHeartbeats 200000
namespace Law
open L3
theorem ZgK (n d:Nat):sIx n d none = d:=rfl
theorem ZiA (n d k:Nat):sIx n d (some (k:Int)) = min k n:=by
 have h:¬ ((k:Int) < 0):=(fun z=>iN [_] [] 1 7211153 T1 z)
 simp only [sIx,if_neg h,Int.toNat_natCast]
theorem Znm {α:Type} (w:List α) (k:Nat):cutD w (some (k:Int)) none = w.drop k:=by
 unfold cutD
 rw [ZiA,ZgK]
 by_cases h:k ≤ w.length
 ·rw [Nat.min_eq_left h,List.take_of_length_le (by simp)]
 ·rw [Nat.min_eq_right (by exact lB 1 1052737 T1 h),List.drop_eq_nil_of_le (Nat.le_refl _),List.drop_eq_nil_of_le (by exact lB 1 1052737 T1 h)]; simp
theorem ZgO {α:Type} (w:List α) (k:Nat):cutD w none (some (k:Int)) = w.take k:=by
 unfold cutD
 rw [ZiA,ZgK]
 by_cases h:k ≤ w.length
 ·rw [Nat.min_eq_left h]; simp
 ·rw [Nat.min_eq_right (by exact lB 1 1052737 T1 h),Nat.sub_zero,List.drop_zero,List.take_of_length_le (Nat.le_refl _),List.take_of_length_le (by exact lB 1 1052737 T1 h)]
theorem Zfb (n:Nat) (bs:List Int):below n (Zac bs) = true:=by
 unfold Zac below
 induction bs with
 | nil=>rfl
 | cons b bs ih=>simp only [List.map_cons,belowL,below,ih,Bool.and_self]
theorem ZeD (n:Nat) (cs:List (Int × Int)):below n (Zab cs) = true:=by
 unfold Zab below
 induction cs with
 | nil=>rfl
 | cons b bs ih=>simp only [List.map_cons,belowL,ih,ZaM,below,Bool.and_self]
theorem ZjF (n:Nat) (s:Stt):below n (Zd s) = true:=by
 simp only [Zd,below,belowL,Zfb,ZeD,Bool.and_self]
theorem Zks (n:Nat) (s:Option Stt):below n (Zml s) = true:=by
 cases s with
 | none=>rfl
 | some s=>exact ZjF n s
theorem ZsX {bs:List Int} (h:bs.length = 8) {a:Nat} (ha:a < 8):bs[a]? = some (bs.getD a 0):=by
 rw [List.getD_eq_getElem?_getD,List.getElem?_eq_getElem (by exact lB 2 72481667054415889 T1 ha h)]; rfl
theorem Zdh {bs:List Int} (h:bs.length = 8) {a:Nat} (ha:a < 8):∃ x,bs.getD a 0 = x ∧ ZaN (bs.map D.int) (a:Int) = some (.int x):=⟨bs.getD a 0,rfl,by rw [ZbO,List.getElem?_map,ZsX h ha]; rfl⟩
theorem ZjM (bs:List Int) (a:Nat) (v:Int) (M:Store) (ha:a < bs.length) (hl:bs.length ≤ 1000):ZbR [Zac bs,.int a,.int v] M = .ok (Zac (bs.set a v)) M:=by
 have h1:(e2 Zay (e2 Zay (eSl (Zb 0) (Zb3) (Zb5 (Zb 1))) (Zbg (Za (Zb 2) (Zf)))) (eSl (Zb 0) (Zb5 (e2 Zay (Zb 1) (eC (.int 1)))) (Zb3))) [some (Zac bs),some (.int a),some (.int v)] M = .ok (Zac (bs.set a v)) M:=by
  have c1:cutD (bs.map D.int) none (some (a:Int)) = (bs.take a).map D.int:=by rw [ZgO,List.map_take]
  have c2:cutD (bs.map D.int) (some ((a:Int) + 1)) none = (bs.drop (a + 1)).map D.int:=by
   rw [show ((a:Int) + 1) = ((a + 1:Nat):Int) by exact rfl,Znm,List.map_drop]
  have s1:eSl (Zb 0) (Zb3) (Zb5 (Zb 1)) [some (Zac bs),some (.int a),some (.int v)] M = .ok (.tup ((bs.take a).map D.int)) M:=by
   simp only [eSl,Zb,Zb3,Zb5,Zac,List.getElem?_cons_zero,List.getElem?_cons_succ,R3.bind,Zds,Zdv,Zdx,Zdu,c1]
  have s2:eSl (Zb 0) (Zb5 (e2 Zay (Zb 1) (eC (.int 1)))) (Zb3) [some (Zac bs),some (.int a),some (.int v)] M = .ok (.tup ((bs.drop (a + 1)).map D.int)) M:=by
   simp only [eSl,e2,eC,ZdM,ZdQ,ZdI,ZdO,Zb,Zb3,Zb5,Zac,List.getElem?_cons_zero,List.getElem?_cons_succ,R3.bind,Zds,Zdv,Zdx,Zdu,c2]
  have s3:Zbg (Za (Zb 2) (Zf)) [some (Zac bs),some (.int a),some (.int v)] M = .ok (.tup [.int v]) M:=by simp
  have a1:Zay (.tup ((bs.take a).map D.int)) (.tup [.int v]) M = .ok (.tup ((bs.take a).map D.int ++ [.int v])) M:=by
   simp only [ZdM,ZdQ,ZdI,ZdO]; rw [if_pos (by simp; exact lB 2 0xf423f5b1001013e83b001 T1 hl (Nat.min_le_right _ _))]
  refine (Zm (Zm s1 s3 a1) s2 ?_)
  simp only [ZdM,ZdQ,ZdI,ZdO]
  rw [if_pos (by simp; exact lD 3 0xf42405b3a1cc00a2c3c2121013e83b001 T1 hl (Nat.min_le_left _ _) (Nat.sub_add_cancel (lB 1 6991908881 T1 ha))),Zac,List.set_eq_take_append_cons_drop,if_pos ha]
  simp
 exact Rt.pure (G:=[]) (env:=[some (Zac bs),some (.int a),some (.int v)]) (by rw [List.append_nil]; exact Zaw h1) (Zfb _ _)
theorem ZhB (cs:List (Int × Int)) (n:Int) (M:Store) (h:keysOk cs) (hl:cs.length ≤ 5000):Zcy [Zab cs,.int n] M = .ok (.int (Zgl cs n)) M:=by
 have h1:(ZcR Zo7 ZmB (Zaz Zh6 (Za (Zb 0) (Zf))) (Za (Zb 1) (Za (eC (.int 0)) (Zf)))) [some (Zab cs),some (.int n)] M = .ok (.int (Zgl cs n)) (M ++ [.dct (dictOf (Zgi cs))]):=by
  have hz:(Zgi cs).length ≤ 100000:=by simp [Zgi]; exact lA 1 0x186a05b0013884b001 T1 hl
  have b1:Zaz Zh6 (Za (Zb 0) (Zf)) [some (Zab cs),some (.int n)] M = .ok (.ref M.length) (M ++ [.dct (dictOf (Zgi cs))]):=by
   refine ZcG (a:=Zab cs) (M1:=M) rfl ?_
   simp only [Zab,ZfD,ZgL,Zj3]
   rw [if_pos hz]; rfl
  simp only [ZcR,b1,R3.bind,Zix,Za,Zb,eC,Zf,List.getElem?_cons_zero,List.getElem?_cons_succ]
  simp only [Zam,Zmo,Zms,Option.isSome_some,if_true,Zlw,Zlt,Zpn,ZpA]
  rw [Zl7 h]
 exact Rt.pure (env:=[some (Zab cs),some (.int n)]) (Zaw h1) rfl
theorem Zhz (r:Row) (bs:List Int) (p many:Nat) (M:Store) (hb:bs.length = 8) (hr:r.ok many):Zcx [Zal r,.int p,Zac bs] M = .ok (.int (r.place bs p)) M:=by
 refine Rt.pure (G:=[]) (env:=[some (Zal r),some (.int p),some (Zac bs)]) ?_ rfl
 rw [List.append_nil]
 cases r with
 | when a k=>
  obtain ⟨x,hx,gx⟩:=Zdh hb hr.1
  have g:Zq (Zac bs) (.int (a:Int)) M = .ok (.int x) M:=by simp only [Zac,ZbM,ZbN,ZbK,Zbf,gx]
  have cc:(ZbG (e2 ZaK (e2 Zq (Zb 0) (eC (.int 0))) (eC (.str [119,104,101,110]))) (e2 Zei (e2 Zq (Zb 2) (e2 Zq (Zb 0) (eC (.int 1)))) (eC (.int 0)))) [some (Zal (.when a k)),some (.int p),some (Zac bs)] M = .ok (.bl (decide (0 < x))) M:=(ZcK (M1:=M) rfl).trans (Zm (Zm (b:=.int (a:Int)) rfl rfl g) rfl rfl)
  have s0:(e2 ZaK (e2 Zq (Zb 0) (eC (.int 0))) (eC (.str [106,117,109,112]))) [some (Zal (.when a k)),some (.int p),some (Zac bs)] M = .ok (.bl false) M:=rfl
  simp only [Row.place,hx]
  by_cases c:0 < x
  ·rw [decide_eq_true c] at cc
   rw [if_pos c]
   exact (Zj (Zau s0)).trans (Zch ((Zbc cc).trans rfl))
  ·rw [decide_eq_false c] at cc
   rw [if_neg c]
   exact (Zj (Zau s0)).trans ((Zj (Zau cc)).trans rfl)
 | _=>rfl
theorem Zj6 (x y:Int) (M:Store):ZbL [.str [97,100,100],.int x,.int y] M = .ok (.int (x + y)) M:=by simp [ZbL,Zes,Zv,Zaj,Zax,sIf,Zan,ZaR,mkF,Zcv,below,belowL,ZcC]
theorem Zj8 (x y:Int) (M:Store):ZbL [.str [115,117,98],.int x,.int y] M = .ok (.int (x - y)) M:=by simp [ZbL,Zes,Zv,Zaj,Zax,sIf,Zan,ZaR,mkF,Zcv,below,belowL,ZcC]
theorem ZjI (x y:Int) (M:Store):ZbL [.str [109,111,114,101],.int x,.int y] M = .ok (.int (if y < x then 1 else 0)) M:=by
 by_cases c:y < x <;> simp [ZbL,Zes,Zv,Zaj,Zax,sIf,Zan,ZaR,mkF,Zcv,below,belowL,ZcC,c]
theorem Zhm (r:Row) (bs:List Int) (cs:List (Int × Int)) (many:Nat) (M:Store) (hb:bs.length = 8) (hr:r.ok many) (hk:keysOk cs) (hl:cs.length ≤ 5000):ZcF [Zal r,Zac bs,Zab cs] M = .ok (Zac (r.boxes bs cs)) M:=by
 have wb:∀ (a:Nat) (v:Int),a < 8 → ZbR [Zac bs,.int a,.int v] M = .ok (Zac (bs.set a v)) M:=fun a v ha=>ZjM bs a v M (by rw [hb]; exact ha) (by rw [hb]; decide)
 have cv:∀ (n:Int),Zcy [Zab cs,.int n] M = .ok (.int (Zgl cs n)) M:=fun n=>ZhB cs n M hk hl
 have gt:∀ {a:Nat} {x:Int},ZaN (bs.map D.int) (a:Int) = some (.int x) → Zq (Zac bs) (.int (a:Int)) M = .ok (.int x) M:=fun {a x} g=>by simp only [Zac,ZbM,ZbN,ZbK,Zbf,g]
 have tp:∀ env,(Zbg (Za (eC (.str [97,100,100])) (Za (eC (.str [115,117,98])) (Za (eC (.str [109,111,114,101])) (Zf))))) env M = .ok (.tup [.str [97,100,100],.str [115,117,98],.str [109,111,114,101]]) M:=fun env=>by simp
 refine Rt.pure (G:=[]) (env:=[some (Zal r),some (Zac bs),some (Zab cs),none]) ?_ (Zfb _ _)
 rw [List.append_nil]
 have pre:∀ {w:List Nat} {o:O3} {k:S3},Zq (Zal r) (.int 0) M = .ok (.str w) M → k [some (Zal r),some (Zac bs),some (Zab cs),some (.str w)] M = o → Zv (Zaj 3 (e2 Zq (Zb 0) (eC (.int 0)))) k [some (Zal r),some (Zac bs),some (Zab cs),none] M = o:=fun {w o k} h1 h=>(Zj (Zw (Zm rfl rfl h1))).trans h
 have sk:∀ {w v:List Nat} {f k:S3} {o:O3},decide (w = v) = false → k [some (Zal r),some (Zac bs),some (Zab cs),some (.str w)] M = o → Zv (sIf (e2 ZaK (Zb 3) (eC (.str v))) f Zan) k [some (Zal r),some (Zac bs),some (Zab cs),some (.str w)] M = o:=fun {w v f k o} h1 h=>(Zj (Zau (M':=M) (Zm rfl rfl (by simp only [ZaK,ZdV,Zd0,Zd8,ZdU,ZdX,h1])))).trans h
 have wk:∀ {w:List Nat} {a b c:Nat} {x y z:Int},Zal r = .tup [.str w,.int a,.int b,.int c] → ZbL [.str w,.int x,.int y] M = .ok (.int z) M → a < 8 → ZaN (bs.map D.int) (b:Int) = some (.int x) → ZaN (bs.map D.int) (c:Int) = some (.int y) → ZlX (.str w) (.tup [.str [97,100,100],.str [115,117,98],.str [109,111,114,101]]) M = .ok (.bl true) M →
   (Zv (sIf (e2 ZlX (Zb 3) (Zbg (Za (eC (.str [97,100,100])) (Za (eC (.str [115,117,98])) (Za (eC (.str [109,111,114,101])) (Zf)))))) (Zax (Zae ZbR (Za (Zb 1) (Za (e2 Zq (Zb 0) (eC (.int 1))) (Za (Zae ZbL (Za (Zb 3) (Za (e2 Zq (Zb 1) (e2 Zq (Zb 0) (eC (.int 2)))) (Za (e2 Zq (Zb 1) (e2 Zq (Zb 0) (eC (.int 3)))) (Zf))))) (Zf)))))) (Zan)) (Zax (Zb 1))) [some (Zal r),some (Zac bs),some (Zab cs),some (.str w)] M = .rt (Zac (bs.set a z)) M:=fun {w a b c x y z} he hw ha gx gy hin=>by
  rw [he]
  exact Zch ((Zbc (Zm rfl (tp _) hin)).trans (Zaw (Zb7 rfl (b:=.int (a:Int)) (M2:=M) rfl (Zb7 rfl (Zm rfl (b:=.int (b:Int)) (M2:=M) rfl (gt gx)) (Zm rfl (b:=.int (c:Int)) (M2:=M) rfl (gt gy)) hw) (wb a z ha))))
 have no:∀ {w:List Nat},Zq (Zal r) (.int 0) M = .ok (.str w) M → decide (w = [112,117,116]) = false → decide (w = [103,101,116]) = false → ZlX (.str w) (.tup [.str [97,100,100],.str [115,117,98],.str [109,111,114,101]]) M = .ok (.bl false) M → Zd2 [some (Zal r),some (Zac bs),some (Zab cs),none] M = .rt (Zac bs) M:=fun {w} h1 h2 h3 h4=>
  pre h1 (sk h2 (sk h3 ((Zj (Zau (Zm rfl (tp _) h4))).trans rfl)))
 cases r with
 | put a n=>exact pre rfl (Zch ((Zbc (M':=M) rfl).trans (Zaw (Zb7 rfl rfl rfl (wb a n hr)))))
 | get a b=>
  obtain ⟨x,hx,gx⟩:=Zdh hb hr.2
  simp only [Row.boxes,hx]
  exact pre rfl (sk rfl (Zch ((Zbc (M':=M) rfl).trans (Zaw (Zb7 rfl (b:=.int (a:Int)) (M2:=M) rfl (Zdd rfl (Zm rfl (b:=.int (b:Int)) (M2:=M) rfl (gt gx)) (cv x)) (wb a _ hr.1))))))
 | add a b c=>
  obtain ⟨x,hx,gx⟩:=Zdh hb hr.2.1
  obtain ⟨y,hy,gy⟩:=Zdh hb hr.2.2
  simp only [Row.boxes,hx,hy]
  exact pre rfl (sk rfl (sk rfl (wk rfl (Zj6 x y M) hr.1 gx gy rfl)))
 | sub a b c=>
  obtain ⟨x,hx,gx⟩:=Zdh hb hr.2.1
  obtain ⟨y,hy,gy⟩:=Zdh hb hr.2.2
  simp only [Row.boxes,hx,hy]
  exact pre rfl (sk rfl (sk rfl (wk rfl (Zj8 x y M) hr.1 gx gy rfl)))
 | more a b c=>
  obtain ⟨x,hx,gx⟩:=Zdh hb hr.2.1
  obtain ⟨y,hy,gy⟩:=Zdh hb hr.2.2
  simp only [Row.boxes,hx,hy]
  exact pre rfl (sk rfl (sk rfl (wk rfl (ZjI x y M) hr.1 gx gy rfl)))
 | _=>exact no rfl rfl rfl rfl
theorem Zq7 {a b l c:Nat} (f1:a ≤ c) (f2:b ≤ c) (hL:l ≤ 1) (hl:c ≤ 5000):a + l + b ≤ 1000000:=by omega
theorem Zle {n m:Nat} {M:Store} {x y:List D} (h1:M[n]? = some (.lst x)) (h2:M[m]? = some (.lst y)) (hz:x.length + y.length ≤ SZ):Zay (.ref n) (.ref m) M = .ok (.ref M.length) (M ++ [.lst (x ++ y)]):=by
 simp only [ZdM,ZdQ,ZdI,ZdO,h1,h2,if_pos hz,alloc]
theorem ZnC {g:EL3} {env:Zaf} {M M':Store} {ds:List D} (h:g env M = .ok ds M') (hl:decide (ds.length ≤ 100) = true):ZaY g env M = .ok (.ref M'.length) (M' ++ [.lst ds]):=by
 have z:ds.length ≤ SZ:=Nat.le_trans (of_decide_eq_true hl) (by decide)
 simp only [ZaY,h,R3.bind,if_pos z,alloc]
theorem ZrJ {A L B:List D} {m:Store} {x0 x1 x2:Option D} (hz:A.length + L.length + B.length ≤ SZ):Zax (Zaz ZcX (Za (e2 Zay (e2 Zay (Zb 3) (Zb 5)) (Zb 4)) (Zf))) [x0,x1,x2,some (.ref m.length),some (.ref (m ++ [MO.lst A]).length),some (.ref (m ++ [MO.lst A] ++ [MO.lst B]).length)] (m ++ [MO.lst A] ++ [MO.lst B] ++ [MO.lst L])
  = .rt (.tup (A ++ L ++ B)) (m ++ ([MO.lst A] ++ ([MO.lst B] ++ ([MO.lst L] ++ ([MO.lst (A ++ L)] ++ [MO.lst (A ++ L ++ B)]))))):=by
 have gA:(m ++ [MO.lst A] ++ [MO.lst B] ++ [MO.lst L])[m.length]? = some (.lst A):=Zt (Zt (Zam ..) _) _
 have gB:(m ++ [MO.lst A] ++ [MO.lst B] ++ [MO.lst L])[(m ++ [MO.lst A]).length]? = some (.lst B):=Zt (Zam ..) _
 have gL:(m ++ [MO.lst A] ++ [MO.lst B] ++ [MO.lst L])[(m ++ [MO.lst A] ++ [MO.lst B]).length]? = some (.lst L):=Zam ..
 rw [← List.append_assoc,← List.append_assoc,← List.append_assoc,← List.append_assoc]
 generalize m ++ [MO.lst A] ++ [MO.lst B] ++ [MO.lst L] = M3 at *
 exact Zaw (ZcG (Zm (Zm (by exact rfl) (by exact rfl) (Zle gA gL (Nat.le_trans (Nat.le_add_right _ _) hz))) (by exact rfl) (Zle (Zam ..) (Zt gB _) (by rw [List.length_append]; exact hz))) (ZiN (Zam ..)))
theorem Zih (cs:List (Int × Int)) (n v:Int) (M:Store) (hl:cs.length ≤ 5000):Zct [Zab cs,.int n,.int v] M = .ok (Zab (ZeE cs n v)) M:=by
 have b1:=ZhP (α:=Int × Int) (enc:=ZaM) (h:=ZaM) (p:=fun c=>decide (c.1 < n)) (own:=1) (i:=6) (it:=Zhl (Zb 0)) (c:=e2 ZhA (e2 Zq (Zb 6) (eC (.int 0))) (Zb 1)) (elt:=Zb 6) (env:=[some (Zab cs),some (.int n),some (.int v),none,none,none]) (M:=M) (M1:=M) (lock:=none) (as:=cs)
  (by exact rfl) (fun _ h=>by cases h) (fun a _ M=>by exact rfl) (fun a _ _ M=>by exact rfl) (lA 1 0x186a05b0013884b001 T1 hl)
 have b2:=fun (x:D) (M:Store)=>ZhP (α:=Int × Int) (enc:=ZaM) (h:=ZaM) (p:=fun c=>decide (n < c.1)) (own:=1) (i:=6) (it:=Zhl (Zb 0)) (c:=e2 Zei (e2 Zq (Zb 6) (eC (.int 0))) (Zb 1)) (elt:=Zb 6) (env:=[some (Zab cs),some (.int n),some (.int v),some x,none,none]) (M:=M) (M1:=M) (lock:=none) (as:=cs)
  (by exact rfl) (fun _ h=>by cases h) (fun a _ M=>by exact rfl) (fun a _ _ M=>by exact rfl) (lA 1 0x186a05b0013884b001 T1 hl)
 have f1:=List.length_filter_le (fun c:Int × Int=>decide (c.1 < n)) cs
 have f2:=List.length_filter_le (fun c:Int × Int=>decide (n < c.1)) cs
 have e:Zab (ZeE cs n v) = .tup ((cs.filter fun c=>decide (c.1 < n)).map ZaM ++ (if v ≠ 0 then [(n,v)] else []).map ZaM ++ (cs.filter fun c=>decide (n < c.1)).map ZaM):=by rw [Zab,ZeE,List.map_append,List.map_append]
 have b3:∀ (x y:D) (M:Store),eIf (e2 ZbJ (Zb 2) (eC (.int 0))) (ZaY (Za (Zbg (Za (Zb 1) (Za (Zb 2) (Zf)))) (Zf))) (ZaY (Zf)) [some (Zab cs),some (.int n),some (.int v),some x,some y,none] M = .ok (.ref M.length) (M ++ [.lst ((if v ≠ 0 then [(n,v)] else []).map ZaM)]):=fun x y M=>by
  by_cases c:v = 0
  ·rw [if_neg (fun h=>h c),c]; exact (ZsS (M1:=M) (by exact rfl)).trans (ZnC (by exact rfl) rfl)
  ·rw [if_pos c]; exact (ZsQ (M1:=M) (Zm rfl rfl (by simp only [ZbJ,ZdV,Zd0,Zd8,ZdU,ZdX,decide_eq_false c,Bool.not_false]))).trans (ZnC (Zo (ZaL (by exact rfl) rfl) (by exact rfl)) rfl)
 have lL:((if v ≠ 0 then [(n,v)] else []).map ZaM).length ≤ 1:=by split; exact Nat.le_refl 1; exact Nat.zero_le 1
 have hz:((cs.filter fun c=>decide (c.1 < n)).map ZaM).length + ((if v ≠ 0 then [(n,v)] else []).map ZaM).length + ((cs.filter fun c=>decide (n < c.1)).map ZaM).length ≤ SZ:=by rw [List.length_map,List.length_map (as:=List.filter (fun c=>decide (n < c.1)) cs)]; exact Zq7 f1 f2 lL hl
 rw [e]
 generalize (if v ≠ 0 then [(n,v)] else []).map ZaM = L at *
 exact Rt.pure ((Zj (Zw b1)).trans ((Zj (Zw (b2 (.ref M.length) _))).trans ((Zj (Zw (b3 (.ref M.length) (.ref (M ++ [MO.lst ((cs.filter fun c=>decide (c.1 < n)).map ZaM)]).length) _))).trans (ZrJ hz)))) (e ▸ ZeD _ _)
theorem Zhj (r:Row) (bs:List Int) (cs:List (Int × Int)) (many:Nat) (M:Store) (hb:bs.length = 8) (hr:r.ok many) (hl:cs.length ≤ 5000):ZcB [Zal r,Zac bs,Zab cs] M = .ok (Zab (r.cells bs cs)) M:=by
 have wc:∀ (n v:Int) (M:Store),Zct [Zab cs,.int n,.int v] M = .ok (Zab (ZeE cs n v)) M:=fun n v M=>Zih cs n v M hl
 refine Rt.pure (G:=[]) (env:=[some (Zal r),some (Zac bs),some (Zab cs)]) ?_ (ZeD _ _)
 rw [List.append_nil]
 unfold ZdT
 generalize Zct = F1 at *
 cases r with
 | set a b=>
  obtain ⟨x,hx,gx⟩:=Zdh hb hr.1
  obtain ⟨y,hy,gy⟩:=Zdh hb hr.2
  have e:Row.cells bs cs (.set a b) = ZeE cs x y:=by rw [← hx,← hy]; rfl
  rw [e]
  exact Zch ((Zbc (M':=M) (by exact rfl)).trans (Zaw (Zb7 (by exact rfl) (Zm (by exact rfl) (by exact rfl) (Zgo gx)) (Zm (by exact rfl) (by exact rfl) (Zgo gy)) (wc x y M))))
 | _=>exact (Zj (Zau (M':=M) (by exact rfl))).trans (Zaw (by exact rfl))
theorem Zho (roll:Zd9) (s:Stt) (M:Store) (hok:∀ x ∈ roll,x.ok roll.length) (hs:s.ok roll) (hk:keysOk s.cells) (hl:s.cells.length ≤ 5000):Zc6 [Zr roll,Zd s] M = .ok (Zml (ZeZ roll s)) M:=by
 obtain ⟨hp,hb⟩:=hs
 have hr:roll[s.place]? = some roll[s.place]:=by simp [hp]
 have ro:=hok _ (List.getElem_mem hp)
 unfold ZeZ
 rw [hr]
 generalize roll[s.place] = r at hr ro
 show _ = R3.ok (Zml (ZnN s r)) M
 have np:=Zhz r s.boxes s.place roll.length
 have nb:=Zhm r s.boxes s.cells roll.length
 have nc:=Zhj r s.boxes s.cells roll.length
 refine Rt.pure (G:=[]) (env:=[some (Zr roll),some (Zd s),none,none,none,none]) ?_ (Zks _ _)
 rw [List.append_nil]
 unfold ZdR
 generalize Zcx = F1 at *
 generalize ZcF = F2 at *
 generalize ZcB = F3' at *
 refine (Zj (Zw (d:=.int s.place) (M':=M) (by exact rfl))).trans ((Zj (Zw (d:=Zac s.boxes) (M':=M) (by exact rfl))).trans ((Zj (Zw (d:=Zab s.cells) (M':=M) (by exact rfl))).trans ((Zj (Zw (d:=Zal r) (M':=M) (by simp [Zr,hr]))).trans ?_)))
 have e3:Zbg (Za (Zae F1 (Za (Zb 5) (Za (Zb 2) (Za (Zb 3) (Zf))))) (Za (Zae F2 (Za (Zb 5) (Za (Zb 3) (Za (Zb 4) (Zf))))) (Za (Zae F3' (Za (Zb 5) (Za (Zb 3) (Za (Zb 4) (Zf))))) (Zf)))) [some (Zr roll),some (Zd s),some (.int s.place),some (Zac s.boxes),some (Zab s.cells),some (Zal r)] M = .ok (Zd ⟨r.place s.boxes s.place,r.boxes s.boxes s.cells,r.cells s.boxes s.cells⟩) M:=by
  exact ZaL (Zo (Zb7 (by exact rfl) (by exact rfl) (by exact rfl) (np M hb ro)) (Zo (Zb7 (by exact rfl) (by exact rfl) (by exact rfl) (nb M hb ro hk hl)) (Zo (Zb7 (by exact rfl) (by exact rfl) (by exact rfl) (nc M hb ro hl)) (by exact rfl)))) (by exact rfl)
 cases hh:r.isHalt with
 | true=>
  cases r <;> simp at hh
  exact Zch ((Zbc (M':=M) (by exact rfl)).trans (Zaw (by exact rfl)))
 | false=>
  have e4:(e2 ZaK (e2 Zq (Zb 5) (eC (.int 0))) (eC (.str [104,97,108,116]))) [some (Zr roll),some (Zd s),some (.int s.place),some (Zac s.boxes),some (Zab s.cells),some (Zal r)] M = .ok (.bl false) M:=by
   cases r <;> first | exact rfl | simp [Zal] at hh ⊢
  refine (Zj (Zau e4)).trans (Zaw (e3.trans ?_))
  simp [ZnN,hh,Zml]
theorem Zte {i j:Int} (h:-(2 ^ 64) < i ∧ i < 2 ^ 64):ZcC i j = true:=by
 unfold ZcC; rw [Bool.or_eq_true]; left; simp only [Bool.and_eq_true,decide_eq_true_eq]; exact h
theorem mul_r {i j:Int} (h:-(2 ^ 64) < j ∧ j < 2 ^ 64):ZcC i j = true:=by
 unfold ZcC; rw [Bool.or_eq_true]; right; simp only [Bool.and_eq_true,decide_eq_true_eq]; exact h
theorem ZbI (x:Int) (m:Nat) (h:0 < m):∃ a:Nat,x % (m:Int) = a ∧ a < m:=by
 have h1:=Int.emod_nonneg x (b:=(m:Int)) (by exact fun z=>iN [_] [] 2 416093702305 T1 z h)
 have h2:=Int.emod_lt_of_pos x (b:=(m:Int)) (by exact iN [_] [] 1 149491217 T1 h)
 exact ⟨(x % (m:Int)).toNat,(Int.toNat_of_nonneg h1).symm,by exact iN [_,_] [_] 2 18698308976785 T1 h2 (Int.toNat_of_nonneg h1)⟩
theorem ZcT {M M':Store} {d:D} (h:M'.length = M.length):Zcv M d M' = .ok d M':=by
 unfold Zcv
 rw [List.take_of_length_le (Nat.le_of_eq h)]
 split <;> rfl
noncomputable abbrev TEL:List Nat:=[84,101,108,108,101,114]
noncomputable abbrev STS:List Nat:=[115,116,97,116,101,115]
noncomputable abbrev ASK:List Nat:=[97,115,107,101,100]
noncomputable abbrev ZaF (ss:List D) (a:Nat):MO:=.ins TEL [(STS,.tup ss),(ASK,.ref a)]
theorem ZlR (a b:Int) (M:Store):Zcq [.int a,.int b] M = .ok (.bl (decide (0 ≤ a) && decide (a < b))) M:=by
 by_cases h:0 ≤ a <;> simp [Zcq,Zev,Zv,Zaj,Zax,sIf,Zan,ZaR,mkF,Zcv,below,belowL,ZcC,h]
theorem ZiP {ss:List D} {a n:Nat} {M:Store} (h:M[n]? = some (ZaF ss a)):Zef TEL STS (.ref n) M = .ok (.tup ss) M:=by
 simp only [Zhc,h,if_true]; rfl
theorem Zlp {ss:List D} {a n:Nat} {M:Store} (h:M[n]? = some (ZaF ss a)):Zef TEL ASK (.ref n) M = .ok (.ref a) M:=by
 simp only [Zhc,h,if_true]; rfl
theorem Zfw {c f:List Nat} {o:E3} {env:Zaf} {M M1:Store} {a d:D} (h1:o env M = .ok a M1) (h2:Zef c f a M1 = .ok d M1):e1 (Zef c f) o env M = .ok d M1:=Zfk h1 h2
theorem Zbx {c m:List Nat} {F:F3} {o:E3} {g:EL3} {env:Zaf} {M M1 M2 M3:Store} {a d:D} {ds:List D} (h1:o env M = .ok a M1) (hi:Zjh c m a M1 = true) (h2:g env M1 = .ok ds M2) (h3:F (a :: ds) M2 = .ok d M3):ZaA c m F o g env M = .ok d M3:=by
 simp only [ZaA,h1,R3.bind,hi,if_true,h2,h3]
theorem Zbv {ss:List D} {a n:Nat} {M:Store} {m:List Nat} (h:M[n]? = some (ZaF ss a)) (h1:decide (m = STS) = false) (h2:decide (m = ASK) = false):Zjh TEL m (.ref n) M = true:=by
 have e1:¬ m = STS:=of_decide_eq_false h1
 have e2:¬ m = ASK:=of_decide_eq_false h2
 simp [h,ZaF,List.lookup,beq_false_of_ne e1,beq_false_of_ne e2]
theorem ZkY {ss:List D} {a n:Nat} {M:Store} (h:M[n]? = some (ZaF ss a)):ZaC [.ref n] M = .ok (.int (ss.length:Int)) M:=
 (Zb6 (env:=[some (.ref n)]) (M':=M) (d:=.int (ss.length:Int)) (Zaw (ZcG (Zfw rfl (ZiP h)) rfl))).trans (ZcT rfl)
theorem Zdy {ss ts:List D} {a n k:Nat} {d:D} {M:Store} (h:M[n]? = some (ZaF ss a)) (ha:M[a]? = some (.lst ts)) (hn:n ≠ a) (hd:ss[k]? = some d) (hz:ts.length < 1000000):Zbi [.ref n,.int (k:Int)] M = .ok d (M.set a (.lst (ts ++ [.int (k:Int)]))):=by
 have hk:k < ss.length:=(List.getElem?_eq_some_iff.mp hd).1
 have h':(M.set a (.lst (ts ++ [.int (k:Int)])))[n]? = some (ZaF ss a):=by rw [List.getElem?_set_ne (Ne.symm hn)]; exact h
 have w:Zae Zcq (Za (Zb 1) (Za (Zaz ZaS (Za (e1 (Zef TEL STS) (Zb 0)) (Zf))) (Zf))) [some (.ref n),some (.int (k:Int))] M = .ok (.bl true) M:=by
  refine Zdd rfl (ZcG (Zfw rfl (ZiP h)) rfl) ((ZlR _ _ _).trans ?_)
  rw [decide_eq_true (Int.natCast_nonneg _),decide_eq_true (Int.ofNat_lt.2 hk)]; rfl
 refine (Zb6 (env:=[some (.ref n),some (.int (k:Int))]) (M':=M.set a (.lst (ts ++ [.int (k:Int)]))) (d:=d) ?_).trans (ZcT (by simp))
 refine (Zj (Zau (M':=M) (Zfk w rfl))).trans ((Zj (ZdG (Zmk (Zfw rfl (Zlp h)) ha rfl ha hz))).trans (Zaw (Zm (Zfw rfl (ZiP h')) rfl (Zgo ?_))))
 rw [ZbO]; exact hd
theorem Zdj {ss ts:List D} {a n:Nat} {M:Store} (h:M[n]? = some (ZaF ss a)) (ha:M[a]? = some (.lst ts)) (hz:ts.length ≤ 1000000):Zu [.ref n] M = .ok (.ref M.length) (M ++ [.lst ts]):=by
 refine (Zb6 (env:=[some (.ref n)]) (M':=M ++ [.lst ts]) (d:=.ref M.length) (Zaw (ZcG (Zfw rfl (Zlp h)) ?_))).trans (by simp [Zcv,below])
 simp only [ZgG,ZgF,Zde,ha]
 simp [hz]
theorem ZoA {ss:List D} {m:Nat} {M:Store} (hM:M[m]? = some (.lst ss)):Zaa [.ref M.length,.ref m] (M ++ [.ins TEL []]) = .ok .non (M ++ [ZaF ss (M.length + 1),.lst []]):=by
 have g0:(M ++ [MO.ins TEL []])[M.length]? = some (.ins TEL []):=Zam _ _ _
 have s1:(M ++ [MO.ins TEL []]).set M.length (.ins TEL [(STS,.tup ss)]) = M ++ [.ins TEL [(STS,.tup ss)]]:=Zii M _ 0 _
 have p1:ZiM TEL STS (.tup ss) (.ref M.length) (M ++ [.ins TEL []]) = .ok .non (M ++ [.ins TEL [(STS,.tup ss)]]):=by
  simp only [ZfN,g0]
  rw [if_pos ⟨trivial,by simp⟩,show Zgg STS (.tup ss) [] = [(STS,.tup ss)] from rfl,s1]
 have g1:(M ++ [MO.ins TEL [(STS,.tup ss)],.lst []])[M.length]? = some (.ins TEL [(STS,.tup ss)]):=Zam _ _ _
 have p2:ZiM TEL ASK (.ref (M.length + 1)) (.ref M.length) (M ++ [.ins TEL [(STS,.tup ss)],.lst []]) = .ok .non (M ++ [ZaF ss (M.length + 1),.lst []]):=by
  simp only [ZfN,g1]
  rw [if_pos ⟨trivial,by simp⟩,show Zgg ASK (.ref (M.length + 1)) [(STS,.tup ss)] = [(STS,.tup ss),(ASK,.ref (M.length + 1))] from rfl]
  exact congrArg (R3.ok D.non) (Zii M [MO.ins TEL [(STS,.tup ss)],.lst []] 0 _)
 refine (ZqL (env:=[some (.ref M.length),some (.ref m)]) (env':=[some (.ref M.length),some (.ref m)]) (M':=M ++ [ZaF ss (M.length + 1),.lst []]) ?_).trans ?_
 ·refine (Zj (ZdG (Zm (ZcG rfl (ZiN (Zt hM _))) rfl p1))).trans (ZdG (Zm (a:=.ref (M.length + 1)) (M1:=M ++ [.ins TEL [(STS,.tup ss)],.lst []]) ?_ rfl p2))
  simp
 ·have e:(M ++ [ZaF ss (M.length + 1),.lst []]).take (M ++ [MO.ins TEL []]).length = M ++ [ZaF ss (M.length + 1)]:=by
   rw [show M ++ [ZaF ss (M.length + 1),.lst []] = (M ++ [ZaF ss (M.length + 1)]) ++ [.lst []] by simp]
   exact List.take_left' (by simp)
  unfold Zcv
  rw [e,if_neg]
  simp [Zfa,belowL,below,ZaF]
theorem Zea {f:E3} {env:Zaf} {M M':Store} {d:D} (h:f env M = .ok d M'):eNo f env M = .ok d M':=by simp only [eNo,h]
theorem ZkQ {f:EL3} {env:Zaf} {M M':Store} {d:List D} (h:f env M = .ok d M'):Zjo f env M = .ok d M':=by simp only [Zjo,h]
theorem Zbz {f:S3} {env e:Zaf} {M M':Store} (h:f env M = .nx e M'):sNo f env M = .nx e M':=by rw [sNo,h]
theorem Zrp {f:S3} {env:Zaf} {M M':Store} {d:D} (h:f env M = .rt d M'):sNo f env M = .rt d M':=by rw [sNo,h]
theorem ZgT {f g:S3} {env:Zaf} {M M':Store} {x:X3} (h:f env M = .exc x M'):Zv f g env M = .exc x M':=by rw [Zv,h]
theorem Zio {ps n:Nat} {body:S3} {ds:List D} {env:Zaf} {M M':Store} {x:X3} (h:body env M = .exc x M') (hl:ds.length = ps:=by rfl) (he:ds.map some ++ List.replicate (n - ps) none = env:=by rfl):mkF ps n body ds M = .exc x M':=by
 subst he; rw [mkF,if_pos hl,h]
theorem ZfI {c:List Nat} {g:EL3} {env:Zaf} {M M1:Store} {d:D} (h:g env M = .ok [d] M1):Ze1 c g env M = .exc ⟨c,.ref M1.length⟩ (M1 ++ [.ins (0 :: c) []]):=by rw [Ze1,h]
theorem Zm6 {f:E3} {i:Nat} {env:Zaf} {M M':Store} {x:X3} (h:f env M = .exc x M'):Zaj i f env M = .exc x M':=by rw [Zaj,h]
theorem Zpt {cs:List (List Nat)} {j:Nat} {b g:S3} {env e:Zaf} {M M':Store} (h:b env M = .nx e M'):Zj7 cs j b g env M = .nx e M':=by rw [Zj7,h]
theorem ZmE {cs:List (List Nat)} {j:Nat} {b g:S3} {env e1 e2:Zaf} {M M' M2:Store} {x:X3} (h:b env M = .exc x M') (hc:cs.contains x.cls = true) (hg:g (env.set j (some x.arg)) M' = .nx e1 M2) (he:e1.set j none = e2):Zj7 cs j b g env M = .nx e2 M2:=by
 rw [Zj7,h]; simp only [hc,if_true,hg,he]
theorem ZlF {yes no:List (List Nat)} {c:List Nat} {M:Store} {n:Nat} {fs:List (List Nat × D)} (h:M[n]? = some (.ins (0 :: c) fs)) (hy:yes.contains c = true):Zbw yes no (.ref n) M = .ok (.bl true) M:=by simp only [Zbw,h,hy,if_true]
theorem Zpf {yes no:List (List Nat)} {c:List Nat} {M:Store} {n:Nat} {fs:List (List Nat × D)} (h:M[n]? = some (.ins (0 :: c) fs)) (hy:yes.contains c = false) (hn:no.contains c = true):Zbw yes no (.ref n) M = .ok (.bl false) M:=by
 simp only [Zbw,h,hy,hn,if_true,Bool.false_eq_true,if_false]
noncomputable def ZfZ:Nat → D → Bool
 | _,.int _=>true
 | _,.str _=>true
 | _,.bl _=>true
 | n + 1,.tup ds=>decide (ds.length ≤ 1000) && ds.all (ZfZ n)
 | _,_=>false
theorem ZnP:∀ (n:Nat) (d:D) (M:Store),ZfZ n d = true → ZaB (n + 1) [d,d] M = .ok (.bl true) M:=by
 intro n
 induction n with
 | zero=>
  intro d M h
  cases d with
  | str x=>simp [ZaB,ZaU,Zv,Zaj,Zax,sIf,Zan,ZaR,mkF,Zcv,below,belowL,ZcC]
  | int i=>simp [ZaB,ZaU,Zv,Zaj,Zax,sIf,Zan,ZaR,mkF,Zcv,below,belowL,ZcC]
  | bl b=>simp [ZaB,ZaU,Zv,Zaj,Zax,sIf,Zan,ZaR,mkF,Zcv,below,belowL,ZcC]
  | _=>simp [ZfZ] at h
 | succ n ih=>
  intro d M h
  cases d with
  | str x=>simp [ZaB,ZaU,Zv,Zaj,Zax,sIf,Zan,ZaR,mkF,Zcv,below,belowL,ZcC]
  | int i=>simp [ZaB,ZaU,Zv,Zaj,Zax,sIf,Zan,ZaR,mkF,Zcv,below,belowL,ZcC]
  | bl b=>simp [ZaB,ZaU,Zv,Zaj,Zax,sIf,Zan,ZaR,mkF,Zcv,below,belowL,ZcC]
  | tup ds=>
   simp only [ZfZ,Bool.and_eq_true,decide_eq_true_eq,List.all_eq_true] at h
   obtain ⟨hl,hd⟩:=h
   show mkF 2 2 (ZaU (ZaB (n + 1))) [.tup ds,.tup ds] M = _
   generalize ZaB (n + 1) = F at ih
   have lc:=ZrQ (α:=Nat) (enc:=fun k=>D.int (0 + (k:Int))) (h:=fun _=>D.bl true) (own:=1) (i:=2) (it:=ZcP (Zaz ZaS (Za (Zb 1) (Zf)))) (elt:=Zae F (Za (e2 Zq (Zb 0) (Zb 2)) (Za (e2 Zq (Zb 1) (Zb 2)) (Zf)))) (env:=[some (.tup ds),some (.tup ds)]) (M:=M) (M1:=M) (lock:=none) (as:=List.range ds.length)
    (by
     have:(ds.length:Int) ≤ 1000000 ∧ -1000000 ≤ (ds.length:Int):=⟨iN [_] [] 1 0xf42405b0883e83b001 T1 hl,iN [_] [] 0 615291837336 T1⟩
     simp [this,ZeL]) (fun _ h=>by cases h)
    (fun k hk M=>by
     have hk':k < ds.length:=by simpa using hk
     have hg:ds[k]? = some ds[k]:=by simp [hk']
     have:=ih ds[k] M (hd _ (List.getElem_mem hk'))
     have gk:ZaN ds (0 + (k:Int)) = some ds[k]:=by rw [Int.zero_add,ZbO,hg]
     simp only [Zae,Za,e2,Zb,Zf,List.cons_append,List.nil_append,List.replicate,List.set,List.getElem?_cons_zero,List.getElem?_cons_succ,R3.bind,ZbM,ZbN,ZbK,Zbf,gk,this]) (by simp; exact lA 1 0x186a05b003e83b001 T1 hl)
   refine Rt.pure (G:=[.lst ((List.range ds.length).map fun _=>D.bl true)]) (env:=[some (.tup ds),some (.tup ds)]) ?_ rfl
   unfold ZaU
   refine Zch ((Zbc (M':=M) (by exact rfl)).trans ((Zj (Zau (M':=M) (by exact rfl))).trans (Zaw ((ZcK (M1:=M) (by simp)).trans (ZcG lc ?_)))))
   simp [allB,isB,isT]
  | _=>simp [ZfZ] at h
theorem ZlN (n:Nat) (ds:List D) (p q:Nat) (M:Store) (hp:M[p]? = some (.lst ds)) (hq:M[q]? = some (.lst ds)) (h:∀ d ∈ ds,ZfZ n d = true) (hl:ds.length ≤ 10000):ZaB (n + 2) [.ref p,.ref q] M = .ok (.bl true) M:=by
 show mkF 2 2 (ZaU (ZaB (n + 1))) [.ref p,.ref q] M = _
 have ih:=ZnP n
 generalize ZaB (n + 1) = F at ih
 have b:(ds.length:Int) ≤ 1000000 ∧ -1000000 ≤ (ds.length:Int):=⟨iN [_] [] 1 0xf42405b08827104b001 T1 hl,iN [_] [] 0 615291837336 T1⟩
 have ir:ZcP (Zaz ZaS (Za (Zb 1) (Zf))) [some (.ref p),some (.ref q)] M = .ok ⟨(List.range ds.length).map fun (k:Nat)=>D.int (0 + (k:Int)),none⟩ M:=by simp [hq,b,ZeL]
 obtain ⟨es,le,re,hh⟩:=Zji (it:=⟨(List.range ds.length).map fun (k:Nat)=>D.int (0 + (k:Int)),none⟩) (i:=2) (n:=M.length) (elt:=Zae F (Za (e2 Zq (Zb 0) (Zb 2)) (Za (e2 Zq (Zb 1) (Zb 2)) (Zf)))) (R:=fun _ e=>e = .bl true) (env0:=[some (.ref p),some (.ref q),none]) ((List.range ds.length).map fun (k:Nat)=>D.int (0 + (k:Int))) [] [some (.ref p),some (.ref q),none] (M ++ [.lst []]) (fun _=>rfl)
  (fun d hd x=>by
   obtain ⟨k,hk,rfl⟩:=List.mem_map.mp hd
   have hk':k < ds.length:=by simpa using hk
   have hg:ds[k]? = some ds[k]:=by simp [hk']
   have:=h _ (List.getElem_mem hk')
   generalize ds[k] = e at hg this
   have gk:ZaN ds (0 + (k:Int)) = some e:=by rw [Int.zero_add,ZbO,hg]
   rw [show (M ++ [MO.lst []]).set M.length (.lst x) = M ++ [.lst x] by simp]
   have g1:=Zt hp [.lst x]
   have g2:=Zt hq [.lst x]
   refine ⟨.bl true,Zdd (a:=e) (b:=e) (M1:=M ++ [.lst x]) (M2:=M ++ [.lst x]) ?_ ?_ (ih e _ this),rfl⟩
   ·simp only [e2,Zb,List.set,List.getElem?_cons_zero,List.getElem?_cons_succ,R3.bind,ZbM,ZbN,ZbK,Zbf,g1,gk]
   ·simp only [e2,Zb,List.set,List.getElem?_cons_zero,List.getElem?_cons_succ,R3.bind,ZbM,ZbN,ZbK,Zbf,g2,gk])
  (fun _=>rfl) (by simp) (by simp; exact lA 1 0xf42405b0027104b001 T1 hl)
 have all:allB es = some true:=by
  have:∀ e ∈ es,e = .bl true:=fun e he=>by
   obtain ⟨j,hj,ej⟩:=List.mem_iff_getElem.mp he
   exact re j (((List.range ds.length).map fun (k:Nat)=>D.int (0 + (k:Int)))[j]'(by rw [← le]; exact hj)) e (List.getElem?_eq_getElem _) (by rw [← ej]; simp)
  unfold allB
  rw [if_pos (List.all_eq_true.mpr fun e he=>by rw [this e he]; rfl),List.all_eq_true.mpr fun e he=>by rw [this e he]; rfl]
 have lc:(eLC (ZcP (Zaz ZaS (Za (Zb 1) (Zf)))) 1 (Zdz 2) [] (Zae F (Za (e2 Zq (Zb 0) (Zb 2)) (Za (e2 Zq (Zb 1) (Zb 2)) (Zf))))) [some (.ref p),some (.ref q)] M = .ok (.ref M.length) (M ++ [.lst es]):=by
  rw [Ziy ir]
  refine Eq.trans hh ?_
  simp
 refine Rt.pure (G:=[.lst es]) (env:=[some (.ref p),some (.ref q)]) ?_ rfl
 unfold ZaU
 refine Zch ((Zbc (M':=M) (by simp [hq])).trans ((Zj (Zau (M':=M) (by simp [hp,hq]))).trans (Zaw ((ZcK (M1:=M) (by simp [hp,hq])).trans (ZcG lc ?_)))))
 simp [all]
theorem Zk0:∀ a b:List Int,Zc4 (a.map D.int) (b.map D.int) = decide (a = b)
 | [],[]=>by exact rfl
 | [],_ :: _=>by exact rfl
 | _ :: _,[]=>by exact rfl
 | x :: a,y :: b=>by
  simp only [List.map_cons,Zip,ZfJ,Zlx,ZkW,Zk2,Zlj,Zh8,Zk0 a b,List.cons.injEq,Bool.decide_and]
  rfl
theorem ZjT:∀ a b:List (Int × Int),Zc4 (a.map ZaM) (b.map ZaM) = decide (a = b)
 | [],[]=>by exact rfl
 | [],_ :: _=>by exact rfl
 | _ :: _,[]=>by exact rfl
 | (x1,x2) :: a,(y1,y2) :: b=>by
  simp only [List.map_cons,ZaM,Zip,ZfJ,Zlx,ZkW,Zk2,Zlj,Zh8,ZjT a b,List.cons.injEq,Prod.mk.injEq,Bool.decide_and,Bool.and_true]
  rfl
theorem Zoi (s t:Stt):deq (Zd s) (Zd t) = decide (s = t):=by
 obtain ⟨p,bs,cs⟩:=s
 obtain ⟨q,bs',cs'⟩:=t
 have e:((p:Int) == (q:Int)) = decide (p = q):=by
  by_cases h:p = q
  ·subst h; simp
  ·rw [decide_eq_false h]; exact beq_false_of_ne (fun z=>iN [_,_] [] 2 6666076031153 T1 z (Nat.lt_of_le_of_ne (iN [_,_] [] 1 4296542369 T1 z) h))
 simp only [Zd,Zac,Zab,Zlx,ZkW,Zk2,Zlj,Zh8,Zip,ZfJ,Zk0,ZjT,e,Stt.mk.injEq,Bool.decide_and,Bool.and_true]
theorem Zlq (s t:Stt) (M:Store):ZbJ (Zd s) (Zd t) M = .ok (.bl (!decide (s = t))) M:=by
 have h1:∀ s:Stt,∃ ds,Zd s = .tup ds ∧ ds.all (ZaI DEEP) = true:=fun s=>⟨_,rfl,by simp [ZfC,ZhI,Zgw,DEEP]⟩
 obtain ⟨ds,e1,p1⟩:=h1 s
 obtain ⟨es,e2,p2⟩:=h1 t
 have:=Zoi s t
 rw [e1,e2] at this ⊢
 simp only [Zlx,ZkW,Zk2,Zlj,Zh8] at this
 simp only [ZbJ,ZdV,Zd0,Zd8,ZdU,ZdX,p1,p2,Bool.and_self,if_true,this]
theorem Zc7 (s t:Stt) (M:Store):Zby [.tup [Zd s,Zd t]] M = .ok (.bl (!decide (s = t))) M:=
 (Zb6 (env:=[some (.tup [Zd s,Zd t])]) (M':=M) (Zaw (Zm (Zm rfl rfl rfl) (Zm rfl rfl rfl) (Zlq s t M)))).trans (ZcT rfl)
structure Tw (M:Store) (n1 a1 n2 a2:Nat) (s1 s2:List Stt) (t1 t2:List D):Prop where
 o1:M[n1]? = some (ZaF (s1.map Zd) a1)
 o2:M[n2]? = some (ZaF (s2.map Zd) a2)
 l1:M[a1]? = some (.lst t1)
 l2:M[a2]? = some (.lst t2)
 aa:a1 ≠ a2
 n11:n1 ≠ a1
 n12:n1 ≠ a2
 n21:n2 ≠ a1
 n22:n2 ≠ a2
section
variable {M:Store} {n1 a1 n2 a2:Nat} {s1 s2:List Stt} {t1 t2:List D}
noncomputable def asked (M:Store) (a1 a2:Nat) (t1 t2:List D):Store:=(M.set a1 (.lst t1)).set a2 (.lst t2)
theorem ZeI:(asked M a1 a2 t1 t2).length = M.length:=by simp [asked]
theorem ZcV {u1 u2:List D} (h:a1 ≠ a2):asked (asked M a1 a2 t1 t2) a1 a2 u1 u2 = asked M a1 a2 u1 u2:=by
 unfold asked
 rw [List.set_comm _ _ (Ne.symm h),List.set_set,List.set_set]
theorem ZfT {i:Nat} {o x:MO} (h:M[i]? = some o):(M.set i x)[i]? = some x:=List.getElem?_set_self (List.getElem?_eq_some_iff.mp h).1
theorem Tw.put (T:Tw M n1 a1 n2 a2 s1 s2 t1 t2) (u1 u2:List D):Tw (asked M a1 a2 u1 u2) n1 a1 n2 a2 s1 s2 u1 u2:=by
 obtain ⟨o1,o2,l1,l2,aa,n11,n12,n21,n22⟩:=T
 unfold asked
 refine ⟨?_,?_,?_,?_,aa,n11,n12,n21,n22⟩
 ·rw [List.getElem?_set_ne (Ne.symm n12),List.getElem?_set_ne (Ne.symm n11)]; exact o1
 ·rw [List.getElem?_set_ne (Ne.symm n22),List.getElem?_set_ne (Ne.symm n21)]; exact o2
 ·rw [List.getElem?_set_ne (Ne.symm aa)]; exact ZfT l1
 ·exact ZfT (o:=.lst t2) (by rw [List.getElem?_set_ne aa]; exact l2)
theorem ZgX (T:Tw M n1 a1 n2 a2 s1 s2 t1 t2):asked M a1 a2 t1 t2 = M:=by
 have e1:M.set a1 (.lst t1) = M:=by
  apply List.ext_getElem?
  intro k
  by_cases h:a1 = k
  ·subst h; rw [ZfT T.l1,T.l1]
  ·rw [List.getElem?_set_ne h]
 have e2:M.set a2 (.lst t2) = M:=by
  apply List.ext_getElem?
  intro k
  by_cases h:a2 = k
  ·subst h; rw [ZfT T.l2,T.l2]
  ·rw [List.getElem?_set_ne h]
 unfold asked
 rw [e1,e2]
theorem Zfx (T:Tw M n1 a1 n2 a2 s1 s2 t1 t2) {k:Nat} {x y:Stt} (hx:s1[k]? = some x) (hy:s2[k]? = some y) (z1:t1.length < 1000000) (z2:t2.length < 1000000):
  Zbh [.ref n1,.ref n2,.int (k:Int)] M = .ok (.tup [Zd x,Zd y]) (asked M a1 a2 (t1 ++ [.int (k:Int)]) (t2 ++ [.int (k:Int)])):=by
 obtain ⟨o1,o2,l1,l2,aa,n11,n12,n21,n22⟩:=T
 have o2':(M.set a1 (.lst (t1 ++ [.int (k:Int)])))[n2]? = some (ZaF (s2.map Zd) a2):=by rw [List.getElem?_set_ne (Ne.symm n21)]; exact o2
 have l2':(M.set a1 (.lst (t1 ++ [.int (k:Int)])))[a2]? = some (.lst t2):=by rw [List.getElem?_set_ne aa]; exact l2
 have r1:=Zdy (k:=k) (d:=Zd x) o1 l1 n11 (by rw [List.getElem?_map,hx]; rfl) z1
 have r2:=Zdy (k:=k) (d:=Zd y) o2' l2' n22 (by rw [List.getElem?_map,hy]; rfl) z2
 refine (Zb6 (env:=[some (.ref n1),some (.ref n2),some (.int (k:Int))]) (d:=.tup [Zd x,Zd y]) (M':=asked M a1 a2 (t1 ++ [.int (k:Int)]) (t2 ++ [.int (k:Int)])) (Zaw (ZaL (Zo (Zbx rfl (Zbv o1 rfl rfl) rfl r1) (Zo (Zbx rfl (Zbv o2' rfl rfl) rfl r2) rfl)) rfl))).trans (ZcT ZeI)
end
noncomputable def hv (eq:Nat → Bool):Nat → Nat → Nat → List Nat × Nat
 | 0,low,_=>([],low)
 | f + 1,low,high=>if high = low + 1 then ([],low) else if eq ((low + high) / 2) then ((low + high) / 2 :: (hv eq f ((low + high) / 2) high).1,(hv eq f ((low + high) / 2) high).2) else ((low + high) / 2 :: (hv eq f low ((low + high) / 2)).1,(hv eq f low ((low + high) / 2)).2)
theorem whT {c:E3} {body:S3} {n:Nat} {env e:Zaf} {M M1 M':Store} (h:c env M = .ok (.bl true) M1) (h':body env M1 = .nx e M'):ZdC c body (n + 1) env M = ZdC c body n e M':=by
 show (match c env M with | .ok (.bl true) M1=>_ | .ok (.bl false) M1=>_ | .exc x M1=>_ | _=>_) = _
 rw [h]; simp only [h']
theorem whF {c:E3} {body:S3} {n:Nat} {env:Zaf} {M M1:Store} (h:c env M = .ok (.bl false) M1):ZdC c body (n + 1) env M = .nx env M1:=by
 show (match c env M with | .ok (.bl true) M1=>_ | .ok (.bl false) M1=>_ | .exc x M1=>_ | _=>_) = _
 rw [h]
noncomputable abbrev Zl4 (d0:D) (n1 n2 low:Nat) (d4:D) (high:Nat) (d6 alike unlike:D) (x9 x10:Option D):Zaf:=[some d0,some (.ref n1),some (.ref n2),some (.int (low:Int)),some d4,some (.int (high:Int)),some d6,some alike,some unlike,x9,x10]
theorem Zjt {n1 a1 n2 a2:Nat} {s1 s2:List Stt} (d0 d4 d6:D) (hlen:s2.length = s1.length):
  ∀ (f low high fuel:Nat) (M:Store) (t1 t2:List D) (x9 x10:Option D) (x xh yh:Stt),high - low ≤ f → f < fuel → low < high → high < s1.length → Tw M n1 a1 n2 a2 s1 s2 t1 t2 → t1.length + f < 1000000 → t2.length + f < 1000000 →
   s1[low]? = some x → s1[high]? = some xh → s2[high]? = some yh →
  ∃ x9' x10' x' u v,s1[(hv (fun m=>decide (s1[m]? = s2[m]?)) f low high).2]? = some x' ∧ s1[(hv (fun m=>decide (s1[m]? = s2[m]?)) f low high).2 + 1]? = some u ∧ s2[(hv (fun m=>decide (s1[m]? = s2[m]?)) f low high).2 + 1]? = some v ∧
   ZdC (e2 ZbJ (Zb 5) (e2 Zay (Zb 3) (eC (.int 1)))) (Zv (Zaj 9 (e2 Zad (e2 Zay (Zb 3) (Zb 5)) (eC (.int 2)))) (Zv (Zaj 10 (Zae Zbh (Za (Zb 1) (Za (Zb 2) (Za (Zb 9) (Zf)))))) (sIf (Zae Zby (Za (Zb 10) (Zf))) (Zv (Zaj 5 (Zb 9)) (Zaj 8 (Zb 10))) (Zv (Zaj 3 (Zb 9)) (Zaj 7 (e2 Zq (Zb 10) (eC (.int 0)))))))) fuel
    (Zl4 d0 n1 n2 low d4 high d6 (Zd x) (.tup [Zd xh,Zd yh]) x9 x10) M =
   .nx (Zl4 d0 n1 n2 (hv (fun m=>decide (s1[m]? = s2[m]?)) f low high).2 d4 ((hv (fun m=>decide (s1[m]? = s2[m]?)) f low high).2 + 1) d6 (Zd x') (.tup [Zd u,Zd v]) x9' x10')
    (asked M a1 a2 (t1 ++ (hv (fun m=>decide (s1[m]? = s2[m]?)) f low high).1.map fun m=>.int (m:Int)) (t2 ++ (hv (fun m=>decide (s1[m]? = s2[m]?)) f low high).1.map fun m=>.int (m:Int))):=by
 intro f
 induction f with
 | zero=>intro low high fuel M t1 t2 x9 x10 x xh yh h1 h2 h3; exact (lC 3 0x602c101e2011011 T1 h3 h1 (sbA _ _)).elim
 | succ f ih=>
  intro low high fuel M t1 t2 x9 x10 x xh yh h1 h2 h3 h4 T z1 z2 hx hxh hyh
  cases fuel with
  | zero=>exact (lA 1 116001809 T1 h2).elim
  | succ fuel=>
   by_cases q:high = low + 1
   ·subst q
    have e:hv (fun m=>decide (s1[m]? = s2[m]?)) (f + 1) low (low + 1) = ([],low):=by simp [hv]
    rw [e]
    refine ⟨x9,x10,x,xh,yh,hx,hxh,hyh,?_⟩
    simp only [List.map_nil,List.append_nil]
    rw [ZgX T]
    refine whF (Zm rfl (Zm rfl rfl rfl) ?_)
    simp
   ·have c:(e2 ZbJ (Zb 5) (e2 Zay (Zb 3) (eC (.int 1)))) (Zl4 d0 n1 n2 low d4 high d6 (Zd x) (.tup [Zd xh,Zd yh]) x9 x10) M = .ok (.bl true) M:=by
     refine Zm rfl (Zm rfl rfl rfl) ?_
     have:¬ ((high:Int) = (low:Int) + 1):=(fun z=>iN [_,_] [] 2 0x6a1c011a18c08b1 T1 z (Nat.lt_of_le_of_ne (iN [_,_] [] 1 0xa1c00a18c08a1 T1 z) q))
     simp [this]
    have lm:low < (low + high) / 2:=Nat.lt_of_not_le fun z=>lC 3 0x6a0c02d21c112a1c111002 T1 z (Nat.lt_of_le_of_ne (lB 1 6991908881 T1 h3) (Ne.symm q)) (Nat.lt_mul_div_succ _ (by decide))
    have mh:(low + high) / 2 < high:=lC 2 0x21120c102d011011 T1 lm (Nat.mul_div_le _ _)
    have hm:(e2 Zad (e2 Zay (Zb 3) (Zb 5)) (eC (.int 2))) (Zl4 d0 n1 n2 low d4 high d6 (Zd x) (.tup [Zd xh,Zd yh]) x9 x10) M = .ok (.int (((low + high) / 2:Nat):Int)) M:=by
     refine Zm (Zm rfl rfl rfl) rfl ?_
     simp
    have hv':hv (fun m=>decide (s1[m]? = s2[m]?)) (f + 1) low high = if decide (s1[(low + high) / 2]? = s2[(low + high) / 2]?) then ((low + high) / 2 :: (hv (fun m=>decide (s1[m]? = s2[m]?)) f ((low + high) / 2) high).1,(hv (fun m=>decide (s1[m]? = s2[m]?)) f ((low + high) / 2) high).2) else ((low + high) / 2 :: (hv (fun m=>decide (s1[m]? = s2[m]?)) f low ((low + high) / 2)).1,(hv (fun m=>decide (s1[m]? = s2[m]?)) f low ((low + high) / 2)).2):=by
     show (if high = low + 1 then _ else _) = _
     rw [if_neg q]
    rw [hv']
    generalize (low + high) / 2 = m at *
    have gu:s1[m]? = some (s1[m]'(Nat.lt_trans mh h4)):=List.getElem?_eq_getElem _
    have gv:s2[m]? = some (s2[m]'(lD 3 0x301233121111011 T1 mh h4 hlen)):=List.getElem?_eq_getElem _
    generalize s1[m]'(Nat.lt_trans mh h4) = u at gu
    generalize s2[m]'(lD 3 0x301233121111011 T1 mh h4 hlen) = v at gv
    have ba:=Zfx T gu gv (lB 1 0xf42405b01f42405ba1c0c11 T1 z1) (lB 1 0xf42405b01f42405ba1c0c11 T1 z2)
    have T':=T.put (t1 ++ [.int (m:Int)]) (t2 ++ [.int (m:Int)])
    have un:=Zc7 u v (asked M a1 a2 (t1 ++ [.int (m:Int)]) (t2 ++ [.int (m:Int)]))
    have st1:∀ g:S3,Zv (Zaj 9 (e2 Zad (e2 Zay (Zb 3) (Zb 5)) (eC (.int 2)))) (Zv (Zaj 10 (Zae Zbh (Za (Zb 1) (Za (Zb 2) (Za (Zb 9) (Zf)))))) g) (Zl4 d0 n1 n2 low d4 high d6 (Zd x) (.tup [Zd xh,Zd yh]) x9 x10) M = g (Zl4 d0 n1 n2 low d4 high d6 (Zd x) (.tup [Zd xh,Zd yh]) (some (.int (m:Int))) (some (.tup [Zd u,Zd v]))) (asked M a1 a2 (t1 ++ [.int (m:Int)]) (t2 ++ [.int (m:Int)])):=fun g=>
     (Zj (Zw hm)).trans (Zj (Zw (Zb7 rfl rfl rfl ba)))
    rw [gu,gv]
    by_cases uv:u = v
    ·subst uv
     rw [if_pos (by simp)]
     rw [decide_eq_true rfl] at un
     obtain ⟨x9',x10',x',u',v',g1,g2,g3,w⟩:=ih m high fuel _ (t1 ++ [.int (m:Int)]) (t2 ++ [.int (m:Int)]) (some (.int (m:Int))) (some (.tup [Zd u,Zd u])) u xh yh (lF 4 0x34002c501514c21a3c2011011 T1 lm h1 (Nat.sub_add_cancel (Nat.le_of_lt mh)) (sbA _ _)) (lB 1 1106520968209 T1 h2) mh h4 T' (by simp; exact lB 1 0xf42405b1a0cc1f42405ba1c0c11 T1 z1) (by simp; exact lB 1 0xf42405b1a0cc1f42405ba1c0c11 T1 z2) gu hxh hyh
     refine ⟨x9',x10',x',u',v',g1,g2,g3,(whT c ((st1 _).trans ((Zbp (Zdf rfl un)).trans ((Zj (Zw rfl)).trans (Zw (Zm rfl rfl rfl)))))).trans (w.trans ?_)⟩
     rw [ZcV T.aa]
     simp
    ·rw [if_neg (by simpa using uv)]
     rw [decide_eq_false uv] at un
     obtain ⟨x9',x10',x',u',v',g1,g2,g3,w⟩:=ih low m fuel _ (t1 ++ [.int (m:Int)]) (t2 ++ [.int (m:Int)]) (some (.int (m:Int))) (some (.tup [Zd u,Zd v])) x u v (lF 4 0x34052c101054c21a3c2011011 T1 mh h1 (Nat.sub_add_cancel (Nat.le_of_lt lm)) (sbA _ _)) (lB 1 1106520968209 T1 h2) lm (Nat.lt_trans mh h4) T' (by simp; exact lB 1 0xf42405b1a0cc1f42405ba1c0c11 T1 z1) (by simp; exact lB 1 0xf42405b1a0cc1f42405ba1c0c11 T1 z2) hx gu gv
     refine ⟨x9',x10',x',u',v',g1,g2,g3,(whT c ((st1 _).trans ((Zbc (Zdf rfl un)).trans ((Zj (Zw rfl)).trans (Zw rfl))))).trans (w.trans ?_)⟩
     rw [ZcV T.aa]
     simp
theorem ZjZ (n:Nat) (r:Zd9):below n (Zr r) = true:=by
 unfold Zr below
 induction r with
 | nil=>rfl
 | cons x r ih=>
  simp only [List.map_cons,belowL,ih,Bool.and_true]
  cases x <;> rfl
noncomputable def ZmL:S3:=(sIf (e2 ZaK (Zb 4) (eC (.str [112,117,116]))) (ZaR (ZcR tyL ZaV (Zb 1) (Za (Zbg (Za (Zb 4) (Za (Zb 6) (Za (e2 Zq (ZaY (Za (e2 Zai (e2 Zad (Zb 5) (eC (.int 8))) (eC (.int 3))) (Za (e2 Zcp (eC (.int 0)) (e2 Zai (e2 Zad (Zb 5) (eC (.int 8))) (e2 Zen (eC (.int 10)) (eC (.int 40))))) (Za (e2 Zai (e2 Zad (Zb 5) (eC (.int 8))) (e2 Zen (eC (.int 10)) (eC (.int 40)))) (Zf))))) (e2 Zai (Zb 7) (eC (.int 3)))) (Zf))))) (Zf)))) (sIf (e2 Zf7 (Zb 4) (ZaY (Za (eC (.str [97,100,100])) (Za (eC (.str [115,117,98])) (Za (eC (.str [109,111,114,101])) (Zf)))))) (ZaR (ZcR tyL ZaV (Zb 1) (Za (Zbg (Za (Zb 4) (Za (Zb 6) (Za (Zb 7) (Za (Zb 8) (Zf)))))) (Zf)))) (sIf (e2 Zf7 (Zb 4) (ZaY (Za (eC (.str [103,101,116])) (Za (eC (.str [115,101,116])) (Zf))))) (ZaR (ZcR tyL ZaV (Zb 1) (Za (Zbg (Za (Zb 4) (Za (Zb 6) (Za (Zb 7) (Zf))))) (Zf)))) (sIf (e2 ZaK (Zb 4) (eC (.str [119,104,101,110]))) (ZaR (ZcR tyL ZaV (Zb 1) (Za (Zbg (Za (Zb 4) (Za (Zb 6) (Za (Zb 9) (Zf))))) (Zf)))) (sIf (e2 ZaK (Zb 4) (eC (.str [106,117,109,112]))) (ZaR (ZcR tyL ZaV (Zb 1) (Za (Zbg (Za (Zb 4) (Za (Zb 9) (Zf)))) (Zf)))) (ZaR (ZcR tyL ZaV (Zb 1) (Za (Zbg (Za (Zb 4) (Za (Zb 6) (Zf)))) (Zf)))))))))
noncomputable def ZoT:S3:=(Zv (Zaj 4 (e2 Zq (ZaY (Za (eC (.str [112,117,116])) (Za (eC (.str [97,100,100])) (Za (eC (.str [115,117,98])) (Za (eC (.str [109,111,114,101])) (Za (eC (.str [103,101,116])) (Za (eC (.str [115,101,116])) (Za (eC (.str [119,104,101,110])) (Za (eC (.str [106,117,109,112])) (Za (eC (.str [116,101,108,108])) (Za (eC (.str [112,117,116])) (Zf)))))))))))) (e2 Zai (Zb 3) (eC (.int 10))))) (Zv (Zaj 5 (e2 Zad (Zb 3) (eC (.int 10)))) (Zv (Zaj 6 (e2 Zai (Zb 5) (eC (.int 8)))) (Zv (Zaj 7 (e2 Zai (e2 Zad (Zb 5) (eC (.int 8))) (eC (.int 8)))) (Zv (Zaj 8 (e2 Zai (e2 Zad (Zb 5) (eC (.int 64))) (eC (.int 8)))) (Zv (Zaj 9 (e2 Zay (e2 Zay (Zb 2) (eC (.int 1))) (e2 Zai (e2 Zad (Zb 5) (eC (.int 512))) (e2 Zcp (Zaz ZaS (Za (Zb 0) (Zf))) (Zb 2))))) (Zv (sIf (e2 ZaK (e2 Zai (e2 Zad (Zb 5) (eC (.int 5))) (eC (.int 4))) (eC (.int 1))) (Zaj 9 (e2 Zai (e2 Zad (Zb 5) (eC (.int 512))) (e2 Zay (Zaz ZaS (Za (Zb 0) (Zf))) (eC (.int 1))))) (Zan)) ZmL)))))))
noncomputable def kindB (j:Nat):List Nat:=[[112,117,116],[97,100,100],[115,117,98],[109,111,114,101],[103,101,116],[115,101,116],[119,104,101,110],[106,117,109,112],[116,101,108,108],[112,117,116]].getD j []
theorem Zba {i j:Int} {M:Store} (h:0 < j ∧ j < 1073741824):Zad (.int i) (.int j) M = .ok (.int (i / j)) M:=by simp only [Zh2,if_pos h]
theorem ZaX {g:EL3} {env:Zaf} {M M':Store} {ds:List D} (h:g env M = .ok ds M') (hl:decide (ds.length ≤ 100) = true):ZaY g env M = .ok (.ref M'.length) (M' ++ [.lst ds]):=by
 have z:ds.length ≤ SZ:=Nat.le_trans (of_decide_eq_true hl) (by decide)
 simp only [ZaY,h,R3.bind,if_pos z,alloc]
noncomputable def ZiQ:List D:=[.str [112,117,116],.str [97,100,100],.str [115,117,98],.str [109,111,114,101],.str [103,101,116],.str [115,101,116],.str [119,104,101,110],.str [106,117,109,112],.str [116,101,108,108],.str [112,117,116]]
theorem ten:∀ {j:Nat},j < 10 → j = 0 ∨ j = 1 ∨ j = 2 ∨ j = 3 ∨ j = 4 ∨ j = 5 ∨ j = 6 ∨ j = 7 ∨ j = 8 ∨ j = 9:=by decide
theorem Zis {c:Int} {j:Nat} (hj:c % 10 = j) (lj:j < 10):ZaN ZiQ (c % 10) = some (.str (kindB j)):=by
 rw [hj,ZbO]
 rcases ten lj with h | h | h | h | h | h | h | h | h | h <;> subst h <;> rfl
theorem ZcI {a:D} {M:Store} {ys:List D} {b:Bool} (hf:(Zbb a && ys.all Zbb) = true) (hb:(ys.any fun y=>deq y a) = b):Zf7 a (.ref M.length) (M ++ [.lst ys]) = .ok (.bl b) (M ++ [.lst ys]):=by
 simp only [Znx,Zam,if_pos hf,hb]
theorem Zdc {env:Zaf} {M M':Store} {n:Nat} {xs:List D} {d:D} {o t:E3} (ho:o env M = .ok (.ref n) M) (hM:M[n]? = some (.lst xs)) (ht:t env M = .ok d M') (hM':M'[n]? = some (.lst xs)) (hl:xs.length < SZ):
  ZaR (ZcR tyL ZaV o (Za t (Zf))) env M = .nx env (M'.set n (.lst (xs ++ [d]))):=by
 have e:ZcR tyL ZaV o (Za t (Zf)) env M = .ok .non (M'.set n (.lst (xs ++ [d]))):=by
  simp only [ZcR,ho,R3.bind,Zmt,hM,Za,ht,Zf,Zg8,hM',if_pos hl,if_true]
 rw [ZaR,e]
noncomputable def lsA:List D:=[.str [97,100,100],.str [115,117,98],.str [109,111,114,101]]
noncomputable def lsB:List D:=[.str [103,101,116],.str [115,101,116]]
noncomputable def nsB (p:Int):List D:=[D.int (p / 8 % 3),D.int (-(p / 8 % 10000000000000000000000000000000000000000)),D.int (p / 8 % 10000000000000000000000000000000000000000)]
theorem three (b:Nat) (p:Int):∃ v:Int,ZaN (nsB p) ((b:Int) % 3) = some (.int v):=by
 obtain ⟨i,e,l⟩:=ZbI b 3 (by decide)
 rw [show (b:Int) % 3 = i from e,ZbO]
 rcases (by decide:∀ i:Nat,i < 3 → i = 0 ∨ i = 1 ∨ i = 2) i l with h | h | h <;> subst h <;> exact ⟨_,rfl⟩
theorem pw {env:Zaf} {M:Store}:e2 Zen (eC (.int 10)) (eC (.int 40)) env M = .ok (.int 10000000000000000000000000000000000000000) M:=by simp
theorem ZpY {p v:Int} {a b:Nat} {M:Store} {x0 x1 x2 x3 x8 x9 x10:Option D} (hv:ZaN (nsB p) ((b:Int) % 3) = some (.int v)):
  (Zbg (Za (Zb 4) (Za (Zb 6) (Za (e2 Zq (ZaY (Za (e2 Zai (e2 Zad (Zb 5) (eC (.int 8))) (eC (.int 3))) (Za (e2 Zcp (eC (.int 0)) (e2 Zai (e2 Zad (Zb 5) (eC (.int 8))) (e2 Zen (eC (.int 10)) (eC (.int 40))))) (Za (e2 Zai (e2 Zad (Zb 5) (eC (.int 8))) (e2 Zen (eC (.int 10)) (eC (.int 40)))) (Zf))))) (e2 Zai (Zb 7) (eC (.int 3)))) (Zf))))) [x0,x1,x2,x3,some (.str [112,117,116]),some (.int p),some (.int a),some (.int b),x8,x9,x10] M = .ok (.tup [.str [112,117,116],.int a,.int v]) (M ++ [.lst (nsB p)]):=
 ZaL (Zo rfl (Zo rfl (Zo (Zm (a:=.ref M.length) (M1:=M ++ [.lst (nsB p)]) (ZaX (Zo (Zm (Zm rfl rfl (Zba (by decide))) rfl (ZaT (by decide))) (Zo (Zm rfl (Zm (Zm rfl rfl (Zba (by decide))) pw (ZaT (by decide))) (by simp)) (Zo (Zm (Zm rfl rfl (Zba (by decide))) pw (ZaT (by decide))) rfl))) rfl) (Zm rfl rfl (ZaT (by decide))) (Zci (Zam _ _ _) hv)) rfl))) rfl
theorem Zs0 (n m0:Nat) (k c many:Int) (cs:List D) (M:Store) (hn:M[n]? = some (.lst cs)) (hl:(cs.length:Int) = many) (hk:k < many) (h0:0 ≤ k) (x4 x5 x6 x7 x8 x9 x10:Option D) (j:Nat) (hj:c % 10 = j) (lj:j < 10):
  ∃ G,ZoT [some (.ref n),some (.ref m0),some (.int k),some (.int c),x4,x5,x6,x7,x8,x9,x10] M = ZmL [some (.ref n),some (.ref m0),some (.int k),some (.int c),some (.str (kindB j)),some (.int (c / 10)),some (.int (c / 10 % 8)),some (.int (c / 10 / 8 % 8)),some (.int (c / 10 / 64 % 8)),some (.int (if c / 10 / 5 % 4 = 1 then c / 10 / 512 % (many + 1) else k + 1 + c / 10 / 512 % (many - k))),x10] (M ++ [G]):=by
 refine ⟨.lst ZiQ,?_⟩
 unfold ZoT
 generalize hG:MO.lst ZiQ = G
 have hnG:(M ++ [G])[n]? = some (.lst cs):=Zt hn _
 rw [Zj (Zw (M':=M ++ [G]) (d:=.str (kindB j)) (Zm (a:=.ref M.length) (M1:=M ++ [G]) (by rw [← hG]; exact ZaX rfl rfl) (Zm rfl rfl (ZaT (by decide))) (Zci (xs:=ZiQ) (by rw [← hG]; exact Zam _ _ _) (Zis hj lj))))]
 rw [Zj (Zw (M':=M ++ [G]) (d:=.int (c / 10)) (Zm rfl rfl (Zba (by decide))))]
 rw [Zj (Zw (M':=M ++ [G]) (d:=.int (c / 10 % 8)) (by exact rfl))]
 rw [Zj (Zw (M':=M ++ [G]) (d:=.int (c / 10 / 8 % 8)) (Zm (Zm rfl rfl (Zba (by decide))) rfl (ZaT (by decide))))]
 rw [Zj (Zw (M':=M ++ [G]) (d:=.int (c / 10 / 64 % 8)) (Zm (Zm rfl rfl (Zba (by decide))) rfl (ZaT (by decide))))]
 have p1:0 < many - k:=iN [] [_,_] 1 535367825 T1 hk
 have p2:0 < many + 1:=iN [_] [_] 1 690660313249 T1 hl
 rw [Zj (Zw (M':=M ++ [G]) (d:=.int (k + 1 + c / 10 / 512 % (many - k))) (by simp [hnG,hl,hk]))]
 by_cases z:c / 10 / 5 % 4 = 1
 ·rw [Zj (M':=M ++ [G]) (env':=[some (.ref n),some (.ref m0),some (.int k),some (.int c),some (.str (kindB j)),some (.int (c / 10)),some (.int (c / 10 % 8)),some (.int (c / 10 / 8 % 8)),some (.int (c / 10 / 64 % 8)),some (.int (c / 10 / 512 % (many + 1))),x10]) (by rw [Zbc (M':=M ++ [G]) (by simp [z])]; exact Zw (d:=.int (c / 10 / 512 % (many + 1))) (by simp [hnG,hl,p2]))]
  rw [if_pos z]
 ·rw [Zj (Zau (M':=M ++ [G]) (by simp [z])),if_neg z]
theorem Zm9 (n m0 many:Nat) (k c p:Int) (a b d q j:Nat) (rows:List Row) (M:Store) (x10:Option D) (hm:M[m0]? = some (.lst (rows.map Zal))) (hr:rows.length ≤ 63) (la:a < 8) (lb:b < 8) (ld:d < 8) (lq:q < many) (hj:j < 10):
  ∃ (r:Row) (G:Store),r.ok many ∧ ZmL [some (.ref n),some (.ref m0),some (.int k),some (.int c),some (.str (kindB j)),some (.int p),some (.int a),some (.int b),some (.int d),some (.int q),x10] M = .nx [some (.ref n),some (.ref m0),some (.int k),some (.int c),some (.str (kindB j)),some (.int p),some (.int a),some (.int b),some (.int d),some (.int q),x10] ((M ++ G).set m0 (.lst (rows.map Zal ++ [Zal r]))):=by
 have hmG:∀ G,(M ++ G)[m0]? = some (.lst (rows.map Zal)):=fun G=>Zt hm G
 have lz:(rows.map Zal).length < SZ:=by rw [List.length_map]; exact Nat.lt_of_le_of_lt hr (by decide)
 have hm2:(M ++ [.lst lsA] ++ [.lst lsB])[m0]? = some (.lst (rows.map Zal)):=Zt (hmG _) _
 obtain ⟨v,hv⟩:=three b p
 rcases ten hj with h | h | h | h | h | h | h | h | h | h <;> subst h
 ·exact ⟨.put a v,[.lst (nsB p)],la,(Zbc (M':=M) rfl).trans (Zdc rfl hm (ZpY hv) (hmG _) lz)⟩
 ·exact ⟨.add a b d,[.lst lsA],⟨la,lb,ld⟩,(Zbp (M':=M) rfl).trans ((Zbc (M':=M ++ [.lst lsA]) (Zm rfl (ZaX rfl rfl) (ZcI rfl rfl))).trans (Zdc rfl (hmG _) (ZaL rfl rfl) (hmG _) lz))⟩
 ·exact ⟨.sub a b d,[.lst lsA],⟨la,lb,ld⟩,(Zbp (M':=M) rfl).trans ((Zbc (M':=M ++ [.lst lsA]) (Zm rfl (ZaX rfl rfl) (ZcI rfl rfl))).trans (Zdc rfl (hmG _) (ZaL rfl rfl) (hmG _) lz))⟩
 ·exact ⟨.more a b d,[.lst lsA],⟨la,lb,ld⟩,(Zbp (M':=M) rfl).trans ((Zbc (M':=M ++ [.lst lsA]) (Zm rfl (ZaX rfl rfl) (ZcI rfl rfl))).trans (Zdc rfl (hmG _) (ZaL rfl rfl) (hmG _) lz))⟩
 ·exact ⟨.get a b,[.lst lsA,.lst lsB],⟨la,lb⟩,by rw [List.append_cons]; exact (Zbp (M':=M) rfl).trans ((Zbp (M':=M ++ [.lst lsA]) (Zm rfl (ZaX rfl rfl) (ZcI rfl rfl))).trans ((Zbc (M':=M ++ [.lst lsA] ++ [.lst lsB]) (Zm rfl (ZaX rfl rfl) (ZcI rfl rfl))).trans (Zdc rfl hm2 (ZaL rfl rfl) hm2 lz)))⟩
 ·exact ⟨.set a b,[.lst lsA,.lst lsB],⟨la,lb⟩,by rw [List.append_cons]; exact (Zbp (M':=M) rfl).trans ((Zbp (M':=M ++ [.lst lsA]) (Zm rfl (ZaX rfl rfl) (ZcI rfl rfl))).trans ((Zbc (M':=M ++ [.lst lsA] ++ [.lst lsB]) (Zm rfl (ZaX rfl rfl) (ZcI rfl rfl))).trans (Zdc rfl hm2 (ZaL rfl rfl) hm2 lz)))⟩
 ·exact ⟨.when a q,[.lst lsA,.lst lsB],⟨la,lq⟩,by rw [List.append_cons]; exact (Zbp (M':=M) rfl).trans ((Zbp (M':=M ++ [.lst lsA]) (Zm rfl (ZaX rfl rfl) (ZcI rfl rfl))).trans ((Zbp (M':=M ++ [.lst lsA] ++ [.lst lsB]) (Zm rfl (ZaX rfl rfl) (ZcI rfl rfl))).trans ((Zbc (M':=M ++ [.lst lsA] ++ [.lst lsB]) rfl).trans (Zdc rfl hm2 (ZaL rfl rfl) hm2 lz))))⟩
 ·exact ⟨.jump q,[.lst lsA,.lst lsB],lq,by rw [List.append_cons]; exact (Zbp (M':=M) rfl).trans ((Zbp (M':=M ++ [.lst lsA]) (Zm rfl (ZaX rfl rfl) (ZcI rfl rfl))).trans ((Zbp (M':=M ++ [.lst lsA] ++ [.lst lsB]) (Zm rfl (ZaX rfl rfl) (ZcI rfl rfl))).trans ((Zbp (M':=M ++ [.lst lsA] ++ [.lst lsB]) rfl).trans ((Zbc (M':=M ++ [.lst lsA] ++ [.lst lsB]) rfl).trans (Zdc rfl hm2 (ZaL rfl rfl) hm2 lz)))))⟩
 ·exact ⟨.tell a,[.lst lsA,.lst lsB],la,by rw [List.append_cons]; exact (Zbp (M':=M) rfl).trans ((Zbp (M':=M ++ [.lst lsA]) (Zm rfl (ZaX rfl rfl) (ZcI rfl rfl))).trans ((Zbp (M':=M ++ [.lst lsA] ++ [.lst lsB]) (Zm rfl (ZaX rfl rfl) (ZcI rfl rfl))).trans ((Zbp (M':=M ++ [.lst lsA] ++ [.lst lsB]) rfl).trans ((Zbp (M':=M ++ [.lst lsA] ++ [.lst lsB]) rfl).trans (Zdc rfl hm2 (ZaL rfl rfl) hm2 lz)))))⟩
 ·exact ⟨.put a v,[.lst (nsB p)],la,(Zbc (M':=M) rfl).trans (Zdc rfl hm (ZpY hv) (hmG _) lz)⟩
theorem Zl2 (cs:List D) (n k m0:Nat) (c:Int) (rows:List Row) (M:Store) (x4 x5 x6 x7 x8 x9 x10:Option D) (hn:M[n]? = some (.lst cs)) (hm:M[m0]? = some (.lst (rows.map Zal))) (hne:n ≠ m0) (hk:k < cs.length) (hr:rows.length ≤ 63):
  ∃ (r:Row) (M':Store) (y4 y5 y6 y7 y8 y9:Option D),r.ok (cs.length + 1) ∧ ZoT [some (.ref n),some (.ref m0),some (.int (k:Int)),some (.int c),x4,x5,x6,x7,x8,x9,x10] M = .nx [some (.ref n),some (.ref m0),some (.int (k:Int)),some (.int c),y4,y5,y6,y7,y8,y9,x10] M' ∧ M'[n]? = some (.lst cs) ∧ M'[m0]? = some (.lst ((rows ++ [r]).map Zal)) ∧ M'.take m0 = M.take m0:=by
 have hnl:=(List.getElem?_eq_some_iff.mp hn).1
 have hml:=(List.getElem?_eq_some_iff.mp hm).1
 obtain ⟨a,ha,la⟩:=ZbI (c / 10) 8 (lN [] 0 531425 rfl)
 obtain ⟨b,hb,lb⟩:=ZbI (c / 10 / 8) 8 (lN [] 0 531425 rfl)
 obtain ⟨d,hd,ld⟩:=ZbI (c / 10 / 64) 8 (lN [] 0 531425 rfl)
 obtain ⟨j,hj,lj⟩:=ZbI c 10 (lN [] 0 662497 rfl)
 have b1:=Int.emod_nonneg (c / 10 / 512) (b:=(cs.length:Int) - k) (fun z=>iN [_,_] [] 2 0x60111e1808fa1 T1 z hk)
 have b2:=Int.emod_lt_of_pos (c / 10 / 512) (b:=(cs.length:Int) - k) (iN [_,_] [] 1 556465197073 T1 hk)
 have b3:=Int.emod_nonneg (c / 10 / 512) (b:=(cs.length:Int) + 1) (fun z=>iN [_] [] 1 1856015521 T1 z)
 have b4:=Int.emod_lt_of_pos (c / 10 / 512) (b:=(cs.length:Int) + 1) (iN [_] [] 0 10521833 T1)
 obtain ⟨q,hq,lq⟩:∃ q:Nat,(if c / 10 / 5 % 4 = 1 then c / 10 / 512 % ((cs.length:Int) + 1) else (k:Int) + 1 + c / 10 / 512 % ((cs.length:Int) - k)) = (q:Int) ∧ q < cs.length + 1:=by
  split
  ·exact ⟨(c / 10 / 512 % ((cs.length:Int) + 1)).toNat,Int.le_antisymm ((Int.self_le_toNat _)) (Int.le_of_eq (Int.toNat_of_nonneg b3)),iN [_,_] [_] 2 0xa0c11018a1a08c091 T1 b4 (Int.toNat_of_nonneg b3)⟩
  ·exact ⟨((k:Int) + 1 + c / 10 / 512 % ((cs.length:Int) - k)).toNat,Int.le_antisymm ((Int.self_le_toNat _)) (Int.le_of_eq (Int.toNat_of_nonneg (iN [_] [_] 1 0xa08cce80e81 T1 b1))),iN [_,_,_] [_] 2 0xa0c210a18cc28a11808f091 T1 b2 (Int.toNat_of_nonneg (iN [_] [_] 1 0xa08cce80e81 T1 b1))⟩
 obtain ⟨G,h1⟩:=Zs0 n m0 k c cs.length cs M hn rfl (Int.ofNat_lt.2 hk) (Int.natCast_nonneg _) x4 x5 x6 x7 x8 x9 x10 j hj lj
 rw [hq] at h1
 have ha':c / 10 % 8 = (a:Int):=ha
 have hb':c / 10 / 8 % 8 = (b:Int):=hb
 have hd':c / 10 / 64 % 8 = (d:Int):=hd
 rw [ha',hb',hd'] at h1
 obtain ⟨r,G2,ok,h2⟩:=Zm9 n m0 (cs.length + 1) k c (c / 10) a b d q j rows (M ++ [G]) x10 (Zt hm _) hr la lb ld lq lj
 refine ⟨r,_,_,_,_,_,_,_,ok,h1.trans h2,?_,?_,?_⟩
 ·rw [List.getElem?_set_ne (Ne.symm hne)]; exact Zt (Zt hn _) G2
 ·rw [List.getElem?_set_self (by simp; exact lC 1 0xa2c1c011011 T1 hml)]; simp
 ·rw [List.take_set_of_le (Nat.le_refl _),List.append_assoc,List.take_append_of_le_length (Nat.le_of_lt hml)]
theorem ZgA (cs:List Int) (n m0:Nat) (hne:n ≠ m0) (hl:cs.length ≤ 63) (x10:Option D):∀ (ds:List Int) (k:Nat) (rows:List Row) (M:Store) (x2 x3 x4 x5 x6 x7 x8 x9:Option D),k + ds.length = cs.length → rows.length = k → (∀ r ∈ rows,r.ok (cs.length + 1)) → M[n]? = some (.lst (cs.map D.int)) → M[m0]? = some (.lst (rows.map Zal)) →
  ∃ (rows':List Row) (M':Store) (y2 y3 y4 y5 y6 y7 y8 y9:Option D),rows'.length = cs.length ∧ (∀ r ∈ rows',r.ok (cs.length + 1)) ∧ ZeR [(n,cs.map D.int)] (ZhD [2,3]) ZoT (ZdF k (ds.map D.int)) [some (.ref n),some (.ref m0),x2,x3,x4,x5,x6,x7,x8,x9,x10] M = .nx [some (.ref n),some (.ref m0),y2,y3,y4,y5,y6,y7,y8,y9,x10] M' ∧ M'[n]? = some (.lst (cs.map D.int)) ∧ M'[m0]? = some (.lst (rows'.map Zal)) ∧ M'.take m0 = M.take m0
 | [],k,rows,M,x2,x3,x4,x5,x6,x7,x8,x9,hk,hr,ho,hn,hm=>by
  simp only [List.length_nil] at hk
  refine ⟨rows,M,x2,x3,x4,x5,x6,x7,x8,x9,Nat.le_antisymm (lC 2 563147993845793 T1 hr hk) (lC 2 35382413561905 T1 hr hk),ho,?_,hn,hm,rfl⟩
  simp [ZdF,ZeR,Zc2,hn]
 | c :: ds,k,rows,M,x2,x3,x4,x5,x6,x7,x8,x9,hk,hr,ho,hn,hm=>by
  simp only [List.length_cons] at hk
  obtain ⟨r,M1,y4,y5,y6,y7,y8,y9,ok,h1,hn1,hm1,ht⟩:=Zl2 (cs.map D.int) n k m0 c rows M x4 x5 x6 x7 x8 x9 x10 hn hm hne (by simp; exact lC 1 2204024704033 T1 hk) (lD 3 0x3f2b003f2b3013a2c1c211021 T1 hr hk hl)
  rw [List.length_map] at ok
  obtain ⟨rows',M',z2,z3,z4,z5,z6,z7,z8,z9,l',o',h2,hn2,hm2,ht2⟩:=ZgA cs n m0 hne hl x10 ds (k + 1) (rows ++ [r]) M1 (some (.int (k:Int))) (some (.int c)) y4 y5 y6 y7 y8 y9 (Nat.le_antisymm (lC 1 0x21a0cc02a1c0c21 T1 hk) (lC 1 0x1a0cc202a1c0c31 T1 hk)) (by simp [hr]) (fun q hq=>by
   rcases List.mem_append.mp hq with h | h
   ·exact ho q h
   ·rw [List.mem_singleton.mp h]; exact ok) hn1 hm1
  refine ⟨rows',M',z2,z3,z4,z5,z6,z7,z8,z9,l',o',?_,hn2,hm2,ht2.trans ht⟩
  have lk:Zc2 [(n,cs.map D.int)] M = true:=by simp [Zc2,hn]
  simp only [List.map_cons,ZdF,ZeR,lk,if_true,ZhD,Zkn,Zkr,List.set_cons_succ,List.set_cons_zero]
  rw [h1]
  exact h2
theorem getD_last (q:List Int) (l:Int):ZaN ((q ++ [l]).map D.int) (-1) = some (.int l):=by
 have h:ixD ((q ++ [l]).map D.int).length (-1) = some q.length:=by
  simp [ixD] <;> exact ⟨iN [_] [] 0 10521768 T1,Nat.le_antisymm (iN [_,_] [] 1 4514701222086817 T1 (Int.toNat_of_nonneg (iN [_] [] 0 43097169128 T1))) (iN [_,_] [] 1 4505291991981185 T1 (Int.self_le_toNat _))⟩
 rw [ZaN,h]
 simp
noncomputable def ZpX:S3:=(Zv (Zaj 10 (Zbg (Za (eC (.str [104,97,108,116])) (Zf)))) (Zv (sIf (ZbG (e2 Zei (Zaz ZaS (Za (Zb 0) (Zf))) (eC (.int 0))) (e2 ZaK (e2 Zai (e2 Zq (Zb 0) (e1 Zcw (eC (.int 1)))) (eC (.int 4))) (eC (.int 1)))) (Zaj 10 (Zbg (Za (eC (.str [106,117,109,112])) (Za (e2 Zai (e2 Zad (e2 Zq (Zb 0) (e1 Zcw (eC (.int 1)))) (eC (.int 4))) (e2 Zay (Zaz ZaS (Za (Zb 0) (Zf))) (eC (.int 1)))) (Zf))))) (Zan)) (Zax (Zaz ZcX (Za (e2 Zay (Zb 1) (ZaY (Za (Zb 10) (Zf)))) (Zf))))))
theorem Zod (cs:List Int) (n m0:Nat) (rows:List Row) (M:Store) (hn:M[n]? = some (.lst (cs.map D.int))) (hm:M[m0]? = some (.lst (rows.map Zal))) (hl:cs.length ≤ 63) (hr:rows.length = cs.length) (x2 x3 x4 x5 x6 x7 x8 x9:Option D):
  ∃ (r:Row) (G:Store),r.ok (cs.length + 1) ∧ (r = .halt ∨ ∃ k,r = .jump k) ∧ ZpX [some (.ref n),some (.ref m0),x2,x3,x4,x5,x6,x7,x8,x9,none] M = .rt (Zr (rows ++ [r])) (M ++ G):=by
 have fin:∀ r:Row,(Zax (Zaz ZcX (Za (e2 Zay (Zb 1) (ZaY (Za (Zb 10) (Zf)))) (Zf)))) [some (.ref n),some (.ref m0),x2,x3,x4,x5,x6,x7,x8,x9,some (Zal r)] M = .rt (Zr (rows ++ [r])) (M ++ [.lst [Zal r],.lst ((rows ++ [r]).map Zal)]):=fun r=>by
  have g1:(M ++ [MO.lst [Zal r]])[m0]? = some (.lst (rows.map Zal)):=Zt hm _
  have lz:rows.length + 1 ≤ 1000000:=lB 2 0xf42405ba0c03f2b1011021 T1 hr hl
  refine Zaw ?_
  simp [g1,Zr,lz]
 unfold ZpX
 rw [Zj (Zw (M':=M) (d:=Zal .halt) (by simp [Zal]))]
 rcases List.eq_nil_or_concat cs with e | ⟨q,l,e⟩
 ·subst e
  refine ⟨.halt,[.lst [Zal .halt],.lst ((rows ++ [Row.halt]).map Zal)],trivial,.inl rfl,?_⟩
  rw [Zj (Zau (M':=M) (by simp [hn]))]
  exact fin .halt
 ·rw [List.concat_eq_append] at e
  have e1:ZaN (cs.map D.int) (-1) = some (.int l):=by rw [e]; exact getD_last q l
  have p0:0 < cs.length:=by rw [e]; simp
  by_cases z:l % 4 = 1
  ·obtain ⟨k,hk,lk⟩:=ZbI (l / 4) (cs.length + 1) (lA 0 658657 T1)
   have hk':l / 4 % ((cs.length:Int) + 1) = k:=hk
   refine ⟨.jump k,[.lst [Zal (.jump k)],.lst ((rows ++ [Row.jump k]).map Zal)],lk,.inr ⟨k,rfl⟩,?_⟩
   rw [Zj (env':=[some (.ref n),some (.ref m0),x2,x3,x4,x5,x6,x7,x8,x9,some (Zal (.jump k))]) (M':=M) (by rw [Zbc (M':=M) (by simp [hn,e1,p0,z])]; exact Zw (d:=Zal (.jump k)) (by simp [hn,e1,hk',Zal]))]
   exact fin (.jump k)
  ·refine ⟨.halt,[.lst [Zal .halt],.lst ((rows ++ [Row.halt]).map Zal)],trivial,.inl rfl,?_⟩
   rw [Zj (Zau (M':=M) (by simp [hn,e1,p0,z]))]
   exact fin .halt
theorem Znn (cs:List Int) (n:Nat) (M:Store) (hn:M[n]? = some (.lst (cs.map D.int))) (hl:cs.length ≤ 63):
  ∃ roll:Zd9,roll.length = cs.length + 1 ∧ ZnT roll ∧ Zdt [.ref n] M = .ok (Zr roll) M:=by
 have hnl:=(List.getElem?_eq_some_iff.mp hn).1
 obtain ⟨rows,M',y2,y3,y4,y5,y6,y7,y8,y9,lr,ok,h,hn',hm',ht⟩:=ZgA cs n M.length (fun z=>lB 2 26039357489 T1 z hnl) hl none cs 0 [] (M ++ [.lst []]) none none none none none none none none (Nat.le_antisymm (lA 0 3776 T1) (Nat.le_add_left _ _)) rfl (by simp) (Zt hn _) (by simp)
 obtain ⟨r,G,rok,rl,h2⟩:=Zod cs n M.length rows M' hn' hm' hl lr y2 y3 y4 y5 y6 y7 y8 y9
 have hM':M' = M ++ M'.drop M.length:=by
  have e:=List.take_append_drop M.length M'
  rw [ht] at e
  rw [← e]; simp
 have hb:Zew [some (.ref n),none,none,none,none,none,none,none,none,none,none] M = .rt (Zr (rows ++ [r])) (M ++ (M'.drop M.length ++ G)):=by
  rw [← List.append_assoc,← hM',← h2]
  refine (Zj (Zw (M':=M ++ [.lst []]) (d:=.ref M.length) (by simp))).trans ?_
  refine Zj ?_
  rw [Zk9]
  have hi:Zm0 (Zb 0) [some (.ref n),some (.ref M.length),none,none,none,none,none,none,none,none,none] (M ++ [.lst []]) = .ok ⟨ZdF 0 (cs.map D.int),[(n,cs.map D.int)]⟩ (M ++ [.lst []]):=by
   have:=Zt hn [MO.lst []]
   simp [this]
  rw [hi]
  exact h
 refine ⟨rows ++ [r],by simp [lr],⟨fun x hx=>?_,rows,r,rfl,rl⟩,Rt.pure hb (ZjZ _ _)⟩
 rw [List.length_append,List.length_singleton,lr]
 rcases List.mem_append.mp hx with hx | hx
 ·exact ok x hx
 ·rw [List.mem_singleton.mp hx]; exact rok
theorem ZoG (cs:List Int) (c d:Nat) (at_:Nat) (M:Store) (hd:M[d]? = some (.lst [.ref c,.int (at_:Int)])) (hc:M[c]? = some (.lst (cs.map D.int))) (ha:at_ < 1000000) (hne:c ≠ d):
  ∃ v:Int,ZaP [.ref d] M = .ok (.int v) (M.set d (.lst [.ref c,.int ((at_ + 1:Nat):Int)])):=by
 have hdl:=(List.getElem?_eq_some_iff.mp hd).1
 have hc2:(M.set d (.lst [.ref c,.int ((at_:Int) + 1)]))[c]? = some (.lst (cs.map D.int)):=by rw [List.getElem?_set_ne (Ne.symm hne)]; exact hc
 have fin:∀ v:Int,Zcm [some (.ref d),none,none] M = .rt (.int v) (M.set d (.lst [.ref c,.int ((at_:Int) + 1)])) → ∃ v:Int,ZaP [.ref d] M = .ok (.int v) (M.set d (.lst [.ref c,.int ((at_ + 1:Nat):Int)])):=fun v h=>by
  refine ⟨v,(Zb6 h).trans ?_⟩
  unfold Zcv
  rw [List.take_of_length_le (by simp)]
  split <;> first | exact rfl | simp
 have m1:ZcC (at_:Int) (at_:Int) = true:=Zte (by omega)
 have m2:ZcC ((at_:Int) * at_) 3 = true:=mul_r (by omega)
 by_cases h1:at_ < cs.length
 ·exact fin cs[at_] (by simp [Zcm,Zv,Zaj,Zax,sIf,Zan,ZaR,Zeb,hd,hc2,h1])
 ·by_cases h2:cs.length = 0
  ·have n0:¬ ((at_:Int) < 0):=(fun z=>iN [_] [] 1 7211153 T1 z)
   exact fin ((at_:Int) * at_ * 3 + at_) (by simp [Zcm,Zv,Zaj,Zax,sIf,Zan,ZaR,Zeb,hd,hc2,h2,m1,m2,n0])
  ·obtain ⟨a,ha',la⟩:=ZbI (at_:Int) cs.length ((Nat.lt_of_le_of_ne (Nat.zero_le _) (Ne.symm h2)))
   have p0:0 < cs.length:=lB 1 31526929 T1 la
   exact fin (cs[a] / 2 + (at_:Int) * at_) (by simp [Zcm,Zv,Zaj,Zax,sIf,Zan,ZaR,Zeb,hd,hc2,h1,h2,m1,p0,ha',la])
structure Zeh (cs:List Int) (c d:Nat) (at_:Nat) (M:Store):Prop where
 hd:M[d]? = some (.lst [.ref c,.int (at_:Int)])
 hc:M[c]? = some (.lst (cs.map D.int))
 ne:c ≠ d
theorem Zeh.next {cs:List Int} {c d at_:Nat} {M:Store} (K:Zeh cs c d at_ M) (ha:at_ < 1000000):∃ (v:Int) (M':Store),ZaP [.ref d] M = .ok (.int v) M' ∧ Zeh cs c d (at_ + 1) M' ∧ M'.length = M.length ∧ ∀ j,j ≠ d → M'[j]? = M[j]?:=by
 obtain ⟨v,h⟩:=ZoG cs c d at_ M K.hd K.hc ha K.ne
 have hdl:=(List.getElem?_eq_some_iff.mp K.hd).1
 exact ⟨v,_,h,⟨List.getElem?_set_self hdl,by rw [List.getElem?_set_ne (Ne.symm K.ne)]; exact K.hc,K.ne⟩,by simp,fun j hj=>List.getElem?_set_ne (Ne.symm hj)⟩
theorem Znb (M:Store) (d:D) (M1:Store) (hl:M.length ≤ M1.length):∃ M2,Zcv M d M1 = .ok d M2 ∧ (∀ j,j < M.length → M2[j]? = M1[j]?) ∧ M.length ≤ M2.length:=by
 unfold Zcv
 split
 ·exact ⟨_,rfl,fun j hj=>List.getElem?_take_of_lt hj,by rw [List.length_take]; omega⟩
 ·exact ⟨_,rfl,fun _ _=>rfl,hl⟩
theorem Zeh.keep {cs:List Int} {c d at_:Nat} {M M':Store} (K:Zeh cs c d at_ M) (h:∀ j,j < M.length → M'[j]? = M[j]?):Zeh cs c d at_ M':=
 ⟨by rw [h d (List.getElem?_eq_some_iff.mp K.hd).1]; exact K.hd,by rw [h c (List.getElem?_eq_some_iff.mp K.hc).1]; exact K.hc,K.ne⟩
theorem Zfg (roll:Zd9) {M:Store}:ZaS [Zr roll] M = .ok (.int (roll.length:Int)) M:=by simp [Zr]
theorem ZsU {op:D → D → D → Store → R3 D} {f g h:E3} {env:Zaf} {M M1 M2 M3 M4:Store} {a b c d:D} (h1:f env M = .ok a M1) (h2:g env M1 = .ok b M2) (h3:h env M2 = .ok c M3) (h4:op a b c M3 = .ok d M4):e3 op f g h env M = .ok d M4:=by simp only [e3,h1,h2,h3,h4,R3.bind]
structure Drawn (roll:Zd9) (k:Nat) (s:Stt):Prop where
 ok:s.ok roll
 rise:Zoq s.cells
 len:s.cells.length ≤ k
theorem Ziu {M M':Store} {d:D} (h:below M.length d = false):Zcv M d M' = .ok d M':=by
 unfold Zcv
 rw [h,if_neg (by simp)]
theorem ZmD (u:Stt) (r:Option Stt) (M:Store):ZhO (Zd u) (Zml r) M = .ok (.bl (!decide (some u = r))) M:=by
 cases r with
 | none=>rfl
 | some y=>
  have e:ZhO (Zd u) (Zml (some y)) M = ZbJ (Zd u) (Zd y) M:=rfl
  rw [e,Zlq]
  simp
theorem ZmQ (roll:Zd9) (hok:∀ x ∈ roll,x.ok roll.length) (s u v:Stt) (hs:s.ok roll) (hk:keysOk s.cells) (hl:s.cells.length ≤ 5000) (M:Store):
  Zc1 [Zr roll,Zd s,.tup [Zd u,Zd v]] M = .ok (.tup [.bl (!decide (some u = ZeZ roll s)),.bl (!decide (some v = ZeZ roll s))]) M:=by
 have ns:=Zho roll s M hok hs hk hl
 refine (Zb6 (env:=[some (Zr roll),some (Zd s),some (.tup [Zd u,Zd v]),none]) (d:=.tup [.bl (!decide (some u = ZeZ roll s)),.bl (!decide (some v = ZeZ roll s))]) (M':=M) ?_).trans (ZcT rfl)
 exact (Zj (Zw (Zdd rfl rfl ns))).trans (Zaw (ZaL (Zo (Zm (Zm rfl rfl rfl) rfl (ZmD u _ M)) (Zo (Zm (Zm rfl rfl rfl) rfl (ZmD v _ M)) rfl)) rfl))
theorem Zit {a b:Int} {M:Store} (h:a = b):ZbJ (.int a) (.int b) M = .ok (.bl false) M:=by simp [h]
theorem Zl0 {n1 a1 n2 a2:Nat} {s1 s2:List Stt} {t1 t2:List D} {M:Store} (roll:Zd9) (hok:∀ x ∈ roll,x.ok roll.length) (T:Tw M n1 a1 n2 a2 s1 s2 t1 t2) (hlen:s2.length = s1.length) (h2:2 ≤ s1.length) (z1:t1.length + s1.length < 900000) (z2:t2.length + s1.length < 900000)
  (h0:s1[0]? = s2[0]?) (hl:s1[s1.length - 1]? ≠ s2[s1.length - 1]?) (good:∀ x ∈ s1,x.ok roll ∧ keysOk x.cells ∧ x.cells.length ≤ 5000):
  ∃ x u v,s1[(hv (fun m=>decide (s1[m]? = s2[m]?)) (s1.length - 1) 0 (s1.length - 1)).2]? = some x ∧ s1[(hv (fun m=>decide (s1[m]? = s2[m]?)) (s1.length - 1) 0 (s1.length - 1)).2 + 1]? = some u ∧ s2[(hv (fun m=>decide (s1[m]? = s2[m]?)) (s1.length - 1) 0 (s1.length - 1)).2 + 1]? = some v ∧
   Zbt [Zr roll,.ref n1,.ref n2] M = .ok (.tup [.int ((hv (fun m=>decide (s1[m]? = s2[m]?)) (s1.length - 1) 0 (s1.length - 1)).2:Int),.tup [.bl (!decide (some u = ZeZ roll x)),.bl (!decide (some v = ZeZ roll x))]])
    (asked M a1 a2 (t1 ++ ((0:Nat) :: (s1.length - 1) :: (hv (fun m=>decide (s1[m]? = s2[m]?)) (s1.length - 1) 0 (s1.length - 1)).1).map fun m=>.int (m:Int)) (t2 ++ ((0:Nat) :: (s1.length - 1) :: (hv (fun m=>decide (s1[m]? = s2[m]?)) (s1.length - 1) 0 (s1.length - 1)).1).map fun m=>.int (m:Int))):=by
 have g0:s1[0]? = some (s1[0]'(lA 1 3775011585 T1 h2)):=List.getElem?_eq_getElem _
 generalize s1[0]'(lA 1 3775011585 T1 h2) = x0 at g0
 have g0':s2[0]? = some x0:=by rw [← h0]; exact g0
 have gl:s1[s1.length - 1]? = some (s1[s1.length - 1]'(lB 1 4313451553 T1 (Nat.sub_add_cancel (lA 1 2684492545 T1 h2)))):=List.getElem?_eq_getElem _
 have gl':s2[s1.length - 1]? = some (s2[s1.length - 1]'(lC 2 36396293230641 T1 hlen (Nat.sub_add_cancel (lA 1 2684492545 T1 h2)))):=List.getElem?_eq_getElem _
 generalize s1[s1.length - 1]'(lB 1 4313451553 T1 (Nat.sub_add_cancel (lA 1 2684492545 T1 h2))) = xl at gl
 generalize s2[s1.length - 1]'(lC 2 36396293230641 T1 hlen (Nat.sub_add_cancel (lA 1 2684492545 T1 h2))) = yl at gl'
 have ne:¬ xl = yl:=fun e=>hl (by rw [gl,gl',e])
 have b0:=Zfx T g0 g0' (lB 1 0xf42405b01dbba05b10c11 T1 z1) (lB 1 0xf42405b01dbba05b10c11 T1 z2)
 have T1:=T.put (t1 ++ [.int ((0:Nat):Int)]) (t2 ++ [.int ((0:Nat):Int)])
 generalize hM1:asked M a1 a2 (t1 ++ [.int ((0:Nat):Int)]) (t2 ++ [.int ((0:Nat):Int)]) = M1 at b0 T1
 have b1:=Zfx T1 gl gl' (by simp; omega) (by simp; omega)
 have T2:=T1.put (t1 ++ [.int ((0:Nat):Int)] ++ [.int ((s1.length - 1:Nat):Int)]) (t2 ++ [.int ((0:Nat):Int)] ++ [.int ((s1.length - 1:Nat):Int)])
 generalize hM2:asked M1 a1 a2 (t1 ++ [.int ((0:Nat):Int)] ++ [.int ((s1.length - 1:Nat):Int)]) (t2 ++ [.int ((0:Nat):Int)] ++ [.int ((s1.length - 1:Nat):Int)]) = M2 at b1 T2
 have u0:=Zc7 x0 x0 M1
 rw [decide_eq_true rfl] at u0
 have ul:=Zc7 xl yl M2
 rw [decide_eq_false ne] at ul
 obtain ⟨x9,x10,x,u,v,gx,gu,gv,lp⟩:=Zjt (n1:=n1) (a1:=a1) (n2:=n2) (a2:=a2) (s1:=s1) (s2:=s2) (Zr roll) (.tup [Zd x0,Zd x0]) (.tup [Zd xl,Zd yl]) hlen (s1.length - 1) 0 (s1.length - 1) 1000000 M2 _ _ none none x0 xl yl ((Nat.sub_le _ _)) (by omega) (by omega) (by omega) T2 (by simp; omega) (by simp; omega) g0 gl gl'
 refine ⟨x,u,v,gx,gu,gv,?_⟩
 obtain ⟨ox,kx,lx⟩:=good x (List.mem_of_getElem? gx)
 generalize hv (fun m=>decide (s1[m]? = s2[m]?)) (s1.length - 1) 0 (s1.length - 1) = r at gx gu gv lp ⊢
 generalize hM3:asked M2 a1 a2 (t1 ++ [.int ((0:Nat):Int)] ++ [.int ((s1.length - 1:Nat):Int)] ++ r.1.map fun m=>.int (m:Int)) (t2 ++ [.int ((0:Nat):Int)] ++ [.int ((s1.length - 1:Nat):Int)] ++ r.1.map fun m=>.int (m:Int)) = M3 at lp
 have we:=ZmQ roll hok x u v ox kx lx M3
 have eM:M3 = asked M a1 a2 (t1 ++ ((0:Nat) :: (s1.length - 1) :: r.1).map fun m=>.int (m:Int)) (t2 ++ ((0:Nat) :: (s1.length - 1) :: r.1).map fun m=>.int (m:Int)):=by
  rw [← hM3,← hM2,← hM1,ZcV T.aa,ZcV T.aa]
  simp
 rw [← eM]
 have mn:∀ {i n a:Nat} {ss:List Stt} {M:Store} {env:Zaf},env[i]? = some (some (.ref n)) → M[n]? = some (ZaF (ss.map Zd) a) → ZaA TEL [109,97,110,121] ZaC (Zb i) (Zf) env M = .ok (.int (ss.length:Int)) M:=fun {i n a ss M env} he ho=>by
  have:=ZkY ho
  rw [List.length_map] at this
  exact Zbx (by simp [he]) (Zbv ho rfl rfl) rfl this
 refine (Zb6 (env:=[some (Zr roll),some (.ref n1),some (.ref n2),none,none,none,none,none,none,none,none]) (M':=M3) (d:=.tup [.int (r.2:Int),.tup [.bl (!decide (some u = ZeZ roll x)),.bl (!decide (some v = ZeZ roll x))]]) ?_).trans (ZcT (by rw [eM,ZeI]))
 refine (Zj ((Zbp (M':=M) (Zea ?_)).trans (Zbz rfl))).trans ?_
 ·rw [Zjm (Zm (mn rfl T.o1) (mn rfl T.o2) (Zit (by rw [hlen])))]
  refine Zm (mn rfl T.o1) rfl ?_
  have:¬ ((s1.length:Int) < 2):=by omega
  simp [this]
 refine (Zj (Zbz (Zw rfl))).trans ((Zj (Zbz (Zw (Zb7 rfl rfl rfl b0)))).trans ((Zj ((Zbp (Zea (Zdf rfl u0))).trans (Zbz rfl))).trans ?_))
 refine (Zj (Zbz (Zw (d:=.int ((s1.length - 1:Nat):Int)) (M':=M1) (Zm (mn rfl T1.o1) rfl ?_)))).trans ?_
 ·have:(s1.length:Int) - 1 = ((s1.length - 1:Nat):Int):=by omega
  simp [this]
 refine (Zj (Zbz (Zw (Zb7 rfl rfl rfl b1)))).trans ((Zj ((Zbp (Zea (Zfk (Zdf rfl ul) rfl))).trans (Zbz rfl))).trans ((Zj (Zbz (Zw (Zm rfl rfl rfl)))).trans ((Zj (Zbz (Zw rfl))).trans ((Zj (Zbz (f:=ZkF _ _) lp)).trans (Zrp (Zaw (ZaL (Zo rfl (Zo (Zb7 rfl rfl rfl we) rfl)) rfl)))))))
noncomputable abbrev ND:List Nat:=[78,111,68,105,115,112,117,116,101]
theorem ZfR {i n a:Nat} {ss:List Stt} {M:Store} {env:Zaf} (he:env[i]? = some (some (.ref n))) (ho:M[n]? = some (ZaF (ss.map Zd) a)):ZaA TEL [109,97,110,121] ZaC (Zb i) (Zf) env M = .ok (.int (ss.length:Int)) M:=by
 have:=ZkY ho
 rw [List.length_map] at this
 exact Zbx (by simp only [Zb,he]) (Zbv ho rfl rfl) rfl this
theorem ZmX {n1 a1 n2 a2:Nat} {s1 s2:List Stt} {M:Store} {env:Zaf} (e1:env[1]? = some (some (.ref n1))) (e2':env[2]? = some (some (.ref n2))) (o1:M[n1]? = some (ZaF (s1.map Zd) a1)) (o2:M[n2]? = some (ZaF (s2.map Zd) a2)):
  (eOr (e2 ZbJ (ZaA TEL [109,97,110,121] ZaC (Zb 1) (Zf)) (ZaA TEL [109,97,110,121] ZaC (Zb 2) (Zf))) (e2 ZhA (ZaA TEL [109,97,110,121] ZaC (Zb 1) (Zf)) (eC (.int 2)))) env M = .ok (.bl (decide (s1.length ≠ s2.length ∨ s1.length < 2))) M:=by
 by_cases h:s1.length = s2.length
 ·refine (Zjm (M1:=M) (Zm (ZfR e1 o1) (ZfR e2' o2) (Zit (by rw [h])))).trans (Zm (ZfR e1 o1) rfl ?_)
  simp only [Zla]
  rw [show decide (s1.length ≠ s2.length ∨ s1.length < 2) = decide ((s1.length:Int) < 2) from decide_eq_decide.mpr ⟨fun z=>by omega,fun z=>.inr (iN [_] [] 1 37040101722257 T1 z)⟩]
 ·refine (ZpN (M1:=M) (Zm (ZfR e1 o1) (ZfR e2' o2) ?_)).trans (by rw [decide_eq_true (.inl h)])
  have:¬ (s1.length:Int) = s2.length:=(fun z=>iN [_,_] [] 2 6666076031153 T1 z (Nat.lt_of_le_of_ne (iN [_,_] [] 1 4296542369 T1 z) h))
  simp only [ZbJ,ZdV,Zd0,Zd8,ZdU,ZdX,decide_eq_false this]; rfl
theorem ZgV {n1 a1 n2 a2:Nat} {s1 s2:List Stt} {M:Store} (r:D) (o1:M[n1]? = some (ZaF (s1.map Zd) a1)) (o2:M[n2]? = some (ZaF (s2.map Zd) a2)) (h:s1.length ≠ s2.length ∨ s1.length < 2):
  Zbt [r,.ref n1,.ref n2] M = .exc ⟨ND,.ref M.length⟩ (M ++ [.ins (0 :: ND) []]):=by
 have c:=ZmX (env:=[some r,some (.ref n1),some (.ref n2),none,none,none,none,none,none,none,none]) rfl rfl o1 o2
 rw [decide_eq_true h] at c
 exact Zio (env:=[some r,some (.ref n1),some (.ref n2),none,none,none,none,none,none,none,none]) (ZgT ((Zbc (M':=M) (Zea c)).trans (ZfI rfl)))
section
variable {n1 n2:Nat} {s1 s2:List Stt} {M M1 M2:Store} {a1 a2 a1' a2':Nat}
theorem ZiH (r:D) {x y:Stt} (o1:M[n1]? = some (ZaF (s1.map Zd) a1)) (o2:M[n2]? = some (ZaF (s2.map Zd) a2)) (h:¬ (s1.length ≠ s2.length ∨ s1.length < 2)) (b0:Zbh [.ref n1,.ref n2,.int ((0:Nat):Int)] M = .ok (.tup [Zd x,Zd y]) M1) (ne:¬ x = y):
  Zbt [r,.ref n1,.ref n2] M = .exc ⟨ND,.ref M1.length⟩ (M1 ++ [.ins (0 :: ND) []]):=by
 have c:=ZmX (env:=[some r,some (.ref n1),some (.ref n2),none,none,none,none,none,none,none,none]) rfl rfl o1 o2
 rw [decide_eq_false h] at c
 have u0:=Zc7 x y M1
 rw [decide_eq_false ne] at u0
 exact Zio (env:=[some r,some (.ref n1),some (.ref n2),none,none,none,none,none,none,none,none]) ((Zj ((Zbp (M':=M) (Zea c)).trans (Zbz rfl))).trans ((Zj (Zbz (Zw rfl))).trans ((Zj (Zbz (Zw (Zb7 rfl rfl rfl b0)))).trans (ZgT ((Zbc (Zea (Zdf rfl u0))).trans (ZfI rfl))))))
theorem Zf3 (r:D) {x y:Stt} (o1:M[n1]? = some (ZaF (s1.map Zd) a1)) (o2:M[n2]? = some (ZaF (s2.map Zd) a2)) (h:¬ (s1.length ≠ s2.length ∨ s1.length < 2)) (b0:Zbh [.ref n1,.ref n2,.int ((0:Nat):Int)] M = .ok (.tup [Zd x,Zd x]) M1)
  (o1':M1[n1]? = some (ZaF (s1.map Zd) a1')) (b1:Zbh [.ref n1,.ref n2,.int ((s1.length - 1:Nat):Int)] M1 = .ok (.tup [Zd y,Zd y]) M2):
  Zbt [r,.ref n1,.ref n2] M = .exc ⟨ND,.ref M2.length⟩ (M2 ++ [.ins (0 :: ND) []]):=by
 have c:=ZmX (env:=[some r,some (.ref n1),some (.ref n2),none,none,none,none,none,none,none,none]) rfl rfl o1 o2
 rw [decide_eq_false h] at c
 have u0:=Zc7 x x M1
 rw [decide_eq_true rfl] at u0
 have ul:=Zc7 y y M2
 rw [decide_eq_true rfl] at ul
 have hm:(s1.length:Int) - 1 = ((s1.length - 1:Nat):Int):=by omega
 refine Zio (env:=[some r,some (.ref n1),some (.ref n2),none,none,none,none,none,none,none,none]) ((Zj ((Zbp (M':=M) (Zea c)).trans (Zbz rfl))).trans ((Zj (Zbz (Zw rfl))).trans ((Zj (Zbz (Zw (Zb7 rfl rfl rfl b0)))).trans ((Zj ((Zbp (Zea (Zdf rfl u0))).trans (Zbz rfl))).trans
  ((Zj (Zbz (Zw (d:=.int ((s1.length - 1:Nat):Int)) (M':=M1) (Zm (ZfR rfl o1') rfl ?_)))).trans ((Zj (Zbz (Zw (Zb7 rfl rfl rfl b1)))).trans (ZgT ((Zbc (Zea (Zfk (Zdf rfl ul) rfl))).trans (ZfI rfl)))))))))
 simp only [Zjg,hm]
end
theorem ZhL {n a k:Nat} {ss:List Stt} {ts:List D} {M:Store} {x:Stt} (o:M[n]? = some (ZaF (ss.map Zd) a)) (l:M[a]? = some (.lst ts)) (na:n ≠ a) (hx:ss[k]? = some x) (z:ts.length + 1 < 1000000):
  Zbh [.ref n,.ref n,.int (k:Int)] M = .ok (.tup [Zd x,Zd x]) (M.set a (.lst (ts ++ [.int (k:Int)] ++ [.int (k:Int)]))):=by
 have hl:=(List.getElem?_eq_some_iff.mp l).1
 have o':(M.set a (.lst (ts ++ [.int (k:Int)])))[n]? = some (ZaF (ss.map Zd) a):=by rw [List.getElem?_set_ne (Ne.symm na)]; exact o
 have l':(M.set a (.lst (ts ++ [.int (k:Int)])))[a]? = some (.lst (ts ++ [.int (k:Int)])):=List.getElem?_set_self hl
 have r1:=Zdy (k:=k) (d:=Zd x) o l na (by rw [List.getElem?_map,hx]; rfl) (lA 1 0xf42405b01f42405ba0c11 T1 z)
 have r2:=Zdy (k:=k) (d:=Zd x) o' l' na (by rw [List.getElem?_map,hx]; rfl) (by simp; exact z)
 rw [List.set_set] at r2
 exact (Zb6 (env:=[some (.ref n),some (.ref n),some (.int (k:Int))]) (d:=.tup [Zd x,Zd x]) (M':=M.set a (.lst (ts ++ [.int (k:Int)] ++ [.int (k:Int)]))) (Zaw (ZaL (Zo (Zbx rfl (Zbv o rfl rfl) rfl r1) (Zo (Zbx rfl (Zbv o' rfl rfl) rfl r2) rfl)) rfl))).trans (ZcT (by simp))
theorem ZhG {r:D} {n1 n2 tl:Nat} {M M1:Store} (ht:M[tl]? = some (.lst [.ref n1,.ref n2])) (hl:M.length ≤ M1.length) (hj:Zbt [r,.ref n1,.ref n2] M = .exc ⟨ND,.ref M1.length⟩ (M1 ++ [.ins (0 :: ND) []])):
  ZaJ [r,.ref tl] M = .ok (.ref (M1.length + 1)) (M1 ++ [.ins (0 :: ND) [],.lst [.bl true,.bl false]]):=by
 have g:(M1 ++ [MO.ins (0 :: ND) []])[M1.length]? = some (.ins (0 :: ND) []):=Zam _ _ _
 refine (Zb6 (env:=[some r,some (.ref tl),none,none,none,none]) (d:=.ref (M1.length + 1)) (M':=M1 ++ [.ins (0 :: ND) [],.lst [.bl true,.bl false]]) ?_).trans (Ziu (by simp [below]; exact lB 1 43419439105 T1 hl))
 have fin:(ZaY (Za (Zb 5) (Za (ZbG (e1 (ZcL .tuple) (Zb 3)) (e2 ZaK (Zaz ZaS (Za (Zb 3) (Zf))) (eC (.int 2)))) (Zf)))) [some r,some (.ref tl),some (.ref M1.length),some .non,none,some (.bl true)] (M1 ++ [.ins (0 :: ND) []]) = .ok (.ref (M1.length + 1)) (M1 ++ [.ins (0 :: ND) [],.lst [.bl true,.bl false]]):=by
  refine (ZaX (Zo rfl (Zo (Zet rfl) rfl)) rfl).trans ?_
  rw [List.length_append,List.append_assoc]; rfl
 refine (Zj (Zw rfl)).trans ((Zj (Zw rfl)).trans ((Zj (ZmE (x:=⟨ND,.ref M1.length⟩) (M':=M1 ++ [.ins (0 :: ND) []]) (Zm6 ?_) rfl (Zw rfl) rfl)).trans
  ((Zj (Zau (M':=M1 ++ [.ins (0 :: ND) []]) (Zfk rfl (Zpf g rfl rfl)))).trans ((Zj (Zw (d:=.bl true) ((ZcK (Zfk rfl (ZlF g rfl))).trans (Zfk rfl (ZlF g rfl))))).trans (Zaw fin)))))
 have ea:(Zjo (Za (Zb 0) (Za (e2 Zq (Zb 1) (eC (.int 0))) (Za (e2 Zq (Zb 1) (eC (.int 1))) (Zf))))) [some r,some (.ref tl),some .non,some .non,none,none] M = .ok [r,.ref n1,.ref n2] M:=ZkQ (Zo rfl (Zo (Zm rfl rfl (Zci ht rfl)) (Zo (Zm rfl rfl (Zci ht rfl)) rfl)))
 show Zae Zbt _ [some r,some (.ref tl),some .non,some .non,none,none] M = _
 simp only [Zae,ea,R3.bind,hj]
theorem Zkw {r:D} {n1 n2 tl:Nat} {M M1:Store} {x y:D} (ht:M[tl]? = some (.lst [.ref n1,.ref n2])) (hl:M.length ≤ M1.length) (hj:Zbt [r,.ref n1,.ref n2] M = .ok (.tup [x,y]) M1):
  ZaJ [r,.ref tl] M = .ok (.ref M1.length) (M1 ++ [.lst [.bl false,.bl true]]):=by
 refine (Zb6 (env:=[some r,some (.ref tl),none,none,none,none]) (d:=.ref M1.length) (M':=M1 ++ [.lst [.bl false,.bl true]]) ?_).trans (Ziu (by simp [below]; exact hl))
 have ea:(Zjo (Za (Zb 0) (Za (e2 Zq (Zb 1) (eC (.int 0))) (Za (e2 Zq (Zb 1) (eC (.int 1))) (Zf))))) [some r,some (.ref tl),some .non,some .non,none,none] M = .ok [r,.ref n1,.ref n2] M:=ZkQ (Zo rfl (Zo (Zm rfl rfl (Zci ht rfl)) (Zo (Zm rfl rfl (Zci ht rfl)) rfl)))
 have ec:Zae Zbt (Zjo (Za (Zb 0) (Za (e2 Zq (Zb 1) (eC (.int 0))) (Za (e2 Zq (Zb 1) (eC (.int 1))) (Zf))))) [some r,some (.ref tl),some .non,some .non,none,none] M = .ok (.tup [x,y]) M1:=by simp only [Zae,ea,R3.bind,hj]
 exact (Zj (Zw rfl)).trans ((Zj (Zw rfl)).trans ((Zj (Zpt (Zw ec))).trans ((Zj (Zau (M':=M1) rfl)).trans ((Zj (Zw (d:=.bl false) (Zet rfl))).trans (Zaw (ZaX (Zo rfl (Zo ((ZcK (M1:=M1) rfl).trans (Zm rfl rfl (ZjN rfl))) rfl)) rfl))))))
structure ZhS (roll:Zd9) (s:Stt):Prop where
 ok:s.ok roll
 keys:keysOk s.cells
 few:s.cells.length ≤ 5000
theorem Zqc {f:E3} {g:G3} {env env':Zaf} {M M1:Store} {d:D} (h:f env M = .ok d M1) (hg:g d env = some env'):Zmb f g env M = .nx env' M1:=by
 rw [Zmb,h]; simp only [hg]
theorem Zt2 {zs:List Int} {j:Nat} {w:Int} {M:Store} {env:Zaf} {ie fe:E3} (hz:zs.length = 8) (hj:j < 8) (h5:env[3]? = some (some (.ref M.length))) (hi:ie env (M ++ [.lst (zs.map D.int)]) = .ok (.int (j:Int)) (M ++ [.lst (zs.map D.int)])) (hf:fe env (M ++ [.lst (zs.map D.int)]) = .ok (.int w) (M ++ [.lst (zs.map D.int)])):
  Zeb (Zb 3) ie fe env (M ++ [.lst (zs.map D.int)]) = .nx env (M ++ [.lst ((zs.set j w).map D.int)]):=by
 have ix:ixD (zs.map D.int).length (j:Int) = some j:=by rw [Zid,List.length_map,hz,if_pos hj]
 have hs:(M ++ [MO.lst (zs.map D.int)]).set M.length (.lst ((zs.map D.int).set j (.int w))) = M ++ [.lst ((zs.set j w).map D.int)]:=by
  rw [List.map_set]; exact Zii M _ 0 _
 refine ZdG (d:=.non) (ZsU hf (b:=.ref M.length) (by simp only [Zb,h5]) hi ?_)
 simp only [ZfH,Zam,ix,hs]
theorem Zjz {cs:List Int} {c d at_:Nat} {M:Store} (K:Zeh cs c d at_ M) (ha:at_ < 1000000) (roll:Zd9) (hp:0 < roll.length):
  ∃ (s:Stt) (M':Store),Za8 [.ref d,Zr roll] M = .ok (Zd s) M' ∧ ZhS roll s ∧ Zeh cs c d (at_ + 1) M' ∧ M.length ≤ M'.length ∧ ∀ j,j < M.length → j ≠ d → M'[j]? = M[j]?:=by
 obtain ⟨v,M1,en,K1,l1,o1⟩:=K.next ha
 obtain ⟨j,hj,lj⟩:=ZbI v 8 (by decide)
 have b3:(ZaY (Za (eC (.int 0)) (Za (eC (.int 0)) (Za (eC (.int 0)) (Za (eC (.int 0)) (Za (eC (.int 0)) (Za (eC (.int 0)) (Za (eC (.int 0)) (Za (eC (.int 0)) (Zf)))))))))) [some (.ref d),some (Zr roll),some (.int v),none,none] M1 = .ok (.ref M1.length) (M1 ++ [.lst (([0,0,0,0,0,0,0,0]:List Int).map D.int)]):=ZaX rfl rfl
 have u1:=Zt2 (zs:=[0,0,0,0,0,0,0,0]) (w:=v / 8 % 10000000000000000000000000000000000000000 - v / 3 % 2) (M:=M1) (env:=[some (.ref d),some (Zr roll),some (.int v),some (.ref M1.length),none]) (ie:=e2 Zai (Zb 2) (eC (.int 8))) (fe:=e2 Zcp (e2 Zai (e2 Zad (Zb 2) (eC (.int 8))) (e2 Zen (eC (.int 10)) (eC (.int 40)))) (e2 Zai (e2 Zad (Zb 2) (eC (.int 3))) (eC (.int 2)))) rfl lj rfl (by rw [← hj]; exact Zm rfl rfl (ZaT (by decide))) (Zm (Zm (Zm rfl rfl (Zba (by decide))) pw (ZaT (by decide))) (Zm (Zm rfl rfl (Zba (by decide))) rfl (ZaT (by decide))) rfl)
 have lz:(([0,0,0,0,0,0,0,0]:List Int).set j (v / 8 % 10000000000000000000000000000000000000000 - v / 3 % 2)).length = 8:=by simp
 generalize ([0,0,0,0,0,0,0,0]:List Int).set j (v / 8 % 10000000000000000000000000000000000000000 - v / 3 % 2) = zs at u1 lz
 generalize hM2:M1 ++ [MO.lst (zs.map D.int)] = M2 at u1
 have gz:M2[M1.length]? = some (.lst (zs.map D.int)):=by rw [← hM2]; exact Zam _ _ _
 have cl:∃ ce:List (Int × Int),keysOk ce ∧ ce.length ≤ 5000 ∧ sIf (e2 ZaK (e2 Zai (Zb 2) (eC (.int 5))) (eC (.int 2))) (Zaj 4 (Zbg (Za (Zbg (Za (e2 Zai (e2 Zad (Zb 2) (eC (.int 5))) (eC (.int 3))) (Za (eC (.int 1)) (Zf)))) (Zf)))) (Zan) [some (.ref d),some (Zr roll),some (.int v),some (.ref M1.length),some (.tup [])] M2 = .nx [some (.ref d),some (Zr roll),some (.int v),some (.ref M1.length),some (Zab ce)] M2:=by
  by_cases h:v % 5 = 2
  ·exact ⟨[(v / 5 % 3,1)],(by simp [keysOk]),(show 1 ≤ 5000 by decide),(Zbc (M':=M2) (Zm (Zm rfl rfl (ZaT (by decide))) rfl (ZjN h))).trans (Zw (ZaL (Zo (ZaL (Zo (Zm (Zm rfl rfl (Zba (by decide))) rfl (ZaT (by decide))) (Zo rfl rfl)) rfl) rfl) rfl))⟩
  ·exact ⟨[],List.nodup_nil,by decide,Zau (Zm (Zm rfl rfl (ZaT (by decide))) rfl (ZkG h))⟩
 obtain ⟨ce,kc,lc,ec⟩:=cl
 obtain ⟨p,hpp,lp⟩:=ZbI (v / 2) roll.length hp
 have l2:M2.length = M1.length + 1:=by rw [← hM2]; simp
 obtain ⟨M3,t1,t2,t3⟩:=Znb M (Zd ⟨p,zs,ce⟩) M2 (lC 2 35326938693681 T1 l2 l1)
 have hg:∀ j,j < M.length → M3[j]? = M1[j]?:=fun j hj=>by rw [t2 j hj,← hM2,List.getElem?_append_left (by exact lC 2 2203623428113 T1 hj l1)]
 refine ⟨⟨p,zs,ce⟩,M3,(Zb6 (env:=[some (.ref d),some (Zr roll),none,none,none]) (d:=Zd ⟨p,zs,ce⟩) (M':=M2) ?_).trans t1,⟨⟨lp,lz⟩,kc,lc⟩,K1.keep fun j hj=>hg j (lC 2 2203874037777 T1 hj l1),t3,fun j hj hjd=>by rw [hg j hj,o1 j hjd]⟩
 refine (Zj (Zw (Zdf rfl en))).trans ((Zj (Zw b3)).trans ((Zj u1).trans ((Zj (Zw (ZaL rfl rfl))).trans ((Zj ec).trans (Zaw (ZaL (Zo (d:=.int (p:Int)) (Zm (a:=.int (v / 2)) (b:=.int (roll.length:Int)) (Zm rfl rfl (Zba (by decide))) (ZcG rfl (Zfg roll)) ?_) (Zo (ZcG rfl (ZiN gz)) (Zo rfl rfl))) rfl))))))
 rw [← hpp]; exact ZaT (iN [_,_] [] 1 417927185 T1 lp)
theorem ZlT (s:Stt) (roll:Zd9) (c:Int) (M:Store) (hb:s.boxes.length = 8) (hp:0 < roll.length) (hc:s.cells.length ≤ 5000):∃ t:Stt,ZaZ [Zd s,Zr roll,.int c] M = .ok (Zd t) M:=by
 have fin:∀ t:Stt,ZdA [some (Zd s),some (Zr roll),some (.int c),none,none,none] M = .rt (Zd t) M → ∃ t:Stt,ZaZ [Zd s,Zr roll,.int c] M = .ok (Zd t) M:=fun t h=>⟨t,(Zb6 h).trans (ZcT rfl)⟩
 have a0:Zmb (Zb 0) (ZhD [3,4,5]) [some (Zd s),some (Zr roll),some (.int c),none,none,none] M = .nx [some (Zd s),some (Zr roll),some (.int c),some (.int (s.place:Int)),some (Zac s.boxes),some (Zab s.cells)] M:=Zqc rfl rfl
 by_cases h1:c % 3 = 0 ∧ (roll.length:Int) > 1
 ·obtain ⟨p,hpp,lp⟩:=ZbI ((s.place:Int) + 1) roll.length hp
  refine fin ⟨p,s.boxes,s.cells⟩ ((Zj a0).trans (Zch ((Zbc (M':=M) ((ZcK (Zm (Zm rfl rfl (ZaT (by decide))) rfl (ZjN h1.1))).trans (Zm (ZcG rfl (Zfg roll)) rfl (by simp only [ZfA,decide_eq_true h1.2])))).trans (Zaw (ZaL (Zo (d:=.int (p:Int)) (Zm (Zm rfl rfl rfl) (ZcG rfl (Zfg roll)) ?_) rfl) rfl)))))
  rw [← hpp]; exact ZaT (iN [_,_] [] 1 417927185 T1 lp)
 ·have s1:sIf (ZbG (e2 ZaK (e2 Zai (Zb 2) (eC (.int 3))) (eC (.int 0))) (e2 Zei (Zaz ZaS (Za (Zb 1) (Zf))) (eC (.int 1)))) (Zax (Zbg (Za (e2 Zai (e2 Zay (Zb 3) (eC (.int 1))) (Zaz ZaS (Za (Zb 1) (Zf)))) (Za (Zb 4) (Za (Zb 5) (Zf)))))) (Zan) [some (Zd s),some (Zr roll),some (.int c),some (.int (s.place:Int)),some (Zac s.boxes),some (Zab s.cells)] M = .nx [some (Zd s),some (Zr roll),some (.int c),some (.int (s.place:Int)),some (Zac s.boxes),some (Zab s.cells)] M:=by
   refine Zau ?_
   by_cases h2:c % 3 = 0
   ·exact (ZcK (Zm (Zm rfl rfl (ZaT (by decide))) rfl (ZjN h2))).trans (Zm (ZcG rfl (Zfg roll)) rfl (by simp only [ZfA,decide_eq_false fun z=>h1 ⟨h2,z⟩]))
   ·exact Zet (Zm (Zm rfl rfl (ZaT (by decide))) rfl (ZkG h2))
  by_cases h3:c % 3 = 1
  ·refine fin ⟨s.place,s.boxes,s.cells ++ [(7,-1 - c / 3 % 5)]⟩ ((Zj a0).trans ((Zj s1).trans (Zch ((Zbc (M':=M) (Zm (Zm rfl rfl (ZaT (by decide))) rfl (ZjN h3))).trans (Zaw (ZaL (Zo rfl (Zo rfl (Zo (Zm rfl (ZaL (Zo (ZaL (Zo rfl (Zo (Zm rfl (Zm (Zm rfl rfl (Zba (by decide))) rfl (ZaT (by decide))) rfl) rfl)) rfl) rfl) rfl) ?_) rfl))) rfl))))))
   have z:(s.cells.map ZaM).length + [D.tup [.int 7,.int (-1 - c / 3 % 5)]].length ≤ SZ:=by
    rw [List.length_map]; exact Nat.le_trans (Nat.add_le_add_right hc 1) (by decide)
   show Zay (.tup (s.cells.map ZaM)) (.tup [.tup [.int 7,.int (-1 - c / 3 % 5)]]) M = .ok (.tup ((s.cells ++ [(7,-1 - c / 3 % 5)]).map ZaM)) M
   rw [List.map_append]
   simp only [ZdM,ZdQ,ZdI,ZdO,if_pos z]; rfl
  ·obtain ⟨x,_,g7⟩:=Zdh hb (by decide:7 < 8)
   have c7:cutD (s.boxes.map D.int) none (some 7) = (s.boxes.take 7).map D.int:=by
    have:=ZgO (s.boxes.map D.int) 7
    rw [← List.map_take] at this; exact this
   have z:((s.boxes.take 7).map D.int).length + [D.int (x + 1)].length ≤ SZ:=by
    rw [List.length_map,List.length_take]; exact Nat.le_trans (Nat.add_le_add_right (Nat.min_le_left _ _) 1) (by decide)
   have es:(eSl (Zb 4) (Zb3) (Zb5 (eC (.int 7)))) [some (Zd s),some (Zr roll),some (.int c),some (.int (s.place:Int)),some (Zac s.boxes),some (Zab s.cells)] M = .ok (.tup ((s.boxes.take 7).map D.int)) M:=by
    show R3.ok (D.tup (cutD (s.boxes.map D.int) none (some 7))) M = _
    rw [c7]
   have ei:(e2 Zq (Zb 4) (eC (.int 7))) [some (Zd s),some (Zr roll),some (.int c),some (.int (s.place:Int)),some (Zac s.boxes),some (Zab s.cells)] M = .ok (.int x) M:=Zm rfl rfl (Zgo g7)
   refine fin ⟨s.place,s.boxes.take 7 ++ [x + 1],s.cells⟩ ((Zj a0).trans ((Zj s1).trans ((Zj (Zau (M':=M) (Zm (Zm rfl rfl (ZaT (by decide))) rfl (ZkG h3)))).trans (Zaw (ZaL (Zo rfl (Zo (d:=Zac (s.boxes.take 7 ++ [x + 1])) (Zm es (ZaL (Zo (Zm ei rfl rfl) rfl) rfl) ?_) (Zo rfl rfl))) rfl)))))
   simp only [ZdM,ZdQ,ZdI,ZdO,if_pos z,Zac,List.map_append]; rfl
noncomputable def ZcU (s1 s2:List Stt):List D:=if s1.length ≠ s2.length ∨ s1.length < 2 then [] else if s1[0]? ≠ s2[0]? then [.int 0] else [.int 0,.int (s1.length - 1:Int)]
theorem ZmI {p:Nat} {ss:List Stt} {M:Store} {k:Nat} {x:Stt} (h:M[p]? = some (.lst (ss.map Zd))) (hx:ss[k]? = some x):Zq (.ref p) (.int (k:Int)) M = .ok (Zd x) M:=Zci h (by rw [ZbO,List.getElem?_map,hx]; rfl)
theorem Zqr {p q:Nat} {s1 s2:List Stt} {M:Store} (h1:M[p]? = some (.lst (s1.map Zd))) (h2:M[q]? = some (.lst (s2.map Zd))):Zdl [.ref p,.ref q] M = .ok (.ref M.length) (M ++ [.lst (ZcU s1 s2)]):=by
 have l1:∀ env:Zaf,env[0]? = some (some (.ref p)) → Zaz ZaS (Za (Zb 0) (Zf)) env M = .ok (.int (s1.length:Int)) M:=fun env he=>ZcG (by simp only [Zb,he]) ((Zfj h1).trans (by rw [List.length_map]))
 have l2:∀ env:Zaf,env[1]? = some (some (.ref q)) → Zaz ZaS (Za (Zb 1) (Zf)) env M = .ok (.int (s2.length:Int)) M:=fun env he=>ZcG (by simp only [Zb,he]) ((Zfj h2).trans (by rw [List.length_map]))
 have c:(eOr (e2 ZbJ (Zaz ZaS (Za (Zb 0) (Zf))) (Zaz ZaS (Za (Zb 1) (Zf)))) (e2 ZhA (Zaz ZaS (Za (Zb 0) (Zf))) (eC (.int 2)))) [some (.ref p),some (.ref q)] M = .ok (.bl (decide (s1.length ≠ s2.length ∨ s1.length < 2))) M:=by
  by_cases h:s1.length = s2.length
  ·refine (Zjm (M1:=M) (Zm (l1 _ rfl) (l2 _ rfl) (Zit (by rw [h])))).trans (Zm (l1 _ rfl) rfl ?_)
   simp only [Zla]
   rw [show decide (s1.length ≠ s2.length ∨ s1.length < 2) = decide ((s1.length:Int) < 2) from decide_eq_decide.mpr ⟨fun z=>by omega,fun z=>.inr (iN [_] [] 1 37040101722257 T1 z)⟩]
  ·refine (ZpN (M1:=M) (Zm (l1 _ rfl) (l2 _ rfl) ?_)).trans (by rw [decide_eq_true (.inl h)])
   have:¬ (s1.length:Int) = s2.length:=(fun z=>iN [_,_] [] 2 6666076031153 T1 z (Nat.lt_of_le_of_ne (iN [_,_] [] 1 4296542369 T1 z) h))
   simp only [ZbJ,ZdV,Zd0,Zd8,ZdU,ZdX,decide_eq_false this]; rfl
 refine (Zb6 (env:=[some (.ref p),some (.ref q)]) (d:=.ref M.length) (M':=M ++ [.lst (ZcU s1 s2)]) ?_).trans (Ziu (by simp [below]))
 unfold ZcU
 by_cases h:s1.length ≠ s2.length ∨ s1.length < 2
 ·rw [if_pos h]; rw [decide_eq_true h] at c
  exact Zch ((Zbc c).trans (Zaw (ZaX rfl rfl)))
 ·rw [if_neg h]; rw [decide_eq_false h] at c
  have g1:s1[0]? = some (s1[0]'(by omega)):=List.getElem?_eq_getElem _
  have g2:s2[0]? = some (s2[0]'(by omega)):=List.getElem?_eq_getElem _
  generalize s1[0]'(by omega) = x at g1
  generalize s2[0]'(by omega) = y at g2
  have cn:(e2 ZbJ (e2 Zq (Zb 0) (eC (.int 0))) (e2 Zq (Zb 1) (eC (.int 0)))) [some (.ref p),some (.ref q)] M = .ok (.bl (!decide (x = y))) M:=Zm (Zm rfl rfl (ZmI (k:=0) h1 g1)) (Zm rfl rfl (ZmI (k:=0) h2 g2)) (Zlq x y M)
  rw [g1,g2]
  by_cases e:x = y
  ·rw [if_neg (by simp [e])]; rw [decide_eq_true e] at cn
   exact (Zj (Zau c)).trans ((Zj (Zau cn)).trans (Zaw (ZaX (Zo rfl (Zo (Zm (l1 _ rfl) rfl rfl) rfl)) rfl)))
  ·rw [if_pos (by simp [e])]; rw [decide_eq_false e] at cn
   exact (Zj (Zau c)).trans (Zch ((Zbc cn).trans (Zaw (ZaX rfl rfl))))
theorem ZnK {o:E3} {env:Zaf} {M M1:Store} {m:Nat} {ss:List D} (ho:o env M = .ok (.ref m) M1) (hM:M1[m]? = some (.lst ss)):ZcS TEL Zaa (Za o (Zf)) env M = .ok (.ref M1.length) (M1 ++ [ZaF ss (M1.length + 1),.lst []]):=by
 have h:(Za o Zf) env M = .ok [.ref m] M1:=Zo ho rfl
 simp only [ZcS,h,R3.bind,ZoA hM]
structure W54 (cs:List Int) (o:Nat) (ones:List Stt) (at_ p:Nat) (others:List Stt) (M:Store):Prop where
 K:Zeh cs 0 1 at_ M
 mo:M[o]? = some (.lst (ones.map Zd))
 mp:M[p]? = some (.lst (others.map Zd))
 po:p ≠ o
 p2:2 ≤ p
 o2:2 ≤ o
section
variable {cs:List Int} {o at_ p:Nat} {ones others:List Stt} {M:Store}
theorem W54.grow (W:W54 cs o ones at_ p others M) (G:Store):W54 cs o ones at_ p others (M ++ G):=⟨W.K.keep fun _ hj=>List.getElem?_append_left hj,Zt W.mo _,Zt W.mp _,W.po,W.p2,W.o2⟩
theorem W54.put (W:W54 cs o ones at_ p others M) (t:List Stt):W54 cs o ones at_ p t (M.set p (.lst (t.map Zd))):=by
 have h:∀ j,j ≠ p → (M.set p (.lst (t.map Zd)))[j]? = M[j]?:=fun j hj=>List.getElem?_set_ne (Ne.symm hj)
 have p2:=W.p2
 exact ⟨⟨(h 1 (fun z=>lA 2 6606112754225 T1 z p2)).trans W.K.hd,(h 0 (fun z=>lA 2 6606112755249 T1 z p2)).trans W.K.hc,W.K.ne⟩,(h o (Ne.symm W.po)).trans W.mo,List.getElem?_set_self (List.getElem?_eq_some_iff.mp W.mp).1,W.po,W.p2,W.o2⟩
theorem W54.at' (W:W54 cs o ones at_ p others M) {b:Nat} {M':Store} (K:Zeh cs 0 1 b M') (h:∀ j,j < M.length → j ≠ 1 → M'[j]? = M[j]?):W54 cs o ones b p others M':=by
 have p2:=W.p2
 have o2:=W.o2
 exact ⟨K,(h o (List.getElem?_eq_some_iff.mp W.mo).1 (fun z=>lA 2 6606112792609 T1 z o2)).trans W.mo,(h p (List.getElem?_eq_some_iff.mp W.mp).1 (fun z=>lA 2 6606112792609 T1 z p2)).trans W.mp,W.po,W.p2,W.o2⟩
theorem ZrG (W:W54 cs o ones at_ p others M):ZbJ (.ref o) (.ref M.length) (M ++ [.lst []]) = .ok (.bl (!decide (ones = []))) (M ++ [.lst []]):=by
 have h:Zc4 (ones.map Zd) [] = decide (ones = []):=by cases ones with | nil=>rfl | cons a l=>exact (decide_eq_false (List.cons_ne_nil a l)).symm
 simp only [ZbJ,ZdV,Zd0,Zd8,ZdU,ZdX,Zt W.mo,Zam,Zjk,List.all_nil,Bool.and_self,if_true,h]
theorem ZkN {z r:D} {v:Int} {x5 x7 x8 x9 x10 x11 x12 x13:Option D} {roll:Zd9} (hr:r = Zr roll) (hp:0 < roll.length) (W:W54 cs o ones at_ p others M) (ln:others.length = ones.length) (ha:at_ < 1000000) (gs:∀ s ∈ ones,ZhS roll s) {C IX:E3} {i:Int} {b:Bool}
  (hC:∀ M,C [some z,some (.ref 1),some (.int v),some r,some (.ref o),x5,some (.ref p),x7,x8,x9,x10,x11,x12,x13] M = .ok (.bl b) M) (hI:∀ M,IX [some z,some (.ref 1),some (.int v),some r,some (.ref o),x5,some (.ref p),x7,x8,x9,x10,x11,x12,x13] M = .ok (.int i) M)
  (hi:ones ≠ [] → (∃ x ∈ ones,ZaN (ones.map Zd) i = some (Zd x)) ∧ ∃ k,ixD ones.length i = some k):
  ∃ (t:List Stt) (a:Nat) (M':Store),t.length = ones.length ∧ a ≤ at_ + 1 ∧ W54 cs o ones a p t M' ∧ sIf (ZbG C (e2 ZbJ (Zb 4) (ZaY (Zf)))) (Zeb (Zb 6) IX (Zae ZaZ (Za (e2 Zq (Zb 4) IX) (Za (Zb 3) (Za (Zae ZaP (Za (Zb 1) (Zf))) (Zf)))))) (Zan) [some z,some (.ref 1),some (.int v),some r,some (.ref o),x5,some (.ref p),x7,x8,x9,x10,x11,x12,x13] M = .nx [some z,some (.ref 1),some (.int v),some r,some (.ref o),x5,some (.ref p),x7,x8,x9,x10,x11,x12,x13] M':=by
 subst hr
 cases b with
 | false=>exact ⟨others,at_,M,ln,Nat.le_add_right _ _,W,Zau (Zet (hC M))⟩
 | true=>
  have c:(ZbG C (e2 ZbJ (Zb 4) (ZaY (Zf)))) [some z,some (.ref 1),some (.int v),some (Zr roll),some (.ref o),x5,some (.ref p),x7,x8,x9,x10,x11,x12,x13] M = .ok (.bl (!decide (ones = []))) (M ++ [.lst []]):=(ZcK (hC M)).trans (Zm rfl (ZaX rfl rfl) (ZrG W))
  by_cases h:ones = []
  ·rw [decide_eq_true h] at c
   exact ⟨others,at_,_,ln,Nat.le_add_right _ _,W.grow _,Zau c⟩
  ·rw [decide_eq_false h] at c
   obtain ⟨⟨x,hx,gx⟩,k,gk⟩:=hi h
   have W1:=W.grow [.lst []]
   obtain ⟨cc,M2,en,K2,l2,o2⟩:=W1.K.next ha
   have W2:=W1.at' K2 fun j _ hj=>o2 j hj
   have g:=gs x hx
   obtain ⟨t,et⟩:=ZlT x roll cc M2 g.ok.2 hp g.few
   refine ⟨others.set k t,at_ + 1,M2.set p (.lst ((others.set k t).map Zd)),by rw [List.length_set,ln],Nat.le_refl _,W2.put _,(Zbc c).trans (ZdG (d:=.non) (ZsU (Zb7 (Zm rfl (hI _) (Zci W1.mo gx)) rfl (Zdf rfl en) et) rfl (hI _) ?_))⟩
   have ix:ixD (others.map Zd).length i = some k:=by rw [List.length_map,ln]; exact gk
   simp only [ZfH,W2.mp,ix,List.map_set]
end
theorem Zo6 {n:Nat} (h:0 < n):ixD n (-1) = some (n - 1):=by
 unfold ixD
 rw [if_neg (by decide),if_pos (by exact iN [_] [] 1 725993655825 T1 h)]
 congr 1; exact Nat.le_antisymm (iN [_,_,_] [] 2 0x200a2c10118a9c08a1 T1 (Int.toNat_of_nonneg (iN [_] [] 1 595337940497 T1 h)) (sbA _ _)) (iN [_,_,_] [] 2 0x1200a2c211808a9c81 T1 (Int.self_le_toNat _) (Nat.sub_add_cancel (lA 1 10489361 T1 h)))
theorem Zox (ones:List Stt) (h:ones ≠ []):(∃ x ∈ ones,ZaN (ones.map Zd) (-1) = some (Zd x)) ∧ ∃ k,ixD ones.length (-1) = some k:=by
 refine ⟨⟨ones.getLast h,List.getLast_mem h,?_⟩,_,Zo6 (List.length_pos_iff.mpr h)⟩
 rw [Zh3,List.getLast?_map,List.getLast?_eq_some_getLast h]; rfl
theorem ZnR (ones:List Stt) (h:ones ≠ []):(∃ x ∈ ones,ZaN (ones.map Zd) 0 = some (Zd x)) ∧ ∃ k,ixD ones.length 0 = some k:=by
 cases ones with
 | nil=>exact absurd rfl h
 | cons a l=>exact ⟨⟨a,List.mem_cons_self,(ZbO _ 0).trans rfl⟩,0,by simp [ixD]⟩
section
variable {cs:List Int} {o at_ p:Nat} {ones others:List Stt} {M:Store} {z:D} {v w:Int} {x7 x8 x9 x10 x11 x12 x13:Option D} {roll:Zd9}
theorem ZnQ (hp:0 < roll.length) (W:W54 cs o ones at_ p others M) (ln:others.length ≤ 1000) (ha:at_ < 1000000):
  ∃ (t:List Stt) (a p':Nat) (M':Store),t.length ≤ others.length + 1 ∧ a ≤ at_ + 1 ∧ W54 cs o ones a p' t M' ∧ sIf (ZbG (e2 ZaK (e2 Zad (Zb 5) (eC (.int 4))) (eC (.int 1))) (e2 ZaK (e2 Zai (e2 Zad (Zb 2) (eC (.int 183))) (eC (.int 2))) (eC (.int 1)))) (ZaR (ZcR tyL ZaV (Zb 6) (Za (Zae Za8 (Za (Zb 1) (Za (Zb 3) (Zf)))) (Zf)))) (sIf (e2 ZaK (e2 Zad (Zb 5) (eC (.int 4))) (eC (.int 1))) (Zaj 6 (eSl (Zb 6) (Zb3) (Zb5 (e1 Zcw (eC (.int 1)))))) (Zan)) [some z,some (.ref 1),some (.int v),some (Zr roll),some (.ref o),some (.int w),some (.ref p),x7,x8,x9,x10,x11,x12,x13] M = .nx [some z,some (.ref 1),some (.int v),some (Zr roll),some (.ref o),some (.int w),some (.ref p'),x7,x8,x9,x10,x11,x12,x13] M':=by
 have p2:=W.p2
 by_cases h4:w / 4 = 1
 ·have c4:(e2 ZaK (e2 Zad (Zb 5) (eC (.int 4))) (eC (.int 1))) [some z,some (.ref 1),some (.int v),some (Zr roll),some (.ref o),some (.int w),some (.ref p),x7,x8,x9,x10,x11,x12,x13] M = .ok (.bl true) M:=Zm (Zm rfl rfl (Zba (by decide))) rfl (ZjN h4)
  by_cases h5:v / 183 % 2 = 1
  ·obtain ⟨s,M1,es,_,K1,l1,o1⟩:=Zjz W.K ha roll hp
   have W1:=W.at' K1 o1
   have e:(others.map Zd ++ [Zd s]) = (others ++ [s]).map Zd:=by simp
   refine ⟨others ++ [s],at_ + 1,p,M1.set p (.lst ((others ++ [s]).map Zd)),by simp,Nat.le_refl _,W1.put _,(Zbc ((ZcK c4).trans (Zm (Zm (Zm rfl rfl (Zba (by decide))) rfl (ZaT (by decide))) rfl (ZjN h5)))).trans ?_⟩
   rw [← e]
   exact Zdc rfl W.mp (Zdd rfl rfl es) W1.mp (by rw [List.length_map]; exact Nat.lt_of_le_of_lt ln (by decide))
  ·have lm:p < M.length:=(List.getElem?_eq_some_iff.mp W.mp).1
   have ol:o < M.length:=(List.getElem?_eq_some_iff.mp W.mo).1
   refine ⟨others.dropLast,at_,M.length,M ++ [.lst (others.dropLast.map Zd)],by rw [List.length_dropLast]; exact lB 1 43419439105 T1 (Nat.sub_le _ _),Nat.le_add_right _ _,⟨(W.grow _).K,Zt W.mo _,Zam _ _ _,(fun z=>lB 2 25787699233 T1 z ol),lB 2 81539791358857233 T1 lm p2,W.o2⟩,(Zbp ((ZcK c4).trans (Zm (Zm (Zm rfl rfl (Zba (by decide))) rfl (ZaT (by decide))) rfl (ZkG h5)))).trans ((Zbc c4).trans (Zw ?_))⟩
   have:ZjL (.ref p) none (some (-1)) M = .ok (.ref M.length) (M ++ [.lst (others.dropLast.map Zd)]):=by
    simp only [Zds,Zdv,Zdx,Zdu,W.mp,alloc,Znp,List.map_dropLast]
   exact this
 ·have c4:(e2 ZaK (e2 Zad (Zb 5) (eC (.int 4))) (eC (.int 1))) [some z,some (.ref 1),some (.int v),some (Zr roll),some (.ref o),some (.int w),some (.ref p),x7,x8,x9,x10,x11,x12,x13] M = .ok (.bl false) M:=Zm (Zm rfl rfl (Zba (by decide))) rfl (ZkG h4)
  exact ⟨others,at_,p,M,Nat.le_add_right _ _,Nat.le_add_right _ _,W,(Zbp (Zet c4)).trans (Zau c4)⟩
end
theorem Zph {f:E3} {i j:Nat} {env:Zaf} {M M1:Store} {n:Nat} {a b:D} (h:f env M = .ok (.ref n) M1) (hn:M1[n]? = some (.lst [a,b])):ZgI f [i,j] env M = .nx ((env.set i (some a)).set j (some b)) M1:=by
 simp [ZgI,h,hn]
theorem ZkD (eq:Nat → Bool):∀ f low high,(hv eq f low high).1.length ≤ f
 | 0,_,_=>Nat.le_refl _
 | f + 1,low,high=>by
  unfold hv
  split
  ·exact Nat.zero_le _
  ·split
   ·exact Nat.succ_le_succ (ZkD eq f _ _)
   ·exact Nat.succ_le_succ (ZkD eq f _ _)
theorem Tw.grow {M:Store} {n1 a1 n2 a2:Nat} {s1 s2:List Stt} {t1 t2:List D} (T:Tw M n1 a1 n2 a2 s1 s2 t1 t2) (G:Store):Tw (M ++ G) n1 a1 n2 a2 s1 s2 t1 t2:=⟨Zt T.o1 _,Zt T.o2 _,Zt T.l1 _,Zt T.l2 _,T.aa,T.n11,T.n12,T.n21,T.n22⟩
theorem Zh5 {M:Store} {a1 a2:Nat} {t1 t2:List D} {j:Nat} (h1:j ≠ a1) (h2:j ≠ a2):(asked M a1 a2 t1 t2)[j]? = M[j]?:=by
 unfold asked
 rw [List.getElem?_set_ne (Ne.symm h2),List.getElem?_set_ne (Ne.symm h1)]
theorem Znh {a b:Int} {M:Store}:ZaK (.int a) (.int b) M = .ok (.bl (decide (a = b))) M:=by simp only [ZaK,ZdV,Zd0,Zd8,ZdU,ZdX]
noncomputable abbrev Zkt:E3:=(ZbG (e2 ZaK (Zaz ZaS (Za (Zb 8) (Zf))) (eC (.int 2))) (e2 ZbJ (e2 Zq (Zb 4) (e1 Zcw (eC (.int 1)))) (e2 Zq (Zb 6) (e1 Zcw (eC (.int 1))))))
structure ZkV (M A:Store) (n1 a1 n2 a2 q:Nat) (s1 s2:List Stt) (g:Bool) (ts:List D):Prop where
 out:A[q]? = some (.lst [.bl (!g),.bl g])
 due:ts.take 2 = ZcU s1 s2
 few:g = false → ts.length ≤ 2
 len:ts.length ≤ 1000
 pl:∀ d ∈ ts,∃ i:Int,d = .int i
 T:Tw A n1 a1 n2 a2 s1 s2 ts ts
 old:∀ j,j < M.length → j ≠ a1 → j ≠ a2 → A[j]? = M[j]?
section
variable {M:Store} {n1 a1 n2 a2 tl o p dq:Nat} {s1 s2:List Stt} {env:Zaf}
theorem Zni {r:D} {t1 t2:List D} (T:Tw M n1 a1 n2 a2 s1 s2 t1 t2) (ht:M[tl]? = some (.lst [.ref n1,.ref n2])) {ts:List D} (hd:ts.take 2 = ZcU s1 s2) (hl:ts.length ≤ 2) (pl:∀ d ∈ ts,∃ i:Int,d = .int i)
  (hj:Zbt [r,.ref n1,.ref n2] M = .exc ⟨ND,.ref (asked M a1 a2 ts ts).length⟩ (asked M a1 a2 ts ts ++ [.ins (0 :: ND) []])):
  ∃ (A:Store) (q:Nat),ZaJ [r,.ref tl] M = .ok (.ref q) A ∧ ZkV M A n1 a1 n2 a2 q s1 s2 false ts:=by
 have ll:(asked M a1 a2 ts ts).length = M.length:=ZeI
 refine ⟨_,_,ZhG ht (Nat.le_of_eq ll.symm) hj,Zdr _ _ 1,hd,fun _=>hl,lA 1 0x3e83b0021b001 T1 hl,pl,(T.put ts ts).grow _,fun j hj h1 h2=>?_⟩
 rw [List.getElem?_append_left (by exact lC 2 2203623428113 T1 hj ll),Zh5 h1 h2]
theorem ZoO (roll:Zd9) (hok:∀ x ∈ roll,x.ok roll.length) (T:Tw M n1 a1 n2 a2 s1 s2 [] []) (ht:M[tl]? = some (.lst [.ref n1,.ref n2])) (mo:M[o]? = some (.lst (s1.map Zd))) (mp:M[p]? = some (.lst (s2.map Zd))) (md:M[dq]? = some (.lst (ZcU s1 s2)))
  (e4:env[4]? = some (some (.ref o))) (e6:env[6]? = some (some (.ref p))) (e8:env[8]? = some (some (.ref dq))) (l1:s1.length ≤ 100) (gs:∀ s ∈ s1,ZhS roll s):
  ∃ (g:Bool) (ts:List D) (A:Store) (q:Nat),Zkt env M = .ok (.bl g) M ∧ ZaJ [Zr roll,.ref tl] M = .ok (.ref q) A ∧ ZkV M A n1 a1 n2 a2 q s1 s2 g ts:=by
 have ln:Zaz ZaS (Za (Zb 8) (Zf)) env M = .ok (.int ((ZcU s1 s2).length:Int)) M:=ZcG (by simp only [Zb,e8]) (Zfj md)
 have i0:∀ n:Nat,∀ d ∈ [D.int 0,.int (n:Int)],∃ i:Int,d = .int i:=fun n d hd=>by
  rcases List.mem_cons.mp hd with z | z
  ·exact ⟨_,z⟩
  ·exact ⟨_,List.mem_singleton.mp z⟩
 by_cases h:s1.length ≠ s2.length ∨ s1.length < 2
 ·have hd:ZcU s1 s2 = []:=by unfold ZcU; rw [if_pos h]
  have jf:=ZgV (M:=M) (Zr roll) T.o1 T.o2 h
  have as:=ZgX T
  obtain ⟨A,q,ea,K⟩:=Zni (r:=Zr roll) T ht (ts:=[]) (by rw [hd]; rfl) (Nat.zero_le _) (fun d z=>nomatch z) (by rw [as]; exact jf)
  refine ⟨false,[],A,q,Zet (Zm ln rfl ?_),ea,K⟩
  rw [hd]; exact ZkG (by decide)
 ·have hn:s1.length = s2.length:=Decidable.of_not_not fun z=>h (.inl z)
  have h2:2 ≤ s1.length:=Nat.le_of_not_lt fun z=>h (.inr z)
  have g0:s1[0]? = some (s1[0]'(lA 1 3775011585 T1 h2)):=List.getElem?_eq_getElem _
  have g0':s2[0]? = some (s2[0]'(lB 2 528934366223105 T1 h2 hn)):=List.getElem?_eq_getElem _
  generalize s1[0]'(lA 1 3775011585 T1 h2) = x at g0
  generalize s2[0]'(lB 2 528934366223105 T1 h2 hn) = y at g0'
  have b0:=Zfx T g0 g0' (show 0 < 1000000 by decide) (show 0 < 1000000 by decide)
  by_cases e:x = y
  rotate_left
  ·have hd:ZcU s1 s2 = [.int 0]:=by unfold ZcU; rw [if_neg h,if_pos (by rw [g0,g0']; simpa using e)]
   obtain ⟨A,q,ea,K⟩:=Zni (r:=Zr roll) T ht (ts:=[.int 0]) (by rw [hd]; rfl) (by decide) (fun d z=>⟨_,List.mem_singleton.mp z⟩) (ZiH (Zr roll) T.o1 T.o2 h b0 e)
   refine ⟨false,_,A,q,Zet (Zm ln rfl ?_),ea,K⟩
   rw [hd]; exact ZkG (by decide)
  ·subst e
   have hm:((s1.length - 1:Nat):Int) = (s1.length:Int) - 1:=Int.le_antisymm (iN [_,_] [] 1 0xa18f0881a0c21 T1 (Nat.sub_add_cancel (lA 1 2684492545 T1 h2))) (iN [_,_] [] 1 433246112432129 T1 (sbA _ _))
   have hd:ZcU s1 s2 = [.int 0,.int ((s1.length - 1:Nat):Int)]:=by unfold ZcU; rw [if_neg h,if_neg (by rw [g0,g0']; simp),hm]
   have gl:s1[s1.length - 1]? = some (s1[s1.length - 1]'(iN [_,_] [] 1 1106517100705 T1 hm)):=List.getElem?_eq_getElem _
   have gl':s2[s1.length - 1]? = some (s2[s1.length - 1]'(iN [_,_,_] [] 2 0x2012121a18f08a1 T1 hm hn)):=List.getElem?_eq_getElem _
   generalize s1[s1.length - 1]'(iN [_,_] [] 1 1106517100705 T1 hm) = u at gl
   generalize s2[s1.length - 1]'(iN [_,_,_] [] 2 0x2012121a18f08a1 T1 hm hn) = v at gl'
   have neg:∀ ss:List Stt,ss.length = s1.length → ∀ w,ss[s1.length - 1]? = some w → ZaN (ss.map Zd) (-1) = some (Zd w):=fun ss hs w hw=>by
    rw [Zh3,List.getLast?_eq_getElem?,List.length_map,hs,List.getElem?_map,hw]; rfl
   have gd:Zkt env M = .ok (.bl (!decide (u = v))) M:=by
    refine (ZcK (M1:=M) (Zm ln rfl ?_)).trans (Zm (Zm (M1:=M) (by simp only [Zb,e4]) rfl (Zci mo (neg s1 rfl u gl))) (Zm (by simp only [Zb,e6]) rfl (Zci mp (neg s2 hn.symm v gl'))) (Zlq u v M))
    rw [hd]; exact ZjN rfl
   have T1:=T.put [.int ((0:Nat):Int)] [.int ((0:Nat):Int)]
   have b1:=Zfx T1 gl gl' (show 1 < 1000000 by decide) (show 1 < 1000000 by decide)
   rw [ZcV T.aa] at b1
   by_cases e:u = v
   ·subst e
    obtain ⟨A,q,ea,K⟩:=Zni (r:=Zr roll) T ht (ts:=[.int 0,.int ((s1.length - 1:Nat):Int)]) (by rw [hd]; rfl) (by simp) (i0 _) (Zf3 (Zr roll) T.o1 T.o2 h b0 T1.o1 b1)
    rw [decide_eq_true rfl] at gd
    exact ⟨false,_,A,q,gd,ea,K⟩
   ·rw [decide_eq_false e] at gd
    obtain ⟨_,_,_,_,_,_,jd⟩:=Zl0 roll hok T hn.symm h2 (by simp; omega) (by simp; omega) (by rw [g0,g0']) (by rw [gl,gl']; simpa using e) fun s hs=>⟨(gs s hs).ok,(gs s hs).keys,(gs s hs).few⟩
    have hl:=ZkD (fun m=>decide (s1[m]? = s2[m]?)) (s1.length - 1) 0 (s1.length - 1)
    generalize (hv (fun m=>decide (s1[m]? = s2[m]?)) (s1.length - 1) 0 (s1.length - 1)) = r at jd hl
    rw [List.nil_append] at jd
    have ll:(asked M a1 a2 (((0:Nat) :: (s1.length - 1) :: r.1).map fun m:Nat=>D.int (m:Int)) (((0:Nat) :: (s1.length - 1) :: r.1).map fun m:Nat=>D.int (m:Int))).length = M.length:=ZeI
    refine ⟨true,((0:Nat) :: (s1.length - 1) :: r.1).map fun m:Nat=>D.int (m:Int),_,_,gd,Zkw ht (Nat.le_of_eq ll.symm) jd,Zam _ _ _,by rw [hd]; rfl,(fun z=>nomatch z),by simp; omega,fun d hd=>?_,(T.put _ _).grow _,fun j hj h1 h2=>?_⟩
    ·obtain ⟨m,_,rfl⟩:=List.mem_map.mp hd
     exact ⟨_,rfl⟩
    ·rw [List.getElem?_append_left (by omega),Zh5 h1 h2]
end
noncomputable def ZmW:S3:=(sIf (eOr (e1 ZdN (Zae Zbk (Za (eSl (ZaA [84,101,108,108,101,114] [116,105,109,101,115,95,97,115,107,101,100] Zu (Zb 12) (Zf)) (Zb3) (Zb5 (eC (.int 2)))) (Za (Zb 8) (Zf))))) (ZbG (e1 ZdN (Zb 9)) (e2 Zei (Zaz ZaS (Za (ZaA [84,101,108,108,101,114] [116,105,109,101,115,95,97,115,107,101,100] Zu (Zb 12) (Zf)) (Zf))) (eC (.int 2))))) (Zax (eC (.bl false))) (Zan))
noncomputable def Zsl:S3:=(Zv (Zaj 6 (Zaz Zgb (Za (Zb 4) (Zf)))) (Zv (sIf (ZbG (e2 ZaK (e2 Zai (Zb 5) (eC (.int 2))) (eC (.int 1))) (e2 ZbJ (Zb 4) (ZaY (Zf)))) (Zeb (Zb 6) (e1 Zcw (eC (.int 1))) (Zae ZaZ (Za (e2 Zq (Zb 4) (e1 Zcw (eC (.int 1)))) (Za (Zb 3) (Za (Zae ZaP (Za (Zb 1) (Zf))) (Zf)))))) (Zan)) (Zv (sIf (ZbG (e2 ZaK (e2 Zai (e2 Zad (Zb 5) (eC (.int 2))) (eC (.int 2))) (eC (.int 1))) (e2 ZbJ (Zb 4) (ZaY (Zf)))) (Zeb (Zb 6) (eC (.int 0)) (Zae ZaZ (Za (e2 Zq (Zb 4) (eC (.int 0))) (Za (Zb 3) (Za (Zae ZaP (Za (Zb 1) (Zf))) (Zf)))))) (Zan)) (Zv (sIf (ZbG (e2 ZaK (e2 Zad (Zb 5) (eC (.int 4))) (eC (.int 1))) (e2 ZaK (e2 Zai (e2 Zad (Zb 2) (eC (.int 183))) (eC (.int 2))) (eC (.int 1)))) (ZaR (ZcR tyL ZaV (Zb 6) (Za (Zae Za8 (Za (Zb 1) (Za (Zb 3) (Zf)))) (Zf)))) (sIf (e2 ZaK (e2 Zad (Zb 5) (eC (.int 4))) (eC (.int 1))) (Zaj 6 (eSl (Zb 6) (Zb3) (Zb5 (e1 Zcw (eC (.int 1)))))) (Zan))) (Zv (Zaj 7 (ZaY (Za (ZcS [84,101,108,108,101,114] Zaa (Za (Zb 4) (Zf))) (Za (ZcS [84,101,108,108,101,114] Zaa (Za (Zb 6) (Zf))) (Zf))))) (Zv (Zaj 8 (Zae Zdl (Za (Zb 4) (Za (Zb 6) (Zf))))) (Zv (Zaj 9 Zkt) (Zv (ZgI (Zae ZaJ (Za (Zb 3) (Za (Zb 7) (Zf)))) [10,11]) (Zv (sIf (eOr (e2 ZaK (Zb 10) (Zb 9)) (e2 ZbJ (Zb 11) (Zb 9))) (Zax (eC (.bl false))) (Zan)) (ZiS (Zhl (Zb 7)) (Zdz 12) ZmW))))))))))
theorem ZpV {ts:List D} {p q:Nat} {M:Store} (hp:M[p]? = some (.lst ts)) (hq:M[q]? = some (.lst ts)) (pt:∀ d ∈ ts,∃ i:Int,d = .int i) (lt:ts.length ≤ 10000):Zbk [.ref p,.ref q] M = .ok (.bl true) M:=ZlN 5 ts p q M hp hq (fun d hd=>by obtain ⟨i,rfl⟩:=pt d hd; rfl) lt
theorem Zh4 {A:Store} {n a dq:Nat} {ss ts due:List D} {g:Bool} {env:Zaf} (ho:A[n]? = some (ZaF ss a)) (ha:A[a]? = some (.lst ts)) (hq:A[dq]? = some (.lst due)) (hd:ts.take 2 = due) (hg:g = false → ts.length ≤ 2) (hl:ts.length ≤ 1000) (pl:∀ d ∈ ts,∃ i:Int,d = .int i)
  (e8:env[8]? = some (some (.ref dq))) (e9:env[9]? = some (some (.bl g))) (e12:env[12]? = some (some (.ref n))):∃ G:Store,ZmW env A = .nx env (A ++ G):=by
 subst hd
 have z:ts.length ≤ 1000000:=Nat.le_trans hl (by decide)
 have m:ZaA TEL [116,105,109,101,115,95,97,115,107,101,100] Zu (Zb 12) (Zf) env A = .ok (.ref A.length) (A ++ [.lst ts]):=Zbx (by simp only [Zb,e12]) (Zbv ho rfl rfl) rfl (Zdj ho ha z)
 have c2:cutD ts none (some 2) = ts.take 2:=ZgO ts 2
 have sl:(eSl (ZaA TEL [116,105,109,101,115,95,97,115,107,101,100] Zu (Zb 12) (Zf)) (Zb3) (Zb5 (eC (.int 2)))) env A = .ok (.ref (A ++ [MO.lst ts]).length) (A ++ [.lst ts] ++ [.lst (ts.take 2)]):=by
  have:ZjL (.ref A.length) none (some 2) (A ++ [.lst ts]) = .ok (.ref (A ++ [MO.lst ts]).length) (A ++ [.lst ts] ++ [.lst (ts.take 2)]):=by simp only [Zds,Zdv,Zdx,Zdu,Zam,alloc,c2]
  simp only [eSl,m,R3.bind,Zb3,Zb5,eC]
  exact this
 have s1:(e1 ZdN (Zae Zbk (Za (eSl (ZaA TEL [116,105,109,101,115,95,97,115,107,101,100] Zu (Zb 12) (Zf)) (Zb3) (Zb5 (eC (.int 2)))) (Za (Zb 8) (Zf))))) env A = .ok (.bl false) (A ++ [.lst ts] ++ [.lst (ts.take 2)]):=Zfk (Zdd sl (by simp only [Zb,e8]) (ZpV (Zam _ _ _) (Zt (Zt hq _) _) (fun d hd=>pl d (List.mem_of_mem_take hd)) (by rw [List.length_take]; exact lA 1 0x27104b0021b001 T1 (Nat.min_le_left _ _)))) rfl
 have n9:∀ B:Store,(e1 ZdN (Zb 9)) env B = .ok (.bl (!g)) B:=fun B=>Zfk (a:=.bl g) (by simp only [Zb,e9]) rfl
 cases g with
 | true=>
  have:=Zau (f:=Zax (eC (.bl false))) ((Zjm s1).trans (Zet (g:=e2 Zei (Zaz ZaS (Za (ZaA TEL [116,105,109,101,115,95,97,115,107,101,100] Zu (Zb 12) (Zf)) (Zf))) (eC (.int 2))) (n9 _)))
  rw [List.append_assoc] at this
  exact ⟨[.lst ts,.lst (ts.take 2)],this⟩
 | false=>
  have l2:=hg rfl
  have ho':=Zt (Zt ho [.lst ts]) [.lst (ts.take 2)]
  have ha':=Zt (Zt ha [.lst ts]) [.lst (ts.take 2)]
  generalize hB:A ++ [MO.lst ts] ++ [.lst (ts.take 2)] = B at s1 ho' ha'
  have m':ZaA TEL [116,105,109,101,115,95,97,115,107,101,100] Zu (Zb 12) (Zf) env B = .ok (.ref B.length) (B ++ [.lst ts]):=Zbx (by simp only [Zb,e12]) (Zbv ho' rfl rfl) rfl (Zdj ho' ha' z)
  have gt:(e2 Zei (Zaz ZaS (Za (ZaA TEL [116,105,109,101,115,95,97,115,107,101,100] Zu (Zb 12) (Zf)) (Zf))) (eC (.int 2))) env B = .ok (.bl false) (B ++ [.lst ts]):=by
   refine Zm (ZcG m' (Zfj (Zam _ _ _))) rfl ?_
   have:¬ (ts.length:Int) > 2:=(fun z=>iN [_] [] 2 0x621b0010821b91 T1 z l2)
   simp only [ZfA,decide_eq_false this]
  have:=Zau (f:=Zax (eC (.bl false))) ((Zjm s1).trans ((ZcK (n9 B)).trans gt))
  rw [← hB,List.append_assoc,List.append_assoc] at this
  exact ⟨[.lst ts,.lst (ts.take 2),.lst ts],this⟩
section
variable {cs:List Int} {o at_:Nat} {ones:List Stt} {M:Store} {z:D} {v w:Int} {x6 x7 x8 x9 x10 x11 x12 x13:Option D} {roll:Zd9}
theorem Zob (R:ZnT roll) (hp:0 < roll.length) (K:Zeh cs 0 1 at_ M) (mo:M[o]? = some (.lst (ones.map Zd))) (o2:2 ≤ o) (l1:ones.length ≤ 100) (ha:at_ < 900000) (gs:∀ s ∈ ones,ZhS roll s):
  ∃ (y6 y7 y8 y9 y10 y11 y12:Option D) (a:Nat) (M':Store),a ≤ at_ + 3 ∧ Zeh cs 0 1 a M' ∧ M'[o]? = some (.lst (ones.map Zd)) ∧ Zsl [some z,some (.ref 1),some (.int v),some (Zr roll),some (.ref o),some (.int w),x6,x7,x8,x9,x10,x11,x12,x13] M = .nx [some z,some (.ref 1),some (.int v),some (Zr roll),some (.ref o),some (.int w),y6,y7,y8,y9,y10,y11,y12,x13] M':=by
 have ol:=(List.getElem?_eq_some_iff.mp mo).1
 have s0:Zaj 6 (Zaz Zgb (Za (Zb 4) (Zf))) [some z,some (.ref 1),some (.int v),some (Zr roll),some (.ref o),some (.int w),x6,x7,x8,x9,x10,x11,x12,x13] M = .nx [some z,some (.ref 1),some (.int v),some (Zr roll),some (.ref o),some (.int w),some (.ref M.length),x7,x8,x9,x10,x11,x12,x13] (M ++ [.lst (ones.map Zd)]):=Zw (d:=.ref M.length) (ZcG rfl (by simp only [ZgG,ZgF,Zde,mo,alloc]))
 have W0:W54 cs o ones at_ M.length ones (M ++ [.lst (ones.map Zd)]):=⟨K.keep fun _ hj=>List.getElem?_append_left hj,Zt mo _,Zam _ _ _,(fun z=>lB 2 25787699233 T1 z ol),lB 2 81539791358857233 T1 ol o2,o2⟩
 obtain ⟨t1,b1,M1,ln1,lb1,W1,e1⟩:=ZkN (z:=z) (v:=v) (x5:=some (.int w)) (x7:=x7) (x8:=x8) (x9:=x9) (x10:=x10) (x11:=x11) (x12:=x12) (x13:=x13) rfl hp W0 rfl (lA 1 0xf42405b01dbba05b011 T1 ha) gs (C:=e2 ZaK (e2 Zai (Zb 5) (eC (.int 2))) (eC (.int 1))) (IX:=e1 Zcw (eC (.int 1))) (fun M=>Zm (Zm rfl rfl (ZaT (by decide))) rfl Znh) (fun _=>rfl) (Zox ones)
 obtain ⟨t2,b2,M2,ln2,lb2,W2,e2'⟩:=ZkN (z:=z) (v:=v) (x5:=some (.int w)) (x7:=x7) (x8:=x8) (x9:=x9) (x10:=x10) (x11:=x11) (x12:=x12) (x13:=x13) rfl hp W1 ln1 (lB 2 0xf42405b01dbba05b111a1c001 T1 lb1 ha) gs (C:=e2 ZaK (e2 Zai (e2 Zad (Zb 5) (eC (.int 2))) (eC (.int 2))) (eC (.int 1))) (IX:=eC (.int 0)) (fun M=>Zm (Zm (Zm rfl rfl (Zba (by decide))) rfl (ZaT (by decide))) rfl Znh) (fun _=>rfl) (ZnR ones)
 obtain ⟨t3,b3,p,M3,ln3,lb3,W3,e3'⟩:=ZnQ (z:=z) (v:=v) (w:=w) (x7:=x7) (x8:=x8) (x9:=x9) (x10:=x10) (x11:=x11) (x12:=x12) (x13:=x13) hp W2 (lB 2 0x3e83b00642b1011021 T1 ln2 l1) (lC 3 0xf42405b01dbba05b211a2c101a1c001 T1 lb2 lb1 ha)
 clear W0 W1 W2 K mo
 have lo:=(List.getElem?_eq_some_iff.mp W3.mo).1
 have lp:=(List.getElem?_eq_some_iff.mp W3.mp).1
 have lk:=(List.getElem?_eq_some_iff.mp W3.K.hd).1
 have lc:=(List.getElem?_eq_some_iff.mp W3.K.hc).1
 have lA:(M3 ++ [ZaF (ones.map Zd) (M3.length + 1),.lst []]).length = M3.length + 2:=by simp
 have mk1:∀ env:Zaf,env[4]? = some (some (.ref o)) → ZcS TEL Zaa (Za (Zb 4) (Zf)) env M3 = .ok (.ref M3.length) (M3 ++ [ZaF (ones.map Zd) (M3.length + 1),.lst []]):=fun env he=>ZnK (by simp only [Zb,he]) W3.mo
 have mk2:∀ env:Zaf,env[6]? = some (some (.ref p)) → ZcS TEL Zaa (Za (Zb 6) (Zf)) env (M3 ++ [ZaF (ones.map Zd) (M3.length + 1),.lst []]) = .ok (.ref (M3.length + 2)) (M3 ++ [ZaF (ones.map Zd) (M3.length + 1),.lst []] ++ [ZaF (t3.map Zd) (M3.length + 3),.lst []]):=fun env he=>by
  have:=ZnK (o:=Zb 6) (env:=env) (M:=M3 ++ [ZaF (ones.map Zd) (M3.length + 1),.lst []]) (M1:=M3 ++ [ZaF (ones.map Zd) (M3.length + 1),.lst []]) (by simp only [Zb,he]) (Zt W3.mp _)
  rw [lA] at this; exact this
 have lB:(M3 ++ [ZaF (ones.map Zd) (M3.length + 1),.lst []] ++ [ZaF (t3.map Zd) (M3.length + 3),.lst []]).length = M3.length + 4:=by simp
 have hT:∃ M6:Store,M6 = (M3 ++ [ZaF (ones.map Zd) (M3.length + 1),.lst []] ++ [ZaF (t3.map Zd) (M3.length + 3),.lst []] ++ [.lst [.ref M3.length,.ref (M3.length + 2)]]) ∧ Tw M6 M3.length (M3.length + 1) (M3.length + 2) (M3.length + 3) ones t3 [] [] ∧ M6[M3.length + 4]? = some (.lst [.ref M3.length,.ref (M3.length + 2)]) ∧ M6.length = M3.length + 5 ∧ ∀ j,j < M3.length → M6[j]? = M3[j]?:=by
  refine ⟨_,rfl,⟨?_,?_,?_,?_,by omega,by omega,by omega,by omega,by omega⟩,?_,by simp,fun j hj=>?_⟩
  ·exact Zt (Zt (Zdr _ _ 0) _) _
  ·have:=Zt (Zdr (M3 ++ [ZaF (ones.map Zd) (M3.length + 1),.lst []]) [ZaF (t3.map Zd) (M3.length + 3),.lst []] 0) [.lst [.ref M3.length,.ref (M3.length + 2)]]
   rw [lA] at this; exact this
  ·exact Zt (Zt (Zdr _ _ 1) _) _
  ·have:=Zt (Zdr (M3 ++ [ZaF (ones.map Zd) (M3.length + 1),.lst []]) [ZaF (t3.map Zd) (M3.length + 3),.lst []] 1) [.lst [.ref M3.length,.ref (M3.length + 2)]]
   rw [lA] at this; exact this
  ·have:=Zam (M3 ++ [ZaF (ones.map Zd) (M3.length + 1),.lst []] ++ [ZaF (t3.map Zd) (M3.length + 3),.lst []]) (.lst [.ref M3.length,.ref (M3.length + 2)]) []
   rw [lB] at this; exact this
  ·rw [List.append_assoc,List.append_assoc,List.getElem?_append_left hj]
 obtain ⟨M6,h6,T6,g6,l6,o6⟩:=hT
 have s4:Zaj 7 (ZaY (Za (ZcS [84,101,108,108,101,114] Zaa (Za (Zb 4) (Zf))) (Za (ZcS [84,101,108,108,101,114] Zaa (Za (Zb 6) (Zf))) (Zf)))) [some z,some (.ref 1),some (.int v),some (Zr roll),some (.ref o),some (.int w),some (.ref p),x7,x8,x9,x10,x11,x12,x13] M3 = .nx [some z,some (.ref 1),some (.int v),some (Zr roll),some (.ref o),some (.int w),some (.ref p),some (.ref (M3.length + 4)),x8,x9,x10,x11,x12,x13] M6:=by
  have:(ZaY (Za (ZcS TEL Zaa (Za (Zb 4) (Zf))) (Za (ZcS TEL Zaa (Za (Zb 6) (Zf))) (Zf)))) [some z,some (.ref 1),some (.int v),some (Zr roll),some (.ref o),some (.int w),some (.ref p),x7,x8,x9,x10,x11,x12,x13] M3 = .ok (.ref (M3 ++ [ZaF (ones.map Zd) (M3.length + 1),.lst []] ++ [ZaF (t3.map Zd) (M3.length + 3),.lst []]).length) ((M3 ++ [ZaF (ones.map Zd) (M3.length + 1),.lst []] ++ [ZaF (t3.map Zd) (M3.length + 3),.lst []]) ++ [.lst [.ref M3.length,.ref (M3.length + 2)]]):=ZaX (Zo (mk1 _ rfl) (Zo (mk2 _ rfl) rfl)) rfl
  rw [lB] at this
  rw [h6]; exact Zw this
 have mo6:=(o6 o lo).trans W3.mo
 have mp6:=(o6 p lp).trans W3.mp
 have md:=Zqr mo6 mp6
 obtain ⟨g,ts,A,q,eg,ea,AK⟩:=ZoO (env:=[some z,some (.ref 1),some (.int v),some (Zr roll),some (.ref o),some (.int w),some (.ref p),some (.ref (M3.length + 4)),some (.ref M6.length),x9,x10,x11,x12,x13]) roll R.rows (T6.grow [.lst (ZcU ones t3)]) (Zt g6 _) (Zt mo6 _) (Zt mp6 _) (Zam _ _ _) rfl rfl rfl l1 gs
 have l7:(M6 ++ [MO.lst (ZcU ones t3)]).length = M3.length + 6:=by simp [l6]
 have oA:∀ j,j < M3.length → A[j]? = M3[j]?:=fun j hj=>(AK.old j (by omega) (by omega) (by omega)).trans ((List.getElem?_append_left (lC 2 0x20151b1c2311011 T1 hj l6)).trans (o6 j hj))
 have gA:A[M3.length + 4]? = some (.lst [.ref M3.length,.ref (M3.length + 2)]):=(AK.old _ (by omega) (by omega) (by omega)).trans (Zt g6 _)
 have dA:A[M6.length]? = some (.lst (ZcU ones t3)):=(AK.old _ (by omega) (by omega) (by omega)).trans (Zam _ _ _)
 obtain ⟨G1,t1⟩:=Zh4 (env:=[some z,some (.ref 1),some (.int v),some (Zr roll),some (.ref o),some (.int w),some (.ref p),some (.ref (M3.length + 4)),some (.ref M6.length),some (.bl g),some (.bl (!g)),some (.bl g),some (.ref M3.length),x13]) AK.T.o1 AK.T.l1 dA AK.due AK.few AK.len AK.pl rfl rfl rfl
 obtain ⟨G2,t2⟩:=Zh4 (A:=A ++ G1) (env:=[some z,some (.ref 1),some (.int v),some (Zr roll),some (.ref o),some (.int w),some (.ref p),some (.ref (M3.length + 4)),some (.ref M6.length),some (.bl g),some (.bl (!g)),some (.bl g),some (.ref (M3.length + 2)),x13]) (Zt AK.T.o2 _) (Zt AK.T.l2 _) (Zt dA _) AK.due AK.few AK.len AK.pl rfl rfl rfl
 have k0:locked ⟨[.ref M3.length,.ref (M3.length + 2)],some (M3.length + 4)⟩ A = true:=by simp only [locked,decide_eq_true_eq]; exact gA
 have k1:locked ⟨[.ref M3.length,.ref (M3.length + 2)],some (M3.length + 4)⟩ (A ++ G1) = true:=by simp only [locked,decide_eq_true_eq]; exact Zt gA _
 have k2:locked ⟨[.ref M3.length,.ref (M3.length + 2)],some (M3.length + 4)⟩ (A ++ G1 ++ G2) = true:=by simp only [locked,decide_eq_true_eq]; exact Zt (Zt gA _) _
 have lp2:ZiS (Zhl (Zb 7)) (Zdz 12) ZmW [some z,some (.ref 1),some (.int v),some (Zr roll),some (.ref o),some (.int w),some (.ref p),some (.ref (M3.length + 4)),some (.ref M6.length),some (.bl g),some (.bl (!g)),some (.bl g),x12,x13] A = .nx [some z,some (.ref 1),some (.int v),some (Zr roll),some (.ref o),some (.int w),some (.ref p),some (.ref (M3.length + 4)),some (.ref M6.length),some (.bl g),some (.bl (!g)),some (.bl g),some (.ref (M3.length + 2)),x13] (A ++ G1 ++ G2):=by
  refine (ZkS (it:=⟨[.ref M3.length,.ref (M3.length + 2)],some (M3.length + 4)⟩) (M':=A) (by simp only [Zhl,Zb,List.getElem?_cons_succ,List.getElem?_cons_zero,R3.bind,gA])).trans ?_
  simp only [ZdK,k0,if_true,Zdz,List.set_cons_succ,List.set_cons_zero]
  rw [t1]
  simp only [k1,if_true,List.set_cons_succ,List.set_cons_zero]
  rw [t2]
  simp only [k2,if_true]
 have ag:ZgI (Zae ZaJ (Za (Zb 3) (Za (Zb 7) (Zf)))) [10,11] [some z,some (.ref 1),some (.int v),some (Zr roll),some (.ref o),some (.int w),some (.ref p),some (.ref (M3.length + 4)),some (.ref M6.length),some (.bl g),x10,x11,x12,x13] (M6 ++ [.lst (ZcU ones t3)]) = .nx [some z,some (.ref 1),some (.int v),some (Zr roll),some (.ref o),some (.int w),some (.ref p),some (.ref (M3.length + 4)),some (.ref M6.length),some (.bl g),some (.bl (!g)),some (.bl g),x12,x13] A:=Zph (Zdd rfl rfl ea) AK.out
 refine ⟨_,_,_,_,_,_,_,b3,A ++ G1 ++ G2,lD 3 0x31b3c00a3c201a2c101a1c001 T1 lb3 lb2 lb1,W3.K.keep fun j hj=>?_,?_,(Zj s0).trans ((Zj e1).trans ((Zj e2').trans ((Zj e3').trans ((Zj s4).trans ((Zj (Zw (Zdd rfl rfl md))).trans ((Zj (Zw eg)).trans ((Zj ag).trans ((Zj (Zau (M':=A) ?_)).trans lp2))))))))⟩
 ·rw [List.append_assoc,List.getElem?_append_left (by have:=(List.getElem?_eq_some_iff.mp gA).1; exact lC 2 81348540644396049 T1 this hj)]; exact oA j hj
 ·exact Zt (Zt ((oA o lo).trans W3.mo) _) _
 ·cases g <;> rfl
end
theorem ZoK (c:Int):∃ j:Nat,j ≤ 60 ∧ ZaN [D.int (c / 3 % 4),.int (c / 3 % 61),.int (2 + c / 3 % 3)] (c % 3) = some (.int (j:Int)):=by
 obtain ⟨k,hk,lk⟩:=ZbI c 3 (by decide)
 obtain ⟨a,h1,l1⟩:=ZbI (c / 3) 4 (by decide)
 obtain ⟨b,h2,l2⟩:=ZbI (c / 3) 61 (by decide)
 obtain ⟨d,h3,l3⟩:=ZbI (c / 3) 3 (by decide)
 have hk':c % 3 = (k:Int):=hk
 have h1':c / 3 % 4 = (a:Int):=h1
 have h2':c / 3 % 61 = (b:Int):=h2
 have h3':c / 3 % 3 = (d:Int):=h3
 rw [hk',ZbO,h1',h2',h3']
 match k,lk with
 | 0,_=>exact ⟨a,lA 1 66155385565201 T1 l1,rfl⟩
 | 1,_=>exact ⟨b,lA 1 0x3c2b003d2b011 T1 l2,rfl⟩
 | 2,_=>exact ⟨2 + d,by exact lA 1 0x3c2b021bc031b011 T1 l3,by simp⟩
theorem ZhT {cs:List Int} {o:Nat} {it:List D} {z:D} {v:Int} {roll:Zd9} (o2:2 ≤ o) (hp:0 < roll.length):∀ (ds:List D) (acc:List Stt) (at_:Nat) (x:Option D) (M:Store),Zeh cs 0 1 at_ M → M[o]? = some (.lst (acc.map Zd)) → acc.length + ds.length ≤ 100 → at_ + ds.length < 1000 → (∀ s ∈ acc,ZhS roll s) →
  ∃ (ones:List Stt) (M':Store),ones.length ≤ 100 ∧ (∀ s ∈ ones,ZhS roll s) ∧ Zeh cs 0 1 (at_ + ds.length) M' ∧ M'[o]? = some (.lst (ones.map Zd)) ∧ ZbH ⟨it,none⟩ (Zdz 14) [] (Zae Za8 (Za (Zb 1) (Za (Zb 3) (Zf)))) o ds [some z,some (.ref 1),some (.int v),some (Zr roll),none,none,none,none,none,none,none,none,none,none,x] M = .ok (.ref o) M'
 | [],acc,at_,x,M,K,g,hl,ha,gs=>⟨acc,M,hl,gs,K,g,by simp only [ZbH,locked,if_true]⟩
 | d :: ds,acc,at_,x,M,K,g,hl,ha,gs=>by
  simp only [List.length_cons] at hl ha
  obtain ⟨s,M1,es,gd,K1,l1,o1⟩:=Zjz K (lB 1 0xf42405b013e83ba1c0c11 T1 ha) roll hp
  have ol:=(List.getElem?_eq_some_iff.mp g).1
  have g1:M1[o]? = some (.lst (acc.map Zd)):=(o1 o ol (fun z=>lA 2 6606112792609 T1 z o2)).trans g
  have h1:∀ j,j ≠ o → (M1.set o (.lst ((acc ++ [s]).map Zd)))[j]? = M1[j]?:=fun j hj=>List.getElem?_set_ne (Ne.symm hj)
  obtain ⟨ones,M',a1,a2,a3,a4,a5⟩:=ZhT (it:=it) (z:=z) (v:=v) o2 hp ds (acc ++ [s]) (at_ + 1) (some d) (M1.set o (.lst ((acc ++ [s]).map Zd))) ⟨(h1 1 (fun z=>lA 2 6606112754225 T1 z o2)).trans K1.hd,(h1 0 (fun z=>lA 2 6606112755249 T1 z o2)).trans K1.hc,K1.ne⟩ (List.getElem?_set_self (Nat.lt_of_lt_of_le ol l1)) (by simp; exact lB 1 0x642b1a0cc0642ba1c0c01 T1 hl) (lB 1 0x3e83b1a0cc13e83ba1c0c11 T1 ha) (fun q hq=>by
   rcases List.mem_append.mp hq with z | z
   ·exact gs q z
   ·rw [List.mem_singleton.mp z]; exact gd)
  refine ⟨ones,M',a1,a2,by rw [List.length_cons,show at_ + (ds.length + 1) = at_ + 1 + ds.length by exact Nat.le_antisymm (lB 0 1790139547840 T1) (lB 0 0xa1c0c1a0cc0 T1)]; exact a3,a4,?_⟩
  have lt:(acc.map Zd).length < SZ:=by rw [List.length_map]; exact Nat.lt_of_le_of_lt (by exact lB 1 0x642b00642ba1c0c01 T1 hl:acc.length ≤ 100) (by decide)
  have es':(Zae Za8 (Za (Zb 1) (Za (Zb 3) (Zf)))) [some z,some (.ref 1),some (.int v),some (Zr roll),none,none,none,none,none,none,none,none,none,none,some d] M = .ok (Zd s) M1:=Zdd rfl rfl es
  simp only [ZbH,locked,if_true,Zdz,List.set_cons_succ,List.set_cons_zero,Zc5,R3.bind,es',g1,if_pos lt]
  rw [List.map_append] at a5
  exact a5
theorem Zsr {o:Nat} {ones:List Stt} {M:Store} {e0 e1 e2 e5 e6 e7 e8 e9 e10 e11 e12:Option D} {r:D} (mo:M[o]? = some (.lst (ones.map Zd))) (l1:ones.length ≤ 100):Rt ((Zv (Zaj 13 (ZcS [84,101,108,108,101,114] Zaa (Za (Zb 4) (Zf)))) (Zv (Zaj 8 (ZaY (Zf))) (Zv (sIf (L3.e2 Zei (Zaz ZaS (Za (Zb 4) (Zf))) (eC (.int 1))) (Zaj 8 (ZaY (Za (eC (.int 0)) (Za (eC (.int 0)) (Za (L3.e2 Zcp (Zaz ZaS (Za (Zb 4) (Zf))) (eC (.int 1))) (Za (L3.e2 Zcp (Zaz ZaS (Za (Zb 4) (Zf))) (eC (.int 1))) (Zf))))))) (Zan)) (Zax (ZbG (L3.e2 Zq (Zae ZaJ (Za (Zb 3) (Za (ZaY (Za (Zb 13) (Za (Zb 13) (Zf)))) (Zf)))) (eC (.int 0))) (Zae Zbk (Za (ZaA [84,101,108,108,101,114] [116,105,109,101,115,95,97,115,107,101,100] Zu (Zb 13) (Zf)) (Za (Zb 8) (Zf))))))))) [e0,e1,e2,some r,some (.ref o),e5,e6,e7,e8,e9,e10,e11,e12,none] M) (.bl true):=by
 have mk:ZcS TEL Zaa (Za (Zb 4) (Zf)) [e0,e1,e2,some r,some (.ref o),e5,e6,e7,e8,e9,e10,e11,e12,none] M = .ok (.ref M.length) (M ++ [ZaF (ones.map Zd) (M.length + 1),.lst []]):=ZnK rfl mo
 refine Rt.set mk (Rt.set (d:=.ref (M ++ [ZaF (ones.map Zd) (M.length + 1),.lst []]).length) (M':=M ++ [ZaF (ones.map Zd) (M.length + 1),.lst []] ++ [.lst []]) (ZaX rfl rfl) ?_)
 have t0:(M ++ [ZaF (ones.map Zd) (M.length + 1),.lst []] ++ [.lst []])[M.length]? = some (ZaF (ones.map Zd) (M.length + 1)):=Zt (Zdr _ _ 0) _
 have t1:(M ++ [ZaF (ones.map Zd) (M.length + 1),.lst []] ++ [.lst []])[M.length + 1]? = some (.lst []):=Zt (Zdr _ _ 1) _
 have t2:(M ++ [ZaF (ones.map Zd) (M.length + 1),.lst []] ++ [.lst []])[(M ++ [ZaF (ones.map Zd) (M.length + 1),.lst []]).length]? = some (.lst []):=Zam _ _ _
 have t3:(M ++ [ZaF (ones.map Zd) (M.length + 1),.lst []] ++ [.lst []])[o]? = some (.lst (ones.map Zd)):=Zt (Zt mo _) _
 have q2:(M ++ [ZaF (ones.map Zd) (M.length + 1),.lst []]).length = M.length + 2:=by simp
 rw [q2] at t2 ⊢
 generalize M ++ [ZaF (ones.map Zd) (M.length + 1),MO.lst []] ++ [MO.lst []] = B at t0 t1 t2 t3
 have nb:=(List.getElem?_eq_some_iff.mp t2).1
 have fin:∀ (q:Nat) (B1 A:Store) (ts:List D),B1[M.length]? = some (ZaF (ones.map Zd) (M.length + 1)) → q ≠ M.length + 1 → B1[q]? = some (.lst ts) → (∀ d ∈ ts,∃ i:Int,d = .int i) → ts.length ≤ 10 → M.length + 1 < B1.length →
   A = (B1 ++ [MO.lst [.ref M.length,.ref M.length]]).set (M.length + 1) (.lst ts) → Zbt [r,.ref M.length,.ref M.length] (B1 ++ [.lst [.ref M.length,.ref M.length]]) = .exc ⟨ND,.ref A.length⟩ (A ++ [.ins (0 :: ND) []]) →
   Rt (Zax (ZbG (L3.e2 Zq (Zae ZaJ (Za (Zb 3) (Za (ZaY (Za (Zb 13) (Za (Zb 13) (Zf)))) (Zf)))) (eC (.int 0))) (Zae Zbk (Za (ZaA [84,101,108,108,101,114] [116,105,109,101,115,95,97,115,107,101,100] Zu (Zb 13) (Zf)) (Za (Zb 8) (Zf))))) [e0,e1,e2,some r,some (.ref o),e5,e6,e7,some (.ref q),e9,e10,e11,e12,some (.ref M.length)] B1) (.bl true):=fun q B1 A ts b0 hq bq pl lt lB hA hj=>by
  have lA:A.length = B1.length + 1:=by rw [hA]; simp
  have ea:=ZhG (tl:=B1.length) (Zam _ _ _) (by rw [lA]; simp) hj
  have es:(ZaY (Za (Zb 13) (Za (Zb 13) (Zf)))) [e0,e1,e2,some r,some (.ref o),e5,e6,e7,some (.ref q),e9,e10,e11,e12,some (.ref M.length)] B1 = .ok (.ref B1.length) (B1 ++ [.lst [.ref M.length,.ref M.length]]):=ZaX rfl rfl
  have old:∀ j,j < B1.length → j ≠ M.length + 1 → ∀ x,B1[j]? = some x → (A ++ [MO.ins (0 :: ND) [],.lst [.bl true,.bl false]])[j]? = some x:=fun j hj hne x hx=>by
   rw [List.getElem?_append_left (by exact lC 2 564744212779025 T1 hj lA),hA,List.getElem?_set_ne (Ne.symm hne)]
   exact Zt hx _
  have c0:=old M.length (by omega) (by omega) _ b0
  have cq:=old q (List.getElem?_eq_some_iff.mp bq).1 hq _ bq
  have c1:(A ++ [MO.ins (0 :: ND) [],.lst [.bl true,.bl false]])[M.length + 1]? = some (.lst ts):=by
   rw [List.getElem?_append_left (by exact lC 2 0xa2c11a2c11a1c031 T1 lA lB),hA]
   exact List.getElem?_set_self (by simp; omega)
  have cr:(A ++ [MO.ins (0 :: ND) [],.lst [.bl true,.bl false]])[A.length + 1]? = some (.lst [.bl true,.bl false]):=Zdr _ _ 1
  generalize A ++ [MO.ins (0 :: ND) [],.lst [.bl true,.bl false]] = C at ea c0 cq c1 cr
  exact Rt.ret ((ZcK (M1:=C) (Zm (Zdd rfl es ea) rfl (Zci cr rfl))).trans (Zdd (Zbx rfl (Zbv c0 rfl rfl) rfl (Zdj c0 c1 (by omega))) rfl (ZpV (Zam _ _ _) (Zt cq _) pl (by omega))))
 have ln:Zaz ZaS (Za (Zb 4) (Zf)) [e0,e1,e2,some r,some (.ref o),e5,e6,e7,some (.ref (M.length + 2)),e9,e10,e11,e12,some (.ref M.length)] B = .ok (.int (ones.length:Int)) B:=ZcG rfl ((Zfj t3).trans (by rw [List.length_map]))
 by_cases h:ones.length < 2
 ·refine Rt.skip (M':=B) (Zm ln rfl ?_) (fin (M.length + 2) B ((B ++ [MO.lst [.ref M.length,.ref M.length]]).set (M.length + 1) (.lst [])) [] t0 (fun z=>lA 1 7287521086497 T1 z) t2 (fun d z=>nomatch z) (by simp) (lB 1 458226069605393 T1 nb) rfl ?_)
  ·have:¬ (ones.length:Int) > 1:=(fun z=>iN [_] [] 2 0x621b01108a91 T1 z h)
   simp only [ZfA,decide_eq_false this]
  ·have t1':=Zt t1 [.lst [.ref M.length,.ref M.length]]
   have se:(B ++ [MO.lst [.ref M.length,.ref M.length]]).set (M.length + 1) (.lst []) = B ++ [.lst [.ref M.length,.ref M.length]]:=by
    apply List.ext_getElem?
    intro k
    by_cases z:M.length + 1 = k
    ·subst z; rw [ZfT t1',t1']
    ·rw [List.getElem?_set_ne z]
   rw [se]
   exact ZgV r (Zt t0 _) (Zt t0 _) (.inr h)
 ·have hm:(ones.length:Int) - 1 = ((ones.length - 1:Nat):Int):=Int.le_antisymm (iN [_,_] [] 1 433246112432129 T1 (sbA _ _)) (iN [_,_] [] 1 0xa18f0881a0c21 T1 (Nat.sub_add_cancel (lA 1 2686562385 T1 h)))
  have sb:∀ M:Store,Zcp (.int (ones.length:Int)) (.int 1) M = .ok (.int ((ones.length - 1:Nat):Int)) M:=fun M=>by simp only [Zjg,hm]
  have s8:(ZaY (Za (eC (.int 0)) (Za (eC (.int 0)) (Za (L3.e2 Zcp (Zaz ZaS (Za (Zb 4) (Zf))) (eC (.int 1))) (Za (L3.e2 Zcp (Zaz ZaS (Za (Zb 4) (Zf))) (eC (.int 1))) (Zf)))))) [e0,e1,e2,some r,some (.ref o),e5,e6,e7,some (.ref (M.length + 2)),e9,e10,e11,e12,some (.ref M.length)] B = .ok (.ref B.length) (B ++ [.lst [.int ((0:Nat):Int),.int ((0:Nat):Int),.int ((ones.length - 1:Nat):Int),.int ((ones.length - 1:Nat):Int)]]):=ZaX (Zo rfl (Zo rfl (Zo (Zm ln rfl (sb B)) (Zo (Zm ln rfl (sb B)) rfl)))) rfl
  have cg:(L3.e2 Zei (Zaz ZaS (Za (Zb 4) (Zf))) (eC (.int 1))) [e0,e1,e2,some r,some (.ref o),e5,e6,e7,some (.ref (M.length + 2)),e9,e10,e11,e12,some (.ref M.length)] B = .ok (.bl true) B:=by
   refine Zm ln rfl ?_
   have:(ones.length:Int) > 1:=iN [_] [] 1 37197295697 T1 h
   simp only [ZfA,decide_eq_true this]
  refine Rt.step ((Zbc cg).trans (Zw s8)) (fin B.length _ _ _ (Zt t0 _) (fun z=>lB 2 0x6021b1c11a1c021 T1 z nb) (Zam _ _ _) (fun d hd=>?_) (by simp) (by simp; exact lB 1 1104110357521 T1 nb) rfl ?_)
  ·simp only [List.mem_cons,List.not_mem_nil,or_false] at hd
   rcases hd with z | z | z | z <;> exact ⟨_,z⟩
  ·have o0:=Zt (Zt t0 [.lst [.int ((0:Nat):Int),.int ((0:Nat):Int),.int ((ones.length - 1:Nat):Int),.int ((ones.length - 1:Nat):Int)]]) [.lst [.ref M.length,.ref M.length]]
   have o1:=Zt (Zt t1 [.lst [.int ((0:Nat):Int),.int ((0:Nat):Int),.int ((ones.length - 1:Nat):Int),.int ((ones.length - 1:Nat):Int)]]) [.lst [.ref M.length,.ref M.length]]
   generalize B ++ [MO.lst [.int ((0:Nat):Int),.int ((0:Nat):Int),.int ((ones.length - 1:Nat):Int),.int ((ones.length - 1:Nat):Int)]] ++ [.lst [.ref M.length,.ref M.length]] = C at o0 o1 ⊢
   have g0:ones[0]? = some (ones[0]'(iN [_,_] [] 1 966780817329 T1 hm)):=List.getElem?_eq_getElem _
   have gl:ones[ones.length - 1]? = some (ones[ones.length - 1]'(iN [_,_] [] 1 73427619761 T1 hm)):=List.getElem?_eq_getElem _
   have b0:=ZhL o0 o1 (fun z=>lA 1 111198257 T1 z) g0 (by decide)
   have o0':(C.set (M.length + 1) (.lst ([] ++ [.int ((0:Nat):Int)] ++ [.int ((0:Nat):Int)])))[M.length]? = some (ZaF (ones.map Zd) (M.length + 1)):=by rw [List.getElem?_set_ne (by exact fun z=>lA 1 101321761 T1 z)]; exact o0
   have b1:=ZhL o0' (ZfT o1) (fun z=>lA 1 111198257 T1 z) gl (by decide)
   rw [List.set_set] at b1
   exact Zf3 r o0 o0 (fun z=>z.elim (fun z=>z rfl) h) b0 o0' b1
theorem law_holds:∀ ns:List Int,ns.length ≤ 63 → ∃ M',Zli [.scr (ns.map D.int)] [] = .ok (.bl true) M':=by
 intro ns hns
 refine Rt.law (env:=[some (.scr (ns.map D.int)),none,none,none,none,none,none,none,none,none,none,none,none,none]) ?_
 unfold ZmY
 have c64:cutD (ns.map D.int) none (some 64) = (ns.take 64).map D.int:=by
  have:=ZgO (ns.map D.int) 64
  rw [← List.map_take] at this
  exact this
 have c40:cutD (ns.map D.int) none (some 40) = (ns.take 40).map D.int:=by
  have:=ZgO (ns.map D.int) 40
  rw [← List.map_take] at this
  exact this
 have hl40:(ns.take 40).length ≤ 63:=by rw [List.length_take]; exact lA 1 0x3f2b00282b001 T1 (Nat.min_le_left _ _)
 generalize ns.take 64 = cs at c64
 generalize ns.take 40 = cr at c40 hl40
 refine Rt.set (d:=.ref 1) (M':=[.lst (cs.map D.int),.lst [.ref 0,.int 0]]) (by simp [c64]) ?_
 have K0:Zeh cs 0 1 0 [.lst (cs.map D.int),.lst [.ref 0,.int 0]]:=⟨rfl,rfl,by decide⟩
 generalize [MO.lst (cs.map D.int),MO.lst [.ref 0,.int 0]] = M0 at K0 ⊢
 obtain ⟨v,M1,en,K1,_,_⟩:=K0.next (by decide)
 refine Rt.set (Zdf rfl en) ?_
 obtain ⟨roll,lr,R,er⟩:=Znn cr M1.length (M1 ++ [.lst (cr.map D.int)]) (Zam _ _ _) hl40
 have sl:(eSl (Zb 0) (Zb3) (Zb5 (eC (.int 40)))) [some (.scr (ns.map D.int)),some (.ref 1),some (.int v),none,none,none,none,none,none,none,none,none,none,none] M1 = .ok (.ref M1.length) (M1 ++ [.lst (cr.map D.int)]):=by simp [c40]
 refine Rt.set (Zdf sl er) ?_
 have K2:Zeh cs 0 1 (0 + 1) (M1 ++ [.lst (cr.map D.int)]):=K1.keep fun j hj=>List.getElem?_append_left hj
 clear er sl K1 K0 en
 generalize M1 ++ [MO.lst (cr.map D.int)] = M2 at K2
 have hp:0 < roll.length:=lB 1 3785474097 T1 lr
 obtain ⟨j,lj,gj⟩:=ZoK v
 have ir:ZcP (e2 Zq (ZaY (Za (e2 Zai (e2 Zad (Zb 2) (eC (.int 3))) (eC (.int 4))) (Za (e2 Zai (e2 Zad (Zb 2) (eC (.int 3))) (eC (.int 61))) (Za (e2 Zay (eC (.int 2)) (e2 Zai (e2 Zad (Zb 2) (eC (.int 3))) (eC (.int 3)))) (Zf))))) (e2 Zai (Zb 2) (eC (.int 3)))) [some (.scr (ns.map D.int)),some (.ref 1),some (.int v),some (Zr roll),none,none,none,none,none,none,none,none,none,none] M2 = .ok ⟨ZeL 0 j,none⟩ (M2 ++ [.lst [.int (v / 3 % 4),.int (v / 3 % 61),.int (2 + v / 3 % 3)]]):=by
  have e:=Zm (op:=Zq) (env:=[some (.scr (ns.map D.int)),some (.ref 1),some (.int v),some (Zr roll),none,none,none,none,none,none,none,none,none,none]) (M:=M2) (f:=ZaY (Za (e2 Zai (e2 Zad (Zb 2) (eC (.int 3))) (eC (.int 4))) (Za (e2 Zai (e2 Zad (Zb 2) (eC (.int 3))) (eC (.int 61))) (Za (e2 Zay (eC (.int 2)) (e2 Zai (e2 Zad (Zb 2) (eC (.int 3))) (eC (.int 3)))) (Zf))))) (g:=e2 Zai (Zb 2) (eC (.int 3))) (ZaX (ds:=[.int (v / 3 % 4),.int (v / 3 % 61),.int (2 + v / 3 % 3)]) (Zo (Zm (Zm rfl rfl (Zba (by decide))) rfl (ZaT (by decide))) (Zo (Zm (Zm rfl rfl (Zba (by decide))) rfl (ZaT (by decide))) (Zo (Zm rfl (Zm (Zm rfl rfl (Zba (by decide))) rfl (ZaT (by decide))) rfl) rfl))) rfl) (Zm rfl rfl (ZaT (by decide))) (Zci (Zam _ _ _) gj)
  have hz:(j:Int) ≤ 1000000 ∧ -1000000 ≤ (j:Int):=⟨iN [_] [] 1 0xf42405b0883c2b001 T1 lj,iN [_] [] 0 615291837336 T1⟩
  simp only [ZcP,e,R3.bind,if_pos hz,Int.toNat_natCast]
 have K3:Zeh cs 0 1 (0 + 1) (M2 ++ [.lst [.int (v / 3 % 4),.int (v / 3 % 61),.int (2 + v / 3 % 3)]]):=K2.keep fun j hj=>List.getElem?_append_left hj
 generalize M2 ++ [MO.lst [.int (v / 3 % 4),.int (v / 3 % 61),.int (2 + v / 3 % 3)]] = M3 at ir K3
 have o2:2 ≤ M3.length:=(List.getElem?_eq_some_iff.mp K3.hd).1
 have lj':(ZeL 0 j).length = j:=by simp [ZeL]
 obtain ⟨ones,M4,l1,gs,K4,mo,el⟩:=ZhT (it:=ZeL 0 j) (z:=.scr (ns.map D.int)) (v:=v) o2 hp (ZeL 0 j) [] (0 + 1) none (M3 ++ [.lst []]) (K3.keep fun j hj=>List.getElem?_append_left hj) (Zam _ _ _) (by rw [lj']; simp; exact lA 1 0x642b003c2b001 T1 lj) (by rw [lj']; exact lA 1 0x3e83b0aecc13c2b001 T1 lj) (fun s hs=>nomatch hs)
 refine Rt.set ((Ziy ir).trans el) ?_
 rw [lj'] at K4
 clear ir el K2 K3
 generalize M3.length = o at mo o2
 obtain ⟨e',M',lp,y5,y6,y7,y8,y9,y10,y11,y12,a,_,rfl,K',mo'⟩:=Znd (it:=⟨ZeL 0 8,none⟩) (g:=Zdz 5) (body:=Zsl)
  (P:=fun k env M=>∃ (y5 y6 y7 y8 y9 y10 y11 y12:Option D) (a:Nat),a ≤ 0 + 1 + j + 3 * k ∧ env = [some (.scr (ns.map D.int)),some (.ref 1),some (.int v),some (Zr roll),some (.ref o),y5,y6,y7,y8,y9,y10,y11,y12,none] ∧ Zeh cs 0 1 a M ∧ M[o]? = some (.lst (ones.map Zd)))
  (ZeL 0 8) 0 [some (.scr (ns.map D.int)),some (.ref 1),some (.int v),some (Zr roll),some (.ref o),none,none,none,none,none,none,none,none,none] M4 ⟨none,none,none,none,none,none,none,none,_,Nat.le_add_right _ _,rfl,K4,mo⟩ (fun _ _ _ _=>rfl)
  (fun k d hd env M z=>by
   obtain ⟨y5,y6,y7,y8,y9,y10,y11,y12,a,la,rfl,K,mo⟩:=z
   have lk:k < 8:=by
    have:=(List.getElem?_eq_some_iff.mp hd).1
    simp [ZeL] at this; exact this
   have hd':∃ w:Int,d = .int w:=by
    rw [ZeL,List.getElem?_map] at hd
    cases q:(List.range 8)[k]? with
    | none=>rw [q] at hd; cases hd
    | some x=>rw [q] at hd; cases hd; exact ⟨_,rfl⟩
   obtain ⟨w,rfl⟩:=hd'
   obtain ⟨z6,z7,z8,z9,z10,z11,z12,b,M',lb,K',mo',e⟩:=Zob (z:=.scr (ns.map D.int)) (v:=v) (w:=w) (x6:=y6) (x7:=y7) (x8:=y8) (x9:=y9) (x10:=y10) (x11:=y11) (x12:=y12) (x13:=none) R hp K mo o2 l1 (lC 3 0xdbba05b113c2b2010ec03d2aeccc10181b013 T1 lk la lj) gs
   exact ⟨_,_,M',rfl,e,some (.int w),z6,z7,z8,z9,z10,z11,z12,b,lD 2 0xa3ecc03d2aeccc003ec03d2aeccc10131b1c001 T1 lb la,rfl,K',mo'⟩)
 exact Rt.loop (it:=⟨ZeL 0 8,none⟩) (M1:=M4) (by simp [ZcP]) lp (Zsr mo' l1)
end Law
set_option maxHeartbeats 400000
namespace Law
open PySem PySem.Spec PyProof.Rows L2 L3
theorem uZ {P:List Value → Prop} (h:P []):∀ us:List Value,us.length = 0 → P us:=fun us e=>(List.eq_nil_of_length_eq_zero e) ▸ h
theorem uS {P:List Value → Prop} {n:Nat} (h:∀ a us,us.length = n → P (a :: us)) (us:List Value) (e:us.length = n + 1):P us:=by
 cases us with
 | nil=>exact absurd e (Nat.succ_ne_zero n).symm
 | cons a us=>exact h a us (Nat.succ.inj e)
theorem ub1 {P:List Value → Prop} {xa:Str} (h:∀ a,P [a]):∀ us:List Value,us.length = [xa].length → P us:=uS fun a=>uZ (h a)
theorem ub2 {P:List Value → Prop} {xa xb:Str} (h:∀ a b,P [a,b]):∀ us:List Value,us.length = [xa,xb].length → P us:=uS fun a=>uS fun b=>uZ (h a b)
theorem ub3 {P:List Value → Prop} {xa xb xc:Str} (h:∀ a b c,P [a,b,c]):∀ us:List Value,us.length = [xa,xb,xc].length → P us:=uS fun a=>uS fun b=>uS fun c=>uZ (h a b c)
theorem ZqS {l:PySem.W.OpenLaw} {w:World} {K:W.Frag} {h:Heap} {mg:Str → Option Value} {fa f0 f1 f2 f3 f4 f5 f6 f7 f8 f9 f10 f11 f12 f13 f14 f15 f16 f17 f18 f19 f20 f21 f22 f23 f24:Addr} (X:K.In h) (G:h.Ns mainGlobals mg) (hfa:mg "law" = some (.ref fa))
  {od0 an0 od1 an1 od2 an2 od3 an3 od4 an4 od5 an5 od6 an6 od7 an7 od8 an8 od9 an9 od10 an10 od11 an11 od12 an12 od13 an13 od14 an14 od15 an15 od16 an16 od17 an17 od18 an18 od19 an19 od20 an20 od21 an21 od22 an22 od23 an23 od24 an24:Option Addr} {sl0 sl1 sl2 sl3 sl4 sl5 sl6 sl7 sl8 sl9 sl10 sl11 sl12 sl13 sl14 sl15 sl16 sl17 sl18 sl19 sl20 sl21 sl22 sl23 sl24:Array (Option Value)} {oc0 kV0 dc0 pm0 cd0 ct0 oc1 kV1 dc1 pm1 cd1 ct1 oc2 kV2 dc2 pm2 cd2 ct2 oc3 kV3 dc3 pm3 cd3 ct3 oc4 kV4 dc4 pm4 cd4 ct4 oc5 kV5 dc5 pm5 cd5 ct5 oc6 kV6 dc6 pm6 cd6 ct6 oc7 kV7 dc7 pm7 cd7 ct7 oc8 kV8 dc8 pm8 cd8 ct8 oc9 kV9 dc9 pm9 cd9 ct9 oc10 kV10 dc10 pm10 cd10 ct10 oc11 kV11 dc11 pm11 cd11 ct11 oc12 kV12 dc12 pm12 cd12 ct12 oc13 kV13 dc13 pm13 cd13 ct13 oc14 kV14 dc14 pm14 cd14 ct14 oc15 kV15 dc15 pm15 cd15 ct15 oc16 kV16 dc16 pm16 cd16 ct16 oc17 kV17 dc17 pm17 cd17 ct17 oc18 kV18 dc18 pm18 cd18 ct18 oc19 kV19 dc19 pm19 cd19 ct19 oc20 kV20 dc20 pm20 cd20 ct20 oc21 kV21 dc21 pm21 cd21 ct21 oc22 kV22 dc22 pm22 cd22 ct22 oc23 kV23 dc23 pm23 cd23 ct23 oc24 kV24 dc24 pm24 cd24 ct24:Value} {C_Teller:Addr} {C_LedgerError C_BadCut C_BadGiven C_BadRow C_NoDispute C_NoRoll C_NoTime C_Spent C_Unfit:Addr} {cd_LedgerError cd_BadCut cd_BadGiven cd_BadRow cd_NoDispute cd_NoRoll cd_NoTime cd_Spent cd_Unfit:ClassData} {na_LedgerError qn_LedgerError:Str} {N_LedgerError:Addr} {bs_LedgerError su_LedgerError:List Value} {hd_LedgerError ab_LedgerError:Bool} {sn_LedgerError:List Str} {co_LedgerError:Option Bool} {dd_LedgerError od_LedgerError:Option Addr} {ka_LedgerError kb_LedgerError kc_LedgerError kd_LedgerError kf_LedgerError:Option Value} {oc_LedgerError:Value} {es_LedgerError:Array DictEntry} {ep_LedgerError:Nat} {sl_LedgerError:Array (Option Value)} {na_NoDispute qn_NoDispute:Str} {N_NoDispute:Addr} {bs_NoDispute su_NoDispute:List Value} {hd_NoDispute ab_NoDispute:Bool} {sn_NoDispute:List Str} {co_NoDispute:Option Bool} {dd_NoDispute od_NoDispute:Option Addr} {ka_NoDispute kb_NoDispute kc_NoDispute kd_NoDispute kf_NoDispute:Option Value} {oc_NoDispute:Value} {es_NoDispute:Array DictEntry} {ep_NoDispute:Nat} {sl_NoDispute:Array (Option Value)}
  (w_Teller_a:W.nsIn K mainGlobals "Teller" = some (some (.ref C_Teller)))
  (w_Teller_pg:PySem.W.plainGet K C_Teller Str.empty = true)
  (w_Teller_hd:PySem.W.hasDictIn K C_Teller = true)
  (w_Teller_po:PySem.W.plainOver K C_Teller = true)
  (w_Teller_sa:PySem.W.findIn K (.ref C_Teller) "__setattr__" = some (some (.builtin "object.__setattr__")))
  (w_Teller_mk:PySem.W.makesIn K C_Teller = true)
  (w_Teller_kp:W.keepIn K (.ref C_Teller) = true)
  (w_Teller_n_asked:PySem.W.findIn K (.ref C_Teller) "asked" = some none)
  (w_Teller_n_states:PySem.W.findIn K (.ref C_Teller) "states" = some none)
  (a0:W.nsIn K mainGlobals "next_place" = some (some (.ref f0))) (l0:K.lookup f0 = some ⟨oc0,od0,.func (W.fnOf "next_place" "next_place" (Zaq Zb0) (Zah Zb0) (Zh Zb0) .none kV0 dc0 pm0 an0 cd0 ct0),sl0⟩) (c0:W.codeIn K cd0 "next_place" = true) (k0:W.keepIn K (.ref f0) = true)
  (a1:W.nsIn K mainGlobals "worked" = some (some (.ref f1))) (l1:K.lookup f1 = some ⟨oc1,od1,.func (W.fnOf "worked" "worked" (Zaq ZdH) (Zah ZdH) (Zh ZdH) .none kV1 dc1 pm1 an1 cd1 ct1),sl1⟩) (c1:W.codeIn K cd1 "worked" = true) (k1:W.keepIn K (.ref f1) = true)
  (a2:W.nsIn K mainGlobals "with_box" = some (some (.ref f2))) (l2:K.lookup f2 = some ⟨oc2,od2,.func (W.fnOf "with_box" "with_box" (Zaq ZcM) (Zah ZcM) (Zh ZcM) .none kV2 dc2 pm2 an2 cd2 ct2),sl2⟩) (c2:W.codeIn K cd2 "with_box" = true) (k2:W.keepIn K (.ref f2) = true)
  (a3:W.nsIn K mainGlobals "cell_value" = some (some (.ref f3))) (l3:K.lookup f3 = some ⟨oc3,od3,.func (W.fnOf "cell_value" "cell_value" (Zaq ZbU) (Zah ZbU) (Zh ZbU) .none kV3 dc3 pm3 an3 cd3 ct3),sl3⟩) (c3:W.codeIn K cd3 "cell_value" = true) (k3:W.keepIn K (.ref f3) = true)
  (a4:W.nsIn K mainGlobals "next_boxes" = some (some (.ref f4))) (l4:K.lookup f4 = some ⟨oc4,od4,.func (W.fnOf "next_boxes" "next_boxes" (Zaq ZbW) (Zah ZbW) (Zh ZbW) .none kV4 dc4 pm4 an4 cd4 ct4),sl4⟩) (c4:W.codeIn K cd4 "next_boxes" = true) (k4:W.keepIn K (.ref f4) = true)
  (a5:W.nsIn K mainGlobals "with_cell" = some (some (.ref f5))) (l5:K.lookup f5 = some ⟨oc5,od5,.func (W.fnOf "with_cell" "with_cell" (Zaq Zck) (Zah Zck) (Zh Zck) .none kV5 dc5 pm5 an5 cd5 ct5),sl5⟩) (c5:W.codeIn K cd5 "with_cell" = true) (k5:W.keepIn K (.ref f5) = true)
  (a6:W.nsIn K mainGlobals "next_cells" = some (some (.ref f6))) (l6:K.lookup f6 = some ⟨oc6,od6,.func (W.fnOf "next_cells" "next_cells" (Zaq ZbX) (Zah ZbX) (Zh ZbX) .none kV6 dc6 pm6 an6 cd6 ct6),sl6⟩) (c6:W.codeIn K cd6 "next_cells" = true) (k6:W.keepIn K (.ref f6) = true)
  (a7:W.nsIn K mainGlobals "next_state" = some (some (.ref f7))) (l7:K.lookup f7 = some ⟨oc7,od7,.func (W.fnOf "next_state" "next_state" (Zaq ZbY) (Zah ZbY) (Zh ZbY) .none kV7 dc7 pm7 an7 cd7 ct7),sl7⟩) (c7:W.codeIn K cd7 "next_state" = true) (k7:W.keepIn K (.ref f7) = true)
  (a8:W.nsIn K mainGlobals "is_within" = some (some (.ref f8))) (l8:K.lookup f8 = some ⟨oc8,od8,.func (W.fnOf "is_within" "is_within" (Zaq Zco) (Zah Zco) (Zh Zco) .none kV8 dc8 pm8 an8 cd8 ct8),sl8⟩) (c8:W.codeIn K cd8 "is_within" = true) (k8:W.keepIn K (.ref f8) = true)
  (a9:PySem.W.findIn K (.ref C_Teller) "many" = some (some (.ref f9))) (i9:PySem.W.isFn K (.ref f9) = true) (l9:K.lookup f9 = some ⟨oc9,od9,.func (W.fnOf "many" "Teller.many" (Zaq ZbD) (Zah ZbD) (Zh ZbD) .none kV9 dc9 pm9 an9 cd9 ct9),sl9⟩) (c9:W.codeIn K cd9 "Teller.many" = true) (k9:W.keepIn K (.ref f9) = true)
  (a10:PySem.W.findIn K (.ref C_Teller) "state_at" = some (some (.ref f10))) (i10:PySem.W.isFn K (.ref f10) = true) (l10:K.lookup f10 = some ⟨oc10,od10,.func (W.fnOf "state_at" "Teller.state_at" (Zaq Za4) (Zah Za4) (Zh Za4) .none kV10 dc10 pm10 an10 cd10 ct10),sl10⟩) (c10:W.codeIn K cd10 "Teller.state_at" = true) (k10:W.keepIn K (.ref f10) = true)
  (a11:W.nsIn K mainGlobals "both_at" = some (some (.ref f11))) (l11:K.lookup f11 = some ⟨oc11,od11,.func (W.fnOf "both_at" "both_at" (Zaq Zc8) (Zah Zc8) (Zh Zc8) .none kV11 dc11 pm11 an11 cd11 ct11),sl11⟩) (c11:W.codeIn K cd11 "both_at" = true) (k11:W.keepIn K (.ref f11) = true)
  (a12:W.nsIn K mainGlobals "are_unlike" = some (some (.ref f12))) (l12:K.lookup f12 = some ⟨oc12,od12,.func (W.fnOf "are_unlike" "are_unlike" (Zaq Zb1) (Zah Zb1) (Zh Zb1) .none kV12 dc12 pm12 an12 cd12 ct12),sl12⟩) (c12:W.codeIn K cd12 "are_unlike" = true) (k12:W.keepIn K (.ref f12) = true)
  (a13:W.nsIn K mainGlobals "wrong_ones" = some (some (.ref f13))) (l13:K.lookup f13 = some ⟨oc13,od13,.func (W.fnOf "wrong_ones" "wrong_ones" (Zaq ZbV) (Zah ZbV) (Zh ZbV) .none kV13 dc13 pm13 an13 cd13 ct13),sl13⟩) (c13:W.codeIn K cd13 "wrong_ones" = true) (k13:W.keepIn K (.ref f13) = true)
  (a14:W.nsIn K mainGlobals "judged" = some (some (.ref f14))) (l14:K.lookup f14 = some ⟨oc14,od14,.func (W.fnOf "judged" "judged" (Zaq ZdL) (Zah ZdL) (Zh ZdL) .none kV14 dc14 pm14 an14 cd14 ct14),sl14⟩) (c14:W.codeIn K cd14 "judged" = true) (k14:W.keepIn K (.ref f14) = true)
  (a15:W.nsIn K mainGlobals "_law_next" = some (some (.ref f15))) (l15:K.lookup f15 = some ⟨oc15,od15,.func (W.fnOf "_law_next" "_law_next" (Zaq Zcu) (Zah Zcu) (Zh Zcu) .none kV15 dc15 pm15 an15 cd15 ct15),sl15⟩) (c15:W.codeIn K cd15 "_law_next" = true) (k15:W.keepIn K (.ref f15) = true)
  (a16:W.nsIn K mainGlobals "_law_same" = some (some (.ref f16))) (l16:K.lookup f16 = some ⟨oc16,od16,.func (W.fnOf "_law_same" "_law_same" (Zaq Zcn) (Zah Zcn) (Zh Zcn) .none kV16 dc16 pm16 an16 cd16 ct16),sl16⟩) (c16:W.codeIn K cd16 "_law_same" = true) (k16:W.keepIn K (.ref f16) = true)
  (a17:W.nsIn K mainGlobals "_law_roll" = some (some (.ref f17))) (l17:K.lookup f17 = some ⟨oc17,od17,.func (W.fnOf "_law_roll" "_law_roll" (Zaq Zcs) (Zah Zcs) (Zh Zcs) .none kV17 dc17 pm17 an17 cd17 ct17),sl17⟩) (c17:W.codeIn K cd17 "_law_roll" = true) (k17:W.keepIn K (.ref f17) = true)
  (a18:W.nsIn K mainGlobals "_law_state" = some (some (.ref f18))) (l18:K.lookup f18 = some ⟨oc18,od18,.func (W.fnOf "_law_state" "_law_state" (Zaq ZbT) (Zah ZbT) (Zh ZbT) .none kV18 dc18 pm18 an18 cd18 ct18),sl18⟩) (c18:W.codeIn K cd18 "_law_state" = true) (k18:W.keepIn K (.ref f18) = true)
  (a19:W.nsIn K mainGlobals "_law_unlike" = some (some (.ref f19))) (l19:K.lookup f19 = some ⟨oc19,od19,.func (W.fnOf "_law_unlike" "_law_unlike" (Zaq ZbC) (Zah ZbC) (Zh ZbC) .none kV19 dc19 pm19 an19 cd19 ct19),sl19⟩) (c19:W.codeIn K cd19 "_law_unlike" = true) (k19:W.keepIn K (.ref f19) = true)
  (a20:W.nsIn K mainGlobals "_law_asked" = some (some (.ref f20))) (l20:K.lookup f20 = some ⟨oc20,od20,.func (W.fnOf "_law_asked" "_law_asked" (Zaq ZbZ) (Zah ZbZ) (Zh ZbZ) .none kV20 dc20 pm20 an20 cd20 ct20),sl20⟩) (c20:W.codeIn K cd20 "_law_asked" = true) (k20:W.keepIn K (.ref f20) = true)
  (a21:W.nsIn K mainGlobals "_law_due" = some (some (.ref f21))) (l21:K.lookup f21 = some ⟨oc21,od21,.func (W.fnOf "_law_due" "_law_due" (Zaq ZcJ) (Zah ZcJ) (Zh ZcJ) .none kV21 dc21 pm21 an21 cd21 ct21),sl21⟩) (c21:W.codeIn K cd21 "_law_due" = true) (k21:W.keepIn K (.ref f21) = true)
  (a22:PySem.W.findIn K (.ref C_Teller) "__init__" = some (some (.ref f22))) (i22:PySem.W.isFn K (.ref f22) = true) (l22:K.lookup f22 = some ⟨oc22,od22,.func (W.fnOf "__init__" "Teller.__init__" (Zaq Za2) (Zah Za2) (Zh Za2) .none kV22 dc22 pm22 an22 cd22 ct22),sl22⟩) (c22:W.codeIn K cd22 "Teller.__init__" = true) (k22:W.keepIn K (.ref f22) = true)
  (a23:PySem.W.findIn K (.ref C_Teller) "times_asked" = some (some (.ref f23))) (i23:PySem.W.isFn K (.ref f23) = true) (l23:K.lookup f23 = some ⟨oc23,od23,.func (W.fnOf "times_asked" "Teller.times_asked" (Zaq ZaO) (Zah ZaO) (Zh ZaO) .none kV23 dc23 pm23 an23 cd23 ct23),sl23⟩) (c23:W.codeIn K cd23 "Teller.times_asked" = true) (k23:W.keepIn K (.ref f23) = true)
  (a24:W.nsIn K mainGlobals "law" = some (some (.ref f24))) (l24:K.lookup f24 = some ⟨oc24,od24,.func (W.fnOf "law" "law" (Zaq Zfe) (Zah Zfe) (Zh Zfe) .none kV24 dc24 pm24 an24 cd24 ct24),sl24⟩) (c24:W.codeIn K cd24 "law" = true) (k24:W.keepIn K (.ref f24) = true)
  (z_ValueError:W.nsIn K mainGlobals "ValueError" = some none)
  (z_all:W.nsIn K mainGlobals "all" = some none)
  (z_bool:W.nsIn K mainGlobals "bool" = some none)
  (z_dict:W.nsIn K mainGlobals "dict" = some none)
  (z_enumerate:W.nsIn K mainGlobals "enumerate" = some none)
  (z_int:W.nsIn K mainGlobals "int" = some none)
  (z_isinstance:W.nsIn K mainGlobals "isinstance" = some none)
  (z_len:W.nsIn K mainGlobals "len" = some none)
  (z_list:W.nsIn K mainGlobals "list" = some none)
  (z_range:W.nsIn K mainGlobals "range" = some none)
  (z_str:W.nsIn K mainGlobals "str" = some none)
  (z_tuple:W.nsIn K mainGlobals "tuple" = some none)
  (w_LedgerError_a:W.nsIn K mainGlobals "LedgerError" = some (some (.ref C_LedgerError)))
  (w_BadCut_a:W.nsIn K mainGlobals "BadCut" = some (some (.ref C_BadCut)))
  (w_BadGiven_a:W.nsIn K mainGlobals "BadGiven" = some (some (.ref C_BadGiven)))
  (w_BadRow_a:W.nsIn K mainGlobals "BadRow" = some (some (.ref C_BadRow)))
  (w_NoDispute_a:W.nsIn K mainGlobals "NoDispute" = some (some (.ref C_NoDispute)))
  (w_NoRoll_a:W.nsIn K mainGlobals "NoRoll" = some (some (.ref C_NoRoll)))
  (w_NoTime_a:W.nsIn K mainGlobals "NoTime" = some (some (.ref C_NoTime)))
  (w_Spent_a:W.nsIn K mainGlobals "Spent" = some (some (.ref C_Spent)))
  (w_Unfit_a:W.nsIn K mainGlobals "Unfit" = some (some (.ref C_Unfit)))
  (w_LedgerError_cl:PySem.W.clsIn K C_LedgerError = some cd_LedgerError)
  (w_LedgerError_ty:PySem.W.typeIn K (.ref C_LedgerError) = some (.type "type"))
  (w_LedgerError_se:PySem.W.subIn K (.ref C_LedgerError) (.ref C_LedgerError) = some true)
  (w_BadCut_cl:PySem.W.clsIn K C_BadCut = some cd_BadCut)
  (w_BadCut_ty:PySem.W.typeIn K (.ref C_BadCut) = some (.type "type"))
  (w_BadCut_se:PySem.W.subIn K (.ref C_BadCut) (.ref C_BadCut) = some true)
  (w_BadGiven_cl:PySem.W.clsIn K C_BadGiven = some cd_BadGiven)
  (w_BadGiven_ty:PySem.W.typeIn K (.ref C_BadGiven) = some (.type "type"))
  (w_BadGiven_se:PySem.W.subIn K (.ref C_BadGiven) (.ref C_BadGiven) = some true)
  (w_BadRow_cl:PySem.W.clsIn K C_BadRow = some cd_BadRow)
  (w_BadRow_ty:PySem.W.typeIn K (.ref C_BadRow) = some (.type "type"))
  (w_BadRow_se:PySem.W.subIn K (.ref C_BadRow) (.ref C_BadRow) = some true)
  (w_NoDispute_cl:PySem.W.clsIn K C_NoDispute = some cd_NoDispute)
  (w_NoDispute_ty:PySem.W.typeIn K (.ref C_NoDispute) = some (.type "type"))
  (w_NoDispute_se:PySem.W.subIn K (.ref C_NoDispute) (.ref C_NoDispute) = some true)
  (w_NoRoll_cl:PySem.W.clsIn K C_NoRoll = some cd_NoRoll)
  (w_NoRoll_ty:PySem.W.typeIn K (.ref C_NoRoll) = some (.type "type"))
  (w_NoRoll_se:PySem.W.subIn K (.ref C_NoRoll) (.ref C_NoRoll) = some true)
  (w_NoTime_cl:PySem.W.clsIn K C_NoTime = some cd_NoTime)
  (w_NoTime_ty:PySem.W.typeIn K (.ref C_NoTime) = some (.type "type"))
  (w_NoTime_se:PySem.W.subIn K (.ref C_NoTime) (.ref C_NoTime) = some true)
  (w_Spent_cl:PySem.W.clsIn K C_Spent = some cd_Spent)
  (w_Spent_ty:PySem.W.typeIn K (.ref C_Spent) = some (.type "type"))
  (w_Spent_se:PySem.W.subIn K (.ref C_Spent) (.ref C_Spent) = some true)
  (w_Unfit_cl:PySem.W.clsIn K C_Unfit = some cd_Unfit)
  (w_Unfit_ty:PySem.W.typeIn K (.ref C_Unfit) = some (.type "type"))
  (w_Unfit_se:PySem.W.subIn K (.ref C_Unfit) (.ref C_Unfit) = some true)
  (w_LedgerError_lk:K.lookup C_LedgerError = some (excClassObj na_LedgerError qn_LedgerError C_LedgerError N_LedgerError bs_LedgerError [.type "ValueError",.type "Exception",.type "BaseException",.type "object"] hd_LedgerError sn_LedgerError su_LedgerError ab_LedgerError co_LedgerError dd_LedgerError ka_LedgerError kb_LedgerError kc_LedgerError kd_LedgerError kf_LedgerError "ValueError.__new__"))
  (w_LedgerError_ns:K.lookup N_LedgerError = some ⟨oc_LedgerError,od_LedgerError,.dict es_LedgerError ep_LedgerError,sl_LedgerError⟩)
  (r_LedgerError_sk:Zor es_LedgerError = true)
  (r_LedgerError_ni:nsFind es_LedgerError "__init__" = none)
  (w_NoDispute_lk:K.lookup C_NoDispute = some (excClassObj na_NoDispute qn_NoDispute C_NoDispute N_NoDispute bs_NoDispute [.ref C_LedgerError,.type "ValueError",.type "Exception",.type "BaseException",.type "object"] hd_NoDispute sn_NoDispute su_NoDispute ab_NoDispute co_NoDispute dd_NoDispute ka_NoDispute kb_NoDispute kc_NoDispute kd_NoDispute kf_NoDispute "ValueError.__new__"))
  (w_NoDispute_ns:K.lookup N_NoDispute = some ⟨oc_NoDispute,od_NoDispute,.dict es_NoDispute ep_NoDispute,sl_NoDispute⟩)
  (r_NoDispute_sk:Zor es_NoDispute = true)
  (r_NoDispute_ni:nsFind es_NoDispute "__init__" = none)
  (w_NoDispute_ga:PySem.W.findIn K (.ref C_NoDispute) "__getattribute__" = some (some (.builtin "BaseException.__getattribute__")))
  (w_NoDispute_gh:PySem.W.findIn K (.ref C_NoDispute) "__getattr__" = some none)
  (w_NoDispute_be:PySem.W.mroIn K C_NoDispute (.type "BaseException") = some true)
  (w_NoDispute_fa:PySem.W.findIn K (.ref C_NoDispute) "__class__" = some (some (.builtin "object.__class__")))
  (w_NoDispute_mo:PySem.W.mroIn K C_NoDispute (.type "object") = some true)
  (w_xsp:PySem.W.specialIn K (.builtin "object.__class__") "__get__" = some (some (.builtin "getset_descriptor.__get__")))
  (w_xtk:PySem.W.takesIn K (.builtin "object.__class__") = some true)
  (s_LedgerError_BaseException:PySem.W.subIn K (.ref C_LedgerError) (.type "BaseException") = some true)
  (s_NoDispute_LedgerError:PySem.W.subIn K (.ref C_NoDispute) (.ref C_LedgerError) = some true)
  (s_NoneType_NoDispute:PySem.W.subIn K (.type "NoneType") (.ref C_NoDispute) = some false)
  (s_NoDispute_NoDispute:PySem.W.subIn K (.ref C_NoDispute) (.ref C_NoDispute) = some true)
  (s_NoneType_ValueError:PySem.W.subIn K (.type "NoneType") (.type "ValueError") = some false)
  (s_NoDispute_ValueError:PySem.W.subIn K (.ref C_NoDispute) (.type "ValueError") = some true)
  (s_NoneType_Unfit:PySem.W.subIn K (.type "NoneType") (.ref C_Unfit) = some false)
  (s_NoneType_Spent:PySem.W.subIn K (.type "NoneType") (.ref C_Spent) = some false)
  (s_NoneType_NoTime:PySem.W.subIn K (.type "NoneType") (.ref C_NoTime) = some false)
  (s_NoneType_NoRoll:PySem.W.subIn K (.type "NoneType") (.ref C_NoRoll) = some false)
  (s_NoneType_BadRow:PySem.W.subIn K (.type "NoneType") (.ref C_BadRow) = some false)
  (s_NoneType_BadGiven:PySem.W.subIn K (.type "NoneType") (.ref C_BadGiven) = some false)
  (s_NoneType_BadCut:PySem.W.subIn K (.type "NoneType") (.ref C_BadCut) = some false)
  (s_NoDispute_Unfit:PySem.W.subIn K (.ref C_NoDispute) (.ref C_Unfit) = some false)
  (s_NoDispute_Spent:PySem.W.subIn K (.ref C_NoDispute) (.ref C_Spent) = some false)
  (s_NoDispute_NoTime:PySem.W.subIn K (.ref C_NoDispute) (.ref C_NoTime) = some false)
  (s_NoDispute_NoRoll:PySem.W.subIn K (.ref C_NoDispute) (.ref C_NoRoll) = some false)
  (s_NoDispute_BadRow:PySem.W.subIn K (.ref C_NoDispute) (.ref C_BadRow) = some false)
  (s_NoDispute_BadGiven:PySem.W.subIn K (.ref C_NoDispute) (.ref C_BadGiven) = some false)
  (s_NoDispute_BadCut:PySem.W.subIn K (.ref C_NoDispute) (.ref C_BadCut) = some false):
  ∃ fd:FuncData,(∀ (s:Shared) (v:Value),BindsTo s fd ⟨[v],[]⟩ [("script",v)]) ∧ ∀ base:Heap,K.In base → base.Ns mainGlobals mg → ZcD l.prog w K mg base CX0 9 fa fd ["script"] (sp3 K 1 Zli):=by
 have e:=hfa.symm.trans (W.mg_of X G a24)
 cases e
 have T:Txt K mg:=⟨trivial,W.mg_none_of X G z_ValueError,W.mg_none_of X G z_all,W.mg_none_of X G z_bool,W.mg_none_of X G z_dict,W.mg_none_of X G z_enumerate,W.mg_none_of X G z_int,W.mg_none_of X G z_isinstance,W.mg_none_of X G z_len,W.mg_none_of X G z_list,W.mg_none_of X G z_range,W.mg_none_of X G z_str,W.mg_none_of X G z_tuple⟩
 have O_Teller:Zcl K mg C_Teller:=⟨⟨by unfold L3.ClsAt; rw [show (⟨([84,101,108,108,101,114]:List Nat).toArray⟩:Str) = "Teller" by decide +kernel]; exact w_Teller_a,⟨w_Teller_pg,w_Teller_hd,w_Teller_po,w_Teller_sa⟩,by decide⟩,W.mg_of X G w_Teller_a,by rw [show nm [97,115,107,101,100] = "asked" by decide +kernel]; exact w_Teller_n_asked,by rw [show nm [115,116,97,116,101,115] = "states" by decide +kernel]; exact w_Teller_n_states⟩
 have at_NoDispute:ClsAt K [78,111,68,105,115,112,117,116,101] C_NoDispute:=by unfold L3.ClsAt; rw [show (⟨([78,111,68,105,115,112,117,116,101]:List Nat).toArray⟩:Str) = "NoDispute" by decide +kernel]; exact w_NoDispute_a
 have ki_NoDispute:Zep K C_NoDispute:=⟨w_NoDispute_ga,w_NoDispute_gh,w_NoDispute_be,by rw [w_NoDispute_cl]; rfl,w_NoDispute_fa,w_xsp,w_xtk,w_NoDispute_mo⟩
 have XO:ExT K mg C_LedgerError C_BadCut C_BadGiven C_BadRow C_NoDispute C_NoRoll C_NoTime C_Spent C_Unfit:=⟨W.mg_of X G w_LedgerError_a,W.mg_of X G w_BadCut_a,W.mg_of X G w_BadGiven_a,W.mg_of X G w_BadRow_a,W.mg_of X G w_NoDispute_a,W.mg_of X G w_NoRoll_a,W.mg_of X G w_NoTime_a,W.mg_of X G w_Spent_a,W.mg_of X G w_Unfit_a,⟨at_NoDispute,_,_,_,_,_,_,_,_,_,_,_,_,_,_,_,_,w_NoDispute_lk,fun h Y=>⟨_,ZpS Y w_NoDispute_ns r_NoDispute_sk,r_NoDispute_ni⟩,fun h Y=>.own (Y _ _ w_LedgerError_lk) (ZpS Y w_LedgerError_ns r_LedgerError_sk) r_LedgerError_ni (.base)⟩,(Zgn (P:=fun C=>PySem.W.exmOne K (.ref C) (.ref C_LedgerError) = some true) at_NoDispute (PySem.W.exm1 w_LedgerError_cl w_LedgerError_ty s_LedgerError_BaseException s_NoDispute_LedgerError) Zd5),⟨(PySem.W.kitF (PySem.W.kit1 w_NoDispute_cl w_NoDispute_ty w_NoDispute_se s_NoneType_NoDispute) PySem.W.kit0),(Zgn (P:=fun C=>Zep K C ∧ PySem.W.kitAny K (.ref C) [.ref C_NoDispute] = some true) at_NoDispute ⟨ki_NoDispute,(PySem.W.kitT (PySem.W.kit1 w_NoDispute_cl w_NoDispute_ty w_NoDispute_se s_NoDispute_NoDispute))⟩ Zd5),Zd5⟩,⟨(PySem.W.kitF (PySem.W.kit1T (by decide +kernel) (by first | rfl | decide) s_NoneType_ValueError) PySem.W.kit0),(Zgn (P:=fun C=>Zep K C ∧ PySem.W.kitAny K (.ref C) [.type "ValueError"] = some true) at_NoDispute ⟨ki_NoDispute,(PySem.W.kitT (PySem.W.kit1T (by decide +kernel) (by first | rfl | decide) s_NoDispute_ValueError))⟩ Zd5),Zd5⟩,⟨(PySem.W.kitF (PySem.W.kit1 w_BadCut_cl w_BadCut_ty w_BadCut_se s_NoneType_BadCut) (PySem.W.kitF (PySem.W.kit1 w_BadGiven_cl w_BadGiven_ty w_BadGiven_se s_NoneType_BadGiven) (PySem.W.kitF (PySem.W.kit1 w_BadRow_cl w_BadRow_ty w_BadRow_se s_NoneType_BadRow) (PySem.W.kitF (PySem.W.kit1 w_NoRoll_cl w_NoRoll_ty w_NoRoll_se s_NoneType_NoRoll) (PySem.W.kitF (PySem.W.kit1 w_NoTime_cl w_NoTime_ty w_NoTime_se s_NoneType_NoTime) (PySem.W.kitF (PySem.W.kit1 w_Spent_cl w_Spent_ty w_Spent_se s_NoneType_Spent) (PySem.W.kitF (PySem.W.kit1 w_Unfit_cl w_Unfit_ty w_Unfit_se s_NoneType_Unfit) PySem.W.kit0))))))),Zd5,(Zgn (P:=fun C=>Zep K C ∧ PySem.W.kitAny K (.ref C) (refsOf [C_BadCut,C_BadGiven,C_BadRow,C_NoRoll,C_NoTime,C_Spent,C_Unfit]) = some false) at_NoDispute ⟨ki_NoDispute,(PySem.W.kitF (PySem.W.kit1 w_BadCut_cl w_BadCut_ty w_BadCut_se s_NoDispute_BadCut) (PySem.W.kitF (PySem.W.kit1 w_BadGiven_cl w_BadGiven_ty w_BadGiven_se s_NoDispute_BadGiven) (PySem.W.kitF (PySem.W.kit1 w_BadRow_cl w_BadRow_ty w_BadRow_se s_NoDispute_BadRow) (PySem.W.kitF (PySem.W.kit1 w_NoRoll_cl w_NoRoll_ty w_NoRoll_se s_NoDispute_NoRoll) (PySem.W.kitF (PySem.W.kit1 w_NoTime_cl w_NoTime_ty w_NoTime_se s_NoDispute_NoTime) (PySem.W.kitF (PySem.W.kit1 w_Spent_cl w_Spent_ty w_Spent_se s_NoDispute_Spent) (PySem.W.kitF (PySem.W.kit1 w_Unfit_cl w_Unfit_ty w_Unfit_se s_NoDispute_Unfit) PySem.W.kit0)))))))⟩ Zd5)⟩⟩
 have D_next_place:ZaH K mg "next_place" Zb0 ["row","place","boxes"]:=ZaQ X G a0 l0 c0 k0 (Binds.all (ub3 fun _ _ _=>rfl))
 have D_worked:ZaH K mg "worked" ZdH ["name","one","other"]:=ZaQ X G a1 l1 c1 k1 (Binds.all (ub3 fun _ _ _=>rfl))
 have D_with_box:ZaH K mg "with_box" ZcM ["boxes","box","value"]:=ZaQ X G a2 l2 c2 k2 (Binds.all (ub3 fun _ _ _=>rfl))
 have D_cell_value:ZaH K mg "cell_value" ZbU ["cells","number"]:=ZaQ X G a3 l3 c3 k3 (Binds.all (ub2 fun _ _=>rfl))
 have D_next_boxes:ZaH K mg "next_boxes" ZbW ["row","boxes","cells"]:=ZaQ X G a4 l4 c4 k4 (Binds.all (ub3 fun _ _ _=>rfl))
 have D_with_cell:ZaH K mg "with_cell" Zck ["cells","number","value"]:=ZaQ X G a5 l5 c5 k5 (Binds.all (ub3 fun _ _ _=>rfl))
 have D_next_cells:ZaH K mg "next_cells" ZbX ["row","boxes","cells"]:=ZaQ X G a6 l6 c6 k6 (Binds.all (ub3 fun _ _ _=>rfl))
 have D_next_state:ZaH K mg "next_state" ZbY ["roll","state"]:=ZaQ X G a7 l7 c7 k7 (Binds.all (ub2 fun _ _=>rfl))
 have D_is_within:ZaH K mg "is_within" Zco ["number","many"]:=ZaQ X G a8 l8 c8 k8 (Binds.all (ub2 fun _ _=>rfl))
 have D_Teller_many:Zge K C_Teller "many" "Teller.many" ZbD ["self"]:=ZgS a9 i9 l9 c9 k9 (Binds.all (ub1 fun _=>rfl))
 have D_Teller_state_at:Zge K C_Teller "state_at" "Teller.state_at" Za4 ["self","time"]:=ZgS a10 i10 l10 c10 k10 (Binds.all (ub2 fun _ _=>rfl))
 have D_both_at:ZaH K mg "both_at" Zc8 ["one","other","time"]:=ZaQ X G a11 l11 c11 k11 (Binds.all (ub3 fun _ _ _=>rfl))
 have D_are_unlike:ZaH K mg "are_unlike" Zb1 ["both"]:=ZaQ X G a12 l12 c12 k12 (Binds.all (ub1 fun _=>rfl))
 have D_wrong_ones:ZaH K mg "wrong_ones" ZbV ["roll","state","both"]:=ZaQ X G a13 l13 c13 k13 (Binds.all (ub3 fun _ _ _=>rfl))
 have D_judged:ZaH K mg "judged" ZdL ["roll","one","other"]:=ZaQ X G a14 l14 c14 k14 (Binds.all (ub3 fun _ _ _=>rfl))
 have D__law_next:ZaH K mg "_law_next" Zcu ["deck"]:=ZaQ X G a15 l15 c15 k15 (Binds.all (ub1 fun _=>rfl))
 have D__law_same:ZaH K mg "_law_same" Zcn ["found","due"]:=ZaQ X G a16 l16 c16 k16 (Binds.all (ub2 fun _ _=>rfl))
 have D__law_roll:ZaH K mg "_law_roll" Zcs ["cells"]:=ZaQ X G a17 l17 c17 k17 (Binds.all (ub1 fun _=>rfl))
 have D__law_state:ZaH K mg "_law_state" ZbT ["deck","roll"]:=ZaQ X G a18 l18 c18 k18 (Binds.all (ub2 fun _ _=>rfl))
 have D__law_unlike:ZaH K mg "_law_unlike" ZbC ["state","roll","cell"]:=ZaQ X G a19 l19 c19 k19 (Binds.all (ub3 fun _ _ _=>rfl))
 have D__law_asked:ZaH K mg "_law_asked" ZbZ ["roll","tellers"]:=ZaQ X G a20 l20 c20 k20 (Binds.all (ub2 fun _ _=>rfl))
 have D__law_due:ZaH K mg "_law_due" ZcJ ["ones","others"]:=ZaQ X G a21 l21 c21 k21 (Binds.all (ub2 fun _ _=>rfl))
 have D_Teller___init__:Zot K C_Teller "Teller.__init__" Za2 ["self","states"]:=ZoN w_Teller_mk w_Teller_kp a22 i22 l22 c22 k22 (Binds.all (ub2 fun _ _=>rfl))
 have D_Teller_times_asked:Zge K C_Teller "times_asked" "Teller.times_asked" ZaO ["self"]:=ZgS a23 i23 l23 c23 k23 (Binds.all (ub1 fun _=>rfl))
 refine ⟨W.fnOf "law" "law" (Zaq Zfe) (Zah Zfe) (Zh Zfe) .none kV24 dc24 pm24 an24 cd24 ct24,fun s v=>.of_eq rfl,fun base _ _=>?_⟩
 have F_next_place:=Zhy (P:=l.prog) (w:=w) (base:=base) D_next_place T
 have F_worked:=Zmd (P:=l.prog) (w:=w) (base:=base) D_worked T
 have F_with_box:=Zjc (P:=l.prog) (w:=w) (base:=base) D_with_box T
 have F_cell_value:=Zhg (P:=l.prog) (w:=w) (base:=base) D_cell_value T
 have F_next_boxes:=ZhC (P:=l.prog) (w:=w) (base:=base) D_next_boxes T F_worked F_with_box F_cell_value
 have F_with_cell:=Zi5 (P:=l.prog) (w:=w) (base:=base) D_with_cell T
 have F_next_cells:=Zhw (P:=l.prog) (w:=w) (base:=base) D_next_cells T F_with_cell
 have F_next_state:=Zhr (P:=l.prog) (w:=w) (base:=base) D_next_state T F_next_place F_next_boxes F_next_cells
 have F_is_within:=ZiU (P:=l.prog) (w:=w) (base:=base) D_is_within T
 have M_Teller_many:=Zg9 (P:=l.prog) (w:=w) (base:=base) O_Teller D_Teller_many T
 have M_Teller_state_at:=Ze0 (P:=l.prog) (w:=w) (base:=base) O_Teller D_Teller_state_at T F_is_within
 have F_both_at:=Zkj (P:=l.prog) (w:=w) (base:=base) D_both_at T O_Teller M_Teller_state_at
 have F_are_unlike:=Zhs (P:=l.prog) (w:=w) (base:=base) D_are_unlike T
 have F_wrong_ones:=Zhq (P:=l.prog) (w:=w) (base:=base) D_wrong_ones T F_next_state
 have E_judged:=ZlQ (P:=l.prog) (w:=w) (base:=base) D_judged T O_Teller XO M_Teller_many F_both_at F_are_unlike F_wrong_ones
 have F_judged:=E_judged.fn
 have F__law_next:=Zig (P:=l.prog) (w:=w) (base:=base) D__law_next T
 have F__law_same:=Zil (P:=l.prog) (w:=w) (base:=base) D__law_same T
 have F__law_roll:=ZiR (P:=l.prog) (w:=w) (base:=base) D__law_roll T
 have F__law_state:=Zhh (P:=l.prog) (w:=w) (base:=base) D__law_state T F__law_next
 have F__law_unlike:=Zha (P:=l.prog) (w:=w) (base:=base) D__law_unlike T
 have F__law_asked:=Zhv (P:=l.prog) (w:=w) (base:=base) D__law_asked T XO E_judged
 have F__law_due:=Zjj (P:=l.prog) (w:=w) (base:=base) D__law_due T
 have M_Teller___init__:=Ze9 (P:=l.prog) (w:=w) (base:=base) O_Teller D_Teller___init__ T
 have M_Teller_times_asked:=Zeg (P:=l.prog) (w:=w) (base:=base) O_Teller D_Teller_times_asked T
 exact Zqy (ZnS (st:=Zfe) l24 c24 k24) T O_Teller M_Teller___init__ M_Teller_times_asked F__law_next F__law_same F__law_roll F__law_state F__law_unlike F__law_asked F__law_due
end Law
open PySem PySem.W PyProof.Rows
set_option maxRecDepth 100000 in
set_option maxHeartbeats 0 in
theorem PySem.Challenge.cw_stepledger_k54_no_dispute_holds : PySem.Challenge.rw_stepledger_k54_no_dispute.Holds := by
 w_on; o_law; k_head; (case hw=>w_witness2)
 k_fill
 refine L3.ZsG (l:=PySem.Challenge.rw_stepledger_k54_no_dispute) (k:=9) (F:=Law.Zli) rfl rfl ⟨rfl,by decide,by decide⟩ (fun w h Y=>W.kIn_of Y) ?G Law.law_holds
 case G=>
  intro w mg fa h KX G hmg
  refine' Law.ZqS KX G hmg ?w_Teller_a ?w_Teller_pg ?w_Teller_hd ?w_Teller_po ?w_Teller_sa ?w_Teller_mk ?w_Teller_kp ?w_Teller_n_asked ?w_Teller_n_states ?a0 ?l0 ?c0 ?k0 ?a1 ?l1 ?c1 ?k1 ?a2 ?l2 ?c2 ?k2 ?a3 ?l3 ?c3 ?k3 ?a4 ?l4 ?c4 ?k4 ?a5 ?l5 ?c5 ?k5 ?a6 ?l6 ?c6 ?k6 ?a7 ?l7 ?c7 ?k7 ?a8 ?l8 ?c8 ?k8 ?a9 ?i9 ?l9 ?c9 ?k9 ?a10 ?i10 ?l10 ?c10 ?k10 ?a11 ?l11 ?c11 ?k11 ?a12 ?l12 ?c12 ?k12 ?a13 ?l13 ?c13 ?k13 ?a14 ?l14 ?c14 ?k14 ?a15 ?l15 ?c15 ?k15 ?a16 ?l16 ?c16 ?k16 ?a17 ?l17 ?c17 ?k17 ?a18 ?l18 ?c18 ?k18 ?a19 ?l19 ?c19 ?k19 ?a20 ?l20 ?c20 ?k20 ?a21 ?l21 ?c21 ?k21 ?a22 ?i22 ?l22 ?c22 ?k22 ?a23 ?i23 ?l23 ?c23 ?k23 ?a24 ?l24 ?c24 ?k24 ?z_ValueError ?z_all ?z_bool ?z_dict ?z_enumerate ?z_int ?z_isinstance ?z_len ?z_list ?z_range ?z_str ?z_tuple ?w_LedgerError_a ?w_BadCut_a ?w_BadGiven_a ?w_BadRow_a ?w_NoDispute_a ?w_NoRoll_a ?w_NoTime_a ?w_Spent_a ?w_Unfit_a ?w_LedgerError_cl ?w_LedgerError_ty ?w_LedgerError_se ?w_BadCut_cl ?w_BadCut_ty ?w_BadCut_se ?w_BadGiven_cl ?w_BadGiven_ty ?w_BadGiven_se ?w_BadRow_cl ?w_BadRow_ty ?w_BadRow_se ?w_NoDispute_cl ?w_NoDispute_ty ?w_NoDispute_se ?w_NoRoll_cl ?w_NoRoll_ty ?w_NoRoll_se ?w_NoTime_cl ?w_NoTime_ty ?w_NoTime_se ?w_Spent_cl ?w_Spent_ty ?w_Spent_se ?w_Unfit_cl ?w_Unfit_ty ?w_Unfit_se ?w_LedgerError_lk ?w_LedgerError_ns ?r_LedgerError_sk ?r_LedgerError_ni ?w_NoDispute_lk ?w_NoDispute_ns ?r_NoDispute_sk ?r_NoDispute_ni ?w_NoDispute_ga ?w_NoDispute_gh ?w_NoDispute_be ?w_NoDispute_fa ?w_NoDispute_mo ?w_xsp ?w_xtk ?s_LedgerError_BaseException ?s_NoDispute_LedgerError ?s_NoneType_NoDispute ?s_NoDispute_NoDispute ?s_NoneType_ValueError ?s_NoDispute_ValueError ?s_NoneType_Unfit ?s_NoneType_Spent ?s_NoneType_NoTime ?s_NoneType_NoRoll ?s_NoneType_BadRow ?s_NoneType_BadGiven ?s_NoneType_BadCut ?s_NoDispute_Unfit ?s_NoDispute_Spent ?s_NoDispute_NoTime ?s_NoDispute_NoRoll ?s_NoDispute_BadRow ?s_NoDispute_BadGiven ?s_NoDispute_BadCut
  (case w_Teller_a=>k_is)
  (case w_Teller_pg=>k_is)
  (case w_Teller_hd=>k_is)
  (case w_Teller_po=>k_is)
  (case w_Teller_sa=>k_is)
  (case w_Teller_mk=>k_is)
  (case w_Teller_kp=>k_is)
  (case w_Teller_n_asked=>k_is)
  (case w_Teller_n_states=>k_is)
  (case a0=>k_is)
  (case l0=>k_is)
  (case c0=>k_is)
  (case k0=>k_is)
  (case a1=>k_is)
  (case l1=>k_is)
  (case c1=>k_is)
  (case k1=>k_is)
  (case a2=>k_is)
  (case l2=>k_is)
  (case c2=>k_is)
  (case k2=>k_is)
  (case a3=>k_is)
  (case l3=>k_is)
  (case c3=>k_is)
  (case k3=>k_is)
  (case a4=>k_is)
  (case l4=>k_is)
  (case c4=>k_is)
  (case k4=>k_is)
  (case a5=>k_is)
  (case l5=>k_is)
  (case c5=>k_is)
  (case k5=>k_is)
  (case a6=>k_is)
  (case l6=>k_is)
  (case c6=>k_is)
  (case k6=>k_is)
  (case a7=>k_is)
  (case l7=>k_is)
  (case c7=>k_is)
  (case k7=>k_is)
  (case a8=>k_is)
  (case l8=>k_is)
  (case c8=>k_is)
  (case k8=>k_is)
  (case a9=>k_is)
  (case i9=>k_is)
  (case l9=>k_is)
  (case c9=>k_is)
  (case k9=>k_is)
  (case a10=>k_is)
  (case i10=>k_is)
  (case l10=>k_is)
  (case c10=>k_is)
  (case k10=>k_is)
  (case a11=>k_is)
  (case l11=>k_is)
  (case c11=>k_is)
  (case k11=>k_is)
  (case a12=>k_is)
  (case l12=>k_is)
  (case c12=>k_is)
  (case k12=>k_is)
  (case a13=>k_is)
  (case l13=>k_is)
  (case c13=>k_is)
  (case k13=>k_is)
  (case a14=>k_is)
  (case l14=>k_is)
  (case c14=>k_is)
  (case k14=>k_is)
  (case a15=>k_is)
  (case l15=>k_is)
  (case c15=>k_is)
  (case k15=>k_is)
  (case a16=>k_is)
  (case l16=>k_is)
  (case c16=>k_is)
  (case k16=>k_is)
  (case a17=>k_is)
  (case l17=>k_is)
  (case c17=>k_is)
  (case k17=>k_is)
  (case a18=>k_is)
  (case l18=>k_is)
  (case c18=>k_is)
  (case k18=>k_is)
  (case a19=>k_is)
  (case l19=>k_is)
  (case c19=>k_is)
  (case k19=>k_is)
  (case a20=>k_is)
  (case l20=>k_is)
  (case c20=>k_is)
  (case k20=>k_is)
  (case a21=>k_is)
  (case l21=>k_is)
  (case c21=>k_is)
  (case k21=>k_is)
  (case a22=>k_is)
  (case i22=>k_is)
  (case l22=>k_is)
  (case c22=>k_is)
  (case k22=>k_is)
  (case a23=>k_is)
  (case i23=>k_is)
  (case l23=>k_is)
  (case c23=>k_is)
  (case k23=>k_is)
  (case a24=>k_is)
  (case l24=>k_is)
  (case c24=>k_is)
  (case k24=>k_is)
  (case z_ValueError=>k_is)
  (case z_all=>k_is)
  (case z_bool=>k_is)
  (case z_dict=>k_is)
  (case z_enumerate=>k_is)
  (case z_int=>k_is)
  (case z_isinstance=>k_is)
  (case z_len=>k_is)
  (case z_list=>k_is)
  (case z_range=>k_is)
  (case z_str=>k_is)
  (case z_tuple=>k_is)
  (case w_LedgerError_a=>k_is)
  (case w_BadCut_a=>k_is)
  (case w_BadGiven_a=>k_is)
  (case w_BadRow_a=>k_is)
  (case w_NoDispute_a=>k_is)
  (case w_NoRoll_a=>k_is)
  (case w_NoTime_a=>k_is)
  (case w_Spent_a=>k_is)
  (case w_Unfit_a=>k_is)
  (case w_LedgerError_cl=>k_is)
  (case w_LedgerError_ty=>k_is)
  (case w_LedgerError_se=>k_is)
  (case w_BadCut_cl=>k_is)
  (case w_BadCut_ty=>k_is)
  (case w_BadCut_se=>k_is)
  (case w_BadGiven_cl=>k_is)
  (case w_BadGiven_ty=>k_is)
  (case w_BadGiven_se=>k_is)
  (case w_BadRow_cl=>k_is)
  (case w_BadRow_ty=>k_is)
  (case w_BadRow_se=>k_is)
  (case w_NoDispute_cl=>k_is)
  (case w_NoDispute_ty=>k_is)
  (case w_NoDispute_se=>k_is)
  (case w_NoRoll_cl=>k_is)
  (case w_NoRoll_ty=>k_is)
  (case w_NoRoll_se=>k_is)
  (case w_NoTime_cl=>k_is)
  (case w_NoTime_ty=>k_is)
  (case w_NoTime_se=>k_is)
  (case w_Spent_cl=>k_is)
  (case w_Spent_ty=>k_is)
  (case w_Spent_se=>k_is)
  (case w_Unfit_cl=>k_is)
  (case w_Unfit_ty=>k_is)
  (case w_Unfit_se=>k_is)
  (case w_LedgerError_lk=>k_is)
  (case w_LedgerError_ns=>k_is)
  (case r_LedgerError_sk=>first | rfl | decide +kernel)
  (case r_LedgerError_ni=>first | rfl | decide +kernel)
  (case w_NoDispute_lk=>k_is)
  (case w_NoDispute_ns=>k_is)
  (case r_NoDispute_sk=>first | rfl | decide +kernel)
  (case r_NoDispute_ni=>first | rfl | decide +kernel)
  (case w_NoDispute_ga=>k_is)
  (case w_NoDispute_gh=>k_is)
  (case w_NoDispute_be=>k_is)
  (case w_NoDispute_fa=>k_is)
  (case w_NoDispute_mo=>k_is)
  (case w_xsp=>k_is)
  (case w_xtk=>k_is)
  (case s_LedgerError_BaseException=>k_is)
  (case s_NoDispute_LedgerError=>k_is)
  (case s_NoneType_NoDispute=>k_is)
  (case s_NoDispute_NoDispute=>k_is)
  (case s_NoneType_ValueError=>k_is)
  (case s_NoDispute_ValueError=>k_is)
  (case s_NoneType_Unfit=>k_is)
  (case s_NoneType_Spent=>k_is)
  (case s_NoneType_NoTime=>k_is)
  (case s_NoneType_NoRoll=>k_is)
  (case s_NoneType_BadRow=>k_is)
  (case s_NoneType_BadGiven=>k_is)
  (case s_NoneType_BadCut=>k_is)
  (case s_NoDispute_Unfit=>k_is)
  (case s_NoDispute_Spent=>k_is)
  (case s_NoDispute_NoTime=>k_is)
  (case s_NoDispute_NoRoll=>k_is)
  (case s_NoDispute_BadRow=>k_is)
  (case s_NoDispute_BadGiven=>k_is)
  (case s_NoDispute_BadCut=>k_is)
