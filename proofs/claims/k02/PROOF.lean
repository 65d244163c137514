import PyProof.Rows.All
import Wide.All
import OpenK.AllK
import Wide.FinOn
import Lean
import PyProof.EqAt
import PyProof.EqKinds
import PyProof.TupleCall
import PySem.Challenge.RW_stepledger_k02_shown_and_read
namespace L3
set_option compiler.extract_closed false
set_option genSizeOf false in
set_option genInjectivity false in
inductive AE where
 | v (i:Nat)
 | k (n:Nat)
 | a (x y:AE)
 | m (n:Nat) (x:AE)
noncomputable def Zlh:List Nat → Nat → Nat
 | [],_=>0
 | x :: _,0=>x
 | _ :: l,n + 1=>Zlh l n
noncomputable def AE.ev (c:List Nat):AE → Nat
 | .v i=>Zlh c i
 | .k n=>n
 | .a x y=>x.ev c + y.ev c
 | .m n x=>n * x.ev c
noncomputable def aL:List Nat → List Nat → List Nat
 | [],r=>r
 | x :: l,[]=>x :: l
 | x :: l,y :: r=>(x + y) :: aL l r
noncomputable def sL (n:Nat):List Nat → List Nat
 | []=>[]
 | x :: l=>(n * x) :: sL n l
noncomputable def uL:Nat → List Nat
 | 0=>[1]
 | n + 1=>0 :: uL n
noncomputable def AE.li:AE → List Nat
 | .v i=>0 :: uL i
 | .k n=>[n]
 | .a x y=>aL x.li y.li
 | .m n x=>sL n x.li
noncomputable def dt:List Nat → List Nat → Nat
 | x :: c,y :: l=>x * y + dt c l
 | [],_=>0
 | _,[]=>0
noncomputable def leL:List Nat → List Nat → Bool
 | [],_=>true
 | x :: l,[]=>Nat.ble x 0 && leL l []
 | x :: l,y :: r=>Nat.ble x y && leL l r
theorem Zci:∀ c,dt c [] = 0
 | []=>rfl
 | _ :: _=>rfl
theorem ZdF:∀ c l r,dt c (aL l r) = dt c l + dt c r
 | c,[],r=>by rw [Zci,Nat.zero_add]; rfl
 | c,x :: l,[]=>by rw [Zci]; rfl
 | [],x :: l,y :: r=>rfl
 | z :: c,x :: l,y :: r=>by
  show z * (x + y) + dt c (aL l r) = _
  rw [ZdF c l r,Nat.mul_add]; exact Nat.add_add_add_comm _ _ _ _
theorem Zg8 (n:Nat):∀ c l,dt c (sL n l) = n * dt c l
 | c,[]=>by rw [Zci]; exact Zci c
 | [],x :: l=>rfl
 | z :: c,x :: l=>by
  show z * (n * x) + dt c (sL n l) = n * (z * x + dt c l)
  rw [Zg8 n c l,Nat.mul_add,Nat.mul_left_comm]
theorem Zl0:∀ c i,dt c (uL i) = Zlh c i
 | [],0=>rfl
 | [],_ + 1=>rfl
 | x :: c,0=>by show x * 1 + dt c [] = x; rw [Zci,Nat.mul_one]; rfl
 | x :: c,n + 1=>by show x * 0 + dt c (uL n) = Zlh c n; rw [Zl0 c n,Nat.mul_zero,Nat.zero_add]
theorem Zek:∀ c l r,leL l r = true → dt c l ≤ dt c r
 | c,[],r,_=>by rw [Zci]; exact Nat.zero_le _
 | [],x :: l,r,_=>Nat.zero_le _
 | z :: c,x :: l,[],h=>by
  have h:=(Bool.and_eq_true _ _).mp h
  have e:x = 0:=Nat.le_zero.1 (Nat.le_of_ble_eq_true h.1)
  have i:=Zek c l [] h.2
  rw [Zci] at i
  show z * x + dt c l ≤ 0
  rw [e,Nat.le_zero.1 i]; exact Nat.le_refl 0
 | z :: c,x :: l,y :: r,h=>
  have h:=(Bool.and_eq_true _ _).mp h
  Nat.add_le_add (Nat.mul_le_mul_left z (Nat.le_of_ble_eq_true h.1)) (Zek c l r h.2)
theorem AE.li_ev (c:List Nat):∀ e:AE,dt (1 :: c) e.li = e.ev c
 | .v i=>(Nat.zero_add _).trans (Zl0 c i)
 | .k n=>by show 1 * n + dt c [] = n; rw [Zci,Nat.one_mul]; rfl
 | .a x y=>(ZdF _ _ _).trans (congr (congrArg _ (x.li_ev c)) (y.li_ev c))
 | .m n x=>(Zg8 n _ _).trans (congrArg _ (x.li_ev c))
noncomputable def rdE:Nat → Nat → AE × Nat
 | 0,s=>(.k 0,s)
 | f + 1,s=>bif Nat.ble (s % 16) 9 then (.v (s % 16),s / 16) else bif Nat.beq (s % 16) 10 then (.k 1,s / 16)
  else bif Nat.beq (s % 16) 11 then (.k (s / 256 % 16 ^ (s / 16 % 16)),s / 256 / 16 ^ (s / 16 % 16))
  else bif Nat.beq (s % 16) 12 then (.a (rdE f (s / 16)).1 (rdE f (rdE f (s / 16)).2).1,(rdE f (rdE f (s / 16)).2).2)
  else bif Nat.beq (s % 16) 13 then (.m (s / 16 % 256) (rdE f (s / 4096)).1,(rdE f (s / 4096)).2)
  else (.k 0,s / 16)
noncomputable def Zjp:Nat → Nat → Nat → Prop
 | 0,x,y=>x ≤ y
 | 1,x,y=>x < y
 | 2,x,y=>x = y
 | 3,x,y=>x = y
 | 4,x,y=>¬ x ≤ y
 | 5,x,y=>¬ x < y
 | _,_,_=>False
noncomputable def loN:Nat → AE → AE → List Nat
 | 0,x,_=>x.li
 | 1,x,_=>aL [1] x.li
 | 2,x,_=>x.li
 | 4,_,y=>aL [1] y.li
 | _,_,y=>y.li
noncomputable def hiN:Nat → AE → AE → List Nat
 | 0,_,y=>y.li
 | 1,_,y=>y.li
 | 2,_,y=>y.li
 | _,x,_=>x.li
noncomputable def Zgl (c:List Nat):Nat → Nat → Prop
 | 0,s=>Zjp (s % 16) ((rdE 9 (s / 16)).1.ev c) ((rdE 9 (rdE 9 (s / 16)).2).1.ev c)
 | n + 1,s=>Zjp (s / 16 % 16) ((rdE 9 (s / 256)).1.ev c) ((rdE 9 (rdE 9 (s / 256)).2).1.ev c) → Zgl c n (rdE 9 (rdE 9 (s / 256)).2).2
noncomputable def gN:Nat → AE → AE → List Nat → List Nat → Bool
 | 0,x,y,L,R=>leL (aL R x.li) (aL L y.li)
 | 1,x,y,L,R=>leL (aL [1] (aL R x.li)) (aL L y.li)
 | _,_,_,L,R=>leL (aL [1] R) L
noncomputable def chN:Nat → Nat → List Nat → List Nat → Bool
 | 0,s,L,R=>gN (s % 16) (rdE 9 (s / 16)).1 (rdE 9 (rdE 9 (s / 16)).2).1 L R
 | n + 1,s,L,R=>chN n (rdE 9 (rdE 9 (s / 256)).2).2 (aL L (sL (s % 16) (loN (s / 16 % 16) (rdE 9 (s / 256)).1 (rdE 9 (rdE 9 (s / 256)).2).1))) (aL R (sL (s % 16) (hiN (s / 16 % 16) (rdE 9 (s / 256)).1 (rdE 9 (rdE 9 (s / 256)).2).1)))
theorem ZeX (c l:List Nat):dt (1 :: c) (aL [1] l) = dt (1 :: c) l + 1:=by
 rw [ZdF]; show 1 * 1 + dt c [] + _ = _; rw [Zci]; exact Nat.add_comm _ _
theorem Zkr (c:List Nat) (x y:AE):∀ r,Zjp r (x.ev c) (y.ev c) → dt (1 :: c) (loN r x y) ≤ dt (1 :: c) (hiN r x y)
 | 0,h=>by show dt _ x.li ≤ dt _ y.li; rw [x.li_ev,y.li_ev]; exact h
 | 1,h=>by show dt _ (aL [1] x.li) ≤ dt _ y.li; rw [ZeX,x.li_ev,y.li_ev]; exact h
 | 2,h=>by show dt _ x.li ≤ dt _ y.li; rw [x.li_ev,y.li_ev]; exact Nat.le_of_eq h
 | 3,h=>by show dt _ y.li ≤ dt _ x.li; rw [x.li_ev,y.li_ev]; exact Nat.le_of_eq h.symm
 | 4,h=>by show dt _ (aL [1] y.li) ≤ dt _ x.li; rw [ZeX,x.li_ev,y.li_ev]; exact Nat.lt_of_not_le h
 | 5,h=>by show dt _ y.li ≤ dt _ x.li; rw [x.li_ev,y.li_ev]; exact Nat.le_of_not_lt h
 | _ + 6,h=>h.elim
theorem ZoD (c:List Nat) (x y:AE) (L R:List Nat) (h:dt (1 :: c) L ≤ dt (1 :: c) R):∀ r,gN r x y L R = true → Zjp r (x.ev c) (y.ev c)
 | 0,k=>by
  have e:=Zek (1 :: c) _ _ k
  rw [ZdF,ZdF,x.li_ev,y.li_ev] at e
  exact Nat.le_of_add_le_add_left (Nat.le_trans e (Nat.add_le_add_right h _))
 | 1,k=>by
  have e:=Zek (1 :: c) _ _ k
  rw [ZeX,ZdF,ZdF,x.li_ev,y.li_ev] at e
  exact Nat.lt_of_add_lt_add_left (Nat.le_trans e (Nat.add_le_add_right h _))
 | r + 2,k=>by
  have e:=Zek (1 :: c) _ _ k
  rw [ZeX] at e
  exact absurd (Nat.le_trans e h) (Nat.not_succ_le_self _)
theorem arN (c:List Nat):∀ (n s:Nat) (L R:List Nat),dt (1 :: c) L ≤ dt (1 :: c) R → chN n s L R = true → Zgl c n s
 | 0,s,L,R,h,k=>ZoD c _ _ L R h _ k
 | n + 1,s,L,R,h,k=>fun g=>arN c n _ _ _ (by
   rw [ZdF,ZdF,Zg8,Zg8]; exact Nat.add_le_add h (Nat.mul_le_mul_left _ (Zkr c _ _ _ g))) k
end L3
theorem lN (c:List Nat) (n s:Nat) (h:L3.chN n s [] [] = true):L3.Zgl c n s:=L3.arN c n s [] [] (Nat.le_refl _) h
theorem sbA (a b:Nat):a ≤ a - b + b:=Nat.le_add_of_sub_le (Nat.le_refl _)
theorem T1:true = true:=rfl
theorem lA {a:Nat} (n s:Nat) (y:L3.chN n s [] [] = true):L3.Zgl [a] n s:=lN _ n s y
theorem lB {a b:Nat} (n s:Nat) (y:L3.chN n s [] [] = true):L3.Zgl [a,b] n s:=lN _ n s y
theorem lC {a b c:Nat} (n s:Nat) (y:L3.chN n s [] [] = true):L3.Zgl [a,b,c] n s:=lN _ n s y
theorem lD {a b c d:Nat} (n s:Nat) (y:L3.chN n s [] [] = true):L3.Zgl [a,b,c,d] n s:=lN _ n s y
theorem lE {a b c d e:Nat} (n s:Nat) (y:L3.chN n s [] [] = true):L3.Zgl [a,b,c,d,e] n s:=lN _ n s y
theorem lF {a b c d e f:Nat} (n s:Nat) (y:L3.chN n s [] [] = true):L3.Zgl [a,b,c,d,e,f] n s:=lN _ n s y
theorem clA (w:Int):max w 0 = (w.toNat:Int):=(Int.ofNat_toNat w).symm
theorem clB (v:Int) (n:Nat) (h:¬ v < 0):min v (n:Int) = ((min v.toNat n:Nat):Int):=by
 obtain ⟨k,rfl⟩:=Int.eq_ofNat_of_zero_le (Int.not_lt.1 h)
 rcases Nat.le_total k n with z | z
 ·rw [Int.min_eq_left (Int.ofNat_le.2 z)]; exact congrArg Int.ofNat (Nat.min_eq_left z).symm
 ·rw [Int.min_eq_right (Int.ofNat_le.2 z)]; exact congrArg Int.ofNat (Nat.min_eq_right z).symm
theorem clC (v:Int) (n:Nat) (h:v < 0):max 0 (min (v + (n:Int)) (n:Int)) = ((v + (n:Int)).toNat:Int):=by
 rw [Int.min_eq_left (Int.le_of_lt (Int.lt_of_lt_of_le (Int.add_lt_add_right h _) (Int.le_of_eq (Int.zero_add _)))),Int.max_comm]; exact clA _
theorem clD (v:Int) (n:Nat) (h:¬ v < 0):max 0 (min v (n:Int)) = ((min v.toNat n:Nat):Int):=by
 rw [clB v n h]; exact Int.max_eq_right (Int.natCast_nonneg _)
namespace L3
set_option genSizeOf false in
set_option genInjectivity false in
inductive AI where
 | v (i:Nat)
 | k (n:Nat)
 | c (e:AE)
 | a (x y:AI)
 | s (x y:AI)
 | g (x:AI)
 | m (n:Nat) (x:AI)
noncomputable def ZjW:List Int → Nat → Int
 | [],_=>0
 | x :: _,0=>x
 | _ :: l,n + 1=>ZjW l n
noncomputable def AI.ev (c:List Nat) (d:List Int):AI → Int
 | .v i=>ZjW d i
 | .k n=>Int.ofNat n
 | .c e=>((e.ev c:Nat):Int)
 | .a x y=>x.ev c d + y.ev c d
 | .s x y=>x.ev c d - y.ev c d
 | .g x=>-x.ev c d
 | .m n x=>Int.ofNat n * x.ev c d
noncomputable def pL (u w:List Nat × List Nat):List Nat × List Nat:=(aL u.1 w.1,aL u.2 w.2)
noncomputable def AI.li:AI → Bool → List Nat × List Nat
 | .v i,b=>bif b then ([],uL i) else ([],[])
 | .k n,b=>bif b then ([n],[]) else ([],[])
 | .c e,b=>bif b then (e.li,[]) else ([],[])
 | .a x y,b=>pL (x.li b) (y.li b)
 | .s x y,b=>pL (x.li b) (y.li (!b))
 | .g x,b=>x.li (!b)
 | .m n x,b=>(sL n (x.li b).1,sL n (x.li b).2)
noncomputable def dtI:List Int → List Nat → Int
 | x :: c,y :: l=>x * (y:Int) + dtI c l
 | [],_=>0
 | _,[]=>0
noncomputable def dI (c:List Nat) (d:List Int) (u:List Nat × List Nat):Int:=((dt (1 :: c) u.1:Nat):Int) + dtI d u.2
theorem Zl6 (p q r s:Int):p + q + (r + s) = p + r + (q + s):=by omega
theorem ZbA:∀ c,dtI c [] = 0
 | []=>rfl
 | _ :: _=>rfl
theorem ZjB:∀ c l r,dtI c (aL l r) = dtI c l + dtI c r
 | c,[],r=>by rw [ZbA,Int.zero_add]; rfl
 | c,x :: l,[]=>by rw [ZbA,Int.add_zero]; rfl
 | [],x :: l,y :: r=>rfl
 | z :: c,x :: l,y :: r=>by
  show z * ((x + y:Nat):Int) + dtI c (aL l r) = (z * x + dtI c l) + (z * y + dtI c r)
  rw [ZjB c l r,Int.natCast_add,Int.mul_add]; exact Zl6 _ _ _ _
theorem ZjR (n:Nat):∀ c l,dtI c (sL n l) = Int.ofNat n * dtI c l
 | c,[]=>by rw [ZbA,Int.mul_zero]; exact ZbA c
 | [],x :: l=>(Int.mul_zero _).symm
 | z :: c,x :: l=>by
  show z * ((n * x:Nat):Int) + dtI c (sL n l) = Int.ofNat n * (z * x + dtI c l)
  rw [ZjR n c l,Int.mul_add,Int.natCast_mul,Int.mul_left_comm]; rfl
theorem Zkn:∀ c i,dtI c (uL i) = ZjW c i
 | [],0=>rfl
 | [],_ + 1=>rfl
 | x :: c,0=>by show x * 1 + dtI c [] = x; rw [ZbA,Int.mul_one,Int.add_zero]
 | x :: c,n + 1=>by show x * 0 + dtI c (uL n) = ZjW c n; rw [Zkn c n,Int.mul_zero,Int.zero_add]
section
variable (c:List Nat) (d:List Int)
theorem Zcl (u w:List Nat × List Nat):dI c d (pL u w) = dI c d u + dI c d w:=by
 show ((dt (1 :: c) (aL u.1 w.1):Nat):Int) + dtI d (aL u.2 w.2) = _
 rw [ZdF,ZjB,Int.natCast_add]; exact Zl6 _ _ _ _
theorem Zil (n:Nat) (u:List Nat × List Nat):dI c d (sL n u.1,sL n u.2) = Int.ofNat n * dI c d u:=by
 show ((dt (1 :: c) (sL n u.1):Nat):Int) + dtI d (sL n u.2) = _
 rw [Zg8,ZjR,Int.natCast_mul]; exact (Int.mul_add _ _ _).symm
theorem ZmD:dI c d ([],[]) = 0:=by
 show ((dt (1 :: c) []:Nat):Int) + dtI d [] = 0
 rw [Zci,ZbA]; rfl
theorem Zmg (p q r s:Int):p - q + (r - s) = p + r - (q + s):=by omega
theorem Zki (p q r s:Int):p - q - (r - s) = p + s - (q + r):=by omega
theorem AI.li_ev:∀ e:AI,e.ev c d = dI c d (e.li true) - dI c d (e.li false)
 | .v i=>by show ZjW d i = dI c d ([],uL i) - dI c d ([],[]); rw [ZmD,Int.sub_zero]; show _ = ((dt (1 :: c) []:Nat):Int) + dtI d (uL i); rw [Zci,Zkn]; exact (Int.zero_add _).symm
 | .k n=>by show Int.ofNat n = dI c d ([n],[]) - dI c d ([],[]); rw [ZmD,Int.sub_zero]; show _ = ((dt (1 :: c) [n]:Nat):Int) + dtI d []; rw [ZbA,Int.add_zero]; show _ = ((1 * n + dt c []:Nat):Int); rw [Zci,Nat.one_mul]; rfl
 | .c e=>by show ((e.ev c:Nat):Int) = dI c d (e.li,[]) - dI c d ([],[]); rw [ZmD,Int.sub_zero]; show _ = ((dt (1 :: c) e.li:Nat):Int) + dtI d []; rw [ZbA,Int.add_zero,e.li_ev]
 | .a x y=>by show x.ev c d + y.ev c d = dI c d (pL (x.li true) (y.li true)) - dI c d (pL (x.li false) (y.li false)); rw [Zcl,Zcl,x.li_ev,y.li_ev]; exact Zmg _ _ _ _
 | .s x y=>by show x.ev c d - y.ev c d = dI c d (pL (x.li true) (y.li false)) - dI c d (pL (x.li false) (y.li true)); rw [Zcl,Zcl,x.li_ev,y.li_ev]; exact Zki _ _ _ _
 | .g x=>by show -x.ev c d = dI c d (x.li false) - dI c d (x.li true); rw [x.li_ev]; exact Int.neg_sub _ _
 | .m n x=>by show Int.ofNat n * x.ev c d = dI c d (sL n (x.li true).1,sL n (x.li true).2) - dI c d (sL n (x.li false).1,sL n (x.li false).2); rw [Zil,Zil,x.li_ev]; exact Int.mul_sub _ _ _
noncomputable def cI (x y:AI):List Nat × List Nat:=pL (x.li true) (y.li false)
noncomputable def Zho (u:List Nat × List Nat):List Nat × List Nat:=(aL [1] u.1,u.2)
theorem Zgx (u:List Nat × List Nat):dI c d (Zho u) = dI c d u + 1:=by
 show ((dt (1 :: c) (aL [1] u.1):Nat):Int) + dtI d u.2 = ((dt (1 :: c) u.1:Nat):Int) + dtI d u.2 + 1
 rw [ZeX,Int.natCast_add,Int.add_right_comm]; rfl
theorem Zgk (x y:AI):dI c d (cI x y) - dI c d (cI y x) = x.ev c d - y.ev c d:=by
 unfold cI
 rw [Zcl,Zcl,x.li_ev,y.li_ev,Zki,Int.add_comm (dI c d (y.li true))]
theorem Zio {x y:AI} (h:x.ev c d ≤ y.ev c d):dI c d (cI x y) ≤ dI c d (cI y x):=by
 have:=Zgk c d x y; omega
theorem ZoV {x y:AI} (h:dI c d (cI x y) ≤ dI c d (cI y x)):x.ev c d ≤ y.ev c d:=by
 have:=Zgk c d x y; omega
noncomputable def ZoH:Nat → Int → Int → Prop
 | 0,x,y=>x ≤ y
 | 1,x,y=>x < y
 | 2,x,y=>x = y
 | 3,x,y=>x = y
 | 4,x,y=>¬ x ≤ y
 | 5,x,y=>¬ x < y
 | _,_,_=>False
noncomputable def loI:Nat → AI → AI → List Nat × List Nat
 | 0,x,y=>cI x y
 | 1,x,y=>Zho (cI x y)
 | 2,x,y=>cI x y
 | 4,x,y=>Zho (cI y x)
 | _,x,y=>cI y x
noncomputable def hiI:Nat → AI → AI → List Nat × List Nat
 | 0,x,y=>cI y x
 | 1,x,y=>cI y x
 | 2,x,y=>cI y x
 | _,x,y=>cI x y
theorem ZlZ {x y:AI} (h:x.ev c d < y.ev c d):dI c d (Zho (cI x y)) ≤ dI c d (cI y x):=by
 have:=Zgk c d x y; rw [Zgx]; omega
theorem Zmr (x y:AI):∀ r,ZoH r (x.ev c d) (y.ev c d) → dI c d (loI r x y) ≤ dI c d (hiI r x y)
 | 0,h=>Zio c d h
 | 1,h=>ZlZ c d h
 | 2,h=>Zio c d (Int.le_of_eq h)
 | 3,h=>Zio c d (Int.le_of_eq h.symm)
 | 4,h=>ZlZ c d (Int.not_le.1 h)
 | 5,h=>Zio c d (Int.not_lt.1 h)
 | _ + 6,h=>h.elim
end
noncomputable def rdI:Nat → Nat → AI × Nat
 | 0,s=>(.k 0,s)
 | f + 1,s=>bif Nat.ble (s % 16) 7 then (.v (s % 16),s / 16) else bif Nat.beq (s % 16) 8 then (.c (rdE 9 (s / 16)).1,(rdE 9 (s / 16)).2)
  else bif Nat.beq (s % 16) 9 then (.g (rdI f (s / 16)).1,(rdI f (s / 16)).2) else bif Nat.beq (s % 16) 10 then (.k 1,s / 16)
  else bif Nat.beq (s % 16) 11 then (.k (s / 256 % 16 ^ (s / 16 % 16)),s / 256 / 16 ^ (s / 16 % 16))
  else bif Nat.beq (s % 16) 12 then (.a (rdI f (s / 16)).1 (rdI f (rdI f (s / 16)).2).1,(rdI f (rdI f (s / 16)).2).2)
  else bif Nat.beq (s % 16) 13 then (.m (s / 16 % 256) (rdI f (s / 4096)).1,(rdI f (s / 4096)).2)
  else bif Nat.beq (s % 16) 14 then (.k 0,s / 16) else (.s (rdI f (s / 16)).1 (rdI f (rdI f (s / 16)).2).1,(rdI f (rdI f (s / 16)).2).2)
noncomputable def hP (c:List Nat) (d:List Int) (r s:Nat):Prop:=bif Nat.ble 8 r then ZoH (r - 8) ((rdI 9 s).1.ev c d) ((rdI 9 (rdI 9 s).2).1.ev c d) else Zjp r ((rdE 9 s).1.ev c) ((rdE 9 (rdE 9 s).2).1.ev c)
noncomputable def hR (r s:Nat):Nat:=bif Nat.ble 8 r then (rdI 9 (rdI 9 s).2).2 else (rdE 9 (rdE 9 s).2).2
noncomputable def hL (r s:Nat):List Nat × List Nat:=bif Nat.ble 8 r then loI (r - 8) (rdI 9 s).1 (rdI 9 (rdI 9 s).2).1 else (loN r (rdE 9 s).1 (rdE 9 (rdE 9 s).2).1,[])
noncomputable def hH (r s:Nat):List Nat × List Nat:=bif Nat.ble 8 r then hiI (r - 8) (rdI 9 s).1 (rdI 9 (rdI 9 s).2).1 else (hiN r (rdE 9 s).1 (rdE 9 (rdE 9 s).2).1,[])
theorem Zov (c:List Nat) (d:List Int) (r s:Nat) (h:hP c d r s):dI c d (hL r s) ≤ dI c d (hH r s):=by
 unfold hP at h
 unfold hL hH
 cases e:Nat.ble 8 r <;> rw [e] at h
 ·exact Int.add_le_add_right (Int.ofNat_le.2 (Zkr c _ _ _ h)) _
 ·exact Zmr c d _ _ _ h
noncomputable def zL:List Nat → Bool
 | []=>true
 | x :: l=>Nat.beq x 0 && zL l
noncomputable def eqL:List Nat → List Nat → Bool
 | [],r=>zL r
 | x :: l,[]=>Nat.beq x 0 && zL l
 | x :: l,y :: r=>Nat.beq x y && eqL l r
theorem Zkh:∀ c l,zL l = true → dtI c l = 0
 | c,[],_=>ZbA c
 | [],x :: l,_=>rfl
 | z :: c,x :: l,h=>by
  have h:=(Bool.and_eq_true _ _).mp h
  show z * (x:Int) + dtI c l = 0
  rw [Nat.eq_of_beq_eq_true h.1,Zkh c l h.2,Int.add_zero]; exact Int.mul_zero z
theorem Zjq:∀ c l r,eqL l r = true → dtI c l = dtI c r
 | c,[],r,h=>(ZbA c).trans (Zkh c r h).symm
 | c,x :: l,[],h=>(Zkh c (x :: l) h).trans (ZbA c).symm
 | [],x :: l,y :: r,_=>rfl
 | z :: c,x :: l,y :: r,h=>by
  have h:=(Bool.and_eq_true _ _).mp h
  show z * (x:Int) + dtI c l = z * (y:Int) + dtI c r
  rw [Nat.eq_of_beq_eq_true h.1,Zjq c l r h.2]
noncomputable def leP (u w:List Nat × List Nat):Bool:=leL u.1 w.1 && eqL u.2 w.2
theorem Ze4 (c:List Nat) (d:List Int) {u w:List Nat × List Nat} (h:leP u w = true):dI c d u ≤ dI c d w:=by
 have h:=(Bool.and_eq_true _ _).mp h
 exact Int.add_le_add (Int.ofNat_le.2 (Zek _ _ _ h.1)) (Int.le_of_eq (Zjq d _ _ h.2))
noncomputable def Zmv (c:List Nat) (d:List Int):Nat → Nat → Prop
 | 0,s=>hP c d (s % 16) (s / 16)
 | n + 1,s=>hP c d (s / 16 % 16) (s / 256) → Zmv c d n (hR (s / 16 % 16) (s / 256))
noncomputable def gI (r s:Nat) (L R:List Nat × List Nat):Bool:=bif Nat.beq r 0 then leP (pL R ((rdE 9 s).1.li,[])) (pL L ((rdE 9 (rdE 9 s).2).1.li,[]))
 else bif Nat.beq r 1 then leP (Zho (pL R ((rdE 9 s).1.li,[]))) (pL L ((rdE 9 (rdE 9 s).2).1.li,[]))
 else bif Nat.beq r 8 then leP (pL R (cI (rdI 9 s).1 (rdI 9 (rdI 9 s).2).1)) (pL L (cI (rdI 9 (rdI 9 s).2).1 (rdI 9 s).1))
 else bif Nat.beq r 9 then leP (Zho (pL R (cI (rdI 9 s).1 (rdI 9 (rdI 9 s).2).1))) (pL L (cI (rdI 9 (rdI 9 s).2).1 (rdI 9 s).1))
 else leP (Zho R) L
noncomputable def chI:Nat → Nat → List Nat × List Nat → List Nat × List Nat → Bool
 | 0,s,L,R=>gI (s % 16) (s / 16) L R
 | n + 1,s,L,R=>chI n (hR (s / 16 % 16) (s / 256)) (pL L (sL (s % 16) (hL (s / 16 % 16) (s / 256)).1,sL (s % 16) (hL (s / 16 % 16) (s / 256)).2)) (pL R (sL (s % 16) (hH (s / 16 % 16) (s / 256)).1,sL (s % 16) (hH (s / 16 % 16) (s / 256)).2))
theorem Zie (c:List Nat) (d:List Int) (e:AE):dI c d (e.li,[]) = ((e.ev c:Nat):Int):=by
 show ((dt (1 :: c) e.li:Nat):Int) + dtI d [] = _
 rw [ZbA,Int.add_zero,e.li_ev]
theorem ZjO {a b l r:Int} (h:l ≤ r) (e:r + a ≤ l + b):a ≤ b:=by omega
theorem Zjx {a b l r:Int} (h:l ≤ r) (e:r + a + 1 ≤ l + b):a < b:=by omega
theorem Zm2 {l r:Int} (h:l ≤ r) (e:r + 1 ≤ l):False:=by omega
theorem Zoc (c:List Nat) (d:List Int) (r s:Nat) (L R:List Nat × List Nat) (h:dI c d L ≤ dI c d R) (k:gI r s L R = true):hP c d r s:=by
 unfold gI at k
 cases e0:Nat.beq r 0 with
 | true=>
  rw [Nat.eq_of_beq_eq_true e0] at k ⊢
  have e:=Ze4 c d k
  rw [Zcl,Zcl,Zie,Zie] at e
  exact Int.ofNat_le.1 (ZjO h e)
 | false=>
  cases e1:Nat.beq r 1 with
  | true=>
   rw [Nat.eq_of_beq_eq_true e1] at k ⊢
   have e:=Ze4 c d k
   rw [Zgx,Zcl,Zcl,Zie,Zie] at e
   exact Int.ofNat_lt.1 (Zjx h e)
  | false=>
   cases e8:Nat.beq r 8 with
   | true=>
    rw [Nat.eq_of_beq_eq_true e8] at k ⊢
    have e:=Ze4 c d k
    rw [Zcl,Zcl] at e
    exact ZoV c d (ZjO h e)
   | false=>
    cases e9:Nat.beq r 9 with
    | true=>
     rw [Nat.eq_of_beq_eq_true e9] at k ⊢
     have e:=Ze4 c d k
     rw [Zgx,Zcl,Zcl] at e
     have z:=Zjx h e
     have y:=Zgk c d (rdI 9 s).1 (rdI 9 (rdI 9 s).2).1
     show (rdI 9 s).1.ev c d < (rdI 9 (rdI 9 s).2).1.ev c d
     exact Int.lt_of_sub_neg (y ▸ Int.sub_neg_of_lt z)
    | false=>
     rw [e0,e1,e8,e9] at k
     have e:=Ze4 c d k
     rw [Zgx] at e
     exact (Zm2 h e).elim
theorem arI (c:List Nat) (d:List Int):∀ (n s:Nat) (L R:List Nat × List Nat),dI c d L ≤ dI c d R → chI n s L R = true → Zmv c d n s
 | 0,s,L,R,h,k=>Zoc c d _ _ L R h k
 | n + 1,s,L,R,h,k=>fun g=>arI c d n _ _ _ (by
   rw [Zcl,Zcl,Zil,Zil]; exact Int.add_le_add h (Int.mul_le_mul_of_nonneg_left (Zov c d _ _ g) (Int.natCast_nonneg _))) k
end L3
theorem iN (c:List Nat) (d:List Int) (n s:Nat) (h:L3.chI n s ([],[]) ([],[]) = true):L3.Zmv c d n s:=L3.arI c d n s ([],[]) ([],[]) (Int.le_refl _) h
set_option Elab.async false
set_option linter.all false
set_option maxRecDepth 100000
namespace L2
open PySem PySem.Spec PyProof.Rows
noncomputable abbrev Key:=Sum Int Str
noncomputable def ZfN:Key → Value → Bool
 | .inl k,v=>Value.isInt k v
 | .inr x,v=>Value.isStrOf x v
noncomputable def Zpl (w:World):Key → Int
 | .inl k=>hashInt k
 | .inr x=>hashStr w x
theorem ZaT:∀ {k:Key} {v:Value},ZfN k v = true → (∃ i t,k = Sum.inl i ∧ v = Value.int i t) ∨ (∃ x t,k = Sum.inr x ∧ v = Value.str x t)
 | .inl i,v,h=>by
  obtain ⟨t,e⟩:=Value.isInt_shape (k:=i) (v:=v) h
  exact .inl ⟨i,t,rfl,e⟩
 | .inr x,v,h=>by
  obtain ⟨t,e⟩:=Value.isStrOf_shape (x:=x) (v:=v) h
  exact .inr ⟨x,t,rfl,e⟩
theorem ZiZ (i:Int) (t:Tok):ZfN (.inl i) (.int i t) = true:=by simp [ZfN,Value.isInt]
theorem ZiT (x:Str) (t:Tok):ZfN (.inr x) (.str x t) = true:=by simp [ZfN,Value.isStrOf]
theorem Zms (a b:Int):decide ((Sum.inl a:Key) = Sum.inl b) = (a == b):=by
 by_cases e:a = b
 ·subst e; simp
 ·have h:¬ (Sum.inl a:Key) = Sum.inl b:=fun q=>e (Sum.inl.inj q)
  rw [decide_eq_false h]
  exact (beq_eq_false_iff_ne.mpr e).symm
theorem Zns (a b:Str):decide ((Sum.inr a:Key) = Sum.inr b) = decide (a = b):=by
 by_cases e:a = b
 ·subst e; simp
 ·have h:¬ (Sum.inr a:Key) = Sum.inr b:=fun q=>e (Sum.inr.inj q)
  rw [decide_eq_false h,decide_eq_false e]
theorem Znm (a:Int) (b:Str):decide ((Sum.inl a:Key) = Sum.inr b) = false:=decide_eq_false (fun q=>nomatch q)
theorem ZmO (a:Str) (b:Int):decide ((Sum.inr a:Key) = Sum.inl b) = false:=decide_eq_false (fun q=>nomatch q)
noncomputable def Za8 (prog:Program) (w:World):PySem.KeyKind prog w Key where
 is:=ZfN
 hash:=Zpl w
 inj:=fun v a b ha hb=>by
  rcases ZaT ha with ⟨i,t,rfl,rfl⟩ | ⟨x,t,rfl,rfl⟩
  ·rcases ZaT hb with ⟨j,u,rfl,e⟩ | ⟨y,u,rfl,e⟩
   ·injection e with e1 _; rw [e1]
   ·exact nomatch e
  ·rcases ZaT hb with ⟨j,u,rfl,e⟩ | ⟨y,u,rfl,e⟩
   ·exact nomatch e
   ·injection e with e1 _; rw [e1]
 byValue:=fun k v h=>by
  rcases ZaT h with ⟨i,t,rfl,rfl⟩ | ⟨x,t,rfl,rfl⟩ <;> rfl
 pyHash:=fun hv h=>by
  rcases ZaT hv with ⟨i,t,rfl,rfl⟩ | ⟨x,t,rfl,rfl⟩
  ·exact wpAny_pyHash_int h
  ·exact wpAny_pyHash_str h
 eqBool:=fun hu hv h=>by
  rcases ZaT hu with ⟨i,t,rfl,rfl⟩ | ⟨x,t,rfl,rfl⟩
  ·rcases ZaT hv with ⟨j,u,rfl,rfl⟩ | ⟨y,u,rfl,rfl⟩
   ·rw [Zms] at h; exact wpAny_eqBool_int h
   ·rw [Znm] at h; exact SeqAt.EqAt.int_str i t y u _ _ _ _ h
  ·rcases ZaT hv with ⟨j,u,rfl,rfl⟩ | ⟨y,u,rfl,rfl⟩
   ·rw [ZmO] at h; exact SeqAt.EqAt.str_int x t j u _ _ _ _ h
   ·rw [Zns] at h; exact wpAny_eqBool_str h
 «strs»:=fun k x t v h=>by
  rcases ZaT h with ⟨i,u,rfl,e⟩ | ⟨y,u,rfl,e⟩
  ·exact nomatch e
  ·injection e with e1 _
   subst e1
   cases v <;> rfl
theorem ZgV (prog:Program) (w:World) (i:Int) (t:Tok):(Za8 prog w).is (.inl i) (.int i t) = true:=ZiZ i t
theorem ZgX (prog:Program) (w:World) (x:Str) (t:Tok):(Za8 prog w).is (.inr x) (.str x t) = true:=ZiT x t
end L2
namespace L2
open PySem PySem.Spec PyProof.Rows
inductive V where
 | non | bl (b:Bool) | int (i:Int) | str (x:Str) | byt (b:Array UInt8) | flt (b:UInt64) | ref (a:Addr) | ty (n:String)
 deriving DecidableEq
noncomputable def RelV:V → Value → Prop
 | .non,u=>u = Value.none
 | .bl b,u=>u = Value.bool b
 | .int i,u=>∃ t,u = Value.int i t
 | .str x,u=>∃ t,u = Value.str x t
 | .byt b,u=>∃ t,u = Value.bytes b t
 | .flt b,u=>∃ t,u = Value.float b t
 | .ref a,u=>u = Value.ref a
 | .ty n,u=>u = Value.type n
noncomputable abbrev Vals:List V → List Value → Prop:=Paired RelV
theorem Vals.length {xs:List V} {us:List Value} (r:Vals xs us):xs.length = us.length:=Paired.length r
theorem Vals.get:∀ {xs:List V} {us:List Value} {i:Nat} {x:V},Vals xs us → xs[i]? = some x → ∃ u,us[i]? = some u ∧ RelV x u
 | _,_,_,_,.nil,e=>by simp at e
 | _,_,0,_,.cons r _,e=>by simp at e; subst e; exact ⟨_,rfl,r⟩
 | _,_,i + 1,x,.cons _ t,e=>by
  obtain ⟨u,h1,h2⟩:=Vals.get (i:=i) (x:=x) t (by simpa using e)
  exact ⟨u,by simpa using h1,h2⟩
theorem Vals.set {x:V} {u:Value} (r:RelV x u):∀ {xs:List V} {us:List Value} (i:Nat),Vals xs us → Vals (xs.set i x) (us.set i u)
 | _,_,_,.nil=>.nil
 | _,_,0,.cons _ t=>.cons r t
 | _,_,i + 1,.cons q t=>.cons q (Vals.set r i t)
theorem Vals.append:∀ {xs ys:List V} {us ws:List Value},Vals xs us → Vals ys ws → Vals (xs ++ ys) (us ++ ws)
 | _,_,_,_,.nil,s=>s
 | _,_,_,_,.cons r t,s=>.cons r (Vals.append t s)
theorem Vals.take:∀ {xs:List V} {us:List Value} (n:Nat),Vals xs us → Vals (xs.take n) (us.take n)
 | _,_,0,_=>.nil
 | _,_,_ + 1,.nil=>.nil
 | _,_,n + 1,.cons r t=>.cons r (Vals.take n t)
theorem Vals.drop:∀ {xs:List V} {us:List Value} (n:Nat),Vals xs us → Vals (xs.drop n) (us.drop n)
 | _,_,0,r=>r
 | _,_,_ + 1,.nil=>.nil
 | _,_,n + 1,.cons _ t=>Vals.drop n t
noncomputable def Zew:Option V → Option Value → Prop
 | some v,some u=>RelV v u
 | none,none=>True
 | _,_=>False
noncomputable def KV {κ:Type}:List (κ × V) → List (κ × Value) → Prop:=Paired fun (p:κ × V) (q:κ × Value)=>p.1 = q.1 ∧ RelV p.2 q.2
noncomputable def kV:Key → V
 | .inl i=>.int i
 | .inr x=>.str x
inductive HO where
 /-- a list -/
 | lst (xs:List V)
 /-- a tuple (never changes) -/
 | tup (xs:List V)
 /-- a dict whose keys are ints and texts; one whose keys are tuples of ints and texts (the empty one is both) -/
 | dK (kvs:List (Key × V)) | dT (kvs:List (List Key × V))
 /-- a set of ints: its members,its size -/
 | set (S:Int → Bool) (n:Nat)
 /-- an instance of the class at C,its dict at dx,its attributes -/
 | ins (C dx:Addr) (fs:List (Str × V))
 /-- the dict of the instance at x -/
 | own (x:Addr)
 /-- the dict of an exception -/
 | xd (fs:List (Str × V))
 /-- a bound method,f of x -/
 | met (f x:Addr)
 /-- a range object lo,lo + 1,.. below hi -/
 | rng (lo hi:Int)
 /-- a thing that is known to the object (the script; a dict while a loop walks it): read,never written while it is so -/
 | frz (o:Obj) (u:HO)
 /-- a code object's table -/
 | tbl (ps:Array Value)
 /-- any other thing,by what is true of its one object (a def of one's own: SetO a S n:=HO.ext fun h=>..) -/
 | ext (φ:Heap → Prop)
noncomputable abbrev Hp:=Addr → Option HO
noncomputable def upd (H:Hp) (a:Addr) (o:HO):Hp:=fun b=>if b = a then some o else H b
theorem Zcd {H:Hp} {a:Addr} {o:HO}:upd H a o a = some o:=by unfold upd; rw [if_pos rfl]
theorem ZaG {H:Hp} {a b:Addr} {o:HO} (h:b ≠ a):upd H a o b = H b:=by unfold upd; rw [if_neg h]
theorem Zcv {H:Hp} {a b:Addr} {o:HO} (h:H a = some o) (h':H b = none):a ≠ b:=by
 intro e; subst e; rw [h] at h'; cases h'
section
variable (P:Program) (w:World)
noncomputable def ZcL (h:Heap) (a:Addr) (items:Array Value):Prop:=∃ o,h.get? a = some o ∧ (o.cls = .type "tuple" ∧ o.dict = none) ∧ ∃ n,o.data = .seq items n
theorem ZcL.tup {h:Heap} {a:Addr} {items:Array Value} (x:ZcL h a items):IsTup h a items:=let ⟨o,e,c,d⟩:=x; ⟨o,e,c.1,d⟩
theorem ZcL.new (h:Heap) (items:Array Value):ZcL (h.push { cls:=.type "tuple",data:=.seq items }) h.objs.size items:=⟨_,Heap.get?_push_size _ rfl,⟨rfl,rfl⟩,0,rfl⟩
noncomputable def ZaP (H:Hp) (h:Heap) (a:Addr):HO → Prop
 | .lst xs=>xs.length ≤ sizeLine ∧ ∃ (its:List Value) (n:Nat),Vals xs its ∧ h.get? a = some { cls:=.type "list",data:=.seq its.toArray n }
 | .tup xs=>xs.length ≤ sizeLine ∧ ∃ its:List Value,Vals xs its ∧ ZcL h a its.toArray
 | .dK kvs=>kvs.length ≤ sizeLine ∧ (a == sysModules) = false ∧ ∃ vs,KV kvs vs ∧ h.DictOf (Za8 P w) a vs
 | .dT kvs=>kvs.length ≤ sizeLine ∧ (a == sysModules) = false ∧ ∃ xs:List (List Key × Addr × Value),
   Paired (fun (p:List Key × V) (q:List Key × Addr × Value)=>p.1 = q.1 ∧ H q.2.1 = some (.tup (p.1.map kV)) ∧ RelV p.2 q.2.2) kvs xs ∧
   ∃ o es ep,h.get? a = some o ∧ o.ExactDict ∧ o.data = .dict es ep ∧ es.toList = xs.map (entryOfKey (tupleKind (Za8 P w))) ∧ (xs.map (·.1)).Nodup
 | .set S n=>h.SetOf (intKind P w) a S n
 | .ins C dx fs=>H dx = some (.own a) ∧ fs.length ≤ 1000 ∧ dx ≠ a ∧ h.get? a = some (PySem.W.instObj C dx) ∧
   ∃ mA,h.Ns1 dx mA ∧ (∀ f,Zew (fs.lookup f) (mA f)) ∧ PySem.Within mA (fs.map (·.1))
 | .own _=>∃ o,h.get? a = some o
 | .xd fs=>∃ mA,h.Ns1 a mA ∧ ∀ f,Zew (fs.lookup f) (mA f)
 | .rng lo hi=>∃ t u v,h.get? a = some { cls:=.type "range",data:=.fields #[.int lo t,.int hi u,.int 1 v] }
 | .frz o u=>h.get? a = some o ∧ ZaP H h a u
 | .tbl ps=>h.get? a = some { cls:=.none,data:=.fields ps }
 | .met f x=>h.get? a = some (PySem.W.methodObj (.ref f) (.ref x))
 | .ext φ=>φ h ∧ (∃ o,h.get? a = some o) ∧ ∀ h1 h2:Heap,φ h1 → (∀ o,h1.get? a = some o → h2.get? a = some o) → φ h2
noncomputable def HOk (H:Hp) (h:Heap):Prop:=∀ a o,H a = some o → ZaP P w H h a o
end
section
variable {P:Program} {w:World} {H H':Hp} {h h':Heap} {a:Addr} {o:HO}
theorem ZaP.lt (x:ZaP P w H h a o):a < h.objs.size:=by
 cases o with
 | lst xs=>obtain ⟨_,_,_,_,e⟩:=x; exact Heap.lt_size e
 | tup xs=>obtain ⟨_,_,_,p⟩:=x; exact p.tup.lt
 | dK kvs=>obtain ⟨_,_,_,_,o,_,_,e,_⟩:=x; exact Heap.lt_size e
 | dT kvs=>obtain ⟨_,_,_,_,o,_,_,e,_⟩:=x; exact Heap.lt_size e
 | set S n=>obtain ⟨o,_,_,_,e,_⟩:=x; exact Heap.lt_size e
 | ins C dx fs=>obtain ⟨_,_,_,e,_⟩:=x; exact Heap.lt_size e
 | own y=>obtain ⟨_,e⟩:=x; exact Heap.lt_size e
 | xd fs=>obtain ⟨_,⟨_,_,_,e,_⟩,_⟩:=x; exact Heap.lt_size e
 | rng lo hi=>obtain ⟨_,_,_,e⟩:=x; exact Heap.lt_size e
 | frz ob u=>obtain ⟨e,_⟩:=x; exact Heap.lt_size e
 | tbl ps=>exact Heap.lt_size (show h.get? a = some _ from x)
 | met f y=>exact Heap.lt_size (show h.get? a = some _ from x)
 | ext φ=>obtain ⟨_,⟨_,e⟩,_⟩:=x; exact Heap.lt_size e
theorem Paired.mapP {α β:Type} {F G:α → β → Prop}:∀ {l₁:List α} {l₂:List β},Paired F l₁ l₂ → (∀ a b,F a b → G a b) → Paired G l₁ l₂
 | _,_,.nil,_=>.nil
 | _,_,.cons r t,f=>.cons (f _ _ r) (Paired.mapP t f)
theorem ZaP.stay (x:ZaP P w H h a o) (k:∀ b u,(b = a ∨ H b = some (.own a)) → h.get? b = some u → h'.get? b = some u)
  (ho:∀ b,H b = some (.own a) → H' b = some (.own a)) (ht:∀ b xs,H b = some (.tup xs) → H' b = some (.tup xs)):ZaP P w H' h' a o:=by
 induction o with
 | lst xs=>obtain ⟨z,its,n,r,e⟩:=x; exact ⟨z,its,n,r,k _ _ (.inl rfl) e⟩
 | tup xs=>obtain ⟨z,its,r,ob,e,c⟩:=x; exact ⟨z,its,r,ob,k _ _ (.inl rfl) e,c⟩
 | dK kvs=>obtain ⟨z,y,vs,r,ob,es,ep,e,c⟩:=x; exact ⟨z,y,vs,r,ob,es,ep,k _ _ (.inl rfl) e,c⟩
 | dT kvs=>
  obtain ⟨z,y,xs,r,ob,es,ep,e,c⟩:=x
  exact ⟨z,y,xs,Paired.mapP r fun p q z=>⟨z.1,ht _ _ z.2.1,z.2.2⟩,ob,es,ep,k _ _ (.inl rfl) e,c⟩
 | set S n=>obtain ⟨ob,es,ep,t,e,c⟩:=x; exact ⟨ob,es,ep,t,k _ _ (.inl rfl) e,c⟩
 | ins C dx fs=>
  obtain ⟨d,z,ne,e,mA,⟨od,es,ep,e2,c⟩,r⟩:=x
  exact ⟨ho _ d,z,ne,k _ _ (.inl rfl) e,mA,⟨od,es,ep,k _ _ (.inr d) e2,c⟩,r⟩
 | own y=>obtain ⟨ob,e⟩:=x; exact ⟨ob,k _ _ (.inl rfl) e⟩
 | xd fs=>obtain ⟨mA,⟨od,es,ep,e,c⟩,r⟩:=x; exact ⟨mA,⟨od,es,ep,k _ _ (.inl rfl) e,c⟩,r⟩
 | rng lo hi=>obtain ⟨t,u,v,e⟩:=x; exact ⟨t,u,v,k _ _ (.inl rfl) e⟩
 | frz ob u ih=>obtain ⟨e,q⟩:=x; exact ⟨k _ _ (.inl rfl) e,ih q⟩
 | tbl ps=>
  have e:h.get? a = some { cls:=.none,data:=.fields ps }:=x
  show h'.get? a = some { cls:=.none,data:=.fields ps }
  exact k a _ (.inl rfl) e
 | met f y=>
  have e:h.get? a = some (PySem.W.methodObj (.ref f) (.ref y)):=x
  show h'.get? a = some (PySem.W.methodObj (.ref f) (.ref y))
  exact k a _ (.inl rfl) e
 | ext φ=>obtain ⟨p,⟨o,e⟩,st⟩:=x; exact ⟨st _ _ p fun o q=>k _ _ (.inl rfl) q,⟨o,k _ _ (.inl rfl) e⟩,st⟩
theorem HOk.lt (x:HOk P w H h) (e:H a = some o):a < h.objs.size:=(x a o e).lt
theorem HOk.fresh (x:HOk P w H h) (e:h.objs.size ≤ a):H a = none:=by
 cases q:H a with
 | none=>rfl
 | some u=>exact absurd (Nat.lt_of_lt_of_le (x.lt q) e) (Nat.lt_irrefl _)
theorem HOk.kept (x:HOk P w H h) (k:∀ b u,h.get? b = some u → h'.get? b = some u):HOk P w H h':=fun a o e=>
 (x a o e).stay (fun b u _ q=>k b u q) (fun _ q=>q) fun _ _ q=>q
theorem HOk.laid (x:HOk P w H h) (k:∀ b u,h.get? b = some u → h'.get? b = some u) (hp:h.objs.size ≤ a) (new:ZaP P w (upd H a o) h' a o):HOk P w (upd H a o) h':=fun b u e=>by
 have hn:=x.fresh hp
 by_cases hb:b = a
 ·subst hb; rw [Zcd] at e; cases e; exact new
 ·rw [ZaG hb] at e
  exact (x b u e).stay (fun c v _ q=>k c v q) (fun c q=>by rw [ZaG (Zcv q hn)]; exact q) fun c xs q=>by rw [ZaG (Zcv q hn)]; exact q
end
noncomputable def Rd (H:Hp) (a:Addr) (u:HO):Prop:=H a = some u ∨ ∃ o,H a = some (.frz o u)
theorem Rd.ok {P:Program} {w:World} {H:Hp} {h:Heap} {a:Addr} {u:HO} (r:Rd H a u) (x:HOk P w H h):ZaP P w H h a u:=by
 rcases r with r | ⟨o,r⟩
 ·exact x a u r
 ·obtain ⟨_,q⟩:=x a _ r
  exact q
noncomputable def Mut:Option HO → Prop
 | some (.lst _)=>True
 | some (.dK _)=>True
 | some (.dT _)=>True
 | some (.set _ _)=>True
 | some (.ins _ _ _)=>True
 | some (.ext _)=>True
 | _=>False
section
variable {P:Program} {w:World} {H:Hp} {h h':Heap} {x e:Addr} {o':HO}
theorem HOk.write (ok:HOk P w H h) (mu:Mut (H x)) (he:e = x ∨ H e = some (.own x)) (k:∀ b u,b ≠ e → h.get? b = some u → h'.get? b = some u) (heo:∃ u,h'.get? e = some u)
  (new:ZaP P w (upd H x o') h' x o'):HOk P w (upd H x o') h':=fun b u q=>by
 have nown:∀ c y,H c = some (.own y) → c ≠ x:=fun c y r z=>by subst z; rw [r] at mu; exact mu
 have ntup:∀ c xs,H c = some (.tup xs) → c ≠ x:=fun c xs r z=>by subst z; rw [r] at mu; exact mu
 by_cases hb:b = x
 ·subst hb; rw [Zcd] at q; cases q; exact new
 ·rw [ZaG hb] at q
  by_cases hbe:b = e
  ·have q':H b = some (.own x):=by
    rcases he with z | z
    ·exact absurd (hbe.trans z) hb
    ·rw [hbe]; exact z
   rw [q] at q'; cases q'
   obtain ⟨v,hv⟩:=heo
   exact ⟨v,by rw [hbe]; exact hv⟩
  ·refine (ok b u q).stay (fun c v hc r=>k c v ?_ r) (fun c r=>by rw [ZaG (nown c b r)]; exact r) fun c xs r=>by rw [ZaG (ntup c xs r)]; exact r
   rcases hc with rfl | hc
   ·exact hbe
   ·rintro rfl
    rcases he with z | z
    ·exact nown c b hc z
    ·rw [hc] at z; cases z; exact hb rfl
end
structure Un (fs ex:List Addr) (H H':Hp) (h h':Heap):Prop where
 keep:∀ b o,h.get? b = some o → H b = none → b ∉ fs → b ∉ ex → h'.get? b = some o
 slot:∀ b o,h.get? b = some o → H b = none → b ∈ fs → b ∉ ex → ∃ sl,h'.get? b = some { o with slots:=sl }
 free:∀ b o,h.get? b = some o → H b = none → b ∉ ex → H' b = none
 there:∀ b o,h.get? b = some o → b ∉ ex → ∃ o',h'.get? b = some o'
 tups:∀ b xs,H b = some (.tup xs) → H' b = some (.tup xs)
 frzs:∀ b o u,H b = some (.frz o u) → H' b = some (.frz o u)
 tbls:∀ b ps,H b = some (.tbl ps) → ∃ more,H' b = some (.tbl (ps ++ more))
section
variable {fs fs' ex ex':List Addr} {H H1 H2:Hp} {h h1 h2 h':Heap} {a x e:Addr} {o:HO}
theorem Un.any (u:Un fs ex H H1 h h1) {b:Addr} {ob:Obj} (q:h.get? b = some ob) (n:H b = none) (hx:b ∉ ex):∃ sl,h1.get? b = some { ob with slots:=sl }:=by
 by_cases hb:b ∈ fs
 ·exact u.slot b ob q n hb hx
 ·exact ⟨ob.slots,u.keep b ob q n hb hx⟩
theorem Un.trans (a:Un fs ex H H1 h h1) (b:Un fs ex H1 H2 h1 h2):Un fs ex H H2 h h2 where
 keep:=fun c ob q n hc hx=>b.keep c ob (a.keep c ob q n hc hx) (a.free c ob q n hx) hc hx
 slot:=fun c ob q n hc hx=>by
  obtain ⟨sl,e1⟩:=a.slot c ob q n hc hx
  obtain ⟨sl',e2⟩:=b.slot c _ e1 (a.free c ob q n hx) hc hx
  exact ⟨sl',e2⟩
 free:=fun c ob q n hx=>by
  obtain ⟨o',e1⟩:=a.there c ob q hx
  exact b.free c o' e1 (a.free c ob q n hx) hx
 there:=fun c ob q hx=>by
  obtain ⟨o',e1⟩:=a.there c ob q hx
  exact b.there c o' e1 hx
 tups:=fun c xs q=>b.tups c xs (a.tups c xs q)
 frzs:=fun c ob xs q=>b.frzs c ob xs (a.frzs c ob xs q)
 tbls:=fun c ps q=>by
  obtain ⟨m1,e1⟩:=a.tbls c ps q
  obtain ⟨m2,e2⟩:=b.tbls c _ e1
  exact ⟨m1 ++ m2,by rw [e2,Array.append_assoc]⟩
theorem Un.kept (k:∀ b u,h.get? b = some u → h'.get? b = some u):Un fs ex H H h h':=
 ⟨fun b ob q _ _ _=>k b ob q,fun b ob q _ _ _=>⟨ob.slots,k b ob q⟩,fun _ _ _ n _=>n,fun b ob q _=>⟨ob,k b ob q⟩,fun _ _ q=>q,fun _ _ _ q=>q,fun _ ps q=>⟨#[],by rw [q]; simp⟩⟩
theorem Un.refl:Un fs ex H H h h:=Un.kept fun _ _ q=>q
theorem Un.laid (k:∀ b u,h.get? b = some u → h'.get? b = some u) (hp:h.objs.size ≤ a) (hn:H a = none):Un fs ex H (upd H a o) h h' where
 keep:=fun b u q _ _ _=>k b u q
 slot:=fun b u q _ _ _=>⟨u.slots,k b u q⟩
 free:=fun b u q n _=>by rw [ZaG (Nat.ne_of_lt (Nat.lt_of_lt_of_le (Heap.lt_size q) hp))]; exact n
 there:=fun b u q _=>⟨u,k b u q⟩
 tups:=fun b xs q=>by rw [ZaG (Zcv q hn)]; exact q
 frzs:=fun b u xs q=>by rw [ZaG (Zcv q hn)]; exact q
 tbls:=fun b ps q=>⟨#[],by rw [ZaG (Zcv q hn),q]; simp⟩
theorem Un.write (mu:Mut (H x)) (he:e = x ∨ H e = some (.own x)) (k:∀ b u,b ≠ e → h.get? b = some u → h'.get? b = some u) (heo:∃ u,h'.get? e = some u):Un fs ex H (upd H x o) h h':=by
 have hx:∀ b,H b = none → b ≠ x:=fun b n z=>by subst z; rw [n] at mu; exact mu
 have hb:∀ b,H b = none → b ≠ e:=fun b n z=>by
  subst z
  rcases he with r | r
  ·exact hx b n r
  ·rw [n] at r; cases r
 have hm:∀ b u,H b = some u → ¬ Mut (some u) → b ≠ x:=fun b u q nm z=>by subst z; rw [q] at mu; exact nm mu
 refine ⟨fun b u q n _ _=>k b u (hb b n) q,fun b u q n _ _=>⟨u.slots,k b u (hb b n) q⟩,fun b u q n _=>by rw [ZaG (hx b n)]; exact n,fun b u q _=>?_,
  fun b xs q=>by rw [ZaG (hm b _ q fun z=>z)]; exact q,fun b u xs q=>by rw [ZaG (hm b _ q fun z=>z)]; exact q,fun b ps q=>⟨#[],by rw [ZaG (hm b _ q fun z=>z),q]; simp⟩⟩
 by_cases hbe:b = e
 ·subst hbe; exact heo
 ·exact ⟨u,k b u hbe q⟩
end
noncomputable def trk (h:Heap) (H:Hp):List Addr:=(List.range h.objs.size).filter fun a=>(H a).isSome
noncomputable def ZfW (h:Heap) (H:Hp):Heap:=PySem.W.hideAll h (trk h H)
theorem Zjb (h:Heap) (H:Hp):(ZfW h H).objs.size = h.objs.size:=PySem.W.hideAll_size _ _
theorem ZkG {h:Heap} {H:Hp} {b:Addr} {o:Obj} (e:h.get? b = some o) (n:H b = none):(ZfW h H).get? b = some o:=
 PySem.W.hideAll_get _ e fun hm=>by
  have q:(H b).isSome = true:=(List.mem_filter.mp hm).2
  rw [n] at q; simp at q
theorem Zlm {h:Heap} {H:Hp} {b:Addr} {o:Obj} (e:(ZfW h H).get? b = some o):h.get? b = some o ∧ H b = none:=by
 have e':h.get? b = some o:=PySem.W.of_hideAll (trk h H) e
 refine ⟨e',?_⟩
 cases q:H b with
 | none=>rfl
 | some x=>
  have hm:b ∈ trk h H:=List.mem_filter.mpr ⟨List.mem_range.mpr (Heap.lt_size e'),by simp [q]⟩
  have z:(ZfW h H).get? b = none:=PySem.W.hideAll_none (trk h H) hm
  rw [z] at e; cases e
noncomputable def ZlA (g h:Heap) (L:Addr):List (Addr × Obj):=(List.range h.objs.size).filterMap fun a=>if a = L ∨ (g.get? a).isSome = true then none else (h.get? a).map fun o=>(a,o)
noncomputable def rest (g h:Heap) (L d:Addr):List (Addr × Obj):=(ZlA g h L).filter fun p=>decide (p.1 ≠ d)
end L2
namespace L2
open PySem PySem.Spec PyProof.Rows
structure Mod (K:PySem.W.Frag) (mg:Str → Option Value) (base:Heap):Prop where
 kin:K.In base
 glob:base.Ns mainGlobals mg
 blt:∃ mb,base.Ns builtinsNs mb ∧ ∀ x:Str,x ≠ "__name__" → mb x = bootBuiltins x
 nolimit:base.NoLimit
/-- the context: a def's body (or a comprehension's block) running. base: fixed through the whole law; s₀,H₀: the entry; outer: the frames whose slots others may change (a def's callers); stack: all frames that run;
  ex: iterators that were made ahead of the entry and are walked here (a comprehension's); fn: the names whose cells were made at the entry (a def: all; a comprehension's block: its own); calm: not within an except suite; pn: pins that every state bears; xe: what is wanted of an exception that leaves the code -/
structure Cx where
 prog:Program
 w:World
 K:PySem.W.Frag
 mg:Str → Option Value
 base:Heap
 A:Around
 N:List Str
 s₀:Shared
 H₀:Hp
 env:Env
 outer:List Env
 stack:List Env
 ex:List Addr
 fn:Str → Bool
 calm:Bool
 pn:List (Addr × Obj)
 xe:Value → Shared → Prop
noncomputable def frs (l:List Env):List Addr:=l.filterMap (·.frame)
noncomputable abbrev Cx.fs (X:Cx):List Addr:=frs X.outer
noncomputable def Vis (sc:Scope) (x:Str):Prop:=sc.names.lookup x = some .local ∨ sc.names.lookup x = some .cell ∨ sc.names.lookup x = some .free
noncomputable def Loc (sc:Scope) (x:Str):Prop:=sc.names.lookup x = some .local ∨ sc.names.lookup x = some .cell
noncomputable def Look (env:Env) (h:Heap) (m:Str → Option Value) (x:Str) (u:Value):Prop:=
 (env.kindOf x = some .local ∧ m x = some u) ∨ ((env.kindOf x = some .cell ∨ env.kindOf x = some .free) ∧ ∃ c,env.cells.lookup x = some c ∧ h.IsCell c (some u))
structure Cx.Ok (X:Cx):Prop where
 mod:Mod X.K X.mg X.base
 kind:X.env.scope.kind = .function
 glob:X.env.globals = mainGlobals
 blt:X.env.builtins = builtinsNs
 above:X.s₀.heap.objs.size ≤ X.env.locals
 inj:∀ x y c,X.env.cells.lookup x = some c → X.env.cells.lookup y = some c → x = y
 has:∀ x,(X.env.kindOf x = some .cell ∨ X.env.kindOf x = some .free) → ∃ c,X.env.cells.lookup x = some c
 cab:∀ x c,X.fn x = true → X.env.cells.lookup x = some c → X.s₀.heap.objs.size ≤ c
 hd:X.calm = true → X.A.handled = none
 frames:X.A.frames = some X.stack
 stk:X.stack = X.outer ∨ (X.stack = X.env :: X.outer ∧ X.env.frame = some X.env.locals)
 exf:∀ b ∈ X.ex,b ≠ X.env.locals ∧ ∀ x c,X.env.cells.lookup x = some c → c ≠ b
 bs:∀ b o,X.base.get? b = some o → X.s₀.heap.get? b = some o ∧ X.H₀ b = none
 bsz:X.base.objs.size ≤ X.s₀.heap.objs.size
 noex:∀ b o,X.base.get? b = some o → b ∉ X.ex
 exfs:∀ b ∈ X.ex,b ∉ X.fs
 funs:X.s₀.heap.FunFrames X.base X.outer
 frf:∀ b ∈ X.fs,X.H₀ b = none
structure Inv (X:Cx) (pins:List (Addr × Obj)) (σ:List (Option V)) (H:Hp) (s:Shared):Prop where
 ok:X.Ok
 os:s.os = X.s₀.os
 bare:AllBare s.gens
 base:Un X.fs X.ex X.H₀ H X.s₀.heap s.heap
 loc:∃ m,s.heap.Ns X.env.locals m ∧ ∀ (i:Nat) (x:Str) (v:V),X.N[i]? = some x → σ[i]? = some (some v) → Vis X.env.scope x → ∃ u,RelV v u ∧ Look X.env s.heap m x u
 cell:∀ x c,X.env.cells.lookup x = some c → ∃ v,s.heap.IsCell c v
 free:H X.env.locals = none
 freeC:∀ x c,X.env.cells.lookup x = some c → H c = none
 pin:∀ p ∈ X.pn ++ pins,s.heap.get? p.1 = some p.2 ∧ H p.1 = none ∧ p.1 ≠ X.env.locals ∧ p.1 ∉ X.fs ∧ ∀ v,p.2.data ≠ .cell v
 hok:HOk X.prog X.w H s.heap
 len:σ.length = X.N.length
section
variable {X:Cx} {pins:List (Addr × Obj)} {σ:List (Option V)} {H H':Hp} {s:Shared} {h':Heap}
theorem Cx.Ok.nofr (ok:X.Ok) {b:Addr} {o:Obj} (e:X.base.get? b = some o):b ∉ X.fs:=fun hb=>by
 have:=(ok.funs.mem hb).1
 rw [e] at this; cases this
theorem Inv.bs (I:Inv X pins σ H s):∀ b o,X.base.get? b = some o → s.heap.get? b = some o ∧ H b = none:=fun b o e=>
 ⟨I.base.keep b o (I.ok.bs b o e).1 (I.ok.bs b o e).2 (I.ok.nofr e) (I.ok.noex b o e),I.base.free b o (I.ok.bs b o e).1 (I.ok.bs b o e).2 (I.ok.noex b o e)⟩
theorem Inv.bk (I:Inv X pins σ H s):∀ b o,X.base.get? b = some o → s.heap.get? b = some o:=fun b o e=>(I.bs b o e).1
theorem Inv.mod (I:Inv X pins σ H s):Mod X.K X.mg X.base:=I.ok.mod
theorem Inv.kIn (I:Inv X pins σ H s):X.K.In s.heap:=I.ok.mod.kin.keeps I.bk
theorem Inv.nolimit (I:Inv X pins σ H s):s.heap.NoLimit:=I.ok.mod.nolimit.keeps I.bk
theorem Inv.lt (I:Inv X pins σ H s):X.env.locals < s.heap.objs.size:=let ⟨_,hn,_⟩:=I.loc; hn.lt
theorem Inv.sz (I:Inv X pins σ H s):X.s₀.heap.objs.size ≤ s.heap.objs.size:=Nat.le_trans I.ok.above (Nat.le_of_lt I.lt)
theorem Inv.nofs (I:Inv X pins σ H s) {a:Addr} (h:s.heap.objs.size ≤ a):a ∉ X.fs:=fun hb=>by
 obtain ⟨_,o,ho,_⟩:=I.ok.funs.mem hb
 exact absurd (Nat.lt_of_lt_of_le (Heap.lt_size ho) (Nat.le_trans I.sz h)) (Nat.lt_irrefl _)
theorem Inv.cne (I:Inv X pins σ H s):∀ x c,X.env.cells.lookup x = some c → c ≠ X.env.locals:=fun x c e z=>by
 obtain ⟨v,o,ho,hd⟩:=I.cell x c e
 obtain ⟨m,⟨o',es,ep,ho',hd',_⟩,_⟩:=I.loc
 rw [z,ho'] at ho; cases ho; rw [hd'] at hd; cases hd
theorem Inv.funs (I:Inv X pins σ H s):s.heap.FunFrames X.base X.outer:=by
 have all:∀ (l:List Env),(∀ b ∈ frs l,b ∈ X.fs) → X.s₀.heap.FunFrames X.base l → s.heap.FunFrames X.base l:=by
  intro l
  induction l with
  | nil=>intro _ _; trivial
  | cons env r ih=>
   intro hs hl
   obtain ⟨hk,⟨L,o,hf,hn,ho,hd⟩,hr⟩:=hl
   have hL:L ∈ X.fs:=hs L (by unfold frs; rw [List.filterMap_cons,hf]; exact List.mem_cons_self)
   obtain ⟨sl,e⟩:=I.base.slot L o ho (I.ok.frf L hL) hL fun z=>I.ok.exfs L z hL
   exact ⟨hk,⟨L,_,hf,hn,e,hd⟩,ih (fun b hb=>hs b (by unfold frs; rw [List.filterMap_cons,hf]; exact List.mem_cons_of_mem _ hb)) hr⟩
 exact all X.outer (fun _ hb=>hb) I.ok.funs
theorem Inv.stack (I:Inv X pins σ H s):s.heap.FunFrames X.base X.stack:=by
 rcases I.ok.stk with e | ⟨e,hf⟩
 ·rw [e]; exact I.funs
 ·rw [e]
  obtain ⟨m,hn,_⟩:=I.loc
  refine .cons (by rw [I.ok.kind]; decide) hf hn ?_ I.funs
  exact Heap.get?_none_of_le (Nat.le_trans I.ok.bsz I.ok.above)
theorem Inv.stkSub (I:Inv X pins σ H s):∀ b ∈ frs X.stack,b ∈ X.env.locals :: X.fs:=fun b hb=>by
 rcases I.ok.stk with e | ⟨e,hf⟩
 ·rw [e] at hb; exact List.mem_cons_of_mem _ hb
 ·rw [e] at hb
  unfold frs at hb
  rw [List.filterMap_cons,hf] at hb
  exact hb
theorem Inv.stkFree (I:Inv X pins σ H s):∀ b ∈ frs X.stack,H b = none:=fun b hb=>by
 rcases List.mem_cons.mp (I.stkSub b hb) with e | hb
 ·rw [e]; exact I.free
 ·obtain ⟨_,o,ho,_⟩:=I.ok.funs.mem hb
  exact I.base.free b o ho (I.ok.frf b hb) fun z=>I.ok.exfs b z hb
theorem Inv.step {g':Array GenState} {t':Nat} {d':Drawn} {ch:List Addr} (I:Inv X pins σ H s)
  (hch:∀ b ∈ ch,(b ∈ X.ex ∨ X.s₀.heap.objs.size ≤ b) ∧ b ≠ X.env.locals ∧ (∀ x c,X.env.cells.lookup x = some c → c ≠ b) ∧ ∀ p ∈ X.pn ++ pins,p.1 ≠ b)
  (keep:∀ b o,b ≠ X.env.locals → b ∉ X.fs → b ∉ ch → s.heap.get? b = some o → H b = none → h'.get? b = some o)
  (slot:∀ b o,b ≠ X.env.locals → b ∈ X.fs → b ∉ ch → s.heap.get? b = some o → H b = none → ∃ sl,h'.get? b = some { o with slots:=sl }) (free:∀ b o,b ∉ ch → s.heap.get? b = some o → H b = none → H' b = none)
  (there:∀ b o,b ∉ ch → s.heap.get? b = some o → ∃ o',h'.get? b = some o')
  (tups:∀ b xs,H b = some (.tup xs) → H' b = some (.tup xs)) (frzs:∀ b o u,H b = some (.frz o u) → H' b = some (.frz o u)) (tbls:∀ b ps,H b = some (.tbl ps) → ∃ more,H' b = some (.tbl (ps ++ more)))
  (ns:∀ m,s.heap.Ns X.env.locals m → h'.Ns X.env.locals m) (hok:HOk X.prog X.w H' h') (hg:AllBare g'):
  Inv X pins σ H' { s with heap:=h',gens:=g',drawn:=d',toks:=t' }:=by
 have neL:∀ b o,X.s₀.heap.get? b = some o → b ≠ X.env.locals:=fun b o e=>Nat.ne_of_lt (Nat.lt_of_lt_of_le (Heap.lt_size e) I.ok.above)
 have neC:∀ b o,X.s₀.heap.get? b = some o → b ∉ X.ex → b ∉ ch:=fun b o e hx hb=>by
  rcases (hch b hb).1 with z | z
  ·exact hx z
  ·exact absurd (Nat.lt_of_lt_of_le (Heap.lt_size e) z) (Nat.lt_irrefl _)
 have cellK:∀ x c,X.env.cells.lookup x = some c → ∀ v,s.heap.IsCell c v → h'.IsCell c v:=fun x c e v zz1=>by
  obtain ⟨o,ho,hd⟩:=zz1
  have nch:c ∉ ch:=fun z=>(hch c z).2.2.1 x c e rfl
  by_cases hc:c ∈ X.fs
  ·obtain ⟨sl,q⟩:=slot c o (I.cne x c e) hc nch ho (I.freeC x c e)
   exact ⟨_,q,hd⟩
  ·exact ⟨o,keep c o (I.cne x c e) hc nch ho (I.freeC x c e),hd⟩
 refine ⟨I.ok,I.os,hg,⟨fun b o e n hb hx=>?_,fun b o e n hb hx=>?_,fun b o e n hx=>?_,fun b o e hx=>?_,fun b xs e=>tups b xs (I.base.tups b xs e),fun b o xs e=>frzs b o xs (I.base.frzs b o xs e),fun b ps e=>?_⟩,?_,fun x c e=>?_,?_,fun x c e=>?_,fun p hp=>?_,hok,I.len⟩
 ·exact keep b o (neL b o e) hb (neC b o e hx) (I.base.keep b o e n hb hx) (I.base.free b o e n hx)
 ·obtain ⟨sl,e1⟩:=I.base.slot b o e n hb hx
  obtain ⟨sl',e2⟩:=slot b _ (neL b o e) hb (neC b o e hx) e1 (I.base.free b o e n hx)
  exact ⟨sl',e2⟩
 ·obtain ⟨o',e1⟩:=I.base.there b o e hx
  exact free b o' (neC b o e hx) e1 (I.base.free b o e n hx)
 ·obtain ⟨o',e1⟩:=I.base.there b o e hx
  exact there b o' (neC b o e hx) e1
 ·obtain ⟨m1,e1⟩:=I.base.tbls b ps e
  obtain ⟨m2,e2⟩:=tbls b _ e1
  exact ⟨m1 ++ m2,by rw [e2,Array.append_assoc]⟩
 ·obtain ⟨m,hn,hl⟩:=I.loc
  refine ⟨m,ns m hn,fun i x v e1 e2 e3=>?_⟩
  obtain ⟨u,r,l⟩:=hl i x v e1 e2 e3
  refine ⟨u,r,?_⟩
  rcases l with l | ⟨k,c,e,z⟩
  ·exact .inl l
  ·exact .inr ⟨k,c,e,cellK x c e _ z⟩
 ·obtain ⟨v,z⟩:=I.cell x c e
  exact ⟨v,cellK x c e v z⟩
 ·obtain ⟨m,⟨o,_,_,ho,_⟩,_⟩:=I.loc
  exact free _ o (fun z=>(hch _ z).2.1 rfl) ho I.free
 ·obtain ⟨v,o,ho,hd⟩:=I.cell x c e
  exact free c o (fun z=>(hch c z).2.2.1 x c e rfl) ho (I.freeC x c e)
 ·obtain ⟨e,n,ne,nf,d⟩:=I.pin p hp
  have nch:p.1 ∉ ch:=fun z=>(hch p.1 z).2.2.2 p hp rfl
  exact ⟨keep p.1 p.2 ne nf nch e n,free p.1 p.2 nch e n,ne,nf,d⟩
theorem Inv.un {t':Nat} (I:Inv X pins σ H s) (u:Un X.fs [] H H' s.heap h') (hok:HOk X.prog X.w H' h'):Inv X pins σ H' { s with heap:=h',toks:=t' }:=by
 obtain ⟨m,⟨o,es,ep,ho,r⟩,_⟩:=id I.loc
 obtain ⟨sl,hL⟩:=u.any ho I.free (by simp)
 exact I.step (g':=s.gens) (d':=s.drawn) (ch:=[]) (fun _ z=>nomatch z) (fun b o _ hb _ e n=>u.keep b o e n hb (by simp)) (fun b o _ hb _ e n=>u.slot b o e n hb (by simp)) (fun b o _ e n=>u.free b o e n (by simp)) (fun b o _ e=>u.there b o e (by simp)) u.tups u.frzs u.tbls (fun m' hm=>by
  obtain ⟨o',es',ep',ho',r'⟩:=hm
  rw [ho] at ho'; cases ho'
  exact ⟨_,es',ep',hL,r'⟩) hok I.bare
theorem Inv.call {g':Array GenState} {t':Nat} {d':Drawn} {ch:List Addr} (I:Inv X pins σ H s) (u:Un (frs X.stack) ch H H' s.heap h') (hok:HOk X.prog X.w H' h') (hg:AllBare g')
  (hch:∀ b ∈ ch,(b ∈ X.ex ∨ X.s₀.heap.objs.size ≤ b) ∧ b ≠ X.env.locals ∧ (∀ x c,X.env.cells.lookup x = some c → c ≠ b) ∧ ∀ p ∈ X.pn ++ pins,p.1 ≠ b):
  Inv X pins σ H' { s with heap:=h',gens:=g',drawn:=d',toks:=t' }:=by
 obtain ⟨m,⟨o,es,ep,ho,r⟩,_⟩:=id I.loc
 obtain ⟨sl,hL⟩:=u.any ho I.free fun z=>(hch _ z).2.1 rfl
 exact I.step (ch:=ch) hch (fun b o hL hb hc e n=>u.keep b o e n (fun z=>(List.mem_cons.mp (I.stkSub b z)).elim hL hb) hc) (fun b o _ _ hc e n=>u.any e n hc) (fun b o hc e n=>u.free b o e n hc) (fun b o hc e=>u.there b o e hc) u.tups u.frzs u.tbls (fun m' hm=>by
  obtain ⟨o',es',ep',ho',r'⟩:=hm
  rw [ho] at ho'; cases ho'
  exact ⟨_,es',ep',hL,r'⟩) hok hg
theorem Inv.turned {t':Nat} {it:Addr} (I:Inv X pins σ H s) (k:∀ b o,b ≠ it → s.heap.get? b = some o → h'.get? b = some o) (hn:H it = none) (hL:it ≠ X.env.locals)
  (h1:it ∈ X.ex ∨ X.s₀.heap.objs.size ≤ it) (h2:∀ x c,X.env.cells.lookup x = some c → c ≠ it) (h3:∀ p ∈ X.pn ++ pins,p.1 ≠ it):Inv X pins σ H { s with heap:=h',toks:=t' }:=by
 have nit:∀ b u,H b = some u → b ≠ it:=fun b u e z=>by rw [z,hn] at e; cases e
 refine I.step (g':=s.gens) (d':=s.drawn) (ch:=[it]) (fun b hb=>?_) (fun b o _ _ hc e _=>k b o (fun z=>hc (by simp [z])) e) (fun b o _ _ hc e _=>⟨o.slots,k b o (fun z=>hc (by simp [z])) e⟩) (fun _ _ _ _ n=>n)
  (fun b o hc e=>⟨o,k b o (fun z=>hc (by simp [z])) e⟩) (fun _ _ e=>e) (fun _ _ _ e=>e) (fun b ps e=>⟨#[],by rw [e]; simp⟩) (fun m hm=>?_) (fun b u e=>?_) I.bare
 ·have e:b = it:=by simpa using hb
  subst e
  exact ⟨h1,hL,h2,h3⟩
 ·obtain ⟨o,es,ep,ho,r⟩:=hm
  exact ⟨o,es,ep,k _ o (Ne.symm hL) ho,r⟩
 ·refine (I.hok b u e).stay (fun c v hc q=>k c v ?_ q) (fun _ q=>q) fun _ _ q=>q
  rcases hc with z | z
  ·rw [z]; exact nit b u e
  ·exact nit c _ z
theorem Inv.tok (I:Inv X pins σ H s) (t:Nat):Inv X pins σ H { s with toks:=t }:=I.un (h':=s.heap) (t':=t) Un.refl I.hok
theorem Inv.kept {t':Nat} (I:Inv X pins σ H s) (k:∀ b u,s.heap.get? b = some u → h'.get? b = some u):Inv X pins σ H { s with heap:=h',toks:=t' }:=I.un (Un.kept k) (I.hok.kept k)
theorem Inv.laid {a:Addr} {o:HO} {t':Nat} (I:Inv X pins σ H s) (k:∀ b u,s.heap.get? b = some u → h'.get? b = some u) (hp:s.heap.objs.size ≤ a) (new:ZaP X.prog X.w (upd H a o) h' a o):
  Inv X pins σ (upd H a o) { s with heap:=h',toks:=t' }:=I.un (Un.laid k hp (I.hok.fresh hp)) (I.hok.laid k hp new)
theorem Inv.write {x e:Addr} {o:HO} {t':Nat} (I:Inv X pins σ H s) (mu:Mut (H x)) (he:e = x ∨ H e = some (.own x)) (k:∀ b u,b ≠ e → s.heap.get? b = some u → h'.get? b = some u) (heo:∃ u,h'.get? e = some u)
  (new:ZaP X.prog X.w (upd H x o) h' x o):Inv X pins σ (upd H x o) { s with heap:=h',toks:=t' }:=I.un (Un.write mu he k heo) (I.hok.write mu he k heo new)
theorem Inv.pins_of {pins':List (Addr × Obj)} (I:Inv X pins σ H s) (h:∀ p ∈ pins',s.heap.get? p.1 = some p.2 ∧ H p.1 = none ∧ p.1 ≠ X.env.locals ∧ p.1 ∉ X.fs ∧ ∀ v,p.2.data ≠ .cell v):Inv X pins' σ H s:=
 ⟨I.ok,I.os,I.bare,I.base,I.loc,I.cell,I.free,I.freeC,fun p hp=>(List.mem_append.mp hp).elim (fun z=>I.pin p (List.mem_append_left _ z)) (h p),I.hok,I.len⟩
theorem Zg1 {N:List Str} (hN:N.Nodup) {i j:Nat} {x:Str} (a:N[i]? = some x) (b:N[j]? = some x):i = j:=by
 obtain ⟨h1,e1⟩:=List.getElem?_eq_some_iff.mp a
 obtain ⟨h2,e2⟩:=List.getElem?_eq_some_iff.mp b
 exact (List.getElem_inj hN).mp (e1.trans e2.symm)
theorem ZfT {M:Model} {A:Around} {E:Value → Shared → Prop} {i:Nat} {x:Str} {v:V} {u:Value} {Q:Unit → Shared → Prop} (I:Inv X pins σ H s) (hN:X.N.Nodup) (hi:X.N[i]? = some x) (hx:Loc X.env.scope x) (r:RelV v u)
  (h:∀ s',Inv X pins (σ.set i (some v)) H s' → (∃ a,Heap.SameBut a s.heap s'.heap ∧ (a = X.env.locals ∨ X.env.cells.lookup x = some a)) → Q () s') (hf:X.fn x = true ∨ X.env.scope.names.lookup x = some .local:=by first | exact .inl rfl | exact .inr rfl | assumption):wpAny M A (storeName X.env x u) Q E s:=by
 obtain ⟨m,hn,hl⟩:=id I.loc
 have hcls:(X.env.scope.kind == .class || (X.env.scope.kind == .module && X.env.locals != X.env.globals)) = false:=by rw [I.ok.kind]; rfl
 have hiσ:i < σ.length:=by rw [I.len]; exact (List.getElem?_eq_some_iff.mp hi).1
 have cne:=I.cne
 have tracked:∀ {a:Addr} {h':Heap},(∃ o,s.heap.get? a = some o ∧ H a = none) → Heap.SameBut a s.heap h' → HOk X.prog X.w H h':=fun {a h'} ha hs b ob e=>by
  obtain ⟨_,_,hfree⟩:=ha
  refine (I.hok b ob e).stay (fun c w' hc q=>(hs.2 c ?_).trans q) (fun _ q=>q) fun _ _ q=>q
  rintro rfl
  rcases hc with rfl | hc
  ·rw [hfree] at e; cases e
  ·rw [hfree] at hc; cases hc
 rcases hx with hk | hk
 ·refine wpAny_storeName_local hk hn (fun h' hn' hs=>?_) hcls
  obtain ⟨oL,_,_,hoL,_⟩:=id hn
  refine h _ ⟨I.ok,I.os,I.bare,⟨fun b o e n hb hx=>?_,fun b o e n hb hx=>?_,I.base.free,fun b o e hx=>?_,I.base.tups,I.base.frzs,I.base.tbls⟩,⟨_,hn',fun j y v' e1 e2 e3=>?_⟩,fun y c e=>?_,I.free,I.freeC,fun p hp=>?_,tracked ⟨oL,hoL,I.free⟩ hs,by simpa using I.len⟩ ⟨_,hs,.inl rfl⟩
  ·exact (hs.2 b (Nat.ne_of_lt (Nat.lt_of_lt_of_le (Heap.lt_size e) I.ok.above))).trans (I.base.keep b o e n hb hx)
  ·obtain ⟨sl,e1⟩:=I.base.slot b o e n hb hx
   exact ⟨sl,(hs.2 b (Nat.ne_of_lt (Nat.lt_of_lt_of_le (Heap.lt_size e) I.ok.above))).trans e1⟩
  ·obtain ⟨o',e1⟩:=I.base.there b o e hx
   exact ⟨o',(hs.2 b (Nat.ne_of_lt (Nat.lt_of_lt_of_le (Heap.lt_size e) I.ok.above))).trans e1⟩
  ·by_cases hj:j = i
   ·subst hj
    rw [hi] at e1; cases e1
    rw [List.getElem?_set_self hiσ] at e2
    cases e2
    exact ⟨u,r,.inl ⟨hk,by simp⟩⟩
   ·rw [List.getElem?_set_ne (Ne.symm hj)] at e2
    obtain ⟨u',r',q⟩:=hl j y v' e1 e2 e3
    refine ⟨u',r',?_⟩
    rcases q with ⟨k,e⟩ | ⟨k,c,e,z⟩
    ·refine .inl ⟨k,?_⟩
     have:y ≠ x:=fun e=>hj (Zg1 hN e1 (e ▸ hi))
     simp [this,e]
    ·exact .inr ⟨k,c,e,z.sameBut hs (cne y c e)⟩
  ·obtain ⟨w',z⟩:=I.cell y c e
   exact ⟨w',z.sameBut hs (cne y c e)⟩
  ·obtain ⟨e,n,ne,nf,d⟩:=I.pin p hp
   exact ⟨(hs.2 p.1 ne).trans e,n,ne,nf,d⟩
 ·have hfn:X.fn x = true:=by
   rcases hf with z | z
   ·exact z
   ·rw [z] at hk; cases hk
  obtain ⟨c,hc⟩:=I.ok.has x (.inl hk)
  obtain ⟨w',z⟩:=I.cell x c hc
  refine wpAny_storeName_cell I.ok.kind hk hc z (fun h' hc' hs=>?_)
  obtain ⟨oc,hoc,hocd⟩:=id z
  refine h { s with heap:=h' } ⟨I.ok,I.os,I.bare,⟨fun b o e n hb hx=>?_,fun b o e n hb hx=>?_,I.base.free,fun b o e hx=>?_,I.base.tups,I.base.frzs,I.base.tbls⟩,⟨m,hn.sameBut hs (Ne.symm (cne x c hc)),fun j y v' e1 e2 e3=>?_⟩,fun y c' e=>?_,I.free,I.freeC,fun p hp=>?_,tracked ⟨oc,hoc,I.freeC x c hc⟩ hs,by simpa using I.len⟩ ⟨c,hs,.inr hc⟩
  ·exact (hs.2 b (Nat.ne_of_lt (Nat.lt_of_lt_of_le (Heap.lt_size e) (I.ok.cab x c hfn hc)))).trans (I.base.keep b o e n hb hx)
  ·obtain ⟨sl,e1⟩:=I.base.slot b o e n hb hx
   exact ⟨sl,(hs.2 b (Nat.ne_of_lt (Nat.lt_of_lt_of_le (Heap.lt_size e) (I.ok.cab x c hfn hc)))).trans e1⟩
  ·obtain ⟨o',e1⟩:=I.base.there b o e hx
   exact ⟨o',(hs.2 b (Nat.ne_of_lt (Nat.lt_of_lt_of_le (Heap.lt_size e) (I.ok.cab x c hfn hc)))).trans e1⟩
  ·by_cases hj:j = i
   ·subst hj
    rw [hi] at e1; cases e1
    rw [List.getElem?_set_self hiσ] at e2
    cases e2
    exact ⟨u,r,.inr ⟨.inl hk,c,hc,hc'⟩⟩
   ·rw [List.getElem?_set_ne (Ne.symm hj)] at e2
    obtain ⟨u',r',q⟩:=hl j y v' e1 e2 e3
    refine ⟨u',r',?_⟩
    rcases q with q | ⟨k,c',e,z'⟩
    ·exact .inl q
    ·refine .inr ⟨k,c',e,z'.sameBut hs ?_⟩
     rintro rfl
     exact hj (Zg1 hN e1 (I.ok.inj _ _ _ e hc ▸ hi))
  ·by_cases hcc:c' = c
   ·subst hcc; exact ⟨_,hc'⟩
   ·obtain ⟨w2,z2⟩:=I.cell y c' e
    exact ⟨w2,z2.sameBut hs hcc⟩
  ·obtain ⟨e,n,ne,nf,d⟩:=I.pin p hp
   refine ⟨(hs.2 p.1 ?_).trans e,n,ne,nf,d⟩
   intro q
   rw [q,hoc] at e
   have q':oc = p.2:=Option.some.inj e
   exact d w' (by rw [← q']; exact hocd)
theorem Zhg {M:Model} {A:Around} {E:Value → Shared → Prop} {i:Nat} {x:Str} {v:V} {u:Value} {Q:Unit → Shared → Prop} (I:Inv X pins σ H s) (hN:X.N.Nodup) (hi:X.N[i]? = some x) (hx:Loc X.env.scope x) (r:RelV v u)
  (h:∀ s',Inv X pins (σ.set i (some v)) H s' → Q () s') (hf:X.fn x = true ∨ X.env.scope.names.lookup x = some .local:=by first | exact .inl rfl | exact .inr rfl | assumption):wpAny M A (storeName X.env x u) Q E s:=
 ZfT I hN hi hx r (fun s' I' _=>h s' I') hf
theorem Inv.call' {s':Shared} {ch:List Addr} (I:Inv X pins σ H s) (ho:s'.os = s.os) (u:Un (frs X.stack) ch H H' s.heap s'.heap) (hok:HOk X.prog X.w H' s'.heap) (hg:AllBare s'.gens)
  (hch:∀ b ∈ ch,(b ∈ X.ex ∨ X.s₀.heap.objs.size ≤ b) ∧ b ≠ X.env.locals ∧ (∀ x c,X.env.cells.lookup x = some c → c ≠ b) ∧ ∀ p ∈ X.pn ++ pins,p.1 ≠ b):Inv X pins σ H' s':=by
 obtain ⟨h',g',d',t',o'⟩:=s'
 have e:o' = s.os:=ho
 subst e
 exact I.call (g':=g') (t':=t') (d':=d') u hok hg hch
end
noncomputable abbrev XK:=Value → Option Addr → Hp → Prop
noncomputable abbrev St:=List (Option V)
noncomputable abbrev VK:=V → Hp → Prop
noncomputable abbrev TE:=St → Hp → VK → Prop
noncomputable abbrev TT:=St → Hp → (Bool → Hp → Prop) → Prop
noncomputable abbrev TA:=St → Hp → (List V → Hp → Prop) → Prop
structure Ends where
 nx:St → Hp → Prop
 rt:VK
 bk:St → Hp → Prop:=fun _ _=>False
 ct:St → Hp → Prop:=fun _ _=>False
noncomputable abbrev TS:=Ends → St → Hp → Prop
noncomputable def EP (X:Cx) (pins:List (Addr × Obj)) (σ:St) (Q:VK) (u:Value) (s':Shared):Prop:=∃ v H',Inv X pins σ H' s' ∧ RelV v u ∧ Q v H'
noncomputable def TP (X:Cx) (pins:List (Addr × Obj)) (σ:St) (Q:Bool → Hp → Prop) (b:Bool) (s':Shared):Prop:=∃ H',Inv X pins σ H' s' ∧ Q b H'
noncomputable def AP (X:Cx) (pins:List (Addr × Obj)) (σ:St) (Q:List V → Hp → Prop) (us:List Value) (s':Shared):Prop:=∃ vs H',Inv X pins σ H' s' ∧ Vals vs us ∧ Q vs H'
noncomputable def SP (X:Cx) (pins:List (Addr × Obj)) (D:Ends) (f:Flow) (s':Shared):Prop:=
 match f with
 | .next=>∃ σ' H',Inv X pins σ' H' s' ∧ D.nx σ' H'
 | .brk=>∃ σ' H',Inv X pins σ' H' s' ∧ D.bk σ' H'
 | .cont=>∃ σ' H',Inv X pins σ' H' s' ∧ D.ct σ' H'
 | .ret u=>∃ v σ' H',Inv X pins σ' H' s' ∧ RelV v u ∧ D.rt v H'
noncomputable def PE (X:Cx) (e:Expr) (t:TE):Prop:=
 ∀ (pins:List (Addr × Obj)) (s:Shared) (σ:St) (H:Hp) (Q:VK),Inv X pins σ H s → t σ H Q → wpAny (model X.prog X.w) X.A (eval e X.env) (EP X pins σ Q) X.xe s
noncomputable def PT (X:Cx) (e:Expr) (t:TT):Prop:=
 ∀ (pins:List (Addr × Obj)) (s:Shared) (σ:St) (H:Hp) (Q:Bool → Hp → Prop),Inv X pins σ H s → t σ H Q → wpAny (model X.prog X.w) X.A (isTrue e X.env (eval e X.env)) (TP X pins σ Q) X.xe s
noncomputable def PW (X:Cx) (e:Expr) (t:TT):Prop:=
 ∀ (whole:Sem Value) (pins:List (Addr × Obj)) (s:Shared) (σ:St) (H:Hp) (Q:Bool → Hp → Prop),Inv X pins σ H s → t σ H Q → wpAny (model X.prog X.w) X.A (isTrue e X.env whole) (TP X pins σ Q) X.xe s
theorem PW.pt {X:Cx} {e:Expr} {t:TT} (h:PW X e t):PT X e t:=h _
noncomputable def PA (X:Cx) (es:List Expr) (t:TA):Prop:=
 ∀ (pos:Pos) (pins:List (Addr × Obj)) (s:Shared) (σ:St) (H:Hp) (Q:List V → Hp → Prop),Inv X pins σ H s → t σ H Q → wpAny (model X.prog X.w) X.A (spliced (backTo pos (starEach es X.env))) (AP X pins σ Q) X.xe s
noncomputable def PS (X:Cx) (st:Stmt) (t:TS):Prop:=
 ∀ (pins:List (Addr × Obj)) (s:Shared) (σ:St) (H:Hp) (D:Ends),Inv X pins σ H s → t D σ H → wpAny (model X.prog X.w) X.A (exec st X.env) (SP X pins D) X.xe s
noncomputable def PSs (X:Cx) (st:List Stmt) (t:TS):Prop:=
 ∀ (pins:List (Addr × Obj)) (s:Shared) (σ:St) (H:Hp) (D:Ends),Inv X pins σ H s → t D σ H → wpAny (model X.prog X.w) X.A (execs st X.env) (SP X pins D) X.xe s
theorem thn {α:Type} {t:Sem α} {Q Q':α → Shared → Prop} {M:Model} {A:Around} {E:Value → Shared → Prop} {s:Shared} (h:wpAny M A t Q E s) (hQ:∀ a s,Q a s → Q' a s):wpAny M A t Q' E s:=wpAny_mono h hQ fun _ _ x=>x
end L2
namespace L2
open PySem PySem.Spec PyProof.Rows
section
variable {X:Cx}
noncomputable def Zpo (i:Nat):TE:=fun σ H Q=>∃ v,σ[i]? = some (some v) ∧ Q v H
noncomputable def tC (v:V):TE:=fun _ H Q=>Q v H
theorem Zm5 {i:Nat} {x:Str} {pos:Pos} (hN:X.N[i]? = some x) (hv:Vis X.env.scope x) (hd:(x == ("__debug__":Str)) = false:=by decide) (hcd:(x == ("__classdict__":Str)) = false:=by decide):PE X (.Name x pos) (Zpo i):=by
 intro pins s σ H Q I h
 obtain ⟨v,e,h⟩:=h
 obtain ⟨m,hn,hl⟩:=I.loc
 obtain ⟨u,r,l⟩:=hl i x v hN e hv
 have fin:EP X pins σ Q u s:=⟨v,H,I,r,h⟩
 rcases l with ⟨hk,hm⟩ | ⟨hk,c,hc,hcell⟩
 ·exact wpAny_Name (wpAny_loadName_local I.ok.kind hk hn hm fin) hd
 ·rcases hk with hk | hk
  ·exact wpAny_Name (wpAny_loadName_cell I.ok.kind hk hc hcell fin) hd
  ·exact wpAny_Name (wpAny_loadName_free I.ok.kind hk hc hcell fin hcd) hd
theorem Zjo {i j pos}:PE X (.Constant (.int i) j pos) (tC (.int i)):=fun _ _ _ H _ I h=>wpAny_Constant_int ⟨.int i,H,I.tok _,⟨_,rfl⟩,h⟩
theorem ZoK {b j pos}:PE X (.Constant (.bool b) j pos) (tC (.bl b)):=fun _ _ _ H _ I h=>Constant_bool ⟨.bl b,H,I,rfl,h⟩
theorem ZmF {j pos}:PE X (.Constant .none j pos) (tC .non):=fun _ _ _ H _ I h=>Constant_none ⟨.non,H,I,rfl,h⟩
theorem ZnM {x j pos}:PE X (.Constant (.str x) j pos) (tC (.str x)):=fun _ _ _ H _ I h=>Calls.Constant_str ⟨.str x,H,I.tok _,⟨_,rfl⟩,h⟩
noncomputable def Gl (X:Cx) (x:Str):Prop:=X.env.kindOf x = some .globalImplicit
theorem Zh4 {E:Value → Shared → Prop} {pins:List (Addr × Obj)} {s:Shared} {σ:St} {H:Hp} {x:Str} {u:Value} {pos:Pos} {Q:Value → Shared → Prop} (I:Inv X pins σ H s) (hg:Gl X x) (hm:X.mg x = some u) (h:Q u s)
  (hd:(x == ("__debug__":Str)) = false:=by decide):wpAny (model X.prog X.w) X.A (eval (.Name x pos) X.env) Q E s:=
 Calls.Name_function_global I.ok.kind hg (Calls.loadGlobal_global (by rw [I.ok.glob]; exact I.mod.glob.keeps I.bk) hm h) hd
theorem Zey {E:Value → Shared → Prop} {pins:List (Addr × Obj)} {s:Shared} {σ:St} {H:Hp} {x:Str} {u:Value} {pos:Pos} {Q:Value → Shared → Prop} (I:Inv X pins σ H s) (hg:Gl X x) (hm:X.mg x = none) (hv:bootBuiltins x = some u) (h:Q u s)
  (hn:x ≠ "__name__":=by decide) (hd:(x == ("__debug__":Str)) = false:=by decide):wpAny (model X.prog X.w) X.A (eval (.Name x pos) X.env) Q E s:=by
 obtain ⟨mb,h1,h2⟩:=I.mod.blt
 exact Calls.Name_function_global I.ok.kind hg (Calls.loadGlobal_builtin (by rw [I.ok.glob]; exact I.mod.glob.keeps I.bk) hm (by rw [I.ok.blt]; exact h1.keeps I.bk) ((h2 x hn).trans hv) h) hd
theorem Zgf {x:Str} {v:V} {u:Value} {pos:Pos} (hg:Gl X x) (hm:X.mg x = some u) (r:RelV v u) (hd:(x == ("__debug__":Str)) = false:=by decide):PE X (.Name x pos) (tC v):=
 fun _ _ _ H _ I h=>Zh4 I hg hm ⟨v,H,I,r,h⟩ hd
theorem Zlf {x:Str} {v:V} {u:Value} {pos:Pos} (hg:Gl X x) (hm:X.mg x = none) (hv:bootBuiltins x = some u) (r:RelV v u) (hn:x ≠ "__name__":=by decide) (hd:(x == ("__debug__":Str)) = false:=by decide):PE X (.Name x pos) (tC v):=
 fun _ _ _ H _ I h=>Zey I hg hm hv ⟨v,H,I,r,h⟩ hn hd
variable {a b:Expr} {ta tb:TE} {pos:Pos}
noncomputable def tB (t:TE):TT:=fun σ H Q=>t σ H fun x H1=>∃ c,x = .bl c ∧ Q c H1
theorem Zni {e:Expr} {t:TE} (h:PE X e t) (he:∀ whole,isTrue e X.env whole = (do let v ← whole; standAt e.pos; holding [v] (truthy v)):=by intro _; rfl):PT X e (tB t):=by
 intro pins s σ H Q I hw
 refine isTrue_plain (thn (h pins s σ H _ I hw) fun v s1 zz1=>?_) (he _)
 obtain ⟨x,H1,I1,r1,q1⟩:=zz1
 obtain ⟨d,rfl,q⟩:=q1
 cases r1
 exact wpAny_truthy_bool ⟨H1,I1,q⟩
variable {tA tB':TT} {rest:List Expr}
noncomputable def Zpq (t u:TT):TT:=fun σ H Q=>t σ H fun c H1=>if c = true then u σ H1 Q else Q false H1
noncomputable def tOr (t u:TT):TT:=fun σ H Q=>t σ H fun c H1=>if c = true then Q true H1 else u σ H1 Q
noncomputable def Zpx (t:TT):TT:=fun σ H Q=>t σ H fun c H1=>Q (!c) H1
theorem Zlk (ha:PT X a tA):PW X (.BoolOp .And [a] pos) tA:=by
 intro wh pins s σ H Q I h
 refine isTrue_and (thn (ha pins s σ H Q I h) fun c s1 e=>?_)
 cases c with
 | true=>exact isTrue_and_nil e
 | false=>exact e
theorem ZmN (ha:PT X a tA):PW X (.BoolOp .Or [a] pos) tA:=by
 intro wh pins s σ H Q I h
 refine isTrue_or (thn (ha pins s σ H Q I h) fun c s1 e=>?_)
 cases c with
 | false=>exact isTrue_or_nil e
 | true=>exact e
theorem ZmA (ha:PT X a tA) (hb:PW X (.BoolOp .And (b :: rest) pos) tB'):PW X (.BoolOp .And (a :: b :: rest) pos) (Zpq tA tB'):=by
 intro wh pins s σ H Q I h
 refine isTrue_and (thn (ha pins s σ H _ I h) fun c s1 zz1=>?_)
 obtain ⟨H1,I1,q1⟩:=zz1
 cases c with
 | true=>exact hb wh pins s1 σ H1 Q I1 q1
 | false=>exact ⟨H1,I1,q1⟩
theorem ZoS (ha:PT X a tA) (hb:PW X (.BoolOp .Or (b :: rest) pos) tB'):PW X (.BoolOp .Or (a :: b :: rest) pos) (tOr tA tB'):=by
 intro wh pins s σ H Q I h
 refine isTrue_or (thn (ha pins s σ H _ I h) fun c s1 zz1=>?_)
 obtain ⟨H1,I1,q1⟩:=zz1
 cases c with
 | true=>exact ⟨H1,I1,q1⟩
 | false=>exact hb wh pins s1 σ H1 Q I1 q1
theorem Znd (ha:PT X a tA):PT X (.UnaryOp .Not a pos) (Zpx tA):=by
 intro pins s σ H Q I h
 exact isTrue_not (ha pins s σ H (fun c H1=>Q (!c) H1) I h)
noncomputable def Zo5 (ta tb:TE):TE:=fun σ H Q=>ta σ H fun x H1=>∃ c,x = .bl c ∧ if c = true then tb σ H1 Q else Q (.bl false) H1
noncomputable def ZoL (ta:TE):TE:=fun σ H Q=>ta σ H fun x H1=>∃ c,x = .bl c ∧ Q (.bl (!c)) H1
theorem ZnN {op} {t:TE} (h:PE X a t):PE X (.BoolOp op [a] pos) t:=fun pins s σ H Q I hw=>BoolOp_one (h pins s σ H Q I hw)
theorem ZmC (ha:PE X a ta) (hb:PE X (.BoolOp .And (b :: rest) pos) tb):PE X (.BoolOp .And (a :: b :: rest) pos) (Zo5 ta tb):=by
 intro pins s σ H Q I h
 refine BoolOp_and (thn (ha pins s σ H _ I h) fun v s1 zz1=>?_)
 obtain ⟨x,H1,I1,r1,q1⟩:=zz1
 obtain ⟨c,rfl,q1⟩:=q1
 cases r1
 refine wpAny_truthy_bool ?_
 cases c with
 | true=>exact hb pins s1 σ H1 Q I1 q1
 | false=>exact ⟨.bl false,H1,I1,rfl,q1⟩
theorem Znr (ha:PE X a ta):PE X (.UnaryOp .Not a pos) (ZoL ta):=by
 intro pins s σ H Q I h
 refine UnaryOp_ (thn (ha pins s σ H _ I h) fun v s1 zz1=>?_)
 obtain ⟨x,H1,I1,r1,q1⟩:=zz1
 obtain ⟨c,rfl,q1⟩:=q1
 cases r1
 exact not_of (wpAny_truthy_bool ⟨.bl (!c),H1,I1,rfl,q1⟩)
noncomputable def tIf (t:TT) (ta tb:TE):TE:=fun σ H Q=>t σ H fun c H1=>if c = true then ta σ H1 Q else tb σ H1 Q
theorem ZjZ {c:Expr} (hc:PT X c tA) (ha:PE X a ta) (hb:PE X b tb):PE X (.IfExp c a b pos) (tIf tA ta tb):=by
 intro pins s σ H Q I h
 refine wpAny_IfExp (thn (hc pins s σ H _ I h) fun d s1 zz1=>?_)
 obtain ⟨H1,I1,q1⟩:=zz1
 cases d with
 | true=>exact ha pins s1 σ H1 Q I1 q1
 | false=>exact hb pins s1 σ H1 Q I1 q1
end
end L2
namespace L2
open PySem PySem.Spec PyProof.Rows
noncomputable def SqL (K:PySem.W.Frag) (H:Hp) (a:Addr) (xs:List V):Prop:=
 Rd H a (.lst xs) ∨
  ∃ (o:Obj) (its:Array Value) (n:Nat),K.lookup a = some o ∧ o.cls = .type "list" ∧ o.dict = none ∧ o.data = .seq its n ∧ its.size ≤ sizeLine ∧ Vals xs its.toList
noncomputable def SqT (K:PySem.W.Frag) (H:Hp) (a:Addr) (xs:List V):Prop:=
 Rd H a (.tup xs) ∨
  ∃ (o:Obj) (its:Array Value) (n:Nat),K.lookup a = some o ∧ (o.cls = .type "tuple" ∧ o.dict = none) ∧ o.data = .seq its n ∧ its.size ≤ sizeLine ∧ Vals xs its.toList
noncomputable def Zpy:Value → Option V
 | .none=>some .non
 | .bool b=>some (.bl b)
 | .int i _=>some (.int i)
 | .str x _=>some (.str x)
 | .bytes b _=>some (.byt b)
 | .float b _=>some (.flt b)
 | .ref a=>some (.ref a)
 | .type n=>some (.ty n)
 | _=>none
theorem RelV.abs {x:V} {u:Value} (r:RelV x u):Zpy u = some x:=by
 cases x with
 | non=>cases r; rfl
 | bl _=>cases r; rfl
 | int _=>obtain ⟨t,rfl⟩:=r; rfl
 | str _=>obtain ⟨t,rfl⟩:=r; rfl
 | byt _=>obtain ⟨t,rfl⟩:=r; rfl
 | flt _=>obtain ⟨t,rfl⟩:=r; rfl
 | ref _=>cases r; rfl
 | ty _=>cases r; rfl
theorem RelV.inj {x y:V} {u:Value} (r:RelV x u) (q:RelV y u):x = y:=Option.some.inj (r.abs.symm.trans q.abs)
theorem Vals.inj:∀ {xs ys:List V} {us:List Value},Vals xs us → Vals ys us → xs = ys
 | _,_,_,.nil,.nil=>rfl
 | _,_,_,.cons r t,.cons r' t'=>by rw [r.inj r',Vals.inj t t']
section
variable {X:Cx} {pins:List (Addr × Obj)} {σ:St} {H:Hp} {s:Shared} {a:Addr} {xs ys:List V}
theorem SqL.of {K:PySem.W.Frag} (h:H a = some (.lst xs)):SqL K H a xs:=.inl (.inl h)
theorem SqT.of {K:PySem.W.Frag} (h:H a = some (.tup xs)):SqT K H a xs:=.inl (.inl h)
theorem Inv.list (I:Inv X pins σ H s) (h:SqL X.K H a xs):∃ its:List Value,Vals xs its ∧ PlainL s.heap a its.toArray ∧ xs.length ≤ sizeLine:=by
 rcases h with h | ⟨o,its,n,hk,hc,hd,hs,hz,r⟩
 ·obtain ⟨z,its,n,r,e⟩:=h.ok I.hok
  exact ⟨its,r,⟨_,n,e,rfl,rfl,rfl⟩,z⟩
 ·refine ⟨its.toList,r,⟨o,n,I.kIn a o hk,hc,hd,by simpa using hs⟩,?_⟩
  have e:=r.length
  simp only [Array.length_toList] at e
  exact lC 2 2199576973345 T1 e hz
theorem Inv.tuple (I:Inv X pins σ H s) (h:SqT X.K H a xs):∃ its:List Value,Vals xs its ∧ IsTup s.heap a its.toArray ∧ xs.length ≤ sizeLine:=by
 rcases h with h | ⟨o,its,n,hk,hc,hs,hz,r⟩
 ·obtain ⟨z,its,r,p⟩:=h.ok I.hok
  exact ⟨its,r,p.tup,z⟩
 ·refine ⟨its.toList,r,⟨o,I.kIn a o hk,hc.1,n,by simpa using hs⟩,?_⟩
  have e:=r.length
  simp only [Array.length_toList] at e
  exact lC 2 2199576973345 T1 e hz
theorem Inv.list_inj (I:Inv X pins σ H s) (h:SqL X.K H a xs) (h':SqL X.K H a ys):xs = ys:=by
 obtain ⟨its,r,⟨o,n,e,_,_,d⟩,_⟩:=I.list h
 obtain ⟨its',r',⟨o',n',e',_,_,d'⟩,_⟩:=I.list h'
 rw [e] at e'; cases e'
 rw [d] at d'
 injection d' with d1 _
 have:its = its':=by simpa using congrArg Array.toList d1
 subst this
 exact r.inj r'
theorem Inv.tuple_inj (I:Inv X pins σ H s) (h:SqT X.K H a xs) (h':SqT X.K H a ys):xs = ys:=by
 obtain ⟨its,r,⟨o,e,_,n,d⟩,_⟩:=I.tuple h
 obtain ⟨its',r',⟨o',e',_,n',d'⟩,_⟩:=I.tuple h'
 rw [e] at e'; cases e'
 rw [d] at d'
 injection d' with d1 _
 have:its = its':=by simpa using congrArg Array.toList d1
 subst this
 exact r.inj r'
end
noncomputable abbrev Cx.wish (X:Cx) (E:Value → Shared → Prop):Cx:={ X with xe:=E }
noncomputable abbrev Cx.nox (X:Cx):Cx:=X.wish fun _ _=>False
theorem Cx.Ok.wish {X:Cx} (ok:X.Ok) (E:Value → Shared → Prop):(X.wish E).Ok:=
 ⟨ok.mod,ok.kind,ok.glob,ok.blt,ok.above,ok.inj,ok.has,ok.cab,ok.hd,ok.frames,ok.stk,ok.exf,ok.bs,ok.bsz,ok.noex,ok.exfs,ok.funs,ok.frf⟩
theorem Cx.Ok.unwish {X:Cx} {E:Value → Shared → Prop} (ok:(X.wish E).Ok):X.Ok:=
 ⟨ok.mod,ok.kind,ok.glob,ok.blt,ok.above,ok.inj,ok.has,ok.cab,ok.hd,ok.frames,ok.stk,ok.exf,ok.bs,ok.bsz,ok.noex,ok.exfs,ok.funs,ok.frf⟩
section
variable {X:Cx} {pins:List (Addr × Obj)} {σ:St} {H:Hp} {s:Shared} {E:Value → Shared → Prop}
theorem Inv.wish (I:Inv X pins σ H s) (E:Value → Shared → Prop):Inv (X.wish E) pins σ H s:=⟨I.ok.wish E,I.os,I.bare,I.base,I.loc,I.cell,I.free,I.freeC,I.pin,I.hok,I.len⟩
theorem Inv.unwish (I:Inv (X.wish E) pins σ H s):Inv X pins σ H s:=⟨I.ok.unwish,I.os,I.bare,I.base,I.loc,I.cell,I.free,I.freeC,I.pin,I.hok,I.len⟩
theorem SP.unwish {D:Ends} {f:Flow} {s':Shared} (h:SP (X.wish E) pins D f s'):SP X pins D f s':=by
 cases f with
 | next=>obtain ⟨σ',H',I,q⟩:=h; exact ⟨σ',H',I.unwish,q⟩
 | brk=>obtain ⟨σ',H',I,q⟩:=h; exact ⟨σ',H',I.unwish,q⟩
 | cont=>obtain ⟨σ',H',I,q⟩:=h; exact ⟨σ',H',I.unwish,q⟩
 | ret u=>obtain ⟨v,σ',H',I,r,q⟩:=h; exact ⟨v,σ',H',I.unwish,r,q⟩
theorem PSs.nox {st:List Stmt} {t:TS} (h:PSs X.nox st t):PSs X st t:=fun pins s σ H D I hw=>
 wpAny_mono (h pins s σ H D (I.wish _) hw) (fun _ _ q=>q.unwish) fun _ _ z=>False.elim z
end
section
variable {X:Cx} {st:Stmt} {rest:List Stmt} {t u:TS} {e:Expr} {te:TE} {pos:Pos}
noncomputable def ZoM:TS:=fun D σ H=>D.nx σ H
noncomputable def ZpJ (t u:TS):TS:=fun D σ H=>t { D with nx:=u D } σ H
theorem Zlw:PSs X [] ZoM:=fun _ _ σ H _ I h=>wpAny_execs_nil ⟨σ,H,I,h⟩
theorem Zks (h1:PS X st t) (h2:PSs X rest u):PSs X (st :: rest) (ZpJ t u):=by
 intro pins s σ H D I h
 refine wpAny_execs_cons (thn (h1 pins s σ H { D with nx:=u D } I h) fun f s1 q=>?_)
 cases f with
 | next=>
  obtain ⟨σ',H',I',q⟩:=q
  exact h2 pins s1 σ' H' D I' q
 | ret v=>exact q
 | brk=>exact q
 | cont=>exact q
theorem ZkP (h1:PS X st t):PSs X [st] t:=by
 intro pins s σ H D I h
 refine wpAny_execs_cons (thn (h1 pins s σ H D I h) fun f s1 q=>?_)
 cases f with
 | next=>exact wpAny_execs_nil q
 | ret v=>exact q
 | brk=>exact q
 | cont=>exact q
theorem Inv.quiet {pins:List (Addr × Obj)} {σ:St} {H:Hp} {s:Shared} (I:Inv X pins σ H s):interactive X.env = false:=by simp [interactive,I.ok.kind]
noncomputable def ZoT (te:TE):TS:=fun D σ H=>te σ H fun _ H1=>D.nx σ H1
theorem ZkT (he:PE X e te) (hs:swapsWith e none pos.line X.env = pure false:=by rfl):PS X (.Expr e pos) (ZoT te):=by
 intro pins s σ H D I h
 exact wpAny_Expr_any (thn (he pins s σ H _ I h) fun v s1 ⟨x,H1,I1,r1,q1⟩=>⟨σ,H1,I1,q1⟩) I.quiet hs
noncomputable def Zpj (te:TE):TS:=fun D σ H=>te σ H D.rt
theorem ZmT (he:PE X e te):PS X (.Return (some e) pos) (Zpj te):=by
 intro pins s σ H D I h
 exact wpAny_Return_some (thn (he pins s σ H _ I h) fun v s1 ⟨x,H1,I1,r1,q1⟩=>⟨x,σ,H1,I1,r1,q1⟩)
noncomputable def ZpD (c:TT) (t u:TS):TS:=fun D σ H=>c σ H fun b H1=>if b = true then t D σ H1 else u D σ H1
theorem Zol {c:Expr} {a b:List Stmt} {tc:TT} (hc:PT X c tc) (ha:PSs X a t) (hb:PSs X b u):PS X (.If c a b pos) (ZpD tc t u):=by
 intro pins s σ H D I h
 refine wpAny_If (thn (hc pins s σ H _ I h) fun d s1 zz1=>?_)
 obtain ⟨H1,I1,q1⟩:=zz1
 cases d with
 | true=>exact ha pins s1 σ H1 D I1 q1
 | false=>exact hb pins s1 σ H1 D I1 q1
end
noncomputable abbrev TG:=V → St → Hp → (St → Hp → Prop) → Prop
noncomputable abbrev TGs:=List V → St → Hp → (St → Hp → Prop) → Prop
noncomputable def PG (X:Cx) (target:Expr) (t:TG):Prop:=
 ∀ (pins:List (Addr × Obj)) (s:Shared) (σ:St) (H:Hp) (v:V) (u:Value) (Q:St → Hp → Prop),Inv X pins σ H s → RelV v u → t v σ H Q →
  wpAny (model X.prog X.w) X.A (assign target X.env u) (fun _ s'=>∃ σ' H',Inv X pins σ' H' s' ∧ Q σ' H') X.xe s
noncomputable def PGs (X:Cx) (ts:List Expr) (t:TGs):Prop:=
 ∀ (pins:List (Addr × Obj)) (s:Shared) (σ:St) (H:Hp) (vs:List V) (us:List Value) (Q:St → Hp → Prop),Inv X pins σ H s → Vals vs us → t vs σ H Q →
  wpAny (model X.prog X.w) X.A (assignInOrder ((assignEach ts X.env).map (·.2)) us) (fun _ s'=>∃ σ' H',Inv X pins σ' H' s' ∧ Q σ' H') X.xe s
section
variable {X:Cx} {pos:Pos}
noncomputable def ZlV (i:Nat):TG:=fun v σ H Q=>Q (σ.set i (some v)) H
theorem Zif {i:Nat} {x:Str} (hN:X.N.Nodup) (hi:X.N[i]? = some x) (hx:Loc X.env.scope x) (hf:X.fn x = true ∨ X.env.scope.names.lookup x = some .local:=by first | exact .inl rfl | exact .inr rfl | assumption):PG X (.Name x pos) (ZlV i):=by
 intro pins s σ H v u Q I r h
 exact wpAny_assign_Name (Zhg I hN hi hx r (fun s' I'=>⟨_,H,I',h⟩) hf)
noncomputable def Zpr:TGs:=fun vs σ H Q=>vs = [] ∧ Q σ H
noncomputable def Zod (t:TG) (u:TGs):TGs:=fun vs σ H Q=>∃ v r,vs = v :: r ∧ t v σ H fun σ' H'=>u r σ' H' Q
theorem Zlv:PGs X [] Zpr:=by
 intro pins s σ H vs us Q I r h
 obtain ⟨e,h⟩:=h
 subst e
 cases r
 exact assignInOrder_nil ⟨σ,H,I,h⟩
theorem Zjj {e:Expr} {es:List Expr} {t:TG} {u:TGs} (h1:PG X e t) (h2:PGs X es u)
  (hs:(assignEach (e :: es) X.env).map (·.2) = assign e X.env :: (assignEach es X.env).map (·.2):=by rfl):PGs X (e :: es) (Zod t u):=by
 intro pins s σ H vs us Q I r h
 obtain ⟨v,vr,e1,h⟩:=h
 subst e1
 cases r with
 | cons r rr=>
  rw [hs]
  refine assignInOrder_cons (thn (h1 pins s σ H _ _ _ I r h) fun _ s1 zz1=>?_)
  obtain ⟨σ1,H1,I1,q1⟩:=zz1
  exact h2 pins s1 σ1 H1 _ _ Q I1 rr q1
noncomputable def Zpg (K:PySem.W.Frag) (n:Nat) (t:TGs):TG:=fun v σ H Q=>∃ a xs,v = .ref a ∧ SqT K H a xs ∧ xs.length = n ∧ t xs σ H Q
theorem Zna {es:List Expr} {k:Nat} {t:TGs} {n:Nat} (hc:X.calm = true) (h:PGs X es t)
  (hn:(assignEach es X.env).length = n:=by rfl) (hst:(assignEach es X.env).findIdx? (·.1) = none:=by rfl):PG X (.Tuple es k pos) (Zpg X.K n t):=by
 intro pins s σ H v u Q I r hw
 obtain ⟨a,xs,e1,hq,hl,hw⟩:=hw
 subst e1
 cases r
 obtain ⟨its,rv,ht,hz⟩:=I.tuple hq
 refine assign_Tuple_tuple (I.ok.hd hc) ht (by simp [hn,← hl,rv.length]) hst fun h' hx=>?_
 have I1:Inv X pins σ H { s with heap:=h' }:=I.kept (t':=s.toks) fun b o e=>hx b o (Nat.ne_of_lt (Heap.lt_size e)) e
 exact h pins _ σ H xs _ Q I1 (by simpa using rv) hw
noncomputable def Zpt (te:TE) (g:TG):TS:=fun D σ H=>te σ H fun x H1=>g x σ H1 D.nx
theorem ZnL {i:Nat} {x:Str} {e:Expr} {te:TE} {pos':Pos} (hN:X.N.Nodup) (hi:X.N[i]? = some x) (hx:Loc X.env.scope x) (he:PE X e te) (hs:swapsWith e (some (.Name x pos')) pos.line X.env = pure false:=by rfl) (hf:X.fn x = true ∨ X.env.scope.names.lookup x = some .local:=by first | exact .inl rfl | exact .inr rfl | assumption):
  PS X (.Assign [.Name x pos'] e pos) (Zpt te (ZlV i)):=by
 intro pins s σ H D I h
 refine wpAny_Assign_Name (thn (he pins s σ H _ I h) fun v s1 zz1=>?_) hs
 obtain ⟨y,H1,I1,r1,q1⟩:=zz1
 exact Zhg I1 hN hi hx r1 (fun s2 I2=>⟨_,H1,I2,q1⟩) hf
end
section
variable {X:Cx} {pos:Pos}
end
structure It where
 go:Nat → Hp → Prop
 yld:Nat → Hp → V → Hp → Prop
 stop:Nat → Hp → Prop
noncomputable def Zdw (X:Cx) (pins:List (Addr × Obj)) (H:Hp) (b:Addr):Prop:=
 H b = none ∧ b ≠ X.env.locals ∧ b ∉ X.fs ∧ (b ∈ X.ex ∨ X.s₀.heap.objs.size ≤ b) ∧ (∀ x c,X.env.cells.lookup x = some c → c ≠ b) ∧ ∀ p ∈ X.pn ++ pins,p.1 ≠ b
theorem Inv.fpOk {X:Cx} {pins:List (Addr × Obj)} {σ:St} {H H':Hp} {s:Shared} {b:Addr} (I:Inv X pins σ H s) (hb:s.heap.objs.size ≤ b) (hn:H' b = none):Zdw X pins H' b:=by
 refine ⟨hn,Nat.ne_of_gt (Nat.lt_of_lt_of_le I.lt hb),I.nofs hb,.inr (Nat.le_trans I.sz hb),fun x c e z=>?_,fun p hp z=>?_⟩
 ·obtain ⟨v,q⟩:=I.cell x c e
  exact absurd (Nat.lt_of_lt_of_le q.lt (by rw [z]; exact hb)) (Nat.lt_irrefl _)
 ·exact absurd (Nat.lt_of_lt_of_le (Heap.lt_size (I.pin p hp).1) (by rw [z]; exact hb)) (Nat.lt_irrefl _)
structure Turn (P:Program) (w:World) (K:PySem.W.Frag) (tg:Expr) (J:It) (fp:List Addr) (it:Addr) (tn:Nat → Heap → Prop):Prop where
 mem:it ∈ fp
 obj:∀ i h,tn i h → ∀ b ∈ fp,∃ o,h.get? b = some o ∧ ∀ v,o.data ≠ .cell v
 keep:∀ i h h',tn i h → (∀ b ∈ fp,∀ o,h.get? b = some o → h'.get? b = some o) → tn i h'
 item:∀ (X:Cx),X.prog = P → X.w = w → X.K = K → X.calm = true → ∀ (i:Nat) (pins:List (Addr × Obj)) (s:Shared) (σ:St) (H:Hp) (E:Value → Shared → Prop),Inv X pins σ H s → (∀ b ∈ fp,Zdw X pins H b) → tn i s.heap → J.go i H →
  wpAny (model P w) X.A (pyNext (.ref it)) (fun r s1=>∃ u,r = some u ∧
   wpAny (model P w) X.A (letOwnedTupleGo tg (.ref it) u) (fun _ s2=>∃ x H',Inv X pins σ H' s2 ∧ RelV x u ∧ J.yld i H x H' ∧ tn (i + 1) s2.heap ∧ ∀ b ∈ fp,H' b = none) E s1) E s
 done:∀ (X:Cx),X.prog = P → X.w = w → X.K = K → X.calm = true → ∀ (i:Nat) (pins:List (Addr × Obj)) (s:Shared) (σ:St) (H:Hp) (E:Value → Shared → Prop),Inv X pins σ H s → (∀ b ∈ fp,Zdw X pins H b) → tn i s.heap → J.stop i H →
  wpAny (model P w) X.A (pyNext (.ref it)) (fun r s1=>r = none ∧ Inv X pins σ H s1) E s
 self:∀ (A:Around) (i:Nat) (s:Shared) (Q:Value → Shared → Prop) (E:Value → Shared → Prop),tn i s.heap → Q (.ref it) s → wpAny (model P w) A (pyIter (.ref it)) Q E s
noncomputable abbrev TI:=St → Hp → (It → Hp → Prop) → Prop
noncomputable def PIE (X:Cx) (pins:List (Addr × Obj)) (σ:St) (tg:Expr) (R:It → Hp → Prop) (itv:Value) (s2:Shared):Prop:=
 ∃ (it:Addr) (fp:List Addr) (tn:Nat → Heap → Prop) (J:It) (H':Hp),itv = .ref it ∧ Inv X pins σ H' s2 ∧ Turn X.prog X.w X.K tg J fp it tn ∧ tn 0 s2.heap ∧ (∀ b ∈ fp,Zdw X pins H' b) ∧ R J H'
noncomputable def PI (X:Cx) (tg iter:Expr) (wi:TI):Prop:=
 ∀ (pins:List (Addr × Obj)) (s:Shared) (σ:St) (H:Hp) (R:It → Hp → Prop),Inv X pins σ H s → wi σ H R →
  wpAny (model X.prog X.w) X.A (eval iter X.env) (fun v s1=>wpAny (model X.prog X.w) X.A (pyIter v) (PIE X pins σ tg R) X.xe s1) X.xe s
theorem Ziq {M:Model} {A:Around} {E:Value → Shared → Prop} {s:Shared} {tg:Expr} {it:Addr} {u:Value} {o:Obj} {n:String} {vs:Array Value} {Q:Unit → Shared → Prop} (ho:s.heap.get? it = some o) (hc:o.cls = .type n) (hd:o.data = .fields vs)
  (hn:["enumerate","zip","dict_itemiterator","dict_reverseitemiterator","odict_iterator","itertools.zip_longest","itertools.pairwise"].contains n = false) (hQ:Q () s):wpAny M A (letOwnedTupleGo tg (.ref it) u) Q E s:=by
 unfold letOwnedTupleGo
 cases tg <;> first
  | exact wpAny_pure hQ
  | (cases u <;> first
    | exact wpAny_pure hQ
    | (refine wpAny_bind (wpAny_load ho ?_)
       rw [hc,hd]
       show wpAny M A (if (["enumerate","zip","dict_itemiterator","dict_reverseitemiterator","odict_iterator","itertools.zip_longest","itertools.pairwise"].contains n && vs[0]? == some (rawInt _)) = true then _ else _) Q E s
       rw [if_neg (by intro h; rw [hn,Bool.false_and] at h; cases h)]
       exact wpAny_pure hQ))
noncomputable def Itl (K:PySem.W.Frag) (a:Addr):It:=
 ⟨fun i H=>∃ xs x,SqL K H a xs ∧ xs[i]? = some x,fun i H x H'=>H' = H ∧ ∀ xs,SqL K H a xs → xs[i]? = some x,fun i H=>∃ xs,SqL K H a xs ∧ xs.length ≤ i⟩
noncomputable def Itt (K:PySem.W.Frag) (a:Addr):It:=
 ⟨fun i H=>∃ xs x,SqT K H a xs ∧ xs[i]? = some x,fun i H x H'=>H' = H ∧ ∀ xs,SqT K H a xs → xs[i]? = some x,fun i H=>∃ xs,SqT K H a xs ∧ xs.length ≤ i⟩
noncomputable def Itr (lo:Int) (n:Nat):It:=⟨fun i _=>i < n,fun i H x H'=>H' = H ∧ x = .int (lo + i),fun i _=>n ≤ i⟩
theorem ZiX {P:Program} {w:World} {K:PySem.W.Frag} {tg:Expr} (a it:Addr):Turn P w K tg (Itl K a) [it] it (fun i h=>h.IsListIter it a i) where
 mem:=by simp
 obj:=fun i h st b hb=>by
  have e:b = it:=by simpa using hb
  subst e
  obtain ⟨o,e,c,d⟩:=st
  exact ⟨o,e,fun v z=>by rw [d] at z; cases z⟩
 keep:=fun i h h' st k=>st.at fun o e=>k it (by simp) o e
 item:=by
  intro X hP hw hK hc i pins s σ H E I hf st hg
  subst hP hw hK
  obtain ⟨xs,x,hq,hx⟩:=hg
  obtain ⟨its,rv,p,hz⟩:=I.list hq
  obtain ⟨u,hu,ru⟩:=rv.get hx
  obtain ⟨f0,f1,f2,f3,f4,f5⟩:=hf it (by simp)
  refine wpAny_pyNext_list_item st p.isList (x:=u) (by simpa using hu) fun h' st' sb=>?_
  have I1:Inv X pins σ H { s with heap:=h' }:=I.turned (t':=s.toks) (fun b o hb e=>(sb.2 b hb).trans e) f0 f1 f3 f4 f5
  obtain ⟨o,e,c,d⟩:=id st'
  exact ⟨u,rfl,Ziq (s:={ s with heap:=h' }) e c d (by decide) ⟨x,H,I1,ru,⟨rfl,fun ys hy=>by rw [I.list_inj hy hq]; exact hx⟩,st',fun b hb=>(hf b hb).1⟩⟩
 done:=by
  intro X hP hw hK hc i pins s σ H E I hf st hg
  subst hP hw hK
  obtain ⟨xs,hq,hx⟩:=hg
  obtain ⟨its,rv,p,hz⟩:=I.list hq
  obtain ⟨f0,f1,f2,f3,f4,f5⟩:=hf it (by simp)
  have hl:=rv.length
  exact wpAny_pyNext_list_end (I.ok.hd hc) st p.isList (by simp; exact lC 2 2268279672881 T1 hl hx) fun h' eb=>⟨rfl,I.turned (t':=s.toks) (fun b o hb e=>eb b o hb e) f0 f1 f3 f4 f5⟩
 self:=fun _ _ _ _ _ st h=>wpAny_pyIter_listiter st h
theorem Zhv {P:Program} {w:World} {K:PySem.W.Frag} {tg:Expr} (a it:Addr):Turn P w K tg (Itt K a) [it] it (fun i h=>h.IsTupleIter it a i) where
 mem:=by simp
 obj:=fun i h st b hb=>by
  have e:b = it:=by simpa using hb
  subst e
  obtain ⟨o,e,c,d⟩:=st
  exact ⟨o,e,fun v z=>by rw [d] at z; cases z⟩
 keep:=fun i h h' st k=>st.at fun o e=>k it (by simp) o e
 item:=by
  intro X hP hw hK hc i pins s σ H E I hf st hg
  subst hP hw hK
  obtain ⟨xs,x,hq,hx⟩:=hg
  obtain ⟨its,rv,p,hz⟩:=I.tuple hq
  obtain ⟨u,hu,ru⟩:=rv.get hx
  obtain ⟨f0,f1,f2,f3,f4,f5⟩:=hf it (by simp)
  refine wpAny_pyNext_tuple_item st (show s.heap.IsTuple a its.toArray from p) (x:=u) (by simpa using hu) fun h' st' sb=>?_
  have I1:Inv X pins σ H { s with heap:=h' }:=I.turned (t':=s.toks) (fun b o hb e=>(sb.2 b hb).trans e) f0 f1 f3 f4 f5
  obtain ⟨o,e,c,d⟩:=id st'
  exact ⟨u,rfl,Ziq (s:={ s with heap:=h' }) e c d (by decide) ⟨x,H,I1,ru,⟨rfl,fun ys hy=>by rw [I.tuple_inj hy hq]; exact hx⟩,st',fun b hb=>(hf b hb).1⟩⟩
 done:=by
  intro X hP hw hK hc i pins s σ H E I hf st hg
  subst hP hw hK
  obtain ⟨xs,hq,hx⟩:=hg
  obtain ⟨its,rv,p,hz⟩:=I.tuple hq
  obtain ⟨f0,f1,f2,f3,f4,f5⟩:=hf it (by simp)
  have hl:=rv.length
  exact wpAny_pyNext_tuple_end (I.ok.hd hc) st (show s.heap.IsTuple a its.toArray from p) (by simp; exact lC 2 2268279672881 T1 hl hx) fun h' eb=>⟨rfl,I.turned (t':=s.toks) (fun b o hb e=>eb b o hb e) f0 f1 f3 f4 f5⟩
 self:=fun _ _ _ _ _ st h=>wpAny_pyIter_tupleiter st h
theorem ZhY {P:Program} {w:World} {K:PySem.W.Frag} {tg:Expr} (it:Addr) (lo:Int) (n:Nat):Turn P w K tg (Itr lo n) [it] it (fun i h=>IsRangeIter h it (lo + (i:Nat) * 1) ((n:Int) - (i:Nat)) 1) where
 mem:=by simp
 obj:=fun i h st b hb=>by
  have e:b = it:=by simpa using hb
  subst e
  exact ⟨_,st,fun v z=>by
   have z':Data.fields _ = Data.cell v:=z
   cases z'⟩
 keep:=fun i h h' st k=>k it (by simp) _ st
 item:=by
  intro X hP hw hK hc i pins s σ H E I hf st hg
  subst hP hw hK
  obtain ⟨f0,f1,f2,f3,f4,f5⟩:=hf it (by simp)
  have W:=Walks.range (prog:=X.prog) (w:=X.w) (I.ok.hd hc) it lo 1 n
  refine W.item i s _ _ hg st fun v h' tk hv st' kk=>?_
  obtain ⟨t,rfl⟩:=hv
  have I1:Inv X pins σ H { s with heap:=h',toks:=tk }:=I.turned (fun b o hb e=>kk b o (by simpa using hb) e) f0 f1 f3 f4 f5
  refine ⟨_,rfl,Ziq (s:={ s with heap:=h',toks:=tk }) (n:="range_iterator") st' rfl rfl (by decide) ⟨.int (lo + i),H,I1,⟨t,?_⟩,⟨rfl,rfl⟩,st',fun b hb=>(hf b hb).1⟩⟩
  rw [Int.mul_one]
 done:=by
  intro X hP hw hK hc i pins s σ H E I hf st hg
  subst hP hw hK
  obtain ⟨f0,f1,f2,f3,f4,f5⟩:=hf it (by simp)
  exact wpAny_pyNext_range_end (I.ok.hd hc) st (by have:n ≤ i:=hg; exact iN [_,_] [] 1 0xe1808f81001 T1 this) fun h' eb=>⟨rfl,I.turned (t':=s.toks) (fun b o hb e=>eb b o hb e) f0 f1 f3 f4 f5⟩
 self:=fun _ _ _ _ _ st h=>wpAny_pyIter_rangeiter st h
end L2
namespace L2
open PySem PySem.Spec PyProof.Rows
section
variable {X:Cx} {tg:Expr}
noncomputable def Zot (K:PySem.W.Frag) (tl:TE):TI:=fun σ H R=>tl σ H fun x H1=>∃ a,x = .ref a ∧ (∃ xs,SqL K H1 a xs) ∧ R (Itl K a) H1
noncomputable def ZpM (K:PySem.W.Frag) (tl:TE):TI:=fun σ H R=>tl σ H fun x H1=>∃ a,x = .ref a ∧ (∃ xs,SqT K H1 a xs) ∧ R (Itt K a) H1
theorem ZkN {l:Expr} {tl:TE} (hl:PE X l tl):PI X tg l (Zot X.K tl):=by
 intro pins s σ H R I h
 refine thn (hl pins s σ H _ I h) fun v s1 zz1=>?_
 obtain ⟨x,H1,I1,r1,q1⟩:=zz1
 obtain ⟨a,e,⟨xs,hq⟩,q⟩:=q1
 subst e
 cases r1
 obtain ⟨its,rv,p,hz⟩:=I1.list hq
 refine wpAny_pyIter_list p.isList ?_
 refine ⟨s1.heap.objs.size,[s1.heap.objs.size],_,_,H1,rfl,I1.kept (t':=s1.toks) fun b o e=>Heap.get?_push_of_some _ e,ZiX a _,⟨_,Heap.get?_push_size _ rfl,rfl,rfl⟩,fun b hb=>?_,q⟩
 have e:b = s1.heap.objs.size:=by simpa using hb
 subst e
 exact I1.fpOk (Nat.le_refl _) (I1.hok.fresh (Nat.le_refl _))
theorem Zmy {l:Expr} {tl:TE} (hl:PE X l tl):PI X tg l (ZpM X.K tl):=by
 intro pins s σ H R I h
 refine thn (hl pins s σ H _ I h) fun v s1 zz1=>?_
 obtain ⟨x,H1,I1,r1,q1⟩:=zz1
 obtain ⟨a,e,⟨xs,hq⟩,q⟩:=q1
 subst e
 cases r1
 obtain ⟨its,rv,p,hz⟩:=I1.tuple hq
 refine wpAny_pyIter_tuple (show s1.heap.IsTuple a its.toArray from p) ?_
 refine ⟨s1.heap.objs.size,[s1.heap.objs.size],_,_,H1,rfl,I1.kept (t':=s1.toks) fun b o e=>Heap.get?_push_of_some _ e,Zhv a _,⟨_,Heap.get?_push_size _ rfl,rfl,rfl⟩,fun b hb=>?_,q⟩
 have e:b = s1.heap.objs.size:=by simpa using hb
 subst e
 exact I1.fpOk (Nat.le_refl _) (I1.hok.fresh (Nat.le_refl _))
theorem ZkI {pins:List (Addr × Obj)} {σ:St} {H:Hp} {s:Shared} {R:It → Hp → Prop} {E:Value → Shared → Prop} {lo hi:Int} {t u v:Tok} {tk:Nat} (I:Inv X pins σ H s) (h1:-(2 ^ 62) ≤ lo) (h2:lo < 2 ^ 62) (h3:-(2 ^ 62) ≤ hi) (h4:hi < 2 ^ 62)
  (q:R (Itr lo (hi - lo).toNat) H):wpAny (model X.prog X.w) X.A (pyIter (.ref s.heap.objs.size)) (PIE X pins σ tg R) E { s with heap:=s.heap.push { cls:=.type "range",data:=.fields #[.int lo t,.int hi u,.int 1 v] },toks:=tk }:=by
 refine wpAny_pyIter_range (IsRange.new ..) (small_one h1 h2 h3 h4) ?_
 have I1:Inv X pins σ H { s with heap:=s.heap.push { cls:=.type "range",data:=.fields #[.int lo t,.int hi u,.int 1 v] },toks:=tk }:=I.kept fun b o e=>Heap.get?_push_of_some _ e
 refine ⟨(s.heap.push { cls:=.type "range",data:=.fields #[.int lo t,.int hi u,.int 1 v] }).objs.size,[(s.heap.push { cls:=.type "range",data:=.fields #[.int lo t,.int hi u,.int 1 v] }).objs.size],_,_,H,rfl,
  I1.kept (t':=tk) fun b o e=>Heap.get?_push_of_some _ e,ZhY _ lo (hi - lo).toNat,?_,fun b hb=>?_,q⟩
 ·have e1:lo + ((0:Nat):Int) * 1 = lo:=by simp
  have e2:(((hi - lo).toNat:Nat):Int) - ((0:Nat):Int) = Builtin.Range.rangeSize lo hi 1:=by rw [rangeSize_one]; split <;> omega
  show IsRangeIter _ _ (lo + ((0:Nat):Int) * 1) ((((hi - lo).toNat:Nat):Int) - ((0:Nat):Int)) 1
  rw [e1,e2]
  exact Heap.get?_push_size _ rfl
 ·have e:b = (s.heap.push { cls:=.type "range",data:=.fields #[.int lo t,.int hi u,.int 1 v] }).objs.size:=by simpa using hb
  subst e
  exact I1.fpOk (Nat.le_refl _) (I1.hok.fresh (Nat.le_refl _))
noncomputable def Zn9 (ta:TA):TI:=fun σ H R=>ta σ H fun vs H1=>∃ j:Int,vs = [.int j] ∧ -(2 ^ 62) ≤ j ∧ j < 2 ^ 62 ∧ R (Itr 0 j.toNat) H1
theorem Zi1 {a:Expr} {ta:TA} {p pos:Pos} (hg:Gl X "range") (hm:X.mg "range" = none) (ha:PA X [a] ta) (hs:starEach [a] X.env = [(false,eval a X.env)]:=by rfl):PI X tg (.Call (.Name "range" p) [a] [] pos) (Zn9 ta):=by
 intro pins s σ H R I h
 refine Call_ (Zey I hg hm boot_range (PyProof.Rows.callWith_type1 (thn (ha pos pins s σ H _ I h) fun us s1 zz1=>?_) hs rfl))
 obtain ⟨vs,H1,I1,r1,q1⟩:=zz1
 obtain ⟨j,e,q1,q2,q⟩:=q1
 subst e
 cases r1 with
 | cons r rr=>
  cases rr
  obtain ⟨t,rfl⟩:=r
  exact call_range_1 (ZkI I1 (by omega) (by omega) q1 q2 (by simpa using q))
noncomputable def Zpv (wi:TI) (g:TG) (tb:TS):TS:=fun D σ H=>wi σ H fun J H1=>∃ W:Nat → Nat → St → Hp → Prop,(∃ m,W 0 m σ H1) ∧ ∀ i m σ H,W i m σ H →
 (J.stop i H ∧ D.nx σ H) ∨ (J.go i H ∧ ∃ N:St → Hp → Prop,(∀ σ' H',N σ' H' → ∃ m',m' < m ∧ W (i + 1) m' σ' H') ∧ ∀ x H',J.yld i H x H' → g x σ H' fun σ2 H2=>tb { D with nx:=N,ct:=N,bk:=D.nx } σ2 H2)
noncomputable def ZeY (fp:List Addr) (h:Heap):List (Addr × Obj):=fp.filterMap fun b=>(h.get? b).map fun o=>(b,o)
theorem Zc2 {fp:List Addr} {h:Heap} {b:Addr} {o:Obj} (hb:b ∈ fp) (e:h.get? b = some o):(b,o) ∈ ZeY fp h:=List.mem_filterMap.mpr ⟨b,hb,by rw [e]; rfl⟩
theorem Ziw {fp:List Addr} {h:Heap} {p:Addr × Obj} (hp:p ∈ ZeY fp h):p.1 ∈ fp ∧ h.get? p.1 = some p.2:=by
 obtain ⟨b,hb,e⟩:=List.mem_filterMap.mp hp
 cases q:h.get? b with
 | none=>rw [q] at e; cases e
 | some o=>
  rw [q] at e
  have e':(b,o) = p:=Option.some.inj e
  subst e'
  exact ⟨hb,q⟩
theorem Inv.pinned {pins:List (Addr × Obj)} {σ:St} {H:Hp} {s:Shared} {fp:List Addr} (I:Inv X pins σ H s) (hf:∀ b ∈ fp,Zdw X pins H b) (ho:∀ b ∈ fp,∃ o,s.heap.get? b = some o ∧ ∀ v,o.data ≠ .cell v):Inv X (pins ++ ZeY fp s.heap) σ H s:=
 I.pins_of fun p hp=>(List.mem_append.mp hp).elim (fun z=>I.pin p (List.mem_append_right _ z)) fun z=>by
  obtain ⟨hb,e⟩:=Ziw z
  obtain ⟨f0,f1,f2,_⟩:=hf p.1 hb
  obtain ⟨o,e',d⟩:=ho p.1 hb
  rw [e] at e'; cases e'
  exact ⟨e,f0,f1,f2,d⟩
theorem Inv.unpinned {pins pl:List (Addr × Obj)} {σ:St} {H:Hp} {s:Shared} (I:Inv X (pins ++ pl) σ H s):Inv X pins σ H s:=I.pins_of fun p hp=>I.pin p (List.mem_append_right _ (List.mem_append_left _ hp))
theorem Zkp {iter:Expr} {body:List Stmt} {wi:TI} {g:TG} {tb:TS} {pos:Pos} (hp:PassesOwn (model X.prog X.w) X.A X.env X.xe) (hc:X.calm = true) (hi:PI X tg iter wi) (hg:PG X tg g) (hb:PSs X body tb)
  (hs:∀ x,foldedSetIterable iter X.env x = pure x:=by intro _; rfl):PS X (.For tg iter body [] pos) (Zpv wi g tb):=by
 intro pins s σ H D I h
 refine wpAny_For (thn (hi pins s σ H _ I h) fun v s1 h1=>thn h1 fun itv s2 h2=>?_) hs
 obtain ⟨it,fp,tn,J,H2,e,I2,T,st2,f2,W,⟨m0,w0⟩,turn⟩:=h2
 subst e
 have stat:∀ {H':Hp},(∀ b ∈ fp,H' b = none) → ∀ b ∈ fp,Zdw X pins H' b:=fun hn b hb=>⟨hn b hb,(f2 b hb).2⟩
 refine codeAny_forLoop_any (fun n s'=>∃ i σ' H',Inv X pins σ' H' s' ∧ tn i s'.heap ∧ (∀ b ∈ fp,H' b = none) ∧ W i n σ' H') ?_ m0 ⟨0,σ,H2,I2,st2,fun b hb=>(f2 b hb).1,w0⟩
 rintro n s3 ⟨i,σ3,H3,I3,st3,fr3,w3⟩
 rcases turn i n σ3 H3 w3 with ⟨stop,qn⟩ | ⟨go,N,hN,step⟩
 ·refine wpAny_passesOwn hp (thn (T.done X rfl rfl rfl hc i pins s3 σ3 H3 X.xe I3 (stat fr3) st3 stop) fun r s4 ⟨hr,I4⟩=>?_)
  subst hr
  exact wpAny_execs_nil ⟨σ3,H3,I4,qn⟩
 ·refine wpAny_passesOwn hp (thn (T.item X rfl rfl rfl hc i pins s3 σ3 H3 X.xe I3 (stat fr3) st3 go) fun r s4 ⟨u,hr,h4⟩=>?_)
  subst hr
  refine wpAny_passesOwn hp (thn h4 fun _ s5 zz1=>?_)
  obtain ⟨x,H5,I5,r5,y5,st5,fr5⟩:=zz1
  have I5':=I5.pinned (stat fr5) (T.obj _ _ st5)
  refine wpAny_passesOwn hp (thn (hg _ s5 σ3 H5 x u _ I5' r5 (step x H5 y5)) fun _ s6 zz1=>?_)
  obtain ⟨σ6,H6,I6,q6⟩:=zz1
  refine wpAny_passesOwn hp (thn (hb _ s6 σ6 H6 _ I6 q6) fun f s7 q7=>?_)
  have again:∀ {σ7:St} {H7:Hp},Inv X (pins ++ ZeY fp s5.heap) σ7 H7 s7 → N σ7 H7 → ∃ m,m < n ∧ ∃ i σ' H',Inv X pins σ' H' s7 ∧ tn i s7.heap ∧ (∀ b ∈ fp,H' b = none) ∧ W i m σ' H':=fun {σ7 H7} I7 n7=>by
   obtain ⟨m',hm,w7⟩:=hN σ7 H7 n7
   refine ⟨m',hm,i + 1,σ7,H7,I7.unpinned,T.keep _ _ _ st5 fun b hb o e=>(I7.pin (b,o) (List.mem_append_right _ (List.mem_append_right _ (Zc2 hb e)))).1,fun b hb=>?_,w7⟩
   obtain ⟨o,e,d⟩:=T.obj _ _ st5 b hb
   exact (I7.pin (b,o) (List.mem_append_right _ (List.mem_append_right _ (Zc2 hb e)))).2.1
  cases f with
  | next=>obtain ⟨σ7,H7,I7,n7⟩:=q7; exact again I7 n7
  | cont=>obtain ⟨σ7,H7,I7,n7⟩:=q7; exact again I7 n7
  | brk=>obtain ⟨σ7,H7,I7,q7⟩:=q7; exact ⟨σ7,H7,I7.unpinned,q7⟩
  | ret v=>obtain ⟨x7,σ7,H7,I7,r7,q7⟩:=q7; exact ⟨x7,σ7,H7,I7.unpinned,r7,q7⟩
end
end L2
namespace L2
open PySem PySem.Spec PyProof.Rows
noncomputable abbrev R2:=V → V → Hp → VK → Prop
noncomputable def OpR (X:Cx) (f:Value → Value → Sem Value) (r:R2):Prop:=
 ∀ (pins:List (Addr × Obj)) (s:Shared) (σ:St) (H:Hp) (x y:V) (v u:Value) (Q:VK),Inv X pins σ H s → RelV x v → RelV y u → r x y H Q →
  wpAny (model X.prog X.w) X.A (f v u) (EP X pins σ Q) X.xe s
noncomputable def UnR (X:Cx) (f:Value → Sem Value) (r:V → Hp → VK → Prop):Prop:=
 ∀ (pins:List (Addr × Obj)) (s:Shared) (σ:St) (H:Hp) (x:V) (v:Value) (Q:VK),Inv X pins σ H s → RelV x v → r x H Q →
  wpAny (model X.prog X.w) X.A (f v) (EP X pins σ Q) X.xe s
noncomputable def ZaK (X:Cx) (f:Value) (r:List V → Hp → VK → Prop):Prop:=
 ∀ (pins:List (Addr × Obj)) (s:Shared) (σ:St) (H:Hp) (xs:List V) (us:List Value) (Q:VK),Inv X pins σ H s → Vals xs us → r xs H Q →
  wpAny (model X.prog X.w) X.A (call f us) (EP X pins σ Q) X.xe s
noncomputable def tOp (r:R2) (ta tb:TE):TE:=fun σ H Q=>ta σ H fun x H1=>tb σ H1 fun y H2=>r x y H2 Q
noncomputable def tUn (r:V → Hp → VK → Prop) (ta:TE):TE:=fun σ H Q=>ta σ H fun x H1=>r x H1 Q
noncomputable def rI (C:Int → Int → Prop) (g:Int → Int → V):R2:=fun x y H Q=>∃ i j,x = .int i ∧ y = .int j ∧ C i j ∧ Q (g i j) H
noncomputable def rI0 (g:Int → Int → V):R2:=fun x y H Q=>∃ i j,x = .int i ∧ y = .int j ∧ Q (g i j) H
noncomputable def rU (g:Int → V):V → Hp → VK → Prop:=fun x H Q=>∃ i,x = .int i ∧ Q (g i) H
section
variable {X:Cx} {a b c:Expr} {ta tb tc:TE} {pos:Pos}
theorem ZmI (ha:PE X a ta) (hb:PE X b tb) {pins:List (Addr × Obj)} {s:Shared} {σ:St} {H:Hp} {R:V → V → Hp → Prop} (I:Inv X pins σ H s)
  (h:ta σ H fun x H1=>tb σ H1 fun y H2=>R x y H2) {Q:Value → Shared → Prop} {f:Value → Value → Sem Value}
  (hf:∀ v u s2 x y H2,Inv X pins σ H2 s2 → RelV x v → RelV y u → R x y H2 → wpAny (model X.prog X.w) X.A (f v u) Q X.xe s2):
  wpAny (model X.prog X.w) X.A (eval a X.env) (fun v s₁=>wpAny (model X.prog X.w) X.A (eval b X.env) (fun u s₂=>wpAny (model X.prog X.w) X.A (f v u) Q X.xe s₂) X.xe s₁) X.xe s:=by
 refine thn (ha pins s σ H _ I h) fun v s1 zz1=>?_
 obtain ⟨x,H1,I1,r1,q1⟩:=zz1
 refine thn (hb pins s1 σ H1 _ I1 q1) fun u s2 zz1=>?_
 obtain ⟨y,H2,I2,r2,q2⟩:=zz1
 exact hf v u s2 x y H2 I2 r1 r2 q2
theorem ZoG {op:Operator} {r:R2} (ho:OpR X (binaryOp op) r) (ha:PE X a ta) (hb:PE X b tb):PE X (.BinOp a op b pos) (tOp r ta tb):=by
 intro pins s σ H Q I h
 exact wpAny_BinOp (ZmI ha hb I h fun v u s2 x y H2 I2 rx ry q=>ho pins s2 σ H2 x y v u Q I2 rx ry q)
theorem ZoR {op:UnaryOp} {r:V → Hp → VK → Prop} (ho:UnR X (unaryOp op) r) (ha:PE X a ta):PE X (.UnaryOp op a pos) (tUn r ta):=by
 intro pins s σ H Q I h
 exact UnaryOp_ (thn (ha pins s σ H _ I h) fun v s1 ⟨x,H1,I1,r1,q1⟩=>ho pins s1 σ H1 x v Q I1 r1 q1)
theorem opI {f:Value → Value → Sem Value} {C:Int → Int → Prop} {g:Int → Int → Int}
  (rule:∀ (i j:Int) (t u:Tok) (s:Shared) (Q:Value → Shared → Prop) (E:Value → Shared → Prop),C i j → Q (.int (g i j) s.toks) { s with toks:=s.toks + 1 } → wpAny (model X.prog X.w) X.A (f (.int i t) (.int j u)) Q E s):
  OpR X f (rI C fun i j=>.int (g i j)):=by
 intro pins s σ H x y v u Q I rx ry h
 obtain ⟨i,j,rfl,rfl,hc,q⟩:=h
 obtain ⟨t,rfl⟩:=rx
 obtain ⟨t',rfl⟩:=ry
 exact rule i j t t' s _ _ hc ⟨.int (g i j),H,I.tok _,⟨_,rfl⟩,q⟩
theorem ZoZ {f:Value → Value → Sem Value} {g:Int → Int → Int}
  (rule:∀ (i j:Int) (t u:Tok) (s:Shared) (Q:Value → Shared → Prop) (E:Value → Shared → Prop),Q (.int (g i j) s.toks) { s with toks:=s.toks + 1 } → wpAny (model X.prog X.w) X.A (f (.int i t) (.int j u)) Q E s):
  OpR X f (rI0 fun i j=>.int (g i j)):=by
 intro pins s σ H x y v u Q I rx ry h
 obtain ⟨i,j,rfl,rfl,q⟩:=h
 obtain ⟨t,rfl⟩:=rx
 obtain ⟨t',rfl⟩:=ry
 exact rule i j t t' s _ _ ⟨.int (g i j),H,I.tok _,⟨_,rfl⟩,q⟩
theorem Zmt {f:Value → Value → Sem Value} {g:Int → Int → Bool}
  (rule:∀ (i j:Int) (t u:Tok) (s:Shared) (Q:Value → Shared → Prop) (E:Value → Shared → Prop),Q (.bool (g i j)) s → wpAny (model X.prog X.w) X.A (f (.int i t) (.int j u)) Q E s):
  OpR X f (rI0 fun i j=>.bl (g i j)):=by
 intro pins s σ H x y v u Q I rx ry h
 obtain ⟨i,j,rfl,rfl,q⟩:=h
 obtain ⟨t,rfl⟩:=rx
 obtain ⟨t',rfl⟩:=ry
 exact rule i j t t' s _ _ ⟨.bl (g i j),H,I,rfl,q⟩
noncomputable def Zps (i j:Int):Prop:=0 < j ∧ j < 1073741824
noncomputable def Zpk (i j:Int):Prop:=0 ≤ j ∧ j ≤ 1000000 ∧ i.natAbs < 2 ^ 64
noncomputable def ZnH (i j:Int):Prop:=(-(2 ^ 64) < i ∧ i < 2 ^ 64) ∨ (-(2 ^ 64) < j ∧ j < 2 ^ 64)
theorem ZnH.ok {i j:Int} (h:ZnH i j):IntMulOk i j:=by
 rcases h with ⟨h1,h2⟩ | ⟨h1,h2⟩
 ·exact .of_left (intBits_le_64 h1 h2)
 ·exact .of_right (intBits_le_64 h1 h2)
theorem Znh:OpR X (binaryOp .Add) (rI0 fun i j=>.int (i + j)):=ZoZ fun _ _ _ _ _ _ _ q=>add_int q
theorem ZmW:OpR X (binaryOp .Sub) (rI0 fun i j=>.int (i - j)):=ZoZ fun _ _ _ _ _ _ _ q=>sub_int q
theorem Zne:OpR X (binaryOp .Mult) (rI ZnH fun i j=>.int (i * j)):=opI fun _ _ _ _ _ _ _ hc q=>mul_int q hc.ok
theorem ZlD:OpR X (binaryOp .FloorDiv) (rI Zps fun i j=>.int (i / j)):=opI fun i j _ _ _ _ _ hc q=>by
 have h1:(0:Int) < j:=hc.1
 have h2:j < 1073741824:=hc.2
 exact floordiv_int (by exact fun z=>iN [] [_] 2 26014245025 T1 z h1) (by rw [Int.fdiv_eq_ediv_of_nonneg i (by exact Int.le_of_lt h1)]; exact q) (.inl (PyProof.noPylong_small (by omega)))
theorem Zmh:OpR X (binaryOp .Mod) (rI (fun _ j=>0 < j) fun i j=>.int (i % j)):=opI fun i j _ _ _ _ _ hc q=>by
 have h1:(0:Int) < j:=hc
 exact mod_int' (by exact fun z=>iN [] [_] 2 26014245025 T1 z h1) (by rw [Int.fmod_eq_emod_of_nonneg i (by exact Int.le_of_lt h1)]; exact q)
theorem ZmH:OpR X (binaryOp .Pow) (rI Zpk fun i j=>.int (i ^ j.toNat)):=opI fun _ _ _ _ _ _ _ hc q=>pow_int_small hc.1 hc.2.1 hc.2.2 q
theorem unI {f:Value → Sem Value} {g:Int → Int}
  (rule:∀ (i:Int) (t:Tok) (s:Shared) (Q:Value → Shared → Prop) (E:Value → Shared → Prop),Q (.int (g i) s.toks) { s with toks:=s.toks + 1 } → wpAny (model X.prog X.w) X.A (f (.int i t)) Q E s):
  UnR X f (rU fun i=>.int (g i)):=by
 intro pins s σ H x v Q I rx h
 obtain ⟨i,rfl,q⟩:=h
 obtain ⟨t,rfl⟩:=rx
 exact rule i t s _ _ ⟨.int (g i),H,I.tok _,⟨_,rfl⟩,q⟩
theorem Znj:UnR X (unaryOp .USub) (rU fun i=>.int (-i)):=unI fun _ _ _ _ _ q=>neg_int q
end
section
variable {X:Cx} {a b c:Expr} {ta tb tc:TE} {pos:Pos}
theorem Zh0 {pins:List (Addr × Obj)} {σ:St} {H:Hp} {s:Shared} {Q:VK} {k k':Bool} (I:Inv X pins σ H s) (q:Q (.bl k) H) (e:k = k'):EP X pins σ Q (.bool k') s:=by
 subst e
 exact ⟨.bl k,H,I,rfl,q⟩
theorem Zoo:OpR X (compareOp .Lt) (rI0 fun i j=>.bl (decide (i < j))):=Zmt fun _ _ _ _ _ _ _ q=>lt_int q
theorem Zoh:OpR X (compareOp .Gt) (rI0 fun i j=>.bl (decide (j < i))):=Zmt fun _ _ _ _ _ _ _ q=>gt_int q
theorem Zox:OpR X (compareOp .GtE) (rI0 fun i j=>.bl (decide (j ≤ i))):=Zmt fun _ _ _ _ _ _ _ q=>ge_int q
theorem ZiA:OpR X (compareOp .In) (fun x y H Q=>∃ i j,x = .str i ∧ y = .str j ∧ Q (.bl (!(Builtin.Str.occurrences j i 0 j.length 1).isEmpty)) H):=by
 intro pins s σ H x y v u Q I rx ry h
 obtain ⟨i,j,rfl,rfl,q⟩:=h
 obtain ⟨t,rfl⟩:=rx
 obtain ⟨t',rfl⟩:=ry
 exact in_str (Zh0 I q rfl)
theorem Znu:OpR X (compareOp .Is) (fun x y H Q=>y = .non ∧ Q (.bl (decide (x = .non))) H):=by
 intro pins s σ H x y v u Q I rx ry h
 obtain ⟨rfl,q⟩:=h
 cases ry
 refine is_none_gen (Zh0 I q ?_)
 cases x <;> first
  | (cases rx; rfl)
  | (obtain ⟨t,rfl⟩:=rx; rfl)
theorem Zgz:OpR X (compareOp .NotIn) (fun x y H Q=>∃ i j,x = .str i ∧ y = .str j ∧ Q (.bl (!(!(Builtin.Str.occurrences j i 0 j.length 1).isEmpty))) H):=by
 intro pins s σ H x y v u Q I rx ry h
 obtain ⟨i,j,rfl,rfl,q⟩:=h
 obtain ⟨t,rfl⟩:=rx
 obtain ⟨t',rfl⟩:=ry
 exact notIn_str (Zh0 I q rfl)
theorem OpR.or {f:Value → Value → Sem Value} {r r':R2} (h:OpR X f r) (h':OpR X f r'):OpR X f (fun x y H Q=>r x y H Q ∨ r' x y H Q):=by
 intro pins s σ H x y v u Q I rx ry q
 rcases q with q | q
 ·exact h pins s σ H x y v u Q I rx ry q
 ·exact h' pins s σ H x y v u Q I rx ry q
theorem Zk5 {op:CmpOp} {r:R2} (ho:OpR X (compareOp op) r) (ha:PE X a ta) (hb:PE X b tb) (hm:behindInMarks op b = false):PE X (.Compare a [op] [b] pos) (tOp r ta tb):=by
 intro pins s σ H Q I h
 exact wpAny_Compare1 (ZmI ha hb I h fun v u s2 x y H2 I2 rx ry q=>ho pins s2 σ H2 x y v u Q I2 rx ry q) hm
noncomputable def Zos (t:TE):TT:=fun σ H Q=>t σ H fun x H'=>∃ k,x = .bl k ∧ Q k H'
theorem Zlg {op:CmpOp} {r:R2} (ho:OpR X (compareOp op) r) (ha:PE X a ta) (hb:PE X b tb) (hm:behindInMarks op b = false):PT X (.Compare a [op] [b] pos) (Zos (tOp r ta tb)):=by
 intro pins s σ H Q I h
 refine wpAny_isTrue_Compare1 (thn (ha pins s σ H _ I h) fun v s1 ⟨x,H1,I1,r1,q1⟩=>thn (hb pins s1 σ H1 _ I1 q1) fun u s2 ⟨y,H2,I2,r2,q2⟩=>
  thn (ho pins s2 σ H2 x y v u _ I2 r1 r2 q2) fun c s3 ⟨z,H3,I3,r3,k,e,q3⟩=>?_) hm
 subst e
 cases r3
 exact wpAny_truthy_bool ⟨H3,I3,q3⟩
theorem Zgo:(sizeLine:Nat) < 2 ^ 63:=by rw [sizeLine_eq]; decide
theorem ZhV:OpR X (binaryOp .Add) (fun x y H Q=>∃ i j,x = .str i ∧ y = .str j ∧ i.length + j.length ≤ sizeLine ∧ Q (.str (i ++ j)) H):=by
 intro pins s σ H x y v u Q I rx ry h
 obtain ⟨i,j,rfl,rfl,hz,q⟩:=h
 obtain ⟨t,rfl⟩:=rx
 obtain ⟨t',rfl⟩:=ry
 exact add_str (fun t' tk=>⟨.str (i ++ j),H,I.tok _,⟨_,rfl⟩,q⟩) hz
theorem vals1 {x:V} {us:List Value} (r:Vals [x] us):∃ u,us = [u] ∧ RelV x u:=by
 cases r with
 | cons r1 r2=>cases r2; exact ⟨_,rfl,r1⟩
theorem vals2 {x y:V} {us:List Value} (r:Vals [x,y] us):∃ u w',us = [u,w'] ∧ RelV x u ∧ RelV y w':=by
 cases r with
 | cons r1 r2=>
  cases r2 with
  | cons r3 r4=>cases r4; exact ⟨_,_,rfl,r1,r3⟩
theorem Ziz:ZaK X (.type "int") (fun xs H Q=>(∃ i,xs = [.int i] ∧ Q (.int i) H) ∨ ∃ k,xs = [.bl k] ∧ Q (.int (if k then 1 else 0)) H):=by
 intro pins s σ H xs us Q I r h
 rcases h with ⟨i,rfl,q⟩ | ⟨k,rfl,q⟩
 ·obtain ⟨u,rfl,t,rfl⟩:=vals1 r
  exact call_int_int ⟨.int i,H,I,⟨_,rfl⟩,q⟩
 ·obtain ⟨u,rfl,r1⟩:=vals1 r
  cases r1
  exact call_int_bool ⟨.int (if k then 1 else 0),H,I.tok _,⟨_,rfl⟩,q⟩
theorem Zf0:ZaK X (.type "str") (fun xs H Q=>∃ i,xs = [.int i] ∧ i.natAbs.log2 < 1920 ∧ Q (.str (toString i)) H):=by
 intro pins s σ H xs us Q I r h
 obtain ⟨i,rfl,hz,q⟩:=h
 obtain ⟨u,rfl,t,rfl⟩:=vals1 r
 exact PySem.P.str_of_int hz ⟨.str _,H,I.tok _,⟨_,rfl⟩,q⟩
noncomputable def Zpp (K:PySem.W.Frag) (x:V) (H:Hp) (n:Nat):Prop:=
 match x with
 | .str y=>y.length ≤ sizeLine ∧ n = y.length
 | .byt y=>y.size ≤ sizeLine ∧ n = y.size
 | .ref p=>(∃ xs,SqL K H p xs ∧ n = xs.length) ∨ ∃ xs,SqT K H p xs ∧ n = xs.length
 | _=>False
theorem Zkv:ZaK X (.builtin "len") (fun xs H Q=>∃ x n,xs = [x] ∧ Zpp X.K x H n ∧ Q (.int n) H):=by
 intro pins s σ H xs us Q I r h
 obtain ⟨x,n,rfl,e,q⟩:=h
 obtain ⟨u,rfl,rx⟩:=vals1 r
 have hl:=Zgo
 have hs:sizeLine = 16777216:=sizeLine_eq
 cases x with
 | str y=>
  obtain ⟨t,rfl⟩:=rx
  obtain ⟨hy,e'⟩:y.length ≤ sizeLine ∧ n = y.length:=e
  subst e'
  exact len_str (by omega) ⟨.int _,H,I.tok _,⟨_,rfl⟩,q⟩
 | byt y=>
  obtain ⟨t,rfl⟩:=rx
  obtain ⟨hy,e'⟩:y.size ≤ sizeLine ∧ n = y.size:=e
  subst e'
  exact PySem.W.len_bytes (by omega) ⟨.int _,H,I.tok _,⟨_,rfl⟩,q⟩
 | ref p=>
  cases rx
  have e':(∃ xs,SqL X.K H p xs ∧ n = xs.length) ∨ ∃ xs,SqT X.K H p xs ∧ n = xs.length:=e
  rcases e' with ⟨xs,hx,e'⟩ | ⟨xs,hx,e'⟩
  ·subst e'
   obtain ⟨its,r',pl,hz⟩:=I.list hx
   have hlen:=r'.length
   exact Calls.call_len_list pl.isList (by simp only [List.size_toArray]; omega) ⟨.int xs.length,H,I.tok _,⟨_,by simp only [List.size_toArray]; rw [hlen]⟩,q⟩
  ·subst e'
   obtain ⟨its,r',pl,hz⟩:=I.tuple hx
   have hlen:=r'.length
   exact len_tuple pl (by simp only [List.size_toArray]; omega) ⟨.int xs.length,H,I.tok _,⟨_,by simp only [List.size_toArray]; rw [hlen]⟩,q⟩
 | _=>exact (show False from e).elim
end
end L2
namespace L2
open PySem PySem.Spec PyProof.Rows
structure Znn (h:Heap) (x dx C:Addr) (mA:Str → Option Value):Prop where
 obj:h.get? x = some (PySem.W.instObj C dx)
 ns:h.Ns1 dx mA
 ne:dx ≠ x
theorem Ziy {h:Heap} {dx:Addr} {mA:Str → Option Value} (n:h.Ns1 dx mA):∃ od,h.get? dx = some od ∧ ∀ name,PySem.W.lookIn name od = some (mA name):=by
 obtain ⟨o,es,ep,ho,hd,hk,_,hm⟩:=n
 refine ⟨o,ho,fun name=>?_⟩
 have e:=hm name
 unfold nsFind findBy at e
 rw [← Array.find?_toList] at e
 unfold PySem.W.lookIn
 rw [hd]
 dsimp only
 split
 ·rename_i y q
  rw [q] at e
  exact congrArg some e
 ·rename_i q
  rw [q] at e
  have a:es.toList.any (·.refKey) = false:=by
   rw [List.any_eq_false]
   intro y hy
   obtain ⟨z,t,hkey⟩:=hk y (Array.mem_toList_iff.mp hy)
   simp [DictEntry.refKey,hkey]
  have a':¬ es.toList.any (·.refKey) = true:=by rw [a]; exact Bool.false_ne_true
  rw [if_neg a']
  exact congrArg some e
theorem Znn.look {h:Heap} {x dx C:Addr} {mA:Str → Option Value} (I:Znn h x dx C mA):∃ od,PySem.W.InstAt h x (PySem.W.instObj C dx) C (some od) ∧ ∀ name,PySem.W.lookIn name od = some (mA name):=
 let ⟨od,ho,hl⟩:=Ziy I.ns
 ⟨od,⟨I.obj,rfl,rfl,ho⟩,hl⟩
section
variable {prog:Program} {w:World} {A:Around} {E:Value → Shared → Prop} {s:Shared} {K:PySem.W.Frag} {x dx C f:Addr} {mA:Str → Option Value} {name:Str} {v:Value}
end
noncomputable def Zng (f:Str) (v:V):List (Str × V) → List (Str × V)
 | []=>[(f,v)]
 | (g,x) :: r=>if g = f then (g,v) :: r else (g,x) :: Zng f v r
theorem Zew.some_of {v:V} {o:Option Value} (r:Zew (some v) o):∃ u,o = some u ∧ RelV v u:=by
 cases o with
 | none=>exact (show False from r).elim
 | some u=>exact ⟨u,rfl,r⟩
section
variable {P:Program} {w:World} {H H':Hp} {h h':Heap} {a C dx:Addr} {fs fs':List (Str × V)}
theorem ZkX (hok:HOk P w H h) (e:H a = some (.ins C dx fs)):∃ mA,Znn h a dx C mA ∧ (∀ f,Zew (fs.lookup f) (mA f)) ∧ PySem.Within mA (fs.map (·.1)) ∧ fs.length ≤ 1000 ∧ H dx = some (.own a):=by
 obtain ⟨d,z,ne,ob,mA,n,r,q⟩:=(show ZaP P w H h a (.ins C dx fs) from hok a _ e)
 exact ⟨mA,⟨ob,n,ne⟩,r,q,z,d⟩
end
structure Cls (K:PySem.W.Frag) (C:Addr):Prop where
 pg:PySem.W.plainGet K C Str.empty = true
 hd:PySem.W.hasDictIn K C = true
 po:PySem.W.plainOver K C = true
 sa:PySem.W.findIn K (.ref C) "__setattr__" = some (some (.builtin "object.__setattr__"))
theorem Cls.get {K:PySem.W.Frag} {C:Addr} (c:Cls K C) (f:Str):PySem.W.plainGet K C f = true:=c.pg
section
variable {X:Cx} {pins:List (Addr × Obj)} {σ:St} {H:Hp} {s:Shared} {a C dx:Addr} {fs:List (Str × V)} {f:Str} {v:V} {A:Around} {E:Value → Shared → Prop}
theorem Inv.made (I:Inv X pins σ H s):Inv X pins σ (upd (upd H s.heap.objs.size (.own (s.heap.objs.size + 1))) (s.heap.objs.size + 1) (.ins C s.heap.objs.size []))
  { s with heap:=(s.heap.push PySem.W.emptyDict).push (PySem.W.instObj C s.heap.objs.size) }:=by
 have e1:(s.heap.push PySem.W.emptyDict).get? s.heap.objs.size = some PySem.W.emptyDict:=Heap.get?_push_size s.heap rfl
 have e2:((s.heap.push PySem.W.emptyDict).push (PySem.W.instObj C s.heap.objs.size)).get? (s.heap.objs.size + 1) = some (PySem.W.instObj C s.heap.objs.size):=by
  have:=Heap.get?_push_size (s.heap.push PySem.W.emptyDict) (o:=PySem.W.instObj C s.heap.objs.size) rfl
  rwa [Heap.size_push] at this
 have e3:(s.heap.push PySem.W.emptyDict).Ns s.heap.objs.size (fun _=>none):=⟨PySem.W.emptyDict,#[],_,e1,rfl,(fun e he=>absurd he (by simp)),fun _=>rfl⟩
 have I1:=I.laid (a:=s.heap.objs.size) (o:=.own (s.heap.objs.size + 1)) (h':=s.heap.push PySem.W.emptyDict) (t':=s.toks) (fun b u q=>Heap.get?_push_of_some _ q) (Nat.le_refl _) ⟨_,e1⟩
 refine I1.laid (a:=s.heap.objs.size + 1) (o:=.ins C s.heap.objs.size []) (t':=s.toks) (fun b u q=>Heap.get?_push_of_some _ q) (Nat.le_of_eq (Heap.size_push _ _)) ?_
 have ne:s.heap.objs.size ≠ s.heap.objs.size + 1:=Nat.ne_of_lt (Nat.lt_succ_self _)
 refine ⟨by rw [ZaG ne,Zcd],Nat.zero_le _,ne,e2,fun _=>none,(Heap.Ns1.of_empty e3).at fun o q=>Heap.get?_push_of_some _ q,fun _=>True.intro,fun y hy=>absurd rfl hy⟩
end
section
variable {X:Cx} {o e value:Expr} {f:Str} {pos pos' tpos:Pos} {ta tv:TE}
end
section
variable {X:Cx} {pins:List (Addr × Obj)} {σ:St} {H:Hp} {s:Shared} {A:Around} {E:Value → Shared → Prop} {Q:Value → Shared → Prop} {c:Value} {b:Bool}
inductive ZeN (K:PySem.W.Frag) (H:Hp):V → Value → Prop where
 | non:ZeN K H .non (.type "NoneType")
 | bl (x:Bool):ZeN K H (.bl x) (.type "bool")
 | int (i:Int):ZeN K H (.int i) (.type "int")
 | str (x:Str):ZeN K H (.str x) (.type "str")
 | flt (x:UInt64):ZeN K H (.flt x) (.type "float")
 | lst {a:Addr} {xs:List V} (e:H a = some (.lst xs)):ZeN K H (.ref a) (.type "list")
 | frz {a:Addr} {o:Obj} {xs:List V} (e:H a = some (.frz o (.lst xs))):ZeN K H (.ref a) (.type "list")
 | tup {a:Addr} {xs:List V} (e:H a = some (.tup xs)):ZeN K H (.ref a) (.type "tuple")
 | dK {a:Addr} {kvs:List (Key × V)} (e:H a = some (.dK kvs)):ZeN K H (.ref a) (.type "dict")
 | dT {a:Addr} {kvs:List (List Key × V)} (e:H a = some (.dT kvs)):ZeN K H (.ref a) (.type "dict")
 | ins {a C dx:Addr} {fs:List (Str × V)} (e:H a = some (.ins C dx fs)) (cl:Cls K C) (ha:PySem.W.findIn K (.ref C) "__class__" = some (some (.builtin "object.__class__")))
   (hn:PySem.W.specialIn K (.builtin "object.__class__") "__get__" = some (some (.builtin "getset_descriptor.__get__"))) (htk:PySem.W.takesIn K (.builtin "object.__class__") = some true)
   (hm:PySem.W.mroIn K C (.type "object") = some true):ZeN K H (.ref a) (.ref C)
theorem Zcr {x:V} {u t:Value} (I:Inv X pins σ H s) (rx:RelV x u) (ty:ZeN X.K H x t) (e:PySem.W.kitOne X.K t c = some b) (h:∀ tk,Q (.bool b) { s with toks:=tk }):
  wpAny (model X.prog X.w) A (call (.builtin "isinstance") [u,c]) Q E s:=by
 cases ty with
 | non=>cases (show u = Value.none from rx); exact PySem.W.kia_one PySem.W.kitx_none I.kIn True.intro e (fun z=>nomatch z) h
 | bl y=>cases (show u = Value.bool y from rx); exact PySem.W.kia_one PySem.W.kitx_bool I.kIn True.intro e (fun z=>nomatch z) h
 | int i=>obtain ⟨t,q⟩:=(show ∃ t,u = Value.int i t from rx); cases q; exact PySem.W.kia_one PySem.W.kitx_int I.kIn True.intro e (fun z=>nomatch z) h
 | str y=>obtain ⟨t,q⟩:=(show ∃ t,u = Value.str y t from rx); cases q; exact PySem.W.kia_one PySem.W.kitx_str I.kIn True.intro e (fun z=>nomatch z) h
 | flt y=>obtain ⟨t,q⟩:=(show ∃ t,u = Value.float y t from rx); cases q; exact PySem.W.kia_one PySem.W.kitx_float I.kIn True.intro e (fun z=>nomatch z) h
 | @lst a xs ea=>
  cases (show u = Value.ref a from rx)
  obtain ⟨_,_,n,_,h1⟩:=(show ZaP X.prog X.w H s.heap a (.lst xs) from I.hok a _ ea)
  exact PySem.W.kia_one PySem.W.kitx_list I.kIn ⟨_,h1,rfl⟩ e (fun z=>nomatch z) h
 | @frz a ob xs ea=>
  cases (show u = Value.ref a from rx)
  obtain ⟨_,_,_,n,_,h1⟩:=(show ZaP X.prog X.w H s.heap a (.frz ob (.lst xs)) from I.hok a _ ea)
  exact PySem.W.kia_one PySem.W.kitx_list I.kIn ⟨_,h1,rfl⟩ e (fun z=>nomatch z) h
 | @tup a xs ea=>
  cases (show u = Value.ref a from rx)
  obtain ⟨_,_,_,p⟩:=(show ZaP X.prog X.w H s.heap a (.tup xs) from I.hok a _ ea)
  obtain ⟨o,h1,h2,_⟩:=p
  exact PySem.W.kia_one PySem.W.kitx_tuple I.kIn ⟨o,h1,h2.1⟩ e (fun z=>nomatch z) h
 | @dK a kvs ea=>
  cases (show u = Value.ref a from rx)
  obtain ⟨_,_,vs,_,p⟩:=(show ZaP X.prog X.w H s.heap a (.dK kvs) from I.hok a _ ea)
  obtain ⟨o,es,ep,h1,h2,_⟩:=p
  exact PySem.W.kia_one PySem.W.kitx_dict I.kIn ⟨o,h1,h2.1⟩ e (fun z=>nomatch z) h
 | @dT a kvs ea=>
  cases (show u = Value.ref a from rx)
  obtain ⟨_,_,xs,_,o,es,ep,h1,h2,_⟩:=(show ZaP X.prog X.w H s.heap a (.dT kvs) from I.hok a _ ea)
  exact PySem.W.kia_one PySem.W.kitx_dict I.kIn ⟨o,h1,h2.1⟩ e (fun z=>nomatch z) h
 | @ins a C dx fs ea cl ha hn htk hm=>
  cases (show u = Value.ref a from rx)
  obtain ⟨mA,O,_⟩:=ZkX I.hok ea
  obtain ⟨od,J,_⟩:=O.look
  exact PySem.W.kia_one (PySem.W.kitx_own (cl.get _) cl.hd ha hn htk hm) I.kIn J e (fun z=>nomatch z) h
end
end L2
namespace L2
open PySem PySem.Spec PyProof.Rows
structure Zcf (k:Nat) (A:Around):Prop where
 hd:A.handled = none
 dp:A.depth + 3 * k + 5 < recursionLimit
 un:A.units + 16 * k + 200 < cLine
theorem Zcf.mono {j k:Nat} {A:Around} (r:Zcf k A) (h:j ≤ k):Zcf j A:=⟨r.hd,by have:=r.dp; exact lD 2 0x251b303d0cc11303251b103d0cc11 T1 this h,by have:=r.un; omega⟩
theorem Zcf.deeper {k:Nat} {A:Around} (r:Zcf (k + 1) A) (env:Env):Zcf k (A.deeper env):=
 ⟨r.hd,by have:=r.dp; show A.depth + 1 + 3 * k + 5 < _; exact lC 1 0x251b103da0ccc1251ba1c03d0cc11 T1 this,by have:=r.un; show A.units + 3 + 16 * k + 200 < _; exact lC 1 0x2c82b110d31b0ccc12c82ba1c10d0cc11 T1 this⟩
theorem Zcf.in1 {k:Nat} {A:Around} (r:Zcf (k + 1) A):Zcf k A.in1:=
 ⟨r.hd,by have:=r.dp; show A.depth + 3 * k + 5 < _; exact lC 1 0x251b103d0cc1251ba1c03d0cc11 T1 this,by have:=r.un; show A.units + 1 + 16 * k + 200 < _; exact lC 1 0x2c82b110da0ccc12c82ba1c10d0cc11 T1 this⟩
theorem Zcf.depth {k:Nat} {A:Around} (r:Zcf k A):A.depth < recursionLimit:=by have:=r.dp; exact lC 1 0x201251b103d0cc11 T1 this
theorem Zcf.units {k:Nat} {A:Around} (r:Zcf k A):A.units + 64 < cLine:=by have:=r.un; exact lC 1 0x2402b0c12c82b110d0cc11 T1 this
noncomputable def Zo4:TA:=fun _ H Q=>Q [] H
noncomputable def ZlU (ta:TE) (tr:TA):TA:=fun σ H Q=>ta σ H fun x H1=>tr σ H1 fun xs H2=>Q (x :: xs) H2
section
variable {X:Cx} {e:Expr} {es:List Expr} {te:TE} {t:TA} {pos:Pos}
theorem Zkk:PA X [] Zo4:=fun _ _ _ _ H Q I h=>Calls.spliced_nil ⟨[],H,I,.nil,h⟩
theorem Zgy (ha:PE X e te) (hr:PA X es t) (hs:starEach (e :: es) X.env = (false,eval e X.env) :: starEach es X.env:=by rfl):PA X (e :: es) (ZlU te t):=by
 intro pos pins s σ H Q I h
 rw [hs]
 show wpAny _ _ (spliced ((false,eval e X.env) :: backTo pos (starEach es X.env))) _ _ s
 refine Calls.spliced_cons (thn (ha pins s σ H _ I h) fun u s1 zz1=>?_)
 obtain ⟨x,H1,I1,r1,q1⟩:=zz1
 exact thn (hr pos pins s1 σ H1 _ I1 q1) fun us s2 ⟨xs,H2,I2,r2,q2⟩=>⟨x :: xs,H2,I2,.cons r1 r2,q2⟩
noncomputable def ZpI (t:TA):TE:=fun σ H Q=>t σ H fun xs H1=>xs.length ≤ sizeLine ∧ ∀ p,H1 p = none → Q (.ref p) (upd H1 p (.tup xs))
noncomputable def Zph (t:TA):TE:=fun σ H Q=>t σ H fun xs H1=>xs.length ≤ sizeLine ∧ ∀ p,H1 p = none → Q (.ref p) (upd H1 p (.lst xs))
theorem Znt {x1} (h:PA X es t):PE X (.Tuple es x1 pos) (ZpI t):=by
 intro pins s σ H Q I hq
 refine wpAny_Tuple_spliced (thn (h pos pins s σ H _ I hq) fun us s1 ⟨xs,H1,I1,r,z,q⟩=>⟨by rw [← r.length]; exact z,?_⟩)
 have hf:H1 s1.heap.objs.size = none:=I1.hok.fresh (Nat.le_refl _)
 refine ⟨.ref s1.heap.objs.size,upd H1 s1.heap.objs.size (.tup xs),I1.laid (t':=s1.toks) (fun b u e=>Heap.get?_push_of_some _ e) (Nat.le_refl _) ?_,rfl,q _ hf⟩
 exact ⟨z,us,r,⟨_,Heap.get?_push_size _ rfl,⟨rfl,rfl⟩,_,rfl⟩⟩
theorem Znw (h:PA X es t):PE X (.List es pos) (Zph t):=by
 intro pins s σ H Q I hq
 refine wpAny_List_spliced (thn (h pos pins s σ H _ I hq) fun us s1 ⟨xs,H1,I1,r,z,q⟩=>⟨by rw [← r.length]; exact z,?_⟩)
 have hf:H1 s1.heap.objs.size = none:=I1.hok.fresh (Nat.le_refl _)
 refine ⟨.ref s1.heap.objs.size,upd H1 s1.heap.objs.size (.lst xs),I1.laid (t':=s1.toks) (fun b u e=>Heap.get?_push_of_some _ e) (Nat.le_refl _) ?_,rfl,q _ hf⟩
 exact ⟨z,us,0,r,Heap.get?_push_size _ rfl⟩
end
noncomputable abbrev Sp:=List V → Hp → VK → XK → Prop
noncomputable abbrev CXT:=List Env → Hp → Shared → XK → Value → Shared → Prop
structure ZhB (P:Program) (w:World) (K:PySem.W.Frag) (mg:Str → Option Value) (base:Heap) (A:Around) (outer:List Env) (s:Shared) (H:Hp):Prop where
 frames:A.frames = some outer
 mod:Mod K mg base
 bs:∀ b o,base.get? b = some o → s.heap.get? b = some o ∧ H b = none
 bsz:base.objs.size ≤ s.heap.objs.size
 funs:s.heap.FunFrames base outer
 frf:∀ b ∈ frs outer,H b = none
 hok:HOk P w H s.heap
 bare:AllBare s.gens
noncomputable def CE (outer:List Env) (P:Program) (w:World) (H:Hp) (s:Shared) (Q:VK) (u:Value) (s':Shared):Prop:=
 ∃ v H',s'.os = s.os ∧ AllBare s'.gens ∧ Un (frs outer) [] H H' s.heap s'.heap ∧ HOk P w H' s'.heap ∧ RelV v u ∧ Q v H'
noncomputable def CR (CX:CXT) (outer:List Env) (P:Program) (w:World) (H:Hp) (s:Shared) (Q:VK) (E:XK) (r:Result) (s':Shared):Prop:=
 match r with
 | .ok (.ret u)=>CE outer P w H s Q u s'
 | .ok _=>False
 | .error e=>CX outer H s E e s'
structure ZcH (P:Program) (w:World) (K:PySem.W.Frag) (mg:Str → Option Value) (base:Heap) (CX:CXT) (k:Nat) (f:Addr) (fd:FuncData) (ps:List Str) (sp:Sp):Prop where
 len:∀ vs H Q E,sp vs H Q E → vs.length = ps.length
 run:∀ (A:Around) (outer:List Env) (s:Shared) (H:Hp) (args:Args) (us:List Value) (vs:List V) (Q:VK) (E:XK),Zcf k A → ZhB P w K mg base A outer s H → BindsTo s fd args (ps.zip us) → Vals vs us → sp vs H Q E →
  codeAny (model P w) A (.call (.ref f) args) (CR CX outer P w H s Q E) s
theorem ZcH.mono {P:Program} {w:World} {K:PySem.W.Frag} {mg:Str → Option Value} {base:Heap} {CX:CXT} {j k:Nat} {f:Addr} {fd:FuncData} {ps:List Str} {sp:Sp} (F:ZcH P w K mg base CX j f fd ps sp) (h:j ≤ k):
  ZcH P w K mg base CX k f fd ps sp:=⟨F.len,fun A outer s H args us vs Q E hr=>F.run A outer s H args us vs Q E (hr.mono h)⟩
theorem ZcH.imp {P:Program} {w:World} {K:PySem.W.Frag} {mg:Str → Option Value} {base:Heap} {CX:CXT} {k:Nat} {f:Addr} {fd:FuncData} {ps:List Str} {sp sp':Sp} (F:ZcH P w K mg base CX k f fd ps sp)
  (h:∀ vs H Q E,sp' vs H Q E → sp vs H Q E):ZcH P w K mg base CX k f fd ps sp':=
 ⟨fun vs H Q E q=>F.len vs H Q E (h _ _ _ _ q),fun A outer s H args us vs Q E hr he hb hv hs=>F.run A outer s H args us vs Q E hr he hb hv (h _ _ _ _ hs)⟩
theorem ZhB.in1 {P:Program} {w:World} {K:PySem.W.Frag} {mg:Str → Option Value} {base:Heap} {A:Around} {outer:List Env} {s:Shared} {H:Hp} (e:ZhB P w K mg base A outer s H):
  ZhB P w K mg base A.in1 outer s H:=⟨e.frames,e.mod,e.bs,e.bsz,e.funs,e.frf,e.hok,e.bare⟩
section
variable {X:Cx} {pins:List (Addr × Obj)} {σ:St} {H:Hp} {s s':Shared}
theorem Inv.env0 (I:Inv X pins σ H s):ZhB X.prog X.w X.K X.mg X.base X.A X.stack s H:=
 ⟨I.ok.frames,I.ok.mod,I.bs,Nat.le_trans I.ok.bsz I.sz,I.stack,I.stkFree,I.hok,I.bare⟩
theorem Inv.after {Q:VK} {u:Value} (I:Inv X pins σ H s) (h:CE X.stack X.prog X.w H s Q u s'):EP X pins σ Q u s':=by
 obtain ⟨v,H',os,bare,un,hok,r,q⟩:=h
 obtain ⟨hh,g,d,t,os'⟩:=s'
 obtain rfl:os' = s.os:=os
 exact ⟨v,H',I.call (h':=hh) (g':=g) (d':=d) (t':=t) (ch:=[]) un hok bare (fun b z=>absurd z (by simp)),r,q⟩
end
noncomputable def Zn7 (sp:Sp) (dvs:List V) (E:XK) (t:TA):TE:=fun σ H Q=>t σ H fun vs H1=>sp (vs ++ dvs) H1 Q E
noncomputable def Binds (K:PySem.W.Frag) (fd:FuncData) (ps:List Str) (ds:List Value):Prop:=
 ∀ (s:Shared) (us:List Value),K.In s.heap → (us ++ ds).length = ps.length → BindsTo s fd ⟨us,[]⟩ (ps.zip (us ++ ds))
theorem Binds.all {K:PySem.W.Frag} {fd:FuncData} {ps:List Str} (h:∀ us:List Value,us.length = ps.length → bindArgs fd ⟨us,[]⟩ = pure (ps.zip us)):Binds K fd ps []:=fun s us _ hl=>by
 rw [List.append_nil] at hl ⊢
 exact .of_eq (h us hl)
noncomputable def ZhW (CX:CXT) (X:Cx) (E:XK):Prop:=∀ (pins:List (Addr × Obj)) (σ:St) (H:Hp) (s:Shared) (e:Value) (s':Shared),Inv X pins σ H s → CX X.stack H s E e s' → X.xe e s'
section
variable {X:Cx} {CX:CXT} {k:Nat} {f C:Addr} {fd:FuncData} {ps:List Str} {sp:Sp} {dvs:List V} {ds:List Value} {E:XK} {x m:Str} {p pos apos:Pos} {e o:Expr} {es:List Expr} {ta:TE} {t:TA}
theorem ZmX {pins:List (Addr × Obj)} {σ:St} {H:Hp} {s:Shared} {Q:VK} {us:List Value} {vs:List V} (F:ZcH X.prog X.w X.K X.mg X.base CX k f fd ps sp) (hr:Zcf k X.A) (hb:Binds X.K fd ps ds) (hd:Vals dvs ds) (hx:ZhW CX X E)
  (I:Inv X pins σ H s) (r:Vals vs us) (h:sp (vs ++ dvs) H Q E):wpAny (model X.prog X.w) X.A (call (.ref f) us) (EP X pins σ Q) X.xe s:=by
 have r2:Vals (vs ++ dvs) (us ++ ds):=r.append hd
 have hl:(us ++ ds).length = ps.length:=by rw [← r2.length]; exact F.len _ _ _ _ h
 refine wpAny_call (codeAny_mono (F.run X.A X.stack s H ⟨us,[]⟩ (us ++ ds) (vs ++ dvs) Q E hr I.env0 (hb s us I.kIn hl) r2 h) fun r s' hq=>?_)
 cases r with
 | error e=>exact hx pins σ H s e s' I hq
 | ok fl=>
  cases fl with
  | ret u=>exact I.after hq
  | next=>exact False.elim hq
  | brk=>exact False.elim hq
  | cont=>exact False.elim hq
theorem ZlG (F:ZcH X.prog X.w X.K X.mg X.base CX k f fd ps sp) (hr:Zcf k X.A) (hg:Gl X x) (hm:X.mg x = some (.ref f)) (hk:PySem.W.keepIn X.K (.ref f) = true) (hb:Binds X.K fd ps ds) (hd:Vals dvs ds) (hx:ZhW CX X E)
  (ha:PA X (e :: es) t) (hdb:(x == ("__debug__":Str)) = false:=by decide) (he:starEach (e :: es) X.env = (false,eval e X.env) :: starEach es X.env:=by rfl) (hpl:(backTo pos (starEach es X.env)).any (·.1) = false:=by rfl):
  PE X (.Call (.Name x p) (e :: es) [] pos) (Zn7 sp dvs E t):=by
 intro pins s σ H Q I h
 refine wpAny_Call_Name_kw (Zh4 I hg hm ?_ hdb)
 refine PySem.W.callWith_K (h₀:=X.base) I.ok.mod.kin hk (thn (ha pos pins s σ H _ I h) fun us s1 ⟨vs,H1,I1,r,q⟩=>⟨I1.kIn,?_⟩) he hpl
 exact ZmX F hr hb hd hx I1 r q
end
noncomputable def PK (X:Cx) (kws:List Keyword) (t:TA):Prop:=
 ∀ (pos:Pos) (pins:List (Addr × Obj)) (s:Shared) (σ:St) (H:Hp) (Q:List V → Hp → Prop),Inv X pins σ H s → t σ H Q → wpAny (model X.prog X.w) X.A (evalAll ((backToKw pos (keywordEach kws X.env)).map (·.2))) (AP X pins σ Q) X.xe s
section
variable {X:Cx} {CX:CXT} {k:Nat} {f C:Addr} {fd:FuncData} {ps ks:List Str} {sp:Sp} {E:XK} {x m:Str} {p pos apos kpos:Pos} {e o:Expr} {es:List Expr} {kws:List Keyword} {te ta:TE} {t tk:TA} {nm:Option Str}
theorem ZnA:PK X [] Zo4:=fun _ _ _ _ H Q I h=>wpAny_evalAll_nil ⟨[],H,I,.nil,h⟩
theorem ZlH (ha:PE X e te) (hr:PK X kws t):PK X (⟨nm,e,kpos⟩ :: kws) (ZlU te t):=by
 intro pos pins s σ H Q I h
 show wpAny _ _ (evalAll ((do let v ← eval e X.env; standAt pos; pure v) :: (backToKw pos (keywordEach kws X.env)).map (·.2))) _ _ s
 refine wpAny_evalAll_cons (wpAny_bind (thn (ha pins s σ H _ I h) fun u s1 ⟨x,H1,I1,r1,q1⟩=>wpAny_bind (wpAny_standAt (wpAny_pure ?_))))
 exact thn (hr pos pins s1 σ H1 _ I1 q1) fun us s2 ⟨xs,H2,I2,r2,q2⟩=>⟨x :: xs,H2,I2,.cons r1 r2,q2⟩
structure Zm9 (K:PySem.W.Frag) (fd:FuncData) (ps ks:List Str) (g:List Value → List Value → List Value) (gV:List V → List V → List V):Prop where
 to:∀ (s:Shared) (us ws:List Value),K.In s.heap → (g us ws).length = ps.length → BindsTo s fd ⟨us,ks.zip ws⟩ (ps.zip (g us ws))
 rel:∀ {vs:List V} {us:List Value} {zs:List V} {ws:List Value},Vals vs us → Vals zs ws → Vals (gV vs zs) (g us ws)
variable {g:List Value → List Value → List Value} {gV:List V → List V → List V}
end
structure ZaE (N P:List Str) (sc:Scope):Prop where
 kind:sc.kind = .function
 co:sc.isCoroutine = false
 gen:sc.isGenerator = false
 nd:N.Nodup
 pre:N.take P.length = P
 par:∀ x ∈ P,sc.names.lookup x = some .local ∨ sc.names.lookup x = some .cell
 nofree:∀ y ∈ sc.names,y.2 ≠ .free
theorem ZfF {kindOf:Str → Option NameKind} {x:Str}:∀ {binds:List (Str × Value)} {m:Str → Option Value},(∀ v,(x,v) ∉ binds) → bindL kindOf binds m x = m x
 | [],_,_=>rfl
 | (n,v) :: r,m,h=>by
  unfold bindL
  rw [ZfF fun w hw=>h w (List.mem_cons_of_mem _ hw)]
  split
  ·have:x ≠ n:=by rintro rfl; exact h v List.mem_cons_self
   simp [this]
  ·rfl
theorem ZfD {kindOf:Str → Option NameKind} {x:Str}:∀ {binds:List (Str × Value)} {m:Str → Option Value},(∀ v,(x,v) ∉ binds) → bindC kindOf binds m x = m x
 | [],_,_=>rfl
 | (n,v) :: r,m,h=>by
  unfold bindC
  rw [ZfD fun w hw=>h w (List.mem_cons_of_mem _ hw)]
  split
  ·rfl
  ·have:x ≠ n:=by rintro rfl; exact h v List.mem_cons_self
   simp [this]
theorem ZfJ {kindOf:Str → Option NameKind} {x:Str} {v:Value}:∀ {P:List Str} {vs:List Value} {i:Nat} {m:Str → Option Value},P.Nodup → P[i]? = some x → vs[i]? = some v → kindOf x = some .local →
  bindL kindOf (P.zip vs) m x = some v
 | [],_,_,_,_,h,_,_=>by simp at h
 | _ :: _,[],_,_,_,_,h,_=>by simp at h
 | p :: P,w :: vs,0,m,nd,h1,h2,hk=>by
  simp at h1 h2; subst h1; subst h2
  show bindL kindOf ((p,w) :: P.zip vs) m p = _
  unfold bindL
  rw [ZfF fun v hv=>(List.nodup_cons.mp nd).1 (List.of_mem_zip hv).1,if_pos hk]
  simp
 | p :: P,w :: vs,i + 1,m,nd,h1,h2,hk=>by
  show bindL kindOf ((p,w) :: P.zip vs) m x = _
  unfold bindL
  exact ZfJ (i:=i) (List.nodup_cons.mp nd).2 (by simpa using h1) (by simpa using h2) hk
theorem ZfQ {kindOf:Str → Option NameKind} {x:Str} {v:Value}:∀ {P:List Str} {vs:List Value} {i:Nat} {m:Str → Option Value},P.Nodup → P[i]? = some x → vs[i]? = some v → kindOf x ≠ some .local →
  bindC kindOf (P.zip vs) m x = some v
 | [],_,_,_,_,h,_,_=>by simp at h
 | _ :: _,[],_,_,_,_,h,_=>by simp at h
 | p :: P,w :: vs,0,m,nd,h1,h2,hk=>by
  simp at h1 h2; subst h1; subst h2
  show bindC kindOf ((p,w) :: P.zip vs) m p = _
  unfold bindC
  rw [ZfD fun v hv=>(List.nodup_cons.mp nd).1 (List.of_mem_zip hv).1,if_neg hk]
  simp
 | p :: P,w :: vs,i + 1,m,nd,h1,h2,hk=>by
  show bindC kindOf ((p,w) :: P.zip vs) m x = _
  unfold bindC
  exact ZfQ (i:=i) (List.nodup_cons.mp nd).2 (by simpa using h1) (by simpa using h2) hk
noncomputable def start (N:List Str) (vs:List V):St:=vs.map some ++ List.replicate (N.length - vs.length) none
noncomputable def Zhk (CX:CXT) (P:Program) (w:World) (K:PySem.W.Frag) (mg:Str → Option Value) (base:Heap) (N:List Str) (qual:Str) (scope:Scope) (f:Addr) (cd:Value) (A:Around) (outer:List Env) (s:Shared) (H:Hp) (E:XK):Cx where
 prog:=P
 w:=w
 K:=K
 mg:=mg
 base:=base
 A:=A.deeper (envOfC qual scope s.heap.objs.size f cd)
 N:=N
 s₀:=s
 H₀:=H
 env:=envOfC qual scope s.heap.objs.size f cd
 outer:=outer
 stack:=envOfC qual scope s.heap.objs.size f cd :: outer
 ex:=[]
 calm:=true
 fn:=fun _=>true
 pn:=[]
 xe:=fun e s'=>wpAny (model P w) (A.deeper (envOfC qual scope s.heap.objs.size f cd)) (leaving (envOfC qual scope s.heap.objs.size f cd) e) (fun _ s''=>CX outer H s E e s'') (fun e' s''=>CX outer H s E e' s'') s'
theorem Zg0 {sc:Scope} {n:Nat} {x:Str} (h:sc.names.lookup x = some .cell):∃ c,(cellsFrom n sc.names []).lookup x = some c:=by
 have q:=PySem.W.cellsFrom_some sc.names n [] (.inl h)
 exact Option.isSome_iff_exists.mp q
theorem Zjg {CX:CXT} {P:Program} {w:World} {K:PySem.W.Frag} {mg:Str → Option Value} {base:Heap} {N ps:List Str} {qual:Str} {scope:Scope} {f:Addr} {cd:Value} {A:Around} {outer:List Env} {s s1:Shared} {H:Hp} {E:XK} {us:List Value} {vs:List V}
  (S:ZaE N ps scope) (hd:A.handled = none) (e0:ZhB P w K mg base A outer s H) (hl:vs.length = ps.length) (r:Vals vs us)
  (x:InCallC s s.heap.objs.size (bindL (envOfC qual scope s.heap.objs.size f cd).kindOf (ps.zip us) fun _=>none) (cellsFrom (s.heap.objs.size + 1) scope.names []) (bindC (envOfC qual scope s.heap.objs.size f cd).kindOf (ps.zip us) fun _=>none) s1):
  Inv (Zhk CX P w K mg base N qual scope f cd A outer s H E) [] (start N vs) H s1:=by
 have hpl:ps.length ≤ N.length:=by have:=congrArg List.length S.pre; rw [List.length_take] at this; omega
 obtain ⟨h1,tk,rfl,hk⟩:=x.done
 have noA:∀ b:Addr,b ∉ (Zhk CX P w K mg base N qual scope f cd A outer s H E).ex:=fun b z=>absurd (show b ∈ ([]:List Addr) from z) (by simp)
 refine ⟨⟨e0.mod,S.kind,rfl,rfl,Nat.le_refl _,fun y z c h1 h2=>?_,fun y hy=>?_,fun y c _ h=>?_,fun _=>hd,Around.frames_deeper e0.frames,.inr ⟨rfl,rfl⟩,fun b z=>absurd z (noA b),e0.bs,e0.bsz,fun b _ _=>noA b,fun b z=>absurd z (noA b),e0.funs,e0.frf⟩,
  rfl,e0.bare,Un.kept hk,⟨_,x.toInCall.ns,fun i y v h1 h2 h3=>?_⟩,fun y c h=>⟨_,x.cell y c h⟩,e0.hok.fresh (Nat.le_refl _),fun y c h=>?_,fun p hp=>absurd (show p ∈ ([]:List (Addr × Obj)) from hp) (by simp),e0.hok.kept hk,?_⟩
 ·exact name_of_addr x.apart (PySem.mem_of_lookup h1) (PySem.mem_of_lookup h2)
 ·have hy:scope.names.lookup y = some .cell ∨ scope.names.lookup y = some .free:=hy
  rcases hy with hy | hy
  ·exact Zg0 hy
  ·exact absurd rfl (S.nofree _ (PySem.mem_of_lookup hy))
 ·exact Nat.le_of_lt (x.above y c (PySem.mem_of_lookup h))
 ·have hi:i < vs.length:=by
   unfold start at h2
   by_cases hi:i < vs.length
   ·exact hi
   ·rw [List.getElem?_append_right (by simpa using hi)] at h2
    rw [List.getElem?_replicate] at h2
    split at h2 <;> cases h2
  have ha:vs[i]? = some v:=by
   unfold start at h2
   rw [List.getElem?_append_left (by simpa using hi),List.getElem?_map] at h2
   cases e:vs[i]? with
   | none=>rw [e] at h2; cases h2
   | some a=>rw [e] at h2; cases h2; rfl
  obtain ⟨u,hu,rv⟩:=r.get ha
  have hp:ps[i]? = some y:=by
   rw [← S.pre,List.getElem?_take_of_lt (by exact lC 2 2203874037777 T1 hi hl)]; exact h1
  have ndP:ps.Nodup:=by rw [← S.pre]; exact S.nd.sublist (List.take_sublist _ _)
  refine ⟨u,rv,?_⟩
  rcases S.par y (List.mem_of_getElem? hp) with k | k
  ·exact .inl ⟨k,ZfJ ndP hp hu k⟩
  ·obtain ⟨c,e⟩:=Zg0 (n:=s.heap.objs.size + 1) k
   refine .inr ⟨.inl k,c,e,?_⟩
   have q:=x.cell y c e
   rw [ZfQ ndP hp hu (by show scope.names.lookup y ≠ _; rw [k]; decide)] at q
   exact q
 ·exact e0.hok.fresh (Nat.le_of_lt (x.above y c (PySem.mem_of_lookup h)))
 ·unfold start
  show _ = N.length
  rw [List.length_append,List.length_map,List.length_replicate]
  exact Nat.le_antisymm (lC 1 2206541614113 T1 (Nat.sub_add_cancel (lC 2 1236986302465 T1 hpl hl))) (lC 1 1288492400641 T1 (sbA _ _))
theorem ZoB {CX:CXT} {P:Program} {w:World} {K:PySem.W.Frag} {mg:Str → Option Value} {base:Heap} {k:Nat} {f:Addr} {name qual:Str} {params:Arguments} {body:List Stmt} {scope:Scope} {dV kV doc pm cdv ct oc:Value} {an od:Option Addr}
  {osl:Array (Option Value)} {N ps:List Str} {sp:Sp} (lk:K.lookup f = some ⟨oc,od,.func (PySem.W.fnOf name qual params body scope dV kV doc pm an cdv ct),osl⟩) (hcd:PySem.W.codeIn K cdv qual = true) (S:ZaE N ps scope)
  (len:∀ vs H Q E,sp vs H Q E → vs.length = ps.length)
  (hbody:∀ (A:Around) (outer:List Env) (s:Shared) (H:Hp) (vs:List V) (Q:VK) (E:XK),Zcf k (A.deeper (envOfC qual scope s.heap.objs.size f cdv)) → sp vs H Q E →
   ∃ t,PSs (Zhk CX P w K mg base N qual scope f cdv A outer s H E) body t ∧ t { nx:=fun _ H'=>Q .non H',rt:=Q } (start N vs) H):
  ZcH P w K mg base CX (k + 1) f (PySem.W.fnOf name qual params body scope dV kV doc pm an cdv ct) ps sp:=by
 refine ⟨len,fun A outer s H args us vs Q E hr e0 hb r hsp=>?_⟩
 have hl:=len _ _ _ _ hsp
 have KX:K.In s.heap:=e0.mod.kin.keeps fun b o e=>(e0.bs b o e).1
 have lim:s.heap.NoLimit:=e0.mod.nolimit.keeps fun b o e=>(e0.bs b o e).1
 have hkind:∀ y ∈ ps.zip us,scope.names.lookup y.1 = some .local ∨ (scope.names.lookup y.1 = some .cell ∧ ((cellsFrom (s.heap.objs.size + 1) scope.names []).lookup y.1).isSome = true):=fun ⟨n,v⟩ hy=>by
  rcases S.par n (List.of_mem_zip hy).1 with q | q
  ·exact .inl q
  ·exact .inr ⟨q,PySem.W.cellsFrom_some _ _ _ (.inl q)⟩
 refine codeAny_call_function hr.depth (KX _ _ lk) rfl S.co S.gen rfl (PySem.W.codeRec_of KX hcd) (hb _ _ _ _ ?_)
 refine wpAny_newFunctionEnv_cells S.kind hkind fun env he s1 x=>?_
 subst he
 refine ⟨lim.keeps x.toInCall.keep,codeAny_func ?_⟩
 obtain ⟨t,ht,hq⟩:=hbody A outer s H vs Q E (hr.deeper _) hsp
 have I:Inv (Zhk CX P w K mg base N qual scope f cdv A outer s H E) [] (start N vs) H s1:=Zjg S hr.hd e0 hl r x
 refine wpAny_mono (ht [] s1 (start N vs) H _ I hq) (fun fl s' hs=>?_) fun e s' hs=>hs
 have fin:∀ {σ':St} {H':Hp} {v:V} {u:Value},Inv (Zhk CX P w K mg base N qual scope f cdv A outer s H E) [] σ' H' s' → RelV v u → Q v H' → CE outer P w H s Q u s':=
  fun {σ' H' v u} J rv q=>⟨v,H',J.os,J.bare,J.base,J.hok,rv,q⟩
 cases fl with
 | ret u=>
  obtain ⟨v,σ',H',J,rv,q⟩:=hs
  exact fin J rv q
 | next=>
  obtain ⟨σ',H',J,q⟩:=hs
  exact fin (v:=V.non) (u:=Value.none) J rfl q
 | brk=>
  obtain ⟨_,_,_,q⟩:=hs
  exact False.elim q
 | cont=>
  obtain ⟨_,_,_,q⟩:=hs
  exact False.elim q
end L2
namespace L2
open PySem PySem.Spec PyProof.Rows
section
variable {X:Cx} {x:Str} {p pos:Pos} {e:Expr} {es:List Expr} {t:TA} {id T:String} {r:List V → Hp → VK → Prop}
noncomputable def tCB (r:List V → Hp → VK → Prop) (t:TA):TE:=fun σ H Q=>t σ H fun vs H1=>r vs H1 Q
theorem ZgY (hc:ZaK X (.builtin id) r) (hg:Gl X x) (hm:X.mg x = none) (hv:bootBuiltins x = some (.builtin id)) (ha:PA X (e :: es) t) (hn:x ≠ "__name__":=by decide) (hdb:(x == ("__debug__":Str)) = false:=by decide)
  (he:starEach (e :: es) X.env = (false,eval e X.env) :: starEach es X.env:=by rfl) (hpl:(backTo pos (starEach es X.env)).any (·.1) = false:=by rfl):PE X (.Call (.Name x p) (e :: es) [] pos) (tCB r t):=by
 intro pins s σ H Q I h
 refine wpAny_Call_Name_kw (Zey I hg hm hv ?_ hn hdb)
 exact PyProof.Rows.callWith_builtin1 (thn (ha pos pins s σ H _ I h) fun us s1 ⟨vs,H1,I1,r1,q1⟩=>hc pins s1 σ H1 vs us Q I1 r1 q1) he hpl
theorem ZiB (hc:ZaK X (.type T) r) (hg:Gl X x) (hm:X.mg x = none) (hv:bootBuiltins x = some (.type T)) (ha:PA X (e :: es) t) (hn:x ≠ "__name__":=by decide) (hdb:(x == ("__debug__":Str)) = false:=by decide)
  (he:starEach (e :: es) X.env = (false,eval e X.env) :: starEach es X.env:=by rfl) (hpl:(backTo pos (starEach es X.env)).any (·.1) = false:=by rfl):PE X (.Call (.Name x p) (e :: es) [] pos) (tCB r t):=by
 intro pins s σ H Q I h
 refine wpAny_Call_Name_kw (Zey I hg hm hv ?_ hn hdb)
 exact PyProof.Rows.callWith_type1 (thn (ha pos pins s σ H _ I h) fun us s1 ⟨vs,H1,I1,r1,q1⟩=>hc pins s1 σ H1 vs us Q I1 r1 q1) he hpl
end
end L2
namespace HT
open PySem PyProof.Rows
section
open PySem.SeqAt
open PySem.AutoSeq1 (wpAny_loadPart')
open PySem.MeetsSeq PySem.MeetsSeq2 PySem.MeetsSeq3
end
section
variable {prog:Program} {w:World} {A:Around} {E:Value → Shared → Prop} {s:Shared}
theorem cat_tup {t b:Addr} {vs ws:List Value} {Q:Value → Shared → Prop} (ht:IsTup s.heap t vs.toArray) (hb:IsTup s.heap b ws.toArray) (hv:vs ≠ [])
  (h1:ws = [] → Q (.ref t) s) (h2:ws ≠ [] → Q (.ref s.heap.objs.size) { s with heap:=s.heap.push { cls:=.type "tuple",data:=.seq (vs ++ ws).toArray } })
  (hsz:vs.length + ws.length ≤ sizeLine):wpAny (model prog w) A (binaryOp .Add (.ref t) (.ref b)) Q E s:=by
 obtain ⟨⟨cls,dd,data,sl⟩,ho,hc,n,hd⟩:=id ht
 obtain ⟨⟨cls2,dd2,data2,sl2⟩,ho2,hc2,n2,hd2⟩:=id hb
 simp only at hc hd hc2 hd2
 subst hc hd hc2 hd2
 have e:vs.toArray ++ ws.toArray = (vs ++ ws).toArray:=by simp
 by_cases hw:ws = []
 ·exact concat_meets ⟨_,ho,rfl⟩ ⟨_,ho2,rfl⟩ noFill_tuple_add seq_tuple_add PySem.F.slot_tuple_add PySem.F.entry_tuple_add (PySem.F.args_tuple_add_2 _ _)
   (tuple_addW1 t b vs.toArray ws.toArray n n2 dd dd2 sl sl2 (by simpa using hv) (by simp [hw])) ⟨ho,ho2,h1 hw⟩
 ·refine concat_meets ⟨_,ho,rfl⟩ ⟨_,ho2,rfl⟩ noFill_tuple_add seq_tuple_add PySem.F.slot_tuple_add PySem.F.entry_tuple_add (PySem.F.args_tuple_add_2 _ _)
   (tuple_addW2 t b vs.toArray ws.toArray n n2 dd dd2 sl sl2 (by simpa using hv) (by simpa using hw) (by rw [List.size_toArray,List.size_toArray]; exact hsz)) ⟨ho,ho2,?_⟩
  rw [e]
  exact h2 hw
noncomputable def sIx (n d:Nat):Option Int → Nat
 | none=>d
 | some v=>if v < 0 then (v + (n:Int)).toNat else min v.toNat n
theorem Zff (n d:Nat):sIx n d none = d:=rfl
theorem ZfX (n d k:Nat):sIx n d (some (k:Int)) = min k n:=by
 show (if (k:Int) < 0 then ((k:Int) + (n:Int)).toNat else min (k:Int).toNat n) = min k n
 rw [if_neg (Int.not_lt.2 (Int.natCast_nonneg _)),Int.toNat_natCast]
theorem Zgc (n d:Nat) (hd:d ≤ n) (o:Option Int):sIx n d o ≤ n:=by
 cases o with
 | none=>exact hd
 | some v=>
  show (if v < 0 then (v + (n:Int)).toNat else min v.toNat n) ≤ n
  by_cases hv:v < 0
  ·rw [if_pos hv]; omega
  ·rw [if_neg hv]; exact Nat.min_le_right _ _
theorem Zib (v:Int) (n d:Nat):(if v < 0 then max (v + (n:Int)) 0 else min v (n:Int)) = ((sIx n d (some v):Nat):Int):=by
 show (if v < 0 then max (v + (n:Int)) 0 else min v (n:Int)) = (((if v < 0 then (v + (n:Int)).toNat else min v.toNat n):Nat):Int)
 by_cases hv:v < 0
 ·simp only [if_pos hv]; exact clA _
 ·simp only [if_neg hv]; exact clB _ _ hv
theorem ZhQ (lo hi:Option Int) (n:Nat):Builtin.Slice.sliceAdjust lo hi 1 (n:Int) = (((sIx n 0 lo:Nat):Int),((sIx n n hi:Nat):Int)):=by
 have h1:¬ ((1:Int) < 0):=by decide
 unfold Builtin.Slice.sliceAdjust
 simp only [h1,if_false]
 refine Prod.ext ?_ ?_
 ·cases lo with
  | none=>rfl
  | some v=>exact Zib v n 0
 ·cases hi with
  | none=>rfl
  | some v=>exact Zib v n n
theorem Zhm (i j:Nat):Builtin.Slice.slicePlaces (i:Int) (j:Int) 1 = j - i:=by
 unfold Builtin.Slice.slicePlaces
 have h1:(1:Int) > 0:=by decide
 simp only [h1,if_true,Int.ediv_one]
 split <;> omega
theorem Ze1 {v:Value} {o:Option Int} {Q:Option Int → Shared → Prop} (p:IsPart v o) (h:Q o s):wpAny (model prog w) A (Builtin.Slice.slicePartIndex v) Q E s:=by
 cases p with
 | none=>exact slicePart_none h
 | int i t=>exact slicePart_int h
theorem sliceApplied_gen {sl:Addr} {vl vu:Value} {lo hi:Option Int} {n:Nat} {Q:Int × Int × Nat → Shared → Prop} (hs:s.heap.IsSliceOf sl vl vu .none) (pl:IsPart vl lo) (pu:IsPart vu hi)
  (h:Q (((sIx n 0 lo:Nat):Int),1,sIx n n hi - sIx n 0 lo) s):wpAny (model prog w) A (Builtin.Slice.sliceApplied (.ref sl) (pure (n:Int))) Q E s:=by
 obtain ⟨os,hos,hcs,hds⟩:=id hs
 unfold Builtin.Slice.sliceApplied Builtin.Slice.sliceFields
 refine wpAny_bind (wpAny_bind (wpAny_field hos hds (x:=vl) rfl (wpAny_bind (wpAny_field hos hds (x:=vu) rfl (wpAny_bind (wpAny_field hos hds (x:=.none) rfl (wpAny_pure ?_)))))))
 refine wpAny_bind (slicePart_none ?_)
 show wpAny _ _ (if ((1:Int) == 0) = true then _ else _) _ _ s
 rw [if_neg (by decide)]
 refine wpAny_bind (Ze1 pl (wpAny_bind (Ze1 pu (wpAny_bind (wpAny_pure ?_)))))
 show wpAny _ _ (match Builtin.Slice.sliceAdjust lo hi 1 (n:Int) with | (lo,hi)=>pure (lo,(1:Int),Builtin.Slice.slicePlaces lo hi 1)) _ _ s
 rw [ZhQ lo hi n]
 show wpAny _ _ (pure (((sIx n 0 lo:Nat):Int),(1:Int),Builtin.Slice.slicePlaces ((sIx n 0 lo:Nat):Int) ((sIx n n hi:Nat):Int) 1)) _ _ s
 rw [Zhm]
 exact wpAny_pure h
theorem Zj9 (xs:Array Value) (i k:Nat):((List.range k).filterMap fun (m:Nat)=>xs[((i:Int) + (m:Int) * 1).toNat]?).toArray = ((xs.toList.drop i).take k).toArray:=by
 have e:(fun (m:Nat)=>xs[((i:Int) + (m:Int) * 1).toNat]?) = fun m=>xs[i + m]?:=by
  funext m
  have:((i:Int) + (m:Int) * 1).toNat = i + m:=by omega
  rw [this]
 rw [e]
 have:=pick_run xs i k
 rw [List.filterMap_map] at this
 have e2:((fun x=>xs[x]?) ∘ fun x=>i + x) = fun m=>xs[i + m]?:=rfl
 rw [e2] at this
 rw [this]
theorem getItem_tuple_cut {t sl:Addr} {items:Array Value} {vl vu:Value} {lo hi:Option Int} {Q:Value → Shared → Prop} (ht:IsTup s.heap t items) (hs:s.heap.IsSliceOf sl vl vu .none) (pl:IsPart vl lo) (pu:IsPart vu hi)
  (hw:¬ (sIx items.size 0 lo = 0 ∧ sIx items.size items.size hi = items.size))
  (h:Q (.ref s.heap.objs.size) { s with heap:=s.heap.push { cls:=.type "tuple",data:=.seq ((items.toList.drop (sIx items.size 0 lo)).take (sIx items.size items.size hi - sIx items.size 0 lo)).toArray } })
  (hsz:items.size ≤ sizeLine):wpAny (model prog w) A (getItem (.ref t) (.ref sl)) Q E s:=by
 have htake:sizeOk (.seq ((items.toList.drop (sIx items.size 0 lo)).take (sIx items.size items.size hi - sIx items.size 0 lo)).toArray):=by
  show ((items.toList.drop (sIx items.size 0 lo)).take (sIx items.size items.size hi - sIx items.size 0 lo)).toArray.size ≤ sizeLine
  rw [List.size_toArray,List.length_take,List.length_drop,Array.length_toList]
  exact lD 3 85606880155602945 T1 hsz (Nat.sub_le _ _) (Nat.min_le_right _ _)
 have hj:sIx items.size items.size hi ≤ items.size:=Zgc _ _ (Nat.le_refl _) hi
 obtain ⟨os,hos,hcs,hds⟩:=id hs
 have hTs:s.TypeIs (.ref sl) "slice":=⟨os,hos,hcs⟩
 unfold getItem
 try with_reducible refine wpAny_holding ?_
 first | refine wpAny_bind (wpAny_pure ?_) | skip
 refine wpAny_bind (wpAny_sequenceKey ht.typeIs (by decide) ?_)
 refine wpAny_bind (wpAny_callSpecial?_slot (name:=Str.ofString "__getitem__") ht.typeIs PyProof.Rows.slot_tuple_getitem
  (wpAny_call_entry PyProof.Rows.slot_tuple_getitem ht.typeIs entry_tuple_getitem ?_ (args_tuple_getitem _ _)))
 show wpAny _ _ (Builtin.Tuple.tupleItemsOf (.ref t) >>= _) _ _ s
 refine wpAny_bind (tupleItemsOf_ ht ?_)
 refine wpAny_bind (wpAny_typeOf hTs ?_)
 rw [if_pos (by decide)]
 refine wpAny_bind (sliceApplied_gen hs pl pu ?_)
 have hno:¬ ((((sIx items.size 0 lo:Nat):Int) == 0 && (1:Int) == 1 && (sIx items.size items.size hi - sIx items.size 0 lo) == items.size) = true):=by
  intro q
  rw [Bool.and_eq_true,Bool.and_eq_true] at q
  have q1:((sIx items.size 0 lo:Nat):Int) = 0:=eq_of_beq q.1.1
  have q2:sIx items.size items.size hi - sIx items.size 0 lo = items.size:=eq_of_beq q.2
  exact hw ⟨by exact Nat.le_antisymm (iN [_] [] 1 3759016097 T1 q1) (Nat.zero_le _),by exact Nat.le_antisymm hj (lC 2 2268279672881 T1 q2 (Nat.sub_le _ _))⟩
 show wpAny _ _ (if (((sIx items.size 0 lo:Nat):Int) == 0 && (1:Int) == 1 && (sIx items.size items.size hi - sIx items.size 0 lo) == items.size) = true then _ else _) _ _ s
 rw [if_neg hno,Zj9]
 first
  | exact wpAny_bind (m:=Builtin.Tuple.tupleExact _) (wpAny_newObj_type (wpAny_pure ⟨_,rfl,wpAny_pure h⟩) htake)
  | exact wpAny_bind (m:=Builtin.Tuple.tupleExact _) (wpAny_newObj_type (wpAny_bind (wpAny_pure (wpAny_pure ⟨_,rfl,wpAny_pure h⟩))) htake)
  | exact wpAny_bind (wpAny_bind (m:=Builtin.Tuple.tupleExact _) (wpAny_newObj_type (wpAny_pure (wpAny_pure ⟨_,rfl,wpAny_pure h⟩)) htake))
  | exact wpAny_bind (wpAny_bind (m:=Builtin.Tuple.tupleExact _) (wpAny_newObj_type (wpAny_pure ⟨_,rfl,wpAny_pure h⟩) htake))
end
end HT
namespace L2
open PySem PySem.Spec PyProof.Rows
noncomputable abbrev TO:=St → Hp → (Option Int → Hp → Prop) → Prop
noncomputable def PO (X:Cx) (e:Option Expr) (t:TO):Prop:=
 ∀ (pins:List (Addr × Obj)) (s:Shared) (σ:St) (H:Hp) (Q:Option Int → Hp → Prop),Inv X pins σ H s → t σ H Q →
  wpAny (model X.prog X.w) X.A (evalPart e X.env) (fun u s'=>∃ o H',Inv X pins σ H' s' ∧ IsPart u o ∧ Q o H') X.xe s
noncomputable def ZkZ:TO:=fun _ H Q=>Q none H
noncomputable def Zon (t:TE):TO:=fun σ H Q=>t σ H fun x H1=>∃ i,x = .int i ∧ Q (some i) H1
section
variable {X:Cx} {e:Expr} {te:TE} {lo hi:Option Expr} {tl th:TO} {pos p2:Pos}
theorem Zly:PO X none ZkZ:=by
 intro pins s σ H Q I h
 rw [evalPart_none]
 exact wpAny_pure ⟨none,H,I,.none,h⟩
theorem Zk6 (h:PE X e te):PO X (some e) (Zon te):=by
 intro pins s σ H Q I hw
 rw [evalPart_some]
 refine thn (h pins s σ H _ I hw) fun u s1 zz1=>?_
 obtain ⟨x,H1,I1,r1,q1⟩:=zz1
 obtain ⟨i,rfl,q⟩:=q1
 obtain ⟨t,rfl⟩:=r1
 exact ⟨some i,H1,I1,.int i t,q⟩
noncomputable def SlR (X:Cx) (r:V → Option Int → Option Int → Hp → VK → Prop):Prop:=
 ∀ (pins:List (Addr × Obj)) (s:Shared) (σ:St) (H:Hp) (x:V) (v vl vu:Value) (lo hi:Option Int) (sl:Addr) (Q:VK),Inv X pins σ H s → RelV x v → s.heap.IsSliceOf sl vl vu .none → IsPart vl lo → IsPart vu hi → r x lo hi H Q →
  ∃ T id,typeLookup (.type T) "__getitem__" = pure (some (.builtin id)) ∧ s.TypeIs v T ∧ wpAny (model X.prog X.w) X.A (getItem v (.ref sl)) (EP X pins σ Q) X.xe s
theorem SlR.or {r r':V → Option Int → Option Int → Hp → VK → Prop} (h:SlR X r) (h':SlR X r'):SlR X (fun x lo hi H Q=>r x lo hi H Q ∨ r' x lo hi H Q):=by
 intro pins s σ H x v vl vu lo hi sl Q I rx hs pl pu q
 rcases q with q | q
 ·exact h pins s σ H x v vl vu lo hi sl Q I rx hs pl pu q
 ·exact h' pins s σ H x v vl vu lo hi sl Q I rx hs pl pu q
noncomputable def tSl (r:V → Option Int → Option Int → Hp → VK → Prop) (te:TE) (tl th:TO):TE:=fun σ H Q=>te σ H fun x H1=>tl σ H1 fun l H2=>th σ H2 fun u H3=>r x l u H3 Q
theorem Zj3 {r:V → Option Int → Option Int → Hp → VK → Prop} (hr:SlR X r) (he:PE X e te) (hl:PO X lo tl) (hu:PO X hi th):PE X (.Subscript e (.Slice lo hi none p2) pos) (tSl r te tl th):=by
 intro pins s σ H Q I h
 refine Subscript_ (thn (he pins s σ H _ I h) fun v s1 zz1=>?_)
 obtain ⟨x,H1,I1,r1,q1⟩:=zz1
 refine wpAny_Slice (thn (hl pins s1 σ H1 _ I1 q1) fun vl s2 ⟨l,H2,I2,pl,q2⟩=>thn (hu pins s2 σ H2 _ I2 q2) fun vu s3 zz1=>?_)
 obtain ⟨u,H3,I3,pu,q3⟩:=zz1
 rw [evalPart_none]
 refine wpAny_pure ?_
 have I4:Inv X pins σ H3 { s3 with heap:=s3.heap.push { cls:=.type "slice",data:=.fields #[vl,vu,.none] } }:=I3.kept (t':=s3.toks) fun b ob q=>Heap.get?_push_of_some _ q
 obtain ⟨T,id,hT,ht,hg⟩:=hr pins { s3 with heap:=s3.heap.push { cls:=.type "slice",data:=.fields #[vl,vu,.none] } } σ H3 x v vl vu l u s3.heap.objs.size Q I4 r1 (Heap.IsSliceOf.new ..) pl pu q3
 show wpAny (model X.prog X.w) X.A (subscriptTail e (.Slice lo hi none p2) v (.ref s3.heap.objs.size)) (EP X pins σ Q) X.xe { s3 with heap:=s3.heap.push { cls:=.type "slice",data:=.fields #[vl,vu,.none] } }
 exact tail_any (ops:=[.ref s3.heap.objs.size,v]) ht hT hg (by with_unfolding_all rfl)
noncomputable def Zg9 (xs:List V) (lo hi:Option Int):List V:=(xs.drop (HT.sIx xs.length 0 lo)).take (HT.sIx xs.length xs.length hi - HT.sIx xs.length 0 lo)
theorem ZeC (xs:List V) (lo hi:Option Int):(Zg9 xs lo hi).length ≤ xs.length:=by
 unfold Zg9
 rw [List.length_take,List.length_drop]
 exact Nat.le_trans (Nat.min_le_right _ _) (Nat.sub_le _ _)
noncomputable def Zpw (K:PySem.W.Frag):V → Option Int → Option Int → Hp → VK → Prop:=fun x lo hi H Q=>∃ a xs,x = .ref a ∧ SqT K H a xs ∧
 ¬ (HT.sIx xs.length 0 lo = 0 ∧ HT.sIx xs.length xs.length hi = xs.length) ∧ ∀ p,H p = none → Q (.ref p) (upd H p (.tup (Zg9 xs lo hi)))
theorem Zgw:SlR X (Zpw X.K):=by
 intro pins s σ H x v vl vu lo hi sl Q I rx hs pl pu h
 obtain ⟨a,xs,rfl,hx,hw,q⟩:=h
 cases rx
 obtain ⟨its,r,ht,hz⟩:=I.tuple hx
 have hlen:its.toArray.size = xs.length:=by rw [List.size_toArray]; exact r.length.symm
 refine ⟨"tuple",_,PyProof.Rows.slot_tuple_getitem.lookup,ht.typeIs,?_⟩
 refine HT.getItem_tuple_cut ht hs pl pu (by rw [hlen]; exact hw) ?_ (by rw [hlen]; exact hz)
 rw [hlen]
 refine ⟨.ref s.heap.objs.size,_,I.laid (t':=s.toks) (o:=.tup (Zg9 xs lo hi)) (fun b ob q=>Heap.get?_push_of_some _ q) (Nat.le_refl _) ?_,rfl,q _ (I.hok.fresh (Nat.le_refl _))⟩
 exact ⟨Nat.le_trans (ZeC xs lo hi) hz,_,(r.drop (HT.sIx xs.length 0 lo)).take (HT.sIx xs.length xs.length hi - HT.sIx xs.length 0 lo),ZcL.new _ _⟩
noncomputable def Zoj (K:PySem.W.Frag):R2:=fun x y H Q=>∃ a b xs ys,x = .ref a ∧ y = .ref b ∧ SqT K H a xs ∧ SqT K H b ys ∧ xs ≠ [] ∧ xs.length + ys.length ≤ sizeLine ∧
 (ys = [] → Q (.ref a) H) ∧ (ys ≠ [] → ∀ p,H p = none → Q (.ref p) (upd H p (.tup (xs ++ ys))))
theorem Vals.nil_iff {xs:List V} {us:List Value} (r:Vals xs us):us = [] ↔ xs = []:=by
 cases r with
 | nil=>simp
 | cons _ _=>simp
theorem ZlM:OpR X (binaryOp .Add) (Zoj X.K):=by
 intro pins s σ H x y v u Q I rx ry h
 obtain ⟨a,b,xs,ys,rfl,rfl,ha,hb,hx,hz,q1,q2⟩:=h
 cases rx
 cases ry
 obtain ⟨its,r1,p1,_⟩:=I.tuple ha
 obtain ⟨its2,r2,p2,_⟩:=I.tuple hb
 refine HT.cat_tup p1 p2 (fun z=>hx (r1.nil_iff.mp z)) (fun z=>⟨.ref a,H,I,rfl,q1 (r2.nil_iff.mp z)⟩) (fun z=>?_) (by rw [← r1.length,← r2.length]; exact hz)
 refine ⟨.ref s.heap.objs.size,_,I.laid (t':=s.toks) (o:=.tup (xs ++ ys)) (fun b ob q=>Heap.get?_push_of_some _ q) (Nat.le_refl _) ?_,rfl,q2 (fun w=>z (r2.nil_iff.mpr w)) _ (I.hok.fresh (Nat.le_refl _))⟩
 exact ⟨by rw [List.length_append]; exact hz,_,r1.append r2,ZcL.new _ _⟩
end
end L2
namespace L2
open PySem PySem.Spec PyProof.Rows
noncomputable def ixN (n:Nat) (i:Int):Option Nat:=if 0 ≤ i then (if i < n then some i.toNat else none) else if -(n:Int) ≤ i then some (i + n).toNat else none
noncomputable def atI {α:Type} (xs:List α) (i:Int):Option α:=(ixN xs.length i).bind fun j=>xs[j]?
theorem Zk8 {n:Nat} {i:Int} {j:Nat} (h:ixN n i = some j):seqIndex? i n = some j ∧ j < n ∧ -(n:Int) ≤ i ∧ i < n:=by
 unfold ixN at h
 by_cases h0:0 ≤ i
 ·rw [if_pos h0] at h
  by_cases h1:i < n
  ·rw [if_pos h1] at h
   have e:i.toNat = j:=Option.some.inj h
   exact ⟨by rw [seqIndex_of h0 h1,e],by exact iN [_,_,_] [_] 3 0x211008a1280911031 T1 e h1 (Int.toNat_of_nonneg h0),by exact iN [_] [_] 1 144182913 T1 h0,h1⟩
  ·rw [if_neg h1] at h; cases h
 ·rw [if_neg h0] at h
  by_cases h1:-(n:Int) ≤ i
  ·rw [if_pos h1] at h
   have e:(i + n).toNat = j:=Option.some.inj h
   exact ⟨by rw [seqIndex_neg (by exact Int.not_le.1 h0) h1,e],by exact iN [_,_,_] [_] 3 0x211280c08a10ec11031 T1 e h0 (Int.toNat_of_nonneg (iN [_] [_] 1 8851524979073 T1 h1)),h1,by exact iN [_] [_] 1 134811329 T1 h0⟩
  ·rw [if_neg h1] at h; cases h
theorem Zf4 {α:Type} {xs:List α} {i:Int} {v:α} (h:atI xs i = some v):∃ j,seqIndex? i xs.length = some j ∧ xs[j]? = some v ∧ j < xs.length ∧ -(xs.length:Int) ≤ i ∧ i < xs.length:=by
 unfold atI at h
 cases e:ixN xs.length i with
 | none=>rw [e] at h; cases h
 | some j=>
  rw [e] at h
  obtain ⟨h1,h2,h3,h4⟩:=Zk8 e
  exact ⟨j,h1,h,h2,h3,h4⟩
noncomputable def Zin (b:Expr):Prop:=∀ o i,subscripted b false o i = operate [o,i] (getItem o i)
noncomputable def IxR (X:Cx) (r:R2):Prop:=
 ∀ (value slice:Expr) (pins:List (Addr × Obj)) (s:Shared) (σ:St) (H:Hp) (x y:V) (v u:Value) (Q:VK),Inv X pins σ H s → RelV x v → RelV y u → r x y H Q →
  subscripted slice false v u = operate [v,u] (getItem v u) → wpAny (model X.prog X.w) X.A (subscriptTail value slice v u) (EP X pins σ Q) X.xe s
noncomputable def MtR (X:Cx) (id:String) (r:V → List V → Hp → VK → Prop):Prop:=
 ∀ (pins:List (Addr × Obj)) (s:Shared) (σ:St) (H:Hp) (x:V) (xs:List V) (v:Value) (us:List Value) (Q:VK),Inv X pins σ H s → RelV x v → Vals xs us → r x xs H Q →
  wpAny (model X.prog X.w) X.A (call (.builtin id) (v :: us)) (EP X pins σ Q) X.xe s
section
variable {X:Cx} {a b:Expr} {ta tb:TE} {pos:Pos}
theorem IxR.or {r r':R2} (h:IxR X r) (h':IxR X r'):IxR X (fun x y H Q=>r x y H Q ∨ r' x y H Q):=by
 intro value slice pins s σ H x y v u Q I rx ry q hs
 rcases q with q | q
 ·exact h value slice pins s σ H x y v u Q I rx ry q hs
 ·exact h' value slice pins s σ H x y v u Q I rx ry q hs
theorem ZoO {r:R2} (hr:IxR X r) (ha:PE X a ta) (hb:PE X b tb) (hs:Zin b):PE X (.Subscript a b pos) (tOp r ta tb):=by
 intro pins s σ H Q I h
 exact Subscript_ (ZmI ha hb I h fun v u s2 x y H2 I2 rx ry q=>hr a b pins s2 σ H2 x y v u Q I2 rx ry q (hs _ _))
noncomputable def ZoX (K:PySem.W.Frag):R2:=fun x y H Q=>∃ p xs i v,x = .ref p ∧ y = .int i ∧ SqL K H p xs ∧ atI xs i = some v ∧ Q v H
noncomputable def Zoe (K:PySem.W.Frag):R2:=fun x y H Q=>∃ p xs i v,x = .ref p ∧ y = .int i ∧ SqT K H p xs ∧ atI xs i = some v ∧ Q v H
noncomputable def Zof:R2:=fun x y H Q=>∃ z i c,x = .str z ∧ y = .int i ∧ z.length ≤ sizeLine ∧ atI z.cps.toList i = some c ∧ Q (.str ⟨#[c]⟩) H
theorem ZlK:IxR X (ZoX X.K):=by
 intro value slice pins s σ H x y v u Q I rx ry h hs
 obtain ⟨p,xs,i,z,rfl,rfl,hq,he,q⟩:=h
 cases rx
 obtain ⟨t,rfl⟩:=ry
 obtain ⟨its,r,pl,hz⟩:=I.list hq
 obtain ⟨j,h1,h2,h3,h4,h5⟩:=Zf4 he
 obtain ⟨w,ew,rw'⟩:=r.get h2
 have hl:=r.length
 have hn:=Zgo
 have fin:EP X pins σ Q w s:=⟨z,H,I,rw',q⟩
 by_cases h0:0 ≤ i
 ·have hj:i.toNat = j:=by
   rw [seqIndex_of h0 h5] at h1
   exact Option.some.inj h1
  exact item_listR pl.isList h0 (by omega) (by rw [hj]; simpa using ew) fin hs
 ·have hj:(i + (its.toArray.size:Int)).toNat = j:=by
   rw [seqIndex_neg (by exact Int.not_le.1 h0) h4] at h1
   rw [List.size_toArray,← hl]
   exact Option.some.inj h1
  exact subscriptTail_builtinR (x:=w) pl.isList.typeIs slot_list_getitem.lookup
   (wpAny_getItem_list_neg (Q:=fun r s'=>r = w ∧ EP X pins σ Q r s') pl.isList (by exact Int.not_le.1 h0) (by rw [List.size_toArray] <;> exact iN [_,_] [_] 2 6922527515414561 T1 hl h4) (by omega) (by rw [hj]; simpa using ew) ⟨rfl,fin⟩) hs
theorem ZmJ:IxR X (Zoe X.K):=by
 intro value slice pins s σ H x y v u Q I rx ry h hs
 obtain ⟨p,xs,i,z,rfl,rfl,hq,he,q⟩:=h
 cases rx
 obtain ⟨t,rfl⟩:=ry
 obtain ⟨its,r,pl,hz⟩:=I.tuple hq
 obtain ⟨j,h1,h2,h3,h4,h5⟩:=Zf4 he
 obtain ⟨w,ew,rw'⟩:=r.get h2
 have hl:=r.length
 have hn:=Zgo
 have fin:EP X pins σ Q w s:=⟨z,H,I,rw',q⟩
 exact subscriptTail_builtinR (x:=w) pl.typeIs slot_tuple_getitem.lookup
  (getItem_tuple (j:=j) (Q:=fun r s'=>r = w ∧ EP X pins σ Q r s') pl (by omega) (by omega) (by rw [List.size_toArray,← hl]; exact h1) (by simpa using ew) ⟨rfl,fin⟩) hs
theorem Znk:IxR X Zof:=by
 intro value slice pins s σ H x y v u Q I rx ry h hs
 obtain ⟨z,i,c,rfl,rfl,hz,he,q⟩:=h
 obtain ⟨t,rfl⟩:=rx
 obtain ⟨t',rfl⟩:=ry
 obtain ⟨j,h1,h2,h3,h4,h5⟩:=Zf4 he
 have hl:z.cps.toList.length = z.length:=by simp [Str.length]
 rw [hl] at h1 h4 h5
 have hn:=Zgo
 exact tail_any (typeIs_str s z t) slot_str_getitem.lookup (getItem_str (c:=c) (by
  have e1:decide (i < -(2 ^ 63:Int)) = false:=decide_eq_false (by omega)
  have e2:decide (i ≥ 2 ^ 63) = false:=decide_eq_false (by omega)
  rw [e1,e2,Bool.or_false]) (by rw [h1]; simpa using h2) ⟨.str ⟨#[c]⟩,H,I.tok _,⟨_,rfl⟩,q⟩) hs
noncomputable def rIx (K:PySem.W.Frag):R2:=fun x y H Q=>ZoX K x y H Q ∨ Zoe K x y H Q ∨ Zof x y H Q
theorem Znp:IxR X (rIx X.K):=ZlK.or (ZmJ.or Znk)
theorem ZfV (lo hi:Option Int) (n:Nat):(sliceBounds lo hi none n).1 = ((HT.sIx n 0 lo:Nat):Int) ∧ (sliceBounds lo hi none n).2.1 = ((HT.sIx n n hi:Nat):Int) ∧ (sliceBounds lo hi none n).2.2 = 1:=by
 refine ⟨?_,?_,rfl⟩
 ·cases lo with
  | none=>simp [sliceBounds,HT.sIx]
  | some i=>
   simp only [sliceBounds,HT.sIx,Option.getD_none,show (1:Int) > 0 by decide,if_true]
   by_cases h:i < 0
   ·simp only [h,if_true] <;> exact clC _ _ h
   ·simp only [h,if_false] <;> exact clD _ _ h
 ·cases hi with
  | none=>simp [sliceBounds,HT.sIx]
  | some i=>
   simp only [sliceBounds,HT.sIx,Option.getD_none,show (1:Int) > 0 by decide,if_true]
   by_cases h:i < 0
   ·simp only [h,if_true] <;> exact clC _ _ h
   ·simp only [h,if_false] <;> exact clD _ _ h
theorem Zfq (its:List Value) (lo hi:Option Int):slicePick its.toArray lo hi none = ((its.drop (HT.sIx its.length 0 lo)).take (HT.sIx its.length its.length hi - HT.sIx its.length 0 lo)).toArray:=by
 obtain ⟨h1,h2,h3⟩:=ZfV lo hi its.toArray.size
 unfold slicePick
 rw [h1,h2,h3]
 simp only [sliceRange_one,pick_run,List.size_toArray] <;> rfl
noncomputable def ZpB (K:PySem.W.Frag):V → Option Int → Option Int → Hp → VK → Prop:=fun x lo hi H Q=>∃ a xs,x = .ref a ∧ SqL K H a xs ∧ ∀ p,H p = none → Q (.ref p) (upd H p (.lst (Zg9 xs lo hi)))
theorem Zk9:SlR X (ZpB X.K):=by
 intro pins s σ H x v vl vu lo hi sl Q I rx hs pl pu h
 obtain ⟨a,xs,rfl,hx,q⟩:=h
 cases rx
 obtain ⟨its,r,ht,hz⟩:=I.list hx
 have hlen:=r.length
 refine ⟨"list",_,slot_list_getitem.lookup,ht.isList.typeIs,?_⟩
 refine wpAny_getItem_list_slice ht.isList hs pl pu .none (by simp) ?_ (by rw [List.size_toArray] <;> exact lC 2 2268279672881 T1 hlen hz)
 rw [Zfq,← hlen]
 refine ⟨.ref s.heap.objs.size,_,I.laid (t':=s.toks) (o:=.lst (Zg9 xs lo hi)) (fun b ob q=>Heap.get?_push_of_some _ q) (Nat.le_refl _) ?_,rfl,q _ (I.hok.fresh (Nat.le_refl _))⟩
 exact ⟨Nat.le_trans (ZeC xs lo hi) hz,_,0,(r.drop (HT.sIx xs.length 0 lo)).take (HT.sIx xs.length xs.length hi - HT.sIx xs.length 0 lo),Heap.get?_push_size _ rfl⟩
noncomputable def ZdB:V → Bool
 | .non=>true
 | .bl _=>true
 | .int _=>true
 | .str _=>true
 | _=>false
noncomputable def eqV:V → V → Bool
 | .non,.non=>true
 | .bl a,.bl b=>a == b
 | .bl a,.int b=>(if a then 1 else 0) == b
 | .int a,.bl b=>a == (if b then 1 else 0)
 | .int a,.int b=>a == b
 | .str a,.str b=>a == b
 | _,_=>false
theorem ZnK {A:Around} {s:Shared} {y x:V} {u v:Value} (ry:RelV y u) (rx:RelV x v) (fy:ZdB y = true) (fx:ZdB x = true):SeqAt.EqAt A s u v (eqV y x):=by
 cases y with
 | non=>
  cases ry
  cases x with
  | non=>cases rx; exact SeqAt.EqAt.same _
  | bl b=>cases rx; exact SeqAt.EqAt.none_bool b
  | int b=>obtain ⟨t,rfl⟩:=rx; exact SeqAt.EqAt.none_int b t
  | str b=>obtain ⟨t,rfl⟩:=rx; exact SeqAt.EqAt.none_str b t
  | _=>exact absurd (show false = true from fx) Bool.false_ne_true
 | bl a=>
  cases ry
  cases x with
  | non=>cases rx; exact SeqAt.EqAt.bool_none a
  | bl b=>cases rx; exact SeqAt.EqAt.bool_bool a b
  | int b=>obtain ⟨t,rfl⟩:=rx; exact SeqAt.EqAt.bool_int a b t
  | str b=>obtain ⟨t,rfl⟩:=rx; exact SeqAt.EqAt.bool_str a b t
  | _=>exact absurd (show false = true from fx) Bool.false_ne_true
 | int a=>
  obtain ⟨t',rfl⟩:=ry
  cases x with
  | non=>cases rx; exact SeqAt.EqAt.int_none a t'
  | bl b=>cases rx; exact SeqAt.EqAt.int_bool a t' b
  | int b=>obtain ⟨t,rfl⟩:=rx; exact SeqAt.EqAt.int_int a t' b t
  | str b=>obtain ⟨t,rfl⟩:=rx; exact SeqAt.EqAt.int_str a t' b t
  | _=>exact absurd (show false = true from fx) Bool.false_ne_true
 | str a=>
  obtain ⟨t',rfl⟩:=ry
  cases x with
  | non=>cases rx; exact SeqAt.EqAt.str_none a t'
  | bl b=>cases rx; exact SeqAt.EqAt.str_bool a t' b
  | int b=>obtain ⟨t,rfl⟩:=rx; exact SeqAt.EqAt.str_int a t' b t
  | str b=>obtain ⟨t,rfl⟩:=rx; exact SeqAt.EqAt.str_str a t' b t
  | _=>exact absurd (show false = true from fx) Bool.false_ne_true
 | _=>exact absurd (show false = true from fy) Bool.false_ne_true
noncomputable def eqU (x:V) (u:Value):Bool:=match u with
 | .none=>eqV .non x
 | .bool b=>eqV (.bl b) x
 | .int i _=>eqV (.int i) x
 | .str z _=>eqV (.str z) x
 | _=>false
theorem ZjG {x y:V} {u:Value} (r:RelV y u) (f:ZdB y = true):eqU x u = eqV y x:=by
 cases y with
 | non=>cases r; rfl
 | bl b=>cases r; rfl
 | int i=>obtain ⟨t,rfl⟩:=r; rfl
 | str z=>obtain ⟨t,rfl⟩:=r; rfl
 | _=>exact absurd (show false = true from f) Bool.false_ne_true
theorem Zd3 {x:V}:∀ {xs:List V} {us:List Value},Vals xs us → xs.all ZdB = true → us.any (eqU x) = xs.any fun y=>eqV y x
 | _,_,.nil,_=>rfl
 | y :: xs,u :: us,.cons r t,f=>by
  rw [List.all_cons,Bool.and_eq_true] at f
  rw [List.any_cons,List.any_cons,ZjG r f.1,Zd3 t f.2]
theorem Zdi {A:Around} {s:Shared} {x:V} {v:Value} (rx:RelV x v) (fx:ZdB x = true):∀ {xs:List V} {us:List Value},Vals xs us → xs.all ZdB = true → ∀ u ∈ us,SeqAt.EqAt A s u v (eqU x u)
 | _,_,.nil,_=>fun u hu=>by cases hu
 | y :: xs,u :: us,.cons r t,f=>fun u' hu=>by
  rw [List.all_cons,Bool.and_eq_true] at f
  rcases List.mem_cons.mp hu with rfl | hu
  ·rw [ZjG r f.1]; exact ZnK r rx f.1 fx
  ·exact Zdi rx fx t f.2 u' hu
noncomputable def inV (x:V) (xs:List V):Bool:=xs.any fun y=>eqV y x
noncomputable def rIn (K:PySem.W.Frag) (neg:Bool):R2:=fun x y H Q=>∃ p xs,y = .ref p ∧ (SqL K H p xs ∨ SqT K H p xs) ∧ ZdB x = true ∧ xs.all ZdB = true ∧ Q (.bl (if neg then !inV x xs else inV x xs)) H
theorem Zi3:OpR X (compareOp .In) (rIn X.K false):=by
 intro pins s σ H x y v u Q I rx ry h
 obtain ⟨p,xs,rfl,hq,fx,fs,q⟩:=h
 cases ry
 rcases hq with hq | hq
 ·obtain ⟨its,r,pl,hz⟩:=I.list hq
  refine SeqAt.in_listAt (eqU x) pl.isList (fun w hw=>Zdi rx fx r fs w (by simpa using hw)) ⟨.bl _,H,I,rfl,?_⟩
  rw [show its.toArray.any (eqU x) = its.any (eqU x) by simp,Zd3 r fs]
  exact q
 ·obtain ⟨its,r,pl,hz⟩:=I.tuple hq
  refine SeqAt.in_tupleAt (eqU x) pl (fun w hw=>Zdi rx fx r fs w (by simpa using hw)) ⟨.bl _,H,I,rfl,?_⟩
  rw [show its.toArray.any (eqU x) = its.any (eqU x) by simp,Zd3 r fs]
  exact q
theorem Zf8:OpR X (compareOp .NotIn) (rIn X.K true):=by
 intro pins s σ H x y v u Q I rx ry h
 obtain ⟨p,xs,rfl,hq,fx,fs,q⟩:=h
 cases ry
 rcases hq with hq | hq
 ·obtain ⟨its,r,pl,hz⟩:=I.list hq
  refine SeqAt.notIn_listAt (eqU x) pl.isList (fun w hw=>Zdi rx fx r fs w (by simpa using hw)) ⟨.bl _,H,I,rfl,?_⟩
  rw [show its.toArray.any (eqU x) = its.any (eqU x) by simp,Zd3 r fs]
  exact q
 ·obtain ⟨its,r,pl,hz⟩:=I.tuple hq
  refine SeqAt.notIn_tupleAt (eqU x) pl (fun w hw=>Zdi rx fx r fs w (by simpa using hw)) ⟨.bl _,H,I,rfl,?_⟩
  rw [show its.toArray.any (eqU x) = its.any (eqU x) by simp,Zd3 r fs]
  exact q
theorem ZaK.or {f:Value} {r r':List V → Hp → VK → Prop} (h:ZaK X f r) (h':ZaK X f r'):ZaK X f (fun xs H Q=>r xs H Q ∨ r' xs H Q):=by
 intro pins s σ H xs us Q I rs q
 rcases q with q | q
 ·exact h pins s σ H xs us Q I rs q
 ·exact h' pins s σ H xs us Q I rs q
theorem Zfz:ZaK X (.type "tuple") (fun xs H Q=>∃ p ys,xs = [.ref p] ∧ ((SqL X.K H p ys ∧ ∀ l,H l = none → Q (.ref l) (upd H l (.tup ys))) ∨ (SqT X.K H p ys ∧ Q (.ref p) H))):=by
 intro pins s σ H xs us Q I r h
 obtain ⟨p,ys,rfl,h⟩:=h
 obtain ⟨u,rfl,rx⟩:=vals1 r
 cases rx
 rcases h with ⟨hq,q⟩ | ⟨hq,q⟩
 ·obtain ⟨its,r',pl,hz⟩:=I.list hq
  have hlen:=r'.length
  refine call_tuple_list pl.isList (fun h' kp=>?_) (by simp only [List.size_toArray] <;> exact lC 2 2268279672881 T1 hlen hz)
  have I1:Inv X pins σ H { s with heap:=h' }:=I.kept (t':=s.toks) kp
  have I2:Inv X pins σ (upd H h'.objs.size (.tup ys)) { s with heap:=h'.push { cls:=.type "tuple",data:=.seq its.toArray } }:=
   I1.laid (t':=s.toks) (fun b o e=>Heap.get?_push_of_some _ e) (Nat.le_refl _) (show ZaP X.prog X.w _ _ _ (.tup ys) from ⟨hz,its,r',ZcL.new _ _⟩)
  exact ⟨.ref h'.objs.size,_,I2,rfl,q _ (I1.hok.fresh (Nat.le_refl _))⟩
 ·obtain ⟨its,r',pl,hz⟩:=I.tuple hq
  exact call_tuple_same pl ⟨.ref p,H,I,rfl,q⟩
noncomputable def tyV (K:PySem.W.Frag) (T:String) (x:V) (H:Hp):Prop:=match x with
 | .str _=>T = "str"
 | .int _=>T = "int"
 | .ref p=>(T = "list" ∧ ∃ xs,SqL K H p xs) ∨ (T = "tuple" ∧ ∃ o,K.lookup p = some o ∧ o.cls = .type "tuple" ∧ o.dict = none) ∨
   (T = "dict" ∧ ((∃ kvs,H p = some (.dK kvs)) ∨ ∃ kvs,H p = some (.dT kvs))) ∨ (T = "set" ∧ ∃ S n,H p = some (.set S n))
 | _=>False
theorem Znv {pins:List (Addr × Obj)} {σ:St} {H:Hp} {s:Shared} {T:String} {x:V} {v:Value} (I:Inv X pins σ H s) (r:RelV x v) (ty:tyV X.K T x H):
  s.TypeIs v T ∧ ∀ a,v = .ref a → ∃ ob,s.heap.get? a = some ob ∧ ob.dict = none:=by
 cases x with
 | str z=>
  obtain ⟨t,rfl⟩:=r
  cases (show T = "str" from ty)
  exact ⟨typeIs_str s z t,fun _ e=>nomatch e⟩
 | int i=>
  obtain ⟨t,rfl⟩:=r
  cases (show T = "int" from ty)
  exact ⟨typeIs_int s i t,fun _ e=>nomatch e⟩
 | ref p=>
  cases r
  rcases ty with ⟨rfl,xs,hq⟩ | ⟨rfl,o,hk,hc,hd⟩ | ⟨rfl,hk⟩ | ⟨rfl,S,n,hk⟩
  ·obtain ⟨its,_,pl,_⟩:=I.list hq
   refine ⟨pl.isList.typeIs,fun a e=>?_⟩
   cases e
   obtain ⟨o,n,e,c,hd,_⟩:=pl
   exact ⟨o,e,hd⟩
  ·refine ⟨⟨o,I.kIn p o hk,hc⟩,fun a e=>?_⟩
   cases e
   exact ⟨o,I.kIn _ o hk,hd⟩
  ·have z:∃ o,s.heap.get? p = some o ∧ o.ExactDict:=by
    rcases hk with ⟨kvs,hk⟩ | ⟨kvs,hk⟩
    ·obtain ⟨_,_,_,_,o,_,_,e,ex,_⟩:=I.hok p _ hk
     exact ⟨o,e,ex⟩
    ·obtain ⟨_,_,_,_,o,_,_,e,ex,_⟩:=I.hok p _ hk
     exact ⟨o,e,ex⟩
   obtain ⟨o,e,ex⟩:=z
   refine ⟨⟨o,e,ex.1⟩,fun a e2=>?_⟩
   cases e2
   exact ⟨o,e,ex.2.1⟩
  ·obtain ⟨o,_,_,_,e,ex,_⟩:=I.hok p _ hk
   refine ⟨⟨o,e,ex.1⟩,fun a e2=>?_⟩
   cases e2
   exact ⟨o,e,ex.2.1⟩
 | _=>exact False.elim ty
noncomputable def tBM (K:PySem.W.Frag) (T:String) (r:V → List V → Hp → VK → Prop) (to:TE) (t:TA):TE:=fun σ H Q=>to σ H fun x H1=>tyV K T x H1 ∧ t σ H1 fun xs H2=>r x xs H2 Q
variable {o e:Expr} {es:List Expr} {to:TE} {t:TA} {name:Str} {apos cpos:Pos} {T id:String} {r:V → List V → Hp → VK → Prop}
theorem Zii (pa:PlainAttrs T) (slot:Slot T name id) (hty:typeOf (.builtin id) = pure (.type "method_descriptor")) (hm:MtR X id r) (ho:PE X o to) (ha:PA X (e :: es) t)
  (hbase:attributeBase o name X.env (eval o X.env) = eval o X.env:=by rfl)
  (hfew:((backTo cpos (starEach (e :: es) X.env)).all (fun x=>!x.1) && (backToKw cpos (keywordEach [] X.env)).all (fun x=>x.1.isSome)
   && decide ((e :: es).length + ([]:List Keyword).length + (if ([]:List Keyword).isEmpty then 0 else 1) < 30)) = true:=by rfl)
  (hline:(apos.endLine == cpos.line) = true:=by rfl) (hs:starEach (e :: es) X.env = (false,eval e X.env) :: starEach es X.env:=by rfl) (hplain:(backTo cpos (starEach es X.env)).any (·.1) = false:=by rfl):
  PE X (.Call (.Attribute o name apos) (e :: es) [] cpos) (tBM X.K T r to t):=by
 intro pins s σ H Q I h
 refine wpAny_Call_method_late hbase hfew hline rfl (thn (ho pins s σ H _ I h) fun v s1 zz1=>?_)
 obtain ⟨x,H1,I1,r1,ty,q1⟩:=zz1
 obtain ⟨h1,h2⟩:=Znv I1 r1 ty
 refine ⟨T,id,pa,slot,hty,h1,h2,?_⟩
 have hA:=ha cpos pins s1 σ H1 _ I1 q1
 rw [hs] at hA ⊢
 refine Calls.callWith_builtin (by show (false || (backTo cpos (starEach es X.env)).any (·.1)) = false; rw [hplain] <;> rfl) (Calls.evalArgs_plain ?_)
 exact thn hA fun us s2 ⟨vs,H2,I2,r2,q2⟩=>hm pins s2 σ H2 x vs v us Q I2 r1 r2 q2
/- xs.append(e),list.index on a module's tuple .. are MtR facts of 06m -/
end
end L2
namespace L2
open PySem PySem.Spec PyProof.Rows
noncomputable def MtM (X:Cx) (id:String) (r:V → List V → Hp → VK → Prop):Prop:=
 ∀ (pins:List (Addr × Obj)) (s:Shared) (σ:St) (H:Hp) (x:V) (xs:List V) (v:Value) (us:List Value) (Q:VK),Inv X pins σ H s → RelV x v → Vals xs us → r x xs H Q →
  wpAny (model X.prog X.w) X.A (call (.builtin id) (v :: us)) (EP X pins σ Q) X.xe s
theorem Vals.one:∀ {x:V} {us:List Value},Vals [x] us → ∃ u,us = [u] ∧ RelV x u
 | _,_,.cons r .nil=>⟨_,rfl,r⟩
theorem Vals.zero:∀ {us:List Value},Vals [] us → us = []
 | _,.nil=>rfl
theorem Vals.eraseIdx:∀ {xs:List V} {us:List Value} (i:Nat),Vals xs us → Vals (xs.eraseIdx i) (us.eraseIdx i)
 | _,_,_,.nil=>.nil
 | _,_,0,.cons _ t=>t
 | _,_,i + 1,.cons r t=>.cons r (Vals.eraseIdx i t)
theorem Vals.reverse {xs:List V} {us:List Value} (h:Vals xs us):Vals xs.reverse us.reverse:=by
 induction h with
 | nil=>exact .nil
 | cons r t ih=>rw [List.reverse_cons,List.reverse_cons]; exact Vals.append ih (.cons r .nil)
theorem Vals.rep {xs:List V} {us:List Value} (h:Vals xs us):∀ k:Nat,Vals (List.replicate k xs).flatten (List.replicate k us).flatten
 | 0=>.nil
 | k + 1=>by
  rw [List.replicate_succ,List.replicate_succ,List.flatten_cons,List.flatten_cons]
  exact Vals.append h (Vals.rep h k)
theorem foldl_rep (its:List Value):∀ (k:Nat) (acc:List Value),
  List.foldl (fun x1 x2=>x1 ++ x2) acc.toArray (List.replicate k its.toArray) = (acc ++ (List.replicate k its).flatten).toArray
 | 0,acc=>by simp
 | k + 1,acc=>by
  have e:acc.toArray ++ its.toArray = (acc ++ its).toArray:=by simp
  have e2:(acc ++ its) ++ (List.replicate k its).flatten = acc ++ (List.replicate (k + 1) its).flatten:=by
   rw [List.replicate_succ,List.flatten_cons,List.append_assoc]
  rw [← e2,← foldl_rep its k (acc ++ its),← e,List.replicate_succ,List.foldl_cons]
section
variable {X:Cx} {pins:List (Addr × Obj)} {σ:St} {H:Hp} {s:Shared} {l b:Addr} {xs ys zs:List V}
theorem Inv.lset {its its':List Value} {n:Nat} {f:Array Value → Array Value} {t':Nat} (I:Inv X pins σ H s) (hH:H l = some (.lst xs))
  (e:s.heap.get? l = some { cls:=.type "list",data:=.seq its.toArray n }) (hf:f its.toArray = its'.toArray) (hv:Vals ys its') (hz:ys.length ≤ sizeLine):
  Inv X pins σ (upd H l (.lst ys)) { s with heap:=s.heap.update l (Obj.mapSeq f),toks:=t' }:=by
 have q:=PySem.IsL.update e f
 rw [hf] at q
 refine I.write (x:=l) (e:=l) (by rw [hH]; exact trivial) (.inl rfl) (fun b' u hb hu=>(Heap.get?_update_other s.heap (Obj.mapSeq f) (Ne.symm hb)).trans hu) ⟨_,q⟩ ?_
 exact ⟨hz,its',_,hv,q⟩
theorem Inv.lnew {its:List Value} {t':Nat} (I:Inv X pins σ H s) (hv:Vals ys its) (hz:ys.length ≤ sizeLine):
  Inv X pins σ (upd H s.heap.objs.size (.lst ys)) { s with heap:=s.heap.push { cls:=.type "list",data:=.seq its.toArray },toks:=t' }:=
 I.laid (fun _ _ q=>Heap.get?_push_of_some _ q) (Nat.le_refl _) ⟨hz,its,0,hv,Heap.get?_push_size _ rfl⟩
theorem Inv.fresh (I:Inv X pins σ H s):H s.heap.objs.size = none:=I.hok.fresh (Nat.le_refl _)
theorem Inv.lstM (I:Inv X pins σ H s) (hH:H l = some (.lst xs)):xs.length ≤ sizeLine ∧ ∃ (its:List Value) (n:Nat),Vals xs its ∧ xs.length = its.length ∧ s.heap.get? l = some { cls:=.type "list",data:=.seq its.toArray n }:=by
 obtain ⟨z,its,n,r,e⟩:=I.hok l _ hH
 exact ⟨z,its,n,r,r.length,e⟩
theorem Zkw {n:Nat} (h:n ≤ sizeLine):Builtin.List.listTooLong n = false:=by
 unfold Builtin.List.listTooLong
 exact decide_eq_false (by omega)
end
section
variable {X:Cx}
noncomputable def Zih:V → List V → Hp → VK → Prop:=fun x vs H Q=>∃ l xs y,x = .ref l ∧ vs = [y] ∧ H l = some (.lst xs) ∧ xs.length < sizeLine ∧ Q .non (upd H l (.lst (xs ++ [y])))
theorem ZfH:MtM X "list.append" Zih:=by
 intro pins s σ H x vs v us Q I rx rv h
 obtain ⟨l,xs,y,rfl,rfl,hH,hz,q⟩:=h
 cases rx
 obtain ⟨u,rfl,ru⟩:=rv.one
 obtain ⟨z,its,n,r,hl,e⟩:=I.lstM hH
 refine call_meets F.slot_list_append ⟨_,e,rfl⟩ F.entry_list_append (F.args_list_append_2 _ _) (PySem.list_append l its.toArray n u (by rw [List.size_toArray]; exact lC 2 2268279672881 T1 hl z)) ⟨e,?_⟩
 refine ⟨.non,_,I.lset (its':=its ++ [u]) hH e (by simp) (r.append (.cons ru .nil)) ?_,rfl,q⟩
 rw [List.length_append,List.length_singleton]
 exact lB 1 6991908881 T1 hz
noncomputable def ZpL:R2:=fun x y H Q=>∃ l b xs zs,x = .ref l ∧ y = .ref b ∧ H l = some (.lst xs) ∧ H b = some (.lst zs) ∧ xs.length + zs.length ≤ sizeLine ∧ ∀ p,H p = none → Q (.ref p) (upd H p (.lst (xs ++ zs)))
theorem ZmQ:OpR X (binaryOp .Add) ZpL:=by
 intro pins s σ H x y v u Q I rx ry h
 obtain ⟨l,b,xs,zs,rfl,rfl,hH,hB,hz,q⟩:=h
 cases rx
 cases ry
 obtain ⟨z,its,n,r,hl,e⟩:=I.lstM hH
 obtain ⟨z2,its2,n2,r2,hl2,e2⟩:=I.lstM hB
 refine PySem.P.add_list e e2 ?_ (by rw [List.size_toArray,List.size_toArray]; exact lE 3 0x413c0402c0132311031 T1 hl2 hl hz)
 have ea:its.toArray ++ its2.toArray = (its ++ its2).toArray:=by simp
 rw [ea]
 exact ⟨.ref _,_,I.lnew (t':=s.toks) (r.append r2) (by rw [List.length_append]; exact hz),rfl,q _ I.fresh⟩
noncomputable def ZpC:R2:=fun x y H Q=>∃ l k xs,x = .ref l ∧ y = .int k ∧ H l = some (.lst xs) ∧ -(2 ^ 63) ≤ k ∧ k < 2 ^ 63 ∧ xs.length * k.toNat ≤ sizeLine ∧
 ∀ p,H p = none → Q (.ref p) (upd H p (.lst (List.replicate k.toNat xs).flatten))
theorem len_rep {α:Type} (xs:List α) (k:Nat):(List.replicate k xs).flatten.length = k * xs.length:=by
 induction k with
 | zero=>simp
 | succ k ih=>rw [List.replicate_succ,List.flatten_cons,List.length_append,ih,Nat.succ_mul,Nat.add_comm]
theorem Zmk:OpR X (binaryOp .Mult) ZpC:=by
 intro pins s σ H x y v u Q I rx ry h
 obtain ⟨l,k,xs,rfl,rfl,hH,h1,h2,hz,q⟩:=h
 cases rx
 obtain ⟨t,rfl⟩:=ry
 obtain ⟨z,its,n,r,hl,e⟩:=I.lstM hH
 have hlen:its.toArray.size * k.toNat ≤ sizeLine:=by rw [List.size_toArray,← hl]; exact hz
 have hcap:¬ its.toArray.size * k.toNat > (2 ^ 63 - 1) / 8:=by
  have:(sizeLine:Nat) ≤ (2 ^ 63 - 1) / 8:=by decide
  omega
 have hfit:¬ (!Builtin.List.listFitsIndex k) = true:=by
  rw [fitsIndex_both h1 h2]
  exact Bool.false_ne_true
 have hlong:¬ Builtin.List.listTooLong (its.toArray.size * k.toNat) = true:=by
  rw [Zkw hlen]
  exact Bool.false_ne_true
 have hnew:List.foldl (fun x1 x2=>x1 ++ x2) #[] (List.replicate (if its.toArray.isEmpty = true then 0 else k.toNat) its.toArray) = (List.replicate k.toNat its).flatten.toArray:=by
  have f0:∀ m:Nat,List.foldl (fun x1 x2=>x1 ++ x2) #[] (List.replicate m its.toArray) = (List.replicate m its).flatten.toArray:=fun m=>by
   have:=foldl_rep its m []
   rw [List.nil_append] at this
   exact this
  rw [f0]
  cases its with
  | nil=>simp
  | cons a r'=>rw [if_neg (by simp)]
 refine wpAny_binaryOp_repeat_ref (T:="list") (U:="int") (by decide) ⟨_,e,rfl⟩ (fun s'=>typeIs_int s' k t) noFill_list_mul F.fills_int_mul F.slot_int_rmul repeat_list F.slot_int_index.lookup
  (call_meets F.slot_int_rmul (typeIs_int s k t) F.entry_int_rmul (F.args_int_rmul_2 _ _) (int___rmul___int_list k t l its.toArray n)
   ⟨e,rfl,⟨_,e,rfl⟩,call_meets F.slot_list_mul ⟨_,e,rfl⟩ F.entry_list_mul (F.args_list_mul_2 _ _) (AutoListH.list___mul___list_int_3 l its.toArray n k t hfit hcap hlong) ⟨e,?_⟩⟩)
 rw [hnew]
 exact ⟨.ref _,_,I.lnew (t':=s.toks) (r.rep k.toNat) (by rw [len_rep,Nat.mul_comm]; exact hz),rfl,q _ I.fresh⟩
end
section
variable {prog:Program} {w:World} {A:Around} {E:Value → Shared → Prop} {s:Shared}
end
section
variable {X:Cx}
end
end L2
namespace Att
open PySem PySem.W PySem.Calls PyProof.Rows
theorem ZeL {P:Params} {h:Heap}:∀ (ns:List Int) (vs:List Value),WellAll P h vs (ns.map WData.int) → IntsAre vs ns:=by
 intro ns
 induction ns with
 | nil=>
  intro vs w
  rw [List.map_nil] at w
  cases w
  exact .nil
 | cons n ns ih=>
  intro vs w
  rw [List.map_cons] at w
  cases w with
  | cons a b=>
   cases a
   exact .cons _ _ (ih _ b)
theorem ZiI {l:OpenLaw} {n:Nat} (hn:l.most = some n) {P:Params} {h:Heap} {args:List WData} {vals:List Value}
  (hpre:l.row.toRowW.claim.pre args = true) (hwl:WellAll P h vals args):
  ∃ a vs ns,vals = [Value.ref a] ∧ args = [WData.list (ns.map WData.int)] ∧ h.get? a = some { cls:=.type "list",data:=.seq vs.toArray } ∧ IntsAre vs ns ∧ ns.length ≤ n:=by
 have hsh:WShape.hasAll [] args [.list .int] = true:=(pre_splitW hpre).1
 have hc:l.pre.holds [] { args:=args } = true:=(pre_splitW hpre).2
 obtain ⟨d,r,rfl,h1,h2⟩:=hasAllW_cons hsh
 obtain rfl:=hasAllW_nil h2
 obtain ⟨xs,rfl,h3⟩:=hasW_list h1
 obtain ⟨ns,rfl⟩:=items_int h3
 have hlen:ns.length ≤ n:=by
  unfold OpenLaw.pre at hc
  have h4:(WTm.not (.lt (.lit (.int (n:Int))) (.len (.arg 0)))).holds [] { args:=[.list (ns.map .int)] } = true:=by
   have h4:=(holds_andW hc).1
   rw [hn] at h4
   exact h4
  have h5:=condW_of h4 (w_not (w_lt w_lit (w_len_list (w_arg rfl))))
  rw [List.length_map] at h5
  refine Nat.le_of_not_lt fun q=>?_
  have q':(n:Int) < ((ns.length:Nat):Int):=by exact Int.ofNat_lt.2 q
  first
   | (rw [decide_eq_true q'] at h5; exact absurd h5 (by decide))
   | (simp at h5; omega)
 cases hwl with
 | cons w1 w2=>
  cases w2
  cases w1 with
  | list ho hall=>exact ⟨_,_,ns,rfl,rfl,ho,ZeL ns _ hall,hlen⟩
theorem Zi4 (l:OpenLaw) (args:List WData):l.row.toRowW.claim.post args (.bool true) args = true:=
 postW_of (r:=l.row.toRowW) (X:=(true == true))
  (show WShape.has [] (.bool true) .bool = true by first | rfl | decide | simp [WShape.has,WShape.arms,WShape.armsAll])
  (show (WTm.eq .res (.lit (.bool true))).value [] { args:=args,res:=some (.bool true),after:=args } = some (.bool (true == true)) from w_eq_bool (w_res rfl) w_lit) rfl
theorem attach_call {l:OpenLaw} {n:Nat} {q:Program} {loose:List Str} {XP:(Str → Option Value) → Heap → Prop} {YP:World → Heap → Prop} {d:DefRec}
  (hn:l.most = some n) (hdf:d.params.defaults = [])
  (call:∀ (w:World) (s₀ s₁:Shared) (mg mb:Str → Option Value) (fa:Addr) (o:Obj) (pm cd doc:Value) (a:Addr) (vs:List Value) (ns:List Int),
   Ground q loose [] XP w s₀ mg mb s₁.heap → YP w s₁.heap →
   s₁.heap.get? fa = some o → o.data = .func (docDef d.name d.params d.body d.scope pm cd doc) → s₁.heap.CodeRec cd d.name → mg d.name = some (.ref fa) →
   s₁.heap.get? a = some { cls:=.type "list",data:=.seq vs.toArray } → IntsAre vs ns → ns.length ≤ n → s₁.gens = #[] →
   codeAny (model l.prog w) callerA (.call (.ref fa) ⟨[.ref a],[]⟩) (fun r s'=>r = .ok (.ret (.bool true)) ∧ OldK s₁.heap s'.heap ∧ s'.os = s₁.os ∧ AllBare s'.gens) s₁):
  WalkO q loose XP YP l.row.toRowW d [] (fun f vs=>PySem.call f vs):=by
 intro w s₀ s₁ mg mb G Y fa o pm cd doc dV kV ho hd hcd hD hmg hg args vals as hpre hlay hrd hwl hlo
 obtain rfl:dV = .none:=Dflts.none hD hdf
 obtain rfl:kV = .none:=Dflts.noKw hD
 obtain ⟨a,vs,ns,rfl,rfl,hobj,hints,hlen⟩:=ZiI hn hpre hwl
 refine enter_call (codeAny_mono (call w s₀ s₁ mg mb fa o pm cd doc a vs ns G Y ho (fd_plain hd) hcd hmg hobj hints hlen hg) fun r s' hq=>?_)
 obtain ⟨rfl,h2,h3,h4⟩:=hq
 exact ⟨.inl ⟨.bool true,.bool true,[],rfl,fun _=>rfl,.bool true,Zi4 l _,fun _=>⟨List.Pairwise.nil,fun _ hm=>(nomatch hm)⟩⟩,h2,h3,h4⟩
section
variable {prog:Program} {w:World} {A:Around} {E:Value → Shared → Prop} {s:Shared} {K:Frag}
end
end Att
namespace L2
open PySem PySem.Spec PyProof.Rows
theorem ZfE:∀ {vs:List Value} {ns:List Int},IntsAre vs ns → Vals (ns.map V.int) vs
 | _,_,.nil=>.nil
 | _,_,.cons n t h=>.cons ⟨t,rfl⟩ (ZfE h)
noncomputable def Only (H:Hp):Prop:=∀ b,H b = none ∨ ∃ o xs,H b = some (.frz o (.lst xs))
theorem ZjP {P:Program} {w:World} {K:PySem.W.Frag} {mg mb:Str → Option Value} {CX:CXT} {k:Nat} {fa a:Addr} {fd:FuncData} {x:Str} {sp:Sp} {s₁:Shared} {vs:List Value} {ns:List Int}
  (KX:K.In s₁.heap) (hns:s₁.heap.Ns mainGlobals mg) (hb:s₁.heap.Ns builtinsNs mb) (hbb:∀ x:Str,x ≠ "__name__" → mb x = bootBuiltins x) (hlim:s₁.heap.NoLimit) (hg:s₁.gens = #[])
  (ha:s₁.heap.get? a = some { cls:=.type "list",data:=.seq vs.toArray }) (hi:IntsAre vs ns) (hl:ns.length ≤ sizeLine) (hr:Zcf k callerA)
  (F:∀ base:Heap,K.In base → base.Ns mainGlobals mg → ZcH P w K mg base CX k fa fd [x] sp) (hbind:∀ (s:Shared) (u:Value),BindsTo s fd ⟨[u],[]⟩ [(x,u)])
  (hsp:∀ H:Hp,Only H → SqL K H a (ns.map V.int) → sp [.ref a] H (fun v _=>v = .bl true) fun _ _ _=>False)
  (hCX:∀ H e s',CX [] H s₁ (fun _ _ _=>False) e s' → False):
  codeAny (model P w) callerA (.call (.ref fa) ⟨[.ref a],[]⟩) (fun r s'=>r = .ok (.ret (.bool true)) ∧ OldK s₁.heap s'.heap ∧ s'.os = s₁.os ∧ AllBare s'.gens) s₁:=by
 have rv:=ZfE hi
 have lenV:=hi.length
 have core:∀ H:Hp,Only H → SqL K H a (ns.map V.int) → HOk P w H s₁.heap → (∀ b,H b ≠ none → b = a) → (H a ≠ none → K.lookup a = none) →
   codeAny (model P w) callerA (.call (.ref fa) ⟨[.ref a],[]⟩) (fun r s'=>r = .ok (.ret (.bool true)) ∧ OldK s₁.heap s'.heap ∧ s'.os = s₁.os ∧ AllBare s'.gens) s₁:=by
  intro H hO hS hok hA hK
  have base_of:∀ {b:Addr} {o:Obj},s₁.heap.get? b = some o → H b = none → (ZfW s₁.heap H).get? b = some o:=fun e n=>ZkG e n
  have noA:∀ {b:Addr} {o:Obj} {es:Array DictEntry} {ep:Nat},s₁.heap.get? b = some o → o.data = .dict es ep → H b = none:=fun {b o es ep} e d=>by
   cases q:H b with
   | none=>rfl
   | some u=>
    have e':b = a:=hA b (by rw [q]; simp)
    subst e'
    rw [ha] at e; cases e
    have d':Data.seq vs.toArray _ = Data.dict es ep:=d
    cases d'
  have nsK:∀ {b:Addr} {m:Str → Option Value},s₁.heap.Ns b m → (ZfW s₁.heap H).Ns b m:=fun {b m} ⟨o,es,ep,e,d,r⟩=>⟨o,es,ep,base_of e (noA e d),d,r⟩
  have hKb:K.In (ZfW s₁.heap H):=fun b o e=>base_of (KX b o e) (by
   cases q:H b with
   | none=>rfl
   | some u=>
    have e':b = a:=hA b (by rw [q]; simp)
    subst e'
    rw [hK (by rw [q]; simp)] at e; cases e)
  have hM:Mod K mg (ZfW s₁.heap H):=⟨hKb,nsK hns,⟨mb,nsK hb,hbb⟩,let ⟨mc,h1,h2⟩:=hlim; ⟨mc,nsK h1,h2⟩⟩
  have e0:ZhB P w K mg (ZfW s₁.heap H) callerA [] s₁ H:=⟨rfl,hM,fun b o e=>Zlm e,Nat.le_of_eq (Zjb _ _),trivial,fun b hb=>absurd (show b ∈ ([]:List Addr) from hb) (by simp),hok,.of_eq hg⟩
  refine codeAny_mono ((F _ hKb (nsK hns)).run callerA [] s₁ H ⟨[.ref a],[]⟩ [.ref a] [.ref a] _ _ hr e0 (hbind s₁ (.ref a)) (.cons rfl .nil) (hsp H hO hS)) fun r s' h=>?_
  cases r with
  | error e=>exact (hCX H e s' h).elim
  | ok fl=>
   cases fl with
   | next=>exact False.elim h
   | brk=>exact False.elim h
   | cont=>exact False.elim h
   | ret u=>
    obtain ⟨v,H',os,bare,un,hok',r',q⟩:=h
    have q':v = .bl true:=q
    subst q'
    obtain rfl:u = Value.bool true:=r'
    refine ⟨rfl,OldK.of_keep fun b o e=>?_,os,bare⟩
    cases q:H b with
    | none=>exact un.keep b o e q (by intro z; exact absurd (show b ∈ ([]:List Addr) from z) (by simp)) (by simp)
    | some u=>
     rcases hO b with z | ⟨ob,xs,z⟩
     ·rw [q] at z; cases z
     ·have z2:=un.frzs b ob _ z
      obtain ⟨e1,_⟩:=hok b _ z
      obtain ⟨e2,_⟩:=hok' b _ z2
      rw [e] at e1; cases e1
      exact e2
 cases hk:K.lookup a with
 | some o=>
  have e:=KX a o hk
  rw [ha] at e
  cases e
  refine core (fun _=>none) (fun _=>.inl rfl) (.inr ⟨_,vs.toArray,_,hk,rfl,rfl,rfl,by rw [List.size_toArray,lenV]; exact hl,by simpa using rv⟩) (fun b u z=>by have z':(none:Option HO) = some u:=z; cases z') (fun b z=>absurd rfl z) fun z=>absurd rfl z
 | none=>
  refine core (fun b=>if b = a then some (.frz { cls:=.type "list",data:=.seq vs.toArray } (.lst (ns.map V.int))) else none) (fun b=>?_) (.inl (.inr ⟨{ cls:=.type "list",data:=.seq vs.toArray },if_pos rfl⟩)) (fun b u z=>?_) (fun b z=>?_) fun _=>hk
  ·by_cases hb:b = a
   ·exact .inr ⟨_,_,if_pos hb⟩
   ·exact .inl (if_neg hb)
  ·by_cases hb:b = a
   ·have z':=(if_pos hb).symm.trans z
    cases z'
    subst hb
    exact ⟨ha,by rw [List.length_map]; exact hl,vs,_,rv,ha⟩
   ·have z':=(if_neg hb).symm.trans z
    cases z'
  ·by_cases hb:b = a
   ·exact hb
   ·exact absurd (if_neg hb) z
end L2
namespace L2
open PySem PySem.Spec PyProof.Rows
theorem Zh8 {l:PySem.W.OpenLaw} {n k:Nat} {q:Program} {loose:List Str} {XP:(Str → Option Value) → Heap → Prop} {YP:World → Heap → Prop} {d:DefRec} {K:Params → PySem.W.Frag} {CX:World → CXT} {sp:World → Sp} {x:Str}
  (hn:l.most = some n) (hn2:n ≤ sizeLine) (hdf:d.params.defaults = []) (hr:Zcf k callerA)
  (hY:∀ (w:World) (h:Heap),YP w h → (K w.params).In h)
  (F:∀ (w:World) (mg:Str → Option Value) (fa:Addr) (h:Heap),(K w.params).In h → h.Ns mainGlobals mg → mg d.name = some (.ref fa) →
   ∃ fd:FuncData,(∀ (s:Shared) (u:Value),BindsTo s fd ⟨[u],[]⟩ [(x,u)]) ∧
    ∀ base:Heap,(K w.params).In base → base.Ns mainGlobals mg → ZcH l.prog w (K w.params) mg base (CX w) k fa fd [x] (sp w))
  (hsp:∀ (w:World) (H:Hp) (a:Addr) (ns:List Int),ns.length ≤ n → Only H → SqL (K w.params) H a (ns.map V.int) → sp w [.ref a] H (fun v _=>v = .bl true) fun _ _ _=>False)
  (hCX:∀ (w:World) (H:Hp) (s:Shared) (e:Value) (s':Shared),CX w [] H s (fun _ _ _=>False) e s' → False):
  PySem.W.WalkO q loose XP YP l.row.toRowW d [] (fun f vs=>PySem.call f vs):=by
 refine Att.attach_call hn hdf fun w s₀ s₁ mg mb fa o pm cd doc a vs ns G Y ho hd hcd hmg hobj hints hlen hg=>?_
 have KX:=hY w _ Y
 obtain ⟨fd,hb,hF⟩:=F w mg fa _ KX G.T.g hmg
 exact ZjP KX G.T.g G.T.b G.T.builtins G.T.nolimit hg hobj hints (Nat.le_trans hlen hn2) hr hF hb (fun H hO hS=>hsp w H a ns hlen hO hS) fun H e s'=>hCX w H s₁ e s'
end L2
/- THE LAST THEOREM (shape; LID,My.* are yours):
  My.Adr: a structure of the addresses that your layer names (classes,functions); My.Txt K t: a structure (Prop) of the equations over K;
  My.txt_mk:{K} {implicit addresses ..} (e1:nsIn K mainGlobals "law" = some (some (.ref f))) (e2:K.lookup f = some ⟨oc,od,.func (fnOf "law" "law" params body scope dV kV doc pm an cdv ct),sl⟩) (e3:codeIn K cdv "law" = true) ..:∃ t,My.Txt K t
set_option maxRecDepth 100000 in
set_option maxHeartbeats 0 in
theorem PySem.Challenge.cw_LID_holds : PySem.Challenge.rw_LID.Holds := by
 w_on; o_law; k_head; (case hw=>w_witness2)
 k_fill
 refine L2.Zh8 (l:=PySem.Challenge.rw_LID) (n:=63) (k:=40) (x:="script") (CX:=fun w=>..) (sp:=fun _=>My.sp_law) rfl (by decide) rfl ⟨rfl,by decide,by decide⟩ (fun w h Y=>PySem.W.kIn_of Y) ?F ?S ?C
 case F=>
  intro w mg fa h KX G hmg
  have T:∃ t,My.Txt (L2.KOf KX) t:=by
   dsimp only [L2.KOf]                          -- K must stand as «<heap const> w.params» for k_is
   refine' My.txt_mk ?e1 ?e2 ?e3 ..
   (case e1=>PySem.W.k_is)                    -- in the order: a name -> its address -> its object -> its parts
   (case e2=>PySem.W.k_is)
   ..
  obtain ⟨t,T⟩:=T
  have e0:=hmg.symm.trans (PySem.W.mg_of KX G T.law)
  cases e0                                       -- fa is the law's own address
  exact ⟨_,fun s u=>.of_eq rfl,fun base kb nb=>My.law_fn T kb nb⟩     -- if «.of_eq rfl» comes too early: refine' ⟨_,?b,fun base kb nb=>My.law_fn T kb nb⟩; exact fun s u=>.of_eq rfl
 case S=>exact fun w H a ns hl hO hS=>..
 case C=>exact ..
(the tactic k_is has no namespace: write k_is) -/
namespace L2
open PySem PySem.Spec PyProof.Rows
noncomputable def Zau (s:Stmt):Arguments:=match s with
 | .FunctionDef _ a _ _ _ _ _ _ _ _=>a
 | _=>{ posonlyargs:=[],args:=[],vararg:=none,kwonlyargs:=[],kw_defaults:=[],kwarg:=none,defaults:=[] }
noncomputable def Zam (s:Stmt):List Stmt:=match s with
 | .FunctionDef _ _ b _ _ _ _ _ _ _=>b
 | _=>[]
noncomputable def Zm (s:Stmt):Scope:=match s with
 | .FunctionDef _ _ _ _ _ _ sc _ _ _=>sc
 | _=>{ kind:=.function,names:=[],isGenerator:=false,isCoroutine:=false }
noncomputable abbrev CX0:CXT:=fun _ _ _ _ _ _=>False
noncomputable abbrev E0:XK:=fun _ _ _=>False
theorem ZoE {X:Cx}:ZhW CX0 X E0:=fun _ _ _ _ _ _ _ h=>h.elim
structure Fun (K:PySem.W.Frag) (x qual:Str) (st:Stmt) (f:Addr) (fd:FuncData):Prop where
 ex:∃ (oc:Value) (od:Option Addr) (dV kV doc pm:Value) (an:Option Addr) (cdv ct:Value) (osl:Array (Option Value)),
  fd = PySem.W.fnOf x qual (Zau st) (Zam st) (Zm st) dV kV doc pm an cdv ct ∧ K.lookup f = some ⟨oc,od,.func fd,osl⟩ ∧ PySem.W.codeIn K cdv qual = true
 kp:PySem.W.keepIn K (.ref f) = true
section
variable {P:Program} {w:World} {K:PySem.W.Frag} {mg:Str → Option Value} {base:Heap}
theorem Fun.ok {x qual:Str} {st:Stmt} {f:Addr} {fd:FuncData} {N ps:List Str} {k:Nat} {sp:Sp} (F:Fun K x qual st f fd) (S:ZaE N ps (Zm st)) (len:∀ vs H Q E,sp vs H Q E → vs.length = ps.length)
  (hbody:∀ (cdv:Value) (A:Around) (outer:List Env) (s:Shared) (H:Hp) (vs:List V) (Q:VK) (E:XK),Zcf k (A.deeper (envOfC qual (Zm st) s.heap.objs.size f cdv)) → sp vs H Q E →
   ∃ t,PSs (Zhk CX0 P w K mg base N qual (Zm st) f cdv A outer s H E).nox (Zam st) t ∧ t { nx:=fun _ H'=>Q .non H',rt:=Q } (start N vs) H):ZcH P w K mg base CX0 (k + 1) f fd ps sp:=by
 obtain ⟨oc,od,dV,kV,doc,pm,an,cdv,ct,osl,rfl,lk,hcd⟩:=F.ex
 refine ZoB lk hcd S len fun A outer s H vs Q E hr hsp=>?_
 obtain ⟨t,h,q⟩:=hbody cdv A outer s H vs Q E hr hsp
 exact ⟨t,h.nox,q⟩
theorem Fun.binds {x qual:Str} {st:Stmt} {f:Addr} {fd:FuncData} {ps:List Str} (F:Fun K x qual st f fd)
  (h:∀ (dV kV doc pm:Value) (an:Option Addr) (cdv ct:Value) (us:List Value),us.length = ps.length → bindArgs (PySem.W.fnOf x qual (Zau st) (Zam st) (Zm st) dV kV doc pm an cdv ct) ⟨us,[]⟩ = pure (ps.zip us)):Binds K fd ps []:=by
 obtain ⟨oc,od,dV,kV,doc,pm,an,cdv,ct,osl,rfl,lk,hcd⟩:=F.ex
 exact .all (h dV kV doc pm an cdv ct)
theorem ZjQ {x qual:Str} {st:Stmt} {f:Addr} {oc:Value} {od an:Option Addr} {osl:Array (Option Value)} {dV kV doc pm cdv ct:Value} (l:K.lookup f = some ⟨oc,od,.func (PySem.W.fnOf x qual (Zau st) (Zam st) (Zm st) dV kV doc pm an cdv ct),osl⟩)
  (c:PySem.W.codeIn K cdv qual = true) (k:PySem.W.keepIn K (.ref f) = true):Fun K x qual st f (PySem.W.fnOf x qual (Zau st) (Zam st) (Zm st) dV kV doc pm an cdv ct):=⟨⟨oc,od,dV,kV,doc,pm,an,cdv,ct,osl,rfl,l,c⟩,k⟩
end
section
variable {X:Cx}
end
noncomputable def ZgM (H H':Hp):Prop:=∀ b o,H b = some o → H' b = some o
theorem ZgM.trans {H H1 H2:Hp} (a:ZgM H H1) (b:ZgM H1 H2):ZgM H H2:=fun c o h=>b c o (a c o h)
theorem ZgM.free {H H':Hp} (e:ZgM H H') {l:Addr} (h:H' l = Option.none):H l = Option.none:=by
 cases q:H l with
 | none=>rfl
 | some o=>
  rw [e l o q] at h
  cases h
theorem ZgM.seq {K:PySem.W.Frag} {H H':Hp} {a:Addr} {xs:List V} (e:ZgM H H') (h:SqL K H a xs):SqL K H' a xs:=by
 rcases h with (h | ⟨o,h⟩) | h
 ·exact .inl (.inl (e _ _ h))
 ·exact .inl (.inr ⟨o,e _ _ h⟩)
 ·exact .inr h
end L2
namespace L2
open PySem PySem.Spec PyProof.Rows
section
variable {κ:Type} [DecidableEq κ]
noncomputable def ZdK (kvs:List (κ × V)) (k:κ):Option V:=(kvs.find? fun kv=>decide (kv.1 = k)).map (·.2)
noncomputable def putK (kvs:List (κ × V)) (k:κ) (v:V):List (κ × V):=
 if (kvs.any fun kv=>decide (kv.1 = k)) = true then kvs.map (fun kv=>if kv.1 = k then (kv.1,v) else kv) else kvs ++ [(k,v)]
noncomputable def ZlP (kvs:List (κ × V)) (k:κ):List (κ × V):=kvs.filter fun kv=>decide (kv.1 ≠ k)
theorem ZkH {k:κ}:ZdK ([]:List (κ × V)) k = none:=rfl
theorem Zd7 {p:κ × V} {r:List (κ × V)} {k:κ} (e:p.1 = k):ZdK (p :: r) k = some p.2:=by simp [ZdK,List.find?_cons,e]
theorem Zd0 {p:κ × V} {r:List (κ × V)} {k:κ} (e:¬ p.1 = k):ZdK (p :: r) k = ZdK r k:=by simp [ZdK,List.find?_cons,e]
theorem ZgS (k:κ):∀ kvs:List (κ × V),(kvs.any fun kv=>decide (kv.1 = k)) = (ZdK kvs k).isSome
 | []=>rfl
 | p :: r=>by
  rw [List.any_cons]
  by_cases e:p.1 = k
  ·simp only [Zd7 e,decide_eq_true e,Bool.true_or,Option.isSome_some]
  ·rw [Zd0 e,decide_eq_false e,Bool.false_or]; exact ZgS k r
theorem ZgL (kvs:List (κ × V)) (k:κ) (v:V):(putK kvs k v).length ≤ kvs.length + 1:=by
 unfold putK
 split
 ·rw [List.length_map]; exact Nat.le_add_right _ _
 ·rw [List.length_append,List.length_cons,List.length_nil]; exact lA 0 43162452160 T1
theorem Zew.isSome_eq {o:Option V} {u:Option Value} (r:Zew o u):o.isSome = u.isSome:=by
 cases o with
 | none=>cases u with
  | none=>rfl
  | some _=>exact (show False from r).elim
 | some _=>cases u with
  | none=>exact (show False from r).elim
  | some _=>rfl
theorem Zew.getD {o:Option V} {u:Option Value} {d:V} {d':Value} (r:Zew o u) (rd:RelV d d'):RelV (o.getD d) (u.getD d'):=by
 cases o with
 | none=>cases u with
  | none=>exact rd
  | some _=>exact (show False from r).elim
 | some _=>cases u with
  | none=>exact (show False from r).elim
  | some _=>exact r
theorem KV.val {kvs:List (κ × V)} {vs:List (κ × Value)} (r:KV kvs vs) (k:κ):Zew (ZdK kvs k) (valueAt vs k):=by
 unfold KV at r
 induction r with
 | nil=>exact True.intro
 | @cons p q ps qs h t ih=>
  obtain ⟨h1,h2⟩:=h
  by_cases e:p.1 = k
  ·have e':q.1 = k:=h1.symm.trans e
   have b:valueAt (q :: qs) k = some q.2:=by simp [valueAt,List.find?_cons,e']
   rw [Zd7 e,b]; exact h2
  ·have e':¬ q.1 = k:=fun z=>e (h1.trans z)
   have b:valueAt (q :: qs) k = valueAt qs k:=by simp [valueAt,List.find?_cons,e']
   rw [Zd0 e,b]; exact ih
theorem KV.any {kvs:List (κ × V)} {vs:List (κ × Value)} (r:KV kvs vs) (k:κ):(kvs.any fun kv=>decide (kv.1 = k)) = vs.any fun kv=>decide (kv.1 = k):=by
 unfold KV at r
 induction r with
 | nil=>rfl
 | cons h t ih=>rw [List.any_cons,List.any_cons,ih,h.1]
theorem KV.repl {kvs:List (κ × V)} {vs:List (κ × Value)} (r:KV kvs vs) (k:κ) {y:V} {u:Value} (ry:RelV y u):
  KV (kvs.map fun kv=>if kv.1 = k then (kv.1,y) else kv) (vs.map fun kv=>if kv.1 = k then (kv.1,u) else kv):=by
 unfold KV at r ⊢
 induction r with
 | nil=>exact .nil
 | @cons p q ps qs h t ih=>
  rw [List.map_cons,List.map_cons]
  refine .cons ?_ ih
  obtain ⟨h1,h2⟩:=h
  by_cases e:p.1 = k
  ·rw [if_pos e,if_pos (h1.symm.trans e)]; exact ⟨h1,ry⟩
  ·rw [if_neg e,if_neg (fun z=>e (h1.trans z))]; exact ⟨h1,h2⟩
theorem KV.put {kvs:List (κ × V)} {vs:List (κ × Value)} (r:KV kvs vs) (k:κ) {y:V} {u:Value} (ry:RelV y u):KV (putK kvs k y) (stored vs k u):=by
 unfold putK stored
 rw [r.any k]
 by_cases e:(vs.any fun kv=>decide (kv.1 = k)) = true
 ·rw [if_pos e,if_pos e]; exact r.repl k ry
 ·rw [if_neg e,if_neg e]; exact Paired.snoc r ⟨rfl,ry⟩
theorem KV.drop {kvs:List (κ × V)} {vs:List (κ × Value)} (r:KV kvs vs) (k:κ):KV (ZlP kvs k) (without vs k):=by
 unfold KV at r ⊢
 unfold ZlP without
 induction r with
 | nil=>exact .nil
 | @cons p q ps qs h t ih=>
  obtain ⟨h1,h2⟩:=h
  rw [List.filter_cons,List.filter_cons]
  by_cases e:p.1 = k
  ·have a:¬ decide (p.1 ≠ k) = true:=by simp [e]
   have b:¬ decide (q.1 ≠ k) = true:=by simp [h1.symm.trans e]
   rw [if_neg a,if_neg b]; exact ih
  ·have e':¬ q.1 = k:=fun z=>e (h1.trans z)
   have a:decide (p.1 ≠ k) = true:=by simp [e]
   have b:decide (q.1 ≠ k) = true:=by simp [e']
   rw [if_pos a,if_pos b]; exact .cons ⟨h1,h2⟩ ih
theorem KV.keys {kvs:List (κ × V)} {vs:List (κ × Value)} (r:KV kvs vs):kvs.map (·.1) = vs.map (·.1):=by
 unfold KV at r
 induction r with
 | nil=>rfl
 | cons h t ih=>rw [List.map_cons,List.map_cons,ih,h.1]
theorem KV.length {kvs:List (κ × V)} {vs:List (κ × Value)} (r:KV kvs vs):kvs.length = vs.length:=Paired.length r
end
theorem Zkj {P:Program} {w:World} {k:Key} {u:Value} (r:RelV (kV k) u):(Za8 P w).is k u = true:=by
 cases k with
 | inl i=>obtain ⟨t,e⟩:=(show ∃ t,u = Value.int i t from r); subst e; exact ZgV P w i t
 | inr x=>obtain ⟨t,e⟩:=(show ∃ t,u = Value.str x t from r); subst e; exact ZgX P w x t
theorem ZfK {P:Program} {w:World}:∀ {ks:List Key} {us:List Value},Vals (ks.map kV) us → ItemsAre (Za8 P w) ks us
 | [],_,r=>by rw [List.map_nil] at r; cases r; exact .nil
 | k :: ks,_,r=>by
  rw [List.map_cons] at r
  cases r with
  | cons h t=>exact .cons (Zkj h) (ZfK t)
noncomputable abbrev KT (H:Hp):List (List Key × V) → List (List Key × Addr × Value) → Prop:=Paired fun p q=>p.1 = q.1 ∧ H q.2.1 = some (.tup (p.1.map kV)) ∧ RelV p.2 q.2.2
theorem KT.val {H:Hp} {kvs:List (List Key × V)} {xs:List (List Key × Addr × Value)} (r:KT H kvs xs) (k:List Key):Zew (ZdK kvs k) ((atKey xs k).map (·.2)):=by
 induction r with
 | nil=>exact True.intro
 | @cons p q ps qs h t ih=>
  obtain ⟨h1,_,h2⟩:=h
  by_cases e:p.1 = k
  ·have e':q.1 = k:=h1.symm.trans e
   have b:atKey (q :: qs) k = some q.2:=by simp [atKey,List.find?_cons,e']
   rw [Zd7 e,b]; exact h2
  ·have e':¬ q.1 = k:=fun z=>e (h1.trans z)
   have b:atKey (q :: qs) k = atKey qs k:=by simp [atKey,List.find?_cons,e']
   rw [Zd0 e,b]; exact ih
theorem KT.repl {H:Hp} {kvs:List (List Key × V)} {xs:List (List Key × Addr × Value)} (r:KT H kvs xs) (k:List Key) {y:V} {u:Value} (ry:RelV y u):
  KT H (kvs.map fun kv=>if kv.1 = k then (kv.1,y) else kv) (xs.map (putAt k u)):=by
 induction r with
 | nil=>exact .nil
 | @cons p q ps qs h t ih=>
  rw [List.map_cons,List.map_cons]
  refine .cons ?_ ih
  obtain ⟨h1,h2,h3⟩:=h
  unfold putAt
  by_cases e:p.1 = k
  ·rw [if_pos e,if_pos (h1.symm.trans e)]; exact ⟨h1,h2,ry⟩
  ·rw [if_neg e,if_neg (fun z=>e (h1.trans z))]; exact ⟨h1,h2,h3⟩
theorem KT.put {H:Hp} {kvs:List (List Key × V)} {xs:List (List Key × Addr × Value)} (r:KT H kvs xs) (k:List Key) {b:Addr} {y:V} {u:Value} (hb:H b = some (.tup (k.map kV))) (ry:RelV y u):
  KT H (putK kvs k y) (storedH xs k b u):=by
 have e:(kvs.any fun kv=>decide (kv.1 = k)) = (atKey xs k).isSome:=by
  rw [ZgS,(r.val k).isSome_eq,Option.isSome_map]
 unfold putK storedH
 rw [e]
 by_cases q:(atKey xs k).isSome = true
 ·rw [if_pos q,if_pos q]; exact r.repl k ry
 ·rw [if_neg q,if_neg q]; exact Paired.snoc r ⟨rfl,hb,ry⟩
theorem KT.keeps {H H':Hp} {kvs:List (List Key × V)} {xs:List (List Key × Addr × Value)} (r:KT H kvs xs) (ht:∀ b ys,H b = some (.tup ys) → H' b = some (.tup ys)):KT H' kvs xs:=
 Paired.mapP r fun _ _ z=>⟨z.1,ht _ _ z.2.1,z.2.2⟩
section
variable {P:Program} {w:World} {H:Hp} {h:Heap} {a:Addr}
theorem Zl8 {u:HO} (ok:HOk P w H h) (e:Rd H a u):ZaP P w H h a u:=e.ok ok
theorem ZjN {kvs:List (Key × V)} (ok:HOk P w H h) (e:Rd H a (.dK kvs)):kvs.length ≤ sizeLine ∧ (a == sysModules) = false ∧ ∃ vs,KV kvs vs ∧ h.DictOf (Za8 P w) a vs:=
 show ZaP P w H h a (.dK kvs) from Zl8 ok e
theorem Zn6 {kvs:List (Key × V)} (ok:HOk P w H h) (e:H a = some (.dK kvs)):kvs.length ≤ sizeLine ∧ (a == sysModules) = false ∧ ∃ vs,KV kvs vs ∧ h.DictOf (Za8 P w) a vs:=ZjN ok (.inl e)
theorem ZjV {ks:List Key} (ok:HOk P w H h) (e:H a = some (.tup (ks.map kV))):(tupleKind (Za8 P w)).is h ks a:=by
 obtain ⟨_,its,r,o,h1,h2,n,h3⟩:=(show ZaP P w H h a (.tup (ks.map kV)) from ok a _ e)
 exact ⟨o,its.toArray,n,h1,h2.1,h3,by simpa using ZfK r⟩
theorem Zl3 {kvs:List (List Key × V)} (ok:HOk P w H h) (e:Rd H a (.dT kvs)):kvs.length ≤ sizeLine ∧ (a == sysModules) = false ∧
  ∃ xs,KT H kvs xs ∧ h.DictOfH (tupleKind (Za8 P w)) a xs:=by
 obtain ⟨z,y,xs,r,o,es,ep,h1,h2,h3,h4,h5⟩:=(show ZaP P w H h a (.dT kvs) from Zl8 ok e)
 refine ⟨z,y,xs,r,o,es,ep,h1,h2,h3,h4,fun x hx=>?_,h5⟩
 have all:∀ {l:List (List Key × V)} {m:List (List Key × Addr × Value)},KT H l m → ∀ x ∈ m,(tupleKind (Za8 P w)).is h x.1 x.2.1:=by
  intro l m q
  induction q with
  | nil=>intro x hx; exact nomatch hx
  | @cons p q ps qs hq t ih=>
   intro x hx
   rcases List.mem_cons.mp hx with e | hx
   ·subst e
    exact ZjV ok (by rw [← hq.1]; exact hq.2.1)
   ·exact ih x hx
 exact all r x hx
end
noncomputable def ZhT (H:Hp) (a:Addr) (y:V) (r:Option V):Prop:=
 (∃ kvs k,Rd H a (.dK kvs) ∧ y = kV k ∧ r = ZdK kvs k) ∨ ∃ kvs k b,Rd H a (.dT kvs) ∧ y = .ref b ∧ H b = some (.tup (k.map kV)) ∧ r = ZdK kvs k
noncomputable def ZkQ (H:Hp) (a:Addr) (y v:V) (H':Hp):Prop:=
 (∃ kvs k,H a = some (.dK kvs) ∧ y = kV k ∧ kvs.length < sizeLine ∧ H' = upd H a (.dK (putK kvs k v))) ∨
 ∃ kvs k b,H a = some (.dT kvs) ∧ y = .ref b ∧ H b = some (.tup (k.map kV)) ∧ kvs.length < sizeLine ∧ H' = upd H a (.dT (putK kvs k v))
theorem ZhT.k {H:Hp} {a:Addr} {kvs:List (Key × V)} {k:Key} (e:H a = some (.dK kvs)):ZhT H a (kV k) (ZdK kvs k):=.inl ⟨kvs,k,.inl e,rfl,rfl⟩
theorem ZhT.t {H:Hp} {a b:Addr} {kvs:List (List Key × V)} {k:List Key} (e:H a = some (.dT kvs)) (eb:H b = some (.tup (k.map kV))):ZhT H a (.ref b) (ZdK kvs k):=.inr ⟨kvs,k,b,.inl e,rfl,eb,rfl⟩
theorem ZkQ.k {H:Hp} {a:Addr} {kvs:List (Key × V)} {k:Key} {v:V} (e:H a = some (.dK kvs)) (hl:kvs.length < sizeLine):ZkQ H a (kV k) v (upd H a (.dK (putK kvs k v))):=.inl ⟨kvs,k,e,rfl,hl,rfl⟩
theorem ZkQ.t {H:Hp} {a b:Addr} {kvs:List (List Key × V)} {k:List Key} {v:V} (e:H a = some (.dT kvs)) (eb:H b = some (.tup (k.map kV))) (hl:kvs.length < sizeLine):
  ZkQ H a (.ref b) v (upd H a (.dT (putK kvs k v))):=.inr ⟨kvs,k,b,e,rfl,eb,hl,rfl⟩
section
variable {X:Cx} {pins:List (Addr × Obj)} {σ:St} {H:Hp} {s:Shared} {a:Addr} {y v:V} {u r:Value} {o:Option V} {A:Around} {E:Value → Shared → Prop}
theorem Inv.big (I:Inv X pins σ H s):sysModules < s.heap.objs.size:=by
 have h:mainGlobals < s.heap.objs.size:=(I.mod.glob.keeps I.bk).lt
 exact Nat.lt_trans (by decide) h
theorem Zi5 {Q:Value → Shared → Prop} (hu:A.units + 1 < cLine) (I:Inv X pins σ H s) (g:ZhT H a y (some v)) (ry:RelV y u) (h:∀ w' s',Inv X pins σ H s' → RelV v w' → Q w' s'):
  wpAny (model X.prog X.w) A (getItem (.ref a) u) Q E s:=by
 rcases g with ⟨kvs,k,e,ey,l⟩ | ⟨kvs,k,b,e,ey,eb,l⟩
 ·subst ey
  obtain ⟨z,hd,vs,rel,dd⟩:=ZjN I.hok e
  obtain ⟨w',hw,rw'⟩:=Zew.some_of (v:=v) (o:=valueAt vs k) (by rw [l]; exact rel.val k)
  exact wpAny_getItem_of (Zkj ry) dd.mapOf hw (h w' _ (I.tok _) rw')
 ·subst ey
  cases (show u = Value.ref b from ry)
  obtain ⟨z,hd,xs,rel,dd⟩:=Zl3 I.hok e
  obtain ⟨w',hw,rw'⟩:=Zew.some_of (v:=v) (o:=(atKey xs k).map (·.2)) (by rw [l]; exact rel.val k)
  obtain ⟨p,hp,hp2⟩:=Option.map_eq_some_iff.mp hw
  refine wpAny_getItem_heap (tupleKind_room_in1 hu) (ZjV I.hok eb) dd hp ?_
  rw [hp2]
  exact h w' _ (I.tok _) rw'
theorem Zlb {h':Heap} {t':Nat} {ob:HO} (I:Inv X pins σ H s) (mu:Mut (H a)) (hs:Heap.SameBut a s.heap h') (he:∃ q,h'.get? a = some q) (new:ZaP X.prog X.w (upd H a ob) h' a ob):
  Inv X pins σ (upd H a ob) { s with heap:=h',toks:=t' }:=
 I.write (x:=a) (e:=a) mu (.inl rfl) (fun b q hb z=>(hs.2 b hb).trans z) he new
theorem Zm4 {P:Program} {w:World} {H':Hp} {h':Heap} {kvs:List (Key × V)} {vs:List (Key × Value)} (z:kvs.length ≤ sizeLine) (hd:(a == sysModules) = false) (rel:KV kvs vs) (dd:h'.DictOf (Za8 P w) a vs):
  ZaP P w H' h' a (.dK kvs):=⟨z,hd,vs,rel,dd⟩
end
section
variable {X:Cx} {pins:List (Addr × Obj)} {σ:St} {H:Hp} {s:Shared} {a:Addr} {kvs:List (Key × V)} {k:Key} {u:Value} {A:Around} {E:Value → Shared → Prop}
end
noncomputable def Zja (i:Expr):Prop:=∀ ov iv,subscripted i false ov iv = operate [ov,iv] (getItem ov iv)
theorem Ziu {prog:Program} {w:World} {A:Around} {E:Value → Shared → Prop} {s:Shared} {env:Env} {value slice:Expr} {pos:Pos} {T id:String} {Q:Value → Shared → Prop}
  (hl:typeLookup (.type T) "__getitem__" = pure (some (.builtin id))) (hs:Zja slice)
  (h:wpAny (model prog w) A (eval value env) (fun o s₁=>wpAny (model prog w) A (eval slice env) (fun i s₂=>s₂.TypeIs o T ∧ wpAny (model prog w) A (getItem o i) Q E s₂) E s₁) E s):
  wpAny (model prog w) A (eval (.Subscript value slice pos) env) Q E s:=by
 refine Subscript_ (wpAny_mono h (fun o s₁ h₁=>wpAny_mono h₁ (fun i s₂ h₂=>?_) fun _ _ x=>x) fun _ _ x=>x)
 obtain ⟨hT,h₂⟩:=h₂
 unfold subscriptTail
 refine wpAny_bind ?_
 rw [getitemInPython_of_ne hT.not_modules]
 refine wpAny_bind (wpAny_specialOf hT hl ?_)
 have fin:wpAny (model prog w) A (subscripted slice false o i) (fun r s₃=>wpAny (model prog w) A (letTemporaryGo value o r >>= fun _=>pure r) Q E s₃) E s₂:=by
  rw [hs o i]
  exact wpAny_operating (wpAny_mono h₂ (fun r s₃ h₃=>wpAny_bind (wpAny_letTemporaryGo (wpAny_pure h₃))) fun _ _ x=>x)
 first
  | exact wpAny_pure (wpAny_bind fin)
  | exact wpAny_bind (wpAny_pure (wpAny_bind fin))
  | exact wpAny_bind fin
theorem Zhi {X:Cx} {pins:List (Addr × Obj)} {σ:St} {H:Hp} {s:Shared} {a:Addr} {y:V} {o:Option V} (I:Inv X pins σ H s) (g:ZhT H a y o):s.TypeIs (.ref a) "dict":=by
 rcases g with ⟨kvs,k,e,_,_⟩ | ⟨kvs,k,b,e,_,_,_⟩
 ·obtain ⟨_,_,vs,_,dd⟩:=ZjN I.hok e
  exact dd.typeIs
 ·obtain ⟨_,_,xs,_,dd⟩:=Zl3 I.hok e
  exact dd.typeIs
noncomputable def ZoQ (td ty:TE):TE:=fun σ H Q=>td σ H fun x H1=>ty σ H1 fun y H2=>∃ a v,x = .ref a ∧ ZhT H2 a y (some v) ∧ Q v H2
section
variable {X:Cx} {o i e value:Expr} {pos pos' tpos:Pos} {td ty tv:TE}
theorem Zll (hu:X.A.units + 1 < cLine) (ho:PE X o td) (hi:PE X i ty) (hs:Zja i):PE X (.Subscript o i pos) (ZoQ td ty):=by
 intro pins s σ H Q I h
 refine Ziu PySem.F.slot_dict_getitem.lookup hs (thn (ho pins s σ H _ I h) fun u s1 ⟨x,H1,I1,rx,q1⟩=>thn (hi pins s1 σ H1 _ I1 q1) fun iv s2 zz1=>?_)
 obtain ⟨y,H2,I2,ry,a,v,ex,g,q2⟩:=zz1
 subst ex
 obtain rfl:u = Value.ref a:=rx
 exact ⟨Zhi I2 g,Zi5 hu I2 g ry fun w' s3 I3 rw'=>⟨v,H2,I3,rw',q2⟩⟩
end
theorem Zj4 {P:Program} {w:World} {H:Hp} (h:Heap) (hb:sysModules < h.objs.size):ZaP P w H (h.push { cls:=.type "dict",data:=.dict #[] }) h.objs.size (.dK []):=
 ⟨Nat.zero_le _,beq_eq_false_iff_ne.mpr (Ne.symm (Nat.ne_of_lt hb)),[],.nil,Heap.DictOf.new h⟩
section
variable {X:Cx} {pos:Pos}
end
noncomputable def Zgt:List (TE × TE) → St → Hp → (List (V × V) → Hp → Prop) → Prop
 | [],_,H,Q=>Q [] H
 | (tk,tv) :: r,σ,H,Q=>tk σ H fun x H1=>tv σ H1 fun y H2=>Zgt r σ H2 fun ps H3=>Q ((x,y) :: ps) H3
noncomputable abbrev VV:List (V × V) → List (Value × Value) → Prop:=Paired fun p q=>RelV p.1 q.1 ∧ RelV p.2 q.2
noncomputable def PPs (X:Cx) (pos:Pos) (keys:List (Option Expr)) (values:List Expr) (trs:List (TE × TE)):Prop:=
 ∀ (pins:List (Addr × Obj)) (s:Shared) (σ:St) (H:Hp) (Q:List (V × V) → Hp → Prop),Inv X pins σ H s → Zgt trs σ H Q →
  wpAny (model X.prog X.w) X.A (evalPairs (pairTrees keys values X.env pos)) (fun vs s'=>∃ ps H',Inv X pins σ H' s' ∧ VV ps vs ∧ Q ps H') X.xe s
theorem ZlJ {X:Cx} {pos:Pos}:PPs X pos [] [] []:=fun pins s σ H Q I h=>pairTrees_nil_walk ⟨[],H,I,.nil,h⟩
theorem Zj2 {X:Cx} {pos:Pos} {k v:Expr} {ks:List (Option Expr)} {vs:List Expr} {tk tv:TE} {trs:List (TE × TE)} (hk:PE X k tk) (hv:PE X v tv) (hr:PPs X pos ks vs trs):
  PPs X pos (some k :: ks) (v :: vs) ((tk,tv) :: trs):=fun pins s σ H Q I h=>
 pairTrees_cons_walk (thn (hk pins s σ H _ I h) fun u s1 ⟨x,H1,I1,rx,q1⟩=>thn (hv pins s1 σ H1 _ I1 q1) fun w2 s2 ⟨y,H2,I2,ry,q2⟩=>
  thn (hr pins s2 σ H2 _ I2 q2) fun ws s3 ⟨ps,H3,I3,rel,q3⟩=>⟨(x,y) :: ps,H3,I3,.cons ⟨rx,ry⟩ rel,q3⟩)
noncomputable def Zej (kvs more:List (Key × V)):List (Key × V):=more.foldl (fun acc kv=>putK acc kv.1 kv.2) kvs
theorem KV.merge:∀ {more:List (Key × V)} {rs:List (Key × Value)} {kvs:List (Key × V)} {vs:List (Key × Value)},KV more rs → KV kvs vs → KV (Zej kvs more) (merged vs rs):=by
 intro more rs kvs vs r
 unfold KV at r
 induction r generalizing kvs vs with
 | nil=>intro q; exact q
 | @cons p q ps qs h t ih=>
  intro r0
  have e:KV (putK kvs p.1 p.2) (stored vs q.1 q.2):=by
   have:=r0.put p.1 h.2
   rw [← h.1]; exact this
  exact ih e
theorem ZdH:∀ (more kvs:List (Key × V)),(Zej kvs more).length ≤ kvs.length + more.length
 | [],kvs=>by show kvs.length ≤ kvs.length + 0; exact Nat.le_add_right _ _
 | p :: r,kvs=>by
  have h1:=ZdH r (putK kvs p.1 p.2)
  have h2:=ZgL kvs p.1 p.2
  show (Zej (putK kvs p.1 p.2) r).length ≤ _
  rw [List.length_cons]; exact lD 2 0xa3c1c2030c201a1c001 T1 h2 h1
theorem Ze9 {P:Program} {w:World}:∀ {kvs:List (Key × V)} {ws:List (Value × Value)},VV (kvs.map fun kv=>(kV kv.1,kv.2)) ws → ∃ rs,Carries (Za8 P w) ws rs ∧ KV kvs rs
 | [],_,r=>by rw [List.map_nil] at r; cases r; exact ⟨[],True.intro,.nil⟩
 | p :: kvs,_,r=>by
  rw [List.map_cons] at r
  cases r with
  | @cons a b as bs h t=>
   obtain ⟨rs,c,q⟩:=Ze9 (P:=P) (w:=w) t
   obtain ⟨b1,b2⟩:=b
   exact ⟨(p.1,b2) :: rs,⟨Zkj h.1,rfl,c⟩,.cons ⟨rfl,h.2⟩ q⟩
noncomputable def Zow (trs:List (TE × TE)):TE:=fun σ H Q=>∀ p,H p = none → Zgt trs σ (upd H p (.dK [])) fun ps H2=>H2 p = some (.dK []) ∧ ∃ kvs:List (Key × V),ps = kvs.map (fun kv=>(kV kv.1,kv.2)) ∧ kvs.length ≤ 15 ∧ Q (.ref p) (upd H2 p (.dK (Zej [] kvs)))
theorem Zk1 {X:Cx} {pos:Pos} {keys:List (Option Expr)} {values:List Expr} {trs:List (TE × TE)} (h:PPs X pos keys values trs) (hall:keys.all (·.isSome) = true) (hl:keys.length = values.length) (h0:keys ≠ [])
  (h15:keys.length ≤ 15):PE X (.Dict keys values pos) (Zow trs):=by
 intro pins s σ H Q I q
 have hn:=I.hok.fresh (Nat.le_refl s.heap.objs.size)
 have I1:=I.laid (a:=s.heap.objs.size) (o:=.dK []) (h':=s.heap.push { cls:=.type "dict",data:=.dict #[] }) (t':=s.toks) (fun _ _ q=>Heap.get?_push_of_some _ q) (Nat.le_refl _) (Zj4 s.heap I.big)
 refine wpAny_Dict_walk (knd:=Za8 X.prog X.w) hall hl h0 h15 (thn (h pins _ σ _ _ I1 (q _ hn)) fun ws s2 zz1=>?_)
 obtain ⟨ps,H2,I2,rel,e,kvs,ep,lk,q2⟩:=zz1
 subst ep
 obtain ⟨rs,c,rk⟩:=Ze9 (P:=X.prog) (w:=X.w) rel
 obtain ⟨z,hd,vs0,r0,dd⟩:=Zn6 I2.hok e
 cases r0
 refine ⟨rs,c,dd,fun h' dd' hs=>⟨.ref s.heap.objs.size,_,?_,rfl,q2⟩⟩
 have hz:(Zej [] kvs).length ≤ sizeLine:=by
  have h1:=ZdH kvs []
  rw [List.length_nil] at h1
  rw [sizeLine_eq]; exact lB 2 0x10000007b00f1b1011ec001 T1 h1 lk
 have he:∃ q,h'.get? s.heap.objs.size = some q:=let ⟨q,_,_,hq,_⟩:=dd'; ⟨q,hq⟩
 exact Zlb I2 (by rw [e]; exact True.intro) hs he (Zm4 hz hd (rk.merge .nil) dd')
structure M1 (X:Cx) (o:Expr) (m:Str) (apos:Pos) (e:Expr) (cpos:Pos):Prop where
 base:attributeBase o m X.env (eval o X.env) = eval o X.env
 few:((backTo cpos (starEach [e] X.env)).all (fun x=>!x.1) && (backToKw cpos (keywordEach [] X.env)).all (fun x=>x.1.isSome)
  && decide (([e]:List Expr).length + ([]:List Keyword).length + (if ([]:List Keyword).isEmpty then 0 else 1) < 30)) = true
 line:(apos.endLine == cpos.line) = true
 trees:backTo cpos (starEach [e] X.env) = [(false,eval e X.env)]
structure M2 (X:Cx) (o:Expr) (m:Str) (apos:Pos) (e f:Expr) (cpos:Pos):Prop where
 base:attributeBase o m X.env (eval o X.env) = eval o X.env
 few:((backTo cpos (starEach [e,f] X.env)).all (fun x=>!x.1) && (backToKw cpos (keywordEach [] X.env)).all (fun x=>x.1.isSome)
  && decide (([e,f]:List Expr).length + ([]:List Keyword).length + (if ([]:List Keyword).isEmpty then 0 else 1) < 30)) = true
 line:(apos.endLine == cpos.line) = true
 trees:backTo cpos (starEach [e,f] X.env) = [(false,eval e X.env),(false,eval f X.env)]
section
variable {X:Cx} {pins:List (Addr × Obj)} {σ:St} {H:Hp} {s:Shared} {a:Addr} {y d:V} {u r:Value} {o:Option V} {A:Around} {E:Value → Shared → Prop}
end
section
variable {X:Cx} {o e f:Expr} {apos cpos:Pos} {td ty tx:TE}
end
section
variable {X:Cx} {pins:List (Addr × Obj)} {σ:St} {H:Hp} {s:Shared} {a:Addr} {kvs:List (Key × V)} {A:Around} {E:Value → Shared → Prop}
end
section
variable {X:Cx} {pins:List (Addr × Obj)} {σ:St} {H:Hp} {s:Shared} {a:Addr} {y:V} {u:Value} {A:Around} {E:Value → Shared → Prop}
end
end L2
namespace L3
open PySem
noncomputable section
inductive D where
 | non | bl (b:Bool) | int (i:Int) | str (x:List Nat) | tup (ds:List D) | scr (ds:List D) | ref (n:Nat)
 deriving Inhabited
noncomputable abbrev Zbd:=Sum Int (List Nat)
inductive MO where
 | lst (xs:List D) | dct (kvs:List (Zbd × D)) | fdct (kvs:List (Zbd × D)) | ins (c:List Nat) (fs:List (List Nat × D))
 deriving Inhabited
noncomputable abbrev Store:=List MO
structure X3 where
 cls:List Nat
 arg:D
inductive R3 (α:Type) where
 | ok (a:α) (M:Store) | exc (x:X3) (M:Store) | bad
@[simp] noncomputable def R3.bind {α β:Type} (r:R3 α) (k:α → Store → R3 β):R3 β:=match r with
 | .ok a M=>k a M
 | .exc x M=>.exc x M
 | .bad=>.bad
theorem R3.bind_ok {α β:Type} (a:α) (M:Store) (k:α → Store → R3 β):(R3.ok a M).bind k = k a M:=rfl
noncomputable def Zak:Nat → D → Bool
 | _,.non=>true | _,.bl _=>true | _,.int _=>true | _,.str _=>true
 | n + 1,.tup ds=>ds.all (Zak n)
 | _,_=>false
noncomputable abbrev DEEP:Nat:=60
mutual
noncomputable def deq:D → D → Bool
 | .non,.non=>true
 | .bl a,.bl b=>a == b
 | .int a,.int b=>a == b
 | .str a,.str b=>a == b
 | .tup a,.tup b=>ZbX a b
 | .bl a,.int b=>(if a then 1 else 0) == b
 | .int a,.bl b=>a == (if b then 1 else 0)
 | _,_=>false
noncomputable def ZbX:List D → List D → Bool
 | [],[]=>true
 | a :: x,b :: y=>deq a b && ZbX x y
 | _,_=>false
end
mutual
noncomputable def below (n:Nat):D → Bool
 | .tup ds=>belowL n ds
 | .scr ds=>belowL n ds
 | .ref k=>k < n
 | .non=>true | .bl _=>true | .int _=>true | .str _=>true
noncomputable def belowL (n:Nat):List D → Bool
 | []=>true
 | d :: ds=>below n d && belowL n ds
end
mutual
noncomputable def same:D → D → Bool
 | .non,.non=>true
 | .bl a,.bl b=>a == b
 | .int a,.int b=>a == b
 | .str a,.str b=>a == b
 | .tup a,.tup b=>Zfi a b
 | .scr a,.scr b=>Zfi a b
 | .ref a,.ref b=>a == b
 | _,_=>false
noncomputable def Zfi:List D → List D → Bool
 | [],[]=>true
 | a :: x,b :: y=>same a b && Zfi x y
 | _,_=>false
end
mutual
theorem same_iff:∀ {a b:D},same a b = true ↔ a = b
 | .non,b=>by cases b <;> simp [same]
 | .bl a,b=>by cases b <;> simp [same]
 | .int a,b=>by cases b <;> simp [same]
 | .str a,b=>by cases b <;> simp [same]
 | .tup a,b=>by cases b <;> simp [same,Zeh (x:=a)]
 | .scr a,b=>by cases b <;> simp [same,Zeh (x:=a)]
 | .ref a,b=>by cases b <;> simp [same]
theorem Zeh:∀ {x y:List D},Zfi x y = true ↔ x = y
 | [],y=>by cases y <;> simp [Zfi]
 | a :: x,y=>by
  cases y with
  | nil=>simp [Zfi]
  | cons b y=>simp [Zfi,same_iff (a:=a),Zeh (x:=x)]
end
noncomputable instance:DecidableEq D:=fun a b=>decidable_of_iff (same a b = true) same_iff
noncomputable instance:DecidableEq MO:=fun a b=>match a,b with
 | .lst x,.lst y=>if h:x = y then isTrue (by rw [h]) else isFalse (by intro e; cases e; exact h rfl)
 | .dct x,.dct y=>if h:x = y then isTrue (by rw [h]) else isFalse (by intro e; cases e; exact h rfl)
 | .fdct x,.fdct y=>if h:x = y then isTrue (by rw [h]) else isFalse (by intro e; cases e; exact h rfl)
 | .ins c x,.ins d y=>if h:c = d ∧ x = y then isTrue (by rw [h.1,h.2]) else isFalse (by intro e; cases e; exact h ⟨rfl,rfl⟩)
 | .ins _ _,.lst _=>isFalse (by intro e; cases e)
 | .ins _ _,.dct _=>isFalse (by intro e; cases e)
 | .ins _ _,.fdct _=>isFalse (by intro e; cases e)
 | .lst _,.ins _ _=>isFalse (by intro e; cases e)
 | .dct _,.ins _ _=>isFalse (by intro e; cases e)
 | .fdct _,.ins _ _=>isFalse (by intro e; cases e)
 | .lst _,.dct _=>isFalse (by intro e; cases e)
 | .lst _,.fdct _=>isFalse (by intro e; cases e)
 | .dct _,.lst _=>isFalse (by intro e; cases e)
 | .dct _,.fdct _=>isFalse (by intro e; cases e)
 | .fdct _,.lst _=>isFalse (by intro e; cases e)
 | .fdct _,.dct _=>isFalse (by intro e; cases e)
@[simp] noncomputable abbrev SZ:Nat:=1000000
noncomputable abbrev Zai:=List (Option D)
noncomputable abbrev E3:=Zai → Store → R3 D
noncomputable abbrev EL3:=Zai → Store → R3 (List D)
noncomputable abbrev F3:=List D → Store → R3 D
inductive O3 where
 | nx (env:Zai) (M:Store) | rt (d:D) (M:Store) | bk (env:Zai) (M:Store) | ct (env:Zai) (M:Store) | exc (x:X3) (M:Store) | bad
noncomputable abbrev S3:=Zai → Store → O3
@[simp] noncomputable def Zb (i:Nat):E3:=fun env M=>match env[i]? with
 | some (some d)=>.ok d M
 | _=>.bad
@[simp] noncomputable def eC (d:D):E3:=fun _ M=>.ok d M
@[simp] noncomputable def e1 (op:D → Store → R3 D) (f:E3):E3:=fun env M=>(f env M).bind op
@[simp] noncomputable def e2 (op:D → D → Store → R3 D) (f g:E3):E3:=fun env M=>(f env M).bind fun a M1=>(g env M1).bind fun b M2=>op a b M2
@[simp] noncomputable def Ze:EL3:=fun _ M=>.ok [] M
@[simp] noncomputable def Za (f:E3) (g:EL3):EL3:=fun env M=>(f env M).bind fun a M1=>(g env M1).bind fun b M2=>.ok (a :: b) M2
@[simp] noncomputable def alloc (o:MO) (M:Store):R3 D:=.ok (.ref M.length) (M ++ [o])
section
local instance (priority:=100000) clP1 (p:Prop):Decidable p:=Classical.propDecidable p
@[simp] noncomputable def Zap (g:EL3):E3:=fun env M=>(g env M).bind fun ds M1=>if ds.length ≤ SZ then .ok (.tup ds) M1 else .bad
end
section
local instance (priority:=100000) clP2 (p:Prop):Decidable p:=Classical.propDecidable p
@[simp] noncomputable def Zbu (g:EL3):E3:=fun env M=>(g env M).bind fun ds M1=>if ds.length ≤ SZ then alloc (.lst ds) M1 else .bad
end
@[simp] noncomputable def Zdq (f g:E3):E3:=fun env M=>(f env M).bind fun a M1=>match a with
 | .bl true=>g env M1
 | .bl false=>.ok (.bl false) M1
 | _=>.bad
@[simp] noncomputable def eOr (f g:E3):E3:=fun env M=>(f env M).bind fun a M1=>match a with
 | .bl false=>g env M1
 | .bl true=>.ok (.bl true) M1
 | _=>.bad
@[simp] noncomputable def Zby (a:D) (M:Store):R3 D:=match a with
 | .bl b=>.ok (.bl (!b)) M
 | _=>.bad
@[simp] noncomputable def eIf (c f g:E3):E3:=fun env M=>(c env M).bind fun a M1=>match a with
 | .bl true=>f env M1
 | .bl false=>g env M1
 | _=>.bad
@[simp] noncomputable def Zz (F:F3) (g:EL3):E3:=fun env M=>(g env M).bind fun ds M1=>F ds M1
section
local instance (priority:=100000) clP3 (p:Prop):Decidable p:=Classical.propDecidable p
@[simp] noncomputable def Zn (a b:D) (M:Store):R3 D:=match a,b with
 | .int i,.int j=>.ok (.int (i + j)) M
 | .str x,.str y=>if x.length + y.length ≤ SZ then .ok (.str (x ++ y)) M else .bad
 | .tup x,.tup y=>if x.length + y.length ≤ SZ then .ok (.tup (x ++ y)) M else .bad
 | .ref n,.ref m=>match M[n]?,M[m]? with
  | some (.lst x),some (.lst y)=>if x.length + y.length ≤ SZ then alloc (.lst (x ++ y)) M else .bad
  | _,_=>.bad
 | _,_=>.bad
end
@[simp] noncomputable def Zj8 (a b:D) (M:Store):R3 D:=match a,b with
 | .int i,.int j=>.ok (.int (i - j)) M
 | _,_=>.bad
section
local instance (priority:=100000) clP4 (p:Prop):Decidable p:=Classical.propDecidable p
noncomputable def Zbs (i j:Int):Bool:=(decide (-(2 ^ 64) < i) && decide (i < 2 ^ 64)) || (decide (-(2 ^ 64) < j) && decide (j < 2 ^ 64))
end
section
local instance (priority:=100000) clP5 (p:Prop):Decidable p:=Classical.propDecidable p
@[simp] noncomputable def ZaO (a b:D) (M:Store):R3 D:=match a,b with
 | .int i,.int j=>if Zbs i j then .ok (.int (i * j)) M else .bad
 | .str x,.int k=>if x.length * k.toNat ≤ SZ ∧ k < 1000000 ∧ -1000000 < k then .ok (.str (List.replicate k.toNat x).flatten) M else .bad
 | .ref n,.int k=>match M[n]? with
  | some (.lst x)=>if x.length * k.toNat ≤ SZ ∧ k < 1000000 ∧ -1000000 < k then alloc (.lst (List.replicate k.toNat x).flatten) M else .bad
  | _=>.bad
 | _,_=>.bad
end
@[simp] noncomputable def Zaa (a b:D) (M:Store):R3 D:=match a,b with
 | .int i,.int j=>if 0 < j then .ok (.int (i % j)) M else .bad
 | _,_=>.bad
section
local instance (priority:=100000) clP6 (p:Prop):Decidable p:=Classical.propDecidable p
@[simp] noncomputable def Zag (a b:D) (M:Store):R3 D:=match a,b with
 | .int i,.int j=>if 0 < j ∧ j < 1073741824 then .ok (.int (i / j)) M else .bad
 | _,_=>.bad
end
@[simp] noncomputable def ZfL (a b:D) (M:Store):R3 D:=match a,b with
 | .int i,.int j=>if 0 ≤ j ∧ j ≤ 1000 ∧ i.natAbs < 1000 then .ok (.int (i ^ j.toNat)) M else .bad
 | _,_=>.bad
@[simp] noncomputable def ZaR (a:D) (M:Store):R3 D:=match a with
 | .int i=>.ok (.int (-i)) M
 | _=>.bad
@[simp] noncomputable def Zhx (a b:D) (M:Store):R3 D:=match a,b with
 | .int i,.int j=>.ok (.bl (decide (i < j))) M
 | _,_=>.bad
@[simp] noncomputable def Zfu (a b:D) (M:Store):R3 D:=match a,b with
 | .int i,.int j=>.ok (.bl (decide (j < i))) M
 | _,_=>.bad
@[simp] noncomputable def Zlr (a b:D) (M:Store):R3 D:=match a,b with
 | .int i,.int j=>.ok (.bl (decide (j ≤ i))) M
 | _,_=>.bad
@[simp] noncomputable def eqD (a b:D) (M:Store):Option Bool:=match a,b with
 | .ref n,.ref m=>match M[n]?,M[m]? with
  | some (.lst x),some (.lst y)=>if x.all (Zak DEEP) && y.all (Zak DEEP) then some (ZbX x y) else none
  | _,_=>none
 | .int i,.int j=>some (decide (i = j))
 | .str x,.str y=>some (decide (x = y))
 | .bl x,.bl y=>some (decide (x = y))
 | .tup x,.tup y=>if x.all (Zak DEEP) && y.all (Zak DEEP) then some (ZbX x y) else none
 | _,_=>none
@[simp] noncomputable def Zbv (a b:D) (M:Store):R3 D:=match eqD a b M with
 | some r=>.ok (.bl r) M
 | none=>.bad
@[simp] noncomputable def ZiH (a b:D) (M:Store):R3 D:=match eqD a b M with
 | some r=>.ok (.bl (!r)) M
 | none=>.bad
@[simp] noncomputable def ZgU (a b:D) (M:Store):R3 D:=match b with
 | .non=>.ok (.bl (decide (a = .non))) M
 | _=>.bad
noncomputable def Zax:D → Bool
 | .non=>true | .bl _=>true | .int _=>true | .str _=>true | _=>false
@[simp] noncomputable def inD (a b:D):Option Bool:=match a,b with
 | .str [c],.str y=>some (decide (c ∈ y))
 | x,.tup ys=>if Zax x && ys.all Zax then some (ys.any fun y=>deq y x) else none
 | _,_=>none
@[simp] noncomputable def Zd4 (a b:D) (M:Store):R3 D:=match inD a b with
 | some r=>.ok (.bl r) M
 | none=>.bad
@[simp] noncomputable def Zd6 (a b:D) (M:Store):R3 D:=match inD a b with
 | some r=>.ok (.bl (!r)) M
 | none=>.bad
noncomputable def ixD (n:Nat) (i:Int):Option Nat:=if 0 ≤ i then (if i < n then some i.toNat else none) else if -(n:Int) ≤ i then some (i + n).toNat else none
noncomputable def Za0 {α:Type} (xs:List α) (i:Int):Option α:=(ixD xs.length i).bind fun j=>xs[j]?
@[simp] noncomputable def Zi6:D → Option Zbd
 | .int i=>some (.inl i)
 | .str x=>some (.inr x)
 | _=>none
noncomputable def Zdy:List (Zbd × D) → Zbd → Option D
 | [],_=>none
 | (k,v) :: r,x=>if k = x then some v else Zdy r x
section
local instance (priority:=100000) clP7 (p:Prop):Decidable p:=Classical.propDecidable p
@[simp] noncomputable def Zq (a b:D) (M:Store):R3 D:=match a,b with
 | .tup ds,.int i=>match Za0 ds i with
  | some d=>.ok d M
  | none=>.bad
 | .scr ds,.int i=>match Za0 ds i with
  | some d=>.ok d M
  | none=>.bad
 | .str x,.int i=>match Za0 x i with
  | some c=>if x.length ≤ SZ then .ok (.str [c]) M else .bad
  | none=>.bad
 | .ref n,.int i=>match M[n]? with
  | some (.lst ds)=>match Za0 ds i with
   | some d=>.ok d M
   | none=>.bad
  | _=>.bad
 | _,_=>.bad
end
@[simp] noncomputable def Zkf:Option MO → Option (List (Zbd × D))
 | some (.dct kvs)=>some kvs
 | some (.fdct kvs)=>some kvs
 | _=>none
@[simp] noncomputable def Zhz (a b:D) (M:Store):R3 D:=match a with
 | .ref n=>match Zkf M[n]?,Zi6 b with
  | some kvs,some x=>match Zdy kvs x with
   | some d=>.ok d M
   | none=>.bad
  | _,_=>.bad
 | _=>.bad
noncomputable def sIx (n d:Nat):Option Int → Nat
 | none=>d
 | some v=>if v < 0 then (v + (n:Int)).toNat else min v.toNat n
noncomputable def cutD {α:Type} (xs:List α) (lo hi:Option Int):List α:=(xs.drop (sIx xs.length 0 lo)).take (sIx xs.length xs.length hi - sIx xs.length 0 lo)
noncomputable abbrev EO3:=Zai → Store → R3 (Option Int)
@[simp] noncomputable def ZaS:EO3:=fun _ M=>.ok none M
@[simp] noncomputable def Zad (f:E3):EO3:=fun env M=>(f env M).bind fun a M1=>match a with
 | .int i=>.ok (some i) M1
 | _=>.bad
section
local instance (priority:=100000) clP8 (p:Prop):Decidable p:=Classical.propDecidable p
@[simp] noncomputable def Zeu (a:D) (lo hi:Option Int) (M:Store):R3 D:=match a with
 | .tup ds=>.ok (.tup (cutD ds lo hi)) M
 | .scr ds=>alloc (.lst (cutD ds lo hi)) M
 | .str x=>if x.length ≤ SZ then .ok (.str (cutD x lo hi)) M else .bad
 | .ref n=>match M[n]? with
  | some (.lst ds)=>alloc (.lst (cutD ds lo hi)) M
  | _=>.bad
 | _=>.bad
end
@[simp] noncomputable def eSl (f:E3) (lo hi:EO3):E3:=fun env M=>(f env M).bind fun a M1=>(lo env M1).bind fun l M2=>(hi env M2).bind fun h M3=>Zeu a l h M3
section
local instance (priority:=100000) clP9 (p:Prop):Decidable p:=Classical.propDecidable p
@[simp] noncomputable def Zbi (ds:List D) (M:Store):R3 D:=match ds with
 | [.tup x]=>.ok (.int x.length) M
 | [.scr x]=>.ok (.int x.length) M
 | [.str x]=>if x.length ≤ SZ then .ok (.int x.length) M else .bad
 | [.ref n]=>match M[n]? with
  | some (.lst x)=>.ok (.int x.length) M
  | _=>.bad
 | _=>.bad
end
@[simp] noncomputable def ZaF (ds:List D) (M:Store):R3 D:=match ds with
 | [.tup x]=>.ok (.tup x) M
 | [.scr x]=>.ok (.tup x) M
 | [.ref n]=>match M[n]? with
  | some (.lst x)=>.ok (.tup x) M
  | _=>.bad
 | _=>.bad
inductive Ty3 where
 | int | bool | str | list | tuple
 deriving DecidableEq
@[simp] noncomputable def Zfp (T:Ty3) (d:D) (M:Store):Option Bool:=match d with
 | .non=>some false
 | .bl _=>some (T == .bool || T == .int)
 | .int _=>some (T == .int)
 | .str _=>some (T == .str)
 | .tup _=>some (T == .tuple)
 | .scr _=>none
 | .ref n=>match M[n]? with
  | some (.lst _)=>some (T == .list)
  | some (.dct _)=>some false
  | some (.fdct _)=>none
  | some (.ins _ _)=>none
  | none=>none
@[simp] noncomputable def Zc5 (T:Ty3) (d:D) (M:Store):R3 D:=match Zfp T d M with
 | some b=>.ok (.bl b) M
 | none=>.bad
noncomputable def isB:D → Bool
 | .bl _=>true
 | _=>false
noncomputable def isT:D → Bool
 | .bl b=>b
 | _=>false
noncomputable def allB (l:List D):Option Bool:=if l.all isB then some (l.all isT) else none
@[simp] noncomputable def Zfx (ds:List D) (M:Store):R3 D:=match ds with
 | [.ref n]=>match M[n]? with
  | some (.lst x)=>match allB x with
   | some b=>.ok (.bl b) M
   | none=>.bad
  | _=>.bad
 | _=>.bad
@[simp] noncomputable def Zas (o:D) (ds:List D) (M:Store):R3 D:=match o,ds with
 | .str x,[.str y]=>if x.length ≤ SZ ∧ y.length ≤ SZ then .ok (.bl (y.isPrefixOf x)) M else .bad
 | _,_=>.bad
section
local instance (priority:=100000) clP11 (p:Prop):Decidable p:=Classical.propDecidable p
@[simp] noncomputable def Zaz (o:D) (ds:List D) (M:Store):R3 D:=match o,ds with
 | .ref n,[d]=>match M[n]? with
  | some (.lst x)=>if x.length < SZ then .ok .non (M.set n (.lst (x ++ [d]))) else .bad
  | _=>.bad
 | _,_=>.bad
end
section
local instance (priority:=100000) clPp (p:Prop):Decidable p:=Classical.propDecidable p
end
@[simp] noncomputable def tyS (a:D) (_:Store):Bool:=match a with
 | .str _=>true
 | _=>false
@[simp] noncomputable def tyL (a:D) (M:Store):Bool:=match a with
 | .ref n=>match M[n]? with
  | some (.lst _)=>true
  | _=>false
 | _=>false
@[simp] noncomputable def ZaV (ty:D → Store → Bool) (m:D → List D → Store → R3 D) (o:E3) (g:EL3):E3:=fun env M=>(o env M).bind fun a M1=>if ty a M1 then (g env M1).bind fun ds M2=>m a ds M2 else .bad
@[simp] noncomputable def Zah (b:List D → Store → R3 D) (g:EL3):E3:=fun env M=>(g env M).bind fun ds M1=>b ds M1
noncomputable def putD (k:Zbd) (v:D) (kvs:List (Zbd × D)):List (Zbd × D):=
 if (kvs.any fun p=>decide (p.1 = k)) = true then kvs.map (fun p=>if p.1 = k then (p.1,v) else p) else kvs ++ [(k,v)]
noncomputable abbrev EP3:=Zai → Store → R3 (List (Zbd × D))
@[simp] noncomputable def Zn4:EP3:=fun _ M=>.ok [] M
@[simp] noncomputable def ZeI (f g:E3) (r:EP3):EP3:=fun env M=>(f env M).bind fun a M1=>(g env M1).bind fun b M2=>match Zi6 a with
 | some k=>(r env M2).bind fun l M3=>.ok ((k,b) :: l) M3
 | none=>.bad
noncomputable def dictOf (l:List (Zbd × D)):List (Zbd × D):=l.foldl (fun acc p=>putD p.1 p.2 acc) []
@[simp] noncomputable def Zoa (r:EP3):E3:=fun env M=>(r env (M ++ [.dct []])).bind fun l M1=>match M1[M.length]? with
 | some (.dct [])=>if l.length ≤ 15 then .ok (.ref M.length) (M1.set M.length (.dct (dictOf l))) else .bad
 | _=>.bad
@[simp] noncomputable def e3 (op:D → D → D → Store → R3 D) (f g h:E3):E3:=fun env M=>(f env M).bind fun a M1=>(g env M1).bind fun b M2=>(h env M2).bind fun c M3=>op a b c M3
section
local instance (priority:=100000) clP12 (p:Prop):Decidable p:=Classical.propDecidable p
end
section
local instance (priority:=100000) clP13 (p:Prop):Decidable p:=Classical.propDecidable p
end
@[simp] noncomputable def Zo1 (ds:List D) (M:Store):R3 D:=match ds with
 | [.int i]=>.ok (.int i) M
 | [.bl b]=>.ok (.int (if b then 1 else 0)) M
 | _=>.bad
section
local instance (priority:=100000) clPs (p:Prop):Decidable p:=Classical.propDecidable p
end
noncomputable def ZbZ:List D → Option (List Int)
 | []=>some []
 | .int i :: r=>(ZbZ r).map (i :: ·)
 | _ :: _=>none
@[simp] noncomputable def Zdp (ds:List D) (M:Store):R3 D:=match ds with
 | [.ref n]=>match M[n]? with
  | some (.lst x)=>match ZbZ x with
   | some ns=>.ok (.int ns.sum) M
   | none=>.bad
  | _=>.bad
 | [.scr x]=>match ZbZ x with
  | some ns=>.ok (.int ns.sum) M
  | none=>.bad
 | _=>.bad
noncomputable def Zab:S3:=fun env M=>.nx env M
noncomputable def ZfU:S3:=fun _ _=>.bad
noncomputable def Zv (f g:S3):S3:=fun env M=>match f env M with
 | .nx env' M'=>g env' M'
 | o=>o
noncomputable def sIf (c:E3) (f g:S3):S3:=fun env M=>match c env M with
 | .ok (.bl true) M1=>f env M1
 | .ok (.bl false) M1=>g env M1
 | .exc x M1=>.exc x M1
 | _=>.bad
noncomputable def Zan (f:E3):S3:=fun env M=>match f env M with
 | .ok d M1=>.rt d M1
 | .exc x M1=>.exc x M1
 | .bad=>.bad
noncomputable def ZaD (f:E3):S3:=fun env M=>match f env M with
 | .ok _ M1=>.nx env M1
 | .exc x M1=>.exc x M1
 | .bad=>.bad
noncomputable def Zac (i:Nat) (f:E3):S3:=fun env M=>match f env M with
 | .ok d M1=>.nx (env.set i (some d)) M1
 | .exc x M1=>.exc x M1
 | .bad=>.bad
noncomputable abbrev G3:=D → Zai → Option Zai
@[simp] noncomputable def ZbV (i:Nat):G3:=fun d env=>some (env.set i (some d))
@[simp] noncomputable def bindAll:List Nat → List D → Zai → Option Zai
 | [],[],env=>some env
 | i :: is,d :: ds,env=>bindAll is ds (env.set i (some d))
 | _,_,_=>none
@[simp] noncomputable def Zd1 (is:List Nat):G3:=fun d env=>match d with
 | .tup ds=>bindAll is ds env
 | _=>none
structure It3 where
 items:List D
 lock:Option Nat
noncomputable abbrev I3:=Zai → Store → R3 It3
section
local instance (priority:=100000) clP14 (p:Prop):Decidable p:=Classical.propDecidable p
@[simp] noncomputable def ZbU (f:E3):I3:=fun env M=>(f env M).bind fun a M1=>match a with
 | .tup ds=>.ok ⟨ds,none⟩ M1
 | .scr ds=>.ok ⟨ds,none⟩ M1
 | .str x=>if x.length ≤ SZ then .ok ⟨x.map fun c=>.str [c],none⟩ M1 else .bad
 | .ref n=>match M1[n]? with
  | some (.lst ds)=>.ok ⟨ds,some n⟩ M1
  | _=>.bad
 | _=>.bad
end
noncomputable def Zdx (lo:Int) (n:Nat):List D:=(List.range n).map fun (k:Nat)=>D.int (lo + (k:Int))
section
local instance (priority:=100000) clP15 (p:Prop):Decidable p:=Classical.propDecidable p
@[simp] noncomputable def Zco (f:E3):I3:=fun env M=>(f env M).bind fun a M1=>match a with
 | .int j=>if j ≤ 1000000 ∧ -1000000 ≤ j then .ok ⟨Zdx 0 j.toNat,none⟩ M1 else .bad
 | _=>.bad
end
section
local instance (priority:=100000) clP16 (p:Prop):Decidable p:=Classical.propDecidable p
end
noncomputable def locked (it:It3) (M:Store):Bool:=match it.lock with
 | none=>true
 | some n=>decide (M[n]? = some (.lst it.items))
noncomputable def Zc6 (it:It3) (g:G3) (body:S3):List D → Zai → Store → O3
 | [],env,M=>if locked it M then .nx env M else .bad
 | d :: ds,env,M=>if locked it M then match g d env with
  | none=>.bad
  | some env1=>match body env1 M with
   | .nx e M'=>Zc6 it g body ds e M'
   | .ct e M'=>Zc6 it g body ds e M'
   | .bk e M'=>.nx e M'
   | o=>o
  else .bad
noncomputable def Zdh (i:I3) (g:G3) (body:S3):S3:=fun env M=>match i env M with
 | .ok it M1=>Zc6 it g body it.items env M1
 | .exc x M1=>.exc x M1
 | .bad=>.bad
noncomputable def ZeO:List E3 → Zai → Store → R3 Bool
 | [],_,M=>.ok true M
 | c :: cs,env,M=>(c env M).bind fun a M1=>match a with
  | .bl true=>ZeO cs env M1
  | .bl false=>.ok false M1
  | _=>.bad
section
local instance (priority:=100000) clP17 (p:Prop):Decidable p:=Classical.propDecidable p
noncomputable def Zdd (it:It3) (g:G3) (ifs:List E3) (elt:E3) (n:Nat):List D → Zai → Store → R3 D
 | [],_,M=>if locked it M then .ok (.ref n) M else .bad
 | d :: ds,env,M=>if locked it M then match g d env with
  | none=>.bad
  | some env1=>(ZeO ifs env1 M).bind fun b M1=>if b then (elt env1 M1).bind fun e M2=>match M2[n]? with
    | some (.lst x)=>if x.length < SZ then Zdd it g ifs elt n ds env1 (M2.set n (.lst (x ++ [e]))) else .bad
    | _=>.bad
   else Zdd it g ifs elt n ds env1 M1
  else .bad
end
noncomputable def eLC (i:I3) (own:Nat) (g:G3) (ifs:List E3) (elt:E3):E3:=fun env M=>(i env M).bind fun it M1=>
 Zdd it g ifs elt M1.length it.items (env ++ List.replicate own none) (M1 ++ [.lst []])
noncomputable def Zem (n:Nat):MO → Bool
 | .lst xs=>belowL n xs
 | .dct kvs=>belowL n (kvs.map (·.2))
 | .fdct kvs=>belowL n (kvs.map (·.2))
 | .ins _ fs=>belowL n (fs.map (·.2))
noncomputable def Zca (M:Store) (d:D) (M':Store):R3 D:=
 if below M.length d && (decide (M'.take M.length = M) || (M'.take M.length).all (Zem M.length)) then .ok d (M'.take M.length) else .ok d M'
noncomputable def mkF (ps n:Nat) (body:S3):F3:=fun ds M=>if ds.length = ps then match body (ds.map some ++ List.replicate (n - ps) none) M with
  | .nx _ M'=>Zca M .non M'
  | .rt d M'=>Zca M d M'
  | .exc x M'=>.exc x M'
  | _=>.bad
 else .bad
end
end L3
namespace L3
theorem ZjT {it:It3} {i n:Nat} {elt:E3} {R:D → D → Prop} {env0:Zai}:∀ (ds:List D) (acc:List D) (env:Zai) (M:Store),(∀ d,env.set i (some d) = env0.set i (some d)) →
  (∀ d ∈ ds,∀ x,∃ e,elt (env0.set i (some d)) (M.set n (.lst x)) = .ok e (M.set n (.lst x)) ∧ R d e) → (∀ x,locked it (M.set n (.lst x)) = true) → M[n]? = some (.lst acc) → acc.length + ds.length ≤ SZ →
  ∃ es,es.length = ds.length ∧ (∀ (j:Nat) d e,ds[j]? = some d → es[j]? = some e → R d e) ∧ Zdd it (ZbV i) [] elt n ds env M = .ok (.ref n) (M.set n (.lst (acc ++ es))):=by
 intro ds
 induction ds with
 | nil=>
  intro acc env M _ _ hl hM _
  have e:M.set n (.lst acc) = M:=by
   apply List.ext_getElem?
   intro j
   by_cases hj:j = n
   ·subst hj
    rw [List.getElem?_set_self (List.getElem?_eq_some_iff.mp hM).1,hM]
   ·rw [List.getElem?_set_ne (Ne.symm hj)]
  have hl':=hl acc
  rw [e] at hl'
  exact ⟨[],rfl,fun j d e h=>by simp at h,by simp only [Zdd,hl',if_true,List.append_nil,e]⟩
 | cons d ds ih=>
  intro acc env M he hf hl hM hz
  have hn:n < M.length:=(List.getElem?_eq_some_iff.mp hM).1
  have e:M.set n (.lst acc) = M:=by
   apply List.ext_getElem?
   intro j
   by_cases hj:j = n
   ·subst hj
    rw [List.getElem?_set_self hn,hM]
   ·rw [List.getElem?_set_ne (Ne.symm hj)]
  have hl':=hl acc
  rw [e] at hl'
  obtain ⟨v,hf',hR⟩:=hf d List.mem_cons_self acc
  rw [e] at hf'
  have hz':acc.length < SZ:=by simp at hz ⊢; exact lB 1 0xf42405b01f42405ba1c0c01 T1 hz
  obtain ⟨es,le,re,h⟩:=ih (acc ++ [v]) (env0.set i (some d)) (M.set n (.lst (acc ++ [v]))) (fun d'=>by rw [List.set_set]) (fun d' hd' x=>by rw [List.set_set]; exact hf d' (List.mem_cons_of_mem _ hd') x) (fun x=>by rw [List.set_set]; exact hl x) (by rw [List.getElem?_set_self hn]) (by simp at hz ⊢; exact lB 1 0xf42405b1a0cc0f42405ba1c0c01 T1 hz)
  refine ⟨v :: es,by simp [le],fun j d' e' h1 h2=>?_,?_⟩
  ·cases j with
   | zero=>simp at h1 h2; subst h1 h2; exact hR
   | succ j=>exact re j d' e' (by simpa using h1) (by simpa using h2)
  ·simp only [Zdd,hl',if_true,ZbV,he d,ZeO,R3.bind_ok,hf',hM,hz']
   rw [h,List.set_set]
   simp
theorem Zda {it:It3} {g:G3} {body:S3} {P:Nat → Zai → Store → Prop}:∀ (ds:List D) (j:Nat) (env:Zai) (M:Store),P j env M → (∀ j env M,P j env M → locked it M = true) →
  (∀ (k:Nat) d,ds[k]? = some d → ∀ env M,P (j + k) env M → ∃ env1 e' M',g d env = some env1 ∧ body env1 M = .nx e' M' ∧ P (j + k + 1) e' M') → ∃ e' M',Zc6 it g body ds env M = .nx e' M' ∧ P (j + ds.length) e' M':=by
 intro ds
 induction ds with
 | nil=>intro j env M p hl _; exact ⟨env,M,by simp only [Zc6,hl j env M p,if_true],p⟩
 | cons d ds ih=>
  intro j env M p hl hs
  obtain ⟨env1,e',M',h1,h2,p'⟩:=hs 0 d rfl env M p
  obtain ⟨e2,M2,h3,p2⟩:=ih (j + 1) e' M' p' hl fun k d' hd' env M p=>by
   have:=hs (k + 1) d' (by simpa using hd') env M (by rw [show j + (k + 1) = j + 1 + k by exact Nat.le_antisymm (lB 0 1790139547840 T1) (lB 0 0xa1c0c1a0cc0 T1)]; exact p)
   rw [show j + (k + 1) + 1 = j + 1 + k + 1 by exact Nat.le_antisymm (lB 0 0xa1a0cccaa1c0cc0 T1) (lB 0 0xaa1c0cca1a0ccc0 T1)] at this
   exact this
  exact ⟨e2,M2,by simp only [Zc6,hl j env M p,if_true,h1,h2,h3],by rw [List.length_cons,show j + (ds.length + 1) = j + 1 + ds.length by exact Nat.le_antisymm (lB 0 1790139547840 T1) (lB 0 0xa1c0c1a0cc0 T1)]; exact p2⟩
theorem Zr {f g:S3} {env env':Zai} {M M':Store} (h:f env M = .nx env' M'):Zv f g env M = g env' M':=by rw [Zv,h]
theorem Zgg {f g:S3} {env:Zai} {M M':Store} {d:D} (h:f env M = .rt d M'):Zv f g env M = .rt d M':=by rw [Zv,h]
theorem Ze8 {c:E3} {f g:S3} {env:Zai} {M M':Store} (h:c env M = .ok (.bl true) M'):sIf c f g env M = f env M':=by rw [sIf,h]
theorem Za9 {f:E3} {env:Zai} {M M':Store} {d:D} (h:f env M = .ok d M'):Zan f env M = .rt d M':=by rw [Zan,h]
theorem Zaf {f:E3} {i:Nat} {env env':Zai} {M M':Store} {d:D} (h:f env M = .ok d M') (he:env.set i (some d) = env':=by first | (dsimp only [List.set_cons_succ,List.set_cons_zero] <;> exact rfl) | exact rfl):Zac i f env M = .nx env' M':=by rw [Zac,h]; simp only [he]
theorem ZaM {c:E3} {f:S3} {env:Zai} {M M':Store} (h:c env M = .ok (.bl false) M'):sIf c f Zab env M = .nx env M':=by rw [sIf,h]; rfl
theorem Zfg {f:E3} {env:Zai} {M M':Store} {d:D} (h:f env M = .ok d M'):ZaD f env M = .nx env M':=by rw [ZaD,h]
theorem Zdr {i:I3} {g:G3} {u:S3} {env:Zai} {M M':Store} {it:It3} (h:i env M = .ok it M'):Zdh i g u env M = Zc6 it g u it.items env M':=by rw [Zdh,h]
theorem Zm1 {i:I3} {own:Nat} {g:G3} {ts:List E3} {f:E3} {env:Zai} {M M':Store} {it:It3} (h:i env M = .ok it M'):eLC i own g ts f env M = Zdd it g ts f M'.length it.items (env ++ List.replicate own none) (M' ++ [.lst []]):=by rw [eLC,h]; rfl
theorem Zkq {ps n:Nat} {body:S3} {ds:List D} {env:Zai} {M M':Store} {d:D} (h:body env M = .rt d M') (hl:ds.length = ps:=by rfl) (he:ds.map some ++ List.replicate (n - ps) none = env:=by rfl):mkF ps n body ds M = Zca M d M':=by rw [mkF,if_pos hl,he,h]
theorem Znx {ps n:Nat} {body:S3} {ds:List D} {env env':Zai} {M M':Store} (h:body env M = .nx env' M') (hl:ds.length = ps:=by rfl) (he:ds.map some ++ List.replicate (n - ps) none = env:=by rfl):mkF ps n body ds M = Zca M .non M':=by rw [mkF,if_pos hl,he,h]
theorem ZkC {M G:Store} {d:D} (h:below M.length d = true):Zca M d (M ++ G) = .ok d M:=by
 simp [Zca,h]
theorem ZiC {M:Store} {d:D} (h:below M.length d = true):Zca M d M = .ok d M:=by
 simp [Zca,h]
end L3
namespace L3
theorem Zar {α:Type} (M:List α) (x:α) (xs:List α):(M ++ x :: xs)[M.length]? = some x:=by simp
theorem Zdu {α:Type} (M xs:List α) (k:Nat):(M ++ xs)[M.length + k]? = xs[k]?:=by
 rw [List.getElem?_append_right (Nat.le_add_right _ _)]; congr 1; exact Nat.le_antisymm (lC 1 2199589555233 T1 (Nat.sub_add_cancel (Nat.le_add_right _ _))) (lC 1 2267788938241 T1 (sbA _ _))
theorem ZeQ {α:Type} (M xs:List α) (k:Nat) (o:α):(M ++ xs).set (M.length + k) o = M ++ xs.set k o:=by
 rw [List.set_append_right _ _ (Nat.le_add_right _ _)]; congr 2; exact Nat.le_antisymm (lC 1 2199589555233 T1 (Nat.sub_add_cancel (Nat.le_add_right _ _))) (lC 1 2267788938241 T1 (sbA _ _))
theorem ZdW {α:Type} {M:List α} {n:Nat} {o:α} (h:M[n]? = some o) (xs:List α):(M ++ xs)[n]? = some o:=by
 rw [List.getElem?_append_left (List.getElem?_eq_some_iff.mp h).1,h]
theorem ZaJ {α:Type} (xs:List α) (k:Nat):Za0 xs (k:Int) = xs[k]?:=by
 unfold Za0 ixD
 rw [if_pos (Int.natCast_nonneg k)]
 by_cases h:k < xs.length
 ·rw [if_pos (Int.ofNat_lt.2 h)]; simp
 ·rw [if_neg (by exact fun z=>iN [_,_] [] 2 6667149772945 T1 z h)]; simp at h ⊢; exact h
@[simp] theorem ZnP {α:Type} (xs:List α) (k:Nat):Za0 xs (k:Int) = xs[k]?:=ZaJ xs k
@[simp] theorem Zo6 {α:Type} (xs:List α) (n:Nat):Za0 xs (no_index (OfNat.ofNat n:Int)) = xs[(OfNat.ofNat n:Nat)]?:=ZaJ xs n
@[simp] theorem ZnS {α:Type} (xs:List α):Za0 xs (-1) = xs.getLast?:=by
 unfold Za0 ixD
 rw [if_neg (by decide),List.getLast?_eq_getElem?]
 by_cases h:0 < xs.length
 ·rw [if_pos (by exact iN [_] [] 1 725993655825 T1 h)]
  simp only [Option.bind_some]
  congr 1; exact Nat.le_antisymm (iN [_,_,_] [] 2 0x200a2c10118a9c08a1 T1 (Int.toNat_of_nonneg (iN [_] [] 1 595337940497 T1 h)) (sbA _ _)) (iN [_,_,_] [] 2 0x1200a2c211808a9c81 T1 (Int.self_le_toNat _) (Nat.sub_add_cancel (lA 1 10489361 T1 h)))
 ·have:xs = []:=by simpa using h
  subst this; rfl
theorem Zig (n k:Nat):ixD n (k:Int) = if k < n then some k else none:=by
 unfold ixD
 rw [if_pos (Int.natCast_nonneg k)]
 by_cases h:k < n
 ·rw [if_pos (Int.ofNat_lt.2 h),if_pos h]; simp
 ·rw [if_neg (by exact fun z=>iN [_,_] [] 2 6667149772945 T1 z h),if_neg h]
@[simp] theorem ZoY (n k:Nat):ixD n (k:Int) = if k < n then some k else none:=Zig n k
@[simp] theorem Zpc (m n:Nat):ixD m (no_index (OfNat.ofNat n:Int)) = if (OfNat.ofNat n:Nat) < m then some (OfNat.ofNat n:Nat) else none:=Zig m n
theorem getD_last {α:Type} (xs:List α) (x:α):Za0 (xs ++ [x]) (-1) = some x:=by
 unfold Za0 ixD
 rw [if_neg (by decide),if_pos (by simp; exact iN [_] [] 0 10521768 T1)]
 have:(-1 + ((xs ++ [x]).length:Int)).toNat = xs.length:=by simp; exact Nat.le_antisymm (iN [_,_] [] 1 4514701222086817 T1 (Int.toNat_of_nonneg (iN [_] [] 0 43097169128 T1))) (iN [_,_] [] 1 4505291991981185 T1 (Int.self_le_toNat _))
 simp only [Option.bind_some,this]
 simp
inductive Row where
 | put (a:Nat) (n:Int) | add (a b c:Nat) | sub (a b c:Nat) | more (a b c:Nat) | get (a b:Nat) | set (a b:Nat) | jump (k:Nat) | when (a k:Nat) | tell (a:Nat) | halt
 deriving Inhabited
noncomputable def Zd:Row → D
 | .put a n=>.tup [.str [112,117,116],.int a,.int n]
 | .add a b c=>.tup [.str [97,100,100],.int a,.int b,.int c]
 | .sub a b c=>.tup [.str [115,117,98],.int a,.int b,.int c]
 | .more a b c=>.tup [.str [109,111,114,101],.int a,.int b,.int c]
 | .get a b=>.tup [.str [103,101,116],.int a,.int b]
 | .set a b=>.tup [.str [115,101,116],.int a,.int b]
 | .jump k=>.tup [.str [106,117,109,112],.int k]
 | .when a k=>.tup [.str [119,104,101,110],.int a,.int k]
 | .tell a=>.tup [.str [116,101,108,108],.int a]
 | .halt=>.tup [.str [104,97,108,116]]
noncomputable def Row.ok (many:Nat):Row → Prop
 | .put a _=>a < 8
 | .add a b c=>a < 8 ∧ b < 8 ∧ c < 8
 | .sub a b c=>a < 8 ∧ b < 8 ∧ c < 8
 | .more a b c=>a < 8 ∧ b < 8 ∧ c < 8
 | .get a b=>a < 8 ∧ b < 8
 | .set a b=>a < 8 ∧ b < 8
 | .jump k=>k < many
 | .when a k=>a < 8 ∧ k < many
 | .tell a=>a < 8
 | .halt=>True
noncomputable abbrev Zdz:=List Row
noncomputable def Zx (r:Zdz):D:=.tup (r.map Zd)
structure Zei (r:Zdz):Prop where
 rows:∀ x ∈ r,x.ok r.length
 last:∃ q x,r = q ++ [x] ∧ (x = .halt ∨ ∃ k,x = .jump k)
structure Stt where
 place:Nat
 boxes:List Int
 cells:List (Int × Int)
 deriving Inhabited,DecidableEq
noncomputable def Stt.ok (r:Zdz) (s:Stt):Prop:=s.place < r.length ∧ s.boxes.length = 8
noncomputable def Row.tells (bs:List Int):Row → Option Int
 | .tell a=>bs[a]?
 | _=>none
noncomputable def Row.isHalt:Row → Bool
 | .halt=>true
 | _=>false
@[simp] theorem ZnX {a:Nat} {n:Int} {bs:List Int}:(Row.put a n).tells bs = none:=rfl
@[simp] theorem ZmB {a:Nat} {n:Int}:(Row.put a n).isHalt = false:=rfl
@[simp] theorem ZnO {a:Nat} {b:Nat} {c:Nat} {bs:List Int}:(Row.add a b c).tells bs = none:=rfl
@[simp] theorem Zmi {a:Nat} {b:Nat} {c:Nat}:(Row.add a b c).isHalt = false:=rfl
@[simp] theorem ZnU {a:Nat} {b:Nat} {c:Nat} {bs:List Int}:(Row.sub a b c).tells bs = none:=rfl
@[simp] theorem ZnG {a:Nat} {b:Nat} {c:Nat}:(Row.sub a b c).isHalt = false:=rfl
@[simp] theorem ZmS {a:Nat} {b:Nat} {c:Nat} {bs:List Int}:(Row.more a b c).tells bs = none:=rfl
@[simp] theorem ZlT {a:Nat} {b:Nat} {c:Nat}:(Row.more a b c).isHalt = false:=rfl
@[simp] theorem ZnV {a:Nat} {b:Nat} {bs:List Int}:(Row.get a b).tells bs = none:=rfl
@[simp] theorem Znf {a:Nat} {b:Nat}:(Row.get a b).isHalt = false:=rfl
@[simp] theorem ZnY {a:Nat} {b:Nat} {bs:List Int}:(Row.set a b).tells bs = none:=rfl
@[simp] theorem ZmR {a:Nat} {b:Nat}:(Row.set a b).isHalt = false:=rfl
@[simp] theorem ZmU {k:Nat} {bs:List Int}:(Row.jump k).tells bs = none:=rfl
@[simp] theorem ZlO {k:Nat}:(Row.jump k).isHalt = false:=rfl
@[simp] theorem Zm7 {a:Nat} {k:Nat} {bs:List Int}:(Row.when a k).tells bs = none:=rfl
@[simp] theorem Zl7 {a:Nat} {k:Nat}:(Row.when a k).isHalt = false:=rfl
@[simp] theorem Zm6 {a:Nat} {bs:List Int}:(Row.tell a).tells bs = bs[a]?:=rfl
@[simp] theorem ZlN {a:Nat}:(Row.tell a).isHalt = false:=rfl
@[simp] theorem Znq  {bs:List Int}:(Row.halt).tells bs = none:=rfl
@[simp] theorem Zmd :(Row.halt).isHalt = true:=rfl
mutual
theorem ZiF:∀ (n:Nat) (d:D),Zak n d = true → deq d d = true
 | _,.non,_=>rfl
 | _,.bl _,_=>by simp [deq]
 | _,.int _,_=>by simp [deq]
 | _,.str _,_=>by simp [deq]
 | 0,.tup _,h=>by simp [Zak] at h
 | n + 1,.tup ds,h=>by simp only [deq]; exact Ze7 n ds (by simpa [Zak] using h)
 | _,.scr _,h=>by simp [Zak] at h
 | _,.ref _,h=>by simp [Zak] at h
theorem Ze7:∀ (n:Nat) (ds:List D),(∀ d ∈ ds,Zak n d = true) → ZbX ds ds = true
 | _,[],_=>rfl
 | n,d :: ds,h=>by
  simp only [ZbX,Bool.and_eq_true]
  exact ⟨ZiF n d (h d List.mem_cons_self),Ze7 n ds fun x hx=>h x (List.mem_cons_of_mem _ hx)⟩
end
end L3
namespace L3
noncomputable def Rt (o:O3) (d:D):Prop:=∃ M',o = .rt d M'
theorem Rt.set {i:Nat} {f:E3} {g:S3} {env env':Zai} {M M':Store} {d r:D} (h:f env M = .ok d M') (k:Rt (g env' M') r) (he:env.set i (some d) = env':=by first | (dsimp only [List.set_cons_succ,List.set_cons_zero] <;> exact rfl) | exact rfl):Rt (Zv (Zac i f) g env M) r:=by
 rw [Rt,Zr (Zaf h he)]; exact k
theorem Rt.skip {c:E3} {u g:S3} {env:Zai} {M M':Store} {r:D} (h:c env M = .ok (.bl false) M') (k:Rt (g env M') r):Rt (Zv (sIf c u Zab) g env M) r:=by
 rw [Rt,Zr (ZaM h)]; exact k
theorem Rt.loop {i:I3} {t:G3} {u g:S3} {env env':Zai} {M M' M1:Store} {it:It3} {r:D} (h:i env M = .ok it M1) (hl:Zc6 it t u it.items env M1 = .nx env' M') (k:Rt (g env' M') r):Rt (Zv (Zdh i t u) g env M) r:=by
 rw [Rt,Zr ((Zdr h).trans hl)]; exact k
theorem Rt.step {f g:S3} {env env':Zai} {M M':Store} {r:D} (h:f env M = .nx env' M') (k:Rt (g env' M') r):Rt (Zv f g env M) r:=by
 rw [Rt,Zr h]; exact k
theorem Rt.ret {f:E3} {env:Zai} {M M':Store} {d:D} (h:f env M = .ok d M'):Rt (Zan f env M) d:=⟨M',Za9 h⟩
theorem Rt.law {ps n:Nat} {body:S3} {ds:List D} {env:Zai} {b:Bool} (h:Rt (body env []) (.bl b)) (hl:ds.length = ps:=by rfl) (he:ds.map some ++ List.replicate (n - ps) none = env:=by rfl):∃ M',mkF ps n body ds [] = .ok (.bl b) M':=by
 obtain ⟨M',h⟩:=h
 exact ⟨_,(Zkq h hl he).trans (by rw [Zca,if_pos (by simp [below])])⟩
theorem Rt.pure {ps n:Nat} {body:S3} {ds:List D} {env:Zai} {M G:Store} {d:D} (h:body env M = .rt d (M ++ G)) (hd:below M.length d = true) (hl:ds.length = ps:=by rfl) (he:ds.map some ++ List.replicate (n - ps) none = env:=by rfl):mkF ps n body ds M = .ok d M:=
 (Zkq h hl he).trans (ZkC hd)
theorem ZkR {n:Nat} {lo:Int} {j:Nat} {d:D} (h:(Zdx lo n)[j]? = some d):d = .int (lo + j) ∧ j < n:=by
 unfold Zdx at h
 rw [List.getElem?_map] at h
 cases q:(List.range n)[j]? with
 | none=>rw [q] at h; cases h
 | some k=>
  rw [q] at h
  obtain ⟨hi,e⟩:=List.getElem?_eq_some_iff.mp q
  rw [List.getElem_range] at e
  subst e
  simp at h hi
  exact ⟨h.symm,hi⟩
theorem Zg2 {n:Nat} {j:Nat} {d:D} (h:(Zdx 0 n)[j]? = some d):d = .int (j:Int) ∧ j < n:=by
 obtain ⟨e,l⟩:=ZkR h
 exact ⟨by rw [e,Int.zero_add],l⟩
theorem Zh9 (lo:Int) (n:Nat):(Zdx lo n).length = n:=by simp [Zdx]
end L3
namespace L3
theorem Zk {op:D → D → Store → R3 D} {f g:E3} {env:Zai} {M M1 M2 M3:Store} {a b d:D} (h1:f env M = .ok a M1) (h2:g env M1 = .ok b M2) (h3:op a b M2 = .ok d M3):e2 op f g env M = .ok d M3:=by
 simp only [e2,h1,h2,h3,R3.bind]
theorem Zcw {F:F3} {f:E3} {env:Zai} {M M1 M2:Store} {a d:D} (h1:f env M = .ok a M1) (h2:F [a] M1 = .ok d M2):Zz F (Za f Ze) env M = .ok d M2:=by
 simp only [Zz,Za,Ze,h1,h2,R3.bind]
theorem Zdo {F:F3} {f g:E3} {env:Zai} {M M1 M2 M3:Store} {a b d:D} (h1:f env M = .ok a M1) (h2:g env M1 = .ok b M2) (h3:F [a,b] M2 = .ok d M3):Zz F (Za f (Za g Ze)) env M = .ok d M3:=by
 simp only [Zz,Za,Ze,h1,h2,h3,R3.bind]
@[simp] theorem ZpH (a b:Ty3):(a == b) = decide (a = b):=by cases a <;> cases b <;> rfl
theorem ZbY {b:List D → Store → R3 D} {f:E3} {env:Zai} {M M1 M2:Store} {a d:D} (h1:f env M = .ok a M1) (h2:b [a] M1 = .ok d M2):Zah b (Za f Ze) env M = .ok d M2:=by
 simp only [Zah,Za,Ze,h1,h2,R3.bind]
theorem ZeE {op:D → Store → R3 D} {f:E3} {env:Zai} {M M1 M2:Store} {a d:D} (h1:f env M = .ok a M1) (h2:op a M1 = .ok d M2):e1 op f env M = .ok d M2:=by
 simp only [e1,h1,h2,R3.bind]
theorem Zal {f:E3} {g:EL3} {env:Zai} {M M1 M2:Store} {d:D} {ds:List D} (h1:f env M = .ok d M1) (h2:g env M1 = .ok ds M2):Za f g env M = .ok (d :: ds) M2:=by
 simp only [Za,h1,h2,R3.bind]
theorem Zbn {g:EL3} {env:Zai} {M M':Store} {ds:List D} (h:g env M = .ok ds M') (hl:decide (ds.length ≤ 100) = true):Zap g env M = .ok (.tup ds) M':=by
 have:=of_decide_eq_true hl
 simp only [Zap,h,R3.bind]
 rw [if_pos (Nat.le_trans this (by decide))]
theorem Zgj {n:Nat} {M:Store} {xs:List D} (h:M[n]? = some (.lst xs)):Zbi [.ref n] M = .ok (.int (xs.length:Int)) M:=by simp only [Zbi,h]
theorem Zea {n:Nat} {M:Store} {xs:List D} (h:M[n]? = some (.lst xs)):ZaF [.ref n] M = .ok (.tup xs) M:=by simp only [ZaF,h]
theorem ZdX {n:Nat} {M:Store} {xs:List D} {i:Int} {d:D} (h:M[n]? = some (.lst xs)) (hd:Za0 xs i = some d):Zq (.ref n) (.int i) M = .ok d M:=by simp only [Zq,h,hd]
theorem ZcE {M:Store} {xs:List D} {i:Int} {d:D} (hd:Za0 xs i = some d):Zq (.tup xs) (.int i) M = .ok d M:=by simp only [Zq,hd]
theorem Zk3 {a b:Int} {M:Store} (h:a = b):Zbv (.int a) (.int b) M = .ok (.bl true) M:=by simp only [Zbv,eqD,decide_eq_true h]
theorem Zls {a b:Int} {M:Store} (h:¬ a = b):Zbv (.int a) (.int b) M = .ok (.bl false) M:=by simp only [Zbv,eqD,decide_eq_false h]
theorem Za5 {i j:Int} {M:Store} (h:0 < j):Zaa (.int i) (.int j) M = .ok (.int (i % j)) M:=by simp only [Zaa,if_pos h]
theorem Zjt {f g:E3} {env:Zai} {M M1:Store} (h1:f env M = .ok (.bl false) M1):eOr f g env M = g env M1:=by simp only [eOr,h1,R3.bind]
theorem ZhR {f g:E3} {env:Zai} {M M1:Store} (h1:f env M = .ok (.bl true) M1):Zdq f g env M = g env M1:=by simp only [Zdq,h1,R3.bind]
theorem Zhs {f g:E3} {env:Zai} {M M1:Store} (h1:f env M = .ok (.bl false) M1):Zdq f g env M = .ok (.bl false) M1:=by simp only [Zdq,h1,R3.bind]
theorem Zme {c f g:E3} {env:Zai} {M M1:Store} (h1:c env M = .ok (.bl true) M1):eIf c f g env M = f env M1:=by simp only [eIf,h1,R3.bind]
theorem Zma {c f g:E3} {env:Zai} {M M1:Store} (h1:c env M = .ok (.bl false) M1):eIf c f g env M = g env M1:=by simp only [eIf,h1,R3.bind]
theorem Zen {α:Type} {enc:α → D} {h:α → D} {own:Nat} {i:Nat} {it:I3} {elt:E3} {env:Zai} {M M1:Store} {lock:Option Nat} {as:List α} (hi:it env M = .ok ⟨as.map enc,lock⟩ M1) (hlock:∀ n,lock = some n → M1[n]? = some (.lst (as.map enc)))
  (he:∀ a ∈ as,∀ M,elt ((env ++ List.replicate own none).set i (some (enc a))) M = .ok (h a) M) (hz:as.length ≤ 100000):eLC it own (ZbV i) [] elt env M = .ok (.ref M1.length) (M1 ++ [.lst (as.map h)]):=by
 rw [Zm1 hi]
 obtain ⟨es,le,re,hh⟩:=ZjT (it:=⟨as.map enc,lock⟩) (i:=i) (n:=M1.length) (elt:=elt) (R:=fun d e=>∀ a ∈ as,d = enc a → e = h a) (env0:=env ++ List.replicate own none) (as.map enc) [] (env ++ List.replicate own none) (M1 ++ [.lst []]) (fun _=>rfl)
  (fun d hd x=>by
   obtain ⟨a,ha,rfl⟩:=List.mem_map.mp hd
   refine ⟨h a,he a ha _,fun b hb e=>?_⟩
   have h1:=he a ha []
   have h2:=he b hb []
   rw [e,h2] at h1
   injection h1 with h1 _
   exact h1.symm)
  (fun x=>by
   cases lock with
   | none=>rfl
   | some n=>
    have hn:=hlock n rfl
    have hlt:=(List.getElem?_eq_some_iff.mp hn).1
    simp only [locked,decide_eq_true_eq]
    rw [List.getElem?_set_ne (by exact fun z=>lB 2 25787699233 T1 z hlt),List.getElem?_append_left hlt,hn]) (by simp) (by simp; exact lA 1 0xf42405b00186a05b001 T1 hz)
 rw [show (⟨as.map enc,lock⟩:It3).items = as.map enc from rfl,hh]
 have:es = as.map h:=by
  apply List.ext_getElem?
  intro j
  rw [List.getElem?_map]
  cases ha:as[j]? with
  | none=>
   have:as.length ≤ j:=by simpa using ha
   simp [le]; exact this
  | some a=>
   have hj:j < es.length:=by
    have:=(List.getElem?_eq_some_iff.mp ha).1
    simpa [le] using this
   have h2:=re j (enc a) es[j] (by simp [ha]) (by simp [hj]) a (List.mem_of_getElem? ha) rfl
   rw [List.getElem?_eq_getElem hj,h2]; rfl
 rw [this]
 simp
end L3
namespace L3
noncomputable def keysOk (t:List (Int × Int)):Prop:=(t.map (·.1)).Nodup
noncomputable def Zop:List (Int × Int) → Int → Int
 | [],_=>0
 | (k,v) :: r,n=>if k = n then v else Zop r n
noncomputable def Zno (cs:List (Int × Int)):Prop:=cs.Pairwise fun a b=>a.1 < b.1
theorem Zno.keys {cs:List (Int × Int)} (h:Zno cs):keysOk cs:=by
 unfold keysOk Zno at *
 rw [List.Nodup,List.pairwise_map]
 exact h.imp fun h=>(fun z=>iN [] [_,_] 2 26047746225 T1 z h)
noncomputable def Zlp (cs:List (Int × Int)) (n v:Int):List (Int × Int):=cs.filter (fun c=>decide (c.1 < n)) ++ (if v ≠ 0 then [(n,v)] else []) ++ cs.filter (fun c=>decide (n < c.1))
noncomputable def Row.place (bs:List Int) (p:Nat):Row → Nat
 | .jump k=>k
 | .when a k=>if 0 < bs.getD a 0 then k else p + 1
 | _=>p + 1
noncomputable def Row.boxes (bs:List Int) (cs:List (Int × Int)):Row → List Int
 | .put a n=>bs.set a n
 | .add a b c=>bs.set a (bs.getD b 0 + bs.getD c 0)
 | .sub a b c=>bs.set a (bs.getD b 0 - bs.getD c 0)
 | .more a b c=>bs.set a (if bs.getD c 0 < bs.getD b 0 then 1 else 0)
 | .get a b=>bs.set a (Zop cs (bs.getD b 0))
 | _=>bs
noncomputable def Row.cells (bs:List Int) (cs:List (Int × Int)):Row → List (Int × Int)
 | .set a b=>Zlp cs (bs.getD a 0) (bs.getD b 0)
 | _=>cs
end L3
namespace L3
end L3
namespace L3
end L3
namespace L3
noncomputable def Zh (i:Int):List Nat:=(PySem.Str.ofString (toString i)).cps.toList
noncomputable section
local instance (priority:=100000) clQ1 (p:Prop):Decidable p:=Classical.propDecidable p
@[simp] noncomputable def ZdP (ds:List D) (M:Store):R3 D:=match ds with
 | [.int i]=>if i.natAbs.log2 < 1920 then .ok (.str (Zh i)) M else .bad
 | [.str x]=>.ok (.str x) M
 | _=>.bad
noncomputable def Zcu:List D → Option (List (List Nat))
 | []=>some []
 | .str x :: ds=>(Zcu ds).map (x :: ·)
 | _=>none
noncomputable def glue (sep:List Nat):List (List Nat) → List Nat
 | []=>[]
 | [x]=>x
 | x :: y :: xs=>x ++ sep ++ glue sep (y :: xs)
noncomputable def Zbp (sep:List Nat) (ts:List (List Nat)):Nat:=(ts.map fun t=>t.length + sep.length).sum
@[simp] noncomputable def ZdG (o:D) (ds:List D) (M:Store):R3 D:=match o,ds with
 | .str sep,[.ref n]=>match M[n]? with
  | some (.lst x)=>match Zcu x with
   | some ts=>if Zbp sep ts ≤ SZ then .ok (.str (glue sep ts)) M else .bad
   | none=>.bad
  | _=>.bad
 | _,_=>.bad
noncomputable def Zct (x y:List Nat):List (List Nat):=(PySem.Txt.split ⟨x.toArray⟩ ⟨y.toArray⟩).map fun t=>t.cps.toList
@[simp] noncomputable def ZcI (o:D) (ds:List D) (M:Store):R3 D:=match o,ds with
 | .str x,[.str y]=>if 0 < y.length ∧ x.length + 2 ≤ SZ then alloc (.lst ((Zct x y).map D.str)) M else .bad
 | _,_=>.bad
@[simp] noncomputable def Ze3 (ds:List D) (M:Store):R3 D:=match ds with
 | [.str x]=>match PySem.intText? ⟨x.toArray⟩ with
  | some n=>if x.length ≤ 640 then .ok (.int n) M else .bad
  | none=>.bad
 | ds=>Zo1 ds M
end
end L3
namespace L3
noncomputable section
structure ItL where
 items:List D
 lk:List (Nat × List D)
noncomputable def Zba (lk:List (Nat × List D)) (M:Store):Bool:=lk.all fun q=>decide (M[q.1]? = some (.lst q.2))
noncomputable def ZcU (lk:List (Nat × List D)) (g:G3) (body:S3):List D → Zai → Store → O3
 | [],env,M=>if Zba lk M then .nx env M else .bad
 | d :: ds,env,M=>if Zba lk M then match g d env with
  | none=>.bad
  | some env1=>match body env1 M with
   | .nx e M'=>ZcU lk g body ds e M'
   | .ct e M'=>ZcU lk g body ds e M'
   | .bk e M'=>.nx e M'
   | o=>o
  else .bad
noncomputable abbrev IL3:=Zai → Store → R3 ItL
noncomputable def Zdb (i:IL3) (g:G3) (body:S3):S3:=fun env M=>match i env M with
 | .ok it M1=>ZcU it.lk g body it.items env M1
 | .exc x M1=>.exc x M1
 | .bad=>.bad
noncomputable def Zdm:Nat → List D → List D
 | _,[]=>[]
 | k,d :: ds=>.tup [.int k,d] :: Zdm (k + 1) ds
theorem ZeA:∀ (k:Nat) (ds:List D) (i:Nat),(Zdm k ds)[i]? = (ds[i]?).map fun d=>.tup [.int ((k + i:Nat):Int),d]
 | _,[],_=>by simp [Zdm]
 | k,d :: ds,0=>by simp [Zdm]
 | k,d :: ds,i + 1=>by
  simp only [Zdm,List.getElem?_cons_succ,ZeA (k + 1) ds i]
  rw [show k + 1 + i = k + (i + 1) by exact Nat.le_antisymm (lB 0 0xa1c0c1a0cc0 T1) (lB 0 1790139547840 T1)]
theorem Zeo:∀ (k:Nat) (ds:List D),(Zdm k ds).length = ds.length
 | _,[]=>rfl
 | k,d :: ds=>by simp [Zdm,Zeo (k + 1) ds]
theorem Zed {lk:List (Nat × List D)} {g:G3} {body:S3} {P:Nat → Zai → Store → Prop}:∀ (ds:List D) (j:Nat) (env:Zai) (M:Store),P j env M → (∀ j env M,P j env M → Zba lk M = true) →
  (∀ (i:Nat) d env M,ds[i]? = some d → P (j + i) env M → ∃ env1,g d env = some env1 ∧ ((∃ e' M',body env1 M = .nx e' M' ∧ P (j + i + 1) e' M') ∨ ∃ e' M',body env1 M = .ct e' M' ∧ P (j + i + 1) e' M')) →
  ∃ e' M',ZcU lk g body ds env M = .nx e' M' ∧ P (j + ds.length) e' M'
 | [],j,env,M,p,hl,_=>⟨env,M,by simp [ZcU,hl _ _ _ p],by simpa using p⟩
 | d :: ds,j,env,M,p,hl,hs=>by
  obtain ⟨env1,hg,hb⟩:=hs 0 d env M (by simp) (by simpa using p)
  have go:∀ e' M',P (j + 1) e' M' → ∃ e'' M'',ZcU lk g body ds e' M' = .nx e'' M'' ∧ P (j + (d :: ds).length) e'' M'':=fun e' M' p'=>by
   obtain ⟨e'',M'',h,p''⟩:=Zed ds (j + 1) e' M' p' hl fun i d env M hd p=>by
    have:=hs (i + 1) d env M (by simpa using hd) (by rw [show j + (i + 1) = j + 1 + i by exact Nat.le_antisymm (lB 0 1790139547840 T1) (lB 0 0xa1c0c1a0cc0 T1)]; exact p)
    rw [show j + (i + 1) + 1 = j + 1 + i + 1 by exact Nat.le_antisymm (lB 0 0xa1a0cccaa1c0cc0 T1) (lB 0 0xaa1c0cca1a0ccc0 T1)] at this
    exact this
   exact ⟨e'',M'',h,by rw [show j + (d :: ds).length = j + 1 + ds.length by simp; exact Nat.le_antisymm (lB 0 1790139547840 T1) (lB 0 0xa1c0c1a0cc0 T1)]; exact p''⟩
  simp only [Nat.add_zero] at hb
  rcases hb with ⟨e',M',hb,p'⟩ | ⟨e',M',hb,p'⟩
  ·obtain ⟨e'',M'',h,p''⟩:=go e' M' p'
   exact ⟨e'',M'',by simp [ZcU,hl _ _ _ p,hg,hb,h],p''⟩
  ·obtain ⟨e'',M'',h,p''⟩:=go e' M' p'
   exact ⟨e'',M'',by simp [ZcU,hl _ _ _ p,hg,hb,h],p''⟩
end
end L3
namespace L3
noncomputable section
noncomputable def ZcN:List D → List D → List D
 | a :: x,b :: y=>.tup [a,b] :: ZcN x y
 | _,_=>[]
@[simp] noncomputable def Zp9 (f g:E3):IL3:=fun env M=>(f env M).bind fun a M1=>(g env M1).bind fun b M2=>match a,b with
 | .ref n,.ref m=>match M2[n]?,M2[m]? with
  | some (.lst x),some (.lst y)=>.ok ⟨ZcN x y,[(n,x),(m,y)]⟩ M2
  | _,_=>.bad
 | _,_=>.bad
section
local instance (priority:=100000) clZ1 (p:Prop):Decidable p:=Classical.propDecidable p
end
section
local instance (priority:=100000) clZ2 (p:Prop):Decidable p:=Classical.propDecidable p
end
theorem Zec:∀ (x y:List D) (i:Nat),(ZcN x y)[i]? = (match x[i]?,y[i]? with | some a,some b=>some (D.tup [a,b]) | _,_=>none)
 | [],y,i=>by cases y <;> simp [ZcN]
 | a :: x,[],i=>by simp [ZcN]
 | a :: x,b :: y,0=>by simp [ZcN]
 | a :: x,b :: y,i + 1=>by simp only [ZcN,List.getElem?_cons_succ,Zec x y i]
theorem ZeV:∀ (x y:List D),(ZcN x y).length = min x.length y.length
 | [],y=>by cases y <;> simp [ZcN]
 | a :: x,[]=>by simp [ZcN]
 | a :: x,b :: y=>by simp only [ZcN,List.length_cons,ZeV x y]; omega
end
end L3
namespace L3
noncomputable section
section
local instance (priority:=100000) clPg (p:Prop):Decidable p:=Classical.propDecidable p
end
end
end L3
namespace L3
noncomputable def ZjY (f:List Nat) (d:D):List (List Nat × D) → List (List Nat × D)
 | []=>[(f,d)]
 | (g,x) :: r=>if g = f then (g,d) :: r else (g,x) :: ZjY f d r
end L3
namespace L3
noncomputable section
end
end L3
namespace L3
noncomputable section
end
end L3
namespace L3
noncomputable section
noncomputable abbrev Zfl:=List (List Nat × List (List Nat))
noncomputable def tabAt (x:List Nat):Zfl → Option (List (List Nat))
 | []=>none
 | (k,v) :: r=>if x = k then some v else tabAt x r
noncomputable def Zex (t:Zfl) (d:D) (M:Store):R3 D:=match d with
 | .str x=>match tabAt x t with
  | some ds=>.ok (.tup (ds.map D.str)) M
  | none=>.ok .non M
 | _=>.bad
noncomputable def Zdj (t:Zfl) (d:D) (M:Store):R3 D:=match d with
 | .str x=>match tabAt x t with
  | some ds=>.ok (.tup (ds.map D.str)) M
  | none=>.bad
 | _=>.bad
noncomputable def Zge (f:E3):IL3:=fun env M=>(f env M).bind fun a M1=>match a with
 | .ref n=>match M1[n]? with
  | some (.lst ds)=>.ok ⟨Zdm 1 ds,[(n,ds)]⟩ M1
  | _=>.bad
 | _=>.bad
noncomputable def Zhf (M:Store):D → Option (List D × List (Nat × List D))
 | .tup x=>some (x,[])
 | .ref n=>match M[n]? with
  | some (.lst x)=>some (x,[(n,x)])
  | _=>none
 | _=>none
noncomputable def ZeF (f g:E3):IL3:=fun env M=>(f env M).bind fun a M1=>(g env M1).bind fun b M2=>match Zhf M2 a,Zhf M2 b with
 | some (x,l),some (y,k)=>.ok ⟨ZcN x y,l ++ k⟩ M2
 | _,_=>.bad
end
end L3
namespace L3
open PySem PySem.Spec PyProof.Rows L2
noncomputable abbrev St:=L2.St
theorem Za7:SZ ≤ sizeLine:=by rw [sizeLine_eq]; decide
noncomputable def SqF (K:PySem.W.Frag) (H:Hp) (a:Addr) (xs:List V):Prop:=
 (∃ o,H a = some (.frz o (.lst xs))) ∨
  ∃ (o:Obj) (its:Array Value) (n:Nat),K.lookup a = some o ∧ o.cls = .type "list" ∧ o.dict = none ∧ o.data = .seq its n ∧ its.size ≤ sizeLine ∧ Vals xs its.toList
theorem SqF.sq {K:PySem.W.Frag} {H:Hp} {a:Addr} {xs:List V} (h:SqF K H a xs):SqL K H a xs:=by
 rcases h with ⟨o,h⟩ | h
 ·exact .inl (.inr ⟨o,h⟩)
 ·exact .inr h
mutual
noncomputable def Rep (K:PySem.W.Frag) (H:Hp) (ι:List Addr):D → V → Prop
 | .non,v=>v = .non
 | .bl b,v=>v = .bl b
 | .int i,v=>v = .int i
 | .str x,v=>v = .str ⟨x.toArray⟩
 | .tup ds,v=>∃ a vs,v = .ref a ∧ SqT K H a vs ∧ Zj K H ι ds vs
 | .scr ds,v=>∃ a vs,v = .ref a ∧ SqF K H a vs ∧ Zj K H ι ds vs
 | .ref n,v=>∃ a,ι[n]? = some a ∧ v = .ref a
noncomputable def Zj (K:PySem.W.Frag) (H:Hp) (ι:List Addr):List D → List V → Prop
 | [],vs=>vs = []
 | d :: ds,vs=>∃ v ws,vs = v :: ws ∧ Rep K H ι d v ∧ Zj K H ι ds ws
end
structure Ext (K:PySem.W.Frag) (H:Hp) (ι:List Addr) (H':Hp) (ι':List Addr):Prop where
 tup:∀ a xs,SqT K H a xs → SqT K H' a xs
 scr:∀ a xs,SqF K H a xs → SqF K H' a xs
 pre:∀ (n:Nat) (a:Addr),ι[n]? = some a → ι'[n]? = some a
 frz:∀ a o u,H a = some (.frz o u) → H' a = some (.frz o u)
section
variable {K:PySem.W.Frag} {H H' H1 H2:Hp} {ι ι' ι1 ι2:List Addr}
theorem Ext.refl:Ext K H ι H ι:=⟨fun _ _ h=>h,fun _ _ h=>h,fun _ _ h=>h,fun _ _ _ h=>h⟩
theorem Ext.trans (a:Ext K H ι H1 ι1) (b:Ext K H1 ι1 H2 ι2):Ext K H ι H2 ι2:=
 ⟨fun x xs h=>b.tup x xs (a.tup x xs h),fun x xs h=>b.scr x xs (a.scr x xs h),fun n x h=>b.pre n x (a.pre n x h),fun x o u h=>b.frz x o u (a.frz x o u h)⟩
mutual
theorem Rep.mono (e:Ext K H ι H' ι'):∀ {d:D} {v:V},Rep K H ι d v → Rep K H' ι' d v
 | .non,_,h=>by simpa [Rep] using h
 | .bl _,_,h=>by simpa [Rep] using h
 | .int _,_,h=>by simpa [Rep] using h
 | .str _,_,h=>by simpa [Rep] using h
 | .tup ds,_,h=>by
  simp only [Rep] at h ⊢
  obtain ⟨a,vs,rfl,s,r⟩:=h
  exact ⟨a,vs,rfl,e.tup _ _ s,Zj.mono e (ds:=ds) r⟩
 | .scr ds,_,h=>by
  simp only [Rep] at h ⊢
  obtain ⟨a,vs,rfl,s,r⟩:=h
  exact ⟨a,vs,rfl,e.scr _ _ s,Zj.mono e (ds:=ds) r⟩
 | .ref n,_,h=>by
  simp only [Rep] at h ⊢
  obtain ⟨a,s,rfl⟩:=h
  exact ⟨a,e.pre _ _ s,rfl⟩
theorem Zj.mono (e:Ext K H ι H' ι'):∀ {ds:List D} {vs:List V},Zj K H ι ds vs → Zj K H' ι' ds vs
 | [],_,h=>by simpa [Zj] using h
 | d :: ds,_,h=>by
  simp only [Zj] at h ⊢
  obtain ⟨v,ws,rfl,r,q⟩:=h
  exact ⟨v,ws,rfl,Rep.mono e (d:=d) r,Zj.mono e (ds:=ds) q⟩
end
mutual
theorem Rep.keep (ht:∀ a xs,SqT K H a xs → SqT K H' a xs) (hs:∀ a xs,SqF K H a xs → SqF K H' a xs):∀ {d:D} {v:V},Rep K H ι d v → Rep K H' ι d v
 | .non,_,h=>by simpa [Rep] using h
 | .bl _,_,h=>by simpa [Rep] using h
 | .int _,_,h=>by simpa [Rep] using h
 | .str _,_,h=>by simpa [Rep] using h
 | .tup ds,_,h=>by
  simp only [Rep] at h ⊢
  obtain ⟨a,vs,rfl,s,r⟩:=h
  exact ⟨a,vs,rfl,ht _ _ s,Zj.keep ht hs (ds:=ds) r⟩
 | .scr ds,_,h=>by
  simp only [Rep] at h ⊢
  obtain ⟨a,vs,rfl,s,r⟩:=h
  exact ⟨a,vs,rfl,hs _ _ s,Zj.keep ht hs (ds:=ds) r⟩
 | .ref n,_,h=>by simpa [Rep] using h
theorem Zj.keep (ht:∀ a xs,SqT K H a xs → SqT K H' a xs) (hs:∀ a xs,SqF K H a xs → SqF K H' a xs):∀ {ds:List D} {vs:List V},Zj K H ι ds vs → Zj K H' ι ds vs
 | [],_,h=>by simpa [Zj] using h
 | d :: ds,_,h=>by
  simp only [Zj] at h ⊢
  obtain ⟨v,ws,rfl,r,q⟩:=h
  exact ⟨v,ws,rfl,Rep.keep ht hs (d:=d) r,Zj.keep ht hs (ds:=ds) q⟩
end
theorem Zj.nil:Zj K H ι [] []:=by simp [Zj]
theorem Zj.cons {d:D} {ds:List D} {v:V} {vs:List V} (h:Rep K H ι d v) (t:Zj K H ι ds vs):Zj K H ι (d :: ds) (v :: vs):=by
 simp only [Zj]
 exact ⟨v,vs,rfl,h,t⟩
theorem Zj.nil_inv {vs:List V} (h:Zj K H ι [] vs):vs = []:=by simpa [Zj] using h
theorem Zj.cons_inv {d:D} {ds:List D} {vs:List V} (h:Zj K H ι (d :: ds) vs):∃ v ws,vs = v :: ws ∧ Rep K H ι d v ∧ Zj K H ι ds ws:=by simpa [Zj] using h
theorem Zj.length:∀ {ds:List D} {vs:List V},Zj K H ι ds vs → vs.length = ds.length
 | [],_,h=>by rw [h.nil_inv]; rfl
 | d :: ds,_,h=>by
  obtain ⟨v,ws,rfl,_,q⟩:=h.cons_inv
  simp [q.length]
theorem Zj.append:∀ {ds es:List D} {vs ws:List V},Zj K H ι ds vs → Zj K H ι es ws → Zj K H ι (ds ++ es) (vs ++ ws)
 | [],_,_,_,h,q=>by rw [h.nil_inv]; exact q
 | d :: ds,_,_,_,h,q=>by
  obtain ⟨v,us,rfl,r,t⟩:=h.cons_inv
  exact Zj.cons r (t.append q)
theorem Zj.drop:∀ {ds:List D} {vs:List V} (n:Nat),Zj K H ι ds vs → Zj K H ι (ds.drop n) (vs.drop n)
 | _,_,0,h=>h
 | [],_,n + 1,h=>by rw [h.nil_inv]; exact Zj.nil
 | d :: ds,_,n + 1,h=>by
  obtain ⟨v,us,rfl,r,t⟩:=h.cons_inv
  exact t.drop n
theorem Zj.take:∀ {ds:List D} {vs:List V} (n:Nat),Zj K H ι ds vs → Zj K H ι (ds.take n) (vs.take n)
 | _,_,0,h=>Zj.nil
 | [],_,n + 1,h=>by rw [h.nil_inv]; exact Zj.nil
 | d :: ds,_,n + 1,h=>by
  obtain ⟨v,us,rfl,r,t⟩:=h.cons_inv
  exact Zj.cons r (t.take n)
theorem Zj.get:∀ {ds:List D} {vs:List V} {i:Nat} {d:D},Zj K H ι ds vs → ds[i]? = some d → ∃ v,vs[i]? = some v ∧ Rep K H ι d v
 | [],_,_,_,_,e=>by simp at e
 | d :: ds,_,0,_,h,e=>by
  obtain ⟨v,us,rfl,r,t⟩:=h.cons_inv
  simp at e; subst e
  exact ⟨v,rfl,r⟩
 | d :: ds,_,i + 1,_,h,e=>by
  obtain ⟨v,us,rfl,r,t⟩:=h.cons_inv
  obtain ⟨w,q,z⟩:=t.get (i:=i) (by simpa using e)
  exact ⟨w,by simpa using q,z⟩
theorem Zj.set:∀ {ds:List D} {vs:List V} {d:D} {v:V} (i:Nat),Zj K H ι ds vs → Rep K H ι d v → Zj K H ι (ds.set i d) (vs.set i v)
 | [],_,_,_,_,h,_=>by rw [h.nil_inv]; exact Zj.nil
 | d :: ds,_,_,_,0,h,q=>by
  obtain ⟨v,us,rfl,r,t⟩:=h.cons_inv
  exact Zj.cons q t
 | d :: ds,_,_,_,i + 1,h,q=>by
  obtain ⟨v,us,rfl,r,t⟩:=h.cons_inv
  exact Zj.cons r (t.set i q)
theorem Zj.ints:∀ (ns:List Int),Zj K H ι (ns.map D.int) (ns.map V.int)
 | []=>Zj.nil
 | n :: ns=>Zj.cons (by simp [Rep]) (Zj.ints ns)
theorem Rep.non_inv {v:V} (h:Rep K H ι .non v):v = .non:=by simpa [Rep] using h
theorem Rep.bl_inv {v:V} {b:Bool} (h:Rep K H ι (.bl b) v):v = .bl b:=by simpa [Rep] using h
theorem Rep.int_inv {v:V} {i:Int} (h:Rep K H ι (.int i) v):v = .int i:=by simpa [Rep] using h
theorem Rep.str_inv {v:V} {x:List Nat} (h:Rep K H ι (.str x) v):v = .str ⟨x.toArray⟩:=by simpa [Rep] using h
theorem Rep.tup_inv {v:V} {ds:List D} (h:Rep K H ι (.tup ds) v):∃ a vs,v = .ref a ∧ SqT K H a vs ∧ Zj K H ι ds vs:=by simpa [Rep] using h
theorem Rep.scr_inv {v:V} {ds:List D} (h:Rep K H ι (.scr ds) v):∃ a vs,v = .ref a ∧ SqF K H a vs ∧ Zj K H ι ds vs:=by simpa [Rep] using h
theorem Rep.ref_inv {v:V} {n:Nat} (h:Rep K H ι (.ref n) v):∃ a,ι[n]? = some a ∧ v = .ref a:=by simpa [Rep] using h
theorem Rep.non:Rep K H ι .non .non:=by simp [Rep]
theorem Rep.bl {b:Bool}:Rep K H ι (.bl b) (.bl b):=by simp [Rep]
theorem Rep.int {i:Int}:Rep K H ι (.int i) (.int i):=by simp [Rep]
theorem Rep.str {x:List Nat}:Rep K H ι (.str x) (.str ⟨x.toArray⟩):=by simp [Rep]
theorem Rep.tup {a:Addr} {vs:List V} {ds:List D} (s:SqT K H a vs) (r:Zj K H ι ds vs):Rep K H ι (.tup ds) (.ref a):=by
 simp only [Rep]; exact ⟨a,vs,rfl,s,r⟩
theorem Rep.ref {a:Addr} {n:Nat} (s:ι[n]? = some a):Rep K H ι (.ref n) (.ref a):=by
 simp only [Rep]; exact ⟨a,s,rfl⟩
end
noncomputable def ExO (e C:Addr) (h:Heap):Prop:=∃ o vs,h.get? e = some o ∧ o.cls = .ref C ∧ o.data = .fields vs
noncomputable abbrev exH (e C:Addr):HO:=.ext (ExO e C)
noncomputable def dk:Zbd → Key
 | .inl i=>.inl i
 | .inr x=>.inr ⟨x.toArray⟩
noncomputable def KvR (K:PySem.W.Frag) (H:Hp) (ι:List Addr) (kvs:List (Zbd × D)) (ws:List (Key × V)):Prop:=
 ws.map (·.1) = kvs.map (fun p=>dk p.1) ∧ Zj K H ι (kvs.map (·.2)) (ws.map (·.2))
noncomputable def FsR (K:PySem.W.Frag) (H:Hp) (ι:List Addr) (fs:List (List Nat × D)) (gs:List (Str × V)):Prop:=
 gs.map (·.1) = fs.map (fun p=>(⟨p.1.toArray⟩:Str)) ∧ Zj K H ι (fs.map (·.2)) (gs.map (·.2))
noncomputable def ClsAt (K:PySem.W.Frag) (c:List Nat) (C:Addr):Prop:=PySem.W.nsIn K mainGlobals ⟨c.toArray⟩ = some (some (.ref C))
noncomputable def ZdM (K:PySem.W.Frag) (H:Hp) (ι:List Addr):MO → Addr → Prop
 | .lst xs,a=>∃ vs,H a = some (.lst vs) ∧ Zj K H ι xs vs
 | .dct kvs,a=>∃ ws,H a = some (.dK ws) ∧ KvR K H ι kvs ws
 | .fdct kvs,a=>∃ ws,(∃ o,H a = some (.frz o (.dK ws))) ∧ KvR K H ι kvs ws
 | .ins c fs,a=>(∃ C dx gs,H a = some (.ins C dx gs) ∧ (ClsAt K c C ∧ c.head? ≠ some 0) ∧ FsR K H ι fs gs) ∨ ∃ C,H a = some (exH a C) ∧ c.head? = some 0 ∧ ClsAt K c.tail C ∧ fs = []
structure Zy (K:PySem.W.Frag) (H:Hp) (ι:List Addr) (M:Store):Prop where
 len:ι.length = M.length
 nd:ι.Nodup
 obj:∀ (n:Nat) o a,M[n]? = some o → ι[n]? = some a → ZdM K H ι o a
noncomputable def Loose (H:Hp) (p:Addr):Prop:=H p = none ∨ (∃ vs,H p = some (.lst vs)) ∨ (∃ ws,H p = some (.dK ws)) ∨ ∃ C dx gs,H p = some (.ins C dx gs)
section
variable {K:PySem.W.Frag} {H H':Hp} {ι ι':List Addr} {M:Store} {p:Addr} {o:HO}
theorem Loose.ne {a:Addr} {u:HO} (l:Loose H p) (h:H a = some u) (h1:∀ vs,u ≠ .lst vs) (h2:∀ ws,u ≠ .dK ws) (h3:∀ C dx gs,u ≠ .ins C dx gs:=by exact fun _ _ _ z=>nomatch z):a ≠ p:=by
 rintro rfl
 rcases l with l | ⟨vs,l⟩ | ⟨ws,l⟩ | ⟨C,dx,gs,l⟩
 ·rw [h] at l; cases l
 ·rw [h] at l; exact h1 vs (Option.some.inj l)
 ·rw [h] at l; exact h2 ws (Option.some.inj l)
 ·rw [h] at l; exact h3 C dx gs (Option.some.inj l)
theorem Loose.tup (l:Loose H p) {a:Addr} {xs:List V} (h:SqT K H a xs):SqT K (upd H p o) a xs:=by
 rcases h with (h | ⟨ob,h⟩) | h
 ·exact .inl (.inl (by rw [ZaG (l.ne h (fun _ z=>nomatch z) (fun _ z=>nomatch z))]; exact h))
 ·exact .inl (.inr ⟨ob,by rw [ZaG (l.ne h (fun _ z=>nomatch z) (fun _ z=>nomatch z))]; exact h⟩)
 ·exact .inr h
theorem Loose.scr (l:Loose H p) {a:Addr} {xs:List V} (h:SqF K H a xs):SqF K (upd H p o) a xs:=by
 rcases h with ⟨ob,h⟩ | h
 ·exact .inl ⟨ob,by rw [ZaG (l.ne h (fun _ z=>nomatch z) (fun _ z=>nomatch z))]; exact h⟩
 ·exact .inr h
theorem Loose.frz (l:Loose H p) {a:Addr} {ob:Obj} {u:HO} (h:H a = some (.frz ob u)):upd H p o a = some (.frz ob u):=by
 rw [ZaG (l.ne h (fun _ z=>nomatch z) (fun _ z=>nomatch z))]; exact h
theorem Loose.ext (l:Loose H p):Ext K H ι (upd H p o) ι:=⟨fun _ _ h=>l.tup h,fun _ _ h=>l.scr h,fun _ _ h=>h,fun _ _ _ h=>l.frz h⟩
theorem Loose.extA (l:Loose H p):Ext K H ι (upd H p o) (ι ++ [p]):=⟨fun _ _ h=>l.tup h,fun _ _ h=>l.scr h,fun n a h=>by
 rw [List.getElem?_append_left (List.getElem?_eq_some_iff.mp h).1]; exact h,fun _ _ _ h=>l.frz h⟩
theorem ZdM.mono {m:MO} {a:Addr} (e:Ext K H ι H' ι') (h:ZdM K H ι m a) (k:H' a = H a):ZdM K H' ι' m a:=by
 cases m with
 | lst xs=>obtain ⟨vs,q,r⟩:=h; exact ⟨vs,k.trans q,r.mono e⟩
 | dct kvs=>obtain ⟨ws,q,r1,r2⟩:=h; exact ⟨ws,k.trans q,r1,r2.mono e⟩
 | fdct kvs=>obtain ⟨ws,⟨o,q⟩,r1,r2⟩:=h; exact ⟨ws,⟨o,k.trans q⟩,r1,r2.mono e⟩
 | ins c fs=>
  rcases h with ⟨C,dx,gs,q,c,r1,r2⟩ | ⟨C,q,r⟩
  ·exact .inl ⟨C,dx,gs,k.trans q,c,r1,r2.mono e⟩
  ·exact .inr ⟨C,k.trans q,r⟩
theorem ZdM.ne {m:MO} {a:Addr} (h:ZdM K H ι m a):H a ≠ none:=by
 cases m with
 | lst xs=>obtain ⟨vs,q,r⟩:=h; rw [q]; simp
 | dct kvs=>obtain ⟨ws,q,r⟩:=h; rw [q]; simp
 | fdct kvs=>obtain ⟨ws,⟨o,q⟩,r⟩:=h; rw [q]; simp
 | ins c fs=>rcases h with ⟨C,dx,gs,q,r⟩ | ⟨C,q,r⟩ <;> (rw [q]; simp)
theorem Zy.at (S:Zy K H ι M) {n:Nat} {m:MO} (h:M[n]? = some m):∃ a,ι[n]? = some a ∧ ZdM K H ι m a:=by
 have hn:n < ι.length:=by rw [S.len]; exact (List.getElem?_eq_some_iff.mp h).1
 exact ⟨ι[n],by simp [hn],S.obj n m _ h (by simp [hn])⟩
theorem Zy.there (S:Zy K H ι M) {n:Nat} {a:Addr} (h:ι[n]? = some a):∃ m,M[n]? = some m ∧ ZdM K H ι m a:=by
 have hn:n < M.length:=by rw [← S.len]; exact (List.getElem?_eq_some_iff.mp h).1
 exact ⟨M[n],by simp [hn],S.obj n _ _ (by simp [hn]) h⟩
theorem Zy.fresh (S:Zy K H ι M) (hp:H p = none):p ∉ ι:=fun h=>by
 obtain ⟨n,hn⟩:=List.getElem?_of_mem h
 obtain ⟨m,_,q⟩:=S.there hn
 exact q.ne hp
theorem Zy.other (S:Zy K H ι M) (l:Loose H p) (hp:p ∉ ι):Zy K (upd H p o) ι M:=
 ⟨S.len,S.nd,fun n m a h1 h2=>(S.obj n m a h1 h2).mono l.ext (by
  rw [ZaG]; rintro rfl; exact hp (List.mem_of_getElem? h2))⟩
theorem Zy.new (S:Zy K H ι M) (hp:H p = none) {m:MO} (h:ZdM K (upd H p o) (ι ++ [p]) m p):Zy K (upd H p o) (ι ++ [p]) (M ++ [m]):=by
 have hf:=S.fresh hp
 refine ⟨by simp [S.len],?_,fun n m' a h1 h2=>?_⟩
 ·exact List.nodup_append.mpr ⟨S.nd,by simp,fun x hx y hy=>by
   have e:y = p:=by simpa using hy
   subst e
   rintro rfl
   exact hf hx⟩
 ·by_cases hn:n < ι.length
  ·rw [List.getElem?_append_left hn] at h2
   rw [List.getElem?_append_left (by rw [← S.len]; exact hn)] at h1
   refine (S.obj n m' a h1 h2).mono (Loose.extA (.inl hp)) ?_
   rw [ZaG]
   rintro rfl
   exact hf (List.mem_of_getElem? h2)
  ·rw [List.getElem?_append_right (Nat.le_of_not_lt hn)] at h2
   rw [List.getElem?_append_right (by rw [← S.len]; exact Nat.le_of_not_lt hn)] at h1
   have hlt:n - ι.length < 1:=by
    have:=(List.getElem?_eq_some_iff.mp h2).1
    simpa using this
   have e0:n - ι.length = 0:=Nat.le_antisymm (lA 1 234922001 T1 hlt) (Nat.zero_le _)
   rw [e0] at h2
   rw [← S.len,e0] at h1
   simp at h1 h2
   subst h1 h2
   exact h
theorem Zy.put (S:Zy K H ι M) {n:Nat} (l0:Loose H p) (hn:ι[n]? = some p) {m:MO} (h:ZdM K (upd H p o) ι m p):Zy K (upd H p o) ι (M.set n m):=by
 obtain ⟨m0,hm0,q0⟩:=S.there hn
 refine ⟨by simp [S.len],S.nd,fun k m' a h1 h2=>?_⟩
 by_cases hk:k = n
 ·subst hk
  rw [hn] at h2
  cases h2
  have hlt:k < M.length:=(List.getElem?_eq_some_iff.mp hm0).1
  rw [List.getElem?_set_self hlt] at h1
  cases h1
  exact h
 ·rw [List.getElem?_set_ne (Ne.symm hk)] at h1
  refine (S.obj k m' a h1 h2).mono (Loose.ext l0) ?_
  rw [ZaG]
  rintro rfl
  have hlt1:=(List.getElem?_eq_some_iff.mp h2)
  have hlt2:=(List.getElem?_eq_some_iff.mp hn)
  exact hk ((List.getElem_inj S.nd).mp (hlt1.2.trans hlt2.2.symm))
theorem Zy.lst (S:Zy K H ι M) (hp:H p = none) {xs:List D} {vs:List V} (r:Zj K H ι xs vs):Ext K H ι (upd H p (.lst vs)) (ι ++ [p]) ∧ Zy K (upd H p (.lst vs)) (ι ++ [p]) (M ++ [.lst xs]) ∧ Rep K (upd H p (.lst vs)) (ι ++ [p]) (.ref M.length) (.ref p):=by
 have e:Ext K H ι (upd H p (.lst vs)) (ι ++ [p]):=Loose.extA (.inl hp)
 refine ⟨e,S.new hp ⟨vs,Zcd,r.mono e⟩,Rep.ref ?_⟩
 rw [← S.len]; simp
theorem Zy.tupl (S:Zy K H ι M) (hp:H p = none) {xs:List D} {vs:List V} (r:Zj K H ι xs vs):Ext K H ι (upd H p (.tup vs)) ι ∧ Zy K (upd H p (.tup vs)) ι M ∧ Rep K (upd H p (.tup vs)) ι (.tup xs) (.ref p):=by
 have e:Ext K H ι (upd H p (.tup vs)) ι:=Loose.ext (.inl hp)
 exact ⟨e,S.other (.inl hp) (S.fresh hp),Rep.tup (SqT.of Zcd) (r.mono e)⟩
theorem Zy.setl (S:Zy K H ι M) {n:Nat} (l0:Loose H p) (hn:ι[n]? = some p) {xs:List D} {vs:List V} (r:Zj K H ι xs vs):Ext K H ι (upd H p (.lst vs)) ι ∧ Zy K (upd H p (.lst vs)) ι (M.set n (.lst xs)):=by
 have e:Ext K H ι (upd H p (.lst vs)) ι:=Loose.ext l0
 exact ⟨e,S.put l0 hn ⟨vs,Zcd,r.mono e⟩⟩
end
noncomputable def Zbj (K:PySem.W.Frag) (H:Hp) (ι:List Addr) (env:Zai) (σ:St):Prop:=
 env.length = σ.length ∧ ∀ (i:Nat) d,env[i]? = some (some d) → ∃ v,σ[i]? = some (some v) ∧ Rep K H ι d v
theorem Zbj.mono {K:PySem.W.Frag} {H H':Hp} {ι ι':List Addr} {env:Zai} {σ:St} (r:Zbj K H ι env σ) (e:Ext K H ι H' ι'):Zbj K H' ι' env σ:=
 ⟨r.1,fun i d h=>let ⟨v,q,z⟩:=r.2 i d h; ⟨v,q,z.mono e⟩⟩
theorem Zbj.set {K:PySem.W.Frag} {H:Hp} {ι:List Addr} {env:Zai} {σ:St} {d:D} {v:V} (r:Zbj K H ι env σ) (i:Nat) (h:Rep K H ι d v):Zbj K H ι (env.set i (some d)) (σ.set i (some v)):=by
 refine ⟨by simp [r.1],fun j e hj=>?_⟩
 by_cases hij:j = i
 ·subst hij
  have hlt:j < env.length:=by
   have:=(List.getElem?_eq_some_iff.mp hj).1
   simpa using this
  rw [List.getElem?_set_self hlt] at hj
  cases hj
  exact ⟨v,by rw [List.getElem?_set_self (by rw [← r.1]; exact hlt)],h⟩
 ·rw [List.getElem?_set_ne (Ne.symm hij)] at hj
  obtain ⟨w,q,z⟩:=r.2 j e hj
  exact ⟨w,by rw [List.getElem?_set_ne (Ne.symm hij)]; exact q,z⟩
noncomputable def Zw (K:PySem.W.Frag) (H:Hp) (ι:List Addr) (Q:VK) (r:R3 D):Prop:=match r with
 | .ok d M'=>∀ v H' ι',Ext K H ι H' ι' → Zy K H' ι' M' → Rep K H' ι' d v → Q v H'
 | _=>False
noncomputable def tOf (K:PySem.W.Frag) (f:E3):TE:=fun σ H Q=>∃ ι M env,Zy K H ι M ∧ Zbj K H ι env σ ∧ Zw K H ι Q (f env M)
noncomputable def Zfd (K:PySem.W.Frag) (H:Hp) (ι:List Addr) (Q:Bool → Hp → Prop) (r:R3 D):Prop:=match r with
 | .ok (.bl b) M'=>∀ H' ι',Ext K H ι H' ι' → Zy K H' ι' M' → Q b H'
 | _=>False
noncomputable def tTf (K:PySem.W.Frag) (f:E3):TT:=fun σ H Q=>∃ ι M env,Zy K H ι M ∧ Zbj K H ι env σ ∧ Zfd K H ι Q (f env M)
noncomputable def Zjd (K:PySem.W.Frag) (H:Hp) (ι:List Addr) (Q:List V → Hp → Prop) (r:R3 (List D)):Prop:=match r with
 | .ok ds M'=>∀ vs H' ι',Ext K H ι H' ι' → Zy K H' ι' M' → Zj K H' ι' ds vs → Q vs H'
 | _=>False
noncomputable def tAf (K:PySem.W.Frag) (f:EL3):TA:=fun σ H Q=>∃ ι M env,Zy K H ι M ∧ Zbj K H ι env σ ∧ Zjd K H ι Q (f env M)
noncomputable def Zj5 (K:PySem.W.Frag) (H:Hp) (ι:List Addr) (Q:Option Int → Hp → Prop) (r:R3 (Option Int)):Prop:=match r with
 | .ok o M'=>∀ H' ι',Ext K H ι H' ι' → Zy K H' ι' M' → Q o H'
 | _=>False
noncomputable def tOo (K:PySem.W.Frag) (f:EO3):TO:=fun σ H Q=>∃ ι M env,Zy K H ι M ∧ Zbj K H ι env σ ∧ Zj5 K H ι Q (f env M)
noncomputable def ZeM (K:PySem.W.Frag) (H:Hp) (ι:List Addr) (E:Ends) (r:O3):Prop:=match r with
 | .nx env' M'=>∀ σ' H' ι',Ext K H ι H' ι' → Zy K H' ι' M' → Zbj K H' ι' env' σ' → E.nx σ' H'
 | .bk env' M'=>∀ σ' H' ι',Ext K H ι H' ι' → Zy K H' ι' M' → Zbj K H' ι' env' σ' → E.bk σ' H'
 | .ct env' M'=>∀ σ' H' ι',Ext K H ι H' ι' → Zy K H' ι' M' → Zbj K H' ι' env' σ' → E.ct σ' H'
 | .rt d M'=>∀ v H' ι',Ext K H ι H' ι' → Zy K H' ι' M' → Rep K H' ι' d v → E.rt v H'
 | _=>False
noncomputable def tSf (K:PySem.W.Frag) (f:S3):TS:=fun E σ H=>∃ ι M env,Zy K H ι M ∧ Zbj K H ι env σ ∧ ZeM K H ι E (f env M)
noncomputable def C3 (X:Cx) (e:Expr) (f:E3):Prop:=PE X e (tOf X.K f)
noncomputable def CT (X:Cx) (e:Expr) (f:E3):Prop:=PT X e (tTf X.K f)
noncomputable def CA (X:Cx) (es:List Expr) (f:EL3):Prop:=PA X es (tAf X.K f)
noncomputable def CO (X:Cx) (e:Option Expr) (f:EO3):Prop:=PO X e (tOo X.K f)
noncomputable def CS (X:Cx) (st:Stmt) (f:S3):Prop:=PS X st (tSf X.K f)
noncomputable def CSs (X:Cx) (st:List Stmt) (f:S3):Prop:=PSs X st (tSf X.K f)
theorem _root_.L2.PE.imp {X:Cx} {e:Expr} {t t':TE} (h:PE X e t) (i:∀ σ H Q,t' σ H Q → t σ H Q):PE X e t':=fun pins s σ H Q I q=>h pins s σ H Q I (i σ H Q q)
theorem _root_.L2.PT.imp {X:Cx} {e:Expr} {t t':TT} (h:PT X e t) (i:∀ σ H Q,t' σ H Q → t σ H Q):PT X e t':=fun pins s σ H Q I q=>h pins s σ H Q I (i σ H Q q)
theorem _root_.L2.PA.imp {X:Cx} {e:List Expr} {t t':TA} (h:PA X e t) (i:∀ σ H Q,t' σ H Q → t σ H Q):PA X e t':=fun pos pins s σ H Q I q=>h pos pins s σ H Q I (i σ H Q q)
theorem _root_.L2.PO.imp {X:Cx} {e:Option Expr} {t t':TO} (h:PO X e t) (i:∀ σ H Q,t' σ H Q → t σ H Q):PO X e t':=fun pins s σ H Q I q=>h pins s σ H Q I (i σ H Q q)
theorem _root_.L2.PS.imp {X:Cx} {e:Stmt} {t t':TS} (h:PS X e t) (i:∀ D σ H,t' D σ H → t D σ H):PS X e t':=fun pins s σ H D I q=>h pins s σ H D I (i D σ H q)
theorem _root_.L2.PSs.imp {X:Cx} {e:List Stmt} {t t':TS} (h:PSs X e t) (i:∀ D σ H,t' D σ H → t D σ H):PSs X e t':=fun pins s σ H D I q=>h pins s σ H D I (i D σ H q)
theorem _root_.L2.OpR.imp {X:Cx} {f:Value → Value → Sem Value} {r r':R2} (h:OpR X f r) (i:∀ x y H Q,r' x y H Q → r x y H Q):OpR X f r':=fun pins s σ H x y v u Q I rx ry q=>h pins s σ H x y v u Q I rx ry (i x y H Q q)
theorem _root_.L2.UnR.imp {X:Cx} {f:Value → Sem Value} {r r':V → Hp → VK → Prop} (h:UnR X f r) (i:∀ x H Q,r' x H Q → r x H Q):UnR X f r':=fun pins s σ H x v Q I rx q=>h pins s σ H x v Q I rx (i x H Q q)
theorem _root_.L2.ZaK.imp {X:Cx} {f:Value} {r r':List V → Hp → VK → Prop} (h:ZaK X f r) (i:∀ x H Q,r' x H Q → r x H Q):ZaK X f r':=fun pins s σ H xs us Q I rx q=>h pins s σ H xs us Q I rx (i xs H Q q)
theorem _root_.L2.IxR.imp {X:Cx} {r r':R2} (h:IxR X r) (i:∀ x y H Q,r' x y H Q → r x y H Q):IxR X r':=fun value slice pins s σ H x y v u Q I rx ry q hs=>h value slice pins s σ H x y v u Q I rx ry (i x y H Q q) hs
theorem _root_.L2.SlR.imp {X:Cx} {r r':V → Option Int → Option Int → Hp → VK → Prop} (h:SlR X r) (i:∀ x lo hi H Q,r' x lo hi H Q → r x lo hi H Q):SlR X r':=fun pins s σ H x v vl vu lo hi sl Q I rx hs pl pu q=>h pins s σ H x v vl vu lo hi sl Q I rx hs pl pu (i x lo hi H Q q)
section
variable {K:PySem.W.Frag} {H H1:Hp} {ι ι1:List Addr}
theorem Zw.up {Q:VK} {r:R3 D} (e:Ext K H ι H1 ι1) (h:Zw K H ι Q r):Zw K H1 ι1 Q r:=by
 cases r with
 | ok d M=>exact fun v H' ι' e' S r=>h v H' ι' (e.trans e') S r
 | exc x M=>exact h
 | bad=>exact h
theorem Zfd.up {Q:Bool → Hp → Prop} {r:R3 D} (e:Ext K H ι H1 ι1) (h:Zfd K H ι Q r):Zfd K H1 ι1 Q r:=by
 cases r with
 | ok d M=>cases d <;> first | exact h | exact fun H' ι' e' S=>h H' ι' (e.trans e') S
 | exc x M=>exact h
 | bad=>exact h
theorem ZeM.up {Q:Ends} {r:O3} (e:Ext K H ι H1 ι1) (h:ZeM K H ι Q r):ZeM K H1 ι1 Q r:=by
 cases r with
 | nx d M=>exact fun v H' ι' e' S r=>h v H' ι' (e.trans e') S r
 | bk d M=>exact fun v H' ι' e' S r=>h v H' ι' (e.trans e') S r
 | ct d M=>exact fun v H' ι' e' S r=>h v H' ι' (e.trans e') S r
 | rt d M=>exact fun v H' ι' e' S r=>h v H' ι' (e.trans e') S r
 | exc x M=>exact h
 | bad=>exact h
theorem Zw.ok {Q:VK} {d:D} {M:Store} {v:V} (h:Zw K H ι Q (.ok d M)) (S:Zy K H ι M) (r:Rep K H ι d v):Q v H:=h v H ι Ext.refl S r
theorem Zw.bind {α:Type} {Q:VK} {r:R3 α} {k:α → Store → R3 D} (h:Zw K H ι Q (r.bind k)):∃ a M,r = .ok a M ∧ Zw K H ι Q (k a M):=by
 cases r with
 | ok a M=>exact ⟨a,M,rfl,h⟩
 | exc x M=>exact h.elim
 | bad=>exact h.elim
theorem Zjd.bind {α:Type} {Q:List V → Hp → Prop} {r:R3 α} {k:α → Store → R3 (List D)} (h:Zjd K H ι Q (r.bind k)):∃ a M,r = .ok a M ∧ Zjd K H ι Q (k a M):=by
 cases r with
 | ok a M=>exact ⟨a,M,rfl,h⟩
 | exc x M=>exact h.elim
 | bad=>exact h.elim
theorem Zj5.bind {α:Type} {Q:Option Int → Hp → Prop} {r:R3 α} {k:α → Store → R3 (Option Int)} (h:Zj5 K H ι Q (r.bind k)):∃ a M,r = .ok a M ∧ Zj5 K H ι Q (k a M):=by
 cases r with
 | ok a M=>exact ⟨a,M,rfl,h⟩
 | exc x M=>exact h.elim
 | bad=>exact h.elim
theorem Zfd.bind {α:Type} {Q:Bool → Hp → Prop} {r:R3 α} {k:α → Store → R3 D} (h:Zfd K H ι Q (r.bind k)):∃ a M,r = .ok a M ∧ Zfd K H ι Q (k a M):=by
 cases r with
 | ok a M=>exact ⟨a,M,rfl,h⟩
 | exc x M=>exact h.elim
 | bad=>exact h.elim
end
noncomputable def r2 (K:PySem.W.Frag) (op:D → D → Store → R3 D):R2:=fun x y H Q=>∃ ι M a b,Zy K H ι M ∧ Rep K H ι a x ∧ Rep K H ι b y ∧ Zw K H ι Q (op a b M)
noncomputable def r1 (K:PySem.W.Frag) (op:D → Store → R3 D):V → Hp → VK → Prop:=fun x H Q=>∃ ι M a,Zy K H ι M ∧ Rep K H ι a x ∧ Zw K H ι Q (op a M)
noncomputable def rB (K:PySem.W.Frag) (b:List D → Store → R3 D):List V → Hp → VK → Prop:=fun xs H Q=>∃ ι M ds,Zy K H ι M ∧ Zj K H ι ds xs ∧ Zw K H ι Q (b ds M)
noncomputable def rM (K:PySem.W.Frag) (m:D → List D → Store → R3 D):V → List V → Hp → VK → Prop:=fun x xs H Q=>∃ ι M a ds,Zy K H ι M ∧ Rep K H ι a x ∧ Zj K H ι ds xs ∧ Zw K H ι Q (m a ds M)
noncomputable def rS (K:PySem.W.Frag):V → Option Int → Option Int → Hp → VK → Prop:=fun x lo hi H Q=>∃ ι M a,Zy K H ι M ∧ Rep K H ι a x ∧ Zw K H ι Q (Zeu a lo hi M)
theorem Zf2 {K:PySem.W.Frag} {op:D → D → Store → R3 D} {f g:E3} (σ:St) (H:Hp) (Q:VK) (h:tOf K (e2 op f g) σ H Q):tOp (r2 K op) (tOf K f) (tOf K g) σ H Q:=by
 obtain ⟨ι,M,env,S,E,h⟩:=h
 obtain ⟨a,M1,e1,h⟩:=Zw.bind h
 obtain ⟨b,M2,e2,h⟩:=Zw.bind h
 refine ⟨ι,M,env,S,E,?_⟩
 rw [e1]
 intro v H1 ι1 x1 S1 r1
 refine ⟨ι1,M1,env,S1,E.mono x1,?_⟩
 rw [e2]
 intro u H2 ι2 x2 S2 r2
 exact ⟨ι2,M2,a,b,S2,r1.mono x2,r2,(h.up x1).up x2⟩
theorem Zmp {K:PySem.W.Frag} {op:D → Store → R3 D} {f:E3} (σ:St) (H:Hp) (Q:VK) (h:tOf K (e1 op f) σ H Q):tUn (r1 K op) (tOf K f) σ H Q:=by
 obtain ⟨ι,M,env,S,E,h⟩:=h
 obtain ⟨a,M1,e1,h⟩:=Zw.bind h
 refine ⟨ι,M,env,S,E,?_⟩
 rw [e1]
 intro v H1 ι1 x1 S1 r1
 exact ⟨ι1,M1,a,S1,r1,h.up x1⟩
section
variable {X:Cx} {a b c e o:Expr} {es:List Expr} {pos p:Pos} {f g h:E3} {gl:EL3}
theorem Zf (i:Nat) {x:Str} (hN:X.N[i]? = some x:=by rfl) (hv:Vis X.env.scope x:=by first | exact Or.inl rfl | exact Or.inr (Or.inl rfl) | exact Or.inr (Or.inr rfl)) (hd:(x == ("__debug__":Str)) = false:=by decide)
  (hcd:(x == ("__classdict__":Str)) = false:=by decide):C3 X (.Name x pos) (Zb i):=(Zm5 hN hv hd hcd).imp fun σ H Q zz1=>by
 obtain ⟨ι,M,env,S,E,h⟩:=zz1
 unfold Zb at h
 cases q:env[i]? with
 | none=>rw [q] at h; exact h.elim
 | some od=>
  cases od with
  | none=>rw [q] at h; exact h.elim
  | some d=>
   rw [q] at h
   obtain ⟨v,e1,r⟩:=E.2 i d q
   exact ⟨v,e1,Zw.ok h S r⟩
theorem Zo {i j}:C3 X (.Constant (.int i) j pos) (eC (.int i)):=Zjo.imp fun σ H Q ⟨ι,M,env,S,E,h⟩=>Zw.ok h S Rep.int
theorem Zmj {i j}:C3 X (.Constant (.bool i) j pos) (eC (.bl i)):=ZoK.imp fun σ H Q ⟨ι,M,env,S,E,h⟩=>Zw.ok h S Rep.bl
theorem ZgK {j}:C3 X (.Constant .none j pos) (eC .non):=ZmF.imp fun σ H Q ⟨ι,M,env,S,E,h⟩=>Zw.ok h S Rep.non
theorem Zaj {x:Str} {cs:List Nat} {j} (hx:x = ⟨cs.toArray⟩:=by decide +kernel):C3 X (.Constant (.str x) j pos) (eC (.str cs)):=ZnM.imp fun σ H Q zz1=>by
 obtain ⟨ι,M,env,S,E,h⟩:=zz1
 subst hx
 exact Zw.ok h S Rep.str
theorem Zhp {x:Str} {d:D} {v:V} {u:Value} (hm:X.mg x = some u) (r:RelV v u) (hr:∀ H ι,Rep X.K H ι d v) (hg:Gl X x:=by rfl) (hd:(x == ("__debug__":Str)) = false:=by decide):C3 X (.Name x pos) (eC d):=
 (Zgf hg hm r hd).imp fun σ H Q ⟨ι,M,env,S,E,h⟩=>Zw.ok h S (hr H ι)
theorem Zu {op:Operator} {q:D → D → Store → R3 D} (ho:OpR X (binaryOp op) (r2 X.K q)) (ha:C3 X a f) (hb:C3 X b g):C3 X (.BinOp a op b pos) (e2 q f g):=(ZoG ho ha hb).imp Zf2
theorem ZhF {op:UnaryOp} {q:D → Store → R3 D} (ho:UnR X (unaryOp op) (r1 X.K q)) (ha:C3 X a f):C3 X (.UnaryOp op a pos) (e1 q f):=(ZoR ho ha).imp Zmp
theorem ZfP {op:CmpOp} {q:D → D → Store → R3 D} (ho:OpR X (compareOp op) (r2 X.K q)) (ha:C3 X a f) (hb:C3 X b g) (hm:behindInMarks op b = false:=by rfl):C3 X (.Compare a [op] [b] pos) (e2 q f g):=(Zk5 ho ha hb hm).imp Zf2
theorem ZfG {K:PySem.W.Frag} {H:Hp} {ι:List Addr} {Q:Bool → Hp → Prop} {r:R3 D} (h:Zfd K H ι Q r):Zw K H ι (fun x H'=>∃ k,x = .bl k ∧ Q k H') r:=by
 cases r with
 | ok d M=>
  cases d with
  | bl b=>exact fun v H' ι' e S r=>⟨b,r.bl_inv,h H' ι' e S⟩
  | _=>exact h.elim
 | exc x M=>exact h.elim
 | bad=>exact h.elim
theorem ZcK (h:C3 X e f) (he:∀ whole,isTrue e X.env whole = (do let v ← whole; standAt e.pos; holding [v] (truthy v)):=by intro _; rfl):CT X e f:=(Zni h he).imp fun σ H Q ⟨ι,M,env,S,E,h⟩=>⟨ι,M,env,S,E,ZfG h⟩
theorem ZaZ {op:CmpOp} {q:D → D → Store → R3 D} (ho:OpR X (compareOp op) (r2 X.K q)) (ha:C3 X a f) (hb:C3 X b g) (hm:behindInMarks op b = false:=by rfl):CT X (.Compare a [op] [b] pos) (e2 q f g):=
 (Zlg ho ha hb hm).imp fun σ H Q ⟨ι,M,env,S,E,h⟩=>Zf2 σ H _ ⟨ι,M,env,S,E,ZfG h⟩
end
end L3
namespace L3
open PySem PySem.Spec PyProof.Rows L2
section
variable {X:Cx} {a b c e o:Expr} {es rest:List Expr} {pos p:Pos} {f g h:E3} {gl:EL3}
theorem ZjA {op} (h:C3 X a f):C3 X (.BoolOp op [a] pos) f:=ZnN h
theorem Zic (ha:C3 X a f) (hb:C3 X (.BoolOp .And (b :: rest) pos) g):C3 X (.BoolOp .And (a :: b :: rest) pos) (Zdq f g):=(ZmC ha hb).imp fun σ H Q zz1=>by
 obtain ⟨ι,M,env,S,E,h⟩:=zz1
 obtain ⟨d,M1,e1,h⟩:=Zw.bind h
 refine ⟨ι,M,env,S,E,?_⟩
 rw [e1]
 intro v H1 ι1 x1 S1 r1
 cases d with
 | bl k=>
  refine ⟨k,r1.bl_inv,?_⟩
  cases k with
  | true=>rw [if_pos rfl]; exact ⟨ι1,M1,env,S1,E.mono x1,h.up x1⟩
  | false=>rw [if_neg (by decide)]; exact Zw.ok (h.up x1) S1 Rep.bl
 | _=>exact h.elim
theorem Zo0 (ha:C3 X a f):C3 X (.UnaryOp .Not a pos) (e1 Zby f):=(Znr ha).imp fun σ H Q zz1=>by
 obtain ⟨ι,M,env,S,E,h⟩:=zz1
 obtain ⟨d,M1,e1,h⟩:=Zw.bind h
 refine ⟨ι,M,env,S,E,?_⟩
 rw [e1]
 intro v H1 ι1 x1 S1 r1
 cases d with
 | bl k=>exact ⟨k,r1.bl_inv,Zw.ok (h.up x1) S1 Rep.bl⟩
 | _=>exact h.elim
noncomputable def CW (X:Cx) (e:Expr) (f:E3):Prop:=PW X e (tTf X.K f)
theorem CW.ct (h:CW X e f):CT X e f:=PW.pt h
theorem PW.imp {t t':TT} (h:PW X e t) (i:∀ σ H Q,t' σ H Q → t σ H Q):PW X e t':=fun wh pins s σ H Q I q=>h wh pins s σ H Q I (i σ H Q q)
theorem Zh7 (ha:CT X a f):CW X (.BoolOp .And [a] pos) f:=Zlk ha
theorem Zgu (ha:CT X a f):CW X (.BoolOp .Or [a] pos) f:=ZmN ha
theorem Zjs (ha:CT X a f) (hb:CW X (.BoolOp .And (b :: rest) pos) g):CW X (.BoolOp .And (a :: b :: rest) pos) (Zdq f g):=PW.imp (ZmA ha hb) fun σ H Q zz1=>by
 obtain ⟨ι,M,env,S,E,h⟩:=zz1
 obtain ⟨d,M1,e1,h⟩:=Zfd.bind h
 refine ⟨ι,M,env,S,E,?_⟩
 rw [e1]
 cases d with
 | bl k=>
  intro H1 ι1 x1 S1
  cases k with
  | true=>rw [if_pos rfl]; exact ⟨ι1,M1,env,S1,E.mono x1,h.up x1⟩
  | false=>rw [if_neg (by decide)]; exact h H1 ι1 x1 S1
 | _=>exact h.elim
theorem Zh2 (ha:CT X a f) (hb:CW X (.BoolOp .Or (b :: rest) pos) g):CW X (.BoolOp .Or (a :: b :: rest) pos) (eOr f g):=PW.imp (ZoS ha hb) fun σ H Q zz1=>by
 obtain ⟨ι,M,env,S,E,h⟩:=zz1
 obtain ⟨d,M1,e1,h⟩:=Zfd.bind h
 refine ⟨ι,M,env,S,E,?_⟩
 rw [e1]
 cases d with
 | bl k=>
  intro H1 ι1 x1 S1
  cases k with
  | false=>rw [if_neg (by decide)]; exact ⟨ι1,M1,env,S1,E.mono x1,h.up x1⟩
  | true=>rw [if_pos rfl]; exact h H1 ι1 x1 S1
 | _=>exact h.elim
theorem Zel (ha:CT X a f):CT X (.UnaryOp .Not a pos) (e1 Zby f):=(Znd ha).imp fun σ H Q zz1=>by
 obtain ⟨ι,M,env,S,E,h⟩:=zz1
 obtain ⟨d,M1,e1,h⟩:=Zfd.bind h
 refine ⟨ι,M,env,S,E,?_⟩
 rw [e1]
 cases d with
 | bl k=>exact fun H1 ι1 x1 S1=>h H1 ι1 x1 S1
 | _=>exact h.elim
theorem ZoF (hc:CT X c f) (ha:C3 X a g) (hb:C3 X b h):C3 X (.IfExp c a b pos) (eIf f g h):=(ZjZ hc ha hb).imp fun σ H Q zz1=>by
 obtain ⟨ι,M,env,S,E,h⟩:=zz1
 obtain ⟨d,M1,e1,h⟩:=Zw.bind h
 refine ⟨ι,M,env,S,E,?_⟩
 rw [e1]
 cases d with
 | bl k=>
  intro H1 ι1 x1 S1
  cases k with
  | true=>rw [if_pos rfl]; exact ⟨ι1,M1,env,S1,E.mono x1,h.up x1⟩
  | false=>rw [if_neg (by decide)]; exact ⟨ι1,M1,env,S1,E.mono x1,h.up x1⟩
 | _=>exact h.elim
theorem Zg:CA X [] Ze:=Zkk.imp fun σ H Q ⟨ι,M,env,S,E,h⟩=>h [] H ι Ext.refl S Zj.nil
theorem Zc (ha:C3 X e f) (hr:CA X es gl) (hs:starEach (e :: es) X.env = (false,eval e X.env) :: starEach es X.env:=by rfl):CA X (e :: es) (Za f gl):=(Zgy ha hr hs).imp fun σ H Q zz1=>by
 obtain ⟨ι,M,env,S,E,h⟩:=zz1
 obtain ⟨d,M1,e1,h⟩:=Zjd.bind h
 obtain ⟨ds,M2,e2,h⟩:=Zjd.bind h
 refine ⟨ι,M,env,S,E,?_⟩
 rw [e1]
 intro v H1 ι1 x1 S1 r1
 refine ⟨ι1,M1,env,S1,E.mono x1,?_⟩
 rw [e2]
 intro vs H2 ι2 x2 S2 r2
 exact h (v :: vs) H2 ι2 (x1.trans x2) S2 (Zj.cons (r1.mono x2) r2)
theorem Zcj {x1} (h:CA X es gl):C3 X (.Tuple es x1 pos) (Zap gl):=(Znt h).imp fun σ H Q zz1=>by
 obtain ⟨ι,M,env,S,E,h⟩:=zz1
 obtain ⟨ds,M1,e1,h⟩:=Zw.bind h
 refine ⟨ι,M,env,S,E,?_⟩
 rw [e1]
 intro vs H1 ι1 x1 S1 r1
 by_cases hz:ds.length ≤ SZ
 ·rw [if_pos hz] at h
  refine ⟨by rw [r1.length]; exact Nat.le_trans hz Za7,fun p hp=>?_⟩
  obtain ⟨x2,S2,r2⟩:=S1.tupl hp r1
  exact h _ _ _ (x1.trans x2) S2 r2
 ·rw [if_neg hz] at h; exact h.elim
theorem ZcO (h:CA X es gl):C3 X (.List es pos) (Zbu gl):=(Znw h).imp fun σ H Q zz1=>by
 obtain ⟨ι,M,env,S,E,h⟩:=zz1
 obtain ⟨ds,M1,e1,h⟩:=Zw.bind h
 refine ⟨ι,M,env,S,E,?_⟩
 rw [e1]
 intro vs H1 ι1 x1 S1 r1
 by_cases hz:ds.length ≤ SZ
 ·rw [if_pos hz] at h
  refine ⟨by rw [r1.length]; exact Nat.le_trans hz Za7,fun p hp=>?_⟩
  obtain ⟨x2,S2,r2⟩:=S1.lst hp r1
  exact h _ _ _ (x1.trans x2) S2 r2
 ·rw [if_neg hz] at h; exact h.elim
theorem Zkz {K:PySem.W.Frag} {q:List D → Store → R3 D} (σ:St) (H:Hp) (Q:VK) (h:tOf K (Zah q gl) σ H Q):tCB (rB K q) (tAf K gl) σ H Q:=by
 obtain ⟨ι,M,env,S,E,h⟩:=h
 obtain ⟨ds,M1,e1,h⟩:=Zw.bind h
 refine ⟨ι,M,env,S,E,?_⟩
 rw [e1]
 intro vs H1 ι1 x1 S1 r1
 exact ⟨ι1,M1,ds,S1,r1,h.up x1⟩
theorem Zck {x:Str} {id:String} {q:List D → Store → R3 D} (hc:ZaK X (.builtin id) (rB X.K q)) (hm:X.mg x = none) (hv:bootBuiltins x = some (.builtin id)) (ha:CA X (e :: es) gl) (hg:Gl X x:=by rfl) (hn:x ≠ "__name__":=by decide) (hdb:(x == ("__debug__":Str)) = false:=by decide)
  (he:starEach (e :: es) X.env = (false,eval e X.env) :: starEach es X.env:=by rfl) (hpl:(backTo pos (starEach es X.env)).any (·.1) = false:=by rfl):C3 X (.Call (.Name x p) (e :: es) [] pos) (Zah q gl):=(ZgY hc hg hm hv ha hn hdb he hpl).imp Zkz
theorem Zdg {x:Str} {T:String} {q:List D → Store → R3 D} (hc:ZaK X (.type T) (rB X.K q)) (hm:X.mg x = none) (hv:bootBuiltins x = some (.type T)) (ha:CA X (e :: es) gl) (hg:Gl X x:=by rfl) (hn:x ≠ "__name__":=by decide) (hdb:(x == ("__debug__":Str)) = false:=by decide)
  (he:starEach (e :: es) X.env = (false,eval e X.env) :: starEach es X.env:=by rfl) (hpl:(backTo pos (starEach es X.env)).any (·.1) = false:=by rfl):C3 X (.Call (.Name x p) (e :: es) [] pos) (Zah q gl):=(ZiB hc hg hm hv ha hn hdb he hpl).imp Zkz
theorem ZbL (hr:IxR X (r2 X.K Zq)) (ha:C3 X a f) (hb:C3 X b g) (hs:Zin b:=by exact fun _ _=>rfl):C3 X (.Subscript a b pos) (e2 Zq f g):=(ZoO hr ha hb hs).imp Zf2
theorem ZcD:CO X none ZaS:=Zly.imp fun σ H Q ⟨ι,M,env,S,E,h⟩=>h H ι Ext.refl S
theorem ZbB (h:C3 X e f):CO X (some e) (Zad f):=(Zk6 h).imp fun σ H Q zz1=>by
 obtain ⟨ι,M,env,S,E,h⟩:=zz1
 obtain ⟨d,M1,e1,h⟩:=Zj5.bind h
 refine ⟨ι,M,env,S,E,?_⟩
 rw [e1]
 intro v H1 ι1 x1 S1 r1
 cases d with
 | int i=>exact ⟨i,r1.int_inv,h H1 ι1 x1 S1⟩
 | _=>exact h.elim
theorem Zfw {lo hi:Option Expr} {ol oh:EO3} {p2:Pos} (hr:SlR X (rS X.K)) (he:C3 X e f) (hl:CO X lo ol) (hu:CO X hi oh):C3 X (.Subscript e (.Slice lo hi none p2) pos) (eSl f ol oh):=(Zj3 hr he hl hu).imp fun σ H Q zz1=>by
 obtain ⟨ι,M,env,S,E,h⟩:=zz1
 obtain ⟨d,M1,e1,h⟩:=Zw.bind h
 obtain ⟨l,M2,e2,h⟩:=Zw.bind h
 obtain ⟨u,M3,e3,h⟩:=Zw.bind h
 refine ⟨ι,M,env,S,E,?_⟩
 rw [e1]
 intro v H1 ι1 x1 S1 r1
 refine ⟨ι1,M1,env,S1,E.mono x1,?_⟩
 rw [e2]
 intro H2 ι2 x2 S2
 refine ⟨ι2,M2,env,S2,(E.mono x1).mono x2,?_⟩
 rw [e3]
 intro H3 ι3 x3 S3
 exact ⟨ι3,M3,d,S3,(r1.mono x2).mono x3,((h.up x1).up x2).up x3⟩
theorem Zay:CSs X [] Zab:=Zlw.imp fun D σ H ⟨ι,M,env,S,E,h⟩=>h σ H ι Ext.refl S E
theorem Zt {st:Stmt} {u:S3} (h:CS X st u):CSs X [st] u:=ZkP h
theorem Zi {st:Stmt} {sts:List Stmt} {u w:S3} (h1:CS X st u) (h2:CSs X sts w):CSs X (st :: sts) (Zv u w):=(Zks h1 h2).imp fun D σ H zz1=>by
 obtain ⟨ι,M,env,S,E,h⟩:=zz1
 refine ⟨ι,M,env,S,E,?_⟩
 have h':ZeM X.K H ι D (match u env M with | .nx env' M'=>w env' M' | o=>o):=h
 cases q:u env M with
 | nx env' M'=>rw [q] at h'; exact fun σ' H' ι' x S' E'=>⟨ι',M',env',S',E',h'.up x⟩
 | _=>rw [q] at h'; exact h'
theorem Zbz {c1:Expr} {x y:List Stmt} {u w:S3} (hc:CT X c1 f) (ha:CSs X x u) (hb:CSs X y w):CS X (.If c1 x y pos) (sIf f u w):=(Zol hc ha hb).imp fun D σ H zz1=>by
 obtain ⟨ι,M,env,S,E,h⟩:=zz1
 refine ⟨ι,M,env,S,E,?_⟩
 unfold sIf at h
 cases q:f env M with
 | ok d M1=>
  rw [q] at h
  cases d with
  | bl k=>
   intro H1 ι1 x1 S1
   cases k with
   | true=>rw [if_pos rfl]; exact ⟨ι1,M1,env,S1,E.mono x1,h.up x1⟩
   | false=>rw [if_neg (by decide)]; exact ⟨ι1,M1,env,S1,E.mono x1,h.up x1⟩
  | _=>exact h.elim
 | exc x M1=>rw [q] at h; exact h.elim
 | bad=>rw [q] at h; exact h.elim
theorem Zat (h:C3 X e f):CS X (.Return (some e) pos) (Zan f):=(ZmT h).imp fun D σ H zz1=>by
 obtain ⟨ι,M,env,S,E,h⟩:=zz1
 refine ⟨ι,M,env,S,E,?_⟩
 unfold Zan at h
 cases q:f env M with
 | ok d M1=>rw [q] at h; exact h
 | exc x M1=>rw [q] at h; exact h.elim
 | bad=>rw [q] at h; exact h.elim
theorem Zd2 (h:C3 X e f) (hs:swapsWith e none pos.line X.env = pure false:=by rfl):CS X (.Expr e pos) (ZaD f):=(ZkT h hs).imp fun D σ H zz1=>by
 obtain ⟨ι,M,env,S,E,h⟩:=zz1
 refine ⟨ι,M,env,S,E,?_⟩
 unfold ZaD at h
 cases q:f env M with
 | ok d M1=>rw [q] at h; exact fun v H1 ι1 x1 S1 r1=>h σ H1 ι1 x1 S1 (E.mono x1)
 | exc x M1=>rw [q] at h; exact h.elim
 | bad=>rw [q] at h; exact h.elim
theorem Zaq (i:Nat) {x:Str} {pos':Pos} (hN:X.N.Nodup) (he:C3 X e f) (hi:X.N[i]? = some x:=by rfl) (hx:Loc X.env.scope x:=by first | exact Or.inl rfl | exact Or.inr rfl) (hs:swapsWith e (some (.Name x pos')) pos.line X.env = pure false:=by rfl)
  (hf:X.fn x = true ∨ X.env.scope.names.lookup x = some .local:=by first | exact .inl rfl | exact .inr rfl):CS X (.Assign [.Name x pos'] e pos) (Zac i f):=(ZnL hN hi hx he hs hf).imp fun D σ H zz1=>by
 obtain ⟨ι,M,env,S,E,h⟩:=zz1
 refine ⟨ι,M,env,S,E,?_⟩
 unfold Zac at h
 cases q:f env M with
 | ok d M1=>rw [q] at h; exact fun v H1 ι1 x1 S1 r1=>h _ H1 ι1 x1 S1 ((E.mono x1).set i r1)
 | exc x M1=>rw [q] at h; exact h.elim
 | bad=>rw [q] at h; exact h.elim
theorem Zhy {st:Stmt}:CS X st ZfU:=fun _ _ _ _ _ _ ⟨_,_,_,_,_,h⟩=>h.elim
end
noncomputable def sp3 (K:PySem.W.Frag) (n:Nat) (F:F3):Sp:=fun vs H Q _=>∃ ι M ds,Zy K H ι M ∧ Zj K H ι ds vs ∧ ds.length = n ∧ Zw K H ι Q (F ds M)
section
variable {K:PySem.W.Frag} {H H':Hp} {ι ι':List Addr} {M M':Store}
mutual
theorem Rep.below:∀ {d:D} {v:V},Rep K H ι d v → L3.below ι.length d = true
 | .non,_,_=>rfl
 | .bl _,_,_=>rfl
 | .int _,_,_=>rfl
 | .str _,_,_=>rfl
 | .tup ds,_,h=>by
  obtain ⟨a,vs,_,_,r⟩:=h.tup_inv
  simp only [L3.below]
  exact Zj.belowL (ds:=ds) r
 | .scr ds,_,h=>by
  obtain ⟨a,vs,_,_,r⟩:=h.scr_inv
  simp only [L3.below]
  exact Zj.belowL (ds:=ds) r
 | .ref n,_,h=>by
  obtain ⟨a,q,_⟩:=h.ref_inv
  simp only [L3.below,decide_eq_true_eq]
  exact (List.getElem?_eq_some_iff.mp q).1
theorem Zj.belowL:∀ {ds:List D} {vs:List V},Zj K H ι ds vs → L3.belowL ι.length ds = true
 | [],_,_=>rfl
 | d :: ds,_,h=>by
  obtain ⟨v,ws,_,r,q⟩:=h.cons_inv
  simp only [L3.belowL,Bool.and_eq_true]
  exact ⟨Rep.below (d:=d) r,Zj.belowL (ds:=ds) q⟩
end
mutual
theorem Rep.cut {n:Nat}:∀ {d:D} {v:V},L3.below n d = true → Rep K H ι d v → Rep K H (ι.take n) d v
 | .non,_,_,h=>by simpa [Rep] using h
 | .bl _,_,_,h=>by simpa [Rep] using h
 | .int _,_,_,h=>by simpa [Rep] using h
 | .str _,_,_,h=>by simpa [Rep] using h
 | .tup ds,_,hb,h=>by
  obtain ⟨a,vs,rfl,s,r⟩:=h.tup_inv
  exact Rep.tup s (Zj.cut (ds:=ds) (by simpa only [L3.below] using hb) r)
 | .scr ds,_,hb,h=>by
  obtain ⟨a,vs,rfl,s,r⟩:=h.scr_inv
  simp only [Rep]
  exact ⟨a,vs,rfl,s,Zj.cut (ds:=ds) (by simpa only [L3.below] using hb) r⟩
 | .ref k,_,hb,h=>by
  obtain ⟨a,q,rfl⟩:=h.ref_inv
  refine Rep.ref ?_
  rw [List.getElem?_take_of_lt (by simpa [L3.below] using hb)]
  exact q
theorem Zj.cut {n:Nat}:∀ {ds:List D} {vs:List V},L3.belowL n ds = true → Zj K H ι ds vs → Zj K H (ι.take n) ds vs
 | [],_,_,h=>by simpa [Zj] using h
 | d :: ds,_,hb,h=>by
  obtain ⟨v,ws,rfl,r,q⟩:=h.cons_inv
  simp only [L3.belowL,Bool.and_eq_true] at hb
  exact Zj.cons (Rep.cut (d:=d) hb.1 r) (Zj.cut (ds:=ds) hb.2 q)
end
theorem ZdM.below {m:MO} {a:Addr} (h:ZdM K H ι m a):Zem ι.length m = true:=by
 cases m with
 | lst xs=>obtain ⟨vs,_,r⟩:=h; exact r.belowL
 | dct kvs=>obtain ⟨ws,_,_,r⟩:=h; exact r.belowL
 | fdct kvs=>obtain ⟨ws,_,_,r⟩:=h; exact r.belowL
 | ins c fs=>
  rcases h with ⟨_,_,gs,_,_,_,r⟩ | ⟨_,_,_,_,rfl⟩
  ·exact r.belowL
  ·rfl
theorem ZdM.cut {n:Nat} {m:MO} {a:Addr} (hb:Zem n m = true) (h:ZdM K H ι m a):ZdM K H (ι.take n) m a:=by
 cases m with
 | lst xs=>obtain ⟨vs,q,r⟩:=h; exact ⟨vs,q,r.cut hb⟩
 | dct kvs=>obtain ⟨ws,q,r1,r2⟩:=h; exact ⟨ws,q,r1,r2.cut hb⟩
 | fdct kvs=>obtain ⟨ws,q,r1,r2⟩:=h; exact ⟨ws,q,r1,r2.cut hb⟩
 | ins c fs=>
  rcases h with ⟨C,dx,gs,q,c,r1,r2⟩ | h
  ·exact .inl ⟨C,dx,gs,q,c,r1,r2.cut hb⟩
  ·exact .inr h
theorem Zy.cut {n:Nat} (S:Zy K H ι M) (h:(M.take n).all (Zem n) = true):Zy K H (ι.take n) (M.take n):=by
 refine ⟨by simp [S.len],S.nd.sublist (List.take_sublist _ _),fun k m a h1 h2=>?_⟩
 have hk:k < n:=by
  have:=(List.getElem?_eq_some_iff.mp h1).1
  rw [List.length_take] at this
  exact Nat.lt_of_lt_of_le this (Nat.min_le_left _ _)
 have hb:Zem n m = true:=List.all_eq_true.mp h m (List.mem_of_getElem? h1)
 rw [List.getElem?_take_of_lt hk] at h1 h2
 exact (S.obj k m a h1 h2).cut hb
theorem Zik {Q:VK} {d:D} {v:V} (S:Zy K H ι M) (x:Ext K H ι H' ι') (S':Zy K H' ι' M') (r:Rep K H' ι' d v) (h:Zw K H ι Q (Zca M d M')):Q v H':=by
 unfold Zca at h
 split at h
 ·rename_i c
  simp only [Bool.and_eq_true,Bool.or_eq_true,decide_eq_true_eq] at c
  have hall:(M'.take M.length).all (Zem M.length) = true:=by
   rcases c.2 with e | e
   ·rw [e,List.all_eq_true]
    intro m hm
    obtain ⟨n,hn⟩:=List.getElem?_of_mem hm
    obtain ⟨a,q,w⟩:=S.at hn
    rw [← S.len]
    exact w.below
   ·exact e
  refine h v H' (ι'.take M.length) ⟨x.tup,x.scr,fun n a q=>?_,x.frz⟩ (S'.cut hall) (r.cut c.1)
  rw [List.getElem?_take_of_lt (by rw [← S.len]; exact (List.getElem?_eq_some_iff.mp q).1)]
  exact x.pre n a q
 ·exact h v H' ι' x S' r
end
theorem Zbj.start {K:PySem.W.Frag} {H:Hp} {ι:List Addr} {ds:List D} {vs:List V} (r:Zj K H ι ds vs) (n:Nat):Zbj K H ι (ds.map some ++ List.replicate n none) (vs.map some ++ List.replicate n none):=by
 refine ⟨by simp [r.length],fun i d h=>?_⟩
 by_cases hi:i < ds.length
 ·rw [List.getElem?_append_left (by simpa using hi),List.getElem?_map] at h
  cases q:ds[i]? with
  | none=>rw [q] at h; simp at h
  | some d'=>
   rw [q] at h
   simp at h
   subst h
   obtain ⟨v,e,z⟩:=r.get q
   refine ⟨v,?_,z⟩
   rw [List.getElem?_append_left (by simpa [r.length] using hi),List.getElem?_map,e]
   rfl
 ·rw [List.getElem?_append_right (by simpa using hi),List.getElem?_replicate] at h
  split at h <;> simp at h
section
variable {P:Program} {w:World} {K:PySem.W.Frag} {mg:Str → Option Value} {base:Heap}
theorem fn3 {x qual:Str} {st:Stmt} {f:Addr} {fd:FuncData} {N ps:List Str} {k:Nat} {body:S3} (F:Fun K x qual st f fd) (S:ZaE N ps (Zm st))
  (hb:∀ (cdv:Value) (A:Around) (outer:List Env) (s:Shared) (H:Hp) (E:XK),Zcf k (A.deeper (envOfC qual (Zm st) s.heap.objs.size f cdv)) → CSs (Zhk CX0 P w K mg base N qual (Zm st) f cdv A outer s H E).nox (Zam st) body):
  ZcH P w K mg base CX0 (k + 1) f fd ps (sp3 K ps.length (mkF ps.length N.length body)):=by
 refine F.ok S (fun vs H Q E ⟨ι,M,ds,_,r,l,_⟩=>by rw [r.length,l]) fun cdv A outer s H vs Q E hr zz1=>?_
 obtain ⟨ι,M,ds,SR,r,l,h⟩:=zz1
 refine ⟨_,hb cdv A outer s H E hr,ι,M,ds.map some ++ List.replicate (N.length - ps.length) none,SR,?_,?_⟩
 ·have e:L2.start N vs = vs.map some ++ List.replicate (N.length - ps.length) none:=by unfold L2.start; rw [r.length,l]
  rw [e]
  exact Zbj.start r _
 ·unfold mkF at h
  rw [if_pos l] at h
  cases q:body (ds.map some ++ List.replicate (N.length - ps.length) none) M with
  | nx env' M'=>rw [q] at h; exact fun σ' H' ι' x S' E'=>Zik SR x S' Rep.non h
  | rt d M'=>rw [q] at h; exact fun v H' ι' x S' r'=>Zik SR x S' r' h
  | bk _ _=>rw [q] at h; exact h.elim
  | ct _ _=>rw [q] at h; exact h.elim
  | exc _ _=>rw [q] at h; exact h.elim
  | bad=>rw [q] at h; exact h.elim
noncomputable def Fn3 (P:Program) (w:World) (K:PySem.W.Frag) (mg:Str → Option Value) (base:Heap) (k:Nat) (x:Str) (ps:List Str) (F:F3):Prop:=
 (∀ ds M,ds.length ≠ ps.length → F ds M = .bad) ∧ ∃ f fd,mg x = some (.ref f) ∧ PySem.W.keepIn K (.ref f) = true ∧ Binds K fd ps [] ∧ ZcH P w K mg base CX0 k f fd ps (sp3 K ps.length F)
noncomputable def ZaN (K:PySem.W.Frag) (mg:Str → Option Value) (x:Str) (st:Stmt) (ps:List Str):Prop:=∃ f fd,Fun K x x st f fd ∧ mg x = some (.ref f) ∧ Binds K fd ps []
theorem Fn3.mono {j k:Nat} {x:Str} {ps:List Str} {F:F3} (h:Fn3 P w K mg base j x ps F) (l:j ≤ k):Fn3 P w K mg base k x ps F:=
 let ⟨n,f,fd,a,b,c,d⟩:=h; ⟨n,f,fd,a,b,c,d.mono l⟩
theorem Fn3.of {x:Str} {st:Stmt} {N ps:List Str} {k:Nat} {body:S3} (d:ZaN K mg x st ps) (S:ZaE N ps (Zm st))
  (hb:∀ (f:Addr) (cdv:Value) (A:Around) (outer:List Env) (s:Shared) (H:Hp) (E:XK),Zcf k (A.deeper (envOfC x (Zm st) s.heap.objs.size f cdv)) → CSs (Zhk CX0 P w K mg base N x (Zm st) f cdv A outer s H E).nox (Zam st) body):
  Fn3 P w K mg base (k + 1) x ps (mkF ps.length N.length body):=by
 obtain ⟨f,fd,F,m,bi⟩:=d
 exact ⟨fun ds M h=>if_neg h,f,fd,m,F.kp,bi,fn3 F S (hb f)⟩
end
section
variable {X:Cx} {e:Expr} {es:List Expr} {pos p:Pos} {gl:EL3} {x:Str} {k:Nat} {ps:List Str} {F:F3}
theorem ZaU (G:Fn3 X.prog X.w X.K X.mg X.base k x ps F) (hr:Zcf k X.A) (ha:CA X (e :: es) gl) (hg:Gl X x:=by rfl) (hdb:(x == ("__debug__":Str)) = false:=by decide)
  (he:starEach (e :: es) X.env = (false,eval e X.env) :: starEach es X.env:=by rfl) (hpl:(backTo pos (starEach es X.env)).any (·.1) = false:=by rfl):C3 X (.Call (.Name x p) (e :: es) [] pos) (Zz F gl):=by
 obtain ⟨hn,f,fd,m,kp,bi,ok⟩:=G
 refine (ZlG ok hr hg m kp bi .nil ZoE ha hdb he hpl).imp fun σ H Q zz1=>?_
 obtain ⟨ι,M,env,S,E,h⟩:=zz1
 obtain ⟨ds,M1,e1,h⟩:=Zw.bind h
 refine ⟨ι,M,env,S,E,?_⟩
 rw [e1]
 intro vs H1 ι1 x1 S1 r1
 have hl:ds.length = ps.length:=by
  refine Decidable.byContradiction fun q=>?_
  rw [hn ds M1 q] at h
  exact h.elim
 exact ⟨ι1,M1,ds,S1,by rw [List.append_nil]; exact r1,hl,h.up x1⟩
end
end L3
namespace L3
open PySem PySem.Spec PyProof.Rows L2
noncomputable def tGf (K:PySem.W.Frag) (g:G3):TG:=fun v σ H Q=>∃ ι M env d env',Zy K H ι M ∧ Zbj K H ι env σ ∧ Rep K H ι d v ∧ g d env = some env' ∧ ∀ σ',Zbj K H ι env' σ' → Q σ' H
noncomputable def tGs (K:PySem.W.Frag) (is:List Nat):TGs:=fun vs σ H Q=>∃ ι M env ds env',Zy K H ι M ∧ Zbj K H ι env σ ∧ Zj K H ι ds vs ∧ bindAll is ds env = some env' ∧ ∀ σ',Zbj K H ι env' σ' → Q σ' H
noncomputable def CG (X:Cx) (tg:Expr) (g:G3):Prop:=PG X tg (tGf X.K g)
noncomputable def CGs (X:Cx) (tg:List Expr) (is:List Nat):Prop:=PGs X tg (tGs X.K is)
theorem PG.imp {X:Cx} {e:Expr} {t t':TG} (h:PG X e t) (i:∀ v σ H Q,t' v σ H Q → t v σ H Q):PG X e t':=fun pins s σ H v u Q I r q=>h pins s σ H v u Q I r (i v σ H Q q)
theorem PGs.imp {X:Cx} {e:List Expr} {t t':TGs} (h:PGs X e t) (i:∀ v σ H Q,t' v σ H Q → t v σ H Q):PGs X e t':=fun pins s σ H v u Q I r q=>h pins s σ H v u Q I r (i v σ H Q q)
section
variable {X:Cx} {e:Expr} {es:List Expr} {pos:Pos}
theorem ZbQ (i:Nat) {x:Str} (hN:X.N.Nodup) (hi:X.N[i]? = some x:=by rfl) (hx:Loc X.env.scope x:=by first | exact Or.inl rfl | exact Or.inr rfl)
  (hf:X.fn x = true ∨ X.env.scope.names.lookup x = some .local:=by first | exact .inl rfl | exact .inr rfl):CG X (.Name x pos) (ZbV i):=PG.imp (Zif hN hi hx hf) fun v σ H Q zz1=>by
 obtain ⟨ι,M,env,d,env',S,E,r,q,h⟩:=zz1
 cases q
 exact h _ (E.set i r)
theorem Zgm:CGs X [] []:=PGs.imp Zlv fun v σ H Q zz1=>by
 obtain ⟨ι,M,env,ds,env',S,E,r,q,h⟩:=zz1
 cases ds with
 | nil=>cases q; exact ⟨r.nil_inv,h σ E⟩
 | cons d ds=>cases q
theorem ZcT (i:Nat) {is:List Nat} {x:Str} (hN:X.N.Nodup) (ht:CGs X es is) (hi:X.N[i]? = some x:=by rfl) (hx:Loc X.env.scope x:=by first | exact Or.inl rfl | exact Or.inr rfl)
  (hf:X.fn x = true ∨ X.env.scope.names.lookup x = some .local:=by first | exact .inl rfl | exact .inr rfl) (hs:(assignEach (.Name x pos :: es) X.env).map (·.2) = assign (.Name x pos) X.env :: (assignEach es X.env).map (·.2):=by rfl):
  CGs X (.Name x pos :: es) (i :: is):=PGs.imp (Zjj (Zif hN hi hx hf) ht hs) fun v σ H Q zz1=>by
 obtain ⟨ι,M,env,ds,env',S,E,r,q,h⟩:=zz1
 cases ds with
 | nil=>cases q
 | cons d ds=>
  obtain ⟨v,ws,rfl,r1,r2⟩:=r.cons_inv
  exact ⟨v,ws,rfl,ι,M,env.set i (some d),ds,env',S,E.set i r1,r2,q,h⟩
theorem ZhO {is:List Nat} {k:Nat} (hc:X.calm = true) (h:CGs X es is) (hl:es.length = is.length:=by rfl) (hn:(assignEach es X.env).length = is.length:=by rfl) (hst:(assignEach es X.env).findIdx? (·.1) = none:=by rfl):CG X (.Tuple es k pos) (Zd1 is):=
 PG.imp (Zna (n:=is.length) hc h hn hst) fun v σ H Q zz1=>by
  obtain ⟨ι,M,env,d,env',S,E,r,q,h⟩:=zz1
  cases d with
  | tup ds=>
   obtain ⟨a,vs,rfl,s,r⟩:=r.tup_inv
   have hlen:∀ (is:List Nat) (ds:List D) (env env':Zai),bindAll is ds env = some env' → ds.length = is.length:=by
    intro is
    induction is with
    | nil=>intro ds env env' h; cases ds with | nil=>rfl | cons d ds=>cases h
    | cons i is ih=>intro ds env env' h; cases ds with | nil=>cases h | cons d ds=>simp [ih ds _ _ h]
   exact ⟨a,vs,rfl,s,by rw [r.length]; exact hlen _ _ _ _ q,ι,M,env,ds,env',S,E,r,q,h⟩
  | _=>cases q
end
noncomputable def ZhD (K:PySem.W.Frag) (H:Hp) (ι:List Addr) (it:It3) (J:It):Prop:=∀ (i:Nat) H2 ι2 M2,Ext K H ι H2 ι2 → Zy K H2 ι2 M2 → locked it M2 = true →
 (∀ d,it.items[i]? = some d → J.go i H2 ∧ ∀ x H3,J.yld i H2 x H3 → H3 = H2 ∧ Rep K H2 ι2 d x) ∧ (i = it.items.length → J.stop i H2)
noncomputable def ZiK (K:PySem.W.Frag) (H:Hp) (ι:List Addr) (R:It → Hp → Prop) (r:R3 It3):Prop:=match r with
 | .ok it M'=>∀ J H' ι',Ext K H ι H' ι' → Zy K H' ι' M' → ZhD K H' ι' it J → R J H'
 | _=>False
noncomputable def tIf (K:PySem.W.Frag) (g:I3):TI:=fun σ H R=>∃ ι M env,Zy K H ι M ∧ Zbj K H ι env σ ∧ ZiK K H ι R (g env M)
noncomputable def CI (X:Cx) (tg e:Expr) (g:I3):Prop:=PI X tg e (tIf X.K g)
theorem PI.imp {X:Cx} {tg e:Expr} {t t':TI} (h:PI X tg e t) (i:∀ σ H Q,t' σ H Q → t σ H Q):PI X tg e t':=fun pins s σ H Q I q=>h pins s σ H Q I (i σ H Q q)
theorem PI.or {X:Cx} {tg e:Expr} {t t':TI} (h:PI X tg e t) (h':PI X tg e t'):PI X tg e (fun σ H R=>t σ H R ∨ t' σ H R):=fun pins s σ H Q I q=>q.elim (h pins s σ H Q I) (h' pins s σ H Q I)
theorem ZiK.bind {K:PySem.W.Frag} {H:Hp} {ι:List Addr} {α:Type} {Q:It → Hp → Prop} {r:R3 α} {k:α → Store → R3 It3} (h:ZiK K H ι Q (r.bind k)):∃ a M,r = .ok a M ∧ ZiK K H ι Q (k a M):=by
 cases r with
 | ok a M=>exact ⟨a,M,rfl,h⟩
 | exc x M=>exact h.elim
 | bad=>exact h.elim
section
variable {K:PySem.W.Frag} {H:Hp} {ι:List Addr}
end
section
variable {X:Cx} {tg e a b:Expr} {pos p:Pos} {f g:E3}
theorem Zny (h:C3 X e f) (hs:PI X tg e (fun σ H R=>tOf X.K f σ H fun x H1=>∃ z:Str,x = .str z ∧ z.length ≤ SZ ∧ ∀ J,(∀ ι,ZhD X.K H1 ι ⟨z.cps.toList.map fun c=>.str [c],none⟩ J) → R J H1)):CI X tg e (ZbU f):=
 PI.imp (PI.or (Zmy h) (PI.or (ZkN h) hs)) fun σ H R zz1=>by
  obtain ⟨ι,M,env,S,E,h⟩:=zz1
  obtain ⟨d,M1,e1,h⟩:=ZiK.bind h
  cases d with
  | tup ds=>
   refine .inl ⟨ι,M,env,S,E,?_⟩
   rw [e1]
   intro v H1 ι1 x1 S1 r1
   obtain ⟨a,vs,rfl,s,r⟩:=r1.tup_inv
   refine ⟨a,rfl,⟨vs,s⟩,h _ H1 ι1 x1 S1 ?_⟩
   intro i H2 ι2 M2 x S2 _
   refine ⟨fun d hd=>?_,fun hl=>⟨vs,x.tup _ _ s,by rw [r.length,hl]; exact Nat.le_refl _⟩⟩
   obtain ⟨v,hv,rv⟩:=r.get hd
   refine ⟨⟨vs,v,x.tup _ _ s,hv⟩,fun y H3 hy=>⟨hy.1,?_⟩⟩
   have e:=hy.2 vs (x.tup _ _ s)
   rw [hv] at e
   cases e
   exact rv.mono x
  | scr ds=>
   refine .inr (.inl ⟨ι,M,env,S,E,?_⟩)
   rw [e1]
   intro v H1 ι1 x1 S1 r1
   obtain ⟨a,vs,rfl,s,r⟩:=r1.scr_inv
   refine ⟨a,rfl,⟨vs,s.sq⟩,h _ H1 ι1 x1 S1 ?_⟩
   intro i H2 ι2 M2 x S2 _
   refine ⟨fun d hd=>?_,fun hl=>⟨vs,(x.scr _ _ s).sq,by rw [r.length,hl]; exact Nat.le_refl _⟩⟩
   obtain ⟨v,hv,rv⟩:=r.get hd
   refine ⟨⟨vs,v,(x.scr _ _ s).sq,hv⟩,fun y H3 hy=>⟨hy.1,?_⟩⟩
   have e:=hy.2 vs (x.scr _ _ s).sq
   rw [hv] at e
   cases e
   exact rv.mono x
  | ref n=>
   refine .inr (.inl ⟨ι,M,env,S,E,?_⟩)
   rw [e1]
   intro v H1 ι1 x1 S1 r1
   cases hm:M1[n]? with
   | none=>simp only [hm] at h; exact h.elim
   | some o=>
    cases o with
    | dct kvs=>simp only [hm] at h; exact h.elim
    | fdct kvs=>simp only [hm] at h; exact h.elim
    | ins _ _=>simp only [hm] at h; exact h.elim
    | lst ds=>
     simp only [hm] at h
     obtain ⟨a,ha,rfl⟩:=r1.ref_inv
     obtain ⟨vs,q,r⟩:=S1.obj n _ a hm ha
     refine ⟨a,rfl,⟨vs,SqL.of q⟩,h _ H1 ι1 x1 S1 ?_⟩
     intro i H2 ι2 M2 x S2 lk
     have lk':M2[n]? = some (.lst ds):=of_decide_eq_true lk
     obtain ⟨vs2,q2,r2⟩:=S2.obj n _ a lk' (x.pre _ _ ha)
     refine ⟨fun d hd=>?_,fun hl=>⟨vs2,SqL.of q2,by rw [r2.length,hl]; exact Nat.le_refl _⟩⟩
     obtain ⟨v,hv,rv⟩:=r2.get hd
     refine ⟨⟨vs2,v,SqL.of q2,hv⟩,fun y H3 hy=>⟨hy.1,?_⟩⟩
     have e:=hy.2 vs2 (SqL.of q2)
     rw [hv] at e
     cases e
     exact rv
  | str z=>
   refine .inr (.inr ⟨ι,M,env,S,E,?_⟩)
   rw [e1]
   intro v H1 ι1 x1 S1 r1
   have hv:=r1.str_inv
   subst hv
   by_cases hz:z.length ≤ SZ
   ·simp only [if_pos hz] at h
    refine ⟨_,rfl,by simpa [Str.length] using hz,fun J hJ=>h J H1 ι1 x1 S1 ?_⟩
    simpa using hJ ι1
   ·simp only [if_neg hz] at h; exact h.elim
  | non=>exact h.elim
  | bl b=>exact h.elim
  | int i=>exact h.elim
theorem Zkt {K:PySem.W.Frag} {H:Hp} {ι:List Addr} (lo:Int) (n:Nat):ZhD K H ι ⟨Zdx lo n,none⟩ (Itr lo n):=by
 intro i H2 ι2 M2 x S _
 refine ⟨fun d hd=>?_,fun hl=>?_⟩
 ·unfold Zdx at hd
  rw [List.getElem?_map] at hd
  cases q:(List.range n)[i]? with
  | none=>rw [q] at hd; cases hd
  | some k=>
   rw [q] at hd
   obtain ⟨hi,e⟩:=List.getElem?_eq_some_iff.mp q
   rw [List.getElem_range] at e
   subst e
   have hd':D.int (lo + (i:Int)) = d:=by simpa using hd
   subst hd'
   exact ⟨(by show i < n; simpa using hi),fun y H3 hy=>⟨hy.1,by rw [hy.2]; exact Rep.int⟩⟩
 ·show n ≤ i
  rw [hl]
  simp [Zdx]
theorem Zet (hm:X.mg "range" = none) (h:C3 X a f) (hg:Gl X "range":=by rfl) (hs:starEach [a] X.env = [(false,eval a X.env)]:=by rfl) (hs':starEach (a :: []) X.env = (false,eval a X.env) :: starEach [] X.env:=by rfl):CI X tg (.Call (.Name "range" p) [a] [] pos) (Zco f):=
 PI.imp (Zi1 hg hm (Zc h Zg hs') hs) fun σ H R zz1=>by
  obtain ⟨ι,M,env,S,E,h⟩:=zz1
  obtain ⟨d,M1,e1,h⟩:=ZiK.bind h
  refine ⟨ι,M,env,S,E,?_⟩
  have e2:Za f Ze env M = .ok [d] M1:=by unfold Za; rw [e1]; rfl
  rw [e2]
  intro vs H1 ι1 x1 S1 r1
  obtain ⟨v,ws,rfl,r,q⟩:=r1.cons_inv
  have:=q.nil_inv
  subst this
  cases d with
  | int j=>
   have hv:=r.int_inv
   subst hv
   by_cases hj:j ≤ 1000000 ∧ -1000000 ≤ j
   ·simp only [if_pos hj] at h
    exact ⟨j,rfl,by omega,by omega,h _ H1 ι1 x1 S1 (Zkt 0 j.toNat)⟩
   ·simp only [if_neg hj] at h; exact h.elim
  | _=>exact h.elim
theorem Zfe {iter:Expr} {body:List Stmt} {i:I3} {g:G3} {u:S3} (hxe:X.xe = fun _ _=>False) (hc:X.calm = true) (hi:CI X tg iter i) (hg:CG X tg g) (hb:CSs X body u) (hs:∀ x,foldedSetIterable iter X.env x = pure x:=by intro _; rfl):
  CS X (.For tg iter body [] pos) (Zdh i g u):=(Zkp (by rw [hxe]; exact PassesOwn.never) hc hi hg hb hs).imp fun D σ H zz1=>by
 obtain ⟨ι,M,env,S,E,h⟩:=zz1
 unfold Zdh at h
 cases q:i env M with
 | exc x M1=>rw [q] at h; exact h.elim
 | bad=>rw [q] at h; exact h.elim
 | ok it M1=>
  rw [q] at h
  refine ⟨ι,M,env,S,E,?_⟩
  rw [q]
  intro J H1 ι1 x1 S1 ok
  refine ⟨fun i m σ2 H2=>m = it.items.length - i ∧ i ≤ it.items.length ∧ ∃ ι2 M2 env2,Ext X.K H1 ι1 H2 ι2 ∧ Zy X.K H2 ι2 M2 ∧ Zbj X.K H2 ι2 env2 σ2 ∧ ZeM X.K H2 ι2 D (Zc6 it g u (it.items.drop i) env2 M2),
   ⟨_,rfl,Nat.zero_le _,ι1,M1,env,Ext.refl,S1,E.mono x1,ZeM.up x1 h⟩,?_⟩
  rintro i m σ2 H2 ⟨rfl,hi,ι2,M2,env2,x2,S2,E2,h2⟩
  by_cases hlt:i < it.items.length
  ·have hd:it.items[i]? = some it.items[i]:=by simp [hlt]
   rw [List.drop_eq_getElem_cons hlt] at h2
   unfold Zc6 at h2
   by_cases lk:locked it M2 = true
   ·rw [if_pos lk] at h2
    obtain ⟨go,yl⟩:=(ok i H2 ι2 M2 x2 S2 lk).1 _ hd
    cases eg:g it.items[i] env2 with
    | none=>rw [eg] at h2; exact h2.elim
    | some env3=>
     rw [eg] at h2
     refine .inr ⟨go,fun σ' H'=>∃ ι3 M3 env4,Ext X.K H2 ι2 H' ι3 ∧ Zy X.K H' ι3 M3 ∧ Zbj X.K H' ι3 env4 σ' ∧ ZeM X.K H' ι3 D (Zc6 it g u (it.items.drop (i + 1)) env4 M3),
      fun σ' H' ⟨ι3,M3,env4,x3,S3,E3,h3⟩=>⟨it.items.length - (i + 1),lD 2 0x30113c2012a1c0c21 T1 (Nat.sub_add_cancel (lB 1 6991908881 T1 hlt)) (sbA _ _),rfl,hlt,ι3,M3,env4,x2.trans x3,S3,E3,h3⟩,fun x H' hy=>?_⟩
     obtain ⟨rfl,rx⟩:=yl x H' hy
     refine ⟨ι2,M2,env2,_,env3,S2,E2,rx,eg,fun σ' E'=>⟨ι2,M2,env3,S2,E',?_⟩⟩
     cases qu:u env3 M2 with
     | nx e' M'=>simp only [qu] at h2; exact fun σ' H' ι' x' S' E'=>⟨ι',M',e',x',S',E',h2.up x'⟩
     | ct e' M'=>simp only [qu] at h2; exact fun σ' H' ι' x' S' E'=>⟨ι',M',e',x',S',E',h2.up x'⟩
     | bk e' M'=>simp only [qu] at h2; exact h2
     | rt d M'=>simp only [qu] at h2; exact h2
     | exc x' M'=>simp only [qu] at h2; exact h2.elim
     | bad=>simp only [qu] at h2; exact h2.elim
   ·rw [if_neg lk] at h2; exact h2.elim
  ·have e0:i = it.items.length:=Nat.le_antisymm hi (Nat.le_of_not_lt hlt)
   subst e0
   rw [List.drop_length] at h2
   unfold Zc6 at h2
   by_cases lk:locked it M2 = true
   ·rw [if_pos lk] at h2
    exact .inl ⟨(ok _ H2 ι2 M2 x2 S2 lk).2 rfl,h2 σ2 H2 ι2 Ext.refl S2 E2⟩
   ·rw [if_neg lk] at h2; exact h2.elim
end
end L3
namespace L3
open PySem PySem.Spec PyProof.Rows L2
theorem Rep.non_iff {K:PySem.W.Frag} {H:Hp} {ι:List Addr} {d:D} {v:V} (r:Rep K H ι d v):decide (v = V.non) = decide (d = D.non):=by
 cases d with
 | non=>rw [r.non_inv]; rfl
 | bl b=>rw [r.bl_inv]; simp
 | int i=>rw [r.int_inv]; simp
 | str x=>rw [r.str_inv]; simp
 | tup ds=>obtain ⟨a,vs,rfl,_⟩:=r.tup_inv; simp
 | scr ds=>obtain ⟨a,vs,rfl,_⟩:=r.scr_inv; simp
 | ref n=>obtain ⟨a,_,rfl⟩:=r.ref_inv; simp
theorem ZdT {x y:List Nat}:decide (V.str ⟨x.toArray⟩ = V.str ⟨y.toArray⟩) = (x == y):=by
 by_cases h:x = y
 ·subst h; simp
 ·rw [decide_eq_false (fun e=>h (by injection e with e1; injection e1 with e2; simpa using congrArg Array.toList e2))]
  exact (beq_eq_false_iff_ne.mpr h).symm
section
variable {X:Cx}
theorem Zj6:OpR X (binaryOp .Add) (fun x y H Q=>∃ a b ys,x = .ref a ∧ y = .ref b ∧ SqT X.K H a [] ∧ SqT X.K H b ys ∧ Q (.ref b) H):=by
 intro pins s σ H x y v u Q I rx ry h
 obtain ⟨a,b,ys,rfl,rfl,ha,hb,q⟩:=h
 cases rx
 cases ry
 obtain ⟨its,r1,p1,_⟩:=I.tuple ha
 obtain ⟨its2,r2,p2,_⟩:=I.tuple hb
 cases r1
 obtain ⟨⟨cls,dd,data,sl⟩,ho,hc,n,hd⟩:=id p1
 obtain ⟨⟨cls2,dd2,data2,sl2⟩,ho2,hc2,n2,hd2⟩:=id p2
 simp only at hc hd hc2 hd2
 subst hc hd hc2 hd2
 exact concat_meets ⟨_,ho,rfl⟩ ⟨_,ho2,rfl⟩ noFill_tuple_add seq_tuple_add PySem.F.slot_tuple_add PySem.F.entry_tuple_add (PySem.F.args_tuple_add_2 _ _)
   (tuple_addW0 a b _ its2.toArray n n2 dd dd2 sl sl2 (by simp)) ⟨ho,ho2,⟨.ref b,H,I,rfl,q⟩⟩
theorem Zlx (x y:List Nat):(⟨x.toArray⟩:Str) ++ ⟨y.toArray⟩ = ⟨(x ++ y).toArray⟩:=by
 show Str.append _ _ = _
 unfold Str.append
 simp
theorem Zbt:OpR X (binaryOp .Add) (r2 X.K Zn):=OpR.imp (OpR.or Znh (OpR.or ZhV (OpR.or ZmQ (OpR.or ZlM Zj6)))) fun x y H Q zz1=>by
 obtain ⟨ι,M,a,b,S,ra,rb,h⟩:=zz1
 cases a with
 | int i=>cases b with
  | int j=>exact .inl ⟨i,j,ra.int_inv,rb.int_inv,Zw.ok h S Rep.int⟩
  | _=>exact h.elim
 | str x=>cases b with
  | str y=>
   simp only [Zn] at h
   split at h
   ·rename_i hz
    refine .inr (.inl ⟨_,_,ra.str_inv,rb.str_inv,?_,?_⟩)
    ·have:=Za7
     simp only [Str.length,List.size_toArray]
     exact Nat.le_trans hz this
    ·rw [Zlx]; exact Zw.ok h S Rep.str
   ·exact h.elim
  | _=>exact h.elim
 | tup x=>cases b with
  | tup y=>
   simp only [Zn] at h
   split at h
   ·rename_i hz
    obtain ⟨p,vs,rfl,s,r⟩:=ra.tup_inv
    obtain ⟨q,ws,rfl,s',r'⟩:=rb.tup_inv
    by_cases hv:vs = []
    ·subst hv
     have hx:x = []:=by have:=r.length; simpa using this.symm
     subst hx
     exact .inr (.inr (.inr (.inr ⟨p,q,ws,rfl,rfl,s,s',Zw.ok h S (Rep.tup s' r')⟩)))
    ·refine .inr (.inr (.inr (.inl ⟨p,q,vs,ws,rfl,rfl,s,s',hv,?_,fun hw=>?_,fun hw p' hp=>?_⟩)))
     ·have:=Za7
      rw [r.length,r'.length]
      exact Nat.le_trans hz this
     ·subst hw
      have hy:y = []:=by have:=r'.length; simpa using this.symm
      subst hy
      rw [List.append_nil] at h
      exact Zw.ok h S (Rep.tup s r)
     ·obtain ⟨x2,S2,r2⟩:=S.tupl hp (r.append r')
      exact h _ _ _ x2 S2 r2
   ·exact h.elim
  | _=>exact h.elim
 | ref n=>cases b with
  | ref m=>
   simp only [Zn] at h
   cases hn:M[n]? with
   | none=>simp only [hn] at h; exact h.elim
   | some o=>
    cases o with
    | dct _=>simp only [hn] at h; exact h.elim
    | fdct _=>simp only [hn] at h; exact h.elim
    | ins _ _=>simp only [hn] at h; exact h.elim
    | lst x=>
     cases hm:M[m]? with
     | none=>simp only [hn,hm] at h; exact h.elim
     | some o=>
      cases o with
      | dct _=>simp only [hn,hm] at h; exact h.elim
      | fdct _=>simp only [hn,hm] at h; exact h.elim
      | ins _ _=>simp only [hn,hm] at h; exact h.elim
      | lst y=>
       simp only [hn,hm] at h
       split at h
       ·rename_i hz
        obtain ⟨p,hp,rfl⟩:=ra.ref_inv
        obtain ⟨q,hq,rfl⟩:=rb.ref_inv
        obtain ⟨vs,e1,r1⟩:=S.obj n _ p hn hp
        obtain ⟨ws,e2,r2⟩:=S.obj m _ q hm hq
        refine .inr (.inr (.inl ⟨p,q,vs,ws,rfl,rfl,e1,e2,?_,fun p' hp'=>?_⟩))
        ·have:=Za7
         rw [r1.length,r2.length]
         exact Nat.le_trans hz this
        ·obtain ⟨x2,S2,r3⟩:=S.lst hp' (r1.append r2)
         exact h _ _ _ x2 S2 r3
       ·exact h.elim
  | _=>exact h.elim
 | _=>cases b <;> exact h.elim
theorem ZoP:OpR X (binaryOp .Sub) (r2 X.K Zj8):=OpR.imp ZmW fun x y H Q zz1=>by
 obtain ⟨ι,M,a,b,S,ra,rb,h⟩:=zz1
 cases a <;> cases b <;> first | exact h.elim | exact ⟨_,_,ra.int_inv,rb.int_inv,Zw.ok h S Rep.int⟩
theorem Zbh:OpR X (binaryOp .Mod) (r2 X.K Zaa):=OpR.imp Zmh fun x y H Q zz1=>by
 obtain ⟨ι,M,a,b,S,ra,rb,h⟩:=zz1
 cases a with
 | int i=>cases b with
  | int j=>
   simp only [Zaa] at h
   split at h
   ·rename_i hj
    exact ⟨i,j,ra.int_inv,rb.int_inv,hj,Zw.ok h S Rep.int⟩
   ·exact h.elim
  | _=>exact h.elim
 | _=>cases b <;> exact h.elim
theorem ZbD:OpR X (binaryOp .FloorDiv) (r2 X.K Zag):=OpR.imp ZlD fun x y H Q zz1=>by
 obtain ⟨ι,M,a,b,S,ra,rb,h⟩:=zz1
 cases a with
 | int i=>cases b with
  | int j=>
   simp only [Zag] at h
   split at h
   ·rename_i hj
    exact ⟨i,j,ra.int_inv,rb.int_inv,hj,Zw.ok h S Rep.int⟩
   ·exact h.elim
  | _=>exact h.elim
 | _=>cases b <;> exact h.elim
theorem Zl4:OpR X (binaryOp .Pow) (r2 X.K ZfL):=OpR.imp ZmH fun x y H Q zz1=>by
 obtain ⟨ι,M,a,b,S,ra,rb,h⟩:=zz1
 cases a with
 | int i=>cases b with
  | int j=>
   simp only [ZfL] at h
   split at h
   ·rename_i hj
    exact ⟨i,j,ra.int_inv,rb.int_inv,⟨hj.1,iN [] [_] 1 0xf42405b083e83b081 T1 hj.2.1,by have:=hj.2.2; omega⟩,Zw.ok h S Rep.int⟩
   ·exact h.elim
  | _=>exact h.elim
 | _=>cases b <;> exact h.elim
theorem Zfh:UnR X (unaryOp .USub) (r1 X.K ZaR):=UnR.imp Znj fun x H Q zz1=>by
 obtain ⟨ι,M,a,S,ra,h⟩:=zz1
 cases a with
 | int i=>exact ⟨i,ra.int_inv,Zw.ok h S Rep.int⟩
 | _=>exact h.elim
theorem Zoi:OpR X (compareOp .Lt) (r2 X.K Zhx):=OpR.imp Zoo fun x y H Q zz1=>by
 obtain ⟨ι,M,a,b,S,ra,rb,h⟩:=zz1
 cases a <;> cases b <;> first | exact h.elim | exact ⟨_,_,ra.int_inv,rb.int_inv,Zw.ok h S Rep.bl⟩
theorem Zn0:OpR X (compareOp .Gt) (r2 X.K Zfu):=OpR.imp Zoh fun x y H Q zz1=>by
 obtain ⟨ι,M,a,b,S,ra,rb,h⟩:=zz1
 cases a <;> cases b <;> first | exact h.elim | exact ⟨_,_,ra.int_inv,rb.int_inv,Zw.ok h S Rep.bl⟩
theorem ZpE:OpR X (compareOp .GtE) (r2 X.K Zlr):=OpR.imp Zox fun x y H Q zz1=>by
 obtain ⟨ι,M,a,b,S,ra,rb,h⟩:=zz1
 cases a <;> cases b <;> first | exact h.elim | exact ⟨_,_,ra.int_inv,rb.int_inv,Zw.ok h S Rep.bl⟩
theorem ZoN:OpR X (compareOp .Is) (r2 X.K ZgU):=OpR.imp Znu fun x y H Q zz1=>by
 obtain ⟨ι,M,a,b,S,ra,rb,h⟩:=zz1
 cases b with
 | non=>exact ⟨rb.non_inv,by rw [ra.non_iff]; exact Zw.ok h S Rep.bl⟩
 | _=>exact h.elim
end
theorem units_in1 (A:Around):A.in1.units = A.units + 1:=rfl
section
variable {X:Cx} {pins:List (Addr × Obj)} {σ:St} {H:Hp} {s:Shared} {ι:List Addr}
theorem ZbP {e:Nat → Bool}:∀ {x y:List D},x.length = y.length → (∀ (j:Nat) a b,x[j]? = some a → y[j]? = some b → e j = deq a b) → (List.range x.length).all e = ZbX x y:=by
 intro x
 induction x generalizing e with
 | nil=>intro y h _; cases y with | nil=>rfl | cons _ _=>simp at h
 | cons a x ih=>
  intro y h he
  cases y with
  | nil=>simp at h
  | cons b y=>
   rw [List.length_cons,List.range_succ_eq_map,List.all_cons,List.all_map,he 0 a b rfl rfl]
   rw [ZbX]
   congr 1
   exact ih (e:=e ∘ Nat.succ) (by simpa using h) fun j a' b' h1 h2=>he (j + 1) a' b' (by simpa using h1) (by simpa using h2)
theorem ZcP:∀ {x y:List D},ZbX x y = true → x.length = y.length
 | [],[],_=>rfl
 | [],_ :: _,h=>by simp [ZbX] at h
 | _ :: _,[],h=>by simp [ZbX] at h
 | a :: x,b :: y,h=>by
  simp only [ZbX,Bool.and_eq_true] at h
  simp [ZcP h.2]
theorem Rep.fun1 (I:Inv X pins σ H s):∀ (n:Nat) (a b:D) (v:V),Zak n a = true → Zak n b = true → Rep X.K H ι a v → Rep X.K H ι b v → deq a b = true:=by
 intro n
 induction n with
 | zero=>
  intro a b v ha hb r q
  cases a with
  | non=>have:=r.non_inv; subst this; cases b <;> simp_all [Zak,Rep,deq]
  | bl x=>have:=r.bl_inv; subst this; cases b <;> simp_all [Zak,Rep,deq]
  | int x=>have:=r.int_inv; subst this; cases b <;> simp_all [Zak,Rep,deq]
  | str x=>have:=r.str_inv; subst this; cases b <;> simp_all [Zak,Rep,deq]
  | _=>simp [Zak] at ha
 | succ n ih=>
  intro a b v ha hb r q
  cases a with
  | non=>have:=r.non_inv; subst this; cases b <;> simp_all [Zak,Rep,deq]
  | bl x=>have:=r.bl_inv; subst this; cases b <;> simp_all [Zak,Rep,deq]
  | int x=>have:=r.int_inv; subst this; cases b <;> simp_all [Zak,Rep,deq]
  | str x=>have:=r.str_inv; subst this; cases b <;> simp_all [Zak,Rep,deq]
  | tup ds=>
   obtain ⟨p,vs,rfl,s1,r1⟩:=r.tup_inv
   cases b with
   | tup es=>
    obtain ⟨p',ws,e,s2,r2⟩:=q.tup_inv
    cases e
    have e:=I.tuple_inj s1 s2
    subst e
    rw [deq]
    have h1:ds.all (Zak n) = true:=ha
    have h2:es.all (Zak n) = true:=hb
    have key:∀ (ds es:List D) (vs:List V),ds.all (Zak n) = true → es.all (Zak n) = true → Zj X.K H ι ds vs → Zj X.K H ι es vs → ZbX ds es = true:=by
     intro ds
     induction ds with
     | nil=>intro es vs _ _ r1 r2; have:=r1.nil_inv; subst this; cases es with | nil=>rfl | cons _ _=>obtain ⟨_,_,e,_⟩:=r2.cons_inv; cases e
     | cons d ds ih2=>
      intro es vs h1 h2 r1 r2
      obtain ⟨v,ws,rfl,q1,q2⟩:=r1.cons_inv
      cases es with
      | nil=>have:=r2.nil_inv; cases this
      | cons e es=>
       obtain ⟨v',ws',z,q3,q4⟩:=r2.cons_inv
       cases z
       rw [List.all_cons,Bool.and_eq_true] at h1 h2
       rw [ZbX,ih d e v h1.1 h2.1 q1 q3,ih2 es ws h1.2 h2.2 q2 q4]
       rfl
    exact key ds es vs h1 h2 r1 r2
   | non=>have:=q.non_inv; cases this
   | bl _=>have:=q.bl_inv; cases this
   | int _=>have:=q.int_inv; cases this
   | str _=>have:=q.str_inv; cases this
   | _=>simp [Zak] at hb
  | _=>simp [Zak] at ha
theorem ZcW (A:Around) (a b:D) (x y:V) (u v:Value) (ha:Zax a = true) (hb:Zax b = true) (ra:Rep X.K H ι a x) (rb:Rep X.K H ι b y) (ru:RelV x u) (rv:RelV y v):SeqAt.EqAt A s u v (deq a b):=by
 cases a with
 | non=>have:=ra.non_inv; subst this; cases ru; cases b with
  | non=>have:=rb.non_inv; subst this; cases rv; exact SeqAt.EqAt.same _
  | bl k=>have:=rb.bl_inv; subst this; cases rv; exact SeqAt.EqAt.none_bool _
  | int k=>have:=rb.int_inv; subst this; obtain ⟨t,rfl⟩:=rv; exact SeqAt.EqAt.none_int _ _
  | str k=>have:=rb.str_inv; subst this; obtain ⟨t,rfl⟩:=rv; exact SeqAt.EqAt.none_str _ _
  | _=>simp [Zax] at hb
 | bl i=>have:=ra.bl_inv; subst this; cases ru; cases b with
  | non=>have:=rb.non_inv; subst this; cases rv; exact SeqAt.EqAt.bool_none _
  | bl k=>have:=rb.bl_inv; subst this; cases rv; exact SeqAt.EqAt.bool_bool _ _
  | int k=>have:=rb.int_inv; subst this; obtain ⟨t,rfl⟩:=rv; exact SeqAt.EqAt.bool_int _ _ _
  | str k=>have:=rb.str_inv; subst this; obtain ⟨t,rfl⟩:=rv; exact SeqAt.EqAt.bool_str _ _ _
  | _=>simp [Zax] at hb
 | int i=>have:=ra.int_inv; subst this; obtain ⟨t0,rfl⟩:=ru; cases b with
  | non=>have:=rb.non_inv; subst this; cases rv; exact SeqAt.EqAt.int_none _ _
  | bl k=>have:=rb.bl_inv; subst this; cases rv; exact SeqAt.EqAt.int_bool _ _ _
  | int k=>have:=rb.int_inv; subst this; obtain ⟨t,rfl⟩:=rv; exact SeqAt.EqAt.int_int _ _ _ _
  | str k=>have:=rb.str_inv; subst this; obtain ⟨t,rfl⟩:=rv; exact SeqAt.EqAt.int_str _ _ _ _
  | _=>simp [Zax] at hb
 | str i=>have:=ra.str_inv; subst this; obtain ⟨t0,rfl⟩:=ru; cases b with
  | non=>have:=rb.non_inv; subst this; cases rv; exact SeqAt.EqAt.str_none _ _
  | bl k=>have:=rb.bl_inv; subst this; cases rv; exact SeqAt.EqAt.str_bool _ _ _
  | int k=>have:=rb.int_inv; subst this; obtain ⟨t,rfl⟩:=rv; exact SeqAt.EqAt.str_int _ _ _ _
  | str k=>have:=rb.str_inv; subst this; obtain ⟨t,rfl⟩:=rv; exact (by
    have e:deq (.str i) (.str k) = ((⟨i.toArray⟩:Str) == ⟨k.toArray⟩):=by
     rw [deq,← ZdT]
     by_cases h:(⟨i.toArray⟩:Str) = ⟨k.toArray⟩
     ·simp [h]
     ·simp [h]
    rw [e]
    exact SeqAt.EqAt.str_str _ _ _ _)
  | _=>simp [Zax] at hb
 | _=>simp [Zax] at ha
theorem Zf1 (I:Inv X pins σ H s):∀ (n:Nat) (A:Around) (a b:D) (x y:V) (u v:Value),A.units + n + 1 < cLine → Zak n a = true → Zak n b = true → Rep X.K H ι a x → Rep X.K H ι b y → RelV x u → RelV y v → SeqAt.EqAt A s u v (deq a b):=by
 intro n
 induction n with
 | zero=>
  intro A a b x y u v hu ha hb ra rb ru rv
  have f:∀ d:D,Zak 0 d = true → Zax d = true:=fun d h=>by cases d <;> simp_all [Zak,Zax]
  exact ZcW A a b x y u v (f a ha) (f b hb) ra rb ru rv
 | succ n ih=>
  intro A a b x y u v hu ha hb ra rb ru rv
  have hu0:A.units + 0 + 1 < cLine:=lC 1 0x2ae0cc12aa1c0cc11 T1 hu
  have hu1:A.units < cLine:=lB 1 1104257534993 T1 hu0
  cases a with
  | tup ds=>
   obtain ⟨p,vs,rfl,s1,r1⟩:=ra.tup_inv
   cases ru
   obtain ⟨its,rvs,ht,_⟩:=I.tuple s1
   have it1:s.heap.IsTuple p its.toArray:=ht
   cases b with
   | tup es=>
    obtain ⟨p',ws,rfl,s2,r2⟩:=rb.tup_inv
    cases rv
    obtain ⟨its2,rws,ht2,_⟩:=I.tuple s2
    have it2:s.heap.IsTuple p' its2.toArray:=ht2
    by_cases hp:p = p'
    ·subst hp
     rw [Rep.fun1 I (n + 1) _ _ _ ha hb ra rb]
     exact SeqAt.EqAt.same _
    ·refine SeqAt.EqAt.of_refs hp ?_
     have e1:its.length = ds.length:=by rw [← rvs.length,r1.length]
     have e2:its2.length = es.length:=by rw [← rws.length,r2.length]
     have key:((List.range (min its.toArray.size its2.toArray.size)).all (fun j=>match ds[j]?,es[j]? with | some a,some b=>deq a b | _,_=>false) && its.toArray.size == its2.toArray.size) = deq (.tup ds) (.tup es):=by
      rw [deq,List.size_toArray,List.size_toArray,e1,e2]
      by_cases hl:ds.length = es.length
      ·rw [hl,Nat.min_self,beq_self_eq_true,Bool.and_true,← hl]
       exact ZbP hl fun j a b h1 h2=>by rw [h1,h2]
      ·have z:ZbX ds es = false:=by
        cases q:ZbX ds es with
        | false=>rfl
        | true=>exact absurd (ZcP q) hl
       rw [z,beq_eq_false_iff_ne.mpr hl,Bool.and_false]
     rw [← key]
     refine SeqAt.RcAt.tuples it1 it2 hu1 fun j h1 h2=>?_
     have h1':j < ds.length:=by rw [← e1]; simpa using h1
     have h2':j < es.length:=by rw [← e2]; simpa using h2
     have q1:ds[j]? = some ds[j]:=by simp [h1']
     have q2:es[j]? = some es[j]:=by simp [h2']
     rw [q1,q2]
     obtain ⟨v1,g1,z1⟩:=r1.get q1
     obtain ⟨v2,g2,z2⟩:=r2.get q2
     obtain ⟨u1,k1,l1⟩:=rvs.get g1
     obtain ⟨u2,k2,l2⟩:=rws.get g2
     have m1:its.toArray[j] = u1:=by
      have:=List.getElem?_eq_some_iff.mp k1
      simpa using this.2
     have m2:its2.toArray[j] = u2:=by
      have:=List.getElem?_eq_some_iff.mp k2
      simpa using this.2
     rw [m1,m2]
     exact ih A.in1 ds[j] es[j] v1 v2 u1 u2 (by rw [units_in1]; exact lC 1 0x2a1a0ccc12aa1c0cc11 T1 hu) (List.all_eq_true.mp (show ds.all (Zak n) = true from ha) _ (List.getElem_mem h1')) (List.all_eq_true.mp (show es.all (Zak n) = true from hb) _ (List.getElem_mem h2')) z1 z2 l1 l2
   | non=>have:=rb.non_inv; subst this; cases rv; exact SeqAt.EqAt.tuple_none it1 hu1
   | bl k=>have:=rb.bl_inv; subst this; cases rv; exact SeqAt.EqAt.tuple_bool _ it1 hu1
   | int k=>have:=rb.int_inv; subst this; obtain ⟨t,rfl⟩:=rv; exact SeqAt.EqAt.tuple_int _ _ it1 hu1
   | str k=>have:=rb.str_inv; subst this; obtain ⟨t,rfl⟩:=rv; exact SeqAt.EqAt.tuple_str _ _ it1 hu1
   | _=>simp [Zak] at hb
  | non=>cases b with
   | tup es=>
    have:=ra.non_inv; subst this; cases ru
    obtain ⟨p',ws,rfl,s2,r2⟩:=rb.tup_inv
    cases rv
    obtain ⟨its2,rws,ht2,_⟩:=I.tuple s2
    exact SeqAt.EqAt.none_tuple (show s.heap.IsTuple p' its2.toArray from ht2) hu1
   | scr _=>simp [Zak] at hb
   | ref _=>simp [Zak] at hb
   | _=>exact ZcW A _ _ x y u v (by rfl) (by rfl) ra rb ru rv
  | bl i=>cases b with
   | tup es=>
    have:=ra.bl_inv; subst this; cases ru
    obtain ⟨p',ws,rfl,s2,r2⟩:=rb.tup_inv
    cases rv
    obtain ⟨its2,rws,ht2,_⟩:=I.tuple s2
    exact SeqAt.EqAt.bool_tuple _ (show s.heap.IsTuple p' its2.toArray from ht2) hu1
   | scr _=>simp [Zak] at hb
   | ref _=>simp [Zak] at hb
   | _=>exact ZcW A _ _ x y u v (by rfl) (by rfl) ra rb ru rv
  | int i=>cases b with
   | tup es=>
    have:=ra.int_inv; subst this; obtain ⟨t0,rfl⟩:=ru
    obtain ⟨p',ws,rfl,s2,r2⟩:=rb.tup_inv
    cases rv
    obtain ⟨its2,rws,ht2,_⟩:=I.tuple s2
    exact SeqAt.EqAt.int_tuple _ _ (show s.heap.IsTuple p' its2.toArray from ht2) hu1
   | scr _=>simp [Zak] at hb
   | ref _=>simp [Zak] at hb
   | _=>exact ZcW A _ _ x y u v (by rfl) (by rfl) ra rb ru rv
  | str i=>cases b with
   | tup es=>
    have:=ra.str_inv; subst this; obtain ⟨t0,rfl⟩:=ru
    obtain ⟨p',ws,rfl,s2,r2⟩:=rb.tup_inv
    cases rv
    obtain ⟨its2,rws,ht2,_⟩:=I.tuple s2
    exact SeqAt.EqAt.str_tuple _ _ (show s.heap.IsTuple p' its2.toArray from ht2) hu1
   | scr _=>simp [Zak] at hb
   | ref _=>simp [Zak] at hb
   | _=>exact ZcW A _ _ x y u v (by rfl) (by rfl) ra rb ru rv
  | _=>simp [Zak] at ha
end
end L3
namespace L3
open PySem PySem.Spec PyProof.Rows L2
section
variable {X:Cx}
theorem ZnB {pins:List (Addr × Obj)} {σ:St} {H:Hp} {s:Shared} {ι:List Addr} {M:Store} {a b:D} {x y:V} {u v:Value} {k:Bool} (hu:X.A.units + 80 < cLine) (I:Inv X pins σ H s) (S:Zy X.K H ι M)
  (ra:Rep X.K H ι a x) (rb:Rep X.K H ι b y) (ru:RelV x u) (rv:RelV y v) (h:eqD a b M = some k):SeqAt.RcAt X.A s u v k:=by
 cases a with
 | ref n=>
  cases b with
  | ref m=>
   simp only [eqD] at h
   cases hn:M[n]? with
   | none=>simp [hn] at h
   | some o=>
    cases o with
    | dct _=>simp [hn] at h
    | fdct _=>simp [hn] at h
    | ins _ _=>simp [hn] at h
    | lst ds=>
     cases hm:M[m]? with
     | none=>simp [hn,hm] at h
     | some o=>
      cases o with
      | dct _=>simp [hn,hm] at h
      | fdct _=>simp [hn,hm] at h
      | ins _ _=>simp [hn,hm] at h
      | lst es=>
       simp only [hn,hm] at h
       split at h
       ·rename_i hp
        cases h
        rw [Bool.and_eq_true] at hp
        obtain ⟨p,hp1,rfl⟩:=ra.ref_inv
        obtain ⟨q,hq1,rfl⟩:=rb.ref_inv
        cases ru
        cases rv
        obtain ⟨vs,e1,r1⟩:=S.obj n _ p hn hp1
        obtain ⟨ws,e2,r2⟩:=S.obj m _ q hm hq1
        obtain ⟨its,rvs,pl1,_⟩:=I.list (SqL.of e1)
        obtain ⟨its2,rws,pl2,_⟩:=I.list (SqL.of e2)
        have it1:=pl1.isList
        have it2:=pl2.isList
        have l1:its.length = ds.length:=by rw [← rvs.length,r1.length]
        have l2:its2.length = es.length:=by rw [← rws.length,r2.length]
        have hu1:X.A.units < cLine:=lB 1 17666545486865 T1 hu
        by_cases hl:ds.length = es.length
        ·have key:(List.range its.toArray.size).all (fun j=>match ds[j]?,es[j]? with | some a,some b=>deq a b | _,_=>false) = ZbX ds es:=by
          rw [List.size_toArray,l1]
          exact ZbP hl fun j a b h1 h2=>by rw [h1,h2]
         rw [← key]
         refine SeqAt.RcAt.lists it1 it2 (by rw [List.size_toArray,List.size_toArray,l1,l2,hl]) hu1 fun j h1 h2=>?_
         have h1':j < ds.length:=by rw [← l1]; simpa using h1
         have h2':j < es.length:=by rw [← l2]; simpa using h2
         have q1:ds[j]? = some ds[j]:=by simp [h1']
         have q2:es[j]? = some es[j]:=by simp [h2']
         rw [q1,q2]
         obtain ⟨v1,g1,z1⟩:=r1.get q1
         obtain ⟨v2,g2,z2⟩:=r2.get q2
         obtain ⟨u1,k1,w1⟩:=rvs.get g1
         obtain ⟨u2,k2,w2⟩:=rws.get g2
         have m1:its.toArray[j] = u1:=by
          have:=List.getElem?_eq_some_iff.mp k1
          simpa using this.2
         have m2:its2.toArray[j] = u2:=by
          have:=List.getElem?_eq_some_iff.mp k2
          simpa using this.2
         rw [m1,m2]
         exact Zf1 I DEEP X.A.in1 ds[j] es[j] v1 v2 u1 u2 (by rw [units_in1]; show X.A.units + 1 + 60 + 1 < cLine; exact lB 1 0x1a3c2ba0ccc11502b0c11 T1 hu) (List.all_eq_true.mp hp.1 _ (List.getElem_mem h1')) (List.all_eq_true.mp hp.2 _ (List.getElem_mem h2')) z1 z2 w1 w2
        ·have z:ZbX ds es = false:=by
          cases q:ZbX ds es with
          | false=>rfl
          | true=>exact absurd (ZcP q) hl
         rw [z]
         exact SeqAt.RcAt.lists_lengths it1 it2 (by rw [List.size_toArray,List.size_toArray,l1,l2]; simpa using hl) hu1
       ·cases h
  | _=>simp [eqD] at h
 | int i=>cases b with
  | int j=>
   simp only [eqD] at h
   cases h
   have:=ra.int_inv; subst this; have:=rb.int_inv; subst this
   obtain ⟨t,rfl⟩:=ru
   obtain ⟨t',rfl⟩:=rv
   rw [← Bool.beq_eq_decide_eq]
   exact SeqAt.RcAt.int_int _ _ _ _
  | _=>simp [eqD] at h
 | str i=>cases b with
  | str j=>
   simp only [eqD] at h
   cases h
   have:=ra.str_inv; subst this; have:=rb.str_inv; subst this
   obtain ⟨t,rfl⟩:=ru
   obtain ⟨t',rfl⟩:=rv
   have e:decide (i = j) = ((⟨i.toArray⟩:Str) == ⟨j.toArray⟩):=by
    rw [← Bool.beq_eq_decide_eq,← ZdT]
    by_cases h:(⟨i.toArray⟩:Str) = ⟨j.toArray⟩
    ·simp [h]
    ·simp [h]
   rw [e]
   exact SeqAt.RcAt.str_str _ _ _ _
  | _=>simp [eqD] at h
 | bl i=>cases b with
  | bl j=>
   simp only [eqD] at h
   cases h
   have:=ra.bl_inv; subst this; have:=rb.bl_inv; subst this
   cases ru
   cases rv
   rw [← Bool.beq_eq_decide_eq]
   exact SeqAt.RcAt.bool_bool _ _
  | _=>simp [eqD] at h
 | tup ds=>cases b with
  | tup es=>
   simp only [eqD] at h
   split at h
   ·rename_i hp
    cases h
    rw [Bool.and_eq_true] at hp
    obtain ⟨p,vs,rfl,s1,r1⟩:=ra.tup_inv
    obtain ⟨p',ws,rfl,s2,r2⟩:=rb.tup_inv
    cases ru
    cases rv
    obtain ⟨its,rvs,ht,_⟩:=I.tuple s1
    obtain ⟨its2,rws,ht2,_⟩:=I.tuple s2
    have e1:its.length = ds.length:=by rw [← rvs.length,r1.length]
    have e2:its2.length = es.length:=by rw [← rws.length,r2.length]
    have hu1:X.A.units < cLine:=lB 1 17666545486865 T1 hu
    have key:((List.range (min its.toArray.size its2.toArray.size)).all (fun j=>match ds[j]?,es[j]? with | some a,some b=>deq a b | _,_=>false) && its.toArray.size == its2.toArray.size) = ZbX ds es:=by
     rw [List.size_toArray,List.size_toArray,e1,e2]
     by_cases hl:ds.length = es.length
     ·rw [hl,Nat.min_self,beq_self_eq_true,Bool.and_true,← hl]
      exact ZbP hl fun j a b h1 h2=>by rw [h1,h2]
     ·have z:ZbX ds es = false:=by
       cases q:ZbX ds es with
       | false=>rfl
       | true=>exact absurd (ZcP q) hl
      rw [z,beq_eq_false_iff_ne.mpr hl,Bool.and_false]
    rw [← key]
    refine SeqAt.RcAt.tuples (show s.heap.IsTuple p its.toArray from ht) (show s.heap.IsTuple p' its2.toArray from ht2) hu1 fun j h1 h2=>?_
    have h1':j < ds.length:=by rw [← e1]; simpa using h1
    have h2':j < es.length:=by rw [← e2]; simpa using h2
    have q1:ds[j]? = some ds[j]:=by simp [h1']
    have q2:es[j]? = some es[j]:=by simp [h2']
    rw [q1,q2]
    obtain ⟨v1,g1,z1⟩:=r1.get q1
    obtain ⟨v2,g2,z2⟩:=r2.get q2
    obtain ⟨u1,k1,w1⟩:=rvs.get g1
    obtain ⟨u2,k2,w2⟩:=rws.get g2
    have m1:its.toArray[j] = u1:=by
     have:=List.getElem?_eq_some_iff.mp k1
     simpa using this.2
    have m2:its2.toArray[j] = u2:=by
     have:=List.getElem?_eq_some_iff.mp k2
     simpa using this.2
    rw [m1,m2]
    exact Zf1 I DEEP X.A.in1 ds[j] es[j] v1 v2 u1 u2 (by rw [units_in1]; show X.A.units + 1 + 60 + 1 < cLine; exact lB 1 0x1a3c2ba0ccc11502b0c11 T1 hu) (List.all_eq_true.mp hp.1 _ (List.getElem_mem h1')) (List.all_eq_true.mp hp.2 _ (List.getElem_mem h2')) z1 z2 w1 w2
   ·cases h
  | _=>simp [eqD] at h
 | _=>cases b <;> simp [eqD] at h
theorem Zer (hu:X.A.units + 80 < cLine):OpR X (compareOp .Eq) (r2 X.K Zbv):=by
 intro pins s σ H x y v u Q I rx ry h
 obtain ⟨ι,M,a,b,S,ra,rb,h⟩:=h
 unfold Zbv at h
 cases q:eqD a b M with
 | none=>rw [q] at h; exact h.elim
 | some k=>
  rw [q] at h
  exact ZnB hu I S ra rb rx ry q X.prog X.w X.xe _ ⟨.bl k,H,I,rfl,Zw.ok h S Rep.bl⟩
theorem Zhn {K:PySem.W.Frag} {H:Hp} {ι:List Addr} {ds:List D} {vs:List V} {i:Int} {d:D} (r:Zj K H ι ds vs) (h:Za0 ds i = some d):∃ v,atI vs i = some v ∧ Rep K H ι d v:=by
 unfold Za0 at h
 unfold atI
 have e:ixN vs.length i = ixD ds.length i:=by rw [r.length]; rfl
 rw [e]
 cases q:ixD ds.length i with
 | none=>rw [q] at h; cases h
 | some j=>
  rw [q] at h
  exact r.get h
theorem ZbG:IxR X (r2 X.K Zq):=IxR.imp Znp fun x y H Q zz1=>by
 obtain ⟨ι,M,a,b,S,ra,rb,h⟩:=zz1
 cases a with
 | tup ds=>cases b with
  | int i=>
   simp only [Zq] at h
   cases q:Za0 ds i with
   | none=>simp only [q] at h; exact h.elim
   | some d=>
    simp only [q] at h
    obtain ⟨p,vs,rfl,s1,r1⟩:=ra.tup_inv
    obtain ⟨v,e,rv⟩:=Zhn r1 q
    exact .inr (.inl ⟨p,vs,i,v,rfl,rb.int_inv,s1,e,Zw.ok h S rv⟩)
  | _=>exact h.elim
 | scr ds=>cases b with
  | int i=>
   simp only [Zq] at h
   cases q:Za0 ds i with
   | none=>simp only [q] at h; exact h.elim
   | some d=>
    simp only [q] at h
    obtain ⟨p,vs,rfl,s1,r1⟩:=ra.scr_inv
    obtain ⟨v,e,rv⟩:=Zhn r1 q
    exact .inl ⟨p,vs,i,v,rfl,rb.int_inv,s1.sq,e,Zw.ok h S rv⟩
  | _=>exact h.elim
 | str z=>cases b with
  | int i=>
   simp only [Zq] at h
   cases q:Za0 z i with
   | none=>simp only [q] at h; exact h.elim
   | some c=>
    simp only [q] at h
    split at h
    ·rename_i hz
     refine .inr (.inr ⟨_,i,c,ra.str_inv,rb.int_inv,?_,?_,Zw.ok h S Rep.str⟩)
     ·have:=Za7
      simp only [Str.length,List.size_toArray]
      exact Nat.le_trans hz this
     ·simpa [atI,ixN,Za0,ixD] using q
    ·exact h.elim
  | _=>exact h.elim
 | ref n=>cases b with
  | int i=>
   cases hn:M[n]? with
   | none=>simp only [Zq,hn] at h; exact h.elim
   | some o=>
    cases o with
    | dct _=>simp only [Zq,hn] at h; exact h.elim
    | fdct _=>simp only [Zq,hn] at h; exact h.elim
    | ins _ _=>simp only [Zq,hn] at h; exact h.elim
    | lst ds=>
     simp only [Zq,hn] at h
     cases q:Za0 ds i with
     | none=>simp only [q] at h; exact h.elim
     | some d=>
      simp only [q] at h
      obtain ⟨p,hp,rfl⟩:=ra.ref_inv
      obtain ⟨vs,e1,r1⟩:=S.obj n _ p hn hp
      obtain ⟨v,e,rv⟩:=Zhn r1 q
      exact .inl ⟨p,vs,i,v,rfl,rb.int_inv,SqL.of e1,e,Zw.ok h S rv⟩
  | _=>exact h.elim
 | _=>cases b <;> exact h.elim
theorem ZhP {K:PySem.W.Frag} {H:Hp} {ι:List Addr} {ds:List D} {vs:List V} (r:Zj K H ι ds vs) (lo hi:Option Int):Zj K H ι (cutD ds lo hi) (Zg9 vs lo hi):=by
 have e:∀ n d o,HT.sIx n d o = sIx n d o:=fun n d o=>by cases o <;> rfl
 unfold cutD Zg9
 rw [e,e,r.length]
 exact (r.drop _).take _
end
end L3
namespace L3
open PySem PySem.Spec PyProof.Rows L2
noncomputable def Zbc (cells:List (Str × Addr)):List (Str × NameKind) → List (Str × Addr) → List (Str × Addr)
 | [],cs=>cs
 | (n,k) :: r,cs=>Zbc cells r (if k == .free then (n,(cells.lookup n).getD 0) :: cs else cs)
theorem ZdE {scope:Scope} {env:Env} (h:∀ y ∈ scope.names,y.2 = .free → ∃ c,env.cells.lookup y.1 = some c):closureFor scope env = pure (Zbc env.cells scope.names []):=by
 unfold closureFor
 have key:∀ (names:List (Str × NameKind)) (cs:List (Str × Addr)),(∀ y ∈ names,y.2 = .free → ∃ c,env.cells.lookup y.1 = some c) →
   (forIn names cs fun x r=>match x with | (name,kind)=>if (kind == NameKind.free) = true then do let c ← cellOf env name; pure (ForInStep.yield ((name,c) :: r)) else pure (ForInStep.yield r):Sem (List (Str × Addr))) = pure (Zbc env.cells names cs):=by
  intro names
  induction names with
  | nil=>intro cs _; rfl
  | cons y r ih=>
   intro cs hy
   obtain ⟨n,k⟩:=y
   rw [List.forIn_cons]
   by_cases hk:k = .free
   ·subst hk
    obtain ⟨c,hc⟩:=hy (n,.free) List.mem_cons_self rfl
    have e1:cellOf env n = pure c:=by unfold cellOf; rw [hc]
    simp only [beq_self_eq_true,if_true,e1,pure_bind]
    rw [ih _ fun z hz=>hy z (List.mem_cons_of_mem _ hz)]
    simp [Zbc,hc]
   ·have hb:(k == NameKind.free) = false:=by simpa using hk
    simp only [hb,Bool.false_eq_true,if_false,pure_bind]
    rw [ih _ fun z hz=>hy z (List.mem_cons_of_mem _ hz)]
    simp [Zbc,hb]
 have:=key scope.names [] h
 first
  | exact this
  | (simp only [bind_pure]; exact this)
theorem Zjc {cells:List (Str × Addr)} {x:Str} {c:Addr}:∀ (names:List (Str × NameKind)) (cs:List (Str × Addr)),(∀ y ∈ names,y.2 = .free → ∃ c,cells.lookup y.1 = some c) → (Zbc cells names cs).lookup x = some c → cs.lookup x = some c ∨ cells.lookup x = some c:=by
 intro names
 induction names with
 | nil=>intro cs _ h; exact .inl h
 | cons y r ih=>
  intro cs hy h
  obtain ⟨n,k⟩:=y
  rw [Zbc] at h
  rcases ih _ (fun z hz=>hy z (List.mem_cons_of_mem _ hz)) h with q | q
  ·by_cases hk:k = .free
   ·subst hk
    obtain ⟨c0,hc⟩:=hy (n,.free) List.mem_cons_self rfl
    simp only [beq_self_eq_true,if_true,hc,Option.getD_some,List.lookup_cons] at q
    cases hx:x == n with
    | true=>
     simp only [hx] at q
     cases q
     have:x = n:=by simpa using hx
     subst this
     exact .inr hc
    | false=>simp only [hx] at q; exact .inl q
   ·have hb:(k == NameKind.free) = false:=by simpa using hk
    simp only [hb,Bool.false_eq_true,if_false] at q
    exact .inl q
  ·exact .inr q
theorem ZhL {cells:List (Str × Addr)} {x:Str}:∀ (names:List (Str × NameKind)) (cs:List (Str × Addr)),(cs.lookup x).isSome = true → ((Zbc cells names cs).lookup x).isSome = true:=by
 intro names
 induction names with
 | nil=>intro cs h; exact h
 | cons y r ih=>
  intro cs h
  obtain ⟨n,k⟩:=y
  rw [Zbc]
  refine ih _ ?_
  split
  ·rw [List.lookup_cons]
   split
   ·rfl
   ·exact h
  ·exact h
theorem ZfI {cells:List (Str × Addr)} {x:Str}:∀ (names:List (Str × NameKind)) (cs:List (Str × Addr)),(x,NameKind.free) ∈ names → ((Zbc cells names cs).lookup x).isSome = true:=by
 intro names
 induction names with
 | nil=>intro cs h; cases h
 | cons y r ih=>
  intro cs h
  obtain ⟨n,k⟩:=y
  rw [Zbc]
  rcases List.mem_cons.mp h with e | h
  ·cases e
   refine ZhL _ _ ?_
   simp
  ·exact ih _ h
noncomputable def Zbw (X:Cx) (scope:Scope) (N':List Str) (C:Addr) (cl:List (Str × Addr)) (s:Shared) (H:Hp) (ex:List Addr):Cx:=
 { X with N:=N',s₀:=s,H₀:=H,env:=compEnvC scope cl C X.env,outer:=X.stack,stack:=X.stack,ex:=ex,fn:=fun _=>false,pn:=[],xe:=fun _ _=>False }
noncomputable def Zjz (N N':List Str) (scope:Scope):Bool:=(List.range N.length).all fun i=>match N'[i]? with
 | some x=>(scope.names.lookup x).isNone || (decide (N[i]? = some x) && decide (scope.names.lookup x = some .free))
 | none=>false
noncomputable def CTs (X:Cx) (ifs:List Expr) (ts:List E3):Prop:=∀ (pins:List (Addr × Obj)) (s:Shared) (σ:St) (H:Hp) (Q:Bool → Hp → Prop),Inv X pins σ H s →
 (∃ ι M env,Zy X.K H ι M ∧ Zbj X.K H ι env σ ∧ match ZeO ts env M with | .ok b M'=>∀ H' ι',Ext X.K H ι H' ι' → Zy X.K H' ι' M' → Q b H' | _=>False) →
 wpAny (model X.prog X.w) X.A (forIn ifs true fun c r=>if r = true then do let ok ← isTrue c X.env (eval c X.env); pure (ForInStep.yield ok) else pure (ForInStep.yield r)) (TP X pins σ Q) X.xe s
theorem Zdt {X:Cx}:CTs X [] []:=fun pins s σ H Q I ⟨ι,M,env,S,E,h⟩=>wpAny_tests_nil ⟨H,I,h H ι Ext.refl S⟩
section
variable {prog:Program} {w:World} {A:Around} {R:Result → Shared → Prop} {s:Shared}
theorem Zgd {elt target iter:Expr} {ifs:List Expr} {scope:Scope} {pos:Pos} {it acc:Value} {env:Env} (I:Nat → Shared → Prop)
  (turn:∀ n s,I n s → wpAny (model prog w) A (pyNext it) (fun r s₁=>match r with
   | none=>R (.ok .next) s₁
   | some v=>wpAny (model prog w) A (letOwnedTupleGo target it v) (fun _ s₁'=>wpAny (model prog w) A (assign target env v) (fun _ s₂=>
     wpAny (model prog w) A (forIn ifs true fun c r=>if r = true then do let ok ← isTrue c env (eval c env); pure (ForInStep.yield ok) else pure (ForInStep.yield r)) (fun ok s₃=>
      if ok = true then wpAny (model prog w) A (eval elt env) (fun x s₄=>
       wpAny (model prog w) A (call (.builtin "list.append") [acc,x]) (fun _ s₅=>∃ m,m < n ∧ I m s₅) (fun _ _=>False) s₄) (fun _ _=>False) s₃
      else ∃ m,m < n ∧ I m s₃) (fun _ _=>False) s₂) (fun _ _=>False) s₁') (fun _ _=>False) s₁) (fun _ _=>False) s)
  (n:Nat) (h:I n s):codeAny (model prog w) A (.compLoop (.ListComp elt [⟨target,iter,ifs,0⟩] scope pos) 0 it acc env) R s:=by
 refine codeAny_loop rfl I (fun n s hI=>?_) n h
 show wpAny _ A ((compTurn (.ListComp elt [⟨target,iter,ifs,0⟩] scope pos) 0 it acc env).onRaise (fun x=>do noteFrame x env; theTreesLotGoes x)) _ _ s
 refine wpAny_noted ?_
 rw [compTurn_list]
 refine wpAny_bind (wpAny_standAt (wpAny_bind (wpAny_mono (turn n s hI) (fun r s₁ h₁=>?_) fun _ _ h'=>False.elim h')))
 cases r with
 | none=>exact wpAny_pure h₁
 | some v=>
  refine wpAny_bind (wpAny_mono h₁ (fun _ s₁' h₁'=>?_) fun _ _ h'=>False.elim h')
  refine wpAny_bind (wpAny_mono h₁' (fun _ s₂ h₂=>wpAny_bind (wpAny_mono h₂ (fun ok s₃ h₃=>?_) fun _ _ h'=>False.elim h')) fun _ _ h'=>False.elim h')
  cases ok with
  | false=>exact wpAny_pure ⟨rfl,h₃⟩
  | true=>
   exact wpAny_bind (wpAny_bind (wpAny_mono h₃ (fun x s₄ h₄=>wpAny_bind (wpAny_mono h₄ (fun _ s₅ h₅=>wpAny_pure (wpAny_pure ⟨rfl,h₅⟩)) fun _ _ h'=>False.elim h')) fun _ _ h'=>False.elim h'))
end
theorem Zcs {env:Env} {x:Str} {k:NameKind}:∀ {names:List (Str × NameKind)},(names.map fun (n,k)=>if (k == NameKind.free && env.scope.kind == .function && env.kindOf n == some .cell) then (n,NameKind.cell) else (n,k)).lookup x = some k →
  ∃ k0,names.lookup x = some k0 ∧ (k0 = k ∨ (k0 = .free ∧ k = .cell)):=by
 intro names
 induction names with
 | nil=>intro h; simp at h
 | cons y r ih=>
  intro h
  obtain ⟨n,k1⟩:=y
  rw [List.map_cons] at h
  cases hx:x == n with
  | true=>
   refine ⟨k1,by simp [List.lookup_cons,hx],?_⟩
   by_cases hc:(k1 == NameKind.free && env.scope.kind == .function && env.kindOf n == some .cell) = true
   ·simp only [if_pos hc,List.lookup_cons,hx] at h
    cases h
    simp only [Bool.and_eq_true,beq_iff_eq] at hc
    exact .inr ⟨hc.1.1,rfl⟩
   ·simp only [if_neg hc,List.lookup_cons,hx] at h
    cases h
    exact .inl rfl
  | false=>
   have h':(r.map fun (n,k)=>if (k == NameKind.free && env.scope.kind == .function && env.kindOf n == some .cell) then (n,NameKind.cell) else (n,k)).lookup x = some k:=by
    by_cases hc:(k1 == NameKind.free && env.scope.kind == .function && env.kindOf n == some .cell) = true
    ·simp only [if_pos hc,List.lookup_cons,hx] at h; exact h
    ·simp only [if_neg hc,List.lookup_cons,hx] at h; exact h
   obtain ⟨k0,e,q⟩:=ih h'
   exact ⟨k0,by simp [List.lookup_cons,hx,e],q⟩
theorem ZgA {env:Env} {x:Str}:∀ {names:List (Str × NameKind)},names.lookup x = some .free →
  (names.map fun (n,k)=>if (k == NameKind.free && env.scope.kind == .function && env.kindOf n == some .cell) then (n,NameKind.cell) else (n,k)).lookup x = some .free ∨
  (names.map fun (n,k)=>if (k == NameKind.free && env.scope.kind == .function && env.kindOf n == some .cell) then (n,NameKind.cell) else (n,k)).lookup x = some .cell:=by
 intro names
 induction names with
 | nil=>intro h; simp at h
 | cons y r ih=>
  intro h
  obtain ⟨n,k1⟩:=y
  rw [List.map_cons]
  cases hx:x == n with
  | true=>
   simp only [List.lookup_cons,hx] at h
   cases h
   by_cases hc:(NameKind.free == NameKind.free && env.scope.kind == .function && env.kindOf n == some .cell) = true
   ·simp only [if_pos hc,List.lookup_cons,hx]; exact .inr trivial
   ·simp only [if_neg hc,List.lookup_cons,hx]; exact .inl trivial
  | false=>
   simp only [List.lookup_cons,hx] at h
   by_cases hc:(k1 == NameKind.free && env.scope.kind == .function && env.kindOf n == some .cell) = true
   ·simp only [if_pos hc,List.lookup_cons,hx]; exact ih h
   ·simp only [if_neg hc,List.lookup_cons,hx]; exact ih h
section
variable {X:Cx} {pins:List (Addr × Obj)} {σ:St} {H:Hp} {s:Shared} {scope:Scope} {N':List Str} {own:Nat} {fp:List Addr}
theorem ZjU (I:Inv X pins σ H s) (hk:scope.kind = .function) (hcell:∀ y ∈ scope.names,y.2 ≠ .cell) (hfree:∀ y ∈ scope.names,y.2 = .free → X.env.kindOf y.1 = some .cell ∨ X.env.kindOf y.1 = some .free)
  (hN:N'.length = X.N.length + own) (hv:Zjz X.N N' scope = true) (hfp:∀ b ∈ fp,Zdw X pins H b) (hlt:∀ b ∈ fp,b < s.heap.objs.size) {h1:Heap} {tk:Nat}
  (hns:h1.Ns s.heap.objs.size fun _=>none) (keep:∀ b o,s.heap.get? b = some o → h1.get? b = some o):
  Inv (Zbw X scope N' s.heap.objs.size (Zbc X.env.cells scope.names []) s H fp) [] (σ ++ List.replicate own none) H { s with heap:=h1,toks:=tk }:=by
 have hc0:∀ y ∈ scope.names,y.2 = .free → ∃ c,X.env.cells.lookup y.1 = some c:=fun y hy e=>I.ok.has y.1 (hfree y hy e)
 have sub:∀ x c,(Zbc X.env.cells scope.names []).lookup x = some c → X.env.cells.lookup x = some c:=fun x c h=>by
  rcases Zjc scope.names [] hc0 h with q | q
  ·simp at q
  ·exact q
 have cellK:∀ {c:Addr} {v:Option Value},s.heap.IsCell c v → h1.IsCell c v:=fun ⟨o,ho,hd⟩=>⟨o,keep _ o ho,hd⟩
 refine ⟨⟨I.ok.mod,hk,I.ok.glob,I.ok.blt,Nat.le_refl _,fun x y c h1 h2=>I.ok.inj x y c (sub x c h1) (sub y c h2),fun x hx=>?_,fun x c h=>?_,I.ok.hd,I.ok.frames,.inl rfl,fun b hb=>⟨Nat.ne_of_lt (hlt b hb),fun x c h=>(hfp b hb).2.2.2.2.1 x c (sub x c h)⟩,
   I.bs,Nat.le_trans I.ok.bsz I.sz,fun b o e hb=>?_,fun b hb hz=>?_,I.stack,I.stkFree⟩,rfl,I.bare,Un.kept keep,⟨_,hns,fun i x v h1 h2 h3=>?_⟩,fun x c h=>?_,I.hok.fresh (Nat.le_refl _),fun x c h=>I.freeC x c (sub x c h),
  fun p hp=>absurd (show p ∈ ([]:List (Addr × Obj)) from hp) (by simp),I.hok.kept keep,?_⟩
 ·have hx':(relabel scope X.env).names.lookup x = some .cell ∨ (relabel scope X.env).names.lookup x = some .free:=hx
  have:scope.names.lookup x = some .free:=by
   rcases hx' with hx' | hx'
   ·obtain ⟨k0,e,q⟩:=Zcs (names:=scope.names) hx'
    rcases q with q | ⟨q,_⟩
    ·subst q; exact absurd rfl (hcell _ (PySem.mem_of_lookup e))
    ·rw [e,q]
   ·obtain ⟨k0,e,q⟩:=Zcs (names:=scope.names) hx'
    rcases q with q | ⟨_,q⟩
    ·rw [e,q]
    ·cases q
  exact Option.isSome_iff_exists.mp (ZfI scope.names [] (PySem.mem_of_lookup this))
 ·cases h
 ·obtain ⟨_,_,_,q,_⟩:=hfp b hb
  rcases q with q | q
  ·exact I.ok.noex b o e q
  ·exact absurd (Nat.lt_of_lt_of_le (Heap.lt_size e) (Nat.le_trans I.ok.bsz q)) (Nat.lt_irrefl _)
 ·have hz':b ∈ frs X.stack:=hz
  obtain ⟨_,q1,q2,_⟩:=hfp b hb
  rcases List.mem_cons.mp (I.stkSub b hz') with e | e
  ·exact q1 e
  ·exact q2 e
 ·have hi:i < σ.length:=by
   by_cases hi:i < σ.length
   ·exact hi
   ·rw [List.getElem?_append_right (Nat.le_of_not_lt hi),List.getElem?_replicate] at h2
    split at h2 <;> cases h2
  rw [List.getElem?_append_left hi] at h2
  have hiN:i < X.N.length:=by rw [← I.len]; exact hi
  have hN':N'[i]? = some x:=h1
  have vq:=List.all_eq_true.mp hv i (List.mem_range.mpr hiN)
  rw [hN'] at vq
  have h3':(relabel scope X.env).names.lookup x = some .local ∨ (relabel scope X.env).names.lookup x = some .cell ∨ (relabel scope X.env).names.lookup x = some .free:=h3
  have some_of:∃ k0,scope.names.lookup x = some k0:=by
   rcases h3' with q | q | q <;> (obtain ⟨k0,e,_⟩:=Zcs (names:=scope.names) q; exact ⟨k0,e⟩)
  obtain ⟨k0,ek⟩:=some_of
  simp only [ek,Option.isNone_some,Bool.false_or,Bool.and_eq_true,decide_eq_true_eq] at vq
  obtain ⟨vq1,vq2⟩:=vq
  cases vq2
  have hkind:=hfree (x,.free) (PySem.mem_of_lookup ek) rfl
  obtain ⟨m,hn,hl⟩:=I.loc
  have hVis:Vis X.env.scope x:=by
   rcases hkind with q | q
   ·exact .inr (.inl q)
   ·exact .inr (.inr q)
  obtain ⟨u,ru,lk⟩:=hl i x v vq1 h2 hVis
  refine ⟨u,ru,?_⟩
  rcases lk with ⟨kl,_⟩ | ⟨_,c,ec,ic⟩
  ·rcases hkind with q | q <;> (rw [q] at kl; cases kl)
  ·have hkk:(compEnvC scope (Zbc X.env.cells scope.names []) s.heap.objs.size X.env).kindOf x = some .cell ∨ (compEnvC scope (Zbc X.env.cells scope.names []) s.heap.objs.size X.env).kindOf x = some .free:=by
    rcases ZgA (env:=X.env) ek with q | q
    ·exact .inr q
    ·exact .inl q
   obtain ⟨c',ec'⟩:=Option.isSome_iff_exists.mp (ZfI (cells:=X.env.cells) scope.names [] (PySem.mem_of_lookup ek))
   have e2:=sub x c' ec'
   rw [ec] at e2
   cases e2
   exact .inr ⟨hkk,c,ec',cellK ic⟩
 ·obtain ⟨v,ic⟩:=I.cell x c (sub x c h)
  exact ⟨v,cellK ic⟩
 ·show (σ ++ List.replicate own none).length = N'.length
  rw [List.length_append,List.length_replicate,I.len,hN]
theorem Zbj.grow {K:PySem.W.Frag} {H:Hp} {ι:List Addr} {env:Zai} {σ:St} (E:Zbj K H ι env σ) (n:Nat):Zbj K H ι (env ++ List.replicate n none) (σ ++ List.replicate n none):=by
 refine ⟨by simp [E.1],fun i d h=>?_⟩
 by_cases hi:i < env.length
 ·rw [List.getElem?_append_left hi] at h
  obtain ⟨v,e,r⟩:=E.2 i d h
  exact ⟨v,by rw [List.getElem?_append_left (by rw [← E.1]; exact hi)]; exact e,r⟩
 ·rw [List.getElem?_append_right (Nat.le_of_not_lt hi),List.getElem?_replicate] at h
  split at h <;> cases h
end
section
variable {X:Cx} {elt tg iter:Expr} {ifs:List Expr} {scope:Scope} {pos:Pos} {i:I3} {own:Nat} {g:G3} {ts:List E3} {f:E3} {N':List Str}
structure ZgB (X:Cx) (scope:Scope) (N':List Str) (own:Nat):Prop where
 kind:scope.kind = .function
 cell:∀ y ∈ scope.names,y.2 ≠ .cell
 free:∀ y ∈ scope.names,y.2 = .free → X.env.kindOf y.1 = some .cell ∨ X.env.kindOf y.1 = some .free
 names:∀ y ∈ scope.names,y.2 = .local → scope.names.lookup y.1 = some .local
 len:N'.length = X.N.length + own
 vis:Zjz X.N N' scope = true
inductive CbI (Y:Cx) (K:PySem.W.Frag) (fp:List Addr) (tn:Nat → Heap → Prop) (itd:It3) (H2:Hp) (ι2:List Addr) (Q:VK) (g:G3) (ts:List E3) (f:E3) (nM:Nat) (acc:Addr) (n:Nat) (s':Shared):Prop
 | mk (k:Nat) (σ5:St) (H5:Hp) (ι5:List Addr) (M5:Store) (env5:Zai) (I5:Inv Y [] σ5 H5 s') (st5:tn k s'.heap) (fr5:∀ b ∈ fp,H5 b = none) (hn:n = itd.items.length - k) (hk:k ≤ itd.items.length)
   (x5:Ext K H2 ι2 H5 ι5) (S5:Zy K H5 ι5 M5) (E5:Zbj K H5 ι5 env5 σ5) (hι:ι5[nM]? = some acc) (h5:Zw K H5 ι5 Q (Zdd itd g ts f nM (itd.items.drop k) env5 M5))
theorem Zfc {pins:List (Addr × Obj)} {σ:St} {s2:Shared} {H2:Hp} {ι2:List Addr} {M2:Store} {env:Zai} {it:Addr} {fp:List Addr} {tn:Nat → Heap → Prop} {J:It} {itd:It3} {Q:VK} {E:Value → Shared → Prop} (O:ZgB X scope N' own) (hc:X.calm = true)
  (hb:∀ C cl s H ex,CG (Zbw X scope N' C cl s H ex) tg g ∧ CTs (Zbw X scope N' C cl s H ex) ifs ts ∧ C3 (Zbw X scope N' C cl s H ex) elt f)
  (I2:Inv X pins σ H2 s2) (T:Turn X.prog X.w X.K tg J fp it tn) (st0:tn 0 s2.heap) (hfp:∀ b ∈ fp,Zdw X pins H2 b) (S2:Zy X.K H2 ι2 M2) (E2:Zbj X.K H2 ι2 env σ) (ok:ZhD X.K H2 ι2 itd J)
  (h:Zw X.K H2 ι2 Q (Zdd itd g ts f M2.length itd.items (env ++ List.replicate own none) (M2 ++ [.lst []])))
  (RR:Value → Addr → Result → Shared → Prop)
  (fin:∀ (acc C:Addr) (s':Shared) (m:Str → Option Value) (H':Hp),s'.heap.Ns C m → Zdw X pins H' C → Inv X pins σ H' s' → Q (.ref acc) H' → RR (.ref acc) C (.ok .next) s'):
  wpAny (model X.prog X.w) X.A (newList []) (fun acc s₃=>wpAny (model X.prog X.w) X.A (newFunctionEnv scope X.env.globals (Zbc X.env.cells scope.names []) [] X.env.qual none .none (some X.env)) (fun cenv s₄=>
   codeAny (model X.prog X.w) X.A (.compStart (.ListComp elt [⟨tg,iter,ifs,0⟩] scope pos) 0 (.ref it) acc { cenv with scope:=relabel scope X.env }) (RR acc cenv.locals) s₄) E s₃) E s2:=by
 refine wpAny_newObj_type ?_
 have hD:H2 s2.heap.objs.size = none:=I2.hok.fresh (Nat.le_refl _)
 obtain ⟨x3,S3,r3⟩:=S2.lst hD (Zj.nil (K:=X.K) (H:=H2) (ι:=ι2))
 have I3:Inv X pins σ (upd H2 s2.heap.objs.size (.lst [])) { s2 with heap:=s2.heap.push { cls:=.type "list",data:=.seq ([]:List Value).toArray } }:=
  I2.laid (t':=s2.toks) (fun b u e=>Heap.get?_push_of_some _ e) (Nat.le_refl _) ⟨Nat.zero_le _,[],0,.nil,Heap.get?_push_size _ rfl⟩
 generalize hs3:({ s2 with heap:=s2.heap.push { cls:=.type "list",data:=.seq ([]:List Value).toArray } }:Shared) = s3 at I3 ⊢
 have keep23:∀ b o,s2.heap.get? b = some o → s3.heap.get? b = some o:=fun b o e=>by rw [← hs3]; exact Heap.get?_push_of_some _ e
 have hfp3:∀ b ∈ fp,Zdw X pins (upd H2 s2.heap.objs.size (.lst [])) b:=fun b hb=>by
  refine ⟨?_,(hfp b hb).2⟩
  obtain ⟨o,e,_⟩:=T.obj _ _ st0 b hb
  rw [ZaG (Nat.ne_of_lt (Heap.lt_size e))]
  exact (hfp b hb).1
 have hlt3:∀ b ∈ fp,b < s3.heap.objs.size:=fun b hb=>by
  obtain ⟨o,e,_⟩:=T.obj _ _ st0 b hb
  exact Heap.lt_size (keep23 b o e)
 have st3:tn 0 s3.heap:=T.keep _ _ _ st0 fun b hb o e=>keep23 b o e
 refine wpAny_newFunctionEnv O.cell (by intro y hy; cases hy) (fun h4 hns hsb=>?_) O.kind
 have keep34:∀ b o,s3.heap.get? b = some o → h4.get? b = some o:=fun b o e=>hsb.extBut b o (Nat.ne_of_lt (Heap.lt_size e)) (Heap.get?_push_of_some _ e)
 have I4:=ZjU (own:=own) (N':=N') (tk:=s3.toks + ([]:List (Str × Value)).length) I3 O.kind O.cell O.free O.len O.vis hfp3 hlt3 hns keep34
 have st4:tn 0 h4:=T.keep _ _ _ st3 fun b hb o e=>keep34 b o e
 have hfp4:∀ {H':Hp},(∀ b ∈ fp,H' b = none) → ∀ b ∈ fp,Zdw (Zbw X scope N' s3.heap.objs.size (Zbc X.env.cells scope.names []) s3 (upd H2 s2.heap.objs.size (.lst [])) fp) [] H' b:=fun hn b hb=>by
  have hc0:∀ y ∈ scope.names,y.2 = .free → ∃ c,X.env.cells.lookup y.1 = some c:=fun y hy e=>I2.ok.has y.1 (O.free y hy e)
  refine ⟨hn b hb,Nat.ne_of_lt (hlt3 b hb),fun hz=>I4.ok.exfs b hb hz,.inl hb,fun x c hx=>(I4.ok.exf b hb).2 x c hx,fun p hp=>absurd (show p ∈ ([]:List (Addr × Obj)) from hp) (by simp)⟩
 obtain ⟨hg,hts,helt⟩:=hb s3.heap.objs.size (Zbc X.env.cells scope.names []) s3 (upd H2 s2.heap.objs.size (.lst [])) fp
 have loop:∀ s₄:Shared,s₄ = { s3 with heap:=h4,toks:=s3.toks + ([]:List (Str × Value)).length } →
   codeAny (model X.prog X.w) X.A (.compLoop (.ListComp elt [⟨tg,iter,ifs,0⟩] scope pos) 0 (.ref it) (.ref s2.heap.objs.size) (compEnvC scope (Zbc X.env.cells scope.names []) s3.heap.objs.size X.env)) (RR (.ref s2.heap.objs.size) s3.heap.objs.size) s₄:=by
  rintro s₄ rfl
  refine Zgd (CbI (Zbw X scope N' s3.heap.objs.size (Zbc X.env.cells scope.names []) s3 (upd H2 s2.heap.objs.size (.lst [])) fp) X.K fp tn itd H2 ι2 Q g ts f M2.length s2.heap.objs.size) ?_ itd.items.length
   ⟨0,_,_,_,_,_,I4,st4,fun b hb=>(hfp3 b hb).1,rfl,Nat.zero_le _,x3,S3,(E2.mono x3).grow own,?_,h.up x3⟩
  ·rintro n s5 ⟨k,σ5,H5,ι5,M5,env5,I5,st5,fr5,rfl,hk,x5,S5,E5,hι,h5⟩
   by_cases hlt:k < itd.items.length
   ·have hd:itd.items[k]? = some itd.items[k]:=by simp [hlt]
    rw [List.drop_eq_getElem_cons hlt] at h5
    unfold Zdd at h5
    by_cases lk:locked itd M5 = true
    ·rw [if_pos lk] at h5
     obtain ⟨go,yl⟩:=(ok k H5 ι5 M5 x5 S5 lk).1 _ hd
     cases eg:g itd.items[k] env5 with
     | none=>rw [eg] at h5; exact h5.elim
     | some env6=>
      rw [eg] at h5
      refine thn (T.item (Zbw X scope N' s3.heap.objs.size (Zbc X.env.cells scope.names []) s3 (upd H2 s2.heap.objs.size (.lst [])) fp) rfl rfl rfl hc k [] s5 σ5 H5 (fun _ _=>False) I5 (hfp4 fr5) st5 go) fun r s6 zz1=>?_
      obtain ⟨u,hr,h6⟩:=zz1
      subst hr
      refine thn h6 fun _ s7 zz1=>?_
      obtain ⟨x,H7,I7,r7,y7,st7,fr7⟩:=zz1
      obtain ⟨rfl,rx⟩:=yl x H7 y7
      have I7':=I7.pinned (hfp4 fr7) (T.obj _ _ st7)
      refine thn (hg _ s7 σ5 H7 x u (fun σ' H'=>H' = H7 ∧ Zbj X.K H7 ι5 env6 σ') I7' r7 ⟨ι5,M5,env5,_,env6,S5,E5,rx,eg,fun σ' E'=>⟨rfl,E'⟩⟩) fun _ s8 zz1=>?_
      obtain ⟨σ8,H8,I8,e8,E8⟩:=zz1
      subst e8
      have back:∀ {σ':St} {H':Hp} {s':Shared},Inv (Zbw X scope N' s3.heap.objs.size (Zbc X.env.cells scope.names []) s3 (upd H2 s2.heap.objs.size (.lst [])) fp) ([] ++ ZeY fp s7.heap) σ' H' s' →
        Inv (Zbw X scope N' s3.heap.objs.size (Zbc X.env.cells scope.names []) s3 (upd H2 s2.heap.objs.size (.lst [])) fp) [] σ' H' s' ∧ tn (k + 1) s'.heap ∧ ∀ b ∈ fp,H' b = none:=fun {σ' H' s'} I'=>by
       refine ⟨I'.unpinned,T.keep _ _ _ st7 fun b hb o e=>(I'.pin (b,o) (List.mem_append_right _ (List.mem_append_right _ (Zc2 hb e)))).1,fun b hb=>?_⟩
       obtain ⟨o,e,d⟩:=T.obj _ _ st7 b hb
       exact (I'.pin (b,o) (List.mem_append_right _ (List.mem_append_right _ (Zc2 hb e)))).2.1
      obtain ⟨b,M9,e9,h9⟩:=Zw.bind h5
      refine thn (hts _ s8 σ8 H8 (fun b' H'=>b' = b ∧ ∃ ι9,Ext X.K H8 ι5 H' ι9 ∧ Zy X.K H' ι9 M9) I8 ⟨ι5,M5,env6,S5,E8,by rw [e9]; exact fun H' ι' x' S'=>⟨rfl,ι',x',S'⟩⟩) fun b' s9 zz1=>?_
      obtain ⟨H9,I9,eb,ι9,x9,S9⟩:=zz1
      subst eb
      cases b' with
      | false=>
       rw [if_neg (by decide)] at h9 ⊢
       obtain ⟨I9',st9,fr9⟩:=back I9
       exact ⟨itd.items.length - (k + 1),lD 2 0x30113c2012a1c0c21 T1 (Nat.sub_add_cancel (lB 1 6991908881 T1 hlt)) (sbA _ _),⟨k + 1,σ8,H9,ι9,M9,env6,I9',st9,fr9,rfl,hlt,x5.trans x9,S9,E8.mono x9,x9.pre _ _ hι,h9.up x9⟩⟩
      | true=>
       rw [if_pos rfl] at h9 ⊢
       obtain ⟨d,M10,e10,h10⟩:=Zw.bind h9
       refine thn (helt _ s9 σ8 H9 (fun v H'=>∃ ι10,Ext X.K H9 ι9 H' ι10 ∧ Zy X.K H' ι10 M10 ∧ Rep X.K H' ι10 d v) I9 ⟨ι9,M9,env6,S9,E8.mono x9,by rw [e10]; exact fun v H' ι' x' S' r'=>⟨ι',x',S',r'⟩⟩) fun xv s10 zz1=>?_
       obtain ⟨v,H10,I10,r10,ι10,x10,S10,rd⟩:=zz1
       have hι10:ι10[M2.length]? = some s2.heap.objs.size:=x10.pre _ _ (x9.pre _ _ hι)
       cases hm:M10[M2.length]? with
       | none=>rw [hm] at h10; exact h10.elim
       | some o=>
        cases o with
        | dct _=>rw [hm] at h10; exact h10.elim
        | fdct _=>rw [hm] at h10; exact h10.elim
        | ins _ _=>rw [hm] at h10; exact h10.elim
        | lst xs=>
         rw [hm] at h10
         by_cases hz:xs.length < SZ
         ·simp only [if_pos hz] at h10
          obtain ⟨vs,ev,rvs⟩:=S10.obj _ _ _ hm hι10
          obtain ⟨x11,S11⟩:=S10.setl (.inr (.inl ⟨_,ev⟩)) hι10 (rvs.append (Zj.cons rd Zj.nil))
          refine thn (ZfH _ s10 σ8 H10 (.ref s2.heap.objs.size) [v] (.ref s2.heap.objs.size) [xv] (fun _ H'=>H' = upd H10 s2.heap.objs.size (.lst (vs ++ [v]))) I10 rfl (.cons r10 .nil) ⟨_,vs,v,rfl,rfl,ev,by rw [rvs.length]; exact Nat.lt_of_lt_of_le hz Za7,rfl⟩) fun _ s11 zz1=>?_
          obtain ⟨_,H11,I11,_,eH⟩:=zz1
          subst eH
          obtain ⟨I11',st11,fr11⟩:=back I11
          exact ⟨itd.items.length - (k + 1),lD 2 0x30113c2012a1c0c21 T1 (Nat.sub_add_cancel (lB 1 6991908881 T1 hlt)) (sbA _ _),⟨k + 1,σ8,_,ι10,_,env6,I11',st11,fr11,rfl,hlt,((x5.trans x9).trans x10).trans x11,S11,((E8.mono x9).mono x10).mono x11,hι10,((h10.up x9).up x10).up x11⟩⟩
         ·simp only [if_neg hz] at h10; exact h10.elim
    ·rw [if_neg lk] at h5; exact h5.elim
   ·have e0:k = itd.items.length:=Nat.le_antisymm hk (Nat.le_of_not_lt hlt)
    subst e0
    rw [List.drop_length] at h5
    unfold Zdd at h5
    by_cases lk:locked itd M5 = true
    ·rw [if_pos lk] at h5
     refine thn (T.done (Zbw X scope N' s3.heap.objs.size (Zbc X.env.cells scope.names []) s3 (upd H2 s2.heap.objs.size (.lst [])) fp) rfl rfl rfl hc _ [] s5 σ5 H5 (fun _ _=>False) I5 (hfp4 fr5) st5 ((ok _ H5 ι5 M5 x5 S5 lk).2 rfl)) fun r s6 zz1=>?_
     obtain ⟨hr,I6⟩:=zz1
     subst hr
     obtain ⟨m6,hn6,_⟩:=I6.loc
     have I7:Inv X pins σ H5 s6:=I3.call' (ch:=fp) I6.os I6.base I6.hok I6.bare fun b hb=>⟨(hfp3 b hb).2.2.2.1,(hfp3 b hb).2.1,(hfp3 b hb).2.2.2.2.1,(hfp3 b hb).2.2.2.2.2⟩
     exact fin _ _ s6 m6 H5 hn6 (I3.fpOk (Nat.le_refl _) I6.free) I7 (h5 _ H5 ι5 Ext.refl S5 (Rep.ref hι))
    ·rw [if_neg lk] at h5; exact h5.elim
  ·rw [← S2.len]; simp
 exact codeAny_compStart_list (loop _ rfl) (T.self _ 0 _ _ _ st4 (loop _ rfl))
theorem ZkJ (O:ZgB X scope N' own) (hxe:X.xe = fun _ _=>False) (hc:X.calm = true) (hi:CI X tg iter i)
  (hb:∀ C cl s H ex,CG (Zbw X scope N' C cl s H ex) tg g ∧ CTs (Zbw X scope N' C cl s H ex) ifs ts ∧ C3 (Zbw X scope N' C cl s H ex) elt f)
  (hs:∀ x,foldedSetIterable iter X.env x = pure x:=by intro _; rfl):C3 X (.ListComp elt [⟨tg,iter,ifs,0⟩] scope pos) (eLC i own g ts f):=by
 intro pins s σ H Q I h
 obtain ⟨ι,M,env,S,E,h⟩:=h
 obtain ⟨itd,M1,e1,h⟩:=Zw.bind h
 have hc0:∀ y ∈ scope.names,y.2 = .free → ∃ c,X.env.cells.lookup y.1 = some c:=fun y hy e=>I.ok.has y.1 (O.free y hy e)
 rw [eval_ListComp]
 refine wpAny_comprehension_free (use:=none) rfl hs (ZdE hc0) O.kind O.names ?_
 refine thn (hi pins s σ H (fun J H'=>∃ ι',Ext X.K H ι H' ι' ∧ Zy X.K H' ι' M1 ∧ ZhD X.K H' ι' itd J) I ⟨ι,M,env,S,E,by rw [e1]; exact fun J H' ι' x S' o=>⟨ι',x,S',o⟩⟩) fun v s1 h1=>thn h1 fun itv s2 h2=>?_
 obtain ⟨it,fp,tn,J,H2,rfl,I2,T,st2,f2,ι2,x2,S2,ok⟩:=h2
 refine Zfc (own:=own) (g:=g) (ts:=ts) (f:=f) O hc hb I2 T st2 f2 S2 (E.mono x2) ok (h.up x2) (fun acc C=>compPost (model X.prog X.w) X.A X.xe none (EP X pins σ Q) acc C) ?_
 intro acc C s' m H' hn hf I' hq
 obtain ⟨f0,f1,f2',f3,f4,f5⟩:=hf
 exact ⟨m,hn,fun h' sb=>⟨.ref acc,H',I'.turned (t':=s'.toks) (fun b o hb e=>(sb.2 b hb).trans e) f0 f1 f3 f4 f5,rfl,hq⟩⟩
theorem Zjr (j:Nat) {x:Str} {pos' spos:Pos} (O:ZgB X scope N' own) (hxe:X.xe = fun _ _=>False) (hc:X.calm = true) (hN:X.N.Nodup) (hi:CI X tg iter i)
  (hb:∀ C cl s H ex,CG (Zbw X scope N' C cl s H ex) tg g ∧ CTs (Zbw X scope N' C cl s H ex) ifs ts ∧ C3 (Zbw X scope N' C cl s H ex) elt f)
  (hj:X.N[j]? = some x:=by rfl) (hx:Loc X.env.scope x:=by first | exact Or.inl rfl | exact Or.inr rfl)
  (hf:X.fn x = true ∨ X.env.scope.names.lookup x = some .local:=by first | exact .inl rfl | exact .inr rfl)
  (hsw:swapsWith (.ListComp elt [⟨tg,iter,ifs,0⟩] scope pos) (some (.Name x pos')) spos.line X.env = pure true:=by rfl)
  (hs:∀ x,foldedSetIterable iter X.env x = pure x:=by intro _; rfl):CS X (.Assign [.Name x pos'] (.ListComp elt [⟨tg,iter,ifs,0⟩] scope pos) spos) (Zac j (eLC i own g ts f)):=by
 intro pins s σ H D I h
 obtain ⟨ι,M,env,S,E,h⟩:=h
 have h0:Zw X.K H ι (fun v H'=>D.nx (σ.set j (some v)) H') (eLC i own g ts f env M):=by
  unfold Zac at h
  cases q:eLC i own g ts f env M with
  | ok d M1=>rw [q] at h; exact fun v H1 ι1 x1 S1 r1=>h _ H1 ι1 x1 S1 ((E.mono x1).set j r1)
  | exc _ _=>rw [q] at h; exact h.elim
  | bad=>rw [q] at h; exact h.elim
 obtain ⟨itd,M1,e1,h1⟩:=Zw.bind h0
 have hc0:∀ y ∈ scope.names,y.2 = .free → ∃ c,X.env.cells.lookup y.1 = some c:=fun y hy e=>I.ok.has y.1 (O.free y hy e)
 rw [exec_Assign_Name_used _ _ _ _ hsw]
 refine wpAny_bind (wpAny_standAt (wpAny_bind ?_))
 show wpAny _ X.A (do let _ ← comprehension (.ListComp elt [⟨tg,iter,ifs,0⟩] scope pos) scope X.env _ (newList []) false (eval iter X.env) (some (assign (.Name x pos') X.env))) _ _ s
 refine wpAny_bind (wpAny_mono (wpAny_comprehension_free (use:=some (assign (.Name x pos') X.env)) (Q:=fun _ s'=>SP X pins D .next s') rfl hs (ZdE hc0) O.kind O.names ?_) (fun _ s' hq=>wpAny_pure (wpAny_pure hq)) fun _ _ e=>e)
 refine thn (hi pins s σ H (fun J H'=>∃ ι',Ext X.K H ι H' ι' ∧ Zy X.K H' ι' M1 ∧ ZhD X.K H' ι' itd J) I ⟨ι,M,env,S,E,by rw [e1]; exact fun J H' ι' x S' o=>⟨ι',x,S',o⟩⟩) fun v s1 h1'=>thn h1' fun itv s2 h2=>?_
 obtain ⟨it,fp,tn,J,H2,rfl,I2,T,st2,f2,ι2,x2,S2,ok⟩:=h2
 refine Zfc (own:=own) (g:=g) (ts:=ts) (f:=f) O hc hb I2 T st2 f2 S2 (E.mono x2) ok (h1.up x2) (fun acc C=>compPost (model X.prog X.w) X.A X.xe (some (assign (.Name x pos') X.env)) (fun _ s'=>SP X pins D .next s') acc C) ?_
 intro acc C s' m H' hn hfC I' hq
 obtain ⟨f0,f1,f2',f3,f4,f5⟩:=hfC
 show wpAny _ X.A (assign (.Name x pos') X.env (.ref acc)) _ _ s'
 refine wpAny_assign_Name (ZfT I' hN hj hx (show RelV (.ref acc) (.ref acc) from rfl) (fun s'' I'' ⟨a,sb,ha⟩=>?_) hf)
 have hCa:C ≠ a:=by
  rcases ha with rfl | ha
  ·exact f1
  ·exact Ne.symm (f4 x a ha)
 exact ⟨m,hn.sameBut sb hCa,fun h' sb'=>⟨_,H',I''.turned (t':=s''.toks) (fun b o hb e=>(sb'.2 b hb).trans e) f0 f1 f3 f4 f5,hq⟩⟩
end
end L3
namespace L3
open PySem PySem.Spec PyProof.Rows L2
theorem ZdR {k:Nat} {A:Around} (r:Zcf k A):A.units + 80 < cLine:=by have:=r.un; exact lC 1 0x2502b0c12c82b110d0cc11 T1 this
noncomputable def Its (x:Str):It:=⟨fun i _=>i < x.cps.size,fun i H y H'=>H' = H ∧ ∃ c,x.cps[i]? = some c ∧ y = .str ⟨#[c]⟩,fun i _=>i = x.cps.size⟩
theorem ZjH {P:Program} {w:World} {K:PySem.W.Frag} {tg:Expr} {it:Addr} {x:Str} {t:Tok} {ty:String} (W:∀ A':Around,A'.handled = none → Walks P w A' it [it] [it] x.cps.size (SignAt x) (fun i h=>h.IsStrIter it ty x t i))
  (hs:∀ (A:Around) (i:Nat) (s:Shared) (Q:Value → Shared → Prop) (E:Value → Shared → Prop),s.heap.IsStrIter it ty x t i → Q (.ref it) s → wpAny (model P w) A (pyIter (.ref it)) Q E s)
  (hty:["enumerate","zip","dict_itemiterator","dict_reverseitemiterator","odict_iterator","itertools.zip_longest","itertools.pairwise"].contains ty = false):Turn P w K tg (Its x) [it] it (fun i h=>h.IsStrIter it ty x t i) where
 mem:=by simp
 obj:=fun i h st b hb=>by
  have e:b = it:=by simpa using hb
  subst e
  obtain ⟨o,e,c,d⟩:=st
  exact ⟨o,e,fun v z=>by rw [d] at z; cases z⟩
 keep:=fun i h h' st k=>let ⟨o,e,r⟩:=st; ⟨o,k it (by simp) o e,r⟩
 item:=by
  intro X hP hw hK hc i pins s σ H E I hf st hg
  subst hP hw hK
  obtain ⟨f0,f1,f2,f3,f4,f5⟩:=hf it (by simp)
  refine (W X.A (I.ok.hd hc)).item i s _ _ hg st fun v h' tk hv st' kk=>?_
  obtain ⟨c,u,hx,rfl⟩:=hv
  have I1:Inv X pins σ H { s with heap:=h',toks:=tk }:=I.turned (fun b o hb e=>kk b o (by simpa using hb) e) f0 f1 f3 f4 f5
  obtain ⟨o,e,cc,d⟩:=id st'
  exact ⟨_,rfl,Ziq (s:={ s with heap:=h',toks:=tk }) e cc d hty ⟨.str ⟨#[c]⟩,H,I1,⟨u,rfl⟩,⟨rfl,c,hx,rfl⟩,st',fun b hb=>(hf b hb).1⟩⟩
 done:=by
  intro X hP hw hK hc i pins s σ H E I hf st hg
  subst hP hw hK
  obtain ⟨f0,f1,f2,f3,f4,f5⟩:=hf it (by simp)
  have e:i = x.cps.size:=hg
  subst e
  exact (W X.A (I.ok.hd hc)).done s _ _ st fun h' tk kk=>⟨rfl,I.turned (fun b o hb e=>kk b o (by simpa using hb) e) f0 f1 f3 f4 f5⟩
 self:=hs
section
variable {X:Cx} {tg e o:Expr} {es:List Expr} {pos p apos cpos:Pos} {f:E3} {gl:EL3}
theorem Zm0 (h:C3 X e f):PI X tg e (fun σ H R=>tOf X.K f σ H fun x H1=>∃ z:Str,x = .str z ∧ z.length ≤ SZ ∧ ∀ J,(∀ ι,ZhD X.K H1 ι ⟨z.cps.toList.map fun c=>.str [c],none⟩ J) → R J H1):=by
 intro pins s σ H R I hw
 refine thn (h pins s σ H _ I hw) fun v s1 zz1=>?_
 obtain ⟨x,H1,I1,r1,z,ex,hz,q⟩:=zz1
 subst ex
 obtain ⟨t,rfl⟩:=r1
 have key:∀ (ty:String) (o:Obj),(∀ A':Around,A'.handled = none → Walks X.prog X.w A' s1.heap.objs.size [s1.heap.objs.size] [s1.heap.objs.size] z.cps.size (SignAt z) (fun i h=>h.IsStrIter s1.heap.objs.size ty z t i)) →
   (∀ (A:Around) (i:Nat) (s:Shared) (Q:Value → Shared → Prop) (E:Value → Shared → Prop),s.heap.IsStrIter s1.heap.objs.size ty z t i → Q (.ref s1.heap.objs.size) s → wpAny (model X.prog X.w) A (pyIter (.ref s1.heap.objs.size)) Q E s) →
   ["enumerate","zip","dict_itemiterator","dict_reverseitemiterator","odict_iterator","itertools.zip_longest","itertools.pairwise"].contains ty = false → (s1.heap.push o).IsStrIter s1.heap.objs.size ty z t 0 →
   PIE X pins σ tg R (.ref s1.heap.objs.size) { s1 with heap:=s1.heap.push o }:=by
  intro ty o W hs hty st
  refine ⟨s1.heap.objs.size,[s1.heap.objs.size],_,_,H1,rfl,I1.kept (t':=s1.toks) fun b o e=>Heap.get?_push_of_some _ e,ZjH W hs hty,st,fun b hb=>?_,q _ fun ι=>?_⟩
  ·have e:b = s1.heap.objs.size:=by simpa using hb
   subst e
   exact I1.fpOk (Nat.le_refl _) (I1.hok.fresh (Nat.le_refl _))
  ·intro i H2 ι2 M2 x S _
   refine ⟨fun d hd=>?_,fun hl=>?_⟩
   ·rw [List.getElem?_map] at hd
    cases hq:z.cps.toList[i]? with
    | none=>rw [hq] at hd; cases hd
    | some c=>
     rw [hq] at hd
     have hd':D.str [c] = d:=by simpa using hd
     subst hd'
     have hi:i < z.cps.size:=by
      have:=(List.getElem?_eq_some_iff.mp hq).1
      simpa using this
     refine ⟨hi,fun y H3 hy=>⟨hy.1,?_⟩⟩
     obtain ⟨_,c',hc',rfl⟩:=hy
     have:c' = c:=by
      rw [← Array.getElem?_toList,hq] at hc'
      exact (Option.some.inj hc').symm
     subst this
     exact Rep.str
   ·show i = z.cps.size
    rw [hl]
    simp
 cases ha:z.cps.all (· < 128)
 ·exact wpAny_pyIter_wide ha (key "str_iterator" _ (fun A' hA=>Walks.strWide hA _ z t) (fun _ _ _ _ _ st h=>wpAny_pyIter_striter_wide st h) (by decide) ⟨_,Heap.get?_push_size _ rfl,rfl,rfl⟩)
 ·exact wpAny_pyIter_ascii ha (key "str_ascii_iterator" _ (fun A' hA=>Walks.strAscii hA _ z t) (fun _ _ _ _ _ st h=>wpAny_pyIter_striter_ascii st h) (by decide) ⟨_,Heap.get?_push_size _ rfl,rfl,rfl⟩)
theorem ZgZ (h:C3 X e f):CI X tg e (ZbU f):=Zny h (Zm0 h)
theorem Zgs {K:PySem.W.Frag} {T:String} {ty:D → Store → Bool} {m:D → List D → Store → R3 D} (hty:∀ H ι M a x,Zy K H ι M → Rep K H ι a x → ty a M = true → tyV K T x H) (σ:St) (H:Hp) (Q:VK) (h:tOf K (ZaV ty m f gl) σ H Q):tBM K T (rM K m) (tOf K f) (tAf K gl) σ H Q:=by
 obtain ⟨ι,M,env,S,E,h⟩:=h
 obtain ⟨a,M1,e1,h⟩:=Zw.bind h
 refine ⟨ι,M,env,S,E,?_⟩
 rw [e1]
 intro v H1 ι1 x1 S1 r1
 by_cases ht:ty a M1 = true
 ·rw [if_pos ht] at h
  obtain ⟨ds,M2,e2,h⟩:=Zw.bind h
  refine ⟨hty _ _ _ _ _ S1 r1 ht,ι1,M1,env,S1,E.mono x1,?_⟩
  rw [e2]
  intro vs H2 ι2 x2 S2 r2
  exact ⟨ι2,M2,a,ds,S2,r1.mono x2,r2,(h.up x1).up x2⟩
 ·rw [if_neg ht] at h; exact h.elim
theorem Zhw {K:PySem.W.Frag} (H:Hp) (ι:List Addr) (M:Store) (a:D) (x:V) (_:Zy K H ι M) (r:Rep K H ι a x) (h:tyS a M = true):tyV K "str" x H:=by
 cases a with
 | str z=>rw [r.str_inv]; rfl
 | _=>simp at h
theorem ZmV {K:PySem.W.Frag} (H:Hp) (ι:List Addr) (M:Store) (a:D) (x:V) (S:Zy K H ι M) (r:Rep K H ι a x) (h:tyL a M = true):tyV K "list" x H:=by
 cases a with
 | ref n=>
  simp only [tyL] at h
  cases hn:M[n]? with
  | none=>simp [hn] at h
  | some o=>
   cases o with
   | dct _=>simp [hn] at h
   | fdct _=>simp [hn] at h
   | ins _ _=>simp [hn] at h
   | lst xs=>
    obtain ⟨p,hp,rfl⟩:=r.ref_inv
    obtain ⟨vs,e,_⟩:=S.obj n _ p hn hp
    exact .inl ⟨rfl,vs,SqL.of e⟩
 | _=>simp at h
theorem _root_.L2.MtR.imp {id:String} {r r':V → List V → Hp → VK → Prop} (h:MtR X id r) (i:∀ x xs H Q,r' x xs H Q → r x xs H Q):MtR X id r':=fun pins s σ H x xs v us Q I rx rs q=>h pins s σ H x xs v us Q I rx rs (i x xs H Q q)
theorem Zka:MtR X "list.append" (rM X.K Zaz):=MtR.imp (r:=Zih) ZfH fun x xs H Q zz1=>by
 obtain ⟨ι,M,a,ds,S,ra,rd,h⟩:=zz1
 cases a with
 | ref n=>
  cases ds with
  | nil=>exact h.elim
  | cons d ds=>
   cases ds with
   | cons _ _=>exact h.elim
   | nil=>
    simp only [Zaz] at h
    cases hn:M[n]? with
    | none=>simp only [hn] at h; exact h.elim
    | some o=>
     cases o with
     | dct _=>simp only [hn] at h; exact h.elim
     | fdct _=>simp only [hn] at h; exact h.elim
     | ins _ _=>simp only [hn] at h; exact h.elim
     | lst z=>
      simp only [hn] at h
      split at h
      ·rename_i hz
       obtain ⟨p,hp,rfl⟩:=ra.ref_inv
       obtain ⟨v,ws,rfl,r1,r2⟩:=rd.cons_inv
       have:=r2.nil_inv
       subst this
       obtain ⟨vs,e,rv⟩:=S.obj n _ p hn hp
       obtain ⟨x2,S2⟩:=S.setl (.inr (.inl ⟨_,e⟩)) hp (rv.append (Zj.cons r1 Zj.nil))
       exact ⟨p,vs,v,rfl,rfl,e,by rw [rv.length]; exact Nat.lt_of_lt_of_le hz Za7,h _ _ _ x2 S2 Rep.non⟩
      ·exact h.elim
 | _=>exact h.elim
theorem Zcp (ho:C3 X o f) (ha:CA X (e :: es) gl)
  (hbase:attributeBase o "append" X.env (eval o X.env) = eval o X.env:=by rfl)
  (hfew:((backTo cpos (starEach (e :: es) X.env)).all (fun x=>!x.1) && (backToKw cpos (keywordEach [] X.env)).all (fun x=>x.1.isSome)
   && decide ((e :: es).length + ([]:List Keyword).length + (if ([]:List Keyword).isEmpty then 0 else 1) < 30)) = true:=by rfl)
  (hline:(apos.endLine == cpos.line) = true:=by rfl) (hs:starEach (e :: es) X.env = (false,eval e X.env) :: starEach es X.env:=by rfl) (hplain:(backTo cpos (starEach es X.env)).any (·.1) = false:=by rfl):
  C3 X (.Call (.Attribute o "append" apos) (e :: es) [] cpos) (ZaV tyL Zaz f gl):=
 (Zii PySem.F.plainAttrs_list PySem.F.slot_list_append PySem.F.type_list_append Zka ho ha hbase hfew hline hs hplain).imp (Zgs ZmV)
theorem Zlq (x y:List Nat):Txt.startswith (⟨x.toArray⟩:Str) ⟨y.toArray⟩ = y.isPrefixOf x:=by
 unfold Txt.startswith Builtin.Str.subAt
 simp only [Str.length,List.size_toArray,Nat.zero_add]
 rw [Bool.eq_iff_iff]
 simp only [Bool.and_eq_true,decide_eq_true_eq,beq_iff_eq,List.isPrefixOf_iff_prefix]
 constructor
 ·rintro ⟨_,h⟩
  have h':=congrArg Array.toList h
  simp at h'
  rw [List.prefix_iff_eq_take]
  exact h'.symm
 ·intro h
  refine ⟨h.length_le,?_⟩
  rw [List.prefix_iff_eq_take] at h
  apply Array.toList_inj.mp
  simp
  exact h.symm
theorem m_startswith:MtR X "str.startswith" (rM X.K Zas):=by
 intro pins s σ H x xs v us Q I rx rs h
 obtain ⟨ι,M,a,ds,S,ra,rd,h⟩:=h
 cases a with
 | str z=>
  cases ds with
  | nil=>exact h.elim
  | cons d ds=>
   cases ds with
   | cons _ _=>cases d <;> exact h.elim
   | nil=>
    cases d with
    | str y=>
     simp only [Zas] at h
     split at h
     ·have:=ra.str_inv
      subst this
      obtain ⟨w',ws,rfl,r1,r2⟩:=rd.cons_inv
      have:=r2.nil_inv
      subst this
      have:=r1.str_inv
      subst this
      obtain ⟨t,rfl⟩:=rx
      obtain ⟨u,rfl,ru⟩:=vals1 rs
      obtain ⟨t',rfl⟩:=ru
      refine SC.startswith ?_
      rw [Zlq]
      exact ⟨.bl _,H,I,rfl,Zw.ok h S Rep.bl⟩
     ·exact h.elim
    | _=>exact h.elim
 | _=>exact h.elim
theorem ZcR (ho:C3 X o f) (ha:CA X (e :: es) gl)
  (hbase:attributeBase o "startswith" X.env (eval o X.env) = eval o X.env:=by rfl)
  (hfew:((backTo cpos (starEach (e :: es) X.env)).all (fun x=>!x.1) && (backToKw cpos (keywordEach [] X.env)).all (fun x=>x.1.isSome)
   && decide ((e :: es).length + ([]:List Keyword).length + (if ([]:List Keyword).isEmpty then 0 else 1) < 30)) = true:=by rfl)
  (hline:(apos.endLine == cpos.line) = true:=by rfl) (hs:starEach (e :: es) X.env = (false,eval e X.env) :: starEach es X.env:=by rfl) (hplain:(backTo cpos (starEach es X.env)).any (·.1) = false:=by rfl):
  C3 X (.Call (.Attribute o "startswith" apos) (e :: es) [] cpos) (ZaV tyS Zas f gl):=
 (Zii PySem.F.plainAttrs_str PySem.F.slot_str_startswith PySem.F.type_str_startswith m_startswith ho ha hbase hfew hline hs hplain).imp (Zgs Zhw)
theorem ZoC:OpR X (compareOp .In) (r2 X.K fun a b M=>match a,b with | .str [c],.str y=>.ok (.bl (decide (c ∈ y))) M | _,_=>.bad):=OpR.imp ZiA fun x y H Q zz1=>by
 obtain ⟨ι,M,a,b,S,ra,rb,h⟩:=zz1
 cases a with
 | str z=>
  cases z with
  | nil=>cases b <;> exact h.elim
  | cons c z=>
   cases z with
   | cons _ _=>cases b <;> exact h.elim
   | nil=>
    cases b with
    | str y=>
     refine ⟨_,_,ra.str_inv,rb.str_inv,?_⟩
     have e:=StrLaws.found_one (⟨y.toArray⟩:Str) c
     rw [show (⟨[c].toArray⟩:Str) = ⟨#[c]⟩ from rfl,e]
     exact Zw.ok h S Rep.bl
    | _=>exact h.elim
 | _=>cases b <;> exact h.elim
end
end L3
namespace L3
open PySem PySem.Spec PyProof.Rows L2
section
variable {X:Cx}
theorem ZnE {pins:List (Addr × Obj)} {σ:St} {H:Hp} {s:Shared} {ι:List Addr} {M:Store} {a b:D} {x y:V} {u v:Value} {k:Bool} (hu:X.A.units + 80 < cLine) (I:Inv X pins σ H s) (S:Zy X.K H ι M)
  (ra:Rep X.K H ι a x) (rb:Rep X.K H ι b y) (ru:RelV x u) (rv:RelV y v) (h:eqD a b M = some k):SeqAt.RcNeAt X.A s u v (!k):=by
 cases a with
 | ref n=>
  cases b with
  | ref m=>
   simp only [eqD] at h
   cases hn:M[n]? with
   | none=>simp [hn] at h
   | some o=>
    cases o with
    | dct _=>simp [hn] at h
    | fdct _=>simp [hn] at h
    | ins _ _=>simp [hn] at h
    | lst ds=>
     cases hm:M[m]? with
     | none=>simp [hn,hm] at h
     | some o=>
      cases o with
      | dct _=>simp [hn,hm] at h
      | fdct _=>simp [hn,hm] at h
      | ins _ _=>simp [hn,hm] at h
      | lst es=>
       simp only [hn,hm] at h
       split at h
       ·rename_i hp
        cases h
        rw [Bool.and_eq_true] at hp
        obtain ⟨p,hp1,rfl⟩:=ra.ref_inv
        obtain ⟨q,hq1,rfl⟩:=rb.ref_inv
        cases ru
        cases rv
        obtain ⟨vs,e1,r1⟩:=S.obj n _ p hn hp1
        obtain ⟨ws,e2,r2⟩:=S.obj m _ q hm hq1
        obtain ⟨its,rvs,pl1,_⟩:=I.list (SqL.of e1)
        obtain ⟨its2,rws,pl2,_⟩:=I.list (SqL.of e2)
        have it1:=pl1.isList
        have it2:=pl2.isList
        have l1:its.length = ds.length:=by rw [← rvs.length,r1.length]
        have l2:its2.length = es.length:=by rw [← rws.length,r2.length]
        have hu1:X.A.units < cLine:=lB 1 17666545486865 T1 hu
        by_cases hl:ds.length = es.length
        ·have key:(List.range its.toArray.size).all (fun j=>match ds[j]?,es[j]? with | some a,some b=>deq a b | _,_=>false) = ZbX ds es:=by
          rw [List.size_toArray,l1]
          exact ZbP hl fun j a b h1 h2=>by rw [h1,h2]
         rw [← key]
         refine SeqAt.RcNeAt.lists it1 it2 (by rw [List.size_toArray,List.size_toArray,l1,l2,hl]) hu1 fun j h1 h2=>?_
         have h1':j < ds.length:=by rw [← l1]; simpa using h1
         have h2':j < es.length:=by rw [← l2]; simpa using h2
         have q1:ds[j]? = some ds[j]:=by simp [h1']
         have q2:es[j]? = some es[j]:=by simp [h2']
         rw [q1,q2]
         obtain ⟨v1,g1,z1⟩:=r1.get q1
         obtain ⟨v2,g2,z2⟩:=r2.get q2
         obtain ⟨u1,k1,w1⟩:=rvs.get g1
         obtain ⟨u2,k2,w2⟩:=rws.get g2
         have m1:its.toArray[j] = u1:=by
          have:=List.getElem?_eq_some_iff.mp k1
          simpa using this.2
         have m2:its2.toArray[j] = u2:=by
          have:=List.getElem?_eq_some_iff.mp k2
          simpa using this.2
         rw [m1,m2]
         exact Zf1 I DEEP X.A.in1 ds[j] es[j] v1 v2 u1 u2 (by rw [units_in1]; show X.A.units + 1 + 60 + 1 < cLine; exact lB 1 0x1a3c2ba0ccc11502b0c11 T1 hu) (List.all_eq_true.mp hp.1 _ (List.getElem_mem h1')) (List.all_eq_true.mp hp.2 _ (List.getElem_mem h2')) z1 z2 w1 w2
        ·have z:ZbX ds es = false:=by
          cases q:ZbX ds es with
          | false=>rfl
          | true=>exact absurd (ZcP q) hl
         rw [z]
         exact SeqAt.RcNeAt.lists_lengths it1 it2 (by rw [List.size_toArray,List.size_toArray,l1,l2]; simpa using hl) hu1
       ·cases h
  | _=>simp [eqD] at h
 | int i=>cases b with
  | int j=>
   simp only [eqD] at h
   cases h
   have:=ra.int_inv; subst this; have:=rb.int_inv; subst this
   obtain ⟨t,rfl⟩:=ru
   obtain ⟨t',rfl⟩:=rv
   rw [← Bool.beq_eq_decide_eq]
   exact SeqAt.RcNeAt.int_int _ _ _ _
  | _=>simp [eqD] at h
 | str i=>cases b with
  | str j=>
   simp only [eqD] at h
   cases h
   have:=ra.str_inv; subst this; have:=rb.str_inv; subst this
   obtain ⟨t,rfl⟩:=ru
   obtain ⟨t',rfl⟩:=rv
   have e:decide (i = j) = ((⟨i.toArray⟩:Str) == ⟨j.toArray⟩):=by
    rw [← Bool.beq_eq_decide_eq,← ZdT]
    by_cases h:(⟨i.toArray⟩:Str) = ⟨j.toArray⟩
    ·simp [h]
    ·simp [h]
   rw [e]
   exact SeqAt.RcNeAt.str_str _ _ _ _
  | _=>simp [eqD] at h
 | bl i=>cases b with
  | bl j=>
   simp only [eqD] at h
   cases h
   have:=ra.bl_inv; subst this; have:=rb.bl_inv; subst this
   cases ru
   cases rv
   rw [← Bool.beq_eq_decide_eq]
   exact SeqAt.RcNeAt.bool_bool _ _
  | _=>simp [eqD] at h
 | tup ds=>cases b with
  | tup es=>
   simp only [eqD] at h
   split at h
   ·rename_i hp
    cases h
    rw [Bool.and_eq_true] at hp
    obtain ⟨p,vs,rfl,s1,r1⟩:=ra.tup_inv
    obtain ⟨p',ws,rfl,s2,r2⟩:=rb.tup_inv
    cases ru
    cases rv
    obtain ⟨its,rvs,ht,_⟩:=I.tuple s1
    obtain ⟨its2,rws,ht2,_⟩:=I.tuple s2
    have e1:its.length = ds.length:=by rw [← rvs.length,r1.length]
    have e2:its2.length = es.length:=by rw [← rws.length,r2.length]
    have hu1:X.A.units < cLine:=lB 1 17666545486865 T1 hu
    have key:((List.range (min its.toArray.size its2.toArray.size)).all (fun j=>match ds[j]?,es[j]? with | some a,some b=>deq a b | _,_=>false) && its.toArray.size == its2.toArray.size) = ZbX ds es:=by
     rw [List.size_toArray,List.size_toArray,e1,e2]
     by_cases hl:ds.length = es.length
     ·rw [hl,Nat.min_self,beq_self_eq_true,Bool.and_true,← hl]
      exact ZbP hl fun j a b h1 h2=>by rw [h1,h2]
     ·have z:ZbX ds es = false:=by
       cases q:ZbX ds es with
       | false=>rfl
       | true=>exact absurd (ZcP q) hl
      rw [z,beq_eq_false_iff_ne.mpr hl,Bool.and_false]
    rw [← key]
    refine SeqAt.RcNeAt.tuples (show s.heap.IsTuple p its.toArray from ht) (show s.heap.IsTuple p' its2.toArray from ht2) hu1 fun j h1 h2=>?_
    have h1':j < ds.length:=by rw [← e1]; simpa using h1
    have h2':j < es.length:=by rw [← e2]; simpa using h2
    have q1:ds[j]? = some ds[j]:=by simp [h1']
    have q2:es[j]? = some es[j]:=by simp [h2']
    rw [q1,q2]
    obtain ⟨v1,g1,z1⟩:=r1.get q1
    obtain ⟨v2,g2,z2⟩:=r2.get q2
    obtain ⟨u1,k1,w1⟩:=rvs.get g1
    obtain ⟨u2,k2,w2⟩:=rws.get g2
    have m1:its.toArray[j] = u1:=by
     have:=List.getElem?_eq_some_iff.mp k1
     simpa using this.2
    have m2:its2.toArray[j] = u2:=by
     have:=List.getElem?_eq_some_iff.mp k2
     simpa using this.2
    rw [m1,m2]
    exact Zf1 I DEEP X.A.in1 ds[j] es[j] v1 v2 u1 u2 (by rw [units_in1]; show X.A.units + 1 + 60 + 1 < cLine; exact lB 1 0x1a3c2ba0ccc11502b0c11 T1 hu) (List.all_eq_true.mp hp.1 _ (List.getElem_mem h1')) (List.all_eq_true.mp hp.2 _ (List.getElem_mem h2')) z1 z2 w1 w2
   ·cases h
  | _=>simp [eqD] at h
 | _=>cases b <;> simp [eqD] at h
theorem Zog (hu:X.A.units + 80 < cLine):OpR X (compareOp .NotEq) (r2 X.K ZiH):=by
 intro pins s σ H x y v u Q I rx ry h
 obtain ⟨ι,M,a,b,S,ra,rb,h⟩:=h
 unfold ZiH at h
 cases q:eqD a b M with
 | none=>rw [q] at h; exact h.elim
 | some k=>
  rw [q] at h
  exact ZnE hu I S ra rb rx ry q X.prog X.w X.xe _ ⟨.bl (!k),H,I,rfl,Zw.ok h S Rep.bl⟩
theorem Ze2 {K:PySem.W.Frag} {H:Hp} {ι:List Addr} {d:D} {v:V} (r:Rep K H ι d v) (h:Zax d = true):ZdB v = true:=by
 cases d with
 | non=>rw [r.non_inv]; rfl
 | bl b=>rw [r.bl_inv]; rfl
 | int i=>rw [r.int_inv]; rfl
 | str x=>rw [r.str_inv]; rfl
 | _=>simp [Zax] at h
theorem Zk7 (x y:List Nat):((⟨x.toArray⟩:Str) == ⟨y.toArray⟩) = (x == y):=by
 rw [Bool.eq_iff_iff]
 simp
theorem Zla {K:PySem.W.Frag} {H:Hp} {ι:List Addr} {d e:D} {v w:V} (r:Rep K H ι d v) (q:Rep K H ι e w) (h:Zax d = true) (h':Zax e = true):eqV v w = deq d e:=by
 cases d with
 | non=>have:=r.non_inv; subst this; cases e with
  | non=>have:=q.non_inv; subst this; rfl
  | bl _=>have:=q.bl_inv; subst this; rfl
  | int _=>have:=q.int_inv; subst this; rfl
  | str _=>have:=q.str_inv; subst this; rfl
  | _=>simp [Zax] at h'
 | bl _=>have:=r.bl_inv; subst this; cases e with
  | non=>have:=q.non_inv; subst this; rfl
  | bl _=>have:=q.bl_inv; subst this; rfl
  | int _=>have:=q.int_inv; subst this; rfl
  | str _=>have:=q.str_inv; subst this; rfl
  | _=>simp [Zax] at h'
 | int _=>have:=r.int_inv; subst this; cases e with
  | non=>have:=q.non_inv; subst this; rfl
  | bl _=>have:=q.bl_inv; subst this; rfl
  | int _=>have:=q.int_inv; subst this; rfl
  | str _=>have:=q.str_inv; subst this; rfl
  | _=>simp [Zax] at h'
 | str _=>have:=r.str_inv; subst this; cases e with
  | non=>have:=q.non_inv; subst this; rfl
  | bl _=>have:=q.bl_inv; subst this; rfl
  | int _=>have:=q.int_inv; subst this; rfl
  | str _=>have:=q.str_inv; subst this; exact Zk7 _ _
  | _=>simp [Zax] at h'
 | _=>simp [Zax] at h
theorem ZfZ {K:PySem.W.Frag} {H:Hp} {ι:List Addr} {d:D} {v:V} (r:Rep K H ι d v) (h:Zax d = true):∀ {ds:List D} {vs:List V},Zj K H ι ds vs → ds.all Zax = true → vs.all ZdB = true ∧ inV v vs = ds.any fun y=>deq y d
 | [],_,q,_=>by rw [q.nil_inv]; exact ⟨rfl,rfl⟩
 | e :: ds,_,q,hd=>by
  obtain ⟨w,ws,rfl,r1,r2⟩:=q.cons_inv
  rw [List.all_cons,Bool.and_eq_true] at hd
  obtain ⟨h1,h2⟩:=ZfZ r h r2 hd.2
  refine ⟨by rw [List.all_cons,Ze2 r1 hd.1,h1]; rfl,?_⟩
  unfold inV at h2 ⊢
  rw [List.any_cons,List.any_cons,h2,Zla r1 r hd.1 h]
theorem Zn8 (hu:X.A.units + 80 < cLine):OpR X (compareOp .In) (r2 X.K Zd4):=OpR.imp (OpR.or ZoC Zi3) fun x y H Q zz1=>by
 obtain ⟨ι,M,a,b,S,ra,rb,h⟩:=zz1
 have seq:∀ (d:D) (ys:List D),b = .tup ys → (Zax d && ys.all Zax) = true → a = d → Q (.bl (ys.any fun y=>deq y d)) H → rIn X.K false x y H Q:=by
  rintro d ys rfl hf rfl q
  rw [Bool.and_eq_true] at hf
  obtain ⟨p,vs,rfl,s,r⟩:=rb.tup_inv
  obtain ⟨h1,h2⟩:=ZfZ ra hf.1 r hf.2
  exact ⟨p,vs,rfl,.inr s,Ze2 ra hf.1,h1,by rw [if_neg (by decide),h2]; exact q⟩
 cases b with
 | tup ys=>
  have h':Zw X.K H ι Q (match (if Zax a && ys.all Zax then some (ys.any fun y=>deq y a) else none) with | some r=>.ok (.bl r) M | none=>.bad):=by
   cases a with
   | str z=>cases z with
    | nil=>exact h
    | cons c z=>cases z <;> exact h
   | _=>exact h
  by_cases hf:(Zax a && ys.all Zax) = true
  ·rw [if_pos hf] at h'
   exact .inr (seq a ys rfl hf rfl (Zw.ok h' S Rep.bl))
  ·rw [if_neg hf] at h'; exact h'.elim
 | str y=>cases a with
  | str z=>cases z with
   | nil=>exact h.elim
   | cons c z=>cases z with
    | nil=>exact .inl ⟨ι,M,_,_,S,ra,rb,h⟩
    | cons _ _=>exact h.elim
  | _=>exact h.elim
 | _=>cases a with
  | str z=>cases z with
   | nil=>exact h.elim
   | cons c z=>cases z <;> exact h.elim
  | _=>exact h.elim
theorem ZkB:OpR X (compareOp .NotIn) (r2 X.K fun a b M=>match a,b with | .str [c],.str y=>.ok (.bl (!decide (c ∈ y))) M | _,_=>.bad):=OpR.imp Zgz fun x y H Q zz1=>by
 obtain ⟨ι,M,a,b,S,ra,rb,h⟩:=zz1
 cases a with
 | str z=>
  cases z with
  | nil=>cases b <;> exact h.elim
  | cons c z=>
   cases z with
   | cons _ _=>cases b <;> exact h.elim
   | nil=>
    cases b with
    | str y=>
     refine ⟨_,_,ra.str_inv,rb.str_inv,?_⟩
     have e:=StrLaws.found_one (⟨y.toArray⟩:Str) c
     rw [show (⟨[c].toArray⟩:Str) = ⟨#[c]⟩ from rfl,e]
     exact Zw.ok h S Rep.bl
    | _=>exact h.elim
 | _=>cases b <;> exact h.elim
theorem ZlI (hu:X.A.units + 80 < cLine):OpR X (compareOp .NotIn) (r2 X.K Zd6):=OpR.imp (OpR.or ZkB Zf8) fun x y H Q zz1=>by
 obtain ⟨ι,M,a,b,S,ra,rb,h⟩:=zz1
 have seq:∀ (d:D) (ys:List D),b = .tup ys → (Zax d && ys.all Zax) = true → a = d → Q (.bl (!(ys.any fun y=>deq y d))) H → rIn X.K true x y H Q:=by
  rintro d ys rfl hf rfl q
  rw [Bool.and_eq_true] at hf
  obtain ⟨p,vs,rfl,s,r⟩:=rb.tup_inv
  obtain ⟨h1,h2⟩:=ZfZ ra hf.1 r hf.2
  exact ⟨p,vs,rfl,.inr s,Ze2 ra hf.1,h1,by rw [if_pos rfl,h2]; exact q⟩
 cases b with
 | tup ys=>
  have h':Zw X.K H ι Q (match (if Zax a && ys.all Zax then some (ys.any fun y=>deq y a) else none) with | some r=>.ok (.bl (!r)) M | none=>.bad):=by
   cases a with
   | str z=>cases z with
    | nil=>exact h
    | cons c z=>cases z <;> exact h
   | _=>exact h
  by_cases hf:(Zax a && ys.all Zax) = true
  ·rw [if_pos hf] at h'
   exact .inr (seq a ys rfl hf rfl (Zw.ok h' S Rep.bl))
  ·rw [if_neg hf] at h'; exact h'.elim
 | str y=>cases a with
  | str z=>cases z with
   | nil=>exact h.elim
   | cons c z=>cases z with
    | nil=>exact .inl ⟨ι,M,_,_,S,ra,rb,h⟩
    | cons _ _=>exact h.elim
  | _=>exact h.elim
 | _=>cases a with
  | str z=>cases z with
   | nil=>exact h.elim
   | cons c z=>cases z <;> exact h.elim
  | _=>exact h.elim
theorem Zj0 (x:List Nat) (n:Nat) (a:List Nat):(List.replicate n x.toArray).foldl (· ++ ·) a.toArray = (a ++ (List.replicate n x).flatten).toArray:=by
 induction n generalizing a with
 | zero=>simp
 | succ n ih=>
  rw [List.replicate_succ,List.foldl_cons,List.replicate_succ,List.flatten_cons]
  have:=ih (a ++ x)
  simp only [List.append_toArray] at this ⊢
  rw [this]
  simp
theorem ZnF (x:List Nat) (k:Int):Txt.mul (⟨x.toArray⟩:Str) k = ⟨(List.replicate k.toNat x).flatten.toArray⟩:=by
 unfold Txt.mul
 split
 ·rename_i h
  have:k.toNat = 0:=Nat.le_antisymm (Nat.le_of_eq (Int.toNat_of_nonpos (iN [] [_] 1 235446417 T1 h))) (Nat.zero_le _)
  rw [this]; rfl
 ·split
  ·rename_i h1 h2
   simp only [Bool.or_eq_true,beq_iff_eq,Str.length,List.size_toArray] at h2
   rcases h2 with h2 | h2
   ·subst h2; simp
   ·have:x = []:=List.eq_nil_of_length_eq_zero h2
    subst this
    simp
  ·have:=Zj0 x k.toNat []
   rw [List.nil_append] at this
   exact congrArg Str.mk this
theorem Zj.repl {K:PySem.W.Frag} {H:Hp} {ι:List Addr} {ds:List D} {vs:List V} (r:Zj K H ι ds vs):∀ k:Nat,Zj K H ι (List.replicate k ds).flatten (List.replicate k vs).flatten
 | 0=>Zj.nil
 | k + 1=>by rw [List.replicate_succ,List.replicate_succ,List.flatten_cons,List.flatten_cons]; exact r.append (Zj.repl r k)
theorem ZeD:OpR X (binaryOp .Mult) (r2 X.K ZaO):=by
 have hs:OpR X (binaryOp .Mult) (fun x y H Q=>∃ (z:List Nat) (k:Int),x = .str ⟨z.toArray⟩ ∧ y = .int k ∧ z.length * k.toNat ≤ 1000000 ∧ k < 1000000 ∧ -1000000 < k ∧ Q (.str ⟨(List.replicate k.toNat z).flatten.toArray⟩) H):=by
  intro pins s σ H x y v u Q I rx ry h
  obtain ⟨z,k,rfl,rfl,h1,h2,h3,q⟩:=h
  obtain ⟨t,rfl⟩:=rx
  obtain ⟨t',rfl⟩:=ry
  refine SB.mul ⟨?_,fun h4 h5=>?_,fun h4 h5=>?_⟩ fun t'' tk=>?_
  ·simp; omega
  ·simp only [Str.length,List.size_toArray]
   simp at h4 h5
   have hk:2 ≤ k:=by
    simp only [Str.length,List.size_toArray] at h5
    omega
   have e:(k.toNat:Int) = k:=Int.le_antisymm (Int.le_of_eq (Int.toNat_of_nonneg (iN [] [_] 1 3892452225 T1 hk))) ((Int.self_le_toNat _))
   have hm:(z.length:Int) * k ≤ 1000000:=by
    have h1':((z.length * k.toNat:Nat):Int) ≤ 1000000:=Int.ofNat_le.mpr h1
    rw [Int.natCast_mul,e] at h1'
    exact h1'
   have hd:(z.length:Int) ≤ 9223372036854775807 / k:=Int.le_ediv_of_mul_le (iN [] [_] 1 3909229441 T1 hk) (by omega)
   show ¬ ((z.length:Int) > (2 ^ 63 - 1) / k)
   have e3:((2:Int) ^ 63 - 1) = 9223372036854775807:=by decide
   rw [e3]
   exact fun z=>iN [_] [_] 2 6599352549521 T1 z hd
  ·unfold Builtin.Str.tooLong
   simp only [Str.length,List.size_toArray,decide_eq_false_iff_not]
   have hsz:(1000000:Nat) ≤ sizeLine:=Za7
   exact fun z=>lB 3 0x6f42405b1010f42405b011011 T1 z hsz h1
  ·rw [ZnF]
   exact ⟨.str _,H,I.tok _,⟨_,rfl⟩,q⟩
 refine OpR.imp (OpR.or Zne (OpR.or hs Zmk)) fun x y H Q zz1=>?_
 obtain ⟨ι,M,a,b,S,ra,rb,h⟩:=zz1
 cases a with
 | int i=>cases b with
  | int j=>
   simp only [ZaO] at h
   split at h
   ·rename_i hm
    refine .inl ⟨i,j,ra.int_inv,rb.int_inv,?_,Zw.ok h S Rep.int⟩
    simp only [Zbs,Bool.or_eq_true,Bool.and_eq_true,decide_eq_true_eq] at hm
    exact hm
   ·exact h.elim
  | _=>exact h.elim
 | str z=>cases b with
  | int k=>
   simp only [ZaO] at h
   split at h
   ·rename_i hz
    exact .inr (.inl ⟨z,k,ra.str_inv,rb.int_inv,hz.1,hz.2.1,hz.2.2,Zw.ok h S Rep.str⟩)
   ·exact h.elim
  | _=>exact h.elim
 | ref n=>cases b with
  | int k=>
   simp only [ZaO] at h
   cases hn:M[n]? with
   | none=>simp only [hn] at h; exact h.elim
   | some o=>
    cases o with
    | dct _=>simp only [hn] at h; exact h.elim
    | fdct _=>simp only [hn] at h; exact h.elim
    | ins _ _=>simp only [hn] at h; exact h.elim
    | lst z=>
     simp only [hn] at h
     split at h
     ·rename_i hz
      obtain ⟨p,hp,rfl⟩:=ra.ref_inv
      obtain ⟨vs,e,r⟩:=S.obj n _ p hn hp
      refine .inr (.inr ⟨p,k,vs,rfl,rb.int_inv,e,by omega,by omega,by rw [r.length]; exact Nat.le_trans hz.1 Za7,fun q hq=>?_⟩)
      obtain ⟨x2,S2,r2⟩:=S.lst hq (Zj.repl r k.toNat)
      exact h _ _ _ x2 S2 r2
     ·exact h.elim
  | _=>exact h.elim
 | _=>cases b <;> exact h.elim
theorem Zh6 (n d:Nat) (hd:d ≤ n) (o:Option Int):(match o with | none=>(d:Int) | some i=>max 0 (min (if i < 0 then i + (n:Int) else i) (n:Int))) = ((sIx n d o:Nat):Int):=by
 cases o with
 | none=>rfl
 | some v=>
  show max 0 (min (if v < 0 then v + (n:Int) else v) (n:Int)) = (((if v < 0 then (v + (n:Int)).toNat else min v.toNat n):Nat):Int)
  by_cases h:v < 0
  ·rw [if_pos h,if_pos h]; exact clC v n h
  ·rw [if_neg h,if_neg h]; exact clD v n h
theorem ZeG (lo hi:Option Int) (n:Nat):Builtin.Str.strSliceIndices lo hi 1 n = (List.range (sIx n n hi - sIx n 0 lo)).map (fun k=>sIx n 0 lo + k):=by
 have e1:=Zh6 n 0 (Nat.zero_le _) lo
 have e2:=Zh6 n n (Nat.le_refl _) hi
 have key:Builtin.Str.strSliceIndices lo hi 1 n = sliceRange ((sIx n 0 lo:Nat):Int) ((sIx n n hi:Nat):Int) 1:=by
  rw [← e1,← e2]
  simp only [Builtin.Str.strSliceIndices,show ((1:Int) > 0) = True from by simp,if_true]
  cases lo <;> cases hi <;> rfl
 rw [key]
 generalize sIx n 0 lo = a
 generalize sIx n n hi = b
 simp only [sliceRange,show ((1:Int) > 0) = True from by simp,if_true]
 by_cases hlt:(a:Int) < b
 ·have e3:(((b:Int) - a + 1 - 1) / 1).toNat = b - a:=by first | exact Nat.le_antisymm (iN [_,_,_,_] [_] 3 0x230038a112c001aa1808fcf001d81 T1 (Int.mul_ediv_self_le (by decide)) (sbA _ _) (Int.toNat_of_nonneg (iN [_,_] [_] 2 0xe8a001dcaa0818fcf91180891 T1 hlt (Int.lt_mul_ediv_self_add (by decide))))) (iN [_,_,_,_] [_] 3 0x230013c2128081a001dcaa1808fcf91 T1 (Int.lt_mul_ediv_self_add (by decide)) (Int.self_le_toNat _) (Nat.sub_add_cancel (iN [_,_] [] 1 4296542353 T1 hlt))) | (simp; done) | (simp; omega)
  simp only [hlt,if_true,e3]
  refine List.map_congr_left fun k _=>?_
  exact Nat.le_antisymm (iN [_,_,_] [] 1 0x21c002801d18c08a1 T1 (Int.toNat_of_nonneg (iN [_,_] [] 0 103109659880 T1))) (iN [_,_,_] [] 1 0x210c0281801d08c81 T1 (Int.self_le_toNat _))
 ·have:b - a = 0:=Nat.le_antisymm (Nat.le_of_eq (Nat.sub_eq_zero_of_le (iN [_,_] [] 1 270010577 T1 hlt))) (Nat.zero_le _)
  simp [hlt,this]
theorem Zgc (n d:Nat) (hd:d ≤ n) (o:Option Int):sIx n d o ≤ n:=by
 cases o with
 | none=>exact hd
 | some v=>simp only [sIx]; split <;> omega
theorem ZhG (z:List Nat) (lo hi:Option Int) (l u:Option (Int × Tok)) (hl:l.map (·.1) = lo) (hu:u.map (·.1) = hi):
  (if ((1:Int) == 1 && (slicePicked ⟨z.toArray⟩ l u none).length == (⟨z.toArray⟩:Str).length) = true then (⟨z.toArray⟩:Str) else ⟨((slicePicked ⟨z.toArray⟩ l u none).filterMap ((⟨z.toArray⟩:Str).cps[·]?)).toArray⟩) = ⟨(cutD z lo hi).toArray⟩:=by
 have e0:slicePicked ⟨z.toArray⟩ l u none = (List.range (sIx z.length z.length hi - sIx z.length 0 lo)).map (fun k=>sIx z.length 0 lo + k):=by
  unfold slicePicked
  rw [hl,hu]
  simp only [Str.length,List.size_toArray]
  exact ZeG lo hi z.length
 have hb:=Zgc z.length z.length (Nat.le_refl _) hi
 rw [e0]
 have pick:((List.range (sIx z.length z.length hi - sIx z.length 0 lo)).map (fun k=>sIx z.length 0 lo + k)).filterMap ((⟨z.toArray⟩:Str).cps[·]?) = cutD z lo hi:=by
  unfold cutD
  by_cases hab:sIx z.length 0 lo ≤ sIx z.length z.length hi
  ·have h:=StrLaws.picks z (sIx z.length z.length hi - sIx z.length 0 lo) (sIx z.length 0 lo) (lD 2 82120338080600065 T1 hb (Nat.sub_add_cancel hab))
   simpa using h
  ·have:sIx z.length z.length hi - sIx z.length 0 lo = 0:=Nat.le_antisymm (Nat.le_of_eq (Nat.sub_eq_zero_of_le (lB 1 1052737 T1 hab))) (Nat.zero_le _)
   rw [this]
   simp
 rw [pick]
 split
 ·rename_i hc
  simp only [List.length_map,List.length_range,Str.length,List.size_toArray,Bool.and_eq_true,beq_iff_eq] at hc
  have hc2:=hc.2
  have h0:sIx z.length 0 lo = 0 ∨ z.length = 0:=by omega
  have:cutD z lo hi = z:=by
   unfold cutD
   rcases h0 with h0 | h0
   ·rw [h0,List.drop_zero,List.take_of_length_le (by exact lD 3 0x3102001e3c2011031 T1 hc2 (sbA _ _) (Nat.sub_le _ _))]
   ·have:z = []:=List.eq_nil_of_length_eq_zero h0
    subst this
    simp
  rw [this]
 ·rfl
theorem Znz:SlR X (fun x lo hi H Q=>∃ z:List Nat,x = .str ⟨z.toArray⟩ ∧ z.length ≤ SZ ∧ Q (.str ⟨(cutD z lo hi).toArray⟩) H):=by
 intro pins s σ H x v vl vu lo hi sl Q I rx hs pl pu h
 obtain ⟨z,rfl,hz,q⟩:=h
 obtain ⟨t,rfl⟩:=rx
 have part:∀ {v:Value} {o:Option Int},IsPart v o → ∃ p:Option (Int × Tok),v = partValue p ∧ p.map (·.1) = o:=by
  intro v o h
  cases h with
  | none=>exact ⟨none,rfl,rfl⟩
  | int i t=>exact ⟨some (i,t),rfl,rfl⟩
 obtain ⟨l,rfl,hl⟩:=part pl
 obtain ⟨u,rfl,hu⟩:=part pu
 refine ⟨"str",_,PySem.F.slot_str_getitem.lookup,typeIs_str _ _ _,?_⟩
 refine wpAny_getItem_str_slice (l:=l) (u:=u) (st:=none) hs rfl ?_
 unfold sliceMade
 refine post_val_or_made (fun _=>?_) fun t' k=>?_
 ·show ((slicePicked ⟨z.toArray⟩ l u none).filterMap ((⟨z.toArray⟩:Str).cps[·]?)).toArray.size ≤ sizeLine
  rw [List.size_toArray]
  refine Nat.le_trans (List.length_filterMap_le _ _) ?_
  show (Builtin.Str.strSliceIndices (l.map (·.1)) (u.map (·.1)) 1 (⟨z.toArray⟩:Str).length).length ≤ sizeLine
  rw [ZeG]
  simp only [List.length_map,List.length_range,Str.length,List.size_toArray]
  have:=Zgc z.length z.length (Nat.le_refl _) (u.map (·.1))
  have:=Za7
  omega
 ·have e:=ZhG z lo hi l u hl hu
  have e':(if (((none:Option (Int × Tok)).map (·.1)).getD 1 == 1 && (slicePicked ⟨z.toArray⟩ l u none).length == (⟨z.toArray⟩:Str).length) = true then (⟨z.toArray⟩:Str) else ⟨((slicePicked ⟨z.toArray⟩ l u none).filterMap ((⟨z.toArray⟩:Str).cps[·]?)).toArray⟩) = ⟨(cutD z lo hi).toArray⟩:=e
  rw [e']
  exact ⟨.str _,H,I.tok _,⟨_,rfl⟩,q⟩
theorem ZdQ {prog:Program} {w:World} {A:Around} {E:Value → Shared → Prop} {s:Shared} {t sl:Addr} {items:Array Value} {vl vu:Value} {lo hi:Option Int} {Q:Value → Shared → Prop} (ht:IsTup s.heap t items) (hs:s.heap.IsSliceOf sl vl vu .none) (pl:IsPart vl lo) (pu:IsPart vu hi)
  (hw:HT.sIx items.size 0 lo = 0 ∧ HT.sIx items.size items.size hi = items.size) (h:Q (.ref t) s):wpAny (model prog w) A (getItem (.ref t) (.ref sl)) Q E s:=by
 obtain ⟨os,hos,hcs,hds⟩:=id hs
 have hTs:s.TypeIs (.ref sl) "slice":=⟨os,hos,hcs⟩
 unfold getItem
 try with_reducible refine wpAny_holding ?_
 first | refine wpAny_bind (wpAny_pure ?_) | skip
 refine wpAny_bind (wpAny_sequenceKey ht.typeIs (by decide) ?_)
 refine wpAny_bind (wpAny_callSpecial?_slot (name:=Str.ofString "__getitem__") ht.typeIs PyProof.Rows.slot_tuple_getitem
  (wpAny_call_entry PyProof.Rows.slot_tuple_getitem ht.typeIs entry_tuple_getitem ?_ (args_tuple_getitem _ _)))
 show wpAny _ _ (Builtin.Tuple.tupleItemsOf (.ref t) >>= _) _ _ s
 refine wpAny_bind (tupleItemsOf_ ht ?_)
 refine wpAny_bind (wpAny_typeOf hTs ?_)
 rw [if_pos (by decide)]
 refine wpAny_bind (HT.sliceApplied_gen hs pl pu ?_)
 have hyes:(((HT.sIx items.size 0 lo:Nat):Int) == 0 && (1:Int) == 1 && (HT.sIx items.size items.size hi - HT.sIx items.size 0 lo) == items.size) = true:=by
  rw [hw.1,hw.2]; simp
 show wpAny _ _ (if (((HT.sIx items.size 0 lo:Nat):Int) == 0 && (1:Int) == 1 && (HT.sIx items.size items.size hi - HT.sIx items.size 0 lo) == items.size) = true then _ else _) _ _ s
 rw [if_pos hyes]
 unfold Builtin.Tuple.tupleIsExact
 refine wpAny_bind (wpAny_bind (wpAny_typeOf ht.typeIs (wpAny_pure ?_)))
 rw [if_pos (by decide)]
 exact wpAny_bind (wpAny_rule (wpAny_pure ⟨_,rfl,wpAny_pure h⟩))
theorem Zld:SlR X (fun x lo hi H Q=>∃ a xs,x = .ref a ∧ SqT X.K H a xs ∧ (HT.sIx xs.length 0 lo = 0 ∧ HT.sIx xs.length xs.length hi = xs.length) ∧ Q (.ref a) H):=by
 intro pins s σ H x v vl vu lo hi sl Q I rx hs pl pu h
 obtain ⟨a,xs,rfl,hx,hw,q⟩:=h
 cases rx
 obtain ⟨its,r,ht,hz⟩:=I.tuple hx
 have hlen:its.toArray.size = xs.length:=by rw [List.size_toArray]; exact r.length.symm
 refine ⟨"tuple",_,PyProof.Rows.slot_tuple_getitem.lookup,ht.typeIs,?_⟩
 exact ZdQ ht hs pl pu (by rw [hlen]; exact hw) ⟨.ref a,H,I,rfl,q⟩
theorem Zft:SlR X (rS X.K):=SlR.imp (SlR.or (SlR.or Zgw Zld) (SlR.or Zk9 Znz)) fun x lo hi H Q zz1=>by
 obtain ⟨ι,M,a,S,ra,h⟩:=zz1
 have ex:∀ n d o,HT.sIx n d o = sIx n d o:=fun n d o=>by cases o <;> rfl
 cases a with
 | tup ds=>
  simp only [Zeu] at h
  obtain ⟨p,vs,rfl,s,r⟩:=ra.tup_inv
  by_cases hw:sIx ds.length 0 lo = 0 ∧ sIx ds.length ds.length hi = ds.length
  ·refine .inl (.inr ⟨p,vs,rfl,s,by rw [ex,ex,r.length]; exact hw,?_⟩)
   have e:cutD ds lo hi = ds:=by unfold cutD; rw [hw.1,hw.2]; simp
   rw [e] at h
   exact Zw.ok h S (Rep.tup s r)
  ·refine .inl (.inl ⟨p,vs,rfl,s,by rw [ex,ex,r.length]; exact hw,fun q hq=>?_⟩)
   obtain ⟨x2,S2,r2⟩:=S.tupl hq (ZhP r lo hi)
   exact h _ _ _ x2 S2 r2
 | scr ds=>
  simp only [Zeu] at h
  obtain ⟨p,vs,rfl,s,r⟩:=ra.scr_inv
  refine .inr (.inl ⟨p,vs,rfl,s.sq,fun q hq=>?_⟩)
  obtain ⟨x2,S2,r2⟩:=S.lst hq (ZhP r lo hi)
  exact h _ _ _ x2 S2 r2
 | str z=>
  simp only [Zeu] at h
  split at h
  ·rename_i hz
   exact .inr (.inr ⟨z,ra.str_inv,hz,Zw.ok h S Rep.str⟩)
  ·exact h.elim
 | ref n=>
  simp only [Zeu] at h
  cases hn:M[n]? with
  | none=>simp only [hn] at h; exact h.elim
  | some o=>
   cases o with
   | dct _=>simp only [hn] at h; exact h.elim
   | fdct _=>simp only [hn] at h; exact h.elim
   | ins _ _=>simp only [hn] at h; exact h.elim
   | lst ds=>
    simp only [hn] at h
    obtain ⟨p,hp,rfl⟩:=ra.ref_inv
    obtain ⟨vs,e,r⟩:=S.obj n _ p hn hp
    refine .inr (.inl ⟨p,vs,rfl,SqL.of e,fun q hq=>?_⟩)
    obtain ⟨x2,S2,r2⟩:=S.lst hq (ZhP r lo hi)
    exact h _ _ _ x2 S2 r2
 | _=>exact h.elim
theorem Zc4 {K:PySem.W.Frag} {H:Hp} {ι:List Addr} {d:D} {xs:List V} (r:Zj K H ι [d] xs):∃ x,xs = [x] ∧ Rep K H ι d x:=by
 obtain ⟨v,ws,rfl,r1,r2⟩:=r.cons_inv
 have:=r2.nil_inv
 subst this
 exact ⟨v,rfl,r1⟩
theorem ZdA:ZaK X (.builtin "len") (rB X.K Zbi):=ZaK.imp Zkv fun xs H Q zz1=>by
 obtain ⟨ι,M,ds,S,rd,h⟩:=zz1
 cases ds with
 | nil=>exact h.elim
 | cons d ds=>
  cases ds with
  | cons _ _=>cases d <;> exact h.elim
  | nil=>
   obtain ⟨x,rfl,r⟩:=Zc4 rd
   cases d with
   | tup z=>
    obtain ⟨p,vs,rfl,s,r'⟩:=r.tup_inv
    exact ⟨_,vs.length,rfl,.inr ⟨vs,s,rfl⟩,by rw [r'.length]; exact Zw.ok h S Rep.int⟩
   | scr z=>
    obtain ⟨p,vs,rfl,s,r'⟩:=r.scr_inv
    exact ⟨_,vs.length,rfl,.inl ⟨vs,s.sq,rfl⟩,by rw [r'.length]; exact Zw.ok h S Rep.int⟩
   | str z=>
    simp only [Zbi] at h
    split at h
    ·rename_i hz
     have:=r.str_inv
     subst this
     refine ⟨_,z.length,rfl,⟨?_,?_⟩,Zw.ok h S Rep.int⟩
     ·show z.toArray.size ≤ sizeLine
      rw [List.size_toArray]
      exact Nat.le_trans hz Za7
     ·show z.length = z.toArray.size
      rw [List.size_toArray]
    ·exact h.elim
   | ref n=>
    cases hn:M[n]? with
    | none=>simp only [Zbi,hn] at h; exact h.elim
    | some o=>
     cases o with
     | dct _=>simp only [Zbi,hn] at h; exact h.elim
     | fdct _=>simp only [Zbi,hn] at h; exact h.elim
     | ins _ _=>simp only [Zbi,hn] at h; exact h.elim
     | lst z=>
      simp only [Zbi,hn] at h
      obtain ⟨p,hp,rfl⟩:=r.ref_inv
      obtain ⟨vs,e,r'⟩:=S.obj n _ p hn hp
      exact ⟨_,vs.length,rfl,.inl ⟨vs,SqL.of e,rfl⟩,by rw [r'.length]; exact Zw.ok h S Rep.int⟩
   | _=>exact h.elim
theorem ZcB:ZaK X (.type "tuple") (rB X.K ZaF):=ZaK.imp Zfz fun xs H Q zz1=>by
 obtain ⟨ι,M,ds,S,rd,h⟩:=zz1
 cases ds with
 | nil=>exact h.elim
 | cons d ds=>
  cases ds with
  | cons _ _=>cases d <;> exact h.elim
  | nil=>
   obtain ⟨x,rfl,r⟩:=Zc4 rd
   cases d with
   | tup z=>
    obtain ⟨p,vs,rfl,s,r'⟩:=r.tup_inv
    exact ⟨p,vs,rfl,.inr ⟨s,Zw.ok h S (Rep.tup s r')⟩⟩
   | scr z=>
    obtain ⟨p,vs,rfl,s,r'⟩:=r.scr_inv
    refine ⟨p,vs,rfl,.inl ⟨s.sq,fun q hq=>?_⟩⟩
    obtain ⟨x2,S2,r2⟩:=S.tupl hq r'
    exact h _ _ _ x2 S2 r2
   | ref n=>
    cases hn:M[n]? with
    | none=>simp only [ZaF,hn] at h; exact h.elim
    | some o=>
     cases o with
     | dct _=>simp only [ZaF,hn] at h; exact h.elim
     | fdct _=>simp only [ZaF,hn] at h; exact h.elim
     | ins _ _=>simp only [ZaF,hn] at h; exact h.elim
     | lst z=>
      simp only [ZaF,hn] at h
      obtain ⟨p,hp,rfl⟩:=r.ref_inv
      obtain ⟨vs,e,r'⟩:=S.obj n _ p hn hp
      refine ⟨p,vs,rfl,.inl ⟨SqL.of e,fun q hq=>?_⟩⟩
      obtain ⟨x2,S2,r2⟩:=S.tupl hq r'
      exact h _ _ _ x2 S2 r2
   | _=>exact h.elim
end
end L3
namespace L3
open PySem PySem.Spec PyProof.Rows L2
theorem ZcJ:bootBuiltins "len" = some (.builtin "len"):=by decide +kernel
theorem Zjv:bootBuiltins "all" = some (.builtin "all"):=by decide +kernel
theorem ZfY:bootBuiltins "sum" = some (.builtin "sum"):=by decide +kernel
theorem Zfy:bootBuiltins "isinstance" = some (.builtin "isinstance"):=by decide +kernel
theorem Znl:bootBuiltins "int" = some (.type "int"):=by decide +kernel
theorem ZjJ:bootBuiltins "str" = some (.type "str"):=by decide +kernel
theorem Zcb:bootBuiltins "tuple" = some (.type "tuple"):=by decide +kernel
section
variable {X:Cx} {a:Expr} {pos p p2:Pos} {f:E3}
noncomputable def tyN:Ty3 → String
 | .int=>"int" | .bool=>"bool" | .str=>"str" | .list=>"list" | .tuple=>"tuple"
theorem ZdS (K:PySem.W.Frag) (t:String) (T:Ty3) (ht:t ∈ ["NoneType","bool","int","str","list","tuple","dict"]):
  PySem.W.kitOne K (.type t) (.type (tyN T)) = some (t == tyN T || (t == "bool" && tyN T == "int")):=by
 simp only [List.mem_cons,List.not_mem_nil,or_false] at ht
 rcases ht with rfl | rfl | rfl | rfl | rfl | rfl | rfl <;> cases T <;> kernel_rfl
theorem ZoI (T:Ty3):bootBuiltins (tyN T) = some (.type (tyN T)):=by cases T <;> decide +kernel
theorem Zlz {pins:List (Addr × Obj)} {σ:St} {H:Hp} {s:Shared} {ι:List Addr} {M:Store} {A:Around} {E:Value → Shared → Prop} {Q:Value → Shared → Prop} {T:Ty3} {d:D} {x:V} {u:Value} {b:Bool} (I:Inv X pins σ H s) (S:Zy X.K H ι M) (r:Rep X.K H ι d x) (ru:RelV x u)
  (e:Zfp T d M = some b) (h:∀ tk,Q (.bool b) { s with toks:=tk }):wpAny (model X.prog X.w) A (call (.builtin "isinstance") [u,.type (tyN T)]) Q E s:=by
 cases d with
 | non=>
  have:=r.non_inv; subst this
  have hb:b = false:=by simpa [Zfp] using e.symm
  subst hb
  exact Zcr I ru (.non) ((ZdS X.K "NoneType" T (by simp)).trans (by cases T <;> rfl)) h
 | bl c=>
  have:=r.bl_inv; subst this
  have hb:b = (T == .bool || T == .int):=by simpa [Zfp] using e.symm
  subst hb
  exact Zcr I ru (.bl c) ((ZdS X.K "bool" T (by simp)).trans (by cases T <;> rfl)) h
 | int i=>
  have:=r.int_inv; subst this
  have hb:b = (T == .int):=by simpa [Zfp] using e.symm
  subst hb
  exact Zcr I ru (.int i) ((ZdS X.K "int" T (by simp)).trans (by cases T <;> rfl)) h
 | str z=>
  have:=r.str_inv; subst this
  have hb:b = (T == .str):=by simpa [Zfp] using e.symm
  subst hb
  exact Zcr I ru (.str _) ((ZdS X.K "str" T (by simp)).trans (by cases T <;> rfl)) h
 | tup ds=>
  obtain ⟨a,vs,rfl,st,rr⟩:=r.tup_inv
  cases ru
  have hb:b = (T == .tuple):=by simpa [Zfp] using e.symm
  subst hb
  obtain ⟨its,_,pt,_⟩:=I.tuple st
  obtain ⟨o,h1,h2,_⟩:=pt
  exact PySem.W.kia_one PySem.W.kitx_tuple I.kIn ⟨o,h1,h2⟩ ((ZdS X.K "tuple" T (by simp)).trans (by cases T <;> rfl)) (fun z=>nomatch z) h
 | scr ds=>simp [Zfp] at e
 | ref n=>
  simp only [Zfp] at e
  cases hn:M[n]? with
  | none=>simp [hn] at e
  | some o=>
   obtain ⟨a,ha,rfl⟩:=r.ref_inv
   cases o with
   | lst z=>
    have hb:b = (T == .list):=by simpa [hn] using e.symm
    subst hb
    obtain ⟨vs,ev,_⟩:=S.obj n _ a hn ha
    exact Zcr I ru (.lst ev) ((ZdS X.K "list" T (by simp)).trans (by cases T <;> rfl)) h
   | dct z=>
    have hb:b = false:=by simpa [hn] using e.symm
    subst hb
    obtain ⟨vs,ev,_⟩:=S.obj n _ a hn ha
    exact Zcr I ru (.dK ev) ((ZdS X.K "dict" T (by simp)).trans (by cases T <;> rfl)) h
   | fdct z=>simp [hn] at e
   | ins _ _=>simp [hn] at e
theorem Zev (T:Ty3) {x:Str} (hm:X.mg "isinstance" = none) (hm2:X.mg x = none) (h:C3 X a f) (hx:x = (Str.ofString (tyN T)):=by rfl) (hg:Gl X "isinstance":=by rfl) (hg2:Gl X x:=by rfl)
  (hn:x ≠ "__name__":=by decide) (hd:(x == ("__debug__":Str)) = false:=by decide)
  (hs:starEach (a :: [.Name x p2]) X.env = (false,eval a X.env) :: starEach [.Name x p2] X.env:=by rfl) (hs2:starEach (.Name x p2 :: []) X.env = (false,eval (.Name x p2) X.env) :: starEach [] X.env:=by rfl)
  (hpl:(backTo pos (starEach [.Name x p2] X.env)).any (·.1) = false:=by rfl):C3 X (.Call (.Name "isinstance" p) [a,.Name x p2] [] pos) (e1 (Zc5 T) f):=by
 subst hx
 have hc:ZaK X (.builtin "isinstance") (fun xs H Q=>∃ ι M d x,xs = [x,.ty (tyN T)] ∧ Zy X.K H ι M ∧ Rep X.K H ι d x ∧ Zw X.K H ι Q (Zc5 T d M)):=by
  intro pins s σ H xs us Q I r q
  obtain ⟨ι,M,d,x,rfl,S,rd,q⟩:=q
  obtain ⟨u,w',rfl,ru,rw'⟩:=vals2 r
  cases rw'
  unfold Zc5 at q
  cases e:Zfp T d M with
  | none=>rw [e] at q; exact q.elim
  | some b=>
   rw [e] at q
   exact Zlz I S rd ru e fun tk=>⟨.bl b,H,I.tok _,rfl,Zw.ok q S Rep.bl⟩
 refine (ZgY hc hg hm Zfy (Zgy h (Zgy (Zlf hg2 hm2 (ZoI T) (v:=.ty (tyN T)) rfl hn hd) Zkk hs2) hs) (by decide) (by decide) hs hpl).imp fun σ H Q zz1=>?_
 obtain ⟨ι,M,env,S,E,h⟩:=zz1
 obtain ⟨d,M1,e1,h⟩:=Zw.bind h
 refine ⟨ι,M,env,S,E,?_⟩
 rw [e1]
 intro v H1 ι1 x1 S1 r1
 exact ⟨ι1,M1,d,v,rfl,S1,r1,h.up x1⟩
theorem ZdD {p:D → Bool}:∀ {l:List D} {e:Nat → Bool},(∀ (j:Nat) d,l[j]? = some d → e j = p d) → (List.range l.length).all e = l.all p
 | [],_,_=>rfl
 | d :: l,e,h=>by
  rw [List.length_cons,List.range_succ_eq_map,List.all_cons,List.all_map,h 0 d rfl,List.all_cons]
  congr 1
  exact ZdD fun j d' hj=>h (j + 1) d' (by simpa using hj)
theorem ZlY (hc:X.calm = true):ZaK X (.builtin "all") (rB X.K Zfx):=by
 intro pins s σ H xs us Q I rs h
 obtain ⟨ι,M,ds,S,rd,h⟩:=h
 cases ds with
 | nil=>exact h.elim
 | cons d ds=>
  cases ds with
  | cons _ _=>cases d <;> exact h.elim
  | nil=>
   obtain ⟨x,rfl,r⟩:=Zc4 rd
   obtain ⟨u,rfl,ru⟩:=vals1 rs
   cases d with
   | ref n=>
    cases hn:M[n]? with
    | none=>simp only [Zfx,hn] at h; exact h.elim
    | some o=>
     cases o with
     | dct _=>simp only [Zfx,hn] at h; exact h.elim
     | fdct _=>simp only [Zfx,hn] at h; exact h.elim
     | ins _ _=>simp only [Zfx,hn] at h; exact h.elim
     | lst z=>
      simp only [Zfx,hn] at h
      cases q:allB z with
      | none=>rw [q] at h; exact h.elim
      | some b=>
       rw [q] at h
       obtain ⟨a,ha,rfl⟩:=r.ref_inv
       cases ru
       obtain ⟨vs,ev,rv⟩:=S.obj n _ a hn ha
       obtain ⟨its,rr,pl,_⟩:=I.list (SqL.of ev)
       have hz:z.all isB = true ∧ z.all isT = b:=by
        unfold allB at q
        split at q
        ·rename_i hz
         exact ⟨hz,Option.some.inj q⟩
        ·cases q
       have hlen:its.toArray.size = z.length:=by rw [List.size_toArray,← rr.length,rv.length]
       have hhd:X.A.in1.handled = none:=I.ok.hd hc
       refine call_all_walk (wpAny_pyIter_list pl.isList ⟨s.heap.objs.size,_,_,_,_,_,(fun j=>match z[j]? with | some d=>isT d | none=>true),rfl,Walks.list hhd s.heap.objs.size a (Nat.ne_of_lt (I.hok.lt ev)) its.toArray,⟨⟨_,Heap.get?_push_size _ rfl,rfl,rfl⟩,pl.isList.at fun o e=>Heap.get?_push_of_some _ e⟩,?_,?_⟩)
       ·intro j v s' Q' E' hv hq
        have hv':its[j]? = some v:=by simpa using hv
        have hj:j < z.length:=by
         have:=(List.getElem?_eq_some_iff.mp hv').1
         rw [← List.size_toArray,hlen] at this
         exact this
        have e1:z[j]? = some z[j]:=by simp [hj]
        have hb:=List.all_eq_true.mp hz.1 _ (List.getElem_mem hj)
        obtain ⟨w,g1,g2⟩:=rv.get e1
        obtain ⟨u',k1,k2⟩:=rr.get g1
        rw [hv'] at k1
        cases k1
        have hq':Q' (isT z[j]) s':=by
         have:=hq
         simp only [e1] at this
         exact this
        generalize z[j] = dj at hb g2 hq'
        cases dj with
        | bl c=>
         have:=g2.bl_inv
         subst this
         cases k2
         exact wpAny_truthy_bool hq'
        | _=>simp [isB] at hb
       ·intro h' tk kk
        rw [hlen,ZdD (p:=isT) (fun j d hd=>by rw [hd]),hz.2]
        exact ⟨.bl b,H,I.kept (fun c o e=>kk c o (by simp; exact Nat.ne_of_lt (Heap.lt_size e)) (Heap.get?_push_of_some _ e)),rfl,Zw.ok h S Rep.bl⟩
   | _=>exact h.elim
end
noncomputable def ZlS (outer:List (Str × NameKind)) (N:List Str) (scope:Scope) (N':List Str) (own:Nat):Bool:=
 (scope.names.all fun y=>decide (y.2 ≠ .cell) && (decide (y.2 ≠ .free) || decide (outer.lookup y.1 = some .cell) || decide (outer.lookup y.1 = some .free)) && (decide (y.2 ≠ .local) || decide (scope.names.lookup y.1 = some .local))) &&
  decide (N'.length = N.length + own) && Zjz N N' scope
theorem Zcq {X:Cx} {scope:Scope} {N':List Str} {own:Nat} (hk:scope.kind = .function) (h:ZlS X.env.scope.names X.N scope N' own = true):ZgB X scope N' own:=by
 simp only [ZlS,Bool.and_eq_true,decide_eq_true_eq,List.all_eq_true,Bool.or_eq_true] at h
 obtain ⟨⟨h1,h2⟩,h3⟩:=h
 refine ⟨hk,fun y hy=>(h1 y hy).1.1,fun y hy e=>?_,fun y hy e=>?_,h2,h3⟩
 ·rcases (h1 y hy).1.2 with (q | q) | q
  ·exact absurd e q
  ·exact .inl q
  ·exact .inr q
 ·rcases (h1 y hy).2 with q | q
  ·exact absurd e q
  ·exact q
theorem ZaQ {K:PySem.W.Frag} {h:Heap} {mg:Str → Option Value} (KX:K.In h) (G:h.Ns mainGlobals mg) {x:Str} {st:Stmt} {f:Addr} {oc:Value} {od an:Option Addr} {osl:Array (Option Value)} {dV kV doc pm cdv ct:Value}
  (a:PySem.W.nsIn K mainGlobals x = some (some (.ref f))) (l:K.lookup f = some ⟨oc,od,.func (PySem.W.fnOf x x (Zau st) (Zam st) (Zm st) dV kV doc pm an cdv ct),osl⟩)
  (c:PySem.W.codeIn K cdv x = true) (k:PySem.W.keepIn K (.ref f) = true) {ps:List Str} (b:Binds K (PySem.W.fnOf x x (Zau st) (Zam st) (Zm st) dV kV doc pm an cdv ct) ps []):ZaN K mg x st ps:=⟨f,_,ZjQ l c k,PySem.W.mg_of KX G a,b⟩
theorem Zn3 {l:PySem.W.OpenLaw} {k:Nat} {q:Program} {loose:List Str} {XP:(Str → Option Value) → Heap → Prop} {YP:World → Heap → Prop} {d:DefRec} {K:Params → PySem.W.Frag} {F:F3} (hn:l.most = some 63) (hdf:d.params.defaults = []) (hr:Zcf k callerA)
  (hY:∀ (w:World) (h:Heap),YP w h → (K w.params).In h)
  (G:∀ (w:World) (mg:Str → Option Value) (fa:Addr) (h:Heap),(K w.params).In h → h.Ns mainGlobals mg → mg d.name = some (.ref fa) →
   ∃ fd:FuncData,(∀ (s:Shared) (u:Value),BindsTo s fd ⟨[u],[]⟩ [("script",u)]) ∧ ∀ base:Heap,(K w.params).In base → base.Ns mainGlobals mg → ZcH l.prog w (K w.params) mg base CX0 k fa fd ["script"] (sp3 (K w.params) 1 F))
  (hF:∀ ns:List Int,ns.length ≤ 63 → ∃ M',F [.scr (ns.map D.int)] [] = .ok (.bl true) M'):
  PySem.W.WalkO q loose XP YP l.row.toRowW d [] (fun f vs=>PySem.call f vs):=
 L2.Zh8 (n:=63) (k:=k) (x:="script") (CX:=fun _=>CX0) (sp:=fun w=>sp3 (K w.params) 1 F) hn (by decide) hdf hr hY G (fun w H a ns hl hO hS=>by
  obtain ⟨M',e⟩:=hF ns hl
  refine ⟨[],[],[.scr (ns.map D.int)],⟨rfl,List.nodup_nil,fun n o a h=>by simp at h⟩,Zj.cons ?_ Zj.nil,rfl,?_⟩
  ·simp only [Rep]
   refine ⟨a,ns.map V.int,rfl,?_,Zj.ints ns⟩
   rcases hS with (h | ⟨o,h⟩) | h
   ·rcases hO a with z | ⟨ob,xs,z⟩
    ·rw [h] at z; cases z
    ·rw [h] at z; cases z
   ·exact .inl ⟨o,h⟩
   ·exact .inr h
  ·rw [e]
   exact fun v H' ι' _ _ r=>r.bl_inv) fun _ _ _ _ _ z=>z
end L3
namespace L3
open PySem PySem.Spec PyProof.Rows L2
theorem ZhE {a b:Zbd} (h:dk a = dk b):a = b:=by
 cases a with
 | inl i=>cases b with
  | inl j=>simp only [dk,Sum.inl.injEq] at h; rw [h]
  | inr y=>simp [dk] at h
 | inr x=>cases b with
  | inl j=>simp [dk] at h
  | inr y=>
   simp only [dk,Sum.inr.injEq,Str.mk.injEq] at h
   have:=congrArg Array.toList h
   simp at this
   rw [this]
theorem Zis {K:PySem.W.Frag} {H:Hp} {ι:List Addr} {b:D} {y:V} {k:Zbd} (h:Zi6 b = some k) (r:Rep K H ι b y):y = kV (dk k):=by
 cases b with
 | int i=>cases h; exact r.int_inv
 | str x=>cases h; exact r.str_inv
 | _=>simp [Zi6] at h
section
variable {K:PySem.W.Frag} {H H':Hp} {ι ι':List Addr} {M:Store} {p:Addr}
theorem KvR.nil:KvR K H ι [] []:=⟨rfl,Zj.nil⟩
theorem KvR.cons {k:Zbd} {d:D} {v:V} {kvs:List (Zbd × D)} {ws:List (Key × V)} (h:Rep K H ι d v) (r:KvR K H ι kvs ws):KvR K H ι ((k,d) :: kvs) ((dk k,v) :: ws):=
 ⟨by simp [r.1],Zj.cons h r.2⟩
theorem KvR.cons_inv {q:Zbd × D} {kvs:List (Zbd × D)} {ws:List (Key × V)} (r:KvR K H ι (q :: kvs) ws):∃ v ws',ws = (dk q.1,v) :: ws' ∧ Rep K H ι q.2 v ∧ KvR K H ι kvs ws':=by
 obtain ⟨h1,h2⟩:=r
 cases ws with
 | nil=>simp at h1
 | cons w ws=>
  simp only [List.map_cons,List.cons.injEq] at h1
  obtain ⟨v,us,e,r1,r2⟩:=Zj.cons_inv h2
  simp only [List.map_cons,List.cons.injEq] at e
  exact ⟨w.2,ws,by rw [← h1.1],e.1 ▸ r1,h1.2,e.2 ▸ r2⟩
theorem KvR.nil_inv {ws:List (Key × V)} (r:KvR K H ι [] ws):ws = []:=by simpa using r.1
theorem KvR.mono {kvs:List (Zbd × D)} {ws:List (Key × V)} (r:KvR K H ι kvs ws) (e:Ext K H ι H' ι'):KvR K H' ι' kvs ws:=⟨r.1,r.2.mono e⟩
theorem KvR.length {kvs:List (Zbd × D)} {ws:List (Key × V)} (r:KvR K H ι kvs ws):ws.length = kvs.length:=by
 have:=congrArg List.length r.1
 simpa using this
theorem KvR.val {kvs:List (Zbd × D)} (k:Zbd):∀ {ws:List (Key × V)},KvR K H ι kvs ws → match Zdy kvs k with | some d=>∃ v,ZdK ws (dk k) = some v ∧ Rep K H ι d v | none=>ZdK ws (dk k) = none:=by
 induction kvs with
 | nil=>intro ws r; rw [r.nil_inv]; exact ZkH
 | cons q kvs ih=>
  intro ws r
  obtain ⟨v,ws',rfl,r1,r2⟩:=r.cons_inv
  obtain ⟨k',d⟩:=q
  unfold Zdy
  by_cases e:k' = k
  ·rw [if_pos e]
   exact ⟨v,Zd7 (by rw [e]),r1⟩
  ·rw [if_neg e,Zd0 fun z=>e (ZhE z)]
   exact ih r2
theorem KvR.append {k1 k2:List (Zbd × D)} {w1 w2:List (Key × V)} (a:KvR K H ι k1 w1) (b:KvR K H ι k2 w2):KvR K H ι (k1 ++ k2) (w1 ++ w2):=
 ⟨by simp [a.1,b.1],by rw [List.map_append,List.map_append]; exact a.2.append b.2⟩
theorem KvR.any {kvs:List (Zbd × D)} (k:Zbd):∀ {ws:List (Key × V)},KvR K H ι kvs ws → (ws.any fun kv=>decide (kv.1 = dk k)) = (kvs.any fun q=>decide (q.1 = k)):=by
 induction kvs with
 | nil=>intro ws r; rw [r.nil_inv]; rfl
 | cons q kvs ih=>
  intro ws r
  obtain ⟨v,ws',rfl,r1,r2⟩:=r.cons_inv
  rw [List.any_cons,List.any_cons,ih r2]
  congr 1
  by_cases e:q.1 = k
  ·simp [e]
  ·simp [e]; exact fun z=>e (ZhE z)
theorem KvR.put {kvs:List (Zbd × D)} {k:Zbd} {d:D} {v:V} {ws:List (Key × V)} (r:KvR K H ι kvs ws) (rd:Rep K H ι d v):KvR K H ι (putD k d kvs) (putK ws (dk k) v):=by
 unfold putD putK
 rw [r.any k]
 by_cases c:(kvs.any fun q=>decide (q.1 = k)) = true
 ·rw [if_pos c,if_pos c]
  clear c
  induction kvs generalizing ws with
  | nil=>rw [r.nil_inv]; exact KvR.nil
  | cons q kvs ih=>
   obtain ⟨u,ws',rfl,r1,r2⟩:=r.cons_inv
   rw [List.map_cons,List.map_cons]
   by_cases e:q.1 = k
   ·rw [if_pos e,if_pos (by rw [e])]; exact KvR.cons rd (ih r2)
   ·rw [if_neg e,if_neg fun z=>e (ZhE z)]; exact KvR.cons r1 (ih r2)
 ·rw [if_neg c,if_neg c]
  exact r.append (KvR.cons rd KvR.nil)
theorem KvR.merge {l:List (Zbd × D)}:∀ {kvs:List (Zbd × D)} {ws us:List (Key × V)},KvR K H ι l us → KvR K H ι kvs ws → KvR K H ι (l.foldl (fun acc p=>putD p.1 p.2 acc) kvs) (Zej ws us):=by
 induction l with
 | nil=>intro kvs ws us r r0; rw [r.nil_inv]; exact r0
 | cons q l ih=>
  intro kvs ws us r r0
  obtain ⟨v,us',rfl,r1,r2⟩:=r.cons_inv
  exact ih (ws:=putK ws (dk q.1) v) (us:=us') r2 (r0.put r1)
theorem Zy.dct (S:Zy K H ι M) (hp:H p = none) {kvs:List (Zbd × D)} {ws:List (Key × V)} (r:KvR K H ι kvs ws):Ext K H ι (upd H p (.dK ws)) (ι ++ [p]) ∧ Zy K (upd H p (.dK ws)) (ι ++ [p]) (M ++ [.dct kvs]) ∧ Rep K (upd H p (.dK ws)) (ι ++ [p]) (.ref M.length) (.ref p):=by
 have e:Ext K H ι (upd H p (.dK ws)) (ι ++ [p]):=Loose.extA (.inl hp)
 exact ⟨e,S.new hp ⟨ws,Zcd,r.mono e⟩,Rep.ref (by rw [← S.len]; simp)⟩
theorem Zy.setd (S:Zy K H ι M) {n:Nat} (l0:Loose H p) (hn:ι[n]? = some p) {kvs:List (Zbd × D)} {ws:List (Key × V)} (r:KvR K H ι kvs ws):Ext K H ι (upd H p (.dK ws)) ι ∧ Zy K (upd H p (.dK ws)) ι (M.set n (.dct kvs)):=by
 have e:Ext K H ι (upd H p (.dK ws)) ι:=Loose.ext l0
 exact ⟨e,S.put l0 hn ⟨ws,Zcd,r.mono e⟩⟩
end
section
variable {X:Cx} {a b c e o:Expr} {es:List Expr} {pos p pos' apos cpos:Pos} {f g h:E3} {gl:EL3}
noncomputable def ZhS (K:PySem.W.Frag) (H:Hp) (ι:List Addr) (Q:List (V × V) → Hp → Prop) (r:R3 (List (Zbd × D))):Prop:=match r with
 | .ok l M'=>∀ ws H' ι',Ext K H ι H' ι' → Zy K H' ι' M' → KvR K H' ι' l ws → Q (ws.map fun kv=>(kV kv.1,kv.2)) H'
 | _=>False
theorem ZhS.bind {K:PySem.W.Frag} {H:Hp} {ι:List Addr} {α:Type} {Q:List (V × V) → Hp → Prop} {r:R3 α} {k:α → Store → R3 (List (Zbd × D))} (h:ZhS K H ι Q (r.bind k)):∃ a M,r = .ok a M ∧ ZhS K H ι Q (k a M):=by
 cases r with
 | ok a M=>exact ⟨a,M,rfl,h⟩
 | exc x M=>exact h.elim
 | bad=>exact h.elim
noncomputable def CD (X:Cx) (pos:Pos) (ks:List (Option Expr)) (vs:List Expr) (r:EP3):Prop:=
 ∃ trs,PPs X pos ks vs trs ∧ ∀ σ H Q,(∃ ι M env,Zy X.K H ι M ∧ Zbj X.K H ι env σ ∧ ZhS X.K H ι Q (r env M)) → Zgt trs σ H Q
theorem Zm8:CD X pos [] [] Zn4:=⟨[],ZlJ,fun σ H Q ⟨ι,M,env,S,E,h⟩=>h [] H ι Ext.refl S KvR.nil⟩
theorem Zc1 {k v:Expr} {ks:List (Option Expr)} {vs:List Expr} {r:EP3} (hk:C3 X k f) (hv:C3 X v g) (hr:CD X pos ks vs r):CD X pos (some k :: ks) (v :: vs) (ZeI f g r):=by
 obtain ⟨trs,hp,ht⟩:=hr
 refine ⟨_,Zj2 hk hv hp,fun σ H Q ⟨ι,M,env,S,E,h⟩=>?_⟩
 obtain ⟨a,M1,e1,h⟩:=ZhS.bind h
 obtain ⟨b,M2,e2,h⟩:=ZhS.bind h
 refine ⟨ι,M,env,S,E,?_⟩
 rw [e1]
 intro x H1 ι1 x1 S1 r1
 refine ⟨ι1,M1,env,S1,E.mono x1,?_⟩
 rw [e2]
 intro y H2 ι2 x2 S2 r2
 cases hkd:Zi6 a with
 | none=>simp only [hkd] at h; exact h.elim
 | some kk=>
  simp only [hkd] at h
  obtain ⟨l,M3,e3,h⟩:=ZhS.bind h
  refine ht σ H2 _ ⟨ι2,M2,env,S2,(E.mono x1).mono x2,?_⟩
  rw [e3]
  intro ws H3 ι3 x3 S3 r3
  have:=h ((dk kk,y) :: ws) H3 ι3 ((x1.trans x2).trans x3) S3 (KvR.cons (r2.mono x3) r3)
  rw [List.map_cons,← Zis hkd r1] at this
  exact this
theorem Zom {ks:List (Option Expr)} {vs:List Expr} {r:EP3} (hr:CD X pos ks vs r) (hall:ks.all (·.isSome) = true:=by rfl) (hl:ks.length = vs.length:=by rfl) (h0:ks ≠ []:=by exact List.cons_ne_nil _ _) (h15:ks.length ≤ 15:=by decide):C3 X (.Dict ks vs pos) (Zoa r):=by
 obtain ⟨trs,hp,ht⟩:=hr
 refine (Zk1 hp hall hl h0 h15).imp fun σ H Q ⟨ι,M,env,S,E,h⟩ p hp=>?_
 obtain ⟨x1,S1,r1⟩:=S.dct hp KvR.nil
 obtain ⟨l,M1,e1,h⟩:=Zw.bind h
 refine ht σ _ _ ⟨_,_,env,S1,E.mono x1,?_⟩
 rw [e1]
 intro ws H2 ι2 x2 S2 r2
 have hip:ι2[M.length]? = some p:=x2.pre _ _ (by rw [← S.len]; simp)
 split at h
 ·rename_i hm
  obtain ⟨ws0,hw0,k0⟩:=S2.obj _ _ _ hm hip
  rw [k0.nil_inv] at hw0
  split at h
  ·rename_i h15'
   refine ⟨hw0,ws,rfl,by rw [r2.length]; exact h15',?_⟩
   obtain ⟨x3,S3⟩:=S2.setd (.inr (.inr (.inl ⟨_,hw0⟩))) hip (KvR.merge (kvs:=[]) (ws:=[]) r2 KvR.nil)
   exact h _ _ _ ((x1.trans x2).trans x3) S3 (Rep.ref hip)
  ·exact h.elim
 ·exact h.elim
theorem hu1 (hu:X.A.units + 80 < cLine):X.A.units + 1 < cLine:=lB 1 7331617893452817 T1 hu
theorem ZmK {K:PySem.W.Frag} {H:Hp} {ι:List Addr} {M:Store} (S:Zy K H ι M) {n:Nat} {kvs:List (Zbd × D)} {a:Addr} (h:Zkf M[n]? = some kvs) (ha:ι[n]? = some a):∃ ws,Rd H a (.dK ws) ∧ KvR K H ι kvs ws:=by
 cases hn:M[n]? with
 | none=>simp [hn] at h
 | some ob=>
  cases ob with
  | lst _=>simp [hn] at h
  | dct k=>
   have e:k = kvs:=by simpa [hn] using h
   subst e
   obtain ⟨ws,hw,kr⟩:=S.obj n _ a hn ha
   exact ⟨ws,.inl hw,kr⟩
  | fdct k=>
   have e:k = kvs:=by simpa [hn] using h
   subst e
   obtain ⟨ws,⟨o,hw⟩,kr⟩:=S.obj n _ a hn ha
   exact ⟨ws,.inr ⟨o,hw⟩,kr⟩
  | ins _ _=>simp [hn] at h
theorem ZnC (hu:X.A.units + 80 < cLine) (ha:C3 X a f) (hb:C3 X b g) (hs:Zja b:=by exact fun _ _=>rfl):C3 X (.Subscript a b pos) (e2 Zhz f g):=(Zll (hu1 hu) ha hb hs).imp fun σ H Q zz1=>by
 obtain ⟨ι,M,env,S,E,h⟩:=zz1
 obtain ⟨d,M1,e1,h⟩:=Zw.bind h
 obtain ⟨k,M2,e2,h⟩:=Zw.bind h
 refine ⟨ι,M,env,S,E,?_⟩
 rw [e1]
 intro x H1 ι1 x1 S1 r1
 refine ⟨ι1,M1,env,S1,E.mono x1,?_⟩
 rw [e2]
 intro y H2 ι2 x2 S2 r2
 cases d with
 | ref n=>
  simp only [Zhz] at h
  cases hn:Zkf M2[n]? with
  | none=>simp only [hn] at h; exact h.elim
  | some kvs=>
   cases hk:Zi6 k with
   | none=>simp only [hn,hk] at h; exact h.elim
   | some kk=>
    simp only [hn,hk] at h
    cases hv:Zdy kvs kk with
    | none=>simp only [hv] at h; exact h.elim
    | some w=>
     simp only [hv] at h
     obtain ⟨ad,ha,rfl⟩:=(r1.mono x2).ref_inv
     obtain ⟨ws,hw,kr⟩:=ZmK S2 hn ha
     have hv':=kr.val kk
     rw [hv] at hv'
     obtain ⟨v,ev,rv⟩:=hv'
     refine ⟨ad,v,rfl,?_,h v H2 ι2 (x1.trans x2) S2 rv⟩
     rw [Zis hk r2,← ev]
     exact .inl ⟨ws,dk kk,hw,rfl,rfl⟩
 | _=>exact h.elim
end
end L3
namespace L3
open PySem PySem.W PyProof.Rows
section
variable {lt:Nat → Nat → Bool}
structure Zf6 (lt:Nat → Nat → Bool):Prop where
 asym:∀ {a b},lt a b = true → lt b a = false
 tr:∀ {a b c},lt b a = false → lt c b = false → lt c a = false
theorem Zf6.rf (o:Zf6 lt) (a:Nat):lt a a = false:=by
 cases h:lt a a
 ·rfl
 ·exact h ▸ o.asym h
end
end L3
namespace L3
open PySem PySem.W PyProof.Rows
section
noncomputable def Zku {α:Type} (n:Nat) (R:α → Prop):KasT α → Prop
 | .ret a=>R a
 | .ask i j k=>i < n ∧ j < n ∧ ∀ b,Zku n R (k b)
theorem Zku.bind {α β:Type} {n:Nat} {R:α → Prop} {R':β → Prop} {f:α → KasT β} (hf:∀ a,R a → Zku n R' (f a)):∀ {t:KasT α},Zku n R t → Zku n R' (t.bind f)
 | .ret a,h=>hf a h
 | .ask _ _ _,⟨h1,h2,h3⟩=>⟨h1,h2,fun b=>(h3 b).bind hf⟩
variable {n:Nat}
end
section
variable {prog:Program} {w:World} {A:Around} {E:Value → Shared → Prop} {s:Shared}
end
end L3
namespace L3
open PySem PySem.W PySem.Spec PyProof.Rows L2
section
variable {prog:Program} {w:World} {A:Around} {K:PySem.W.Frag} {H:Hp} {ι:List Addr}
end
section
variable {X:Cx}
theorem Zj.pick {K:PySem.W.Frag} {H:Hp} {ι:List Addr} {x:List D} {vs:List V} (r:Zj K H ι x vs) (d0:D) (v0:V):∀ (p:List Nat),(∀ i ∈ p,i < x.length) → Zj K H ι (p.map fun i=>x.getD i d0) (p.map fun i=>vs.getD i v0)
 | [],_=>Zj.nil
 | i :: p,h=>by
  have hi:=h i List.mem_cons_self
  obtain ⟨v,e,q⟩:=r.get (i:=i) (d:=x[i]) (by simp [hi])
  refine Zj.cons ?_ (Zj.pick r d0 v0 p fun j hj=>h j (List.mem_cons_of_mem _ hj))
  dsimp only
  rw [List.getD_eq_getElem?_getD,List.getD_eq_getElem?_getD,e,List.getElem?_eq_getElem hi]; exact q
theorem Vals.pick {vs:List V} {us:List Value} (r:Vals vs us) (v0:V):∀ (p:List Nat),(∀ i ∈ p,i < vs.length) → Vals (p.map fun i=>vs.getD i v0) (p.map fun i=>us.getD i Value.none)
 | [],_=>.nil
 | i :: p,h=>by
  have hi:=h i List.mem_cons_self
  obtain ⟨v,e,q⟩:=r.get (i:=i) (x:=vs[i]) (by simp [hi])
  refine .cons ?_ (Vals.pick r v0 p fun j hj=>h j (List.mem_cons_of_mem _ hj))
  dsimp only
  rw [List.getD_eq_getElem?_getD,List.getD_eq_getElem?_getD,e,List.getElem?_eq_getElem hi]; exact q
end
end L3
namespace L3
open PySem PySem.Spec PyProof.Rows L2
section
variable {X:Cx} {a b c e o:Expr} {es:List Expr} {pos p apos cpos:Pos} {f g h:E3} {gl:EL3}
theorem Zok:ZaK X (.type "int") (rB X.K Zo1):=ZaK.imp Ziz fun xs H Q zz1=>by
 obtain ⟨ι,M,ds,S,rd,h⟩:=zz1
 cases ds with
 | nil=>exact h.elim
 | cons d ds=>
  cases ds with
  | cons _ _=>cases d <;> exact h.elim
  | nil=>
   obtain ⟨x,rfl,r⟩:=Zc4 rd
   cases d with
   | int i=>exact .inl ⟨i,by rw [r.int_inv],Zw.ok h S Rep.int⟩
   | bl k=>exact .inr ⟨k,by rw [r.bl_inv],Zw.ok h S Rep.int⟩
   | _=>exact h.elim
theorem ZfO {K:PySem.W.Frag} {H:Hp} {ι:List Addr}:∀ {x:List D} {ns:List Int} {vs:List V} {us:List Value},ZbZ x = some ns → Zj K H ι x vs → Vals vs us → IntsAre us ns
 | [],ns,vs,us,h,r,v=>by
  have e:=r.nil_inv; subst e; cases v
  have:ns = []:=by simpa [ZbZ] using h.symm
  subst this; exact .nil
 | .int i :: x,ns,vs,us,h,r,v=>by
  obtain ⟨u,vs',rfl,r1,r2⟩:=r.cons_inv
  have e:=r1.int_inv; subst e
  cases v with
  | @cons _ z _ us' rz rzs=>
  obtain ⟨t,rfl⟩:=rz
  simp only [ZbZ] at h
  cases hx:ZbZ x with
  | none=>rw [hx] at h; cases h
  | some ms=>
   rw [hx] at h
   have:ns = i :: ms:=by simpa using h.symm
   subst this
   exact .cons i t (ZfO hx r2 rzs)
 | .non :: _,_,_,_,h,_,_=>by simp [ZbZ] at h
 | .bl _ :: _,_,_,_,h,_,_=>by simp [ZbZ] at h
 | .str _ :: _,_,_,_,h,_,_=>by simp [ZbZ] at h
 | .tup _ :: _,_,_,_,h,_,_=>by simp [ZbZ] at h
 | .scr _ :: _,_,_,_,h,_,_=>by simp [ZbZ] at h
 | .ref _ :: _,_,_,_,h,_,_=>by simp [ZbZ] at h
theorem Zkc {pins:List (Addr × Obj)} {σ:St} {H:Hp} {s:Shared} {Q:VK} {l:Addr} {vs:List V} {x:List D} {ns:List Int} {ι:List Addr} (hc:X.calm = true) (I:Inv X pins σ H s) (sq:SqL X.K H l vs) (r:Zj X.K H ι x vs) (hx:ZbZ x = some ns) (q:Q (.int ns.sum) H):
  wpAny (model X.prog X.w) X.A (call (.builtin "sum") [.ref l]) (EP X pins σ Q) X.xe s:=by
 obtain ⟨its,rr,pl,zl⟩:=I.list sq
 have ia:=ZfO hx r rr
 obtain ⟨ys,hy⟩:=ia.allInts.items
 refine sum_intListG (I.ok.hd hc) (by rw [← hy]; exact pl.isList) fun h' tk t' hk=>⟨.int ns.sum,H,I.kept hk,⟨t',?_⟩,q⟩
 have e1:ns = ys.toList.map (·.1):=by rw [← nums_intItems,← hy]; exact (show numsOf its.toArray.toList = ns from ia.numsOf).symm
 rw [preSum_eq,List.take_of_length_le (by simp),← e1]
theorem Zh3 (hc:X.calm = true):ZaK X (.builtin "sum") (rB X.K Zdp):=by
 intro pins s σ H xs us Q I rs ⟨ι,M,ds,S,rd,h⟩
 cases ds with
 | nil=>exact h.elim
 | cons d ds=>
  cases ds with
  | cons _ _=>cases d <;> exact h.elim
  | nil=>
   obtain ⟨x,rfl,r⟩:=Zc4 rd
   obtain ⟨u,rfl,ru⟩:=vals1 rs
   cases d with
   | ref n=>
    cases hn:M[n]? with
    | none=>simp only [Zdp,hn] at h; exact h.elim
    | some ob=>
     cases ob with
     | dct _=>simp only [Zdp,hn] at h; exact h.elim
     | fdct _=>simp only [Zdp,hn] at h; exact h.elim
     | ins _ _=>simp only [Zdp,hn] at h; exact h.elim
     | lst z=>
      simp only [Zdp,hn] at h
      cases q:ZbZ z with
      | none=>rw [q] at h; exact h.elim
      | some ns=>
       rw [q] at h
       obtain ⟨a,ha,rfl⟩:=r.ref_inv
       cases ru
       obtain ⟨vs,ev,rv⟩:=S.obj n _ a hn ha
       exact Zkc hc I (SqL.of ev) rv q (Zw.ok h S Rep.int)
   | scr z=>
    simp only [Zdp] at h
    cases q:ZbZ z with
    | none=>rw [q] at h; exact h.elim
    | some ns=>
     rw [q] at h
     obtain ⟨a,vs,rfl,sq,rv⟩:=r.scr_inv
     cases ru
     exact Zkc hc I sq.sq rv q (Zw.ok h S Rep.int)
   | _=>exact h.elim
end
section
variable {X:Cx} {pins:List (Addr × Obj)} {σ:St} {H:Hp} {s:Shared} {d:Addr} {ws:List (Key × V)} {ob:Obj}
end
section
variable {X:Cx} {tg e elt:Expr} {ifs:List Expr} {pos:Pos} {f fe:E3} {ts:List E3} {g:G3} {scope:Scope} {N':List Str} {own:Nat}
end
end L3
namespace L3
open PySem PySem.Spec PyProof.Rows L2
section
variable {prog:Program} {w:World} {A:Around} {E:Value → Shared → Prop} {s:Shared}
end
section
variable {X:Cx}
end
end L3
namespace L3
open PySem PySem.Spec PyProof.Rows L2
theorem Zlt {X:Cx} {sts:List Stmt}:CSs X sts ZfU:=fun _ _ _ _ _ _ ⟨_,_,_,_,_,h⟩=>h.elim
end L3
namespace L3
open PySem PySem.Spec PyProof.Rows L2
section
variable {X:Cx} {o e:Expr} {es:List Expr} {apos cpos:Pos} {f:E3} {gl:EL3}
end
end L3
namespace L3
open PySem PySem.Spec PyProof.Rows L2
section
variable {X:Cx} {a b c e o:Expr} {es:List Expr} {pos p apos cpos:Pos} {f g h:E3} {gl:EL3}
theorem Zi8:ZaK X (.type "str") (fun xs H Q=>(∃ i,xs = [.int i] ∧ i.natAbs.log2 < 1920 ∧ Q (.str (toString i)) H) ∨ ∃ x,xs = [.str x] ∧ Q (.str x) H):=by
 intro pins s σ H xs us Q I r h
 rcases h with h | ⟨x,rfl,q⟩
 ·exact Zf0 pins s σ H xs us Q I r h
 ·obtain ⟨u,rfl,t,rfl⟩:=vals1 r
  exact PySem.P.str_of_str ⟨.str x,H,I,⟨t,rfl⟩,q⟩
theorem ZlQ:ZaK X (.type "str") (rB X.K ZdP):=ZaK.imp Zi8 fun xs H Q zz1=>by
 obtain ⟨ι,M,ds,S,rd,h⟩:=zz1
 cases ds with
 | nil=>exact h.elim
 | cons d ds=>
  cases ds with
  | cons _ _=>cases d <;> exact h.elim
  | nil=>
   obtain ⟨x,rfl,r⟩:=Zc4 rd
   cases d with
   | int i=>
    simp only [ZdP] at h
    split at h
    ·rename_i hz
     refine .inl ⟨i,by rw [r.int_inv],hz,Zw.ok h S ?_⟩
     have:=Rep.str (K:=X.K) (H:=H) (ι:=ι) (x:=Zh i)
     exact this
    ·exact h.elim
   | str z=>exact .inr ⟨_,by rw [r.str_inv],Zw.ok h S Rep.str⟩
   | _=>exact h.elim
theorem ZfC {K:PySem.W.Frag} {H:Hp} {ι:List Addr}:∀ {x:List D} {ts:List (List Nat)} {vs:List V} {us:List Value},Zcu x = some ts → Zj K H ι x vs → Vals vs us → ∃ l:List (Str × Tok),us = strValues l ∧ l.map (·.1) = ts.map fun t=>(⟨t.toArray⟩:Str)
 | [],ns,vs,us,h,r,v=>by
  have e:=r.nil_inv; subst e; cases v
  have:ns = []:=by simpa [Zcu] using h.symm
  subst this; exact ⟨[],rfl,rfl⟩
 | .str i :: x,ns,vs,us,h,r,v=>by
  obtain ⟨u,vs',rfl,r1,r2⟩:=r.cons_inv
  have e:=r1.str_inv; subst e
  cases v with
  | @cons _ z _ us' rz rzs=>
  obtain ⟨t,rfl⟩:=rz
  simp only [Zcu] at h
  cases hx:Zcu x with
  | none=>rw [hx] at h; cases h
  | some ms=>
   rw [hx] at h
   have:ns = i :: ms:=by simpa using h.symm
   subst this
   obtain ⟨l,rfl,e⟩:=ZfC hx r2 rzs
   exact ⟨(_,t) :: l,rfl,by simp [e]⟩
 | .non :: _,_,_,_,h,_,_=>by simp [Zcu] at h
 | .bl _ :: _,_,_,_,h,_,_=>by simp [Zcu] at h
 | .int _ :: _,_,_,_,h,_,_=>by simp [Zcu] at h
 | .tup _ :: _,_,_,_,h,_,_=>by simp [Zcu] at h
 | .scr _ :: _,_,_,_,h,_,_=>by simp [Zcu] at h
 | .ref _ :: _,_,_,_,h,_,_=>by simp [Zcu] at h
theorem Zeq (sep:List Nat):∀ ts:List (List Nat),Str.join (⟨sep.toArray⟩:Str) (ts.map fun t=>(⟨t.toArray⟩:Str)) = ⟨(glue sep ts).toArray⟩
 | []=>rfl
 | [x]=>rfl
 | x :: y :: xs=>by
  have ih:=Zeq sep (y :: xs)
  simp only [List.map_cons] at ih ⊢
  simp only [Str.join,glue] at ih ⊢
  rw [ih]
  show (⟨(x.toArray ++ sep.toArray) ++ (glue sep (y :: xs)).toArray⟩:Str) = _
  simp
theorem Zmx {sep:List Nat} {ts:List (List Nat)} (h:Zbp sep ts ≤ SZ):JoinOk (⟨sep.toArray⟩:Str) (ts.map fun t=>(⟨t.toArray⟩:Str)) = true:=by
 have gen:∀ (ts:List (List Nat)) (k:Nat),List.foldl (fun x1 (x2:Str)=>x1 + x2.length + (⟨sep.toArray⟩:Str).length) k (ts.map fun t=>(⟨t.toArray⟩:Str)) = k + Zbp sep ts:=by
  intro ts
  induction ts with
  | nil=>intro k; simp [Zbp]
  | cons t ts ih=>
   intro k
   simp only [List.map_cons,List.foldl_cons,ih]
   simp [Zbp,Str.length]; exact Nat.le_antisymm (lD 0 0x321cc0c3210ccc0 T1) (lD 0 0x3210ccc321cc0c0 T1)
 unfold JoinOk Builtin.Str.tooLong
 rw [List.foldl_toArray,gen]
 have:sizeLine ≥ SZ:=Za7
 simp only [Nat.zero_add,Bool.not_eq_true',decide_eq_false_iff_not]
 exact fun z=>lC 3 0x6210102011011 T1 z this h
theorem ZmE:MtR X "str.join" (rM X.K ZdG):=by
 intro pins s σ H x xs v us Q I rx rs h
 obtain ⟨ι,M,a,ds,S,ra,rd,h⟩:=h
 cases a with
 | str sep=>
  cases ds with
  | nil=>exact h.elim
  | cons d ds=>
   cases ds with
   | cons _ _=>cases d <;> exact h.elim
   | nil=>
    cases d with
    | ref n=>
     simp only [ZdG] at h
     cases hn:M[n]? with
     | none=>simp only [hn] at h; exact h.elim
     | some ob=>
      cases ob with
      | dct _=>simp only [hn] at h; exact h.elim
      | fdct _=>simp only [hn] at h; exact h.elim
      | ins _ _=>simp only [hn] at h; exact h.elim
      | lst z=>
       simp only [hn] at h
       cases hs:Zcu z with
       | none=>simp only [hs] at h; exact h.elim
       | some ts=>
        simp only [hs] at h
        split at h
        ·rename_i hz
         have:=ra.str_inv
         subst this
         obtain ⟨w',ws,rfl,r1,r2⟩:=rd.cons_inv
         have:=r2.nil_inv
         subst this
         obtain ⟨p,hp,rfl⟩:=r1.ref_inv
         obtain ⟨t,rfl⟩:=rx
         obtain ⟨u,rfl,ru⟩:=vals1 rs
         cases ru
         obtain ⟨vs,e,rv⟩:=S.obj n _ p hn hp
         obtain ⟨its,rr,pl,zl⟩:=I.list (SqL.of e)
         obtain ⟨l,rfl,el⟩:=ZfC hs rv rr
         refine SC.join pl.isList el (Zmx hz) fun t' k=>⟨.str _,H,I.tok _,⟨t',rfl⟩,?_⟩
         rw [Txt.join,StrLaws.glued_eq_join,Zeq]
         exact Zw.ok h S Rep.str
        ·exact h.elim
    | _=>exact h.elim
 | _=>exact h.elim
theorem ZdL (ho:C3 X o f) (ha:CA X (e :: es) gl)
  (hbase:attributeBase o "join" X.env (eval o X.env) = eval o X.env:=by rfl)
  (hfew:((backTo cpos (starEach (e :: es) X.env)).all (fun x=>!x.1) && (backToKw cpos (keywordEach [] X.env)).all (fun x=>x.1.isSome)
   && decide ((e :: es).length + ([]:List Keyword).length + (if ([]:List Keyword).isEmpty then 0 else 1) < 30)) = true:=by rfl)
  (hline:(apos.endLine == cpos.line) = true:=by rfl) (hs:starEach (e :: es) X.env = (false,eval e X.env) :: starEach es X.env:=by rfl) (hplain:(backTo cpos (starEach es X.env)).any (·.1) = false:=by rfl):
  C3 X (.Call (.Attribute o "join" apos) (e :: es) [] cpos) (ZaV tyS ZdG f gl):=
 (Zii PySem.F.plainAttrs_str PySem.F.slot_str_join PySem.F.type_str_join ZmE ho ha hbase hfew hline hs hplain).imp (Zgs Zhw)
end
end L3
namespace L3
open PySem PySem.Spec PyProof.Rows L2
section
variable {X:Cx} {a b c e o:Expr} {es:List Expr} {pos p apos cpos:Pos} {f g h:E3} {gl:EL3}
theorem ZiE {prog:Program} {w:World} {A:Around} {E:Value → Shared → Prop} {s:Shared} {x:Str} {t:Tok} {Q:Value → Shared → Prop} {y:Str} {u:Tok}
  (hy:(y.length == 0) = false) (hz:x.length + 2 ≤ sizeLine)
  (h:∀ (l:List (Str × Tok)) (k:Nat),l.map (·.1) = Txt.split x y → l.length ≤ x.length + 2 → Q (.ref s.heap.objs.size) { s with heap:=s.heap.push { cls:=.type "list",data:=.seq (strValues l).toArray },toks:=k }):
  wpAny (model prog w) A (call (.builtin "str.split") [.str x t,.str y u]) Q E s:=by
 have e1:=StrLaws.occ_length_le x y 0 x.length (x.length + 1)
 have e2:=length_partsBetween x (Builtin.Str.occurrences x y 0 x.length (x.length + 1)) y.length
 have hn:(Builtin.Str.partsBetween x (Builtin.Str.occurrences x y 0 x.length (x.length + 1)) y.length).length ≤ sizeLine:=lD 3 0x300321b2c01a2c101a1c021 T1 e2 e1 hz
 cases h1:(decide (x.length < y.length) || decide (Builtin.Str.strKind x < Builtin.Str.strKind y)) with
 | true=>
  exact call_meets F.slot_str_split (typeIs_str s x t) F.entry_str_split (F.args_str_split_2 (.str x t) (.str y u)) (meets_str_split_cannot_occur x y t u h1)
   (h [(x,t)] s.toks (if_pos h1).symm (by simp))
 | false=>
  cases hf:(Builtin.Str.occurrences x y 0 x.length (x.length + 1)).isEmpty with
  | true=>
   exact call_meets F.slot_str_split (typeIs_str s x t) F.entry_str_split (F.args_str_split_2 (.str x t) (.str y u)) (meets_str_split_not_found x y t u h1 hy hf)
    (h [(x,t)] s.toks ((if_neg (ne_true_of_eq_false h1)).trans (if_pos hf)).symm (by simp))
  | false=>
   refine call_meets F.slot_str_split (typeIs_str s x t) F.entry_str_split (F.args_str_split_2 (.str x t) (.str y u)) (meets_str_split_sep x y t u h1 hy hf (lB 1 1099815390209 T1 hz) hn) ?_
   rw [strsFrom_eq]
   refine h (numbered s.toks _) _ ((numbered_texts s.toks _).trans ((if_neg (ne_true_of_eq_false h1)).trans (if_neg (ne_true_of_eq_false hf))).symm) ?_
   have e3:=congrArg List.length (numbered_texts s.toks (Builtin.Str.partsBetween x (Builtin.Str.occurrences x y 0 x.length (x.length + 1)) y.length))
   rw [List.length_map] at e3
   exact lD 3 0x21b3c00a3c201a2c1211021 T1 e3 e2 e1
theorem Zfm:ZaK X (.type "int") (fun xs H Q=>∃ x n,xs = [.str x] ∧ intText? x = some n ∧ x.length ≤ 640 ∧ Q (.int n) H):=by
 intro pins s σ H xs us Q I r h
 obtain ⟨x,n,rfl,hn,hz,q⟩:=h
 obtain ⟨u,rfl,t,rfl⟩:=vals1 r
 exact PySem.W.KIN.call_text hn hz ⟨.int n,H,I.tok _,⟨_,rfl⟩,q⟩
theorem Zmo:ZaK X (.type "int") (rB X.K Ze3):=ZaK.imp (ZaK.or Zok Zfm) fun xs H Q zz1=>by
 obtain ⟨ι,M,ds,S,rd,h⟩:=zz1
 match ds,rd,h with
 | [.str x],rd,h=>
  obtain ⟨v,rfl,r⟩:=Zc4 rd
  simp only [Ze3] at h
  cases hn:PySem.intText? ⟨x.toArray⟩ with
  | none=>rw [hn] at h; exact h.elim
  | some n=>
   rw [hn] at h
   dsimp only at h
   split at h
   ·rename_i hz
    exact .inr ⟨_,n,by rw [r.str_inv],hn,by simpa [Str.length] using hz,Zw.ok h S Rep.int⟩
   ·exact h.elim
 | [],rd,h=>exact h.elim
 | [.int i],rd,h=>exact .inl ⟨ι,M,_,S,rd,h⟩
 | [.bl i],rd,h=>exact .inl ⟨ι,M,_,S,rd,h⟩
 | [.non],rd,h=>exact h.elim
 | [.tup _],rd,h=>exact h.elim
 | [.scr _],rd,h=>exact h.elim
 | [.ref _],rd,h=>exact h.elim
 | .str _ :: _ :: _,rd,h=>exact h.elim
 | .int _ :: _ :: _,rd,h=>exact h.elim
 | .bl _ :: _ :: _,rd,h=>exact h.elim
 | .non :: _ :: _,rd,h=>exact h.elim
 | .tup _ :: _ :: _,rd,h=>exact h.elim
 | .scr _ :: _ :: _,rd,h=>exact h.elim
 | .ref _ :: _ :: _,rd,h=>exact h.elim
theorem ZeW {K:PySem.W.Frag} {H:Hp} {ι:List Addr}:∀ (l:List (Str × Tok)),Vals (l.map fun p=>V.str p.1) (strValues l) ∧ Zj K H ι ((l.map fun p=>p.1.cps.toList).map D.str) (l.map fun p=>V.str p.1)
 | []=>⟨.nil,Zj.nil⟩
 | p :: l=>⟨.cons ⟨p.2,rfl⟩ (ZeW (K:=K) (H:=H) (ι:=ι) l).1,Zj.cons (Rep.str (x:=p.1.cps.toList)) (ZeW l).2⟩
theorem m_split:MtR X "str.split" (rM X.K ZcI):=by
 intro pins s σ H x xs v us Q I rx rs h
 obtain ⟨ι,M,a,ds,S,ra,rd,h⟩:=h
 cases a with
 | str z=>
  cases ds with
  | nil=>exact h.elim
  | cons d ds=>
   cases ds with
   | cons _ _=>cases d <;> exact h.elim
   | nil=>
    cases d with
    | str y=>
     simp only [ZcI] at h
     split at h
     ·rename_i hz
      have:=ra.str_inv
      subst this
      obtain ⟨w',ws,rfl,r1,r2⟩:=rd.cons_inv
      have:=r2.nil_inv
      subst this
      have:=r1.str_inv
      subst this
      obtain ⟨t,rfl⟩:=rx
      obtain ⟨u,rfl,ru⟩:=vals1 rs
      obtain ⟨t',rfl⟩:=ru
      have zl:=Za7
      refine ZiE ?_ ?_ fun l k hl hn=>?_
      ·have:=hz.1
       simp [Str.length]; intro e; subst e; simp at this
      ·simp only [Str.length,List.size_toArray]; exact Nat.le_trans hz.2 zl
      ·have hq:=I.fresh
       obtain ⟨v1,r'⟩:=ZeW (K:=X.K) (H:=H) (ι:=ι) l
       have e1:(l.map fun p=>p.1.cps.toList) = Zct z y:=by
        rw [Zct,← hl,List.map_map]; rfl
       rw [e1] at r'
       obtain ⟨x2,S2,r2⟩:=S.lst hq r'
       refine ⟨.ref s.heap.objs.size,_,I.laid (fun b o' e=>Heap.get?_push_of_some _ e) (Nat.le_refl _) (show ZaP X.prog X.w _ _ _ (.lst (l.map fun p=>V.str p.1)) from ⟨?_,strValues l,_,v1,Heap.get?_push_size _ rfl⟩),rfl,h _ _ _ x2 S2 r2⟩
       simp only [List.length_map,Str.length,List.size_toArray] at hn ⊢; exact lD 3 0x300221b1c01320121b1c001 T1 hn zl hz.2
     ·exact h.elim
    | _=>exact h.elim
 | _=>exact h.elim
theorem ZeB (ho:C3 X o f) (ha:CA X (e :: es) gl)
  (hbase:attributeBase o "split" X.env (eval o X.env) = eval o X.env:=by rfl)
  (hfew:((backTo cpos (starEach (e :: es) X.env)).all (fun x=>!x.1) && (backToKw cpos (keywordEach [] X.env)).all (fun x=>x.1.isSome)
   && decide ((e :: es).length + ([]:List Keyword).length + (if ([]:List Keyword).isEmpty then 0 else 1) < 30)) = true:=by rfl)
  (hline:(apos.endLine == cpos.line) = true:=by rfl) (hs:starEach (e :: es) X.env = (false,eval e X.env) :: starEach es X.env:=by rfl) (hplain:(backTo cpos (starEach es X.env)).any (·.1) = false:=by rfl):
  C3 X (.Call (.Attribute o "split" apos) (e :: es) [] cpos) (ZaV tyS ZcI f gl):=
 (Zii PySem.F.plainAttrs_str PySem.F.slot_str_split PySem.F.type_str_split m_split ho ha hbase hfew hline hs hplain).imp (Zgs Zhw)
end
end L3
namespace L3
open PySem PySem.Spec PyProof.Rows L2
section
variable {X:Cx} {a b c e o:Expr} {es:List Expr} {pos p p1 p2 p3 pt apos cpos:Pos} {f g h:E3} {gl:EL3}
end
end L3
namespace L3
open PySem PySem.Spec PyProof.Rows L2
section
variable {X:Cx} {tg e:Expr} {pos:Pos} {f:E3} {g:G3}
end
section
variable {X:Cx} {tg e elt:Expr} {ifs:List Expr} {pos:Pos} {f fe:E3} {ts:List E3} {g:G3} {scope:Scope} {N':List Str} {own:Nat}
end
noncomputable def Zoz (K:PySem.W.Frag) (H:Hp) (ι:List Addr) (it:ItL) (J:It):Prop:=∀ (i:Nat) H2 ι2 M2,Ext K H ι H2 ι2 → Zy K H2 ι2 M2 → Zba it.lk M2 = true →
 (∀ d,it.items[i]? = some d → J.go i H2 ∧ ∀ x H3,J.yld i H2 x H3 → Ext K H2 ι2 H3 ι2 ∧ Zy K H3 ι2 M2 ∧ Rep K H3 ι2 d x) ∧ (i = it.items.length → J.stop i H2)
noncomputable def Ze0 (K:PySem.W.Frag) (H:Hp) (ι:List Addr) (R:It → Hp → Prop) (r:R3 ItL):Prop:=match r with
 | .ok it M'=>∀ J H' ι',Ext K H ι H' ι' → Zy K H' ι' M' → Zoz K H' ι' it J → R J H'
 | _=>False
noncomputable def tIL (K:PySem.W.Frag) (g:IL3):TI:=fun σ H R=>∃ ι M env,Zy K H ι M ∧ Zbj K H ι env σ ∧ Ze0 K H ι R (g env M)
noncomputable def CIL (X:Cx) (tg e:Expr) (g:IL3):Prop:=PI X tg e (tIL X.K g)
theorem Ze0.bind {K:PySem.W.Frag} {H:Hp} {ι:List Addr} {α:Type} {Q:It → Hp → Prop} {r:R3 α} {k:α → Store → R3 ItL} (h:Ze0 K H ι Q (r.bind k)):∃ a M,r = .ok a M ∧ Ze0 K H ι Q (k a M):=by
 cases r with
 | ok a M=>exact ⟨a,M,rfl,h⟩
 | exc x M=>exact h.elim
 | bad=>exact h.elim
section
variable {X:Cx} {tg:Expr} {pos:Pos}
theorem ZgE {iter:Expr} {body:List Stmt} {i:IL3} {g:G3} {u:S3} (hxe:X.xe = fun _ _=>False) (hc:X.calm = true) (hi:CIL X tg iter i) (hg:CG X tg g) (hb:CSs X body u) (hs:∀ x,foldedSetIterable iter X.env x = pure x:=by intro _; rfl):
  CS X (.For tg iter body [] pos) (Zdb i g u):=(Zkp (by rw [hxe]; exact PassesOwn.never) hc hi hg hb hs).imp fun D σ H zz1=>by
 obtain ⟨ι,M,env,S,E,h⟩:=zz1
 unfold Zdb at h
 cases q:i env M with
 | exc x M1=>rw [q] at h; exact h.elim
 | bad=>rw [q] at h; exact h.elim
 | ok it M1=>
  rw [q] at h
  refine ⟨ι,M,env,S,E,?_⟩
  rw [q]
  intro J H1 ι1 x1 S1 ok
  refine ⟨fun i m σ2 H2=>m = it.items.length - i ∧ i ≤ it.items.length ∧ ∃ ι2 M2 env2,Ext X.K H1 ι1 H2 ι2 ∧ Zy X.K H2 ι2 M2 ∧ Zbj X.K H2 ι2 env2 σ2 ∧ ZeM X.K H2 ι2 D (ZcU it.lk g u (it.items.drop i) env2 M2),
   ⟨_,rfl,Nat.zero_le _,ι1,M1,env,Ext.refl,S1,E.mono x1,ZeM.up x1 h⟩,?_⟩
  rintro i m σ2 H2 ⟨rfl,hi,ι2,M2,env2,x2,S2,E2,h2⟩
  by_cases hlt:i < it.items.length
  ·have hd:it.items[i]? = some it.items[i]:=by simp [hlt]
   rw [List.drop_eq_getElem_cons hlt] at h2
   unfold ZcU at h2
   by_cases lk:Zba it.lk M2 = true
   ·rw [if_pos lk] at h2
    obtain ⟨go,yl⟩:=(ok i H2 ι2 M2 x2 S2 lk).1 _ hd
    cases eg:g it.items[i] env2 with
    | none=>rw [eg] at h2; exact h2.elim
    | some env3=>
     rw [eg] at h2
     refine .inr ⟨go,fun σ' H'=>∃ ι3 M3 env4,Ext X.K H2 ι2 H' ι3 ∧ Zy X.K H' ι3 M3 ∧ Zbj X.K H' ι3 env4 σ' ∧ ZeM X.K H' ι3 D (ZcU it.lk g u (it.items.drop (i + 1)) env4 M3),
      fun σ' H' ⟨ι3,M3,env4,x3,S3,E3,h3⟩=>⟨it.items.length - (i + 1),lD 2 0x30113c2012a1c0c21 T1 (Nat.sub_add_cancel (lB 1 6991908881 T1 hlt)) (sbA _ _),rfl,hlt,ι3,M3,env4,x2.trans x3,S3,E3,h3⟩,fun x H' hy=>?_⟩
     obtain ⟨x7,S7,rx⟩:=yl x H' hy
     refine ⟨ι2,M2,env2,_,env3,S7,E2.mono x7,rx,eg,fun σ' E'=>⟨ι2,M2,env3,S7,E',?_⟩⟩
     have h2':=ZeM.up x7 h2
     cases qu:u env3 M2 with
     | nx e' M'=>simp only [qu] at h2'; exact fun σ' H' ι' x' S' E'=>⟨ι',M',e',x7.trans x',S',E',h2'.up x'⟩
     | ct e' M'=>simp only [qu] at h2'; exact fun σ' H' ι' x' S' E'=>⟨ι',M',e',x7.trans x',S',E',h2'.up x'⟩
     | bk e' M'=>simp only [qu] at h2'; exact h2'
     | rt d M'=>simp only [qu] at h2'; exact h2'
     | exc x' M'=>simp only [qu] at h2'; exact h2'.elim
     | bad=>simp only [qu] at h2'; exact h2'.elim
   ·rw [if_neg lk] at h2; exact h2.elim
  ·have e0:i = it.items.length:=Nat.le_antisymm hi (Nat.le_of_not_lt hlt)
   subst e0
   rw [List.drop_length] at h2
   unfold ZcU at h2
   by_cases lk:Zba it.lk M2 = true
   ·rw [if_pos lk] at h2
    exact .inl ⟨(ok _ H2 ι2 M2 x2 S2 lk).2 rfl,h2 σ2 H2 ι2 Ext.refl S2 E2⟩
   ·rw [if_neg lk] at h2; exact h2.elim
end
theorem _root_.L2.Inv.turnedL {X:Cx} {pins:List (Addr × Obj)} {σ:St} {H:Hp} {s:Shared} {h':Heap} {t':Nat} {fp:List Addr} (I:Inv X pins σ H s) (k:∀ b o,b ∉ fp → s.heap.get? b = some o → h'.get? b = some o) (hf:∀ b ∈ fp,Zdw X pins H b):
  Inv X pins σ H { s with heap:=h',toks:=t' }:=by
 have nit:∀ b u,H b = some u → b ∉ fp:=fun b u e z=>by rw [(hf b z).1] at e; cases e
 refine I.step (g':=s.gens) (d':=s.drawn) (ch:=fp) (fun b hb=>⟨(hf b hb).2.2.2.1,(hf b hb).2.1,(hf b hb).2.2.2.2.1,(hf b hb).2.2.2.2.2⟩) (fun b o _ _ hc e _=>k b o hc e) (fun b o _ _ hc e _=>⟨o.slots,k b o hc e⟩) (fun _ _ _ _ n=>n)
  (fun b o hc e=>⟨o,k b o hc e⟩) (fun _ _ e=>e) (fun _ _ _ e=>e) (fun b ps e=>⟨#[],by rw [e]; simp⟩) (fun m hm=>?_) (fun b u e=>?_) I.bare
 ·obtain ⟨o,es,ep,ho,r⟩:=hm
  exact ⟨o,es,ep,k _ o (fun z=>(hf _ z).2.1 rfl) ho,r⟩
 ·refine (I.hok b u e).stay (fun c v hc q=>k c v ?_ q) (fun _ q=>q) fun _ _ q=>q
  rcases hc with z | z
  ·rw [z]; exact nit b u e
  ·exact nit c _ z
theorem Zjf {X:Cx} {pins:List (Addr × Obj)} {σ:St} {H:Hp} {s:Shared} {h' h'':Heap} {e it:Addr} {i:Nat} {x:V} {u:Value} {tk tk':Nat} (I:Inv X pins σ H s) (hf:∀ b ∈ [e,it],Zdw X pins H b) (he:e < s.heap.objs.size) (hi:it < s.heap.objs.size) (ru:RelV x u)
  (hT:h'.get? s.heap.objs.size = some { cls:=.type "tuple",data:=.seq #[.int i tk,u] }) (hk:∀ b o,b ≠ e → b ≠ it → s.heap.get? b = some o → h'.get? b = some o) (hs:Heap.SameBut e h' h''):
  Inv X pins σ (upd H s.heap.objs.size (.tup [.int i,x])) { s with heap:=h'',toks:=tk' } ∧ ∀ b ∈ [e,it],upd H s.heap.objs.size (.tup [.int i,x]) b = none:=by
 have hn:∀ b ∈ [e,it],upd H s.heap.objs.size (.tup [.int i,x]) b = none:=fun b hb=>by
  have:b ≠ s.heap.objs.size:=by
   simp only [List.mem_cons,List.not_mem_nil,or_false] at hb
   rcases hb with rfl | rfl
   ·exact Nat.ne_of_lt he
   ·exact Nat.ne_of_lt hi
  rw [ZaG this]; exact (hf b hb).1
 refine ⟨?_,hn⟩
 have I1:Inv X pins σ (upd H s.heap.objs.size (.tup [.int i,x])) { s with heap:=s.heap.push { cls:=.type "tuple",data:=.seq ([.int i tk,u]:List Value).toArray },toks:=s.toks }:=
  I.laid (t':=s.toks) (fun b o e=>Heap.get?_push_of_some _ e) (Nat.le_refl _) (show ZaP X.prog X.w _ _ _ (.tup [.int i,x]) from ⟨by rw [sizeLine_eq]; show 2 ≤ _; decide,[.int i tk,u],.cons ⟨tk,rfl⟩ (.cons ru .nil),ZcL.new _ _⟩)
 have I3:=I1.turnedL (t':=tk') (h':=h'') (fp:=[e,it]) (fun b o hb q=>by
  have hbe:b ≠ e:=fun z=>hb (by simp [z])
  have hbi:b ≠ it:=fun z=>hb (by simp [z])
  rcases Heap.get?_push_cases q with ⟨rfl,rfl⟩ | q
  ·exact (hs.2 _ (Nat.ne_of_gt he)).trans hT
  ·exact (hs.2 _ hbe).trans (hk b o hbe hbi q)) fun b hb=>⟨hn b hb,(hf b hb).2⟩
 exact I3
theorem boot_enumerate:bootBuiltins "enumerate" = some (.type "enumerate"):=by decide +kernel
end L3
namespace L3
open PySem PySem.Spec PyProof.Rows L2
open AutoSeq1 (wpAny_loadPart')
set_option maxRecDepth 100000
section
variable {prog:Program} {w:World} {A:Around} {E:Value → Shared → Prop} {s:Shared}
theorem ZdZ {it t:Addr} {i:Nat} {items:Array Value} {x:Value} {Q:Value → Shared → Prop} (hit:s.heap.IsTupleIter it t i) (ht:s.heap.IsTuple t items) (hx:items[i]? = some x)
  (hQ:∀ h',h'.IsTupleIter it t (i + 1) → Heap.SameBut it s.heap h' → Q x { s with heap:=h' }):wpAny (model prog w) A (Builtin.SmallTypes.nextOf (.ref it)) Q E s:=by
 obtain ⟨o,ho,hc,hd⟩:=id hit
 obtain ⟨ol,hol,_,nl,hdl⟩:=ht
 unfold Builtin.SmallTypes.nextOf
 refine wpAny_bind (wpAny_callSpecial?_slot (name:=Str.ofString "__next__") hit.typeIs slot_tupleiter_next
  (wpAny_call_entry slot_tupleiter_next hit.typeIs entry_tupleiter_next ?_ (args_tupleiter_next _)))
 show wpAny _ _ (field (.ref it) 0 >>= _) _ _ s
 refine wpAny_bind (wpAny_field ho hd (x:=.ref t) rfl ?_)
 show wpAny _ _ (if (Value.ref t == Value.none) = true then _ else _) _ _ s
 rw [if_neg (show ¬ ((Value.ref t == Value.none) = true) from Bool.false_ne_true)]
 show wpAny _ _ (field (.ref it) 1 >>= _) _ _ s
 refine wpAny_bind (wpAny_field ho hd (x:=.int i 0) rfl ?_)
 show wpAny _ _ (seqItems? (.ref t) >>= _) _ _ s
 refine wpAny_bind (wpAny_seqItems hol hdl ?_)
 simp only [Int.toNat_natCast,hx]
 refine wpAny_bind (wpAny_setField ho hd (by simp) (wpAny_pure ⟨x,rfl,wpAny_pure (hQ _ ?_ (Heap.SameBut.update ..))⟩))
 exact ⟨_,Heap.get?_update_self _ ho (Obj.isFreed_of_fields (Obj.data_mapFields hd _)),(Obj.cls_mapFields ..).trans hc,by
  rw [Obj.data_mapFields hd]; simp [rawInt]⟩
theorem Zep {it t:Addr} {i:Nat} {items:Array Value} {Q:Value → Shared → Prop} (hh:A.handled = none) (hit:s.heap.IsTupleIter it t i) (ht:s.heap.IsTuple t items) (hx:items[i]? = none)
  (hE:∀ h' e,Heap.ExtBut it s.heap h' → (∃ o,h'.get? e = some o ∧ o.cls = .type "StopIteration") → E (.ref e) { s with heap:=h' }):wpAny (model prog w) A (Builtin.SmallTypes.nextOf (.ref it)) Q E s:=by
 obtain ⟨o,ho,hc,hd⟩:=id hit
 obtain ⟨ol,hol,_,nl,hdl⟩:=ht
 unfold Builtin.SmallTypes.nextOf
 refine wpAny_bind (wpAny_callSpecial?_slot (name:=Str.ofString "__next__") hit.typeIs slot_tupleiter_next
  (wpAny_call_entry slot_tupleiter_next hit.typeIs entry_tupleiter_next ?_ (args_tupleiter_next _)))
 show wpAny _ _ (field (.ref it) 0 >>= _) _ _ s
 refine wpAny_bind (wpAny_field ho hd (x:=.ref t) rfl ?_)
 show wpAny _ _ (if (Value.ref t == Value.none) = true then _ else _) _ _ s
 rw [if_neg (show ¬ ((Value.ref t == Value.none) = true) from Bool.false_ne_true)]
 show wpAny _ _ (field (.ref it) 1 >>= _) _ _ s
 refine wpAny_bind (wpAny_field ho hd (x:=.int i 0) rfl ?_)
 show wpAny _ _ (seqItems? (.ref t) >>= _) _ _ s
 refine wpAny_bind (wpAny_seqItems hol hdl ?_)
 simp only [Int.toNat_natCast,hx]
 refine wpAny_bind (wpAny_rule (wpAny_bind (wpAny_setField ho hd (by simp) ?_)))
 show wpAny _ _ (newExc (.type "StopIteration") [] >>= _) _ _ _
 refine wpAny_bind ?_
 simp only [newExc,newTuple]
 refine wpAny_bind (wpAny_newObj_type ?_ (by size_fits))
 refine wpAny_bind (m:=firstArgMember _ _) (wpAny_of_eq (a:=Value.none) (by first | rfl | (simp only [firstArgMember]; rfl)) ?_)
 refine wpAny_newObj_type ?_ (by size_fits)
 simp only [raiseNew]
 refine wpAny_bind (wpAny_handled ?_)
 first | rw [show A.in1.handled = none from hh] | rw [hh]
 refine wpAny_bind (wpAny_pure (wpAny_throw ?_))
 exact hE _ _ (((Heap.SameBut.update ..).extBut.push _).push _) ⟨_,Heap.get?_push_size _ rfl,rfl⟩
end
section
variable {X:Cx} {es:List Expr} {k:Nat} {a:Expr} {p pos tpos:Pos} {f:E3}
end
end L3
namespace L3
open PySem PySem.Spec PyProof.Rows L2
open AutoSeq1 (wpAny_loadPart')
open PySem.SeqAt MeetsSeq
set_option maxRecDepth 100000
end L3
namespace L3
open PySem PySem.Spec PyProof.Rows L2
section
variable {X:Cx} {o i p j e:Expr} {pos:Pos} {f g h fo fi fp fj:E3}
end
end L3
namespace L3
open PySem PySem.Spec PyProof.Rows L2
section
variable {X:Cx}
end
end L3
namespace L3
open PySem PySem.Spec PyProof.Rows L2
section
variable {prog:Program} {w:World} {A:Around} {E:Value → Shared → Prop} {s:Shared}
end
section
variable {X:Cx} {e:Expr} {es:List Expr} {pos:Pos} {f:E3}
end
end L3
namespace L3
open PySem PySem.Spec PyProof.Rows L2
section
variable {X:Cx} {a b c:Expr} {p p2 pos pos2:Pos} {f g h:E3}
end
end L3
namespace L3
open PySem PySem.Spec PyProof.Rows L2
open AutoSeq1 (wpAny_loadPart')
set_option maxRecDepth 100000
section
variable {X:Cx} {o e:Expr} {es:List Expr} {apos cpos:Pos} {f:E3} {gl:EL3}
end
end L3
namespace L3
open PySem PySem.Spec PyProof.Rows L2
set_option maxRecDepth 100000
noncomputable def Itz (S T:Hp → List V → Prop):It:=⟨fun i H=>∃ xs ys x y,S H xs ∧ T H ys ∧ xs[i]? = some x ∧ ys[i]? = some y,fun i H x H'=>∃ A a b,x = .ref A ∧ H A = none ∧ H' = upd H A (.tup [a,b]) ∧ (∀ xs,S H xs → xs[i]? = some a) ∧ ∀ ys,T H ys → ys[i]? = some b,
 fun i H=>∃ xs ys,S H xs ∧ T H ys ∧ (xs.length ≤ i ∨ ys.length ≤ i)⟩
theorem ZjI {X:Cx} {pins:List (Addr × Obj)} {σ:St} {H:Hp} {s:Shared} {h' h'':Heap} {fp:List Addr} {x y:V} {u v:Value} {tk':Nat} (I:Inv X pins σ H s) (hf:∀ b ∈ fp,Zdw X pins H b) (hlt:∀ b ∈ fp,b < s.heap.objs.size) (ru:RelV x u) (rv:RelV y v)
  (hT:h'.get? s.heap.objs.size = some { cls:=.type "tuple",data:=.seq #[u,v] }) (hk:∀ b o,b ∉ fp → s.heap.get? b = some o → h'.get? b = some o) (hs:∀ b o,b ∉ fp → h'.get? b = some o → h''.get? b = some o):
  Inv X pins σ (upd H s.heap.objs.size (.tup [x,y])) { s with heap:=h'',toks:=tk' } ∧ ∀ b ∈ fp,upd H s.heap.objs.size (.tup [x,y]) b = none:=by
 have hn:∀ b ∈ fp,upd H s.heap.objs.size (.tup [x,y]) b = none:=fun b hb=>by
  rw [ZaG (Nat.ne_of_lt (hlt b hb))]; exact (hf b hb).1
 refine ⟨?_,hn⟩
 have I1:Inv X pins σ (upd H s.heap.objs.size (.tup [x,y])) { s with heap:=s.heap.push { cls:=.type "tuple",data:=.seq ([u,v]:List Value).toArray },toks:=s.toks }:=
  I.laid (t':=s.toks) (fun b o e=>Heap.get?_push_of_some _ e) (Nat.le_refl _) (show ZaP X.prog X.w _ _ _ (.tup [x,y]) from ⟨by rw [sizeLine_eq]; show 2 ≤ _; decide,[u,v],.cons ru (.cons rv .nil),ZcL.new _ _⟩)
 have nT:s.heap.objs.size ∉ fp:=fun z=>Nat.lt_irrefl _ (hlt _ z)
 have I3:=I1.turnedL (t':=tk') (h':=h'') (fp:=fp) (fun b o hb q=>by
  rcases Heap.get?_push_cases q with ⟨rfl,rfl⟩ | q
  ·exact hs _ _ nT hT
  ·exact hs _ _ hb (hk b o hb q)) fun b hb=>⟨hn b hb,(hf b hb).2⟩
 exact I3
section
variable {X:Cx} {es:List Expr} {k:Nat} {a b:Expr} {p pos tpos:Pos} {f g:E3}
theorem Zi9:bootBuiltins "zip" = some (.type "zip"):=by decide +kernel
end
end L3
namespace L3
open PySem PySem.Spec PyProof.Rows L2
set_option maxRecDepth 100000
section
variable {X:Cx} {elt tg iter:Expr} {ifs:List Expr} {scope:Scope} {pos:Pos} {i:IL3} {own:Nat} {g:G3} {ts:List E3} {f:E3} {N':List Str}
end
end L3
namespace L3
open PySem PySem.W PyProof.Rows
section
variable {M:Model} {A:Around} {E:Value → Shared → Prop} {G:Shared → Prop}
noncomputable def TT (M:Model) (A:Around) (E:Value → Shared → Prop) (G:Shared → Prop) {α:Type} (m:StateT SortSt Sem α) (Q:α → SortSt → Prop) (st:SortSt):Prop:=∀ s,G s → kasC M A E m (fun a st' s'=>Q a st' ∧ G s') st s
end
structure Cmp (prog:Program) (w:World) (A:Around) (E:Value → Shared → Prop) (G:Shared → Prop) (κ:SortKind) (it:Array Keyed) (lt:Nat → Nat → Bool) (N:Nat):Prop where
 ok:Zf6 lt
 ask:∀ i j (C:Bool → Shared → Prop) s,i < N → j < N → G s → (∀ s',G s' → C (lt i j) s') → kas_cmp prog w A κ it i j C s
section
variable {prog:Program} {w:World} {A:Around} {E:Value → Shared → Prop} {G:Shared → Prop} {κ:SortKind} {it:Array Keyed} {lt:Nat → Nat → Bool} {N:Nat}
noncomputable abbrev ZhN (it:Array Keyed) (l:List Nat):Array Keyed:=(l.map (kas_item it)).toArray
noncomputable def Srt (lt:Nat → Nat → Bool) (l:List Nat):Prop:=l.Pairwise fun x y=>lt y x = false
section
variable {left:Bool} {key:Nat} {l:List Nat} {base n:Nat} {st:SortSt} {B:Nat → Bool}
end
end
end L3
namespace L3
open PySem PySem.W PyProof.Rows
section
variable {lt:Nat → Nat → Bool}
structure W (lt:Nat → Nat → Bool) (la lb out:List Nat) (ia ib:Nat):Prop where
 p:out.Perm (la.take ia ++ lb.take ib)
 s:Srt lt out
 a:∀ x ∈ out,∀ y ∈ la.drop ia,lt y x = false
 b:∀ x ∈ out,∀ y ∈ lb.drop ib,lt y x = false
 ha:ia ≤ la.length
 hb:ib ≤ lb.length
noncomputable def RR (lt:Nat → Nat → Bool) (la lb r:List Nat):Prop:=r.Perm (la ++ lb) ∧ Srt lt r
theorem W.last {la lb out:List Nat} {ia ib x:Nat} (sb:Srt lt lb) (w:W lt la lb out ia ib) (h:ia + 1 = la.length) (hx:la[ia]? = some x) (hm:∀ y ∈ lb,lt x y = false):RR lt la lb (out ++ lb.drop ib ++ la.drop ia):=by
 obtain ⟨hl,e⟩:=List.getElem?_eq_some_iff.mp hx
 have d:la.drop ia = [x]:=by rw [List.drop_eq_getElem_cons hl,e,h,List.drop_length]
 have p:=w.p
 refine ⟨?_,?_⟩
 ·refine ((p.append_right _).append_right _).trans ?_
  rw [List.append_assoc (la.take ia),List.take_append_drop,List.append_assoc]
  refine (List.Perm.append_left _ List.perm_append_comm).trans ?_
  rw [← List.append_assoc,List.take_append_drop]
 ·refine List.pairwise_append.mpr ⟨List.pairwise_append.mpr ⟨w.s,List.Pairwise.sublist (List.drop_sublist _ _) sb,w.b⟩,by rw [d]; simp,fun u hu y hy=>?_⟩
  rw [d,List.mem_singleton] at hy
  rw [hy]
  rcases List.mem_append.mp hu with hu | hu
  ·exact w.a u hu x (by rw [d]; simp)
  ·exact hm u (List.mem_of_mem_drop hu)
end
section
variable {prog:Program} {w:World} {A:Around} {E:Value → Shared → Prop} {G:Shared → Prop} {κ:SortKind} {it:Array Keyed} {lt:Nat → Nat → Bool} {N:Nat}
noncomputable def ZlX (st st':SortSt):Prop:=∃ g,st' = SortSt.mk' (kindOf st) (arrOf st) (pendingOf st) g (failedOf st)
theorem ZlX.kind {st st':SortSt} (h:ZlX st st'):kindOf st' = kindOf st:=by obtain ⟨g,rfl⟩:=h; rfl
structure Two (lt:Nat → Nat → Bool) (N:Nat) (la lb:List Nat):Prop where
 sa:Srt lt la
 sb:Srt lt lb
 na:∀ x ∈ la,x < N
 nb:∀ x ∈ lb,x < N
structure Mid (lt:Nat → Nat → Bool) (la lb:List Nat) (n:Nat) (out:List Nat) (ia ib:Nat):Prop where
 w:W lt la lb out ia ib
 a:ia + 1 < la.length
 b:ib < lb.length
 n:n ≤ ia + ib
noncomputable def DD (lt:Nat → Nat → Bool) (it:Array Keyed) (la lb:List Nat) (n:Nat) (r:Option (Array Keyed)) (o:Array Keyed) (ia ib:Nat):Prop:=(∃ l,r = some (ZhN it l) ∧ RR lt la lb l) ∨ (r = none ∧ ∃ out,o = ZhN it out ∧ Mid lt la lb n out ia ib)
noncomputable def YY (lt:Nat → Nat → Bool) (it:Array Keyed) (la lb:List Nat) (n:Nat) (r:Option (Array Keyed)) (o:Array Keyed) (ia ib:Nat):Prop:=r = none ∧ ∃ out,o = ZhN it out ∧ Mid lt la lb n out ia ib
section
variable {la lb:List Nat} {st st':SortSt} {n:Nat} {out:List Nat} {ia ib:Nat}
theorem Srt.from {l:List Nat} (s:Srt lt l) (o:Zf6 lt) {i x y:Nat} (hx:l[i]? = some x) (h:lt x y = false):∀ z ∈ l.drop i,lt z y = false:=fun z hz=>by
 obtain ⟨hl,e⟩:=List.getElem?_eq_some_iff.mp hx
 rw [List.drop_eq_getElem_cons hl,e] at hz
 rcases List.mem_cons.mp hz with rfl | hz
 ·exact h
 ·have sd:(x :: l.drop (i + 1)).Pairwise fun x y=>lt y x = false:=by
   have:=List.Pairwise.sublist (List.drop_sublist i _) s
   rw [List.drop_eq_getElem_cons hl,e] at this
   exact this
  exact o.tr h ((List.pairwise_cons.mp sd).1 z hz)
theorem Mid.le {m:Nat} (h:Mid lt la lb n out ia ib) (hm:m ≤ n):Mid lt la lb m out ia ib:=⟨h.w,h.a,h.b,Nat.le_trans hm h.n⟩
theorem DD.le {m:Nat} {r:Option (Array Keyed)} {o:Array Keyed} (h:DD lt it la lb n r o ia ib) (hm:m ≤ n):DD lt it la lb m r o ia ib:=by
 rcases h with h | ⟨h1,out,h2,h3⟩
 ·exact .inl h
 ·exact .inr ⟨h1,out,h2,h3.le hm⟩
theorem YY.le {m:Nat} {r:Option (Array Keyed)} {o:Array Keyed} (h:YY lt it la lb n r o ia ib) (hm:m ≤ n):YY lt it la lb m r o ia ib:=⟨h.1,h.2.elim fun out h=>⟨out,h.1,h.2.le hm⟩⟩
end
end
end L3
namespace L3
open PySem PySem.W PyProof.Rows
section
variable {prog:Program} {w:World} {A:Around} {E:Value → Shared → Prop} {G:Shared → Prop} {κ:SortKind} {it:Array Keyed} {lt:Nat → Nat → Bool} {N:Nat}
noncomputable abbrev fl (lt:Nat → Nat → Bool):Nat → Nat → Bool:=fun x y=>lt y x
theorem Srt.rev {l:List Nat} (h:Srt lt l):Srt (fl lt) l.reverse:=List.pairwise_reverse.mpr h
theorem RR.rev {la lb r:List Nat} (h:RR (fl lt) lb.reverse la.reverse r):RR lt la lb r.reverse:=by
 refine ⟨(List.reverse_perm r).trans (h.1.trans ?_),List.pairwise_reverse.mpr h.2⟩
 exact ((List.reverse_perm lb).append (List.reverse_perm la)).trans List.perm_append_comm
theorem Zob (o:Zf6 lt):Zf6 (fl lt):=⟨fun h=>o.asym h,fun h1 h2=>o.tr h2 h1⟩
theorem ZkU {l:List Nat} {k x:Nat} (h0:0 < k) (hk:k ≤ l.length) (hx:l[k - 1]? = some x):l.reverse[l.length - k]? = some x:=by
 rw [List.getElem?_reverse (by exact lC 2 581779561975313 T1 h0 (Nat.sub_add_cancel hk)),show l.length - 1 - (l.length - k) = k - 1 by exact Nat.le_antisymm (lF 4 0x450025c21a4c30132c1011a0c21 T1 (Nat.sub_add_cancel (lB 2 1786942394369 T1 hk h0)) (sbA _ _) (sbA _ _) (Nat.sub_add_cancel (lD 3 0x230103c21a2c1010e11 T1 h0 (sbA _ _) (Nat.sub_add_cancel hk)))) (lF 4 0x4503a5c2124c101032c21a1c001 T1 (sbA _ _) (Nat.sub_add_cancel hk) (sbA _ _) (Nat.sub_add_cancel (lA 1 10489361 T1 h0))),hx]
theorem Zg7 {l:List Nat} {k:Nat} (hk:k ≤ l.length):l.reverse.drop (l.length - k) = (l.take k).reverse:=by
 rw [List.drop_reverse,show l.length - (l.length - k) = k by exact Nat.le_antisymm (lD 2 0x230013c2121c001 T1 (sbA _ _) (Nat.sub_add_cancel ((Nat.sub_le _ _)))) (lD 2 0x31003c201210c21 T1 (Nat.sub_add_cancel hk) (sbA _ _))]
section
variable {la lb:List Nat} {st st':SortSt} {n:Nat} {out:List Nat} {na nb:Nat}
structure ZjC (lt:Nat → Nat → Bool) (la lb:List Nat) (n:Nat) (out:List Nat) (na nb:Nat):Prop where
 w:W (fl lt) lb.reverse la.reverse out (lb.length - nb) (la.length - na)
 a:0 < na
 b:1 < nb
 ha:na ≤ la.length
 hb:nb ≤ lb.length
 n:n + na + nb ≤ la.length + lb.length
theorem Zlc (h:RR (fl lt) lb.reverse la.reverse (out ++ la.reverse.drop (la.length - na) ++ lb.reverse.drop (lb.length - nb))) (ha:na ≤ la.length) (hb:nb ≤ lb.length):RR lt la lb (lb.take nb ++ la.take na ++ out.reverse):=by
 have:=h.rev
 rw [Zg7 ha,Zg7 hb] at this
 simpa using this
noncomputable def DH (lt:Nat → Nat → Bool) (it:Array Keyed) (la lb:List Nat) (n:Nat) (r:Option (Array Keyed)) (na nb:Nat) (o:Array Keyed):Prop:=(∃ l,r = some (ZhN it l) ∧ RR lt la lb l) ∨ (r = none ∧ ∃ out,o = ZhN it out ∧ ZjC lt la lb n out na nb)
noncomputable def YH (lt:Nat → Nat → Bool) (it:Array Keyed) (la lb:List Nat) (n:Nat) (r:Option (Array Keyed)) (na nb:Nat) (o:Array Keyed):Prop:=r = none ∧ ∃ out,o = ZhN it out ∧ ZjC lt la lb n out na nb
structure Hi (prog:Program) (w:World) (A:Around) (E:Value → Shared → Prop) (G:Shared → Prop) (κ:SortKind) (it:Array Keyed) (lt:Nat → Nat → Bool) (N:Nat) (la lb:List Nat) (st:SortSt):Prop where
 K:Cmp prog w A E G κ it lt N
 T:Two lt N la lb
 hm:∀ x,lb[0]? = some x → ∀ y ∈ la,lt y x = false
 hk:kindOf st = κ
theorem Hi.o (H:Hi prog w A E G κ it lt N la lb st):Zf6 (fl lt):=Zob H.K.ok
theorem Hi.first (H:Hi prog w A E G κ it lt N la lb st) (hw:W (fl lt) lb.reverse la.reverse out (lb.length - nb) (la.length - na)) (h1:nb = 1) (ha:na ≤ la.length) (hb:0 < lb.length):RR lt la lb (lb.take nb ++ la.take na ++ out.reverse):=by
 subst h1
 have hx:lb[0]? = some lb[0]:=by simp
 refine Zlc (hw.last H.T.sa.rev (by rw [List.length_reverse]; exact Nat.le_antisymm (Nat.le_of_eq (Nat.sub_add_cancel (lA 1 10489361 T1 hb))) ((sbA _ _))) (ZkU (lN [] 0 2785 rfl) hb hx) fun y hy=>H.hm _ hx y (List.mem_reverse.mp hy)) ha hb
theorem Srt.at {l:List Nat} (s:Srt lt l) (o:Zf6 lt) {i j:Nat} (hij:i ≤ j) (hj:j < l.length):lt (l.getD j 0) (l.getD i 0) = false:=by
 have e:∀ k,(hk:k < l.length) → l.getD k 0 = l[k]:=fun k hk=>by rw [List.getD_eq_getElem?_getD,List.getElem?_eq_getElem hk]; rfl
 rcases Nat.lt_or_eq_of_le hij with c | c
 ·rw [e i (Nat.lt_trans c hj),e j hj]
  exact List.pairwise_iff_getElem.mp s i j (Nat.lt_trans c hj) hj c
 ·rw [c]; exact o.rf _
theorem ZjC.le {m:Nat} (h:ZjC lt la lb n out na nb) (hm:m ≤ n):ZjC lt la lb m out na nb:=⟨h.w,h.a,h.b,h.ha,h.hb,by have:=h.n; exact lF 2 0x43c215cc0050143c210cc01 T1 this hm⟩
theorem DH.le {m:Nat} {r:Option (Array Keyed)} {o:Array Keyed} (h:DH lt it la lb n r na nb o) (hm:m ≤ n):DH lt it la lb m r na nb o:=by
 rcases h with h | ⟨h1,out,h2,h3⟩
 ·exact .inl h
 ·exact .inr ⟨h1,out,h2,h3.le hm⟩
theorem YH.le {m:Nat} {r:Option (Array Keyed)} {o:Array Keyed} (h:YH lt it la lb n r na nb o) (hm:m ≤ n):YH lt it la lb m r na nb o:=⟨h.1,h.2.elim fun out h=>⟨out,h.1,h.2.le hm⟩⟩
end
end
end L3
namespace L3
open PySem PySem.W PyProof.Rows
section
variable {prog:Program} {w:World} {A:Around} {E:Value → Shared → Prop} {G:Shared → Prop} {κ:SortKind} {it:Array Keyed} {lt:Nat → Nat → Bool} {N:Nat}
structure SS (κ:SortKind) (it:Array Keyed) (st:SortSt) (l:List Nat) (pd:Array (Nat × Nat × Nat)):Prop where
 kind:kindOf st = κ
 arr:arrOf st = ZhN it l
 pend:pendingOf st = pd
 fail:failedOf st = none
section
variable {st:SortSt} {l:List Nat} {pd:Array (Nat × Nat × Nat)}
end
end
end L3
namespace L3
open PySem PySem.W PyProof.Rows
section
variable {prog:Program} {w:World} {A:Around} {E:Value → Shared → Prop} {G:Shared → Prop} {κ:SortKind} {it:Array Keyed} {lt:Nat → Nat → Bool} {N:Nat}
variable {st:SortSt} {pd:Array (Nat × Nat × Nat)}
structure Dn (lt:Nat → Nat → Bool) (T X B:List Nat) (neq:Nat):Prop where
 e:T = X ++ B
 len:B.length = neq + 1
 s:Srt (fl lt) T
 eq:∀ x ∈ B,∀ y ∈ B,lt x y = false
theorem Dn.rev {T X B:List Nat} {neq:Nat} (d:Dn lt T X B neq):Srt (fl lt) (X ++ B.reverse):=by
 have s:=d.s
 rw [d.e] at s
 obtain ⟨s1,s2,s3⟩:=List.pairwise_append.mp s
 refine List.pairwise_append.mpr ⟨s1,?_,fun x hx y hy=>s3 x hx y (List.mem_reverse.mp hy)⟩
 exact List.pairwise_of_forall_mem_list fun x hx y hy=>d.eq x (List.mem_reverse.mp hx) y (List.mem_reverse.mp hy)
theorem Dn.last {T X B:List Nat} {neq z:Nat} (d:Dn lt T X B neq) (hz:B[neq]? = some z):∀ x ∈ T,lt x z = false:=fun x hx=>by
 have zB:=List.mem_of_getElem? hz
 rw [d.e] at hx
 rcases List.mem_append.mp hx with hx | hx
 ·have s:=d.s
  rw [d.e] at s
  exact (List.pairwise_append.mp s).2.2 x hx z zB
 ·exact d.eq x hx z zB
end
end L3
namespace L3
open PySem PySem.W PyProof.Rows
section
variable {prog:Program} {w:World} {A:Around} {E:Value → Shared → Prop} {G:Shared → Prop} {κ:SortKind} {it:Array Keyed} {lt:Nat → Nat → Bool} {N:Nat}
variable {st:SortSt} {l':List Nat} {pd:Array (Nat × Nat × Nat)}
inductive BnI {α:Type} (lt:Nat → Nat → Bool) (X:List Nat) (u k:Nat) (st':SortSt) (x:Nat) (c:Option α × Nat × Nat) (st2:SortSt):Prop
 | mk (l r:Nat) (e0:st2 = st') (e:c = (none,l,r)) (a1:l ≤ r) (a2:r ≤ k) (a3:r - l ≤ k - x) (a4:∀ i z,i < l → X[i]? = some z → lt u z = false) (a5:∀ i z,r ≤ i → X[i]? = some z → lt u z = true)
inductive BnQ {α:Type} (lt:Nat → Nat → Bool) (X:List Nat) (u k:Nat) (st':SortSt) (c:Option α × Nat × Nat) (st2:SortSt):Prop
 | mk (l:Nat) (e0:st2 = st') (e1:c.1 = none) (e2:c.2.1 = l) (a2:l ≤ k) (a4:∀ i z,i < l → X[i]? = some z → lt u z = false) (a5:∀ i z,l ≤ i → X[i]? = some z → lt u z = true)
end
end L3
namespace L3
open PySem PySem.W PyProof.Rows
section
variable {prog:Program} {w:World} {A:Around} {E:Value → Shared → Prop} {G:Shared → Prop} {κ:SortKind} {it:Array Keyed} {lt:Nat → Nat → Bool} {N:Nat}
variable {st:SortSt} {pd:Array (Nat × Nat × Nat)}
theorem merged (o:Zf6 lt) {X Y r:List Nat} {k k2 y0 x1:Nat} (sX:Srt lt X) (sY:Srt lt Y) (hk:∀ x ∈ X.take k,lt y0 x = false) (h2:∀ y ∈ Y.drop k2,lt y x1 = false) (hy:∀ y ∈ Y,lt y y0 = false) (hx:∀ x ∈ X,lt x1 x = false) (hr:RR lt (X.drop k) (Y.take k2) r):RR lt X Y (X.take k ++ r ++ Y.drop k2):=by
 have eX:=List.take_append_drop k X
 have eY:=List.take_append_drop k2 Y
 rw [← eX] at sX
 rw [← eY] at sY
 obtain ⟨a1,a2,a3⟩:=List.pairwise_append.mp sX
 obtain ⟨b1,b2,b3⟩:=List.pairwise_append.mp sY
 obtain ⟨hp,hs⟩:=hr
 have xy:∀ x ∈ X.take k,∀ y ∈ Y,lt y x = false:=fun x hx' y hy'=>o.tr (hk x hx') (hy y hy')
 refine ⟨?_,?_⟩
 ·have e:(X.take k ++ (X.drop k ++ Y.take k2) ++ Y.drop k2) = X ++ Y:=by
   rw [← List.append_assoc,eX,List.append_assoc,eY]
  rw [← e]
  exact (hp.append_left _).append_right _
 ·refine List.pairwise_append.mpr ⟨List.pairwise_append.mpr ⟨a1,hs,fun x hx' z hz=>?_⟩,b2,fun z hz y hy'=>?_⟩
  ·rcases List.mem_append.mp (hp.mem_iff.mp hz) with q | q
   ·exact a3 x hx' z q
   ·exact xy x hx' z (List.mem_of_mem_take q)
  ·rcases List.mem_append.mp hz with q | q
   ·exact xy z q y (List.mem_of_mem_drop hy')
   ·rcases List.mem_append.mp (hp.mem_iff.mp q) with q | q
    ·exact o.tr (hx z (List.mem_of_mem_drop q)) (h2 y hy')
    ·exact b3 z q y hy'
end
end L3
namespace L3
open PySem PySem.W PyProof.Rows
section
variable {prog:Program} {w:World} {A:Around} {E:Value → Shared → Prop} {G:Shared → Prop} {κ:SortKind} {it:Array Keyed} {lt:Nat → Nat → Bool} {N:Nat}
variable {st:SortSt}
noncomputable def Rn (lt:Nat → Nat → Bool):Nat → List (List Nat) → List (Nat × Nat × Nat) → Prop
 | _,[],[]=>True
 | b,X :: rs,z :: pd=>z.1 = b ∧ z.2.1 = X.length ∧ 0 < X.length ∧ Srt lt X ∧ Rn lt (b + X.length) rs pd
 | _,_,_=>False
theorem Rn.len:∀ {b:Nat} {rs:List (List Nat)} {pd:List (Nat × Nat × Nat)},Rn lt b rs pd → pd.length = rs.length
 | _,[],[],_=>rfl
 | _,_ :: _,_ :: _,h=>congrArg (· + 1) h.2.2.2.2.len
 | _,[],_ :: _,h=>h.elim
 | _,_ :: _,[],h=>h.elim
theorem Rn.many:∀ {b:Nat} {rs:List (List Nat)} {pd:List (Nat × Nat × Nat)},Rn lt b rs pd → rs.length ≤ rs.flatten.length
 | _,[],[],_=>Nat.le_refl _
 | _,X :: rs,_ :: _,h=>by
  have:=h.2.2.2.2.many
  have:=h.2.2.1
  rw [List.flatten_cons,List.length_append,List.length_cons]; omega
 | _,[],_ :: _,h=>h.elim
 | _,_ :: _,[],h=>h.elim
theorem Rn.push:∀ {b:Nat} {rs:List (List Nat)} {pd:List (Nat × Nat × Nat)} (_:Rn lt b rs pd) {X:List Nat} (_:0 < X.length) (_:Srt lt X) {z:Nat × Nat × Nat} (_:z.1 = b + rs.flatten.length) (_:z.2.1 = X.length),Rn lt b (rs ++ [X]) (pd ++ [z])
 | _,[],[],_,_,h1,h2,_,h3,h4=>⟨h3,h4,h1,h2,trivial⟩
 | _,Y :: rs,_ :: _,h,_,h1,h2,_,h3,h4=>⟨h.1,h.2.1,h.2.2.1,h.2.2.2.1,h.2.2.2.2.push h1 h2 (by rw [h3,List.flatten_cons,List.length_append]; exact Nat.le_antisymm (lC 0 2271167496384 T1) (lC 0 2319485832384 T1)) h4⟩
 | _,[],_ :: _,h,_,_,_,_,_,_=>h.elim
 | _,_ :: _,[],h,_,_,_,_,_,_=>h.elim
theorem Rn.at:∀ {i b:Nat} {rs:List (List Nat)} {pd:List (Nat × Nat × Nat)} (_:Rn lt b rs pd) (_:i + 1 < pd.length),∃ rs0 X Y rs1 p q,rs = rs0 ++ X :: Y :: rs1 ∧ 0 < X.length ∧ 0 < Y.length ∧ Srt lt X ∧ Srt lt Y ∧
  pd[i]? = some (b + rs0.flatten.length,X.length,p) ∧ pd[i + 1]? = some (b + rs0.flatten.length + X.length,Y.length,q) ∧ ∀ Z,Z.length = X.length + Y.length → Srt lt Z → Rn lt b (rs0 ++ Z :: rs1) ((pd.set i (b + rs0.flatten.length,X.length + Y.length,p)).eraseIdx (i + 1))
 | 0,b,X :: Y :: rs,z :: z' :: pd,h,_=>by
  obtain ⟨h1,h2,h3,h4,h5,h6,h7,h8,h9⟩:=h
  refine ⟨[],X,Y,rs,z.2.2,z'.2.2,rfl,h3,h7,h4,h8,?_,?_,fun Z hZ sZ=>⟨rfl,hZ.symm,lC 2 0xe12e1121c031 T1 hZ h7,sZ,?_⟩⟩
  ·obtain ⟨z1,z2,z3⟩:=z; cases h1; cases h2; rfl
  ·obtain ⟨z1,z2,z3⟩:=z'; cases h5; cases h6; rfl
  ·rw [hZ,← Nat.add_assoc]; exact h9
 | i + 1,b,X0 :: rs,z :: pd,h,hi=>by
  obtain ⟨h1,h2,h3,h4,h5⟩:=h
  obtain ⟨rs0,X,Y,rs1,p,q,rfl,a1,a2,a3,a4,a5,a6,a7⟩:=h5.at (i:=i) (by simpa using hi)
  have e:b + X0.length + rs0.flatten.length = b + (X0 :: rs0).flatten.length:=by rw [List.flatten_cons,List.length_append]; exact Nat.le_antisymm (lC 0 2319485832384 T1) (lC 0 2271167496384 T1)
  rw [e] at a5 a6 a7
  exact ⟨X0 :: rs0,X,Y,rs1,p,q,rfl,a1,a2,a3,a4,a5,a6,fun Z hZ sZ=>⟨h1,h2,h3,h4,a7 Z hZ sZ⟩⟩
 | 0,_,_ :: [],_ :: _ :: _,h,_=>h.2.2.2.2.elim
 | 0,_,_,[],_,hi=>by cases hi
 | 0,_,_,[_],_,hi=>by simp at hi
 | _ + 1,_,_,[],_,hi=>by cases hi
 | _,_,[],_ :: _,h,_=>h.elim
structure MM (κ:SortKind) (it:Array Keyed) (lt:Nat → Nat → Bool) (st:SortSt) (rs:List (List Nat)) (R:List Nat):Prop where
 s:SS κ it st (rs.flatten ++ R) (pendingOf st)
 r:Rn lt 0 rs (pendingOf st).toList
theorem MM.push {rs rs':List (List Nat)} {R X l:List Nat} {n x lo:Nat} (hp:(rs.flatten ++ R).Perm l) (hX:X.Perm (R.take n)) (sX:Srt lt X) (h1:1 ≤ n) (hn:n ≤ R.length) (hr:rs'.flatten.Perm rs.flatten) (m:MM κ it lt st rs' (X ++ R.drop n)) (hx:x ≤ rs.flatten.length ∨ R = []) (hlo:lo = rs.flatten.length):∃ rs2 R2,((none,lo + n):Option Unit × Nat) = (none,rs2.flatten.length) ∧ (rs2.flatten ++ R2).Perm l ∧ MM κ it lt (setPending st ((pendingOf st).push (lo,n,0))) rs2 R2 ∧ (x + 1 ≤ rs2.flatten.length ∨ R2 = []):=by
 subst hlo
 have Xl:X.length = n:=by rw [hX.length_eq,List.length_take,Nat.min_eq_left hn]
 have fl2:(rs' ++ [X]).flatten = rs'.flatten ++ X:=by simp
 have ln:(rs' ++ [X]).flatten.length = rs.flatten.length + n:=by rw [fl2,List.length_append,hr.length_eq,Xl]
 obtain ⟨⟨a1,a2,a3,a4⟩,r⟩:=m
 refine ⟨rs' ++ [X],R.drop n,by rw [ln],?_,⟨⟨a1,?_,rfl,a4⟩,?_⟩,?_⟩
 ·refine List.Perm.trans ?_ hp
  rw [fl2,List.append_assoc]
  refine List.Perm.trans (hr.append_right _) (List.Perm.append_left _ ?_)
  have:=hX.append_right (R.drop n)
  rwa [List.take_append_drop] at this
 ·rw [fl2,List.append_assoc]; exact a2
 ·show Rn lt 0 _ ((pendingOf st).push (rs.flatten.length,n,0)).toList
  rw [Array.toList_push]
  exact r.push (lB 2 966803918897 T1 Xl h1) sX (by rw [Nat.zero_add,hr.length_eq]) Xl.symm
 ·rcases hx with q | q
  ·exact .inl (by rw [ln]; exact lC 2 0x21ca0c02a011001 T1 q h1)
  ·subst q; exact .inr (by simp)
end
end L3
namespace L3
open PySem PySem.W PyProof.Rows
section
variable {prog:Program} {w:World} {A:Around} {E:Value → Shared → Prop} {s:Shared}
end
end L3
namespace L3
open PySem PySem.W PySem.Spec PyProof.Rows L2
section
variable {X:Cx}
end
end L3
namespace L3
open PySem PySem.Spec PyProof.Rows L2
noncomputable def gK {α:Type} (n:Nat) (us ws:List α):List α:=if us.length = n ∧ ws.length = 1 then us ++ ws else []
noncomputable def ZoA (P:Program) (w:World) (K:PySem.W.Frag) (mg:Str → Option Value) (base:Heap) (k:Nat) (x:Str) (ps:List Str) (F:F3) (dd:List D) (n:Nat) (nm:Str):Prop:=
 (∀ ds M,ds.length ≠ ps.length → F ds M = .bad) ∧ ∃ f fd ds dvs,mg x = some (.ref f) ∧ PySem.W.keepIn K (.ref f) = true ∧ Binds K fd ps [] ∧ Binds K fd ps ds ∧ Vals dvs ds ∧ (∀ H ι,Zj K H ι dd dvs) ∧ Zm9 K fd ps [nm] (gK n) (gK n) ∧ ZcH P w K mg base CX0 k f fd ps (sp3 K ps.length F)
section
variable {P:Program} {w:World} {K:PySem.W.Frag} {mg:Str → Option Value} {base:Heap} {dd:List D} {n:Nat} {nm:Str}
theorem ZoA.fn {k:Nat} {x:Str} {ps:List Str} {F:F3} (h:ZoA P w K mg base k x ps F dd n nm):Fn3 P w K mg base k x ps F:=
 let ⟨a,f,fd,_,_,b,c,d,_,_,_,_,e⟩:=h; ⟨a,f,fd,b,c,d,e⟩
end
section
variable {X:Cx} {e e':Expr} {es:List Expr} {pos p kpos:Pos} {gl:EL3} {g:E3} {x nm:Str} {k n:Nat} {ps:List Str} {F:F3} {dd:List D}
end
end L3
namespace L3
open PySem PySem.W PySem.Spec PyProof.Rows L2
section
variable {X:Cx}
end
end L3
namespace L3
open PySem PySem.Spec PyProof.Rows L2
noncomputable abbrev nm (f:List Nat):Str:=⟨f.toArray⟩
theorem Zmm {f g:List Nat} (h:nm f = nm g):f = g:=by
 have:=congrArg (fun s:Str=>s.cps.toList) h
 simpa using this
section
variable {K:PySem.W.Frag} {H H':Hp} {ι ι':List Addr} {fs:List (List Nat × D)} {gs:List (Str × V)}
theorem FsR.nil:FsR K H ι [] []:=⟨rfl,Zj.nil⟩
theorem FsR.nil_inv (h:FsR K H ι [] gs):gs = []:=List.map_eq_nil_iff.mp h.1
theorem FsR.cons_inv {f:List Nat} {d:D} (h:FsR K H ι ((f,d) :: fs) gs):∃ v gs',gs = (nm f,v) :: gs' ∧ Rep K H ι d v ∧ FsR K H ι fs gs':=by
 cases gs with
 | nil=>cases h.1
 | cons p gs'=>
  obtain ⟨g,v⟩:=p
  obtain ⟨h1,h2⟩:=h
  rw [List.map_cons,List.map_cons] at h1 h2
  obtain ⟨e1,e2⟩:=List.cons.inj h1
  obtain ⟨v',ws,e,r,q⟩:=h2.cons_inv
  obtain ⟨rfl,rfl⟩:=List.cons.inj e
  exact ⟨v,gs',by rw [show g = nm f from e1],r,e2,q⟩
theorem FsR.cons {f:List Nat} {d:D} {v:V} (r:Rep K H ι d v) (h:FsR K H ι fs gs):FsR K H ι ((f,d) :: fs) ((nm f,v) :: gs):=⟨by rw [List.map_cons,List.map_cons,h.1],Zj.cons r h.2⟩
theorem FsR.length (h:FsR K H ι fs gs):gs.length = fs.length:=by
 have:=congrArg List.length h.1
 simpa using this
theorem FsR.put {f:List Nat} {d:D} {v:V} (r:Rep K H ι d v):∀ {fs:List (List Nat × D)} {gs:List (Str × V)},FsR K H ι fs gs → FsR K H ι (ZjY f d fs) (Zng (nm f) v gs)
 | [],_,h=>by rw [h.nil_inv]; exact FsR.cons r FsR.nil
 | (g,x) :: fs,_,h=>by
  obtain ⟨w,gs',rfl,r',t⟩:=h.cons_inv
  unfold ZjY Zng
  by_cases e:g = f
  ·subst e
   rw [if_pos rfl,if_pos rfl]; exact FsR.cons r t
  ·rw [if_neg e,if_neg fun q=>e (Zmm q)]; exact FsR.cons r' (t.put r)
end
section
variable {X:Cx} {o e:Expr} {es:List Expr} {f g:E3} {gl:EL3} {c m:List Nat} {C:Addr} {fn:Str} {pos pos' apos p:Pos} {x:Str}
end
section
variable {P:Program} {w:World} {K:PySem.W.Frag} {mg:Str → Option Value} {base:Heap} {C f:Addr} {m qual:Str} {st:Stmt} {N ps:List Str} {k:Nat} {body:S3} {oc:Value} {od an:Option Addr} {osl:Array (Option Value)} {dV kV doc pm cdv ct:Value}
end
end L3
namespace L3
open PySem PySem.Spec PyProof.Rows L2
set_option maxRecDepth 100000
section
variable {X:Cx} {o e:Expr} {es:List Expr} {apos cpos:Pos} {f:E3} {gl:EL3}
theorem Zj.rev {K:PySem.W.Frag} {H:Hp} {ι:List Addr}:∀ {ds:List D} {vs:List V},Zj K H ι ds vs → Zj K H ι ds.reverse vs.reverse
 | [],_,h=>by rw [h.nil_inv]; exact Zj.nil
 | d :: ds,_,h=>by
  obtain ⟨v,us,rfl,r,t⟩:=h.cons_inv
  rw [List.reverse_cons,List.reverse_cons]
  exact t.rev.append (Zj.cons r Zj.nil)
end
end L3
namespace L3
open PySem PySem.Spec PyProof.Rows L2
theorem ZnI {P:Program} {w:World} {H:Hp} {h:Heap} {e C:Addr} (x:ExO e C h):ZaP P w H h e (exH e C):=
 ⟨x,(let ⟨o,_,q,_⟩:=x; ⟨o,q⟩),fun _ _ z k=>let ⟨o,vs,a,b,c⟩:=z; ⟨o,vs,k o a,b,c⟩⟩
noncomputable def ZjX (B:Heap) (l:List Env) (e C:Addr) (h:Heap):Prop:=
 ∃ a0,Heap.FlyingW B l e (.ref C) a0 h ∨ (B.StaysIn h ∧ B.get? e = none ∧ h.FunFrames B l ∧ ∃ oe vs,h.get? e = some oe ∧ oe.cls = .ref C ∧ oe.data = .fields vs ∧ vs[0]? = some a0 ∧ vs[1]? = some .none)
section
variable {B h h':Heap} {l:List Env} {e C:Addr}
theorem ZjX.stays (f:ZjX B l e C h):B.StaysIn h:=by
 obtain ⟨a0,f | f⟩:=f
 ·exact f.1
 ·exact f.1
end
section
variable {M:Model} {A:Around} {E:Value → Shared → Prop} {s:Shared} {B:Heap} {env:Env} {outer:List Env} {L e C:Addr} {Q:Unit → Shared → Prop}
end
structure Cov (B:Heap) (fs ex:List Addr) (H₀:Hp) (h₀:Heap) (H:Hp) (e:Addr):Prop where
 trk:∀ b,H b ≠ none → b ≠ e → ∃ o,B.get? b = some o
 old:∀ b o,h₀.get? b = some o → H₀ b = none → b ∉ fs → b ∉ ex → B.get? b = some o
 there:∀ b o,h₀.get? b = some o → b ∉ fs → b ∉ ex → ∃ o',B.get? b = some o'
section
variable {B h h' h₀:Heap} {fs ex:List Addr} {H H₀:Hp} {e C:Addr} {P:Program} {w:World}
theorem Cov.hok (c:Cov B fs ex H₀ h₀ H e) (ok:HOk P w H h) (he:H e = some (exH e C)) (s1:B.StaysIn h) (s2:B.StaysIn h') (x:ExO e C h'):HOk P w H h':=fun b u q=>by
 by_cases hb:b = e
 ·subst hb; rw [he] at q; cases q; exact ZnI x
 ·refine (ok b u q).stay (fun d v hd z=>?_) (fun _ z=>z) fun _ _ z=>z
  have hd':H d ≠ none ∧ d ≠ e:=by
   rcases hd with rfl | hd
   ·exact ⟨by rw [q]; simp,hb⟩
   ·exact ⟨by rw [hd]; simp,by rintro rfl; rw [he] at hd; cases hd⟩
  obtain ⟨o,ho⟩:=c.trk d hd'.1 hd'.2
  have:=(s1 d o ho).symm.trans z
  cases this
  exact s2 d _ ho
theorem Cov.un (c:Cov B fs ex H₀ h₀ H e) (u:Un fs ex H₀ H h₀ h) (s2:B.StaysIn h') (sl:h.UpToSlots h') (nf:∀ b ∈ fs,H₀ b = none ∧ ∀ o,h₀.get? b = some o → ∀ vs,o.data ≠ .fields vs):Un fs ex H₀ H h₀ h' where
 keep:=fun b o q n hb hx=>s2 b o (c.old b o q n hb hx)
 slot:=fun b o q n hb hx=>by
  obtain ⟨s,e1⟩:=u.slot b o q n hb hx
  obtain ⟨s',e2⟩:=sl b _ e1 ((nf b hb).2 o q)
  exact ⟨s',e2⟩
 free:=u.free
 there:=fun b o q hx=>by
  by_cases hb:b ∈ fs
  ·obtain ⟨s,e1⟩:=u.slot b o q (nf b hb).1 hb hx
   obtain ⟨s',e2⟩:=sl b _ e1 ((nf b hb).2 o q)
   exact ⟨_,e2⟩
  ·exact let ⟨o',z⟩:=c.there b o q hb hx; ⟨o',s2 b o' z⟩
 tups:=u.tups
 frzs:=u.frzs
 tbls:=u.tbls
end
noncomputable def CXr (P:Program) (w:World):CXT:=fun outer H s E ev s'=>∃ e C H' B,ev = .ref e ∧ s'.os = s.os ∧ AllBare s'.gens ∧ Un (frs outer) [] H H' s.heap s'.heap ∧ HOk P w H' s'.heap ∧ H' e = some (exH e C) ∧
 ZjX B outer e C s'.heap ∧ Cov B (frs outer) [] H s.heap H' e ∧ E (.ref C) (some e) H'
section
variable {X:Cx} {pins:List (Addr × Obj)} {σ:St} {H:Hp} {s s':Shared}
end
noncomputable def Zo2 (K:PySem.W.Frag) (H:Hp) (ι:List Addr) (Q:VK) (E:XK) (r:R3 D):Prop:=match r with
 | .ok d M'=>∀ v H' ι',Ext K H ι H' ι' → Zy K H' ι' M' → Rep K H' ι' d v → Q v H'
 | .exc x M'=>∀ e C H' ι',Ext K H ι H' ι' → Zy K H' ι' M' → Rep K H' ι' x.arg (.ref e) → ClsAt K x.cls C → E (.ref C) (some e) H'
 | .bad=>False
theorem Zw.x {K:PySem.W.Frag} {H:Hp} {ι:List Addr} {Q:VK} {E:XK} {r:R3 D} (h:Zw K H ι Q r):Zo2 K H ι Q E r:=by
 cases r with
 | ok d M=>exact h
 | exc x M=>exact h.elim
 | bad=>exact h
noncomputable def ZnZ (K:PySem.W.Frag) (n:Nat) (F:F3):Sp:=fun vs H Q E=>∃ ι M ds,Zy K H ι M ∧ Zj K H ι ds vs ∧ ds.length = n ∧ Zo2 K H ι Q E (F ds M)
section
variable {X:Cx} {any:Bool} {st:Stmt} {sts:List Stmt} {e c1:Expr} {f:E3} {u w:S3} {pos:Pos}
end
section
variable {P:Program} {w:World} {K:PySem.W.Frag} {mg:Str → Option Value} {base:Heap}
end
end L3
namespace L3
open PySem PySem.Spec PyProof.Rows L2
section
variable {P:Program} {w:World} {K:PySem.W.Frag} {mg:Str → Option Value} {base:Heap}
theorem Zlj {k n:Nat} {f:Addr} {fd:FuncData} {ps:List Str} {F:F3} (G:ZcH P w K mg base (CXr P w) k f fd ps (ZnZ K n F)):ZcH P w K mg base CX0 k f fd ps (sp3 K n F):=
 ⟨fun vs H Q E z=>let ⟨ι,M,ds,S,r,l,h⟩:=z; G.len vs H Q E0 ⟨ι,M,ds,S,r,l,h.x⟩,fun A outer s H args us vs Q E hr he hb hv z=>let ⟨ι,M,ds,S,r,l,h⟩:=z; codeAny_mono (G.run A outer s H args us vs Q E0 hr he hb hv ⟨ι,M,ds,S,r,l,h.x⟩) fun r s' z=>by
  cases r with
  | error e=>obtain ⟨_,_,_,_,_,_,_,_,_,_,_,_,z⟩:=z; exact z.elim
  | ok fl=>cases fl <;> exact z⟩
noncomputable def FnX (P:Program) (w:World) (K:PySem.W.Frag) (mg:Str → Option Value) (base:Heap) (k:Nat) (x:Str) (ps:List Str) (F:F3):Prop:=
 (∀ ds M,ds.length ≠ ps.length → F ds M = .bad) ∧ ∃ f fd,mg x = some (.ref f) ∧ PySem.W.keepIn K (.ref f) = true ∧ Binds K fd ps [] ∧ ZcH P w K mg base (CXr P w) k f fd ps (ZnZ K ps.length F)
theorem FnX.fn {k:Nat} {x:Str} {ps:List Str} {F:F3} (h:FnX P w K mg base k x ps F):Fn3 P w K mg base k x ps F:=let ⟨n,f,fd,a,b,c,d⟩:=h; ⟨n,f,fd,a,b,c,Zlj d⟩
end
section
variable {X:Cx} {o e:Expr} {es:List Expr} {f:E3} {gl:EL3} {c m:List Nat} {C:Addr} {fn x:Str} {pos pos' apos p:Pos} {k:Nat} {ps:List Str} {F:F3}
end
end L3
namespace L3
open PySem PySem.Spec PyProof.Rows L2
section
variable {X:Cx} {pins:List (Addr × Obj)} {σ:St} {H:Hp} {s:Shared}
end
end L3
namespace PySem.W
open PySem PySem.Spec PySem.Calls PyProof.Rows Builtin Builtin.ObjectAttr Builtin.Getset_descriptor
section
variable {prog:Program} {w:World} {K:Frag} {x D:Addr}
noncomputable def Zl2 (x D:Addr) (h:Heap):Prop:=∃ o,h.get? x = some o ∧ o.cls = .ref D
theorem Zl2.ty {h:Heap} (p:Zl2 x D h) (M:Model):Looks M h (typeOf (.ref x)) (.ref D):=by
 obtain ⟨o,a,b⟩:=p
 exact b ▸ (Looks.ld a).andThen .now
end
end PySem.W
namespace L3
open PySem PySem.Spec PyProof.Rows L2
section
variable {X:Cx} {a:Expr} {es:List Expr} {f:E3} {p p1 p2 pos pt:Pos} {x:Str} {C:Addr} {vs:List V} {yes no:List (List Nat)}
end
end L3
namespace L3
open PySem PySem.Spec PyProof.Rows L2
section
variable {K:PySem.W.Frag} {h:Heap} {a:Addr} {oc:Value} {od:Option Addr} {es:Array DictEntry} {ep:Nat} {sl:Array (Option Value)}
end
end L3
namespace L3
open PySem PySem.Spec PyProof.Rows L2
section
variable {X:Cx} {tg:Expr} {pos:Pos}
end
end L3
namespace L3
open PySem PySem.Spec PyProof.Rows L2
noncomputable def Zml (K:PySem.W.Frag) (d:List Str) (v:Value):Bool:=match v with
 | .ref a=>(match K.lookup a with
  | some o=>o.cls == .type "tuple" && o.dict.isNone && (match o.data with | .seq vs _=>decide (vs.size ≤ 1000) && KTD.strsLook vs.toList d | _=>false)
  | none=>false)
 | _=>false
noncomputable def ZkO (t:Zfl):List (Str × List Str):=t.map fun p=>(⟨p.1.toArray⟩,p.2.map fun y=>⟨y.toArray⟩)
noncomputable def Zn1 (K:PySem.W.Frag) (d:List Str) (v:Value):Prop:=∃ a,v = .ref a ∧ ∀ H,SqT K H a (d.map V.str)
theorem Zje:∀ {vs:List Value} {d:List Str},StrsAre vs d → Vals (d.map V.str) vs:=by
 intro vs d h
 induction h with
 | nil=>exact .nil
 | cons _ _ _ ih=>exact .cons ⟨_,rfl⟩ ih
theorem Zlo {K:PySem.W.Frag} {d:List Str} {v:Value} (h:Zml K d v = true):Zn1 K d v:=by
 unfold Zml at h
 split at h
 ·rename_i a
  refine ⟨a,rfl,fun H=>?_⟩
  split at h
  ·rename_i o ho
   simp only [Bool.and_eq_true] at h
   obtain ⟨⟨h1,h2⟩,h3⟩:=h
   split at h3
   ·rename_i vs n hd
    simp only [Bool.and_eq_true,decide_eq_true_eq] at h3
    exact .inr ⟨o,vs,n,ho,⟨beq_iff_eq.mp h1,by simpa using h2⟩,hd,Nat.le_trans h3.1 (by rw [sizeLine_eq]; decide),Zje (KTD.strs_of_look h3.2)⟩
   ·cases h3
  ·cases h
 ·cases h
noncomputable abbrev Zhe (K:PySem.W.Frag) (a:Addr) (t:Zfl):Prop:=KTD.tabLook (Zml K) (fun b=>K.lookup b) a (ZkO t) = true
theorem Zhe.at {K:PySem.W.Frag} {a:Addr} {t:Zfl} {h:Heap} (T:Zhe K a t) (X:K.In h):KTD.TabOf (Zn1 K) h a (ZkO t):=KTD.tab_of_look (fun _ _ q=>Zlo q) X T
theorem Zdv (x:List Nat):∀ t:Zfl,KTD.datumAt (⟨x.toArray⟩:Str) (ZkO t) = (tabAt x t).map fun ds=>ds.map fun y=>(⟨y.toArray⟩:Str)
 | []=>rfl
 | (k,v) :: r=>by
  show (if decide ((⟨x.toArray⟩:Str) = ⟨k.toArray⟩) = true then some (v.map fun y=>(⟨y.toArray⟩:Str)) else KTD.datumAt ⟨x.toArray⟩ (ZkO r)) = (if x = k then some v else tabAt x r).map _
  by_cases e:x = k
  ·subst e; rw [if_pos rfl,if_pos (decide_eq_true rfl)]; rfl
  ·rw [if_neg e,if_neg (by simp [e]),Zdv x r]
theorem Zfa {K:PySem.W.Frag} {H:Hp} {ι:List Addr}:∀ ds:List (List Nat),Zj K H ι (ds.map D.str) ((ds.map fun y=>(⟨y.toArray⟩:Str)).map V.str)
 | []=>Zj.nil
 | _ :: ds=>Zj.cons Rep.str (Zfa ds)
section
variable {prog:Program} {w:World} {A:Around} {E:Value → Shared → Prop} {s:Shared} {a:Addr} {K:PySem.W.Frag} {t:Zfl} {x:List Nat} {tk:Tok}
theorem ZcX {R:List Str → Value → Prop} {T:List (Str × List Str)} (h:KTD.TabOf R s.heap a T):s.TypeIs (.ref a) "dict":=let ⟨_,o,_,_,ho,hc,_⟩:=h; ⟨o,ho,hc.1⟩
theorem Zhj {R:List Str → Value → Prop} {T:List (Str × List Str)} {k:Str} {Q:Option Value → Shared → Prop} (h:KTD.TabOf R s.heap a T)
  (hs:∀ d v,KTD.datumAt k T = some d → R d v → Q (some v) { s with toks:=s.toks + 1 }) (hn:KTD.datumAt k T = none → Q none { s with toks:=s.toks + 1 }):wpAny (model prog w) A (dictGet a (.str k tk)) Q E s:=by
 obtain ⟨_,o,es,ep,ho,hc,hd,hr⟩:=h
 unfold dictGet
 try with_reducible refine wpAny_holding ?_
 refine wpAny_bind (wpAny_pyHash_str (wpAny_bind (KTD.kt_dictFind_strs (s:={ s with toks:=s.toks + 1 }) ho hd (by obtain ⟨es⟩:=es; simpa using hr.exact) ?_)))
 have key:Q (findBy (fun q v=>v.isStr q) es k) { s with toks:=s.toks + 1 }:=by
  rw [show findBy (fun q v=>v.isStr q) es k = (es.toList.find? fun z=>z.key.isStr k).map (·.val) by obtain ⟨es⟩:=es; simp [findBy]]
  cases e:KTD.datumAt k T with
  | none=>rw [hr.find_none e]; exact hn e
  | some d=>
   obtain ⟨v,hv,r⟩:=hr.find_some e
   rw [hv]; exact hs d v e r
 rw [findBy_of_findIdx?] at key
 cases e:es.findIdx? fun z=>z.key.isStr k with
 | none=>rw [e] at key; exact wpAny_pure key
 | some j=>rw [e] at key; exact wpAny_bind (wpAny_dictEntries (s:={ s with toks:=s.toks + 1 }) ho hd (wpAny_pure key))
theorem ZiD {R:List Str → Value → Prop} {T:List (Str × List Str)} {k:Str}:
  MeetsIn prog w (Builtin.«dict.get» ⟨[.ref a,.str k tk],[]⟩) fun _ Z s=>KTD.TabOf R s.heap a T ∧ (∀ d v,KTD.datumAt k T = some d → R d v → Z (.ok (.ret v)) { s with toks:=s.toks + 1 }) ∧ (KTD.datumAt k T = none → Z (.ok (.ret .none)) { s with toks:=s.toks + 1 }):=
 .of_wp fun A Z s zz=>by
  obtain ⟨h,h1,h2⟩:=zz
  show wpAny _ _ (dictGet a (.str k tk) >>= fun o=>_) _ _ s
  refine wpAny_bind (Zhj h (fun d v e r=>wpAny_pure ⟨v,rfl,h1 d v e r⟩) fun e=>?_)
  show wpAny _ _ (Builtin.Dict.missed a (.str k tk) >>= fun o=>_) _ _ _
  exact wpAny_bind (wpAny_missed_other h.1 (wpAny_pure ⟨Value.none,rfl,h2 e⟩))
theorem Zli {R:List Str → Value → Prop} {T:List (Str × List Str)} {k:Str} {Q:Value → Shared → Prop} (h:KTD.TabOf R s.heap a T)
  (h1:∀ d v,KTD.datumAt k T = some d → R d v → Q v { s with toks:=s.toks + 1 }) (h2:KTD.datumAt k T = none → Q .none { s with toks:=s.toks + 1 }):wpAny (model prog w) A (call (.builtin "dict.get") [.ref a,.str k tk]) Q E s:=
 call_meetsIn PySem.F.slot_dict_get (ZcX h) PySem.F.entry_dict_get (PySem.F.args_dict_get_2 _ _) (ZiD (R:=R) (T:=T)) ⟨h,h1,h2⟩
theorem Zj7 {R:List Str → Value → Prop} {T:List (Str × List Str)} {k:Str} {d:List Str} {Q:Value → Shared → Prop} (h:KTD.TabOf R s.heap a T) (e:KTD.datumAt k T = some d)
  (h1:∀ v,R d v → Q v { s with toks:=s.toks + 1 }):wpAny (model prog w) A (getItem (.ref a) (.str k tk)) Q E s:=by
 unfold getItem
 try with_reducible refine wpAny_holding ?_
 refine wpAny_bind (wpAny_sequenceKey (ZcX h) (by decide) ?_)
 refine wpAny_bind (wpAny_callSpecial?_slot (name:=Str.ofString "__getitem__") (ZcX h) PySem.F.slot_dict_getitem
  (wpAny_call_entry PySem.F.slot_dict_getitem (ZcX h) PySem.F.entry_dict_getitem ?_ (PySem.F.args_dict_getitem_2 _ _)))
 show wpAny _ _ (dictGet a (.str k tk) >>= fun o=>_) _ _ s
 refine wpAny_bind (Zhj h (fun d' v e' r=>?_) fun e'=>by rw [e] at e'; cases e')
 rw [e] at e'; cases e'
 exact wpAny_pure ⟨v,rfl,wpAny_pure (h1 v r)⟩
end
section
variable {X:Cx} {e:Expr} {x:Str} {a:Addr} {t:Zfl} {npos apos cpos pos:Pos} {g:E3}
theorem ZnJ {te:TE} (hm:X.mg x = some (.ref a)) (ht:Zhe X.K a t) (he:PE X e te) (m:M1 X (.Name x npos) "get" apos e cpos) (hg:Gl X x) (hd:(x == ("__debug__":Str)) = false):
  PE X (.Call (.Attribute (.Name x npos) "get" apos) [e] [] cpos) (fun σ H Q=>te σ H fun y H1=>∃ k,y = .str ⟨k.toArray⟩ ∧ match tabAt k t with
   | some ds=>∀ b,SqT X.K H1 b ((ds.map fun z=>(⟨z.toArray⟩:Str)).map V.str) → Q (.ref b) H1
   | none=>Q .non H1):=by
 intro pins s σ H Q I h
 refine wpAny_Call_method m.base m.few m.line PySem.F.plainAttrs_dict PySem.F.slot_dict_get PySem.F.type_dict_get (thn (Zgf (v:=.ref a) (u:=.ref a) hg hm rfl hd pins s σ H (fun v H'=>v = .ref a ∧ H' = H) I ⟨rfl,rfl⟩) fun u s1 zz1=>?_)
 obtain ⟨v,H1,I1,r1,rfl,rfl⟩:=zz1
 obtain rfl:u = Value.ref a:=r1
 have T1:=ht.at I1.kIn
 refine ⟨ZcX T1,fun b q=>?_,?_⟩
 ·cases q
  obtain ⟨_,ob,_,_,h1,h2,_⟩:=T1
  exact ⟨ob,h1,h2.2.1⟩
 rw [m.trees]
 refine Calls.callWith_builtin rfl (Calls.evalArgs_plain (Calls.spliced_cons (thn (he pins s1 σ H1 _ I1 h) fun iv s2 zz2=>Calls.spliced_nil ?_)))
 obtain ⟨y,H2,I2,ry,k,rfl,q⟩:=zz2
 obtain ⟨tk,rfl⟩:=ry
 refine Zli (ht.at I2.kIn) (fun d v ed rv=>?_) fun ed=>?_
 ·rw [Zdv] at ed
  cases et:tabAt k t with
  | none=>rw [et] at ed; cases ed
  | some ds=>
   rw [et] at ed q
   cases ed
   obtain ⟨b,rfl,sq⟩:=rv
   exact ⟨.ref b,H2,I2.tok _,rfl,q b (sq _)⟩
 ·rw [Zdv] at ed
  cases et:tabAt k t with
  | some ds=>rw [et] at ed; cases ed
  | none=>rw [et] at q; exact ⟨.non,H2,I2.tok _,rfl,q⟩
theorem ZmL (hm:X.mg x = some (.ref a)) (ht:Zhe X.K a t) (he:C3 X e g) (m:M1 X (.Name x npos) "get" apos e cpos:=by exact ⟨rfl,rfl,rfl,rfl⟩) (hg:Gl X x:=by rfl) (hd:(x == ("__debug__":Str)) = false:=by decide):
  C3 X (.Call (.Attribute (.Name x npos) "get" apos) [e] [] cpos) (e1 (Zex t) g):=(ZnJ hm ht he m hg hd).imp fun σ H Q zz1=>by
 obtain ⟨ι,M,env,S,E,h⟩:=zz1
 obtain ⟨d,M1,e1,h⟩:=Zw.bind h
 refine ⟨ι,M,env,S,E,?_⟩
 rw [e1]
 intro y H1 ι1 x1 S1 r1
 cases d with
 | str k=>
  cases r1.str_inv
  refine ⟨k,rfl,?_⟩
  simp only [Zex] at h
  cases et:tabAt k t with
  | none=>rw [et] at h; exact h _ H1 ι1 x1 S1 Rep.non
  | some ds=>rw [et] at h; exact fun b sq=>h _ H1 ι1 x1 S1 (Rep.tup sq (Zfa ds))
 | _=>exact h.elim
theorem ZkY {te:TE} (hm:X.mg x = some (.ref a)) (ht:Zhe X.K a t) (he:PE X e te) (hs:Zja e) (hg:Gl X x) (hd:(x == ("__debug__":Str)) = false):
  PE X (.Subscript (.Name x npos) e pos) (fun σ H Q=>te σ H fun y H1=>∃ k ds,y = .str ⟨k.toArray⟩ ∧ tabAt k t = some ds ∧ ∀ b,SqT X.K H1 b ((ds.map fun z=>(⟨z.toArray⟩:Str)).map V.str) → Q (.ref b) H1):=by
 intro pins s σ H Q I h
 refine Ziu PySem.F.slot_dict_getitem.lookup hs (thn (Zgf (v:=.ref a) (u:=.ref a) hg hm rfl hd pins s σ H (fun v H'=>v = .ref a ∧ H' = H) I ⟨rfl,rfl⟩) fun u s1 zz1=>?_)
 obtain ⟨v,H1,I1,r1,rfl,rfl⟩:=zz1
 obtain rfl:u = Value.ref a:=r1
 refine thn (he pins s1 σ H1 _ I1 h) fun iv s2 zz2=>?_
 obtain ⟨y,H2,I2,ry,k,ds,rfl,et,q⟩:=zz2
 obtain ⟨tk,rfl⟩:=ry
 have T2:=ht.at I2.kIn
 refine ⟨ZcX T2,Zj7 T2 (d:=ds.map fun z=>(⟨z.toArray⟩:Str)) (by rw [Zdv,et]; rfl) fun v rv=>?_⟩
 obtain ⟨b,rfl,sq⟩:=rv
 exact ⟨.ref b,H2,I2.tok _,rfl,q b (sq _)⟩
theorem Zmu (hm:X.mg x = some (.ref a)) (ht:Zhe X.K a t) (he:C3 X e g) (hs:Zja e:=by exact fun _ _=>rfl) (hg:Gl X x:=by rfl) (hd:(x == ("__debug__":Str)) = false:=by decide):
  C3 X (.Subscript (.Name x npos) e pos) (e1 (Zdj t) g):=(ZkY hm ht he hs hg hd).imp fun σ H Q zz1=>by
 obtain ⟨ι,M,env,S,E,h⟩:=zz1
 obtain ⟨d,M1,e1,h⟩:=Zw.bind h
 refine ⟨ι,M,env,S,E,?_⟩
 rw [e1]
 intro y H1 ι1 x1 S1 r1
 cases d with
 | str k=>
  cases r1.str_inv
  simp only [Zdj] at h
  cases et:tabAt k t with
  | none=>rw [et] at h; exact h.elim
  | some ds=>rw [et] at h; exact ⟨k,ds,rfl,et,fun b sq=>h _ H1 ι1 x1 S1 (Rep.tup sq (Zfa ds))⟩
 | _=>exact h.elim
end
end L3
namespace L3
open PySem PySem.Spec PyProof.Rows L2
open AutoSeq1 (wpAny_loadPart')
set_option maxRecDepth 100000
theorem ZgJ {prog:Program} {w:World} {A:Around} {it:Addr} {fp:List Addr} {n:Nat} {P:Nat → Value → Prop} {St:Nat → Heap → Prop} (D:Draws prog w A it fp n P St):
  Draws prog w A it fp (n + 1) (fun i v=>P (i - 1) v) (fun i h=>∃ j,i = j + 1 ∧ St j h) where
 live:=fun i h ⟨j,_,st⟩=>D.live j h st
 frame:=fun i h h' ⟨j,e,st⟩ hk=>⟨j,e,D.frame j h h' st hk⟩
 item:=fun i s Q E hi st hQ=>by
  obtain ⟨j,rfl,st⟩:=st
  exact D.item j s Q E (Nat.lt_of_succ_lt_succ hi) st fun x h' tk hp st' hs=>hQ x h' tk hp ⟨j + 1,rfl,st'⟩ hs
 done:=fun s Q E st hE=>by
  obtain ⟨j,e,st⟩:=st
  cases Nat.succ.inj e
  exact D.done s Q E st hE
theorem Zhh (l:Addr) (items:Array Value) (n:Nat) (dct:Option Addr) (sl:Array (Option Value)) (t:Tok):
  Meets (Builtin.«enumerate.__new__» ⟨[.type "enumerate",.ref l],[("start",.int 1 t)]⟩) (fun _ R s=>s.heap.get? l = some { cls:=.type "list",dict:=dct,data:=.seq items n,slots:=sl } ∧
   R (.ok (.ret (.ref (s.heap.push { cls:=.type "list_iterator",data:=.fields #[.ref l,.int 0 0] }).objs.size)))
    { s with heap:=(s.heap.push { cls:=.type "list_iterator",data:=.fields #[.ref l,.int 0 0] }).push { cls:=.type "enumerate",data:=.fields #[.none,.bool false,.ref s.heap.objs.size,rawInt 1,.none,.none] } }):=
 .of_wp fun prog w A R s h=>by
  obtain ⟨hp,g,d,tk,os⟩:=s; obtain ⟨hl,h⟩:=h
  have hsub:=sub_enumerate
  have hL:Heap.IsList (Shared.heap ⟨hp,g,d,tk,os⟩) l items:=⟨_,hl,rfl,n,rfl⟩
  wp_walk using wpAny_loadPart' hl
  refine wpAny_stack_any fun st=>wpAny_pure ?_
  split
  ·rename_i c _ _ _ _ _
   cases (c == Value.type "enumerate")
   ·wp_walk using wpAny_loadPart' hl,wpAny_pyIter_list hL
    exact ⟨_,rfl,h⟩
   ·wp_walk using wpAny_loadPart' hl,wpAny_pyIter_list hL
    exact ⟨_,rfl,h⟩
  ·wp_walk using wpAny_loadPart' hl,wpAny_pyIter_list hL
   exact ⟨_,rfl,h⟩
theorem Zhq (a b:Value):checkTypeCall "enumerate" ⟨[a],[("start",b)]⟩ = pure ():=by kernel_rfl
theorem Zix (a b:Value):checkBuiltinCall "enumerate.__new__" ⟨[.type "enumerate",a],[("start",b)]⟩ = pure ():=by kernel_rfl
theorem Zhu (o a b:Value):argsOk "object.__init__" ⟨[o,a],[("start",b)]⟩:=by
 unfold argsOk; rw [signature?_of (id:="object.__init__") (n:=['_','_','t','i','n','i','_','_']) (o:=['t','c','e','j','b','o']) (by kernel_rfl) F.owner_object]; kernel_rfl
theorem Zha {self a b:Value}:Meets (Builtin.«object.__init__» ⟨[self,a],[("start",b)]⟩) (fun _ R s=>s.TypeIs self "enumerate" ∧ R (.ok (.ret .none)) s):=by
 have hl:=F.called_enumerate.init.lookup; have hm:=F.called_enumerate.made
 refine Meets.of_wp fun prog w A R s hs=>?_
 obtain ⟨hT,hq⟩:=hs
 repeat (any_goals (first | assumption | wp_step))
 exact ⟨_,rfl,hq⟩
theorem ZhM {prog:Program} {w:World} {A:Around} {E:Value → Shared → Prop} {s:Shared} {l:Addr} {items:Array Value} {t:Tok} {Q:Value → Shared → Prop} (hL:s.heap.IsList l items)
  (h:∀ h',IsEnum h' (s.heap.objs.size + 1) s.heap.objs.size 1 .none → h'.IsListIter s.heap.objs.size l 0 → (∀ b o,s.heap.get? b = some o → h'.get? b = some o) → Q (.ref (s.heap.objs.size + 1)) { s with heap:=h' }):
  wpAny (model prog w) A (call (.type "enumerate") [.ref l] [("start",.int 1 t)]) Q E s:=by
 obtain ⟨⟨c,dct,dt,sl⟩,hl,hc,n,hd⟩:=hL
 replace hc:c = .type "list":=hc; replace hd:dt = .seq items n:=hd
 subst hc hd
 have ft:=F.called_enumerate
 obtain ⟨c,tl,hmro⟩:=ft.mro
 have hmade:=ft.made; have hsub:=ft.sub
 have hct:=Zhq (.ref l) (.int 1 t); have hcn:=Zix (.ref l) (.int 1 t)
 refine wpAny_call (codeAny_of_tree (show wpAny _ _ (callAny (.type "enumerate") _) _ _ _ from ?_))
 refine wpAny_pure ⟨Code.quiet_builtin _ (by decide +kernel),codeAny_builtin F.entry_type_call (?_)⟩
 rw [Around.under_plain (weight_type_call_type _ _ _) (units_type_call_type _ _ _)]
 have h1:=ft.notType; have h2:=ft.canCreate
 repeat (any_goals (first | assumption | wp_step))
 have hz:(s.heap.push { cls:=.type "list_iterator",data:=.fields #[.ref l,.int 0 0] }).objs.size = s.heap.objs.size + 1:=Heap.size_push ..
 have g0:=Zhh l items n dct sl t prog w A.in1 (wants (fun obj s₁=>s₁.TypeIs obj "enumerate" ∧ Q obj s₁) E) s ⟨hl,by
  show _ ∧ _
  rw [hz]
  have he:IsEnum ((s.heap.push { cls:=.type "list_iterator",data:=.fields #[.ref l,.int 0 0] }).push { cls:=.type "enumerate",data:=.fields #[.none,.bool false,.ref s.heap.objs.size,rawInt 1,.none,.none] }) (s.heap.objs.size + 1) s.heap.objs.size 1 .none:=by
   have q:=Heap.get?_push_size (s.heap.push { cls:=.type "list_iterator",data:=.fields #[.ref l,.int 0 0] }) (o:={ cls:=.type "enumerate",data:=.fields #[.none,.bool false,.ref s.heap.objs.size,rawInt 1,.none,.none] }) rfl
   rw [hz] at q; exact q
  exact ⟨⟨_,he,rfl⟩,h _ he ⟨_,Heap.get?_push_of_some _ (Heap.get?_push_size _ rfl),rfl,rfl⟩ fun b o x=>Heap.get?_push_of_some _ (Heap.get?_push_of_some _ x)⟩⟩
 refine codeAny_mono (codeAny_call_builtin ft.plain F.entry_enumerate_new (wpAny_of_eq hcn g0)) fun r s₁ hr=>?_
 cases r with
 | error e=>exact hr
 | ok fl=>
  cases fl with
  | ret obj=>
   obtain ⟨hT,hq⟩:=hr
   have hli:=ft.init.lookup; have hbi:=ft.init.bind obj
   repeat (any_goals (first | assumption | wp_step))
   refine codeAny_mono (codeAny_call_builtin ft.init.plain F.entry_object_init (ft.init.check _ _ _ _ _ _ _ _ hT (Zhu obj _ _) (Zha prog w A.in1 (wants (fun r s₂=>r = .none ∧ Q obj s₂) E) s₁ ⟨hT,rfl,hq⟩))) fun r₂ s₂ hr₂=>?_
   cases r₂ with
   | error e=>exact hr₂
   | ok fl₂=>
    cases fl₂ with
    | ret r=>
     obtain ⟨rfl,hq⟩:=hr₂
     repeat (any_goals (first | assumption | wp_step))
    | _=>exact hr₂.elim
  | _=>exact hr.elim
noncomputable def Zoq (S:Hp → List V → Prop):It:=⟨fun i H=>∃ xs x,S H xs ∧ xs[i]? = some x,fun i H x H'=>∃ A a,x = .ref A ∧ H A = none ∧ H' = upd H A (.tup [.int ((i + 1:Nat):Int),a]) ∧ ∀ xs,S H xs → xs[i]? = some a,
 fun i H=>∃ xs,S H xs ∧ xs.length ≤ i⟩
theorem ZhK {P:Program} {w:World} {K:PySem.W.Frag} {es:List Expr} {k:Nat} {pos:Pos} (a e it:Addr) (hne:e ≠ it):
  Turn P w K (.Tuple es k pos) (Zoq fun H xs=>SqL K H a xs) [e,it] e (fun i h=>(∃ old,IsEnum h e it ((i + 1:Nat):Int) old) ∧ h.IsListIter it a i) where
 mem:=by simp
 obj:=fun i h st b hb=>by
  obtain ⟨⟨old,he⟩,o,ho,c,d⟩:=st
  simp only [List.mem_cons,List.not_mem_nil,or_false] at hb
  rcases hb with rfl | rfl
  ·exact ⟨_,he,fun v z=>by cases z⟩
  ·exact ⟨o,ho,fun v z=>by rw [d] at z; cases z⟩
 keep:=fun i h h' st k=>by
  obtain ⟨⟨old,he⟩,hit⟩:=st
  exact ⟨⟨old,k e (by simp) _ he⟩,hit.at fun o q=>k it (by simp) o q⟩
 item:=by
  intro X hP hw hK hc i pins s σ H E I hf st hg
  subst hP hw hK
  obtain ⟨xs,x,hq,hx⟩:=hg
  obtain ⟨its,rv,p,hz⟩:=I.list hq
  obtain ⟨u,hu,ru⟩:=rv.get hx
  obtain ⟨⟨old,he⟩,hit⟩:=st
  have hel:=Heap.lt_size he
  have hil:it < s.heap.objs.size:=by obtain ⟨o,ho,_⟩:=id hit; exact Heap.lt_size ho
  have hae:e ≠ a:=by
   rintro rfl
   obtain ⟨o,ho,hc,_⟩:=p.isList
   rw [he] at ho; cases ho
   exact absurd hc (by simp)
  have hai:a ≠ it:=by
   rintro rfl
   obtain ⟨o,ho,hc,_⟩:=p.isList
   obtain ⟨o',ho',hc',_⟩:=hit
   rw [ho'] at ho; cases ho
   rw [hc'] at hc
   exact absurd hc (by simp)
  have D:=ZgJ (Draws.list (prog:=X.prog) (w:=X.w) (A:=X.A.in1) (I.ok.hd hc) it a hai its.toArray)
  refine wpAny_pyNext_enum_itemD (i:=i + 1) D he ⟨i,rfl,hit,p.isList⟩ (by simpa using (List.getElem?_eq_some_iff.mp hu).1) hne (by simp [hne,hae]) fun y h' tk hy ho hst hT hsz hk=>?_
  have ey:y = u:=by
   have q:its.toArray[i]? = some u:=by simpa using hu
   have hy':its.toArray[i]? = some y:=hy
   rw [q] at hy'; cases hy'; rfl
  subst ey
  refine ⟨_,rfl,wpAny_letOwnedTupleGo_enum (s:={ s with heap:=h',toks:=tk + 1 }) ho fun h'' he'' hs''=>?_⟩
  obtain ⟨I2,n2⟩:=Zjf (i:=i + 1) (x:=x) (tk':=tk + 1) I hf hel hil ru hT hk hs''
  obtain ⟨j,ej,hst,_⟩:=hst
  cases Nat.succ.inj ej
  exact ⟨.ref s.heap.objs.size,_,I2,rfl,⟨_,x,rfl,I.hok.fresh (Nat.le_refl _),rfl,fun ys hy=>by rw [I.list_inj hy hq]; exact hx⟩,⟨⟨_,by simpa using he''⟩,hst.extBut hs''.extBut (Ne.symm hne)⟩,n2⟩
 done:=by
  intro X hP hw hK hc i pins s σ H E I hf st hg
  subst hP hw hK
  obtain ⟨xs,hq,hx⟩:=hg
  obtain ⟨its,rv,p,hz⟩:=I.list hq
  obtain ⟨⟨old,he⟩,hit⟩:=st
  have hl:=rv.length
  have hT:s.TypeIs (.ref e) "enumerate":=⟨_,he,rfl⟩
  unfold pyNext
  refine wpAny_bind (wpAny_attempt (wpAny_callSpecial?_slot (name:=Str.ofString "__next__") hT F.slot_enumerate_next
   (wpAny_call_entry F.slot_enumerate_next hT F.entry_enumerate_next (show wpAny _ _ (field (.ref e) 2 >>= fun o=>_) _ _ _ from ?_) (F.args_enumerate_next_1 _))))
  refine wpAny_bind (wpAny_field he rfl (x:=.ref it) rfl (wpAny_bind ?_))
  refine wpAny_nextOf_list_end (I.ok.hd hc) hit p.isList (by simp; exact lC 2 2268279672881 T1 hl hx) fun h' x he' hx'=>?_
  obtain ⟨o,ho,hc⟩:=hx'
  refine wpAny_bind (wpAny_isInstance (T:="StopIteration") (b:=true) ⟨o,ho,hc⟩ isSubtype_stop (wpAny_pure ?_))
  exact ⟨rfl,I.turnedL (t':=s.toks) (fun b o hb q=>he' b o (fun z=>hb (by simp [z])) q) hf⟩
 self:=fun _ _ _ _ _ st h=>by
  obtain ⟨⟨old,he⟩,_⟩:=st
  exact wpAny_pyIter_enum he h
section
variable {X:Cx} {es:List Expr} {k:Nat} {a:Expr} {p pos tpos kp cp:Pos} {f:E3}
noncomputable def ZkS (K:PySem.W.Frag) (ta:TA):TI:=fun σ H R=>ta σ H fun vs H1=>∃ b,vs = [.ref b] ∧ ∃ xs,SqL K H1 b xs ∧ R (Zoq fun H xs=>SqL K H b xs) H1
theorem Zf5 {M:Model} {A:Around} {E:Value → Shared → Prop} {s:Shared} {env:Env} {T:String} {e:Expr} {kws:List Keyword} {Q:Value → Shared → Prop}
  (h:wpAny M A (spliced (backTo pos (starEach [e] env))) (fun vs s₁=>wpAny M A (evalAll ((backToKw pos (keywordEach kws env)).map (·.2)))
   (fun kvs s₂=>wpAny M A (call (.type T) vs (((backToKw pos (keywordEach kws env)).filterMap (·.1)).zip kvs)) Q E s₂) E s₁) E s)
  (he:backTo pos (starEach [e] env) = [(false,eval e env)])
  (hall:(backToKw pos (keywordEach kws env)).all (·.1.isSome) = true) (hkw:(backToKw pos (keywordEach kws env)).any (·.1.isNone) = false):
  wpAny M A (callWith pos (.type T) [] (backTo pos (starEach [e] env)) (backToKw pos (keywordEach kws env))) Q E s:=by
 rw [he] at h ⊢
 unfold callWith
 refine wpAny_bind (wpAny_holding (wpAny_mono (PyProof.Rows.evalArgs_kwB (Q:=fun a s₁=>wpAny M A (call (.type T) a.pos a.kw) Q E s₁) hall h) (fun a s₁ h₁=>wpAny_bind (wpAny_standAt ?_)) fun _ _ x=>x))
 simp only [hkw,List.any_cons,List.any_nil,Bool.or_false]
 refine wpAny_bind (wpAny_pure (wpAny_bind ?_))
 exact wpAny_mono h₁ (fun r s₂ hr=>wpAny_bind (wpAny_holding (wpAny_point (wpAny_pure hr)))) fun _ _ x=>x
theorem Zkx {ta:TA} {j} (hg:Gl X "enumerate") (hm:X.mg "enumerate" = none) (ha:PA X [a] ta) (he:backTo pos (starEach [a] X.env) = [(false,eval a X.env)]):
  PI X (.Tuple es k tpos) (.Call (.Name "enumerate" p) [a] [⟨some "start",.Constant (.int 1) j cp,kp⟩] pos) (ZkS X.K ta):=by
 intro pins s σ H R I h
 refine wpAny_Call_Name_kw (Zey I hg hm boot_enumerate (Zf5 (thn (ha pos pins s σ H _ I h) fun us s1 zz1=>?_) he rfl rfl))
 obtain ⟨vs,H1,I1,r1,q1⟩:=zz1
 refine thn ((ZlH (nm:=some "start") (kpos:=kp) (Zjo (j:=j) (pos:=cp) (i:=1)) ZnA) pos pins s1 σ H1 (fun zs H'=>zs = [.int 1] ∧ H' = H1) I1 ⟨rfl,rfl⟩) fun ws s2 zz2=>?_
 obtain ⟨zs,H2,I2,rz,rfl,rfl⟩:=zz2
 obtain ⟨b,e,xs,hq,q⟩:=q1
 subst e
 cases r1 with
 | cons r rr=>
  cases rr
  cases r
  cases rz with
  | cons r' rr=>
   cases rr
   obtain ⟨t,rfl⟩:=r'
   have fp:∀ c ∈ [s2.heap.objs.size + 1,s2.heap.objs.size],Zdw X pins H2 c:=fun c hc=>by
    have hc':s2.heap.objs.size ≤ c:=by
     simp only [List.mem_cons,List.not_mem_nil,or_false] at hc
     rcases hc with rfl | rfl <;> omega
    exact I2.fpOk hc' (I2.hok.fresh hc')
   obtain ⟨its,rv,pl,hz⟩:=I2.list hq
   refine ZhM (t:=t) pl.isList fun h' hE hI hk=>?_
   have I3:Inv X pins σ H2 { s2 with heap:=h' }:=I2.kept (t':=s2.toks) hk
   exact wpAny_pyIter_enum (s:={ s2 with heap:=h' }) hE ⟨_,[s2.heap.objs.size + 1,s2.heap.objs.size],_,_,H2,rfl,I3,ZhK b _ _ (Nat.succ_ne_self _),⟨⟨_,hE⟩,hI⟩,fp,q⟩
theorem ZjS {j} (hm:X.mg "enumerate" = none) (h:C3 X a f) (hg:Gl X "enumerate":=by rfl) (he:backTo pos (starEach [a] X.env) = [(false,eval a X.env)]:=by rfl) (hs':starEach (a :: []) X.env = (false,eval a X.env) :: starEach [] X.env:=by rfl):
  CIL X (.Tuple es k tpos) (.Call (.Name "enumerate" p) [a] [⟨some "start",.Constant (.int 1) j cp,kp⟩] pos) (Zge f):=
 PI.imp (Zkx hg hm (Zc h Zg hs') he) fun σ H R zz1=>by
  obtain ⟨ι,M,env,S,E,h⟩:=zz1
  obtain ⟨d,M1,e1,h⟩:=Ze0.bind h
  refine ⟨ι,M,env,S,E,?_⟩
  have e2:Za f Ze env M = .ok [d] M1:=by unfold Za; rw [e1]; rfl
  rw [e2]
  intro vs H1 ι1 x1 S1 r1
  obtain ⟨v,ws,rfl,r,q⟩:=r1.cons_inv
  have:=q.nil_inv
  subst this
  cases d with
  | ref n=>
   cases hm:M1[n]? with
   | none=>simp only [hm] at h; exact h.elim
   | some o=>
    cases o with
    | lst ds=>
     simp only [hm] at h
     obtain ⟨b,ha,rfl⟩:=r.ref_inv
     obtain ⟨vs,q,r⟩:=S1.obj n _ b hm ha
     refine ⟨b,rfl,vs,SqL.of q,h _ H1 ι1 x1 S1 ?_⟩
     intro i H2 ι2 M2 x S2 lk
     have lk':M2[n]? = some (.lst ds):=by simpa [Zba] using lk
     obtain ⟨vs2,q2,r2⟩:=S2.obj n _ b lk' (x.pre _ _ ha)
     refine ⟨fun d hd=>?_,fun hl=>⟨vs2,SqL.of q2,by rw [r2.length,hl,Zeo]; exact Nat.le_refl _⟩⟩
     rw [ZeA,Nat.add_comm 1 i] at hd
     cases hq:ds[i]? with
     | none=>rw [hq] at hd; cases hd
     | some d0=>
      rw [hq] at hd
      cases hd
      obtain ⟨v,hv,rv⟩:=r2.get hq
      refine ⟨⟨vs2,v,SqL.of q2,hv⟩,fun y H3 hy=>?_⟩
      obtain ⟨T,y',rfl,hT,rfl,hall⟩:=hy
      have e:=hall vs2 (SqL.of q2)
      rw [hv] at e
      cases e
      exact S2.tupl hT (Zj.cons Rep.int (Zj.cons rv Zj.nil))
    | _=>simp only [hm] at h; exact h.elim
  | _=>exact h.elim
end
end L3
namespace L3
open PySem PySem.Spec PyProof.Rows L2
set_option maxRecDepth 100000
noncomputable def obK (b:Bool) (h:Heap) (l:Addr) (its:Array Value):Prop:=match b with
 | true=>h.IsList l its
 | false=>h.IsTuple l its
noncomputable def itK (b:Bool) (h:Heap) (it l:Addr) (i:Nat):Prop:=match b with
 | true=>h.IsListIter it l i
 | false=>h.IsTupleIter it l i
noncomputable def sqK (b:Bool) (K:PySem.W.Frag) (H:Hp) (l:Addr) (xs:List V):Prop:=match b with
 | true=>SqL K H l xs
 | false=>SqT K H l xs
noncomputable def itT:Bool → String
 | true=>"list_iterator"
 | false=>"tuple_iterator"
theorem obK.keep {b:Bool} {h h':Heap} {l:Addr} {its:Array Value} (k:∀ o,h.get? l = some o → h'.get? l = some o) (x:obK b h l its):obK b h' l its:=by
 cases b with
 | true=>exact Heap.IsList.at x k
 | false=>exact Heap.IsTuple.at x k
theorem itK.keep {b:Bool} {h h':Heap} {it l:Addr} {i:Nat} (k:∀ o,h.get? it = some o → h'.get? it = some o) (x:itK b h it l i):itK b h' it l i:=by
 cases b with
 | true=>exact Heap.IsListIter.at x k
 | false=>exact Heap.IsTupleIter.at x k
theorem itK.there {b:Bool} {h:Heap} {it l:Addr} {i:Nat} (x:itK b h it l i):∃ o,h.get? it = some o ∧ ∀ v,o.data ≠ .cell v:=by
 cases b with
 | true=>obtain ⟨o,ho,_,d⟩:=x; exact ⟨o,ho,fun v z=>by rw [d] at z; cases z⟩
 | false=>obtain ⟨o,ho,_,d⟩:=x; exact ⟨o,ho,fun v z=>by rw [d] at z; cases z⟩
theorem obK.there {b:Bool} {h:Heap} {l:Addr} {its:Array Value} (x:obK b h l its):l < h.objs.size:=by
 cases b with
 | true=>obtain ⟨o,ho,_⟩:=x; exact Heap.lt_size ho
 | false=>obtain ⟨o,ho,_⟩:=x; exact Heap.lt_size ho
theorem sqK.at {b:Bool} {X:Cx} {pins:List (Addr × Obj)} {σ:St} {H:Hp} {s:Shared} {l:Addr} {xs:List V} (I:Inv X pins σ H s) (x:sqK b X.K H l xs):∃ its:List Value,Vals xs its ∧ obK b s.heap l its.toArray:=by
 cases b with
 | true=>obtain ⟨its,r,p,_⟩:=I.list x; exact ⟨its,r,p.isList⟩
 | false=>obtain ⟨its,r,p,_⟩:=I.tuple x; exact ⟨its,r,p⟩
theorem sqK.inj {b:Bool} {X:Cx} {pins:List (Addr × Obj)} {σ:St} {H:Hp} {s:Shared} {l:Addr} {xs ys:List V} (I:Inv X pins σ H s) (x:sqK b X.K H l xs) (y:sqK b X.K H l ys):xs = ys:=by
 cases b with
 | true=>exact I.list_inj x y
 | false=>exact I.tuple_inj x y
section
variable {prog:Program} {w:World} {A:Around} {E:Value → Shared → Prop} {s:Shared}
theorem nextK {b:Bool} {it l:Addr} {i:Nat} {its:Array Value} {x:Value} {Q:Value → Shared → Prop} (hi:itK b s.heap it l i) (ho:obK b s.heap l its) (hx:its[i]? = some x)
  (hQ:∀ h',itK b h' it l (i + 1) → Heap.SameBut it s.heap h' → Q x { s with heap:=h' }):wpAny (model prog w) A (Builtin.SmallTypes.nextOf (.ref it)) Q E s:=by
 cases b with
 | true=>exact wpAny_nextOf_list_item hi ho hx hQ
 | false=>exact ZdZ hi ho hx hQ
theorem ZfS {b:Bool} {it l:Addr} {i:Nat} {its:Array Value} {Q:Value → Shared → Prop} (hh:A.handled = none) (hi:itK b s.heap it l i) (ho:obK b s.heap l its) (hx:its[i]? = none)
  (hE:∀ h' e,Heap.ExtBut it s.heap h' → (∃ o,h'.get? e = some o ∧ o.cls = .type "StopIteration") → E (.ref e) { s with heap:=h' }):wpAny (model prog w) A (Builtin.SmallTypes.nextOf (.ref it)) Q E s:=by
 cases b with
 | true=>exact wpAny_nextOf_list_end hh hi ho hx hE
 | false=>exact Zep hh hi ho hx hE
theorem Zl9 {b:Bool} {l:Addr} {its:Array Value} {Q:Value → Shared → Prop} (ho:obK b s.heap l its) (h:Q (.ref s.heap.objs.size) { s with heap:=s.heap.push { cls:=.type (itT b),data:=.fields #[.ref l,.int 0 0] } }):
  wpAny (model prog w) A (pyIter (.ref l)) Q E s:=by
 cases b with
 | true=>exact wpAny_pyIter_list ho h
 | false=>exact wpAny_pyIter_tuple ho h
theorem itK.new {b:Bool} {h:Heap} {it l:Addr} (e:h.get? it = some { cls:=.type (itT b),data:=.fields #[.ref l,.int 0 0] }):itK b h it l 0:=by
 cases b with
 | true=>exact ⟨_,e,rfl,rfl⟩
 | false=>exact ⟨_,e,rfl,rfl⟩
theorem ZiG {b1 b2:Bool} {z TI TO i1 i2 l1 l2:Addr} {k1 k2:Nat} {xs ys:Array Value} {x y a b:Value} {Q:Value → Shared → Prop} (D:ZipApart z TI TO i1 i2 l1 l2)
  (hz:IsZip s.heap z TI TO .none) (hTI:IsPair s.heap TI (.ref i1) (.ref i2)) (hTO:IsPair s.heap TO a b)
  (h1:itK b1 s.heap i1 l1 k1) (h2:itK b2 s.heap i2 l2 k2) (hl1:obK b1 s.heap l1 xs) (hl2:obK b2 s.heap l2 ys) (hx:xs[k1]? = some x) (hy:ys[k2]? = some y)
  (hQ:∀ h',IsZip h' z TI TO (rawInt s.heap.objs.size) → IsPair h' TO x y → itK b1 h' i1 l1 (k1 + 1) → itK b2 h' i2 l2 (k2 + 1) → IsPair h' s.heap.objs.size x y →
   (∀ c o,c ≠ z → c ≠ TO → c ≠ i1 → c ≠ i2 → s.heap.get? c = some o → h'.get? c = some o) → Q (.ref s.heap.objs.size) { s with heap:=h' }):
  wpAny (model prog w) A (Builtin.«zip.__next__» ⟨[.ref z],[]⟩) (fun fin s'=>∃ v,fin = .done (.ret v) ∧ Q v s') E s:=by
 show wpAny _ _ (field (.ref z) 2 >>= fun o=>_) _ _ _
 refine wpAny_bind (wpAny_field hz rfl (x:=.bool false) rfl (show wpAny _ _ (field (.ref z) 3 >>= fun o=>_) _ _ _ from ?_))
 refine wpAny_bind (wpAny_field hz rfl (x:=.ref TI) rfl (wpAny_bind (wpAny_seqItems hTI rfl ?_)))
 refine (show wpAny _ _ (Builtin.SmallTypes.ownedTupleIsFree (.ref z) >>= fun o=>_) _ _ _ from wpAny_bind ?_)
 unfold Builtin.SmallTypes.ownedTupleIsFree
 refine wpAny_bind (wpAny_field hz rfl (x:=.none) rfl (wpAny_pure ?_)); simp only [if_true]
 refine wpAny_bind (wpAny_rule (wpAny_bind (wpAny_field hz rfl (x:=.ref TO) rfl ?_)))
 refine wpAny_bind (wpAny_setField_rec hz (by simp) fun g1 hz1 hs1=>wpAny_bind ?_)
 replace hz1:IsZip g1 z TI TO .ellipsis:=hz1
 simp only [List.zipIdx_cons,List.zipIdx_nil,List.forIn_cons,List.forIn_nil]
 refine wpAny_bind (wpAny_bind (wpAny_onRaise (show wpAny _ _ (Builtin.SmallTypes.nextOf (.ref i1) >>= fun o=>_) _ _ _ from ?_)))
 refine wpAny_bind (nextK (h1.keep fun o q=>hs1.extBut _ o D.i1z q) (hl1.keep fun o q=>hs1.extBut _ o D.l1z q) hx fun g2 h12 hs2=>wpAny_pure ?_)
 have hTO2:IsPair g2 TO a b:=hs2.extBut _ _ D.TOi1 (hs1.extBut _ _ D.TOz hTO)
 refine wpAny_bind (wpAny_seqItems hTO2 rfl (wpAny_bind (wpAny_updateSeq_pair hTO2 fun g3 hTO3 hs3=>?_)))
 replace hTO3:IsPair g3 TO x b:=hTO3
 refine wpAny_bind (wpAny_letGo (wpAny_pure (wpAny_bind (wpAny_bind (wpAny_onRaise (show wpAny _ _ (Builtin.SmallTypes.nextOf (.ref i2) >>= fun o=>_) _ _ _ from ?_))))))
 refine wpAny_bind (nextK (h2.keep fun o q=>hs3.extBut _ o D.TOi2.symm (hs2.extBut _ o D.i12.symm (hs1.extBut _ o D.i2z q))) (hl2.keep fun o q=>hs3.extBut _ o D.l2TO (hs2.extBut _ o D.l2i1 (hs1.extBut _ o D.l2z q))) hy fun g4 h24 hs4=>wpAny_pure ?_)
 have hTO4:IsPair g4 TO x b:=hs4.extBut _ _ D.TOi2 hTO3
 refine wpAny_bind (wpAny_seqItems hTO4 rfl (wpAny_bind (wpAny_updateSeq_pair hTO4 fun g5 hTO5 hs5=>?_)))
 replace hTO5:IsPair g5 TO x y:=hTO5
 refine wpAny_bind (wpAny_letGo (wpAny_pure (wpAny_pure (wpAny_bind (wpAny_seqItems hTO5 rfl (wpAny_bind (wpAny_newTuple ?_)))))))
 have hsz:g5.objs.size = s.heap.objs.size:=by rw [hs5.1,hs4.1,hs3.1,hs2.1,hs1.1]
 have hz5:IsZip g5 z TI TO .ellipsis:=hs5.extBut _ _ D.TOz.symm (hs4.extBut _ _ D.i2z.symm (hs3.extBut _ _ D.TOz.symm (hs2.extBut _ _ D.i1z.symm hz1)))
 have hk5:∀ c o,c ≠ z → c ≠ TO → c ≠ i1 → c ≠ i2 → s.heap.get? c = some o → g5.get? c = some o:=fun c o c1 c2 c3 c4 e=>
  hs5.extBut _ _ c2 (hs4.extBut _ _ c4 (hs3.extBut _ _ c2 (hs2.extBut _ _ c3 (hs1.extBut _ _ c1 e))))
 have h15:itK b1 g5 i1 l1 (k1 + 1):=h12.keep fun o q=>hs5.extBut _ o D.TOi1.symm (hs4.extBut _ o D.i12 (hs3.extBut _ o D.TOi1.symm q))
 have h25:itK b2 g5 i2 l2 (k2 + 1):=h24.keep fun o q=>hs5.extBut _ o D.TOi2.symm q
 have hzlt:z < g5.objs.size:=Heap.lt_size hz5
 refine (show wpAny _ _ (Builtin.SmallTypes.ownedTupleHandOut (.ref z) (.ref g5.objs.size) >>= fun o=>_) _ _ _ from wpAny_bind ?_)
 unfold Builtin.SmallTypes.ownedTupleHandOut
 have hz6:IsZip (g5.push { cls:=.type "tuple",data:=.seq #[x,y] }) z TI TO .ellipsis:=Heap.get?_push_of_some _ hz5
 refine wpAny_bind (wpAny_setField_rec hz6 (by simp) fun g7 hz7 hs7=>?_)
 replace hz7:IsZip g7 z TI TO (rawInt g5.objs.size):=hz7
 refine wpAny_setField_rec hz7 (by simp) fun g8 hz8 hs8=>?_
 replace hz8:IsZip g8 z TI TO (rawInt g5.objs.size):=hz8
 have up:∀ c o,c ≠ z → g5.get? c = some o → g8.get? c = some o:=fun c o c1 e=>hs8.extBut _ _ c1 (hs7.extBut _ _ c1 (Heap.get?_push_of_some _ e))
 have hT8:IsPair g8 g5.objs.size x y:=hs8.extBut _ _ (Nat.ne_of_gt hzlt) (hs7.extBut _ _ (Nat.ne_of_gt hzlt) (Heap.get?_push_size _ rfl))
 rw [hsz] at hz8 hT8
 refine wpAny_pure ⟨_,rfl,(show Q (.ref g5.objs.size) _ from ?_)⟩
 rw [hsz]
 exact hQ g8 hz8 (up _ _ D.TOz hTO5) (h15.keep fun o e=>up _ o D.i1z e) (h25.keep fun o e=>up _ o D.i2z e) hT8 fun c o c1 c2 c3 c4 e=>up c o c1 (hk5 c o c1 c2 c3 c4 e)
theorem ZkD {b1 b2:Bool} {z TI TO i1 i2 l1 l2:Addr} {k1 k2:Nat} {xs ys:Array Value} {a b:Value} {Q:Fin → Shared → Prop} (hh:A.handled = none) (D:ZipApart z TI TO i1 i2 l1 l2)
  (hz:IsZip s.heap z TI TO .none) (hTI:IsPair s.heap TI (.ref i1) (.ref i2)) (hTO:IsPair s.heap TO a b)
  (h1:itK b1 s.heap i1 l1 k1) (h2:itK b2 s.heap i2 l2 k2) (hl1:obK b1 s.heap l1 xs) (hl2:obK b2 s.heap l2 ys) (hend:xs[k1]? = none ∨ ys[k2]? = none)
  (hE:∀ h' e,(∀ c o,c ≠ z → c ≠ TO → c ≠ i1 → c ≠ i2 → s.heap.get? c = some o → h'.get? c = some o) → (∃ o,h'.get? e = some o ∧ o.cls = .type "StopIteration") → E (.ref e) { s with heap:=h' }):
  wpAny (model prog w) A (Builtin.«zip.__next__» ⟨[.ref z],[]⟩) Q E s:=by
 show wpAny _ _ (field (.ref z) 2 >>= fun o=>_) _ _ _
 refine wpAny_bind (wpAny_field hz rfl (x:=.bool false) rfl (show wpAny _ _ (field (.ref z) 3 >>= fun o=>_) _ _ _ from ?_))
 refine wpAny_bind (wpAny_field hz rfl (x:=.ref TI) rfl (wpAny_bind (wpAny_seqItems hTI rfl ?_)))
 refine (show wpAny _ _ (Builtin.SmallTypes.ownedTupleIsFree (.ref z) >>= fun o=>_) _ _ _ from wpAny_bind ?_)
 unfold Builtin.SmallTypes.ownedTupleIsFree
 refine wpAny_bind (wpAny_field hz rfl (x:=.none) rfl (wpAny_pure ?_)); simp only [if_true]
 refine wpAny_bind (wpAny_rule (wpAny_bind (wpAny_field hz rfl (x:=.ref TO) rfl ?_)))
 refine wpAny_bind (wpAny_setField_rec hz (by simp) fun g1 hz1 hs1=>wpAny_bind ?_)
 replace hz1:IsZip g1 z TI TO .ellipsis:=hz1
 simp only [List.zipIdx_cons,List.zipIdx_nil,List.forIn_cons,List.forIn_nil]
 refine wpAny_bind (wpAny_bind (wpAny_onRaise (show wpAny _ _ (Builtin.SmallTypes.nextOf (.ref i1) >>= fun o=>_) _ _ _ from ?_)))
 have h11:itK b1 g1 i1 l1 k1:=h1.keep fun o q=>hs1.extBut _ o D.i1z q
 have hl11:obK b1 g1 l1 xs:=hl1.keep fun o q=>hs1.extBut _ o D.l1z q
 cases hx:xs[k1]? with
 | none=>
  refine wpAny_bind (ZfS hh h11 hl11 hx fun g2 e hs2 he=>?_)
  obtain ⟨oe,hoe,hce⟩:=he
  have hz2:IsZip g2 z TI TO .ellipsis:=hs2 _ _ D.i1z.symm hz1
  have hez:e ≠ z:=fun q=>by subst q; rw [hz2] at hoe; cases hoe; simp at hce
  exact wpAny_setField_rec hz2 (by simp) fun g3 _ hs3=>hE g3 e (fun c o c1 _ c3 _ q=>hs3.extBut _ _ c1 (hs2 _ _ c3 (hs1.extBut _ _ c1 q))) ⟨oe,hs3.extBut _ _ hez hoe,hce⟩
 | some x=>
  have hy:ys[k2]? = none:=by rcases hend with q | q; rw [hx] at q; cases q; exact q
  refine wpAny_bind (nextK h11 hl11 hx fun g2 h12 hs2=>wpAny_pure ?_)
  have hTO2:IsPair g2 TO a b:=hs2.extBut _ _ D.TOi1 (hs1.extBut _ _ D.TOz hTO)
  refine wpAny_bind (wpAny_seqItems hTO2 rfl (wpAny_bind (wpAny_updateSeq_pair hTO2 fun g3 hTO3 hs3=>?_)))
  refine wpAny_bind (wpAny_letGo (wpAny_pure (wpAny_bind (wpAny_bind (wpAny_onRaise (show wpAny _ _ (Builtin.SmallTypes.nextOf (.ref i2) >>= fun o=>_) _ _ _ from ?_))))))
  refine wpAny_bind (ZfS hh (h2.keep fun o q=>hs3.extBut _ o D.TOi2.symm (hs2.extBut _ o D.i12.symm (hs1.extBut _ o D.i2z q))) (hl2.keep fun o q=>hs3.extBut _ o D.l2TO (hs2.extBut _ o D.l2i1 (hs1.extBut _ o D.l2z q))) hy fun g4 e hs4 he=>?_)
  obtain ⟨oe,hoe,hce⟩:=he
  have hz4:IsZip g4 z TI TO .ellipsis:=hs4 _ _ D.i2z.symm (hs3.extBut _ _ D.TOz.symm (hs2.extBut _ _ D.i1z.symm hz1))
  have hez:e ≠ z:=fun q=>by subst q; rw [hz4] at hoe; cases hoe; simp at hce
  exact wpAny_setField_rec hz4 (by simp) fun g5 _ hs5=>hE g5 e (fun c o c1 c2 c3 c4 q=>hs5.extBut _ _ c1 (hs4 _ _ c4 (hs3.extBut _ _ c2 (hs2.extBut _ _ c3 (hs1.extBut _ _ c1 q))))) ⟨oe,hs5.extBut _ _ hez hoe,hce⟩
theorem Zgb {b1 b2:Bool} {z TI TO i1 i2 l1 l2:Addr} {k1 k2:Nat} {xs ys:Array Value} {x y a b:Value} {Q:Option Value → Shared → Prop} (D:ZipApart z TI TO i1 i2 l1 l2)
  (hz:IsZip s.heap z TI TO .none) (hTI:IsPair s.heap TI (.ref i1) (.ref i2)) (hTO:IsPair s.heap TO a b)
  (h1:itK b1 s.heap i1 l1 k1) (h2:itK b2 s.heap i2 l2 k2) (hl1:obK b1 s.heap l1 xs) (hl2:obK b2 s.heap l2 ys) (hx:xs[k1]? = some x) (hy:ys[k2]? = some y)
  (hQ:∀ h',IsZip h' z TI TO (rawInt s.heap.objs.size) → IsPair h' TO x y → itK b1 h' i1 l1 (k1 + 1) → itK b2 h' i2 l2 (k2 + 1) → IsPair h' s.heap.objs.size x y →
   (∀ c o,c ≠ z → c ≠ TO → c ≠ i1 → c ≠ i2 → s.heap.get? c = some o → h'.get? c = some o) → Q (some (.ref s.heap.objs.size)) { s with heap:=h' }):
  wpAny (model prog w) A (pyNext (.ref z)) Q E s:=by
 have hT:s.TypeIs (.ref z) "zip":=⟨_,hz,rfl⟩
 unfold pyNext
 exact wpAny_bind (wpAny_attempt (wpAny_callSpecial?_slot (name:=Str.ofString "__next__") hT F.slot_zip_next (wpAny_call_entry F.slot_zip_next hT F.entry_zip_next
  (ZiG D hz hTI hTO h1 h2 hl1 hl2 hx hy fun h' a1 a2 a3 a4 a5 a6=>wpAny_pure (hQ h' a1 a2 a3 a4 a5 a6)) (F.args_zip_next_1 _))))
theorem Zg3 {b1 b2:Bool} {z TI TO i1 i2 l1 l2:Addr} {k1 k2:Nat} {xs ys:Array Value} {a b:Value} {Q:Option Value → Shared → Prop} (hh:A.handled = none) (D:ZipApart z TI TO i1 i2 l1 l2)
  (hz:IsZip s.heap z TI TO .none) (hTI:IsPair s.heap TI (.ref i1) (.ref i2)) (hTO:IsPair s.heap TO a b)
  (h1:itK b1 s.heap i1 l1 k1) (h2:itK b2 s.heap i2 l2 k2) (hl1:obK b1 s.heap l1 xs) (hl2:obK b2 s.heap l2 ys) (hend:xs[k1]? = none ∨ ys[k2]? = none)
  (hQ:∀ h',(∀ c o,c ≠ z → c ≠ TO → c ≠ i1 → c ≠ i2 → s.heap.get? c = some o → h'.get? c = some o) → Q none { s with heap:=h' }):wpAny (model prog w) A (pyNext (.ref z)) Q E s:=by
 have hT:s.TypeIs (.ref z) "zip":=⟨_,hz,rfl⟩
 unfold pyNext
 refine wpAny_bind (wpAny_attempt (wpAny_callSpecial?_slot (name:=Str.ofString "__next__") hT F.slot_zip_next (wpAny_call_entry F.slot_zip_next hT F.entry_zip_next
  (ZkD hh D hz hTI hTO h1 h2 hl1 hl2 hend fun h' e hk he=>?_) (F.args_zip_next_1 _))))
 obtain ⟨o,ho,hc⟩:=he
 exact wpAny_bind (wpAny_isInstance (T:="StopIteration") (b:=true) ⟨o,ho,hc⟩ isSubtype_stop (wpAny_pure (hQ _ hk)))
end
noncomputable abbrev zK1 (b:Bool) (h:Heap) (l:Addr):Heap:=h.push { cls:=.type (itT b),data:=.fields #[.ref l,.int 0 0] }
noncomputable abbrev zK3 (b1 b2:Bool) (h:Heap) (l1 l2:Addr):Heap:=(zK1 b2 (zK1 b1 h l1) l2).push { cls:=.type "tuple",data:=.seq #[.ref h.objs.size,.ref (zK1 b1 h l1).objs.size] }
noncomputable abbrev zK4 (b1 b2:Bool) (h:Heap) (l1 l2:Addr):Heap:=(zK3 b1 b2 h l1 l2).push { cls:=.type "tuple",data:=.seq #[.none,.none] }
noncomputable abbrev zK5 (b1 b2:Bool) (h:Heap) (l1 l2:Addr):Heap:=(zK4 b1 b2 h l1 l2).push { cls:=.type "zip",data:=.fields #[.none,.bool false,.bool false,.ref (zK1 b2 (zK1 b1 h l1) l2).objs.size,.ref (zK3 b1 b2 h l1 l2).objs.size] }
theorem ZhJ (b1 b2:Bool) (l1 l2:Addr) (xs ys:Array Value):
  Meets (Builtin.«zip.__new__» ⟨[.type "zip",.ref l1,.ref l2],[]⟩) (fun _ R s=>obK b1 s.heap l1 xs ∧ obK b2 s.heap l2 ys ∧ R (.ok (.ret (.ref (zK4 b1 b2 s.heap l1 l2).objs.size))) { s with heap:=zK5 b1 b2 s.heap l1 l2 }):=
 .of_wp fun prog w A R s h=>by
  obtain ⟨hp,g,d,tk,os⟩:=s; obtain ⟨hl1,hl2,h⟩:=h
  have hsub:=sub_zip
  have hL1:obK b1 (Shared.heap ⟨hp,g,d,tk,os⟩) l1 xs:=hl1
  have hL2:obK b2 (Shared.heap ⟨zK1 b1 hp l1,g,d,tk,os⟩) l2 ys:=hl2.keep fun o q=>Heap.get?_push_of_some _ q
  wp_walk using Zl9 hL1,Zl9 hL2
  exact ⟨_,rfl,h⟩
theorem ZiW {prog:Program} {w:World} {A:Around} {E:Value → Shared → Prop} {s:Shared} {b1 b2:Bool} {l1 l2:Addr} {xs ys:Array Value} {Q:Value → Shared → Prop} (hl1:obK b1 s.heap l1 xs) (hl2:obK b2 s.heap l2 ys)
  (h:∀ h',IsZip h' (s.heap.objs.size + 4) (s.heap.objs.size + 2) (s.heap.objs.size + 3) .none → IsPair h' (s.heap.objs.size + 2) (.ref s.heap.objs.size) (.ref (s.heap.objs.size + 1)) →
   IsPair h' (s.heap.objs.size + 3) .none .none → itK b1 h' s.heap.objs.size l1 0 → itK b2 h' (s.heap.objs.size + 1) l2 0 → (∀ c o,s.heap.get? c = some o → h'.get? c = some o) → Q (.ref (s.heap.objs.size + 4)) { s with heap:=h' }):
  wpAny (model prog w) A (call (.type "zip") [.ref l1,.ref l2]) Q E s:=by
 refine callType_new F.called_zip (by decide) (F.typeCall_zip_2 _ _) (F.newCall_zip_2 _ _) (fun obj=>F.args_object_init_3 obj _ _) F.entry_zip_new (ZhJ b1 b2 l1 l2 xs ys) ⟨hl1,hl2,?_⟩
 have z1:(zK1 b1 s.heap l1).objs.size = s.heap.objs.size + 1:=Heap.size_push ..
 have z2:(zK1 b2 (zK1 b1 s.heap l1) l2).objs.size = s.heap.objs.size + 2:=(Heap.size_push ..).trans (by rw [z1])
 have z3:(zK3 b1 b2 s.heap l1 l2).objs.size = s.heap.objs.size + 3:=(Heap.size_push ..).trans (by rw [z2])
 have z4:(zK4 b1 b2 s.heap l1 l2).objs.size = s.heap.objs.size + 4:=(Heap.size_push ..).trans (by rw [z3])
 have p5:∀ {c o},(zK4 b1 b2 s.heap l1 l2).get? c = some o → (zK5 b1 b2 s.heap l1 l2).get? c = some o:=fun q=>Heap.get?_push_of_some _ q
 have p4:∀ {c o},(zK3 b1 b2 s.heap l1 l2).get? c = some o → (zK5 b1 b2 s.heap l1 l2).get? c = some o:=fun q=>p5 (Heap.get?_push_of_some _ q)
 have p3:∀ {c o},(zK1 b2 (zK1 b1 s.heap l1) l2).get? c = some o → (zK5 b1 b2 s.heap l1 l2).get? c = some o:=fun q=>p4 (Heap.get?_push_of_some _ q)
 have p2:∀ {c o},(zK1 b1 s.heap l1).get? c = some o → (zK5 b1 b2 s.heap l1 l2).get? c = some o:=fun q=>p3 (Heap.get?_push_of_some _ q)
 have g5:(zK5 b1 b2 s.heap l1 l2).get? (zK4 b1 b2 s.heap l1 l2).objs.size = some { cls:=.type "zip",data:=.fields #[.none,.bool false,.bool false,.ref (zK1 b2 (zK1 b1 s.heap l1) l2).objs.size,.ref (zK3 b1 b2 s.heap l1 l2).objs.size] }:=Heap.get?_push_size _ rfl
 have g4:(zK5 b1 b2 s.heap l1 l2).get? (zK3 b1 b2 s.heap l1 l2).objs.size = some { cls:=.type "tuple",data:=.seq #[.none,.none] }:=p5 (Heap.get?_push_size _ rfl)
 have g3:(zK5 b1 b2 s.heap l1 l2).get? (zK1 b2 (zK1 b1 s.heap l1) l2).objs.size = some { cls:=.type "tuple",data:=.seq #[.ref s.heap.objs.size,.ref (zK1 b1 s.heap l1).objs.size] }:=p4 (Heap.get?_push_size _ rfl)
 have g2:(zK5 b1 b2 s.heap l1 l2).get? (zK1 b1 s.heap l1).objs.size = some { cls:=.type (itT b2),data:=.fields #[.ref l2,.int 0 0] }:=p3 (Heap.get?_push_size _ (by cases b2 <;> rfl))
 have g1:(zK5 b1 b2 s.heap l1 l2).get? s.heap.objs.size = some { cls:=.type (itT b1),data:=.fields #[.ref l1,.int 0 0] }:=p2 (Heap.get?_push_size _ (by cases b1 <;> rfl))
 rw [z4,z2,z3] at g5
 rw [z2,z1] at g3
 rw [z3] at g4
 rw [z1] at g2
 show _ ∧ _
 rw [z4]
 exact ⟨⟨_,g5,rfl⟩,h _ g5 g3 g4 (itK.new g1) (itK.new g2) fun c o q=>p2 (Heap.get?_push_of_some _ q)⟩
noncomputable def Zmz (b1 b2:Bool) (z TI TO i1 i2 l1 l2:Addr) (i:Nat) (h:Heap):Prop:=IsZip h z TI TO .none ∧ IsPair h TI (.ref i1) (.ref i2) ∧ (∃ a b,IsPair h TO a b) ∧ itK b1 h i1 l1 i ∧ itK b2 h i2 l2 i
theorem ZiP {P:Program} {w:World} {K:PySem.W.Frag} {es:List Expr} {k:Nat} {pos:Pos} (b1 b2:Bool) (l1 l2 z TI TO i1 i2:Addr) (Z:ZipApart z TI TO i1 i2 l1 l2):
  Turn P w K (.Tuple es k pos) (Itz (fun H xs=>sqK b1 K H l1 xs) (fun H ys=>sqK b2 K H l2 ys)) [z,TI,TO,i1,i2] z (Zmz b1 b2 z TI TO i1 i2 l1 l2) where
 mem:=by simp
 obj:=fun i h st b hb=>by
  obtain ⟨hz,h1,⟨a,c,h2⟩,g1,g2⟩:=st
  simp only [List.mem_cons,List.not_mem_nil,or_false] at hb
  rcases hb with rfl | rfl | rfl | rfl | rfl
  ·exact ⟨_,hz,fun v z=>by cases z⟩
  ·exact ⟨_,h1,fun v z=>by cases z⟩
  ·exact ⟨_,h2,fun v z=>by cases z⟩
  ·exact g1.there
  ·exact g2.there
 keep:=fun i h h' st k=>by
  obtain ⟨hz,h1,⟨a,c,h2⟩,g1,g2⟩:=st
  exact ⟨k z (by simp) _ hz,k TI (by simp) _ h1,⟨a,c,k TO (by simp) _ h2⟩,g1.keep fun o q=>k i1 (by simp) o q,g2.keep fun o q=>k i2 (by simp) o q⟩
 item:=by
  intro X hP hw hK hc i pins s σ H E I hf st hg
  subst hP hw hK
  obtain ⟨xs,ys,x,y,hx,hy,gx,gy⟩:=hg
  obtain ⟨its,rv,p⟩:=sqK.at I hx
  obtain ⟨its2,rv2,p2⟩:=sqK.at I hy
  obtain ⟨u,hu,ru⟩:=rv.get gx
  obtain ⟨v,hv,rv'⟩:=rv2.get gy
  obtain ⟨hz,h1,⟨a,c,h2⟩,g1,g2⟩:=st
  have hlt:∀ b ∈ [z,TI,TO,i1,i2],b < s.heap.objs.size:=fun b hb=>by
   obtain ⟨o1,q1,_⟩:=g1.there
   obtain ⟨o2,q2,_⟩:=g2.there
   simp only [List.mem_cons,List.not_mem_nil,or_false] at hb
   rcases hb with rfl | rfl | rfl | rfl | rfl
   ·exact Heap.lt_size hz
   ·exact Heap.lt_size h1
   ·exact Heap.lt_size h2
   ·exact Heap.lt_size q1
   ·exact Heap.lt_size q2
  refine Zgb Z hz h1 h2 g1 g2 p p2 (x:=u) (y:=v) (by simpa using hu) (by simpa using hv) fun h' hz' hTO hi1 hi2 hT hk=>?_
  refine ⟨_,rfl,wpAny_letOwnedTupleGo_zip (s:={ s with heap:=h' }) hz' fun h'' hz'' hs''=>?_⟩
  have hTI':IsPair h' TI (.ref i1) (.ref i2):=hk TI _ Z.TIz Z.TITO Z.TIi1 Z.TIi2 h1
  obtain ⟨I2,n2⟩:=ZjI (x:=x) (y:=y) (tk':=s.toks) (fp:=[z,TI,TO,i1,i2]) (h':=h') (h'':=h'') I hf hlt ru rv' hT
   (fun b o hb q=>hk b o (fun e=>hb (by simp [e])) (fun e=>hb (by simp [e])) (fun e=>hb (by simp [e])) (fun e=>hb (by simp [e])) q)
   (fun b o hb q=>(hs''.2 b fun e=>hb (by simp [e])).trans q)
  refine ⟨.ref s.heap.objs.size,_,I2,rfl,⟨_,x,y,rfl,I.hok.fresh (Nat.le_refl _),rfl,fun zs hq=>by rw [sqK.inj I hq hx]; exact gx,fun zs hq=>by rw [sqK.inj I hq hy]; exact gy⟩,?_,n2⟩
  exact ⟨hz'',(hs''.2 _ Z.TIz).trans hTI',⟨_,_,(hs''.2 _ Z.TOz).trans hTO⟩,hi1.keep fun o q=>(hs''.2 _ Z.i1z).trans q,hi2.keep fun o q=>(hs''.2 _ Z.i2z).trans q⟩
 done:=by
  intro X hP hw hK hc i pins s σ H E I hf st hg
  subst hP hw hK
  obtain ⟨xs,ys,hx,hy,ho⟩:=hg
  obtain ⟨its,rv,p⟩:=sqK.at I hx
  obtain ⟨its2,rv2,p2⟩:=sqK.at I hy
  have hl1:=rv.length
  have hl2:=rv2.length
  obtain ⟨hz,h1,⟨a,c,h2⟩,g1,g2⟩:=st
  refine Zg3 (I.ok.hd hc) Z hz h1 h2 g1 g2 p p2 ?_ fun h' hk=>⟨rfl,I.turnedL (t':=s.toks) (fun b o hb q=>hk b o (fun e=>hb (by simp [e])) (fun e=>hb (by simp [e])) (fun e=>hb (by simp [e])) (fun e=>hb (by simp [e])) q) hf⟩
  rcases ho with ho | ho
  ·left; simp; exact lC 2 1237490667521 T1 ho hl1
  ·right; simp; exact lC 2 1237490667521 T1 ho hl2
 self:=fun _ _ _ _ _ st h=>wpAny_pyIter_zip st.1 h
section
variable {X:Cx} {es:List Expr} {k:Nat} {a b:Expr} {p pos tpos:Pos} {f g:E3}
noncomputable def Znb (K:PySem.W.Frag) (ta:TA):TI:=fun σ H R=>ta σ H fun vs H1=>∃ b1 b2 l1 l2,vs = [.ref l1,.ref l2] ∧ (∃ xs,sqK b1 K H1 l1 xs) ∧ (∃ ys,sqK b2 K H1 l2 ys) ∧ R (Itz (fun H xs=>sqK b1 K H l1 xs) (fun H ys=>sqK b2 K H l2 ys)) H1
theorem Zk0 {ta:TA} (hg:Gl X "zip") (hm:X.mg "zip" = none) (ha:PA X [a,b] ta) (hs:starEach [a,b] X.env = [(false,eval a X.env),(false,eval b X.env)]:=by rfl) (hs2:starEach [b] X.env = [(false,eval b X.env)]:=by rfl):PI X (.Tuple es k tpos) (.Call (.Name "zip" p) [a,b] [] pos) (Znb X.K ta):=by
 intro pins s σ H R I h
 refine Call_ (Zey I hg hm Zi9 (PyProof.Rows.callWith_type1 (thn (ha pos pins s σ H _ I h) fun us s1 ⟨vs,H1,I1,r1,q1⟩=>?_) (by rw [hs,hs2]) (by rw [hs2]; rfl)))
 obtain ⟨b1,b2,l1,l2,e,⟨xs,hx⟩,⟨ys,hy⟩,q⟩:=q1
 subst e
 cases r1 with
 | cons r rr=>
  cases rr with
  | cons r' rr=>
   cases rr
   cases r
   cases r'
   obtain ⟨its,rv,p1⟩:=sqK.at I1 hx
   obtain ⟨its2,rv2,p2⟩:=sqK.at I1 hy
   refine ZiW p1 p2 fun h' hZ hTI hTO hi1 hi2 hk=>?_
   have I2:Inv X pins σ H1 { s1 with heap:=h' }:=I1.kept (t':=s1.toks) hk
   have fp:∀ c ∈ [s1.heap.objs.size + 4,s1.heap.objs.size + 2,s1.heap.objs.size + 3,s1.heap.objs.size,s1.heap.objs.size + 1],Zdw X pins H1 c:=fun c hc=>by
    have hc':s1.heap.objs.size ≤ c:=by
     simp only [List.mem_cons,List.not_mem_nil,or_false] at hc
     rcases hc with rfl | rfl | rfl | rfl | rfl <;> omega
    exact I1.fpOk hc' (I1.hok.fresh hc')
   exact wpAny_pyIter_zip (s:={ s1 with heap:=h' }) hZ ⟨_,_,_,_,H1,rfl,I2,ZiP b1 b2 l1 l2 _ _ _ _ _ (zipApart_new p1.there p2.there),⟨hZ,hTI,⟨_,_,hTO⟩,hi1,hi2⟩,fp,q⟩
theorem Zhc {K:PySem.W.Frag} {H:Hp} {ι:List Addr} {M:Store} {d:D} {v:V} {x:List D} {l:List (Nat × List D)} (S:Zy K H ι M) (r:Rep K H ι d v) (e:Zhf M d = some (x,l)):
  ∃ b a,v = .ref a ∧ (∃ vs,sqK b K H a vs) ∧ ∀ H2 ι2 M2,Ext K H ι H2 ι2 → Zy K H2 ι2 M2 → Zba l M2 = true → ∃ vs,sqK b K H2 a vs ∧ Zj K H2 ι2 x vs:=by
 cases d with
 | tup ds=>
  obtain ⟨a,vs,rfl,s,r⟩:=r.tup_inv
  cases e
  exact ⟨false,a,rfl,⟨vs,s⟩,fun H2 ι2 M2 x S2 _=>⟨vs,x.tup _ _ s,r.mono x⟩⟩
 | ref n=>
  unfold Zhf at e
  cases hm:M[n]? with
  | none=>simp only [hm] at e; cases e
  | some o=>
   cases o with
   | lst ds=>
    simp only [hm] at e
    obtain ⟨rfl,rfl⟩:ds = x ∧ [(n,ds)] = l:=by simpa using e
    obtain ⟨a,ha,rfl⟩:=r.ref_inv
    obtain ⟨vs,q,_⟩:=S.obj n _ a hm ha
    refine ⟨true,a,rfl,⟨vs,SqL.of q⟩,fun H2 ι2 M2 x S2 lk=>?_⟩
    have lk':M2[n]? = some (.lst ds):=by simpa [Zba] using lk
    obtain ⟨vs2,q2,r2⟩:=S2.obj n _ a lk' (x.pre _ _ ha)
    exact ⟨vs2,SqL.of q2,r2⟩
   | _=>simp only [hm] at e; cases e
 | _=>cases e
theorem Zit (hm:X.mg "zip" = none) (h1:C3 X a f) (h2:C3 X b g) (hg:Gl X "zip":=by rfl) (hs:starEach [a,b] X.env = [(false,eval a X.env),(false,eval b X.env)]:=by rfl) (hs2:starEach [b] X.env = [(false,eval b X.env)]:=by rfl)
  (hs':starEach (a :: [b]) X.env = (false,eval a X.env) :: starEach [b] X.env:=by rfl) (hs'':starEach (b :: []) X.env = (false,eval b X.env) :: starEach [] X.env:=by rfl):CIL X (.Tuple es k tpos) (.Call (.Name "zip" p) [a,b] [] pos) (ZeF f g):=
 PI.imp (Zk0 hg hm (Zc h1 (Zc h2 Zg hs'') hs') hs hs2) fun σ H R zz1=>by
  obtain ⟨ι,M,env,S,E,h⟩:=zz1
  obtain ⟨d,M1,e1,h⟩:=Ze0.bind h
  obtain ⟨d2,M2,e2,h⟩:=Ze0.bind h
  refine ⟨ι,M,env,S,E,?_⟩
  have e3:Za f (Za g Ze) env M = .ok [d,d2] M2:=by simp only [Za,Ze,R3.bind,e1,e2]
  rw [e3]
  intro vs H1 ι1 x1 S1 r1
  obtain ⟨v,ws,rfl,r,q⟩:=r1.cons_inv
  obtain ⟨v2,ws2,rfl,r2,q2⟩:=q.cons_inv
  have:=q2.nil_inv
  subst this
  cases q1:Zhf M2 d with
  | none=>simp only [q1] at h; exact h.elim
  | some xl=>
   cases q2:Zhf M2 d2 with
   | none=>simp only [q1,q2] at h; exact h.elim
   | some yk=>
    obtain ⟨x,l⟩:=xl
    obtain ⟨y,k⟩:=yk
    simp only [q1,q2] at h
    obtain ⟨b1,a1,rfl,w1,f1⟩:=Zhc S1 r q1
    obtain ⟨b2,a2,rfl,w2,f2⟩:=Zhc S1 r2 q2
    refine ⟨b1,b2,a1,a2,rfl,w1,w2,h _ H1 ι1 x1 S1 ?_⟩
    intro i H2 ι2 M3 xx S2 lk
    have lk':Zba l M3 = true ∧ Zba k M3 = true:=by simpa [Zba] using lk
    obtain ⟨ws1,p1,q1⟩:=f1 H2 ι2 M3 xx S2 lk'.1
    obtain ⟨ws2,p2,q2⟩:=f2 H2 ι2 M3 xx S2 lk'.2
    refine ⟨fun d hd=>?_,fun hl=>⟨ws1,ws2,p1,p2,by rw [q1.length,q2.length,hl,ZeV]; omega⟩⟩
    rw [Zec] at hd
    cases hq:x[i]? with
    | none=>rw [hq] at hd; cases hd
    | some a0=>
     cases hq2:y[i]? with
     | none=>rw [hq,hq2] at hd; cases hd
     | some b0=>
      rw [hq,hq2] at hd
      cases hd
      obtain ⟨v1,hv1,rv1⟩:=q1.get hq
      obtain ⟨v2,hv2,rv2⟩:=q2.get hq2
      refine ⟨⟨ws1,ws2,v1,v2,p1,p2,hv1,hv2⟩,fun y H3 hy=>?_⟩
      obtain ⟨T,y1,y2,rfl,hT,rfl,ha1,ha2⟩:=hy
      have e:=ha1 ws1 p1
      rw [hv1] at e
      cases e
      have e:=ha2 ws2 p2
      rw [hv2] at e
      cases e
      exact S2.tupl hT (Zj.cons rv1 (Zj.cons rv2 Zj.nil))
end
end L3
set_option maxHeartbeats 400000
namespace Law
open PySem L3
noncomputable section
noncomputable def g_BOXES:E3:=eC (.int 8)
noncomputable def g_FIGURES:E3:=eC (.str [48,49,50,51,52,53,54,55,56,57])
noncomputable def Zav:Zfl:=[([112,117,116],[[98,111,120],[110,117,109,98,101,114]]),([97,100,100],[[98,111,120],[98,111,120],[98,111,120]]),([115,117,98],[[98,111,120],[98,111,120],[98,111,120]]),([109,111,114,101],[[98,111,120],[98,111,120],[98,111,120]]),([103,101,116],[[98,111,120],[98,111,120]]),([115,101,116],[[98,111,120],[98,111,120]]),([106,117,109,112],[[114,111,119]]),([119,104,101,110],[[98,111,120],[114,111,119]]),([116,101,108,108],[[98,111,120]]),([104,97,108,116],[])]
noncomputable def g_MOST_FIGURES:E3:=eC (.int 60)
noncomputable def ZcC:S3:=Zv (Zac 1 (eIf (ZaV tyS Zas (Zb 0) (Za (eC (.str [45])) (Ze))) (eSl (Zb 0) (Zad (eC (.int 1))) (ZaS)) (Zb 0))) (Zv (sIf (eOr (e2 Zhx (Zah Zbi (Za (Zb 1) (Ze))) (eC (.int 1))) (e2 Zfu (Zah Zbi (Za (Zb 1) (Ze))) (g_MOST_FIGURES))) (Zan (eC (.bl false))) (Zab)) (Zv (sIf (ZaV tyS Zas (Zb 1) (Za (eC (.str [48])) (Ze))) (Zan (e2 Zbv (Zb 0) (eC (.str [48])))) (Zab)) (Zan (Zah Zfx (Za (eLC (ZbU (Zb 1)) 1 (ZbV 2) [] (e2 Zd4 (Zb 2) (g_FIGURES))) (Ze))))))
noncomputable def ZaY:F3:=mkF 1 2 ZcC
noncomputable def Zdf:S3:=Zan (Zdq (e2 Zlr (Zb 0) (eC (.int 0))) (e2 Zhx (Zb 0) (Zb 1)))
noncomputable def ZaB:F3:=mkF 2 2 Zdf
noncomputable def ZdJ:S3:=Zv (Zac 1 (ZaV tyS ZcI (Zb 0) (Za (eC (.str [32])) (Ze)))) (Zv (Zac 2 (e1 (Zex Zav) (e2 Zq (Zb 1) (eC (.int 0))))) (Zv (sIf (eOr (e2 ZgU (Zb 2) (eC .non)) (e2 ZiH (Zah Zbi (Za (Zb 1) (Ze))) (e2 Zn (Zah Zbi (Za (Zb 2) (Ze))) (eC (.int 1))))) (Zan (eC .non)) (Zab)) (Zv (Zac 3 (Zbu (Za (e2 Zq (Zb 1) (eC (.int 0))) (Ze)))) (Zv (Zdb (ZeF (Zb 2) (eSl (Zb 1) (Zad (eC (.int 1))) (ZaS))) (Zd1 [4,5]) (Zv (sIf (e1 Zby (Zz ZaY (Za (Zb 5) (Ze)))) (Zan (eC .non)) (Zab)) (Zv (Zac 6 (Zah Ze3 (Za (Zb 5) (Ze)))) (Zv (sIf (Zdq (e2 Zbv (Zb 4) (eC (.str [98,111,120]))) (e1 Zby (Zz ZaB (Za (Zb 6) (Za (g_BOXES) (Ze)))))) (Zan (eC .non)) (Zab)) (ZaD (ZaV tyL Zaz (Zb 3) (Za (Zb 6) (Ze)))))))) (Zan (Zah ZaF (Za (Zb 3) (Ze))))))))
noncomputable def Zb1:F3:=mkF 1 7 ZdJ
noncomputable def Zbq:S3:=Zv (sIf (e2 Zd6 (e2 Zq (e2 Zq (Zb 0) (e1 ZaR (eC (.int 1)))) (eC (.int 0))) (Zap (Za (eC (.str [104,97,108,116])) (Za (eC (.str [106,117,109,112])) (Ze))))) (ZfU) (Zab)) (Zdh (ZbU (Zb 0)) (ZbV 1) (Zdb (ZeF (e1 (Zdj Zav) (e2 Zq (Zb 1) (eC (.int 0)))) (eSl (Zb 1) (Zad (eC (.int 1))) (ZaS))) (Zd1 [2,3]) (sIf (Zdq (e2 Zbv (Zb 2) (eC (.str [114,111,119]))) (e1 Zby (Zz ZaB (Za (Zb 3) (Za (Zah Zbi (Za (Zb 0) (Ze))) (Ze)))))) (ZfU) (Zab))))
noncomputable def Zbo:F3:=mkF 1 4 Zbq
noncomputable def Zdk:S3:=Zv (Zac 1 (Zbu (Ze))) (Zv (Zdb (Zge (ZaV tyS ZcI (Zb 0) (Za (eC (.str [10])) (Ze)))) (Zd1 [2,3]) (Zv (Zac 4 (Zz Zb1 (Za (Zb 3) (Ze)))) (Zv (sIf (e2 ZgU (Zb 4) (eC .non)) (ZfU) (Zab)) (ZaD (ZaV tyL Zaz (Zb 1) (Za (Zb 4) (Ze))))))) (Zv (ZaD (Zz Zbo (Za (Zb 1) (Ze)))) (Zan (Zah ZaF (Za (Zb 1) (Ze))))))
noncomputable def ZaC:F3:=mkF 1 5 Zdk
noncomputable def Zdc:S3:=Zan (ZaV tyS ZdG (eC (.str [32])) (Za (eLC (ZbU (Zb 0)) 1 (ZbV 1) [] (Zah ZdP (Za (Zb 1) (Ze)))) (Ze)))
noncomputable def Zb9:F3:=mkF 1 1 Zdc
noncomputable def Zc0:S3:=Zan (ZaV tyS ZdG (eC (.str [10])) (Za (eLC (ZbU (Zb 0)) 1 (ZbV 1) [] (Zz Zb9 (Za (Zb 1) (Ze)))) (Ze)))
noncomputable def ZaA:F3:=mkF 1 1 Zc0
noncomputable def Zc3:S3:=Zan (e2 Zaa (e2 ZaO (e2 Zn (e2 Zaa (Zb 0) (eC (.int 1000003))) (eC (.int 7))) (e2 Zn (eC (.int 48271)) (e2 ZaO (e2 ZaO (eC (.int 6007)) (Zb 1)) (Zb 1)))) (eC (.int 2147483629)))
noncomputable def Zbr:F3:=mkF 2 2 Zc3
noncomputable def ZcG:S3:=Zv (Zac 1 (eC (.int 0))) (Zv (Zdh (Zco (e2 Zaa (Zb 0) (eC (.int 7)))) (ZbV 2) (Zac 1 (e2 Zn (e2 Zn (e2 ZaO (Zb 1) (e2 ZfL (eC (.int 10)) (eC (.int 10)))) (e2 ZaO (Zz Zbr (Za (e2 Zag (Zb 0) (eC (.int 7))) (Za (Zb 2) (Ze)))) (eC (.int 5)))) (e2 Zaa (e2 Zag (Zb 0) (eC (.int 7))) (e2 Zn (Zb 2) (eC (.int 2))))))) (Zv (Zac 1 (e2 Zaa (Zb 1) (e2 ZfL (eC (.int 10)) (eC (.int 60))))) (Zv (sIf (e2 Zbv (e2 Zaa (e2 Zag (Zb 0) (eC (.int 7))) (eC (.int 2))) (eC (.int 1))) (Zac 1 (e1 ZaR (Zb 1))) (Zab)) (Zv (sIf (e2 Zbv (e2 Zaa (e2 Zag (Zb 0) (eC (.int 14))) (eC (.int 4))) (eC (.int 1))) (Zac 1 (e2 Zj8 (e2 Zaa (e2 Zag (Zb 0) (eC (.int 56))) (eC (.int 21))) (eC (.int 10)))) (Zab)) (Zan (Zb 1))))))
noncomputable def Zb5:F3:=mkF 1 3 ZcG
noncomputable def Zaw:S3:=Zv (Zac 2 (Zbu (Za (eC (.str [112,117,116])) (Za (eC (.str [112,117,116])) (Za (eC (.str [97,100,100])) (Za (eC (.str [115,117,98])) (Za (eC (.str [109,111,114,101])) (Za (eC (.str [103,101,116])) (Za (eC (.str [115,101,116])) (Za (eC (.str [106,117,109,112])) (Za (eC (.str [119,104,101,110])) (Za (eC (.str [116,101,108,108])) (Za (eC (.str [104,97,108,116])) (Ze)))))))))))))) (Zv (Zac 3 (e2 Zq (Zb 2) (e2 Zaa (Zb 0) (eC (.int 11))))) (Zv (Zac 4 (e2 Zag (Zb 0) (eC (.int 11)))) (Zv (Zac 5 (Zbu (Za (e2 Zaa (Zb 4) (eC (.int 8))) (Za (e2 Zaa (e2 Zag (Zb 4) (eC (.int 8))) (eC (.int 8))) (Za (e2 Zaa (e2 Zag (Zb 4) (eC (.int 64))) (eC (.int 8))) (Ze)))))) (Zv (sIf (e2 Zbv (Zb 3) (eC (.str [112,117,116]))) (Zan (Zap (Za (Zb 3) (Za (e2 Zq (Zb 5) (eC (.int 0))) (Za (Zz Zb5 (Za (e2 Zag (Zb 4) (eC (.int 8))) (Ze))) (Ze)))))) (Zab)) (Zv (sIf (e2 Zbv (Zb 3) (eC (.str [106,117,109,112]))) (Zan (Zap (Za (Zb 3) (Za (e2 Zaa (Zb 4) (Zb 1)) (Ze))))) (Zab)) (Zv (sIf (e2 Zbv (Zb 3) (eC (.str [119,104,101,110]))) (Zan (Zap (Za (Zb 3) (Za (e2 Zq (Zb 5) (eC (.int 0))) (Za (e2 Zaa (e2 Zag (Zb 4) (eC (.int 8))) (Zb 1)) (Ze)))))) (Zab)) (Zv (Zac 6 (Zoa (ZeI (eC (.str [97,100,100])) (eC (.int 3)) (ZeI (eC (.str [115,117,98])) (eC (.int 3)) (ZeI (eC (.str [109,111,114,101])) (eC (.int 3)) (ZeI (eC (.str [103,101,116])) (eC (.int 2)) (ZeI (eC (.str [115,101,116])) (eC (.int 2)) (ZeI (eC (.str [116,101,108,108])) (eC (.int 1)) (ZeI (eC (.str [104,97,108,116])) (eC (.int 0)) (Zn4)))))))))) (Zan (Zah ZaF (Za (e2 Zn (Zbu (Za (Zb 3) (Ze))) (eSl (Zb 5) (ZaS) (Zad (e2 Zhz (Zb 6) (Zb 3))))) (Ze)))))))))))
noncomputable def Zae:F3:=mkF 2 7 Zaw
noncomputable def Zb7:S3:=Zv (Zac 1 (e2 Zn (Zah Zbi (Za (Zb 0) (Ze))) (eC (.int 1)))) (Zv (Zac 2 (eLC (ZbU (Zb 0)) 1 (ZbV 3) [] (Zz Zae (Za (Zb 3) (Za (Zb 1) (Ze)))))) (Zv (sIf (e2 Zbv (e2 Zaa (Zah Zdp (Za (Zb 0) (Ze))) (eC (.int 3))) (eC (.int 1))) (Zan (Zah ZaF (Za (e2 Zn (Zb 2) (Zbu (Za (Zap (Za (eC (.str [106,117,109,112])) (Za (e2 Zaa (e2 Zag (Zah Zdp (Za (Zb 0) (Ze))) (eC (.int 3))) (Zb 1)) (Ze)))) (Ze)))) (Ze)))) (Zab)) (Zan (Zah ZaF (Za (e2 Zn (Zb 2) (Zbu (Za (Zap (Za (eC (.str [104,97,108,116])) (Ze))) (Ze)))) (Ze))))))
noncomputable def Zcc:F3:=mkF 1 3 Zb7
noncomputable def Zb4:S3:=Zv (Zac 2 (e2 Zaa (e2 Zag (Zb 1) (eC (.int 8))) (eC (.int 341)))) (Zv (Zac 3 (Zbu (Za (Zap (Za (eC (.str [112,117,116])) (Za (eC (.int 3)) (Za (eC (.int 5)) (Ze))))) (Ze)))) (Zv (Zdh (Zco (Zb 2)) (ZbV 4) (Zv (Zac 5 (Zbu (Za (e2 Zaa (e2 Zn (e2 Zag (Zb 1) (e2 Zn (Zb 4) (eC (.int 1)))) (Zb 4)) (eC (.int 8))) (Za (e2 Zaa (e2 Zn (Zb 1) (e2 ZaO (e2 ZaO (eC (.int 3)) (Zb 4)) (Zb 4))) (eC (.int 8))) (Ze))))) (ZaD (ZaV tyL Zaz (Zb 3) (Za (e2 Zq (Zbu (Za (Zap (Za (eC (.str [116,101,108,108])) (Za (e2 Zq (Zb 5) (eC (.int 0))) (Ze)))) (Za (Zap (Za (eC (.str [103,101,116])) (Za (e2 Zq (Zb 5) (eC (.int 0))) (Za (e2 Zq (Zb 5) (eC (.int 1))) (Ze))))) (Za (Zap (Za (eC (.str [106,117,109,112])) (Za (e2 Zaa (e2 Zn (Zb 1) (e2 ZaO (eC (.int 7)) (Zb 4))) (e2 Zn (Zb 2) (eC (.int 2)))) (Ze)))) (Ze))))) (e2 Zaa (Zb 4) (eC (.int 3)))) (Ze)))))) (Zv (sIf (e2 Zbv (e2 Zq (Zb 0) (eC (.int 0))) (eC (.str [106,117,109,112]))) (Zan (Zah ZaF (Za (e2 Zn (Zb 3) (Zbu (Za (Zap (Za (eC (.str [106,117,109,112])) (Za (Zb 2) (Ze)))) (Ze)))) (Ze)))) (Zab)) (Zan (Zah ZaF (Za (e2 Zn (Zb 3) (Zbu (Za (Zb 0) (Ze)))) (Ze)))))))
noncomputable def Zb6:F3:=mkF 2 6 Zb4
noncomputable def Zc9:S3:=Zv (Zac 1 (Zbu (Ze))) (Zv (Zdh (ZbU (Zb 0)) (ZbV 2) (Zv (Zac 3 (e2 Zq (Zb 2) (eC (.int 0)))) (Zv (Zdh (ZbU (eSl (Zb 2) (Zad (eC (.int 1))) (ZaS))) (ZbV 4) (Zac 3 (e2 Zn (e2 Zn (Zb 3) (eC (.str [32]))) (Zah ZdP (Za (Zb 4) (Ze)))))) (ZaD (ZaV tyL Zaz (Zb 1) (Za (Zb 3) (Ze))))))) (Zan (ZaV tyS ZdG (eC (.str [10])) (Za (Zb 1) (Ze)))))
noncomputable def ZaW:F3:=mkF 1 5 Zc9
noncomputable def ZaX (rec:F3):S3:=Zv (sIf (e1 (Zc5 .tuple) (Zb 1)) (Zv (sIf (eOr (e1 Zby (e1 (Zc5 .tuple) (Zb 0))) (e2 ZiH (Zah Zbi (Za (Zb 0) (Ze))) (Zah Zbi (Za (Zb 1) (Ze))))) (Zan (eC (.bl false))) (Zab)) (Zan (Zah Zfx (Za (eLC (Zco (Zah Zbi (Za (Zb 1) (Ze)))) 1 (ZbV 2) [] (Zz rec (Za (e2 Zq (Zb 0) (Zb 2)) (Za (e2 Zq (Zb 1) (Zb 2)) (Ze))))) (Ze))))) (Zab)) (Zv (sIf (e1 (Zc5 .str) (Zb 1)) (Zan (Zdq (e1 (Zc5 .str) (Zb 0)) (e2 Zbv (Zb 0) (Zb 1)))) (Zab)) (Zan (Zdq (e1 (Zc5 .int) (Zb 0)) (Zdq (e1 Zby (e1 (Zc5 .bool) (Zb 0))) (e2 Zbv (Zb 0) (Zb 1))))))
noncomputable def ZaH:Nat → F3
 | 0=>mkF 2 2 ZfU
 | n + 1=>mkF 2 2 (ZaX (ZaH n))
noncomputable def Zao:F3:=ZaH 7
noncomputable def Zju:S3:=Zv (Zac 1 (Zz Zcc (Za (eSl (Zb 0) (ZaS) (Zad (eC (.int 60)))) (Ze)))) (Zv (sIf (e2 Zbv (e2 Zaa (e2 Zag (Zah Zdp (Za (eSl (Zb 0) (ZaS) (Zad (eC (.int 60)))) (Ze))) (eC (.int 12))) (eC (.int 8))) (eC (.int 5))) (Zac 1 (Zz Zb6 (Za (e2 Zq (Zb 1) (e1 ZaR (eC (.int 1)))) (Za (e2 Zag (Zah Zdp (Za (eSl (Zb 0) (ZaS) (Zad (eC (.int 60)))) (Ze))) (eC (.int 96))) (Ze))))) (Zab)) (Zv (Zac 2 (Zz ZaW (Za (Zb 1) (Ze)))) (Zv (sIf (e2 Zfu (Zah Zbi (Za (Zb 2) (Ze))) (eC (.int 4000))) (Zv (Zac 1 (e2 Zn (eSl (Zb 1) (Zad (e1 ZaR (eC (.int 20)))) (Zad (e1 ZaR (eC (.int 1))))) (Zap (Za (Zap (Za (eC (.str [104,97,108,116])) (Ze))) (Ze))))) (Zv (Zac 1 (Zah ZaF (Za (eLC (ZbU (Zb 1)) 1 (ZbV 3) [] (eIf (e2 Zd4 (e2 Zq (Zb 3) (eC (.int 0))) (Zap (Za (eC (.str [106,117,109,112])) (Za (eC (.str [119,104,101,110])) (Ze))))) (e2 Zn (e2 Zn (Zap (Za (e2 Zq (Zb 3) (eC (.int 0))) (Ze))) (eSl (Zb 3) (Zad (eC (.int 1))) (Zad (e1 ZaR (eC (.int 1)))))) (Zap (Za (e2 Zaa (e2 Zq (Zb 3) (e1 ZaR (eC (.int 1)))) (eC (.int 20))) (Ze)))) (Zb 3))) (Ze)))) (Zac 2 (Zz ZaW (Za (Zb 1) (Ze)))))) (Zab)) (Zv (sIf (eOr (e1 Zby (Zz Zao (Za (Zz ZaA (Za (Zb 1) (Ze))) (Za (Zb 2) (Ze))))) (e1 Zby (Zz Zao (Za (Zz ZaC (Za (Zb 2) (Ze))) (Za (Zb 1) (Ze)))))) (Zan (eC (.bl false))) (Zab)) (Zan (Zz Zao (Za (Zz ZaA (Za (Zz ZaC (Za (Zb 2) (Ze))) (Ze))) (Za (Zb 2) (Ze)))))))))
noncomputable def Zia:F3:=mkF 1 3 Zju
end
end Law
namespace Law
open PySem PySem.Spec PyProof.Rows L2 L3
noncomputable def top (i:Nat):Stmt:=PySem.Challenge.pw_stepledger_k02_shown_and_read.main.body.getD i (.Pass ⟨0,0,0,0⟩)
noncomputable abbrev ZbE:Stmt:=top 9
noncomputable abbrev ZbJ:Stmt:=top 10
noncomputable abbrev Zb3:Stmt:=top 11
noncomputable abbrev ZaI:Stmt:=top 12
noncomputable abbrev ZbM:Stmt:=top 13
noncomputable abbrev Zbl:Stmt:=top 14
noncomputable abbrev ZbF:Stmt:=top 15
noncomputable abbrev Zbm:Stmt:=top 17
noncomputable abbrev Za2:Stmt:=top 18
noncomputable abbrev Zb2:Stmt:=top 19
noncomputable abbrev ZbK:Stmt:=top 20
noncomputable abbrev Za3:Stmt:=top 21
noncomputable abbrev ZbN:Stmt:=top 22
noncomputable abbrev ZbH:Stmt:=top 23
noncomputable abbrev Zd5:Stmt:=top 24
structure Txt (K:W.Frag) (mg:Str → Option Value):Prop where
  kin:True
  m_all:mg "all" = none
  m_bool:mg "bool" = none
  m_enumerate:mg "enumerate" = none
  m_int:mg "int" = none
  m_isinstance:mg "isinstance" = none
  m_len:mg "len" = none
  m_range:mg "range" = none
  m_str:mg "str" = none
  m_sum:mg "sum" = none
  m_tuple:mg "tuple" = none
  m_zip:mg "zip" = none
  g_BOXES:∃ t,mg "BOXES" = some (.int 8 t)
  g_FIGURES:∃ t,mg "FIGURES" = some (.str "0123456789" t)
  t_FORMS:∃ a,mg "FORMS" = some (.ref a) ∧ Zhe K a Zav
  g_MOST_FIGURES:∃ t,mg "MOST_FIGURES" = some (.int 60 t)
theorem ZjF {X:Cx} {pos:Pos} (T:Txt X.K X.mg) (hg:Gl X "BOXES":=by rfl):C3 X (.Name "BOXES" pos) g_BOXES:=by
  obtain ⟨t,e⟩:=T.g_BOXES
  exact Zhp (v:=.int 8) e ⟨t,rfl⟩ (fun _ _=>Rep.int) hg
theorem ZhA {X:Cx} {pos:Pos} (T:Txt X.K X.mg) (hg:Gl X "FIGURES":=by rfl):C3 X (.Name "FIGURES" pos) g_FIGURES:=by
  obtain ⟨t,e⟩:=T.g_FIGURES
  refine Zhp (v:=.str ⟨([48,49,50,51,52,53,54,55,56,57]:List Nat).toArray⟩) e ⟨t,?_⟩ (fun _ _=>Rep.str) hg
  exact congrArg (fun z=>Value.str z t) (by decide +kernel)
theorem ZiN {X:Cx} {e:Expr} {npos apos cpos:Pos} {g:E3} (T:Txt X.K X.mg) (he:C3 X e g) (m:M1 X (.Name "FORMS" npos) "get" apos e cpos:=by exact ⟨rfl,rfl,rfl,rfl⟩) (hg:Gl X "FORMS":=by rfl):C3 X (.Call (.Attribute (.Name "FORMS" npos) "get" apos) [e] [] cpos) (e1 (Zex Zav) g):=by
  obtain ⟨a,hm,ht⟩:=T.t_FORMS
  exact ZmL hm ht he m hg
theorem Zi7 {X:Cx} {e:Expr} {npos pos:Pos} {g:E3} (T:Txt X.K X.mg) (he:C3 X e g) (hs:Zja e:=by exact fun _ _=>rfl) (hg:Gl X "FORMS":=by rfl):C3 X (.Subscript (.Name "FORMS" npos) e pos) (e1 (Zdj Zav) g):=by
  obtain ⟨a,hm,ht⟩:=T.t_FORMS
  exact Zmu hm ht he hs hg
theorem ZeK {X:Cx} {pos:Pos} (T:Txt X.K X.mg) (hg:Gl X "MOST_FIGURES":=by rfl):C3 X (.Name "MOST_FIGURES" pos) g_MOST_FIGURES:=by
  obtain ⟨t,e⟩:=T.g_MOST_FIGURES
  exact Zhp (v:=.int 60) e ⟨t,rfl⟩ (fun _ _=>Rep.int) hg
section
variable {P:Program} {w:World} {K:W.Frag} {mg:Str → Option Value} {base:Heap}
theorem Zeb:ZaE ["word","figures"] ["word"] (Zm ZbE):=⟨rfl,rfl,rfl,by decide +kernel,rfl,by decide +kernel,by decide +kernel⟩
theorem Zga (A:ZaN K mg "is_number" ZbE ["word"]) (T:Txt K mg):Fn3 P w K mg base 1 "is_number" ["word"] ZaY:=
  Fn3.of (N:=["word","figures"]) (k:=0) A Zeb fun f cdv A outer s H E hr=>by
    have hu:=ZdR hr
    unfold ZcC
    refine Zi ?_ ?_
    ·exact Zaq 1 Zeb.nd (ZoF (ZcK (ZcR (Zf 0) (Zc Zaj Zg))) (Zfw Zft (Zf 0) (ZbB Zo) ZcD) (Zf 0))
    ·refine Zi ?_ ?_
     ·refine Zbz ?_ ?_ ?_
      ·refine CW.ct ?_
       refine Zh2 ?_ ?_
       ·exact ZaZ Zoi (Zck (id:="len") ZdA T.m_len ZcJ (Zc (Zf 1) Zg)) Zo
       ·exact Zgu (ZaZ Zn0 (Zck (id:="len") ZdA T.m_len ZcJ (Zc (Zf 1) Zg)) (ZeK T))
      ·exact Zt (Zat Zmj)
      ·exact Zay
     ·refine Zi ?_ ?_
      ·exact Zbz (ZcK (ZcR (Zf 1) (Zc Zaj Zg))) (Zt (Zat (ZfP ((Zer hu)) (Zf 0) Zaj))) Zay
      ·exact Zt (Zat (Zck (id:="all") ((ZlY rfl)) T.m_all Zjv (Zc (ZkJ (N':=["word","figures","figure"]) (Zcq rfl (by kernel_rfl)) rfl rfl (ZgZ (Zf 1)) (fun C cl s H ex=>⟨(ZbQ 2 ((show List.Nodup (["word","figures","figure"]:List Str) by decide +kernel))),Zdt,(ZfP ((Zn8 hu)) (Zf 2) (ZhA T))⟩)) Zg)))
theorem Zgp:ZaE ["number","many"] ["number","many"] (Zm ZbM):=⟨rfl,rfl,rfl,by decide +kernel,rfl,by decide +kernel,by decide +kernel⟩
theorem Zf7 (A:ZaN K mg "is_within" ZbM ["number","many"]) (T:Txt K mg):Fn3 P w K mg base 1 "is_within" ["number","many"] ZaB:=
  Fn3.of (N:=["number","many"]) (k:=0) A Zgp fun f cdv A outer s H E hr=>by
    have hu:=ZdR hr
    unfold Zdf
    exact Zt (Zat (Zic (ZfP ZpE (Zf 0) Zo) (ZjA (ZfP Zoi (Zf 0) (Zf 1)))))
theorem Zbg:ZaE ["line","words","form","row","kind","word","number"] ["line"] (Zm Zb3):=⟨rfl,rfl,rfl,by decide +kernel,rfl,by decide +kernel,by decide +kernel⟩
theorem Zhb (A:ZaN K mg "read_row" Zb3 ["line"]) (T:Txt K mg) (F_is_number:Fn3 P w K mg base 1 "is_number" ["word"] ZaY) (F_is_within:Fn3 P w K mg base 1 "is_within" ["number","many"] ZaB):Fn3 P w K mg base 2 "read_row" ["line"] Zb1:=
  Fn3.of (N:=["line","words","form","row","kind","word","number"]) (k:=1) A Zbg fun f cdv A outer s H E hr=>by
    have hu:=ZdR hr
    unfold ZdJ
    refine Zi ?_ ?_
    ·exact Zaq 1 Zbg.nd (ZeB (Zf 0) (Zc Zaj Zg))
    ·refine Zi ?_ ?_
     ·exact Zaq 2 Zbg.nd (ZiN T (ZbL ZbG (Zf 1) Zo))
     ·refine Zi ?_ ?_
      ·refine Zbz ?_ ?_ ?_
       ·refine CW.ct ?_
        refine Zh2 ?_ ?_
        ·exact ZaZ ZoN (Zf 2) ZgK
        ·exact Zgu (ZaZ ((Zog hu)) (Zck (id:="len") ZdA T.m_len ZcJ (Zc (Zf 1) Zg)) (Zu Zbt (Zck (id:="len") ZdA T.m_len ZcJ (Zc (Zf 2) Zg)) Zo))
       ·exact Zt (Zat ZgK)
       ·exact Zay
      ·refine Zi ?_ ?_
       ·exact Zaq 3 Zbg.nd (ZcO (Zc (ZbL ZbG (Zf 1) Zo) Zg))
       ·refine Zi ?_ ?_
        ·refine ZgE ?_ ?_ ?_ ?_ ?_
         ·exact rfl
         ·exact rfl
         ·exact Zit T.m_zip (Zf 2) (Zfw Zft (Zf 1) (ZbB Zo) ZcD)
         ·exact ZhO rfl (ZcT 4 Zbg.nd (ZcT 5 Zbg.nd Zgm))
         ·refine Zi ?_ ?_
          ·exact Zbz (Zel (ZcK (ZaU (k:=1) (ps:=["word"]) F_is_number (hr.mono (by decide)) (Zc (Zf 5) Zg)))) (Zt (Zat ZgK)) Zay
          ·refine Zi ?_ ?_
           ·exact Zaq 6 Zbg.nd (Zdg (T:="int") Zmo T.m_int Znl (Zc (Zf 5) Zg))
           ·refine Zi ?_ ?_
            ·refine Zbz ?_ ?_ ?_
             ·exact CW.ct (Zjs (ZaZ ((Zer hu)) (Zf 4) Zaj) (Zh7 (Zel (ZcK (ZaU (k:=1) (ps:=["number","many"]) F_is_within (hr.mono (by decide)) (Zc (Zf 6) (Zc (ZjF T) Zg)))))))
             ·exact Zt (Zat ZgK)
             ·exact Zay
            ·exact Zt (Zd2 (Zcp (Zf 3) (Zc (Zf 6) Zg)))
        ·exact Zt (Zat (Zdg (T:="tuple") ZcB T.m_tuple Zcb (Zc (Zf 3) Zg)))
theorem Zbb:ZaE ["rows","row","kind","number"] ["rows"] (Zm ZaI):=⟨rfl,rfl,rfl,by decide +kernel,rfl,by decide +kernel,by decide +kernel⟩
theorem Zd8 (A:ZaN K mg "refuse_no_roll" ZaI ["rows"]) (T:Txt K mg) (F_is_within:Fn3 P w K mg base 1 "is_within" ["number","many"] ZaB):Fn3 P w K mg base 2 "refuse_no_roll" ["rows"] Zbo:=
  Fn3.of (N:=["rows","row","kind","number"]) (k:=1) A Zbb fun f cdv A outer s H E hr=>by
    have hu:=ZdR hr
    unfold Zbq
    refine Zi ?_ ?_
    ·exact Zbz (ZaZ ((ZlI hu)) (ZbL ZbG (ZbL ZbG (Zf 0) (ZhF Zfh Zo)) Zo) (Zcj (Zc Zaj (Zc Zaj Zg)))) (Zt Zhy) Zay
    ·refine Zt ?_
     refine Zfe ?_ ?_ ?_ ?_ ?_
     ·exact rfl
     ·exact rfl
     ·exact ZgZ (Zf 0)
     ·exact ZbQ 1 Zbb.nd
     ·refine Zt ?_
      refine ZgE ?_ ?_ ?_ ?_ ?_
      ·exact rfl
      ·exact rfl
      ·exact Zit T.m_zip (Zi7 T (ZbL ZbG (Zf 1) Zo)) (Zfw Zft (Zf 1) (ZbB Zo) ZcD)
      ·exact ZhO rfl (ZcT 2 Zbb.nd (ZcT 3 Zbb.nd Zgm))
      ·refine Zt ?_
       refine Zbz ?_ ?_ ?_
       ·refine CW.ct ?_
        exact Zjs (ZaZ ((Zer hu)) (Zf 2) Zaj) (Zh7 (Zel (ZcK (ZaU (k:=1) (ps:=["number","many"]) F_is_within (hr.mono (by decide)) (Zc (Zf 3) (Zc (Zck (id:="len") ZdA T.m_len ZcJ (Zc (Zf 0) Zg)) Zg))))))
       ·exact Zt Zhy
       ·exact Zay
theorem ZbW:ZaE ["text","rows","number","line","row"] ["text"] (Zm ZbJ):=⟨rfl,rfl,rfl,by decide +kernel,rfl,by decide +kernel,by decide +kernel⟩
theorem ZgD (A:ZaN K mg "read_roll" ZbJ ["text"]) (T:Txt K mg) (F_read_row:Fn3 P w K mg base 2 "read_row" ["line"] Zb1) (F_refuse_no_roll:Fn3 P w K mg base 2 "refuse_no_roll" ["rows"] Zbo):Fn3 P w K mg base 3 "read_roll" ["text"] ZaC:=
  Fn3.of (N:=["text","rows","number","line","row"]) (k:=2) A ZbW fun f cdv A outer s H E hr=>by
    have hu:=ZdR hr
    unfold Zdk
    refine Zi ?_ ?_
    ·exact Zaq 1 ZbW.nd (ZcO Zg)
    ·refine Zi ?_ ?_
     ·refine ZgE ?_ ?_ ?_ ?_ ?_
      ·exact rfl
      ·exact rfl
      ·exact ZjS T.m_enumerate (ZeB (Zf 0) (Zc Zaj Zg))
      ·exact ZhO rfl (ZcT 2 ZbW.nd (ZcT 3 ZbW.nd Zgm))
      ·refine Zi ?_ ?_
       ·exact Zaq 4 ZbW.nd (ZaU (k:=2) (ps:=["line"]) F_read_row (hr.mono (by decide)) (Zc (Zf 3) Zg))
       ·exact Zi (Zbz (ZaZ ZoN (Zf 4) ZgK) (Zt Zhy) Zay) (Zt (Zd2 (Zcp (Zf 1) (Zc (Zf 4) Zg))))
     ·exact Zi (Zd2 (ZaU (k:=2) (ps:=["rows"]) F_refuse_no_roll (hr.mono (by decide)) (Zc (Zf 1) Zg))) (Zt (Zat (Zdg (T:="tuple") ZcB T.m_tuple Zcb (Zc (Zf 1) Zg))))
theorem Zf3:ZaE ["row"] ["row"] (Zm ZbF):=⟨rfl,rfl,rfl,by decide +kernel,rfl,by decide +kernel,by decide +kernel⟩
theorem Zf9 (A:ZaN K mg "shown_row" ZbF ["row"]) (T:Txt K mg):Fn3 P w K mg base 1 "shown_row" ["row"] Zb9:=
  Fn3.of (N:=["row"]) (k:=0) A Zf3 fun f cdv A outer s H E hr=>by
    have hu:=ZdR hr
    unfold Zdc
    exact Zt (Zat (ZdL Zaj (Zc (ZkJ (N':=["row","word"]) (Zcq rfl (by kernel_rfl)) rfl rfl (ZgZ (Zf 0)) (fun C cl s H ex=>⟨(ZbQ 1 ((show List.Nodup (["row","word"]:List Str) by decide +kernel))),Zdt,(Zdg (T:="str") ZlQ T.m_str ZjJ (Zc (Zf 1) Zg))⟩)) Zg)))
theorem Zfo:ZaE ["roll"] ["roll"] (Zm Zbl):=⟨rfl,rfl,rfl,by decide +kernel,rfl,by decide +kernel,by decide +kernel⟩
theorem ZfA (A:ZaN K mg "shown_roll" Zbl ["roll"]) (T:Txt K mg) (F_shown_row:Fn3 P w K mg base 1 "shown_row" ["row"] Zb9):Fn3 P w K mg base 2 "shown_roll" ["roll"] ZaA:=
  Fn3.of (N:=["roll"]) (k:=1) A Zfo fun f cdv A outer s H E hr=>by
    have hu:=ZdR hr
    unfold Zc0
    exact Zt (Zat (ZdL Zaj (Zc (ZkJ (N':=["roll","row"]) (Zcq rfl (by kernel_rfl)) rfl rfl (ZgZ (Zf 0)) (fun C cl s H ex=>⟨(ZbQ 1 ((show List.Nodup (["roll","row"]:List Str) by decide +kernel))),Zdt,(ZaU (k:=1) (ps:=["row"]) F_shown_row (hr.mono (by decide)) (Zc (Zf 1) Zg))⟩)) Zg)))
theorem Zfs:ZaE ["cell","k"] ["cell","k"] (Zm Zbm):=⟨rfl,rfl,rfl,by decide +kernel,rfl,by decide +kernel,by decide +kernel⟩
theorem Zfr (A:ZaN K mg "_law_mixed" Zbm ["cell","k"]) (T:Txt K mg):Fn3 P w K mg base 1 "_law_mixed" ["cell","k"] Zbr:=
  Fn3.of (N:=["cell","k"]) (k:=0) A Zfs fun f cdv A outer s H E hr=>by
    have hu:=ZdR hr
    unfold Zc3
    refine Zt ?_
    refine Zat ?_
    exact Zu Zbh (Zu ZeD (Zu Zbt (Zu Zbh (Zf 0) Zo) Zo) (Zu Zbt Zo (Zu ZeD (Zu ZeD Zo (Zf 1)) (Zf 1)))) Zo
theorem ZaL:ZaE ["cell","number","k"] ["cell"] (Zm Za2):=⟨rfl,rfl,rfl,by decide +kernel,rfl,by decide +kernel,by decide +kernel⟩
theorem ZeU (A:ZaN K mg "_law_number" Za2 ["cell"]) (T:Txt K mg) (F__law_mixed:Fn3 P w K mg base 1 "_law_mixed" ["cell","k"] Zbr):Fn3 P w K mg base 2 "_law_number" ["cell"] Zb5:=
  Fn3.of (N:=["cell","number","k"]) (k:=1) A ZaL fun f cdv A outer s H E hr=>by
    have hu:=ZdR hr
    unfold ZcG
    refine Zi ?_ ?_
    ·exact Zaq 1 ZaL.nd Zo
    ·refine Zi ?_ ?_
     ·refine Zfe ?_ ?_ ?_ ?_ ?_
      ·exact rfl
      ·exact rfl
      ·exact Zet T.m_range (Zu Zbh (Zf 0) Zo)
      ·exact ZbQ 2 ZaL.nd
      ·refine Zt ?_
       refine Zaq 1 ?_ ?_
       ·exact ZaL.nd
       ·refine Zu ?_ ?_ ?_
        ·exact Zbt
        ·refine Zu ?_ ?_ ?_
         ·exact Zbt
         ·exact Zu ZeD (Zf 1) (Zu Zl4 Zo Zo)
         ·exact Zu ZeD (ZaU (k:=1) (ps:=["cell","k"]) F__law_mixed (hr.mono (by decide)) (Zc (Zu ZbD (Zf 0) Zo) (Zc (Zf 2) Zg))) Zo
        ·exact Zu Zbh (Zu ZbD (Zf 0) Zo) (Zu Zbt (Zf 2) Zo)
     ·refine Zi ?_ ?_
      ·exact Zaq 1 ZaL.nd (Zu Zbh (Zf 1) (Zu Zl4 Zo Zo))
      ·refine Zi ?_ ?_
       ·exact Zbz (ZaZ ((Zer hu)) (Zu Zbh (Zu ZbD (Zf 0) Zo) Zo) Zo) (Zt (Zaq 1 ZaL.nd (ZhF Zfh (Zf 1)))) Zay
       ·refine Zi ?_ ?_
        ·refine Zbz ?_ ?_ ?_
         ·exact ZaZ ((Zer hu)) (Zu Zbh (Zu ZbD (Zf 0) Zo) Zo) Zo
         ·exact Zt (Zaq 1 ZaL.nd (Zu ZoP (Zu Zbh (Zu ZbD (Zf 0) Zo) Zo) Zo))
         ·exact Zay
        ·exact Zt (Zat (Zf 1))
theorem ZbI:ZaE ["cell","many","names","name","rest","boxes","sizes"] ["cell","many"] (Zm Zb2):=⟨rfl,rfl,rfl,by decide +kernel,rfl,by decide +kernel,by decide +kernel⟩
theorem ZgW (A:ZaN K mg "_law_row" Zb2 ["cell","many"]) (T:Txt K mg) (F__law_number:Fn3 P w K mg base 2 "_law_number" ["cell"] Zb5):Fn3 P w K mg base 3 "_law_row" ["cell","many"] Zae:=
  Fn3.of (N:=["cell","many","names","name","rest","boxes","sizes"]) (k:=2) A ZbI fun f cdv A outer s H E hr=>by
    have hu:=ZdR hr
    unfold Zaw
    refine Zi ?_ ?_
    ·refine Zaq 2 ?_ ?_
     ·exact ZbI.nd
     ·refine ZcO ?_
      refine Zc ?_ ?_
      ·exact Zaj
      ·exact Zc Zaj (Zc Zaj (Zc Zaj (Zc Zaj (Zc Zaj (Zc Zaj (Zc Zaj (Zc Zaj (Zc Zaj (Zc Zaj Zg)))))))))
    ·refine Zi ?_ ?_
     ·exact Zaq 3 ZbI.nd (ZbL ZbG (Zf 2) (Zu Zbh (Zf 0) Zo))
     ·refine Zi ?_ ?_
      ·exact Zaq 4 ZbI.nd (Zu ZbD (Zf 0) Zo)
      ·refine Zi ?_ ?_
       ·refine Zaq 5 ?_ ?_
        ·exact ZbI.nd
        ·refine ZcO ?_
         exact Zc (Zu Zbh (Zf 4) Zo) (Zc (Zu Zbh (Zu ZbD (Zf 4) Zo) Zo) (Zc (Zu Zbh (Zu ZbD (Zf 4) Zo) Zo) Zg))
       ·refine Zi ?_ ?_
        ·refine Zbz ?_ ?_ ?_
         ·exact ZaZ ((Zer hu)) (Zf 3) Zaj
         ·exact Zt (Zat (Zcj (Zc (Zf 3) (Zc (ZbL ZbG (Zf 5) Zo) (Zc (ZaU (k:=2) (ps:=["cell"]) F__law_number (hr.mono (by decide)) (Zc (Zu ZbD (Zf 4) Zo) Zg)) Zg)))))
         ·exact Zay
        ·refine Zi ?_ ?_
         ·exact Zbz (ZaZ ((Zer hu)) (Zf 3) Zaj) (Zt (Zat (Zcj (Zc (Zf 3) (Zc (Zu Zbh (Zf 4) (Zf 1)) Zg))))) Zay
         ·refine Zi ?_ ?_
          ·refine Zbz ?_ ?_ ?_
           ·exact ZaZ ((Zer hu)) (Zf 3) Zaj
           ·exact Zt (Zat (Zcj (Zc (Zf 3) (Zc (ZbL ZbG (Zf 5) Zo) (Zc (Zu Zbh (Zu ZbD (Zf 4) Zo) (Zf 1)) Zg)))))
           ·exact Zay
          ·refine Zi ?_ ?_
           ·refine Zaq 6 ?_ ?_
            ·exact ZbI.nd
            ·refine Zom ?_
             exact Zc1 Zaj Zo (Zc1 Zaj Zo (Zc1 Zaj Zo (Zc1 Zaj Zo (Zc1 Zaj Zo (Zc1 Zaj Zo (Zc1 Zaj Zo Zm8))))))
           ·refine Zt ?_
            exact Zat (Zdg (T:="tuple") ZcB T.m_tuple Zcb (Zc (Zu Zbt (ZcO (Zc (Zf 3) Zg)) (Zfw Zft (Zf 5) ZcD (ZbB (ZnC hu (Zf 6) (Zf 3))))) Zg))
theorem ZcZ:ZaE ["cells","many","rows"] ["cells"] (Zm ZbK):=⟨rfl,rfl,rfl,by decide +kernel,rfl,by decide +kernel,by decide +kernel⟩
theorem Zgn (A:ZaN K mg "_law_roll" ZbK ["cells"]) (T:Txt K mg) (F__law_row:Fn3 P w K mg base 3 "_law_row" ["cell","many"] Zae):Fn3 P w K mg base 4 "_law_roll" ["cells"] Zcc:=
  Fn3.of (N:=["cells","many","rows"]) (k:=3) A ZcZ fun f cdv A outer s H E hr=>by
    have hu:=ZdR hr
    unfold Zb7
    refine Zi ?_ ?_
    ·exact Zaq 1 ZcZ.nd (Zu Zbt (Zck (id:="len") ZdA T.m_len ZcJ (Zc (Zf 0) Zg)) Zo)
    ·refine Zi ?_ ?_
     ·exact Zjr (N':=["cells","many","rows","cell"]) 2 (Zcq rfl (by kernel_rfl)) rfl rfl ZcZ.nd (ZgZ (Zf 0)) (fun C cl s H ex=>⟨(ZbQ 3 ((show List.Nodup (["cells","many","rows","cell"]:List Str) by decide +kernel))),Zdt,(ZaU (k:=3) (ps:=["cell","many"]) F__law_row (hr.mono (by decide)) (Zc (Zf 3) (Zc (Zf 1) Zg)))⟩)
     ·refine Zi ?_ ?_
      ·refine Zbz ?_ ?_ ?_
       ·exact ZaZ ((Zer hu)) (Zu Zbh (Zck (id:="sum") ((Zh3 rfl)) T.m_sum ZfY (Zc (Zf 0) Zg)) Zo) Zo
       ·refine Zt ?_
        refine Zat ?_
        refine Zdg (T:="tuple") ?_ ?_ ?_ ?_
        ·exact ZcB
        ·exact T.m_tuple
        ·exact Zcb
        ·refine Zc ?_ ?_
         ·refine Zu ?_ ?_ ?_
          ·exact Zbt
          ·exact Zf 2
          ·exact ZcO (Zc (Zcj (Zc Zaj (Zc (Zu Zbh (Zu ZbD (Zck (id:="sum") ((Zh3 rfl)) T.m_sum ZfY (Zc (Zf 0) Zg)) Zo) (Zf 1)) Zg))) Zg)
         ·exact Zg
       ·exact Zay
      ·exact Zt (Zat (Zdg (T:="tuple") ZcB T.m_tuple Zcb (Zc (Zu Zbt (Zf 2) (ZcO (Zc (Zcj (Zc Zaj Zg)) Zg))) Zg)))
theorem Zbe:ZaE ["last","cell","more","rows","k","boxes"] ["last","cell"] (Zm Za3):=⟨rfl,rfl,rfl,by decide +kernel,rfl,by decide +kernel,by decide +kernel⟩
theorem ZeZ (A:ZaN K mg "_law_longer" Za3 ["last","cell"]) (T:Txt K mg):Fn3 P w K mg base 1 "_law_longer" ["last","cell"] Zb6:=
  Fn3.of (N:=["last","cell","more","rows","k","boxes"]) (k:=0) A Zbe fun f cdv A outer s H E hr=>by
    have hu:=ZdR hr
    unfold Zb4
    refine Zi ?_ ?_
    ·exact Zaq 2 Zbe.nd (Zu Zbh (Zu ZbD (Zf 1) Zo) Zo)
    ·refine Zi ?_ ?_
     ·exact Zaq 3 Zbe.nd (ZcO (Zc (Zcj (Zc Zaj (Zc Zo (Zc Zo Zg)))) Zg))
     ·refine Zi ?_ ?_
      ·refine Zfe ?_ ?_ ?_ ?_ ?_
       ·exact rfl
       ·exact rfl
       ·exact Zet T.m_range (Zf 2)
       ·exact ZbQ 4 Zbe.nd
       ·refine Zi ?_ ?_
        ·refine Zaq 5 ?_ ?_
         ·exact Zbe.nd
         ·refine ZcO ?_
          refine Zc ?_ ?_
          ·exact Zu Zbh (Zu Zbt (Zu ZbD (Zf 1) (Zu Zbt (Zf 4) Zo)) (Zf 4)) Zo
          ·exact Zc (Zu Zbh (Zu Zbt (Zf 1) (Zu ZeD (Zu ZeD Zo (Zf 4)) (Zf 4))) Zo) Zg
        ·refine Zt ?_
         refine Zd2 ?_
         refine Zcp ?_ ?_
         ·exact Zf 3
         ·refine Zc ?_ ?_
          ·refine ZbL ?_ ?_ ?_
           ·exact ZbG
           ·refine ZcO ?_
            refine Zc ?_ ?_
            ·exact Zcj (Zc Zaj (Zc (ZbL ZbG (Zf 5) Zo) Zg))
            ·refine Zc ?_ ?_
             ·exact Zcj (Zc Zaj (Zc (ZbL ZbG (Zf 5) Zo) (Zc (ZbL ZbG (Zf 5) Zo) Zg)))
             ·exact Zc (Zcj (Zc Zaj (Zc (Zu Zbh (Zu Zbt (Zf 1) (Zu ZeD Zo (Zf 4))) (Zu Zbt (Zf 2) Zo)) Zg))) Zg
           ·exact Zu Zbh (Zf 4) Zo
          ·exact Zg
      ·refine Zi ?_ ?_
       ·refine Zbz ?_ ?_ ?_
        ·exact ZaZ ((Zer hu)) (ZbL ZbG (Zf 0) Zo) Zaj
        ·exact Zt (Zat (Zdg (T:="tuple") ZcB T.m_tuple Zcb (Zc (Zu Zbt (Zf 3) (ZcO (Zc (Zcj (Zc Zaj (Zc (Zf 2) Zg))) Zg))) Zg)))
        ·exact Zay
       ·exact Zt (Zat (Zdg (T:="tuple") ZcB T.m_tuple Zcb (Zc (Zu Zbt (Zf 3) (ZcO (Zc (Zf 0) Zg))) Zg)))
theorem Zbk:ZaE ["roll","lines","row","line","part"] ["roll"] (Zm ZbN):=⟨rfl,rfl,rfl,by decide +kernel,rfl,by decide +kernel,by decide +kernel⟩
theorem ZgF (A:ZaN K mg "_law_text" ZbN ["roll"]) (T:Txt K mg):Fn3 P w K mg base 1 "_law_text" ["roll"] ZaW:=
  Fn3.of (N:=["roll","lines","row","line","part"]) (k:=0) A Zbk fun f cdv A outer s H E hr=>by
    have hu:=ZdR hr
    unfold Zc9
    refine Zi ?_ ?_
    ·exact Zaq 1 Zbk.nd (ZcO Zg)
    ·refine Zi ?_ ?_
     ·refine Zfe ?_ ?_ ?_ ?_ ?_
      ·exact rfl
      ·exact rfl
      ·exact ZgZ (Zf 0)
      ·exact ZbQ 2 Zbk.nd
      ·refine Zi ?_ ?_
       ·exact Zaq 3 Zbk.nd (ZbL ZbG (Zf 2) Zo)
       ·refine Zi ?_ ?_
        ·refine Zfe ?_ ?_ ?_ ?_ ?_
         ·exact rfl
         ·exact rfl
         ·exact ZgZ (Zfw Zft (Zf 2) (ZbB Zo) ZcD)
         ·exact ZbQ 4 Zbk.nd
         ·exact Zt (Zaq 3 Zbk.nd (Zu Zbt (Zu Zbt (Zf 3) Zaj) (Zdg (T:="str") ZlQ T.m_str ZjJ (Zc (Zf 4) Zg))))
        ·exact Zt (Zd2 (Zcp (Zf 1) (Zc (Zf 3) Zg)))
     ·exact Zt (Zat (ZdL Zaj (Zc (Zf 1) Zg)))
theorem ZdY:ZaE ["found","due"] ["found","due"] (Zm ZbH):=⟨rfl,rfl,rfl,by decide +kernel,rfl,by decide +kernel,by decide +kernel⟩
theorem Zgv (A:ZaN K mg "_law_same" ZbH ["found","due"]) (T:Txt K mg):Fn3 P w K mg base 8 "_law_same" ["found","due"] Zao:=by
  have all:∀ n:Nat,Fn3 P w K mg base (n + 1) "_law_same" ["found","due"] (ZaH n):=by
    intro n
    induction n with
    | zero=>exact Fn3.of (N:=["found","due"]) (k:=0) A ZdY fun f cdv A outer s H E hr=>Zlt
    | succ n IH=>
      refine (Fn3.of (N:=["found","due"]) (k:=n + 1) A ZdY fun f cdv A outer s H E hr=>?_).mono (by omega)
      have hu:=ZdR hr
      unfold ZaX
      refine Zi ?_ ?_
      ·refine Zbz ?_ ?_ ?_
       ·exact ZcK (Zev .tuple T.m_isinstance T.m_tuple (Zf 1))
       ·refine Zi ?_ ?_
        ·refine Zbz ?_ ?_ ?_
         ·refine CW.ct ?_
          refine Zh2 ?_ ?_
          ·exact Zel (ZcK (Zev .tuple T.m_isinstance T.m_tuple (Zf 0)))
          ·exact Zgu (ZaZ ((Zog hu)) (Zck (id:="len") ZdA T.m_len ZcJ (Zc (Zf 0) Zg)) (Zck (id:="len") ZdA T.m_len ZcJ (Zc (Zf 1) Zg)))
         ·exact Zt (Zat Zmj)
         ·exact Zay
        ·refine Zt ?_
         refine Zat ?_
         refine Zck (id:="all") ?_ ?_ ?_ ?_
         ·exact (ZlY rfl)
         ·exact T.m_all
         ·exact Zjv
         ·refine Zc ?_ ?_
          ·refine ZkJ (N':=["found","due","k"]) ?_ ?_ ?_ ?_ (fun C cl s H ex=>⟨?_,?_,?_⟩)
           ·exact Zcq rfl (by kernel_rfl)
           ·exact rfl
           ·exact rfl
           ·exact Zet T.m_range (Zck (id:="len") ZdA T.m_len ZcJ (Zc (Zf 1) Zg))
           ·exact ZbQ 2 ((show List.Nodup (["found","due","k"]:List Str) by decide +kernel))
           ·exact Zdt
           ·exact ZaU (k:=n + 1) (ps:=["found","due"]) IH hr (Zc (ZbL ZbG (Zf 0) (Zf 2)) (Zc (ZbL ZbG (Zf 1) (Zf 2)) Zg))
          ·exact Zg
       ·exact Zay
      ·refine Zi ?_ ?_
       ·exact Zbz (ZcK (Zev .str T.m_isinstance T.m_str (Zf 1))) (Zt (Zat (Zic (Zev .str T.m_isinstance T.m_str (Zf 0)) (ZjA (ZfP ((Zer hu)) (Zf 0) (Zf 1)))))) Zay
       ·exact Zt (Zat (Zic (Zev .int T.m_isinstance T.m_int (Zf 0)) (Zic (Zo0 (Zev .bool T.m_isinstance T.m_bool (Zf 0))) (ZjA (ZfP ((Zer hu)) (Zf 0) (Zf 1))))))
  exact all 7
theorem ZdU:ZaE ["script","roll","text"] ["script"] (Zm Zd5):=⟨rfl,rfl,rfl,by decide +kernel,rfl,by decide +kernel,by decide +kernel⟩
theorem ZmM {f:Addr} {fd:FuncData} (F:Fun K "law" "law" Zd5 f fd) (T:Txt K mg) (F_read_roll:Fn3 P w K mg base 3 "read_roll" ["text"] ZaC) (F_shown_roll:Fn3 P w K mg base 2 "shown_roll" ["roll"] ZaA) (F__law_roll:Fn3 P w K mg base 4 "_law_roll" ["cells"] Zcc) (F__law_longer:Fn3 P w K mg base 1 "_law_longer" ["last","cell"] Zb6) (F__law_text:Fn3 P w K mg base 1 "_law_text" ["roll"] ZaW) (F__law_same:Fn3 P w K mg base 8 "_law_same" ["found","due"] Zao):ZcH P w K mg base CX0 9 f fd ["script"] (sp3 K 1 Zia):=
  fn3 (N:=["script","roll","text"]) (k:=8) F ZdU fun cdv A outer s H E hr=>by
    have hu:=ZdR hr
    unfold Zju
    refine Zi ?_ ?_
    ·exact Zaq 1 ZdU.nd (ZaU (k:=4) (ps:=["cells"]) F__law_roll (hr.mono (by decide)) (Zc (Zfw Zft (Zf 0) ZcD (ZbB Zo)) Zg))
    ·refine Zi ?_ ?_
     ·refine Zbz ?_ ?_ ?_
      ·exact ZaZ ((Zer hu)) (Zu Zbh (Zu ZbD (Zck (id:="sum") ((Zh3 rfl)) T.m_sum ZfY (Zc (Zfw Zft (Zf 0) ZcD (ZbB Zo)) Zg)) Zo) Zo) Zo
      ·refine Zt ?_
       refine Zaq 1 ?_ ?_
       ·exact ZdU.nd
       ·refine ZaU (k:=1) (ps:=["last","cell"]) ?_ ?_ ?_
        ·exact F__law_longer
        ·exact hr.mono (by decide)
        ·refine Zc ?_ ?_
         ·exact ZbL ZbG (Zf 1) (ZhF Zfh Zo)
         ·exact Zc (Zu ZbD (Zck (id:="sum") ((Zh3 rfl)) T.m_sum ZfY (Zc (Zfw Zft (Zf 0) ZcD (ZbB Zo)) Zg)) Zo) Zg
      ·exact Zay
     ·refine Zi ?_ ?_
      ·exact Zaq 2 ZdU.nd (ZaU (k:=1) (ps:=["roll"]) F__law_text (hr.mono (by decide)) (Zc (Zf 1) Zg))
      ·refine Zi ?_ ?_
       ·refine Zbz ?_ ?_ ?_
        ·exact ZaZ Zn0 (Zck (id:="len") ZdA T.m_len ZcJ (Zc (Zf 2) Zg)) Zo
        ·refine Zi ?_ ?_
         ·exact Zaq 1 ZdU.nd (Zu Zbt (Zfw Zft (Zf 1) (ZbB (ZhF Zfh Zo)) (ZbB (ZhF Zfh Zo))) (Zcj (Zc (Zcj (Zc Zaj Zg)) Zg)))
         ·refine Zi ?_ ?_
          ·refine Zaq 1 ?_ ?_
           ·exact ZdU.nd
           ·refine Zdg (T:="tuple") ?_ ?_ ?_ ?_
            ·exact ZcB
            ·exact T.m_tuple
            ·exact Zcb
            ·refine Zc ?_ ?_
             ·refine ZkJ (N':=["script","roll","text","row"]) ?_ ?_ ?_ ?_ (fun C cl s H ex=>⟨?_,?_,?_⟩)
              ·exact Zcq rfl (by kernel_rfl)
              ·exact rfl
              ·exact rfl
              ·exact ZgZ (Zf 1)
              ·exact ZbQ 3 ((show List.Nodup (["script","roll","text","row"]:List Str) by decide +kernel))
              ·exact Zdt
              ·refine ZoF ?_ ?_ ?_
               ·exact ZaZ ((Zn8 hu)) (ZbL ZbG (Zf 3) Zo) (Zcj (Zc Zaj (Zc Zaj Zg)))
               ·refine Zu ?_ ?_ ?_
                ·exact Zbt
                ·exact Zu Zbt (Zcj (Zc (ZbL ZbG (Zf 3) Zo) Zg)) (Zfw Zft (Zf 3) (ZbB Zo) (ZbB (ZhF Zfh Zo)))
                ·exact Zcj (Zc (Zu Zbh (ZbL ZbG (Zf 3) (ZhF Zfh Zo)) Zo) Zg)
               ·exact Zf 3
             ·exact Zg
          ·exact Zt (Zaq 2 ZdU.nd (ZaU (k:=1) (ps:=["roll"]) F__law_text (hr.mono (by decide)) (Zc (Zf 1) Zg)))
        ·exact Zay
       ·refine Zi ?_ ?_
        ·refine Zbz ?_ ?_ ?_
         ·refine CW.ct ?_
          refine Zh2 ?_ ?_
          ·exact Zel (ZcK (ZaU (k:=8) (ps:=["found","due"]) F__law_same (hr.mono (by decide)) (Zc (ZaU (k:=2) (ps:=["roll"]) F_shown_roll (hr.mono (by decide)) (Zc (Zf 1) Zg)) (Zc (Zf 2) Zg))))
          ·exact Zgu (Zel (ZcK (ZaU (k:=8) (ps:=["found","due"]) F__law_same (hr.mono (by decide)) (Zc (ZaU (k:=3) (ps:=["text"]) F_read_roll (hr.mono (by decide)) (Zc (Zf 2) Zg)) (Zc (Zf 1) Zg)))))
         ·exact Zt (Zat Zmj)
         ·exact Zay
        ·exact Zt (Zat (ZaU (k:=8) (ps:=["found","due"]) F__law_same (hr.mono (by decide)) (Zc (ZaU (k:=2) (ps:=["roll"]) F_shown_roll (hr.mono (by decide)) (Zc (ZaU (k:=3) (ps:=["text"]) F_read_roll (hr.mono (by decide)) (Zc (Zf 2) Zg)) Zg)) (Zc (Zf 2) Zg))))
end
end Law
set_option maxHeartbeats 200000
namespace Law
open L3
theorem Zm3 (c:Nat):∀ (x y a b:List Nat),c ∉ x → c ∉ y → x ++ c :: a = y ++ c :: b → x = y ∧ a = b:=by
 intro x
 induction x with
 | nil=>
  intro y a b _ hy h
  cases y with
  | nil=>exact ⟨rfl,(List.cons.inj h).2⟩
  | cons q y=>exact absurd (List.cons.inj h).1 fun e=>hy (e ▸ List.mem_cons_self ..)
 | cons p x ih=>
  intro y a b hx hy h
  cases y with
  | nil=>exact absurd (List.cons.inj h).1 fun e=>hx (e ▸ List.mem_cons_self ..)
  | cons q y=>
   obtain ⟨e1,e2⟩:=ih y a b (fun z=>hx (List.mem_cons_of_mem _ z)) (fun z=>hy (List.mem_cons_of_mem _ z)) (List.cons.inj h).2
   exact ⟨by rw [(List.cons.inj h).1,e1],e2⟩
theorem ZbO (s x y:List Nat) (r:List (List Nat)):glue s (x :: y :: r) = x ++ (s ++ glue s (y :: r)):=by
 show x ++ s ++ glue s (y :: r) = _
 rw [List.append_assoc]
theorem ZjL (c:Nat):∀ (ts us:List (List Nat)),ts ≠ [] → us ≠ [] → (∀ t ∈ ts,c ∉ t) → (∀ t ∈ us,c ∉ t) → glue [c] ts = glue [c] us → ts = us:=by
 intro ts
 induction ts with
 | nil=>intro us h; exact absurd rfl h
 | cons t ts ih=>
  intro us _ hu ft fu h
  cases us with
  | nil=>exact absurd rfl hu
  | cons u us=>
   have ht:=ft t (List.mem_cons_self ..)
   have hu':=fu u (List.mem_cons_self ..)
   cases ts with
   | nil=>
    cases us with
    | nil=>rw [show t = u from h]
    | cons v us=>
     rw [ZbO] at h
     refine absurd (show c ∈ t from ?_) ht
     rw [show t = _ from h]
     exact List.mem_append_right _ (List.mem_cons_self ..)
   | cons w ts=>
    cases us with
    | nil=>
     rw [ZbO] at h
     refine absurd (show c ∈ u from ?_) hu'
     rw [show u = _ from h.symm]
     exact List.mem_append_right _ (List.mem_cons_self ..)
    | cons v us=>
     rw [ZbO,ZbO] at h
     obtain ⟨e1,e2⟩:=Zm3 c t u _ _ ht hu' h
     rw [e1,ih (v :: us) (fun z=>nomatch z) (fun z=>nomatch z) (fun q hq=>ft q (List.mem_cons_of_mem _ hq)) (fun q hq=>fu q (List.mem_cons_of_mem _ hq)) e2]
theorem ZeS (x:List Nat) (c:Nat):glue [c] (Zct x [c]) = x:=by
 have h:=PySem.StrLaws.join_split (⟨x.toArray⟩:PySem.Str) (⟨([c]:List Nat).toArray⟩)
 have e:(PySem.Txt.split (⟨x.toArray⟩:PySem.Str) ⟨([c]:List Nat).toArray⟩) = (Zct x [c]).map fun t=>(⟨t.toArray⟩:PySem.Str):=by
  unfold Zct
  rw [List.map_map]
  exact (List.map_id _).symm.trans (List.map_congr_left fun t _=>rfl)
 rw [e,Zeq] at h
 have q:=congrArg (fun s:PySem.Str=>s.cps.toList) h
 simpa using q
theorem ZeJ (c:Nat) (ts:List (List Nat)) (h:ts ≠ []) (hf:∀ t ∈ ts,c ∉ t):Zct (glue [c] ts) [c] = ts:=by
 have hs:∀ t ∈ Zct (glue [c] ts) [c],c ∉ t:=by
  intro t ht
  obtain ⟨p,hp,rfl⟩:=List.mem_map.mp ht
  exact PySem.StrLaws.split_free _ c p hp
 refine ZjL c _ _ (fun z=>?_) h hs hf (ZeS _ c)
 have q:=ZeS (glue [c] ts) c
 unfold Zct at z
 have z1:=List.map_eq_nil_iff.mp z
 have z2:=PyProof.Rows.split_pos (⟨(glue [c] ts).toArray⟩:PySem.Str) ⟨([c]:List Nat).toArray⟩
 rw [z1] at z2
 exact absurd z2 (by decide)
noncomputable def Za1 (n:Nat):List Nat:=(Nat.toDigits 10 n).map Char.toNat
theorem ZgR:∀ d:Nat,d < 10 → (Nat.digitChar d).toNat = 48 + d:=by decide
theorem Zcx {n:Nat} (h:n < 10):Za1 n = [48 + n]:=by
 unfold Za1
 rw [Nat.toDigits_of_lt_base h,List.map_cons,List.map_nil,ZgR n h]
theorem ZcS {n:Nat} (h:10 ≤ n):Za1 n = Za1 (n / 10) ++ [48 + n % 10]:=by
 have hm:n % 10 < 10:=Nat.mod_lt n (by decide)
 have t:Nat.toDigits 10 (n / 10) ++ Nat.toDigits 10 (n % 10) = Nat.toDigits 10 (10 * (n / 10) + n % 10):=Nat.toDigits_append_toDigits (by decide) (by omega) hm
 rw [Nat.div_add_mod] at t
 unfold Za1
 rw [← t,List.map_append,Nat.toDigits_of_lt_base hm,List.map_cons,List.map_nil,ZgR _ hm]
theorem ZcQ (n:Nat):∀ c ∈ Za1 n,48 ≤ c ∧ c ≤ 57:=by
 induction n using Nat.strongRecOn with
 | _ n ih=>
  by_cases h:n < 10
  ·rw [Zcx h]
   intro c hc
   rw [List.mem_singleton.mp hc]; omega
  ·rw [ZcS (by omega)]
   intro c hc
   rcases List.mem_append.mp hc with hc | hc
   ·exact ih (n / 10) (by omega) c hc
   ·rw [List.mem_singleton.mp hc]; omega
theorem ZeR (n:Nat):Za1 n ≠ []:=by
 by_cases h:n < 10
 ·rw [Zcx h]; exact fun z=>nomatch z
 ·rw [ZcS (by omega)]; exact fun z=>absurd (List.append_eq_nil_iff.mp z).2 (fun z=>nomatch z)
theorem Zdn (k:Nat):∀ n:Nat,n < 10 ^ (k + 1) → (Za1 n).length ≤ k + 1:=by
 induction k with
 | zero=>intro n h; rw [Zcx (by simpa using h)]; exact Nat.le_refl _
 | succ k ih=>
  intro n h
  by_cases q:n < 10
  ·rw [Zcx q]; exact Nat.le_add_left 1 _
  ·rw [ZcS (by omega),List.length_append,List.length_singleton]
   have:=ih (n / 10) (by rw [Nat.pow_succ] at h; omega)
   omega
theorem ZiL (n:Nat) (h:0 < n):∀ r,Za1 n ≠ 48 :: r:=by
 induction n using Nat.strongRecOn with
 | _ n ih=>
  intro r z
  by_cases q:n < 10
  ·rw [Zcx q] at z
   have:=(List.cons.inj z).1; omega
  ·rw [ZcS (by omega)] at z
   cases e:Za1 (n / 10) with
   | nil=>exact ZeR _ e
   | cons c l=>
    rw [e] at z
    have:=(List.cons.inj z).1
    subst this
    exact ih (n / 10) (by omega) (by omega) l e
theorem Zg5 (n:Nat):PySem.NumText.digitsVal (Za1 n) = n:=by
 induction n using Nat.strongRecOn with
 | _ n ih=>
  by_cases q:n < 10
  ·rw [Zcx q]
   show 0 * 10 + (48 + n - 48) = n
   omega
  ·rw [ZcS (by omega)]
   have e:PySem.NumText.digitsVal (Za1 (n / 10) ++ [48 + n % 10]) = PySem.NumText.digitsVal (Za1 (n / 10)) * 10 + (48 + n % 10 - 48):=by
    unfold PySem.NumText.digitsVal
    rw [List.foldl_append]; rfl
   rw [e,ih (n / 10) (by omega)]
   omega
theorem Zg6 (n:Nat):Zh (n:Int) = Za1 n:=by
 unfold Zh Za1
 rw [PyProof.Rows.signs_ofString]
 show (Nat.repr n).toList.map Char.toNat = _
 rw [Nat.toList_repr]
theorem ZgQ (n:Nat):Zh (Int.negSucc n) = 45 :: Za1 (n + 1):=by
 unfold Zh Za1
 rw [PyProof.Rows.signs_ofString]
 show ("-" ++ Nat.repr (n + 1)).toList.map Char.toNat = _
 rw [String.toList_append,List.map_append,Nat.toList_repr]
 rfl
theorem Zds (i:Int) (h:i.natAbs < 10 ^ 60):PySem.intText? ⟨(Zh i).toArray⟩ = some i ∧ (Zh i).length ≤ 61 ∧ ∀ c ∈ Zh i,45 ≤ c:=by
 cases i with
 | ofNat n=>
  have hl:=Zdn 59 n h
  have e:Zh (Int.ofNat n) = Za1 n:=Zg6 n
  rw [e]
  refine ⟨?_,Nat.le_succ_of_le hl,fun c hc=>Nat.le_trans (by decide) (ZcQ n c hc).1⟩
  have q:=PySem.intText_digits (x:=⟨(Za1 n).toArray⟩) (ZcQ n) (ZeR n) (Nat.le_trans (show (Za1 n).toArray.size ≤ 60 by simpa using hl) (by decide))
  rw [q]
  show some ((PySem.NumText.digitsVal (Za1 n):Nat):Int) = _
  rw [Zg5]; rfl
 | negSucc n=>
  have hl:=Zdn 59 (n + 1) h
  rw [ZgQ]
  refine ⟨?_,Nat.succ_le_succ hl,fun c hc=>?_⟩
  ·have q:=PySem.intText_neg (x:=⟨(45 :: Za1 (n + 1)).toArray⟩) (cs:=Za1 (n + 1)) rfl (ZcQ _) (ZeR _) (Nat.le_trans (show (45 :: Za1 (n + 1)).toArray.size ≤ 61 by simpa using hl) (by decide))
   rw [q,Zg5]; rfl
  ·rcases List.mem_cons.mp hc with e | hc
   ·exact Nat.le_of_eq e.symm
   ·exact Nat.le_trans (by decide) (ZcQ _ c hc).1
theorem Zff (n d:Nat):sIx n d none = d:=rfl
theorem ZfX (n d k:Nat):sIx n d (some (k:Int)) = min k n:=by
 have h:¬ ((k:Int) < 0):=(fun z=>iN [_] [] 1 7211153 T1 z)
 simp only [sIx,if_neg h,Int.toNat_natCast]
theorem Zef {α:Type} (w:List α) (k:Nat):cutD w (some (k:Int)) none = w.drop k:=by
 unfold cutD
 rw [ZfX,Zff]
 by_cases h:k ≤ w.length
 ·rw [Nat.min_eq_left h,List.take_of_length_le (by simp)]
 ·rw [Nat.min_eq_right (by exact lB 1 1052737 T1 h),List.drop_eq_nil_of_le (Nat.le_refl _),List.drop_eq_nil_of_le (by exact lB 1 1052737 T1 h)]; simp
theorem Zke {α:Type} (w:List α) (k:Nat):cutD w none (some (k:Int)) = w.take k:=by
 unfold cutD
 rw [ZfX,Zff]
 by_cases h:k ≤ w.length
 ·rw [Nat.min_eq_left h]; simp
 ·rw [Nat.min_eq_right (by exact lB 1 1052737 T1 h),Nat.sub_zero,List.drop_zero,List.take_of_length_le (Nat.le_refl _),List.take_of_length_le (by exact lB 1 1052737 T1 h)]
theorem Zim {i j:Int} (h:-(2 ^ 64) < i ∧ i < 2 ^ 64):Zbs i j = true:=by
 unfold Zbs; rw [Bool.or_eq_true]; left; simp only [Bool.and_eq_true,decide_eq_true_eq]; exact h
theorem mul_r {i j:Int} (h:-(2 ^ 64) < j ∧ j < 2 ^ 64):Zbs i j = true:=by
 unfold Zbs; rw [Bool.or_eq_true]; right; simp only [Bool.and_eq_true,decide_eq_true_eq]; exact h
theorem ZbR (x:Int) (m:Nat) (h:0 < m):∃ a:Nat,x % (m:Int) = a ∧ a < m:=by
 have h1:=Int.emod_nonneg x (b:=(m:Int)) (by exact fun z=>iN [_] [] 2 416093702305 T1 z h)
 have h2:=Int.emod_lt_of_pos x (b:=(m:Int)) (by exact iN [_] [] 1 149491217 T1 h)
 exact ⟨(x % (m:Int)).toNat,(Int.toNat_of_nonneg h1).symm,by exact iN [_,_] [_] 2 18698308976785 T1 h2 (Int.toNat_of_nonneg h1)⟩
theorem Zcn {i j:Int} {M:Store} (h:0 < j ∧ j < 1073741824):Zag (.int i) (.int j) M = .ok (.int (i / j)) M:=by simp only [Zag,if_pos h]
theorem Zes {g:EL3} {env:Zai} {M M':Store} {ds:List D} (h:g env M = .ok ds M') (hl:decide (ds.length ≤ 100) = true):Zbu g env M = .ok (.ref M'.length) (M' ++ [.lst ds]):=by
 have z:ds.length ≤ SZ:=Nat.le_trans (of_decide_eq_true hl) (by decide)
 simp only [Zbu,h,R3.bind,if_pos z,alloc]
theorem Zkl {env:Zai} {M M':Store} {n:Nat} {xs:List D} {d:D} {o t:E3} (ho:o env M = .ok (.ref n) M) (hM:M[n]? = some (.lst xs)) (ht:t env M = .ok d M') (hM':M'[n]? = some (.lst xs)) (hl:xs.length < SZ):
  ZaD (ZaV tyL Zaz o (Za t (Ze))) env M = .nx env (M'.set n (.lst (xs ++ [d]))):=by
 have e:ZaV tyL Zaz o (Za t (Ze)) env M = .ok .non (M'.set n (.lst (xs ++ [d]))):=by
  simp only [ZaV,ho,R3.bind,tyL,hM,Za,ht,Ze,Zaz,hM',if_pos hl,if_true]
 rw [ZaD,e]
theorem Zde {i j:Int} {M:Store} (h:Zbs i j = true):ZaO (.int i) (.int j) M = .ok (.int (i * j)) M:=by simp only [ZaO,h,if_true]
noncomputable def Zg4 (nm:List Nat) (is:List Int):D:=.tup (.str nm :: is.map D.int)
noncomputable def ZbT (nm:List Nat) (is:List Int):List Nat:=glue [32] (nm :: is.map Zh)
noncomputable abbrev bx:List Nat:=[98,111,120]
noncomputable abbrev rw3:List Nat:=[114,111,119]
structure Zjw (nm:List Nat) (is:List Int) (ks:List (List Nat)):Prop where
 tab:tabAt nm Zav = some ks
 len:ks.length = is.length
 few:is.length ≤ 3 ∧ nm.length ≤ 4
 abc:∀ c ∈ nm,97 ≤ c
 num:∀ n ∈ is,n.natAbs < 10 ^ 60
 box:∀ (j:Nat) n,ks[j]? = some bx → is[j]? = some n → 0 ≤ n ∧ n < 8
theorem Ze5 (s:Nat) (b:Nat):∀ ts:List (List Nat),(∀ t ∈ ts,t.length ≤ b) → Zbp [s] ts ≤ ts.length * (b + 1) ∧ (glue [s] ts).length ≤ ts.length * (b + 1):=by
 intro ts
 induction ts with
 | nil=>intro _; exact ⟨by simp [Zbp],by simp [glue]⟩
 | cons t ts ih=>
  intro h
  have ht:=h t (List.mem_cons_self ..)
  obtain ⟨i1,i2⟩:=ih fun q hq=>h q (List.mem_cons_of_mem _ hq)
  have e1:Zbp [s] (t :: ts) = t.length + 1 + Zbp [s] ts:=by simp [Zbp]
  have e3:(ts.length + 1) * (b + 1) = ts.length * (b + 1) + (b + 1):=Nat.succ_mul ..
  rw [e1,List.length_cons,e3]
  refine ⟨by omega,?_⟩
  cases ts with
  | nil=>show t.length ≤ _; omega
  | cons u ts=>
   rw [ZbO,List.length_append,List.length_append]
   show t.length + (1 + _) ≤ _
   omega
theorem strs_map:∀ ts:List (List Nat),Zcu (ts.map D.str) = some ts
 | []=>rfl
 | t :: ts=>by show (Zcu (ts.map D.str)).map _ = _; rw [strs_map ts]; rfl
theorem Zgi {s:Nat} {n:Nat} {M:Store} {ts:List (List Nat)} (h:M[n]? = some (.lst (ts.map D.str))) (hz:Zbp [s] ts ≤ SZ):ZdG (.str [s]) [.ref n] M = .ok (.str (glue [s] ts)) M:=by
 simp only [ZdG,h,strs_map,if_pos hz]
theorem ZeH {m:D → List D → Store → R3 D} {o g:E3} {env:Zai} {M M1 M2:Store} {x:List Nat} {d r:D} (h1:o env M = .ok (.str x) M) (h2:g env M = .ok d M1) (h3:m (.str x) [d] M1 = .ok r M2):ZaV tyS m o (Za g Ze) env M = .ok r M2:=by
 simp only [ZaV,h1,R3.bind,tyS,if_true,Za,h2,Ze,h3]
theorem Zgh {i:Int} (h:i.natAbs < 10 ^ 60):(Zh i).length ≤ 61:=(Zds i h).2.1
theorem Zjl {i:Int} (h:i.natAbs < 10 ^ 60):i.natAbs.log2 < 1920:=by
 by_cases z:i.natAbs = 0
 ·rw [z]; decide
 ·exact (Nat.log2_lt z).mpr (Nat.lt_trans h (by decide +kernel))
theorem Zjk {nm:List Nat} {is:List Int} (hn:nm.length ≤ 4) (h:∀ n ∈ is,n.natAbs < 10 ^ 60):∀ t ∈ nm :: is.map Zh,t.length ≤ 61:=by
 intro t ht
 rcases List.mem_cons.mp ht with e | ht
 ·rw [e]; exact Nat.le_trans hn (by decide)
 ·obtain ⟨i,hi,rfl⟩:=List.mem_map.mp ht
  exact Zgh (h i hi)
noncomputable def strOf:D → D
 | .int i=>.str (Zh i)
 | d=>d
theorem Zko (nm:List Nat) (is:List Int):(D.str nm :: is.map D.int).map strOf = (nm :: is.map Zh).map D.str:=by
 simp [strOf]
theorem Zee {nm:List Nat} {is:List Int} (hl:is.length ≤ 3) (hn:nm.length ≤ 4) (h:∀ n ∈ is,n.natAbs < 10 ^ 60):Zbp [32] (nm :: is.map Zh) ≤ 248 ∧ (ZbT nm is).length ≤ 248:=by
 obtain ⟨a,b⟩:=Ze5 32 61 _ (Zjk hn h)
 have e:(nm :: is.map Zh).length * (61 + 1) ≤ 248:=by rw [List.length_cons,List.length_map]; omega
 exact ⟨Nat.le_trans a e,Nat.le_trans b e⟩
theorem Zh1 {env:Zai} {k:Nat} {M:Store} {nm:List Nat} {is:List Int} (hv:(Zb k) env M = .ok (Zg4 nm is) M) (hl:is.length ≤ 3) (hn:nm.length ≤ 4) (h:∀ n ∈ is,n.natAbs < 10 ^ 60):
  (ZaV tyS ZdG (eC (.str [32])) (Za (eLC (ZbU (Zb k)) 1 (ZbV env.length) [] (Zah ZdP (Za (Zb env.length) (Ze)))) (Ze))) env M = .ok (.str (ZbT nm is)) (M ++ [.lst ((nm :: is.map Zh).map D.str)]):=by
 have hi:(ZbU (Zb k)) env M = .ok ⟨(D.str nm :: is.map D.int).map (fun d=>d),none⟩ M:=by
  have e:(D.str nm :: is.map D.int).map (fun d=>d) = D.str nm :: is.map D.int:=List.map_id _
  rw [e]
  simp only [ZbU,hv,R3.bind,Zg4]
 have lc:=Zen (h:=strOf) (own:=1) (i:=env.length) (elt:=(Zah ZdP (Za (Zb env.length) (Ze)))) hi (fun n z=>nomatch z)
  (fun d hd M'=>by
   refine ZbY (a:=d) (M1:=M') (by simp) ?_
   rcases List.mem_cons.mp hd with e | hd
   ·rw [e]; rfl
   ·obtain ⟨i,hi,rfl⟩:=List.mem_map.mp hd
    simp only [ZdP,if_pos (Zjl (h i hi)),strOf]) (by rw [List.length_cons,List.length_map]; omega)
 rw [Zko] at lc
 exact ZeH rfl lc (Zgi (by simp) (Nat.le_trans (Zee hl hn h).1 (by decide)))
theorem zip_get {ks:List (List Nat)} {is:List Int} (hl:ks.length = is.length) {i:Nat} {d:D} (h:(ZcN (ks.map D.str) (is.map fun n=>D.str (Zh n)))[i]? = some d):∃ k n,ks[i]? = some k ∧ is[i]? = some n ∧ d = .tup [.str k,.str (Zh n)]:=by
 rw [Zec,List.getElem?_map,List.getElem?_map] at h
 cases hk:ks[i]? with
 | none=>rw [hk] at h; cases h
 | some k=>
  cases hn:is[i]? with
  | none=>rw [hk,hn] at h; cases h
  | some n=>rw [hk,hn] at h; cases h; exact ⟨k,n,rfl,rfl,rfl⟩
theorem ZhZ {w fs:List Nat} {M:Store} (h1:1 ≤ fs.length) (h2:fs.length ≤ 60) (h3:∀ r,fs ≠ 48 :: r) (h4:∀ c ∈ fs,48 ≤ c ∧ c ≤ 57):
  (Zv (sIf (eOr (e2 Zhx (Zah Zbi (Za (Zb 1) (Ze))) (eC (.int 1))) (e2 Zfu (Zah Zbi (Za (Zb 1) (Ze))) (g_MOST_FIGURES))) (Zan (eC (.bl false))) (Zab)) (Zv (sIf (ZaV tyS Zas (Zb 1) (Za (eC (.str [48])) (Ze))) (Zan (e2 Zbv (Zb 0) (eC (.str [48])))) (Zab)) (Zan (Zah Zfx (Za (eLC (ZbU (Zb 1)) 1 (ZbV 2) [] (e2 Zd4 (Zb 2) (g_FIGURES))) (Ze)))))) [some (.str w),some (.str fs)] M = .rt (.bl true) (M ++ [.lst (fs.map fun _=>D.bl true)]):=by
 have hz:fs.length ≤ SZ:=Nat.le_trans h2 (by decide)
 have ln:(Zah Zbi (Za (Zb 1) (Ze))) [some (.str w),some (.str fs)] M = .ok (.int fs.length) M:=ZbY (a:=.str fs) rfl (by simp only [Zbi,if_pos hz])
 have c1:(eOr (e2 Zhx (Zah Zbi (Za (Zb 1) (Ze))) (eC (.int 1))) (e2 Zfu (Zah Zbi (Za (Zb 1) (Ze))) (g_MOST_FIGURES))) [some (.str w),some (.str fs)] M = .ok (.bl false) M:=by
  rw [Zjt (M1:=M) (Zk ln rfl (by simp only [Zhx]; rw [decide_eq_false (by omega)]))]
  exact Zk ln (g:=g_MOST_FIGURES) (b:=.int 60) rfl (by simp only [Zfu]; rw [decide_eq_false (by omega)])
 have c2:(ZaV tyS Zas (Zb 1) (Za (eC (.str [48])) (Ze))) [some (.str w),some (.str fs)] M = .ok (.bl false) M:=by
  refine ZeH (d:=.str [48]) rfl rfl ?_
  cases fs with
  | nil=>exact absurd h1 (by decide)
  | cons c r=>
   have q:¬ 48 = c:=fun e=>h3 r (by rw [e])
   have e:([48]:List Nat).isPrefixOf (c :: r) = false:=by
    show ((48 == c) && List.isPrefixOf [] r) = false
    rw [beq_eq_false_iff_ne.mpr q]; rfl
   simp only [Zas]
   rw [if_pos ⟨hz,by decide⟩,e]
 rw [Zr (ZaM c1),Zr (ZaM c2)]
 have hi:(ZbU (Zb 1)) [some (.str w),some (.str fs)] M = .ok ⟨fs.map (fun c=>D.str [c]),none⟩ M:=by
  simp only [ZbU,Zb,List.getElem?_cons_succ,List.getElem?_cons_zero,R3.bind,if_pos hz]
 have lc:=Zen (h:=fun _=>D.bl true) (own:=1) (i:=2) (elt:=(e2 Zd4 (Zb 2) (g_FIGURES))) hi (fun n z=>nomatch z)
  (fun c hc M'=>by
   have q:=h4 c hc
   refine Zk (a:=.str [c]) (b:=.str [48,49,50,51,52,53,54,55,56,57]) rfl rfl ?_
   simp only [Zd4,inD]
   rw [decide_eq_true]
   simp only [List.mem_cons,List.not_mem_nil,or_false]
   omega) (Nat.le_trans h2 (by decide))
 refine Za9 (ZbY lc ?_)
 have a:∀ l:List Nat,(l.map fun _=>D.bl true).all isB = true ∧ (l.map fun _=>D.bl true).all isT = true:=by
  intro l
  induction l with
  | nil=>exact ⟨rfl,rfl⟩
  | cons _ l ih=>exact ⟨by simp only [List.map_cons,List.all_cons,isB,ih.1,Bool.and_self],by simp only [List.map_cons,List.all_cons,isT,ih.2,Bool.and_self]⟩
 simp only [Zfx,Zar,allB,(a fs).1,(a fs).2,if_true]
theorem Zjn {i:Int} (h:i.natAbs < 10 ^ 60) (M:Store):ZaY [.str (Zh i)] M = .ok (.bl true) M:=by
 have go:∀ (n:Nat) (w:List Nat),0 < n → n < 10 ^ 60 → (eIf (ZaV tyS Zas (Zb 0) (Za (eC (.str [45])) (Ze))) (eSl (Zb 0) (Zad (eC (.int 1))) (ZaS)) (Zb 0)) [some (.str w),none] M = .ok (.str (Za1 n)) M → ZaY [.str w] M = .ok (.bl true) M:=fun n w h0 h1 hf=>by
  refine Rt.pure (G:=[.lst ((Za1 n).map fun _=>D.bl true)]) (env:=[some (.str w),none]) ?_ rfl
  unfold ZcC
  rw [Zr (Zaf hf)]
  refine ZhZ ?_ (Zdn 59 n h1) (ZiL n h0) (ZcQ n)
  cases e:Za1 n with
  | nil=>exact absurd e (ZeR n)
  | cons _ _=>exact Nat.le_add_left 1 _
 cases i with
 | ofNat n=>
  have e:Zh (Int.ofNat n) = Za1 n:=Zg6 n
  have hp:(eIf (ZaV tyS Zas (Zb 0) (Za (eC (.str [45])) (Ze))) (eSl (Zb 0) (Zad (eC (.int 1))) (ZaS)) (Zb 0)) [some (.str (Za1 n)),none] M = .ok (.str (Za1 n)) M:=by
   rw [Zma (M1:=M)]
   ·rfl
   ·refine ZeH (d:=.str [45]) rfl rfl ?_
    have hl:=Zdn 59 n h
    have e:([45]:List Nat).isPrefixOf (Za1 n) = false:=by
     cases q:Za1 n with
     | nil=>rfl
     | cons c r=>
      have qc:=ZcQ n c (by rw [q]; exact List.mem_cons_self ..)
      show ((45 == c) && List.isPrefixOf [] r) = false
      rw [beq_eq_false_iff_ne.mpr (by omega)]; rfl
    simp only [Zas]
    rw [if_pos ⟨Nat.le_trans hl (by decide),by decide⟩,e]
  rw [e]
  by_cases z:n = 0
  ·subst z
   refine Rt.pure (G:=[]) (env:=[some (.str (Za1 0)),none]) ?_ rfl
   rw [List.append_nil]
   unfold ZcC
   rw [Zr (Zaf hp),Zcx (by decide)]
   simp [Zv,sIf,Zan,Zab,g_MOST_FIGURES]
  ·exact go n _ (Nat.pos_of_ne_zero z) h hp
 | negSucc n=>
  rw [ZgQ]
  have hl:=Zdn 59 (n + 1) h
  refine go (n + 1) _ (Nat.succ_pos n) h ?_
  rw [Zme (M1:=M)]
  ·have e:cutD (45 :: Za1 (n + 1)) (some 1) none = Za1 (n + 1):=Zef (45 :: Za1 (n + 1)) 1
   have hz:(45 :: Za1 (n + 1)).length ≤ SZ:=Nat.le_trans (Nat.succ_le_succ hl) (by decide)
   simp only [eSl,Zb,Zad,ZaS,eC,R3.bind,List.getElem?_cons_zero,Zeu,if_pos hz,e]
  ·refine ZeH (d:=.str [45]) rfl rfl ?_
   have hz:(45 :: Za1 (n + 1)).length ≤ SZ:=Nat.le_trans (Nat.succ_le_succ hl) (by decide)
   simp only [Zas]
   rw [if_pos ⟨hz,by decide⟩]
   rfl
theorem ZfR (i m:Int) (M:Store):ZaB [.int i,.int m] M = .ok (.bl (decide (0 ≤ i ∧ i < m))) M:=by
 refine Rt.pure (G:=[]) (env:=[some (.int i),some (.int m)]) ?_ rfl
 rw [List.append_nil]
 unfold Zdf
 refine Za9 ?_
 by_cases h:0 ≤ i
 ·rw [ZhR (M1:=M) (Zk rfl rfl (by simp only [Zlr,decide_eq_true h]))]
  refine Zk rfl rfl ?_
  simp only [Zhx,h,true_and]
 ·rw [Zhs (M1:=M) (Zk rfl rfl (by simp only [Zlr,decide_eq_false h])),decide_eq_false (fun z=>h z.1)]
theorem ZgC {line:D} {wd:D} {M:Store} {W S:MO} {nm:List Nat} {is:List Int} {ks:List (List Nat)} (F:Zjw nm is ks) (hS:S = .lst (is.map fun n=>D.str (Zh n))):
  ∃ x y z,ZcU [(M.length + 2,is.map fun n=>D.str (Zh n))] (Zd1 [4,5]) (Zv (sIf (e1 Zby (Zz ZaY (Za (Zb 5) (Ze)))) (Zan (eC .non)) (Zab)) (Zv (Zac 6 (Zah Ze3 (Za (Zb 5) (Ze)))) (Zv (sIf (Zdq (e2 Zbv (Zb 4) (eC (.str [98,111,120]))) (e1 Zby (Zz ZaB (Za (Zb 6) (Za (g_BOXES) (Ze)))))) (Zan (eC .non)) (Zab)) (ZaD (ZaV tyL Zaz (Zb 3) (Za (Zb 6) (Ze)))))))
   (ZcN (ks.map D.str) (is.map fun n=>D.str (Zh n))) [some line,some wd,some (.tup (ks.map D.str)),some (.ref (M.length + 1)),none,none,none] (M ++ [W,.lst [.str nm],S]) =
   .nx [some line,some wd,some (.tup (ks.map D.str)),some (.ref (M.length + 1)),x,y,z] (M ++ [W,.lst (.str nm :: is.map D.int),S]):=by
 obtain ⟨e',M',hl,x,y,z,rfl,rfl⟩:=Zed (lk:=[(M.length + 2,is.map fun n=>D.str (Zh n))]) (g:=Zd1 [4,5])
  (body:=(Zv (sIf (e1 Zby (Zz ZaY (Za (Zb 5) (Ze)))) (Zan (eC .non)) (Zab)) (Zv (Zac 6 (Zah Ze3 (Za (Zb 5) (Ze)))) (Zv (sIf (Zdq (e2 Zbv (Zb 4) (eC (.str [98,111,120]))) (e1 Zby (Zz ZaB (Za (Zb 6) (Za (g_BOXES) (Ze)))))) (Zan (eC .non)) (Zab)) (ZaD (ZaV tyL Zaz (Zb 3) (Za (Zb 6) (Ze))))))))
  (P:=fun j env M'=>∃ x y z,env = [some line,some wd,some (.tup (ks.map D.str)),some (.ref (M.length + 1)),x,y,z] ∧ M' = M ++ [W,.lst (.str nm :: (is.take j).map D.int),S])
  (ZcN (ks.map D.str) (is.map fun n=>D.str (Zh n))) 0 [some line,some wd,some (.tup (ks.map D.str)),some (.ref (M.length + 1)),none,none,none] (M ++ [W,.lst [.str nm],S]) ⟨none,none,none,rfl,rfl⟩
  (fun j env M' hp=>by
   obtain ⟨x,y,z,rfl,rfl⟩:=hp
   subst hS
   simp [Zba,Zdu])
  (fun i d env M' hd hp=>by
   obtain ⟨x,y,z,rfl,rfl⟩:=hp
   obtain ⟨k,n,hk,hn,rfl⟩:=zip_get F.len hd
   rw [Nat.zero_add]
   refine ⟨_,rfl,.inl ⟨[some line,some wd,some (.tup (ks.map D.str)),some (.ref (M.length + 1)),some (.str k),some (.str (Zh n)),some (.int n)],M ++ [W,.lst (.str nm :: (is.take (i + 1)).map D.int),S],?_,_,_,_,rfl,rfl⟩⟩
   have hb:=F.num n (List.mem_of_getElem? hn)
   obtain ⟨r1,r2,r3⟩:=Zds n hb
   have c1:∀ M0,(e1 Zby (Zz ZaY (Za (Zb 5) (Ze)))) [some line,some wd,some (.tup (ks.map D.str)),some (.ref (M.length + 1)),some (.str k),some (.str (Zh n)),z] M0 = .ok (.bl false) M0:=fun M0=>ZeE (Zcw rfl (Zjn hb M0)) rfl
   refine (Zr (ZaM (c1 _))).trans ?_
   have c2:∀ M0,(Zah Ze3 (Za (Zb 5) (Ze))) [some line,some wd,some (.tup (ks.map D.str)),some (.ref (M.length + 1)),some (.str k),some (.str (Zh n)),z] M0 = .ok (.int n) M0:=fun M0=>ZbY (a:=.str (Zh n)) rfl (by simp only [Ze3,r1]; rw [if_pos (Nat.le_trans r2 (by decide))])
   refine (Zr (Zaf (c2 _))).trans ?_
   have c3:∀ M0,(Zdq (e2 Zbv (Zb 4) (eC (.str [98,111,120]))) (e1 Zby (Zz ZaB (Za (Zb 6) (Za (g_BOXES) (Ze)))))) [some line,some wd,some (.tup (ks.map D.str)),some (.ref (M.length + 1)),some (.str k),some (.str (Zh n)),some (.int n)] M0 = .ok (.bl false) M0:=fun M0=>by
    by_cases q:k = bx
    ·subst q
     rw [ZhR (M1:=M0) (Zk rfl rfl (by simp only [Zbv,eqD,decide_true]))]
     refine ZeE (Zdo rfl rfl (ZfR n 8 M0)) ?_
     rw [decide_eq_true (F.box i n hk hn)]; rfl
    ·exact Zhs (M1:=M0) (Zk rfl rfl (by simp only [Zbv,eqD]; rw [decide_eq_false q]))
   refine (Zr (ZaM (c3 _))).trans ?_
   have e:(is.take (i + 1)).map D.int = (is.take i).map D.int ++ [.int n]:=by rw [List.take_add_one,hn,List.map_append]; rfl
   have hz:(D.str nm :: (is.take i).map D.int).length < SZ:=by
    have:=F.few.1
    rw [List.length_cons,List.length_map,List.length_take]; simp only [SZ]; omega
   rw [e]
   refine Zfg (d:=.non) ?_
   have g1:(M ++ [W,.lst (.str nm :: (is.take i).map D.int),S])[M.length + 1]? = some (.lst (.str nm :: (is.take i).map D.int)):=by rw [Zdu]; rfl
   simp only [ZaV,Zb,List.getElem?_cons_succ,List.getElem?_cons_zero,R3.bind,tyL,g1,if_true,Za,Ze,Zaz,if_pos hz,ZeQ]
   rfl)
 refine ⟨x,y,z,hl.trans ?_⟩
 have e:0 + (ZcN (ks.map D.str) (is.map fun n=>D.str (Zh n))).length = is.length:=by rw [ZeV,List.length_map,List.length_map,F.len,Nat.min_self,Nat.zero_add]
 rw [e,List.take_length]
theorem Zht {nm:List Nat} {is:List Int} {ks:List (List Nat)} (F:Zjw nm is ks) (M:Store):Zb1 [.str (ZbT nm is)] M = .ok (Zg4 nm is) M:=by
 have hl:=(Zee F.few.1 F.few.2 F.num).2
 have hsp:Zct (ZbT nm is) [32] = nm :: is.map Zh:=by
  refine ZeJ 32 _ (fun z=>nomatch z) fun t ht=>?_
  rcases List.mem_cons.mp ht with e | ht
  ·rw [e]; exact fun z=>absurd (F.abc 32 z) (by decide)
  ·obtain ⟨i,hi,rfl⟩:=List.mem_map.mp ht
   exact fun z=>absurd ((Zds i (F.num i hi)).2.2 32 z) (by decide)
 have w0:(ZaV tyS ZcI (Zb 0) (Za (eC (.str [32])) (Ze))) [some (.str (ZbT nm is)),none,none,none,none,none,none] M = .ok (.ref M.length) (M ++ [.lst ((nm :: is.map Zh).map D.str)]):=by
  refine ZeH (d:=.str [32]) rfl rfl ?_
  simp only [ZcI,hsp]
  rw [if_pos ⟨by decide,Nat.le_trans (Nat.add_le_add_right hl 2) (by decide)⟩]; rfl
 have mw:∀ G,(M ++ .lst ((nm :: is.map Zh).map D.str) :: G)[M.length]? = some (.lst ((nm :: is.map Zh).map D.str)):=fun G=>Zar ..
 have wn:∀ env G,env[1]? = some (some (.ref M.length)) → (e2 Zq (Zb 1) (eC (.int 0))) env (M ++ .lst ((nm :: is.map Zh).map D.str) :: G) = .ok (.str nm) (M ++ .lst ((nm :: is.map Zh).map D.str) :: G):=fun env G he=>by
  refine Zk (a:=.ref M.length) (by simp only [Zb,he]) rfl (ZdX (mw G) ?_)
  exact ZaJ _ 0
 refine Rt.pure (G:=[.lst ((nm :: is.map Zh).map D.str),.lst (.str nm :: is.map D.int),.lst (is.map fun n=>D.str (Zh n))]) (env:=[some (.str (ZbT nm is)),none,none,none,none,none,none]) ?_ ?_
 ·unfold ZdJ
  refine (Zr (Zaf w0)).trans ?_
  have f0:(e1 (Zex Zav) (e2 Zq (Zb 1) (eC (.int 0)))) [some (.str (ZbT nm is)),some (.ref M.length),none,none,none,none,none] (M ++ [.lst ((nm :: is.map Zh).map D.str)]) = .ok (.tup (ks.map D.str)) (M ++ [.lst ((nm :: is.map Zh).map D.str)]):=
   ZeE (wn _ [] rfl) (by simp only [Zex,F.tab])
  refine (Zr (Zaf f0)).trans ?_
  have c0:(eOr (e2 ZgU (Zb 2) (eC .non)) (e2 ZiH (Zah Zbi (Za (Zb 1) (Ze))) (e2 Zn (Zah Zbi (Za (Zb 2) (Ze))) (eC (.int 1))))) [some (.str (ZbT nm is)),some (.ref M.length),some (.tup (ks.map D.str)),none,none,none,none] (M ++ [.lst ((nm :: is.map Zh).map D.str)]) = .ok (.bl false) (M ++ [.lst ((nm :: is.map Zh).map D.str)]):=by
   rw [Zjt (M1:=M ++ [.lst ((nm :: is.map Zh).map D.str)]) (Zk rfl rfl (by simp only [ZgU]; rw [decide_eq_false (fun z=>nomatch z)]))]
   refine Zk (ZbY rfl (Zgj (mw []))) (Zk (ZbY (a:=.tup (ks.map D.str)) rfl rfl) rfl rfl) ?_
   simp only [ZiH,eqD]
   rw [decide_eq_true]
   ·rfl
   ·rw [List.length_map,List.length_map,List.length_cons,List.length_map,F.len]; rfl
  refine (Zr (ZaM c0)).trans ?_
  have r0:(Zbu (Za (e2 Zq (Zb 1) (eC (.int 0))) (Ze))) [some (.str (ZbT nm is)),some (.ref M.length),some (.tup (ks.map D.str)),none,none,none,none] (M ++ [.lst ((nm :: is.map Zh).map D.str)]) = .ok (.ref (M.length + 1)) (M ++ [.lst ((nm :: is.map Zh).map D.str),.lst [.str nm]]):=by
   have q:=Zal (wn [some (.str (ZbT nm is)),some (.ref M.length),some (.tup (ks.map D.str)),none,none,none,none] [] rfl) (g:=Ze) rfl
   simp only [Zbu,q,R3.bind]
   rw [if_pos (show [D.str nm].length ≤ SZ from (by decide:1 ≤ SZ))]
   simp only [alloc,List.length_append,List.length_singleton,List.append_assoc,List.singleton_append]
  refine (Zr (Zaf r0)).trans ?_
  have z0:(ZeF (Zb 2) (eSl (Zb 1) (Zad (eC (.int 1))) (ZaS))) [some (.str (ZbT nm is)),some (.ref M.length),some (.tup (ks.map D.str)),some (.ref (M.length + 1)),none,none,none] (M ++ [.lst ((nm :: is.map Zh).map D.str),.lst [.str nm]]) = .ok ⟨ZcN (ks.map D.str) (is.map fun n=>D.str (Zh n)),[(M.length + 2,is.map fun n=>D.str (Zh n))]⟩ (M ++ [.lst ((nm :: is.map Zh).map D.str),.lst [.str nm],.lst (is.map fun n=>D.str (Zh n))]):=by
   have e1:cutD ((nm :: is.map Zh).map D.str) (some 1) none = is.map fun n=>D.str (Zh n):=(Zef ((nm :: is.map Zh).map D.str) 1).trans (by rw [List.map_cons,List.map_map]; rfl)
   have e2:(M ++ [.lst ((nm :: is.map Zh).map D.str),.lst [.str nm],.lst (is.map fun n=>D.str (Zh n))])[M.length + 2]? = some (.lst (is.map fun n=>D.str (Zh n))):=by rw [Zdu]; rfl
   have e3:(eSl (Zb 1) (Zad (eC (.int 1))) (ZaS)) [some (.str (ZbT nm is)),some (.ref M.length),some (.tup (ks.map D.str)),some (.ref (M.length + 1)),none,none,none] (M ++ [.lst ((nm :: is.map Zh).map D.str),.lst [.str nm]]) = .ok (.ref (M.length + 2)) (M ++ [.lst ((nm :: is.map Zh).map D.str),.lst [.str nm],.lst (is.map fun n=>D.str (Zh n))]):=by
    simp only [eSl,Zb,List.getElem?_cons_succ,List.getElem?_cons_zero,R3.bind,Zad,eC,ZaS,Zeu,mw,e1,alloc,List.length_append,List.length_cons,List.length_nil,List.append_assoc,List.cons_append,List.nil_append]
   simp only [ZeF,e3,R3.bind,Zhf,e2,Zb,List.getElem?_cons_succ,List.getElem?_cons_zero,List.nil_append]
  obtain ⟨x,y,z,hl⟩:=ZgC (line:=.str (ZbT nm is)) (wd:=.ref M.length) (M:=M) (W:=.lst ((nm :: is.map Zh).map D.str)) F rfl
  refine (Zr (show Zdb _ _ _ _ _ = _ from by unfold Zdb; rw [z0]; exact hl)).trans ?_
  refine Za9 (ZbY rfl (Zea ?_))
  rw [Zdu]; rfl
 ·have q:∀ l:List Int,belowL M.length (l.map D.int) = true:=by
   intro l
   induction l with
   | nil=>rfl
   | cons a l ih=>simp only [List.map_cons,belowL,below,ih,Bool.and_self]
  simp only [Zg4,below,belowL,q,Bool.and_self]
noncomputable abbrev GR:=List Nat × List Int
noncomputable def grD (r:GR):D:=Zg4 r.1 r.2
noncomputable def grT (r:GR):List Nat:=ZbT r.1 r.2
structure Znc (rs:List GR):Prop where
 fit:∀ r ∈ rs,∃ ks,Zjw r.1 r.2 ks
 few:rs.length ≤ 1000
 ne:rs ≠ []
structure Zmn (rs:List GR):Prop where
 base:Znc rs
 last:∃ q r,rs = q ++ [r] ∧ (r.1 = [104,97,108,116] ∨ r.1 = [106,117,109,112])
 lead:∀ r ∈ rs,∀ ks,tabAt r.1 Zav = some ks → ∀ (j:Nat) n,ks[j]? = some rw3 → r.2[j]? = some n → 0 ≤ n ∧ n < (rs.length:Int)
theorem ZkE {ks:List (List Nat)} {is:List Int} {i:Nat} {d:D} (h:(ZcN (ks.map D.str) (is.map D.int))[i]? = some d):∃ k n,ks[i]? = some k ∧ is[i]? = some n ∧ d = .tup [.str k,.int n]:=by
 rw [Zec,List.getElem?_map,List.getElem?_map] at h
 cases hk:ks[i]? with
 | none=>rw [hk] at h; cases h
 | some k=>
  cases hn:is[i]? with
  | none=>rw [hk,hn] at h; cases h
  | some n=>rw [hk,hn] at h; cases h; exact ⟨k,n,rfl,rfl,rfl⟩
theorem Zlu {env:Zai} {M:Store} {r:GR} {ks:List (List Nat)} (ht:tabAt r.1 Zav = some ks) (hv:env[1]? = some (some (grD r))):
  (ZeF (e1 (Zdj Zav) (e2 Zq (Zb 1) (eC (.int 0)))) (eSl (Zb 1) (Zad (eC (.int 1))) (ZaS))) env M = .ok ⟨ZcN (ks.map D.str) (r.2.map D.int),[]⟩ M:=by
 have e0:(e1 (Zdj Zav) (e2 Zq (Zb 1) (eC (.int 0)))) env M = .ok (.tup (ks.map D.str)) M:=by
  refine ZeE (Zk (a:=grD r) (M1:=M) (by simp only [Zb,hv]) rfl (ZcE (ZaJ _ 0))) ?_
  simp only [Zdj,ht]
 have e1:(eSl (Zb 1) (Zad (eC (.int 1))) (ZaS)) env M = .ok (.tup (r.2.map D.int)) M:=by
  have q:cutD (D.str r.1 :: r.2.map D.int) (some 1) none = r.2.map D.int:=Zef (D.str r.1 :: r.2.map D.int) 1
  simp only [eSl,Zb,hv,R3.bind,Zad,eC,ZaS,grD,Zg4,Zeu,q]
 simp only [ZeF,e0,e1,R3.bind,Zhf,List.nil_append]
theorem Zhd {rs:List GR} (F:Zmn rs) {n:Nat} {M:Store} (hM:M[n]? = some (.lst (rs.map grD))):Zbo [.ref n] M = .ok .non M:=by
 have hb:∃ e',Zbq [some (.ref n),none,none,none] M = .nx e' M:=by
  unfold Zbq
  have c0:(e2 Zd6 (e2 Zq (e2 Zq (Zb 0) (e1 ZaR (eC (.int 1)))) (eC (.int 0))) (Zap (Za (eC (.str [104,97,108,116])) (Za (eC (.str [106,117,109,112])) (Ze))))) [some (.ref n),none,none,none] M = .ok (.bl false) M:=by
   obtain ⟨q,r,e,hr⟩:=F.last
   have g:Za0 (rs.map grD) (-1) = some (grD r):=by rw [e,List.map_append]; exact getD_last ..
   refine Zk (Zk (Zk rfl rfl (ZdX hM g)) rfl (ZcE (ZaJ _ 0))) (Zbn rfl rfl) ?_
   rcases hr with hr | hr
   ·simp only [Zd6,inD,hr]; rfl
   ·simp only [Zd6,inD,hr]; rfl
  rw [Zr (ZaM c0),Zdr (it:=⟨rs.map grD,some n⟩) (M':=M) (by simp only [ZbU,Zb,List.getElem?_cons_zero,R3.bind,hM])]
  obtain ⟨e',M',hl,_,_,_,rfl,rfl⟩:=Zda (it:=⟨rs.map grD,some n⟩) (g:=ZbV 1)
   (body:=(Zdb (ZeF (e1 (Zdj Zav) (e2 Zq (Zb 1) (eC (.int 0)))) (eSl (Zb 1) (Zad (eC (.int 1))) (ZaS))) (Zd1 [2,3]) (sIf (Zdq (e2 Zbv (Zb 2) (eC (.str [114,111,119]))) (e1 Zby (Zz ZaB (Za (Zb 3) (Za (Zah Zbi (Za (Zb 0) (Ze))) (Ze)))))) (ZfU) (Zab))))
   (P:=fun j env M'=>∃ x y z,env = [some (.ref n),x,y,z] ∧ M = M') (rs.map grD) 0 [some (.ref n),none,none,none] M ⟨none,none,none,rfl,rfl⟩
   (fun j env M' hp=>by
    obtain ⟨x,y,z,rfl,rfl⟩:=hp
    simp only [locked,hM,decide_true])
   (fun i d hd env M' hp=>by
    obtain ⟨x,y,z,rfl,rfl⟩:=hp
    rw [List.getElem?_map] at hd
    cases hr:rs[i]? with
    | none=>rw [hr] at hd; cases hd
    | some r=>
     rw [hr] at hd; cases hd
     have hm:=List.mem_of_getElem? hr
     obtain ⟨ks,hk⟩:=F.base.fit r hm
     obtain ⟨e2,M2,hl2,y2,z2,rfl,rfl⟩:=Zed (lk:=[]) (g:=Zd1 [2,3])
      (body:=(sIf (Zdq (e2 Zbv (Zb 2) (eC (.str [114,111,119]))) (e1 Zby (Zz ZaB (Za (Zb 3) (Za (Zah Zbi (Za (Zb 0) (Ze))) (Ze)))))) (ZfU) (Zab)))
      (P:=fun j env M'=>∃ y z,env = [some (.ref n),some (grD r),y,z] ∧ M = M') (ZcN (ks.map D.str) (r.2.map D.int)) 0 [some (.ref n),some (grD r),y,z] M ⟨y,z,rfl,rfl⟩ (fun _ _ _ _=>rfl)
      (fun i d env M' hd hp=>by
       obtain ⟨y,z,rfl,rfl⟩:=hp
       obtain ⟨k,v,h1,h2,rfl⟩:=ZkE hd
       refine ⟨_,rfl,.inl ⟨[some (.ref n),some (grD r),some (.str k),some (.int v)],M,ZaM ?_,_,_,rfl,rfl⟩⟩
       by_cases q:k = rw3
       ·subst q
        rw [ZhR (M1:=M) (Zk rfl rfl (by simp only [Zbv,eqD,decide_true]))]
        refine ZeE (Zdo (b:=.int (rs.map grD).length) (M2:=M) rfl (ZbY rfl (Zgj hM)) (ZfR v _ M)) ?_
        rw [List.length_map,decide_eq_true (F.lead r hm ks hk.tab i v h1 h2)]; rfl
       ·exact Zhs (M1:=M) (Zk rfl rfl (by simp only [Zbv,eqD]; rw [decide_eq_false q])))
     refine ⟨_,[some (.ref n),some (grD r),y2,z2],M,rfl,?_,some (grD r),y2,z2,rfl,rfl⟩
     unfold Zdb
     rw [Zlu hk.tab rfl]
     exact hl2)
  exact ⟨_,hl⟩
 obtain ⟨e',hb⟩:=hb
 have q:=Znx (ps:=1) (n:=4) (ds:=[.ref n]) (env:=[some (.ref n),none,none,none]) hb
 exact q.trans (ZiC rfl)
theorem Zez {rs:List GR} (F:Znc rs):(∀ t ∈ rs.map grT,t.length ≤ 248) ∧ Zbp [10] (rs.map grT) ≤ SZ ∧ (glue [10] (rs.map grT)).length + 2 ≤ SZ:=by
 have h:∀ t ∈ rs.map grT,t.length ≤ 248:=by
  intro t ht
  obtain ⟨r,hr,rfl⟩:=List.mem_map.mp ht
  obtain ⟨ks,hk⟩:=F.fit r hr
  exact (Zee hk.few.1 hk.few.2 hk.num).2
 obtain ⟨a,b⟩:=Ze5 10 248 _ h
 have e:(rs.map grT).length * (248 + 1) ≤ 249000:=by rw [List.length_map]; have:=F.few; omega
 exact ⟨h,Nat.le_trans a (Nat.le_trans e (by decide)),Nat.le_trans (Nat.add_le_add_right (Nat.le_trans b e) 2) (by decide)⟩
theorem ZiQ {nm:List Nat} {is:List Int} (ha:∀ c ∈ nm,97 ≤ c) (h:∀ n ∈ is,n.natAbs < 10 ^ 60):∀ c ∈ ZbT nm is,32 ≤ c:=by
 have gen:∀ ts:List (List Nat),(∀ t ∈ ts,∀ c ∈ t,32 ≤ c) → ∀ c ∈ glue [32] ts,32 ≤ c:=by
  intro ts
  induction ts with
  | nil=>intro _ c hc; exact nomatch hc
  | cons t ts ih=>
   intro h c hc
   cases ts with
   | nil=>exact h t (List.mem_cons_self ..) c hc
   | cons u ts=>
    rw [ZbO] at hc
    rcases List.mem_append.mp hc with hc | hc
    ·exact h t (List.mem_cons_self ..) c hc
    ·rcases List.mem_append.mp hc with hc | hc
     ·rw [List.mem_singleton.mp hc]; exact Nat.le_refl _
     ·exact ih (fun q hq=>h q (List.mem_cons_of_mem _ hq)) c hc
 refine gen _ fun t ht=>?_
 rcases List.mem_cons.mp ht with e | ht
 ·rw [e]; exact fun c hc=>Nat.le_trans (by decide) (ha c hc)
 ·obtain ⟨i,hi,rfl⟩:=List.mem_map.mp ht
  exact fun c hc=>Nat.le_trans (by decide) ((Zds i (h i hi)).2.2 c hc)
theorem ZgP {rs:List GR} (F:Znc rs):Zct (glue [10] (rs.map grT)) [10] = rs.map grT:=by
 refine ZeJ 10 _ (fun z=>F.ne (List.map_eq_nil_iff.mp z)) fun t ht=>?_
 obtain ⟨r,hr,rfl⟩:=List.mem_map.mp ht
 obtain ⟨ks,hk⟩:=F.fit r hr
 exact fun z=>absurd (ZiQ hk.abc hk.num 10 z) (by decide)
theorem ZgT {rs:List GR} (F:Zmn rs) (M:Store):ZaC [.str (glue [10] (rs.map grT))] M = .ok (.tup (rs.map grD)) M:=by
 have Z:=Zez F.base
 have sp:(ZaV tyS ZcI (Zb 0) (Za (eC (.str [10])) (Ze))) [some (.str (glue [10] (rs.map grT))),some (.ref M.length),none,none,none] (M ++ [.lst []]) = .ok (.ref (M.length + 1)) (M ++ [.lst [],.lst ((rs.map grT).map D.str)]):=by
  refine ZeH (d:=.str [10]) rfl rfl ?_
  simp only [ZcI,ZgP F.base]
  rw [if_pos ⟨by decide,Z.2.2⟩]
  simp only [alloc,List.length_append,List.length_singleton,List.append_assoc,List.singleton_append]
 have en:(Zge (ZaV tyS ZcI (Zb 0) (Za (eC (.str [10])) (Ze)))) [some (.str (glue [10] (rs.map grT))),some (.ref M.length),none,none,none] (M ++ [.lst []]) = .ok ⟨Zdm 1 ((rs.map grT).map D.str),[(M.length + 1,(rs.map grT).map D.str)]⟩ (M ++ [.lst [],.lst ((rs.map grT).map D.str)]):=by
  have g:(M ++ [.lst [],.lst ((rs.map grT).map D.str)])[M.length + 1]? = some (.lst ((rs.map grT).map D.str)):=by rw [Zdu]; rfl
  simp only [Zge,sp,R3.bind,g]
 refine Rt.pure (G:=[.lst (rs.map grD),.lst ((rs.map grT).map D.str)]) (env:=[some (.str (glue [10] (rs.map grT))),none,none,none,none]) ?_ ?_
 ·unfold Zdk
  refine (Zr (Zaf (d:=.ref M.length) (M':=M ++ [.lst []]) (by simp only [Zbu,Ze,R3.bind]; rw [if_pos (show ([]:List D).length ≤ SZ by decide)]; rfl))).trans ?_
  obtain ⟨e',M',hl,x,y,z,rfl,rfl⟩:=Zed (lk:=[(M.length + 1,(rs.map grT).map D.str)]) (g:=Zd1 [2,3])
   (body:=(Zv (Zac 4 (Zz Zb1 (Za (Zb 3) (Ze)))) (Zv (sIf (e2 ZgU (Zb 4) (eC .non)) (ZfU) (Zab)) (ZaD (ZaV tyL Zaz (Zb 1) (Za (Zb 4) (Ze)))))))
   (P:=fun j env M'=>∃ x y z,env = [some (.str (glue [10] (rs.map grT))),some (.ref M.length),x,y,z] ∧ M' = M ++ [.lst ((rs.take j).map grD),.lst ((rs.map grT).map D.str)])
   (Zdm 1 ((rs.map grT).map D.str)) 0 [some (.str (glue [10] (rs.map grT))),some (.ref M.length),none,none,none] (M ++ [MO.lst [],MO.lst ((rs.map grT).map D.str)]) ⟨none,none,none,rfl,rfl⟩
   (fun j env M' hp=>by
    obtain ⟨x,y,z,rfl,rfl⟩:=hp
    simp [Zba,Zdu])
   (fun i d env M' hd hp=>by
    obtain ⟨x,y,z,rfl,rfl⟩:=hp
    rw [ZeA,List.getElem?_map,List.getElem?_map] at hd
    cases hr:rs[i]? with
    | none=>rw [hr] at hd; cases hd
    | some r=>
     rw [hr] at hd; cases hd
     obtain ⟨ks,hk⟩:=F.base.fit r (List.mem_of_getElem? hr)
     rw [Nat.zero_add]
     refine ⟨_,rfl,.inl ⟨[some (.str (glue [10] (rs.map grT))),some (.ref M.length),some (.int ((1 + i:Nat):Int)),some (.str (grT r)),some (grD r)],M ++ [.lst ((rs.take (i + 1)).map grD),.lst ((rs.map grT).map D.str)],?_,_,_,_,rfl,rfl⟩⟩
     have c1:∀ M0,(Zz Zb1 (Za (Zb 3) (Ze))) [some (.str (glue [10] (rs.map grT))),some (.ref M.length),some (.int ((1 + i:Nat):Int)),some (.str (grT r)),z] M0 = .ok (grD r) M0:=fun M0=>Zcw rfl (Zht hk M0)
     refine (Zr (Zaf (c1 _))).trans ?_
     refine (Zr (ZaM (Zk rfl rfl (show ZgU (grD r) .non _ = _ from by simp only [ZgU]; rw [decide_eq_false (fun z=>nomatch z)])))).trans ?_
     have e:(rs.take (i + 1)).map grD = (rs.take i).map grD ++ [grD r]:=by rw [List.take_add_one,hr,List.map_append]; rfl
     have hz:((rs.take i).map grD).length < SZ:=by
      have:=F.base.few
      rw [List.length_map,List.length_take]; simp only [SZ]; omega
     rw [e]
     refine Zfg (d:=.non) ?_
     have g1:(M ++ [MO.lst ((rs.take i).map grD),.lst ((rs.map grT).map D.str)])[M.length]? = some (.lst ((rs.take i).map grD)):=Zar ..
     have s1:(M ++ [MO.lst ((rs.take i).map grD),.lst ((rs.map grT).map D.str)]).set M.length (.lst ((rs.take i).map grD ++ [grD r])) = M ++ [.lst ((rs.take i).map grD ++ [grD r]),.lst ((rs.map grT).map D.str)]:=ZeQ M _ 0 _
     simp only [ZaV,Zb,List.getElem?_cons_succ,List.getElem?_cons_zero,R3.bind,tyL,g1,if_true,Za,Ze,Zaz,if_pos hz,s1])
  have e:0 + (Zdm 1 ((rs.map grT).map D.str)).length = rs.length:=by rw [Zeo,List.length_map,List.length_map,Nat.zero_add]
  rw [e,List.take_length] at hl
  refine (Zr (show Zdb _ _ _ _ _ = _ from by unfold Zdb; rw [en]; exact hl)).trans ?_
  have g1:(M ++ [.lst (rs.map grD),.lst ((rs.map grT).map D.str)])[M.length]? = some (.lst (rs.map grD)):=Zar ..
  refine (Zr (Zfg (Zcw rfl (Zhd F g1)))).trans ?_
  exact Za9 (ZbY rfl (Zea g1))
 ·have q:∀ l:List Int,belowL M.length (l.map D.int) = true:=by
   intro l
   induction l with
   | nil=>rfl
   | cons a l ih=>simp only [List.map_cons,belowL,below,ih,Bool.and_self]
  have q2:∀ l:List GR,belowL M.length (l.map grD) = true:=by
   intro l
   induction l with
   | nil=>rfl
   | cons a l ih=>simp only [List.map_cons,belowL,grD,Zg4,below,q,ih,Bool.and_self]
  simp only [below,q2]
noncomputable def Zcg:Row → List Nat
 | .put _ _=>[112,117,116] | .add _ _ _=>[97,100,100] | .sub _ _ _=>[115,117,98] | .more _ _ _=>[109,111,114,101] | .get _ _=>[103,101,116] | .set _ _=>[115,101,116]
 | .jump _=>[106,117,109,112] | .when _ _=>[119,104,101,110] | .tell _=>[116,101,108,108] | .halt=>[104,97,108,116]
noncomputable def ZdO:Row → List Int
 | .put a n=>[a,n] | .add a b c=>[a,b,c] | .sub a b c=>[a,b,c] | .more a b c=>[a,b,c] | .get a b=>[a,b] | .set a b=>[a,b]
 | .jump k=>[k] | .when a k=>[a,k] | .tell a=>[a] | .halt=>[]
noncomputable abbrev nbr:List Nat:=[110,117,109,98,101,114]
noncomputable def ZnD:Row → List (List Nat)
 | .put _ _=>[bx,nbr] | .add _ _ _=>[bx,bx,bx] | .sub _ _ _=>[bx,bx,bx] | .more _ _ _=>[bx,bx,bx] | .get _ _=>[bx,bx] | .set _ _=>[bx,bx]
 | .jump _=>[rw3] | .when _ _=>[bx,rw3] | .tell _=>[bx] | .halt=>[]
noncomputable def ZbC (r:Row):GR:=(Zcg r,ZdO r)
theorem Ze6 (r:Row):Zd r = grD (ZbC r):=by cases r <;> rfl
theorem ZlL (rs:List Row):rs.map Zd = (rs.map ZbC).map grD:=by
 rw [List.map_map]; exact List.map_congr_left fun r _=>Ze6 r
noncomputable def Za4:Row → Prop
 | .put _ v=>v.natAbs < 10 ^ 60
 | _=>True
theorem ZfM {a b:Nat} (h:a < b) (hb:b ≤ 5000):((a:Nat):Int).natAbs < 10 ^ 60:=by
 rw [Int.natAbs_natCast]; exact Nat.lt_of_lt_of_le h (Nat.le_trans hb (by decide +kernel))
theorem Zle {a:Nat} (h:a < 8):(0:Int) ≤ a ∧ (a:Int) < 8:=⟨Int.natCast_nonneg a,by omega⟩
theorem Zd9 {m:Nat} (hm:m ≤ 5000) (r:Row) (h:r.ok m) (hs:Za4 r):Zjw (Zcg r) (ZdO r) (ZnD r) ∧ ∀ (j:Nat) n,(ZnD r)[j]? = some rw3 → (ZdO r)[j]? = some n → 0 ≤ n ∧ n < (m:Int):=by
 have s8:∀ {a:Nat},a < 8 → ((a:Nat):Int).natAbs < 10 ^ 60:=fun q=>ZfM q (by decide)
 have sm:∀ {a:Nat},a < m → ((a:Nat):Int).natAbs < 10 ^ 60:=fun q=>ZfM q hm
 have mk:∀ {nm:List Nat} {is:List Int} {ks:List (List Nat)},tabAt nm Zav = some ks → ks.length = is.length → (Nat.ble is.length 3 && Nat.ble nm.length 4) = true → (nm.all fun c=>decide (97 ≤ c)) = true → (∀ n ∈ is,n.natAbs < 10 ^ 60) →
   (∀ (j:Nat) k n,ks[j]? = some k → is[j]? = some n → (k = bx → 0 ≤ n ∧ n < 8) ∧ (k = rw3 → 0 ≤ n ∧ n < (m:Int))) → Zjw nm is ks ∧ ∀ (j:Nat) n,ks[j]? = some rw3 → is[j]? = some n → 0 ≤ n ∧ n < (m:Int):=
  fun h1 h2 h3 h4 h5 h6=>⟨⟨h1,h2,⟨Nat.le_of_ble_eq_true (Bool.and_eq_true_iff.mp h3).1,Nat.le_of_ble_eq_true (Bool.and_eq_true_iff.mp h3).2⟩,fun c hc=>of_decide_eq_true (List.all_eq_true.mp h4 c hc),h5,fun j n a b=>(h6 j _ n a b).1 rfl⟩,fun j n a b=>(h6 j _ n a b).2 rfl⟩
 have m1:∀ {P:Int → Prop} {a:Int},P a → ∀ n ∈ [a],P n:=fun h n hn=>by rw [List.mem_singleton.mp hn]; exact h
 have m2:∀ {P:Int → Prop} {a b:Int},P a → P b → ∀ n ∈ [a,b],P n:=fun h h' n hn=>by
  rcases List.mem_cons.mp hn with e | hn
  ·rw [e]; exact h
  ·exact m1 h' n hn
 have m3:∀ {P:Int → Prop} {a b c:Int},P a → P b → P c → ∀ n ∈ [a,b,c],P n:=fun h h' h'' n hn=>by
  rcases List.mem_cons.mp hn with e | hn
  ·rw [e]; exact h
  ·exact m2 h' h'' n hn
 have kb:∀ {a:Nat},a < 8 → (bx = bx → (0:Int) ≤ a ∧ (a:Int) < 8) ∧ (bx = rw3 → (0:Int) ≤ a ∧ (a:Int) < (m:Int)):=fun q=>⟨fun _=>Zle q,(fun z=>by cases z)⟩
 have kr:∀ {a:Nat},a < m → (rw3 = bx → (0:Int) ≤ a ∧ (a:Int) < 8) ∧ (rw3 = rw3 → (0:Int) ≤ a ∧ (a:Int) < (m:Int)):=fun q=>⟨(fun z=>by cases z),fun _=>⟨Int.natCast_nonneg _,by omega⟩⟩
 have g0:∀ {Q:Nat → List Nat → Int → Prop} (j:Nat) k n,([]:List (List Nat))[j]? = some k → ([]:List Int)[j]? = some n → Q j k n:=fun j k n z=>by simp at z
 have gS:∀ {Q:List Nat → Int → Prop} {k0:List Nat} {ks:List (List Nat)} {a:Int} {is:List Int},Q k0 a → (∀ (j:Nat) k n,ks[j]? = some k → is[j]? = some n → Q k n) → ∀ (j:Nat) k n,(k0 :: ks)[j]? = some k → (a :: is)[j]? = some n → Q k n:=fun h0 h1 j k n e1 e2=>by
  cases j with
  | zero=>cases e1; cases e2; exact h0
  | succ j=>exact h1 j k n e1 e2
 have gN:∀ {Q:List Nat → Int → Prop} (j:Nat) k n,([]:List (List Nat))[j]? = some k → ([]:List Int)[j]? = some n → Q k n:=fun j k n z=>by simp at z
 cases r with
 | put a v=>exact mk rfl rfl rfl rfl (m2 (s8 h) hs) (gS (kb h) (gS ⟨(fun z=>by cases z),(fun z=>by cases z)⟩ gN))
 | add a b c=>exact mk rfl rfl rfl rfl (m3 (s8 h.1) (s8 h.2.1) (s8 h.2.2)) (gS (kb h.1) (gS (kb h.2.1) (gS (kb h.2.2) gN)))
 | sub a b c=>exact mk rfl rfl rfl rfl (m3 (s8 h.1) (s8 h.2.1) (s8 h.2.2)) (gS (kb h.1) (gS (kb h.2.1) (gS (kb h.2.2) gN)))
 | more a b c=>exact mk rfl rfl rfl rfl (m3 (s8 h.1) (s8 h.2.1) (s8 h.2.2)) (gS (kb h.1) (gS (kb h.2.1) (gS (kb h.2.2) gN)))
 | get a b=>exact mk rfl rfl rfl rfl (m2 (s8 h.1) (s8 h.2)) (gS (kb h.1) (gS (kb h.2) gN))
 | set a b=>exact mk rfl rfl rfl rfl (m2 (s8 h.1) (s8 h.2)) (gS (kb h.1) (gS (kb h.2) gN))
 | jump k=>exact mk rfl rfl rfl rfl (m1 (sm h)) (gS (kr h) gN)
 | when a k=>exact mk rfl rfl rfl rfl (m2 (s8 h.1) (sm h.2)) (gS (kb h.1) (gS (kr h.2) gN))
 | tell a=>exact mk rfl rfl rfl rfl (m1 (s8 h)) (gS (kb h) gN)
 | halt=>exact mk rfl rfl rfl rfl (fun n z=>nomatch z) gN
theorem Zfb {roll:Zdz} (R:Zei roll) (hs:∀ r ∈ roll,Za4 r) (hl:roll.length ≤ 1000):Zmn (roll.map ZbC):=by
 have hm:roll.length ≤ 5000:=Nat.le_trans hl (by decide)
 obtain ⟨q,x,e,hx⟩:=R.last
 refine ⟨⟨fun r hr=>?_,by rw [List.length_map]; exact hl,fun z=>?_⟩,⟨q.map ZbC,ZbC x,by rw [e,List.map_append]; rfl,?_⟩,fun r hr ks hk j n h1 h2=>?_⟩
 ·obtain ⟨x,hx,rfl⟩:=List.mem_map.mp hr
  exact ⟨_,(Zd9 hm x (R.rows x hx) (hs x hx)).1⟩
 ·rw [e] at z; exact absurd (List.map_eq_nil_iff.mp z) (by simp)
 ·rcases hx with rfl | ⟨k,rfl⟩
  ·exact .inl rfl
  ·exact .inr rfl
 ·obtain ⟨x,hx,rfl⟩:=List.mem_map.mp hr
  obtain ⟨f1,f2⟩:=Zd9 hm x (R.rows x hx) (hs x hx)
  rw [show tabAt (ZbC x).1 Zav = some (ZnD x) from f1.tab] at hk
  cases hk
  rw [List.length_map]
  exact f2 j n h1 h2
noncomputable def Zb8 (roll:Zdz):List Nat:=glue [10] ((roll.map ZbC).map grT)
theorem ZiS {roll:Zdz} (R:Zei roll) (hs:∀ r ∈ roll,Za4 r) (hl:roll.length ≤ 1000) (M:Store):ZaC [.str (Zb8 roll)] M = .ok (Zx roll) M:=by
 have q:=ZgT (Zfb R hs hl) M
 rw [Zx,ZlL]; exact q
noncomputable def Zmq (c k:Int):Int:=(c % 1000003 + 7) * (48271 + 6007 * k * k) % 2147483629
theorem ZjM (c k:Int) (h0:0 ≤ k) (h1:k ≤ 100) (M:Store):Zbr [.int c,.int k] M = .ok (.int (Zmq c k)) M:=by
 refine Rt.pure (G:=[]) (env:=[some (.int c),some (.int k)]) ?_ rfl
 rw [List.append_nil]
 unfold Zc3
 have q0:=Int.emod_nonneg c (b:=1000003) (by decide)
 have q1:=Int.emod_lt_of_pos c (b:=1000003) (by decide)
 refine Za9 (Zk (Zk (Zk (Zk rfl rfl (Za5 (by decide))) rfl rfl) (Zk rfl (Zk (Zk rfl rfl (Zde (Zim (by omega)))) rfl (Zde (mul_r (by omega)))) rfl) (Zde (Zim (by omega)))) rfl (Za5 (by decide)))
noncomputable def ZeT (c:Int):Nat → Int
 | 0=>0
 | j + 1=>ZeT c j * 10 ^ 10 + Zmq (c / 7) j * 5 + c / 7 % (j + 2)
noncomputable def Zkb (c:Int):Int:=
 if c / 14 % 4 = 1 then c / 56 % 21 - 10 else if c / 7 % 2 = 1 then -(ZeT c (c % 7).toNat % 10 ^ 60) else ZeT c (c % 7).toNat % 10 ^ 60
theorem ZhI (c:Int):(Zkb c).natAbs < 10 ^ 60:=by
 have q0:=Int.emod_nonneg (ZeT c (c % 7).toNat) (b:=10 ^ 60) (by decide)
 have q1:=Int.emod_lt_of_pos (ZeT c (c % 7).toNat) (b:=10 ^ 60) (by decide)
 unfold Zkb
 generalize ZeT c (c % 7).toNat % 10 ^ 60 = x at q0 q1
 have h:x.natAbs < 10 ^ 60:=by omega
 split
 ·have:=Int.emod_nonneg (c / 56) (b:=21) (by decide)
  have:=Int.emod_lt_of_pos (c / 56) (b:=21) (by decide)
  have e:(c / 56 % 21 - 10).natAbs < 100:=by omega
  exact Nat.lt_trans e (by decide +kernel)
 ·split
  ·rw [Int.natAbs_neg]; exact h
  ·exact h
theorem Zkm (c x:Int) (j:Nat) (hj:j < 7) (y:Option D) (M:Store):(Zac 1 (e2 Zn (e2 Zn (e2 ZaO (Zb 1) (e2 ZfL (eC (.int 10)) (eC (.int 10)))) (e2 ZaO (Zz Zbr (Za (e2 Zag (Zb 0) (eC (.int 7))) (Za (Zb 2) (Ze)))) (eC (.int 5)))) (e2 Zaa (e2 Zag (Zb 0) (eC (.int 7))) (e2 Zn (Zb 2) (eC (.int 2))))))
  [some (.int c),some (.int x),some (.int (j:Int))] M = .nx [some (.int c),some (.int (x * 10 ^ 10 + Zmq (c / 7) j * 5 + c / 7 % (j + 2))),some (.int (j:Int))] M:=by
 have f7:(e2 Zag (Zb 0) (eC (.int 7))) [some (.int c),some (.int x),some (.int (j:Int))] M = .ok (.int (c / 7)) M:=Zk rfl rfl (Zcn (by decide))
 exact Zaf (Zk (Zk (Zk rfl (b:=.int (10 ^ 10)) rfl (Zde (mul_r (by decide)))) (Zk (Zdo f7 rfl (ZjM (c / 7) j (by omega) (by omega) M)) rfl (Zde (mul_r (by decide)))) rfl) (Zk f7 (Zk rfl rfl rfl) (Za5 (by omega))) rfl)
theorem ZiO (c:Int) (M:Store):Zb5 [.int c] M = .ok (.int (Zkb c)) M:=by
 refine Rt.pure (G:=[]) (env:=[some (.int c),none,none]) ?_ rfl
 rw [List.append_nil]
 unfold ZcG
 have q0:=Int.emod_nonneg c (b:=7) (by decide)
 have q1:=Int.emod_lt_of_pos c (b:=7) (by decide)
 rw [Zr (Zaf (d:=.int 0) (M':=M) rfl)]
 obtain ⟨e',M',hl,x,rfl,rfl⟩:=Zda (it:=⟨Zdx 0 (c % 7).toNat,none⟩) (g:=ZbV 2)
  (body:=(Zac 1 (e2 Zn (e2 Zn (e2 ZaO (Zb 1) (e2 ZfL (eC (.int 10)) (eC (.int 10)))) (e2 ZaO (Zz Zbr (Za (e2 Zag (Zb 0) (eC (.int 7))) (Za (Zb 2) (Ze)))) (eC (.int 5)))) (e2 Zaa (e2 Zag (Zb 0) (eC (.int 7))) (e2 Zn (Zb 2) (eC (.int 2)))))))
  (P:=fun j env M'=>∃ x,env = [some (.int c),some (.int (ZeT c j)),x] ∧ M = M') (Zdx 0 (c % 7).toNat) 0 [some (.int c),some (.int 0),none] M ⟨none,rfl,rfl⟩ (fun _ _ _ _=>rfl)
  (fun k d hd env M' hp=>by
   obtain ⟨x,rfl,rfl⟩:=hp
   obtain ⟨rfl,hk⟩:=Zg2 hd
   rw [Nat.zero_add]
   exact ⟨_,_,M,rfl,Zkm c (ZeT c k) k (by omega) x M,_,rfl,rfl⟩)
 rw [Zh9,Nat.zero_add] at hl
 have hr:(Zco (e2 Zaa (Zb 0) (eC (.int 7)))) [some (.int c),some (.int 0),none] M = .ok ⟨Zdx 0 (c % 7).toNat,none⟩ M:=by
  have e:(e2 Zaa (Zb 0) (eC (.int 7))) [some (.int c),some (.int 0),none] M = .ok (.int (c % 7)) M:=Zk rfl rfl (Za5 (by decide))
  have:c % 7 ≤ 1000000 ∧ -1000000 ≤ c % 7:=by omega
  simp only [Zco,e,R3.bind]
  rw [if_pos (by omega)]
 rw [Zr (show Zdh _ _ _ _ _ = _ from by rw [Zdr hr]; exact hl)]
 rw [Zr (Zaf (d:=.int (ZeT c (c % 7).toNat % 10 ^ 60)) (M':=M) (Zk rfl (b:=.int (10 ^ 60)) rfl (Za5 (by decide))))]
 have f7:∀ v,(e2 Zaa (e2 Zag (Zb 0) (eC (.int 7))) (eC (.int 2))) [some (.int c),some (.int v),x] M = .ok (.int (c / 7 % 2)) M:=fun v=>Zk (Zk rfl rfl (Zcn (by decide))) rfl (Za5 (by decide))
 have f14:∀ v,(e2 Zaa (e2 Zag (Zb 0) (eC (.int 14))) (eC (.int 4))) [some (.int c),some (.int v),x] M = .ok (.int (c / 14 % 4)) M:=fun v=>Zk (Zk rfl rfl (Zcn (by decide))) rfl (Za5 (by decide))
 have tail:∀ v,(Zv (sIf (e2 Zbv (e2 Zaa (e2 Zag (Zb 0) (eC (.int 14))) (eC (.int 4))) (eC (.int 1))) (Zac 1 (e2 Zj8 (e2 Zaa (e2 Zag (Zb 0) (eC (.int 56))) (eC (.int 21))) (eC (.int 10)))) (Zab)) (Zan (Zb 1))) [some (.int c),some (.int v),x] M = .rt (.int (if c / 14 % 4 = 1 then c / 56 % 21 - 10 else v)) M:=fun v=>by
  by_cases h:c / 14 % 4 = 1
  ·rw [if_pos h,Zr ((Ze8 (Zk (f14 v) rfl (Zk3 h))).trans (Zaf (d:=.int (c / 56 % 21 - 10)) (M':=M) (Zk (Zk (Zk rfl rfl (Zcn (by decide))) rfl (Za5 (by decide))) rfl rfl)))]; rfl
  ·rw [if_neg h,Zr (ZaM (Zk (f14 v) rfl (Zls h)))]; rfl
 unfold Zkb
 by_cases h:c / 7 % 2 = 1
 ·refine (Zr ((Ze8 (Zk (f7 (ZeT c (c % 7).toNat % 10 ^ 60)) rfl (Zk3 h))).trans (Zaf (d:=.int (-(ZeT c (c % 7).toNat % 10 ^ 60))) (M':=M) (ZeE (op:=ZaR) (f:=Zb 1) rfl rfl)))).trans ((tail _).trans ?_)
  rw [if_pos h]
 ·rw [Zr (ZaM (Zk (f7 _) rfl (Zls h)))]
  refine (tail _).trans ?_
  rw [if_neg h]
theorem Zmw (c:Int) (many:Nat) (hm:0 < many):∃ r:Row,(r.ok many ∧ Za4 r) ∧ ∀ M,Zae [.int c,.int many] M = .ok (Zd r) M:=by
 obtain ⟨a,ha,la⟩:=ZbR (c / 11) 8 (by decide)
 obtain ⟨b,hb,lb⟩:=ZbR (c / 11 / 8) 8 (by decide)
 obtain ⟨d,hd,ld⟩:=ZbR (c / 11 / 64) 8 (by decide)
 obtain ⟨k,hk,lk⟩:=ZbR (c / 11) many hm
 obtain ⟨k',hk',lk'⟩:=ZbR (c / 11 / 8) many hm
 have hv:=ZiO (c / 11 / 8)
 have hs:=ZhI (c / 11 / 8)
 generalize Zkb (c / 11 / 8) = v at hv hs
 have h:c % 11 = 0 ∨ c % 11 = 1 ∨ c % 11 = 2 ∨ c % 11 = 3 ∨ c % 11 = 4 ∨ c % 11 = 5 ∨ c % 11 = 6 ∨ c % 11 = 7 ∨ c % 11 = 8 ∨ c % 11 = 9 ∨ c % 11 = 10:=by omega
 have fin:∀ r:Row,r.ok many ∧ Za4 r → (∀ M,Zae [.int c,.int many] M = .ok (Zd r) M) → ∃ r:Row,(r.ok many ∧ Za4 r) ∧ ∀ M,Zae [.int c,.int many] M = .ok (Zd r) M:=fun r h1 h2=>⟨r,h1,h2⟩
 have ha':c / 11 % 8 = (a:Int):=ha
 have hb':c / 11 / 8 % 8 = (b:Int):=hb
 have hd':c / 11 / 64 % 8 = (d:Int):=hd
 rcases h with h | h | h | h | h | h | h | h | h | h | h
 ·exact fin (.put a v) ⟨la,hs⟩ fun M=>by simp [Zae,Zaw,Zv,Zac,Zan,sIf,Zab,ZaD,mkF,Zca,below,belowL,Zbs,h,hm,ha',hb',hd',hk,hk',hv,Zd,cutD,sIx,Zdy,dictOf,putD]
 ·exact fin (.put a v) ⟨la,hs⟩ fun M=>by simp [Zae,Zaw,Zv,Zac,Zan,sIf,Zab,ZaD,mkF,Zca,below,belowL,Zbs,h,hm,ha',hb',hd',hk,hk',hv,Zd,cutD,sIx,Zdy,dictOf,putD]
 ·exact fin (.add a b d) ⟨⟨la,lb,ld⟩,trivial⟩ fun M=>by simp [Zae,Zaw,Zv,Zac,Zan,sIf,Zab,ZaD,mkF,Zca,below,belowL,Zbs,h,hm,ha',hb',hd',hk,hk',hv,Zd,cutD,sIx,Zdy,dictOf,putD]
 ·exact fin (.sub a b d) ⟨⟨la,lb,ld⟩,trivial⟩ fun M=>by simp [Zae,Zaw,Zv,Zac,Zan,sIf,Zab,ZaD,mkF,Zca,below,belowL,Zbs,h,hm,ha',hb',hd',hk,hk',hv,Zd,cutD,sIx,Zdy,dictOf,putD]
 ·exact fin (.more a b d) ⟨⟨la,lb,ld⟩,trivial⟩ fun M=>by simp [Zae,Zaw,Zv,Zac,Zan,sIf,Zab,ZaD,mkF,Zca,below,belowL,Zbs,h,hm,ha',hb',hd',hk,hk',hv,Zd,cutD,sIx,Zdy,dictOf,putD]
 ·exact fin (.get a b) ⟨⟨la,lb⟩,trivial⟩ fun M=>by simp [Zae,Zaw,Zv,Zac,Zan,sIf,Zab,ZaD,mkF,Zca,below,belowL,Zbs,h,hm,ha',hb',hd',hk,hk',hv,Zd,cutD,sIx,Zdy,dictOf,putD]
 ·exact fin (.set a b) ⟨⟨la,lb⟩,trivial⟩ fun M=>by simp [Zae,Zaw,Zv,Zac,Zan,sIf,Zab,ZaD,mkF,Zca,below,belowL,Zbs,h,hm,ha',hb',hd',hk,hk',hv,Zd,cutD,sIx,Zdy,dictOf,putD]
 ·exact fin (.jump k) ⟨lk,trivial⟩ fun M=>by simp [Zae,Zaw,Zv,Zac,Zan,sIf,Zab,ZaD,mkF,Zca,below,belowL,Zbs,h,hm,ha',hb',hd',hk,hk',hv,Zd,cutD,sIx,Zdy,dictOf,putD]
 ·exact fin (.when a k') ⟨⟨la,lk'⟩,trivial⟩ fun M=>by simp [Zae,Zaw,Zv,Zac,Zan,sIf,Zab,ZaD,mkF,Zca,below,belowL,Zbs,h,hm,ha',hb',hd',hk,hk',hv,Zd,cutD,sIx,Zdy,dictOf,putD]
 ·exact fin (.tell a) ⟨la,trivial⟩ fun M=>by simp [Zae,Zaw,Zv,Zac,Zan,sIf,Zab,ZaD,mkF,Zca,below,belowL,Zbs,h,hm,ha',hb',hd',hk,hk',hv,Zd,cutD,sIx,Zdy,dictOf,putD]
 ·exact fin (.halt) ⟨trivial,trivial⟩ fun M=>by simp [Zae,Zaw,Zv,Zac,Zan,sIf,Zab,ZaD,mkF,Zca,below,belowL,Zbs,h,hm,ha',hb',hd',hk,hk',hv,Zd,cutD,sIx,Zdy,dictOf,putD]
theorem sum_ints:∀ cs:List Int,ZbZ (cs.map D.int) = some cs
 | []=>rfl
 | c :: cs=>by show (ZbZ (cs.map D.int)).map _ = _; rw [sum_ints cs]; rfl
theorem Zid {n:Nat} {M:Store} {cs:List Int} (h:M[n]? = some (.lst (cs.map D.int))):Zdp [.ref n] M = .ok (.int cs.sum) M:=by simp only [Zdp,h,sum_ints]
structure Draws (roll:Zdz) (m:Nat):Prop where
 ok:Zei roll
 small:∀ r ∈ roll,Za4 r
 len:roll.length ≤ m
theorem ZiM (n:Nat) (r:Row):below n (Zd r) = true:=by cases r <;> rfl
theorem ZdN (n:Nat) (roll:Zdz):below n (Zx roll) = true:=by
 unfold Zx below
 induction roll with
 | nil=>rfl
 | cons r rs ih=>simp only [List.map_cons,belowL,ZiM,ih,Bool.and_self]
theorem Zh5 {n m:Nat} {M:Store} {x y:List D} (h1:M[n]? = some (.lst x)) (h2:M[m]? = some (.lst y)) (hz:x.length + y.length ≤ SZ):Zn (.ref n) (.ref m) M = .ok (.ref M.length) (M ++ [.lst (x ++ y)]):=by
 simp only [Zn,h1,h2,if_pos hz,alloc]
theorem ZlB {cs:List Int} (hc:cs.length ≤ 60) {n:Nat} {M:Store} (hM:M[n]? = some (.lst (cs.map D.int))):∃ roll,Draws roll 61 ∧ Zcc [.ref n] M = .ok (Zx roll) M:=by
 obtain ⟨f,hf⟩:=Classical.axiomOfChoice (fun c:Int=>Zmw c (cs.length + 1) (Nat.succ_pos _))
 have e1:(e2 Zn (Zah Zbi (Za (Zb 0) (Ze))) (eC (.int 1))) [some (.ref n),none,none] M = .ok (.int ((cs.length + 1:Nat):Int)) M:=by
  refine Zk (ZbY rfl (Zgj hM)) rfl ?_
  rw [List.length_map]; rfl
 have lc:=Zen (enc:=D.int) (h:=fun c=>Zd (f c)) (own:=1) (i:=3) (it:=ZbU (Zb 0)) (elt:=(Zz Zae (Za (Zb 3) (Za (Zb 1) (Ze))))) (lock:=some n) (as:=cs) (M:=M) (M1:=M)
  (env:=[some (.ref n),some (.int ((cs.length + 1:Nat):Int)),none]) (by simp only [ZbU,Zb,List.getElem?_cons_zero,R3.bind,hM]) (fun k e=>by cases e; exact hM) (fun c _ M'=>Zdo rfl rfl ((hf c).2 M')) (Nat.le_trans hc (by decide))
 have g2:(M ++ [.lst (cs.map fun c=>Zd (f c))])[n]? = some (.lst (cs.map D.int)):=ZdW hM _
 have s0:(Zah Zdp (Za (Zb 0) (Ze))) [some (.ref n),some (.int ((cs.length + 1:Nat):Int)),some (.ref M.length)] (M ++ [.lst (cs.map fun c=>Zd (f c))]) = .ok (.int cs.sum) (M ++ [.lst (cs.map fun c=>Zd (f c))]):=ZbY rfl (Zid g2)
 have fin:∀ (x:Row) (g:E3),(x = .halt ∨ ∃ k,x = .jump k) → x.ok (cs.length + 1) → (∀ M',M' = M ++ [MO.lst (cs.map fun c=>Zd (f c))] → g [some (.ref n),some (.int ((cs.length + 1:Nat):Int)),some (.ref M.length)] M' = .ok (Zd x) M') →
   ∃ roll,Draws roll 61 ∧ (Zah ZaF (Za (e2 Zn (Zb 2) (Zbu (Za g (Ze)))) (Ze))) [some (.ref n),some (.int ((cs.length + 1:Nat):Int)),some (.ref M.length)] (M ++ [.lst (cs.map fun c=>Zd (f c))]) = .ok (Zx roll) (M ++ [.lst (cs.map fun c=>Zd (f c)),.lst [Zd x],.lst ((cs.map fun c=>Zd (f c)) ++ [Zd x])]):=fun x g hx hxo hg=>by
  refine ⟨cs.map f ++ [x],⟨⟨fun r hr=>?_,⟨cs.map f,x,rfl,hx⟩⟩,fun r hr=>?_,?_⟩,?_⟩
  ·rw [List.length_append,List.length_map,List.length_singleton]
   rcases List.mem_append.mp hr with hr | hr
   ·obtain ⟨c,_,rfl⟩:=List.mem_map.mp hr; exact (hf c).1.1
   ·rw [List.mem_singleton.mp hr]; exact hxo
  ·rcases List.mem_append.mp hr with hr | hr
   ·obtain ⟨c,_,rfl⟩:=List.mem_map.mp hr; exact (hf c).1.2
   ·rw [List.mem_singleton.mp hr]
    rcases hx with rfl | ⟨k,rfl⟩
    ·trivial
    ·trivial
  ·rw [List.length_append,List.length_map,List.length_singleton]; omega
  ·have l1:=Zes (Zal (hg _ rfl) (g:=Ze) rfl) rfl
   have a1:(M ++ [MO.lst (cs.map fun c=>Zd (f c))] ++ [MO.lst [Zd x]])[M.length]? = some (.lst (cs.map fun c=>Zd (f c))):=by rw [List.append_assoc]; exact Zar ..
   have a2:(M ++ [MO.lst (cs.map fun c=>Zd (f c))] ++ [MO.lst [Zd x]])[(M ++ [MO.lst (cs.map fun c=>Zd (f c))]).length]? = some (.lst [Zd x]):=Zar ..
   have l2:=Zh5 a1 a2 (by rw [List.length_map,List.length_singleton]; simp only [SZ]; omega)
   have l3:=ZbY (b:=ZaF) (Zk (f:=Zb 2) rfl l1 l2) (Zea (Zar ..))
   rw [l3,Zx,List.map_append,List.map_map]
   simp only [List.append_assoc,List.cons_append,List.nil_append]
   rfl
 have go:∀ (x:Row) (g:E3),(x = .halt ∨ ∃ k,x = .jump k) → x.ok (cs.length + 1) → (∀ M',M' = M ++ [MO.lst (cs.map fun c=>Zd (f c))] → g [some (.ref n),some (.int ((cs.length + 1:Nat):Int)),some (.ref M.length)] M' = .ok (Zd x) M') →
   (∀ roll,(Zah ZaF (Za (e2 Zn (Zb 2) (Zbu (Za g (Ze)))) (Ze))) [some (.ref n),some (.int ((cs.length + 1:Nat):Int)),some (.ref M.length)] (M ++ [.lst (cs.map fun c=>Zd (f c))]) = .ok (Zx roll) (M ++ [.lst (cs.map fun c=>Zd (f c)),.lst [Zd x],.lst ((cs.map fun c=>Zd (f c)) ++ [Zd x])]) →
    Zb7 [some (.ref n),none,none] M = .rt (Zx roll) (M ++ [.lst (cs.map fun c=>Zd (f c)),.lst [Zd x],.lst ((cs.map fun c=>Zd (f c)) ++ [Zd x])])) → ∃ roll,Draws roll 61 ∧ Zcc [.ref n] M = .ok (Zx roll) M:=fun x g h1 h2 h3 h4=>by
  obtain ⟨roll,R,hr⟩:=fin x g h1 h2 h3
  exact ⟨roll,R,Rt.pure (env:=[some (.ref n),none,none]) (h4 roll hr) (ZdN _ _)⟩
 by_cases h:cs.sum % 3 = 1
 ·obtain ⟨k,hk,lk⟩:=ZbR (cs.sum / 3) (cs.length + 1) (Nat.succ_pos _)
  refine go (.jump k) (Zap (Za (eC (.str [106,117,109,112])) (Za (e2 Zaa (e2 Zag (Zah Zdp (Za (Zb 0) (Ze))) (eC (.int 3))) (Zb 1)) (Ze)))) (.inr ⟨k,rfl⟩) lk (fun M' e=>?_) fun roll hr=>?_
  ·subst e
   refine Zbn (Zal rfl (Zal (Zk (Zk s0 rfl (Zcn (by decide))) rfl (Za5 (by omega))) rfl)) rfl |>.trans ?_
   rw [hk]; rfl
  ·unfold Zb7
   refine (Zr (Zaf e1)).trans ((Zr (Zaf lc)).trans (Zgg ((Ze8 (Zk (Zk s0 rfl (Za5 (by decide))) rfl (Zk3 h))).trans (Za9 hr))))
 ·refine go .halt (Zap (Za (eC (.str [104,97,108,116])) (Ze))) (.inl rfl) trivial (fun M' e=>Zbn rfl rfl) fun roll hr=>?_
  unfold Zb7
  refine (Zr (Zaf e1)).trans ((Zr (Zaf lc)).trans ((Zr (ZaM (Zk (Zk s0 rfl (Za5 (by decide))) rfl (Zls h)))).trans (Za9 hr)))
theorem ZiR {more:Nat} (hmore:more < 341) (cell:Int) (last:D) (k:Nat) (hk:k < more) {M:Store} {xs:List D} (hx:xs.length ≤ 1000) {G:Store} {y:Option D}:∃ r:Row,(r.ok (more + 2) ∧ Za4 r) ∧ ∃ y' G',(Zv (Zac 5 (Zbu (Za (e2 Zaa (e2 Zn (e2 Zag (Zb 1) (e2 Zn (Zb 4) (eC (.int 1)))) (Zb 4)) (eC (.int 8))) (Za (e2 Zaa (e2 Zn (Zb 1) (e2 ZaO (e2 ZaO (eC (.int 3)) (Zb 4)) (Zb 4))) (eC (.int 8))) (Ze))))) (ZaD (ZaV tyL Zaz (Zb 3) (Za (e2 Zq (Zbu (Za (Zap (Za (eC (.str [116,101,108,108])) (Za (e2 Zq (Zb 5) (eC (.int 0))) (Ze)))) (Za (Zap (Za (eC (.str [103,101,116])) (Za (e2 Zq (Zb 5) (eC (.int 0))) (Za (e2 Zq (Zb 5) (eC (.int 1))) (Ze))))) (Za (Zap (Za (eC (.str [106,117,109,112])) (Za (e2 Zaa (e2 Zn (Zb 1) (e2 ZaO (eC (.int 7)) (Zb 4))) (e2 Zn (Zb 2) (eC (.int 2)))) (Ze)))) (Ze))))) (e2 Zaa (Zb 4) (eC (.int 3)))) (Ze)))))
  [some last,some (.int cell),some (.int (more:Int)),some (.ref M.length),some (.int (k:Int)),y] (M ++ .lst xs :: G) = .nx [some last,some (.int cell),some (.int (more:Int)),some (.ref M.length),some (.int (k:Int)),y'] (M ++ .lst (xs ++ [Zd r]) :: G'):=by
 obtain ⟨a,ha,la⟩:=ZbR (cell / ((k:Int) + 1) + k) 8 (by decide)
 obtain ⟨b,hb,lb⟩:=ZbR (cell + 3 * (k:Int) * k) 8 (by decide)
 obtain ⟨q,hq,lq⟩:=ZbR (cell + 7 * (k:Int)) (more + 2) (Nat.succ_pos _)
 have ha':(cell / ((k:Int) + 1) + k) % 8 = (a:Int):=ha
 have hb':(cell + 3 * (k:Int) * k) % 8 = (b:Int):=hb
 have hq':(cell + 7 * (k:Int)) % ((more:Int) + 2) = (q:Int):=hq
 obtain ⟨S,hS⟩:∃ S,M ++ .lst xs :: G = S:=⟨_,rfl⟩
 have gS:S[M.length]? = some (.lst xs):=by rw [← hS]; exact Zar ..
 rw [hS]
 have l1:(Zbu (Za (e2 Zaa (e2 Zn (e2 Zag (Zb 1) (e2 Zn (Zb 4) (eC (.int 1)))) (Zb 4)) (eC (.int 8))) (Za (e2 Zaa (e2 Zn (Zb 1) (e2 ZaO (e2 ZaO (eC (.int 3)) (Zb 4)) (Zb 4))) (eC (.int 8))) (Ze)))) [some last,some (.int cell),some (.int (more:Int)),some (.ref M.length),some (.int (k:Int)),y] S = .ok (.ref S.length) (S ++ [.lst [.int (a:Int),.int (b:Int)]]):=by
  refine Zes (Zal (Zk (Zk (Zk rfl (Zk rfl rfl rfl) (Zcn (by omega))) rfl rfl) rfl ((Za5 (by decide)).trans (by rw [ha']))) (Zal (Zk (Zk rfl (Zk (Zk rfl rfl (Zde (Zim (by omega)))) rfl (Zde (mul_r (by omega)))) rfl) rfl ((Za5 (by decide)).trans (by rw [hb']))) rfl)) rfl
 have gA:(S ++ [.lst [.int (a:Int),.int (b:Int)]])[S.length]? = some (.lst [.int (a:Int),.int (b:Int)]):=Zar ..
 have l2:(Zbu (Za (Zap (Za (eC (.str [116,101,108,108])) (Za (e2 Zq (Zb 5) (eC (.int 0))) (Ze)))) (Za (Zap (Za (eC (.str [103,101,116])) (Za (e2 Zq (Zb 5) (eC (.int 0))) (Za (e2 Zq (Zb 5) (eC (.int 1))) (Ze))))) (Za (Zap (Za (eC (.str [106,117,109,112])) (Za (e2 Zaa (e2 Zn (Zb 1) (e2 ZaO (eC (.int 7)) (Zb 4))) (e2 Zn (Zb 2) (eC (.int 2)))) (Ze)))) (Ze))))) [some last,some (.int cell),some (.int (more:Int)),some (.ref M.length),some (.int (k:Int)),some (.ref S.length)] (S ++ [.lst [.int (a:Int),.int (b:Int)]]) = .ok (.ref (S ++ [MO.lst [.int (a:Int),.int (b:Int)]]).length) (S ++ [.lst [.int (a:Int),.int (b:Int)]] ++ [.lst [Zd (.tell a),Zd (.get a b),Zd (.jump q)]]):=by
  have i0:(e2 Zq (Zb 5) (eC (.int 0))) [some last,some (.int cell),some (.int (more:Int)),some (.ref M.length),some (.int (k:Int)),some (.ref S.length)] (S ++ [.lst [.int (a:Int),.int (b:Int)]]) = .ok (.int (a:Int)) (S ++ [.lst [.int (a:Int),.int (b:Int)]]):=Zk rfl rfl (ZdX gA (ZaJ _ 0))
  have i1:(e2 Zq (Zb 5) (eC (.int 1))) [some last,some (.int cell),some (.int (more:Int)),some (.ref M.length),some (.int (k:Int)),some (.ref S.length)] (S ++ [.lst [.int (a:Int),.int (b:Int)]]) = .ok (.int (b:Int)) (S ++ [.lst [.int (a:Int),.int (b:Int)]]):=Zk rfl rfl (ZdX gA (ZaJ _ 1))
  refine Zes (Zal (Zbn (Zal rfl (Zal i0 rfl)) rfl) (Zal (Zbn (Zal rfl (Zal i0 (Zal i1 rfl))) rfl) (Zal (Zbn (Zal rfl (Zal (Zk (Zk rfl (Zk rfl rfl (Zde (Zim (by omega)))) rfl) (Zk rfl rfl rfl) ((Za5 (by omega)).trans (by rw [hq']))) rfl)) rfl) rfl))) rfl
 have gB:(S ++ [.lst [.int (a:Int),.int (b:Int)]] ++ [.lst [Zd (.tell a),Zd (.get a b),Zd (.jump q)]])[(S ++ [MO.lst [.int (a:Int),.int (b:Int)]]).length]? = some (.lst [Zd (.tell a),Zd (.get a b),Zd (.jump q)]):=Zar ..
 obtain ⟨j,hj,lj⟩:=ZbR (k:Int) 3 (by decide)
 have hj':(k:Int) % 3 = (j:Int):=hj
 have pick:∀ r:Row,Za0 [Zd (.tell a),Zd (.get a b),Zd (.jump q)] (j:Int) = some (Zd r) → r.ok (more + 2) ∧ Za4 r → ∃ r:Row,(r.ok (more + 2) ∧ Za4 r) ∧ ∃ y' G',(Zv (Zac 5 (Zbu (Za (e2 Zaa (e2 Zn (e2 Zag (Zb 1) (e2 Zn (Zb 4) (eC (.int 1)))) (Zb 4)) (eC (.int 8))) (Za (e2 Zaa (e2 Zn (Zb 1) (e2 ZaO (e2 ZaO (eC (.int 3)) (Zb 4)) (Zb 4))) (eC (.int 8))) (Ze))))) (ZaD (ZaV tyL Zaz (Zb 3) (Za (e2 Zq (Zbu (Za (Zap (Za (eC (.str [116,101,108,108])) (Za (e2 Zq (Zb 5) (eC (.int 0))) (Ze)))) (Za (Zap (Za (eC (.str [103,101,116])) (Za (e2 Zq (Zb 5) (eC (.int 0))) (Za (e2 Zq (Zb 5) (eC (.int 1))) (Ze))))) (Za (Zap (Za (eC (.str [106,117,109,112])) (Za (e2 Zaa (e2 Zn (Zb 1) (e2 ZaO (eC (.int 7)) (Zb 4))) (e2 Zn (Zb 2) (eC (.int 2)))) (Ze)))) (Ze))))) (e2 Zaa (Zb 4) (eC (.int 3)))) (Ze)))))
  [some last,some (.int cell),some (.int (more:Int)),some (.ref M.length),some (.int (k:Int)),y] S = .nx [some last,some (.int cell),some (.int (more:Int)),some (.ref M.length),some (.int (k:Int)),y'] (M ++ .lst (xs ++ [Zd r]) :: G'):=fun r hr hok=>by
  refine ⟨r,hok,some (.ref S.length),G ++ [.lst [.int (a:Int),.int (b:Int)]] ++ [.lst [Zd (.tell a),Zd (.get a b),Zd (.jump q)]],?_⟩
  refine (Zr (Zaf l1)).trans ?_
  refine (Zkl rfl (ZdW gS _) (Zk l2 (Zk rfl rfl ((Za5 (by decide)).trans (by rw [hj']))) (ZdX gB hr)) (ZdW (ZdW gS _) _) (Nat.lt_of_le_of_lt hx (by decide))).trans ?_
  have e:S ++ [MO.lst [.int (a:Int),.int (b:Int)]] ++ [.lst [Zd (.tell a),Zd (.get a b),Zd (.jump q)]] = M ++ (.lst xs :: (G ++ [.lst [.int (a:Int),.int (b:Int)]] ++ [.lst [Zd (.tell a),Zd (.get a b),Zd (.jump q)]])):=by rw [← hS]; simp only [List.append_assoc,List.cons_append]
  have e2:=ZeQ M (.lst xs :: (G ++ [.lst [.int (a:Int),.int (b:Int)]] ++ [.lst [Zd (.tell a),Zd (.get a b),Zd (.jump q)]])) 0 (.lst (xs ++ [Zd r]))
  rw [e]
  exact congrArg _ e2
 have lj3:j = 0 ∨ j = 1 ∨ j = 2:=by omega
 rcases lj3 with rfl | rfl | rfl
 ·exact pick (.tell a) (ZaJ _ 0) ⟨la,trivial⟩
 ·exact pick (.get a b) (ZaJ _ 1) ⟨⟨la,lb⟩,trivial⟩
 ·exact pick (.jump q) (ZaJ _ 2) ⟨lq,trivial⟩
theorem ZiV (x:Row) (hx:x = .halt ∨ ∃ k,x = .jump k) (cell:Int) (M:Store):∃ roll,Draws roll 342 ∧ Zb6 [Zd x,.int cell] M = .ok (Zx roll) M:=by
 obtain ⟨more,hm,lm⟩:=ZbR (cell / 8) 341 (by decide)
 have hm':cell / 8 % 341 = (more:Int):=hm
 have s2:(e2 Zaa (e2 Zag (Zb 1) (eC (.int 8))) (eC (.int 341))) [some (Zd x),some (.int cell),none,none,none,none] M = .ok (.int (more:Int)) M:=Zk (Zk rfl rfl (Zcn (by decide))) rfl ((Za5 (by decide)).trans (by rw [hm']))
 have s3:(Zbu (Za (Zap (Za (eC (.str [112,117,116])) (Za (eC (.int 3)) (Za (eC (.int 5)) (Ze))))) (Ze))) [some (Zd x),some (.int cell),some (.int (more:Int)),none,none,none] M = .ok (.ref M.length) (M ++ [.lst [Zd (.put 3 5)]]):=Zes (Zal (Zbn rfl rfl) rfl) rfl
 obtain ⟨e',M',hl,rs,y,z,G,hrs,hok,rfl,rfl⟩:=Zda (it:=⟨Zdx 0 more,none⟩) (g:=ZbV 4) (body:=(Zv (Zac 5 (Zbu (Za (e2 Zaa (e2 Zn (e2 Zag (Zb 1) (e2 Zn (Zb 4) (eC (.int 1)))) (Zb 4)) (eC (.int 8))) (Za (e2 Zaa (e2 Zn (Zb 1) (e2 ZaO (e2 ZaO (eC (.int 3)) (Zb 4)) (Zb 4))) (eC (.int 8))) (Ze))))) (ZaD (ZaV tyL Zaz (Zb 3) (Za (e2 Zq (Zbu (Za (Zap (Za (eC (.str [116,101,108,108])) (Za (e2 Zq (Zb 5) (eC (.int 0))) (Ze)))) (Za (Zap (Za (eC (.str [103,101,116])) (Za (e2 Zq (Zb 5) (eC (.int 0))) (Za (e2 Zq (Zb 5) (eC (.int 1))) (Ze))))) (Za (Zap (Za (eC (.str [106,117,109,112])) (Za (e2 Zaa (e2 Zn (Zb 1) (e2 ZaO (eC (.int 7)) (Zb 4))) (e2 Zn (Zb 2) (eC (.int 2)))) (Ze)))) (Ze))))) (e2 Zaa (Zb 4) (eC (.int 3)))) (Ze))))))
  (P:=fun j env M'=>∃ (rs:List Row) (y z:Option D) (G:Store),rs.length = j ∧ (∀ r ∈ rs,r.ok (more + 2) ∧ Za4 r) ∧ env = [some (Zd x),some (.int cell),some (.int (more:Int)),some (.ref M.length),y,z] ∧ M' = M ++ .lst (Zd (.put 3 5) :: rs.map Zd) :: G) (Zdx 0 more) 0
  [some (Zd x),some (.int cell),some (.int (more:Int)),some (.ref M.length),none,none] (M ++ [.lst [Zd (.put 3 5)]]) ⟨[],none,none,[],rfl,(fun r z=>nomatch z),rfl,rfl⟩ (fun _ _ _ _=>rfl)
  (fun k d hd env M' hp=>by
   obtain ⟨rs,y,z,G,h1,h2,rfl,rfl⟩:=hp
   obtain ⟨rfl,hk⟩:=Zg2 hd
   rw [Nat.zero_add] at h1 ⊢
   obtain ⟨r,hr,y',G',ht⟩:=ZiR lm cell (Zd x) k hk (M:=M) (xs:=Zd (.put 3 5) :: rs.map Zd) (by rw [List.length_cons,List.length_map]; omega) (G:=G) (y:=z)
   refine ⟨_,_,_,rfl,ht,rs ++ [r],_,y',G',by rw [List.length_append,h1]; rfl,fun q hq=>?_,rfl,by rw [List.map_append]; rfl⟩
   rcases List.mem_append.mp hq with hq | hq
   ·exact h2 q hq
   ·rw [List.mem_singleton.mp hq]; exact hr)
 rw [Zh9,Nat.zero_add] at hrs
 have hr:(Zco (Zb 2)) [some (Zd x),some (.int cell),some (.int (more:Int)),some (.ref M.length),none,none] (M ++ [.lst [Zd (.put 3 5)]]) = .ok ⟨Zdx 0 more,none⟩ (M ++ [.lst [Zd (.put 3 5)]]):=by
  simp only [Zco,Zb,List.getElem?_cons_succ,List.getElem?_cons_zero,R3.bind]
  rw [if_pos (by omega)]; rfl
 obtain ⟨S,hS⟩:∃ S,M ++ MO.lst (Zd (.put 3 5) :: rs.map Zd) :: G = S:=⟨_,rfl⟩
 have gS:S[M.length]? = some (.lst (Zd (.put 3 5) :: rs.map Zd)):=by rw [← hS]; exact Zar ..
 rw [hS] at hl
 have fin:∀ (w:Row) (g:E3),(w = .halt ∨ ∃ k,w = .jump k) → w.ok (more + 2) → g [some (Zd x),some (.int cell),some (.int (more:Int)),some (.ref M.length),y,z] S = .ok (Zd w) S → ∃ roll,Draws roll 342 ∧ (Zah ZaF (Za (e2 Zn (Zb 3) (Zbu (Za g (Ze)))) (Ze))) [some (Zd x),some (.int cell),some (.int (more:Int)),some (.ref M.length),y,z] S = .ok (Zx roll) (S ++ [.lst [Zd w]] ++ [.lst ((Zd (.put 3 5) :: rs.map Zd) ++ [Zd w])]):=fun w g hw hwo hg=>by
  refine ⟨.put 3 5 :: rs ++ [w],⟨⟨fun r hr=>?_,⟨.put 3 5 :: rs,w,rfl,hw⟩⟩,fun r hr=>?_,?_⟩,?_⟩
  ·have el:(.put 3 5 :: rs ++ [w]).length = more + 2:=by rw [List.length_append,List.length_cons,hrs]; rfl
   rw [el]
   rcases List.mem_append.mp hr with hr | hr
   ·rcases List.mem_cons.mp hr with e | hr
    ·rw [e]; show 3 < 8; decide
    ·exact (hok r hr).1
   ·rw [List.mem_singleton.mp hr]; exact hwo
  ·rcases List.mem_append.mp hr with hr | hr
   ·rcases List.mem_cons.mp hr with e | hr
    ·rw [e]; show (5:Int).natAbs < 10 ^ 60; decide +kernel
    ·exact (hok r hr).2
   ·rw [List.mem_singleton.mp hr]
    rcases hw with rfl | ⟨k,rfl⟩
    ·trivial
    ·trivial
  ·rw [List.length_append,List.length_cons,hrs,List.length_singleton]; omega
  ·have l1:=Zes (Zal hg (g:=Ze) rfl) rfl
   have l2:=Zh5 (ZdW gS [MO.lst [Zd w]]) (Zar S (MO.lst [Zd w]) []) (by rw [List.length_cons,List.length_map,hrs,List.length_singleton]; simp only [SZ]; omega)
   have l3:=ZbY (b:=ZaF) (Zk (f:=Zb 3) (env:=[some (Zd x),some (.int cell),some (.int (more:Int)),some (.ref M.length),y,z]) rfl l1 l2) (Zea (Zar ..))
   rw [l3,Zx,List.map_append]; rfl
 have hd:(e2 Zq (Zb 0) (eC (.int 0))) [some (Zd x),some (.int cell),some (.int (more:Int)),some (.ref M.length),y,z] S = .ok (.str (Zcg x)) S:=by
  rw [Ze6]; exact Zk rfl rfl (ZcE (ZaJ _ 0))
 have pre:∀ {o:O3},(Zv (sIf (e2 Zbv (e2 Zq (Zb 0) (eC (.int 0))) (eC (.str [106,117,109,112]))) (Zan (Zah ZaF (Za (e2 Zn (Zb 3) (Zbu (Za (Zap (Za (eC (.str [106,117,109,112])) (Za (Zb 2) (Ze)))) (Ze)))) (Ze)))) (Zab)) (Zan (Zah ZaF (Za (e2 Zn (Zb 3) (Zbu (Za (Zb 0) (Ze)))) (Ze))))) [some (Zd x),some (.int cell),some (.int (more:Int)),some (.ref M.length),y,z] S = o → Zb4 [some (Zd x),some (.int cell),none,none,none,none] M = o:=fun h=>by
  unfold Zb4
  exact (Zr (Zaf s2)).trans ((Zr (Zaf s3)).trans ((Zr (show Zdh _ _ _ _ _ = _ from by rw [Zdr hr]; exact hl)).trans h))
 have ge:∀ T,S ++ T = M ++ (MO.lst (Zd (.put 3 5) :: rs.map Zd) :: G ++ T):=fun T=>by rw [← hS,List.append_assoc]
 rcases hx with rfl | ⟨k,rfl⟩
 ·obtain ⟨roll,R,h⟩:=fin .halt (Zb 0) (.inl rfl) trivial rfl
  refine ⟨roll,R,Rt.pure (G:=MO.lst (Zd (.put 3 5) :: rs.map Zd) :: G ++ ([.lst [Zd .halt]] ++ [.lst ((Zd (.put 3 5) :: rs.map Zd) ++ [Zd .halt])])) (env:=[some (Zd .halt),some (.int cell),none,none,none,none]) ?_ (ZdN _ _)⟩
  rw [← ge,← List.append_assoc]
  exact pre ((Zr (ZaM (Zk hd rfl (by simp only [Zbv,eqD]; rw [decide_eq_false (by decide)])))).trans (Za9 h))
 ·obtain ⟨roll,R,h⟩:=fin (.jump more) (Zap (Za (eC (.str [106,117,109,112])) (Za (Zb 2) (Ze)))) (.inr ⟨more,rfl⟩) (show more < more + 2 by omega) (Zbn rfl rfl)
  refine ⟨roll,R,Rt.pure (G:=MO.lst (Zd (.put 3 5) :: rs.map Zd) :: G ++ ([.lst [Zd (.jump more)]] ++ [.lst ((Zd (.put 3 5) :: rs.map Zd) ++ [Zd (.jump more)])])) (env:=[some (Zd (.jump k)),some (.int cell),none,none,none,none]) ?_ (ZdN _ _)⟩
  rw [← ge,← List.append_assoc]
  exact pre (Zgg ((Ze8 (Zk hd rfl (by simp only [Zbv,eqD]; rw [decide_eq_true (by rfl)]))).trans (Za9 h)))
theorem ZgO {r:Row} {m:Nat} (hm:m ≤ 5000) (h:r.ok m) (hs:Za4 r) (M:Store):Zb9 [Zd r] M = .ok (.str (grT (ZbC r))) M:=by
 have F:=(Zd9 hm r h hs).1
 refine Rt.pure (G:=[.lst ((Zcg r :: (ZdO r).map Zh).map D.str)]) (env:=[some (Zd r)]) ?_ rfl
 unfold Zdc
 refine Za9 ?_
 rw [Ze6]
 exact Zh1 (env:=[some (grD (ZbC r))]) (k:=0) rfl F.few.1 F.few.2 F.num
theorem Zgr {roll:Zdz} (R:Zei roll) (hs:∀ r ∈ roll,Za4 r) (hl:roll.length ≤ 1000) (M:Store):ZaA [Zx roll] M = .ok (.str (Zb8 roll)) M:=by
 have hm:roll.length ≤ 5000:=Nat.le_trans hl (by decide)
 have lc:=Zen (enc:=Zd) (h:=fun r=>D.str (grT (ZbC r))) (own:=1) (i:=1) (it:=ZbU (Zb 0)) (elt:=(Zz Zb9 (Za (Zb 1) (Ze)))) (lock:=none) (as:=roll) (M:=M) (M1:=M)
  (env:=[some (Zx roll)]) rfl (fun k e=>nomatch e) (fun r hr M'=>Zcw rfl (ZgO hm (R.rows r hr) (hs r hr) M')) (Nat.le_trans hl (by decide))
 have e:(roll.map fun r=>D.str (grT (ZbC r))) = ((roll.map ZbC).map grT).map D.str:=by rw [List.map_map,List.map_map]; rfl
 rw [e] at lc
 refine Rt.pure (G:=[.lst (((roll.map ZbC).map grT).map D.str)]) (env:=[some (Zx roll)]) ?_ rfl
 unfold Zc0
 exact Za9 (ZeH rfl lc (Zgi (Zar ..) (Zez (Zfb R hs hl).base).2.1))
theorem ZiU (s:Nat) (y:List Nat):∀ (x:List Nat) (ts:List (List Nat)),glue [s] (x :: (ts ++ [y])) = glue [s] (x :: ts) ++ ([s] ++ y):=by
 intro x ts
 induction ts generalizing x with
 | nil=>show x ++ [s] ++ y = x ++ ([s] ++ y); rw [List.append_assoc]
 | cons t ts ih=>rw [List.cons_append,ZbO,ih t,ZbO,List.append_assoc,List.append_assoc]
theorem Ziv {x y:List Nat} {M:Store} (h:x.length + y.length ≤ SZ):Zn (.str x) (.str y) M = .ok (.str (x ++ y)) M:=by simp only [Zn,if_pos h]
theorem str_int {i:Int} {M:Store} (h:i.natAbs < 10 ^ 60):ZdP [.int i] M = .ok (.str (Zh i)) M:=by simp only [ZdP,if_pos (Zjl h)]
theorem ZiY {nm:List Nat} {is:List Int} (hl:is.length ≤ 3) (hn:nm.length ≤ 4) (hb:∀ n ∈ is,n.natAbs < 10 ^ 60) {j:Nat} {n:Int} (hj:is[j]? = some n) (a b c:Option D) (M:Store):
  (Zac 3 (e2 Zn (e2 Zn (Zb 3) (eC (.str [32]))) (Zah ZdP (Za (Zb 4) (Ze))))) [a,b,c,some (.str (ZbT nm (is.take j))),some (.int n)] M = .nx [a,b,c,some (.str (ZbT nm (is.take (j + 1)))),some (.int n)] M:=by
 have h0:∀ q,(ZbT nm (is.take q)).length ≤ 248:=fun q=>(Zee (by rw [List.length_take]; omega) hn fun n hm=>hb n (List.mem_of_mem_take hm)).2
 have hm:=hb n (List.mem_of_getElem? hj)
 have t1:=Zgh hm
 have e:ZbT nm (is.take (j + 1)) = ZbT nm (is.take j) ++ [32] ++ Zh n:=by
  unfold ZbT
  rw [List.take_add_one,hj,List.map_append]
  exact (ZiU 32 (Zh n) nm _).trans (List.append_assoc ..).symm
 have q1:(ZbT nm (is.take j)).length + ([32]:List Nat).length ≤ SZ:=Nat.le_trans (Nat.add_le_add_right (h0 j) 1) (by decide)
 have q2:(ZbT nm (is.take j) ++ [32]).length + (Zh n).length ≤ SZ:=by
  rw [List.length_append]; exact Nat.le_trans (Nat.add_le_add (Nat.add_le_add_right (h0 j) 1) t1) (by decide)
 exact Zaf (Zk (Zk rfl rfl (Ziv q1)) (ZbY rfl (str_int hm)) (Ziv q2)) (by rw [e]; rfl)
theorem ZjD {r:Row} {m:Nat} (hm:m ≤ 5000) (h:r.ok m) (hs:Za4 r) {ts:List (List Nat)} (hts:ts.length ≤ 1000) (a:D) (x y:Option D) (M:Store):
  ∃ z,(Zv (Zac 3 (e2 Zq (Zb 2) (eC (.int 0)))) (Zv (Zdh (ZbU (eSl (Zb 2) (Zad (eC (.int 1))) (ZaS))) (ZbV 4) (Zac 3 (e2 Zn (e2 Zn (Zb 3) (eC (.str [32]))) (Zah ZdP (Za (Zb 4) (Ze)))))) (ZaD (ZaV tyL Zaz (Zb 1) (Za (Zb 3) (Ze)))))) [some a,some (.ref M.length),some (Zd r),x,y] (M ++ [.lst (ts.map D.str)]) = .nx [some a,some (.ref M.length),some (Zd r),some (.str (grT (ZbC r))),z] (M ++ [.lst ((ts ++ [grT (ZbC r)]).map D.str)]):=by
 have F:=(Zd9 hm r h hs).1
 rw [Ze6]
 have c:cutD (D.str (Zcg r) :: (ZdO r).map D.int) (some 1) none = (ZdO r).map D.int:=Zef (D.str (Zcg r) :: (ZdO r).map D.int) 1
 obtain ⟨e',M',hl,z,rfl,rfl⟩:=Zda (it:=⟨(ZdO r).map D.int,none⟩) (g:=ZbV 4) (body:=(Zac 3 (e2 Zn (e2 Zn (Zb 3) (eC (.str [32]))) (Zah ZdP (Za (Zb 4) (Ze))))))
  (P:=fun j env M'=>∃ z,env = [some a,some (.ref M.length),some (grD (ZbC r)),some (.str (ZbT (Zcg r) ((ZdO r).take j))),z] ∧ M' = M ++ [.lst (ts.map D.str)]) ((ZdO r).map D.int) 0 [some a,some (.ref M.length),some (grD (ZbC r)),some (.str (Zcg r)),y] (M ++ [.lst (ts.map D.str)]) ⟨y,rfl,rfl⟩ (fun _ _ _ _=>rfl)
  (fun k d hd env M' hp=>by
   obtain ⟨z,rfl,rfl⟩:=hp
   rw [List.getElem?_map] at hd
   cases hn:(ZdO r)[k]? with
   | none=>rw [hn] at hd; cases hd
   | some n=>
    rw [hn] at hd; cases hd
    rw [Nat.zero_add]
    exact ⟨_,_,_,rfl,ZiY F.few.1 F.few.2 F.num hn _ _ _ _,_,rfl,rfl⟩)
 rw [List.length_map,Nat.zero_add,List.take_length] at hl
 have hf:(Zdh (ZbU (eSl (Zb 2) (Zad (eC (.int 1))) (ZaS))) (ZbV 4) (Zac 3 (e2 Zn (e2 Zn (Zb 3) (eC (.str [32]))) (Zah ZdP (Za (Zb 4) (Ze)))))) [some a,some (.ref M.length),some (grD (ZbC r)),some (.str (Zcg r)),y] (M ++ [.lst (ts.map D.str)]) = .nx [some a,some (.ref M.length),some (grD (ZbC r)),some (.str (ZbT (Zcg r) (ZdO r))),z] (M ++ [.lst (ts.map D.str)]):=by
  rw [Zdr (it:=⟨(ZdO r).map D.int,none⟩) (M':=M ++ [.lst (ts.map D.str)])]
  ·exact hl
  ·simp only [ZbU,eSl,Zb,List.getElem?_cons_succ,List.getElem?_cons_zero,R3.bind,Zad,eC,ZaS,grD,Zg4,Zeu,ZbC,c]
 refine ⟨z,(Zr (Zaf (Zk rfl rfl (ZcE (ZaJ _ 0))))).trans ((Zr hf).trans ((Zkl (xs:=ts.map D.str) rfl (Zar ..) rfl (Zar ..) (by rw [List.length_map]; exact Nat.lt_of_le_of_lt hts (by decide))).trans ?_))⟩
 have e2:=ZeQ M [.lst (ts.map D.str)] 0 (.lst (ts.map D.str ++ [.str (ZbT (Zcg r) (ZdO r))]))
 rw [List.map_append]
 exact congrArg _ e2
theorem Zij {roll:Zdz} (R:Zei roll) (hs:∀ r ∈ roll,Za4 r) (hl:roll.length ≤ 1000) (M:Store):ZaW [Zx roll] M = .ok (.str (Zb8 roll)) M:=by
 have hm:roll.length ≤ 5000:=Nat.le_trans hl (by decide)
 obtain ⟨e',M',hlo,x,y,z,rfl,rfl⟩:=Zda (it:=⟨roll.map Zd,none⟩) (g:=ZbV 2) (body:=(Zv (Zac 3 (e2 Zq (Zb 2) (eC (.int 0)))) (Zv (Zdh (ZbU (eSl (Zb 2) (Zad (eC (.int 1))) (ZaS))) (ZbV 4) (Zac 3 (e2 Zn (e2 Zn (Zb 3) (eC (.str [32]))) (Zah ZdP (Za (Zb 4) (Ze)))))) (ZaD (ZaV tyL Zaz (Zb 1) (Za (Zb 3) (Ze)))))))
  (P:=fun j env M'=>∃ x y z,env = [some (Zx roll),some (.ref M.length),x,y,z] ∧ M' = M ++ [.lst ((((roll.map ZbC).map grT).take j).map D.str)]) (roll.map Zd) 0 [some (Zx roll),some (.ref M.length),none,none,none] (M ++ [.lst []]) ⟨none,none,none,rfl,rfl⟩ (fun _ _ _ _=>rfl)
  (fun k d hd env M' hp=>by
   obtain ⟨x,y,z,rfl,rfl⟩:=hp
   rw [List.getElem?_map] at hd
   cases hr:roll[k]? with
   | none=>rw [hr] at hd; cases hd
   | some r=>
    rw [hr] at hd; cases hd
    rw [Nat.zero_add]
    have hmem:=List.mem_of_getElem? hr
    obtain ⟨z',ht⟩:=ZjD hm (R.rows r hmem) (hs r hmem) (ts:=((roll.map ZbC).map grT).take k) (by rw [List.length_take,List.length_map,List.length_map]; omega) (Zx roll) y z M
    refine ⟨_,_,_,rfl,ht,_,_,_,rfl,?_⟩
    rw [List.take_add_one,List.getElem?_map,List.getElem?_map,hr]; rfl)
 rw [List.length_map,Nat.zero_add] at hlo
 have e:((roll.map ZbC).map grT).take roll.length = (roll.map ZbC).map grT:=List.take_of_length_le (by rw [List.length_map,List.length_map]; exact Nat.le_refl _)
 rw [e] at hlo
 refine Rt.pure (G:=[.lst (((roll.map ZbC).map grT).map D.str)]) (env:=[some (Zx roll),none,none,none,none]) ?_ rfl
 unfold Zc9
 have hf:(Zdh (ZbU (Zb 0)) (ZbV 2) (Zv (Zac 3 (e2 Zq (Zb 2) (eC (.int 0)))) (Zv (Zdh (ZbU (eSl (Zb 2) (Zad (eC (.int 1))) (ZaS))) (ZbV 4) (Zac 3 (e2 Zn (e2 Zn (Zb 3) (eC (.str [32]))) (Zah ZdP (Za (Zb 4) (Ze)))))) (ZaD (ZaV tyL Zaz (Zb 1) (Za (Zb 3) (Ze))))))) [some (Zx roll),some (.ref M.length),none,none,none] (M ++ [.lst []]) = .nx [some (Zx roll),some (.ref M.length),x,y,z] (M ++ [.lst (((roll.map ZbC).map grT).map D.str)]):=by
  rw [Zdr (it:=⟨roll.map Zd,none⟩) (M':=M ++ [.lst []]) rfl]
  exact hlo
 have hj:(ZaV tyS ZdG (eC (.str [10])) (Za (Zb 1) (Ze))) [some (Zx roll),some (.ref M.length),x,y,z] (M ++ [.lst (((roll.map ZbC).map grT).map D.str)]) = .ok (.str (Zb8 roll)) (M ++ [.lst (((roll.map ZbC).map grT).map D.str)]):=ZeH (d:=.ref M.length) rfl rfl (Zgi (Zar ..) (Zez (Zfb R hs hl).base).2.1)
 exact (Zr (Zaf (Zes rfl rfl))).trans ((Zr hf).trans (Za9 hj))
theorem Zgq {x y:List D} {M:Store} (h:x.length + y.length ≤ SZ):Zn (.tup x) (.tup y) M = .ok (.tup (x ++ y)) M:=by simp only [Zn,if_pos h]
theorem Zgw {f:E3} {lo hi:EO3} {env:Zai} {M:Store} {xs:List D} {a b:Option Int} (h1:f env M = .ok (.tup xs) M) (h2:lo env M = .ok a M) (h3:hi env M = .ok b M):eSl f lo hi env M = .ok (.tup (cutD xs a b)) M:=by
 simp only [eSl,h1,h2,h3,R3.bind,Zeu]
noncomputable def Zb0:Row → Row
 | .jump k=>.jump (k % 20)
 | .when a k=>.when a (k % 20)
 | r=>r
theorem ZkV {nm:List Nat} {is:List Int} (h:∀ n ∈ is,n.natAbs < 10 ^ 60):(ZbT nm is).length ≤ nm.length + is.length * 62:=by
 unfold ZbT
 induction is generalizing nm with
 | nil=>show nm.length ≤ _; omega
 | cons i is ih=>
  rw [List.map_cons,ZbO,List.length_append,List.length_append,show (i :: is).length * 62 = is.length * 62 + 62 from Nat.succ_mul ..]
  have a:=ih (nm:=Zh i) fun n hn=>h n (List.mem_cons_of_mem _ hn)
  have b:=Zgh (h i (List.mem_cons_self ..))
  show _ + (1 + _) ≤ _
  omega
theorem Zk2 (s:Nat) (b:Nat):∀ ts:List (List Nat),(∀ t ∈ ts,t.length ≤ b) → (glue [s] ts).length ≤ ts.length * (b + 1):=fun ts h=>(Ze5 s b ts h).2
theorem Zjy {roll:Zdz} (R:Zei roll) (hs:∀ r ∈ roll,Za4 r) (hl:roll.length ≤ 1000):(Zb8 roll).length ≤ roll.length * 191:=by
 have hm:roll.length ≤ 5000:=Nat.le_trans hl (by decide)
 have q:=Zk2 10 190 ((roll.map ZbC).map grT) fun t ht=>by
  obtain ⟨g,hg,rfl⟩:=List.mem_map.mp ht
  obtain ⟨r,hr,rfl⟩:=List.mem_map.mp hg
  have F:=(Zd9 hm r (R.rows r hr) (hs r hr)).1
  have:=ZkV (nm:=Zcg r) F.num
  have h1:=F.few.1
  have h2:=F.few.2
  show (ZbT (Zcg r) (ZdO r)).length ≤ 190
  omega
 rw [List.length_map,List.length_map] at q
 exact q
theorem Zi2 (r:Row) (a b c:Option D) (M:Store):(eIf (e2 Zd4 (e2 Zq (Zb 3) (eC (.int 0))) (Zap (Za (eC (.str [106,117,109,112])) (Za (eC (.str [119,104,101,110])) (Ze))))) (e2 Zn (e2 Zn (Zap (Za (e2 Zq (Zb 3) (eC (.int 0))) (Ze))) (eSl (Zb 3) (Zad (eC (.int 1))) (Zad (e1 ZaR (eC (.int 1)))))) (Zap (Za (e2 Zaa (e2 Zq (Zb 3) (e1 ZaR (eC (.int 1)))) (eC (.int 20))) (Ze)))) (Zb 3)) [a,b,c,some (Zd r)] M = .ok (Zd (Zb0 r)) M:=by
 have cond:∀ {t:Bool},(([D.str [106,117,109,112],D.str [119,104,101,110]]:List D).any fun y=>deq y (.str (Zcg r))) = t → (e2 Zd4 (e2 Zq (Zb 3) (eC (.int 0))) (Zap (Za (eC (.str [106,117,109,112])) (Za (eC (.str [119,104,101,110])) (Ze))))) [a,b,c,some (Zd r)] M = .ok (.bl t) M:=fun h=>by
  rw [Ze6]
  refine Zk (Zk rfl rfl (ZcE (ZaJ _ 0))) (Zbn rfl rfl) ?_
  simp only [Zd4,inD]
  rw [if_pos (show (Zax (D.str (ZbC r).1) && [D.str [106,117,109,112],D.str [119,104,101,110]].all Zax) = true from rfl),show ([D.str [106,117,109,112],D.str [119,104,101,110]].any fun y=>deq y (.str (ZbC r).1)) = _ from h]
 have no:(([D.str [106,117,109,112],D.str [119,104,101,110]]:List D).any fun y=>deq y (.str (Zcg r))) = false → Zb0 r = r → (eIf (e2 Zd4 (e2 Zq (Zb 3) (eC (.int 0))) (Zap (Za (eC (.str [106,117,109,112])) (Za (eC (.str [119,104,101,110])) (Ze))))) (e2 Zn (e2 Zn (Zap (Za (e2 Zq (Zb 3) (eC (.int 0))) (Ze))) (eSl (Zb 3) (Zad (eC (.int 1))) (Zad (e1 ZaR (eC (.int 1)))))) (Zap (Za (e2 Zaa (e2 Zq (Zb 3) (e1 ZaR (eC (.int 1)))) (eC (.int 20))) (Ze)))) (Zb 3)) [a,b,c,some (Zd r)] M = .ok (Zd (Zb0 r)) M:=fun h e=>by
  rw [Zma (cond h),e]; rfl
 have yes:∀ {x:List D} {y:Int},(([D.str [106,117,109,112],D.str [119,104,101,110]]:List D).any fun y=>deq y (.str (Zcg r))) = true → Zd r = .tup (.str (Zcg r) :: x ++ [.int y]) → x.length ≤ 3 → Zd (Zb0 r) = .tup (.str (Zcg r) :: x ++ [.int (y % 20)]) → (eIf (e2 Zd4 (e2 Zq (Zb 3) (eC (.int 0))) (Zap (Za (eC (.str [106,117,109,112])) (Za (eC (.str [119,104,101,110])) (Ze))))) (e2 Zn (e2 Zn (Zap (Za (e2 Zq (Zb 3) (eC (.int 0))) (Ze))) (eSl (Zb 3) (Zad (eC (.int 1))) (Zad (e1 ZaR (eC (.int 1)))))) (Zap (Za (e2 Zaa (e2 Zq (Zb 3) (e1 ZaR (eC (.int 1)))) (eC (.int 20))) (Ze)))) (Zb 3)) [a,b,c,some (Zd r)] M = .ok (Zd (Zb0 r)) M:=fun {x y} h e hx e9=>by
  rw [Zme (cond h),e9,e]
  have i0:(e2 Zq (Zb 3) (eC (.int 0))) [a,b,c,some (.tup (.str (Zcg r) :: x ++ [.int y]))] M = .ok (.str (Zcg r)) M:=Zk rfl rfl (ZcE (ZaJ _ 0))
  have i1:(e2 Zq (Zb 3) (e1 ZaR (eC (.int 1)))) [a,b,c,some (.tup (.str (Zcg r) :: x ++ [.int y]))] M = .ok (.int y) M:=Zk rfl rfl (ZcE (getD_last (.str (Zcg r) :: x) (.int y)))
  have cx:cutD (.str (Zcg r) :: x ++ [.int y]) (some 1) (some (-1)) = x:=by
   have:(.str (Zcg r) :: x ++ [D.int y]).length = x.length + 2:=by simp
   unfold cutD
   rw [this]
   have e1:sIx (x.length + 2) 0 (some 1) = 1:=by simp only [sIx]; rw [if_neg (by decide)]; simp
   have e2:sIx (x.length + 2) (x.length + 2) (some (-1)) = x.length + 1:=by simp only [sIx]; rw [if_pos (by decide)]; omega
   rw [e1,e2]
   show (x ++ [D.int y]).take (x.length + 1 - 1) = x
   rw [Nat.add_sub_cancel,List.take_left']
   rfl
  refine (Zk (Zk (Zbn (Zal i0 rfl) rfl) (Zgw (a:=some 1) (b:=some (-1)) rfl rfl rfl) (Zgq ?_)) (Zbn (Zal (Zk i1 rfl (Za5 (by decide))) rfl) rfl) (Zgq ?_)).trans ?_
  ·rw [cx]; show 1 + x.length ≤ SZ; simp only [SZ]; omega
  ·rw [cx]; show ([D.str (Zcg r)] ++ x).length + 1 ≤ SZ; rw [List.length_append,List.length_singleton]; simp only [SZ]; omega
  ·rw [cx]; rfl
 cases r with
 | jump k=>exact yes (x:=[]) rfl rfl (by decide) (by show D.tup [.str _,.int ((k % 20:Nat):Int)] = _; rw [Int.natCast_emod]; rfl)
 | when q k=>exact yes (x:=[.int q]) rfl rfl (by show 1 ≤ 3; decide) (by show D.tup [.str _,.int q,.int ((k % 20:Nat):Int)] = _; rw [Int.natCast_emod]; rfl)
 | _=>exact no rfl rfl
theorem Zjm {α:Type} (xs:List α) (h:20 ≤ xs.length):cutD xs (some (-20)) (some (-1)) = (xs.drop (xs.length - 20)).take 19:=by
 unfold cutD
 have e1:sIx xs.length 0 (some (-20)) = xs.length - 20:=by simp only [sIx]; rw [if_pos (by decide)]; omega
 have e2:sIx xs.length xs.length (some (-1)) = xs.length - 1:=by simp only [sIx]; rw [if_pos (by decide)]; omega
 rw [e1,e2]
 congr 1
 omega
theorem Zkg {roll:Zdz} {m:Nat} (R:Draws roll m) (h:20 ≤ roll.length):Draws ((((roll.drop (roll.length - 20)).take 19) ++ [Row.halt]).map Zb0) 20:=by
 have hl:((roll.drop (roll.length - 20)).take 19).length = 19:=by rw [List.length_take,List.length_drop]; omega
 have el:((((roll.drop (roll.length - 20)).take 19) ++ [Row.halt]).map Zb0).length = 20:=by rw [List.length_map,List.length_append,hl]; rfl
 have each:∀ r ∈ (((roll.drop (roll.length - 20)).take 19) ++ [Row.halt]).map Zb0,r.ok 20 ∧ Za4 r:=fun r hr=>by
  obtain ⟨q,hq,rfl⟩:=List.mem_map.mp hr
  have hq2:q.ok roll.length ∧ Za4 q:=by
   rcases List.mem_append.mp hq with hq | hq
   ·have:=List.mem_of_mem_drop (List.mem_of_mem_take hq)
    exact ⟨R.ok.rows q this,R.small q this⟩
   ·rw [List.mem_singleton.mp hq]; exact ⟨trivial,trivial⟩
  cases q with
  | jump k=>exact ⟨Nat.mod_lt _ (by decide),trivial⟩
  | when a k=>exact ⟨⟨hq2.1.1,Nat.mod_lt _ (by decide)⟩,trivial⟩
  | put a v=>exact hq2
  | _=>exact ⟨hq2.1,trivial⟩
 refine ⟨⟨fun r hr=>by rw [el]; exact (each r hr).1,⟨((roll.drop (roll.length - 20)).take 19).map Zb0,.halt,by rw [List.map_append]; rfl,.inl rfl⟩⟩,fun r hr=>(each r hr).2,by rw [el]; exact Nat.le_refl _⟩
noncomputable def Zdl:Nat → D → Bool
 | _,.int _=>true
 | _,.str _=>true
 | n + 1,.tup ds=>decide (ds.length ≤ 1000) && ds.all (Zdl n)
 | _,_=>false
theorem Zir:∀ (n:Nat) (d:D) (M:Store),Zdl n d = true → ZaH (n + 1) [d,d] M = .ok (.bl true) M:=by
 intro n
 induction n with
 | zero=>
  intro d M h
  cases d with
  | str x=>simp [ZaH,ZaX,Zv,Zac,Zan,sIf,Zab,ZaD,mkF,Zca,below,belowL,Zbs]
  | int i=>simp [ZaH,ZaX,Zv,Zac,Zan,sIf,Zab,ZaD,mkF,Zca,below,belowL,Zbs]
  | _=>simp [Zdl] at h
 | succ n ih=>
  intro d M h
  cases d with
  | str x=>simp [ZaH,ZaX,Zv,Zac,Zan,sIf,Zab,ZaD,mkF,Zca,below,belowL,Zbs]
  | int i=>simp [ZaH,ZaX,Zv,Zac,Zan,sIf,Zab,ZaD,mkF,Zca,below,belowL,Zbs]
  | tup ds=>
   simp only [Zdl,Bool.and_eq_true,decide_eq_true_eq,List.all_eq_true] at h
   obtain ⟨hl,hd⟩:=h
   show mkF 2 2 (ZaX (ZaH (n + 1))) [.tup ds,.tup ds] M = _
   generalize ZaH (n + 1) = F at ih
   have lc:=Zen (α:=Nat) (enc:=fun k=>D.int (0 + (k:Int))) (h:=fun _=>D.bl true) (own:=1) (i:=2) (it:=Zco (Zah Zbi (Za (Zb 1) (Ze)))) (elt:=Zz F (Za (e2 Zq (Zb 0) (Zb 2)) (Za (e2 Zq (Zb 1) (Zb 2)) (Ze)))) (env:=[some (.tup ds),some (.tup ds)]) (M:=M) (M1:=M) (lock:=none) (as:=List.range ds.length)
    (by
     have:(ds.length:Int) ≤ 1000000 ∧ -1000000 ≤ (ds.length:Int):=by omega
     simp [this,Zdx]) (fun _ h=>by cases h)
    (fun k hk M=>by
     have hk':k < ds.length:=by simpa using hk
     have hg:ds[k]? = some ds[k]:=by simp [hk']
     have:=ih ds[k] M (hd _ (List.getElem_mem hk'))
     have gk:Za0 ds (0 + (k:Int)) = some ds[k]:=by rw [Int.zero_add,ZaJ,hg]
     simp only [Zz,Za,e2,Zb,Ze,List.cons_append,List.nil_append,List.replicate,List.set,List.getElem?_cons_zero,List.getElem?_cons_succ,R3.bind,Zq,gk,this]) (by simp; omega)
   refine Rt.pure (G:=[.lst ((List.range ds.length).map fun _=>D.bl true)]) (env:=[some (.tup ds),some (.tup ds)]) ?_ rfl
   unfold ZaX
   refine Zgg ((Ze8 (M':=M) (by simp)).trans ((Zr (ZaM (M':=M) (by simp))).trans (Za9 (ZbY lc ?_))))
   simp [allB,isB,isT]
  | _=>simp [Zdl] at h
theorem ZhX {roll:Zdz} (h:roll.length ≤ 1000):Zdl 6 (Zx roll) = true:=by
 have p:∀ r:Row,Zdl 5 (Zd r) = true:=fun r=>by cases r <;> rfl
 unfold Zx
 show (decide ((roll.map Zd).length ≤ 1000) && (roll.map Zd).all (Zdl 5)) = true
 rw [List.length_map,decide_eq_true h,Bool.true_and,List.all_eq_true]
 intro d hd
 obtain ⟨r,_,rfl⟩:=List.mem_map.mp hd
 exact p r
theorem ZjE (x:List Nat) (M:Store):Zao [.str x,.str x] M = .ok (.bl true) M:=Zir 6 (.str x) M rfl
theorem Zj1 {roll:Zdz} (R:Draws roll 342) (a:Option D) (M:Store):Rt ((Zv (sIf (eOr (e1 Zby (Zz Zao (Za (Zz ZaA (Za (Zb 1) (Ze))) (Za (Zb 2) (Ze))))) (e1 Zby (Zz Zao (Za (Zz ZaC (Za (Zb 2) (Ze))) (Za (Zb 1) (Ze)))))) (Zan (eC (.bl false))) (Zab)) (Zan (Zz Zao (Za (Zz ZaA (Za (Zz ZaC (Za (Zb 2) (Ze))) (Ze))) (Za (Zb 2) (Ze)))))) [a,some (Zx roll),some (.str (Zb8 roll))] M) (.bl true):=by
 have hl:roll.length ≤ 1000:=Nat.le_trans R.len (by decide)
 have sh:∀ M,ZaA [Zx roll] M = .ok (.str (Zb8 roll)) M:=Zgr R.ok R.small hl
 have rd:∀ M,ZaC [.str (Zb8 roll)] M = .ok (Zx roll) M:=ZiS R.ok R.small hl
 have sm:Zao [Zx roll,Zx roll] M = .ok (.bl true) M:=Zir 6 _ M (ZhX hl)
 refine Rt.skip (M':=M) ?_ (Rt.ret (M':=M) (Zdo (Zcw (Zcw rfl (rd M)) (sh M)) rfl (ZjE _ M)))
 rw [Zjt (M1:=M) (ZeE (Zdo (Zcw rfl (sh M)) rfl (ZjE _ M)) rfl)]
 exact ZeE (Zdo (Zcw rfl (rd M)) rfl sm) rfl
theorem ZjK {ns:List Int} {x y:Option D} {M:Store}:(Zah Zdp (Za (eSl (Zb 0) (ZaS) (Zad (eC (.int 60)))) (Ze))) [some (.scr (ns.map D.int)),x,y] M = .ok (.int (ns.take 60).sum) (M ++ [.lst ((ns.take 60).map D.int)]):=by
 have c:cutD (ns.map D.int) none (some 60) = (ns.take 60).map D.int:=(Zke (ns.map D.int) 60).trans (List.map_take ..).symm
 refine ZbY (a:=.ref M.length) (M1:=M ++ [.lst ((ns.take 60).map D.int)]) ?_ (Zid (Zar ..))
 simp only [eSl,Zb,List.getElem?_cons_zero,R3.bind,ZaS,Zad,eC,Zeu,c,alloc]
theorem Zi0 {roll:Zdz} (R:Draws roll 342) (a:Option D) (M:Store):∃ roll' M',Draws roll' 342 ∧ (sIf (e2 Zfu (Zah Zbi (Za (Zb 2) (Ze))) (eC (.int 4000))) (Zv (Zac 1 (e2 Zn (eSl (Zb 1) (Zad (e1 ZaR (eC (.int 20)))) (Zad (e1 ZaR (eC (.int 1))))) (Zap (Za (Zap (Za (eC (.str [104,97,108,116])) (Ze))) (Ze))))) (Zv (Zac 1 (Zah ZaF (Za (eLC (ZbU (Zb 1)) 1 (ZbV 3) [] (eIf (e2 Zd4 (e2 Zq (Zb 3) (eC (.int 0))) (Zap (Za (eC (.str [106,117,109,112])) (Za (eC (.str [119,104,101,110])) (Ze))))) (e2 Zn (e2 Zn (Zap (Za (e2 Zq (Zb 3) (eC (.int 0))) (Ze))) (eSl (Zb 3) (Zad (eC (.int 1))) (Zad (e1 ZaR (eC (.int 1)))))) (Zap (Za (e2 Zaa (e2 Zq (Zb 3) (e1 ZaR (eC (.int 1)))) (eC (.int 20))) (Ze)))) (Zb 3))) (Ze)))) (Zac 2 (Zz ZaW (Za (Zb 1) (Ze)))))) (Zab)) [a,some (Zx roll),some (.str (Zb8 roll))] M = .nx [a,some (Zx roll'),some (.str (Zb8 roll'))] M':=by
 have hl:roll.length ≤ 1000:=Nat.le_trans R.len (by decide)
 have b:=Zjy R.ok R.small hl
 have ln:(Zah Zbi (Za (Zb 2) (Ze))) [a,some (Zx roll),some (.str (Zb8 roll))] M = .ok (.int (Zb8 roll).length) M:=ZbY (a:=.str (Zb8 roll)) rfl (by
  have:(Zb8 roll).length ≤ SZ:=Nat.le_trans b (Nat.le_trans (Nat.mul_le_mul_right _ hl) (by decide))
  simp only [Zbi,if_pos this])
 by_cases h:4000 < (Zb8 roll).length
 ·have h20:20 ≤ roll.length:=by omega
  have S:=Zkg R h20
  refine ⟨_,M ++ [.lst (((((roll.drop (roll.length - 20)).take 19) ++ [Row.halt]).map Zb0).map Zd)],⟨S.ok,S.small,Nat.le_trans S.len (by decide)⟩,?_⟩
  refine (Ze8 (Zk ln rfl (by simp only [Zfu]; rw [decide_eq_true (by omega)]))).trans ?_
  have c1:(e2 Zn (eSl (Zb 1) (Zad (e1 ZaR (eC (.int 20)))) (Zad (e1 ZaR (eC (.int 1))))) (Zap (Za (Zap (Za (eC (.str [104,97,108,116])) (Ze))) (Ze)))) [a,some (Zx roll),some (.str (Zb8 roll))] M = .ok (.tup ((((roll.drop (roll.length - 20)).take 19) ++ [Row.halt]).map Zd)) M:=by
   have c:cutD (roll.map Zd) (some (-20)) (some (-1)) = ((roll.drop (roll.length - 20)).take 19).map Zd:=by
    rw [Zjm _ (by rw [List.length_map]; exact h20),List.length_map,← List.map_drop,← List.map_take]
   refine (Zk (Zgw (xs:=roll.map Zd) (a:=some (-20)) (b:=some (-1)) rfl rfl rfl) (Zbn (Zal (Zbn rfl rfl) rfl) rfl) (Zgq ?_)).trans ?_
   ·rw [c,List.length_map,List.length_take]; show min _ _ + 1 ≤ SZ; simp only [SZ]; omega
   ·rw [c,List.map_append]; rfl
  refine (Zr (Zaf c1)).trans ?_
  have lc:=Zen (enc:=Zd) (h:=fun r=>Zd (Zb0 r)) (own:=1) (i:=3) (it:=ZbU (Zb 1)) (elt:=(eIf (e2 Zd4 (e2 Zq (Zb 3) (eC (.int 0))) (Zap (Za (eC (.str [106,117,109,112])) (Za (eC (.str [119,104,101,110])) (Ze))))) (e2 Zn (e2 Zn (Zap (Za (e2 Zq (Zb 3) (eC (.int 0))) (Ze))) (eSl (Zb 3) (Zad (eC (.int 1))) (Zad (e1 ZaR (eC (.int 1)))))) (Zap (Za (e2 Zaa (e2 Zq (Zb 3) (e1 ZaR (eC (.int 1)))) (eC (.int 20))) (Ze)))) (Zb 3))) (lock:=none) (as:=((roll.drop (roll.length - 20)).take 19) ++ [Row.halt]) (M:=M) (M1:=M)
   (env:=[a,some (.tup ((((roll.drop (roll.length - 20)).take 19) ++ [Row.halt]).map Zd)),some (.str (Zb8 roll))]) rfl (fun k e=>nomatch e) (fun r _ M'=>Zi2 r _ _ _ M') (by rw [List.length_append,List.length_take]; show min _ _ + 1 ≤ _; omega)
  rw [show (((roll.drop (roll.length - 20)).take 19) ++ [Row.halt]).map (fun r=>Zd (Zb0 r)) = ((((roll.drop (roll.length - 20)).take 19) ++ [Row.halt]).map Zb0).map Zd by rw [List.map_map]; rfl] at lc
  refine (Zr (Zaf (ZbY lc (Zea (Zar ..))))).trans ?_
  exact Zaf (Zcw rfl (Zij S.ok S.small (Nat.le_trans S.len (by decide)) _))
 ·exact ⟨roll,M,R,ZaM (Zk ln rfl (by simp only [Zfu]; rw [decide_eq_false (by omega)]))⟩
theorem law_holds:∀ ns:List Int,ns.length ≤ 63 → ∃ M',Zia [.scr (ns.map D.int)] [] = .ok (.bl true) M':=by
 intro ns hns
 refine Rt.law (env:=[some (.scr (ns.map D.int)),none,none]) ?_
 unfold Zju
 have c:cutD (ns.map D.int) none (some 60) = (ns.take 60).map D.int:=(Zke (ns.map D.int) 60).trans (List.map_take ..).symm
 obtain ⟨roll,R,hr⟩:=ZlB (cs:=ns.take 60) (by rw [List.length_take]; omega) (n:=0) (M:=[.lst ((ns.take 60).map D.int)]) rfl
 have s1:(eSl (Zb 0) (ZaS) (Zad (eC (.int 60)))) [some (.scr (ns.map D.int)),none,none] [] = .ok (.ref 0) [.lst ((ns.take 60).map D.int)]:=by
  simp only [eSl,Zb,List.getElem?_cons_zero,R3.bind,ZaS,Zad,eC,Zeu,c,alloc,List.length_nil,List.nil_append]
 refine Rt.set (Zcw s1 hr) ?_
 have tail:∀ (roll:Zdz) (M:Store),Draws roll 342 → Rt ((Zv (Zac 2 (Zz ZaW (Za (Zb 1) (Ze)))) (Zv (sIf (e2 Zfu (Zah Zbi (Za (Zb 2) (Ze))) (eC (.int 4000))) (Zv (Zac 1 (e2 Zn (eSl (Zb 1) (Zad (e1 ZaR (eC (.int 20)))) (Zad (e1 ZaR (eC (.int 1))))) (Zap (Za (Zap (Za (eC (.str [104,97,108,116])) (Ze))) (Ze))))) (Zv (Zac 1 (Zah ZaF (Za (eLC (ZbU (Zb 1)) 1 (ZbV 3) [] (eIf (e2 Zd4 (e2 Zq (Zb 3) (eC (.int 0))) (Zap (Za (eC (.str [106,117,109,112])) (Za (eC (.str [119,104,101,110])) (Ze))))) (e2 Zn (e2 Zn (Zap (Za (e2 Zq (Zb 3) (eC (.int 0))) (Ze))) (eSl (Zb 3) (Zad (eC (.int 1))) (Zad (e1 ZaR (eC (.int 1)))))) (Zap (Za (e2 Zaa (e2 Zq (Zb 3) (e1 ZaR (eC (.int 1)))) (eC (.int 20))) (Ze)))) (Zb 3))) (Ze)))) (Zac 2 (Zz ZaW (Za (Zb 1) (Ze)))))) (Zab)) (Zv (sIf (eOr (e1 Zby (Zz Zao (Za (Zz ZaA (Za (Zb 1) (Ze))) (Za (Zb 2) (Ze))))) (e1 Zby (Zz Zao (Za (Zz ZaC (Za (Zb 2) (Ze))) (Za (Zb 1) (Ze)))))) (Zan (eC (.bl false))) (Zab)) (Zan (Zz Zao (Za (Zz ZaA (Za (Zz ZaC (Za (Zb 2) (Ze))) (Ze))) (Za (Zb 2) (Ze)))))))) [some (.scr (ns.map D.int)),some (Zx roll),none] M) (.bl true):=fun roll M R=>by
  refine Rt.set (Zcw rfl (Zij R.ok R.small (Nat.le_trans R.len (by decide)) M)) ?_
  obtain ⟨roll',M',R',h⟩:=Zi0 R (some (.scr (ns.map D.int))) M
  exact Rt.step h (Zj1 R' _ M')
 have cond:∀ M,(e2 Zaa (e2 Zag (Zah Zdp (Za (eSl (Zb 0) (ZaS) (Zad (eC (.int 60)))) (Ze))) (eC (.int 12))) (eC (.int 8))) [some (.scr (ns.map D.int)),some (Zx roll),none] M = .ok (.int ((ns.take 60).sum / 12 % 8)) (M ++ [.lst ((ns.take 60).map D.int)]):=fun M=>Zk (Zk ZjK rfl (Zcn (by decide))) rfl (Za5 (by decide))
 by_cases h:(ns.take 60).sum / 12 % 8 = 5
 ·obtain ⟨q,x,e,hx⟩:=R.ok.last
  obtain ⟨roll2,R2,h2⟩:=ZiV x hx ((ns.take 60).sum / 96) ([MO.lst ((ns.take 60).map D.int)] ++ [.lst ((ns.take 60).map D.int)] ++ [.lst ((ns.take 60).map D.int)])
  have lx:Za0 (roll.map Zd) (-1) = some (Zd x):=by rw [e,List.map_append]; exact getD_last ..
  refine Rt.step ((Ze8 (Zk (cond _) rfl (Zk3 h))).trans (Zaf (Zdo (Zk rfl rfl (ZcE lx)) (Zk ZjK rfl (Zcn (by decide))) h2))) (tail roll2 _ R2)
 ·exact Rt.skip (Zk (cond _) rfl (Zls h)) (tail roll _ ⟨R.ok,R.small,Nat.le_trans R.len (by decide)⟩)
end Law
set_option maxHeartbeats 400000
namespace Law
open PySem PySem.Spec PyProof.Rows L2 L3
theorem uZ {P:List Value → Prop} (h:P []):∀ us:List Value,us.length = 0 → P us:=fun us e=>(List.eq_nil_of_length_eq_zero e) ▸ h
theorem uS {P:List Value → Prop} {n:Nat} (h:∀ a us,us.length = n → P (a :: us)) (us:List Value) (e:us.length = n + 1):P us:=by
 cases us with
 | nil=>exact absurd e (Nat.succ_ne_zero n).symm
 | cons a us=>exact h a us (Nat.succ.inj e)
theorem ub1 {P:List Value → Prop} {xa:Str} (h:∀ a,P [a]):∀ us:List Value,us.length = [xa].length → P us:=uS fun a=>uZ (h a)
theorem ub2 {P:List Value → Prop} {xa xb:Str} (h:∀ a b,P [a,b]):∀ us:List Value,us.length = [xa,xb].length → P us:=uS fun a=>uS fun b=>uZ (h a b)
theorem ZmY {l:PySem.W.OpenLaw} {w:World} {K:W.Frag} {h:Heap} {mg:Str → Option Value} {fa f0 f1 f2 f3 f4 f5 f6 f7 f8 f9 f10 f11 f12 f13 f14:Addr} (X:K.In h) (G:h.Ns mainGlobals mg) (hfa:mg "law" = some (.ref fa))
  {od0 an0 od1 an1 od2 an2 od3 an3 od4 an4 od5 an5 od6 an6 od7 an7 od8 an8 od9 an9 od10 an10 od11 an11 od12 an12 od13 an13 od14 an14:Option Addr} {sl0 sl1 sl2 sl3 sl4 sl5 sl6 sl7 sl8 sl9 sl10 sl11 sl12 sl13 sl14:Array (Option Value)} {oc0 kV0 dc0 pm0 cd0 ct0 oc1 kV1 dc1 pm1 cd1 ct1 oc2 kV2 dc2 pm2 cd2 ct2 oc3 kV3 dc3 pm3 cd3 ct3 oc4 kV4 dc4 pm4 cd4 ct4 oc5 kV5 dc5 pm5 cd5 ct5 oc6 kV6 dc6 pm6 cd6 ct6 oc7 kV7 dc7 pm7 cd7 ct7 oc8 kV8 dc8 pm8 cd8 ct8 oc9 kV9 dc9 pm9 cd9 ct9 oc10 kV10 dc10 pm10 cd10 ct10 oc11 kV11 dc11 pm11 cd11 ct11 oc12 kV12 dc12 pm12 cd12 ct12 oc13 kV13 dc13 pm13 cd13 ct13 oc14 kV14 dc14 pm14 cd14 ct14:Value} {t_BOXES t_FIGURES t_MOST_FIGURES:Tok} {a_FORMS:Addr}
  (a0:W.nsIn K mainGlobals "is_number" = some (some (.ref f0))) (l0:K.lookup f0 = some ⟨oc0,od0,.func (W.fnOf "is_number" "is_number" (Zau ZbE) (Zam ZbE) (Zm ZbE) .none kV0 dc0 pm0 an0 cd0 ct0),sl0⟩) (c0:W.codeIn K cd0 "is_number" = true) (k0:W.keepIn K (.ref f0) = true)
  (a1:W.nsIn K mainGlobals "is_within" = some (some (.ref f1))) (l1:K.lookup f1 = some ⟨oc1,od1,.func (W.fnOf "is_within" "is_within" (Zau ZbM) (Zam ZbM) (Zm ZbM) .none kV1 dc1 pm1 an1 cd1 ct1),sl1⟩) (c1:W.codeIn K cd1 "is_within" = true) (k1:W.keepIn K (.ref f1) = true)
  (a2:W.nsIn K mainGlobals "read_row" = some (some (.ref f2))) (l2:K.lookup f2 = some ⟨oc2,od2,.func (W.fnOf "read_row" "read_row" (Zau Zb3) (Zam Zb3) (Zm Zb3) .none kV2 dc2 pm2 an2 cd2 ct2),sl2⟩) (c2:W.codeIn K cd2 "read_row" = true) (k2:W.keepIn K (.ref f2) = true)
  (a3:W.nsIn K mainGlobals "refuse_no_roll" = some (some (.ref f3))) (l3:K.lookup f3 = some ⟨oc3,od3,.func (W.fnOf "refuse_no_roll" "refuse_no_roll" (Zau ZaI) (Zam ZaI) (Zm ZaI) .none kV3 dc3 pm3 an3 cd3 ct3),sl3⟩) (c3:W.codeIn K cd3 "refuse_no_roll" = true) (k3:W.keepIn K (.ref f3) = true)
  (a4:W.nsIn K mainGlobals "read_roll" = some (some (.ref f4))) (l4:K.lookup f4 = some ⟨oc4,od4,.func (W.fnOf "read_roll" "read_roll" (Zau ZbJ) (Zam ZbJ) (Zm ZbJ) .none kV4 dc4 pm4 an4 cd4 ct4),sl4⟩) (c4:W.codeIn K cd4 "read_roll" = true) (k4:W.keepIn K (.ref f4) = true)
  (a5:W.nsIn K mainGlobals "shown_row" = some (some (.ref f5))) (l5:K.lookup f5 = some ⟨oc5,od5,.func (W.fnOf "shown_row" "shown_row" (Zau ZbF) (Zam ZbF) (Zm ZbF) .none kV5 dc5 pm5 an5 cd5 ct5),sl5⟩) (c5:W.codeIn K cd5 "shown_row" = true) (k5:W.keepIn K (.ref f5) = true)
  (a6:W.nsIn K mainGlobals "shown_roll" = some (some (.ref f6))) (l6:K.lookup f6 = some ⟨oc6,od6,.func (W.fnOf "shown_roll" "shown_roll" (Zau Zbl) (Zam Zbl) (Zm Zbl) .none kV6 dc6 pm6 an6 cd6 ct6),sl6⟩) (c6:W.codeIn K cd6 "shown_roll" = true) (k6:W.keepIn K (.ref f6) = true)
  (a7:W.nsIn K mainGlobals "_law_mixed" = some (some (.ref f7))) (l7:K.lookup f7 = some ⟨oc7,od7,.func (W.fnOf "_law_mixed" "_law_mixed" (Zau Zbm) (Zam Zbm) (Zm Zbm) .none kV7 dc7 pm7 an7 cd7 ct7),sl7⟩) (c7:W.codeIn K cd7 "_law_mixed" = true) (k7:W.keepIn K (.ref f7) = true)
  (a8:W.nsIn K mainGlobals "_law_number" = some (some (.ref f8))) (l8:K.lookup f8 = some ⟨oc8,od8,.func (W.fnOf "_law_number" "_law_number" (Zau Za2) (Zam Za2) (Zm Za2) .none kV8 dc8 pm8 an8 cd8 ct8),sl8⟩) (c8:W.codeIn K cd8 "_law_number" = true) (k8:W.keepIn K (.ref f8) = true)
  (a9:W.nsIn K mainGlobals "_law_row" = some (some (.ref f9))) (l9:K.lookup f9 = some ⟨oc9,od9,.func (W.fnOf "_law_row" "_law_row" (Zau Zb2) (Zam Zb2) (Zm Zb2) .none kV9 dc9 pm9 an9 cd9 ct9),sl9⟩) (c9:W.codeIn K cd9 "_law_row" = true) (k9:W.keepIn K (.ref f9) = true)
  (a10:W.nsIn K mainGlobals "_law_roll" = some (some (.ref f10))) (l10:K.lookup f10 = some ⟨oc10,od10,.func (W.fnOf "_law_roll" "_law_roll" (Zau ZbK) (Zam ZbK) (Zm ZbK) .none kV10 dc10 pm10 an10 cd10 ct10),sl10⟩) (c10:W.codeIn K cd10 "_law_roll" = true) (k10:W.keepIn K (.ref f10) = true)
  (a11:W.nsIn K mainGlobals "_law_longer" = some (some (.ref f11))) (l11:K.lookup f11 = some ⟨oc11,od11,.func (W.fnOf "_law_longer" "_law_longer" (Zau Za3) (Zam Za3) (Zm Za3) .none kV11 dc11 pm11 an11 cd11 ct11),sl11⟩) (c11:W.codeIn K cd11 "_law_longer" = true) (k11:W.keepIn K (.ref f11) = true)
  (a12:W.nsIn K mainGlobals "_law_text" = some (some (.ref f12))) (l12:K.lookup f12 = some ⟨oc12,od12,.func (W.fnOf "_law_text" "_law_text" (Zau ZbN) (Zam ZbN) (Zm ZbN) .none kV12 dc12 pm12 an12 cd12 ct12),sl12⟩) (c12:W.codeIn K cd12 "_law_text" = true) (k12:W.keepIn K (.ref f12) = true)
  (a13:W.nsIn K mainGlobals "_law_same" = some (some (.ref f13))) (l13:K.lookup f13 = some ⟨oc13,od13,.func (W.fnOf "_law_same" "_law_same" (Zau ZbH) (Zam ZbH) (Zm ZbH) .none kV13 dc13 pm13 an13 cd13 ct13),sl13⟩) (c13:W.codeIn K cd13 "_law_same" = true) (k13:W.keepIn K (.ref f13) = true)
  (a14:W.nsIn K mainGlobals "law" = some (some (.ref f14))) (l14:K.lookup f14 = some ⟨oc14,od14,.func (W.fnOf "law" "law" (Zau Zd5) (Zam Zd5) (Zm Zd5) .none kV14 dc14 pm14 an14 cd14 ct14),sl14⟩) (c14:W.codeIn K cd14 "law" = true) (k14:W.keepIn K (.ref f14) = true)
  (z_all:W.nsIn K mainGlobals "all" = some none)
  (z_bool:W.nsIn K mainGlobals "bool" = some none)
  (z_enumerate:W.nsIn K mainGlobals "enumerate" = some none)
  (z_int:W.nsIn K mainGlobals "int" = some none)
  (z_isinstance:W.nsIn K mainGlobals "isinstance" = some none)
  (z_len:W.nsIn K mainGlobals "len" = some none)
  (z_range:W.nsIn K mainGlobals "range" = some none)
  (z_str:W.nsIn K mainGlobals "str" = some none)
  (z_sum:W.nsIn K mainGlobals "sum" = some none)
  (z_tuple:W.nsIn K mainGlobals "tuple" = some none)
  (z_zip:W.nsIn K mainGlobals "zip" = some none)
  (g_BOXES:W.nsIn K mainGlobals "BOXES" = some (some (.int 8 t_BOXES)))
  (g_FIGURES:W.nsIn K mainGlobals "FIGURES" = some (some (.str "0123456789" t_FIGURES)))
  (g_FORMS:W.nsIn K mainGlobals "FORMS" = some (some (.ref a_FORMS))) (r_tab_FORMS:Zhe K a_FORMS Zav)
  (g_MOST_FIGURES:W.nsIn K mainGlobals "MOST_FIGURES" = some (some (.int 60 t_MOST_FIGURES))):
  ∃ fd:FuncData,(∀ (s:Shared) (v:Value),BindsTo s fd ⟨[v],[]⟩ [("script",v)]) ∧ ∀ base:Heap,K.In base → base.Ns mainGlobals mg → ZcH l.prog w K mg base CX0 9 fa fd ["script"] (sp3 K 1 Zia):=by
 have e:=hfa.symm.trans (W.mg_of X G a14)
 cases e
 have T:Txt K mg:=⟨trivial,W.mg_none_of X G z_all,W.mg_none_of X G z_bool,W.mg_none_of X G z_enumerate,W.mg_none_of X G z_int,W.mg_none_of X G z_isinstance,W.mg_none_of X G z_len,W.mg_none_of X G z_range,W.mg_none_of X G z_str,W.mg_none_of X G z_sum,W.mg_none_of X G z_tuple,W.mg_none_of X G z_zip,⟨_,W.mg_of X G g_BOXES⟩,⟨_,W.mg_of X G g_FIGURES⟩,⟨_,W.mg_of X G g_FORMS,r_tab_FORMS⟩,⟨_,W.mg_of X G g_MOST_FIGURES⟩⟩
 have D_is_number:ZaN K mg "is_number" ZbE ["word"]:=ZaQ X G a0 l0 c0 k0 (Binds.all (ub1 fun _=>rfl))
 have D_is_within:ZaN K mg "is_within" ZbM ["number","many"]:=ZaQ X G a1 l1 c1 k1 (Binds.all (ub2 fun _ _=>rfl))
 have D_read_row:ZaN K mg "read_row" Zb3 ["line"]:=ZaQ X G a2 l2 c2 k2 (Binds.all (ub1 fun _=>rfl))
 have D_refuse_no_roll:ZaN K mg "refuse_no_roll" ZaI ["rows"]:=ZaQ X G a3 l3 c3 k3 (Binds.all (ub1 fun _=>rfl))
 have D_read_roll:ZaN K mg "read_roll" ZbJ ["text"]:=ZaQ X G a4 l4 c4 k4 (Binds.all (ub1 fun _=>rfl))
 have D_shown_row:ZaN K mg "shown_row" ZbF ["row"]:=ZaQ X G a5 l5 c5 k5 (Binds.all (ub1 fun _=>rfl))
 have D_shown_roll:ZaN K mg "shown_roll" Zbl ["roll"]:=ZaQ X G a6 l6 c6 k6 (Binds.all (ub1 fun _=>rfl))
 have D__law_mixed:ZaN K mg "_law_mixed" Zbm ["cell","k"]:=ZaQ X G a7 l7 c7 k7 (Binds.all (ub2 fun _ _=>rfl))
 have D__law_number:ZaN K mg "_law_number" Za2 ["cell"]:=ZaQ X G a8 l8 c8 k8 (Binds.all (ub1 fun _=>rfl))
 have D__law_row:ZaN K mg "_law_row" Zb2 ["cell","many"]:=ZaQ X G a9 l9 c9 k9 (Binds.all (ub2 fun _ _=>rfl))
 have D__law_roll:ZaN K mg "_law_roll" ZbK ["cells"]:=ZaQ X G a10 l10 c10 k10 (Binds.all (ub1 fun _=>rfl))
 have D__law_longer:ZaN K mg "_law_longer" Za3 ["last","cell"]:=ZaQ X G a11 l11 c11 k11 (Binds.all (ub2 fun _ _=>rfl))
 have D__law_text:ZaN K mg "_law_text" ZbN ["roll"]:=ZaQ X G a12 l12 c12 k12 (Binds.all (ub1 fun _=>rfl))
 have D__law_same:ZaN K mg "_law_same" ZbH ["found","due"]:=ZaQ X G a13 l13 c13 k13 (Binds.all (ub2 fun _ _=>rfl))
 refine ⟨W.fnOf "law" "law" (Zau Zd5) (Zam Zd5) (Zm Zd5) .none kV14 dc14 pm14 an14 cd14 ct14,fun s v=>.of_eq rfl,fun base _ _=>?_⟩
 have F_is_number:=Zga (P:=l.prog) (w:=w) (base:=base) D_is_number T
 have F_is_within:=Zf7 (P:=l.prog) (w:=w) (base:=base) D_is_within T
 have F_read_row:=Zhb (P:=l.prog) (w:=w) (base:=base) D_read_row T F_is_number F_is_within
 have F_refuse_no_roll:=Zd8 (P:=l.prog) (w:=w) (base:=base) D_refuse_no_roll T F_is_within
 have F_read_roll:=ZgD (P:=l.prog) (w:=w) (base:=base) D_read_roll T F_read_row F_refuse_no_roll
 have F_shown_row:=Zf9 (P:=l.prog) (w:=w) (base:=base) D_shown_row T
 have F_shown_roll:=ZfA (P:=l.prog) (w:=w) (base:=base) D_shown_roll T F_shown_row
 have F__law_mixed:=Zfr (P:=l.prog) (w:=w) (base:=base) D__law_mixed T
 have F__law_number:=ZeU (P:=l.prog) (w:=w) (base:=base) D__law_number T F__law_mixed
 have F__law_row:=ZgW (P:=l.prog) (w:=w) (base:=base) D__law_row T F__law_number
 have F__law_roll:=Zgn (P:=l.prog) (w:=w) (base:=base) D__law_roll T F__law_row
 have F__law_longer:=ZeZ (P:=l.prog) (w:=w) (base:=base) D__law_longer T
 have F__law_text:=ZgF (P:=l.prog) (w:=w) (base:=base) D__law_text T
 have F__law_same:=Zgv (P:=l.prog) (w:=w) (base:=base) D__law_same T
 exact ZmM (ZjQ (st:=Zd5) l14 c14 k14) T F_read_roll F_shown_roll F__law_roll F__law_longer F__law_text F__law_same
end Law
open PySem PySem.W PyProof.Rows
set_option maxRecDepth 100000 in
set_option maxHeartbeats 0 in
theorem PySem.Challenge.cw_stepledger_k02_shown_and_read_holds : PySem.Challenge.rw_stepledger_k02_shown_and_read.Holds := by
 w_on; o_law; k_head; (case hw=>w_witness2)
 k_fill
 refine L3.Zn3 (l:=PySem.Challenge.rw_stepledger_k02_shown_and_read) (k:=9) (F:=Law.Zia) rfl rfl ⟨rfl,by decide,by decide⟩ (fun w h Y=>W.kIn_of Y) ?G Law.law_holds
 case G=>
  intro w mg fa h KX G hmg
  refine' Law.ZmY KX G hmg ?a0 ?l0 ?c0 ?k0 ?a1 ?l1 ?c1 ?k1 ?a2 ?l2 ?c2 ?k2 ?a3 ?l3 ?c3 ?k3 ?a4 ?l4 ?c4 ?k4 ?a5 ?l5 ?c5 ?k5 ?a6 ?l6 ?c6 ?k6 ?a7 ?l7 ?c7 ?k7 ?a8 ?l8 ?c8 ?k8 ?a9 ?l9 ?c9 ?k9 ?a10 ?l10 ?c10 ?k10 ?a11 ?l11 ?c11 ?k11 ?a12 ?l12 ?c12 ?k12 ?a13 ?l13 ?c13 ?k13 ?a14 ?l14 ?c14 ?k14 ?z_all ?z_bool ?z_enumerate ?z_int ?z_isinstance ?z_len ?z_range ?z_str ?z_sum ?z_tuple ?z_zip ?g_BOXES ?g_FIGURES ?g_FORMS ?r_tab_FORMS ?g_MOST_FIGURES
  (case a0=>k_is)
  (case l0=>k_is)
  (case c0=>k_is)
  (case k0=>k_is)
  (case a1=>k_is)
  (case l1=>k_is)
  (case c1=>k_is)
  (case k1=>k_is)
  (case a2=>k_is)
  (case l2=>k_is)
  (case c2=>k_is)
  (case k2=>k_is)
  (case a3=>k_is)
  (case l3=>k_is)
  (case c3=>k_is)
  (case k3=>k_is)
  (case a4=>k_is)
  (case l4=>k_is)
  (case c4=>k_is)
  (case k4=>k_is)
  (case a5=>k_is)
  (case l5=>k_is)
  (case c5=>k_is)
  (case k5=>k_is)
  (case a6=>k_is)
  (case l6=>k_is)
  (case c6=>k_is)
  (case k6=>k_is)
  (case a7=>k_is)
  (case l7=>k_is)
  (case c7=>k_is)
  (case k7=>k_is)
  (case a8=>k_is)
  (case l8=>k_is)
  (case c8=>k_is)
  (case k8=>k_is)
  (case a9=>k_is)
  (case l9=>k_is)
  (case c9=>k_is)
  (case k9=>k_is)
  (case a10=>k_is)
  (case l10=>k_is)
  (case c10=>k_is)
  (case k10=>k_is)
  (case a11=>k_is)
  (case l11=>k_is)
  (case c11=>k_is)
  (case k11=>k_is)
  (case a12=>k_is)
  (case l12=>k_is)
  (case c12=>k_is)
  (case k12=>k_is)
  (case a13=>k_is)
  (case l13=>k_is)
  (case c13=>k_is)
  (case k13=>k_is)
  (case a14=>k_is)
  (case l14=>k_is)
  (case c14=>k_is)
  (case k14=>k_is)
  (case z_all=>k_is)
  (case z_bool=>k_is)
  (case z_enumerate=>k_is)
  (case z_int=>k_is)
  (case z_isinstance=>k_is)
  (case z_len=>k_is)
  (case z_range=>k_is)
  (case z_str=>k_is)
  (case z_sum=>k_is)
  (case z_tuple=>k_is)
  (case z_zip=>k_is)
  (case g_BOXES=>k_is)
  (case g_FIGURES=>k_is)
  (case g_FORMS=>k_is)
  (case r_tab_FORMS=>first | rfl | decide +kernel)
  (case g_MOST_FIGURES=>k_is)
