import PyProof.Rows.All
import Wide.All
import OpenK.AllK
import Wide.FinOn
import Lean
import PyProof.EqAt
import PyProof.EqKinds
import PyProof.TupleCall
import PySem.Challenge.RW_stepledger_k51_tellers
namespace L3
set_option compiler.extract_closed false
set_option genSizeOf false in
set_option genInjectivity false in
inductive AE where
 | v (i:Nat)
 | k (n:Nat)
 | a (x y:AE)
 | m (n:Nat) (x:AE)
noncomputable def Zkc:List Nat → Nat → Nat
 | [],_=>0
 | x :: _,0=>x
 | _ :: l,n + 1=>Zkc l n
noncomputable def AE.ev (c:List Nat):AE → Nat
 | .v i=>Zkc c i
 | .k n=>n
 | .a x y=>x.ev c + y.ev c
 | .m n x=>n * x.ev c
noncomputable def aL:List Nat → List Nat → List Nat
 | [],r=>r
 | x :: l,[]=>x :: l
 | x :: l,y :: r=>(x + y) :: aL l r
noncomputable def sL (n:Nat):List Nat → List Nat
 | []=>[]
 | x :: l=>(n * x) :: sL n l
noncomputable def uL:Nat → List Nat
 | 0=>[1]
 | n + 1=>0 :: uL n
noncomputable def AE.li:AE → List Nat
 | .v i=>0 :: uL i
 | .k n=>[n]
 | .a x y=>aL x.li y.li
 | .m n x=>sL n x.li
noncomputable def dt:List Nat → List Nat → Nat
 | x :: c,y :: l=>x * y + dt c l
 | [],_=>0
 | _,[]=>0
noncomputable def leL:List Nat → List Nat → Bool
 | [],_=>true
 | x :: l,[]=>Nat.ble x 0 && leL l []
 | x :: l,y :: r=>Nat.ble x y && leL l r
theorem Zb2:∀ c,dt c [] = 0
 | []=>rfl
 | _ :: _=>rfl
theorem Zda:∀ c l r,dt c (aL l r) = dt c l + dt c r
 | c,[],r=>by rw [Zb2,Nat.zero_add]; rfl
 | c,x :: l,[]=>by rw [Zb2]; rfl
 | [],x :: l,y :: r=>rfl
 | z :: c,x :: l,y :: r=>by
  show z * (x + y) + dt c (aL l r) = _
  rw [Zda c l r,Nat.mul_add]; exact Nat.add_add_add_comm _ _ _ _
theorem ZfV (n:Nat):∀ c l,dt c (sL n l) = n * dt c l
 | c,[]=>by rw [Zb2]; exact Zb2 c
 | [],x :: l=>rfl
 | z :: c,x :: l=>by
  show z * (n * x) + dt c (sL n l) = n * (z * x + dt c l)
  rw [ZfV n c l,Nat.mul_add,Nat.mul_left_comm]
theorem ZkK:∀ c i,dt c (uL i) = Zkc c i
 | [],0=>rfl
 | [],_ + 1=>rfl
 | x :: c,0=>by show x * 1 + dt c [] = x; rw [Zb2,Nat.mul_one]; rfl
 | x :: c,n + 1=>by show x * 0 + dt c (uL n) = Zkc c n; rw [ZkK c n,Nat.mul_zero,Nat.zero_add]
theorem ZdT:∀ c l r,leL l r = true → dt c l ≤ dt c r
 | c,[],r,_=>by rw [Zb2]; exact Nat.zero_le _
 | [],x :: l,r,_=>Nat.zero_le _
 | z :: c,x :: l,[],h=>by
  have h:=(Bool.and_eq_true _ _).mp h
  have e:x = 0:=Nat.le_zero.1 (Nat.le_of_ble_eq_true h.1)
  have i:=ZdT c l [] h.2
  rw [Zb2] at i
  show z * x + dt c l ≤ 0
  rw [e,Nat.le_zero.1 i]; exact Nat.le_refl 0
 | z :: c,x :: l,y :: r,h=>
  have h:=(Bool.and_eq_true _ _).mp h
  Nat.add_le_add (Nat.mul_le_mul_left z (Nat.le_of_ble_eq_true h.1)) (ZdT c l r h.2)
theorem AE.li_ev (c:List Nat):∀ e:AE,dt (1 :: c) e.li = e.ev c
 | .v i=>(Nat.zero_add _).trans (ZkK c i)
 | .k n=>by show 1 * n + dt c [] = n; rw [Zb2,Nat.one_mul]; rfl
 | .a x y=>(Zda _ _ _).trans (congr (congrArg _ (x.li_ev c)) (y.li_ev c))
 | .m n x=>(ZfV n _ _).trans (congrArg _ (x.li_ev c))
noncomputable def rdE:Nat → Nat → AE × Nat
 | 0,s=>(.k 0,s)
 | f + 1,s=>bif Nat.ble (s % 16) 9 then (.v (s % 16),s / 16) else bif Nat.beq (s % 16) 10 then (.k 1,s / 16)
  else bif Nat.beq (s % 16) 11 then (.k (s / 256 % 16 ^ (s / 16 % 16)),s / 256 / 16 ^ (s / 16 % 16))
  else bif Nat.beq (s % 16) 12 then (.a (rdE f (s / 16)).1 (rdE f (rdE f (s / 16)).2).1,(rdE f (rdE f (s / 16)).2).2)
  else bif Nat.beq (s % 16) 13 then (.m (s / 16 % 256) (rdE f (s / 4096)).1,(rdE f (s / 4096)).2)
  else (.k 0,s / 16)
noncomputable def ZiA:Nat → Nat → Nat → Prop
 | 0,x,y=>x ≤ y
 | 1,x,y=>x < y
 | 2,x,y=>x = y
 | 3,x,y=>x = y
 | 4,x,y=>¬ x ≤ y
 | 5,x,y=>¬ x < y
 | _,_,_=>False
noncomputable def loN:Nat → AE → AE → List Nat
 | 0,x,_=>x.li
 | 1,x,_=>aL [1] x.li
 | 2,x,_=>x.li
 | 4,_,y=>aL [1] y.li
 | _,_,y=>y.li
noncomputable def hiN:Nat → AE → AE → List Nat
 | 0,_,y=>y.li
 | 1,_,y=>y.li
 | 2,_,y=>y.li
 | _,x,_=>x.li
noncomputable def Zfo (c:List Nat):Nat → Nat → Prop
 | 0,s=>ZiA (s % 16) ((rdE 9 (s / 16)).1.ev c) ((rdE 9 (rdE 9 (s / 16)).2).1.ev c)
 | n + 1,s=>ZiA (s / 16 % 16) ((rdE 9 (s / 256)).1.ev c) ((rdE 9 (rdE 9 (s / 256)).2).1.ev c) → Zfo c n (rdE 9 (rdE 9 (s / 256)).2).2
noncomputable def gN:Nat → AE → AE → List Nat → List Nat → Bool
 | 0,x,y,L,R=>leL (aL R x.li) (aL L y.li)
 | 1,x,y,L,R=>leL (aL [1] (aL R x.li)) (aL L y.li)
 | _,_,_,L,R=>leL (aL [1] R) L
noncomputable def chN:Nat → Nat → List Nat → List Nat → Bool
 | 0,s,L,R=>gN (s % 16) (rdE 9 (s / 16)).1 (rdE 9 (rdE 9 (s / 16)).2).1 L R
 | n + 1,s,L,R=>chN n (rdE 9 (rdE 9 (s / 256)).2).2 (aL L (sL (s % 16) (loN (s / 16 % 16) (rdE 9 (s / 256)).1 (rdE 9 (rdE 9 (s / 256)).2).1))) (aL R (sL (s % 16) (hiN (s / 16 % 16) (rdE 9 (s / 256)).1 (rdE 9 (rdE 9 (s / 256)).2).1)))
theorem Zeu (c l:List Nat):dt (1 :: c) (aL [1] l) = dt (1 :: c) l + 1:=by
 rw [Zda]; show 1 * 1 + dt c [] + _ = _; rw [Zb2]; exact Nat.add_comm _ _
theorem Zh1 (c:List Nat) (x y:AE):∀ r,ZiA r (x.ev c) (y.ev c) → dt (1 :: c) (loN r x y) ≤ dt (1 :: c) (hiN r x y)
 | 0,h=>by show dt _ x.li ≤ dt _ y.li; rw [x.li_ev,y.li_ev]; exact h
 | 1,h=>by show dt _ (aL [1] x.li) ≤ dt _ y.li; rw [Zeu,x.li_ev,y.li_ev]; exact h
 | 2,h=>by show dt _ x.li ≤ dt _ y.li; rw [x.li_ev,y.li_ev]; exact Nat.le_of_eq h
 | 3,h=>by show dt _ y.li ≤ dt _ x.li; rw [x.li_ev,y.li_ev]; exact Nat.le_of_eq h.symm
 | 4,h=>by show dt _ (aL [1] y.li) ≤ dt _ x.li; rw [Zeu,x.li_ev,y.li_ev]; exact Nat.lt_of_not_le h
 | 5,h=>by show dt _ y.li ≤ dt _ x.li; rw [x.li_ev,y.li_ev]; exact Nat.le_of_not_lt h
 | _ + 6,h=>h.elim
theorem Zm4 (c:List Nat) (x y:AE) (L R:List Nat) (h:dt (1 :: c) L ≤ dt (1 :: c) R):∀ r,gN r x y L R = true → ZiA r (x.ev c) (y.ev c)
 | 0,k=>by
  have e:=ZdT (1 :: c) _ _ k
  rw [Zda,Zda,x.li_ev,y.li_ev] at e
  exact Nat.le_of_add_le_add_left (Nat.le_trans e (Nat.add_le_add_right h _))
 | 1,k=>by
  have e:=ZdT (1 :: c) _ _ k
  rw [Zeu,Zda,Zda,x.li_ev,y.li_ev] at e
  exact Nat.lt_of_add_lt_add_left (Nat.le_trans e (Nat.add_le_add_right h _))
 | r + 2,k=>by
  have e:=ZdT (1 :: c) _ _ k
  rw [Zeu] at e
  exact absurd (Nat.le_trans e h) (Nat.not_succ_le_self _)
theorem arN (c:List Nat):∀ (n s:Nat) (L R:List Nat),dt (1 :: c) L ≤ dt (1 :: c) R → chN n s L R = true → Zfo c n s
 | 0,s,L,R,h,k=>Zm4 c _ _ L R h _ k
 | n + 1,s,L,R,h,k=>fun g=>arN c n _ _ _ (by
   rw [Zda,Zda,ZfV,ZfV]; exact Nat.add_le_add h (Nat.mul_le_mul_left _ (Zh1 c _ _ _ g))) k
end L3
theorem lN (c:List Nat) (n s:Nat) (h:L3.chN n s [] [] = true):L3.Zfo c n s:=L3.arN c n s [] [] (Nat.le_refl _) h
theorem sbA (a b:Nat):a ≤ a - b + b:=Nat.le_add_of_sub_le (Nat.le_refl _)
theorem T1:true = true:=rfl
theorem lA {a:Nat} (n s:Nat) (y:L3.chN n s [] [] = true):L3.Zfo [a] n s:=lN _ n s y
theorem lB {a b:Nat} (n s:Nat) (y:L3.chN n s [] [] = true):L3.Zfo [a,b] n s:=lN _ n s y
theorem lC {a b c:Nat} (n s:Nat) (y:L3.chN n s [] [] = true):L3.Zfo [a,b,c] n s:=lN _ n s y
theorem lD {a b c d:Nat} (n s:Nat) (y:L3.chN n s [] [] = true):L3.Zfo [a,b,c,d] n s:=lN _ n s y
theorem lE {a b c d e:Nat} (n s:Nat) (y:L3.chN n s [] [] = true):L3.Zfo [a,b,c,d,e] n s:=lN _ n s y
theorem lF {a b c d e f:Nat} (n s:Nat) (y:L3.chN n s [] [] = true):L3.Zfo [a,b,c,d,e,f] n s:=lN _ n s y
theorem clA (w:Int):max w 0 = (w.toNat:Int):=(Int.ofNat_toNat w).symm
theorem clB (v:Int) (n:Nat) (h:¬ v < 0):min v (n:Int) = ((min v.toNat n:Nat):Int):=by
 obtain ⟨k,rfl⟩:=Int.eq_ofNat_of_zero_le (Int.not_lt.1 h)
 rcases Nat.le_total k n with z | z
 ·rw [Int.min_eq_left (Int.ofNat_le.2 z)]; exact congrArg Int.ofNat (Nat.min_eq_left z).symm
 ·rw [Int.min_eq_right (Int.ofNat_le.2 z)]; exact congrArg Int.ofNat (Nat.min_eq_right z).symm
theorem clC (v:Int) (n:Nat) (h:v < 0):max 0 (min (v + (n:Int)) (n:Int)) = ((v + (n:Int)).toNat:Int):=by
 rw [Int.min_eq_left (Int.le_of_lt (Int.lt_of_lt_of_le (Int.add_lt_add_right h _) (Int.le_of_eq (Int.zero_add _)))),Int.max_comm]; exact clA _
theorem clD (v:Int) (n:Nat) (h:¬ v < 0):max 0 (min v (n:Int)) = ((min v.toNat n:Nat):Int):=by
 rw [clB v n h]; exact Int.max_eq_right (Int.natCast_nonneg _)
namespace L3
set_option genSizeOf false in
set_option genInjectivity false in
inductive AI where
 | v (i:Nat)
 | k (n:Nat)
 | c (e:AE)
 | a (x y:AI)
 | s (x y:AI)
 | g (x:AI)
 | m (n:Nat) (x:AI)
noncomputable def Zh6:List Int → Nat → Int
 | [],_=>0
 | x :: _,0=>x
 | _ :: l,n + 1=>Zh6 l n
noncomputable def AI.ev (c:List Nat) (d:List Int):AI → Int
 | .v i=>Zh6 d i
 | .k n=>Int.ofNat n
 | .c e=>((e.ev c:Nat):Int)
 | .a x y=>x.ev c d + y.ev c d
 | .s x y=>x.ev c d - y.ev c d
 | .g x=>-x.ev c d
 | .m n x=>Int.ofNat n * x.ev c d
noncomputable def pL (u w:List Nat × List Nat):List Nat × List Nat:=(aL u.1 w.1,aL u.2 w.2)
noncomputable def AI.li:AI → Bool → List Nat × List Nat
 | .v i,b=>bif b then ([],uL i) else ([],[])
 | .k n,b=>bif b then ([n],[]) else ([],[])
 | .c e,b=>bif b then (e.li,[]) else ([],[])
 | .a x y,b=>pL (x.li b) (y.li b)
 | .s x y,b=>pL (x.li b) (y.li (!b))
 | .g x,b=>x.li (!b)
 | .m n x,b=>(sL n (x.li b).1,sL n (x.li b).2)
noncomputable def dtI:List Int → List Nat → Int
 | x :: c,y :: l=>x * (y:Int) + dtI c l
 | [],_=>0
 | _,[]=>0
noncomputable def dI (c:List Nat) (d:List Int) (u:List Nat × List Nat):Int:=((dt (1 :: c) u.1:Nat):Int) + dtI d u.2
theorem ZkD (p q r s:Int):p + q + (r + s) = p + r + (q + s):=by omega
theorem Zbv:∀ c,dtI c [] = 0
 | []=>rfl
 | _ :: _=>rfl
theorem ZhS:∀ c l r,dtI c (aL l r) = dtI c l + dtI c r
 | c,[],r=>by rw [Zbv,Int.zero_add]; rfl
 | c,x :: l,[]=>by rw [Zbv,Int.add_zero]; rfl
 | [],x :: l,y :: r=>rfl
 | z :: c,x :: l,y :: r=>by
  show z * ((x + y:Nat):Int) + dtI c (aL l r) = (z * x + dtI c l) + (z * y + dtI c r)
  rw [ZhS c l r,Int.natCast_add,Int.mul_add]; exact ZkD _ _ _ _
theorem ZiP (n:Nat):∀ c l,dtI c (sL n l) = Int.ofNat n * dtI c l
 | c,[]=>by rw [Zbv,Int.mul_zero]; exact Zbv c
 | [],x :: l=>(Int.mul_zero _).symm
 | z :: c,x :: l=>by
  show z * ((n * x:Nat):Int) + dtI c (sL n l) = Int.ofNat n * (z * x + dtI c l)
  rw [ZiP n c l,Int.mul_add,Int.natCast_mul,Int.mul_left_comm]; rfl
theorem Zjb:∀ c i,dtI c (uL i) = Zh6 c i
 | [],0=>rfl
 | [],_ + 1=>rfl
 | x :: c,0=>by show x * 1 + dtI c [] = x; rw [Zbv,Int.mul_one,Int.add_zero]
 | x :: c,n + 1=>by show x * 0 + dtI c (uL n) = Zh6 c n; rw [Zjb c n,Int.mul_zero,Int.zero_add]
section
variable (c:List Nat) (d:List Int)
theorem Zb4 (u w:List Nat × List Nat):dI c d (pL u w) = dI c d u + dI c d w:=by
 show ((dt (1 :: c) (aL u.1 w.1):Nat):Int) + dtI d (aL u.2 w.2) = _
 rw [Zda,ZhS,Int.natCast_add]; exact ZkD _ _ _ _
theorem Zhf (n:Nat) (u:List Nat × List Nat):dI c d (sL n u.1,sL n u.2) = Int.ofNat n * dI c d u:=by
 show ((dt (1 :: c) (sL n u.1):Nat):Int) + dtI d (sL n u.2) = _
 rw [ZfV,ZiP,Int.natCast_mul]; exact (Int.mul_add _ _ _).symm
theorem Zls:dI c d ([],[]) = 0:=by
 show ((dt (1 :: c) []:Nat):Int) + dtI d [] = 0
 rw [Zb2,Zbv]; rfl
theorem ZlU (p q r s:Int):p - q + (r - s) = p + r - (q + s):=by omega
theorem Zi1 (p q r s:Int):p - q - (r - s) = p + s - (q + r):=by omega
theorem AI.li_ev:∀ e:AI,e.ev c d = dI c d (e.li true) - dI c d (e.li false)
 | .v i=>by show Zh6 d i = dI c d ([],uL i) - dI c d ([],[]); rw [Zls,Int.sub_zero]; show _ = ((dt (1 :: c) []:Nat):Int) + dtI d (uL i); rw [Zb2,Zjb]; exact (Int.zero_add _).symm
 | .k n=>by show Int.ofNat n = dI c d ([n],[]) - dI c d ([],[]); rw [Zls,Int.sub_zero]; show _ = ((dt (1 :: c) [n]:Nat):Int) + dtI d []; rw [Zbv,Int.add_zero]; show _ = ((1 * n + dt c []:Nat):Int); rw [Zb2,Nat.one_mul]; rfl
 | .c e=>by show ((e.ev c:Nat):Int) = dI c d (e.li,[]) - dI c d ([],[]); rw [Zls,Int.sub_zero]; show _ = ((dt (1 :: c) e.li:Nat):Int) + dtI d []; rw [Zbv,Int.add_zero,e.li_ev]
 | .a x y=>by show x.ev c d + y.ev c d = dI c d (pL (x.li true) (y.li true)) - dI c d (pL (x.li false) (y.li false)); rw [Zb4,Zb4,x.li_ev,y.li_ev]; exact ZlU _ _ _ _
 | .s x y=>by show x.ev c d - y.ev c d = dI c d (pL (x.li true) (y.li false)) - dI c d (pL (x.li false) (y.li true)); rw [Zb4,Zb4,x.li_ev,y.li_ev]; exact Zi1 _ _ _ _
 | .g x=>by show -x.ev c d = dI c d (x.li false) - dI c d (x.li true); rw [x.li_ev]; exact Int.neg_sub _ _
 | .m n x=>by show Int.ofNat n * x.ev c d = dI c d (sL n (x.li true).1,sL n (x.li true).2) - dI c d (sL n (x.li false).1,sL n (x.li false).2); rw [Zhf,Zhf,x.li_ev]; exact Int.mul_sub _ _ _
noncomputable def cI (x y:AI):List Nat × List Nat:=pL (x.li true) (y.li false)
noncomputable def Zgn (u:List Nat × List Nat):List Nat × List Nat:=(aL [1] u.1,u.2)
theorem Zfj (u:List Nat × List Nat):dI c d (Zgn u) = dI c d u + 1:=by
 show ((dt (1 :: c) (aL [1] u.1):Nat):Int) + dtI d u.2 = ((dt (1 :: c) u.1:Nat):Int) + dtI d u.2 + 1
 rw [Zeu,Int.natCast_add,Int.add_right_comm]; rfl
theorem ZfC (x y:AI):dI c d (cI x y) - dI c d (cI y x) = x.ev c d - y.ev c d:=by
 unfold cI
 rw [Zb4,Zb4,x.li_ev,y.li_ev,Zi1,Int.add_comm (dI c d (y.li true))]
theorem Zg2 {x y:AI} (h:x.ev c d ≤ y.ev c d):dI c d (cI x y) ≤ dI c d (cI y x):=by
 have:=ZfC c d x y; omega
theorem Zne {x y:AI} (h:dI c d (cI x y) ≤ dI c d (cI y x)):x.ev c d ≤ y.ev c d:=by
 have:=ZfC c d x y; omega
noncomputable def Znb:Nat → Int → Int → Prop
 | 0,x,y=>x ≤ y
 | 1,x,y=>x < y
 | 2,x,y=>x = y
 | 3,x,y=>x = y
 | 4,x,y=>¬ x ≤ y
 | 5,x,y=>¬ x < y
 | _,_,_=>False
noncomputable def loI:Nat → AI → AI → List Nat × List Nat
 | 0,x,y=>cI x y
 | 1,x,y=>Zgn (cI x y)
 | 2,x,y=>cI x y
 | 4,x,y=>Zgn (cI y x)
 | _,x,y=>cI y x
noncomputable def hiI:Nat → AI → AI → List Nat × List Nat
 | 0,x,y=>cI y x
 | 1,x,y=>cI y x
 | 2,x,y=>cI y x
 | _,x,y=>cI x y
theorem Zky {x y:AI} (h:x.ev c d < y.ev c d):dI c d (Zgn (cI x y)) ≤ dI c d (cI y x):=by
 have:=ZfC c d x y; rw [Zfj]; omega
theorem Zl2 (x y:AI):∀ r,Znb r (x.ev c d) (y.ev c d) → dI c d (loI r x y) ≤ dI c d (hiI r x y)
 | 0,h=>Zg2 c d h
 | 1,h=>Zky c d h
 | 2,h=>Zg2 c d (Int.le_of_eq h)
 | 3,h=>Zg2 c d (Int.le_of_eq h.symm)
 | 4,h=>Zky c d (Int.not_le.1 h)
 | 5,h=>Zg2 c d (Int.not_lt.1 h)
 | _ + 6,h=>h.elim
end
noncomputable def rdI:Nat → Nat → AI × Nat
 | 0,s=>(.k 0,s)
 | f + 1,s=>bif Nat.ble (s % 16) 7 then (.v (s % 16),s / 16) else bif Nat.beq (s % 16) 8 then (.c (rdE 9 (s / 16)).1,(rdE 9 (s / 16)).2)
  else bif Nat.beq (s % 16) 9 then (.g (rdI f (s / 16)).1,(rdI f (s / 16)).2) else bif Nat.beq (s % 16) 10 then (.k 1,s / 16)
  else bif Nat.beq (s % 16) 11 then (.k (s / 256 % 16 ^ (s / 16 % 16)),s / 256 / 16 ^ (s / 16 % 16))
  else bif Nat.beq (s % 16) 12 then (.a (rdI f (s / 16)).1 (rdI f (rdI f (s / 16)).2).1,(rdI f (rdI f (s / 16)).2).2)
  else bif Nat.beq (s % 16) 13 then (.m (s / 16 % 256) (rdI f (s / 4096)).1,(rdI f (s / 4096)).2)
  else bif Nat.beq (s % 16) 14 then (.k 0,s / 16) else (.s (rdI f (s / 16)).1 (rdI f (rdI f (s / 16)).2).1,(rdI f (rdI f (s / 16)).2).2)
noncomputable def hP (c:List Nat) (d:List Int) (r s:Nat):Prop:=bif Nat.ble 8 r then Znb (r - 8) ((rdI 9 s).1.ev c d) ((rdI 9 (rdI 9 s).2).1.ev c d) else ZiA r ((rdE 9 s).1.ev c) ((rdE 9 (rdE 9 s).2).1.ev c)
noncomputable def hR (r s:Nat):Nat:=bif Nat.ble 8 r then (rdI 9 (rdI 9 s).2).2 else (rdE 9 (rdE 9 s).2).2
noncomputable def hL (r s:Nat):List Nat × List Nat:=bif Nat.ble 8 r then loI (r - 8) (rdI 9 s).1 (rdI 9 (rdI 9 s).2).1 else (loN r (rdE 9 s).1 (rdE 9 (rdE 9 s).2).1,[])
noncomputable def hH (r s:Nat):List Nat × List Nat:=bif Nat.ble 8 r then hiI (r - 8) (rdI 9 s).1 (rdI 9 (rdI 9 s).2).1 else (hiN r (rdE 9 s).1 (rdE 9 (rdE 9 s).2).1,[])
theorem ZmG (c:List Nat) (d:List Int) (r s:Nat) (h:hP c d r s):dI c d (hL r s) ≤ dI c d (hH r s):=by
 unfold hP at h
 unfold hL hH
 cases e:Nat.ble 8 r <;> rw [e] at h
 ·exact Int.add_le_add_right (Int.ofNat_le.2 (Zh1 c _ _ _ h)) _
 ·exact Zl2 c d _ _ _ h
noncomputable def zL:List Nat → Bool
 | []=>true
 | x :: l=>Nat.beq x 0 && zL l
noncomputable def eqL:List Nat → List Nat → Bool
 | [],r=>zL r
 | x :: l,[]=>Nat.beq x 0 && zL l
 | x :: l,y :: r=>Nat.beq x y && eqL l r
theorem ZiI:∀ c l,zL l = true → dtI c l = 0
 | c,[],_=>Zbv c
 | [],x :: l,_=>rfl
 | z :: c,x :: l,h=>by
  have h:=(Bool.and_eq_true _ _).mp h
  show z * (x:Int) + dtI c l = 0
  rw [Nat.eq_of_beq_eq_true h.1,ZiI c l h.2,Int.add_zero]; exact Int.mul_zero z
theorem Zim:∀ c l r,eqL l r = true → dtI c l = dtI c r
 | c,[],r,h=>(Zbv c).trans (ZiI c r h).symm
 | c,x :: l,[],h=>(ZiI c (x :: l) h).trans (Zbv c).symm
 | [],x :: l,y :: r,_=>rfl
 | z :: c,x :: l,y :: r,h=>by
  have h:=(Bool.and_eq_true _ _).mp h
  show z * (x:Int) + dtI c l = z * (y:Int) + dtI c r
  rw [Nat.eq_of_beq_eq_true h.1,Zim c l r h.2]
noncomputable def leP (u w:List Nat × List Nat):Bool:=leL u.1 w.1 && eqL u.2 w.2
theorem ZeE (c:List Nat) (d:List Int) {u w:List Nat × List Nat} (h:leP u w = true):dI c d u ≤ dI c d w:=by
 have h:=(Bool.and_eq_true _ _).mp h
 exact Int.add_le_add (Int.ofNat_le.2 (ZdT _ _ _ h.1)) (Int.le_of_eq (Zim d _ _ h.2))
noncomputable def ZlK (c:List Nat) (d:List Int):Nat → Nat → Prop
 | 0,s=>hP c d (s % 16) (s / 16)
 | n + 1,s=>hP c d (s / 16 % 16) (s / 256) → ZlK c d n (hR (s / 16 % 16) (s / 256))
noncomputable def gI (r s:Nat) (L R:List Nat × List Nat):Bool:=bif Nat.beq r 0 then leP (pL R ((rdE 9 s).1.li,[])) (pL L ((rdE 9 (rdE 9 s).2).1.li,[]))
 else bif Nat.beq r 1 then leP (Zgn (pL R ((rdE 9 s).1.li,[]))) (pL L ((rdE 9 (rdE 9 s).2).1.li,[]))
 else bif Nat.beq r 8 then leP (pL R (cI (rdI 9 s).1 (rdI 9 (rdI 9 s).2).1)) (pL L (cI (rdI 9 (rdI 9 s).2).1 (rdI 9 s).1))
 else bif Nat.beq r 9 then leP (Zgn (pL R (cI (rdI 9 s).1 (rdI 9 (rdI 9 s).2).1))) (pL L (cI (rdI 9 (rdI 9 s).2).1 (rdI 9 s).1))
 else leP (Zgn R) L
noncomputable def chI:Nat → Nat → List Nat × List Nat → List Nat × List Nat → Bool
 | 0,s,L,R=>gI (s % 16) (s / 16) L R
 | n + 1,s,L,R=>chI n (hR (s / 16 % 16) (s / 256)) (pL L (sL (s % 16) (hL (s / 16 % 16) (s / 256)).1,sL (s % 16) (hL (s / 16 % 16) (s / 256)).2)) (pL R (sL (s % 16) (hH (s / 16 % 16) (s / 256)).1,sL (s % 16) (hH (s / 16 % 16) (s / 256)).2))
theorem ZgT (c:List Nat) (d:List Int) (e:AE):dI c d (e.li,[]) = ((e.ev c:Nat):Int):=by
 show ((dt (1 :: c) e.li:Nat):Int) + dtI d [] = _
 rw [Zbv,Int.add_zero,e.li_ev]
theorem Zih {a b l r:Int} (h:l ≤ r) (e:r + a ≤ l + b):a ≤ b:=by omega
theorem ZiL {a b l r:Int} (h:l ≤ r) (e:r + a + 1 ≤ l + b):a < b:=by omega
theorem ZlQ {l r:Int} (h:l ≤ r) (e:r + 1 ≤ l):False:=by omega
theorem Zm6 (c:List Nat) (d:List Int) (r s:Nat) (L R:List Nat × List Nat) (h:dI c d L ≤ dI c d R) (k:gI r s L R = true):hP c d r s:=by
 unfold gI at k
 cases e0:Nat.beq r 0 with
 | true=>
  rw [Nat.eq_of_beq_eq_true e0] at k ⊢
  have e:=ZeE c d k
  rw [Zb4,Zb4,ZgT,ZgT] at e
  exact Int.ofNat_le.1 (Zih h e)
 | false=>
  cases e1:Nat.beq r 1 with
  | true=>
   rw [Nat.eq_of_beq_eq_true e1] at k ⊢
   have e:=ZeE c d k
   rw [Zfj,Zb4,Zb4,ZgT,ZgT] at e
   exact Int.ofNat_lt.1 (ZiL h e)
  | false=>
   cases e8:Nat.beq r 8 with
   | true=>
    rw [Nat.eq_of_beq_eq_true e8] at k ⊢
    have e:=ZeE c d k
    rw [Zb4,Zb4] at e
    exact Zne c d (Zih h e)
   | false=>
    cases e9:Nat.beq r 9 with
    | true=>
     rw [Nat.eq_of_beq_eq_true e9] at k ⊢
     have e:=ZeE c d k
     rw [Zfj,Zb4,Zb4] at e
     have z:=ZiL h e
     have y:=ZfC c d (rdI 9 s).1 (rdI 9 (rdI 9 s).2).1
     show (rdI 9 s).1.ev c d < (rdI 9 (rdI 9 s).2).1.ev c d
     exact Int.lt_of_sub_neg (y ▸ Int.sub_neg_of_lt z)
    | false=>
     rw [e0,e1,e8,e9] at k
     have e:=ZeE c d k
     rw [Zfj] at e
     exact (ZlQ h e).elim
theorem arI (c:List Nat) (d:List Int):∀ (n s:Nat) (L R:List Nat × List Nat),dI c d L ≤ dI c d R → chI n s L R = true → ZlK c d n s
 | 0,s,L,R,h,k=>Zm6 c d _ _ L R h k
 | n + 1,s,L,R,h,k=>fun g=>arI c d n _ _ _ (by
   rw [Zb4,Zb4,Zhf,Zhf]; exact Int.add_le_add h (Int.mul_le_mul_of_nonneg_left (ZmG c d _ _ g) (Int.natCast_nonneg _))) k
end L3
theorem iN (c:List Nat) (d:List Int) (n s:Nat) (h:L3.chI n s ([],[]) ([],[]) = true):L3.ZlK c d n s:=L3.arI c d n s ([],[]) ([],[]) (Int.le_refl _) h
set_option Elab.async false
set_option linter.all false
set_option maxRecDepth 100000
namespace L2
open PySem PySem.Spec PyProof.Rows
noncomputable abbrev Key:=Sum Int Str
noncomputable def Zkx:Key → Value → Bool
 | .inl k,v=>Value.isInt k v
 | .inr x,v=>Value.isStrOf x v
noncomputable def Zos (w:World):Key → Int
 | .inl k=>hashInt k
 | .inr x=>hashStr w x
theorem ZaP:∀ {k:Key} {v:Value},Zkx k v = true → (∃ i t,k = Sum.inl i ∧ v = Value.int i t) ∨ (∃ x t,k = Sum.inr x ∧ v = Value.str x t)
 | .inl i,v,h=>by
  obtain ⟨t,e⟩:=Value.isInt_shape (k:=i) (v:=v) h
  exact .inl ⟨i,t,rfl,e⟩
 | .inr x,v,h=>by
  obtain ⟨t,e⟩:=Value.isStrOf_shape (x:=x) (v:=v) h
  exact .inr ⟨x,t,rfl,e⟩
theorem ZlF (a b:Int):decide ((Sum.inl a:Key) = Sum.inl b) = (a == b):=by
 by_cases e:a = b
 ·subst e; simp
 ·have h:¬ (Sum.inl a:Key) = Sum.inl b:=fun q=>e (Sum.inl.inj q)
  rw [decide_eq_false h]
  exact (beq_eq_false_iff_ne.mpr e).symm
theorem ZkS (a b:Str):decide ((Sum.inr a:Key) = Sum.inr b) = decide (a = b):=by
 by_cases e:a = b
 ·subst e; simp
 ·have h:¬ (Sum.inr a:Key) = Sum.inr b:=fun q=>e (Sum.inr.inj q)
  rw [decide_eq_false h,decide_eq_false e]
theorem Zlo (a:Int) (b:Str):decide ((Sum.inl a:Key) = Sum.inr b) = false:=decide_eq_false (fun q=>nomatch q)
theorem Zmf (a:Str) (b:Int):decide ((Sum.inr a:Key) = Sum.inl b) = false:=decide_eq_false (fun q=>nomatch q)
noncomputable def ZgM (prog:Program) (w:World):PySem.KeyKind prog w Key where
 is:=Zkx
 hash:=Zos w
 inj:=fun v a b ha hb=>by
  rcases ZaP ha with ⟨i,t,rfl,rfl⟩ | ⟨x,t,rfl,rfl⟩
  ·rcases ZaP hb with ⟨j,u,rfl,e⟩ | ⟨y,u,rfl,e⟩
   ·injection e with e1 _; rw [e1]
   ·exact nomatch e
  ·rcases ZaP hb with ⟨j,u,rfl,e⟩ | ⟨y,u,rfl,e⟩
   ·exact nomatch e
   ·injection e with e1 _; rw [e1]
 byValue:=fun k v h=>by
  rcases ZaP h with ⟨i,t,rfl,rfl⟩ | ⟨x,t,rfl,rfl⟩ <;> rfl
 pyHash:=fun hv h=>by
  rcases ZaP hv with ⟨i,t,rfl,rfl⟩ | ⟨x,t,rfl,rfl⟩
  ·exact wpAny_pyHash_int h
  ·exact wpAny_pyHash_str h
 eqBool:=fun hu hv h=>by
  rcases ZaP hu with ⟨i,t,rfl,rfl⟩ | ⟨x,t,rfl,rfl⟩
  ·rcases ZaP hv with ⟨j,u,rfl,rfl⟩ | ⟨y,u,rfl,rfl⟩
   ·rw [ZlF] at h; exact wpAny_eqBool_int h
   ·rw [Zlo] at h; exact SeqAt.EqAt.int_str i t y u _ _ _ _ h
  ·rcases ZaP hv with ⟨j,u,rfl,rfl⟩ | ⟨y,u,rfl,rfl⟩
   ·rw [Zmf] at h; exact SeqAt.EqAt.str_int x t j u _ _ _ _ h
   ·rw [ZkS] at h; exact wpAny_eqBool_str h
 «strs»:=fun k x t v h=>by
  rcases ZaP h with ⟨i,u,rfl,e⟩ | ⟨y,u,rfl,e⟩
  ·exact nomatch e
  ·injection e with e1 _
   subst e1
   cases v <;> rfl
end L2
namespace L2
open PySem PySem.Spec PyProof.Rows
inductive V where
 | non | bl (b:Bool) | int (i:Int) | str (x:Str) | byt (b:Array UInt8) | flt (b:UInt64) | ref (a:Addr) | ty (n:String)
 deriving DecidableEq
noncomputable def RelV:V → Value → Prop
 | .non,u=>u = Value.none
 | .bl b,u=>u = Value.bool b
 | .int i,u=>∃ t,u = Value.int i t
 | .str x,u=>∃ t,u = Value.str x t
 | .byt b,u=>∃ t,u = Value.bytes b t
 | .flt b,u=>∃ t,u = Value.float b t
 | .ref a,u=>u = Value.ref a
 | .ty n,u=>u = Value.type n
noncomputable abbrev Vals:List V → List Value → Prop:=Paired RelV
theorem Vals.length {xs:List V} {us:List Value} (r:Vals xs us):xs.length = us.length:=Paired.length r
theorem Vals.get:∀ {xs:List V} {us:List Value} {i:Nat} {x:V},Vals xs us → xs[i]? = some x → ∃ u,us[i]? = some u ∧ RelV x u
 | _,_,_,_,.nil,e=>by simp at e
 | _,_,0,_,.cons r _,e=>by simp at e; subst e; exact ⟨_,rfl,r⟩
 | _,_,i + 1,x,.cons _ t,e=>by
  obtain ⟨u,h1,h2⟩:=Vals.get (i:=i) (x:=x) t (by simpa using e)
  exact ⟨u,by simpa using h1,h2⟩
theorem Vals.set {x:V} {u:Value} (r:RelV x u):∀ {xs:List V} {us:List Value} (i:Nat),Vals xs us → Vals (xs.set i x) (us.set i u)
 | _,_,_,.nil=>.nil
 | _,_,0,.cons _ t=>.cons r t
 | _,_,i + 1,.cons q t=>.cons q (Vals.set r i t)
theorem Vals.append:∀ {xs ys:List V} {us ws:List Value},Vals xs us → Vals ys ws → Vals (xs ++ ys) (us ++ ws)
 | _,_,_,_,.nil,s=>s
 | _,_,_,_,.cons r t,s=>.cons r (Vals.append t s)
theorem Vals.take:∀ {xs:List V} {us:List Value} (n:Nat),Vals xs us → Vals (xs.take n) (us.take n)
 | _,_,0,_=>.nil
 | _,_,_ + 1,.nil=>.nil
 | _,_,n + 1,.cons r t=>.cons r (Vals.take n t)
theorem Vals.drop:∀ {xs:List V} {us:List Value} (n:Nat),Vals xs us → Vals (xs.drop n) (us.drop n)
 | _,_,0,r=>r
 | _,_,_ + 1,.nil=>.nil
 | _,_,n + 1,.cons _ t=>Vals.drop n t
noncomputable def Zc6:Option V → Option Value → Prop
 | some v,some u=>RelV v u
 | none,none=>True
 | _,_=>False
noncomputable def KV {κ:Type}:List (κ × V) → List (κ × Value) → Prop:=Paired fun (p:κ × V) (q:κ × Value)=>p.1 = q.1 ∧ RelV p.2 q.2
noncomputable def kV:Key → V
 | .inl i=>.int i
 | .inr x=>.str x
inductive HO where
 /-- a list -/
 | lst (xs:List V)
 /-- a tuple (never changes) -/
 | tup (xs:List V)
 /-- a dict whose keys are ints and texts; one whose keys are tuples of ints and texts (the empty one is both) -/
 | dK (kvs:List (Key × V)) | dT (kvs:List (List Key × V))
 /-- a set of ints: its members,its size -/
 | set (S:Int → Bool) (n:Nat)
 /-- an instance of the class at C,its dict at dx,its attributes -/
 | ins (C dx:Addr) (fs:List (Str × V))
 /-- the dict of the instance at x -/
 | own (x:Addr)
 /-- the dict of an exception -/
 | xd (fs:List (Str × V))
 /-- a bound method,f of x -/
 | met (f x:Addr)
 /-- a range object lo,lo + 1,.. below hi -/
 | rng (lo hi:Int)
 /-- a thing that is known to the object (the script; a dict while a loop walks it): read,never written while it is so -/
 | frz (o:Obj) (u:HO)
 /-- a code object's table -/
 | tbl (ps:Array Value)
 /-- any other thing,by what is true of its one object (a def of one's own: SetO a S n:=HO.ext fun h=>..) -/
 | ext (φ:Heap → Prop)
noncomputable abbrev Hp:=Addr → Option HO
noncomputable def upd (H:Hp) (a:Addr) (o:HO):Hp:=fun b=>if b = a then some o else H b
theorem ZaQ {H:Hp} {a:Addr} {o:HO}:upd H a o a = some o:=by unfold upd; rw [if_pos rfl]
theorem Zan {H:Hp} {a b:Addr} {o:HO} (h:b ≠ a):upd H a o b = H b:=by unfold upd; rw [if_neg h]
theorem ZaR {H:Hp} {a b:Addr} {o:HO} (h:H a = some o) (h':H b = none):a ≠ b:=by
 intro e; subst e; rw [h] at h'; cases h'
section
variable (P:Program) (w:World)
noncomputable def ZcS (h:Heap) (a:Addr) (items:Array Value):Prop:=∃ o,h.get? a = some o ∧ (o.cls = .type "tuple" ∧ o.dict = none) ∧ ∃ n,o.data = .seq items n
theorem ZcS.tup {h:Heap} {a:Addr} {items:Array Value} (x:ZcS h a items):IsTup h a items:=let ⟨o,e,c,d⟩:=x; ⟨o,e,c.1,d⟩
theorem ZcS.new (h:Heap) (items:Array Value):ZcS (h.push { cls:=.type "tuple",data:=.seq items }) h.objs.size items:=⟨_,Heap.get?_push_size _ rfl,⟨rfl,rfl⟩,0,rfl⟩
noncomputable def ZaZ (H:Hp) (h:Heap) (a:Addr):HO → Prop
 | .lst xs=>xs.length ≤ sizeLine ∧ ∃ (its:List Value) (n:Nat),Vals xs its ∧ h.get? a = some { cls:=.type "list",data:=.seq its.toArray n }
 | .tup xs=>xs.length ≤ sizeLine ∧ ∃ its:List Value,Vals xs its ∧ ZcS h a its.toArray
 | .dK kvs=>kvs.length ≤ sizeLine ∧ (a == sysModules) = false ∧ ∃ vs,KV kvs vs ∧ h.DictOf (ZgM P w) a vs
 | .dT kvs=>kvs.length ≤ sizeLine ∧ (a == sysModules) = false ∧ ∃ xs:List (List Key × Addr × Value),
   Paired (fun (p:List Key × V) (q:List Key × Addr × Value)=>p.1 = q.1 ∧ H q.2.1 = some (.tup (p.1.map kV)) ∧ RelV p.2 q.2.2) kvs xs ∧
   ∃ o es ep,h.get? a = some o ∧ o.ExactDict ∧ o.data = .dict es ep ∧ es.toList = xs.map (entryOfKey (tupleKind (ZgM P w))) ∧ (xs.map (·.1)).Nodup
 | .set S n=>h.SetOf (intKind P w) a S n
 | .ins C dx fs=>H dx = some (.own a) ∧ fs.length ≤ 1000 ∧ dx ≠ a ∧ h.get? a = some (PySem.W.instObj C dx) ∧
   ∃ mA,h.Ns1 dx mA ∧ (∀ f,Zc6 (fs.lookup f) (mA f)) ∧ PySem.Within mA (fs.map (·.1))
 | .own _=>∃ o,h.get? a = some o
 | .xd fs=>∃ mA,h.Ns1 a mA ∧ ∀ f,Zc6 (fs.lookup f) (mA f)
 | .rng lo hi=>∃ t u v,h.get? a = some { cls:=.type "range",data:=.fields #[.int lo t,.int hi u,.int 1 v] }
 | .frz o u=>h.get? a = some o ∧ ZaZ H h a u
 | .tbl ps=>h.get? a = some { cls:=.none,data:=.fields ps }
 | .met f x=>h.get? a = some (PySem.W.methodObj (.ref f) (.ref x))
 | .ext φ=>φ h ∧ (∃ o,h.get? a = some o) ∧ ∀ h1 h2:Heap,φ h1 → (∀ o,h1.get? a = some o → h2.get? a = some o) → φ h2
noncomputable def HOk (H:Hp) (h:Heap):Prop:=∀ a o,H a = some o → ZaZ P w H h a o
end
section
variable {P:Program} {w:World} {H H':Hp} {h h':Heap} {a:Addr} {o:HO}
theorem ZaZ.lt (x:ZaZ P w H h a o):a < h.objs.size:=by
 cases o with
 | lst xs=>obtain ⟨_,_,_,_,e⟩:=x; exact Heap.lt_size e
 | tup xs=>obtain ⟨_,_,_,p⟩:=x; exact p.tup.lt
 | dK kvs=>obtain ⟨_,_,_,_,o,_,_,e,_⟩:=x; exact Heap.lt_size e
 | dT kvs=>obtain ⟨_,_,_,_,o,_,_,e,_⟩:=x; exact Heap.lt_size e
 | set S n=>obtain ⟨o,_,_,_,e,_⟩:=x; exact Heap.lt_size e
 | ins C dx fs=>obtain ⟨_,_,_,e,_⟩:=x; exact Heap.lt_size e
 | own y=>obtain ⟨_,e⟩:=x; exact Heap.lt_size e
 | xd fs=>obtain ⟨_,⟨_,_,_,e,_⟩,_⟩:=x; exact Heap.lt_size e
 | rng lo hi=>obtain ⟨_,_,_,e⟩:=x; exact Heap.lt_size e
 | frz ob u=>obtain ⟨e,_⟩:=x; exact Heap.lt_size e
 | tbl ps=>exact Heap.lt_size (show h.get? a = some _ from x)
 | met f y=>exact Heap.lt_size (show h.get? a = some _ from x)
 | ext φ=>obtain ⟨_,⟨_,e⟩,_⟩:=x; exact Heap.lt_size e
theorem Paired.mapP {α β:Type} {F G:α → β → Prop}:∀ {l₁:List α} {l₂:List β},Paired F l₁ l₂ → (∀ a b,F a b → G a b) → Paired G l₁ l₂
 | _,_,.nil,_=>.nil
 | _,_,.cons r t,f=>.cons (f _ _ r) (Paired.mapP t f)
theorem ZaZ.stay (x:ZaZ P w H h a o) (k:∀ b u,(b = a ∨ H b = some (.own a)) → h.get? b = some u → h'.get? b = some u)
  (ho:∀ b,H b = some (.own a) → H' b = some (.own a)) (ht:∀ b xs,H b = some (.tup xs) → H' b = some (.tup xs)):ZaZ P w H' h' a o:=by
 induction o with
 | lst xs=>obtain ⟨z,its,n,r,e⟩:=x; exact ⟨z,its,n,r,k _ _ (.inl rfl) e⟩
 | tup xs=>obtain ⟨z,its,r,ob,e,c⟩:=x; exact ⟨z,its,r,ob,k _ _ (.inl rfl) e,c⟩
 | dK kvs=>obtain ⟨z,y,vs,r,ob,es,ep,e,c⟩:=x; exact ⟨z,y,vs,r,ob,es,ep,k _ _ (.inl rfl) e,c⟩
 | dT kvs=>
  obtain ⟨z,y,xs,r,ob,es,ep,e,c⟩:=x
  exact ⟨z,y,xs,Paired.mapP r fun p q z=>⟨z.1,ht _ _ z.2.1,z.2.2⟩,ob,es,ep,k _ _ (.inl rfl) e,c⟩
 | set S n=>obtain ⟨ob,es,ep,t,e,c⟩:=x; exact ⟨ob,es,ep,t,k _ _ (.inl rfl) e,c⟩
 | ins C dx fs=>
  obtain ⟨d,z,ne,e,mA,⟨od,es,ep,e2,c⟩,r⟩:=x
  exact ⟨ho _ d,z,ne,k _ _ (.inl rfl) e,mA,⟨od,es,ep,k _ _ (.inr d) e2,c⟩,r⟩
 | own y=>obtain ⟨ob,e⟩:=x; exact ⟨ob,k _ _ (.inl rfl) e⟩
 | xd fs=>obtain ⟨mA,⟨od,es,ep,e,c⟩,r⟩:=x; exact ⟨mA,⟨od,es,ep,k _ _ (.inl rfl) e,c⟩,r⟩
 | rng lo hi=>obtain ⟨t,u,v,e⟩:=x; exact ⟨t,u,v,k _ _ (.inl rfl) e⟩
 | frz ob u ih=>obtain ⟨e,q⟩:=x; exact ⟨k _ _ (.inl rfl) e,ih q⟩
 | tbl ps=>
  have e:h.get? a = some { cls:=.none,data:=.fields ps }:=x
  show h'.get? a = some { cls:=.none,data:=.fields ps }
  exact k a _ (.inl rfl) e
 | met f y=>
  have e:h.get? a = some (PySem.W.methodObj (.ref f) (.ref y)):=x
  show h'.get? a = some (PySem.W.methodObj (.ref f) (.ref y))
  exact k a _ (.inl rfl) e
 | ext φ=>obtain ⟨p,⟨o,e⟩,st⟩:=x; exact ⟨st _ _ p fun o q=>k _ _ (.inl rfl) q,⟨o,k _ _ (.inl rfl) e⟩,st⟩
theorem HOk.lt (x:HOk P w H h) (e:H a = some o):a < h.objs.size:=(x a o e).lt
theorem HOk.fresh (x:HOk P w H h) (e:h.objs.size ≤ a):H a = none:=by
 cases q:H a with
 | none=>rfl
 | some u=>exact absurd (Nat.lt_of_lt_of_le (x.lt q) e) (Nat.lt_irrefl _)
theorem HOk.kept (x:HOk P w H h) (k:∀ b u,h.get? b = some u → h'.get? b = some u):HOk P w H h':=fun a o e=>
 (x a o e).stay (fun b u _ q=>k b u q) (fun _ q=>q) fun _ _ q=>q
theorem HOk.laid (x:HOk P w H h) (k:∀ b u,h.get? b = some u → h'.get? b = some u) (hp:h.objs.size ≤ a) (new:ZaZ P w (upd H a o) h' a o):HOk P w (upd H a o) h':=fun b u e=>by
 have hn:=x.fresh hp
 by_cases hb:b = a
 ·subst hb; rw [ZaQ] at e; cases e; exact new
 ·rw [Zan hb] at e
  exact (x b u e).stay (fun c v _ q=>k c v q) (fun c q=>by rw [Zan (ZaR q hn)]; exact q) fun c xs q=>by rw [Zan (ZaR q hn)]; exact q
end
noncomputable def Rd (H:Hp) (a:Addr) (u:HO):Prop:=H a = some u ∨ ∃ o,H a = some (.frz o u)
theorem Rd.ok {P:Program} {w:World} {H:Hp} {h:Heap} {a:Addr} {u:HO} (r:Rd H a u) (x:HOk P w H h):ZaZ P w H h a u:=by
 rcases r with r | ⟨o,r⟩
 ·exact x a u r
 ·obtain ⟨_,q⟩:=x a _ r
  exact q
noncomputable def Mut:Option HO → Prop
 | some (.lst _)=>True
 | some (.dK _)=>True
 | some (.dT _)=>True
 | some (.set _ _)=>True
 | some (.ins _ _ _)=>True
 | some (.ext _)=>True
 | _=>False
section
variable {P:Program} {w:World} {H:Hp} {h h':Heap} {x e:Addr} {o':HO}
theorem HOk.write (ok:HOk P w H h) (mu:Mut (H x)) (he:e = x ∨ H e = some (.own x)) (k:∀ b u,b ≠ e → h.get? b = some u → h'.get? b = some u) (heo:∃ u,h'.get? e = some u)
  (new:ZaZ P w (upd H x o') h' x o'):HOk P w (upd H x o') h':=fun b u q=>by
 have nown:∀ c y,H c = some (.own y) → c ≠ x:=fun c y r z=>by subst z; rw [r] at mu; exact mu
 have ntup:∀ c xs,H c = some (.tup xs) → c ≠ x:=fun c xs r z=>by subst z; rw [r] at mu; exact mu
 by_cases hb:b = x
 ·subst hb; rw [ZaQ] at q; cases q; exact new
 ·rw [Zan hb] at q
  by_cases hbe:b = e
  ·have q':H b = some (.own x):=by
    rcases he with z | z
    ·exact absurd (hbe.trans z) hb
    ·rw [hbe]; exact z
   rw [q] at q'; cases q'
   obtain ⟨v,hv⟩:=heo
   exact ⟨v,by rw [hbe]; exact hv⟩
  ·refine (ok b u q).stay (fun c v hc r=>k c v ?_ r) (fun c r=>by rw [Zan (nown c b r)]; exact r) fun c xs r=>by rw [Zan (ntup c xs r)]; exact r
   rcases hc with rfl | hc
   ·exact hbe
   ·rintro rfl
    rcases he with z | z
    ·exact nown c b hc z
    ·rw [hc] at z; cases z; exact hb rfl
end
structure Un (fs ex:List Addr) (H H':Hp) (h h':Heap):Prop where
 keep:∀ b o,h.get? b = some o → H b = none → b ∉ fs → b ∉ ex → h'.get? b = some o
 slot:∀ b o,h.get? b = some o → H b = none → b ∈ fs → b ∉ ex → ∃ sl,h'.get? b = some { o with slots:=sl }
 free:∀ b o,h.get? b = some o → H b = none → b ∉ ex → H' b = none
 there:∀ b o,h.get? b = some o → b ∉ ex → ∃ o',h'.get? b = some o'
 tups:∀ b xs,H b = some (.tup xs) → H' b = some (.tup xs)
 frzs:∀ b o u,H b = some (.frz o u) → H' b = some (.frz o u)
 tbls:∀ b ps,H b = some (.tbl ps) → ∃ more,H' b = some (.tbl (ps ++ more))
section
variable {fs fs' ex ex':List Addr} {H H1 H2:Hp} {h h1 h2 h':Heap} {a x e:Addr} {o:HO}
theorem Un.any (u:Un fs ex H H1 h h1) {b:Addr} {ob:Obj} (q:h.get? b = some ob) (n:H b = none) (hx:b ∉ ex):∃ sl,h1.get? b = some { ob with slots:=sl }:=by
 by_cases hb:b ∈ fs
 ·exact u.slot b ob q n hb hx
 ·exact ⟨ob.slots,u.keep b ob q n hb hx⟩
theorem Un.trans (a:Un fs ex H H1 h h1) (b:Un fs ex H1 H2 h1 h2):Un fs ex H H2 h h2 where
 keep:=fun c ob q n hc hx=>b.keep c ob (a.keep c ob q n hc hx) (a.free c ob q n hx) hc hx
 slot:=fun c ob q n hc hx=>by
  obtain ⟨sl,e1⟩:=a.slot c ob q n hc hx
  obtain ⟨sl',e2⟩:=b.slot c _ e1 (a.free c ob q n hx) hc hx
  exact ⟨sl',e2⟩
 free:=fun c ob q n hx=>by
  obtain ⟨o',e1⟩:=a.there c ob q hx
  exact b.free c o' e1 (a.free c ob q n hx) hx
 there:=fun c ob q hx=>by
  obtain ⟨o',e1⟩:=a.there c ob q hx
  exact b.there c o' e1 hx
 tups:=fun c xs q=>b.tups c xs (a.tups c xs q)
 frzs:=fun c ob xs q=>b.frzs c ob xs (a.frzs c ob xs q)
 tbls:=fun c ps q=>by
  obtain ⟨m1,e1⟩:=a.tbls c ps q
  obtain ⟨m2,e2⟩:=b.tbls c _ e1
  exact ⟨m1 ++ m2,by rw [e2,Array.append_assoc]⟩
theorem Un.kept (k:∀ b u,h.get? b = some u → h'.get? b = some u):Un fs ex H H h h':=
 ⟨fun b ob q _ _ _=>k b ob q,fun b ob q _ _ _=>⟨ob.slots,k b ob q⟩,fun _ _ _ n _=>n,fun b ob q _=>⟨ob,k b ob q⟩,fun _ _ q=>q,fun _ _ _ q=>q,fun _ ps q=>⟨#[],by rw [q]; simp⟩⟩
theorem Un.refl:Un fs ex H H h h:=Un.kept fun _ _ q=>q
theorem Un.laid (k:∀ b u,h.get? b = some u → h'.get? b = some u) (hp:h.objs.size ≤ a) (hn:H a = none):Un fs ex H (upd H a o) h h' where
 keep:=fun b u q _ _ _=>k b u q
 slot:=fun b u q _ _ _=>⟨u.slots,k b u q⟩
 free:=fun b u q n _=>by rw [Zan (Nat.ne_of_lt (Nat.lt_of_lt_of_le (Heap.lt_size q) hp))]; exact n
 there:=fun b u q _=>⟨u,k b u q⟩
 tups:=fun b xs q=>by rw [Zan (ZaR q hn)]; exact q
 frzs:=fun b u xs q=>by rw [Zan (ZaR q hn)]; exact q
 tbls:=fun b ps q=>⟨#[],by rw [Zan (ZaR q hn),q]; simp⟩
theorem Un.write (mu:Mut (H x)) (he:e = x ∨ H e = some (.own x)) (k:∀ b u,b ≠ e → h.get? b = some u → h'.get? b = some u) (heo:∃ u,h'.get? e = some u):Un fs ex H (upd H x o) h h':=by
 have hx:∀ b,H b = none → b ≠ x:=fun b n z=>by subst z; rw [n] at mu; exact mu
 have hb:∀ b,H b = none → b ≠ e:=fun b n z=>by
  subst z
  rcases he with r | r
  ·exact hx b n r
  ·rw [n] at r; cases r
 have hm:∀ b u,H b = some u → ¬ Mut (some u) → b ≠ x:=fun b u q nm z=>by subst z; rw [q] at mu; exact nm mu
 refine ⟨fun b u q n _ _=>k b u (hb b n) q,fun b u q n _ _=>⟨u.slots,k b u (hb b n) q⟩,fun b u q n _=>by rw [Zan (hx b n)]; exact n,fun b u q _=>?_,
  fun b xs q=>by rw [Zan (hm b _ q fun z=>z)]; exact q,fun b u xs q=>by rw [Zan (hm b _ q fun z=>z)]; exact q,fun b ps q=>⟨#[],by rw [Zan (hm b _ q fun z=>z),q]; simp⟩⟩
 by_cases hbe:b = e
 ·subst hbe; exact heo
 ·exact ⟨u,k b u hbe q⟩
theorem Un.mono (u:Un fs ex H H1 h h1) (hs:∀ b ∈ fs,b ∈ fs') (hx:∀ b ∈ ex,b ∈ ex'):Un fs' ex' H H1 h h1:=
 ⟨fun b ob q n hb he=>u.keep b ob q n (fun z=>hb (hs b z)) fun z=>he (hx b z),fun _ _ q n _ he=>u.any q n fun z=>he (hx _ z),fun b ob q n he=>u.free b ob q n fun z=>he (hx b z),fun b ob q he=>u.there b ob q fun z=>he (hx b z),u.tups,u.frzs,u.tbls⟩
end
noncomputable def trk (h:Heap) (H:Hp):List Addr:=(List.range h.objs.size).filter fun a=>(H a).isSome
noncomputable def Zfx (h:Heap) (H:Hp):Heap:=PySem.W.hideAll h (trk h H)
theorem Zhp (h:Heap) (H:Hp):(Zfx h H).objs.size = h.objs.size:=PySem.W.hideAll_size _ _
theorem ZiS {h:Heap} {H:Hp} {b:Addr} {o:Obj} (e:h.get? b = some o) (n:H b = none):(Zfx h H).get? b = some o:=
 PySem.W.hideAll_get _ e fun hm=>by
  have q:(H b).isSome = true:=(List.mem_filter.mp hm).2
  rw [n] at q; simp at q
theorem ZjZ {h:Heap} {H:Hp} {b:Addr} {o:Obj} (e:(Zfx h H).get? b = some o):h.get? b = some o ∧ H b = none:=by
 have e':h.get? b = some o:=PySem.W.of_hideAll (trk h H) e
 refine ⟨e',?_⟩
 cases q:H b with
 | none=>rfl
 | some x=>
  have hm:b ∈ trk h H:=List.mem_filter.mpr ⟨List.mem_range.mpr (Heap.lt_size e'),by simp [q]⟩
  have z:(Zfx h H).get? b = none:=PySem.W.hideAll_none (trk h H) hm
  rw [z] at e; cases e
noncomputable def Zke (g h:Heap) (L:Addr):List (Addr × Obj):=(List.range h.objs.size).filterMap fun a=>if a = L ∨ (g.get? a).isSome = true then none else (h.get? a).map fun o=>(a,o)
noncomputable def rest (g h:Heap) (L d:Addr):List (Addr × Obj):=(Zke g h L).filter fun p=>decide (p.1 ≠ d)
end L2
namespace L2
open PySem PySem.Spec PyProof.Rows
structure Mod (K:PySem.W.Frag) (mg:Str → Option Value) (base:Heap):Prop where
 kin:K.In base
 glob:base.Ns mainGlobals mg
 blt:∃ mb,base.Ns builtinsNs mb ∧ ∀ x:Str,x ≠ "__name__" → mb x = bootBuiltins x
 nolimit:base.NoLimit
/-- the context: a def's body (or a comprehension's block) running. base: fixed through the whole law; s₀,H₀: the entry; outer: the frames whose slots others may change (a def's callers); stack: all frames that run;
  ex: iterators that were made ahead of the entry and are walked here (a comprehension's); fn: the names whose cells were made at the entry (a def: all; a comprehension's block: its own); calm: not within an except suite; pn: pins that every state bears; xe: what is wanted of an exception that leaves the code -/
structure Cx where
 prog:Program
 w:World
 K:PySem.W.Frag
 mg:Str → Option Value
 base:Heap
 A:Around
 N:List Str
 s₀:Shared
 H₀:Hp
 env:Env
 outer:List Env
 stack:List Env
 ex:List Addr
 fn:Str → Bool
 calm:Bool
 pn:List (Addr × Obj)
 xe:Value → Shared → Prop
noncomputable def frs (l:List Env):List Addr:=l.filterMap (·.frame)
noncomputable abbrev Cx.fs (X:Cx):List Addr:=frs X.outer
noncomputable def Vis (sc:Scope) (x:Str):Prop:=sc.names.lookup x = some .local ∨ sc.names.lookup x = some .cell ∨ sc.names.lookup x = some .free
noncomputable def Loc (sc:Scope) (x:Str):Prop:=sc.names.lookup x = some .local ∨ sc.names.lookup x = some .cell
noncomputable def Look (env:Env) (h:Heap) (m:Str → Option Value) (x:Str) (u:Value):Prop:=
 (env.kindOf x = some .local ∧ m x = some u) ∨ ((env.kindOf x = some .cell ∨ env.kindOf x = some .free) ∧ ∃ c,env.cells.lookup x = some c ∧ h.IsCell c (some u))
structure Cx.Ok (X:Cx):Prop where
 mod:Mod X.K X.mg X.base
 kind:X.env.scope.kind = .function
 glob:X.env.globals = mainGlobals
 blt:X.env.builtins = builtinsNs
 above:X.s₀.heap.objs.size ≤ X.env.locals
 inj:∀ x y c,X.env.cells.lookup x = some c → X.env.cells.lookup y = some c → x = y
 has:∀ x,(X.env.kindOf x = some .cell ∨ X.env.kindOf x = some .free) → ∃ c,X.env.cells.lookup x = some c
 cab:∀ x c,X.fn x = true → X.env.cells.lookup x = some c → X.s₀.heap.objs.size ≤ c
 hd:X.calm = true → X.A.handled = none
 frames:X.A.frames = some X.stack
 stk:X.stack = X.outer ∨ (X.stack = X.env :: X.outer ∧ X.env.frame = some X.env.locals)
 exf:∀ b ∈ X.ex,b ≠ X.env.locals ∧ ∀ x c,X.env.cells.lookup x = some c → c ≠ b
 bs:∀ b o,X.base.get? b = some o → X.s₀.heap.get? b = some o ∧ X.H₀ b = none
 bsz:X.base.objs.size ≤ X.s₀.heap.objs.size
 noex:∀ b o,X.base.get? b = some o → b ∉ X.ex
 exfs:∀ b ∈ X.ex,b ∉ X.fs
 funs:X.s₀.heap.FunFrames X.base X.outer
 frf:∀ b ∈ X.fs,X.H₀ b = none
structure Inv (X:Cx) (pins:List (Addr × Obj)) (σ:List (Option V)) (H:Hp) (s:Shared):Prop where
 ok:X.Ok
 os:s.os = X.s₀.os
 bare:AllBare s.gens
 base:Un X.fs X.ex X.H₀ H X.s₀.heap s.heap
 loc:∃ m,s.heap.Ns X.env.locals m ∧ ∀ (i:Nat) (x:Str) (v:V),X.N[i]? = some x → σ[i]? = some (some v) → Vis X.env.scope x → ∃ u,RelV v u ∧ Look X.env s.heap m x u
 cell:∀ x c,X.env.cells.lookup x = some c → ∃ v,s.heap.IsCell c v
 free:H X.env.locals = none
 freeC:∀ x c,X.env.cells.lookup x = some c → H c = none
 pin:∀ p ∈ X.pn ++ pins,s.heap.get? p.1 = some p.2 ∧ H p.1 = none ∧ p.1 ≠ X.env.locals ∧ p.1 ∉ X.fs ∧ ∀ v,p.2.data ≠ .cell v
 hok:HOk X.prog X.w H s.heap
 len:σ.length = X.N.length
section
variable {X:Cx} {pins:List (Addr × Obj)} {σ:List (Option V)} {H H':Hp} {s:Shared} {h':Heap}
theorem Cx.Ok.nofr (ok:X.Ok) {b:Addr} {o:Obj} (e:X.base.get? b = some o):b ∉ X.fs:=fun hb=>by
 have:=(ok.funs.mem hb).1
 rw [e] at this; cases this
theorem Inv.bs (I:Inv X pins σ H s):∀ b o,X.base.get? b = some o → s.heap.get? b = some o ∧ H b = none:=fun b o e=>
 ⟨I.base.keep b o (I.ok.bs b o e).1 (I.ok.bs b o e).2 (I.ok.nofr e) (I.ok.noex b o e),I.base.free b o (I.ok.bs b o e).1 (I.ok.bs b o e).2 (I.ok.noex b o e)⟩
theorem Inv.bk (I:Inv X pins σ H s):∀ b o,X.base.get? b = some o → s.heap.get? b = some o:=fun b o e=>(I.bs b o e).1
theorem Inv.mod (I:Inv X pins σ H s):Mod X.K X.mg X.base:=I.ok.mod
theorem Inv.kIn (I:Inv X pins σ H s):X.K.In s.heap:=I.ok.mod.kin.keeps I.bk
theorem Inv.nolimit (I:Inv X pins σ H s):s.heap.NoLimit:=I.ok.mod.nolimit.keeps I.bk
theorem Inv.fr (I:Inv X pins σ H s):∃ m,Fr X.base X.env.locals s.heap m:=
 let ⟨m,hn,_⟩:=I.loc
 ⟨m,hn,I.bk,Nat.le_trans I.ok.bsz I.ok.above⟩
theorem Inv.lt (I:Inv X pins σ H s):X.env.locals < s.heap.objs.size:=let ⟨_,hn,_⟩:=I.loc; hn.lt
theorem Inv.sz (I:Inv X pins σ H s):X.s₀.heap.objs.size ≤ s.heap.objs.size:=Nat.le_trans I.ok.above (Nat.le_of_lt I.lt)
theorem Inv.nofs (I:Inv X pins σ H s) {a:Addr} (h:s.heap.objs.size ≤ a):a ∉ X.fs:=fun hb=>by
 obtain ⟨_,o,ho,_⟩:=I.ok.funs.mem hb
 exact absurd (Nat.lt_of_lt_of_le (Heap.lt_size ho) (Nat.le_trans I.sz h)) (Nat.lt_irrefl _)
theorem Inv.cne (I:Inv X pins σ H s):∀ x c,X.env.cells.lookup x = some c → c ≠ X.env.locals:=fun x c e z=>by
 obtain ⟨v,o,ho,hd⟩:=I.cell x c e
 obtain ⟨m,⟨o',es,ep,ho',hd',_⟩,_⟩:=I.loc
 rw [z,ho'] at ho; cases ho; rw [hd'] at hd; cases hd
theorem Inv.funs (I:Inv X pins σ H s):s.heap.FunFrames X.base X.outer:=by
 have all:∀ (l:List Env),(∀ b ∈ frs l,b ∈ X.fs) → X.s₀.heap.FunFrames X.base l → s.heap.FunFrames X.base l:=by
  intro l
  induction l with
  | nil=>intro _ _; trivial
  | cons env r ih=>
   intro hs hl
   obtain ⟨hk,⟨L,o,hf,hn,ho,hd⟩,hr⟩:=hl
   have hL:L ∈ X.fs:=hs L (by unfold frs; rw [List.filterMap_cons,hf]; exact List.mem_cons_self)
   obtain ⟨sl,e⟩:=I.base.slot L o ho (I.ok.frf L hL) hL fun z=>I.ok.exfs L z hL
   exact ⟨hk,⟨L,_,hf,hn,e,hd⟩,ih (fun b hb=>hs b (by unfold frs; rw [List.filterMap_cons,hf]; exact List.mem_cons_of_mem _ hb)) hr⟩
 exact all X.outer (fun _ hb=>hb) I.ok.funs
theorem Inv.stack (I:Inv X pins σ H s):s.heap.FunFrames X.base X.stack:=by
 rcases I.ok.stk with e | ⟨e,hf⟩
 ·rw [e]; exact I.funs
 ·rw [e]
  obtain ⟨m,hn,_⟩:=I.loc
  refine .cons (by rw [I.ok.kind]; decide) hf hn ?_ I.funs
  exact Heap.get?_none_of_le (Nat.le_trans I.ok.bsz I.ok.above)
theorem Inv.stkSub (I:Inv X pins σ H s):∀ b ∈ frs X.stack,b ∈ X.env.locals :: X.fs:=fun b hb=>by
 rcases I.ok.stk with e | ⟨e,hf⟩
 ·rw [e] at hb; exact List.mem_cons_of_mem _ hb
 ·rw [e] at hb
  unfold frs at hb
  rw [List.filterMap_cons,hf] at hb
  exact hb
theorem Inv.stkFree (I:Inv X pins σ H s):∀ b ∈ frs X.stack,H b = none:=fun b hb=>by
 rcases List.mem_cons.mp (I.stkSub b hb) with e | hb
 ·rw [e]; exact I.free
 ·obtain ⟨_,o,ho,_⟩:=I.ok.funs.mem hb
  exact I.base.free b o ho (I.ok.frf b hb) fun z=>I.ok.exfs b z hb
theorem Inv.step {g':Array GenState} {t':Nat} {d':Drawn} {ch:List Addr} (I:Inv X pins σ H s)
  (hch:∀ b ∈ ch,(b ∈ X.ex ∨ X.s₀.heap.objs.size ≤ b) ∧ b ≠ X.env.locals ∧ (∀ x c,X.env.cells.lookup x = some c → c ≠ b) ∧ ∀ p ∈ X.pn ++ pins,p.1 ≠ b)
  (keep:∀ b o,b ≠ X.env.locals → b ∉ X.fs → b ∉ ch → s.heap.get? b = some o → H b = none → h'.get? b = some o)
  (slot:∀ b o,b ≠ X.env.locals → b ∈ X.fs → b ∉ ch → s.heap.get? b = some o → H b = none → ∃ sl,h'.get? b = some { o with slots:=sl }) (free:∀ b o,b ∉ ch → s.heap.get? b = some o → H b = none → H' b = none)
  (there:∀ b o,b ∉ ch → s.heap.get? b = some o → ∃ o',h'.get? b = some o')
  (tups:∀ b xs,H b = some (.tup xs) → H' b = some (.tup xs)) (frzs:∀ b o u,H b = some (.frz o u) → H' b = some (.frz o u)) (tbls:∀ b ps,H b = some (.tbl ps) → ∃ more,H' b = some (.tbl (ps ++ more)))
  (ns:∀ m,s.heap.Ns X.env.locals m → h'.Ns X.env.locals m) (hok:HOk X.prog X.w H' h') (hg:AllBare g'):
  Inv X pins σ H' { s with heap:=h',gens:=g',drawn:=d',toks:=t' }:=by
 have neL:∀ b o,X.s₀.heap.get? b = some o → b ≠ X.env.locals:=fun b o e=>Nat.ne_of_lt (Nat.lt_of_lt_of_le (Heap.lt_size e) I.ok.above)
 have neC:∀ b o,X.s₀.heap.get? b = some o → b ∉ X.ex → b ∉ ch:=fun b o e hx hb=>by
  rcases (hch b hb).1 with z | z
  ·exact hx z
  ·exact absurd (Nat.lt_of_lt_of_le (Heap.lt_size e) z) (Nat.lt_irrefl _)
 have cellK:∀ x c,X.env.cells.lookup x = some c → ∀ v,s.heap.IsCell c v → h'.IsCell c v:=fun x c e v zz1=>by
  obtain ⟨o,ho,hd⟩:=zz1
  have nch:c ∉ ch:=fun z=>(hch c z).2.2.1 x c e rfl
  by_cases hc:c ∈ X.fs
  ·obtain ⟨sl,q⟩:=slot c o (I.cne x c e) hc nch ho (I.freeC x c e)
   exact ⟨_,q,hd⟩
  ·exact ⟨o,keep c o (I.cne x c e) hc nch ho (I.freeC x c e),hd⟩
 refine ⟨I.ok,I.os,hg,⟨fun b o e n hb hx=>?_,fun b o e n hb hx=>?_,fun b o e n hx=>?_,fun b o e hx=>?_,fun b xs e=>tups b xs (I.base.tups b xs e),fun b o xs e=>frzs b o xs (I.base.frzs b o xs e),fun b ps e=>?_⟩,?_,fun x c e=>?_,?_,fun x c e=>?_,fun p hp=>?_,hok,I.len⟩
 ·exact keep b o (neL b o e) hb (neC b o e hx) (I.base.keep b o e n hb hx) (I.base.free b o e n hx)
 ·obtain ⟨sl,e1⟩:=I.base.slot b o e n hb hx
  obtain ⟨sl',e2⟩:=slot b _ (neL b o e) hb (neC b o e hx) e1 (I.base.free b o e n hx)
  exact ⟨sl',e2⟩
 ·obtain ⟨o',e1⟩:=I.base.there b o e hx
  exact free b o' (neC b o e hx) e1 (I.base.free b o e n hx)
 ·obtain ⟨o',e1⟩:=I.base.there b o e hx
  exact there b o' (neC b o e hx) e1
 ·obtain ⟨m1,e1⟩:=I.base.tbls b ps e
  obtain ⟨m2,e2⟩:=tbls b _ e1
  exact ⟨m1 ++ m2,by rw [e2,Array.append_assoc]⟩
 ·obtain ⟨m,hn,hl⟩:=I.loc
  refine ⟨m,ns m hn,fun i x v e1 e2 e3=>?_⟩
  obtain ⟨u,r,l⟩:=hl i x v e1 e2 e3
  refine ⟨u,r,?_⟩
  rcases l with l | ⟨k,c,e,z⟩
  ·exact .inl l
  ·exact .inr ⟨k,c,e,cellK x c e _ z⟩
 ·obtain ⟨v,z⟩:=I.cell x c e
  exact ⟨v,cellK x c e v z⟩
 ·obtain ⟨m,⟨o,_,_,ho,_⟩,_⟩:=I.loc
  exact free _ o (fun z=>(hch _ z).2.1 rfl) ho I.free
 ·obtain ⟨v,o,ho,hd⟩:=I.cell x c e
  exact free c o (fun z=>(hch c z).2.2.1 x c e rfl) ho (I.freeC x c e)
 ·obtain ⟨e,n,ne,nf,d⟩:=I.pin p hp
  have nch:p.1 ∉ ch:=fun z=>(hch p.1 z).2.2.2 p hp rfl
  exact ⟨keep p.1 p.2 ne nf nch e n,free p.1 p.2 nch e n,ne,nf,d⟩
theorem Inv.un {t':Nat} (I:Inv X pins σ H s) (u:Un X.fs [] H H' s.heap h') (hok:HOk X.prog X.w H' h'):Inv X pins σ H' { s with heap:=h',toks:=t' }:=by
 obtain ⟨m,⟨o,es,ep,ho,r⟩,_⟩:=id I.loc
 obtain ⟨sl,hL⟩:=u.any ho I.free (by simp)
 exact I.step (g':=s.gens) (d':=s.drawn) (ch:=[]) (fun _ z=>nomatch z) (fun b o _ hb _ e n=>u.keep b o e n hb (by simp)) (fun b o _ hb _ e n=>u.slot b o e n hb (by simp)) (fun b o _ e n=>u.free b o e n (by simp)) (fun b o _ e=>u.there b o e (by simp)) u.tups u.frzs u.tbls (fun m' hm=>by
  obtain ⟨o',es',ep',ho',r'⟩:=hm
  rw [ho] at ho'; cases ho'
  exact ⟨_,es',ep',hL,r'⟩) hok I.bare
theorem Inv.call {g':Array GenState} {t':Nat} {d':Drawn} {ch:List Addr} (I:Inv X pins σ H s) (u:Un (frs X.stack) ch H H' s.heap h') (hok:HOk X.prog X.w H' h') (hg:AllBare g')
  (hch:∀ b ∈ ch,(b ∈ X.ex ∨ X.s₀.heap.objs.size ≤ b) ∧ b ≠ X.env.locals ∧ (∀ x c,X.env.cells.lookup x = some c → c ≠ b) ∧ ∀ p ∈ X.pn ++ pins,p.1 ≠ b):
  Inv X pins σ H' { s with heap:=h',gens:=g',drawn:=d',toks:=t' }:=by
 obtain ⟨m,⟨o,es,ep,ho,r⟩,_⟩:=id I.loc
 obtain ⟨sl,hL⟩:=u.any ho I.free fun z=>(hch _ z).2.1 rfl
 exact I.step (ch:=ch) hch (fun b o hL hb hc e n=>u.keep b o e n (fun z=>(List.mem_cons.mp (I.stkSub b z)).elim hL hb) hc) (fun b o _ _ hc e n=>u.any e n hc) (fun b o hc e n=>u.free b o e n hc) (fun b o hc e=>u.there b o e hc) u.tups u.frzs u.tbls (fun m' hm=>by
  obtain ⟨o',es',ep',ho',r'⟩:=hm
  rw [ho] at ho'; cases ho'
  exact ⟨_,es',ep',hL,r'⟩) hok hg
theorem Inv.turned {t':Nat} {it:Addr} (I:Inv X pins σ H s) (k:∀ b o,b ≠ it → s.heap.get? b = some o → h'.get? b = some o) (hn:H it = none) (hL:it ≠ X.env.locals)
  (h1:it ∈ X.ex ∨ X.s₀.heap.objs.size ≤ it) (h2:∀ x c,X.env.cells.lookup x = some c → c ≠ it) (h3:∀ p ∈ X.pn ++ pins,p.1 ≠ it):Inv X pins σ H { s with heap:=h',toks:=t' }:=by
 have nit:∀ b u,H b = some u → b ≠ it:=fun b u e z=>by rw [z,hn] at e; cases e
 refine I.step (g':=s.gens) (d':=s.drawn) (ch:=[it]) (fun b hb=>?_) (fun b o _ _ hc e _=>k b o (fun z=>hc (by simp [z])) e) (fun b o _ _ hc e _=>⟨o.slots,k b o (fun z=>hc (by simp [z])) e⟩) (fun _ _ _ _ n=>n)
  (fun b o hc e=>⟨o,k b o (fun z=>hc (by simp [z])) e⟩) (fun _ _ e=>e) (fun _ _ _ e=>e) (fun b ps e=>⟨#[],by rw [e]; simp⟩) (fun m hm=>?_) (fun b u e=>?_) I.bare
 ·have e:b = it:=by simpa using hb
  subst e
  exact ⟨h1,hL,h2,h3⟩
 ·obtain ⟨o,es,ep,ho,r⟩:=hm
  exact ⟨o,es,ep,k _ o (Ne.symm hL) ho,r⟩
 ·refine (I.hok b u e).stay (fun c v hc q=>k c v ?_ q) (fun _ q=>q) fun _ _ q=>q
  rcases hc with z | z
  ·rw [z]; exact nit b u e
  ·exact nit c _ z
theorem Inv.tok (I:Inv X pins σ H s) (t:Nat):Inv X pins σ H { s with toks:=t }:=I.un (h':=s.heap) (t':=t) Un.refl I.hok
theorem Inv.kept {t':Nat} (I:Inv X pins σ H s) (k:∀ b u,s.heap.get? b = some u → h'.get? b = some u):Inv X pins σ H { s with heap:=h',toks:=t' }:=I.un (Un.kept k) (I.hok.kept k)
theorem Inv.laid {a:Addr} {o:HO} {t':Nat} (I:Inv X pins σ H s) (k:∀ b u,s.heap.get? b = some u → h'.get? b = some u) (hp:s.heap.objs.size ≤ a) (new:ZaZ X.prog X.w (upd H a o) h' a o):
  Inv X pins σ (upd H a o) { s with heap:=h',toks:=t' }:=I.un (Un.laid k hp (I.hok.fresh hp)) (I.hok.laid k hp new)
theorem Inv.write {x e:Addr} {o:HO} {t':Nat} (I:Inv X pins σ H s) (mu:Mut (H x)) (he:e = x ∨ H e = some (.own x)) (k:∀ b u,b ≠ e → s.heap.get? b = some u → h'.get? b = some u) (heo:∃ u,h'.get? e = some u)
  (new:ZaZ X.prog X.w (upd H x o) h' x o):Inv X pins σ (upd H x o) { s with heap:=h',toks:=t' }:=I.un (Un.write mu he k heo) (I.hok.write mu he k heo new)
theorem Inv.pins_of {pins':List (Addr × Obj)} (I:Inv X pins σ H s) (h:∀ p ∈ pins',s.heap.get? p.1 = some p.2 ∧ H p.1 = none ∧ p.1 ≠ X.env.locals ∧ p.1 ∉ X.fs ∧ ∀ v,p.2.data ≠ .cell v):Inv X pins' σ H s:=
 ⟨I.ok,I.os,I.bare,I.base,I.loc,I.cell,I.free,I.freeC,fun p hp=>(List.mem_append.mp hp).elim (fun z=>I.pin p (List.mem_append_left _ z)) (h p),I.hok,I.len⟩
theorem ZeN {N:List Str} (hN:N.Nodup) {i j:Nat} {x:Str} (a:N[i]? = some x) (b:N[j]? = some x):i = j:=by
 obtain ⟨h1,e1⟩:=List.getElem?_eq_some_iff.mp a
 obtain ⟨h2,e2⟩:=List.getElem?_eq_some_iff.mp b
 exact (List.getElem_inj hN).mp (e1.trans e2.symm)
theorem ZhC {M:Model} {A:Around} {E:Value → Shared → Prop} {i:Nat} {x:Str} {v:V} {u:Value} {Q:Unit → Shared → Prop} (I:Inv X pins σ H s) (hN:X.N.Nodup) (hi:X.N[i]? = some x) (hx:Loc X.env.scope x) (r:RelV v u)
  (h:∀ s',Inv X pins (σ.set i (some v)) H s' → (∃ a,Heap.SameBut a s.heap s'.heap ∧ (a = X.env.locals ∨ X.env.cells.lookup x = some a)) → Q () s') (hf:X.fn x = true ∨ X.env.scope.names.lookup x = some .local:=by first | exact .inl rfl | exact .inr rfl | assumption):wpAny M A (storeName X.env x u) Q E s:=by
 obtain ⟨m,hn,hl⟩:=id I.loc
 have hcls:(X.env.scope.kind == .class || (X.env.scope.kind == .module && X.env.locals != X.env.globals)) = false:=by rw [I.ok.kind]; rfl
 have hiσ:i < σ.length:=by rw [I.len]; exact (List.getElem?_eq_some_iff.mp hi).1
 have cne:=I.cne
 have tracked:∀ {a:Addr} {h':Heap},(∃ o,s.heap.get? a = some o ∧ H a = none) → Heap.SameBut a s.heap h' → HOk X.prog X.w H h':=fun {a h'} ha hs b ob e=>by
  obtain ⟨_,_,hfree⟩:=ha
  refine (I.hok b ob e).stay (fun c w' hc q=>(hs.2 c ?_).trans q) (fun _ q=>q) fun _ _ q=>q
  rintro rfl
  rcases hc with rfl | hc
  ·rw [hfree] at e; cases e
  ·rw [hfree] at hc; cases hc
 rcases hx with hk | hk
 ·refine wpAny_storeName_local hk hn (fun h' hn' hs=>?_) hcls
  obtain ⟨oL,_,_,hoL,_⟩:=id hn
  refine h _ ⟨I.ok,I.os,I.bare,⟨fun b o e n hb hx=>?_,fun b o e n hb hx=>?_,I.base.free,fun b o e hx=>?_,I.base.tups,I.base.frzs,I.base.tbls⟩,⟨_,hn',fun j y v' e1 e2 e3=>?_⟩,fun y c e=>?_,I.free,I.freeC,fun p hp=>?_,tracked ⟨oL,hoL,I.free⟩ hs,by simpa using I.len⟩ ⟨_,hs,.inl rfl⟩
  ·exact (hs.2 b (Nat.ne_of_lt (Nat.lt_of_lt_of_le (Heap.lt_size e) I.ok.above))).trans (I.base.keep b o e n hb hx)
  ·obtain ⟨sl,e1⟩:=I.base.slot b o e n hb hx
   exact ⟨sl,(hs.2 b (Nat.ne_of_lt (Nat.lt_of_lt_of_le (Heap.lt_size e) I.ok.above))).trans e1⟩
  ·obtain ⟨o',e1⟩:=I.base.there b o e hx
   exact ⟨o',(hs.2 b (Nat.ne_of_lt (Nat.lt_of_lt_of_le (Heap.lt_size e) I.ok.above))).trans e1⟩
  ·by_cases hj:j = i
   ·subst hj
    rw [hi] at e1; cases e1
    rw [List.getElem?_set_self hiσ] at e2
    cases e2
    exact ⟨u,r,.inl ⟨hk,by simp⟩⟩
   ·rw [List.getElem?_set_ne (Ne.symm hj)] at e2
    obtain ⟨u',r',q⟩:=hl j y v' e1 e2 e3
    refine ⟨u',r',?_⟩
    rcases q with ⟨k,e⟩ | ⟨k,c,e,z⟩
    ·refine .inl ⟨k,?_⟩
     have:y ≠ x:=fun e=>hj (ZeN hN e1 (e ▸ hi))
     simp [this,e]
    ·exact .inr ⟨k,c,e,z.sameBut hs (cne y c e)⟩
  ·obtain ⟨w',z⟩:=I.cell y c e
   exact ⟨w',z.sameBut hs (cne y c e)⟩
  ·obtain ⟨e,n,ne,nf,d⟩:=I.pin p hp
   exact ⟨(hs.2 p.1 ne).trans e,n,ne,nf,d⟩
 ·have hfn:X.fn x = true:=by
   rcases hf with z | z
   ·exact z
   ·rw [z] at hk; cases hk
  obtain ⟨c,hc⟩:=I.ok.has x (.inl hk)
  obtain ⟨w',z⟩:=I.cell x c hc
  refine wpAny_storeName_cell I.ok.kind hk hc z (fun h' hc' hs=>?_)
  obtain ⟨oc,hoc,hocd⟩:=id z
  refine h { s with heap:=h' } ⟨I.ok,I.os,I.bare,⟨fun b o e n hb hx=>?_,fun b o e n hb hx=>?_,I.base.free,fun b o e hx=>?_,I.base.tups,I.base.frzs,I.base.tbls⟩,⟨m,hn.sameBut hs (Ne.symm (cne x c hc)),fun j y v' e1 e2 e3=>?_⟩,fun y c' e=>?_,I.free,I.freeC,fun p hp=>?_,tracked ⟨oc,hoc,I.freeC x c hc⟩ hs,by simpa using I.len⟩ ⟨c,hs,.inr hc⟩
  ·exact (hs.2 b (Nat.ne_of_lt (Nat.lt_of_lt_of_le (Heap.lt_size e) (I.ok.cab x c hfn hc)))).trans (I.base.keep b o e n hb hx)
  ·obtain ⟨sl,e1⟩:=I.base.slot b o e n hb hx
   exact ⟨sl,(hs.2 b (Nat.ne_of_lt (Nat.lt_of_lt_of_le (Heap.lt_size e) (I.ok.cab x c hfn hc)))).trans e1⟩
  ·obtain ⟨o',e1⟩:=I.base.there b o e hx
   exact ⟨o',(hs.2 b (Nat.ne_of_lt (Nat.lt_of_lt_of_le (Heap.lt_size e) (I.ok.cab x c hfn hc)))).trans e1⟩
  ·by_cases hj:j = i
   ·subst hj
    rw [hi] at e1; cases e1
    rw [List.getElem?_set_self hiσ] at e2
    cases e2
    exact ⟨u,r,.inr ⟨.inl hk,c,hc,hc'⟩⟩
   ·rw [List.getElem?_set_ne (Ne.symm hj)] at e2
    obtain ⟨u',r',q⟩:=hl j y v' e1 e2 e3
    refine ⟨u',r',?_⟩
    rcases q with q | ⟨k,c',e,z'⟩
    ·exact .inl q
    ·refine .inr ⟨k,c',e,z'.sameBut hs ?_⟩
     rintro rfl
     exact hj (ZeN hN e1 (I.ok.inj _ _ _ e hc ▸ hi))
  ·by_cases hcc:c' = c
   ·subst hcc; exact ⟨_,hc'⟩
   ·obtain ⟨w2,z2⟩:=I.cell y c' e
    exact ⟨w2,z2.sameBut hs hcc⟩
  ·obtain ⟨e,n,ne,nf,d⟩:=I.pin p hp
   refine ⟨(hs.2 p.1 ?_).trans e,n,ne,nf,d⟩
   intro q
   rw [q,hoc] at e
   have q':oc = p.2:=Option.some.inj e
   exact d w' (by rw [← q']; exact hocd)
theorem Zet {M:Model} {A:Around} {E:Value → Shared → Prop} {i:Nat} {x:Str} {v:V} {u:Value} {Q:Unit → Shared → Prop} (I:Inv X pins σ H s) (hN:X.N.Nodup) (hi:X.N[i]? = some x) (hx:Loc X.env.scope x) (r:RelV v u)
  (h:∀ s',Inv X pins (σ.set i (some v)) H s' → Q () s') (hf:X.fn x = true ∨ X.env.scope.names.lookup x = some .local:=by first | exact .inl rfl | exact .inr rfl | assumption):wpAny M A (storeName X.env x u) Q E s:=
 ZhC I hN hi hx r (fun s' I' _=>h s' I') hf
theorem Inv.call' {s':Shared} {ch:List Addr} (I:Inv X pins σ H s) (ho:s'.os = s.os) (u:Un (frs X.stack) ch H H' s.heap s'.heap) (hok:HOk X.prog X.w H' s'.heap) (hg:AllBare s'.gens)
  (hch:∀ b ∈ ch,(b ∈ X.ex ∨ X.s₀.heap.objs.size ≤ b) ∧ b ≠ X.env.locals ∧ (∀ x c,X.env.cells.lookup x = some c → c ≠ b) ∧ ∀ p ∈ X.pn ++ pins,p.1 ≠ b):Inv X pins σ H' s':=by
 obtain ⟨h',g',d',t',o'⟩:=s'
 have e:o' = s.os:=ho
 subst e
 exact I.call (g':=g') (t':=t') (d':=d') u hok hg hch
end
noncomputable abbrev XK:=Value → Option Addr → Hp → Prop
noncomputable abbrev St:=List (Option V)
noncomputable abbrev VK:=V → Hp → Prop
noncomputable abbrev TE:=St → Hp → VK → Prop
noncomputable abbrev TT:=St → Hp → (Bool → Hp → Prop) → Prop
noncomputable abbrev TA:=St → Hp → (List V → Hp → Prop) → Prop
structure Ends where
 nx:St → Hp → Prop
 rt:VK
 bk:St → Hp → Prop:=fun _ _=>False
 ct:St → Hp → Prop:=fun _ _=>False
noncomputable abbrev TS:=Ends → St → Hp → Prop
noncomputable def EP (X:Cx) (pins:List (Addr × Obj)) (σ:St) (Q:VK) (u:Value) (s':Shared):Prop:=∃ v H',Inv X pins σ H' s' ∧ RelV v u ∧ Q v H'
noncomputable def TP (X:Cx) (pins:List (Addr × Obj)) (σ:St) (Q:Bool → Hp → Prop) (b:Bool) (s':Shared):Prop:=∃ H',Inv X pins σ H' s' ∧ Q b H'
noncomputable def AP (X:Cx) (pins:List (Addr × Obj)) (σ:St) (Q:List V → Hp → Prop) (us:List Value) (s':Shared):Prop:=∃ vs H',Inv X pins σ H' s' ∧ Vals vs us ∧ Q vs H'
noncomputable def SP (X:Cx) (pins:List (Addr × Obj)) (D:Ends) (f:Flow) (s':Shared):Prop:=
 match f with
 | .next=>∃ σ' H',Inv X pins σ' H' s' ∧ D.nx σ' H'
 | .brk=>∃ σ' H',Inv X pins σ' H' s' ∧ D.bk σ' H'
 | .cont=>∃ σ' H',Inv X pins σ' H' s' ∧ D.ct σ' H'
 | .ret u=>∃ v σ' H',Inv X pins σ' H' s' ∧ RelV v u ∧ D.rt v H'
noncomputable def PE (X:Cx) (e:Expr) (t:TE):Prop:=
 ∀ (pins:List (Addr × Obj)) (s:Shared) (σ:St) (H:Hp) (Q:VK),Inv X pins σ H s → t σ H Q → wpAny (model X.prog X.w) X.A (eval e X.env) (EP X pins σ Q) X.xe s
noncomputable def PT (X:Cx) (e:Expr) (t:TT):Prop:=
 ∀ (pins:List (Addr × Obj)) (s:Shared) (σ:St) (H:Hp) (Q:Bool → Hp → Prop),Inv X pins σ H s → t σ H Q → wpAny (model X.prog X.w) X.A (isTrue e X.env (eval e X.env)) (TP X pins σ Q) X.xe s
noncomputable def PW (X:Cx) (e:Expr) (t:TT):Prop:=
 ∀ (whole:Sem Value) (pins:List (Addr × Obj)) (s:Shared) (σ:St) (H:Hp) (Q:Bool → Hp → Prop),Inv X pins σ H s → t σ H Q → wpAny (model X.prog X.w) X.A (isTrue e X.env whole) (TP X pins σ Q) X.xe s
theorem PW.pt {X:Cx} {e:Expr} {t:TT} (h:PW X e t):PT X e t:=h _
noncomputable def PA (X:Cx) (es:List Expr) (t:TA):Prop:=
 ∀ (pos:Pos) (pins:List (Addr × Obj)) (s:Shared) (σ:St) (H:Hp) (Q:List V → Hp → Prop),Inv X pins σ H s → t σ H Q → wpAny (model X.prog X.w) X.A (spliced (backTo pos (starEach es X.env))) (AP X pins σ Q) X.xe s
noncomputable def PS (X:Cx) (st:Stmt) (t:TS):Prop:=
 ∀ (pins:List (Addr × Obj)) (s:Shared) (σ:St) (H:Hp) (D:Ends),Inv X pins σ H s → t D σ H → wpAny (model X.prog X.w) X.A (exec st X.env) (SP X pins D) X.xe s
noncomputable def PSs (X:Cx) (st:List Stmt) (t:TS):Prop:=
 ∀ (pins:List (Addr × Obj)) (s:Shared) (σ:St) (H:Hp) (D:Ends),Inv X pins σ H s → t D σ H → wpAny (model X.prog X.w) X.A (execs st X.env) (SP X pins D) X.xe s
theorem thn {α:Type} {t:Sem α} {Q Q':α → Shared → Prop} {M:Model} {A:Around} {E:Value → Shared → Prop} {s:Shared} (h:wpAny M A t Q E s) (hQ:∀ a s,Q a s → Q' a s):wpAny M A t Q' E s:=wpAny_mono h hQ fun _ _ x=>x
end L2
namespace L2
open PySem PySem.Spec PyProof.Rows
section
variable {X:Cx}
noncomputable def Zn7 (i:Nat):TE:=fun σ H Q=>∃ v,σ[i]? = some (some v) ∧ Q v H
noncomputable def tC (v:V):TE:=fun _ H Q=>Q v H
theorem ZlV {i:Nat} {x:Str} {pos:Pos} (hN:X.N[i]? = some x) (hv:Vis X.env.scope x) (hd:(x == ("__debug__":Str)) = false:=by decide) (hcd:(x == ("__classdict__":Str)) = false:=by decide):PE X (.Name x pos) (Zn7 i):=by
 intro pins s σ H Q I h
 obtain ⟨v,e,h⟩:=h
 obtain ⟨m,hn,hl⟩:=I.loc
 obtain ⟨u,r,l⟩:=hl i x v hN e hv
 have fin:EP X pins σ Q u s:=⟨v,H,I,r,h⟩
 rcases l with ⟨hk,hm⟩ | ⟨hk,c,hc,hcell⟩
 ·exact wpAny_Name (wpAny_loadName_local I.ok.kind hk hn hm fin) hd
 ·rcases hk with hk | hk
  ·exact wpAny_Name (wpAny_loadName_cell I.ok.kind hk hc hcell fin) hd
  ·exact wpAny_Name (wpAny_loadName_free I.ok.kind hk hc hcell fin hcd) hd
theorem Zk7 {i j pos}:PE X (.Constant (.int i) j pos) (tC (.int i)):=fun _ _ _ H _ I h=>wpAny_Constant_int ⟨.int i,H,I.tok _,⟨_,rfl⟩,h⟩
theorem ZmE {b j pos}:PE X (.Constant (.bool b) j pos) (tC (.bl b)):=fun _ _ _ H _ I h=>Constant_bool ⟨.bl b,H,I,rfl,h⟩
theorem ZlE {j pos}:PE X (.Constant .none j pos) (tC .non):=fun _ _ _ H _ I h=>Constant_none ⟨.non,H,I,rfl,h⟩
theorem ZkX {x j pos}:PE X (.Constant (.str x) j pos) (tC (.str x)):=fun _ _ _ H _ I h=>Calls.Constant_str ⟨.str x,H,I.tok _,⟨_,rfl⟩,h⟩
noncomputable def Gl (X:Cx) (x:Str):Prop:=X.env.kindOf x = some .globalImplicit
theorem Zdz {E:Value → Shared → Prop} {pins:List (Addr × Obj)} {s:Shared} {σ:St} {H:Hp} {x:Str} {u:Value} {pos:Pos} {Q:Value → Shared → Prop} (I:Inv X pins σ H s) (hg:Gl X x) (hm:X.mg x = some u) (h:Q u s)
  (hd:(x == ("__debug__":Str)) = false:=by decide):wpAny (model X.prog X.w) X.A (eval (.Name x pos) X.env) Q E s:=
 Calls.Name_function_global I.ok.kind hg (Calls.loadGlobal_global (by rw [I.ok.glob]; exact I.mod.glob.keeps I.bk) hm h) hd
theorem ZfH {E:Value → Shared → Prop} {pins:List (Addr × Obj)} {s:Shared} {σ:St} {H:Hp} {x:Str} {u:Value} {pos:Pos} {Q:Value → Shared → Prop} (I:Inv X pins σ H s) (hg:Gl X x) (hm:X.mg x = none) (hv:bootBuiltins x = some u) (h:Q u s)
  (hn:x ≠ "__name__":=by decide) (hd:(x == ("__debug__":Str)) = false:=by decide):wpAny (model X.prog X.w) X.A (eval (.Name x pos) X.env) Q E s:=by
 obtain ⟨mb,h1,h2⟩:=I.mod.blt
 exact Calls.Name_function_global I.ok.kind hg (Calls.loadGlobal_builtin (by rw [I.ok.glob]; exact I.mod.glob.keeps I.bk) hm (by rw [I.ok.blt]; exact h1.keeps I.bk) ((h2 x hn).trans hv) h) hd
theorem Zhi {x:Str} {v:V} {u:Value} {pos:Pos} (hg:Gl X x) (hm:X.mg x = some u) (r:RelV v u) (hd:(x == ("__debug__":Str)) = false:=by decide):PE X (.Name x pos) (tC v):=
 fun _ _ _ H _ I h=>Zdz I hg hm ⟨v,H,I,r,h⟩ hd
theorem Zeg {x:Str} {v:V} {u:Value} {pos:Pos} (hg:Gl X x) (hm:X.mg x = none) (hv:bootBuiltins x = some u) (r:RelV v u) (hn:x ≠ "__name__":=by decide) (hd:(x == ("__debug__":Str)) = false:=by decide):PE X (.Name x pos) (tC v):=
 fun _ _ _ H _ I h=>ZfH I hg hm hv ⟨v,H,I,r,h⟩ hn hd
variable {a b:Expr} {ta tb:TE} {pos:Pos}
noncomputable def tB (t:TE):TT:=fun σ H Q=>t σ H fun x H1=>∃ c,x = .bl c ∧ Q c H1
theorem ZkV {e:Expr} {t:TE} (h:PE X e t) (he:∀ whole,isTrue e X.env whole = (do let v ← whole; standAt e.pos; holding [v] (truthy v)):=by intro _; rfl):PT X e (tB t):=by
 intro pins s σ H Q I hw
 refine isTrue_plain (thn (h pins s σ H _ I hw) fun v s1 zz1=>?_) (he _)
 obtain ⟨x,H1,I1,r1,q1⟩:=zz1
 obtain ⟨d,rfl,q⟩:=q1
 cases r1
 exact wpAny_truthy_bool ⟨H1,I1,q⟩
variable {tA tB':TT} {rest:List Expr}
noncomputable def Zok (t u:TT):TT:=fun σ H Q=>t σ H fun c H1=>if c = true then u σ H1 Q else Q false H1
noncomputable def tOr (t u:TT):TT:=fun σ H Q=>t σ H fun c H1=>if c = true then Q true H1 else u σ H1 Q
noncomputable def Zoc (t:TT):TT:=fun σ H Q=>t σ H fun c H1=>Q (!c) H1
theorem Zjv (ha:PT X a tA):PW X (.BoolOp .And [a] pos) tA:=by
 intro wh pins s σ H Q I h
 refine isTrue_and (thn (ha pins s σ H Q I h) fun c s1 e=>?_)
 cases c with
 | true=>exact isTrue_and_nil e
 | false=>exact e
theorem ZkN (ha:PT X a tA):PW X (.BoolOp .Or [a] pos) tA:=by
 intro wh pins s σ H Q I h
 refine isTrue_or (thn (ha pins s σ H Q I h) fun c s1 e=>?_)
 cases c with
 | false=>exact isTrue_or_nil e
 | true=>exact e
theorem Zlq (ha:PT X a tA) (hb:PW X (.BoolOp .And (b :: rest) pos) tB'):PW X (.BoolOp .And (a :: b :: rest) pos) (Zok tA tB'):=by
 intro wh pins s σ H Q I h
 refine isTrue_and (thn (ha pins s σ H _ I h) fun c s1 zz1=>?_)
 obtain ⟨H1,I1,q1⟩:=zz1
 cases c with
 | true=>exact hb wh pins s1 σ H1 Q I1 q1
 | false=>exact ⟨H1,I1,q1⟩
theorem Zm5 (ha:PT X a tA) (hb:PW X (.BoolOp .Or (b :: rest) pos) tB'):PW X (.BoolOp .Or (a :: b :: rest) pos) (tOr tA tB'):=by
 intro wh pins s σ H Q I h
 refine isTrue_or (thn (ha pins s σ H _ I h) fun c s1 zz1=>?_)
 obtain ⟨H1,I1,q1⟩:=zz1
 cases c with
 | true=>exact ⟨H1,I1,q1⟩
 | false=>exact hb wh pins s1 σ H1 Q I1 q1
theorem ZlD (ha:PT X a tA):PT X (.UnaryOp .Not a pos) (Zoc tA):=by
 intro pins s σ H Q I h
 exact isTrue_not (ha pins s σ H (fun c H1=>Q (!c) H1) I h)
noncomputable def ZmS (ta tb:TE):TE:=fun σ H Q=>ta σ H fun x H1=>∃ c,x = .bl c ∧ if c = true then tb σ H1 Q else Q (.bl false) H1
noncomputable def ZmQ (ta:TE):TE:=fun σ H Q=>ta σ H fun x H1=>∃ c,x = .bl c ∧ Q (.bl (!c)) H1
theorem Zly {op} {t:TE} (h:PE X a t):PE X (.BoolOp op [a] pos) t:=fun pins s σ H Q I hw=>BoolOp_one (h pins s σ H Q I hw)
theorem ZlB (ha:PE X a ta) (hb:PE X (.BoolOp .And (b :: rest) pos) tb):PE X (.BoolOp .And (a :: b :: rest) pos) (ZmS ta tb):=by
 intro pins s σ H Q I h
 refine BoolOp_and (thn (ha pins s σ H _ I h) fun v s1 zz1=>?_)
 obtain ⟨x,H1,I1,r1,q1⟩:=zz1
 obtain ⟨c,rfl,q1⟩:=q1
 cases r1
 refine wpAny_truthy_bool ?_
 cases c with
 | true=>exact hb pins s1 σ H1 Q I1 q1
 | false=>exact ⟨.bl false,H1,I1,rfl,q1⟩
theorem Zl8 (ha:PE X a ta):PE X (.UnaryOp .Not a pos) (ZmQ ta):=by
 intro pins s σ H Q I h
 refine UnaryOp_ (thn (ha pins s σ H _ I h) fun v s1 zz1=>?_)
 obtain ⟨x,H1,I1,r1,q1⟩:=zz1
 obtain ⟨c,rfl,q1⟩:=q1
 cases r1
 exact not_of (wpAny_truthy_bool ⟨.bl (!c),H1,I1,rfl,q1⟩)
noncomputable def tIf (t:TT) (ta tb:TE):TE:=fun σ H Q=>t σ H fun c H1=>if c = true then ta σ H1 Q else tb σ H1 Q
end
end L2
namespace L2
open PySem PySem.Spec PyProof.Rows
noncomputable def SqL (K:PySem.W.Frag) (H:Hp) (a:Addr) (xs:List V):Prop:=
 Rd H a (.lst xs) ∨
  ∃ (o:Obj) (its:Array Value) (n:Nat),K.lookup a = some o ∧ o.cls = .type "list" ∧ o.dict = none ∧ o.data = .seq its n ∧ its.size ≤ sizeLine ∧ Vals xs its.toList
noncomputable def SqT (K:PySem.W.Frag) (H:Hp) (a:Addr) (xs:List V):Prop:=
 Rd H a (.tup xs) ∨
  ∃ (o:Obj) (its:Array Value) (n:Nat),K.lookup a = some o ∧ (o.cls = .type "tuple" ∧ o.dict = none) ∧ o.data = .seq its n ∧ its.size ≤ sizeLine ∧ Vals xs its.toList
noncomputable def Zoi:Value → Option V
 | .none=>some .non
 | .bool b=>some (.bl b)
 | .int i _=>some (.int i)
 | .str x _=>some (.str x)
 | .bytes b _=>some (.byt b)
 | .float b _=>some (.flt b)
 | .ref a=>some (.ref a)
 | .type n=>some (.ty n)
 | _=>none
theorem RelV.abs {x:V} {u:Value} (r:RelV x u):Zoi u = some x:=by
 cases x with
 | non=>cases r; rfl
 | bl _=>cases r; rfl
 | int _=>obtain ⟨t,rfl⟩:=r; rfl
 | str _=>obtain ⟨t,rfl⟩:=r; rfl
 | byt _=>obtain ⟨t,rfl⟩:=r; rfl
 | flt _=>obtain ⟨t,rfl⟩:=r; rfl
 | ref _=>cases r; rfl
 | ty _=>cases r; rfl
theorem RelV.inj {x y:V} {u:Value} (r:RelV x u) (q:RelV y u):x = y:=Option.some.inj (r.abs.symm.trans q.abs)
theorem Vals.inj:∀ {xs ys:List V} {us:List Value},Vals xs us → Vals ys us → xs = ys
 | _,_,_,.nil,.nil=>rfl
 | _,_,_,.cons r t,.cons r' t'=>by rw [r.inj r',Vals.inj t t']
section
variable {X:Cx} {pins:List (Addr × Obj)} {σ:St} {H:Hp} {s:Shared} {a:Addr} {xs ys:List V}
theorem SqL.of {K:PySem.W.Frag} (h:H a = some (.lst xs)):SqL K H a xs:=.inl (.inl h)
theorem SqT.of {K:PySem.W.Frag} (h:H a = some (.tup xs)):SqT K H a xs:=.inl (.inl h)
theorem Inv.list (I:Inv X pins σ H s) (h:SqL X.K H a xs):∃ its:List Value,Vals xs its ∧ PlainL s.heap a its.toArray ∧ xs.length ≤ sizeLine:=by
 rcases h with h | ⟨o,its,n,hk,hc,hd,hs,hz,r⟩
 ·obtain ⟨z,its,n,r,e⟩:=h.ok I.hok
  exact ⟨its,r,⟨_,n,e,rfl,rfl,rfl⟩,z⟩
 ·refine ⟨its.toList,r,⟨o,n,I.kIn a o hk,hc,hd,by simpa using hs⟩,?_⟩
  have e:=r.length
  simp only [Array.length_toList] at e
  exact lC 2 2199576973345 T1 e hz
theorem Inv.tuple (I:Inv X pins σ H s) (h:SqT X.K H a xs):∃ its:List Value,Vals xs its ∧ IsTup s.heap a its.toArray ∧ xs.length ≤ sizeLine:=by
 rcases h with h | ⟨o,its,n,hk,hc,hs,hz,r⟩
 ·obtain ⟨z,its,r,p⟩:=h.ok I.hok
  exact ⟨its,r,p.tup,z⟩
 ·refine ⟨its.toList,r,⟨o,I.kIn a o hk,hc.1,n,by simpa using hs⟩,?_⟩
  have e:=r.length
  simp only [Array.length_toList] at e
  exact lC 2 2199576973345 T1 e hz
theorem Inv.list_inj (I:Inv X pins σ H s) (h:SqL X.K H a xs) (h':SqL X.K H a ys):xs = ys:=by
 obtain ⟨its,r,⟨o,n,e,_,_,d⟩,_⟩:=I.list h
 obtain ⟨its',r',⟨o',n',e',_,_,d'⟩,_⟩:=I.list h'
 rw [e] at e'; cases e'
 rw [d] at d'
 injection d' with d1 _
 have:its = its':=by simpa using congrArg Array.toList d1
 subst this
 exact r.inj r'
theorem Inv.tuple_inj (I:Inv X pins σ H s) (h:SqT X.K H a xs) (h':SqT X.K H a ys):xs = ys:=by
 obtain ⟨its,r,⟨o,e,_,n,d⟩,_⟩:=I.tuple h
 obtain ⟨its',r',⟨o',e',_,n',d'⟩,_⟩:=I.tuple h'
 rw [e] at e'; cases e'
 rw [d] at d'
 injection d' with d1 _
 have:its = its':=by simpa using congrArg Array.toList d1
 subst this
 exact r.inj r'
end
noncomputable abbrev Cx.wish (X:Cx) (E:Value → Shared → Prop):Cx:={ X with xe:=E }
noncomputable abbrev Cx.nox (X:Cx):Cx:=X.wish fun _ _=>False
theorem Cx.Ok.wish {X:Cx} (ok:X.Ok) (E:Value → Shared → Prop):(X.wish E).Ok:=
 ⟨ok.mod,ok.kind,ok.glob,ok.blt,ok.above,ok.inj,ok.has,ok.cab,ok.hd,ok.frames,ok.stk,ok.exf,ok.bs,ok.bsz,ok.noex,ok.exfs,ok.funs,ok.frf⟩
theorem Cx.Ok.unwish {X:Cx} {E:Value → Shared → Prop} (ok:(X.wish E).Ok):X.Ok:=
 ⟨ok.mod,ok.kind,ok.glob,ok.blt,ok.above,ok.inj,ok.has,ok.cab,ok.hd,ok.frames,ok.stk,ok.exf,ok.bs,ok.bsz,ok.noex,ok.exfs,ok.funs,ok.frf⟩
section
variable {X:Cx} {pins:List (Addr × Obj)} {σ:St} {H:Hp} {s:Shared} {E:Value → Shared → Prop}
theorem Inv.wish (I:Inv X pins σ H s) (E:Value → Shared → Prop):Inv (X.wish E) pins σ H s:=⟨I.ok.wish E,I.os,I.bare,I.base,I.loc,I.cell,I.free,I.freeC,I.pin,I.hok,I.len⟩
theorem Inv.unwish (I:Inv (X.wish E) pins σ H s):Inv X pins σ H s:=⟨I.ok.unwish,I.os,I.bare,I.base,I.loc,I.cell,I.free,I.freeC,I.pin,I.hok,I.len⟩
theorem SP.unwish {D:Ends} {f:Flow} {s':Shared} (h:SP (X.wish E) pins D f s'):SP X pins D f s':=by
 cases f with
 | next=>obtain ⟨σ',H',I,q⟩:=h; exact ⟨σ',H',I.unwish,q⟩
 | brk=>obtain ⟨σ',H',I,q⟩:=h; exact ⟨σ',H',I.unwish,q⟩
 | cont=>obtain ⟨σ',H',I,q⟩:=h; exact ⟨σ',H',I.unwish,q⟩
 | ret u=>obtain ⟨v,σ',H',I,r,q⟩:=h; exact ⟨v,σ',H',I.unwish,r,q⟩
theorem PT.nox {e:Expr} {t:TT} (h:PT X.nox e t):PT X e t:=fun pins s σ H Q I hw=>
 wpAny_mono (h pins s σ H Q (I.wish _) hw) (fun _ _ ⟨H',I',q⟩=>⟨H',I'.unwish,q⟩) fun _ _ z=>False.elim z
theorem PSs.nox {st:List Stmt} {t:TS} (h:PSs X.nox st t):PSs X st t:=fun pins s σ H D I hw=>
 wpAny_mono (h pins s σ H D (I.wish _) hw) (fun _ _ q=>q.unwish) fun _ _ z=>False.elim z
end
section
variable {X:Cx} {st:Stmt} {rest:List Stmt} {t u:TS} {e:Expr} {te:TE} {pos:Pos}
noncomputable def ZmF:TS:=fun D σ H=>D.nx σ H
noncomputable def Zom (t u:TS):TS:=fun D σ H=>t { D with nx:=u D } σ H
theorem Zjx:PSs X [] ZmF:=fun _ _ σ H _ I h=>wpAny_execs_nil ⟨σ,H,I,h⟩
theorem ZfZ (h1:PS X st t) (h2:PSs X rest u):PSs X (st :: rest) (Zom t u):=by
 intro pins s σ H D I h
 refine wpAny_execs_cons (thn (h1 pins s σ H { D with nx:=u D } I h) fun f s1 q=>?_)
 cases f with
 | next=>
  obtain ⟨σ',H',I',q⟩:=q
  exact h2 pins s1 σ' H' D I' q
 | ret v=>exact q
 | brk=>exact q
 | cont=>exact q
theorem Zg3 (h1:PS X st t):PSs X [st] t:=by
 intro pins s σ H D I h
 refine wpAny_execs_cons (thn (h1 pins s σ H D I h) fun f s1 q=>?_)
 cases f with
 | next=>exact wpAny_execs_nil q
 | ret v=>exact q
 | brk=>exact q
 | cont=>exact q
theorem Inv.quiet {pins:List (Addr × Obj)} {σ:St} {H:Hp} {s:Shared} (I:Inv X pins σ H s):interactive X.env = false:=by simp [interactive,I.ok.kind]
noncomputable def Znv (te:TE):TS:=fun D σ H=>te σ H fun _ H1=>D.nx σ H1
theorem Zhg (he:PE X e te) (hs:swapsWith e none pos.line X.env = pure false:=by rfl):PS X (.Expr e pos) (Znv te):=by
 intro pins s σ H D I h
 exact wpAny_Expr_any (thn (he pins s σ H _ I h) fun v s1 ⟨x,H1,I1,r1,q1⟩=>⟨σ,H1,I1,q1⟩) I.quiet hs
noncomputable def ZnT (te:TE):TS:=fun D σ H=>te σ H D.rt
theorem Zmj (he:PE X e te):PS X (.Return (some e) pos) (ZnT te):=by
 intro pins s σ H D I h
 exact wpAny_Return_some (thn (he pins s σ H _ I h) fun v s1 ⟨x,H1,I1,r1,q1⟩=>⟨x,σ,H1,I1,r1,q1⟩)
noncomputable def ZnZ (c:TT) (t u:TS):TS:=fun D σ H=>c σ H fun b H1=>if b = true then t D σ H1 else u D σ H1
theorem ZkC {c:Expr} {a b:List Stmt} {tc:TT} (hc:PT X c tc) (ha:PSs X a t) (hb:PSs X b u):PS X (.If c a b pos) (ZnZ tc t u):=by
 intro pins s σ H D I h
 refine wpAny_If (thn (hc pins s σ H _ I h) fun d s1 zz1=>?_)
 obtain ⟨H1,I1,q1⟩:=zz1
 cases d with
 | true=>exact ha pins s1 σ H1 D I1 q1
 | false=>exact hb pins s1 σ H1 D I1 q1
end
noncomputable abbrev TG:=V → St → Hp → (St → Hp → Prop) → Prop
noncomputable abbrev TGs:=List V → St → Hp → (St → Hp → Prop) → Prop
noncomputable def PG (X:Cx) (target:Expr) (t:TG):Prop:=
 ∀ (pins:List (Addr × Obj)) (s:Shared) (σ:St) (H:Hp) (v:V) (u:Value) (Q:St → Hp → Prop),Inv X pins σ H s → RelV v u → t v σ H Q →
  wpAny (model X.prog X.w) X.A (assign target X.env u) (fun _ s'=>∃ σ' H',Inv X pins σ' H' s' ∧ Q σ' H') X.xe s
noncomputable def PGs (X:Cx) (ts:List Expr) (t:TGs):Prop:=
 ∀ (pins:List (Addr × Obj)) (s:Shared) (σ:St) (H:Hp) (vs:List V) (us:List Value) (Q:St → Hp → Prop),Inv X pins σ H s → Vals vs us → t vs σ H Q →
  wpAny (model X.prog X.w) X.A (assignInOrder ((assignEach ts X.env).map (·.2)) us) (fun _ s'=>∃ σ' H',Inv X pins σ' H' s' ∧ Q σ' H') X.xe s
noncomputable abbrev Zk8:=V → V → V → Hp → (Hp → Prop) → Prop
noncomputable def Znl (X:Cx) (t:Zk8):Prop:=
 ∀ (pins:List (Addr × Obj)) (s:Shared) (σ:St) (H:Hp) (o i v:V) (ov iv u:Value) (Q:Hp → Prop),Inv X pins σ H s → RelV o ov → RelV i iv → RelV v u → t o i v H Q →
  wpAny (model X.prog X.w) X.A (setItem ov iv u) (fun _ s'=>∃ H',Inv X pins σ H' s' ∧ Q H') X.xe s
section
variable {X:Cx} {pos:Pos}
noncomputable def Zku (i:Nat):TG:=fun v σ H Q=>Q (σ.set i (some v)) H
theorem ZgP {i:Nat} {x:Str} (hN:X.N.Nodup) (hi:X.N[i]? = some x) (hx:Loc X.env.scope x) (hf:X.fn x = true ∨ X.env.scope.names.lookup x = some .local:=by first | exact .inl rfl | exact .inr rfl | assumption):PG X (.Name x pos) (Zku i):=by
 intro pins s σ H v u Q I r h
 exact wpAny_assign_Name (Zet I hN hi hx r (fun s' I'=>⟨_,H,I',h⟩) hf)
noncomputable def Zov:TGs:=fun vs σ H Q=>vs = [] ∧ Q σ H
noncomputable def Zna (t:TG) (u:TGs):TGs:=fun vs σ H Q=>∃ v r,vs = v :: r ∧ t v σ H fun σ' H'=>u r σ' H' Q
theorem ZjK:PGs X [] Zov:=by
 intro pins s σ H vs us Q I r h
 obtain ⟨e,h⟩:=h
 subst e
 cases r
 exact assignInOrder_nil ⟨σ,H,I,h⟩
theorem Zh5 {e:Expr} {es:List Expr} {t:TG} {u:TGs} (h1:PG X e t) (h2:PGs X es u)
  (hs:(assignEach (e :: es) X.env).map (·.2) = assign e X.env :: (assignEach es X.env).map (·.2):=by rfl):PGs X (e :: es) (Zna t u):=by
 intro pins s σ H vs us Q I r h
 obtain ⟨v,vr,e1,h⟩:=h
 subst e1
 cases r with
 | cons r rr=>
  rw [hs]
  refine assignInOrder_cons (thn (h1 pins s σ H _ _ _ I r h) fun _ s1 zz1=>?_)
  obtain ⟨σ1,H1,I1,q1⟩:=zz1
  exact h2 pins s1 σ1 H1 _ _ Q I1 rr q1
noncomputable def Zn2 (K:PySem.W.Frag) (n:Nat) (t:TGs):TG:=fun v σ H Q=>∃ a xs,v = .ref a ∧ SqT K H a xs ∧ xs.length = n ∧ t xs σ H Q
theorem Zmi {es:List Expr} {k:Nat} {t:TGs} {n:Nat} (hc:X.calm = true) (h:PGs X es t)
  (hn:(assignEach es X.env).length = n:=by rfl) (hst:(assignEach es X.env).findIdx? (·.1) = none:=by rfl):PG X (.Tuple es k pos) (Zn2 X.K n t):=by
 intro pins s σ H v u Q I r hw
 obtain ⟨a,xs,e1,hq,hl,hw⟩:=hw
 subst e1
 cases r
 obtain ⟨its,rv,ht,hz⟩:=I.tuple hq
 refine assign_Tuple_tuple (I.ok.hd hc) ht (by simp [hn,← hl,rv.length]) hst fun h' hx=>?_
 have I1:Inv X pins σ H { s with heap:=h' }:=I.kept (t':=s.toks) fun b o e=>hx b o (Nat.ne_of_lt (Heap.lt_size e)) e
 exact h pins _ σ H xs _ Q I1 (by simpa using rv) hw
noncomputable def Zn1 (to ti:TE) (t:Zk8):TG:=fun v σ H Q=>to σ H fun o H1=>ti σ H1 fun i H2=>t o i v H2 fun H3=>Q σ H3
theorem Zk4 {o i:Expr} {to ti:TE} {t:Zk8} (ho:PE X o to) (hi:PE X i ti) (hs:Znl X t)
  (ha:∀ v,assign (.Subscript o i pos) X.env v = (do
   let ov ← holding [v] (eval o X.env)
   let iv ← holding [v,ov] (eval i X.env)
   standAt pos
   holding [v,ov,iv] (setItem ov iv v)
   release [v,ov,iv] []):=by intro _; rfl):PG X (.Subscript o i pos) (Zn1 to ti t):=by
 intro pins s σ H v u Q I r h
 rw [ha]
 refine wpAny_bind (wpAny_holding (thn (ho pins s σ H _ I h) fun ov s1 zz1=>?_))
 obtain ⟨x,H1,I1,r1,q1⟩:=zz1
 refine wpAny_bind (wpAny_holding (thn (hi pins s1 σ H1 _ I1 q1) fun iv s2 zz1=>?_))
 obtain ⟨y,H2,I2,r2,q2⟩:=zz1
 refine wpAny_bind (wpAny_standAt (wpAny_bind (wpAny_holding (thn (hs pins s2 σ H2 x y v ov iv u _ I2 r1 r2 r q2) fun _ s3 zz1=>?_))))
 obtain ⟨H3,I3,q3⟩:=zz1
 exact wpAny_release ⟨σ,H3,I3,q3⟩
noncomputable def Znu (te:TE) (g:TG):TS:=fun D σ H=>te σ H fun x H1=>g x σ H1 D.nx
theorem Zl0 {tg e:Expr} {te:TE} {g:TG} (he:PE X e te) (hg:PG X tg g) (hs:swapsWithSole [tg] e pos.line X.env = pure false:=by rfl) (hw:swappedStores [tg] e X.env = pure none:=by rfl)
  (h1:(assignEach [tg] X.env).map (·.2) = [assign tg X.env]:=by rfl):PS X (.Assign [tg] e pos) (Znu te g):=by
 intro pins s σ H D I h
 refine wpAny_Assign_stores (thn (he pins s σ H _ I h) fun v s1 zz1=>?_) hs hw
 obtain ⟨x,H1,I1,r1,q1⟩:=zz1
 rw [h1]
 exact thn (hg pins s1 σ H1 x v _ I1 r1 q1) fun _ s2 q=>q
theorem Zlj {i:Nat} {x:Str} {e:Expr} {te:TE} {pos':Pos} (hN:X.N.Nodup) (hi:X.N[i]? = some x) (hx:Loc X.env.scope x) (he:PE X e te) (hs:swapsWith e (some (.Name x pos')) pos.line X.env = pure false:=by rfl) (hf:X.fn x = true ∨ X.env.scope.names.lookup x = some .local:=by first | exact .inl rfl | exact .inr rfl | assumption):
  PS X (.Assign [.Name x pos'] e pos) (Znu te (Zku i)):=by
 intro pins s σ H D I h
 refine wpAny_Assign_Name (thn (he pins s σ H _ I h) fun v s1 zz1=>?_) hs
 obtain ⟨y,H1,I1,r1,q1⟩:=zz1
 exact Zet I1 hN hi hx r1 (fun s2 I2=>⟨_,H1,I2,q1⟩) hf
end
section
variable {X:Cx} {pos:Pos}
end
structure It where
 go:Nat → Hp → Prop
 yld:Nat → Hp → V → Hp → Prop
 stop:Nat → Hp → Prop
noncomputable def Zey (X:Cx) (pins:List (Addr × Obj)) (H:Hp) (b:Addr):Prop:=
 H b = none ∧ b ≠ X.env.locals ∧ b ∉ X.fs ∧ (b ∈ X.ex ∨ X.s₀.heap.objs.size ≤ b) ∧ (∀ x c,X.env.cells.lookup x = some c → c ≠ b) ∧ ∀ p ∈ X.pn ++ pins,p.1 ≠ b
theorem Inv.fpOk {X:Cx} {pins:List (Addr × Obj)} {σ:St} {H H':Hp} {s:Shared} {b:Addr} (I:Inv X pins σ H s) (hb:s.heap.objs.size ≤ b) (hn:H' b = none):Zey X pins H' b:=by
 refine ⟨hn,Nat.ne_of_gt (Nat.lt_of_lt_of_le I.lt hb),I.nofs hb,.inr (Nat.le_trans I.sz hb),fun x c e z=>?_,fun p hp z=>?_⟩
 ·obtain ⟨v,q⟩:=I.cell x c e
  exact absurd (Nat.lt_of_lt_of_le q.lt (by rw [z]; exact hb)) (Nat.lt_irrefl _)
 ·exact absurd (Nat.lt_of_lt_of_le (Heap.lt_size (I.pin p hp).1) (by rw [z]; exact hb)) (Nat.lt_irrefl _)
structure Turn (P:Program) (w:World) (K:PySem.W.Frag) (tg:Expr) (J:It) (fp:List Addr) (it:Addr) (tn:Nat → Heap → Prop):Prop where
 mem:it ∈ fp
 obj:∀ i h,tn i h → ∀ b ∈ fp,∃ o,h.get? b = some o ∧ ∀ v,o.data ≠ .cell v
 keep:∀ i h h',tn i h → (∀ b ∈ fp,∀ o,h.get? b = some o → h'.get? b = some o) → tn i h'
 item:∀ (X:Cx),X.prog = P → X.w = w → X.K = K → X.calm = true → ∀ (i:Nat) (pins:List (Addr × Obj)) (s:Shared) (σ:St) (H:Hp) (E:Value → Shared → Prop),Inv X pins σ H s → (∀ b ∈ fp,Zey X pins H b) → tn i s.heap → J.go i H →
  wpAny (model P w) X.A (pyNext (.ref it)) (fun r s1=>∃ u,r = some u ∧
   wpAny (model P w) X.A (letOwnedTupleGo tg (.ref it) u) (fun _ s2=>∃ x H',Inv X pins σ H' s2 ∧ RelV x u ∧ J.yld i H x H' ∧ tn (i + 1) s2.heap ∧ ∀ b ∈ fp,H' b = none) E s1) E s
 done:∀ (X:Cx),X.prog = P → X.w = w → X.K = K → X.calm = true → ∀ (i:Nat) (pins:List (Addr × Obj)) (s:Shared) (σ:St) (H:Hp) (E:Value → Shared → Prop),Inv X pins σ H s → (∀ b ∈ fp,Zey X pins H b) → tn i s.heap → J.stop i H →
  wpAny (model P w) X.A (pyNext (.ref it)) (fun r s1=>r = none ∧ Inv X pins σ H s1) E s
 self:∀ (A:Around) (i:Nat) (s:Shared) (Q:Value → Shared → Prop) (E:Value → Shared → Prop),tn i s.heap → Q (.ref it) s → wpAny (model P w) A (pyIter (.ref it)) Q E s
noncomputable abbrev TI:=St → Hp → (It → Hp → Prop) → Prop
noncomputable def PIE (X:Cx) (pins:List (Addr × Obj)) (σ:St) (tg:Expr) (R:It → Hp → Prop) (itv:Value) (s2:Shared):Prop:=
 ∃ (it:Addr) (fp:List Addr) (tn:Nat → Heap → Prop) (J:It) (H':Hp),itv = .ref it ∧ Inv X pins σ H' s2 ∧ Turn X.prog X.w X.K tg J fp it tn ∧ tn 0 s2.heap ∧ (∀ b ∈ fp,Zey X pins H' b) ∧ R J H'
noncomputable def PI (X:Cx) (tg iter:Expr) (wi:TI):Prop:=
 ∀ (pins:List (Addr × Obj)) (s:Shared) (σ:St) (H:Hp) (R:It → Hp → Prop),Inv X pins σ H s → wi σ H R →
  wpAny (model X.prog X.w) X.A (eval iter X.env) (fun v s1=>wpAny (model X.prog X.w) X.A (pyIter v) (PIE X pins σ tg R) X.xe s1) X.xe s
theorem Zg5 {M:Model} {A:Around} {E:Value → Shared → Prop} {s:Shared} {tg:Expr} {it:Addr} {u:Value} {o:Obj} {n:String} {vs:Array Value} {Q:Unit → Shared → Prop} (ho:s.heap.get? it = some o) (hc:o.cls = .type n) (hd:o.data = .fields vs)
  (hn:["enumerate","zip","dict_itemiterator","dict_reverseitemiterator","odict_iterator","itertools.zip_longest","itertools.pairwise"].contains n = false) (hQ:Q () s):wpAny M A (letOwnedTupleGo tg (.ref it) u) Q E s:=by
 unfold letOwnedTupleGo
 cases tg <;> first
  | exact wpAny_pure hQ
  | (cases u <;> first
    | exact wpAny_pure hQ
    | (refine wpAny_bind (wpAny_load ho ?_)
       rw [hc,hd]
       show wpAny M A (if (["enumerate","zip","dict_itemiterator","dict_reverseitemiterator","odict_iterator","itertools.zip_longest","itertools.pairwise"].contains n && vs[0]? == some (rawInt _)) = true then _ else _) Q E s
       rw [if_neg (by intro h; rw [hn,Bool.false_and] at h; cases h)]
       exact wpAny_pure hQ))
noncomputable def Itl (K:PySem.W.Frag) (a:Addr):It:=
 ⟨fun i H=>∃ xs x,SqL K H a xs ∧ xs[i]? = some x,fun i H x H'=>H' = H ∧ ∀ xs,SqL K H a xs → xs[i]? = some x,fun i H=>∃ xs,SqL K H a xs ∧ xs.length ≤ i⟩
noncomputable def Itt (K:PySem.W.Frag) (a:Addr):It:=
 ⟨fun i H=>∃ xs x,SqT K H a xs ∧ xs[i]? = some x,fun i H x H'=>H' = H ∧ ∀ xs,SqT K H a xs → xs[i]? = some x,fun i H=>∃ xs,SqT K H a xs ∧ xs.length ≤ i⟩
noncomputable def Itr (lo:Int) (n:Nat):It:=⟨fun i _=>i < n,fun i H x H'=>H' = H ∧ x = .int (lo + i),fun i _=>n ≤ i⟩
theorem Zhm {P:Program} {w:World} {K:PySem.W.Frag} {tg:Expr} (a it:Addr):Turn P w K tg (Itl K a) [it] it (fun i h=>h.IsListIter it a i) where
 mem:=by simp
 obj:=fun i h st b hb=>by
  have e:b = it:=by simpa using hb
  subst e
  obtain ⟨o,e,c,d⟩:=st
  exact ⟨o,e,fun v z=>by rw [d] at z; cases z⟩
 keep:=fun i h h' st k=>st.at fun o e=>k it (by simp) o e
 item:=by
  intro X hP hw hK hc i pins s σ H E I hf st hg
  subst hP hw hK
  obtain ⟨xs,x,hq,hx⟩:=hg
  obtain ⟨its,rv,p,hz⟩:=I.list hq
  obtain ⟨u,hu,ru⟩:=rv.get hx
  obtain ⟨f0,f1,f2,f3,f4,f5⟩:=hf it (by simp)
  refine wpAny_pyNext_list_item st p.isList (x:=u) (by simpa using hu) fun h' st' sb=>?_
  have I1:Inv X pins σ H { s with heap:=h' }:=I.turned (t':=s.toks) (fun b o hb e=>(sb.2 b hb).trans e) f0 f1 f3 f4 f5
  obtain ⟨o,e,c,d⟩:=id st'
  exact ⟨u,rfl,Zg5 (s:={ s with heap:=h' }) e c d (by decide) ⟨x,H,I1,ru,⟨rfl,fun ys hy=>by rw [I.list_inj hy hq]; exact hx⟩,st',fun b hb=>(hf b hb).1⟩⟩
 done:=by
  intro X hP hw hK hc i pins s σ H E I hf st hg
  subst hP hw hK
  obtain ⟨xs,hq,hx⟩:=hg
  obtain ⟨its,rv,p,hz⟩:=I.list hq
  obtain ⟨f0,f1,f2,f3,f4,f5⟩:=hf it (by simp)
  have hl:=rv.length
  exact wpAny_pyNext_list_end (I.ok.hd hc) st p.isList (by simp; exact lC 2 2268279672881 T1 hl hx) fun h' eb=>⟨rfl,I.turned (t':=s.toks) (fun b o hb e=>eb b o hb e) f0 f1 f3 f4 f5⟩
 self:=fun _ _ _ _ _ st h=>wpAny_pyIter_listiter st h
theorem Zgz {P:Program} {w:World} {K:PySem.W.Frag} {tg:Expr} (a it:Addr):Turn P w K tg (Itt K a) [it] it (fun i h=>h.IsTupleIter it a i) where
 mem:=by simp
 obj:=fun i h st b hb=>by
  have e:b = it:=by simpa using hb
  subst e
  obtain ⟨o,e,c,d⟩:=st
  exact ⟨o,e,fun v z=>by rw [d] at z; cases z⟩
 keep:=fun i h h' st k=>st.at fun o e=>k it (by simp) o e
 item:=by
  intro X hP hw hK hc i pins s σ H E I hf st hg
  subst hP hw hK
  obtain ⟨xs,x,hq,hx⟩:=hg
  obtain ⟨its,rv,p,hz⟩:=I.tuple hq
  obtain ⟨u,hu,ru⟩:=rv.get hx
  obtain ⟨f0,f1,f2,f3,f4,f5⟩:=hf it (by simp)
  refine wpAny_pyNext_tuple_item st (show s.heap.IsTuple a its.toArray from p) (x:=u) (by simpa using hu) fun h' st' sb=>?_
  have I1:Inv X pins σ H { s with heap:=h' }:=I.turned (t':=s.toks) (fun b o hb e=>(sb.2 b hb).trans e) f0 f1 f3 f4 f5
  obtain ⟨o,e,c,d⟩:=id st'
  exact ⟨u,rfl,Zg5 (s:={ s with heap:=h' }) e c d (by decide) ⟨x,H,I1,ru,⟨rfl,fun ys hy=>by rw [I.tuple_inj hy hq]; exact hx⟩,st',fun b hb=>(hf b hb).1⟩⟩
 done:=by
  intro X hP hw hK hc i pins s σ H E I hf st hg
  subst hP hw hK
  obtain ⟨xs,hq,hx⟩:=hg
  obtain ⟨its,rv,p,hz⟩:=I.tuple hq
  obtain ⟨f0,f1,f2,f3,f4,f5⟩:=hf it (by simp)
  have hl:=rv.length
  exact wpAny_pyNext_tuple_end (I.ok.hd hc) st (show s.heap.IsTuple a its.toArray from p) (by simp; exact lC 2 2268279672881 T1 hl hx) fun h' eb=>⟨rfl,I.turned (t':=s.toks) (fun b o hb e=>eb b o hb e) f0 f1 f3 f4 f5⟩
 self:=fun _ _ _ _ _ st h=>wpAny_pyIter_tupleiter st h
theorem Zgr {P:Program} {w:World} {K:PySem.W.Frag} {tg:Expr} (it:Addr) (lo:Int) (n:Nat):Turn P w K tg (Itr lo n) [it] it (fun i h=>IsRangeIter h it (lo + (i:Nat) * 1) ((n:Int) - (i:Nat)) 1) where
 mem:=by simp
 obj:=fun i h st b hb=>by
  have e:b = it:=by simpa using hb
  subst e
  exact ⟨_,st,fun v z=>by
   have z':Data.fields _ = Data.cell v:=z
   cases z'⟩
 keep:=fun i h h' st k=>k it (by simp) _ st
 item:=by
  intro X hP hw hK hc i pins s σ H E I hf st hg
  subst hP hw hK
  obtain ⟨f0,f1,f2,f3,f4,f5⟩:=hf it (by simp)
  have W:=Walks.range (prog:=X.prog) (w:=X.w) (I.ok.hd hc) it lo 1 n
  refine W.item i s _ _ hg st fun v h' tk hv st' kk=>?_
  obtain ⟨t,rfl⟩:=hv
  have I1:Inv X pins σ H { s with heap:=h',toks:=tk }:=I.turned (fun b o hb e=>kk b o (by simpa using hb) e) f0 f1 f3 f4 f5
  refine ⟨_,rfl,Zg5 (s:={ s with heap:=h',toks:=tk }) (n:="range_iterator") st' rfl rfl (by decide) ⟨.int (lo + i),H,I1,⟨t,?_⟩,⟨rfl,rfl⟩,st',fun b hb=>(hf b hb).1⟩⟩
  rw [Int.mul_one]
 done:=by
  intro X hP hw hK hc i pins s σ H E I hf st hg
  subst hP hw hK
  obtain ⟨f0,f1,f2,f3,f4,f5⟩:=hf it (by simp)
  exact wpAny_pyNext_range_end (I.ok.hd hc) st (by have:n ≤ i:=hg; exact iN [_,_] [] 1 0xe1808f81001 T1 this) fun h' eb=>⟨rfl,I.turned (t':=s.toks) (fun b o hb e=>eb b o hb e) f0 f1 f3 f4 f5⟩
 self:=fun _ _ _ _ _ st h=>wpAny_pyIter_rangeiter st h
end L2
namespace L2
open PySem PySem.Spec PyProof.Rows
section
variable {X:Cx} {tg:Expr}
noncomputable def Zm9 (K:PySem.W.Frag) (tl:TE):TI:=fun σ H R=>tl σ H fun x H1=>∃ a,x = .ref a ∧ (∃ xs,SqL K H1 a xs) ∧ R (Itl K a) H1
noncomputable def ZnS (K:PySem.W.Frag) (tl:TE):TI:=fun σ H R=>tl σ H fun x H1=>∃ a,x = .ref a ∧ (∃ xs,SqT K H1 a xs) ∧ R (Itt K a) H1
theorem Zkb {l:Expr} {tl:TE} (hl:PE X l tl):PI X tg l (Zm9 X.K tl):=by
 intro pins s σ H R I h
 refine thn (hl pins s σ H _ I h) fun v s1 zz1=>?_
 obtain ⟨x,H1,I1,r1,q1⟩:=zz1
 obtain ⟨a,e,⟨xs,hq⟩,q⟩:=q1
 subst e
 cases r1
 obtain ⟨its,rv,p,hz⟩:=I1.list hq
 refine wpAny_pyIter_list p.isList ?_
 refine ⟨s1.heap.objs.size,[s1.heap.objs.size],_,_,H1,rfl,I1.kept (t':=s1.toks) fun b o e=>Heap.get?_push_of_some _ e,Zhm a _,⟨_,Heap.get?_push_size _ rfl,rfl,rfl⟩,fun b hb=>?_,q⟩
 have e:b = s1.heap.objs.size:=by simpa using hb
 subst e
 exact I1.fpOk (Nat.le_refl _) (I1.hok.fresh (Nat.le_refl _))
theorem ZkR {l:Expr} {tl:TE} (hl:PE X l tl):PI X tg l (ZnS X.K tl):=by
 intro pins s σ H R I h
 refine thn (hl pins s σ H _ I h) fun v s1 zz1=>?_
 obtain ⟨x,H1,I1,r1,q1⟩:=zz1
 obtain ⟨a,e,⟨xs,hq⟩,q⟩:=q1
 subst e
 cases r1
 obtain ⟨its,rv,p,hz⟩:=I1.tuple hq
 refine wpAny_pyIter_tuple (show s1.heap.IsTuple a its.toArray from p) ?_
 refine ⟨s1.heap.objs.size,[s1.heap.objs.size],_,_,H1,rfl,I1.kept (t':=s1.toks) fun b o e=>Heap.get?_push_of_some _ e,Zgz a _,⟨_,Heap.get?_push_size _ rfl,rfl,rfl⟩,fun b hb=>?_,q⟩
 have e:b = s1.heap.objs.size:=by simpa using hb
 subst e
 exact I1.fpOk (Nat.le_refl _) (I1.hok.fresh (Nat.le_refl _))
theorem Zid {pins:List (Addr × Obj)} {σ:St} {H:Hp} {s:Shared} {R:It → Hp → Prop} {E:Value → Shared → Prop} {lo hi:Int} {t u v:Tok} {tk:Nat} (I:Inv X pins σ H s) (h1:-(2 ^ 62) ≤ lo) (h2:lo < 2 ^ 62) (h3:-(2 ^ 62) ≤ hi) (h4:hi < 2 ^ 62)
  (q:R (Itr lo (hi - lo).toNat) H):wpAny (model X.prog X.w) X.A (pyIter (.ref s.heap.objs.size)) (PIE X pins σ tg R) E { s with heap:=s.heap.push { cls:=.type "range",data:=.fields #[.int lo t,.int hi u,.int 1 v] },toks:=tk }:=by
 refine wpAny_pyIter_range (IsRange.new ..) (small_one h1 h2 h3 h4) ?_
 have I1:Inv X pins σ H { s with heap:=s.heap.push { cls:=.type "range",data:=.fields #[.int lo t,.int hi u,.int 1 v] },toks:=tk }:=I.kept fun b o e=>Heap.get?_push_of_some _ e
 refine ⟨(s.heap.push { cls:=.type "range",data:=.fields #[.int lo t,.int hi u,.int 1 v] }).objs.size,[(s.heap.push { cls:=.type "range",data:=.fields #[.int lo t,.int hi u,.int 1 v] }).objs.size],_,_,H,rfl,
  I1.kept (t':=tk) fun b o e=>Heap.get?_push_of_some _ e,Zgr _ lo (hi - lo).toNat,?_,fun b hb=>?_,q⟩
 ·have e1:lo + ((0:Nat):Int) * 1 = lo:=by simp
  have e2:(((hi - lo).toNat:Nat):Int) - ((0:Nat):Int) = Builtin.Range.rangeSize lo hi 1:=by rw [rangeSize_one]; split <;> omega
  show IsRangeIter _ _ (lo + ((0:Nat):Int) * 1) ((((hi - lo).toNat:Nat):Int) - ((0:Nat):Int)) 1
  rw [e1,e2]
  exact Heap.get?_push_size _ rfl
 ·have e:b = (s.heap.push { cls:=.type "range",data:=.fields #[.int lo t,.int hi u,.int 1 v] }).objs.size:=by simpa using hb
  subst e
  exact I1.fpOk (Nat.le_refl _) (I1.hok.fresh (Nat.le_refl _))
noncomputable def ZmC (ta:TA):TI:=fun σ H R=>ta σ H fun vs H1=>∃ j:Int,vs = [.int j] ∧ -(2 ^ 62) ≤ j ∧ j < 2 ^ 62 ∧ R (Itr 0 j.toNat) H1
theorem ZhJ {a:Expr} {ta:TA} {p pos:Pos} (hg:Gl X "range") (hm:X.mg "range" = none) (ha:PA X [a] ta) (hs:starEach [a] X.env = [(false,eval a X.env)]:=by rfl):PI X tg (.Call (.Name "range" p) [a] [] pos) (ZmC ta):=by
 intro pins s σ H R I h
 refine Call_ (ZfH I hg hm boot_range (PyProof.Rows.callWith_type1 (thn (ha pos pins s σ H _ I h) fun us s1 zz1=>?_) hs rfl))
 obtain ⟨vs,H1,I1,r1,q1⟩:=zz1
 obtain ⟨j,e,q1,q2,q⟩:=q1
 subst e
 cases r1 with
 | cons r rr=>
  cases rr
  obtain ⟨t,rfl⟩:=r
  exact call_range_1 (Zid I1 (by omega) (by omega) q1 q2 (by simpa using q))
noncomputable def Zoh (wi:TI) (g:TG) (tb:TS):TS:=fun D σ H=>wi σ H fun J H1=>∃ W:Nat → Nat → St → Hp → Prop,(∃ m,W 0 m σ H1) ∧ ∀ i m σ H,W i m σ H →
 (J.stop i H ∧ D.nx σ H) ∨ (J.go i H ∧ ∃ N:St → Hp → Prop,(∀ σ' H',N σ' H' → ∃ m',m' < m ∧ W (i + 1) m' σ' H') ∧ ∀ x H',J.yld i H x H' → g x σ H' fun σ2 H2=>tb { D with nx:=N,ct:=N,bk:=D.nx } σ2 H2)
noncomputable def ZeJ (fp:List Addr) (h:Heap):List (Addr × Obj):=fp.filterMap fun b=>(h.get? b).map fun o=>(b,o)
theorem ZcJ {fp:List Addr} {h:Heap} {b:Addr} {o:Obj} (hb:b ∈ fp) (e:h.get? b = some o):(b,o) ∈ ZeJ fp h:=List.mem_filterMap.mpr ⟨b,hb,by rw [e]; rfl⟩
theorem Zhj {fp:List Addr} {h:Heap} {p:Addr × Obj} (hp:p ∈ ZeJ fp h):p.1 ∈ fp ∧ h.get? p.1 = some p.2:=by
 obtain ⟨b,hb,e⟩:=List.mem_filterMap.mp hp
 cases q:h.get? b with
 | none=>rw [q] at e; cases e
 | some o=>
  rw [q] at e
  have e':(b,o) = p:=Option.some.inj e
  subst e'
  exact ⟨hb,q⟩
theorem Inv.pinned {pins:List (Addr × Obj)} {σ:St} {H:Hp} {s:Shared} {fp:List Addr} (I:Inv X pins σ H s) (hf:∀ b ∈ fp,Zey X pins H b) (ho:∀ b ∈ fp,∃ o,s.heap.get? b = some o ∧ ∀ v,o.data ≠ .cell v):Inv X (pins ++ ZeJ fp s.heap) σ H s:=
 I.pins_of fun p hp=>(List.mem_append.mp hp).elim (fun z=>I.pin p (List.mem_append_right _ z)) fun z=>by
  obtain ⟨hb,e⟩:=Zhj z
  obtain ⟨f0,f1,f2,_⟩:=hf p.1 hb
  obtain ⟨o,e',d⟩:=ho p.1 hb
  rw [e] at e'; cases e'
  exact ⟨e,f0,f1,f2,d⟩
theorem Inv.unpinned {pins pl:List (Addr × Obj)} {σ:St} {H:Hp} {s:Shared} (I:Inv X (pins ++ pl) σ H s):Inv X pins σ H s:=I.pins_of fun p hp=>I.pin p (List.mem_append_right _ (List.mem_append_left _ hp))
theorem Zlm {iter:Expr} {body:List Stmt} {wi:TI} {g:TG} {tb:TS} {pos:Pos} (hp:PassesOwn (model X.prog X.w) X.A X.env X.xe) (hc:X.calm = true) (hi:PI X tg iter wi) (hg:PG X tg g) (hb:PSs X body tb)
  (hs:∀ x,foldedSetIterable iter X.env x = pure x:=by intro _; rfl):PS X (.For tg iter body [] pos) (Zoh wi g tb):=by
 intro pins s σ H D I h
 refine wpAny_For (thn (hi pins s σ H _ I h) fun v s1 h1=>thn h1 fun itv s2 h2=>?_) hs
 obtain ⟨it,fp,tn,J,H2,e,I2,T,st2,f2,W,⟨m0,w0⟩,turn⟩:=h2
 subst e
 have stat:∀ {H':Hp},(∀ b ∈ fp,H' b = none) → ∀ b ∈ fp,Zey X pins H' b:=fun hn b hb=>⟨hn b hb,(f2 b hb).2⟩
 refine codeAny_forLoop_any (fun n s'=>∃ i σ' H',Inv X pins σ' H' s' ∧ tn i s'.heap ∧ (∀ b ∈ fp,H' b = none) ∧ W i n σ' H') ?_ m0 ⟨0,σ,H2,I2,st2,fun b hb=>(f2 b hb).1,w0⟩
 rintro n s3 ⟨i,σ3,H3,I3,st3,fr3,w3⟩
 rcases turn i n σ3 H3 w3 with ⟨stop,qn⟩ | ⟨go,N,hN,step⟩
 ·refine wpAny_passesOwn hp (thn (T.done X rfl rfl rfl hc i pins s3 σ3 H3 X.xe I3 (stat fr3) st3 stop) fun r s4 ⟨hr,I4⟩=>?_)
  subst hr
  exact wpAny_execs_nil ⟨σ3,H3,I4,qn⟩
 ·refine wpAny_passesOwn hp (thn (T.item X rfl rfl rfl hc i pins s3 σ3 H3 X.xe I3 (stat fr3) st3 go) fun r s4 ⟨u,hr,h4⟩=>?_)
  subst hr
  refine wpAny_passesOwn hp (thn h4 fun _ s5 zz1=>?_)
  obtain ⟨x,H5,I5,r5,y5,st5,fr5⟩:=zz1
  have I5':=I5.pinned (stat fr5) (T.obj _ _ st5)
  refine wpAny_passesOwn hp (thn (hg _ s5 σ3 H5 x u _ I5' r5 (step x H5 y5)) fun _ s6 zz1=>?_)
  obtain ⟨σ6,H6,I6,q6⟩:=zz1
  refine wpAny_passesOwn hp (thn (hb _ s6 σ6 H6 _ I6 q6) fun f s7 q7=>?_)
  have again:∀ {σ7:St} {H7:Hp},Inv X (pins ++ ZeJ fp s5.heap) σ7 H7 s7 → N σ7 H7 → ∃ m,m < n ∧ ∃ i σ' H',Inv X pins σ' H' s7 ∧ tn i s7.heap ∧ (∀ b ∈ fp,H' b = none) ∧ W i m σ' H':=fun {σ7 H7} I7 n7=>by
   obtain ⟨m',hm,w7⟩:=hN σ7 H7 n7
   refine ⟨m',hm,i + 1,σ7,H7,I7.unpinned,T.keep _ _ _ st5 fun b hb o e=>(I7.pin (b,o) (List.mem_append_right _ (List.mem_append_right _ (ZcJ hb e)))).1,fun b hb=>?_,w7⟩
   obtain ⟨o,e,d⟩:=T.obj _ _ st5 b hb
   exact (I7.pin (b,o) (List.mem_append_right _ (List.mem_append_right _ (ZcJ hb e)))).2.1
  cases f with
  | next=>obtain ⟨σ7,H7,I7,n7⟩:=q7; exact again I7 n7
  | cont=>obtain ⟨σ7,H7,I7,n7⟩:=q7; exact again I7 n7
  | brk=>obtain ⟨σ7,H7,I7,q7⟩:=q7; exact ⟨σ7,H7,I7.unpinned,q7⟩
  | ret v=>obtain ⟨x7,σ7,H7,I7,r7,q7⟩:=q7; exact ⟨x7,σ7,H7,I7.unpinned,r7,q7⟩
end
end L2
namespace L2
open PySem PySem.Spec PyProof.Rows
noncomputable abbrev R2:=V → V → Hp → VK → Prop
noncomputable def OpR (X:Cx) (f:Value → Value → Sem Value) (r:R2):Prop:=
 ∀ (pins:List (Addr × Obj)) (s:Shared) (σ:St) (H:Hp) (x y:V) (v u:Value) (Q:VK),Inv X pins σ H s → RelV x v → RelV y u → r x y H Q →
  wpAny (model X.prog X.w) X.A (f v u) (EP X pins σ Q) X.xe s
noncomputable def UnR (X:Cx) (f:Value → Sem Value) (r:V → Hp → VK → Prop):Prop:=
 ∀ (pins:List (Addr × Obj)) (s:Shared) (σ:St) (H:Hp) (x:V) (v:Value) (Q:VK),Inv X pins σ H s → RelV x v → r x H Q →
  wpAny (model X.prog X.w) X.A (f v) (EP X pins σ Q) X.xe s
noncomputable def Zba (X:Cx) (f:Value) (r:List V → Hp → VK → Prop):Prop:=
 ∀ (pins:List (Addr × Obj)) (s:Shared) (σ:St) (H:Hp) (xs:List V) (us:List Value) (Q:VK),Inv X pins σ H s → Vals xs us → r xs H Q →
  wpAny (model X.prog X.w) X.A (call f us) (EP X pins σ Q) X.xe s
noncomputable def tOp (r:R2) (ta tb:TE):TE:=fun σ H Q=>ta σ H fun x H1=>tb σ H1 fun y H2=>r x y H2 Q
noncomputable def tUn (r:V → Hp → VK → Prop) (ta:TE):TE:=fun σ H Q=>ta σ H fun x H1=>r x H1 Q
noncomputable def rI (C:Int → Int → Prop) (g:Int → Int → V):R2:=fun x y H Q=>∃ i j,x = .int i ∧ y = .int j ∧ C i j ∧ Q (g i j) H
noncomputable def rI0 (g:Int → Int → V):R2:=fun x y H Q=>∃ i j,x = .int i ∧ y = .int j ∧ Q (g i j) H
noncomputable def rU (g:Int → V):V → Hp → VK → Prop:=fun x H Q=>∃ i,x = .int i ∧ Q (g i) H
section
variable {X:Cx} {a b c:Expr} {ta tb tc:TE} {pos:Pos}
theorem ZlS (ha:PE X a ta) (hb:PE X b tb) {pins:List (Addr × Obj)} {s:Shared} {σ:St} {H:Hp} {R:V → V → Hp → Prop} (I:Inv X pins σ H s)
  (h:ta σ H fun x H1=>tb σ H1 fun y H2=>R x y H2) {Q:Value → Shared → Prop} {f:Value → Value → Sem Value}
  (hf:∀ v u s2 x y H2,Inv X pins σ H2 s2 → RelV x v → RelV y u → R x y H2 → wpAny (model X.prog X.w) X.A (f v u) Q X.xe s2):
  wpAny (model X.prog X.w) X.A (eval a X.env) (fun v s₁=>wpAny (model X.prog X.w) X.A (eval b X.env) (fun u s₂=>wpAny (model X.prog X.w) X.A (f v u) Q X.xe s₂) X.xe s₁) X.xe s:=by
 refine thn (ha pins s σ H _ I h) fun v s1 zz1=>?_
 obtain ⟨x,H1,I1,r1,q1⟩:=zz1
 refine thn (hb pins s1 σ H1 _ I1 q1) fun u s2 zz1=>?_
 obtain ⟨y,H2,I2,r2,q2⟩:=zz1
 exact hf v u s2 x y H2 I2 r1 r2 q2
theorem ZmH {op:Operator} {r:R2} (ho:OpR X (binaryOp op) r) (ha:PE X a ta) (hb:PE X b tb):PE X (.BinOp a op b pos) (tOp r ta tb):=by
 intro pins s σ H Q I h
 exact wpAny_BinOp (ZlS ha hb I h fun v u s2 x y H2 I2 rx ry q=>ho pins s2 σ H2 x y v u Q I2 rx ry q)
theorem Zns {op:UnaryOp} {r:V → Hp → VK → Prop} (ho:UnR X (unaryOp op) r) (ha:PE X a ta):PE X (.UnaryOp op a pos) (tUn r ta):=by
 intro pins s σ H Q I h
 exact UnaryOp_ (thn (ha pins s σ H _ I h) fun v s1 ⟨x,H1,I1,r1,q1⟩=>ho pins s1 σ H1 x v Q I1 r1 q1)
theorem opI {f:Value → Value → Sem Value} {C:Int → Int → Prop} {g:Int → Int → Int}
  (rule:∀ (i j:Int) (t u:Tok) (s:Shared) (Q:Value → Shared → Prop) (E:Value → Shared → Prop),C i j → Q (.int (g i j) s.toks) { s with toks:=s.toks + 1 } → wpAny (model X.prog X.w) X.A (f (.int i t) (.int j u)) Q E s):
  OpR X f (rI C fun i j=>.int (g i j)):=by
 intro pins s σ H x y v u Q I rx ry h
 obtain ⟨i,j,rfl,rfl,hc,q⟩:=h
 obtain ⟨t,rfl⟩:=rx
 obtain ⟨t',rfl⟩:=ry
 exact rule i j t t' s _ _ hc ⟨.int (g i j),H,I.tok _,⟨_,rfl⟩,q⟩
theorem Znz {f:Value → Value → Sem Value} {g:Int → Int → Int}
  (rule:∀ (i j:Int) (t u:Tok) (s:Shared) (Q:Value → Shared → Prop) (E:Value → Shared → Prop),Q (.int (g i j) s.toks) { s with toks:=s.toks + 1 } → wpAny (model X.prog X.w) X.A (f (.int i t) (.int j u)) Q E s):
  OpR X f (rI0 fun i j=>.int (g i j)):=by
 intro pins s σ H x y v u Q I rx ry h
 obtain ⟨i,j,rfl,rfl,q⟩:=h
 obtain ⟨t,rfl⟩:=rx
 obtain ⟨t',rfl⟩:=ry
 exact rule i j t t' s _ _ ⟨.int (g i j),H,I.tok _,⟨_,rfl⟩,q⟩
theorem Zk3 {f:Value → Value → Sem Value} {g:Int → Int → Bool}
  (rule:∀ (i j:Int) (t u:Tok) (s:Shared) (Q:Value → Shared → Prop) (E:Value → Shared → Prop),Q (.bool (g i j)) s → wpAny (model X.prog X.w) X.A (f (.int i t) (.int j u)) Q E s):
  OpR X f (rI0 fun i j=>.bl (g i j)):=by
 intro pins s σ H x y v u Q I rx ry h
 obtain ⟨i,j,rfl,rfl,q⟩:=h
 obtain ⟨t,rfl⟩:=rx
 obtain ⟨t',rfl⟩:=ry
 exact rule i j t t' s _ _ ⟨.bl (g i j),H,I,rfl,q⟩
noncomputable def Zoj (i j:Int):Prop:=0 < j ∧ j < 1073741824
noncomputable def Zon (i j:Int):Prop:=0 ≤ j ∧ j ≤ 1000000 ∧ i.natAbs < 2 ^ 64
noncomputable def Zme (i j:Int):Prop:=(-(2 ^ 64) < i ∧ i < 2 ^ 64) ∨ (-(2 ^ 64) < j ∧ j < 2 ^ 64)
theorem Zme.ok {i j:Int} (h:Zme i j):IntMulOk i j:=by
 rcases h with ⟨h1,h2⟩ | ⟨h1,h2⟩
 ·exact .of_left (intBits_le_64 h1 h2)
 ·exact .of_right (intBits_le_64 h1 h2)
theorem ZlN:OpR X (binaryOp .Add) (rI0 fun i j=>.int (i + j)):=Znz fun _ _ _ _ _ _ _ q=>add_int q
theorem ZkM:OpR X (binaryOp .Sub) (rI0 fun i j=>.int (i - j)):=Znz fun _ _ _ _ _ _ _ q=>sub_int q
theorem Zmg:OpR X (binaryOp .Mult) (rI Zme fun i j=>.int (i * j)):=opI fun _ _ _ _ _ _ _ hc q=>mul_int q hc.ok
theorem Zkp:OpR X (binaryOp .FloorDiv) (rI Zoj fun i j=>.int (i / j)):=opI fun i j _ _ _ _ _ hc q=>by
 have h1:(0:Int) < j:=hc.1
 have h2:j < 1073741824:=hc.2
 exact floordiv_int (by exact fun z=>iN [] [_] 2 26014245025 T1 z h1) (by rw [Int.fdiv_eq_ediv_of_nonneg i (by exact Int.le_of_lt h1)]; exact q) (.inl (PyProof.noPylong_small (by omega)))
theorem Zlr:OpR X (binaryOp .Mod) (rI (fun _ j=>0 < j) fun i j=>.int (i % j)):=opI fun i j _ _ _ _ _ hc q=>by
 have h1:(0:Int) < j:=hc
 exact mod_int' (by exact fun z=>iN [] [_] 2 26014245025 T1 z h1) (by rw [Int.fmod_eq_emod_of_nonneg i (by exact Int.le_of_lt h1)]; exact q)
theorem Zla:OpR X (binaryOp .Pow) (rI Zon fun i j=>.int (i ^ j.toNat)):=opI fun _ _ _ _ _ _ _ hc q=>pow_int_small hc.1 hc.2.1 hc.2.2 q
theorem unI {f:Value → Sem Value} {g:Int → Int}
  (rule:∀ (i:Int) (t:Tok) (s:Shared) (Q:Value → Shared → Prop) (E:Value → Shared → Prop),Q (.int (g i) s.toks) { s with toks:=s.toks + 1 } → wpAny (model X.prog X.w) X.A (f (.int i t)) Q E s):
  UnR X f (rU fun i=>.int (g i)):=by
 intro pins s σ H x v Q I rx h
 obtain ⟨i,rfl,q⟩:=h
 obtain ⟨t,rfl⟩:=rx
 exact rule i t s _ _ ⟨.int (g i),H,I.tok _,⟨_,rfl⟩,q⟩
theorem Zlp:UnR X (unaryOp .USub) (rU fun i=>.int (-i)):=unI fun _ _ _ _ _ q=>neg_int q
end
section
variable {X:Cx} {a b c:Expr} {ta tb tc:TE} {pos:Pos}
theorem ZmD:OpR X (compareOp .Lt) (rI0 fun i j=>.bl (decide (i < j))):=Zk3 fun _ _ _ _ _ _ _ q=>lt_int q
theorem Zm2:OpR X (compareOp .Gt) (rI0 fun i j=>.bl (decide (j < i))):=Zk3 fun _ _ _ _ _ _ _ q=>gt_int q
theorem ZnB:OpR X (compareOp .GtE) (rI0 fun i j=>.bl (decide (j ≤ i))):=Zk3 fun _ _ _ _ _ _ _ q=>ge_int q
noncomputable def isObj:HO → Bool
 | .lst _=>true
 | .ins _ _ _=>true
 | _=>false
theorem ZdS {pins:List (Addr × Obj)} {s:Shared} {σ:St} {H:Hp} {a:Addr} {o:HO} (I:Inv X pins σ H s) (h:H a = some o) (p:isObj o = true):∃ ob,s.heap.get? a = some ob ∧ ob.cls ≠ .type "tuple":=by
 cases o with
 | lst xs=>
  obtain ⟨_,its,n,_,e⟩:xs.length ≤ sizeLine ∧ ∃ (its:List Value) (n:Nat),Vals xs its ∧ s.heap.get? a = some { cls:=.type "list",data:=.seq its.toArray n }:=I.hok a _ h
  exact ⟨_,e,(by show Value.type "list" ≠ .type "tuple"; decide +kernel)⟩
 | ins C dx fs=>
  have x:=I.hok a _ h
  obtain ⟨_,_,_,e,_⟩:=x
  exact ⟨_,e,(by show Value.ref C ≠ .type "tuple"; exact fun z=>by cases z)⟩
 | _=>exact absurd (show false = true from p) Bool.false_ne_true
theorem OpR.or {f:Value → Value → Sem Value} {r r':R2} (h:OpR X f r) (h':OpR X f r'):OpR X f (fun x y H Q=>r x y H Q ∨ r' x y H Q):=by
 intro pins s σ H x y v u Q I rx ry q
 rcases q with q | q
 ·exact h pins s σ H x y v u Q I rx ry q
 ·exact h' pins s σ H x y v u Q I rx ry q
theorem ZjU {op:CmpOp} {r:R2} (ho:OpR X (compareOp op) r) (ha:PE X a ta) (hb:PE X b tb) (hm:behindInMarks op b = false):PE X (.Compare a [op] [b] pos) (tOp r ta tb):=by
 intro pins s σ H Q I h
 exact wpAny_Compare1 (ZlS ha hb I h fun v u s2 x y H2 I2 rx ry q=>ho pins s2 σ H2 x y v u Q I2 rx ry q) hm
noncomputable def Znr (t:TE):TT:=fun σ H Q=>t σ H fun x H'=>∃ k,x = .bl k ∧ Q k H'
theorem Zjh {op:CmpOp} {r:R2} (ho:OpR X (compareOp op) r) (ha:PE X a ta) (hb:PE X b tb) (hm:behindInMarks op b = false):PT X (.Compare a [op] [b] pos) (Znr (tOp r ta tb)):=by
 intro pins s σ H Q I h
 refine wpAny_isTrue_Compare1 (thn (ha pins s σ H _ I h) fun v s1 ⟨x,H1,I1,r1,q1⟩=>thn (hb pins s1 σ H1 _ I1 q1) fun u s2 ⟨y,H2,I2,r2,q2⟩=>
  thn (ho pins s2 σ H2 x y v u _ I2 r1 r2 q2) fun c s3 ⟨z,H3,I3,r3,k,e,q3⟩=>?_) hm
 subst e
 cases r3
 exact wpAny_truthy_bool ⟨H3,I3,q3⟩
theorem ZeB:(sizeLine:Nat) < 2 ^ 63:=by rw [sizeLine_eq]; decide
theorem Zgv:OpR X (binaryOp .Add) (fun x y H Q=>∃ i j,x = .str i ∧ y = .str j ∧ i.length + j.length ≤ sizeLine ∧ Q (.str (i ++ j)) H):=by
 intro pins s σ H x y v u Q I rx ry h
 obtain ⟨i,j,rfl,rfl,hz,q⟩:=h
 obtain ⟨t,rfl⟩:=rx
 obtain ⟨t',rfl⟩:=ry
 exact add_str (fun t' tk=>⟨.str (i ++ j),H,I.tok _,⟨_,rfl⟩,q⟩) hz
theorem vals1 {x:V} {us:List Value} (r:Vals [x] us):∃ u,us = [u] ∧ RelV x u:=by
 cases r with
 | cons r1 r2=>cases r2; exact ⟨_,rfl,r1⟩
theorem vals2 {x y:V} {us:List Value} (r:Vals [x,y] us):∃ u w',us = [u,w'] ∧ RelV x u ∧ RelV y w':=by
 cases r with
 | cons r1 r2=>
  cases r2 with
  | cons r3 r4=>cases r4; exact ⟨_,_,rfl,r1,r3⟩
theorem ZhE (hc:X.calm = true):Zba X (.builtin "max") (fun xs H Q=>∃ i j,xs = [.int i,.int j] ∧ Q (.int (if j > i then j else i)) H):=by
 intro pins s σ H xs us Q I r h
 obtain ⟨i,j,rfl,q⟩:=h
 obtain ⟨u,w',rfl,⟨t,rfl⟩,⟨t',rfl⟩⟩:=vals2 r
 refine max_two_ints (I.ok.hd hc) fun h' tk k=>⟨_,H,I.kept k,?_,q⟩
 by_cases hj:j > i
 ·rw [if_pos hj,if_pos hj]; exact ⟨_,rfl⟩
 ·rw [if_neg hj,if_neg hj]; exact ⟨_,rfl⟩
noncomputable def Zn8 (K:PySem.W.Frag) (x:V) (H:Hp) (n:Nat):Prop:=
 match x with
 | .str y=>y.length ≤ sizeLine ∧ n = y.length
 | .byt y=>y.size ≤ sizeLine ∧ n = y.size
 | .ref p=>(∃ xs,SqL K H p xs ∧ n = xs.length) ∨ ∃ xs,SqT K H p xs ∧ n = xs.length
 | _=>False
theorem Zii:Zba X (.builtin "len") (fun xs H Q=>∃ x n,xs = [x] ∧ Zn8 X.K x H n ∧ Q (.int n) H):=by
 intro pins s σ H xs us Q I r h
 obtain ⟨x,n,rfl,e,q⟩:=h
 obtain ⟨u,rfl,rx⟩:=vals1 r
 have hl:=ZeB
 have hs:sizeLine = 16777216:=sizeLine_eq
 cases x with
 | str y=>
  obtain ⟨t,rfl⟩:=rx
  obtain ⟨hy,e'⟩:y.length ≤ sizeLine ∧ n = y.length:=e
  subst e'
  exact len_str (by omega) ⟨.int _,H,I.tok _,⟨_,rfl⟩,q⟩
 | byt y=>
  obtain ⟨t,rfl⟩:=rx
  obtain ⟨hy,e'⟩:y.size ≤ sizeLine ∧ n = y.size:=e
  subst e'
  exact PySem.W.len_bytes (by omega) ⟨.int _,H,I.tok _,⟨_,rfl⟩,q⟩
 | ref p=>
  cases rx
  have e':(∃ xs,SqL X.K H p xs ∧ n = xs.length) ∨ ∃ xs,SqT X.K H p xs ∧ n = xs.length:=e
  rcases e' with ⟨xs,hx,e'⟩ | ⟨xs,hx,e'⟩
  ·subst e'
   obtain ⟨its,r',pl,hz⟩:=I.list hx
   have hlen:=r'.length
   exact Calls.call_len_list pl.isList (by simp only [List.size_toArray]; omega) ⟨.int xs.length,H,I.tok _,⟨_,by simp only [List.size_toArray]; rw [hlen]⟩,q⟩
  ·subst e'
   obtain ⟨its,r',pl,hz⟩:=I.tuple hx
   have hlen:=r'.length
   exact len_tuple pl (by simp only [List.size_toArray]; omega) ⟨.int xs.length,H,I.tok _,⟨_,by simp only [List.size_toArray]; rw [hlen]⟩,q⟩
 | _=>exact (show False from e).elim
end
end L2
namespace L2
open PySem PySem.Spec PyProof.Rows
structure Zgl (h:Heap) (x dx C:Addr) (mA:Str → Option Value):Prop where
 obj:h.get? x = some (PySem.W.instObj C dx)
 ns:h.Ns1 dx mA
 ne:dx ≠ x
theorem Zhq {h:Heap} {dx:Addr} {mA:Str → Option Value} (n:h.Ns1 dx mA):∃ od,h.get? dx = some od ∧ ∀ name,PySem.W.lookIn name od = some (mA name):=by
 obtain ⟨o,es,ep,ho,hd,hk,_,hm⟩:=n
 refine ⟨o,ho,fun name=>?_⟩
 have e:=hm name
 unfold nsFind findBy at e
 rw [← Array.find?_toList] at e
 unfold PySem.W.lookIn
 rw [hd]
 dsimp only
 split
 ·rename_i y q
  rw [q] at e
  exact congrArg some e
 ·rename_i q
  rw [q] at e
  have a:es.toList.any (·.refKey) = false:=by
   rw [List.any_eq_false]
   intro y hy
   obtain ⟨z,t,hkey⟩:=hk y (Array.mem_toList_iff.mp hy)
   simp [DictEntry.refKey,hkey]
  have a':¬ es.toList.any (·.refKey) = true:=by rw [a]; exact Bool.false_ne_true
  rw [if_neg a']
  exact congrArg some e
theorem Zgl.look {h:Heap} {x dx C:Addr} {mA:Str → Option Value} (I:Zgl h x dx C mA):∃ od,PySem.W.InstAt h x (PySem.W.instObj C dx) C (some od) ∧ ∀ name,PySem.W.lookIn name od = some (mA name):=
 let ⟨od,ho,hl⟩:=Zhq I.ns
 ⟨od,⟨I.obj,rfl,rfl,ho⟩,hl⟩
section
variable {prog:Program} {w:World} {A:Around} {E:Value → Shared → Prop} {s:Shared} {K:PySem.W.Frag} {x dx C f:Addr} {mA:Str → Option Value} {name:Str} {v:Value}
theorem ZjD {expr:Bool} {Q:Value → Shared → Prop} (X:K.In s.heap) (I:Zgl s.heap x dx C mA) (hg:PySem.W.plainGet K C name = true) (hh:PySem.W.hasDictIn K C = true)
  (ha:PySem.W.findIn K (.ref C) name = some none) (hv:mA name = some v) (hv':PySem.W.handedIn v = true) (h:Q v { s with toks:=s.toks + 1 }):
  wpAny (model prog w) A (getAttr (.ref x) name expr) Q E s:=by
 obtain ⟨od,J,hl⟩:=I.look
 exact PySem.W.get_value X J (PySem.W.plainGet_of hg).1 (PySem.W.findObj_own hh ha rfl (by rw [hl,hv])) hv' h
theorem ZiE {pl:Sem Bool} {Q:Value × List Value → Shared → Prop} (X:K.In s.heap) (I:Zgl s.heap x dx C mA) (hg:PySem.W.plainGet K C name = true)
  (hf:PySem.W.findIn K (.ref C) name = some (some (.ref f))) (ht:PySem.W.isFn K (.ref f) = true) (hv:mA name = none) (h:Q (.ref f,[.ref x]) s):
  wpAny (model prog w) A (getMethod (.ref x) name pl) Q E s:=by
 obtain ⟨od,J,hl⟩:=I.look
 exact PySem.W.method_fn X J (PySem.W.plainGet_of hg).1 (PySem.W.plainGet_of hg).2 hf (beq_iff_eq.mp ht) (by show (PySem.W.lookIn name od).map (·.isSome) = some false; rw [hl,hv]; rfl) h
theorem Zj6 {ns:List Str} {Q:Unit → Shared → Prop} (X:K.In s.heap) (I:Zgl s.heap x dx C mA)
  (hs:PySem.W.findIn K (.ref C) "__setattr__" = some (some (.builtin "object.__setattr__"))) (hp:PySem.W.plainOver K C = true) (ht:PySem.W.takerIn K C name = some none) (hh:PySem.W.hasDictIn K C = true)
  (hw:PySem.Within mA ns) (hsz:ns.length ≤ sizeLine)
  (h:∀ h',Zgl h' x dx C (fun y=>if y = name then some v else mA y) → Heap.SameBut dx s.heap h' → Q () { s with heap:=h',toks:=s.toks + 2 }):
  wpAny (model prog w) A (setAttr (.ref x) name v) Q E s:=by
 obtain ⟨od,J,hl⟩:=I.look
 refine PySem.W.set_plain X J hs (PySem.W.osa_open (s:={ s with toks:=s.toks + 1 }) (r:=none) X J hp ht fun b=>?_)
 obtain ⟨cd,hc,hd'⟩:=PySem.W.any_some hh
 have hx:s.heap.get? x = some ⟨.ref C,some dx,.plain,#[]⟩:=I.obj
 refine wpAny_bind (wpAny_pure (wpAny_bind (wpAny_bind (wpAny_loadPart hx (wpAny_bind (PySem.W.Looks.here (s:={ s with toks:=s.toks + 1 }) (PySem.W.looks_clsIn X hc) ?_))))))
 rw [hd']
 refine wpAny_pure (a:=some dx) (wpAny_bind (wpAny_pure (wpAny_bind ?_)))
 refine wpAny_nsSet1 (s:={ s with toks:=s.toks + 1 }) I.ns fun h' hn2 hs2=>?_
 obtain ⟨oD,esD,epD,hoD,hdD,hcD⟩:=hn2.count (PySem.Within.cons name v hw)
 refine wpAny_bind (wpAny_lookBehind hoD (by rw [hdD]; exact pastItsLine_dict (Nat.le_trans hcD (by rw [List.length_cons]; exact lB 1 0xa1ca0c01001 T1 hsz))) ?_)
 exact wpAny_pure (h _ ⟨(hs2.2 _ (Ne.symm I.ne)).trans I.obj,hn2,I.ne⟩ hs2)
theorem Zis {R:Result → Shared → Prop} {vs:List Value} {kw:List (Str × Value)} (X:K.In s.heap) (hm:PySem.W.makesIn K C = true)
  (hi:PySem.W.findIn K (.ref C) "__init__" = some (some (.ref f))) (hf:PySem.W.typeIn K (.ref f) = some (.type "function"))
  (h:codeAny (model prog w) (A.under (.builtin "type.__call__" ⟨.ref C :: vs,kw⟩)) (.call (.ref f) ⟨.ref (s.heap.objs.size + 1) :: vs,kw⟩) (PySem.W.InitBack (s.heap.objs.size + 1) R)
   { s with heap:=(s.heap.push PySem.W.emptyDict).push (PySem.W.instObj C s.heap.objs.size) }):
  codeAny (model prog w) A (.call (.ref C) ⟨vs,kw⟩) R s:=by
 obtain ⟨hh,g,d,t,os⟩:=s
 exact PySem.W.make_core (PySem.W.makes_of X hm) (PySem.W.looks_findIn X hi) (fun self=>PySem.W.bind_fn X self hf) (.inl rfl) h
end
noncomputable def Zct (f:Str) (v:V):List (Str × V) → List (Str × V)
 | []=>[(f,v)]
 | (g,x) :: r=>if g = f then (g,v) :: r else (g,x) :: Zct f v r
theorem Zd5 (f g:Str) (v:V):∀ fs:List (Str × V),(Zct f v fs).lookup g = if g = f then some v else fs.lookup g
 | []=>by
  show List.lookup g [(f,v)] = _
  by_cases h:g = f
  ·have hb:(g == f) = true:=beq_iff_eq.mpr h
   simp only [List.lookup,hb,if_pos h]
  ·have hb:(g == f) = false:=beq_eq_false_iff_ne.mpr h
   simp only [List.lookup,hb,if_neg h]
 | (k,x) :: r=>by
  have ih:=Zd5 f g v r
  rw [show Zct f v ((k,x) :: r) = (if k = f then (k,v) :: r else (k,x) :: Zct f v r) from rfl]
  by_cases hk:k = f
  ·rw [if_pos hk]
   by_cases h:g = k
   ·have hb:(g == k) = true:=beq_iff_eq.mpr h
    simp only [List.lookup,hb,if_pos (h.trans hk)]
   ·have hb:(g == k) = false:=beq_eq_false_iff_ne.mpr h
    simp only [List.lookup,hb,if_neg (fun e:g = f=>h (e.trans hk.symm))]
  ·rw [if_neg hk]
   by_cases h:g = k
   ·have hb:(g == k) = true:=beq_iff_eq.mpr h
    simp only [List.lookup,hb,if_neg (fun e:g = f=>hk (h.symm.trans e))]
   ·have hb:(g == k) = false:=beq_eq_false_iff_ne.mpr h
    simp only [List.lookup,hb]
    exact ih
theorem ZdZ (f:Str) (v:V):∀ fs:List (Str × V),f ∈ (Zct f v fs).map (·.1) ∧ ∀ g,g ∈ fs.map (·.1) → g ∈ (Zct f v fs).map (·.1)
 | []=>⟨by simp [Zct],fun g h=>by simp at h⟩
 | (k,x) :: r=>by
  obtain ⟨i1,i2⟩:=ZdZ f v r
  rw [show Zct f v ((k,x) :: r) = (if k = f then (k,v) :: r else (k,x) :: Zct f v r) from rfl]
  by_cases hk:k = f
  ·rw [if_pos hk]
   subst hk
   exact ⟨by simp,fun g h=>by simpa using h⟩
  ·rw [if_neg hk]
   refine ⟨?_,fun g h=>?_⟩
   ·rw [List.map_cons]
    exact List.mem_cons_of_mem _ i1
   ·rw [List.map_cons] at h ⊢
    rcases List.mem_cons.mp h with e | e
    ·exact List.mem_cons.mpr (.inl e)
    ·exact List.mem_cons_of_mem _ (i2 g e)
theorem Zd3 (f:Str) (v:V):∀ fs:List (Str × V),(Zct f v fs).length ≤ fs.length + 1
 | []=>by simp [Zct]
 | (k,x) :: r=>by
  have ih:=Zd3 f v r
  rw [show Zct f v ((k,x) :: r) = (if k = f then (k,v) :: r else (k,x) :: Zct f v r) from rfl]
  by_cases hk:k = f
  ·rw [if_pos hk,List.length_cons,List.length_cons]; exact Nat.le_add_right _ _
  ·rw [if_neg hk,List.length_cons,List.length_cons]; exact lB 1 0xaa1cca0c0a1c001 T1 ih
theorem Zc6.some_of {v:V} {o:Option Value} (r:Zc6 (some v) o):∃ u,o = some u ∧ RelV v u:=by
 cases o with
 | none=>exact (show False from r).elim
 | some u=>exact ⟨u,rfl,r⟩
theorem Zc6.none_of {o:Option Value} (r:Zc6 none o):o = none:=by
 cases o with
 | none=>rfl
 | some u=>exact (show False from r).elim
theorem Zhz {v:V} {u:Value} (r:RelV v u):PySem.W.handedIn u = true:=by
 cases v with
 | non=>cases (show u = Value.none from r); rfl
 | bl b=>cases (show u = Value.bool b from r); rfl
 | int i=>obtain ⟨t,e⟩:=(show ∃ t,u = Value.int i t from r); cases e; rfl
 | str x=>obtain ⟨t,e⟩:=(show ∃ t,u = Value.str x t from r); cases e; rfl
 | byt b=>obtain ⟨t,e⟩:=(show ∃ t,u = Value.bytes b t from r); cases e; rfl
 | flt b=>obtain ⟨t,e⟩:=(show ∃ t,u = Value.float b t from r); cases e; rfl
 | ref a=>cases (show u = Value.ref a from r); rfl
 | ty n=>cases (show u = Value.type n from r); rfl
section
variable {P:Program} {w:World} {H H':Hp} {h h':Heap} {a C dx:Addr} {fs fs':List (Str × V)}
theorem Zeh (hok:HOk P w H h) (e:H a = some (.ins C dx fs)):∃ mA,Zgl h a dx C mA ∧ (∀ f,Zc6 (fs.lookup f) (mA f)) ∧ PySem.Within mA (fs.map (·.1)) ∧ fs.length ≤ 1000 ∧ H dx = some (.own a):=by
 obtain ⟨d,z,ne,ob,mA,n,r,q⟩:=(show ZaZ P w H h a (.ins C dx fs) from hok a _ e)
 exact ⟨mA,⟨ob,n,ne⟩,r,q,z,d⟩
end
structure Cls (K:PySem.W.Frag) (C:Addr):Prop where
 pg:PySem.W.plainGet K C Str.empty = true
 hd:PySem.W.hasDictIn K C = true
 po:PySem.W.plainOver K C = true
 sa:PySem.W.findIn K (.ref C) "__setattr__" = some (some (.builtin "object.__setattr__"))
theorem Cls.get {K:PySem.W.Frag} {C:Addr} (c:Cls K C) (f:Str):PySem.W.plainGet K C f = true:=c.pg
noncomputable def Zcp (K:PySem.W.Frag) (C:Addr) (f:Str):Prop:=PySem.W.findIn K (.ref C) f = some none
theorem Zcp.taker {K:PySem.W.Frag} {C:Addr} {f:Str} (n:Zcp K C f):PySem.W.takerIn K C f = some none:=by
 unfold PySem.W.takerIn
 rw [show PySem.W.findIn K (.ref C) f = some none from n]
 rfl
structure Meth (K:PySem.W.Frag) (C:Addr) (m:Str) (f:Addr):Prop where
 at_:PySem.W.findIn K (.ref C) m = some (some (.ref f))
 fn:PySem.W.isFn K (.ref f) = true
 kp:PySem.W.keepIn K (.ref f) = true
section
variable {X:Cx} {pins:List (Addr × Obj)} {σ:St} {H:Hp} {s:Shared} {a C dx:Addr} {fs:List (Str × V)} {f:Str} {v:V} {A:Around} {E:Value → Shared → Prop}
theorem ZgF {b:Bool} {Q:Value → Shared → Prop} (I:Inv X pins σ H s) (e:H a = some (.ins C dx fs)) (c:Cls X.K C) (n:Zcp X.K C f) (l:fs.lookup f = some v)
  (h:∀ u s',Inv X pins σ H s' → RelV v u → Q u s'):wpAny (model X.prog X.w) A (getAttr (.ref a) f b) Q E s:=by
 obtain ⟨mA,O,r,_,_,_⟩:=Zeh I.hok e
 obtain ⟨u,hu,ru⟩:=Zc6.some_of (v:=v) (o:=mA f) (by rw [← l]; exact r f)
 exact ZjD I.kIn O (c.get f) c.hd n hu (Zhz ru) (h u _ (I.tok _) ru)
theorem Zdk {m:Str} {g:Addr} {pl:Sem Bool} {Q:Value × List Value → Shared → Prop} (I:Inv X pins σ H s) (e:H a = some (.ins C dx fs)) (c:Cls X.K C) (k:Meth X.K C m g) (l:fs.lookup m = none)
  (h:Q (.ref g,[.ref a]) s):wpAny (model X.prog X.w) A (getMethod (.ref a) m pl) Q E s:=by
 obtain ⟨mA,O,r,_,_,_⟩:=Zeh I.hok e
 have hn:mA m = none:=Zc6.none_of (by rw [← l]; exact r m)
 exact ZiE I.kIn O (c.get m) k.at_ k.fn hn h
theorem Zgp {y:V} {u:Value} {Q:Unit → Shared → Prop} (I:Inv X pins σ H s) (e:H a = some (.ins C dx fs)) (c:Cls X.K C) (n:Zcp X.K C f) (hl:fs.length < 1000) (ry:RelV y u)
  (h:∀ s',Inv X pins σ (upd H a (.ins C dx (Zct f y fs))) s' → Q () s'):wpAny (model X.prog X.w) A (setAttr (.ref a) f u) Q E s:=by
 obtain ⟨mA,O,r,wi,_,ho⟩:=Zeh I.hok e
 have hz:(fs.map (·.1)).length ≤ sizeLine:=by rw [List.length_map,sizeLine_eq]; exact lA 1 0x10000007b003e83b011 T1 hl
 refine Zj6 I.kIn O c.sa c.po n.taker c.hd wi hz fun h' O' sb=>h _ ?_
 have hd:∃ o,h'.get? dx = some o:=let ⟨o,_,_,e',_⟩:=O'.ns; ⟨o,e'⟩
 refine I.write (x:=a) (e:=dx) (by rw [e]; exact True.intro) (.inr ho) (fun b q hb z=>(sb.2 b hb).trans z) hd ?_
 refine ⟨by rw [Zan O.ne]; exact ho,?_,O.ne,O'.obj,_,O'.ns,fun g=>?_,fun g hg=>?_⟩
 ·have:=Zd3 f y fs; exact lB 2 0x3e83b003e83b111a1c001 T1 this hl
 ·show Zc6 ((Zct f y fs).lookup g) (if g = f then some u else mA g)
  rw [Zd5]
  by_cases q:g = f
  ·rw [if_pos q,if_pos q]; exact ry
  ·rw [if_neg q,if_neg q]; exact r g
 ·by_cases q:g = f
  ·rw [q]; exact (ZdZ f y fs).1
  ·refine (ZdZ f y fs).2 g (wi g fun z=>hg ?_)
   show (if g = f then some u else mA g) = none
   rw [if_neg q]; exact z
theorem Inv.made (I:Inv X pins σ H s):Inv X pins σ (upd (upd H s.heap.objs.size (.own (s.heap.objs.size + 1))) (s.heap.objs.size + 1) (.ins C s.heap.objs.size []))
  { s with heap:=(s.heap.push PySem.W.emptyDict).push (PySem.W.instObj C s.heap.objs.size) }:=by
 have e1:(s.heap.push PySem.W.emptyDict).get? s.heap.objs.size = some PySem.W.emptyDict:=Heap.get?_push_size s.heap rfl
 have e2:((s.heap.push PySem.W.emptyDict).push (PySem.W.instObj C s.heap.objs.size)).get? (s.heap.objs.size + 1) = some (PySem.W.instObj C s.heap.objs.size):=by
  have:=Heap.get?_push_size (s.heap.push PySem.W.emptyDict) (o:=PySem.W.instObj C s.heap.objs.size) rfl
  rwa [Heap.size_push] at this
 have e3:(s.heap.push PySem.W.emptyDict).Ns s.heap.objs.size (fun _=>none):=⟨PySem.W.emptyDict,#[],_,e1,rfl,(fun e he=>absurd he (by simp)),fun _=>rfl⟩
 have I1:=I.laid (a:=s.heap.objs.size) (o:=.own (s.heap.objs.size + 1)) (h':=s.heap.push PySem.W.emptyDict) (t':=s.toks) (fun b u q=>Heap.get?_push_of_some _ q) (Nat.le_refl _) ⟨_,e1⟩
 refine I1.laid (a:=s.heap.objs.size + 1) (o:=.ins C s.heap.objs.size []) (t':=s.toks) (fun b u q=>Heap.get?_push_of_some _ q) (Nat.le_of_eq (Heap.size_push _ _)) ?_
 have ne:s.heap.objs.size ≠ s.heap.objs.size + 1:=Nat.ne_of_lt (Nat.lt_succ_self _)
 refine ⟨by rw [Zan ne,ZaQ],Nat.zero_le _,ne,e2,fun _=>none,(Heap.Ns1.of_empty e3).at fun o q=>Heap.get?_push_of_some _ q,fun _=>True.intro,fun y hy=>absurd rfl hy⟩
theorem ZjE {prog:Program} {w:World} {env:Env} {e:Expr} {f:Str} {pos:Pos} {s:Shared} {Q:Value → Shared → Prop} (hb:attributeBase e f env (eval e env) = eval e env)
  (h:wpAny (model prog w) A (eval e env) (fun o s₁=>wpAny (model prog w) A (getAttr o f true) Q E s₁) E s):wpAny (model prog w) A (eval (.Attribute e f pos) env) Q E s:=
 Attribute_any_ h (by rw [arm_eval_Attribute,hb])
end
noncomputable def Zn0 (K:PySem.W.Frag) (ta:TE) (f:Str):TE:=fun σ H Q=>ta σ H fun x H1=>∃ a C dx fs v,x = .ref a ∧ H1 a = some (.ins C dx fs) ∧ Cls K C ∧ Zcp K C f ∧ fs.lookup f = some v ∧ Q v H1
noncomputable def Zoy (K:PySem.W.Frag) (ta tv:TE) (f:Str):TS:=fun D σ H=>tv σ H fun y H1=>ta σ H1 fun x H2=>∃ a C dx fs,x = .ref a ∧ H2 a = some (.ins C dx fs) ∧ Cls K C ∧ Zcp K C f ∧ fs.length < 1000 ∧
 D.nx σ (upd H2 a (.ins C dx (Zct f y fs)))
section
variable {X:Cx} {o e value:Expr} {f:Str} {pos pos' tpos:Pos} {ta tv:TE}
theorem ZlC (he:PE X e ta) (hb:attributeBase e f X.env (eval e X.env) = eval e X.env):PE X (.Attribute e f pos) (Zn0 X.K ta f):=by
 intro pins s σ H Q I h
 refine ZjE hb (thn (he pins s σ H _ I h) fun u s1 zz1=>?_)
 obtain ⟨x,H1,I1,rx,a,C,dx,fs,v,ex,ea,c,n,l,q⟩:=zz1
 subst ex
 obtain rfl:u = Value.ref a:=rx
 exact ZgF I1 ea c n l fun u' s2 I2 ru=>⟨v,H1,I2,ru,q⟩
theorem ZlL (ha:PE X o ta) (hv:PE X value tv) (hs:swapsWith value (some (.Attribute o f pos')) pos.line X.env = pure false):PS X (.Assign [.Attribute o f pos'] value pos) (Zoy X.K ta tv f):=by
 intro pins s σ H D I h
 refine plainObj_wpAny_Assign_Attribute (thn (hv pins s σ H _ I h) fun u s1 ⟨y,H1,I1,ry,q⟩=>thn (ha pins s1 σ H1 _ I1 q) fun ov s2 zz1=>?_) hs
 obtain ⟨x,H2,I2,rx,a,C,dx,fs,ex,ea,c,n,l,q2⟩:=zz1
 subst ex
 obtain rfl:ov = Value.ref a:=rx
 exact Zgp I2 ea c n l ry fun s3 I3=>⟨σ,_,I3,q2⟩
end
section
variable {X:Cx} {pins:List (Addr × Obj)} {σ:St} {H:Hp} {s:Shared} {A:Around} {E:Value → Shared → Prop} {Q:Value → Shared → Prop} {c:Value} {b:Bool}
inductive Zec (K:PySem.W.Frag) (H:Hp):V → Value → Prop where
 | non:Zec K H .non (.type "NoneType")
 | bl (x:Bool):Zec K H (.bl x) (.type "bool")
 | int (i:Int):Zec K H (.int i) (.type "int")
 | str (x:Str):Zec K H (.str x) (.type "str")
 | flt (x:UInt64):Zec K H (.flt x) (.type "float")
 | lst {a:Addr} {xs:List V} (e:H a = some (.lst xs)):Zec K H (.ref a) (.type "list")
 | frz {a:Addr} {o:Obj} {xs:List V} (e:H a = some (.frz o (.lst xs))):Zec K H (.ref a) (.type "list")
 | tup {a:Addr} {xs:List V} (e:H a = some (.tup xs)):Zec K H (.ref a) (.type "tuple")
 | dK {a:Addr} {kvs:List (Key × V)} (e:H a = some (.dK kvs)):Zec K H (.ref a) (.type "dict")
 | dT {a:Addr} {kvs:List (List Key × V)} (e:H a = some (.dT kvs)):Zec K H (.ref a) (.type "dict")
 | ins {a C dx:Addr} {fs:List (Str × V)} (e:H a = some (.ins C dx fs)) (cl:Cls K C) (ha:PySem.W.findIn K (.ref C) "__class__" = some (some (.builtin "object.__class__")))
   (hn:PySem.W.specialIn K (.builtin "object.__class__") "__get__" = some (some (.builtin "getset_descriptor.__get__"))) (htk:PySem.W.takesIn K (.builtin "object.__class__") = some true)
   (hm:PySem.W.mroIn K C (.type "object") = some true):Zec K H (.ref a) (.ref C)
theorem Zb7 {x:V} {u t:Value} (I:Inv X pins σ H s) (rx:RelV x u) (ty:Zec X.K H x t) (e:PySem.W.kitOne X.K t c = some b) (h:∀ tk,Q (.bool b) { s with toks:=tk }):
  wpAny (model X.prog X.w) A (call (.builtin "isinstance") [u,c]) Q E s:=by
 cases ty with
 | non=>cases (show u = Value.none from rx); exact PySem.W.kia_one PySem.W.kitx_none I.kIn True.intro e (fun z=>nomatch z) h
 | bl y=>cases (show u = Value.bool y from rx); exact PySem.W.kia_one PySem.W.kitx_bool I.kIn True.intro e (fun z=>nomatch z) h
 | int i=>obtain ⟨t,q⟩:=(show ∃ t,u = Value.int i t from rx); cases q; exact PySem.W.kia_one PySem.W.kitx_int I.kIn True.intro e (fun z=>nomatch z) h
 | str y=>obtain ⟨t,q⟩:=(show ∃ t,u = Value.str y t from rx); cases q; exact PySem.W.kia_one PySem.W.kitx_str I.kIn True.intro e (fun z=>nomatch z) h
 | flt y=>obtain ⟨t,q⟩:=(show ∃ t,u = Value.float y t from rx); cases q; exact PySem.W.kia_one PySem.W.kitx_float I.kIn True.intro e (fun z=>nomatch z) h
 | @lst a xs ea=>
  cases (show u = Value.ref a from rx)
  obtain ⟨_,_,n,_,h1⟩:=(show ZaZ X.prog X.w H s.heap a (.lst xs) from I.hok a _ ea)
  exact PySem.W.kia_one PySem.W.kitx_list I.kIn ⟨_,h1,rfl⟩ e (fun z=>nomatch z) h
 | @frz a ob xs ea=>
  cases (show u = Value.ref a from rx)
  obtain ⟨_,_,_,n,_,h1⟩:=(show ZaZ X.prog X.w H s.heap a (.frz ob (.lst xs)) from I.hok a _ ea)
  exact PySem.W.kia_one PySem.W.kitx_list I.kIn ⟨_,h1,rfl⟩ e (fun z=>nomatch z) h
 | @tup a xs ea=>
  cases (show u = Value.ref a from rx)
  obtain ⟨_,_,_,p⟩:=(show ZaZ X.prog X.w H s.heap a (.tup xs) from I.hok a _ ea)
  obtain ⟨o,h1,h2,_⟩:=p
  exact PySem.W.kia_one PySem.W.kitx_tuple I.kIn ⟨o,h1,h2.1⟩ e (fun z=>nomatch z) h
 | @dK a kvs ea=>
  cases (show u = Value.ref a from rx)
  obtain ⟨_,_,vs,_,p⟩:=(show ZaZ X.prog X.w H s.heap a (.dK kvs) from I.hok a _ ea)
  obtain ⟨o,es,ep,h1,h2,_⟩:=p
  exact PySem.W.kia_one PySem.W.kitx_dict I.kIn ⟨o,h1,h2.1⟩ e (fun z=>nomatch z) h
 | @dT a kvs ea=>
  cases (show u = Value.ref a from rx)
  obtain ⟨_,_,xs,_,o,es,ep,h1,h2,_⟩:=(show ZaZ X.prog X.w H s.heap a (.dT kvs) from I.hok a _ ea)
  exact PySem.W.kia_one PySem.W.kitx_dict I.kIn ⟨o,h1,h2.1⟩ e (fun z=>nomatch z) h
 | @ins a C dx fs ea cl ha hn htk hm=>
  cases (show u = Value.ref a from rx)
  obtain ⟨mA,O,_⟩:=Zeh I.hok ea
  obtain ⟨od,J,_⟩:=O.look
  exact PySem.W.kia_one (PySem.W.kitx_own (cl.get _) cl.hd ha hn htk hm) I.kIn J e (fun z=>nomatch z) h
end
end L2
namespace L2
open PySem PySem.Spec PyProof.Rows
structure ZaV (k:Nat) (A:Around):Prop where
 hd:A.handled = none
 dp:A.depth + 3 * k + 5 < recursionLimit
 un:A.units + 16 * k + 200 < cLine
theorem ZaV.mono {j k:Nat} {A:Around} (r:ZaV k A) (h:j ≤ k):ZaV j A:=⟨r.hd,by have:=r.dp; exact lD 2 0x251b303d0cc11303251b103d0cc11 T1 this h,by have:=r.un; omega⟩
theorem ZaV.deeper {k:Nat} {A:Around} (r:ZaV (k + 1) A) (env:Env):ZaV k (A.deeper env):=
 ⟨r.hd,by have:=r.dp; show A.depth + 1 + 3 * k + 5 < _; exact lC 1 0x251b103da0ccc1251ba1c03d0cc11 T1 this,by have:=r.un; show A.units + 3 + 16 * k + 200 < _; exact lC 1 0x2c82b110d31b0ccc12c82ba1c10d0cc11 T1 this⟩
theorem ZaV.in1 {k:Nat} {A:Around} (r:ZaV (k + 1) A):ZaV k A.in1:=
 ⟨r.hd,by have:=r.dp; show A.depth + 3 * k + 5 < _; exact lC 1 0x251b103d0cc1251ba1c03d0cc11 T1 this,by have:=r.un; show A.units + 1 + 16 * k + 200 < _; exact lC 1 0x2c82b110da0ccc12c82ba1c10d0cc11 T1 this⟩
theorem ZgB {A:Around} {C:Addr} {us:List Value} {kw:List (Str × Value)}:(A.under (.builtin "type.__call__" ⟨.ref C :: us,kw⟩)).depth = A.depth + 1:=by
 first | rfl | simp [Around.under,Code.weight,Code.isCreation,Code.isGuard,Code.isCaller,Code.frames,Code.isFrame,guardIds]
theorem Zgm {A:Around} {C:Addr} {us:List Value} {kw:List (Str × Value)}:(A.under (.builtin "type.__call__" ⟨.ref C :: us,kw⟩)).units = A.units + 1:=by
 first | rfl | simp [Around.under,Code.cUnits,Code.frames,Code.isFrame]
theorem ZaV.make {k:Nat} {A:Around} (r:ZaV (k + 1) A) (C:Addr) (us:List Value) (kw:List (Str × Value)):ZaV k (A.under (.builtin "type.__call__" ⟨.ref C :: us,kw⟩)):=
 ⟨r.hd,by have:=r.dp; rw [ZgB]; exact lC 1 0x251b103da0ccc1251ba1c03d0cc11 T1 this,by have:=r.un; rw [Zgm]; exact lC 1 0x2c82b110da0ccc12c82ba1c10d0cc11 T1 this⟩
theorem ZaV.depth {k:Nat} {A:Around} (r:ZaV k A):A.depth < recursionLimit:=by have:=r.dp; exact lC 1 0x201251b103d0cc11 T1 this
theorem ZaV.units {k:Nat} {A:Around} (r:ZaV k A):A.units + 64 < cLine:=by have:=r.un; exact lC 1 0x2402b0c12c82b110d0cc11 T1 this
noncomputable def ZmT:TA:=fun _ H Q=>Q [] H
noncomputable def ZmO (ta:TE) (tr:TA):TA:=fun σ H Q=>ta σ H fun x H1=>tr σ H1 fun xs H2=>Q (x :: xs) H2
section
variable {X:Cx} {e:Expr} {es:List Expr} {te:TE} {t:TA} {pos:Pos}
theorem Zdi:PA X [] ZmT:=fun _ _ _ _ H Q I h=>Calls.spliced_nil ⟨[],H,I,.nil,h⟩
theorem Zbt (ha:PE X e te) (hr:PA X es t) (hs:starEach (e :: es) X.env = (false,eval e X.env) :: starEach es X.env:=by rfl):PA X (e :: es) (ZmO te t):=by
 intro pos pins s σ H Q I h
 rw [hs]
 show wpAny _ _ (spliced ((false,eval e X.env) :: backTo pos (starEach es X.env))) _ _ s
 refine Calls.spliced_cons (thn (ha pins s σ H _ I h) fun u s1 zz1=>?_)
 obtain ⟨x,H1,I1,r1,q1⟩:=zz1
 exact thn (hr pos pins s1 σ H1 _ I1 q1) fun us s2 ⟨xs,H2,I2,r2,q2⟩=>⟨x :: xs,H2,I2,.cons r1 r2,q2⟩
noncomputable def Zot (t:TA):TE:=fun σ H Q=>t σ H fun xs H1=>xs.length ≤ sizeLine ∧ ∀ p,H1 p = none → Q (.ref p) (upd H1 p (.tup xs))
noncomputable def Zn6 (t:TA):TE:=fun σ H Q=>t σ H fun xs H1=>xs.length ≤ sizeLine ∧ ∀ p,H1 p = none → Q (.ref p) (upd H1 p (.lst xs))
theorem Zgu {x1} (h:PA X es t):PE X (.Tuple es x1 pos) (Zot t):=by
 intro pins s σ H Q I hq
 refine wpAny_Tuple_spliced (thn (h pos pins s σ H _ I hq) fun us s1 ⟨xs,H1,I1,r,z,q⟩=>⟨by rw [← r.length]; exact z,?_⟩)
 have hf:H1 s1.heap.objs.size = none:=I1.hok.fresh (Nat.le_refl _)
 refine ⟨.ref s1.heap.objs.size,upd H1 s1.heap.objs.size (.tup xs),I1.laid (t':=s1.toks) (fun b u e=>Heap.get?_push_of_some _ e) (Nat.le_refl _) ?_,rfl,q _ hf⟩
 exact ⟨z,us,r,⟨_,Heap.get?_push_size _ rfl,⟨rfl,rfl⟩,_,rfl⟩⟩
theorem Zld (h:PA X es t):PE X (.List es pos) (Zn6 t):=by
 intro pins s σ H Q I hq
 refine wpAny_List_spliced (thn (h pos pins s σ H _ I hq) fun us s1 ⟨xs,H1,I1,r,z,q⟩=>⟨by rw [← r.length]; exact z,?_⟩)
 have hf:H1 s1.heap.objs.size = none:=I1.hok.fresh (Nat.le_refl _)
 refine ⟨.ref s1.heap.objs.size,upd H1 s1.heap.objs.size (.lst xs),I1.laid (t':=s1.toks) (fun b u e=>Heap.get?_push_of_some _ e) (Nat.le_refl _) ?_,rfl,q _ hf⟩
 exact ⟨z,us,0,r,Heap.get?_push_size _ rfl⟩
end
noncomputable abbrev Sp:=List V → Hp → VK → XK → Prop
noncomputable abbrev CXT:=List Env → Hp → Shared → XK → Value → Shared → Prop
structure ZeT (P:Program) (w:World) (K:PySem.W.Frag) (mg:Str → Option Value) (base:Heap) (A:Around) (outer:List Env) (s:Shared) (H:Hp):Prop where
 frames:A.frames = some outer
 mod:Mod K mg base
 bs:∀ b o,base.get? b = some o → s.heap.get? b = some o ∧ H b = none
 bsz:base.objs.size ≤ s.heap.objs.size
 funs:s.heap.FunFrames base outer
 frf:∀ b ∈ frs outer,H b = none
 hok:HOk P w H s.heap
 bare:AllBare s.gens
noncomputable def CE (outer:List Env) (P:Program) (w:World) (H:Hp) (s:Shared) (Q:VK) (u:Value) (s':Shared):Prop:=
 ∃ v H',s'.os = s.os ∧ AllBare s'.gens ∧ Un (frs outer) [] H H' s.heap s'.heap ∧ HOk P w H' s'.heap ∧ RelV v u ∧ Q v H'
noncomputable def CR (CX:CXT) (outer:List Env) (P:Program) (w:World) (H:Hp) (s:Shared) (Q:VK) (E:XK) (r:Result) (s':Shared):Prop:=
 match r with
 | .ok (.ret u)=>CE outer P w H s Q u s'
 | .ok _=>False
 | .error e=>CX outer H s E e s'
structure ZbR (P:Program) (w:World) (K:PySem.W.Frag) (mg:Str → Option Value) (base:Heap) (CX:CXT) (k:Nat) (f:Addr) (fd:FuncData) (ps:List Str) (sp:Sp):Prop where
 len:∀ vs H Q E,sp vs H Q E → vs.length = ps.length
 run:∀ (A:Around) (outer:List Env) (s:Shared) (H:Hp) (args:Args) (us:List Value) (vs:List V) (Q:VK) (E:XK),ZaV k A → ZeT P w K mg base A outer s H → BindsTo s fd args (ps.zip us) → Vals vs us → sp vs H Q E →
  codeAny (model P w) A (.call (.ref f) args) (CR CX outer P w H s Q E) s
theorem ZbR.mono {P:Program} {w:World} {K:PySem.W.Frag} {mg:Str → Option Value} {base:Heap} {CX:CXT} {j k:Nat} {f:Addr} {fd:FuncData} {ps:List Str} {sp:Sp} (F:ZbR P w K mg base CX j f fd ps sp) (h:j ≤ k):
  ZbR P w K mg base CX k f fd ps sp:=⟨F.len,fun A outer s H args us vs Q E hr=>F.run A outer s H args us vs Q E (hr.mono h)⟩
theorem ZeT.make {P:Program} {w:World} {K:PySem.W.Frag} {mg:Str → Option Value} {base:Heap} {A:Around} {outer:List Env} {s:Shared} {H:Hp} (e:ZeT P w K mg base A outer s H) (C:Addr) (us:List Value) (kw:List (Str × Value)):
  ZeT P w K mg base (A.under (.builtin "type.__call__" ⟨.ref C :: us,kw⟩)) outer s H:=⟨by first | exact e.frames | (simpa [Around.under,Code.envs,Code.isFrame,pushEnvs] using e.frames),e.mod,e.bs,e.bsz,e.funs,e.frf,e.hok,e.bare⟩
theorem ZeT.in1 {P:Program} {w:World} {K:PySem.W.Frag} {mg:Str → Option Value} {base:Heap} {A:Around} {outer:List Env} {s:Shared} {H:Hp} (e:ZeT P w K mg base A outer s H):
  ZeT P w K mg base A.in1 outer s H:=⟨e.frames,e.mod,e.bs,e.bsz,e.funs,e.frf,e.hok,e.bare⟩
section
variable {X:Cx} {pins:List (Addr × Obj)} {σ:St} {H:Hp} {s s':Shared}
theorem Inv.env0 (I:Inv X pins σ H s):ZeT X.prog X.w X.K X.mg X.base X.A X.stack s H:=
 ⟨I.ok.frames,I.ok.mod,I.bs,Nat.le_trans I.ok.bsz I.sz,I.stack,I.stkFree,I.hok,I.bare⟩
theorem Inv.after {Q:VK} {u:Value} (I:Inv X pins σ H s) (h:CE X.stack X.prog X.w H s Q u s'):EP X pins σ Q u s':=by
 obtain ⟨v,H',os,bare,un,hok,r,q⟩:=h
 obtain ⟨hh,g,d,t,os'⟩:=s'
 obtain rfl:os' = s.os:=os
 exact ⟨v,H',I.call (h':=hh) (g':=g) (d':=d) (t':=t) (ch:=[]) un hok bare (fun b z=>absurd z (by simp)),r,q⟩
end
noncomputable def Znk (sp:Sp) (dvs:List V) (E:XK) (t:TA):TE:=fun σ H Q=>t σ H fun vs H1=>sp (vs ++ dvs) H1 Q E
noncomputable def ZkI (C:Addr) (m:Str) (sp:Sp) (dvs:List V) (E:XK) (ta:TE) (t:TA):TE:=fun σ H Q=>ta σ H fun x H1=>∃ a dx fs,x = .ref a ∧ H1 a = some (.ins C dx fs) ∧ fs.lookup m = none ∧
 t σ H1 fun vs H2=>sp (x :: (vs ++ dvs)) H2 Q E
noncomputable def Zng (C:Addr) (sp:Sp) (dvs:List V) (E:XK) (t:TA):TE:=fun σ H Q=>t σ H fun vs H1=>∀ x dx,H1 x = none → H1 dx = none → dx ≠ x →
 sp (.ref x :: (vs ++ dvs)) (upd (upd H1 dx (.own x)) x (.ins C dx [])) (fun v H2=>v = .non ∧ Q (.ref x) H2) E
noncomputable def Binds (K:PySem.W.Frag) (fd:FuncData) (ps:List Str) (ds:List Value):Prop:=
 ∀ (s:Shared) (us:List Value),K.In s.heap → (us ++ ds).length = ps.length → BindsTo s fd ⟨us,[]⟩ (ps.zip (us ++ ds))
theorem Binds.all {K:PySem.W.Frag} {fd:FuncData} {ps:List Str} (h:∀ us:List Value,us.length = ps.length → bindArgs fd ⟨us,[]⟩ = pure (ps.zip us)):Binds K fd ps []:=fun s us _ hl=>by
 rw [List.append_nil] at hl ⊢
 exact .of_eq (h us hl)
noncomputable def Zdo (CX:CXT) (X:Cx) (E:XK):Prop:=∀ (pins:List (Addr × Obj)) (σ:St) (H:Hp) (s:Shared) (e:Value) (s':Shared),Inv X pins σ H s → CX X.stack H s E e s' → X.xe e s'
section
variable {X:Cx} {CX:CXT} {k:Nat} {f C:Addr} {fd:FuncData} {ps:List Str} {sp:Sp} {dvs:List V} {ds:List Value} {E:XK} {x m:Str} {p pos apos:Pos} {e o:Expr} {es:List Expr} {ta:TE} {t:TA}
theorem ZgK {pins:List (Addr × Obj)} {σ:St} {H:Hp} {s:Shared} {Q:VK} {us:List Value} {vs:List V} (F:ZbR X.prog X.w X.K X.mg X.base CX k f fd ps sp) (hr:ZaV k X.A) (hb:Binds X.K fd ps ds) (hd:Vals dvs ds) (hx:Zdo CX X E)
  (I:Inv X pins σ H s) (r:Vals vs us) (h:sp (vs ++ dvs) H Q E):wpAny (model X.prog X.w) X.A (call (.ref f) us) (EP X pins σ Q) X.xe s:=by
 have r2:Vals (vs ++ dvs) (us ++ ds):=r.append hd
 have hl:(us ++ ds).length = ps.length:=by rw [← r2.length]; exact F.len _ _ _ _ h
 refine wpAny_call (codeAny_mono (F.run X.A X.stack s H ⟨us,[]⟩ (us ++ ds) (vs ++ dvs) Q E hr I.env0 (hb s us I.kIn hl) r2 h) fun r s' hq=>?_)
 cases r with
 | error e=>exact hx pins σ H s e s' I hq
 | ok fl=>
  cases fl with
  | ret u=>exact I.after hq
  | next=>exact False.elim hq
  | brk=>exact False.elim hq
  | cont=>exact False.elim hq
theorem Zjt (F:ZbR X.prog X.w X.K X.mg X.base CX k f fd ps sp) (hr:ZaV k X.A) (hg:Gl X x) (hm:X.mg x = some (.ref f)) (hk:PySem.W.keepIn X.K (.ref f) = true) (hb:Binds X.K fd ps ds) (hd:Vals dvs ds) (hx:Zdo CX X E)
  (ha:PA X (e :: es) t) (hdb:(x == ("__debug__":Str)) = false:=by decide) (he:starEach (e :: es) X.env = (false,eval e X.env) :: starEach es X.env:=by rfl) (hpl:(backTo pos (starEach es X.env)).any (·.1) = false:=by rfl):
  PE X (.Call (.Name x p) (e :: es) [] pos) (Znk sp dvs E t):=by
 intro pins s σ H Q I h
 refine wpAny_Call_Name_kw (Zdz I hg hm ?_ hdb)
 refine PySem.W.callWith_K (h₀:=X.base) I.ok.mod.kin hk (thn (ha pos pins s σ H _ I h) fun us s1 ⟨vs,H1,I1,r,q⟩=>⟨I1.kIn,?_⟩) he hpl
 exact ZgK F hr hb hd hx I1 r q
theorem Zjk {pl:Sem Bool} (he:PE X o ta) (c:Cls X.K C) (hm:Meth X.K C m f) (F:ZbR X.prog X.w X.K X.mg X.base CX k f fd ps sp) (hr:ZaV k X.A) (hb:Binds X.K fd ps ds) (hd:Vals dvs ds) (hx:Zdo CX X E) (ha:PA X (e :: es) t)
  (hst:starEach (e :: es) X.env = (false,eval e X.env) :: starEach es X.env:=by rfl) (hpl:(backTo pos (starEach es X.env)).any (·.1) = false:=by rfl)
  (ht:eval (.Call (.Attribute o m apos) (e :: es) [] pos) X.env = (do
   let ov ← eval o X.env
   standAt apos.atName
   let (f,first) ← holding [ov] (getMethod ov m pl)
   callWith pos f first (backTo pos (starEach (e :: es) X.env)) (backToKw pos (keywordEach [] X.env))):=by rfl):
  PE X (.Call (.Attribute o m apos) (e :: es) [] pos) (ZkI C m sp dvs E ta t):=by
 intro pins s σ H Q I h
 refine PySem.W.methodCall_KW (pl:=pl) (thn (he pins s σ H _ I h) fun u s1 zz1=>?_) ht
 obtain ⟨x,H1,I1,rx,a,dx,fs,ex,ea,l,q⟩:=zz1
 subst ex
 obtain rfl:u = Value.ref a:=rx
 refine Zdk I1 ea c hm l ?_
 refine PySem.W.callWith_K (first:=[.ref a]) (h₀:=X.base) I.ok.mod.kin hm.kp (thn (ha pos pins s1 σ H1 _ I1 q) fun us s2 ⟨vs,H2,I2,r,q2⟩=>⟨I2.kIn,?_⟩) hst hpl
 exact ZgK (us:=.ref a :: us) (vs:=.ref a :: vs) F hr hb hd hx I2 (.cons rfl r) q2
theorem ZiF {pl:Sem Bool} (he:PE X o ta) (c:Cls X.K C) (hm:Meth X.K C m f) (F:ZbR X.prog X.w X.K X.mg X.base CX k f fd ps sp) (hr:ZaV k X.A) (hb:Binds X.K fd ps ds) (hd:Vals dvs ds) (hx:Zdo CX X E)
  (ht:eval (.Call (.Attribute o m apos) [] [] pos) X.env = (do
   let ov ← eval o X.env
   standAt apos.atName
   let (f,first) ← holding [ov] (getMethod ov m pl)
   callWith pos f first (backTo pos (starEach [] X.env)) (backToKw pos (keywordEach [] X.env))):=by rfl):
  PE X (.Call (.Attribute o m apos) [] [] pos) (ZkI C m sp dvs E ta ZmT):=by
 intro pins s σ H Q I h
 refine PySem.W.methodCall_KW (pl:=pl) (thn (he pins s σ H _ I h) fun u s1 zz1=>?_) ht
 obtain ⟨x,H1,I1,rx,a,dx,fs,ex,ea,l,q⟩:=zz1
 subst ex
 obtain rfl:u = Value.ref a:=rx
 refine Zdk I1 ea c hm l ?_
 exact PySem.W.callWith_K0 (first:=[.ref a]) I1.kIn hm.kp (ZgK (us:=[.ref a]) (vs:=[.ref a]) F hr hb hd hx I1 (.cons rfl .nil) q)
structure Mk (K:PySem.W.Frag) (C f:Addr):Prop where
 makes:PySem.W.makesIn K C = true
 init:PySem.W.findIn K (.ref C) "__init__" = some (some (.ref f))
 fn:PySem.W.isFn K (.ref f) = true
 kp:PySem.W.keepIn K (.ref C) = true
theorem ZhN {pins:List (Addr × Obj)} {σ:St} {H:Hp} {s:Shared} {Q:VK} {us:List Value} {vs:List V} (M:Mk X.K C f) (F:ZbR X.prog X.w X.K X.mg X.base CX k f fd ps sp) (hr:ZaV (k + 1) X.A) (hb:Binds X.K fd ps ds) (hd:Vals dvs ds)
  (hx:Zdo CX X E) (I:Inv X pins σ H s) (r:Vals vs us)
  (h:∀ x dx,H x = none → H dx = none → dx ≠ x → sp (.ref x :: (vs ++ dvs)) (upd (upd H dx (.own x)) x (.ins C dx [])) (fun v H2=>v = .non ∧ Q (.ref x) H2) E):
  wpAny (model X.prog X.w) X.A (call (.ref C) us) (EP X pins σ Q) X.xe s:=by
 have hq:=h (s.heap.objs.size + 1) s.heap.objs.size (I.hok.fresh (Nat.le_succ _)) (I.hok.fresh (Nat.le_refl _)) (Nat.ne_of_lt (Nat.lt_succ_self _))
 have I2:=Inv.made (C:=C) I
 have r2:Vals (V.ref (s.heap.objs.size + 1) :: (vs ++ dvs)) (Value.ref (s.heap.objs.size + 1) :: (us ++ ds)):=.cons rfl (r.append hd)
 have hl:(Value.ref (s.heap.objs.size + 1) :: us ++ ds).length = ps.length:=by
  have e:=r2.length
  rw [F.len _ _ _ _ hq] at e
  exact e.symm
 refine wpAny_call (Zis (f:=f) I.kIn M.makes M.init (beq_iff_eq.mp M.fn) (codeAny_mono (F.run _ X.stack _ _ ⟨Value.ref (s.heap.objs.size + 1) :: us,[]⟩ (Value.ref (s.heap.objs.size + 1) :: (us ++ ds)) _ _ E (hr.make C us [])
  (I2.env0.make C us []) (hb _ (Value.ref (s.heap.objs.size + 1) :: us) I2.kIn hl) r2 hq) fun r s' hq'=>?_))
 cases r with
 | error e=>exact hx pins σ _ _ e s' I2 hq'
 | ok fl=>
  cases fl with
  | ret u=>
   obtain ⟨v,H',I3,rv,ev,q3⟩:=I2.after hq'
   subst ev
   exact ⟨rv,⟨V.ref (s.heap.objs.size + 1),H',I3,rfl,q3⟩⟩
  | next=>exact False.elim hq'
  | brk=>exact False.elim hq'
  | cont=>exact False.elim hq'
theorem Zj0 (M:Mk X.K C f) (F:ZbR X.prog X.w X.K X.mg X.base CX k f fd ps sp) (hr:ZaV (k + 1) X.A) (hg:Gl X x) (hm:X.mg x = some (.ref C)) (hb:Binds X.K fd ps ds) (hd:Vals dvs ds) (hx:Zdo CX X E)
  (ha:PA X (e :: es) t) (hdb:(x == ("__debug__":Str)) = false:=by decide) (he:starEach (e :: es) X.env = (false,eval e X.env) :: starEach es X.env:=by rfl) (hpl:(backTo pos (starEach es X.env)).any (·.1) = false:=by rfl):
  PE X (.Call (.Name x p) (e :: es) [] pos) (Zng C sp dvs E t):=by
 intro pins s σ H Q I h
 refine wpAny_Call_Name_kw (Zdz I hg hm ?_ hdb)
 refine PySem.W.callWith_K (h₀:=X.base) I.ok.mod.kin M.kp (thn (ha pos pins s σ H _ I h) fun us s1 ⟨vs,H1,I1,r,q⟩=>⟨I1.kIn,?_⟩) he hpl
 exact ZhN M F hr hb hd hx I1 r q
end
section
variable {X:Cx} {CX:CXT} {k:Nat} {f C:Addr} {fd:FuncData} {ps ks:List Str} {sp:Sp} {E:XK} {x m:Str} {p pos apos kpos:Pos} {e o:Expr} {es:List Expr} {kws:List Keyword} {te ta:TE} {t tk:TA} {nm:Option Str}
structure Zll (K:PySem.W.Frag) (fd:FuncData) (ps ks:List Str) (g:List Value → List Value → List Value) (gV:List V → List V → List V):Prop where
 to:∀ (s:Shared) (us ws:List Value),K.In s.heap → (g us ws).length = ps.length → BindsTo s fd ⟨us,ks.zip ws⟩ (ps.zip (g us ws))
 rel:∀ {vs:List V} {us:List Value} {zs:List V} {ws:List Value},Vals vs us → Vals zs ws → Vals (gV vs zs) (g us ws)
variable {g:List Value → List Value → List Value} {gV:List V → List V → List V}
end
structure Zaz (N P:List Str) (sc:Scope):Prop where
 kind:sc.kind = .function
 co:sc.isCoroutine = false
 gen:sc.isGenerator = false
 nd:N.Nodup
 pre:N.take P.length = P
 par:∀ x ∈ P,sc.names.lookup x = some .local ∨ sc.names.lookup x = some .cell
 nofree:∀ y ∈ sc.names,y.2 ≠ .free
theorem Ze9 {kindOf:Str → Option NameKind} {x:Str}:∀ {binds:List (Str × Value)} {m:Str → Option Value},(∀ v,(x,v) ∉ binds) → bindL kindOf binds m x = m x
 | [],_,_=>rfl
 | (n,v) :: r,m,h=>by
  unfold bindL
  rw [Ze9 fun w hw=>h w (List.mem_cons_of_mem _ hw)]
  split
  ·have:x ≠ n:=by rintro rfl; exact h v List.mem_cons_self
   simp [this]
  ·rfl
theorem Ze1 {kindOf:Str → Option NameKind} {x:Str}:∀ {binds:List (Str × Value)} {m:Str → Option Value},(∀ v,(x,v) ∉ binds) → bindC kindOf binds m x = m x
 | [],_,_=>rfl
 | (n,v) :: r,m,h=>by
  unfold bindC
  rw [Ze1 fun w hw=>h w (List.mem_cons_of_mem _ hw)]
  split
  ·rfl
  ·have:x ≠ n:=by rintro rfl; exact h v List.mem_cons_self
   simp [this]
theorem Zfh {kindOf:Str → Option NameKind} {x:Str} {v:Value}:∀ {P:List Str} {vs:List Value} {i:Nat} {m:Str → Option Value},P.Nodup → P[i]? = some x → vs[i]? = some v → kindOf x = some .local →
  bindL kindOf (P.zip vs) m x = some v
 | [],_,_,_,_,h,_,_=>by simp at h
 | _ :: _,[],_,_,_,_,h,_=>by simp at h
 | p :: P,w :: vs,0,m,nd,h1,h2,hk=>by
  simp at h1 h2; subst h1; subst h2
  show bindL kindOf ((p,w) :: P.zip vs) m p = _
  unfold bindL
  rw [Ze9 fun v hv=>(List.nodup_cons.mp nd).1 (List.of_mem_zip hv).1,if_pos hk]
  simp
 | p :: P,w :: vs,i + 1,m,nd,h1,h2,hk=>by
  show bindL kindOf ((p,w) :: P.zip vs) m x = _
  unfold bindL
  exact Zfh (i:=i) (List.nodup_cons.mp nd).2 (by simpa using h1) (by simpa using h2) hk
theorem Ze4 {kindOf:Str → Option NameKind} {x:Str} {v:Value}:∀ {P:List Str} {vs:List Value} {i:Nat} {m:Str → Option Value},P.Nodup → P[i]? = some x → vs[i]? = some v → kindOf x ≠ some .local →
  bindC kindOf (P.zip vs) m x = some v
 | [],_,_,_,_,h,_,_=>by simp at h
 | _ :: _,[],_,_,_,_,h,_=>by simp at h
 | p :: P,w :: vs,0,m,nd,h1,h2,hk=>by
  simp at h1 h2; subst h1; subst h2
  show bindC kindOf ((p,w) :: P.zip vs) m p = _
  unfold bindC
  rw [Ze1 fun v hv=>(List.nodup_cons.mp nd).1 (List.of_mem_zip hv).1,if_neg hk]
  simp
 | p :: P,w :: vs,i + 1,m,nd,h1,h2,hk=>by
  show bindC kindOf ((p,w) :: P.zip vs) m x = _
  unfold bindC
  exact Ze4 (i:=i) (List.nodup_cons.mp nd).2 (by simpa using h1) (by simpa using h2) hk
noncomputable def start (N:List Str) (vs:List V):St:=vs.map some ++ List.replicate (N.length - vs.length) none
noncomputable def ZdV (CX:CXT) (P:Program) (w:World) (K:PySem.W.Frag) (mg:Str → Option Value) (base:Heap) (N:List Str) (qual:Str) (scope:Scope) (f:Addr) (cd:Value) (A:Around) (outer:List Env) (s:Shared) (H:Hp) (E:XK):Cx where
 prog:=P
 w:=w
 K:=K
 mg:=mg
 base:=base
 A:=A.deeper (envOfC qual scope s.heap.objs.size f cd)
 N:=N
 s₀:=s
 H₀:=H
 env:=envOfC qual scope s.heap.objs.size f cd
 outer:=outer
 stack:=envOfC qual scope s.heap.objs.size f cd :: outer
 ex:=[]
 calm:=true
 fn:=fun _=>true
 pn:=[]
 xe:=fun e s'=>wpAny (model P w) (A.deeper (envOfC qual scope s.heap.objs.size f cd)) (leaving (envOfC qual scope s.heap.objs.size f cd) e) (fun _ s''=>CX outer H s E e s'') (fun e' s''=>CX outer H s E e' s'') s'
theorem Zf7 {sc:Scope} {n:Nat} {x:Str} (h:sc.names.lookup x = some .cell):∃ c,(cellsFrom n sc.names []).lookup x = some c:=by
 have q:=PySem.W.cellsFrom_some sc.names n [] (.inl h)
 exact Option.isSome_iff_exists.mp q
theorem ZhL {CX:CXT} {P:Program} {w:World} {K:PySem.W.Frag} {mg:Str → Option Value} {base:Heap} {N ps:List Str} {qual:Str} {scope:Scope} {f:Addr} {cd:Value} {A:Around} {outer:List Env} {s s1:Shared} {H:Hp} {E:XK} {us:List Value} {vs:List V}
  (S:Zaz N ps scope) (hd:A.handled = none) (e0:ZeT P w K mg base A outer s H) (hl:vs.length = ps.length) (r:Vals vs us)
  (x:InCallC s s.heap.objs.size (bindL (envOfC qual scope s.heap.objs.size f cd).kindOf (ps.zip us) fun _=>none) (cellsFrom (s.heap.objs.size + 1) scope.names []) (bindC (envOfC qual scope s.heap.objs.size f cd).kindOf (ps.zip us) fun _=>none) s1):
  Inv (ZdV CX P w K mg base N qual scope f cd A outer s H E) [] (start N vs) H s1:=by
 have hpl:ps.length ≤ N.length:=by have:=congrArg List.length S.pre; rw [List.length_take] at this; omega
 obtain ⟨h1,tk,rfl,hk⟩:=x.done
 have noA:∀ b:Addr,b ∉ (ZdV CX P w K mg base N qual scope f cd A outer s H E).ex:=fun b z=>absurd (show b ∈ ([]:List Addr) from z) (by simp)
 refine ⟨⟨e0.mod,S.kind,rfl,rfl,Nat.le_refl _,fun y z c h1 h2=>?_,fun y hy=>?_,fun y c _ h=>?_,fun _=>hd,Around.frames_deeper e0.frames,.inr ⟨rfl,rfl⟩,fun b z=>absurd z (noA b),e0.bs,e0.bsz,fun b _ _=>noA b,fun b z=>absurd z (noA b),e0.funs,e0.frf⟩,
  rfl,e0.bare,Un.kept hk,⟨_,x.toInCall.ns,fun i y v h1 h2 h3=>?_⟩,fun y c h=>⟨_,x.cell y c h⟩,e0.hok.fresh (Nat.le_refl _),fun y c h=>?_,fun p hp=>absurd (show p ∈ ([]:List (Addr × Obj)) from hp) (by simp),e0.hok.kept hk,?_⟩
 ·exact name_of_addr x.apart (PySem.mem_of_lookup h1) (PySem.mem_of_lookup h2)
 ·have hy:scope.names.lookup y = some .cell ∨ scope.names.lookup y = some .free:=hy
  rcases hy with hy | hy
  ·exact Zf7 hy
  ·exact absurd rfl (S.nofree _ (PySem.mem_of_lookup hy))
 ·exact Nat.le_of_lt (x.above y c (PySem.mem_of_lookup h))
 ·have hi:i < vs.length:=by
   unfold start at h2
   by_cases hi:i < vs.length
   ·exact hi
   ·rw [List.getElem?_append_right (by simpa using hi)] at h2
    rw [List.getElem?_replicate] at h2
    split at h2 <;> cases h2
  have ha:vs[i]? = some v:=by
   unfold start at h2
   rw [List.getElem?_append_left (by simpa using hi),List.getElem?_map] at h2
   cases e:vs[i]? with
   | none=>rw [e] at h2; cases h2
   | some a=>rw [e] at h2; cases h2; rfl
  obtain ⟨u,hu,rv⟩:=r.get ha
  have hp:ps[i]? = some y:=by
   rw [← S.pre,List.getElem?_take_of_lt (by exact lC 2 2203874037777 T1 hi hl)]; exact h1
  have ndP:ps.Nodup:=by rw [← S.pre]; exact S.nd.sublist (List.take_sublist _ _)
  refine ⟨u,rv,?_⟩
  rcases S.par y (List.mem_of_getElem? hp) with k | k
  ·exact .inl ⟨k,Zfh ndP hp hu k⟩
  ·obtain ⟨c,e⟩:=Zf7 (n:=s.heap.objs.size + 1) k
   refine .inr ⟨.inl k,c,e,?_⟩
   have q:=x.cell y c e
   rw [Ze4 ndP hp hu (by show scope.names.lookup y ≠ _; rw [k]; decide)] at q
   exact q
 ·exact e0.hok.fresh (Nat.le_of_lt (x.above y c (PySem.mem_of_lookup h)))
 ·unfold start
  show _ = N.length
  rw [List.length_append,List.length_map,List.length_replicate]
  exact Nat.le_antisymm (lC 1 2206541614113 T1 (Nat.sub_add_cancel (lC 2 1236986302465 T1 hpl hl))) (lC 1 1288492400641 T1 (sbA _ _))
theorem ZkB {CX:CXT} {P:Program} {w:World} {K:PySem.W.Frag} {mg:Str → Option Value} {base:Heap} {k:Nat} {f:Addr} {name qual:Str} {params:Arguments} {body:List Stmt} {scope:Scope} {dV kV doc pm cdv ct oc:Value} {an od:Option Addr}
  {osl:Array (Option Value)} {N ps:List Str} {sp:Sp} (lk:K.lookup f = some ⟨oc,od,.func (PySem.W.fnOf name qual params body scope dV kV doc pm an cdv ct),osl⟩) (hcd:PySem.W.codeIn K cdv qual = true) (S:Zaz N ps scope)
  (len:∀ vs H Q E,sp vs H Q E → vs.length = ps.length)
  (hbody:∀ (A:Around) (outer:List Env) (s:Shared) (H:Hp) (vs:List V) (Q:VK) (E:XK),ZaV k (A.deeper (envOfC qual scope s.heap.objs.size f cdv)) → sp vs H Q E →
   ∃ t,PSs (ZdV CX P w K mg base N qual scope f cdv A outer s H E) body t ∧ t { nx:=fun _ H'=>Q .non H',rt:=Q } (start N vs) H):
  ZbR P w K mg base CX (k + 1) f (PySem.W.fnOf name qual params body scope dV kV doc pm an cdv ct) ps sp:=by
 refine ⟨len,fun A outer s H args us vs Q E hr e0 hb r hsp=>?_⟩
 have hl:=len _ _ _ _ hsp
 have KX:K.In s.heap:=e0.mod.kin.keeps fun b o e=>(e0.bs b o e).1
 have lim:s.heap.NoLimit:=e0.mod.nolimit.keeps fun b o e=>(e0.bs b o e).1
 have hkind:∀ y ∈ ps.zip us,scope.names.lookup y.1 = some .local ∨ (scope.names.lookup y.1 = some .cell ∧ ((cellsFrom (s.heap.objs.size + 1) scope.names []).lookup y.1).isSome = true):=fun ⟨n,v⟩ hy=>by
  rcases S.par n (List.of_mem_zip hy).1 with q | q
  ·exact .inl q
  ·exact .inr ⟨q,PySem.W.cellsFrom_some _ _ _ (.inl q)⟩
 refine codeAny_call_function hr.depth (KX _ _ lk) rfl S.co S.gen rfl (PySem.W.codeRec_of KX hcd) (hb _ _ _ _ ?_)
 refine wpAny_newFunctionEnv_cells S.kind hkind fun env he s1 x=>?_
 subst he
 refine ⟨lim.keeps x.toInCall.keep,codeAny_func ?_⟩
 obtain ⟨t,ht,hq⟩:=hbody A outer s H vs Q E (hr.deeper _) hsp
 have I:Inv (ZdV CX P w K mg base N qual scope f cdv A outer s H E) [] (start N vs) H s1:=ZhL S hr.hd e0 hl r x
 refine wpAny_mono (ht [] s1 (start N vs) H _ I hq) (fun fl s' hs=>?_) fun e s' hs=>hs
 have fin:∀ {σ':St} {H':Hp} {v:V} {u:Value},Inv (ZdV CX P w K mg base N qual scope f cdv A outer s H E) [] σ' H' s' → RelV v u → Q v H' → CE outer P w H s Q u s':=
  fun {σ' H' v u} J rv q=>⟨v,H',J.os,J.bare,J.base,J.hok,rv,q⟩
 cases fl with
 | ret u=>
  obtain ⟨v,σ',H',J,rv,q⟩:=hs
  exact fin J rv q
 | next=>
  obtain ⟨σ',H',J,q⟩:=hs
  exact fin (v:=V.non) (u:=Value.none) J rfl q
 | brk=>
  obtain ⟨_,_,_,q⟩:=hs
  exact False.elim q
 | cont=>
  obtain ⟨_,_,_,q⟩:=hs
  exact False.elim q
end L2
namespace L2
open PySem PySem.Spec PyProof.Rows
section
variable {X:Cx} {x:Str} {p pos:Pos} {e:Expr} {es:List Expr} {t:TA} {id T:String} {r:List V → Hp → VK → Prop}
noncomputable def tCB (r:List V → Hp → VK → Prop) (t:TA):TE:=fun σ H Q=>t σ H fun vs H1=>r vs H1 Q
theorem ZcR (hc:Zba X (.builtin id) r) (hg:Gl X x) (hm:X.mg x = none) (hv:bootBuiltins x = some (.builtin id)) (ha:PA X (e :: es) t) (hn:x ≠ "__name__":=by decide) (hdb:(x == ("__debug__":Str)) = false:=by decide)
  (he:starEach (e :: es) X.env = (false,eval e X.env) :: starEach es X.env:=by rfl) (hpl:(backTo pos (starEach es X.env)).any (·.1) = false:=by rfl):PE X (.Call (.Name x p) (e :: es) [] pos) (tCB r t):=by
 intro pins s σ H Q I h
 refine wpAny_Call_Name_kw (ZfH I hg hm hv ?_ hn hdb)
 exact PyProof.Rows.callWith_builtin1 (thn (ha pos pins s σ H _ I h) fun us s1 ⟨vs,H1,I1,r1,q1⟩=>hc pins s1 σ H1 vs us Q I1 r1 q1) he hpl
theorem ZhF (hc:Zba X (.type T) r) (hg:Gl X x) (hm:X.mg x = none) (hv:bootBuiltins x = some (.type T)) (ha:PA X (e :: es) t) (hn:x ≠ "__name__":=by decide) (hdb:(x == ("__debug__":Str)) = false:=by decide)
  (he:starEach (e :: es) X.env = (false,eval e X.env) :: starEach es X.env:=by rfl) (hpl:(backTo pos (starEach es X.env)).any (·.1) = false:=by rfl):PE X (.Call (.Name x p) (e :: es) [] pos) (tCB r t):=by
 intro pins s σ H Q I h
 refine wpAny_Call_Name_kw (ZfH I hg hm hv ?_ hn hdb)
 exact PyProof.Rows.callWith_type1 (thn (ha pos pins s σ H _ I h) fun us s1 ⟨vs,H1,I1,r1,q1⟩=>hc pins s1 σ H1 vs us Q I1 r1 q1) he hpl
end
end L2
namespace HT
open PySem PyProof.Rows
section
open PySem.SeqAt
open PySem.AutoSeq1 (wpAny_loadPart')
open PySem.MeetsSeq PySem.MeetsSeq2 PySem.MeetsSeq3
end
section
variable {prog:Program} {w:World} {A:Around} {E:Value → Shared → Prop} {s:Shared}
theorem cat_tup {t b:Addr} {vs ws:List Value} {Q:Value → Shared → Prop} (ht:IsTup s.heap t vs.toArray) (hb:IsTup s.heap b ws.toArray) (hv:vs ≠ [])
  (h1:ws = [] → Q (.ref t) s) (h2:ws ≠ [] → Q (.ref s.heap.objs.size) { s with heap:=s.heap.push { cls:=.type "tuple",data:=.seq (vs ++ ws).toArray } })
  (hsz:vs.length + ws.length ≤ sizeLine):wpAny (model prog w) A (binaryOp .Add (.ref t) (.ref b)) Q E s:=by
 obtain ⟨⟨cls,dd,data,sl⟩,ho,hc,n,hd⟩:=id ht
 obtain ⟨⟨cls2,dd2,data2,sl2⟩,ho2,hc2,n2,hd2⟩:=id hb
 simp only at hc hd hc2 hd2
 subst hc hd hc2 hd2
 have e:vs.toArray ++ ws.toArray = (vs ++ ws).toArray:=by simp
 by_cases hw:ws = []
 ·exact concat_meets ⟨_,ho,rfl⟩ ⟨_,ho2,rfl⟩ noFill_tuple_add seq_tuple_add PySem.F.slot_tuple_add PySem.F.entry_tuple_add (PySem.F.args_tuple_add_2 _ _)
   (tuple_addW1 t b vs.toArray ws.toArray n n2 dd dd2 sl sl2 (by simpa using hv) (by simp [hw])) ⟨ho,ho2,h1 hw⟩
 ·refine concat_meets ⟨_,ho,rfl⟩ ⟨_,ho2,rfl⟩ noFill_tuple_add seq_tuple_add PySem.F.slot_tuple_add PySem.F.entry_tuple_add (PySem.F.args_tuple_add_2 _ _)
   (tuple_addW2 t b vs.toArray ws.toArray n n2 dd dd2 sl sl2 (by simpa using hv) (by simpa using hw) (by rw [List.size_toArray,List.size_toArray]; exact hsz)) ⟨ho,ho2,?_⟩
  rw [e]
  exact h2 hw
noncomputable def sIx (n d:Nat):Option Int → Nat
 | none=>d
 | some v=>if v < 0 then (v + (n:Int)).toNat else min v.toNat n
theorem ZfW (n d:Nat):sIx n d none = d:=rfl
theorem ZgR (n d k:Nat):sIx n d (some (k:Int)) = min k n:=by
 show (if (k:Int) < 0 then ((k:Int) + (n:Int)).toNat else min (k:Int).toNat n) = min k n
 rw [if_neg (Int.not_lt.2 (Int.natCast_nonneg _)),Int.toNat_natCast]
theorem Zfl (n d:Nat) (hd:d ≤ n) (o:Option Int):sIx n d o ≤ n:=by
 cases o with
 | none=>exact hd
 | some v=>
  show (if v < 0 then (v + (n:Int)).toNat else min v.toNat n) ≤ n
  by_cases hv:v < 0
  ·rw [if_pos hv]; omega
  ·rw [if_neg hv]; exact Nat.min_le_right _ _
theorem Zg6 (v:Int) (n d:Nat):(if v < 0 then max (v + (n:Int)) 0 else min v (n:Int)) = ((sIx n d (some v):Nat):Int):=by
 show (if v < 0 then max (v + (n:Int)) 0 else min v (n:Int)) = (((if v < 0 then (v + (n:Int)).toNat else min v.toNat n):Nat):Int)
 by_cases hv:v < 0
 ·simp only [if_pos hv]; exact clA _
 ·simp only [if_neg hv]; exact clB _ _ hv
theorem Zgq (lo hi:Option Int) (n:Nat):Builtin.Slice.sliceAdjust lo hi 1 (n:Int) = (((sIx n 0 lo:Nat):Int),((sIx n n hi:Nat):Int)):=by
 have h1:¬ ((1:Int) < 0):=by decide
 unfold Builtin.Slice.sliceAdjust
 simp only [h1,if_false]
 refine Prod.ext ?_ ?_
 ·cases lo with
  | none=>rfl
  | some v=>exact Zg6 v n 0
 ·cases hi with
  | none=>rfl
  | some v=>exact Zg6 v n n
theorem ZgH (i j:Nat):Builtin.Slice.slicePlaces (i:Int) (j:Int) 1 = j - i:=by
 unfold Builtin.Slice.slicePlaces
 have h1:(1:Int) > 0:=by decide
 simp only [h1,if_true,Int.ediv_one]
 split <;> omega
theorem ZeH {v:Value} {o:Option Int} {Q:Option Int → Shared → Prop} (p:IsPart v o) (h:Q o s):wpAny (model prog w) A (Builtin.Slice.slicePartIndex v) Q E s:=by
 cases p with
 | none=>exact slicePart_none h
 | int i t=>exact slicePart_int h
theorem sliceApplied_gen {sl:Addr} {vl vu:Value} {lo hi:Option Int} {n:Nat} {Q:Int × Int × Nat → Shared → Prop} (hs:s.heap.IsSliceOf sl vl vu .none) (pl:IsPart vl lo) (pu:IsPart vu hi)
  (h:Q (((sIx n 0 lo:Nat):Int),1,sIx n n hi - sIx n 0 lo) s):wpAny (model prog w) A (Builtin.Slice.sliceApplied (.ref sl) (pure (n:Int))) Q E s:=by
 obtain ⟨os,hos,hcs,hds⟩:=id hs
 unfold Builtin.Slice.sliceApplied Builtin.Slice.sliceFields
 refine wpAny_bind (wpAny_bind (wpAny_field hos hds (x:=vl) rfl (wpAny_bind (wpAny_field hos hds (x:=vu) rfl (wpAny_bind (wpAny_field hos hds (x:=.none) rfl (wpAny_pure ?_)))))))
 refine wpAny_bind (slicePart_none ?_)
 show wpAny _ _ (if ((1:Int) == 0) = true then _ else _) _ _ s
 rw [if_neg (by decide)]
 refine wpAny_bind (ZeH pl (wpAny_bind (ZeH pu (wpAny_bind (wpAny_pure ?_)))))
 show wpAny _ _ (match Builtin.Slice.sliceAdjust lo hi 1 (n:Int) with | (lo,hi)=>pure (lo,(1:Int),Builtin.Slice.slicePlaces lo hi 1)) _ _ s
 rw [Zgq lo hi n]
 show wpAny _ _ (pure (((sIx n 0 lo:Nat):Int),(1:Int),Builtin.Slice.slicePlaces ((sIx n 0 lo:Nat):Int) ((sIx n n hi:Nat):Int) 1)) _ _ s
 rw [ZgH]
 exact wpAny_pure h
theorem ZhZ (xs:Array Value) (i k:Nat):((List.range k).filterMap fun (m:Nat)=>xs[((i:Int) + (m:Int) * 1).toNat]?).toArray = ((xs.toList.drop i).take k).toArray:=by
 have e:(fun (m:Nat)=>xs[((i:Int) + (m:Int) * 1).toNat]?) = fun m=>xs[i + m]?:=by
  funext m
  have:((i:Int) + (m:Int) * 1).toNat = i + m:=by omega
  rw [this]
 rw [e]
 have:=pick_run xs i k
 rw [List.filterMap_map] at this
 have e2:((fun x=>xs[x]?) ∘ fun x=>i + x) = fun m=>xs[i + m]?:=rfl
 rw [e2] at this
 rw [this]
theorem getItem_tuple_cut {t sl:Addr} {items:Array Value} {vl vu:Value} {lo hi:Option Int} {Q:Value → Shared → Prop} (ht:IsTup s.heap t items) (hs:s.heap.IsSliceOf sl vl vu .none) (pl:IsPart vl lo) (pu:IsPart vu hi)
  (hw:¬ (sIx items.size 0 lo = 0 ∧ sIx items.size items.size hi = items.size))
  (h:Q (.ref s.heap.objs.size) { s with heap:=s.heap.push { cls:=.type "tuple",data:=.seq ((items.toList.drop (sIx items.size 0 lo)).take (sIx items.size items.size hi - sIx items.size 0 lo)).toArray } })
  (hsz:items.size ≤ sizeLine):wpAny (model prog w) A (getItem (.ref t) (.ref sl)) Q E s:=by
 have htake:sizeOk (.seq ((items.toList.drop (sIx items.size 0 lo)).take (sIx items.size items.size hi - sIx items.size 0 lo)).toArray):=by
  show ((items.toList.drop (sIx items.size 0 lo)).take (sIx items.size items.size hi - sIx items.size 0 lo)).toArray.size ≤ sizeLine
  rw [List.size_toArray,List.length_take,List.length_drop,Array.length_toList]
  exact lD 3 85606880155602945 T1 hsz (Nat.sub_le _ _) (Nat.min_le_right _ _)
 have hj:sIx items.size items.size hi ≤ items.size:=Zfl _ _ (Nat.le_refl _) hi
 obtain ⟨os,hos,hcs,hds⟩:=id hs
 have hTs:s.TypeIs (.ref sl) "slice":=⟨os,hos,hcs⟩
 unfold getItem
 try with_reducible refine wpAny_holding ?_
 first | refine wpAny_bind (wpAny_pure ?_) | skip
 refine wpAny_bind (wpAny_sequenceKey ht.typeIs (by decide) ?_)
 refine wpAny_bind (wpAny_callSpecial?_slot (name:=Str.ofString "__getitem__") ht.typeIs PyProof.Rows.slot_tuple_getitem
  (wpAny_call_entry PyProof.Rows.slot_tuple_getitem ht.typeIs entry_tuple_getitem ?_ (args_tuple_getitem _ _)))
 show wpAny _ _ (Builtin.Tuple.tupleItemsOf (.ref t) >>= _) _ _ s
 refine wpAny_bind (tupleItemsOf_ ht ?_)
 refine wpAny_bind (wpAny_typeOf hTs ?_)
 rw [if_pos (by decide)]
 refine wpAny_bind (sliceApplied_gen hs pl pu ?_)
 have hno:¬ ((((sIx items.size 0 lo:Nat):Int) == 0 && (1:Int) == 1 && (sIx items.size items.size hi - sIx items.size 0 lo) == items.size) = true):=by
  intro q
  rw [Bool.and_eq_true,Bool.and_eq_true] at q
  have q1:((sIx items.size 0 lo:Nat):Int) = 0:=eq_of_beq q.1.1
  have q2:sIx items.size items.size hi - sIx items.size 0 lo = items.size:=eq_of_beq q.2
  exact hw ⟨by exact Nat.le_antisymm (iN [_] [] 1 3759016097 T1 q1) (Nat.zero_le _),by exact Nat.le_antisymm hj (lC 2 2268279672881 T1 q2 (Nat.sub_le _ _))⟩
 show wpAny _ _ (if (((sIx items.size 0 lo:Nat):Int) == 0 && (1:Int) == 1 && (sIx items.size items.size hi - sIx items.size 0 lo) == items.size) = true then _ else _) _ _ s
 rw [if_neg hno,ZhZ]
 first
  | exact wpAny_bind (m:=Builtin.Tuple.tupleExact _) (wpAny_newObj_type (wpAny_pure ⟨_,rfl,wpAny_pure h⟩) htake)
  | exact wpAny_bind (m:=Builtin.Tuple.tupleExact _) (wpAny_newObj_type (wpAny_bind (wpAny_pure (wpAny_pure ⟨_,rfl,wpAny_pure h⟩))) htake)
  | exact wpAny_bind (wpAny_bind (m:=Builtin.Tuple.tupleExact _) (wpAny_newObj_type (wpAny_pure (wpAny_pure ⟨_,rfl,wpAny_pure h⟩)) htake))
  | exact wpAny_bind (wpAny_bind (m:=Builtin.Tuple.tupleExact _) (wpAny_newObj_type (wpAny_pure ⟨_,rfl,wpAny_pure h⟩) htake))
end
end HT
namespace L2
open PySem PySem.Spec PyProof.Rows
noncomputable abbrev TO:=St → Hp → (Option Int → Hp → Prop) → Prop
noncomputable def PO (X:Cx) (e:Option Expr) (t:TO):Prop:=
 ∀ (pins:List (Addr × Obj)) (s:Shared) (σ:St) (H:Hp) (Q:Option Int → Hp → Prop),Inv X pins σ H s → t σ H Q →
  wpAny (model X.prog X.w) X.A (evalPart e X.env) (fun u s'=>∃ o H',Inv X pins σ H' s' ∧ IsPart u o ∧ Q o H') X.xe s
noncomputable def Zj8:TO:=fun _ H Q=>Q none H
noncomputable def ZmP (t:TE):TO:=fun σ H Q=>t σ H fun x H1=>∃ i,x = .int i ∧ Q (some i) H1
section
variable {X:Cx} {e:Expr} {te:TE} {lo hi:Option Expr} {tl th:TO} {pos p2:Pos}
theorem Zj2:PO X none Zj8:=by
 intro pins s σ H Q I h
 rw [evalPart_none]
 exact wpAny_pure ⟨none,H,I,.none,h⟩
theorem ZjL (h:PE X e te):PO X (some e) (ZmP te):=by
 intro pins s σ H Q I hw
 rw [evalPart_some]
 refine thn (h pins s σ H _ I hw) fun u s1 zz1=>?_
 obtain ⟨x,H1,I1,r1,q1⟩:=zz1
 obtain ⟨i,rfl,q⟩:=q1
 obtain ⟨t,rfl⟩:=r1
 exact ⟨some i,H1,I1,.int i t,q⟩
noncomputable def SlR (X:Cx) (r:V → Option Int → Option Int → Hp → VK → Prop):Prop:=
 ∀ (pins:List (Addr × Obj)) (s:Shared) (σ:St) (H:Hp) (x:V) (v vl vu:Value) (lo hi:Option Int) (sl:Addr) (Q:VK),Inv X pins σ H s → RelV x v → s.heap.IsSliceOf sl vl vu .none → IsPart vl lo → IsPart vu hi → r x lo hi H Q →
  ∃ T id,typeLookup (.type T) "__getitem__" = pure (some (.builtin id)) ∧ s.TypeIs v T ∧ wpAny (model X.prog X.w) X.A (getItem v (.ref sl)) (EP X pins σ Q) X.xe s
theorem SlR.or {r r':V → Option Int → Option Int → Hp → VK → Prop} (h:SlR X r) (h':SlR X r'):SlR X (fun x lo hi H Q=>r x lo hi H Q ∨ r' x lo hi H Q):=by
 intro pins s σ H x v vl vu lo hi sl Q I rx hs pl pu q
 rcases q with q | q
 ·exact h pins s σ H x v vl vu lo hi sl Q I rx hs pl pu q
 ·exact h' pins s σ H x v vl vu lo hi sl Q I rx hs pl pu q
noncomputable def tSl (r:V → Option Int → Option Int → Hp → VK → Prop) (te:TE) (tl th:TO):TE:=fun σ H Q=>te σ H fun x H1=>tl σ H1 fun l H2=>th σ H2 fun u H3=>r x l u H3 Q
theorem Zh2 {r:V → Option Int → Option Int → Hp → VK → Prop} (hr:SlR X r) (he:PE X e te) (hl:PO X lo tl) (hu:PO X hi th):PE X (.Subscript e (.Slice lo hi none p2) pos) (tSl r te tl th):=by
 intro pins s σ H Q I h
 refine Subscript_ (thn (he pins s σ H _ I h) fun v s1 zz1=>?_)
 obtain ⟨x,H1,I1,r1,q1⟩:=zz1
 refine wpAny_Slice (thn (hl pins s1 σ H1 _ I1 q1) fun vl s2 ⟨l,H2,I2,pl,q2⟩=>thn (hu pins s2 σ H2 _ I2 q2) fun vu s3 zz1=>?_)
 obtain ⟨u,H3,I3,pu,q3⟩:=zz1
 rw [evalPart_none]
 refine wpAny_pure ?_
 have I4:Inv X pins σ H3 { s3 with heap:=s3.heap.push { cls:=.type "slice",data:=.fields #[vl,vu,.none] } }:=I3.kept (t':=s3.toks) fun b ob q=>Heap.get?_push_of_some _ q
 obtain ⟨T,id,hT,ht,hg⟩:=hr pins { s3 with heap:=s3.heap.push { cls:=.type "slice",data:=.fields #[vl,vu,.none] } } σ H3 x v vl vu l u s3.heap.objs.size Q I4 r1 (Heap.IsSliceOf.new ..) pl pu q3
 show wpAny (model X.prog X.w) X.A (subscriptTail e (.Slice lo hi none p2) v (.ref s3.heap.objs.size)) (EP X pins σ Q) X.xe { s3 with heap:=s3.heap.push { cls:=.type "slice",data:=.fields #[vl,vu,.none] } }
 exact tail_any (ops:=[.ref s3.heap.objs.size,v]) ht hT hg (by with_unfolding_all rfl)
noncomputable def Zf8 (xs:List V) (lo hi:Option Int):List V:=(xs.drop (HT.sIx xs.length 0 lo)).take (HT.sIx xs.length xs.length hi - HT.sIx xs.length 0 lo)
theorem Zd6 (xs:List V) (lo hi:Option Int):(Zf8 xs lo hi).length ≤ xs.length:=by
 unfold Zf8
 rw [List.length_take,List.length_drop]
 exact Nat.le_trans (Nat.min_le_right _ _) (Nat.sub_le _ _)
noncomputable def ZnY (K:PySem.W.Frag):V → Option Int → Option Int → Hp → VK → Prop:=fun x lo hi H Q=>∃ a xs,x = .ref a ∧ SqT K H a xs ∧
 ¬ (HT.sIx xs.length 0 lo = 0 ∧ HT.sIx xs.length xs.length hi = xs.length) ∧ ∀ p,H p = none → Q (.ref p) (upd H p (.tup (Zf8 xs lo hi)))
theorem ZkU:SlR X (ZnY X.K):=by
 intro pins s σ H x v vl vu lo hi sl Q I rx hs pl pu h
 obtain ⟨a,xs,rfl,hx,hw,q⟩:=h
 cases rx
 obtain ⟨its,r,ht,hz⟩:=I.tuple hx
 have hlen:its.toArray.size = xs.length:=by rw [List.size_toArray]; exact r.length.symm
 refine ⟨"tuple",_,PyProof.Rows.slot_tuple_getitem.lookup,ht.typeIs,?_⟩
 refine HT.getItem_tuple_cut ht hs pl pu (by rw [hlen]; exact hw) ?_ (by rw [hlen]; exact hz)
 rw [hlen]
 refine ⟨.ref s.heap.objs.size,_,I.laid (t':=s.toks) (o:=.tup (Zf8 xs lo hi)) (fun b ob q=>Heap.get?_push_of_some _ q) (Nat.le_refl _) ?_,rfl,q _ (I.hok.fresh (Nat.le_refl _))⟩
 exact ⟨Nat.le_trans (Zd6 xs lo hi) hz,_,(r.drop (HT.sIx xs.length 0 lo)).take (HT.sIx xs.length xs.length hi - HT.sIx xs.length 0 lo),ZcS.new _ _⟩
noncomputable def ZnC (K:PySem.W.Frag):R2:=fun x y H Q=>∃ a b xs ys,x = .ref a ∧ y = .ref b ∧ SqT K H a xs ∧ SqT K H b ys ∧ xs ≠ [] ∧ xs.length + ys.length ≤ sizeLine ∧
 (ys = [] → Q (.ref a) H) ∧ (ys ≠ [] → ∀ p,H p = none → Q (.ref p) (upd H p (.tup (xs ++ ys))))
theorem Vals.nil_iff {xs:List V} {us:List Value} (r:Vals xs us):us = [] ↔ xs = []:=by
 cases r with
 | nil=>simp
 | cons _ _=>simp
theorem Zjo:OpR X (binaryOp .Add) (ZnC X.K):=by
 intro pins s σ H x y v u Q I rx ry h
 obtain ⟨a,b,xs,ys,rfl,rfl,ha,hb,hx,hz,q1,q2⟩:=h
 cases rx
 cases ry
 obtain ⟨its,r1,p1,_⟩:=I.tuple ha
 obtain ⟨its2,r2,p2,_⟩:=I.tuple hb
 refine HT.cat_tup p1 p2 (fun z=>hx (r1.nil_iff.mp z)) (fun z=>⟨.ref a,H,I,rfl,q1 (r2.nil_iff.mp z)⟩) (fun z=>?_) (by rw [← r1.length,← r2.length]; exact hz)
 refine ⟨.ref s.heap.objs.size,_,I.laid (t':=s.toks) (o:=.tup (xs ++ ys)) (fun b ob q=>Heap.get?_push_of_some _ q) (Nat.le_refl _) ?_,rfl,q2 (fun w=>z (r2.nil_iff.mpr w)) _ (I.hok.fresh (Nat.le_refl _))⟩
 exact ⟨by rw [List.length_append]; exact hz,_,r1.append r2,ZcS.new _ _⟩
end
end L2
namespace L2
open PySem PySem.Spec PyProof.Rows
noncomputable def ixN (n:Nat) (i:Int):Option Nat:=if 0 ≤ i then (if i < n then some i.toNat else none) else if -(n:Int) ≤ i then some (i + n).toNat else none
noncomputable def atI {α:Type} (xs:List α) (i:Int):Option α:=(ixN xs.length i).bind fun j=>xs[j]?
theorem ZgS {n:Nat} {i:Int} {j:Nat} (h:ixN n i = some j):seqIndex? i n = some j ∧ j < n ∧ -(n:Int) ≤ i ∧ i < n:=by
 unfold ixN at h
 by_cases h0:0 ≤ i
 ·rw [if_pos h0] at h
  by_cases h1:i < n
  ·rw [if_pos h1] at h
   have e:i.toNat = j:=Option.some.inj h
   exact ⟨by rw [seqIndex_of h0 h1,e],by exact iN [_,_,_] [_] 3 0x211008a1280911031 T1 e h1 (Int.toNat_of_nonneg h0),by exact iN [_] [_] 1 144182913 T1 h0,h1⟩
  ·rw [if_neg h1] at h; cases h
 ·rw [if_neg h0] at h
  by_cases h1:-(n:Int) ≤ i
  ·rw [if_pos h1] at h
   have e:(i + n).toNat = j:=Option.some.inj h
   exact ⟨by rw [seqIndex_neg (by exact Int.not_le.1 h0) h1,e],by exact iN [_,_,_] [_] 3 0x211280c08a10ec11031 T1 e h0 (Int.toNat_of_nonneg (iN [_] [_] 1 8851524979073 T1 h1)),h1,by exact iN [_] [_] 1 134811329 T1 h0⟩
  ·rw [if_neg h1] at h; cases h
theorem ZfD {α:Type} {xs:List α} {i:Int} {v:α} (h:atI xs i = some v):∃ j,seqIndex? i xs.length = some j ∧ xs[j]? = some v ∧ j < xs.length ∧ -(xs.length:Int) ≤ i ∧ i < xs.length:=by
 unfold atI at h
 cases e:ixN xs.length i with
 | none=>rw [e] at h; cases h
 | some j=>
  rw [e] at h
  obtain ⟨h1,h2,h3,h4⟩:=ZgS e
  exact ⟨j,h1,h,h2,h3,h4⟩
noncomputable def Zg0 (b:Expr):Prop:=∀ o i,subscripted b false o i = operate [o,i] (getItem o i)
noncomputable def IxR (X:Cx) (r:R2):Prop:=
 ∀ (value slice:Expr) (pins:List (Addr × Obj)) (s:Shared) (σ:St) (H:Hp) (x y:V) (v u:Value) (Q:VK),Inv X pins σ H s → RelV x v → RelV y u → r x y H Q →
  subscripted slice false v u = operate [v,u] (getItem v u) → wpAny (model X.prog X.w) X.A (subscriptTail value slice v u) (EP X pins σ Q) X.xe s
noncomputable def MtR (X:Cx) (id:String) (r:V → List V → Hp → VK → Prop):Prop:=
 ∀ (pins:List (Addr × Obj)) (s:Shared) (σ:St) (H:Hp) (x:V) (xs:List V) (v:Value) (us:List Value) (Q:VK),Inv X pins σ H s → RelV x v → Vals xs us → r x xs H Q →
  wpAny (model X.prog X.w) X.A (call (.builtin id) (v :: us)) (EP X pins σ Q) X.xe s
section
variable {X:Cx} {a b:Expr} {ta tb:TE} {pos:Pos}
theorem IxR.or {r r':R2} (h:IxR X r) (h':IxR X r'):IxR X (fun x y H Q=>r x y H Q ∨ r' x y H Q):=by
 intro value slice pins s σ H x y v u Q I rx ry q hs
 rcases q with q | q
 ·exact h value slice pins s σ H x y v u Q I rx ry q hs
 ·exact h' value slice pins s σ H x y v u Q I rx ry q hs
theorem ZmU {r:R2} (hr:IxR X r) (ha:PE X a ta) (hb:PE X b tb) (hs:Zg0 b):PE X (.Subscript a b pos) (tOp r ta tb):=by
 intro pins s σ H Q I h
 exact Subscript_ (ZlS ha hb I h fun v u s2 x y H2 I2 rx ry q=>hr a b pins s2 σ H2 x y v u Q I2 rx ry q (hs _ _))
noncomputable def ZnG (K:PySem.W.Frag):R2:=fun x y H Q=>∃ p xs i v,x = .ref p ∧ y = .int i ∧ SqL K H p xs ∧ atI xs i = some v ∧ Q v H
noncomputable def ZmI (K:PySem.W.Frag):R2:=fun x y H Q=>∃ p xs i v,x = .ref p ∧ y = .int i ∧ SqT K H p xs ∧ atI xs i = some v ∧ Q v H
noncomputable def Znt:R2:=fun x y H Q=>∃ z i c,x = .str z ∧ y = .int i ∧ z.length ≤ sizeLine ∧ atI z.cps.toList i = some c ∧ Q (.str ⟨#[c]⟩) H
theorem Zkk:IxR X (ZnG X.K):=by
 intro value slice pins s σ H x y v u Q I rx ry h hs
 obtain ⟨p,xs,i,z,rfl,rfl,hq,he,q⟩:=h
 cases rx
 obtain ⟨t,rfl⟩:=ry
 obtain ⟨its,r,pl,hz⟩:=I.list hq
 obtain ⟨j,h1,h2,h3,h4,h5⟩:=ZfD he
 obtain ⟨w,ew,rw'⟩:=r.get h2
 have hl:=r.length
 have hn:=ZeB
 have fin:EP X pins σ Q w s:=⟨z,H,I,rw',q⟩
 by_cases h0:0 ≤ i
 ·have hj:i.toNat = j:=by
   rw [seqIndex_of h0 h5] at h1
   exact Option.some.inj h1
  exact item_listR pl.isList h0 (by omega) (by rw [hj]; simpa using ew) fin hs
 ·have hj:(i + (its.toArray.size:Int)).toNat = j:=by
   rw [seqIndex_neg (by exact Int.not_le.1 h0) h4] at h1
   rw [List.size_toArray,← hl]
   exact Option.some.inj h1
  exact subscriptTail_builtinR (x:=w) pl.isList.typeIs slot_list_getitem.lookup
   (wpAny_getItem_list_neg (Q:=fun r s'=>r = w ∧ EP X pins σ Q r s') pl.isList (by exact Int.not_le.1 h0) (by rw [List.size_toArray] <;> exact iN [_,_] [_] 2 6922527515414561 T1 hl h4) (by omega) (by rw [hj]; simpa using ew) ⟨rfl,fin⟩) hs
theorem Zmk:IxR X (ZmI X.K):=by
 intro value slice pins s σ H x y v u Q I rx ry h hs
 obtain ⟨p,xs,i,z,rfl,rfl,hq,he,q⟩:=h
 cases rx
 obtain ⟨t,rfl⟩:=ry
 obtain ⟨its,r,pl,hz⟩:=I.tuple hq
 obtain ⟨j,h1,h2,h3,h4,h5⟩:=ZfD he
 obtain ⟨w,ew,rw'⟩:=r.get h2
 have hl:=r.length
 have hn:=ZeB
 have fin:EP X pins σ Q w s:=⟨z,H,I,rw',q⟩
 exact subscriptTail_builtinR (x:=w) pl.typeIs slot_tuple_getitem.lookup
  (getItem_tuple (j:=j) (Q:=fun r s'=>r = w ∧ EP X pins σ Q r s') pl (by omega) (by omega) (by rw [List.size_toArray,← hl]; exact h1) (by simpa using ew) ⟨rfl,fin⟩) hs
theorem ZlH:IxR X Znt:=by
 intro value slice pins s σ H x y v u Q I rx ry h hs
 obtain ⟨z,i,c,rfl,rfl,hz,he,q⟩:=h
 obtain ⟨t,rfl⟩:=rx
 obtain ⟨t',rfl⟩:=ry
 obtain ⟨j,h1,h2,h3,h4,h5⟩:=ZfD he
 have hl:z.cps.toList.length = z.length:=by simp [Str.length]
 rw [hl] at h1 h4 h5
 have hn:=ZeB
 exact tail_any (typeIs_str s z t) slot_str_getitem.lookup (getItem_str (c:=c) (by
  have e1:decide (i < -(2 ^ 63:Int)) = false:=decide_eq_false (by omega)
  have e2:decide (i ≥ 2 ^ 63) = false:=decide_eq_false (by omega)
  rw [e1,e2,Bool.or_false]) (by rw [h1]; simpa using h2) ⟨.str ⟨#[c]⟩,H,I.tok _,⟨_,rfl⟩,q⟩) hs
noncomputable def rIx (K:PySem.W.Frag):R2:=fun x y H Q=>ZnG K x y H Q ∨ ZmI K x y H Q ∨ Znt x y H Q
theorem Zle:IxR X (rIx X.K):=Zkk.or (Zmk.or ZlH)
theorem ZgL (its:List Value) (n j:Nat) (u:Value):Obj.mapSeq (·.setIfInBounds j u) { cls:=.type "list",data:=.seq its.toArray n } = { cls:=.type "list",data:=.seq (its.set j u).toArray n }:=by
 simp [Obj.mapSeq]
theorem Inv.lst {pins:List (Addr × Obj)} {σ:St} {H:Hp} {s:Shared} {p:Addr} {xs:List V} (I:Inv X pins σ H s) (h:H p = some (.lst xs)):
  ∃ (its:List Value) (n:Nat),Vals xs its ∧ s.heap.get? p = some { cls:=.type "list",data:=.seq its.toArray n } ∧ xs.length ≤ sizeLine:=by
 obtain ⟨z,its,n,r,e⟩:=I.hok p _ h
 exact ⟨its,n,r,e,z⟩
theorem Inv.lstUpd {pins:List (Addr × Obj)} {σ:St} {H:Hp} {s:Shared} {p:Addr} {xs ys:List V} {its its':List Value} {n n':Nat} {f:Obj → Obj} (I:Inv X pins σ H s) (h:H p = some (.lst xs))
  (ho:s.heap.get? p = some { cls:=.type "list",data:=.seq its.toArray n }) (hf:f { cls:=.type "list",data:=.seq its.toArray n } = { cls:=.type "list",data:=.seq its'.toArray n' }) (r:Vals ys its') (hz:ys.length ≤ sizeLine) (t:Nat):
  Inv X pins σ (upd H p (.lst ys)) { s with heap:=s.heap.update p f,toks:=t }:=by
 have e:(s.heap.update p f).get? p = some { cls:=.type "list",data:=.seq its'.toArray n' }:=by
  rw [Heap.get?_update_self f ho (by rw [hf] <;> rfl),hf]
 refine I.write (x:=p) (e:=p) (by rw [h]; trivial) (.inl rfl) (fun b u hb q=>(Heap.get?_update_other _ _ (Ne.symm hb)).trans q) ⟨_,e⟩ ?_
 exact ⟨hz,its',n',r,e⟩
noncomputable def ZmW:V → V → V → Hp → (Hp → Prop) → Prop:=fun o i v H Q=>∃ p xs k j,o = .ref p ∧ i = .int k ∧ H p = some (.lst xs) ∧ ixN xs.length k = some j ∧ Q (upd H p (.lst (xs.set j v)))
theorem set_list:Znl X ZmW:=by
 intro pins s σ H o i v ov iv u Q I ro ri rv h
 obtain ⟨p,xs,k,j,rfl,rfl,hp,hj,q⟩:=h
 cases ro
 obtain ⟨t,rfl⟩:=ri
 obtain ⟨its,n,r,ho,hz⟩:=I.lst hp
 obtain ⟨h1,h2,h3,h4⟩:=ZgS hj
 have hl:=r.length
 have hn:=ZeB
 have I':Inv X pins σ (upd H p (.lst (xs.set j v))) { s with heap:=s.heap.update p (Obj.mapSeq (·.setIfInBounds j u)) }:=
  I.lstUpd hp ho (ZgL its n j u) (r.set rv j) (by rw [List.length_set]; exact hz) s.toks
 by_cases h0:0 ≤ k
 ·have hk:k.toNat = j:=by
   rw [seqIndex_of h0 h4] at h1
   exact Option.some.inj h1
  exact PySem.W.ki_setAt ho h0 (by omega) (by rw [List.size_toArray,← hl]; exact h4) (by rw [hk]; exact ⟨_,I',q⟩)
 ·have hk:(k + (its.toArray.size:Int)).toNat = j:=by
   rw [seqIndex_neg (by exact Int.not_le.1 h0) h3] at h1
   rw [List.size_toArray,← hl]
   exact Option.some.inj h1
  exact PySem.W.ki_setBack ho (by exact Int.not_le.1 h0) (by rw [List.size_toArray,← hl]; exact h3) (by omega) (by rw [hk]; exact ⟨_,I',q⟩)
theorem Zfn (lo hi:Option Int) (n:Nat):(sliceBounds lo hi none n).1 = ((HT.sIx n 0 lo:Nat):Int) ∧ (sliceBounds lo hi none n).2.1 = ((HT.sIx n n hi:Nat):Int) ∧ (sliceBounds lo hi none n).2.2 = 1:=by
 refine ⟨?_,?_,rfl⟩
 ·cases lo with
  | none=>simp [sliceBounds,HT.sIx]
  | some i=>
   simp only [sliceBounds,HT.sIx,Option.getD_none,show (1:Int) > 0 by decide,if_true]
   by_cases h:i < 0
   ·simp only [h,if_true] <;> exact clC _ _ h
   ·simp only [h,if_false] <;> exact clD _ _ h
 ·cases hi with
  | none=>simp [sliceBounds,HT.sIx]
  | some i=>
   simp only [sliceBounds,HT.sIx,Option.getD_none,show (1:Int) > 0 by decide,if_true]
   by_cases h:i < 0
   ·simp only [h,if_true] <;> exact clC _ _ h
   ·simp only [h,if_false] <;> exact clD _ _ h
theorem ZeV (its:List Value) (lo hi:Option Int):slicePick its.toArray lo hi none = ((its.drop (HT.sIx its.length 0 lo)).take (HT.sIx its.length its.length hi - HT.sIx its.length 0 lo)).toArray:=by
 obtain ⟨h1,h2,h3⟩:=Zfn lo hi its.toArray.size
 unfold slicePick
 rw [h1,h2,h3]
 simp only [sliceRange_one,pick_run,List.size_toArray] <;> rfl
noncomputable def ZnU (K:PySem.W.Frag):V → Option Int → Option Int → Hp → VK → Prop:=fun x lo hi H Q=>∃ a xs,x = .ref a ∧ SqL K H a xs ∧ ∀ p,H p = none → Q (.ref p) (upd H p (.lst (Zf8 xs lo hi)))
theorem Zjp:SlR X (ZnU X.K):=by
 intro pins s σ H x v vl vu lo hi sl Q I rx hs pl pu h
 obtain ⟨a,xs,rfl,hx,q⟩:=h
 cases rx
 obtain ⟨its,r,ht,hz⟩:=I.list hx
 have hlen:=r.length
 refine ⟨"list",_,slot_list_getitem.lookup,ht.isList.typeIs,?_⟩
 refine wpAny_getItem_list_slice ht.isList hs pl pu .none (by simp) ?_ (by rw [List.size_toArray] <;> exact lC 2 2268279672881 T1 hlen hz)
 rw [ZeV,← hlen]
 refine ⟨.ref s.heap.objs.size,_,I.laid (t':=s.toks) (o:=.lst (Zf8 xs lo hi)) (fun b ob q=>Heap.get?_push_of_some _ q) (Nat.le_refl _) ?_,rfl,q _ (I.hok.fresh (Nat.le_refl _))⟩
 exact ⟨Nat.le_trans (Zd6 xs lo hi) hz,_,0,(r.drop (HT.sIx xs.length 0 lo)).take (HT.sIx xs.length xs.length hi - HT.sIx xs.length 0 lo),Heap.get?_push_size _ rfl⟩
theorem Zfk:Zba X (.type "list") (fun xs H Q=>∃ p ys,xs = [.ref p] ∧ (SqL X.K H p ys ∨ SqT X.K H p ys) ∧ ∀ l,H l = none → Q (.ref l) (upd H l (.lst ys))):=by
 intro pins s σ H xs us Q I r h
 obtain ⟨p,ys,rfl,hq,q⟩:=h
 obtain ⟨u,rfl,rx⟩:=vals1 r
 cases rx
 have fin:∀ (its:List Value),Vals ys its → ys.length ≤ sizeLine → ∀ (h':Heap) (c':Nat),(∀ b o',s.heap.get? b = some o' → h'.get? b = some o') →
   h'.get? s.heap.objs.size = some { cls:=.type "list",dict:=none,data:=.seq its.toArray c',slots:=#[] } → EP X pins σ Q (.ref s.heap.objs.size) { s with heap:=h' }:=fun its r' hz h' c' kp e=>
  ⟨.ref s.heap.objs.size,_,I.laid (t':=s.toks) kp (Nat.le_refl _) (show ZaZ X.prog X.w _ h' _ (.lst ys) from ⟨hz,its,c',r',e⟩),rfl,q _ (I.hok.fresh (Nat.le_refl _))⟩
 rcases hq with hq | hq
 ·obtain ⟨its,r',pl,hz⟩:=I.list hq
  have hlen:=r'.length
  obtain ⟨o,ho,hc,n,hd⟩:=pl.isList
  exact call_list_seq p (.inl rfl) ho hc hd (fun h' c' kp e=>fin its r' hz h' c' kp e) (by simp only [List.size_toArray] <;> exact lC 2 2268279672881 T1 hlen hz)
 ·obtain ⟨its,r',pl,hz⟩:=I.tuple hq
  have hlen:=r'.length
  obtain ⟨o,ho,hc,n,hd⟩:=pl
  exact call_list_seq p (.inr rfl) ho hc hd (fun h' c' kp e=>fin its r' hz h' c' kp e) (by simp only [List.size_toArray] <;> exact lC 2 2268279672881 T1 hlen hz)
theorem ZeQ:Zba X (.type "tuple") (fun xs H Q=>∃ p ys,xs = [.ref p] ∧ ((SqL X.K H p ys ∧ ∀ l,H l = none → Q (.ref l) (upd H l (.tup ys))) ∨ (SqT X.K H p ys ∧ Q (.ref p) H))):=by
 intro pins s σ H xs us Q I r h
 obtain ⟨p,ys,rfl,h⟩:=h
 obtain ⟨u,rfl,rx⟩:=vals1 r
 cases rx
 rcases h with ⟨hq,q⟩ | ⟨hq,q⟩
 ·obtain ⟨its,r',pl,hz⟩:=I.list hq
  have hlen:=r'.length
  refine call_tuple_list pl.isList (fun h' kp=>?_) (by simp only [List.size_toArray] <;> exact lC 2 2268279672881 T1 hlen hz)
  have I1:Inv X pins σ H { s with heap:=h' }:=I.kept (t':=s.toks) kp
  have I2:Inv X pins σ (upd H h'.objs.size (.tup ys)) { s with heap:=h'.push { cls:=.type "tuple",data:=.seq its.toArray } }:=
   I1.laid (t':=s.toks) (fun b o e=>Heap.get?_push_of_some _ e) (Nat.le_refl _) (show ZaZ X.prog X.w _ _ _ (.tup ys) from ⟨hz,its,r',ZcS.new _ _⟩)
  exact ⟨.ref h'.objs.size,_,I2,rfl,q _ (I1.hok.fresh (Nat.le_refl _))⟩
 ·obtain ⟨its,r',pl,hz⟩:=I.tuple hq
  exact call_tuple_same pl ⟨.ref p,H,I,rfl,q⟩
noncomputable def tyV (K:PySem.W.Frag) (T:String) (x:V) (H:Hp):Prop:=match x with
 | .str _=>T = "str"
 | .int _=>T = "int"
 | .ref p=>(T = "list" ∧ ∃ xs,SqL K H p xs) ∨ (T = "tuple" ∧ ∃ o,K.lookup p = some o ∧ o.cls = .type "tuple" ∧ o.dict = none) ∨
   (T = "dict" ∧ ((∃ kvs,H p = some (.dK kvs)) ∨ ∃ kvs,H p = some (.dT kvs))) ∨ (T = "set" ∧ ∃ S n,H p = some (.set S n))
 | _=>False
theorem ZiQ {pins:List (Addr × Obj)} {σ:St} {H:Hp} {s:Shared} {T:String} {x:V} {v:Value} (I:Inv X pins σ H s) (r:RelV x v) (ty:tyV X.K T x H):
  s.TypeIs v T ∧ ∀ a,v = .ref a → ∃ ob,s.heap.get? a = some ob ∧ ob.dict = none:=by
 cases x with
 | str z=>
  obtain ⟨t,rfl⟩:=r
  cases (show T = "str" from ty)
  exact ⟨typeIs_str s z t,fun _ e=>nomatch e⟩
 | int i=>
  obtain ⟨t,rfl⟩:=r
  cases (show T = "int" from ty)
  exact ⟨typeIs_int s i t,fun _ e=>nomatch e⟩
 | ref p=>
  cases r
  rcases ty with ⟨rfl,xs,hq⟩ | ⟨rfl,o,hk,hc,hd⟩ | ⟨rfl,hk⟩ | ⟨rfl,S,n,hk⟩
  ·obtain ⟨its,_,pl,_⟩:=I.list hq
   refine ⟨pl.isList.typeIs,fun a e=>?_⟩
   cases e
   obtain ⟨o,n,e,c,hd,_⟩:=pl
   exact ⟨o,e,hd⟩
  ·refine ⟨⟨o,I.kIn p o hk,hc⟩,fun a e=>?_⟩
   cases e
   exact ⟨o,I.kIn _ o hk,hd⟩
  ·have z:∃ o,s.heap.get? p = some o ∧ o.ExactDict:=by
    rcases hk with ⟨kvs,hk⟩ | ⟨kvs,hk⟩
    ·obtain ⟨_,_,_,_,o,_,_,e,ex,_⟩:=I.hok p _ hk
     exact ⟨o,e,ex⟩
    ·obtain ⟨_,_,_,_,o,_,_,e,ex,_⟩:=I.hok p _ hk
     exact ⟨o,e,ex⟩
   obtain ⟨o,e,ex⟩:=z
   refine ⟨⟨o,e,ex.1⟩,fun a e2=>?_⟩
   cases e2
   exact ⟨o,e,ex.2.1⟩
  ·obtain ⟨o,_,_,_,e,ex,_⟩:=I.hok p _ hk
   refine ⟨⟨o,e,ex.1⟩,fun a e2=>?_⟩
   cases e2
   exact ⟨o,e,ex.2.1⟩
 | _=>exact False.elim ty
noncomputable def Znx (K:PySem.W.Frag) (T:String) (r:V → List V → Hp → VK → Prop) (to:TE):TE:=fun σ H Q=>to σ H fun x H1=>tyV K T x H1 ∧ r x [] H1 Q
noncomputable def tBM (K:PySem.W.Frag) (T:String) (r:V → List V → Hp → VK → Prop) (to:TE) (t:TA):TE:=fun σ H Q=>to σ H fun x H1=>tyV K T x H1 ∧ t σ H1 fun xs H2=>r x xs H2 Q
variable {o e:Expr} {es:List Expr} {to:TE} {t:TA} {name:Str} {apos cpos:Pos} {T id:String} {r:V → List V → Hp → VK → Prop}
theorem Zlc (pa:PlainAttrs T) (slot:Slot T name id) (hty:typeOf (.builtin id) = pure (.type "method_descriptor")) (hm:MtR X id r) (ho:PE X o to)
  (hbase:attributeBase o name X.env (eval o X.env) = eval o X.env:=by rfl) (hline:(apos.endLine == cpos.line) = true:=by rfl):PE X (.Call (.Attribute o name apos) [] [] cpos) (Znx X.K T r to):=by
 intro pins s σ H Q I h
 refine wpAny_Call_method0_late hbase hline (thn (ho pins s σ H _ I h) fun v s1 zz1=>?_)
 obtain ⟨x,H1,I1,r1,ty,q1⟩:=zz1
 obtain ⟨h1,h2⟩:=ZiQ I1 r1 ty
 exact ⟨T,id,pa,slot,hty,h1,h2,Calls.callWith_builtin rfl (PySem.evalArgs_none (hm pins s1 σ H1 x [] v [] Q I1 r1 .nil q1))⟩
theorem Znj (pa:PlainAttrs T) (slot:Slot T name id) (hty:typeOf (.builtin id) = pure (.type "method_descriptor")) (hm:MtR X id r) (ho:PE X o to) (ha:PA X (e :: es) t)
  (hbase:attributeBase o name X.env (eval o X.env) = eval o X.env:=by rfl)
  (hfew:((backTo cpos (starEach (e :: es) X.env)).all (fun x=>!x.1) && (backToKw cpos (keywordEach [] X.env)).all (fun x=>x.1.isSome)
   && decide ((e :: es).length + ([]:List Keyword).length + (if ([]:List Keyword).isEmpty then 0 else 1) < 30)) = true:=by rfl)
  (hline:(apos.endLine == cpos.line) = true:=by rfl) (hs:starEach (e :: es) X.env = (false,eval e X.env) :: starEach es X.env:=by rfl) (hplain:(backTo cpos (starEach es X.env)).any (·.1) = false:=by rfl):
  PE X (.Call (.Attribute o name apos) (e :: es) [] cpos) (tBM X.K T r to t):=by
 intro pins s σ H Q I h
 refine wpAny_Call_method_late hbase hfew hline rfl (thn (ho pins s σ H _ I h) fun v s1 zz1=>?_)
 obtain ⟨x,H1,I1,r1,ty,q1⟩:=zz1
 obtain ⟨h1,h2⟩:=ZiQ I1 r1 ty
 refine ⟨T,id,pa,slot,hty,h1,h2,?_⟩
 have hA:=ha cpos pins s1 σ H1 _ I1 q1
 rw [hs] at hA ⊢
 refine Calls.callWith_builtin (by show (false || (backTo cpos (starEach es X.env)).any (·.1)) = false; rw [hplain] <;> rfl) (Calls.evalArgs_plain ?_)
 exact thn hA fun us s2 ⟨vs,H2,I2,r2,q2⟩=>hm pins s2 σ H2 x vs v us Q I2 r1 r2 q2
/- xs.append(e),list.index on a module's tuple .. are MtR facts of 06m -/
end
end L2
namespace L2
open PySem PySem.Spec PyProof.Rows
noncomputable def MtM (X:Cx) (id:String) (r:V → List V → Hp → VK → Prop):Prop:=
 ∀ (pins:List (Addr × Obj)) (s:Shared) (σ:St) (H:Hp) (x:V) (xs:List V) (v:Value) (us:List Value) (Q:VK),Inv X pins σ H s → RelV x v → Vals xs us → r x xs H Q →
  wpAny (model X.prog X.w) X.A (call (.builtin id) (v :: us)) (EP X pins σ Q) X.xe s
theorem Vals.one:∀ {x:V} {us:List Value},Vals [x] us → ∃ u,us = [u] ∧ RelV x u
 | _,_,.cons r .nil=>⟨_,rfl,r⟩
theorem Vals.zero:∀ {us:List Value},Vals [] us → us = []
 | _,.nil=>rfl
theorem Vals.eraseIdx:∀ {xs:List V} {us:List Value} (i:Nat),Vals xs us → Vals (xs.eraseIdx i) (us.eraseIdx i)
 | _,_,_,.nil=>.nil
 | _,_,0,.cons _ t=>t
 | _,_,i + 1,.cons r t=>.cons r (Vals.eraseIdx i t)
theorem Vals.reverse {xs:List V} {us:List Value} (h:Vals xs us):Vals xs.reverse us.reverse:=by
 induction h with
 | nil=>exact .nil
 | cons r t ih=>rw [List.reverse_cons,List.reverse_cons]; exact Vals.append ih (.cons r .nil)
theorem Vals.rep {xs:List V} {us:List Value} (h:Vals xs us):∀ k:Nat,Vals (List.replicate k xs).flatten (List.replicate k us).flatten
 | 0=>.nil
 | k + 1=>by
  rw [List.replicate_succ,List.replicate_succ,List.flatten_cons,List.flatten_cons]
  exact Vals.append h (Vals.rep h k)
theorem foldl_rep (its:List Value):∀ (k:Nat) (acc:List Value),
  List.foldl (fun x1 x2=>x1 ++ x2) acc.toArray (List.replicate k its.toArray) = (acc ++ (List.replicate k its).flatten).toArray
 | 0,acc=>by simp
 | k + 1,acc=>by
  have e:acc.toArray ++ its.toArray = (acc ++ its).toArray:=by simp
  have e2:(acc ++ its) ++ (List.replicate k its).flatten = acc ++ (List.replicate (k + 1) its).flatten:=by
   rw [List.replicate_succ,List.flatten_cons,List.append_assoc]
  rw [← e2,← foldl_rep its k (acc ++ its),← e,List.replicate_succ,List.foldl_cons]
section
variable {X:Cx} {pins:List (Addr × Obj)} {σ:St} {H:Hp} {s:Shared} {l b:Addr} {xs ys zs:List V}
theorem Inv.lset {its its':List Value} {n:Nat} {f:Array Value → Array Value} {t':Nat} (I:Inv X pins σ H s) (hH:H l = some (.lst xs))
  (e:s.heap.get? l = some { cls:=.type "list",data:=.seq its.toArray n }) (hf:f its.toArray = its'.toArray) (hv:Vals ys its') (hz:ys.length ≤ sizeLine):
  Inv X pins σ (upd H l (.lst ys)) { s with heap:=s.heap.update l (Obj.mapSeq f),toks:=t' }:=by
 have q:=PySem.IsL.update e f
 rw [hf] at q
 refine I.write (x:=l) (e:=l) (by rw [hH]; exact trivial) (.inl rfl) (fun b' u hb hu=>(Heap.get?_update_other s.heap (Obj.mapSeq f) (Ne.symm hb)).trans hu) ⟨_,q⟩ ?_
 exact ⟨hz,its',_,hv,q⟩
theorem Inv.lnew {its:List Value} {t':Nat} (I:Inv X pins σ H s) (hv:Vals ys its) (hz:ys.length ≤ sizeLine):
  Inv X pins σ (upd H s.heap.objs.size (.lst ys)) { s with heap:=s.heap.push { cls:=.type "list",data:=.seq its.toArray },toks:=t' }:=
 I.laid (fun _ _ q=>Heap.get?_push_of_some _ q) (Nat.le_refl _) ⟨hz,its,0,hv,Heap.get?_push_size _ rfl⟩
theorem Inv.fresh (I:Inv X pins σ H s):H s.heap.objs.size = none:=I.hok.fresh (Nat.le_refl _)
theorem Inv.lstM (I:Inv X pins σ H s) (hH:H l = some (.lst xs)):xs.length ≤ sizeLine ∧ ∃ (its:List Value) (n:Nat),Vals xs its ∧ xs.length = its.length ∧ s.heap.get? l = some { cls:=.type "list",data:=.seq its.toArray n }:=by
 obtain ⟨z,its,n,r,e⟩:=I.hok l _ hH
 exact ⟨z,its,n,r,r.length,e⟩
theorem Zjc {n:Nat} (h:n ≤ sizeLine):Builtin.List.listTooLong n = false:=by
 unfold Builtin.List.listTooLong
 exact decide_eq_false (by omega)
end
section
variable {X:Cx}
noncomputable def Zhe:V → List V → Hp → VK → Prop:=fun x vs H Q=>∃ l xs y,x = .ref l ∧ vs = [y] ∧ H l = some (.lst xs) ∧ xs.length < sizeLine ∧ Q .non (upd H l (.lst (xs ++ [y])))
theorem Ze5:MtM X "list.append" Zhe:=by
 intro pins s σ H x vs v us Q I rx rv h
 obtain ⟨l,xs,y,rfl,rfl,hH,hz,q⟩:=h
 cases rx
 obtain ⟨u,rfl,ru⟩:=rv.one
 obtain ⟨z,its,n,r,hl,e⟩:=I.lstM hH
 refine call_meets F.slot_list_append ⟨_,e,rfl⟩ F.entry_list_append (F.args_list_append_2 _ _) (PySem.list_append l its.toArray n u (by rw [List.size_toArray]; exact lC 2 2268279672881 T1 hl z)) ⟨e,?_⟩
 refine ⟨.non,_,I.lset (its':=its ++ [u]) hH e (by simp) (r.append (.cons ru .nil)) ?_,rfl,q⟩
 rw [List.length_append,List.length_singleton]
 exact lB 1 6991908881 T1 hz
noncomputable def Zgf:V → List V → Hp → VK → Prop:=fun x vs H Q=>∃ l xs,x = .ref l ∧ vs = [] ∧ H l = some (.lst xs) ∧ Q .non (upd H l (.lst xs.reverse))
theorem Zgt:MtM X "list.reverse" Zgf:=by
 intro pins s σ H x vs v us Q I rx rv h
 obtain ⟨l,xs,rfl,rfl,hH,q⟩:=h
 cases rx
 have hus:=rv.zero
 subst hus
 obtain ⟨z,its,n,r,hl,e⟩:=I.lstM hH
 refine call_meets F.slot_list_reverse ⟨_,e,rfl⟩ F.entry_list_reverse (F.args_list_reverse_1 _) (AutoSeq1.list_reverse_list_0 l its.toArray n (by rw [List.size_toArray]; exact lC 2 2268279672881 T1 hl z)) ⟨e,?_⟩
 refine ⟨.non,_,I.lset (its':=its.reverse) hH e (by simp) r.reverse ?_,rfl,q⟩
 rw [List.length_reverse]
 exact z
noncomputable def Zod:R2:=fun x y H Q=>∃ l b xs zs,x = .ref l ∧ y = .ref b ∧ H l = some (.lst xs) ∧ H b = some (.lst zs) ∧ xs.length + zs.length ≤ sizeLine ∧ ∀ p,H p = none → Q (.ref p) (upd H p (.lst (xs ++ zs)))
theorem ZlX:OpR X (binaryOp .Add) Zod:=by
 intro pins s σ H x y v u Q I rx ry h
 obtain ⟨l,b,xs,zs,rfl,rfl,hH,hB,hz,q⟩:=h
 cases rx
 cases ry
 obtain ⟨z,its,n,r,hl,e⟩:=I.lstM hH
 obtain ⟨z2,its2,n2,r2,hl2,e2⟩:=I.lstM hB
 refine PySem.P.add_list e e2 ?_ (by rw [List.size_toArray,List.size_toArray]; exact lE 3 0x413c0402c0132311031 T1 hl2 hl hz)
 have ea:its.toArray ++ its2.toArray = (its ++ its2).toArray:=by simp
 rw [ea]
 exact ⟨.ref _,_,I.lnew (t':=s.toks) (r.append r2) (by rw [List.length_append]; exact hz),rfl,q _ I.fresh⟩
noncomputable def Zor:R2:=fun x y H Q=>∃ l k xs,x = .ref l ∧ y = .int k ∧ H l = some (.lst xs) ∧ -(2 ^ 63) ≤ k ∧ k < 2 ^ 63 ∧ xs.length * k.toNat ≤ sizeLine ∧
 ∀ p,H p = none → Q (.ref p) (upd H p (.lst (List.replicate k.toNat xs).flatten))
theorem len_rep {α:Type} (xs:List α) (k:Nat):(List.replicate k xs).flatten.length = k * xs.length:=by
 induction k with
 | zero=>simp
 | succ k ih=>rw [List.replicate_succ,List.flatten_cons,List.length_append,ih,Nat.succ_mul,Nat.add_comm]
theorem Zl3:OpR X (binaryOp .Mult) Zor:=by
 intro pins s σ H x y v u Q I rx ry h
 obtain ⟨l,k,xs,rfl,rfl,hH,h1,h2,hz,q⟩:=h
 cases rx
 obtain ⟨t,rfl⟩:=ry
 obtain ⟨z,its,n,r,hl,e⟩:=I.lstM hH
 have hlen:its.toArray.size * k.toNat ≤ sizeLine:=by rw [List.size_toArray,← hl]; exact hz
 have hcap:¬ its.toArray.size * k.toNat > (2 ^ 63 - 1) / 8:=by
  have:(sizeLine:Nat) ≤ (2 ^ 63 - 1) / 8:=by decide
  omega
 have hfit:¬ (!Builtin.List.listFitsIndex k) = true:=by
  rw [fitsIndex_both h1 h2]
  exact Bool.false_ne_true
 have hlong:¬ Builtin.List.listTooLong (its.toArray.size * k.toNat) = true:=by
  rw [Zjc hlen]
  exact Bool.false_ne_true
 have hnew:List.foldl (fun x1 x2=>x1 ++ x2) #[] (List.replicate (if its.toArray.isEmpty = true then 0 else k.toNat) its.toArray) = (List.replicate k.toNat its).flatten.toArray:=by
  have f0:∀ m:Nat,List.foldl (fun x1 x2=>x1 ++ x2) #[] (List.replicate m its.toArray) = (List.replicate m its).flatten.toArray:=fun m=>by
   have:=foldl_rep its m []
   rw [List.nil_append] at this
   exact this
  rw [f0]
  cases its with
  | nil=>simp
  | cons a r'=>rw [if_neg (by simp)]
 refine wpAny_binaryOp_repeat_ref (T:="list") (U:="int") (by decide) ⟨_,e,rfl⟩ (fun s'=>typeIs_int s' k t) noFill_list_mul F.fills_int_mul F.slot_int_rmul repeat_list F.slot_int_index.lookup
  (call_meets F.slot_int_rmul (typeIs_int s k t) F.entry_int_rmul (F.args_int_rmul_2 _ _) (int___rmul___int_list k t l its.toArray n)
   ⟨e,rfl,⟨_,e,rfl⟩,call_meets F.slot_list_mul ⟨_,e,rfl⟩ F.entry_list_mul (F.args_list_mul_2 _ _) (AutoListH.list___mul___list_int_3 l its.toArray n k t hfit hcap hlong) ⟨e,?_⟩⟩)
 rw [hnew]
 exact ⟨.ref _,_,I.lnew (t':=s.toks) (r.rep k.toNat) (by rw [len_rep,Nat.mul_comm]; exact hz),rfl,q _ I.fresh⟩
end
section
variable {prog:Program} {w:World} {A:Around} {E:Value → Shared → Prop} {s:Shared}
end
section
variable {X:Cx}
end
end L2
namespace Att
open PySem PySem.W PySem.Calls PyProof.Rows
theorem Zeb {P:Params} {h:Heap}:∀ (ns:List Int) (vs:List Value),WellAll P h vs (ns.map WData.int) → IntsAre vs ns:=by
 intro ns
 induction ns with
 | nil=>
  intro vs w
  rw [List.map_nil] at w
  cases w
  exact .nil
 | cons n ns ih=>
  intro vs w
  rw [List.map_cons] at w
  cases w with
  | cons a b=>
   cases a
   exact .cons _ _ (ih _ b)
theorem Zhn {l:OpenLaw} {n:Nat} (hn:l.most = some n) {P:Params} {h:Heap} {args:List WData} {vals:List Value}
  (hpre:l.row.toRowW.claim.pre args = true) (hwl:WellAll P h vals args):
  ∃ a vs ns,vals = [Value.ref a] ∧ args = [WData.list (ns.map WData.int)] ∧ h.get? a = some { cls:=.type "list",data:=.seq vs.toArray } ∧ IntsAre vs ns ∧ ns.length ≤ n:=by
 have hsh:WShape.hasAll [] args [.list .int] = true:=(pre_splitW hpre).1
 have hc:l.pre.holds [] { args:=args } = true:=(pre_splitW hpre).2
 obtain ⟨d,r,rfl,h1,h2⟩:=hasAllW_cons hsh
 obtain rfl:=hasAllW_nil h2
 obtain ⟨xs,rfl,h3⟩:=hasW_list h1
 obtain ⟨ns,rfl⟩:=items_int h3
 have hlen:ns.length ≤ n:=by
  unfold OpenLaw.pre at hc
  have h4:(WTm.not (.lt (.lit (.int (n:Int))) (.len (.arg 0)))).holds [] { args:=[.list (ns.map .int)] } = true:=by
   have h4:=(holds_andW hc).1
   rw [hn] at h4
   exact h4
  have h5:=condW_of h4 (w_not (w_lt w_lit (w_len_list (w_arg rfl))))
  rw [List.length_map] at h5
  refine Nat.le_of_not_lt fun q=>?_
  have q':(n:Int) < ((ns.length:Nat):Int):=by exact Int.ofNat_lt.2 q
  first
   | (rw [decide_eq_true q'] at h5; exact absurd h5 (by decide))
   | (simp at h5; omega)
 cases hwl with
 | cons w1 w2=>
  cases w2
  cases w1 with
  | list ho hall=>exact ⟨_,_,ns,rfl,rfl,ho,Zeb ns _ hall,hlen⟩
theorem Zhx (l:OpenLaw) (args:List WData):l.row.toRowW.claim.post args (.bool true) args = true:=
 postW_of (r:=l.row.toRowW) (X:=(true == true))
  (show WShape.has [] (.bool true) .bool = true by first | rfl | decide | simp [WShape.has,WShape.arms,WShape.armsAll])
  (show (WTm.eq .res (.lit (.bool true))).value [] { args:=args,res:=some (.bool true),after:=args } = some (.bool (true == true)) from w_eq_bool (w_res rfl) w_lit) rfl
theorem attach_call {l:OpenLaw} {n:Nat} {q:Program} {loose:List Str} {XP:(Str → Option Value) → Heap → Prop} {YP:World → Heap → Prop} {d:DefRec}
  (hn:l.most = some n) (hdf:d.params.defaults = [])
  (call:∀ (w:World) (s₀ s₁:Shared) (mg mb:Str → Option Value) (fa:Addr) (o:Obj) (pm cd doc:Value) (a:Addr) (vs:List Value) (ns:List Int),
   Ground q loose [] XP w s₀ mg mb s₁.heap → YP w s₁.heap →
   s₁.heap.get? fa = some o → o.data = .func (docDef d.name d.params d.body d.scope pm cd doc) → s₁.heap.CodeRec cd d.name → mg d.name = some (.ref fa) →
   s₁.heap.get? a = some { cls:=.type "list",data:=.seq vs.toArray } → IntsAre vs ns → ns.length ≤ n → s₁.gens = #[] →
   codeAny (model l.prog w) callerA (.call (.ref fa) ⟨[.ref a],[]⟩) (fun r s'=>r = .ok (.ret (.bool true)) ∧ OldK s₁.heap s'.heap ∧ s'.os = s₁.os ∧ AllBare s'.gens) s₁):
  WalkO q loose XP YP l.row.toRowW d [] (fun f vs=>PySem.call f vs):=by
 intro w s₀ s₁ mg mb G Y fa o pm cd doc dV kV ho hd hcd hD hmg hg args vals as hpre hlay hrd hwl hlo
 obtain rfl:dV = .none:=Dflts.none hD hdf
 obtain rfl:kV = .none:=Dflts.noKw hD
 obtain ⟨a,vs,ns,rfl,rfl,hobj,hints,hlen⟩:=Zhn hn hpre hwl
 refine enter_call (codeAny_mono (call w s₀ s₁ mg mb fa o pm cd doc a vs ns G Y ho (fd_plain hd) hcd hmg hobj hints hlen hg) fun r s' hq=>?_)
 obtain ⟨rfl,h2,h3,h4⟩:=hq
 exact ⟨.inl ⟨.bool true,.bool true,[],rfl,fun _=>rfl,.bool true,Zhx l _,fun _=>⟨List.Pairwise.nil,fun _ hm=>(nomatch hm)⟩⟩,h2,h3,h4⟩
section
variable {prog:Program} {w:World} {A:Around} {E:Value → Shared → Prop} {s:Shared} {K:Frag}
end
end Att
namespace L2
open PySem PySem.Spec PyProof.Rows
theorem ZeZ:∀ {vs:List Value} {ns:List Int},IntsAre vs ns → Vals (ns.map V.int) vs
 | _,_,.nil=>.nil
 | _,_,.cons n t h=>.cons ⟨t,rfl⟩ (ZeZ h)
noncomputable def Only (H:Hp):Prop:=∀ b,H b = none ∨ ∃ o xs,H b = some (.frz o (.lst xs))
theorem Zit {P:Program} {w:World} {K:PySem.W.Frag} {mg mb:Str → Option Value} {CX:CXT} {k:Nat} {fa a:Addr} {fd:FuncData} {x:Str} {sp:Sp} {s₁:Shared} {vs:List Value} {ns:List Int}
  (KX:K.In s₁.heap) (hns:s₁.heap.Ns mainGlobals mg) (hb:s₁.heap.Ns builtinsNs mb) (hbb:∀ x:Str,x ≠ "__name__" → mb x = bootBuiltins x) (hlim:s₁.heap.NoLimit) (hg:s₁.gens = #[])
  (ha:s₁.heap.get? a = some { cls:=.type "list",data:=.seq vs.toArray }) (hi:IntsAre vs ns) (hl:ns.length ≤ sizeLine) (hr:ZaV k callerA)
  (F:∀ base:Heap,K.In base → base.Ns mainGlobals mg → ZbR P w K mg base CX k fa fd [x] sp) (hbind:∀ (s:Shared) (u:Value),BindsTo s fd ⟨[u],[]⟩ [(x,u)])
  (hsp:∀ H:Hp,Only H → SqL K H a (ns.map V.int) → sp [.ref a] H (fun v _=>v = .bl true) fun _ _ _=>False)
  (hCX:∀ H e s',CX [] H s₁ (fun _ _ _=>False) e s' → False):
  codeAny (model P w) callerA (.call (.ref fa) ⟨[.ref a],[]⟩) (fun r s'=>r = .ok (.ret (.bool true)) ∧ OldK s₁.heap s'.heap ∧ s'.os = s₁.os ∧ AllBare s'.gens) s₁:=by
 have rv:=ZeZ hi
 have lenV:=hi.length
 have core:∀ H:Hp,Only H → SqL K H a (ns.map V.int) → HOk P w H s₁.heap → (∀ b,H b ≠ none → b = a) → (H a ≠ none → K.lookup a = none) →
   codeAny (model P w) callerA (.call (.ref fa) ⟨[.ref a],[]⟩) (fun r s'=>r = .ok (.ret (.bool true)) ∧ OldK s₁.heap s'.heap ∧ s'.os = s₁.os ∧ AllBare s'.gens) s₁:=by
  intro H hO hS hok hA hK
  have base_of:∀ {b:Addr} {o:Obj},s₁.heap.get? b = some o → H b = none → (Zfx s₁.heap H).get? b = some o:=fun e n=>ZiS e n
  have noA:∀ {b:Addr} {o:Obj} {es:Array DictEntry} {ep:Nat},s₁.heap.get? b = some o → o.data = .dict es ep → H b = none:=fun {b o es ep} e d=>by
   cases q:H b with
   | none=>rfl
   | some u=>
    have e':b = a:=hA b (by rw [q]; simp)
    subst e'
    rw [ha] at e; cases e
    have d':Data.seq vs.toArray _ = Data.dict es ep:=d
    cases d'
  have nsK:∀ {b:Addr} {m:Str → Option Value},s₁.heap.Ns b m → (Zfx s₁.heap H).Ns b m:=fun {b m} ⟨o,es,ep,e,d,r⟩=>⟨o,es,ep,base_of e (noA e d),d,r⟩
  have hKb:K.In (Zfx s₁.heap H):=fun b o e=>base_of (KX b o e) (by
   cases q:H b with
   | none=>rfl
   | some u=>
    have e':b = a:=hA b (by rw [q]; simp)
    subst e'
    rw [hK (by rw [q]; simp)] at e; cases e)
  have hM:Mod K mg (Zfx s₁.heap H):=⟨hKb,nsK hns,⟨mb,nsK hb,hbb⟩,let ⟨mc,h1,h2⟩:=hlim; ⟨mc,nsK h1,h2⟩⟩
  have e0:ZeT P w K mg (Zfx s₁.heap H) callerA [] s₁ H:=⟨rfl,hM,fun b o e=>ZjZ e,Nat.le_of_eq (Zhp _ _),trivial,fun b hb=>absurd (show b ∈ ([]:List Addr) from hb) (by simp),hok,.of_eq hg⟩
  refine codeAny_mono ((F _ hKb (nsK hns)).run callerA [] s₁ H ⟨[.ref a],[]⟩ [.ref a] [.ref a] _ _ hr e0 (hbind s₁ (.ref a)) (.cons rfl .nil) (hsp H hO hS)) fun r s' h=>?_
  cases r with
  | error e=>exact (hCX H e s' h).elim
  | ok fl=>
   cases fl with
   | next=>exact False.elim h
   | brk=>exact False.elim h
   | cont=>exact False.elim h
   | ret u=>
    obtain ⟨v,H',os,bare,un,hok',r',q⟩:=h
    have q':v = .bl true:=q
    subst q'
    obtain rfl:u = Value.bool true:=r'
    refine ⟨rfl,OldK.of_keep fun b o e=>?_,os,bare⟩
    cases q:H b with
    | none=>exact un.keep b o e q (by intro z; exact absurd (show b ∈ ([]:List Addr) from z) (by simp)) (by simp)
    | some u=>
     rcases hO b with z | ⟨ob,xs,z⟩
     ·rw [q] at z; cases z
     ·have z2:=un.frzs b ob _ z
      obtain ⟨e1,_⟩:=hok b _ z
      obtain ⟨e2,_⟩:=hok' b _ z2
      rw [e] at e1; cases e1
      exact e2
 cases hk:K.lookup a with
 | some o=>
  have e:=KX a o hk
  rw [ha] at e
  cases e
  refine core (fun _=>none) (fun _=>.inl rfl) (.inr ⟨_,vs.toArray,_,hk,rfl,rfl,rfl,by rw [List.size_toArray,lenV]; exact hl,by simpa using rv⟩) (fun b u z=>by have z':(none:Option HO) = some u:=z; cases z') (fun b z=>absurd rfl z) fun z=>absurd rfl z
 | none=>
  refine core (fun b=>if b = a then some (.frz { cls:=.type "list",data:=.seq vs.toArray } (.lst (ns.map V.int))) else none) (fun b=>?_) (.inl (.inr ⟨{ cls:=.type "list",data:=.seq vs.toArray },if_pos rfl⟩)) (fun b u z=>?_) (fun b z=>?_) fun _=>hk
  ·by_cases hb:b = a
   ·exact .inr ⟨_,_,if_pos hb⟩
   ·exact .inl (if_neg hb)
  ·by_cases hb:b = a
   ·have z':=(if_pos hb).symm.trans z
    cases z'
    subst hb
    exact ⟨ha,by rw [List.length_map]; exact hl,vs,_,rv,ha⟩
   ·have z':=(if_neg hb).symm.trans z
    cases z'
  ·by_cases hb:b = a
   ·exact hb
   ·exact absurd (if_neg hb) z
end L2
namespace L2
open PySem PySem.Spec PyProof.Rows
theorem Zhd {l:PySem.W.OpenLaw} {n k:Nat} {q:Program} {loose:List Str} {XP:(Str → Option Value) → Heap → Prop} {YP:World → Heap → Prop} {d:DefRec} {K:Params → PySem.W.Frag} {CX:World → CXT} {sp:World → Sp} {x:Str}
  (hn:l.most = some n) (hn2:n ≤ sizeLine) (hdf:d.params.defaults = []) (hr:ZaV k callerA)
  (hY:∀ (w:World) (h:Heap),YP w h → (K w.params).In h)
  (F:∀ (w:World) (mg:Str → Option Value) (fa:Addr) (h:Heap),(K w.params).In h → h.Ns mainGlobals mg → mg d.name = some (.ref fa) →
   ∃ fd:FuncData,(∀ (s:Shared) (u:Value),BindsTo s fd ⟨[u],[]⟩ [(x,u)]) ∧
    ∀ base:Heap,(K w.params).In base → base.Ns mainGlobals mg → ZbR l.prog w (K w.params) mg base (CX w) k fa fd [x] (sp w))
  (hsp:∀ (w:World) (H:Hp) (a:Addr) (ns:List Int),ns.length ≤ n → Only H → SqL (K w.params) H a (ns.map V.int) → sp w [.ref a] H (fun v _=>v = .bl true) fun _ _ _=>False)
  (hCX:∀ (w:World) (H:Hp) (s:Shared) (e:Value) (s':Shared),CX w [] H s (fun _ _ _=>False) e s' → False):
  PySem.W.WalkO q loose XP YP l.row.toRowW d [] (fun f vs=>PySem.call f vs):=by
 refine Att.attach_call hn hdf fun w s₀ s₁ mg mb fa o pm cd doc a vs ns G Y ho hd hcd hmg hobj hints hlen hg=>?_
 have KX:=hY w _ Y
 obtain ⟨fd,hb,hF⟩:=F w mg fa _ KX G.T.g hmg
 exact Zit KX G.T.g G.T.b G.T.builtins G.T.nolimit hg hobj hints (Nat.le_trans hlen hn2) hr hF hb (fun H hO hS=>hsp w H a ns hlen hO hS) fun H e s'=>hCX w H s₁ e s'
end L2
/- THE LAST THEOREM (shape; LID,My.* are yours):
  My.Adr: a structure of the addresses that your layer names (classes,functions); My.Txt K t: a structure (Prop) of the equations over K;
  My.txt_mk:{K} {implicit addresses ..} (e1:nsIn K mainGlobals "law" = some (some (.ref f))) (e2:K.lookup f = some ⟨oc,od,.func (fnOf "law" "law" params body scope dV kV doc pm an cdv ct),sl⟩) (e3:codeIn K cdv "law" = true) ..:∃ t,My.Txt K t
set_option maxRecDepth 100000 in
set_option maxHeartbeats 0 in
theorem PySem.Challenge.cw_LID_holds : PySem.Challenge.rw_LID.Holds := by
 w_on; o_law; k_head; (case hw=>w_witness2)
 k_fill
 refine L2.Zhd (l:=PySem.Challenge.rw_LID) (n:=63) (k:=40) (x:="script") (CX:=fun w=>..) (sp:=fun _=>My.sp_law) rfl (by decide) rfl ⟨rfl,by decide,by decide⟩ (fun w h Y=>PySem.W.kIn_of Y) ?F ?S ?C
 case F=>
  intro w mg fa h KX G hmg
  have T:∃ t,My.Txt (L2.KOf KX) t:=by
   dsimp only [L2.KOf]                          -- K must stand as «<heap const> w.params» for k_is
   refine' My.txt_mk ?e1 ?e2 ?e3 ..
   (case e1=>PySem.W.k_is)                    -- in the order: a name -> its address -> its object -> its parts
   (case e2=>PySem.W.k_is)
   ..
  obtain ⟨t,T⟩:=T
  have e0:=hmg.symm.trans (PySem.W.mg_of KX G T.law)
  cases e0                                       -- fa is the law's own address
  exact ⟨_,fun s u=>.of_eq rfl,fun base kb nb=>My.law_fn T kb nb⟩     -- if «.of_eq rfl» comes too early: refine' ⟨_,?b,fun base kb nb=>My.law_fn T kb nb⟩; exact fun s u=>.of_eq rfl
 case S=>exact fun w H a ns hl hO hS=>..
 case C=>exact ..
(the tactic k_is has no namespace: write k_is) -/
namespace L2
open PySem PySem.Spec PyProof.Rows
noncomputable def Zas (s:Stmt):Arguments:=match s with
 | .FunctionDef _ a _ _ _ _ _ _ _ _=>a
 | _=>{ posonlyargs:=[],args:=[],vararg:=none,kwonlyargs:=[],kw_defaults:=[],kwarg:=none,defaults:=[] }
noncomputable def Zai (s:Stmt):List Stmt:=match s with
 | .FunctionDef _ _ b _ _ _ _ _ _ _=>b
 | _=>[]
noncomputable def Zg (s:Stmt):Scope:=match s with
 | .FunctionDef _ _ _ _ _ _ sc _ _ _=>sc
 | _=>{ kind:=.function,names:=[],isGenerator:=false,isCoroutine:=false }
noncomputable abbrev CX0:CXT:=fun _ _ _ _ _ _=>False
noncomputable abbrev E0:XK:=fun _ _ _=>False
theorem ZgQ {X:Cx}:Zdo CX0 X E0:=fun _ _ _ _ _ _ _ h=>h.elim
structure Fun (K:PySem.W.Frag) (x qual:Str) (st:Stmt) (f:Addr) (fd:FuncData):Prop where
 ex:∃ (oc:Value) (od:Option Addr) (dV kV doc pm:Value) (an:Option Addr) (cdv ct:Value) (osl:Array (Option Value)),
  fd = PySem.W.fnOf x qual (Zas st) (Zai st) (Zg st) dV kV doc pm an cdv ct ∧ K.lookup f = some ⟨oc,od,.func fd,osl⟩ ∧ PySem.W.codeIn K cdv qual = true
 kp:PySem.W.keepIn K (.ref f) = true
section
variable {P:Program} {w:World} {K:PySem.W.Frag} {mg:Str → Option Value} {base:Heap}
theorem Fun.ok {x qual:Str} {st:Stmt} {f:Addr} {fd:FuncData} {N ps:List Str} {k:Nat} {sp:Sp} (F:Fun K x qual st f fd) (S:Zaz N ps (Zg st)) (len:∀ vs H Q E,sp vs H Q E → vs.length = ps.length)
  (hbody:∀ (cdv:Value) (A:Around) (outer:List Env) (s:Shared) (H:Hp) (vs:List V) (Q:VK) (E:XK),ZaV k (A.deeper (envOfC qual (Zg st) s.heap.objs.size f cdv)) → sp vs H Q E →
   ∃ t,PSs (ZdV CX0 P w K mg base N qual (Zg st) f cdv A outer s H E).nox (Zai st) t ∧ t { nx:=fun _ H'=>Q .non H',rt:=Q } (start N vs) H):ZbR P w K mg base CX0 (k + 1) f fd ps sp:=by
 obtain ⟨oc,od,dV,kV,doc,pm,an,cdv,ct,osl,rfl,lk,hcd⟩:=F.ex
 refine ZkB lk hcd S len fun A outer s H vs Q E hr hsp=>?_
 obtain ⟨t,h,q⟩:=hbody cdv A outer s H vs Q E hr hsp
 exact ⟨t,h.nox,q⟩
theorem Fun.binds {x qual:Str} {st:Stmt} {f:Addr} {fd:FuncData} {ps:List Str} (F:Fun K x qual st f fd)
  (h:∀ (dV kV doc pm:Value) (an:Option Addr) (cdv ct:Value) (us:List Value),us.length = ps.length → bindArgs (PySem.W.fnOf x qual (Zas st) (Zai st) (Zg st) dV kV doc pm an cdv ct) ⟨us,[]⟩ = pure (ps.zip us)):Binds K fd ps []:=by
 obtain ⟨oc,od,dV,kV,doc,pm,an,cdv,ct,osl,rfl,lk,hcd⟩:=F.ex
 exact .all (h dV kV doc pm an cdv ct)
theorem Zh0 {x qual:Str} {st:Stmt} {f:Addr} {oc:Value} {od an:Option Addr} {osl:Array (Option Value)} {dV kV doc pm cdv ct:Value} (l:K.lookup f = some ⟨oc,od,.func (PySem.W.fnOf x qual (Zas st) (Zai st) (Zg st) dV kV doc pm an cdv ct),osl⟩)
  (c:PySem.W.codeIn K cdv qual = true) (k:PySem.W.keepIn K (.ref f) = true):Fun K x qual st f (PySem.W.fnOf x qual (Zas st) (Zai st) (Zg st) dV kV doc pm an cdv ct):=⟨⟨oc,od,dV,kV,doc,pm,an,cdv,ct,osl,rfl,l,c⟩,k⟩
end
section
variable {X:Cx}
end
noncomputable def Zf6 (H H':Hp):Prop:=∀ b o,H b = some o → H' b = some o
theorem Zf6.trans {H H1 H2:Hp} (a:Zf6 H H1) (b:Zf6 H1 H2):Zf6 H H2:=fun c o h=>b c o (a c o h)
theorem Zf6.free {H H':Hp} (e:Zf6 H H') {l:Addr} (h:H' l = Option.none):H l = Option.none:=by
 cases q:H l with
 | none=>rfl
 | some o=>
  rw [e l o q] at h
  cases h
theorem Zf6.seq {K:PySem.W.Frag} {H H':Hp} {a:Addr} {xs:List V} (e:Zf6 H H') (h:SqL K H a xs):SqL K H' a xs:=by
 rcases h with (h | ⟨o,h⟩) | h
 ·exact .inl (.inl (e _ _ h))
 ·exact .inl (.inr ⟨o,e _ _ h⟩)
 ·exact .inr h
end L2
namespace L2
open PySem PySem.Spec PyProof.Rows
section
variable {κ:Type} [DecidableEq κ]
noncomputable def Zdt (kvs:List (κ × V)) (k:κ):Option V:=(kvs.find? fun kv=>decide (kv.1 = k)).map (·.2)
noncomputable def putK (kvs:List (κ × V)) (k:κ) (v:V):List (κ × V):=
 if (kvs.any fun kv=>decide (kv.1 = k)) = true then kvs.map (fun kv=>if kv.1 = k then (kv.1,v) else kv) else kvs ++ [(k,v)]
noncomputable def Zkr (kvs:List (κ × V)) (k:κ):List (κ × V):=kvs.filter fun kv=>decide (kv.1 ≠ k)
theorem ZiN {k:κ}:Zdt ([]:List (κ × V)) k = none:=rfl
theorem ZdC {p:κ × V} {r:List (κ × V)} {k:κ} (e:p.1 = k):Zdt (p :: r) k = some p.2:=by simp [Zdt,List.find?_cons,e]
theorem ZdH {p:κ × V} {r:List (κ × V)} {k:κ} (e:¬ p.1 = k):Zdt (p :: r) k = Zdt r k:=by simp [Zdt,List.find?_cons,e]
theorem ZfX (k:κ):∀ kvs:List (κ × V),(kvs.any fun kv=>decide (kv.1 = k)) = (Zdt kvs k).isSome
 | []=>rfl
 | p :: r=>by
  rw [List.any_cons]
  by_cases e:p.1 = k
  ·simp only [ZdC e,decide_eq_true e,Bool.true_or,Option.isSome_some]
  ·rw [ZdH e,decide_eq_false e,Bool.false_or]; exact ZfX k r
theorem Zc6.isSome_eq {o:Option V} {u:Option Value} (r:Zc6 o u):o.isSome = u.isSome:=by
 cases o with
 | none=>cases u with
  | none=>rfl
  | some _=>exact (show False from r).elim
 | some _=>cases u with
  | none=>exact (show False from r).elim
  | some _=>rfl
theorem Zc6.getD {o:Option V} {u:Option Value} {d:V} {d':Value} (r:Zc6 o u) (rd:RelV d d'):RelV (o.getD d) (u.getD d'):=by
 cases o with
 | none=>cases u with
  | none=>exact rd
  | some _=>exact (show False from r).elim
 | some _=>cases u with
  | none=>exact (show False from r).elim
  | some _=>exact r
theorem KV.val {kvs:List (κ × V)} {vs:List (κ × Value)} (r:KV kvs vs) (k:κ):Zc6 (Zdt kvs k) (valueAt vs k):=by
 unfold KV at r
 induction r with
 | nil=>exact True.intro
 | @cons p q ps qs h t ih=>
  obtain ⟨h1,h2⟩:=h
  by_cases e:p.1 = k
  ·have e':q.1 = k:=h1.symm.trans e
   have b:valueAt (q :: qs) k = some q.2:=by simp [valueAt,List.find?_cons,e']
   rw [ZdC e,b]; exact h2
  ·have e':¬ q.1 = k:=fun z=>e (h1.trans z)
   have b:valueAt (q :: qs) k = valueAt qs k:=by simp [valueAt,List.find?_cons,e']
   rw [ZdH e,b]; exact ih
theorem KV.any {kvs:List (κ × V)} {vs:List (κ × Value)} (r:KV kvs vs) (k:κ):(kvs.any fun kv=>decide (kv.1 = k)) = vs.any fun kv=>decide (kv.1 = k):=by
 unfold KV at r
 induction r with
 | nil=>rfl
 | cons h t ih=>rw [List.any_cons,List.any_cons,ih,h.1]
theorem KV.repl {kvs:List (κ × V)} {vs:List (κ × Value)} (r:KV kvs vs) (k:κ) {y:V} {u:Value} (ry:RelV y u):
  KV (kvs.map fun kv=>if kv.1 = k then (kv.1,y) else kv) (vs.map fun kv=>if kv.1 = k then (kv.1,u) else kv):=by
 unfold KV at r ⊢
 induction r with
 | nil=>exact .nil
 | @cons p q ps qs h t ih=>
  rw [List.map_cons,List.map_cons]
  refine .cons ?_ ih
  obtain ⟨h1,h2⟩:=h
  by_cases e:p.1 = k
  ·rw [if_pos e,if_pos (h1.symm.trans e)]; exact ⟨h1,ry⟩
  ·rw [if_neg e,if_neg (fun z=>e (h1.trans z))]; exact ⟨h1,h2⟩
theorem KV.put {kvs:List (κ × V)} {vs:List (κ × Value)} (r:KV kvs vs) (k:κ) {y:V} {u:Value} (ry:RelV y u):KV (putK kvs k y) (stored vs k u):=by
 unfold putK stored
 rw [r.any k]
 by_cases e:(vs.any fun kv=>decide (kv.1 = k)) = true
 ·rw [if_pos e,if_pos e]; exact r.repl k ry
 ·rw [if_neg e,if_neg e]; exact Paired.snoc r ⟨rfl,ry⟩
theorem KV.drop {kvs:List (κ × V)} {vs:List (κ × Value)} (r:KV kvs vs) (k:κ):KV (Zkr kvs k) (without vs k):=by
 unfold KV at r ⊢
 unfold Zkr without
 induction r with
 | nil=>exact .nil
 | @cons p q ps qs h t ih=>
  obtain ⟨h1,h2⟩:=h
  rw [List.filter_cons,List.filter_cons]
  by_cases e:p.1 = k
  ·have a:¬ decide (p.1 ≠ k) = true:=by simp [e]
   have b:¬ decide (q.1 ≠ k) = true:=by simp [h1.symm.trans e]
   rw [if_neg a,if_neg b]; exact ih
  ·have e':¬ q.1 = k:=fun z=>e (h1.trans z)
   have a:decide (p.1 ≠ k) = true:=by simp [e]
   have b:decide (q.1 ≠ k) = true:=by simp [e']
   rw [if_pos a,if_pos b]; exact .cons ⟨h1,h2⟩ ih
theorem KV.length {kvs:List (κ × V)} {vs:List (κ × Value)} (r:KV kvs vs):kvs.length = vs.length:=Paired.length r
end
noncomputable abbrev KT (H:Hp):List (List Key × V) → List (List Key × Addr × Value) → Prop:=Paired fun p q=>p.1 = q.1 ∧ H q.2.1 = some (.tup (p.1.map kV)) ∧ RelV p.2 q.2.2
theorem KT.val {H:Hp} {kvs:List (List Key × V)} {xs:List (List Key × Addr × Value)} (r:KT H kvs xs) (k:List Key):Zc6 (Zdt kvs k) ((atKey xs k).map (·.2)):=by
 induction r with
 | nil=>exact True.intro
 | @cons p q ps qs h t ih=>
  obtain ⟨h1,_,h2⟩:=h
  by_cases e:p.1 = k
  ·have e':q.1 = k:=h1.symm.trans e
   have b:atKey (q :: qs) k = some q.2:=by simp [atKey,List.find?_cons,e']
   rw [ZdC e,b]; exact h2
  ·have e':¬ q.1 = k:=fun z=>e (h1.trans z)
   have b:atKey (q :: qs) k = atKey qs k:=by simp [atKey,List.find?_cons,e']
   rw [ZdH e,b]; exact ih
theorem KT.repl {H:Hp} {kvs:List (List Key × V)} {xs:List (List Key × Addr × Value)} (r:KT H kvs xs) (k:List Key) {y:V} {u:Value} (ry:RelV y u):
  KT H (kvs.map fun kv=>if kv.1 = k then (kv.1,y) else kv) (xs.map (putAt k u)):=by
 induction r with
 | nil=>exact .nil
 | @cons p q ps qs h t ih=>
  rw [List.map_cons,List.map_cons]
  refine .cons ?_ ih
  obtain ⟨h1,h2,h3⟩:=h
  unfold putAt
  by_cases e:p.1 = k
  ·rw [if_pos e,if_pos (h1.symm.trans e)]; exact ⟨h1,h2,ry⟩
  ·rw [if_neg e,if_neg (fun z=>e (h1.trans z))]; exact ⟨h1,h2,h3⟩
theorem KT.put {H:Hp} {kvs:List (List Key × V)} {xs:List (List Key × Addr × Value)} (r:KT H kvs xs) (k:List Key) {b:Addr} {y:V} {u:Value} (hb:H b = some (.tup (k.map kV))) (ry:RelV y u):
  KT H (putK kvs k y) (storedH xs k b u):=by
 have e:(kvs.any fun kv=>decide (kv.1 = k)) = (atKey xs k).isSome:=by
  rw [ZfX,(r.val k).isSome_eq,Option.isSome_map]
 unfold putK storedH
 rw [e]
 by_cases q:(atKey xs k).isSome = true
 ·rw [if_pos q,if_pos q]; exact r.repl k ry
 ·rw [if_neg q,if_neg q]; exact Paired.snoc r ⟨rfl,hb,ry⟩
theorem KT.keeps {H H':Hp} {kvs:List (List Key × V)} {xs:List (List Key × Addr × Value)} (r:KT H kvs xs) (ht:∀ b ys,H b = some (.tup ys) → H' b = some (.tup ys)):KT H' kvs xs:=
 Paired.mapP r fun _ _ z=>⟨z.1,ht _ _ z.2.1,z.2.2⟩
section
variable {P:Program} {w:World} {H:Hp} {h:Heap} {a:Addr}
end
noncomputable def Zjl (H:Hp) (a:Addr) (y:V) (r:Option V):Prop:=
 (∃ kvs k,Rd H a (.dK kvs) ∧ y = kV k ∧ r = Zdt kvs k) ∨ ∃ kvs k b,Rd H a (.dT kvs) ∧ y = .ref b ∧ H b = some (.tup (k.map kV)) ∧ r = Zdt kvs k
noncomputable def ZjI (H:Hp) (a:Addr) (y v:V) (H':Hp):Prop:=
 (∃ kvs k,H a = some (.dK kvs) ∧ y = kV k ∧ kvs.length < sizeLine ∧ H' = upd H a (.dK (putK kvs k v))) ∨
 ∃ kvs k b,H a = some (.dT kvs) ∧ y = .ref b ∧ H b = some (.tup (k.map kV)) ∧ kvs.length < sizeLine ∧ H' = upd H a (.dT (putK kvs k v))
theorem Zjl.k {H:Hp} {a:Addr} {kvs:List (Key × V)} {k:Key} (e:H a = some (.dK kvs)):Zjl H a (kV k) (Zdt kvs k):=.inl ⟨kvs,k,.inl e,rfl,rfl⟩
theorem Zjl.t {H:Hp} {a b:Addr} {kvs:List (List Key × V)} {k:List Key} (e:H a = some (.dT kvs)) (eb:H b = some (.tup (k.map kV))):Zjl H a (.ref b) (Zdt kvs k):=.inr ⟨kvs,k,b,.inl e,rfl,eb,rfl⟩
theorem ZjI.k {H:Hp} {a:Addr} {kvs:List (Key × V)} {k:Key} {v:V} (e:H a = some (.dK kvs)) (hl:kvs.length < sizeLine):ZjI H a (kV k) v (upd H a (.dK (putK kvs k v))):=.inl ⟨kvs,k,e,rfl,hl,rfl⟩
theorem ZjI.t {H:Hp} {a b:Addr} {kvs:List (List Key × V)} {k:List Key} {v:V} (e:H a = some (.dT kvs)) (eb:H b = some (.tup (k.map kV))) (hl:kvs.length < sizeLine):
  ZjI H a (.ref b) v (upd H a (.dT (putK kvs k v))):=.inr ⟨kvs,k,b,e,rfl,eb,hl,rfl⟩
section
variable {X:Cx} {pins:List (Addr × Obj)} {σ:St} {H:Hp} {s:Shared} {a:Addr} {y v:V} {u r:Value} {o:Option V} {A:Around} {E:Value → Shared → Prop}
end
section
variable {X:Cx} {pins:List (Addr × Obj)} {σ:St} {H:Hp} {s:Shared} {a:Addr} {kvs:List (Key × V)} {k:Key} {u:Value} {A:Around} {E:Value → Shared → Prop}
end
section
variable {X:Cx} {o i e value:Expr} {pos pos' tpos:Pos} {td ty tv:TE}
end
section
variable {X:Cx} {pos:Pos}
end
structure M1 (X:Cx) (o:Expr) (m:Str) (apos:Pos) (e:Expr) (cpos:Pos):Prop where
 base:attributeBase o m X.env (eval o X.env) = eval o X.env
 few:((backTo cpos (starEach [e] X.env)).all (fun x=>!x.1) && (backToKw cpos (keywordEach [] X.env)).all (fun x=>x.1.isSome)
  && decide (([e]:List Expr).length + ([]:List Keyword).length + (if ([]:List Keyword).isEmpty then 0 else 1) < 30)) = true
 line:(apos.endLine == cpos.line) = true
 trees:backTo cpos (starEach [e] X.env) = [(false,eval e X.env)]
structure M2 (X:Cx) (o:Expr) (m:Str) (apos:Pos) (e f:Expr) (cpos:Pos):Prop where
 base:attributeBase o m X.env (eval o X.env) = eval o X.env
 few:((backTo cpos (starEach [e,f] X.env)).all (fun x=>!x.1) && (backToKw cpos (keywordEach [] X.env)).all (fun x=>x.1.isSome)
  && decide (([e,f]:List Expr).length + ([]:List Keyword).length + (if ([]:List Keyword).isEmpty then 0 else 1) < 30)) = true
 line:(apos.endLine == cpos.line) = true
 trees:backTo cpos (starEach [e,f] X.env) = [(false,eval e X.env),(false,eval f X.env)]
section
variable {X:Cx} {pins:List (Addr × Obj)} {σ:St} {H:Hp} {s:Shared} {a:Addr} {y d:V} {u r:Value} {o:Option V} {A:Around} {E:Value → Shared → Prop}
end
section
variable {X:Cx} {o e f:Expr} {apos cpos:Pos} {td ty tx:TE}
end
section
variable {X:Cx} {pins:List (Addr × Obj)} {σ:St} {H:Hp} {s:Shared} {a:Addr} {kvs:List (Key × V)} {A:Around} {E:Value → Shared → Prop}
end
section
variable {X:Cx} {pins:List (Addr × Obj)} {σ:St} {H:Hp} {s:Shared} {a:Addr} {y:V} {u:Value} {A:Around} {E:Value → Shared → Prop}
end
end L2
namespace L3
open PySem
noncomputable section
inductive D where
 | non | bl (b:Bool) | int (i:Int) | str (x:List Nat) | tup (ds:List D) | scr (ds:List D) | ref (n:Nat)
 deriving Inhabited
noncomputable abbrev ZbO:=Sum Int (List Nat)
inductive MO where
 | lst (xs:List D) | dct (kvs:List (ZbO × D)) | fdct (kvs:List (ZbO × D)) | ins (c:List Nat) (fs:List (List Nat × D))
 deriving Inhabited
noncomputable abbrev Store:=List MO
structure X3 where
 cls:List Nat
 arg:D
inductive R3 (α:Type) where
 | ok (a:α) (M:Store) | exc (x:X3) (M:Store) | bad
@[simp] noncomputable def R3.bind {α β:Type} (r:R3 α) (k:α → Store → R3 β):R3 β:=match r with
 | .ok a M=>k a M
 | .exc x M=>.exc x M
 | .bad=>.bad
theorem R3.bind_ok {α β:Type} (a:α) (M:Store) (k:α → Store → R3 β):(R3.ok a M).bind k = k a M:=rfl
noncomputable def Zao:Nat → D → Bool
 | _,.non=>true | _,.bl _=>true | _,.int _=>true | _,.str _=>true
 | n + 1,.tup ds=>ds.all (Zao n)
 | _,_=>false
noncomputable abbrev DEEP:Nat:=60
mutual
noncomputable def deq:D → D → Bool
 | .non,.non=>true
 | .bl a,.bl b=>a == b
 | .int a,.int b=>a == b
 | .str a,.str b=>a == b
 | .tup a,.tup b=>ZbN a b
 | .bl a,.int b=>(if a then 1 else 0) == b
 | .int a,.bl b=>a == (if b then 1 else 0)
 | _,_=>false
noncomputable def ZbN:List D → List D → Bool
 | [],[]=>true
 | a :: x,b :: y=>deq a b && ZbN x y
 | _,_=>false
end
mutual
noncomputable def below (n:Nat):D → Bool
 | .tup ds=>belowL n ds
 | .scr ds=>belowL n ds
 | .ref k=>k < n
 | .non=>true | .bl _=>true | .int _=>true | .str _=>true
noncomputable def belowL (n:Nat):List D → Bool
 | []=>true
 | d :: ds=>below n d && belowL n ds
end
mutual
noncomputable def same:D → D → Bool
 | .non,.non=>true
 | .bl a,.bl b=>a == b
 | .int a,.int b=>a == b
 | .str a,.str b=>a == b
 | .tup a,.tup b=>ZeL a b
 | .scr a,.scr b=>ZeL a b
 | .ref a,.ref b=>a == b
 | _,_=>false
noncomputable def ZeL:List D → List D → Bool
 | [],[]=>true
 | a :: x,b :: y=>same a b && ZeL x y
 | _,_=>false
end
mutual
theorem same_iff:∀ {a b:D},same a b = true ↔ a = b
 | .non,b=>by cases b <;> simp [same]
 | .bl a,b=>by cases b <;> simp [same]
 | .int a,b=>by cases b <;> simp [same]
 | .str a,b=>by cases b <;> simp [same]
 | .tup a,b=>by cases b <;> simp [same,ZdX (x:=a)]
 | .scr a,b=>by cases b <;> simp [same,ZdX (x:=a)]
 | .ref a,b=>by cases b <;> simp [same]
theorem ZdX:∀ {x y:List D},ZeL x y = true ↔ x = y
 | [],y=>by cases y <;> simp [ZeL]
 | a :: x,y=>by
  cases y with
  | nil=>simp [ZeL]
  | cons b y=>simp [ZeL,same_iff (a:=a),ZdX (x:=x)]
end
noncomputable instance:DecidableEq D:=fun a b=>decidable_of_iff (same a b = true) same_iff
noncomputable instance:DecidableEq MO:=fun a b=>match a,b with
 | .lst x,.lst y=>if h:x = y then isTrue (by rw [h]) else isFalse (by intro e; cases e; exact h rfl)
 | .dct x,.dct y=>if h:x = y then isTrue (by rw [h]) else isFalse (by intro e; cases e; exact h rfl)
 | .fdct x,.fdct y=>if h:x = y then isTrue (by rw [h]) else isFalse (by intro e; cases e; exact h rfl)
 | .ins c x,.ins d y=>if h:c = d ∧ x = y then isTrue (by rw [h.1,h.2]) else isFalse (by intro e; cases e; exact h ⟨rfl,rfl⟩)
 | .ins _ _,.lst _=>isFalse (by intro e; cases e)
 | .ins _ _,.dct _=>isFalse (by intro e; cases e)
 | .ins _ _,.fdct _=>isFalse (by intro e; cases e)
 | .lst _,.ins _ _=>isFalse (by intro e; cases e)
 | .dct _,.ins _ _=>isFalse (by intro e; cases e)
 | .fdct _,.ins _ _=>isFalse (by intro e; cases e)
 | .lst _,.dct _=>isFalse (by intro e; cases e)
 | .lst _,.fdct _=>isFalse (by intro e; cases e)
 | .dct _,.lst _=>isFalse (by intro e; cases e)
 | .dct _,.fdct _=>isFalse (by intro e; cases e)
 | .fdct _,.lst _=>isFalse (by intro e; cases e)
 | .fdct _,.dct _=>isFalse (by intro e; cases e)
@[simp] noncomputable abbrev SZ:Nat:=1000000
noncomputable abbrev Zz:=List (Option D)
noncomputable abbrev E3:=Zz → Store → R3 D
noncomputable abbrev EL3:=Zz → Store → R3 (List D)
noncomputable abbrev F3:=List D → Store → R3 D
inductive O3 where
 | nx (env:Zz) (M:Store) | rt (d:D) (M:Store) | bk (env:Zz) (M:Store) | ct (env:Zz) (M:Store) | exc (x:X3) (M:Store) | bad
noncomputable abbrev S3:=Zz → Store → O3
@[simp] noncomputable def Zb (i:Nat):E3:=fun env M=>match env[i]? with
 | some (some d)=>.ok d M
 | _=>.bad
@[simp] noncomputable def eC (d:D):E3:=fun _ M=>.ok d M
@[simp] noncomputable def e1 (op:D → Store → R3 D) (f:E3):E3:=fun env M=>(f env M).bind op
@[simp] noncomputable def e2 (op:D → D → Store → R3 D) (f g:E3):E3:=fun env M=>(f env M).bind fun a M1=>(g env M1).bind fun b M2=>op a b M2
@[simp] noncomputable def Ze:EL3:=fun _ M=>.ok [] M
@[simp] noncomputable def Za (f:E3) (g:EL3):EL3:=fun env M=>(f env M).bind fun a M1=>(g env M1).bind fun b M2=>.ok (a :: b) M2
@[simp] noncomputable def alloc (o:MO) (M:Store):R3 D:=.ok (.ref M.length) (M ++ [o])
section
local instance (priority:=100000) clP1 (p:Prop):Decidable p:=Classical.propDecidable p
@[simp] noncomputable def ZcI (g:EL3):E3:=fun env M=>(g env M).bind fun ds M1=>if ds.length ≤ SZ then .ok (.tup ds) M1 else .bad
end
section
local instance (priority:=100000) clP2 (p:Prop):Decidable p:=Classical.propDecidable p
@[simp] noncomputable def ZaT (g:EL3):E3:=fun env M=>(g env M).bind fun ds M1=>if ds.length ≤ SZ then alloc (.lst ds) M1 else .bad
end
@[simp] noncomputable def ZcA (f g:E3):E3:=fun env M=>(f env M).bind fun a M1=>match a with
 | .bl true=>g env M1
 | .bl false=>.ok (.bl false) M1
 | _=>.bad
@[simp] noncomputable def eOr (f g:E3):E3:=fun env M=>(f env M).bind fun a M1=>match a with
 | .bl false=>g env M1
 | .bl true=>.ok (.bl true) M1
 | _=>.bad
@[simp] noncomputable def ZaM (a:D) (M:Store):R3 D:=match a with
 | .bl b=>.ok (.bl (!b)) M
 | _=>.bad
@[simp] noncomputable def Zaa (F:F3) (g:EL3):E3:=fun env M=>(g env M).bind fun ds M1=>F ds M1
section
local instance (priority:=100000) clP3 (p:Prop):Decidable p:=Classical.propDecidable p
@[simp] noncomputable def Zcb (a b:D) (M:Store):R3 D:=match a,b with
 | .int i,.int j=>.ok (.int (i + j)) M
 | .str x,.str y=>if x.length + y.length ≤ SZ then .ok (.str (x ++ y)) M else .bad
 | .tup x,.tup y=>if x.length + y.length ≤ SZ then .ok (.tup (x ++ y)) M else .bad
 | .ref n,.ref m=>match M[n]?,M[m]? with
  | some (.lst x),some (.lst y)=>if x.length + y.length ≤ SZ then alloc (.lst (x ++ y)) M else .bad
  | _,_=>.bad
 | _,_=>.bad
end
@[simp] noncomputable def ZbY (a b:D) (M:Store):R3 D:=match a,b with
 | .int i,.int j=>.ok (.int (i - j)) M
 | _,_=>.bad
section
local instance (priority:=100000) clP4 (p:Prop):Decidable p:=Classical.propDecidable p
noncomputable def Zca (i j:Int):Bool:=(decide (-(2 ^ 64) < i) && decide (i < 2 ^ 64)) || (decide (-(2 ^ 64) < j) && decide (j < 2 ^ 64))
end
section
local instance (priority:=100000) clP5 (p:Prop):Decidable p:=Classical.propDecidable p
@[simp] noncomputable def ZdO (a b:D) (M:Store):R3 D:=match a,b with
 | .int i,.int j=>if Zca i j then .ok (.int (i * j)) M else .bad
 | .str x,.int k=>if x.length * k.toNat ≤ SZ ∧ k < 1000000 ∧ -1000000 < k then .ok (.str (List.replicate k.toNat x).flatten) M else .bad
 | .ref n,.int k=>match M[n]? with
  | some (.lst x)=>if x.length * k.toNat ≤ SZ ∧ k < 1000000 ∧ -1000000 < k then alloc (.lst (List.replicate k.toNat x).flatten) M else .bad
  | _=>.bad
 | _,_=>.bad
end
@[simp] noncomputable def Zaf (a b:D) (M:Store):R3 D:=match a,b with
 | .int i,.int j=>if 0 < j then .ok (.int (i % j)) M else .bad
 | _,_=>.bad
section
local instance (priority:=100000) clP6 (p:Prop):Decidable p:=Classical.propDecidable p
@[simp] noncomputable def Zag (a b:D) (M:Store):R3 D:=match a,b with
 | .int i,.int j=>if 0 < j ∧ j < 1073741824 then .ok (.int (i / j)) M else .bad
 | _,_=>.bad
end
@[simp] noncomputable def Zbb (a b:D) (M:Store):R3 D:=match a,b with
 | .int i,.int j=>if 0 ≤ j ∧ j ≤ 1000 ∧ i.natAbs < 1000 then .ok (.int (i ^ j.toNat)) M else .bad
 | _,_=>.bad
@[simp] noncomputable def Zb5 (a:D) (M:Store):R3 D:=match a with
 | .int i=>.ok (.int (-i)) M
 | _=>.bad
@[simp] noncomputable def Zed (a b:D) (M:Store):R3 D:=match a,b with
 | .int i,.int j=>.ok (.bl (decide (i < j))) M
 | _,_=>.bad
@[simp] noncomputable def Zd2 (a b:D) (M:Store):R3 D:=match a,b with
 | .int i,.int j=>.ok (.bl (decide (j < i))) M
 | _,_=>.bad
@[simp] noncomputable def Zh9 (a b:D) (M:Store):R3 D:=match a,b with
 | .int i,.int j=>.ok (.bl (decide (j ≤ i))) M
 | _,_=>.bad
@[simp] noncomputable def eqD (a b:D) (M:Store):Option Bool:=match a,b with
 | .ref n,.ref m=>match M[n]?,M[m]? with
  | some (.lst x),some (.lst y)=>if x.all (Zao DEEP) && y.all (Zao DEEP) then some (ZbN x y) else none
  | _,_=>none
 | .int i,.int j=>some (decide (i = j))
 | .str x,.str y=>some (decide (x = y))
 | .bl x,.bl y=>some (decide (x = y))
 | .tup x,.tup y=>if x.all (Zao DEEP) && y.all (Zao DEEP) then some (ZbN x y) else none
 | _,_=>none
@[simp] noncomputable def Zcu (a b:D) (M:Store):R3 D:=match eqD a b M with
 | some r=>.ok (.bl r) M
 | none=>.bad
@[simp] noncomputable def Zli (a b:D) (M:Store):R3 D:=match eqD a b M with
 | some r=>.ok (.bl (!r)) M
 | none=>.bad
noncomputable def Zdv:D → Bool
 | .non=>true | .bl _=>true | .int _=>true | .str _=>true | _=>false
noncomputable def ixD (n:Nat) (i:Int):Option Nat:=if 0 ≤ i then (if i < n then some i.toNat else none) else if -(n:Int) ≤ i then some (i + n).toNat else none
noncomputable def Zbk {α:Type} (xs:List α) (i:Int):Option α:=(ixD xs.length i).bind fun j=>xs[j]?
@[simp] noncomputable def Zoo:D → Option ZbO
 | .int i=>some (.inl i)
 | .str x=>some (.inr x)
 | _=>none
noncomputable def Zj7:List (ZbO × D) → ZbO → Option D
 | [],_=>none
 | (k,v) :: r,x=>if k = x then some v else Zj7 r x
section
local instance (priority:=100000) clP7 (p:Prop):Decidable p:=Classical.propDecidable p
@[simp] noncomputable def Zh (a b:D) (M:Store):R3 D:=match a,b with
 | .tup ds,.int i=>match Zbk ds i with
  | some d=>.ok d M
  | none=>.bad
 | .scr ds,.int i=>match Zbk ds i with
  | some d=>.ok d M
  | none=>.bad
 | .str x,.int i=>match Zbk x i with
  | some c=>if x.length ≤ SZ then .ok (.str [c]) M else .bad
  | none=>.bad
 | .ref n,.int i=>match M[n]? with
  | some (.lst ds)=>match Zbk ds i with
   | some d=>.ok d M
   | none=>.bad
  | _=>.bad
 | _,_=>.bad
end
@[simp] noncomputable def ZmV:Option MO → Option (List (ZbO × D))
 | some (.dct kvs)=>some kvs
 | some (.fdct kvs)=>some kvs
 | _=>none
@[simp] noncomputable def Zoq (a b:D) (M:Store):R3 D:=match a with
 | .ref n=>match ZmV M[n]?,Zoo b with
  | some kvs,some x=>match Zj7 kvs x with
   | some d=>.ok d M
   | none=>.bad
  | _,_=>.bad
 | _=>.bad
noncomputable def sIx (n d:Nat):Option Int → Nat
 | none=>d
 | some v=>if v < 0 then (v + (n:Int)).toNat else min v.toNat n
noncomputable def cutD {α:Type} (xs:List α) (lo hi:Option Int):List α:=(xs.drop (sIx xs.length 0 lo)).take (sIx xs.length xs.length hi - sIx xs.length 0 lo)
noncomputable abbrev EO3:=Zz → Store → R3 (Option Int)
@[simp] noncomputable def ZkG:EO3:=fun _ M=>.ok none M
@[simp] noncomputable def ZdE (f:E3):EO3:=fun env M=>(f env M).bind fun a M1=>match a with
 | .int i=>.ok (some i) M1
 | _=>.bad
section
local instance (priority:=100000) clP8 (p:Prop):Decidable p:=Classical.propDecidable p
@[simp] noncomputable def Zgi (a:D) (lo hi:Option Int) (M:Store):R3 D:=match a with
 | .tup ds=>.ok (.tup (cutD ds lo hi)) M
 | .scr ds=>alloc (.lst (cutD ds lo hi)) M
 | .str x=>if x.length ≤ SZ then .ok (.str (cutD x lo hi)) M else .bad
 | .ref n=>match M[n]? with
  | some (.lst ds)=>alloc (.lst (cutD ds lo hi)) M
  | _=>.bad
 | _=>.bad
end
@[simp] noncomputable def eSl (f:E3) (lo hi:EO3):E3:=fun env M=>(f env M).bind fun a M1=>(lo env M1).bind fun l M2=>(hi env M2).bind fun h M3=>Zgi a l h M3
section
local instance (priority:=100000) clP9 (p:Prop):Decidable p:=Classical.propDecidable p
@[simp] noncomputable def Za0 (ds:List D) (M:Store):R3 D:=match ds with
 | [.tup x]=>.ok (.int x.length) M
 | [.scr x]=>.ok (.int x.length) M
 | [.str x]=>if x.length ≤ SZ then .ok (.int x.length) M else .bad
 | [.ref n]=>match M[n]? with
  | some (.lst x)=>.ok (.int x.length) M
  | _=>.bad
 | _=>.bad
end
@[simp] noncomputable def Zb1 (ds:List D) (M:Store):R3 D:=match ds with
 | [.tup x]=>.ok (.tup x) M
 | [.scr x]=>.ok (.tup x) M
 | [.ref n]=>match M[n]? with
  | some (.lst x)=>.ok (.tup x) M
  | _=>.bad
 | _=>.bad
@[simp] noncomputable def ZbT (ds:List D) (M:Store):R3 D:=match ds with
 | [.tup x]=>alloc (.lst x) M
 | [.scr x]=>alloc (.lst x) M
 | [.ref n]=>match M[n]? with
  | some (.lst x)=>alloc (.lst x) M
  | _=>.bad
 | _=>.bad
inductive Ty3 where
 | int | bool | str | list | tuple
 deriving DecidableEq
@[simp] noncomputable def ZbK (T:Ty3) (d:D) (M:Store):Option Bool:=match d with
 | .non=>some false
 | .bl _=>some (T == .bool || T == .int)
 | .int _=>some (T == .int)
 | .str _=>some (T == .str)
 | .tup _=>some (T == .tuple)
 | .scr _=>none
 | .ref n=>match M[n]? with
  | some (.lst _)=>some (T == .list)
  | some (.dct _)=>some false
  | some (.fdct _)=>none
  | some (.ins _ _)=>none
  | none=>none
@[simp] noncomputable def Zcc (T:Ty3) (d:D) (M:Store):R3 D:=match ZbK T d M with
 | some b=>.ok (.bl b) M
 | none=>.bad
noncomputable def isB:D → Bool
 | .bl _=>true
 | _=>false
noncomputable def isT:D → Bool
 | .bl b=>b
 | _=>false
noncomputable def allB (l:List D):Option Bool:=if l.all isB then some (l.all isT) else none
@[simp] noncomputable def ZgG (ds:List D) (M:Store):R3 D:=match ds with
 | [.ref n]=>match M[n]? with
  | some (.lst x)=>match allB x with
   | some b=>.ok (.bl b) M
   | none=>.bad
  | _=>.bad
 | _=>.bad
section
local instance (priority:=100000) clP11 (p:Prop):Decidable p:=Classical.propDecidable p
@[simp] noncomputable def Za3 (o:D) (ds:List D) (M:Store):R3 D:=match o,ds with
 | .ref n,[d]=>match M[n]? with
  | some (.lst x)=>if x.length < SZ then .ok .non (M.set n (.lst (x ++ [d]))) else .bad
  | _=>.bad
 | _,_=>.bad
end
section
local instance (priority:=100000) clPp (p:Prop):Decidable p:=Classical.propDecidable p
end
@[simp] noncomputable def tyL (a:D) (M:Store):Bool:=match a with
 | .ref n=>match M[n]? with
  | some (.lst _)=>true
  | _=>false
 | _=>false
@[simp] noncomputable def Zcq (ty:D → Store → Bool) (m:D → List D → Store → R3 D) (o:E3) (g:EL3):E3:=fun env M=>(o env M).bind fun a M1=>if ty a M1 then (g env M1).bind fun ds M2=>m a ds M2 else .bad
@[simp] noncomputable def ZaJ (b:List D → Store → R3 D) (g:EL3):E3:=fun env M=>(g env M).bind fun ds M1=>b ds M1
noncomputable def putD (k:ZbO) (v:D) (kvs:List (ZbO × D)):List (ZbO × D):=
 if (kvs.any fun p=>decide (p.1 = k)) = true then kvs.map (fun p=>if p.1 = k then (p.1,v) else p) else kvs ++ [(k,v)]
@[simp] noncomputable def e3 (op:D → D → D → Store → R3 D) (f g h:E3):E3:=fun env M=>(f env M).bind fun a M1=>(g env M1).bind fun b M2=>(h env M2).bind fun c M3=>op a b c M3
section
local instance (priority:=100000) clP12 (p:Prop):Decidable p:=Classical.propDecidable p
end
@[simp] noncomputable def Zgx (v a b:D) (M:Store):R3 D:=match a,b with
 | .ref n,.int i=>match M[n]? with
  | some (.lst xs)=>match ixD xs.length i with
   | some j=>.ok .non (M.set n (.lst (xs.set j v)))
   | none=>.bad
  | _=>.bad
 | _,_=>.bad
section
local instance (priority:=100000) clP13 (p:Prop):Decidable p:=Classical.propDecidable p
end
section
local instance (priority:=100000) clPs (p:Prop):Decidable p:=Classical.propDecidable p
end
noncomputable def Zac:S3:=fun env M=>.nx env M
noncomputable def Znd:S3:=fun _ _=>.bad
noncomputable def Zr (f g:S3):S3:=fun env M=>match f env M with
 | .nx env' M'=>g env' M'
 | o=>o
noncomputable def sIf (c:E3) (f g:S3):S3:=fun env M=>match c env M with
 | .ok (.bl true) M1=>f env M1
 | .ok (.bl false) M1=>g env M1
 | .exc x M1=>.exc x M1
 | _=>.bad
noncomputable def Zau (f:E3):S3:=fun env M=>match f env M with
 | .ok d M1=>.rt d M1
 | .exc x M1=>.exc x M1
 | .bad=>.bad
noncomputable def ZaC (f:E3):S3:=fun env M=>match f env M with
 | .ok _ M1=>.nx env M1
 | .exc x M1=>.exc x M1
 | .bad=>.bad
noncomputable def Zaw (i:Nat) (f:E3):S3:=fun env M=>match f env M with
 | .ok d M1=>.nx (env.set i (some d)) M1
 | .exc x M1=>.exc x M1
 | .bad=>.bad
noncomputable def Zdd (o i f:E3):S3:=ZaC (e3 Zgx f o i)
noncomputable abbrev G3:=D → Zz → Option Zz
@[simp] noncomputable def Zcv (i:Nat):G3:=fun d env=>some (env.set i (some d))
@[simp] noncomputable def bindAll:List Nat → List D → Zz → Option Zz
 | [],[],env=>some env
 | i :: is,d :: ds,env=>bindAll is ds (env.set i (some d))
 | _,_,_=>none
@[simp] noncomputable def Zi6 (is:List Nat):G3:=fun d env=>match d with
 | .tup ds=>bindAll is ds env
 | _=>none
structure It3 where
 items:List D
 lock:Option Nat
noncomputable abbrev I3:=Zz → Store → R3 It3
section
local instance (priority:=100000) clP14 (p:Prop):Decidable p:=Classical.propDecidable p
@[simp] noncomputable def Zdn (f:E3):I3:=fun env M=>(f env M).bind fun a M1=>match a with
 | .tup ds=>.ok ⟨ds,none⟩ M1
 | .scr ds=>.ok ⟨ds,none⟩ M1
 | .str x=>if x.length ≤ SZ then .ok ⟨x.map fun c=>.str [c],none⟩ M1 else .bad
 | .ref n=>match M1[n]? with
  | some (.lst ds)=>.ok ⟨ds,some n⟩ M1
  | _=>.bad
 | _=>.bad
end
noncomputable def ZcQ (lo:Int) (n:Nat):List D:=(List.range n).map fun (k:Nat)=>D.int (lo + (k:Int))
section
local instance (priority:=100000) clP15 (p:Prop):Decidable p:=Classical.propDecidable p
@[simp] noncomputable def Zcw (f:E3):I3:=fun env M=>(f env M).bind fun a M1=>match a with
 | .int j=>if j ≤ 1000000 ∧ -1000000 ≤ j then .ok ⟨ZcQ 0 j.toNat,none⟩ M1 else .bad
 | _=>.bad
end
section
local instance (priority:=100000) clP16 (p:Prop):Decidable p:=Classical.propDecidable p
end
noncomputable def locked (it:It3) (M:Store):Bool:=match it.lock with
 | none=>true
 | some n=>decide (M[n]? = some (.lst it.items))
noncomputable def ZbJ (it:It3) (g:G3) (body:S3):List D → Zz → Store → O3
 | [],env,M=>if locked it M then .nx env M else .bad
 | d :: ds,env,M=>if locked it M then match g d env with
  | none=>.bad
  | some env1=>match body env1 M with
   | .nx e M'=>ZbJ it g body ds e M'
   | .ct e M'=>ZbJ it g body ds e M'
   | .bk e M'=>.nx e M'
   | o=>o
  else .bad
noncomputable def ZdU (i:I3) (g:G3) (body:S3):S3:=fun env M=>match i env M with
 | .ok it M1=>ZbJ it g body it.items env M1
 | .exc x M1=>.exc x M1
 | .bad=>.bad
noncomputable def Zem:List E3 → Zz → Store → R3 Bool
 | [],_,M=>.ok true M
 | c :: cs,env,M=>(c env M).bind fun a M1=>match a with
  | .bl true=>Zem cs env M1
  | .bl false=>.ok false M1
  | _=>.bad
section
local instance (priority:=100000) clP17 (p:Prop):Decidable p:=Classical.propDecidable p
noncomputable def ZcT (it:It3) (g:G3) (ifs:List E3) (elt:E3) (n:Nat):List D → Zz → Store → R3 D
 | [],_,M=>if locked it M then .ok (.ref n) M else .bad
 | d :: ds,env,M=>if locked it M then match g d env with
  | none=>.bad
  | some env1=>(Zem ifs env1 M).bind fun b M1=>if b then (elt env1 M1).bind fun e M2=>match M2[n]? with
    | some (.lst x)=>if x.length < SZ then ZcT it g ifs elt n ds env1 (M2.set n (.lst (x ++ [e]))) else .bad
    | _=>.bad
   else ZcT it g ifs elt n ds env1 M1
  else .bad
end
noncomputable def eLC (i:I3) (own:Nat) (g:G3) (ifs:List E3) (elt:E3):E3:=fun env M=>(i env M).bind fun it M1=>
 ZcT it g ifs elt M1.length it.items (env ++ List.replicate own none) (M1 ++ [.lst []])
noncomputable def ZcC (n:Nat):MO → Bool
 | .lst xs=>belowL n xs
 | .dct kvs=>belowL n (kvs.map (·.2))
 | .fdct kvs=>belowL n (kvs.map (·.2))
 | .ins _ fs=>belowL n (fs.map (·.2))
noncomputable def ZbQ (M:Store) (d:D) (M':Store):R3 D:=
 if below M.length d && (decide (M'.take M.length = M) || (M'.take M.length).all (ZcC M.length)) then .ok d (M'.take M.length) else .ok d M'
noncomputable def mkF (ps n:Nat) (body:S3):F3:=fun ds M=>if ds.length = ps then match body (ds.map some ++ List.replicate (n - ps) none) M with
  | .nx _ M'=>ZbQ M .non M'
  | .rt d M'=>ZbQ M d M'
  | .exc x M'=>.exc x M'
  | _=>.bad
 else .bad
end
end L3
namespace L3
theorem ZfU {it:It3} {i n:Nat} {elt:E3} {R:D → D → Prop} {env0:Zz}:∀ (ds:List D) (acc:List D) (env:Zz) (M:Store),(∀ d,env.set i (some d) = env0.set i (some d)) →
  (∀ d ∈ ds,∀ x,∃ e,elt (env0.set i (some d)) (M.set n (.lst x)) = .ok e (M.set n (.lst x)) ∧ R d e) → (∀ x,locked it (M.set n (.lst x)) = true) → M[n]? = some (.lst acc) → acc.length + ds.length ≤ SZ →
  ∃ es,es.length = ds.length ∧ (∀ (j:Nat) d e,ds[j]? = some d → es[j]? = some e → R d e) ∧ ZcT it (Zcv i) [] elt n ds env M = .ok (.ref n) (M.set n (.lst (acc ++ es))):=by
 intro ds
 induction ds with
 | nil=>
  intro acc env M _ _ hl hM _
  have e:M.set n (.lst acc) = M:=by
   apply List.ext_getElem?
   intro j
   by_cases hj:j = n
   ·subst hj
    rw [List.getElem?_set_self (List.getElem?_eq_some_iff.mp hM).1,hM]
   ·rw [List.getElem?_set_ne (Ne.symm hj)]
  have hl':=hl acc
  rw [e] at hl'
  exact ⟨[],rfl,fun j d e h=>by simp at h,by simp only [ZcT,hl',if_true,List.append_nil,e]⟩
 | cons d ds ih=>
  intro acc env M he hf hl hM hz
  have hn:n < M.length:=(List.getElem?_eq_some_iff.mp hM).1
  have e:M.set n (.lst acc) = M:=by
   apply List.ext_getElem?
   intro j
   by_cases hj:j = n
   ·subst hj
    rw [List.getElem?_set_self hn,hM]
   ·rw [List.getElem?_set_ne (Ne.symm hj)]
  have hl':=hl acc
  rw [e] at hl'
  obtain ⟨v,hf',hR⟩:=hf d List.mem_cons_self acc
  rw [e] at hf'
  have hz':acc.length < SZ:=by simp at hz ⊢; exact lB 1 0xf42405b01f42405ba1c0c01 T1 hz
  obtain ⟨es,le,re,h⟩:=ih (acc ++ [v]) (env0.set i (some d)) (M.set n (.lst (acc ++ [v]))) (fun d'=>by rw [List.set_set]) (fun d' hd' x=>by rw [List.set_set]; exact hf d' (List.mem_cons_of_mem _ hd') x) (fun x=>by rw [List.set_set]; exact hl x) (by rw [List.getElem?_set_self hn]) (by simp at hz ⊢; exact lB 1 0xf42405b1a0cc0f42405ba1c0c01 T1 hz)
  refine ⟨v :: es,by simp [le],fun j d' e' h1 h2=>?_,?_⟩
  ·cases j with
   | zero=>simp at h1 h2; subst h1 h2; exact hR
   | succ j=>exact re j d' e' (by simpa using h1) (by simpa using h2)
  ·simp only [ZcT,hl',if_true,Zcv,he d,Zem,R3.bind_ok,hf',hM,hz']
   rw [h,List.set_set]
   simp
theorem Zga {it:It3} {g:G3} {body:S3} {P:Nat → Zz → Store → Prop}:∀ (ds:List D) (j:Nat) (env:Zz) (M:Store),P j env M → (∀ j env M,P j env M → locked it M = true) →
  (∀ (k:Nat) d,ds[k]? = some d → ∀ env M,P (j + k) env M → ∃ env1 e' M',g d env = some env1 ∧ body env1 M = .nx e' M' ∧ P (j + k + 1) e' M') → ∃ e' M',ZbJ it g body ds env M = .nx e' M' ∧ P (j + ds.length) e' M':=by
 intro ds
 induction ds with
 | nil=>intro j env M p hl _; exact ⟨env,M,by simp only [ZbJ,hl j env M p,if_true],p⟩
 | cons d ds ih=>
  intro j env M p hl hs
  obtain ⟨env1,e',M',h1,h2,p'⟩:=hs 0 d rfl env M p
  obtain ⟨e2,M2,h3,p2⟩:=ih (j + 1) e' M' p' hl fun k d' hd' env M p=>by
   have:=hs (k + 1) d' (by simpa using hd') env M (by rw [show j + (k + 1) = j + 1 + k by exact Nat.le_antisymm (lB 0 1790139547840 T1) (lB 0 0xa1c0c1a0cc0 T1)]; exact p)
   rw [show j + (k + 1) + 1 = j + 1 + k + 1 by exact Nat.le_antisymm (lB 0 0xa1a0cccaa1c0cc0 T1) (lB 0 0xaa1c0cca1a0ccc0 T1)] at this
   exact this
  exact ⟨e2,M2,by simp only [ZbJ,hl j env M p,if_true,h1,h2,h3],by rw [List.length_cons,show j + (ds.length + 1) = j + 1 + ds.length by exact Nat.le_antisymm (lB 0 1790139547840 T1) (lB 0 0xa1c0c1a0cc0 T1)]; exact p2⟩
theorem Zm {f g:S3} {env env':Zz} {M M':Store} (h:f env M = .nx env' M'):Zr f g env M = g env' M':=by rw [Zr,h]
theorem Zdy {f g:S3} {env:Zz} {M M':Store} {d:D} (h:f env M = .rt d M'):Zr f g env M = .rt d M':=by rw [Zr,h]
theorem Zc1 {c:E3} {f g:S3} {env:Zz} {M M':Store} (h:c env M = .ok (.bl true) M'):sIf c f g env M = f env M':=by rw [sIf,h]
theorem Zni {c:E3} {f g:S3} {env:Zz} {M M':Store} (h:c env M = .ok (.bl false) M'):sIf c f g env M = g env M':=by rw [sIf,h]
theorem Za9 {f:E3} {env:Zz} {M M':Store} {d:D} (h:f env M = .ok d M'):Zau f env M = .rt d M':=by rw [Zau,h]
theorem ZaF {f:E3} {i:Nat} {env env':Zz} {M M':Store} {d:D} (h:f env M = .ok d M') (he:env.set i (some d) = env':=by first | (dsimp only [List.set_cons_succ,List.set_cons_zero] <;> exact rfl) | exact rfl):Zaw i f env M = .nx env' M':=by rw [Zaw,h]; simp only [he]
theorem Zab {c:E3} {f:S3} {env:Zz} {M M':Store} (h:c env M = .ok (.bl false) M'):sIf c f Zac env M = .nx env M':=by rw [sIf,h]; rfl
theorem Zbq {f:E3} {env:Zz} {M M':Store} {d:D} (h:f env M = .ok d M'):ZaC f env M = .nx env M':=by rw [ZaC,h]
theorem Zek {i:I3} {g:G3} {u:S3} {env:Zz} {M M':Store} {it:It3} (h:i env M = .ok it M'):ZdU i g u env M = ZbJ it g u it.items env M':=by rw [ZdU,h]
theorem ZiB {i:I3} {own:Nat} {g:G3} {ts:List E3} {f:E3} {env:Zz} {M M':Store} {it:It3} (h:i env M = .ok it M'):eLC i own g ts f env M = ZcT it g ts f M'.length it.items (env ++ List.replicate own none) (M' ++ [.lst []]):=by rw [eLC,h]; rfl
theorem Zcg {ps n:Nat} {body:S3} {ds:List D} {env:Zz} {M M':Store} {d:D} (h:body env M = .rt d M') (hl:ds.length = ps:=by rfl) (he:ds.map some ++ List.replicate (n - ps) none = env:=by rfl):mkF ps n body ds M = ZbQ M d M':=by rw [mkF,if_pos hl,he,h]
theorem Zlx {ps n:Nat} {body:S3} {ds:List D} {env env':Zz} {M M':Store} (h:body env M = .nx env' M') (hl:ds.length = ps:=by rfl) (he:ds.map some ++ List.replicate (n - ps) none = env:=by rfl):mkF ps n body ds M = ZbQ M .non M':=by rw [mkF,if_pos hl,he,h]
theorem ZhP {M G:Store} {d:D} (h:below M.length d = true):ZbQ M d (M ++ G) = .ok d M:=by
 simp [ZbQ,h]
end L3
namespace L3
theorem Zak {α:Type} (M:List α) (x:α) (xs:List α):(M ++ x :: xs)[M.length]? = some x:=by simp
theorem Zbj {α:Type} (M xs:List α) (k:Nat):(M ++ xs)[M.length + k]? = xs[k]?:=by
 rw [List.getElem?_append_right (Nat.le_add_right _ _)]; congr 1; exact Nat.le_antisymm (lC 1 2199589555233 T1 (Nat.sub_add_cancel (Nat.le_add_right _ _))) (lC 1 2267788938241 T1 (sbA _ _))
theorem Zbe {α:Type} (M xs:List α) (k:Nat) (o:α):(M ++ xs).set (M.length + k) o = M ++ xs.set k o:=by
 rw [List.set_append_right _ _ (Nat.le_add_right _ _)]; congr 2; exact Nat.le_antisymm (lC 1 2199589555233 T1 (Nat.sub_add_cancel (Nat.le_add_right _ _))) (lC 1 2267788938241 T1 (sbA _ _))
theorem Zae {α:Type} {M:List α} {n:Nat} {o:α} (h:M[n]? = some o) (xs:List α):(M ++ xs)[n]? = some o:=by
 rw [List.getElem?_append_left (List.getElem?_eq_some_iff.mp h).1,h]
theorem Zce {α:Type} (xs:List α) (k:Nat):Zbk xs (k:Int) = xs[k]?:=by
 unfold Zbk ixD
 rw [if_pos (Int.natCast_nonneg k)]
 by_cases h:k < xs.length
 ·rw [if_pos (Int.ofNat_lt.2 h)]; simp
 ·rw [if_neg (by exact fun z=>iN [_,_] [] 2 6667149772945 T1 z h)]; simp at h ⊢; exact h
@[simp] theorem Zmq {α:Type} (xs:List α) (k:Nat):Zbk xs (k:Int) = xs[k]?:=Zce xs k
@[simp] theorem Zm8 {α:Type} (xs:List α) (n:Nat):Zbk xs (no_index (OfNat.ofNat n:Int)) = xs[(OfNat.ofNat n:Nat)]?:=Zce xs n
@[simp] theorem Zms {α:Type} (xs:List α):Zbk xs (-1) = xs.getLast?:=by
 unfold Zbk ixD
 rw [if_neg (by decide),List.getLast?_eq_getElem?]
 by_cases h:0 < xs.length
 ·rw [if_pos (by exact iN [_] [] 1 725993655825 T1 h)]
  simp only [Option.bind_some]
  congr 1; exact Nat.le_antisymm (iN [_,_,_] [] 2 0x200a2c10118a9c08a1 T1 (Int.toNat_of_nonneg (iN [_] [] 1 595337940497 T1 h)) (sbA _ _)) (iN [_,_,_] [] 2 0x1200a2c211808a9c81 T1 (Int.self_le_toNat _) (Nat.sub_add_cancel (lA 1 10489361 T1 h)))
 ·have:xs = []:=by simpa using h
  subst this; rfl
theorem ZfJ (n k:Nat):ixD n (k:Int) = if k < n then some k else none:=by
 unfold ixD
 rw [if_pos (Int.natCast_nonneg k)]
 by_cases h:k < n
 ·rw [if_pos (Int.ofNat_lt.2 h),if_pos h]; simp
 ·rw [if_neg (by exact fun z=>iN [_,_] [] 2 6667149772945 T1 z h),if_neg h]
@[simp] theorem Zm1 (n k:Nat):ixD n (k:Int) = if k < n then some k else none:=ZfJ n k
@[simp] theorem ZnO (m n:Nat):ixD m (no_index (OfNat.ofNat n:Int)) = if (OfNat.ofNat n:Nat) < m then some (OfNat.ofNat n:Nat) else none:=ZfJ m n
inductive Row where
 | put (a:Nat) (n:Int) | add (a b c:Nat) | sub (a b c:Nat) | more (a b c:Nat) | get (a b:Nat) | set (a b:Nat) | jump (k:Nat) | when (a k:Nat) | tell (a:Nat) | halt
 deriving Inhabited
noncomputable def Row.ok (many:Nat):Row → Prop
 | .put a _=>a < 8
 | .add a b c=>a < 8 ∧ b < 8 ∧ c < 8
 | .sub a b c=>a < 8 ∧ b < 8 ∧ c < 8
 | .more a b c=>a < 8 ∧ b < 8 ∧ c < 8
 | .get a b=>a < 8 ∧ b < 8
 | .set a b=>a < 8 ∧ b < 8
 | .jump k=>k < many
 | .when a k=>a < 8 ∧ k < many
 | .tell a=>a < 8
 | .halt=>True
noncomputable abbrev Zob:=List Row
structure Stt where
 place:Nat
 boxes:List Int
 cells:List (Int × Int)
 deriving Inhabited,DecidableEq
noncomputable def Stt.ok (r:Zob) (s:Stt):Prop:=s.place < r.length ∧ s.boxes.length = 8
noncomputable def Row.tells (bs:List Int):Row → Option Int
 | .tell a=>bs[a]?
 | _=>none
noncomputable def Row.isHalt:Row → Bool
 | .halt=>true
 | _=>false
@[simp] theorem Zmy {a:Nat} {n:Int} {bs:List Int}:(Row.put a n).tells bs = none:=rfl
@[simp] theorem Zlt {a:Nat} {n:Int}:(Row.put a n).isHalt = false:=rfl
@[simp] theorem Zmr {a:Nat} {b:Nat} {c:Nat} {bs:List Int}:(Row.add a b c).tells bs = none:=rfl
@[simp] theorem ZlA {a:Nat} {b:Nat} {c:Nat}:(Row.add a b c).isHalt = false:=rfl
@[simp] theorem ZmB {a:Nat} {b:Nat} {c:Nat} {bs:List Int}:(Row.sub a b c).tells bs = none:=rfl
@[simp] theorem Zlb {a:Nat} {b:Nat} {c:Nat}:(Row.sub a b c).isHalt = false:=rfl
@[simp] theorem Zk1 {a:Nat} {b:Nat} {c:Nat} {bs:List Int}:(Row.more a b c).tells bs = none:=rfl
@[simp] theorem ZkH {a:Nat} {b:Nat} {c:Nat}:(Row.more a b c).isHalt = false:=rfl
@[simp] theorem Zmo {a:Nat} {b:Nat} {bs:List Int}:(Row.get a b).tells bs = none:=rfl
@[simp] theorem ZkQ {a:Nat} {b:Nat}:(Row.get a b).isHalt = false:=rfl
@[simp] theorem Zmn {a:Nat} {b:Nat} {bs:List Int}:(Row.set a b).tells bs = none:=rfl
@[simp] theorem ZkO {a:Nat} {b:Nat}:(Row.set a b).isHalt = false:=rfl
@[simp] theorem Zk2 {k:Nat} {bs:List Int}:(Row.jump k).tells bs = none:=rfl
@[simp] theorem Zkw {k:Nat}:(Row.jump k).isHalt = false:=rfl
@[simp] theorem Zmb {a:Nat} {k:Nat} {bs:List Int}:(Row.when a k).tells bs = none:=rfl
@[simp] theorem Zkv {a:Nat} {k:Nat}:(Row.when a k).isHalt = false:=rfl
@[simp] theorem ZlM {a:Nat} {bs:List Int}:(Row.tell a).tells bs = bs[a]?:=rfl
@[simp] theorem ZkA {a:Nat}:(Row.tell a).isHalt = false:=rfl
@[simp] theorem Zlg  {bs:List Int}:(Row.halt).tells bs = none:=rfl
@[simp] theorem ZkL :(Row.halt).isHalt = true:=rfl
mutual
theorem ZhA:∀ (n:Nat) (d:D),Zao n d = true → deq d d = true
 | _,.non,_=>rfl
 | _,.bl _,_=>by simp [deq]
 | _,.int _,_=>by simp [deq]
 | _,.str _,_=>by simp [deq]
 | 0,.tup _,h=>by simp [Zao] at h
 | n + 1,.tup ds,h=>by simp only [deq]; exact Zer n ds (by simpa [Zao] using h)
 | _,.scr _,h=>by simp [Zao] at h
 | _,.ref _,h=>by simp [Zao] at h
theorem Zer:∀ (n:Nat) (ds:List D),(∀ d ∈ ds,Zao n d = true) → ZbN ds ds = true
 | _,[],_=>rfl
 | n,d :: ds,h=>by
  simp only [ZbN,Bool.and_eq_true]
  exact ⟨ZhA n d (h d List.mem_cons_self),Zer n ds fun x hx=>h x (List.mem_cons_of_mem _ hx)⟩
end
end L3
namespace L3
noncomputable def Rt (o:O3) (d:D):Prop:=∃ M',o = .rt d M'
theorem Rt.set {i:Nat} {f:E3} {g:S3} {env env':Zz} {M M':Store} {d r:D} (h:f env M = .ok d M') (k:Rt (g env' M') r) (he:env.set i (some d) = env':=by first | (dsimp only [List.set_cons_succ,List.set_cons_zero] <;> exact rfl) | exact rfl):Rt (Zr (Zaw i f) g env M) r:=by
 rw [Rt,Zm (ZaF h he)]; exact k
theorem Rt.expr {f:E3} {g:S3} {env:Zz} {M M':Store} {d r:D} (h:f env M = .ok d M') (k:Rt (g env M') r):Rt (Zr (ZaC f) g env M) r:=by
 rw [Rt,Zm (Zbq h)]; exact k
theorem Rt.skip {c:E3} {u g:S3} {env:Zz} {M M':Store} {r:D} (h:c env M = .ok (.bl false) M') (k:Rt (g env M') r):Rt (Zr (sIf c u Zac) g env M) r:=by
 rw [Rt,Zm (Zab h)]; exact k
theorem Rt.loop {i:I3} {t:G3} {u g:S3} {env env':Zz} {M M' M1:Store} {it:It3} {r:D} (h:i env M = .ok it M1) (hl:ZbJ it t u it.items env M1 = .nx env' M') (k:Rt (g env' M') r):Rt (Zr (ZdU i t u) g env M) r:=by
 rw [Rt,Zm ((Zek h).trans hl)]; exact k
theorem Rt.ret {f:E3} {env:Zz} {M M':Store} {d:D} (h:f env M = .ok d M'):Rt (Zau f env M) d:=⟨M',Za9 h⟩
theorem Rt.law {ps n:Nat} {body:S3} {ds:List D} {env:Zz} {b:Bool} (h:Rt (body env []) (.bl b)) (hl:ds.length = ps:=by rfl) (he:ds.map some ++ List.replicate (n - ps) none = env:=by rfl):∃ M',mkF ps n body ds [] = .ok (.bl b) M':=by
 obtain ⟨M',h⟩:=h
 exact ⟨_,(Zcg h hl he).trans (by rw [ZbQ,if_pos (by simp [below])])⟩
theorem Rt.pure {ps n:Nat} {body:S3} {ds:List D} {env:Zz} {M G:Store} {d:D} (h:body env M = .rt d (M ++ G)) (hd:below M.length d = true) (hl:ds.length = ps:=by rfl) (he:ds.map some ++ List.replicate (n - ps) none = env:=by rfl):mkF ps n body ds M = .ok d M:=
 (Zcg h hl he).trans (ZhP hd)
theorem Zi8 {α β:Type} (f:α → β) (xs:List α) (lo hi:Option Int):cutD (xs.map f) lo hi = (cutD xs lo hi).map f:=by
 simp [cutD]
theorem ZjF {n:Nat} {lo:Int} {j:Nat} {d:D} (h:(ZcQ lo n)[j]? = some d):d = .int (lo + j) ∧ j < n:=by
 unfold ZcQ at h
 rw [List.getElem?_map] at h
 cases q:(List.range n)[j]? with
 | none=>rw [q] at h; cases h
 | some k=>
  rw [q] at h
  obtain ⟨hi,e⟩:=List.getElem?_eq_some_iff.mp q
  rw [List.getElem_range] at e
  subst e
  simp at h hi
  exact ⟨h.symm,hi⟩
theorem ZhT {n:Nat} {j:Nat} {d:D} (h:(ZcQ 0 n)[j]? = some d):d = .int (j:Int) ∧ j < n:=by
 obtain ⟨e,l⟩:=ZjF h
 exact ⟨by rw [e,Int.zero_add],l⟩
theorem ZjO (lo:Int) (n:Nat):(ZcQ lo n).length = n:=by simp [ZcQ]
end L3
namespace L3
theorem Zc2 {o arg:E3} {env:Zz} {M M2:Store} {n:Nat} {xs ys:List D} {d:D} (ho:o env M = .ok (.ref n) M) (hM:M[n]? = some (.lst xs)) (ha:arg env M = .ok d M2) (hM2:M2[n]? = some (.lst ys)) (hz:ys.length < 1000000):
  Zcq tyL Za3 o (Za arg Ze) env M = .ok .non (M2.set n (.lst (ys ++ [d]))):=by
 simp [ho,hM,ha,hM2,hz]
theorem Zf {op:D → D → Store → R3 D} {f g:E3} {env:Zz} {M M1 M2 M3:Store} {a b d:D} (h1:f env M = .ok a M1) (h2:g env M1 = .ok b M2) (h3:op a b M2 = .ok d M3):e2 op f g env M = .ok d M3:=by
 simp only [e2,h1,h2,h3,R3.bind]
theorem Zi4 {F:F3} {f:E3} {env:Zz} {M M1 M2:Store} {a d:D} (h1:f env M = .ok a M1) (h2:F [a] M1 = .ok d M2):Zaa F (Za f Ze) env M = .ok d M2:=by
 simp only [Zaa,Za,Ze,h1,h2,R3.bind]
theorem Zbl {F:F3} {f g:E3} {env:Zz} {M M1 M2 M3:Store} {a b d:D} (h1:f env M = .ok a M1) (h2:g env M1 = .ok b M2) (h3:F [a,b] M2 = .ok d M3):Zaa F (Za f (Za g Ze)) env M = .ok d M3:=by
 simp only [Zaa,Za,Ze,h1,h2,h3,R3.bind]
@[simp] theorem Zou (a b:Ty3):(a == b) = decide (a = b):=by cases a <;> cases b <;> rfl
theorem Zb0 {F:F3} {f g h k:E3} {env:Zz} {M M1 M2 M3 M4 M5:Store} {a b c d e:D} (h1:f env M = .ok a M1) (h2:g env M1 = .ok b M2) (h3:h env M2 = .ok c M3) (h4:k env M3 = .ok d M4) (h5:F [a,b,c,d] M4 = .ok e M5):Zaa F (Za f (Za g (Za h (Za k Ze)))) env M = .ok e M5:=by
 simp only [Zaa,Za,Ze,h1,h2,h3,h4,h5,R3.bind]
theorem Zbp {b:List D → Store → R3 D} {f:E3} {env:Zz} {M M1 M2:Store} {a d:D} (h1:f env M = .ok a M1) (h2:b [a] M1 = .ok d M2):ZaJ b (Za f Ze) env M = .ok d M2:=by
 simp only [ZaJ,Za,Ze,h1,h2,R3.bind]
theorem Zbz {op:D → Store → R3 D} {f:E3} {env:Zz} {M M1 M2:Store} {a d:D} (h1:f env M = .ok a M1) (h2:op a M1 = .ok d M2):e1 op f env M = .ok d M2:=by
 simp only [e1,h1,h2,R3.bind]
theorem Zt {f:E3} {g:EL3} {env:Zz} {M M1 M2:Store} {d:D} {ds:List D} (h1:f env M = .ok d M1) (h2:g env M1 = .ok ds M2):Za f g env M = .ok (d :: ds) M2:=by
 simp only [Za,h1,h2,R3.bind]
theorem Zc3 {g:EL3} {env:Zz} {M M':Store} {ds:List D} (h:g env M = .ok ds M') (hl:decide (ds.length ≤ 100) = true):ZcI g env M = .ok (.tup ds) M':=by
 have:=of_decide_eq_true hl
 simp only [ZcI,h,R3.bind]
 rw [if_pos (Nat.le_trans this (by decide))]
theorem ZbI {n:Nat} {M:Store} {xs:List D} (h:M[n]? = some (.lst xs)):Za0 [.ref n] M = .ok (.int (xs.length:Int)) M:=by simp only [Za0,h]
theorem Zg9 {n:Nat} {M:Store} {xs:List D} (h:M[n]? = some (.lst xs)):Zb1 [.ref n] M = .ok (.tup xs) M:=by simp only [Zb1,h]
theorem Zq {n:Nat} {M:Store} {xs:List D} {i:Int} {d:D} (h:M[n]? = some (.lst xs)) (hd:Zbk xs i = some d):Zh (.ref n) (.int i) M = .ok d M:=by simp only [Zh,h,hd]
theorem Zkh {M:Store} {xs:List D} {i:Int} {d:D} (hd:Zbk xs i = some d):Zh (.tup xs) (.int i) M = .ok d M:=by simp only [Zh,hd]
theorem Zil {a b:Int} {M:Store} (h:a = b):Zcu (.int a) (.int b) M = .ok (.bl true) M:=by simp only [Zcu,eqD,decide_eq_true h]
theorem ZiV {a b:Int} {M:Store} (h:¬ a = b):Zcu (.int a) (.int b) M = .ok (.bl false) M:=by simp only [Zcu,eqD,decide_eq_false h]
theorem ZaA {i j:Int} {M:Store} (h:0 < j):Zaf (.int i) (.int j) M = .ok (.int (i % j)) M:=by simp only [Zaf,if_pos h]
theorem Zic {f g:E3} {env:Zz} {M M1:Store} (h1:f env M = .ok (.bl false) M1):eOr f g env M = g env M1:=by simp only [eOr,h1,R3.bind]
theorem ZmZ {f g:E3} {env:Zz} {M M1:Store} (h1:f env M = .ok (.bl true) M1):eOr f g env M = .ok (.bl true) M1:=by simp only [eOr,h1,R3.bind]
theorem Zdm {f g:E3} {env:Zz} {M M1:Store} (h1:f env M = .ok (.bl true) M1):ZcA f g env M = g env M1:=by simp only [ZcA,h1,R3.bind]
theorem Zi5 {f g:E3} {env:Zz} {M M1:Store} (h1:f env M = .ok (.bl false) M1):ZcA f g env M = .ok (.bl false) M1:=by simp only [ZcA,h1,R3.bind]
theorem ZlT {α:Type} {enc:α → D} {h:α → D} {own:Nat} {i:Nat} {it:I3} {elt:E3} {env:Zz} {M M1:Store} {lock:Option Nat} {as:List α} (hi:it env M = .ok ⟨as.map enc,lock⟩ M1) (hlock:∀ n,lock = some n → M1[n]? = some (.lst (as.map enc)))
  (he:∀ a ∈ as,∀ M,elt ((env ++ List.replicate own none).set i (some (enc a))) M = .ok (h a) M) (hz:as.length ≤ 100000):eLC it own (Zcv i) [] elt env M = .ok (.ref M1.length) (M1 ++ [.lst (as.map h)]):=by
 rw [ZiB hi]
 obtain ⟨es,le,re,hh⟩:=ZfU (it:=⟨as.map enc,lock⟩) (i:=i) (n:=M1.length) (elt:=elt) (R:=fun d e=>∀ a ∈ as,d = enc a → e = h a) (env0:=env ++ List.replicate own none) (as.map enc) [] (env ++ List.replicate own none) (M1 ++ [.lst []]) (fun _=>rfl)
  (fun d hd x=>by
   obtain ⟨a,ha,rfl⟩:=List.mem_map.mp hd
   refine ⟨h a,he a ha _,fun b hb e=>?_⟩
   have h1:=he a ha []
   have h2:=he b hb []
   rw [e,h2] at h1
   injection h1 with h1 _
   exact h1.symm)
  (fun x=>by
   cases lock with
   | none=>rfl
   | some n=>
    have hn:=hlock n rfl
    have hlt:=(List.getElem?_eq_some_iff.mp hn).1
    simp only [locked,decide_eq_true_eq]
    rw [List.getElem?_set_ne (by exact fun z=>lB 2 25787699233 T1 z hlt),List.getElem?_append_left hlt,hn]) (by simp) (by simp; exact lA 1 0xf42405b00186a05b001 T1 hz)
 rw [show (⟨as.map enc,lock⟩:It3).items = as.map enc from rfl,hh]
 have:es = as.map h:=by
  apply List.ext_getElem?
  intro j
  rw [List.getElem?_map]
  cases ha:as[j]? with
  | none=>
   have:as.length ≤ j:=by simpa using ha
   simp [le]; exact this
  | some a=>
   have hj:j < es.length:=by
    have:=(List.getElem?_eq_some_iff.mp ha).1
    simpa [le] using this
   have h2:=re j (enc a) es[j] (by simp [ha]) (by simp [hj]) a (List.mem_of_getElem? ha) rfl
   rw [List.getElem?_eq_getElem hj,h2]; rfl
 rw [this]
 simp
end L3
namespace L3
noncomputable def ZmY:List (Int × Int) → Int → Int
 | [],_=>0
 | (k,v) :: r,n=>if k = n then v else ZmY r n
noncomputable def Zkd (cs:List (Int × Int)) (n v:Int):List (Int × Int):=cs.filter (fun c=>decide (c.1 < n)) ++ (if v ≠ 0 then [(n,v)] else []) ++ cs.filter (fun c=>decide (n < c.1))
noncomputable def Row.place (bs:List Int) (p:Nat):Row → Nat
 | .jump k=>k
 | .when a k=>if 0 < bs.getD a 0 then k else p + 1
 | _=>p + 1
noncomputable def Row.boxes (bs:List Int) (cs:List (Int × Int)):Row → List Int
 | .put a n=>bs.set a n
 | .add a b c=>bs.set a (bs.getD b 0 + bs.getD c 0)
 | .sub a b c=>bs.set a (bs.getD b 0 - bs.getD c 0)
 | .more a b c=>bs.set a (if bs.getD c 0 < bs.getD b 0 then 1 else 0)
 | .get a b=>bs.set a (ZmY cs (bs.getD b 0))
 | _=>bs
noncomputable def Row.cells (bs:List Int) (cs:List (Int × Int)):Row → List (Int × Int)
 | .set a b=>Zkd cs (bs.getD a 0) (bs.getD b 0)
 | _=>cs
end L3
namespace L3
end L3
namespace L3
end L3
namespace L3
noncomputable section
local instance (priority:=100000) clQ1 (p:Prop):Decidable p:=Classical.propDecidable p
noncomputable def Zkz:List D → Option (List (List Nat))
 | []=>some []
 | .str x :: ds=>(Zkz ds).map (x :: ·)
 | _=>none
noncomputable def glue (sep:List Nat):List (List Nat) → List Nat
 | []=>[]
 | [x]=>x
 | x :: y :: xs=>x ++ sep ++ glue sep (y :: xs)
noncomputable def ZjC (sep:List Nat) (ts:List (List Nat)):Nat:=(ts.map fun t=>t.length + sep.length).sum
@[simp] noncomputable def ZoL (o:D) (ds:List D) (M:Store):R3 D:=match o,ds with
 | .str sep,[.ref n]=>match M[n]? with
  | some (.lst x)=>match Zkz x with
   | some ts=>if ZjC sep ts ≤ SZ then .ok (.str (glue sep ts)) M else .bad
   | none=>.bad
  | _=>.bad
 | _,_=>.bad
@[simp] noncomputable def ZdJ (T1 T2:Ty3) (d:D) (M:Store):R3 D:=match ZbK T1 d M,ZbK T2 d M with
 | some a,some b=>.ok (.bl (a || b)) M
 | _,_=>.bad
end
end L3
namespace L3
noncomputable section
structure ItL where
 items:List D
 lk:List (Nat × List D)
noncomputable def ZjX (lk:List (Nat × List D)) (M:Store):Bool:=lk.all fun q=>decide (M[q.1]? = some (.lst q.2))
noncomputable abbrev IL3:=Zz → Store → R3 ItL
@[simp] noncomputable def ZoO (a b:D) (M:Store):R3 D:=match a,b with
 | .tup [.int i,.int j],.tup [.int k,.int l]=>.ok (.bl (decide (i < k) || (decide (i = k) && decide (j ≤ l)))) M
 | _,_=>.bad
@[simp] noncomputable def Zg1 (ds:List D) (M:Store):R3 D:=match ds with
 | [.int i,.int j]=>.ok (.int (if j > i then j else i)) M
 | _=>.bad
end
end L3
namespace L3
noncomputable section
section
local instance (priority:=100000) clZ1 (p:Prop):Decidable p:=Classical.propDecidable p
end
section
local instance (priority:=100000) clZ2 (p:Prop):Decidable p:=Classical.propDecidable p
end
end
end L3
namespace L3
noncomputable section
section
local instance (priority:=100000) clPg (p:Prop):Decidable p:=Classical.propDecidable p
end
end
end L3
namespace L3
noncomputable def ZeP (f:List Nat) (d:D):List (List Nat × D) → List (List Nat × D)
 | []=>[(f,d)]
 | (g,x) :: r=>if g = f then (g,d) :: r else (g,x) :: ZeP f d r
@[simp] noncomputable def Zcm (c f:List Nat) (a:D) (M:Store):R3 D:=match a with
 | .ref n=>match M[n]? with
  | some (.ins c' fs)=>if c' = c then (match fs.lookup f with
   | some d=>.ok d M
   | none=>.bad) else .bad
  | _=>.bad
 | _=>.bad
@[simp] noncomputable def Zd1 (c f:List Nat) (v a:D) (M:Store):R3 D:=match a with
 | .ref n=>match M[n]? with
  | some (.ins c' fs)=>if c' = c ∧ fs.length < 1000 then .ok .non (M.set n (.ins c (ZeP f v fs))) else .bad
  | _=>.bad
 | _=>.bad
noncomputable def Ziw (c f:List Nat) (o v:E3):S3:=ZaC (e2 (Zd1 c f) v o)
@[simp] noncomputable def Zeq (c m:List Nat) (a:D) (M:Store):Bool:=match a with
 | .ref n=>match M[n]? with
  | some (.ins c' fs)=>decide (c' = c) && (fs.lookup m).isNone
  | _=>false
 | _=>false
@[simp] noncomputable def ZaX (c m:List Nat) (F:F3) (o:E3) (g:EL3):E3:=fun env M=>(o env M).bind fun a M1=>if Zeq c m a M1 then (g env M1).bind fun ds M2=>F (a :: ds) M2 else .bad
@[simp] noncomputable def ZcL (c:List Nat) (F:F3) (g:EL3):E3:=fun env M=>(g env M).bind fun ds M1=>match F (.ref M1.length :: ds) (M1 ++ [.ins c []]) with
 | .ok .non M2=>.ok (.ref M1.length) M2
 | _=>.bad
end L3
namespace L3
noncomputable section
@[simp] noncomputable def eNo (f:E3):E3:=fun env M=>match f env M with
 | .exc _ _=>.bad
 | r=>r
@[simp] noncomputable def Ziu (f:EL3):EL3:=fun env M=>match f env M with
 | .exc _ _=>.bad
 | r=>r
noncomputable def sNo (f:S3):S3:=fun env M=>match f env M with
 | .exc _ _=>.bad
 | o=>o
noncomputable def ZeA (c:List Nat) (g:EL3):S3:=fun env M=>match g env M with
 | .ok [_] M1=>.exc ⟨c,.ref M1.length⟩ (M1 ++ [.ins (0 :: c) []])
 | _=>.bad
noncomputable def ZhR (cs:List (List Nat)) (j:Nat) (b h:S3):S3:=fun env M=>match b env M with
 | .exc x M'=>if cs.contains x.cls then (match h (env.set j (some x.arg)) M' with
  | .nx e' M2=>.nx (e'.set j none) M2
  | _=>.bad) else .bad
 | o=>o
@[simp] noncomputable def Za1 (yes no:List (List Nat)) (d:D) (M:Store):R3 D:=match d with
 | .non=>.ok (.bl false) M
 | .ref n=>match M[n]? with
  | some (.ins (0 :: c) _)=>if yes.contains c then .ok (.bl true) M else if no.contains c then .ok (.bl false) M else .bad
  | _=>.bad
 | _=>.bad
end
end L3
namespace L3
open PySem PySem.Spec PyProof.Rows L2
noncomputable abbrev St:=L2.St
theorem Zbi:SZ ≤ sizeLine:=by rw [sizeLine_eq]; decide
noncomputable def SqF (K:PySem.W.Frag) (H:Hp) (a:Addr) (xs:List V):Prop:=
 (∃ o,H a = some (.frz o (.lst xs))) ∨
  ∃ (o:Obj) (its:Array Value) (n:Nat),K.lookup a = some o ∧ o.cls = .type "list" ∧ o.dict = none ∧ o.data = .seq its n ∧ its.size ≤ sizeLine ∧ Vals xs its.toList
theorem SqF.sq {K:PySem.W.Frag} {H:Hp} {a:Addr} {xs:List V} (h:SqF K H a xs):SqL K H a xs:=by
 rcases h with ⟨o,h⟩ | h
 ·exact .inl (.inr ⟨o,h⟩)
 ·exact .inr h
mutual
noncomputable def Rep (K:PySem.W.Frag) (H:Hp) (ι:List Addr):D → V → Prop
 | .non,v=>v = .non
 | .bl b,v=>v = .bl b
 | .int i,v=>v = .int i
 | .str x,v=>v = .str ⟨x.toArray⟩
 | .tup ds,v=>∃ a vs,v = .ref a ∧ SqT K H a vs ∧ Zk K H ι ds vs
 | .scr ds,v=>∃ a vs,v = .ref a ∧ SqF K H a vs ∧ Zk K H ι ds vs
 | .ref n,v=>∃ a,ι[n]? = some a ∧ v = .ref a
noncomputable def Zk (K:PySem.W.Frag) (H:Hp) (ι:List Addr):List D → List V → Prop
 | [],vs=>vs = []
 | d :: ds,vs=>∃ v ws,vs = v :: ws ∧ Rep K H ι d v ∧ Zk K H ι ds ws
end
structure Ext (K:PySem.W.Frag) (H:Hp) (ι:List Addr) (H':Hp) (ι':List Addr):Prop where
 tup:∀ a xs,SqT K H a xs → SqT K H' a xs
 scr:∀ a xs,SqF K H a xs → SqF K H' a xs
 pre:∀ (n:Nat) (a:Addr),ι[n]? = some a → ι'[n]? = some a
 frz:∀ a o u,H a = some (.frz o u) → H' a = some (.frz o u)
section
variable {K:PySem.W.Frag} {H H' H1 H2:Hp} {ι ι' ι1 ι2:List Addr}
theorem Ext.refl:Ext K H ι H ι:=⟨fun _ _ h=>h,fun _ _ h=>h,fun _ _ h=>h,fun _ _ _ h=>h⟩
theorem Ext.trans (a:Ext K H ι H1 ι1) (b:Ext K H1 ι1 H2 ι2):Ext K H ι H2 ι2:=
 ⟨fun x xs h=>b.tup x xs (a.tup x xs h),fun x xs h=>b.scr x xs (a.scr x xs h),fun n x h=>b.pre n x (a.pre n x h),fun x o u h=>b.frz x o u (a.frz x o u h)⟩
mutual
theorem Rep.mono (e:Ext K H ι H' ι'):∀ {d:D} {v:V},Rep K H ι d v → Rep K H' ι' d v
 | .non,_,h=>by simpa [Rep] using h
 | .bl _,_,h=>by simpa [Rep] using h
 | .int _,_,h=>by simpa [Rep] using h
 | .str _,_,h=>by simpa [Rep] using h
 | .tup ds,_,h=>by
  simp only [Rep] at h ⊢
  obtain ⟨a,vs,rfl,s,r⟩:=h
  exact ⟨a,vs,rfl,e.tup _ _ s,Zk.mono e (ds:=ds) r⟩
 | .scr ds,_,h=>by
  simp only [Rep] at h ⊢
  obtain ⟨a,vs,rfl,s,r⟩:=h
  exact ⟨a,vs,rfl,e.scr _ _ s,Zk.mono e (ds:=ds) r⟩
 | .ref n,_,h=>by
  simp only [Rep] at h ⊢
  obtain ⟨a,s,rfl⟩:=h
  exact ⟨a,e.pre _ _ s,rfl⟩
theorem Zk.mono (e:Ext K H ι H' ι'):∀ {ds:List D} {vs:List V},Zk K H ι ds vs → Zk K H' ι' ds vs
 | [],_,h=>by simpa [Zk] using h
 | d :: ds,_,h=>by
  simp only [Zk] at h ⊢
  obtain ⟨v,ws,rfl,r,q⟩:=h
  exact ⟨v,ws,rfl,Rep.mono e (d:=d) r,Zk.mono e (ds:=ds) q⟩
end
mutual
theorem Rep.keep (ht:∀ a xs,SqT K H a xs → SqT K H' a xs) (hs:∀ a xs,SqF K H a xs → SqF K H' a xs):∀ {d:D} {v:V},Rep K H ι d v → Rep K H' ι d v
 | .non,_,h=>by simpa [Rep] using h
 | .bl _,_,h=>by simpa [Rep] using h
 | .int _,_,h=>by simpa [Rep] using h
 | .str _,_,h=>by simpa [Rep] using h
 | .tup ds,_,h=>by
  simp only [Rep] at h ⊢
  obtain ⟨a,vs,rfl,s,r⟩:=h
  exact ⟨a,vs,rfl,ht _ _ s,Zk.keep ht hs (ds:=ds) r⟩
 | .scr ds,_,h=>by
  simp only [Rep] at h ⊢
  obtain ⟨a,vs,rfl,s,r⟩:=h
  exact ⟨a,vs,rfl,hs _ _ s,Zk.keep ht hs (ds:=ds) r⟩
 | .ref n,_,h=>by simpa [Rep] using h
theorem Zk.keep (ht:∀ a xs,SqT K H a xs → SqT K H' a xs) (hs:∀ a xs,SqF K H a xs → SqF K H' a xs):∀ {ds:List D} {vs:List V},Zk K H ι ds vs → Zk K H' ι ds vs
 | [],_,h=>by simpa [Zk] using h
 | d :: ds,_,h=>by
  simp only [Zk] at h ⊢
  obtain ⟨v,ws,rfl,r,q⟩:=h
  exact ⟨v,ws,rfl,Rep.keep ht hs (d:=d) r,Zk.keep ht hs (ds:=ds) q⟩
end
theorem Zk.nil:Zk K H ι [] []:=by simp [Zk]
theorem Zk.cons {d:D} {ds:List D} {v:V} {vs:List V} (h:Rep K H ι d v) (t:Zk K H ι ds vs):Zk K H ι (d :: ds) (v :: vs):=by
 simp only [Zk]
 exact ⟨v,vs,rfl,h,t⟩
theorem Zk.nil_inv {vs:List V} (h:Zk K H ι [] vs):vs = []:=by simpa [Zk] using h
theorem Zk.cons_inv {d:D} {ds:List D} {vs:List V} (h:Zk K H ι (d :: ds) vs):∃ v ws,vs = v :: ws ∧ Rep K H ι d v ∧ Zk K H ι ds ws:=by simpa [Zk] using h
theorem Zk.length:∀ {ds:List D} {vs:List V},Zk K H ι ds vs → vs.length = ds.length
 | [],_,h=>by rw [h.nil_inv]; rfl
 | d :: ds,_,h=>by
  obtain ⟨v,ws,rfl,_,q⟩:=h.cons_inv
  simp [q.length]
theorem Zk.append:∀ {ds es:List D} {vs ws:List V},Zk K H ι ds vs → Zk K H ι es ws → Zk K H ι (ds ++ es) (vs ++ ws)
 | [],_,_,_,h,q=>by rw [h.nil_inv]; exact q
 | d :: ds,_,_,_,h,q=>by
  obtain ⟨v,us,rfl,r,t⟩:=h.cons_inv
  exact Zk.cons r (t.append q)
theorem Zk.drop:∀ {ds:List D} {vs:List V} (n:Nat),Zk K H ι ds vs → Zk K H ι (ds.drop n) (vs.drop n)
 | _,_,0,h=>h
 | [],_,n + 1,h=>by rw [h.nil_inv]; exact Zk.nil
 | d :: ds,_,n + 1,h=>by
  obtain ⟨v,us,rfl,r,t⟩:=h.cons_inv
  exact t.drop n
theorem Zk.take:∀ {ds:List D} {vs:List V} (n:Nat),Zk K H ι ds vs → Zk K H ι (ds.take n) (vs.take n)
 | _,_,0,h=>Zk.nil
 | [],_,n + 1,h=>by rw [h.nil_inv]; exact Zk.nil
 | d :: ds,_,n + 1,h=>by
  obtain ⟨v,us,rfl,r,t⟩:=h.cons_inv
  exact Zk.cons r (t.take n)
theorem Zk.get:∀ {ds:List D} {vs:List V} {i:Nat} {d:D},Zk K H ι ds vs → ds[i]? = some d → ∃ v,vs[i]? = some v ∧ Rep K H ι d v
 | [],_,_,_,_,e=>by simp at e
 | d :: ds,_,0,_,h,e=>by
  obtain ⟨v,us,rfl,r,t⟩:=h.cons_inv
  simp at e; subst e
  exact ⟨v,rfl,r⟩
 | d :: ds,_,i + 1,_,h,e=>by
  obtain ⟨v,us,rfl,r,t⟩:=h.cons_inv
  obtain ⟨w,q,z⟩:=t.get (i:=i) (by simpa using e)
  exact ⟨w,by simpa using q,z⟩
theorem Zk.set:∀ {ds:List D} {vs:List V} {d:D} {v:V} (i:Nat),Zk K H ι ds vs → Rep K H ι d v → Zk K H ι (ds.set i d) (vs.set i v)
 | [],_,_,_,_,h,_=>by rw [h.nil_inv]; exact Zk.nil
 | d :: ds,_,_,_,0,h,q=>by
  obtain ⟨v,us,rfl,r,t⟩:=h.cons_inv
  exact Zk.cons q t
 | d :: ds,_,_,_,i + 1,h,q=>by
  obtain ⟨v,us,rfl,r,t⟩:=h.cons_inv
  exact Zk.cons r (t.set i q)
theorem Zk.ints:∀ (ns:List Int),Zk K H ι (ns.map D.int) (ns.map V.int)
 | []=>Zk.nil
 | n :: ns=>Zk.cons (by simp [Rep]) (Zk.ints ns)
theorem Rep.non_inv {v:V} (h:Rep K H ι .non v):v = .non:=by simpa [Rep] using h
theorem Rep.bl_inv {v:V} {b:Bool} (h:Rep K H ι (.bl b) v):v = .bl b:=by simpa [Rep] using h
theorem Rep.int_inv {v:V} {i:Int} (h:Rep K H ι (.int i) v):v = .int i:=by simpa [Rep] using h
theorem Rep.str_inv {v:V} {x:List Nat} (h:Rep K H ι (.str x) v):v = .str ⟨x.toArray⟩:=by simpa [Rep] using h
theorem Rep.tup_inv {v:V} {ds:List D} (h:Rep K H ι (.tup ds) v):∃ a vs,v = .ref a ∧ SqT K H a vs ∧ Zk K H ι ds vs:=by simpa [Rep] using h
theorem Rep.scr_inv {v:V} {ds:List D} (h:Rep K H ι (.scr ds) v):∃ a vs,v = .ref a ∧ SqF K H a vs ∧ Zk K H ι ds vs:=by simpa [Rep] using h
theorem Rep.ref_inv {v:V} {n:Nat} (h:Rep K H ι (.ref n) v):∃ a,ι[n]? = some a ∧ v = .ref a:=by simpa [Rep] using h
theorem Rep.non:Rep K H ι .non .non:=by simp [Rep]
theorem Rep.bl {b:Bool}:Rep K H ι (.bl b) (.bl b):=by simp [Rep]
theorem Rep.int {i:Int}:Rep K H ι (.int i) (.int i):=by simp [Rep]
theorem Rep.str {x:List Nat}:Rep K H ι (.str x) (.str ⟨x.toArray⟩):=by simp [Rep]
theorem Rep.tup {a:Addr} {vs:List V} {ds:List D} (s:SqT K H a vs) (r:Zk K H ι ds vs):Rep K H ι (.tup ds) (.ref a):=by
 simp only [Rep]; exact ⟨a,vs,rfl,s,r⟩
theorem Rep.ref {a:Addr} {n:Nat} (s:ι[n]? = some a):Rep K H ι (.ref n) (.ref a):=by
 simp only [Rep]; exact ⟨a,s,rfl⟩
end
noncomputable def ExO (e C:Addr) (h:Heap):Prop:=∃ o vs,h.get? e = some o ∧ o.cls = .ref C ∧ o.data = .fields vs
noncomputable abbrev exH (e C:Addr):HO:=.ext (ExO e C)
noncomputable def dk:ZbO → Key
 | .inl i=>.inl i
 | .inr x=>.inr ⟨x.toArray⟩
noncomputable def KvR (K:PySem.W.Frag) (H:Hp) (ι:List Addr) (kvs:List (ZbO × D)) (ws:List (Key × V)):Prop:=
 ws.map (·.1) = kvs.map (fun p=>dk p.1) ∧ Zk K H ι (kvs.map (·.2)) (ws.map (·.2))
noncomputable def FsR (K:PySem.W.Frag) (H:Hp) (ι:List Addr) (fs:List (List Nat × D)) (gs:List (Str × V)):Prop:=
 gs.map (·.1) = fs.map (fun p=>(⟨p.1.toArray⟩:Str)) ∧ Zk K H ι (fs.map (·.2)) (gs.map (·.2))
noncomputable def ClsAt (K:PySem.W.Frag) (c:List Nat) (C:Addr):Prop:=PySem.W.nsIn K mainGlobals ⟨c.toArray⟩ = some (some (.ref C))
noncomputable def Zdq (K:PySem.W.Frag) (H:Hp) (ι:List Addr):MO → Addr → Prop
 | .lst xs,a=>∃ vs,H a = some (.lst vs) ∧ Zk K H ι xs vs
 | .dct kvs,a=>∃ ws,H a = some (.dK ws) ∧ KvR K H ι kvs ws
 | .fdct kvs,a=>∃ ws,(∃ o,H a = some (.frz o (.dK ws))) ∧ KvR K H ι kvs ws
 | .ins c fs,a=>(∃ C dx gs,H a = some (.ins C dx gs) ∧ (ClsAt K c C ∧ c.head? ≠ some 0) ∧ FsR K H ι fs gs) ∨ ∃ C,H a = some (exH a C) ∧ c.head? = some 0 ∧ ClsAt K c.tail C ∧ fs = []
structure Zw (K:PySem.W.Frag) (H:Hp) (ι:List Addr) (M:Store):Prop where
 len:ι.length = M.length
 nd:ι.Nodup
 obj:∀ (n:Nat) o a,M[n]? = some o → ι[n]? = some a → Zdq K H ι o a
noncomputable def Loose (H:Hp) (p:Addr):Prop:=H p = none ∨ (∃ vs,H p = some (.lst vs)) ∨ (∃ ws,H p = some (.dK ws)) ∨ ∃ C dx gs,H p = some (.ins C dx gs)
section
variable {K:PySem.W.Frag} {H H':Hp} {ι ι':List Addr} {M:Store} {p:Addr} {o:HO}
theorem Loose.ne {a:Addr} {u:HO} (l:Loose H p) (h:H a = some u) (h1:∀ vs,u ≠ .lst vs) (h2:∀ ws,u ≠ .dK ws) (h3:∀ C dx gs,u ≠ .ins C dx gs:=by exact fun _ _ _ z=>nomatch z):a ≠ p:=by
 rintro rfl
 rcases l with l | ⟨vs,l⟩ | ⟨ws,l⟩ | ⟨C,dx,gs,l⟩
 ·rw [h] at l; cases l
 ·rw [h] at l; exact h1 vs (Option.some.inj l)
 ·rw [h] at l; exact h2 ws (Option.some.inj l)
 ·rw [h] at l; exact h3 C dx gs (Option.some.inj l)
theorem Loose.tup (l:Loose H p) {a:Addr} {xs:List V} (h:SqT K H a xs):SqT K (upd H p o) a xs:=by
 rcases h with (h | ⟨ob,h⟩) | h
 ·exact .inl (.inl (by rw [Zan (l.ne h (fun _ z=>nomatch z) (fun _ z=>nomatch z))]; exact h))
 ·exact .inl (.inr ⟨ob,by rw [Zan (l.ne h (fun _ z=>nomatch z) (fun _ z=>nomatch z))]; exact h⟩)
 ·exact .inr h
theorem Loose.scr (l:Loose H p) {a:Addr} {xs:List V} (h:SqF K H a xs):SqF K (upd H p o) a xs:=by
 rcases h with ⟨ob,h⟩ | h
 ·exact .inl ⟨ob,by rw [Zan (l.ne h (fun _ z=>nomatch z) (fun _ z=>nomatch z))]; exact h⟩
 ·exact .inr h
theorem Loose.frz (l:Loose H p) {a:Addr} {ob:Obj} {u:HO} (h:H a = some (.frz ob u)):upd H p o a = some (.frz ob u):=by
 rw [Zan (l.ne h (fun _ z=>nomatch z) (fun _ z=>nomatch z))]; exact h
theorem Loose.ext (l:Loose H p):Ext K H ι (upd H p o) ι:=⟨fun _ _ h=>l.tup h,fun _ _ h=>l.scr h,fun _ _ h=>h,fun _ _ _ h=>l.frz h⟩
theorem Loose.extA (l:Loose H p):Ext K H ι (upd H p o) (ι ++ [p]):=⟨fun _ _ h=>l.tup h,fun _ _ h=>l.scr h,fun n a h=>by
 rw [List.getElem?_append_left (List.getElem?_eq_some_iff.mp h).1]; exact h,fun _ _ _ h=>l.frz h⟩
theorem Zdq.mono {m:MO} {a:Addr} (e:Ext K H ι H' ι') (h:Zdq K H ι m a) (k:H' a = H a):Zdq K H' ι' m a:=by
 cases m with
 | lst xs=>obtain ⟨vs,q,r⟩:=h; exact ⟨vs,k.trans q,r.mono e⟩
 | dct kvs=>obtain ⟨ws,q,r1,r2⟩:=h; exact ⟨ws,k.trans q,r1,r2.mono e⟩
 | fdct kvs=>obtain ⟨ws,⟨o,q⟩,r1,r2⟩:=h; exact ⟨ws,⟨o,k.trans q⟩,r1,r2.mono e⟩
 | ins c fs=>
  rcases h with ⟨C,dx,gs,q,c,r1,r2⟩ | ⟨C,q,r⟩
  ·exact .inl ⟨C,dx,gs,k.trans q,c,r1,r2.mono e⟩
  ·exact .inr ⟨C,k.trans q,r⟩
theorem Zdq.ne {m:MO} {a:Addr} (h:Zdq K H ι m a):H a ≠ none:=by
 cases m with
 | lst xs=>obtain ⟨vs,q,r⟩:=h; rw [q]; simp
 | dct kvs=>obtain ⟨ws,q,r⟩:=h; rw [q]; simp
 | fdct kvs=>obtain ⟨ws,⟨o,q⟩,r⟩:=h; rw [q]; simp
 | ins c fs=>rcases h with ⟨C,dx,gs,q,r⟩ | ⟨C,q,r⟩ <;> (rw [q]; simp)
theorem Zw.at (S:Zw K H ι M) {n:Nat} {m:MO} (h:M[n]? = some m):∃ a,ι[n]? = some a ∧ Zdq K H ι m a:=by
 have hn:n < ι.length:=by rw [S.len]; exact (List.getElem?_eq_some_iff.mp h).1
 exact ⟨ι[n],by simp [hn],S.obj n m _ h (by simp [hn])⟩
theorem Zw.there (S:Zw K H ι M) {n:Nat} {a:Addr} (h:ι[n]? = some a):∃ m,M[n]? = some m ∧ Zdq K H ι m a:=by
 have hn:n < M.length:=by rw [← S.len]; exact (List.getElem?_eq_some_iff.mp h).1
 exact ⟨M[n],by simp [hn],S.obj n _ _ (by simp [hn]) h⟩
theorem Zw.fresh (S:Zw K H ι M) (hp:H p = none):p ∉ ι:=fun h=>by
 obtain ⟨n,hn⟩:=List.getElem?_of_mem h
 obtain ⟨m,_,q⟩:=S.there hn
 exact q.ne hp
theorem Zw.other (S:Zw K H ι M) (l:Loose H p) (hp:p ∉ ι):Zw K (upd H p o) ι M:=
 ⟨S.len,S.nd,fun n m a h1 h2=>(S.obj n m a h1 h2).mono l.ext (by
  rw [Zan]; rintro rfl; exact hp (List.mem_of_getElem? h2))⟩
theorem Zw.new (S:Zw K H ι M) (hp:H p = none) {m:MO} (h:Zdq K (upd H p o) (ι ++ [p]) m p):Zw K (upd H p o) (ι ++ [p]) (M ++ [m]):=by
 have hf:=S.fresh hp
 refine ⟨by simp [S.len],?_,fun n m' a h1 h2=>?_⟩
 ·exact List.nodup_append.mpr ⟨S.nd,by simp,fun x hx y hy=>by
   have e:y = p:=by simpa using hy
   subst e
   rintro rfl
   exact hf hx⟩
 ·by_cases hn:n < ι.length
  ·rw [List.getElem?_append_left hn] at h2
   rw [List.getElem?_append_left (by rw [← S.len]; exact hn)] at h1
   refine (S.obj n m' a h1 h2).mono (Loose.extA (.inl hp)) ?_
   rw [Zan]
   rintro rfl
   exact hf (List.mem_of_getElem? h2)
  ·rw [List.getElem?_append_right (Nat.le_of_not_lt hn)] at h2
   rw [List.getElem?_append_right (by rw [← S.len]; exact Nat.le_of_not_lt hn)] at h1
   have hlt:n - ι.length < 1:=by
    have:=(List.getElem?_eq_some_iff.mp h2).1
    simpa using this
   have e0:n - ι.length = 0:=Nat.le_antisymm (lA 1 234922001 T1 hlt) (Nat.zero_le _)
   rw [e0] at h2
   rw [← S.len,e0] at h1
   simp at h1 h2
   subst h1 h2
   exact h
theorem Zw.put (S:Zw K H ι M) {n:Nat} (l0:Loose H p) (hn:ι[n]? = some p) {m:MO} (h:Zdq K (upd H p o) ι m p):Zw K (upd H p o) ι (M.set n m):=by
 obtain ⟨m0,hm0,q0⟩:=S.there hn
 refine ⟨by simp [S.len],S.nd,fun k m' a h1 h2=>?_⟩
 by_cases hk:k = n
 ·subst hk
  rw [hn] at h2
  cases h2
  have hlt:k < M.length:=(List.getElem?_eq_some_iff.mp hm0).1
  rw [List.getElem?_set_self hlt] at h1
  cases h1
  exact h
 ·rw [List.getElem?_set_ne (Ne.symm hk)] at h1
  refine (S.obj k m' a h1 h2).mono (Loose.ext l0) ?_
  rw [Zan]
  rintro rfl
  have hlt1:=(List.getElem?_eq_some_iff.mp h2)
  have hlt2:=(List.getElem?_eq_some_iff.mp hn)
  exact hk ((List.getElem_inj S.nd).mp (hlt1.2.trans hlt2.2.symm))
theorem Zw.lst (S:Zw K H ι M) (hp:H p = none) {xs:List D} {vs:List V} (r:Zk K H ι xs vs):Ext K H ι (upd H p (.lst vs)) (ι ++ [p]) ∧ Zw K (upd H p (.lst vs)) (ι ++ [p]) (M ++ [.lst xs]) ∧ Rep K (upd H p (.lst vs)) (ι ++ [p]) (.ref M.length) (.ref p):=by
 have e:Ext K H ι (upd H p (.lst vs)) (ι ++ [p]):=Loose.extA (.inl hp)
 refine ⟨e,S.new hp ⟨vs,ZaQ,r.mono e⟩,Rep.ref ?_⟩
 rw [← S.len]; simp
theorem Zw.tupl (S:Zw K H ι M) (hp:H p = none) {xs:List D} {vs:List V} (r:Zk K H ι xs vs):Ext K H ι (upd H p (.tup vs)) ι ∧ Zw K (upd H p (.tup vs)) ι M ∧ Rep K (upd H p (.tup vs)) ι (.tup xs) (.ref p):=by
 have e:Ext K H ι (upd H p (.tup vs)) ι:=Loose.ext (.inl hp)
 exact ⟨e,S.other (.inl hp) (S.fresh hp),Rep.tup (SqT.of ZaQ) (r.mono e)⟩
theorem Zw.setl (S:Zw K H ι M) {n:Nat} (l0:Loose H p) (hn:ι[n]? = some p) {xs:List D} {vs:List V} (r:Zk K H ι xs vs):Ext K H ι (upd H p (.lst vs)) ι ∧ Zw K (upd H p (.lst vs)) ι (M.set n (.lst xs)):=by
 have e:Ext K H ι (upd H p (.lst vs)) ι:=Loose.ext l0
 exact ⟨e,S.put l0 hn ⟨vs,ZaQ,r.mono e⟩⟩
end
noncomputable def ZaU (K:PySem.W.Frag) (H:Hp) (ι:List Addr) (env:Zz) (σ:St):Prop:=
 env.length = σ.length ∧ ∀ (i:Nat) d,env[i]? = some (some d) → ∃ v,σ[i]? = some (some v) ∧ Rep K H ι d v
theorem ZaU.mono {K:PySem.W.Frag} {H H':Hp} {ι ι':List Addr} {env:Zz} {σ:St} (r:ZaU K H ι env σ) (e:Ext K H ι H' ι'):ZaU K H' ι' env σ:=
 ⟨r.1,fun i d h=>let ⟨v,q,z⟩:=r.2 i d h; ⟨v,q,z.mono e⟩⟩
theorem ZaU.set {K:PySem.W.Frag} {H:Hp} {ι:List Addr} {env:Zz} {σ:St} {d:D} {v:V} (r:ZaU K H ι env σ) (i:Nat) (h:Rep K H ι d v):ZaU K H ι (env.set i (some d)) (σ.set i (some v)):=by
 refine ⟨by simp [r.1],fun j e hj=>?_⟩
 by_cases hij:j = i
 ·subst hij
  have hlt:j < env.length:=by
   have:=(List.getElem?_eq_some_iff.mp hj).1
   simpa using this
  rw [List.getElem?_set_self hlt] at hj
  cases hj
  exact ⟨v,by rw [List.getElem?_set_self (by rw [← r.1]; exact hlt)],h⟩
 ·rw [List.getElem?_set_ne (Ne.symm hij)] at hj
  obtain ⟨w,q,z⟩:=r.2 j e hj
  exact ⟨w,by rw [List.getElem?_set_ne (Ne.symm hij)]; exact q,z⟩
noncomputable def Zu (K:PySem.W.Frag) (H:Hp) (ι:List Addr) (Q:VK) (r:R3 D):Prop:=match r with
 | .ok d M'=>∀ v H' ι',Ext K H ι H' ι' → Zw K H' ι' M' → Rep K H' ι' d v → Q v H'
 | _=>False
noncomputable def tOf (K:PySem.W.Frag) (f:E3):TE:=fun σ H Q=>∃ ι M env,Zw K H ι M ∧ ZaU K H ι env σ ∧ Zu K H ι Q (f env M)
noncomputable def Zes (K:PySem.W.Frag) (H:Hp) (ι:List Addr) (Q:Bool → Hp → Prop) (r:R3 D):Prop:=match r with
 | .ok (.bl b) M'=>∀ H' ι',Ext K H ι H' ι' → Zw K H' ι' M' → Q b H'
 | _=>False
noncomputable def tTf (K:PySem.W.Frag) (f:E3):TT:=fun σ H Q=>∃ ι M env,Zw K H ι M ∧ ZaU K H ι env σ ∧ Zes K H ι Q (f env M)
noncomputable def Zhw (K:PySem.W.Frag) (H:Hp) (ι:List Addr) (Q:List V → Hp → Prop) (r:R3 (List D)):Prop:=match r with
 | .ok ds M'=>∀ vs H' ι',Ext K H ι H' ι' → Zw K H' ι' M' → Zk K H' ι' ds vs → Q vs H'
 | _=>False
noncomputable def tAf (K:PySem.W.Frag) (f:EL3):TA:=fun σ H Q=>∃ ι M env,Zw K H ι M ∧ ZaU K H ι env σ ∧ Zhw K H ι Q (f env M)
noncomputable def ZiZ (K:PySem.W.Frag) (H:Hp) (ι:List Addr) (Q:Option Int → Hp → Prop) (r:R3 (Option Int)):Prop:=match r with
 | .ok o M'=>∀ H' ι',Ext K H ι H' ι' → Zw K H' ι' M' → Q o H'
 | _=>False
noncomputable def tOo (K:PySem.W.Frag) (f:EO3):TO:=fun σ H Q=>∃ ι M env,Zw K H ι M ∧ ZaU K H ι env σ ∧ ZiZ K H ι Q (f env M)
noncomputable def ZeU (K:PySem.W.Frag) (H:Hp) (ι:List Addr) (E:Ends) (r:O3):Prop:=match r with
 | .nx env' M'=>∀ σ' H' ι',Ext K H ι H' ι' → Zw K H' ι' M' → ZaU K H' ι' env' σ' → E.nx σ' H'
 | .bk env' M'=>∀ σ' H' ι',Ext K H ι H' ι' → Zw K H' ι' M' → ZaU K H' ι' env' σ' → E.bk σ' H'
 | .ct env' M'=>∀ σ' H' ι',Ext K H ι H' ι' → Zw K H' ι' M' → ZaU K H' ι' env' σ' → E.ct σ' H'
 | .rt d M'=>∀ v H' ι',Ext K H ι H' ι' → Zw K H' ι' M' → Rep K H' ι' d v → E.rt v H'
 | _=>False
noncomputable def tSf (K:PySem.W.Frag) (f:S3):TS:=fun E σ H=>∃ ι M env,Zw K H ι M ∧ ZaU K H ι env σ ∧ ZeU K H ι E (f env M)
noncomputable def C3 (X:Cx) (e:Expr) (f:E3):Prop:=PE X e (tOf X.K f)
noncomputable def CT (X:Cx) (e:Expr) (f:E3):Prop:=PT X e (tTf X.K f)
noncomputable def CA (X:Cx) (es:List Expr) (f:EL3):Prop:=PA X es (tAf X.K f)
noncomputable def CO (X:Cx) (e:Option Expr) (f:EO3):Prop:=PO X e (tOo X.K f)
noncomputable def CS (X:Cx) (st:Stmt) (f:S3):Prop:=PS X st (tSf X.K f)
noncomputable def CSs (X:Cx) (st:List Stmt) (f:S3):Prop:=PSs X st (tSf X.K f)
theorem _root_.L2.PE.imp {X:Cx} {e:Expr} {t t':TE} (h:PE X e t) (i:∀ σ H Q,t' σ H Q → t σ H Q):PE X e t':=fun pins s σ H Q I q=>h pins s σ H Q I (i σ H Q q)
theorem _root_.L2.PT.imp {X:Cx} {e:Expr} {t t':TT} (h:PT X e t) (i:∀ σ H Q,t' σ H Q → t σ H Q):PT X e t':=fun pins s σ H Q I q=>h pins s σ H Q I (i σ H Q q)
theorem _root_.L2.PA.imp {X:Cx} {e:List Expr} {t t':TA} (h:PA X e t) (i:∀ σ H Q,t' σ H Q → t σ H Q):PA X e t':=fun pos pins s σ H Q I q=>h pos pins s σ H Q I (i σ H Q q)
theorem _root_.L2.PO.imp {X:Cx} {e:Option Expr} {t t':TO} (h:PO X e t) (i:∀ σ H Q,t' σ H Q → t σ H Q):PO X e t':=fun pins s σ H Q I q=>h pins s σ H Q I (i σ H Q q)
theorem _root_.L2.PS.imp {X:Cx} {e:Stmt} {t t':TS} (h:PS X e t) (i:∀ D σ H,t' D σ H → t D σ H):PS X e t':=fun pins s σ H D I q=>h pins s σ H D I (i D σ H q)
theorem _root_.L2.PSs.imp {X:Cx} {e:List Stmt} {t t':TS} (h:PSs X e t) (i:∀ D σ H,t' D σ H → t D σ H):PSs X e t':=fun pins s σ H D I q=>h pins s σ H D I (i D σ H q)
theorem _root_.L2.OpR.imp {X:Cx} {f:Value → Value → Sem Value} {r r':R2} (h:OpR X f r) (i:∀ x y H Q,r' x y H Q → r x y H Q):OpR X f r':=fun pins s σ H x y v u Q I rx ry q=>h pins s σ H x y v u Q I rx ry (i x y H Q q)
theorem _root_.L2.UnR.imp {X:Cx} {f:Value → Sem Value} {r r':V → Hp → VK → Prop} (h:UnR X f r) (i:∀ x H Q,r' x H Q → r x H Q):UnR X f r':=fun pins s σ H x v Q I rx q=>h pins s σ H x v Q I rx (i x H Q q)
theorem _root_.L2.Zba.imp {X:Cx} {f:Value} {r r':List V → Hp → VK → Prop} (h:Zba X f r) (i:∀ x H Q,r' x H Q → r x H Q):Zba X f r':=fun pins s σ H xs us Q I rx q=>h pins s σ H xs us Q I rx (i xs H Q q)
theorem _root_.L2.IxR.imp {X:Cx} {r r':R2} (h:IxR X r) (i:∀ x y H Q,r' x y H Q → r x y H Q):IxR X r':=fun value slice pins s σ H x y v u Q I rx ry q hs=>h value slice pins s σ H x y v u Q I rx ry (i x y H Q q) hs
theorem _root_.L2.SlR.imp {X:Cx} {r r':V → Option Int → Option Int → Hp → VK → Prop} (h:SlR X r) (i:∀ x lo hi H Q,r' x lo hi H Q → r x lo hi H Q):SlR X r':=fun pins s σ H x v vl vu lo hi sl Q I rx hs pl pu q=>h pins s σ H x v vl vu lo hi sl Q I rx hs pl pu (i x lo hi H Q q)
section
variable {K:PySem.W.Frag} {H H1:Hp} {ι ι1:List Addr}
theorem Zu.up {Q:VK} {r:R3 D} (e:Ext K H ι H1 ι1) (h:Zu K H ι Q r):Zu K H1 ι1 Q r:=by
 cases r with
 | ok d M=>exact fun v H' ι' e' S r=>h v H' ι' (e.trans e') S r
 | exc x M=>exact h
 | bad=>exact h
theorem Zes.up {Q:Bool → Hp → Prop} {r:R3 D} (e:Ext K H ι H1 ι1) (h:Zes K H ι Q r):Zes K H1 ι1 Q r:=by
 cases r with
 | ok d M=>cases d <;> first | exact h | exact fun H' ι' e' S=>h H' ι' (e.trans e') S
 | exc x M=>exact h
 | bad=>exact h
theorem ZeU.up {Q:Ends} {r:O3} (e:Ext K H ι H1 ι1) (h:ZeU K H ι Q r):ZeU K H1 ι1 Q r:=by
 cases r with
 | nx d M=>exact fun v H' ι' e' S r=>h v H' ι' (e.trans e') S r
 | bk d M=>exact fun v H' ι' e' S r=>h v H' ι' (e.trans e') S r
 | ct d M=>exact fun v H' ι' e' S r=>h v H' ι' (e.trans e') S r
 | rt d M=>exact fun v H' ι' e' S r=>h v H' ι' (e.trans e') S r
 | exc x M=>exact h
 | bad=>exact h
theorem Zu.ok {Q:VK} {d:D} {M:Store} {v:V} (h:Zu K H ι Q (.ok d M)) (S:Zw K H ι M) (r:Rep K H ι d v):Q v H:=h v H ι Ext.refl S r
theorem Zu.bind {α:Type} {Q:VK} {r:R3 α} {k:α → Store → R3 D} (h:Zu K H ι Q (r.bind k)):∃ a M,r = .ok a M ∧ Zu K H ι Q (k a M):=by
 cases r with
 | ok a M=>exact ⟨a,M,rfl,h⟩
 | exc x M=>exact h.elim
 | bad=>exact h.elim
theorem Zhw.bind {α:Type} {Q:List V → Hp → Prop} {r:R3 α} {k:α → Store → R3 (List D)} (h:Zhw K H ι Q (r.bind k)):∃ a M,r = .ok a M ∧ Zhw K H ι Q (k a M):=by
 cases r with
 | ok a M=>exact ⟨a,M,rfl,h⟩
 | exc x M=>exact h.elim
 | bad=>exact h.elim
theorem ZiZ.bind {α:Type} {Q:Option Int → Hp → Prop} {r:R3 α} {k:α → Store → R3 (Option Int)} (h:ZiZ K H ι Q (r.bind k)):∃ a M,r = .ok a M ∧ ZiZ K H ι Q (k a M):=by
 cases r with
 | ok a M=>exact ⟨a,M,rfl,h⟩
 | exc x M=>exact h.elim
 | bad=>exact h.elim
theorem Zes.bind {α:Type} {Q:Bool → Hp → Prop} {r:R3 α} {k:α → Store → R3 D} (h:Zes K H ι Q (r.bind k)):∃ a M,r = .ok a M ∧ Zes K H ι Q (k a M):=by
 cases r with
 | ok a M=>exact ⟨a,M,rfl,h⟩
 | exc x M=>exact h.elim
 | bad=>exact h.elim
end
noncomputable def r2 (K:PySem.W.Frag) (op:D → D → Store → R3 D):R2:=fun x y H Q=>∃ ι M a b,Zw K H ι M ∧ Rep K H ι a x ∧ Rep K H ι b y ∧ Zu K H ι Q (op a b M)
noncomputable def r1 (K:PySem.W.Frag) (op:D → Store → R3 D):V → Hp → VK → Prop:=fun x H Q=>∃ ι M a,Zw K H ι M ∧ Rep K H ι a x ∧ Zu K H ι Q (op a M)
noncomputable def rB (K:PySem.W.Frag) (b:List D → Store → R3 D):List V → Hp → VK → Prop:=fun xs H Q=>∃ ι M ds,Zw K H ι M ∧ Zk K H ι ds xs ∧ Zu K H ι Q (b ds M)
noncomputable def rM (K:PySem.W.Frag) (m:D → List D → Store → R3 D):V → List V → Hp → VK → Prop:=fun x xs H Q=>∃ ι M a ds,Zw K H ι M ∧ Rep K H ι a x ∧ Zk K H ι ds xs ∧ Zu K H ι Q (m a ds M)
noncomputable def rS (K:PySem.W.Frag):V → Option Int → Option Int → Hp → VK → Prop:=fun x lo hi H Q=>∃ ι M a,Zw K H ι M ∧ Rep K H ι a x ∧ Zu K H ι Q (Zgi a lo hi M)
theorem ZfI {K:PySem.W.Frag} {op:D → D → Store → R3 D} {f g:E3} (σ:St) (H:Hp) (Q:VK) (h:tOf K (e2 op f g) σ H Q):tOp (r2 K op) (tOf K f) (tOf K g) σ H Q:=by
 obtain ⟨ι,M,env,S,E,h⟩:=h
 obtain ⟨a,M1,e1,h⟩:=Zu.bind h
 obtain ⟨b,M2,e2,h⟩:=Zu.bind h
 refine ⟨ι,M,env,S,E,?_⟩
 rw [e1]
 intro v H1 ι1 x1 S1 r1
 refine ⟨ι1,M1,env,S1,E.mono x1,?_⟩
 rw [e2]
 intro u H2 ι2 x2 S2 r2
 exact ⟨ι2,M2,a,b,S2,r1.mono x2,r2,(h.up x1).up x2⟩
theorem Zk0 {K:PySem.W.Frag} {op:D → Store → R3 D} {f:E3} (σ:St) (H:Hp) (Q:VK) (h:tOf K (e1 op f) σ H Q):tUn (r1 K op) (tOf K f) σ H Q:=by
 obtain ⟨ι,M,env,S,E,h⟩:=h
 obtain ⟨a,M1,e1,h⟩:=Zu.bind h
 refine ⟨ι,M,env,S,E,?_⟩
 rw [e1]
 intro v H1 ι1 x1 S1 r1
 exact ⟨ι1,M1,a,S1,r1,h.up x1⟩
section
variable {X:Cx} {a b c e o:Expr} {es:List Expr} {pos p:Pos} {f g h:E3} {gl:EL3}
theorem Zd (i:Nat) {x:Str} (hN:X.N[i]? = some x:=by rfl) (hv:Vis X.env.scope x:=by first | exact Or.inl rfl | exact Or.inr (Or.inl rfl) | exact Or.inr (Or.inr rfl)) (hd:(x == ("__debug__":Str)) = false:=by decide)
  (hcd:(x == ("__classdict__":Str)) = false:=by decide):C3 X (.Name x pos) (Zb i):=(ZlV hN hv hd hcd).imp fun σ H Q zz1=>by
 obtain ⟨ι,M,env,S,E,h⟩:=zz1
 unfold Zb at h
 cases q:env[i]? with
 | none=>rw [q] at h; exact h.elim
 | some od=>
  cases od with
  | none=>rw [q] at h; exact h.elim
  | some d=>
   rw [q] at h
   obtain ⟨v,e1,r⟩:=E.2 i d q
   exact ⟨v,e1,Zu.ok h S r⟩
theorem Zn {i j}:C3 X (.Constant (.int i) j pos) (eC (.int i)):=Zk7.imp fun σ H Q ⟨ι,M,env,S,E,h⟩=>Zu.ok h S Rep.int
theorem ZeW {i j}:C3 X (.Constant (.bool i) j pos) (eC (.bl i)):=ZmE.imp fun σ H Q ⟨ι,M,env,S,E,h⟩=>Zu.ok h S Rep.bl
theorem ZkF {j}:C3 X (.Constant .none j pos) (eC .non):=ZlE.imp fun σ H Q ⟨ι,M,env,S,E,h⟩=>Zu.ok h S Rep.non
theorem Znw {x:Str} {cs:List Nat} {j} (hx:x = ⟨cs.toArray⟩:=by decide +kernel):C3 X (.Constant (.str x) j pos) (eC (.str cs)):=ZkX.imp fun σ H Q zz1=>by
 obtain ⟨ι,M,env,S,E,h⟩:=zz1
 subst hx
 exact Zu.ok h S Rep.str
theorem Zah {op:Operator} {q:D → D → Store → R3 D} (ho:OpR X (binaryOp op) (r2 X.K q)) (ha:C3 X a f) (hb:C3 X b g):C3 X (.BinOp a op b pos) (e2 q f g):=(ZmH ho ha hb).imp ZfI
theorem Zkg {op:UnaryOp} {q:D → Store → R3 D} (ho:UnR X (unaryOp op) (r1 X.K q)) (ha:C3 X a f):C3 X (.UnaryOp op a pos) (e1 q f):=(Zns ho ha).imp Zk0
theorem Zfi {op:CmpOp} {q:D → D → Store → R3 D} (ho:OpR X (compareOp op) (r2 X.K q)) (ha:C3 X a f) (hb:C3 X b g) (hm:behindInMarks op b = false:=by rfl):C3 X (.Compare a [op] [b] pos) (e2 q f g):=(ZjU ho ha hb hm).imp ZfI
theorem Ze2 {K:PySem.W.Frag} {H:Hp} {ι:List Addr} {Q:Bool → Hp → Prop} {r:R3 D} (h:Zes K H ι Q r):Zu K H ι (fun x H'=>∃ k,x = .bl k ∧ Q k H') r:=by
 cases r with
 | ok d M=>
  cases d with
  | bl b=>exact fun v H' ι' e S r=>⟨b,r.bl_inv,h H' ι' e S⟩
  | _=>exact h.elim
 | exc x M=>exact h.elim
 | bad=>exact h.elim
theorem Zbx (h:C3 X e f) (he:∀ whole,isTrue e X.env whole = (do let v ← whole; standAt e.pos; holding [v] (truthy v)):=by intro _; rfl):CT X e f:=(ZkV h he).imp fun σ H Q ⟨ι,M,env,S,E,h⟩=>⟨ι,M,env,S,E,Ze2 h⟩
theorem Zch {op:CmpOp} {q:D → D → Store → R3 D} (ho:OpR X (compareOp op) (r2 X.K q)) (ha:C3 X a f) (hb:C3 X b g) (hm:behindInMarks op b = false:=by rfl):CT X (.Compare a [op] [b] pos) (e2 q f g):=
 (Zjh ho ha hb hm).imp fun σ H Q ⟨ι,M,env,S,E,h⟩=>ZfI σ H _ ⟨ι,M,env,S,E,Ze2 h⟩
end
end L3
namespace L3
open PySem PySem.Spec PyProof.Rows L2
section
variable {X:Cx} {a b c e o:Expr} {es rest:List Expr} {pos p:Pos} {f g h:E3} {gl:EL3}
theorem Zex {op} (h:C3 X a f):C3 X (.BoolOp op [a] pos) f:=Zly h
theorem ZdP (ha:C3 X a f) (hb:C3 X (.BoolOp .And (b :: rest) pos) g):C3 X (.BoolOp .And (a :: b :: rest) pos) (ZcA f g):=(ZlB ha hb).imp fun σ H Q zz1=>by
 obtain ⟨ι,M,env,S,E,h⟩:=zz1
 obtain ⟨d,M1,e1,h⟩:=Zu.bind h
 refine ⟨ι,M,env,S,E,?_⟩
 rw [e1]
 intro v H1 ι1 x1 S1 r1
 cases d with
 | bl k=>
  refine ⟨k,r1.bl_inv,?_⟩
  cases k with
  | true=>rw [if_pos rfl]; exact ⟨ι1,M1,env,S1,E.mono x1,h.up x1⟩
  | false=>rw [if_neg (by decide)]; exact Zu.ok (h.up x1) S1 Rep.bl
 | _=>exact h.elim
theorem ZmL (ha:C3 X a f):C3 X (.UnaryOp .Not a pos) (e1 ZaM f):=(Zl8 ha).imp fun σ H Q zz1=>by
 obtain ⟨ι,M,env,S,E,h⟩:=zz1
 obtain ⟨d,M1,e1,h⟩:=Zu.bind h
 refine ⟨ι,M,env,S,E,?_⟩
 rw [e1]
 intro v H1 ι1 x1 S1 r1
 cases d with
 | bl k=>exact ⟨k,r1.bl_inv,Zu.ok (h.up x1) S1 Rep.bl⟩
 | _=>exact h.elim
noncomputable def CW (X:Cx) (e:Expr) (f:E3):Prop:=PW X e (tTf X.K f)
theorem CW.ct (h:CW X e f):CT X e f:=PW.pt h
theorem PW.imp {t t':TT} (h:PW X e t) (i:∀ σ H Q,t' σ H Q → t σ H Q):PW X e t':=fun wh pins s σ H Q I q=>h wh pins s σ H Q I (i σ H Q q)
theorem Zjw (ha:CT X a f):CW X (.BoolOp .And [a] pos) f:=Zjv ha
theorem Zgo (ha:CT X a f):CW X (.BoolOp .Or [a] pos) f:=ZkN ha
theorem Zlu (ha:CT X a f) (hb:CW X (.BoolOp .And (b :: rest) pos) g):CW X (.BoolOp .And (a :: b :: rest) pos) (ZcA f g):=PW.imp (Zlq ha hb) fun σ H Q zz1=>by
 obtain ⟨ι,M,env,S,E,h⟩:=zz1
 obtain ⟨d,M1,e1,h⟩:=Zes.bind h
 refine ⟨ι,M,env,S,E,?_⟩
 rw [e1]
 cases d with
 | bl k=>
  intro H1 ι1 x1 S1
  cases k with
  | true=>rw [if_pos rfl]; exact ⟨ι1,M1,env,S1,E.mono x1,h.up x1⟩
  | false=>rw [if_neg (by decide)]; exact h H1 ι1 x1 S1
 | _=>exact h.elim
theorem Zi7 (ha:CT X a f) (hb:CW X (.BoolOp .Or (b :: rest) pos) g):CW X (.BoolOp .Or (a :: b :: rest) pos) (eOr f g):=PW.imp (Zm5 ha hb) fun σ H Q zz1=>by
 obtain ⟨ι,M,env,S,E,h⟩:=zz1
 obtain ⟨d,M1,e1,h⟩:=Zes.bind h
 refine ⟨ι,M,env,S,E,?_⟩
 rw [e1]
 cases d with
 | bl k=>
  intro H1 ι1 x1 S1
  cases k with
  | false=>rw [if_neg (by decide)]; exact ⟨ι1,M1,env,S1,E.mono x1,h.up x1⟩
  | true=>rw [if_pos rfl]; exact h H1 ι1 x1 S1
 | _=>exact h.elim
theorem Zcf (ha:CT X a f):CT X (.UnaryOp .Not a pos) (e1 ZaM f):=(ZlD ha).imp fun σ H Q zz1=>by
 obtain ⟨ι,M,env,S,E,h⟩:=zz1
 obtain ⟨d,M1,e1,h⟩:=Zes.bind h
 refine ⟨ι,M,env,S,E,?_⟩
 rw [e1]
 cases d with
 | bl k=>exact fun H1 ι1 x1 S1=>h H1 ι1 x1 S1
 | _=>exact h.elim
theorem Zi:CA X [] Ze:=Zdi.imp fun σ H Q ⟨ι,M,env,S,E,h⟩=>h [] H ι Ext.refl S Zk.nil
theorem Zc (ha:C3 X e f) (hr:CA X es gl) (hs:starEach (e :: es) X.env = (false,eval e X.env) :: starEach es X.env:=by rfl):CA X (e :: es) (Za f gl):=(Zbt ha hr hs).imp fun σ H Q zz1=>by
 obtain ⟨ι,M,env,S,E,h⟩:=zz1
 obtain ⟨d,M1,e1,h⟩:=Zhw.bind h
 obtain ⟨ds,M2,e2,h⟩:=Zhw.bind h
 refine ⟨ι,M,env,S,E,?_⟩
 rw [e1]
 intro v H1 ι1 x1 S1 r1
 refine ⟨ι1,M1,env,S1,E.mono x1,?_⟩
 rw [e2]
 intro vs H2 ι2 x2 S2 r2
 exact h (v :: vs) H2 ι2 (x1.trans x2) S2 (Zk.cons (r1.mono x2) r2)
theorem Zfe {x1} (h:CA X es gl):C3 X (.Tuple es x1 pos) (ZcI gl):=(Zgu h).imp fun σ H Q zz1=>by
 obtain ⟨ι,M,env,S,E,h⟩:=zz1
 obtain ⟨ds,M1,e1,h⟩:=Zu.bind h
 refine ⟨ι,M,env,S,E,?_⟩
 rw [e1]
 intro vs H1 ι1 x1 S1 r1
 by_cases hz:ds.length ≤ SZ
 ·rw [if_pos hz] at h
  refine ⟨by rw [r1.length]; exact Nat.le_trans hz Zbi,fun p hp=>?_⟩
  obtain ⟨x2,S2,r2⟩:=S1.tupl hp r1
  exact h _ _ _ (x1.trans x2) S2 r2
 ·rw [if_neg hz] at h; exact h.elim
theorem ZbL (h:CA X es gl):C3 X (.List es pos) (ZaT gl):=(Zld h).imp fun σ H Q zz1=>by
 obtain ⟨ι,M,env,S,E,h⟩:=zz1
 obtain ⟨ds,M1,e1,h⟩:=Zu.bind h
 refine ⟨ι,M,env,S,E,?_⟩
 rw [e1]
 intro vs H1 ι1 x1 S1 r1
 by_cases hz:ds.length ≤ SZ
 ·rw [if_pos hz] at h
  refine ⟨by rw [r1.length]; exact Nat.le_trans hz Zbi,fun p hp=>?_⟩
  obtain ⟨x2,S2,r2⟩:=S1.lst hp r1
  exact h _ _ _ (x1.trans x2) S2 r2
 ·rw [if_neg hz] at h; exact h.elim
theorem ZiH {K:PySem.W.Frag} {q:List D → Store → R3 D} (σ:St) (H:Hp) (Q:VK) (h:tOf K (ZaJ q gl) σ H Q):tCB (rB K q) (tAf K gl) σ H Q:=by
 obtain ⟨ι,M,env,S,E,h⟩:=h
 obtain ⟨ds,M1,e1,h⟩:=Zu.bind h
 refine ⟨ι,M,env,S,E,?_⟩
 rw [e1]
 intro vs H1 ι1 x1 S1 r1
 exact ⟨ι1,M1,ds,S1,r1,h.up x1⟩
theorem Zb6 {x:Str} {id:String} {q:List D → Store → R3 D} (hc:Zba X (.builtin id) (rB X.K q)) (hm:X.mg x = none) (hv:bootBuiltins x = some (.builtin id)) (ha:CA X (e :: es) gl) (hg:Gl X x:=by rfl) (hn:x ≠ "__name__":=by decide) (hdb:(x == ("__debug__":Str)) = false:=by decide)
  (he:starEach (e :: es) X.env = (false,eval e X.env) :: starEach es X.env:=by rfl) (hpl:(backTo pos (starEach es X.env)).any (·.1) = false:=by rfl):C3 X (.Call (.Name x p) (e :: es) [] pos) (ZaJ q gl):=(ZcR hc hg hm hv ha hn hdb he hpl).imp ZiH
theorem Zfa {x:Str} {T:String} {q:List D → Store → R3 D} (hc:Zba X (.type T) (rB X.K q)) (hm:X.mg x = none) (hv:bootBuiltins x = some (.type T)) (ha:CA X (e :: es) gl) (hg:Gl X x:=by rfl) (hn:x ≠ "__name__":=by decide) (hdb:(x == ("__debug__":Str)) = false:=by decide)
  (he:starEach (e :: es) X.env = (false,eval e X.env) :: starEach es X.env:=by rfl) (hpl:(backTo pos (starEach es X.env)).any (·.1) = false:=by rfl):C3 X (.Call (.Name x p) (e :: es) [] pos) (ZaJ q gl):=(ZhF hc hg hm hv ha hn hdb he hpl).imp ZiH
theorem ZaI (hr:IxR X (r2 X.K Zh)) (ha:C3 X a f) (hb:C3 X b g) (hs:Zg0 b:=by exact fun _ _=>rfl):C3 X (.Subscript a b pos) (e2 Zh f g):=(ZmU hr ha hb hs).imp ZfI
theorem Zjy:CO X none ZkG:=Zj2.imp fun σ H Q ⟨ι,M,env,S,E,h⟩=>h H ι Ext.refl S
theorem Zfu (h:C3 X e f):CO X (some e) (ZdE f):=(ZjL h).imp fun σ H Q zz1=>by
 obtain ⟨ι,M,env,S,E,h⟩:=zz1
 obtain ⟨d,M1,e1,h⟩:=ZiZ.bind h
 refine ⟨ι,M,env,S,E,?_⟩
 rw [e1]
 intro v H1 ι1 x1 S1 r1
 cases d with
 | int i=>exact ⟨i,r1.int_inv,h H1 ι1 x1 S1⟩
 | _=>exact h.elim
theorem Zm3 {lo hi:Option Expr} {ol oh:EO3} {p2:Pos} (hr:SlR X (rS X.K)) (he:C3 X e f) (hl:CO X lo ol) (hu:CO X hi oh):C3 X (.Subscript e (.Slice lo hi none p2) pos) (eSl f ol oh):=(Zh2 hr he hl hu).imp fun σ H Q zz1=>by
 obtain ⟨ι,M,env,S,E,h⟩:=zz1
 obtain ⟨d,M1,e1,h⟩:=Zu.bind h
 obtain ⟨l,M2,e2,h⟩:=Zu.bind h
 obtain ⟨u,M3,e3,h⟩:=Zu.bind h
 refine ⟨ι,M,env,S,E,?_⟩
 rw [e1]
 intro v H1 ι1 x1 S1 r1
 refine ⟨ι1,M1,env,S1,E.mono x1,?_⟩
 rw [e2]
 intro H2 ι2 x2 S2
 refine ⟨ι2,M2,env,S2,(E.mono x1).mono x2,?_⟩
 rw [e3]
 intro H3 ι3 x3 S3
 exact ⟨ι3,M3,d,S3,(r1.mono x2).mono x3,((h.up x1).up x2).up x3⟩
theorem Zay:CSs X [] Zac:=Zjx.imp fun D σ H ⟨ι,M,env,S,E,h⟩=>h σ H ι Ext.refl S E
theorem Zx {st:Stmt} {u:S3} (h:CS X st u):CSs X [st] u:=Zg3 h
theorem Zj {st:Stmt} {sts:List Stmt} {u w:S3} (h1:CS X st u) (h2:CSs X sts w):CSs X (st :: sts) (Zr u w):=(ZfZ h1 h2).imp fun D σ H zz1=>by
 obtain ⟨ι,M,env,S,E,h⟩:=zz1
 refine ⟨ι,M,env,S,E,?_⟩
 have h':ZeU X.K H ι D (match u env M with | .nx env' M'=>w env' M' | o=>o):=h
 cases q:u env M with
 | nx env' M'=>rw [q] at h'; exact fun σ' H' ι' x S' E'=>⟨ι',M',env',S',E',h'.up x⟩
 | _=>rw [q] at h'; exact h'
theorem Zbr {c1:Expr} {x y:List Stmt} {u w:S3} (hc:CT X c1 f) (ha:CSs X x u) (hb:CSs X y w):CS X (.If c1 x y pos) (sIf f u w):=(ZkC hc ha hb).imp fun D σ H zz1=>by
 obtain ⟨ι,M,env,S,E,h⟩:=zz1
 refine ⟨ι,M,env,S,E,?_⟩
 unfold sIf at h
 cases q:f env M with
 | ok d M1=>
  rw [q] at h
  cases d with
  | bl k=>
   intro H1 ι1 x1 S1
   cases k with
   | true=>rw [if_pos rfl]; exact ⟨ι1,M1,env,S1,E.mono x1,h.up x1⟩
   | false=>rw [if_neg (by decide)]; exact ⟨ι1,M1,env,S1,E.mono x1,h.up x1⟩
  | _=>exact h.elim
 | exc x M1=>rw [q] at h; exact h.elim
 | bad=>rw [q] at h; exact h.elim
theorem Zat (h:C3 X e f):CS X (.Return (some e) pos) (Zau f):=(Zmj h).imp fun D σ H zz1=>by
 obtain ⟨ι,M,env,S,E,h⟩:=zz1
 refine ⟨ι,M,env,S,E,?_⟩
 unfold Zau at h
 cases q:f env M with
 | ok d M1=>rw [q] at h; exact h
 | exc x M1=>rw [q] at h; exact h.elim
 | bad=>rw [q] at h; exact h.elim
theorem ZcD (h:C3 X e f) (hs:swapsWith e none pos.line X.env = pure false:=by rfl):CS X (.Expr e pos) (ZaC f):=(Zhg h hs).imp fun D σ H zz1=>by
 obtain ⟨ι,M,env,S,E,h⟩:=zz1
 refine ⟨ι,M,env,S,E,?_⟩
 unfold ZaC at h
 cases q:f env M with
 | ok d M1=>rw [q] at h; exact fun v H1 ι1 x1 S1 r1=>h σ H1 ι1 x1 S1 (E.mono x1)
 | exc x M1=>rw [q] at h; exact h.elim
 | bad=>rw [q] at h; exact h.elim
theorem ZaK (i:Nat) {x:Str} {pos':Pos} (hN:X.N.Nodup) (he:C3 X e f) (hi:X.N[i]? = some x:=by rfl) (hx:Loc X.env.scope x:=by first | exact Or.inl rfl | exact Or.inr rfl) (hs:swapsWith e (some (.Name x pos')) pos.line X.env = pure false:=by rfl)
  (hf:X.fn x = true ∨ X.env.scope.names.lookup x = some .local:=by first | exact .inl rfl | exact .inr rfl):CS X (.Assign [.Name x pos'] e pos) (Zaw i f):=(Zlj hN hi hx he hs hf).imp fun D σ H zz1=>by
 obtain ⟨ι,M,env,S,E,h⟩:=zz1
 refine ⟨ι,M,env,S,E,?_⟩
 unfold Zaw at h
 cases q:f env M with
 | ok d M1=>rw [q] at h; exact fun v H1 ι1 x1 S1 r1=>h _ H1 ι1 x1 S1 ((E.mono x1).set i r1)
 | exc x M1=>rw [q] at h; exact h.elim
 | bad=>rw [q] at h; exact h.elim
end
noncomputable def sp3 (K:PySem.W.Frag) (n:Nat) (F:F3):Sp:=fun vs H Q _=>∃ ι M ds,Zw K H ι M ∧ Zk K H ι ds vs ∧ ds.length = n ∧ Zu K H ι Q (F ds M)
section
variable {K:PySem.W.Frag} {H H':Hp} {ι ι':List Addr} {M M':Store}
mutual
theorem Rep.below:∀ {d:D} {v:V},Rep K H ι d v → L3.below ι.length d = true
 | .non,_,_=>rfl
 | .bl _,_,_=>rfl
 | .int _,_,_=>rfl
 | .str _,_,_=>rfl
 | .tup ds,_,h=>by
  obtain ⟨a,vs,_,_,r⟩:=h.tup_inv
  simp only [L3.below]
  exact Zk.belowL (ds:=ds) r
 | .scr ds,_,h=>by
  obtain ⟨a,vs,_,_,r⟩:=h.scr_inv
  simp only [L3.below]
  exact Zk.belowL (ds:=ds) r
 | .ref n,_,h=>by
  obtain ⟨a,q,_⟩:=h.ref_inv
  simp only [L3.below,decide_eq_true_eq]
  exact (List.getElem?_eq_some_iff.mp q).1
theorem Zk.belowL:∀ {ds:List D} {vs:List V},Zk K H ι ds vs → L3.belowL ι.length ds = true
 | [],_,_=>rfl
 | d :: ds,_,h=>by
  obtain ⟨v,ws,_,r,q⟩:=h.cons_inv
  simp only [L3.belowL,Bool.and_eq_true]
  exact ⟨Rep.below (d:=d) r,Zk.belowL (ds:=ds) q⟩
end
mutual
theorem Rep.cut {n:Nat}:∀ {d:D} {v:V},L3.below n d = true → Rep K H ι d v → Rep K H (ι.take n) d v
 | .non,_,_,h=>by simpa [Rep] using h
 | .bl _,_,_,h=>by simpa [Rep] using h
 | .int _,_,_,h=>by simpa [Rep] using h
 | .str _,_,_,h=>by simpa [Rep] using h
 | .tup ds,_,hb,h=>by
  obtain ⟨a,vs,rfl,s,r⟩:=h.tup_inv
  exact Rep.tup s (Zk.cut (ds:=ds) (by simpa only [L3.below] using hb) r)
 | .scr ds,_,hb,h=>by
  obtain ⟨a,vs,rfl,s,r⟩:=h.scr_inv
  simp only [Rep]
  exact ⟨a,vs,rfl,s,Zk.cut (ds:=ds) (by simpa only [L3.below] using hb) r⟩
 | .ref k,_,hb,h=>by
  obtain ⟨a,q,rfl⟩:=h.ref_inv
  refine Rep.ref ?_
  rw [List.getElem?_take_of_lt (by simpa [L3.below] using hb)]
  exact q
theorem Zk.cut {n:Nat}:∀ {ds:List D} {vs:List V},L3.belowL n ds = true → Zk K H ι ds vs → Zk K H (ι.take n) ds vs
 | [],_,_,h=>by simpa [Zk] using h
 | d :: ds,_,hb,h=>by
  obtain ⟨v,ws,rfl,r,q⟩:=h.cons_inv
  simp only [L3.belowL,Bool.and_eq_true] at hb
  exact Zk.cons (Rep.cut (d:=d) hb.1 r) (Zk.cut (ds:=ds) hb.2 q)
end
theorem Zdq.below {m:MO} {a:Addr} (h:Zdq K H ι m a):ZcC ι.length m = true:=by
 cases m with
 | lst xs=>obtain ⟨vs,_,r⟩:=h; exact r.belowL
 | dct kvs=>obtain ⟨ws,_,_,r⟩:=h; exact r.belowL
 | fdct kvs=>obtain ⟨ws,_,_,r⟩:=h; exact r.belowL
 | ins c fs=>
  rcases h with ⟨_,_,gs,_,_,_,r⟩ | ⟨_,_,_,_,rfl⟩
  ·exact r.belowL
  ·rfl
theorem Zdq.cut {n:Nat} {m:MO} {a:Addr} (hb:ZcC n m = true) (h:Zdq K H ι m a):Zdq K H (ι.take n) m a:=by
 cases m with
 | lst xs=>obtain ⟨vs,q,r⟩:=h; exact ⟨vs,q,r.cut hb⟩
 | dct kvs=>obtain ⟨ws,q,r1,r2⟩:=h; exact ⟨ws,q,r1,r2.cut hb⟩
 | fdct kvs=>obtain ⟨ws,q,r1,r2⟩:=h; exact ⟨ws,q,r1,r2.cut hb⟩
 | ins c fs=>
  rcases h with ⟨C,dx,gs,q,c,r1,r2⟩ | h
  ·exact .inl ⟨C,dx,gs,q,c,r1,r2.cut hb⟩
  ·exact .inr h
theorem Zw.cut {n:Nat} (S:Zw K H ι M) (h:(M.take n).all (ZcC n) = true):Zw K H (ι.take n) (M.take n):=by
 refine ⟨by simp [S.len],S.nd.sublist (List.take_sublist _ _),fun k m a h1 h2=>?_⟩
 have hk:k < n:=by
  have:=(List.getElem?_eq_some_iff.mp h1).1
  rw [List.length_take] at this
  exact Nat.lt_of_lt_of_le this (Nat.min_le_left _ _)
 have hb:ZcC n m = true:=List.all_eq_true.mp h m (List.mem_of_getElem? h1)
 rw [List.getElem?_take_of_lt hk] at h1 h2
 exact (S.obj k m a h1 h2).cut hb
theorem ZfA {Q:VK} {d:D} {v:V} (S:Zw K H ι M) (x:Ext K H ι H' ι') (S':Zw K H' ι' M') (r:Rep K H' ι' d v) (h:Zu K H ι Q (ZbQ M d M')):Q v H':=by
 unfold ZbQ at h
 split at h
 ·rename_i c
  simp only [Bool.and_eq_true,Bool.or_eq_true,decide_eq_true_eq] at c
  have hall:(M'.take M.length).all (ZcC M.length) = true:=by
   rcases c.2 with e | e
   ·rw [e,List.all_eq_true]
    intro m hm
    obtain ⟨n,hn⟩:=List.getElem?_of_mem hm
    obtain ⟨a,q,w⟩:=S.at hn
    rw [← S.len]
    exact w.below
   ·exact e
  refine h v H' (ι'.take M.length) ⟨x.tup,x.scr,fun n a q=>?_,x.frz⟩ (S'.cut hall) (r.cut c.1)
  rw [List.getElem?_take_of_lt (by rw [← S.len]; exact (List.getElem?_eq_some_iff.mp q).1)]
  exact x.pre n a q
 ·exact h v H' ι' x S' r
end
theorem ZaU.start {K:PySem.W.Frag} {H:Hp} {ι:List Addr} {ds:List D} {vs:List V} (r:Zk K H ι ds vs) (n:Nat):ZaU K H ι (ds.map some ++ List.replicate n none) (vs.map some ++ List.replicate n none):=by
 refine ⟨by simp [r.length],fun i d h=>?_⟩
 by_cases hi:i < ds.length
 ·rw [List.getElem?_append_left (by simpa using hi),List.getElem?_map] at h
  cases q:ds[i]? with
  | none=>rw [q] at h; simp at h
  | some d'=>
   rw [q] at h
   simp at h
   subst h
   obtain ⟨v,e,z⟩:=r.get q
   refine ⟨v,?_,z⟩
   rw [List.getElem?_append_left (by simpa [r.length] using hi),List.getElem?_map,e]
   rfl
 ·rw [List.getElem?_append_right (by simpa using hi),List.getElem?_replicate] at h
  split at h <;> simp at h
section
variable {P:Program} {w:World} {K:PySem.W.Frag} {mg:Str → Option Value} {base:Heap}
theorem fn3 {x qual:Str} {st:Stmt} {f:Addr} {fd:FuncData} {N ps:List Str} {k:Nat} {body:S3} (F:Fun K x qual st f fd) (S:Zaz N ps (Zg st))
  (hb:∀ (cdv:Value) (A:Around) (outer:List Env) (s:Shared) (H:Hp) (E:XK),ZaV k (A.deeper (envOfC qual (Zg st) s.heap.objs.size f cdv)) → CSs (ZdV CX0 P w K mg base N qual (Zg st) f cdv A outer s H E).nox (Zai st) body):
  ZbR P w K mg base CX0 (k + 1) f fd ps (sp3 K ps.length (mkF ps.length N.length body)):=by
 refine F.ok S (fun vs H Q E ⟨ι,M,ds,_,r,l,_⟩=>by rw [r.length,l]) fun cdv A outer s H vs Q E hr zz1=>?_
 obtain ⟨ι,M,ds,SR,r,l,h⟩:=zz1
 refine ⟨_,hb cdv A outer s H E hr,ι,M,ds.map some ++ List.replicate (N.length - ps.length) none,SR,?_,?_⟩
 ·have e:L2.start N vs = vs.map some ++ List.replicate (N.length - ps.length) none:=by unfold L2.start; rw [r.length,l]
  rw [e]
  exact ZaU.start r _
 ·unfold mkF at h
  rw [if_pos l] at h
  cases q:body (ds.map some ++ List.replicate (N.length - ps.length) none) M with
  | nx env' M'=>rw [q] at h; exact fun σ' H' ι' x S' E'=>ZfA SR x S' Rep.non h
  | rt d M'=>rw [q] at h; exact fun v H' ι' x S' r'=>ZfA SR x S' r' h
  | bk _ _=>rw [q] at h; exact h.elim
  | ct _ _=>rw [q] at h; exact h.elim
  | exc _ _=>rw [q] at h; exact h.elim
  | bad=>rw [q] at h; exact h.elim
noncomputable def Fn3 (P:Program) (w:World) (K:PySem.W.Frag) (mg:Str → Option Value) (base:Heap) (k:Nat) (x:Str) (ps:List Str) (F:F3):Prop:=
 (∀ ds M,ds.length ≠ ps.length → F ds M = .bad) ∧ ∃ f fd,mg x = some (.ref f) ∧ PySem.W.keepIn K (.ref f) = true ∧ Binds K fd ps [] ∧ ZbR P w K mg base CX0 k f fd ps (sp3 K ps.length F)
noncomputable def ZbS (K:PySem.W.Frag) (mg:Str → Option Value) (x:Str) (st:Stmt) (ps:List Str):Prop:=∃ f fd,Fun K x x st f fd ∧ mg x = some (.ref f) ∧ Binds K fd ps []
theorem Fn3.mono {j k:Nat} {x:Str} {ps:List Str} {F:F3} (h:Fn3 P w K mg base j x ps F) (l:j ≤ k):Fn3 P w K mg base k x ps F:=
 let ⟨n,f,fd,a,b,c,d⟩:=h; ⟨n,f,fd,a,b,c,d.mono l⟩
theorem Fn3.of {x:Str} {st:Stmt} {N ps:List Str} {k:Nat} {body:S3} (d:ZbS K mg x st ps) (S:Zaz N ps (Zg st))
  (hb:∀ (f:Addr) (cdv:Value) (A:Around) (outer:List Env) (s:Shared) (H:Hp) (E:XK),ZaV k (A.deeper (envOfC x (Zg st) s.heap.objs.size f cdv)) → CSs (ZdV CX0 P w K mg base N x (Zg st) f cdv A outer s H E).nox (Zai st) body):
  Fn3 P w K mg base (k + 1) x ps (mkF ps.length N.length body):=by
 obtain ⟨f,fd,F,m,bi⟩:=d
 exact ⟨fun ds M h=>if_neg h,f,fd,m,F.kp,bi,fn3 F S (hb f)⟩
end
section
variable {X:Cx} {e:Expr} {es:List Expr} {pos p:Pos} {gl:EL3} {x:Str} {k:Nat} {ps:List Str} {F:F3}
theorem ZaL (G:Fn3 X.prog X.w X.K X.mg X.base k x ps F) (hr:ZaV k X.A) (ha:CA X (e :: es) gl) (hg:Gl X x:=by rfl) (hdb:(x == ("__debug__":Str)) = false:=by decide)
  (he:starEach (e :: es) X.env = (false,eval e X.env) :: starEach es X.env:=by rfl) (hpl:(backTo pos (starEach es X.env)).any (·.1) = false:=by rfl):C3 X (.Call (.Name x p) (e :: es) [] pos) (Zaa F gl):=by
 obtain ⟨hn,f,fd,m,kp,bi,ok⟩:=G
 refine (Zjt ok hr hg m kp bi .nil ZgQ ha hdb he hpl).imp fun σ H Q zz1=>?_
 obtain ⟨ι,M,env,S,E,h⟩:=zz1
 obtain ⟨ds,M1,e1,h⟩:=Zu.bind h
 refine ⟨ι,M,env,S,E,?_⟩
 rw [e1]
 intro vs H1 ι1 x1 S1 r1
 have hl:ds.length = ps.length:=by
  refine Decidable.byContradiction fun q=>?_
  rw [hn ds M1 q] at h
  exact h.elim
 exact ⟨ι1,M1,ds,S1,by rw [List.append_nil]; exact r1,hl,h.up x1⟩
end
end L3
namespace L3
open PySem PySem.Spec PyProof.Rows L2
noncomputable def tGf (K:PySem.W.Frag) (g:G3):TG:=fun v σ H Q=>∃ ι M env d env',Zw K H ι M ∧ ZaU K H ι env σ ∧ Rep K H ι d v ∧ g d env = some env' ∧ ∀ σ',ZaU K H ι env' σ' → Q σ' H
noncomputable def tGs (K:PySem.W.Frag) (is:List Nat):TGs:=fun vs σ H Q=>∃ ι M env ds env',Zw K H ι M ∧ ZaU K H ι env σ ∧ Zk K H ι ds vs ∧ bindAll is ds env = some env' ∧ ∀ σ',ZaU K H ι env' σ' → Q σ' H
noncomputable def CG (X:Cx) (tg:Expr) (g:G3):Prop:=PG X tg (tGf X.K g)
noncomputable def CGs (X:Cx) (tg:List Expr) (is:List Nat):Prop:=PGs X tg (tGs X.K is)
theorem PG.imp {X:Cx} {e:Expr} {t t':TG} (h:PG X e t) (i:∀ v σ H Q,t' v σ H Q → t v σ H Q):PG X e t':=fun pins s σ H v u Q I r q=>h pins s σ H v u Q I r (i v σ H Q q)
theorem PGs.imp {X:Cx} {e:List Expr} {t t':TGs} (h:PGs X e t) (i:∀ v σ H Q,t' v σ H Q → t v σ H Q):PGs X e t':=fun pins s σ H v u Q I r q=>h pins s σ H v u Q I r (i v σ H Q q)
section
variable {X:Cx} {e:Expr} {es:List Expr} {pos:Pos}
theorem ZdG (i:Nat) {x:Str} (hN:X.N.Nodup) (hi:X.N[i]? = some x:=by rfl) (hx:Loc X.env.scope x:=by first | exact Or.inl rfl | exact Or.inr rfl)
  (hf:X.fn x = true ∨ X.env.scope.names.lookup x = some .local:=by first | exact .inl rfl | exact .inr rfl):CG X (.Name x pos) (Zcv i):=PG.imp (ZgP hN hi hx hf) fun v σ H Q zz1=>by
 obtain ⟨ι,M,env,d,env',S,E,r,q,h⟩:=zz1
 cases q
 exact h _ (E.set i r)
theorem ZjP:CGs X [] []:=PGs.imp ZjK fun v σ H Q zz1=>by
 obtain ⟨ι,M,env,ds,env',S,E,r,q,h⟩:=zz1
 cases ds with
 | nil=>cases q; exact ⟨r.nil_inv,h σ E⟩
 | cons d ds=>cases q
theorem Zf3 (i:Nat) {is:List Nat} {x:Str} (hN:X.N.Nodup) (ht:CGs X es is) (hi:X.N[i]? = some x:=by rfl) (hx:Loc X.env.scope x:=by first | exact Or.inl rfl | exact Or.inr rfl)
  (hf:X.fn x = true ∨ X.env.scope.names.lookup x = some .local:=by first | exact .inl rfl | exact .inr rfl) (hs:(assignEach (.Name x pos :: es) X.env).map (·.2) = assign (.Name x pos) X.env :: (assignEach es X.env).map (·.2):=by rfl):
  CGs X (.Name x pos :: es) (i :: is):=PGs.imp (Zh5 (ZgP hN hi hx hf) ht hs) fun v σ H Q zz1=>by
 obtain ⟨ι,M,env,ds,env',S,E,r,q,h⟩:=zz1
 cases ds with
 | nil=>cases q
 | cons d ds=>
  obtain ⟨v,ws,rfl,r1,r2⟩:=r.cons_inv
  exact ⟨v,ws,rfl,ι,M,env.set i (some d),ds,env',S,E.set i r1,r2,q,h⟩
theorem ZlO {is:List Nat} {k:Nat} (hc:X.calm = true) (h:CGs X es is) (hl:es.length = is.length:=by rfl) (hn:(assignEach es X.env).length = is.length:=by rfl) (hst:(assignEach es X.env).findIdx? (·.1) = none:=by rfl):CG X (.Tuple es k pos) (Zi6 is):=
 PG.imp (Zmi (n:=is.length) hc h hn hst) fun v σ H Q zz1=>by
  obtain ⟨ι,M,env,d,env',S,E,r,q,h⟩:=zz1
  cases d with
  | tup ds=>
   obtain ⟨a,vs,rfl,s,r⟩:=r.tup_inv
   have hlen:∀ (is:List Nat) (ds:List D) (env env':Zz),bindAll is ds env = some env' → ds.length = is.length:=by
    intro is
    induction is with
    | nil=>intro ds env env' h; cases ds with | nil=>rfl | cons d ds=>cases h
    | cons i is ih=>intro ds env env' h; cases ds with | nil=>cases h | cons d ds=>simp [ih ds _ _ h]
   exact ⟨a,vs,rfl,s,by rw [r.length]; exact hlen _ _ _ _ q,ι,M,env,ds,env',S,E,r,q,h⟩
  | _=>cases q
end
noncomputable def ZhH (K:PySem.W.Frag) (H:Hp) (ι:List Addr) (it:It3) (J:It):Prop:=∀ (i:Nat) H2 ι2 M2,Ext K H ι H2 ι2 → Zw K H2 ι2 M2 → locked it M2 = true →
 (∀ d,it.items[i]? = some d → J.go i H2 ∧ ∀ x H3,J.yld i H2 x H3 → H3 = H2 ∧ Rep K H2 ι2 d x) ∧ (i = it.items.length → J.stop i H2)
noncomputable def Zhl (K:PySem.W.Frag) (H:Hp) (ι:List Addr) (R:It → Hp → Prop) (r:R3 It3):Prop:=match r with
 | .ok it M'=>∀ J H' ι',Ext K H ι H' ι' → Zw K H' ι' M' → ZhH K H' ι' it J → R J H'
 | _=>False
noncomputable def tIf (K:PySem.W.Frag) (g:I3):TI:=fun σ H R=>∃ ι M env,Zw K H ι M ∧ ZaU K H ι env σ ∧ Zhl K H ι R (g env M)
noncomputable def CI (X:Cx) (tg e:Expr) (g:I3):Prop:=PI X tg e (tIf X.K g)
theorem PI.imp {X:Cx} {tg e:Expr} {t t':TI} (h:PI X tg e t) (i:∀ σ H Q,t' σ H Q → t σ H Q):PI X tg e t':=fun pins s σ H Q I q=>h pins s σ H Q I (i σ H Q q)
theorem PI.or {X:Cx} {tg e:Expr} {t t':TI} (h:PI X tg e t) (h':PI X tg e t'):PI X tg e (fun σ H R=>t σ H R ∨ t' σ H R):=fun pins s σ H Q I q=>q.elim (h pins s σ H Q I) (h' pins s σ H Q I)
theorem Zhl.bind {K:PySem.W.Frag} {H:Hp} {ι:List Addr} {α:Type} {Q:It → Hp → Prop} {r:R3 α} {k:α → Store → R3 It3} (h:Zhl K H ι Q (r.bind k)):∃ a M,r = .ok a M ∧ Zhl K H ι Q (k a M):=by
 cases r with
 | ok a M=>exact ⟨a,M,rfl,h⟩
 | exc x M=>exact h.elim
 | bad=>exact h.elim
section
variable {K:PySem.W.Frag} {H:Hp} {ι:List Addr}
end
section
variable {X:Cx} {tg e a b:Expr} {pos p:Pos} {f g:E3}
theorem ZkW (h:C3 X e f) (hs:PI X tg e (fun σ H R=>tOf X.K f σ H fun x H1=>∃ z:Str,x = .str z ∧ z.length ≤ SZ ∧ ∀ J,(∀ ι,ZhH X.K H1 ι ⟨z.cps.toList.map fun c=>.str [c],none⟩ J) → R J H1)):CI X tg e (Zdn f):=
 PI.imp (PI.or (ZkR h) (PI.or (Zkb h) hs)) fun σ H R zz1=>by
  obtain ⟨ι,M,env,S,E,h⟩:=zz1
  obtain ⟨d,M1,e1,h⟩:=Zhl.bind h
  cases d with
  | tup ds=>
   refine .inl ⟨ι,M,env,S,E,?_⟩
   rw [e1]
   intro v H1 ι1 x1 S1 r1
   obtain ⟨a,vs,rfl,s,r⟩:=r1.tup_inv
   refine ⟨a,rfl,⟨vs,s⟩,h _ H1 ι1 x1 S1 ?_⟩
   intro i H2 ι2 M2 x S2 _
   refine ⟨fun d hd=>?_,fun hl=>⟨vs,x.tup _ _ s,by rw [r.length,hl]; exact Nat.le_refl _⟩⟩
   obtain ⟨v,hv,rv⟩:=r.get hd
   refine ⟨⟨vs,v,x.tup _ _ s,hv⟩,fun y H3 hy=>⟨hy.1,?_⟩⟩
   have e:=hy.2 vs (x.tup _ _ s)
   rw [hv] at e
   cases e
   exact rv.mono x
  | scr ds=>
   refine .inr (.inl ⟨ι,M,env,S,E,?_⟩)
   rw [e1]
   intro v H1 ι1 x1 S1 r1
   obtain ⟨a,vs,rfl,s,r⟩:=r1.scr_inv
   refine ⟨a,rfl,⟨vs,s.sq⟩,h _ H1 ι1 x1 S1 ?_⟩
   intro i H2 ι2 M2 x S2 _
   refine ⟨fun d hd=>?_,fun hl=>⟨vs,(x.scr _ _ s).sq,by rw [r.length,hl]; exact Nat.le_refl _⟩⟩
   obtain ⟨v,hv,rv⟩:=r.get hd
   refine ⟨⟨vs,v,(x.scr _ _ s).sq,hv⟩,fun y H3 hy=>⟨hy.1,?_⟩⟩
   have e:=hy.2 vs (x.scr _ _ s).sq
   rw [hv] at e
   cases e
   exact rv.mono x
  | ref n=>
   refine .inr (.inl ⟨ι,M,env,S,E,?_⟩)
   rw [e1]
   intro v H1 ι1 x1 S1 r1
   cases hm:M1[n]? with
   | none=>simp only [hm] at h; exact h.elim
   | some o=>
    cases o with
    | dct kvs=>simp only [hm] at h; exact h.elim
    | fdct kvs=>simp only [hm] at h; exact h.elim
    | ins _ _=>simp only [hm] at h; exact h.elim
    | lst ds=>
     simp only [hm] at h
     obtain ⟨a,ha,rfl⟩:=r1.ref_inv
     obtain ⟨vs,q,r⟩:=S1.obj n _ a hm ha
     refine ⟨a,rfl,⟨vs,SqL.of q⟩,h _ H1 ι1 x1 S1 ?_⟩
     intro i H2 ι2 M2 x S2 lk
     have lk':M2[n]? = some (.lst ds):=of_decide_eq_true lk
     obtain ⟨vs2,q2,r2⟩:=S2.obj n _ a lk' (x.pre _ _ ha)
     refine ⟨fun d hd=>?_,fun hl=>⟨vs2,SqL.of q2,by rw [r2.length,hl]; exact Nat.le_refl _⟩⟩
     obtain ⟨v,hv,rv⟩:=r2.get hd
     refine ⟨⟨vs2,v,SqL.of q2,hv⟩,fun y H3 hy=>⟨hy.1,?_⟩⟩
     have e:=hy.2 vs2 (SqL.of q2)
     rw [hv] at e
     cases e
     exact rv
  | str z=>
   refine .inr (.inr ⟨ι,M,env,S,E,?_⟩)
   rw [e1]
   intro v H1 ι1 x1 S1 r1
   have hv:=r1.str_inv
   subst hv
   by_cases hz:z.length ≤ SZ
   ·simp only [if_pos hz] at h
    refine ⟨_,rfl,by simpa [Str.length] using hz,fun J hJ=>h J H1 ι1 x1 S1 ?_⟩
    simpa using hJ ι1
   ·simp only [if_neg hz] at h; exact h.elim
  | non=>exact h.elim
  | bl b=>exact h.elim
  | int i=>exact h.elim
theorem ZiR {K:PySem.W.Frag} {H:Hp} {ι:List Addr} (lo:Int) (n:Nat):ZhH K H ι ⟨ZcQ lo n,none⟩ (Itr lo n):=by
 intro i H2 ι2 M2 x S _
 refine ⟨fun d hd=>?_,fun hl=>?_⟩
 ·unfold ZcQ at hd
  rw [List.getElem?_map] at hd
  cases q:(List.range n)[i]? with
  | none=>rw [q] at hd; cases hd
  | some k=>
   rw [q] at hd
   obtain ⟨hi,e⟩:=List.getElem?_eq_some_iff.mp q
   rw [List.getElem_range] at e
   subst e
   have hd':D.int (lo + (i:Int)) = d:=by simpa using hd
   subst hd'
   exact ⟨(by show i < n; simpa using hi),fun y H3 hy=>⟨hy.1,by rw [hy.2]; exact Rep.int⟩⟩
 ·show n ≤ i
  rw [hl]
  simp [ZcQ]
theorem ZdY (hm:X.mg "range" = none) (h:C3 X a f) (hg:Gl X "range":=by rfl) (hs:starEach [a] X.env = [(false,eval a X.env)]:=by rfl) (hs':starEach (a :: []) X.env = (false,eval a X.env) :: starEach [] X.env:=by rfl):CI X tg (.Call (.Name "range" p) [a] [] pos) (Zcw f):=
 PI.imp (ZhJ hg hm (Zc h Zi hs') hs) fun σ H R zz1=>by
  obtain ⟨ι,M,env,S,E,h⟩:=zz1
  obtain ⟨d,M1,e1,h⟩:=Zhl.bind h
  refine ⟨ι,M,env,S,E,?_⟩
  have e2:Za f Ze env M = .ok [d] M1:=by unfold Za; rw [e1]; rfl
  rw [e2]
  intro vs H1 ι1 x1 S1 r1
  obtain ⟨v,ws,rfl,r,q⟩:=r1.cons_inv
  have:=q.nil_inv
  subst this
  cases d with
  | int j=>
   have hv:=r.int_inv
   subst hv
   by_cases hj:j ≤ 1000000 ∧ -1000000 ≤ j
   ·simp only [if_pos hj] at h
    exact ⟨j,rfl,by omega,by omega,h _ H1 ι1 x1 S1 (ZiR 0 j.toNat)⟩
   ·simp only [if_neg hj] at h; exact h.elim
  | _=>exact h.elim
theorem ZeD {iter:Expr} {body:List Stmt} {i:I3} {g:G3} {u:S3} (hxe:X.xe = fun _ _=>False) (hc:X.calm = true) (hi:CI X tg iter i) (hg:CG X tg g) (hb:CSs X body u) (hs:∀ x,foldedSetIterable iter X.env x = pure x:=by intro _; rfl):
  CS X (.For tg iter body [] pos) (ZdU i g u):=(Zlm (by rw [hxe]; exact PassesOwn.never) hc hi hg hb hs).imp fun D σ H zz1=>by
 obtain ⟨ι,M,env,S,E,h⟩:=zz1
 unfold ZdU at h
 cases q:i env M with
 | exc x M1=>rw [q] at h; exact h.elim
 | bad=>rw [q] at h; exact h.elim
 | ok it M1=>
  rw [q] at h
  refine ⟨ι,M,env,S,E,?_⟩
  rw [q]
  intro J H1 ι1 x1 S1 ok
  refine ⟨fun i m σ2 H2=>m = it.items.length - i ∧ i ≤ it.items.length ∧ ∃ ι2 M2 env2,Ext X.K H1 ι1 H2 ι2 ∧ Zw X.K H2 ι2 M2 ∧ ZaU X.K H2 ι2 env2 σ2 ∧ ZeU X.K H2 ι2 D (ZbJ it g u (it.items.drop i) env2 M2),
   ⟨_,rfl,Nat.zero_le _,ι1,M1,env,Ext.refl,S1,E.mono x1,ZeU.up x1 h⟩,?_⟩
  rintro i m σ2 H2 ⟨rfl,hi,ι2,M2,env2,x2,S2,E2,h2⟩
  by_cases hlt:i < it.items.length
  ·have hd:it.items[i]? = some it.items[i]:=by simp [hlt]
   rw [List.drop_eq_getElem_cons hlt] at h2
   unfold ZbJ at h2
   by_cases lk:locked it M2 = true
   ·rw [if_pos lk] at h2
    obtain ⟨go,yl⟩:=(ok i H2 ι2 M2 x2 S2 lk).1 _ hd
    cases eg:g it.items[i] env2 with
    | none=>rw [eg] at h2; exact h2.elim
    | some env3=>
     rw [eg] at h2
     refine .inr ⟨go,fun σ' H'=>∃ ι3 M3 env4,Ext X.K H2 ι2 H' ι3 ∧ Zw X.K H' ι3 M3 ∧ ZaU X.K H' ι3 env4 σ' ∧ ZeU X.K H' ι3 D (ZbJ it g u (it.items.drop (i + 1)) env4 M3),
      fun σ' H' ⟨ι3,M3,env4,x3,S3,E3,h3⟩=>⟨it.items.length - (i + 1),lD 2 0x30113c2012a1c0c21 T1 (Nat.sub_add_cancel (lB 1 6991908881 T1 hlt)) (sbA _ _),rfl,hlt,ι3,M3,env4,x2.trans x3,S3,E3,h3⟩,fun x H' hy=>?_⟩
     obtain ⟨rfl,rx⟩:=yl x H' hy
     refine ⟨ι2,M2,env2,_,env3,S2,E2,rx,eg,fun σ' E'=>⟨ι2,M2,env3,S2,E',?_⟩⟩
     cases qu:u env3 M2 with
     | nx e' M'=>simp only [qu] at h2; exact fun σ' H' ι' x' S' E'=>⟨ι',M',e',x',S',E',h2.up x'⟩
     | ct e' M'=>simp only [qu] at h2; exact fun σ' H' ι' x' S' E'=>⟨ι',M',e',x',S',E',h2.up x'⟩
     | bk e' M'=>simp only [qu] at h2; exact h2
     | rt d M'=>simp only [qu] at h2; exact h2
     | exc x' M'=>simp only [qu] at h2; exact h2.elim
     | bad=>simp only [qu] at h2; exact h2.elim
   ·rw [if_neg lk] at h2; exact h2.elim
  ·have e0:i = it.items.length:=Nat.le_antisymm hi (Nat.le_of_not_lt hlt)
   subst e0
   rw [List.drop_length] at h2
   unfold ZbJ at h2
   by_cases lk:locked it M2 = true
   ·rw [if_pos lk] at h2
    exact .inl ⟨(ok _ H2 ι2 M2 x2 S2 lk).2 rfl,h2 σ2 H2 ι2 Ext.refl S2 E2⟩
   ·rw [if_neg lk] at h2; exact h2.elim
end
end L3
namespace L3
open PySem PySem.Spec PyProof.Rows L2
theorem Zdp {x y:List Nat}:decide (V.str ⟨x.toArray⟩ = V.str ⟨y.toArray⟩) = (x == y):=by
 by_cases h:x = y
 ·subst h; simp
 ·rw [decide_eq_false (fun e=>h (by injection e with e1; injection e1 with e2; simpa using congrArg Array.toList e2))]
  exact (beq_eq_false_iff_ne.mpr h).symm
section
variable {X:Cx}
theorem Zi2:OpR X (binaryOp .Add) (fun x y H Q=>∃ a b ys,x = .ref a ∧ y = .ref b ∧ SqT X.K H a [] ∧ SqT X.K H b ys ∧ Q (.ref b) H):=by
 intro pins s σ H x y v u Q I rx ry h
 obtain ⟨a,b,ys,rfl,rfl,ha,hb,q⟩:=h
 cases rx
 cases ry
 obtain ⟨its,r1,p1,_⟩:=I.tuple ha
 obtain ⟨its2,r2,p2,_⟩:=I.tuple hb
 cases r1
 obtain ⟨⟨cls,dd,data,sl⟩,ho,hc,n,hd⟩:=id p1
 obtain ⟨⟨cls2,dd2,data2,sl2⟩,ho2,hc2,n2,hd2⟩:=id p2
 simp only at hc hd hc2 hd2
 subst hc hd hc2 hd2
 exact concat_meets ⟨_,ho,rfl⟩ ⟨_,ho2,rfl⟩ noFill_tuple_add seq_tuple_add PySem.F.slot_tuple_add PySem.F.entry_tuple_add (PySem.F.args_tuple_add_2 _ _)
   (tuple_addW0 a b _ its2.toArray n n2 dd dd2 sl sl2 (by simp)) ⟨ho,ho2,⟨.ref b,H,I,rfl,q⟩⟩
theorem ZjJ (x y:List Nat):(⟨x.toArray⟩:Str) ++ ⟨y.toArray⟩ = ⟨(x ++ y).toArray⟩:=by
 show Str.append _ _ = _
 unfold Str.append
 simp
theorem Ze3:OpR X (binaryOp .Add) (r2 X.K Zcb):=OpR.imp (OpR.or ZlN (OpR.or Zgv (OpR.or ZlX (OpR.or Zjo Zi2)))) fun x y H Q zz1=>by
 obtain ⟨ι,M,a,b,S,ra,rb,h⟩:=zz1
 cases a with
 | int i=>cases b with
  | int j=>exact .inl ⟨i,j,ra.int_inv,rb.int_inv,Zu.ok h S Rep.int⟩
  | _=>exact h.elim
 | str x=>cases b with
  | str y=>
   simp only [Zcb] at h
   split at h
   ·rename_i hz
    refine .inr (.inl ⟨_,_,ra.str_inv,rb.str_inv,?_,?_⟩)
    ·have:=Zbi
     simp only [Str.length,List.size_toArray]
     exact Nat.le_trans hz this
    ·rw [ZjJ]; exact Zu.ok h S Rep.str
   ·exact h.elim
  | _=>exact h.elim
 | tup x=>cases b with
  | tup y=>
   simp only [Zcb] at h
   split at h
   ·rename_i hz
    obtain ⟨p,vs,rfl,s,r⟩:=ra.tup_inv
    obtain ⟨q,ws,rfl,s',r'⟩:=rb.tup_inv
    by_cases hv:vs = []
    ·subst hv
     have hx:x = []:=by have:=r.length; simpa using this.symm
     subst hx
     exact .inr (.inr (.inr (.inr ⟨p,q,ws,rfl,rfl,s,s',Zu.ok h S (Rep.tup s' r')⟩)))
    ·refine .inr (.inr (.inr (.inl ⟨p,q,vs,ws,rfl,rfl,s,s',hv,?_,fun hw=>?_,fun hw p' hp=>?_⟩)))
     ·have:=Zbi
      rw [r.length,r'.length]
      exact Nat.le_trans hz this
     ·subst hw
      have hy:y = []:=by have:=r'.length; simpa using this.symm
      subst hy
      rw [List.append_nil] at h
      exact Zu.ok h S (Rep.tup s r)
     ·obtain ⟨x2,S2,r2⟩:=S.tupl hp (r.append r')
      exact h _ _ _ x2 S2 r2
   ·exact h.elim
  | _=>exact h.elim
 | ref n=>cases b with
  | ref m=>
   simp only [Zcb] at h
   cases hn:M[n]? with
   | none=>simp only [hn] at h; exact h.elim
   | some o=>
    cases o with
    | dct _=>simp only [hn] at h; exact h.elim
    | fdct _=>simp only [hn] at h; exact h.elim
    | ins _ _=>simp only [hn] at h; exact h.elim
    | lst x=>
     cases hm:M[m]? with
     | none=>simp only [hn,hm] at h; exact h.elim
     | some o=>
      cases o with
      | dct _=>simp only [hn,hm] at h; exact h.elim
      | fdct _=>simp only [hn,hm] at h; exact h.elim
      | ins _ _=>simp only [hn,hm] at h; exact h.elim
      | lst y=>
       simp only [hn,hm] at h
       split at h
       ·rename_i hz
        obtain ⟨p,hp,rfl⟩:=ra.ref_inv
        obtain ⟨q,hq,rfl⟩:=rb.ref_inv
        obtain ⟨vs,e1,r1⟩:=S.obj n _ p hn hp
        obtain ⟨ws,e2,r2⟩:=S.obj m _ q hm hq
        refine .inr (.inr (.inl ⟨p,q,vs,ws,rfl,rfl,e1,e2,?_,fun p' hp'=>?_⟩))
        ·have:=Zbi
         rw [r1.length,r2.length]
         exact Nat.le_trans hz this
        ·obtain ⟨x2,S2,r3⟩:=S.lst hp' (r1.append r2)
         exact h _ _ _ x2 S2 r3
       ·exact h.elim
  | _=>exact h.elim
 | _=>cases b <;> exact h.elim
theorem Zfd:OpR X (binaryOp .Sub) (r2 X.K ZbY):=OpR.imp ZkM fun x y H Q zz1=>by
 obtain ⟨ι,M,a,b,S,ra,rb,h⟩:=zz1
 cases a <;> cases b <;> first | exact h.elim | exact ⟨_,_,ra.int_inv,rb.int_inv,Zu.ok h S Rep.int⟩
theorem ZbG:OpR X (binaryOp .Mod) (r2 X.K Zaf):=OpR.imp Zlr fun x y H Q zz1=>by
 obtain ⟨ι,M,a,b,S,ra,rb,h⟩:=zz1
 cases a with
 | int i=>cases b with
  | int j=>
   simp only [Zaf] at h
   split at h
   ·rename_i hj
    exact ⟨i,j,ra.int_inv,rb.int_inv,hj,Zu.ok h S Rep.int⟩
   ·exact h.elim
  | _=>exact h.elim
 | _=>cases b <;> exact h.elim
theorem Zbw:OpR X (binaryOp .FloorDiv) (r2 X.K Zag):=OpR.imp Zkp fun x y H Q zz1=>by
 obtain ⟨ι,M,a,b,S,ra,rb,h⟩:=zz1
 cases a with
 | int i=>cases b with
  | int j=>
   simp only [Zag] at h
   split at h
   ·rename_i hj
    exact ⟨i,j,ra.int_inv,rb.int_inv,hj,Zu.ok h S Rep.int⟩
   ·exact h.elim
  | _=>exact h.elim
 | _=>cases b <;> exact h.elim
theorem ZgW:OpR X (binaryOp .Pow) (r2 X.K Zbb):=OpR.imp Zla fun x y H Q zz1=>by
 obtain ⟨ι,M,a,b,S,ra,rb,h⟩:=zz1
 cases a with
 | int i=>cases b with
  | int j=>
   simp only [Zbb] at h
   split at h
   ·rename_i hj
    exact ⟨i,j,ra.int_inv,rb.int_inv,⟨hj.1,iN [] [_] 1 0xf42405b083e83b081 T1 hj.2.1,by have:=hj.2.2; omega⟩,Zu.ok h S Rep.int⟩
   ·exact h.elim
  | _=>exact h.elim
 | _=>cases b <;> exact h.elim
theorem ZgO:UnR X (unaryOp .USub) (r1 X.K Zb5):=UnR.imp Zlp fun x H Q zz1=>by
 obtain ⟨ι,M,a,S,ra,h⟩:=zz1
 cases a with
 | int i=>exact ⟨i,ra.int_inv,Zu.ok h S Rep.int⟩
 | _=>exact h.elim
theorem Zkl:OpR X (compareOp .Lt) (r2 X.K Zed):=OpR.imp ZmD fun x y H Q zz1=>by
 obtain ⟨ι,M,a,b,S,ra,rb,h⟩:=zz1
 cases a <;> cases b <;> first | exact h.elim | exact ⟨_,_,ra.int_inv,rb.int_inv,Zu.ok h S Rep.bl⟩
theorem Zny:OpR X (compareOp .Gt) (r2 X.K Zd2):=OpR.imp Zm2 fun x y H Q zz1=>by
 obtain ⟨ι,M,a,b,S,ra,rb,h⟩:=zz1
 cases a <;> cases b <;> first | exact h.elim | exact ⟨_,_,ra.int_inv,rb.int_inv,Zu.ok h S Rep.bl⟩
theorem Zno:OpR X (compareOp .GtE) (r2 X.K Zh9):=OpR.imp ZnB fun x y H Q zz1=>by
 obtain ⟨ι,M,a,b,S,ra,rb,h⟩:=zz1
 cases a <;> cases b <;> first | exact h.elim | exact ⟨_,_,ra.int_inv,rb.int_inv,Zu.ok h S Rep.bl⟩
end
theorem units_in1 (A:Around):A.in1.units = A.units + 1:=rfl
section
variable {X:Cx} {pins:List (Addr × Obj)} {σ:St} {H:Hp} {s:Shared} {ι:List Addr}
theorem ZbM {e:Nat → Bool}:∀ {x y:List D},x.length = y.length → (∀ (j:Nat) a b,x[j]? = some a → y[j]? = some b → e j = deq a b) → (List.range x.length).all e = ZbN x y:=by
 intro x
 induction x generalizing e with
 | nil=>intro y h _; cases y with | nil=>rfl | cons _ _=>simp at h
 | cons a x ih=>
  intro y h he
  cases y with
  | nil=>simp at h
  | cons b y=>
   rw [List.length_cons,List.range_succ_eq_map,List.all_cons,List.all_map,he 0 a b rfl rfl]
   rw [ZbN]
   congr 1
   exact ih (e:=e ∘ Nat.succ) (by simpa using h) fun j a' b' h1 h2=>he (j + 1) a' b' (by simpa using h1) (by simpa using h2)
theorem Zcr:∀ {x y:List D},ZbN x y = true → x.length = y.length
 | [],[],_=>rfl
 | [],_ :: _,h=>by simp [ZbN] at h
 | _ :: _,[],h=>by simp [ZbN] at h
 | a :: x,b :: y,h=>by
  simp only [ZbN,Bool.and_eq_true] at h
  simp [Zcr h.2]
theorem Rep.fun1 (I:Inv X pins σ H s):∀ (n:Nat) (a b:D) (v:V),Zao n a = true → Zao n b = true → Rep X.K H ι a v → Rep X.K H ι b v → deq a b = true:=by
 intro n
 induction n with
 | zero=>
  intro a b v ha hb r q
  cases a with
  | non=>have:=r.non_inv; subst this; cases b <;> simp_all [Zao,Rep,deq]
  | bl x=>have:=r.bl_inv; subst this; cases b <;> simp_all [Zao,Rep,deq]
  | int x=>have:=r.int_inv; subst this; cases b <;> simp_all [Zao,Rep,deq]
  | str x=>have:=r.str_inv; subst this; cases b <;> simp_all [Zao,Rep,deq]
  | _=>simp [Zao] at ha
 | succ n ih=>
  intro a b v ha hb r q
  cases a with
  | non=>have:=r.non_inv; subst this; cases b <;> simp_all [Zao,Rep,deq]
  | bl x=>have:=r.bl_inv; subst this; cases b <;> simp_all [Zao,Rep,deq]
  | int x=>have:=r.int_inv; subst this; cases b <;> simp_all [Zao,Rep,deq]
  | str x=>have:=r.str_inv; subst this; cases b <;> simp_all [Zao,Rep,deq]
  | tup ds=>
   obtain ⟨p,vs,rfl,s1,r1⟩:=r.tup_inv
   cases b with
   | tup es=>
    obtain ⟨p',ws,e,s2,r2⟩:=q.tup_inv
    cases e
    have e:=I.tuple_inj s1 s2
    subst e
    rw [deq]
    have h1:ds.all (Zao n) = true:=ha
    have h2:es.all (Zao n) = true:=hb
    have key:∀ (ds es:List D) (vs:List V),ds.all (Zao n) = true → es.all (Zao n) = true → Zk X.K H ι ds vs → Zk X.K H ι es vs → ZbN ds es = true:=by
     intro ds
     induction ds with
     | nil=>intro es vs _ _ r1 r2; have:=r1.nil_inv; subst this; cases es with | nil=>rfl | cons _ _=>obtain ⟨_,_,e,_⟩:=r2.cons_inv; cases e
     | cons d ds ih2=>
      intro es vs h1 h2 r1 r2
      obtain ⟨v,ws,rfl,q1,q2⟩:=r1.cons_inv
      cases es with
      | nil=>have:=r2.nil_inv; cases this
      | cons e es=>
       obtain ⟨v',ws',z,q3,q4⟩:=r2.cons_inv
       cases z
       rw [List.all_cons,Bool.and_eq_true] at h1 h2
       rw [ZbN,ih d e v h1.1 h2.1 q1 q3,ih2 es ws h1.2 h2.2 q2 q4]
       rfl
    exact key ds es vs h1 h2 r1 r2
   | non=>have:=q.non_inv; cases this
   | bl _=>have:=q.bl_inv; cases this
   | int _=>have:=q.int_inv; cases this
   | str _=>have:=q.str_inv; cases this
   | _=>simp [Zao] at hb
  | _=>simp [Zao] at ha
theorem Zcs (A:Around) (a b:D) (x y:V) (u v:Value) (ha:Zdv a = true) (hb:Zdv b = true) (ra:Rep X.K H ι a x) (rb:Rep X.K H ι b y) (ru:RelV x u) (rv:RelV y v):SeqAt.EqAt A s u v (deq a b):=by
 cases a with
 | non=>have:=ra.non_inv; subst this; cases ru; cases b with
  | non=>have:=rb.non_inv; subst this; cases rv; exact SeqAt.EqAt.same _
  | bl k=>have:=rb.bl_inv; subst this; cases rv; exact SeqAt.EqAt.none_bool _
  | int k=>have:=rb.int_inv; subst this; obtain ⟨t,rfl⟩:=rv; exact SeqAt.EqAt.none_int _ _
  | str k=>have:=rb.str_inv; subst this; obtain ⟨t,rfl⟩:=rv; exact SeqAt.EqAt.none_str _ _
  | _=>simp [Zdv] at hb
 | bl i=>have:=ra.bl_inv; subst this; cases ru; cases b with
  | non=>have:=rb.non_inv; subst this; cases rv; exact SeqAt.EqAt.bool_none _
  | bl k=>have:=rb.bl_inv; subst this; cases rv; exact SeqAt.EqAt.bool_bool _ _
  | int k=>have:=rb.int_inv; subst this; obtain ⟨t,rfl⟩:=rv; exact SeqAt.EqAt.bool_int _ _ _
  | str k=>have:=rb.str_inv; subst this; obtain ⟨t,rfl⟩:=rv; exact SeqAt.EqAt.bool_str _ _ _
  | _=>simp [Zdv] at hb
 | int i=>have:=ra.int_inv; subst this; obtain ⟨t0,rfl⟩:=ru; cases b with
  | non=>have:=rb.non_inv; subst this; cases rv; exact SeqAt.EqAt.int_none _ _
  | bl k=>have:=rb.bl_inv; subst this; cases rv; exact SeqAt.EqAt.int_bool _ _ _
  | int k=>have:=rb.int_inv; subst this; obtain ⟨t,rfl⟩:=rv; exact SeqAt.EqAt.int_int _ _ _ _
  | str k=>have:=rb.str_inv; subst this; obtain ⟨t,rfl⟩:=rv; exact SeqAt.EqAt.int_str _ _ _ _
  | _=>simp [Zdv] at hb
 | str i=>have:=ra.str_inv; subst this; obtain ⟨t0,rfl⟩:=ru; cases b with
  | non=>have:=rb.non_inv; subst this; cases rv; exact SeqAt.EqAt.str_none _ _
  | bl k=>have:=rb.bl_inv; subst this; cases rv; exact SeqAt.EqAt.str_bool _ _ _
  | int k=>have:=rb.int_inv; subst this; obtain ⟨t,rfl⟩:=rv; exact SeqAt.EqAt.str_int _ _ _ _
  | str k=>have:=rb.str_inv; subst this; obtain ⟨t,rfl⟩:=rv; exact (by
    have e:deq (.str i) (.str k) = ((⟨i.toArray⟩:Str) == ⟨k.toArray⟩):=by
     rw [deq,← Zdp]
     by_cases h:(⟨i.toArray⟩:Str) = ⟨k.toArray⟩
     ·simp [h]
     ·simp [h]
    rw [e]
    exact SeqAt.EqAt.str_str _ _ _ _)
  | _=>simp [Zdv] at hb
 | _=>simp [Zdv] at ha
theorem ZfF (I:Inv X pins σ H s):∀ (n:Nat) (A:Around) (a b:D) (x y:V) (u v:Value),A.units + n + 1 < cLine → Zao n a = true → Zao n b = true → Rep X.K H ι a x → Rep X.K H ι b y → RelV x u → RelV y v → SeqAt.EqAt A s u v (deq a b):=by
 intro n
 induction n with
 | zero=>
  intro A a b x y u v hu ha hb ra rb ru rv
  have f:∀ d:D,Zao 0 d = true → Zdv d = true:=fun d h=>by cases d <;> simp_all [Zao,Zdv]
  exact Zcs A a b x y u v (f a ha) (f b hb) ra rb ru rv
 | succ n ih=>
  intro A a b x y u v hu ha hb ra rb ru rv
  have hu0:A.units + 0 + 1 < cLine:=lC 1 0x2ae0cc12aa1c0cc11 T1 hu
  have hu1:A.units < cLine:=lB 1 1104257534993 T1 hu0
  cases a with
  | tup ds=>
   obtain ⟨p,vs,rfl,s1,r1⟩:=ra.tup_inv
   cases ru
   obtain ⟨its,rvs,ht,_⟩:=I.tuple s1
   have it1:s.heap.IsTuple p its.toArray:=ht
   cases b with
   | tup es=>
    obtain ⟨p',ws,rfl,s2,r2⟩:=rb.tup_inv
    cases rv
    obtain ⟨its2,rws,ht2,_⟩:=I.tuple s2
    have it2:s.heap.IsTuple p' its2.toArray:=ht2
    by_cases hp:p = p'
    ·subst hp
     rw [Rep.fun1 I (n + 1) _ _ _ ha hb ra rb]
     exact SeqAt.EqAt.same _
    ·refine SeqAt.EqAt.of_refs hp ?_
     have e1:its.length = ds.length:=by rw [← rvs.length,r1.length]
     have e2:its2.length = es.length:=by rw [← rws.length,r2.length]
     have key:((List.range (min its.toArray.size its2.toArray.size)).all (fun j=>match ds[j]?,es[j]? with | some a,some b=>deq a b | _,_=>false) && its.toArray.size == its2.toArray.size) = deq (.tup ds) (.tup es):=by
      rw [deq,List.size_toArray,List.size_toArray,e1,e2]
      by_cases hl:ds.length = es.length
      ·rw [hl,Nat.min_self,beq_self_eq_true,Bool.and_true,← hl]
       exact ZbM hl fun j a b h1 h2=>by rw [h1,h2]
      ·have z:ZbN ds es = false:=by
        cases q:ZbN ds es with
        | false=>rfl
        | true=>exact absurd (Zcr q) hl
       rw [z,beq_eq_false_iff_ne.mpr hl,Bool.and_false]
     rw [← key]
     refine SeqAt.RcAt.tuples it1 it2 hu1 fun j h1 h2=>?_
     have h1':j < ds.length:=by rw [← e1]; simpa using h1
     have h2':j < es.length:=by rw [← e2]; simpa using h2
     have q1:ds[j]? = some ds[j]:=by simp [h1']
     have q2:es[j]? = some es[j]:=by simp [h2']
     rw [q1,q2]
     obtain ⟨v1,g1,z1⟩:=r1.get q1
     obtain ⟨v2,g2,z2⟩:=r2.get q2
     obtain ⟨u1,k1,l1⟩:=rvs.get g1
     obtain ⟨u2,k2,l2⟩:=rws.get g2
     have m1:its.toArray[j] = u1:=by
      have:=List.getElem?_eq_some_iff.mp k1
      simpa using this.2
     have m2:its2.toArray[j] = u2:=by
      have:=List.getElem?_eq_some_iff.mp k2
      simpa using this.2
     rw [m1,m2]
     exact ih A.in1 ds[j] es[j] v1 v2 u1 u2 (by rw [units_in1]; exact lC 1 0x2a1a0ccc12aa1c0cc11 T1 hu) (List.all_eq_true.mp (show ds.all (Zao n) = true from ha) _ (List.getElem_mem h1')) (List.all_eq_true.mp (show es.all (Zao n) = true from hb) _ (List.getElem_mem h2')) z1 z2 l1 l2
   | non=>have:=rb.non_inv; subst this; cases rv; exact SeqAt.EqAt.tuple_none it1 hu1
   | bl k=>have:=rb.bl_inv; subst this; cases rv; exact SeqAt.EqAt.tuple_bool _ it1 hu1
   | int k=>have:=rb.int_inv; subst this; obtain ⟨t,rfl⟩:=rv; exact SeqAt.EqAt.tuple_int _ _ it1 hu1
   | str k=>have:=rb.str_inv; subst this; obtain ⟨t,rfl⟩:=rv; exact SeqAt.EqAt.tuple_str _ _ it1 hu1
   | _=>simp [Zao] at hb
  | non=>cases b with
   | tup es=>
    have:=ra.non_inv; subst this; cases ru
    obtain ⟨p',ws,rfl,s2,r2⟩:=rb.tup_inv
    cases rv
    obtain ⟨its2,rws,ht2,_⟩:=I.tuple s2
    exact SeqAt.EqAt.none_tuple (show s.heap.IsTuple p' its2.toArray from ht2) hu1
   | scr _=>simp [Zao] at hb
   | ref _=>simp [Zao] at hb
   | _=>exact Zcs A _ _ x y u v (by rfl) (by rfl) ra rb ru rv
  | bl i=>cases b with
   | tup es=>
    have:=ra.bl_inv; subst this; cases ru
    obtain ⟨p',ws,rfl,s2,r2⟩:=rb.tup_inv
    cases rv
    obtain ⟨its2,rws,ht2,_⟩:=I.tuple s2
    exact SeqAt.EqAt.bool_tuple _ (show s.heap.IsTuple p' its2.toArray from ht2) hu1
   | scr _=>simp [Zao] at hb
   | ref _=>simp [Zao] at hb
   | _=>exact Zcs A _ _ x y u v (by rfl) (by rfl) ra rb ru rv
  | int i=>cases b with
   | tup es=>
    have:=ra.int_inv; subst this; obtain ⟨t0,rfl⟩:=ru
    obtain ⟨p',ws,rfl,s2,r2⟩:=rb.tup_inv
    cases rv
    obtain ⟨its2,rws,ht2,_⟩:=I.tuple s2
    exact SeqAt.EqAt.int_tuple _ _ (show s.heap.IsTuple p' its2.toArray from ht2) hu1
   | scr _=>simp [Zao] at hb
   | ref _=>simp [Zao] at hb
   | _=>exact Zcs A _ _ x y u v (by rfl) (by rfl) ra rb ru rv
  | str i=>cases b with
   | tup es=>
    have:=ra.str_inv; subst this; obtain ⟨t0,rfl⟩:=ru
    obtain ⟨p',ws,rfl,s2,r2⟩:=rb.tup_inv
    cases rv
    obtain ⟨its2,rws,ht2,_⟩:=I.tuple s2
    exact SeqAt.EqAt.str_tuple _ _ (show s.heap.IsTuple p' its2.toArray from ht2) hu1
   | scr _=>simp [Zao] at hb
   | ref _=>simp [Zao] at hb
   | _=>exact Zcs A _ _ x y u v (by rfl) (by rfl) ra rb ru rv
  | _=>simp [Zao] at ha
end
end L3
namespace L3
open PySem PySem.Spec PyProof.Rows L2
section
variable {X:Cx}
theorem Zlh {pins:List (Addr × Obj)} {σ:St} {H:Hp} {s:Shared} {ι:List Addr} {M:Store} {a b:D} {x y:V} {u v:Value} {k:Bool} (hu:X.A.units + 80 < cLine) (I:Inv X pins σ H s) (S:Zw X.K H ι M)
  (ra:Rep X.K H ι a x) (rb:Rep X.K H ι b y) (ru:RelV x u) (rv:RelV y v) (h:eqD a b M = some k):SeqAt.RcAt X.A s u v k:=by
 cases a with
 | ref n=>
  cases b with
  | ref m=>
   simp only [eqD] at h
   cases hn:M[n]? with
   | none=>simp [hn] at h
   | some o=>
    cases o with
    | dct _=>simp [hn] at h
    | fdct _=>simp [hn] at h
    | ins _ _=>simp [hn] at h
    | lst ds=>
     cases hm:M[m]? with
     | none=>simp [hn,hm] at h
     | some o=>
      cases o with
      | dct _=>simp [hn,hm] at h
      | fdct _=>simp [hn,hm] at h
      | ins _ _=>simp [hn,hm] at h
      | lst es=>
       simp only [hn,hm] at h
       split at h
       ·rename_i hp
        cases h
        rw [Bool.and_eq_true] at hp
        obtain ⟨p,hp1,rfl⟩:=ra.ref_inv
        obtain ⟨q,hq1,rfl⟩:=rb.ref_inv
        cases ru
        cases rv
        obtain ⟨vs,e1,r1⟩:=S.obj n _ p hn hp1
        obtain ⟨ws,e2,r2⟩:=S.obj m _ q hm hq1
        obtain ⟨its,rvs,pl1,_⟩:=I.list (SqL.of e1)
        obtain ⟨its2,rws,pl2,_⟩:=I.list (SqL.of e2)
        have it1:=pl1.isList
        have it2:=pl2.isList
        have l1:its.length = ds.length:=by rw [← rvs.length,r1.length]
        have l2:its2.length = es.length:=by rw [← rws.length,r2.length]
        have hu1:X.A.units < cLine:=lB 1 17666545486865 T1 hu
        by_cases hl:ds.length = es.length
        ·have key:(List.range its.toArray.size).all (fun j=>match ds[j]?,es[j]? with | some a,some b=>deq a b | _,_=>false) = ZbN ds es:=by
          rw [List.size_toArray,l1]
          exact ZbM hl fun j a b h1 h2=>by rw [h1,h2]
         rw [← key]
         refine SeqAt.RcAt.lists it1 it2 (by rw [List.size_toArray,List.size_toArray,l1,l2,hl]) hu1 fun j h1 h2=>?_
         have h1':j < ds.length:=by rw [← l1]; simpa using h1
         have h2':j < es.length:=by rw [← l2]; simpa using h2
         have q1:ds[j]? = some ds[j]:=by simp [h1']
         have q2:es[j]? = some es[j]:=by simp [h2']
         rw [q1,q2]
         obtain ⟨v1,g1,z1⟩:=r1.get q1
         obtain ⟨v2,g2,z2⟩:=r2.get q2
         obtain ⟨u1,k1,w1⟩:=rvs.get g1
         obtain ⟨u2,k2,w2⟩:=rws.get g2
         have m1:its.toArray[j] = u1:=by
          have:=List.getElem?_eq_some_iff.mp k1
          simpa using this.2
         have m2:its2.toArray[j] = u2:=by
          have:=List.getElem?_eq_some_iff.mp k2
          simpa using this.2
         rw [m1,m2]
         exact ZfF I DEEP X.A.in1 ds[j] es[j] v1 v2 u1 u2 (by rw [units_in1]; show X.A.units + 1 + 60 + 1 < cLine; exact lB 1 0x1a3c2ba0ccc11502b0c11 T1 hu) (List.all_eq_true.mp hp.1 _ (List.getElem_mem h1')) (List.all_eq_true.mp hp.2 _ (List.getElem_mem h2')) z1 z2 w1 w2
        ·have z:ZbN ds es = false:=by
          cases q:ZbN ds es with
          | false=>rfl
          | true=>exact absurd (Zcr q) hl
         rw [z]
         exact SeqAt.RcAt.lists_lengths it1 it2 (by rw [List.size_toArray,List.size_toArray,l1,l2]; simpa using hl) hu1
       ·cases h
  | _=>simp [eqD] at h
 | int i=>cases b with
  | int j=>
   simp only [eqD] at h
   cases h
   have:=ra.int_inv; subst this; have:=rb.int_inv; subst this
   obtain ⟨t,rfl⟩:=ru
   obtain ⟨t',rfl⟩:=rv
   rw [← Bool.beq_eq_decide_eq]
   exact SeqAt.RcAt.int_int _ _ _ _
  | _=>simp [eqD] at h
 | str i=>cases b with
  | str j=>
   simp only [eqD] at h
   cases h
   have:=ra.str_inv; subst this; have:=rb.str_inv; subst this
   obtain ⟨t,rfl⟩:=ru
   obtain ⟨t',rfl⟩:=rv
   have e:decide (i = j) = ((⟨i.toArray⟩:Str) == ⟨j.toArray⟩):=by
    rw [← Bool.beq_eq_decide_eq,← Zdp]
    by_cases h:(⟨i.toArray⟩:Str) = ⟨j.toArray⟩
    ·simp [h]
    ·simp [h]
   rw [e]
   exact SeqAt.RcAt.str_str _ _ _ _
  | _=>simp [eqD] at h
 | bl i=>cases b with
  | bl j=>
   simp only [eqD] at h
   cases h
   have:=ra.bl_inv; subst this; have:=rb.bl_inv; subst this
   cases ru
   cases rv
   rw [← Bool.beq_eq_decide_eq]
   exact SeqAt.RcAt.bool_bool _ _
  | _=>simp [eqD] at h
 | tup ds=>cases b with
  | tup es=>
   simp only [eqD] at h
   split at h
   ·rename_i hp
    cases h
    rw [Bool.and_eq_true] at hp
    obtain ⟨p,vs,rfl,s1,r1⟩:=ra.tup_inv
    obtain ⟨p',ws,rfl,s2,r2⟩:=rb.tup_inv
    cases ru
    cases rv
    obtain ⟨its,rvs,ht,_⟩:=I.tuple s1
    obtain ⟨its2,rws,ht2,_⟩:=I.tuple s2
    have e1:its.length = ds.length:=by rw [← rvs.length,r1.length]
    have e2:its2.length = es.length:=by rw [← rws.length,r2.length]
    have hu1:X.A.units < cLine:=lB 1 17666545486865 T1 hu
    have key:((List.range (min its.toArray.size its2.toArray.size)).all (fun j=>match ds[j]?,es[j]? with | some a,some b=>deq a b | _,_=>false) && its.toArray.size == its2.toArray.size) = ZbN ds es:=by
     rw [List.size_toArray,List.size_toArray,e1,e2]
     by_cases hl:ds.length = es.length
     ·rw [hl,Nat.min_self,beq_self_eq_true,Bool.and_true,← hl]
      exact ZbM hl fun j a b h1 h2=>by rw [h1,h2]
     ·have z:ZbN ds es = false:=by
       cases q:ZbN ds es with
       | false=>rfl
       | true=>exact absurd (Zcr q) hl
      rw [z,beq_eq_false_iff_ne.mpr hl,Bool.and_false]
    rw [← key]
    refine SeqAt.RcAt.tuples (show s.heap.IsTuple p its.toArray from ht) (show s.heap.IsTuple p' its2.toArray from ht2) hu1 fun j h1 h2=>?_
    have h1':j < ds.length:=by rw [← e1]; simpa using h1
    have h2':j < es.length:=by rw [← e2]; simpa using h2
    have q1:ds[j]? = some ds[j]:=by simp [h1']
    have q2:es[j]? = some es[j]:=by simp [h2']
    rw [q1,q2]
    obtain ⟨v1,g1,z1⟩:=r1.get q1
    obtain ⟨v2,g2,z2⟩:=r2.get q2
    obtain ⟨u1,k1,w1⟩:=rvs.get g1
    obtain ⟨u2,k2,w2⟩:=rws.get g2
    have m1:its.toArray[j] = u1:=by
     have:=List.getElem?_eq_some_iff.mp k1
     simpa using this.2
    have m2:its2.toArray[j] = u2:=by
     have:=List.getElem?_eq_some_iff.mp k2
     simpa using this.2
    rw [m1,m2]
    exact ZfF I DEEP X.A.in1 ds[j] es[j] v1 v2 u1 u2 (by rw [units_in1]; show X.A.units + 1 + 60 + 1 < cLine; exact lB 1 0x1a3c2ba0ccc11502b0c11 T1 hu) (List.all_eq_true.mp hp.1 _ (List.getElem_mem h1')) (List.all_eq_true.mp hp.2 _ (List.getElem_mem h2')) z1 z2 w1 w2
   ·cases h
  | _=>simp [eqD] at h
 | _=>cases b <;> simp [eqD] at h
theorem ZfO (hu:X.A.units + 80 < cLine):OpR X (compareOp .Eq) (r2 X.K Zcu):=by
 intro pins s σ H x y v u Q I rx ry h
 obtain ⟨ι,M,a,b,S,ra,rb,h⟩:=h
 unfold Zcu at h
 cases q:eqD a b M with
 | none=>rw [q] at h; exact h.elim
 | some k=>
  rw [q] at h
  exact Zlh hu I S ra rb rx ry q X.prog X.w X.xe _ ⟨.bl k,H,I,rfl,Zu.ok h S Rep.bl⟩
theorem ZgD {K:PySem.W.Frag} {H:Hp} {ι:List Addr} {ds:List D} {vs:List V} {i:Int} {d:D} (r:Zk K H ι ds vs) (h:Zbk ds i = some d):∃ v,atI vs i = some v ∧ Rep K H ι d v:=by
 unfold Zbk at h
 unfold atI
 have e:ixN vs.length i = ixD ds.length i:=by rw [r.length]; rfl
 rw [e]
 cases q:ixD ds.length i with
 | none=>rw [q] at h; cases h
 | some j=>
  rw [q] at h
  exact r.get h
theorem ZaE:IxR X (r2 X.K Zh):=IxR.imp Zle fun x y H Q zz1=>by
 obtain ⟨ι,M,a,b,S,ra,rb,h⟩:=zz1
 cases a with
 | tup ds=>cases b with
  | int i=>
   simp only [Zh] at h
   cases q:Zbk ds i with
   | none=>simp only [q] at h; exact h.elim
   | some d=>
    simp only [q] at h
    obtain ⟨p,vs,rfl,s1,r1⟩:=ra.tup_inv
    obtain ⟨v,e,rv⟩:=ZgD r1 q
    exact .inr (.inl ⟨p,vs,i,v,rfl,rb.int_inv,s1,e,Zu.ok h S rv⟩)
  | _=>exact h.elim
 | scr ds=>cases b with
  | int i=>
   simp only [Zh] at h
   cases q:Zbk ds i with
   | none=>simp only [q] at h; exact h.elim
   | some d=>
    simp only [q] at h
    obtain ⟨p,vs,rfl,s1,r1⟩:=ra.scr_inv
    obtain ⟨v,e,rv⟩:=ZgD r1 q
    exact .inl ⟨p,vs,i,v,rfl,rb.int_inv,s1.sq,e,Zu.ok h S rv⟩
  | _=>exact h.elim
 | str z=>cases b with
  | int i=>
   simp only [Zh] at h
   cases q:Zbk z i with
   | none=>simp only [q] at h; exact h.elim
   | some c=>
    simp only [q] at h
    split at h
    ·rename_i hz
     refine .inr (.inr ⟨_,i,c,ra.str_inv,rb.int_inv,?_,?_,Zu.ok h S Rep.str⟩)
     ·have:=Zbi
      simp only [Str.length,List.size_toArray]
      exact Nat.le_trans hz this
     ·simpa [atI,ixN,Zbk,ixD] using q
    ·exact h.elim
  | _=>exact h.elim
 | ref n=>cases b with
  | int i=>
   cases hn:M[n]? with
   | none=>simp only [Zh,hn] at h; exact h.elim
   | some o=>
    cases o with
    | dct _=>simp only [Zh,hn] at h; exact h.elim
    | fdct _=>simp only [Zh,hn] at h; exact h.elim
    | ins _ _=>simp only [Zh,hn] at h; exact h.elim
    | lst ds=>
     simp only [Zh,hn] at h
     cases q:Zbk ds i with
     | none=>simp only [q] at h; exact h.elim
     | some d=>
      simp only [q] at h
      obtain ⟨p,hp,rfl⟩:=ra.ref_inv
      obtain ⟨vs,e1,r1⟩:=S.obj n _ p hn hp
      obtain ⟨v,e,rv⟩:=ZgD r1 q
      exact .inl ⟨p,vs,i,v,rfl,rb.int_inv,SqL.of e1,e,Zu.ok h S rv⟩
  | _=>exact h.elim
 | _=>cases b <;> exact h.elim
theorem ZgJ {K:PySem.W.Frag} {H:Hp} {ι:List Addr} {ds:List D} {vs:List V} (r:Zk K H ι ds vs) (lo hi:Option Int):Zk K H ι (cutD ds lo hi) (Zf8 vs lo hi):=by
 have e:∀ n d o,HT.sIx n d o = sIx n d o:=fun n d o=>by cases o <;> rfl
 unfold cutD Zf8
 rw [e,e,r.length]
 exact (r.drop _).take _
end
end L3
namespace L3
open PySem PySem.Spec PyProof.Rows L2
noncomputable def Za8 (cells:List (Str × Addr)):List (Str × NameKind) → List (Str × Addr) → List (Str × Addr)
 | [],cs=>cs
 | (n,k) :: r,cs=>Za8 cells r (if k == .free then (n,(cells.lookup n).getD 0) :: cs else cs)
theorem ZeR {scope:Scope} {env:Env} (h:∀ y ∈ scope.names,y.2 = .free → ∃ c,env.cells.lookup y.1 = some c):closureFor scope env = pure (Za8 env.cells scope.names []):=by
 unfold closureFor
 have key:∀ (names:List (Str × NameKind)) (cs:List (Str × Addr)),(∀ y ∈ names,y.2 = .free → ∃ c,env.cells.lookup y.1 = some c) →
   (forIn names cs fun x r=>match x with | (name,kind)=>if (kind == NameKind.free) = true then do let c ← cellOf env name; pure (ForInStep.yield ((name,c) :: r)) else pure (ForInStep.yield r):Sem (List (Str × Addr))) = pure (Za8 env.cells names cs):=by
  intro names
  induction names with
  | nil=>intro cs _; rfl
  | cons y r ih=>
   intro cs hy
   obtain ⟨n,k⟩:=y
   rw [List.forIn_cons]
   by_cases hk:k = .free
   ·subst hk
    obtain ⟨c,hc⟩:=hy (n,.free) List.mem_cons_self rfl
    have e1:cellOf env n = pure c:=by unfold cellOf; rw [hc]
    simp only [beq_self_eq_true,if_true,e1,pure_bind]
    rw [ih _ fun z hz=>hy z (List.mem_cons_of_mem _ hz)]
    simp [Za8,hc]
   ·have hb:(k == NameKind.free) = false:=by simpa using hk
    simp only [hb,Bool.false_eq_true,if_false,pure_bind]
    rw [ih _ fun z hz=>hy z (List.mem_cons_of_mem _ hz)]
    simp [Za8,hb]
 have:=key scope.names [] h
 first
  | exact this
  | (simp only [bind_pure]; exact this)
theorem Zht {cells:List (Str × Addr)} {x:Str} {c:Addr}:∀ (names:List (Str × NameKind)) (cs:List (Str × Addr)),(∀ y ∈ names,y.2 = .free → ∃ c,cells.lookup y.1 = some c) → (Za8 cells names cs).lookup x = some c → cs.lookup x = some c ∨ cells.lookup x = some c:=by
 intro names
 induction names with
 | nil=>intro cs _ h; exact .inl h
 | cons y r ih=>
  intro cs hy h
  obtain ⟨n,k⟩:=y
  rw [Za8] at h
  rcases ih _ (fun z hz=>hy z (List.mem_cons_of_mem _ hz)) h with q | q
  ·by_cases hk:k = .free
   ·subst hk
    obtain ⟨c0,hc⟩:=hy (n,.free) List.mem_cons_self rfl
    simp only [beq_self_eq_true,if_true,hc,Option.getD_some,List.lookup_cons] at q
    cases hx:x == n with
    | true=>
     simp only [hx] at q
     cases q
     have:x = n:=by simpa using hx
     subst this
     exact .inr hc
    | false=>simp only [hx] at q; exact .inl q
   ·have hb:(k == NameKind.free) = false:=by simpa using hk
    simp only [hb,Bool.false_eq_true,if_false] at q
    exact .inl q
  ·exact .inr q
theorem Zgk {cells:List (Str × Addr)} {x:Str}:∀ (names:List (Str × NameKind)) (cs:List (Str × Addr)),(cs.lookup x).isSome = true → ((Za8 cells names cs).lookup x).isSome = true:=by
 intro names
 induction names with
 | nil=>intro cs h; exact h
 | cons y r ih=>
  intro cs h
  obtain ⟨n,k⟩:=y
  rw [Za8]
  refine ih _ ?_
  split
  ·rw [List.lookup_cons]
   split
   ·rfl
   ·exact h
  ·exact h
theorem Ze6 {cells:List (Str × Addr)} {x:Str}:∀ (names:List (Str × NameKind)) (cs:List (Str × Addr)),(x,NameKind.free) ∈ names → ((Za8 cells names cs).lookup x).isSome = true:=by
 intro names
 induction names with
 | nil=>intro cs h; cases h
 | cons y r ih=>
  intro cs h
  obtain ⟨n,k⟩:=y
  rw [Za8]
  rcases List.mem_cons.mp h with e | h
  ·cases e
   refine Zgk _ _ ?_
   simp
  ·exact ih _ h
noncomputable def ZbV (X:Cx) (scope:Scope) (N':List Str) (C:Addr) (cl:List (Str × Addr)) (s:Shared) (H:Hp) (ex:List Addr):Cx:=
 { X with N:=N',s₀:=s,H₀:=H,env:=compEnvC scope cl C X.env,outer:=X.stack,stack:=X.stack,ex:=ex,fn:=fun _=>false,pn:=[],xe:=fun _ _=>False }
noncomputable def Zh4 (N N':List Str) (scope:Scope):Bool:=(List.range N.length).all fun i=>match N'[i]? with
 | some x=>(scope.names.lookup x).isNone || (decide (N[i]? = some x) && decide (scope.names.lookup x = some .free))
 | none=>false
noncomputable def CTs (X:Cx) (ifs:List Expr) (ts:List E3):Prop:=∀ (pins:List (Addr × Obj)) (s:Shared) (σ:St) (H:Hp) (Q:Bool → Hp → Prop),Inv X pins σ H s →
 (∃ ι M env,Zw X.K H ι M ∧ ZaU X.K H ι env σ ∧ match Zem ts env M with | .ok b M'=>∀ H' ι',Ext X.K H ι H' ι' → Zw X.K H' ι' M' → Q b H' | _=>False) →
 wpAny (model X.prog X.w) X.A (forIn ifs true fun c r=>if r = true then do let ok ← isTrue c X.env (eval c X.env); pure (ForInStep.yield ok) else pure (ForInStep.yield r)) (TP X pins σ Q) X.xe s
theorem Zkf {X:Cx}:CTs X [] []:=fun pins s σ H Q I ⟨ι,M,env,S,E,h⟩=>wpAny_tests_nil ⟨H,I,h H ι Ext.refl S⟩
section
variable {prog:Program} {w:World} {A:Around} {R:Result → Shared → Prop} {s:Shared}
theorem ZfE {elt target iter:Expr} {ifs:List Expr} {scope:Scope} {pos:Pos} {it acc:Value} {env:Env} (I:Nat → Shared → Prop)
  (turn:∀ n s,I n s → wpAny (model prog w) A (pyNext it) (fun r s₁=>match r with
   | none=>R (.ok .next) s₁
   | some v=>wpAny (model prog w) A (letOwnedTupleGo target it v) (fun _ s₁'=>wpAny (model prog w) A (assign target env v) (fun _ s₂=>
     wpAny (model prog w) A (forIn ifs true fun c r=>if r = true then do let ok ← isTrue c env (eval c env); pure (ForInStep.yield ok) else pure (ForInStep.yield r)) (fun ok s₃=>
      if ok = true then wpAny (model prog w) A (eval elt env) (fun x s₄=>
       wpAny (model prog w) A (call (.builtin "list.append") [acc,x]) (fun _ s₅=>∃ m,m < n ∧ I m s₅) (fun _ _=>False) s₄) (fun _ _=>False) s₃
      else ∃ m,m < n ∧ I m s₃) (fun _ _=>False) s₂) (fun _ _=>False) s₁') (fun _ _=>False) s₁) (fun _ _=>False) s)
  (n:Nat) (h:I n s):codeAny (model prog w) A (.compLoop (.ListComp elt [⟨target,iter,ifs,0⟩] scope pos) 0 it acc env) R s:=by
 refine codeAny_loop rfl I (fun n s hI=>?_) n h
 show wpAny _ A ((compTurn (.ListComp elt [⟨target,iter,ifs,0⟩] scope pos) 0 it acc env).onRaise (fun x=>do noteFrame x env; theTreesLotGoes x)) _ _ s
 refine wpAny_noted ?_
 rw [compTurn_list]
 refine wpAny_bind (wpAny_standAt (wpAny_bind (wpAny_mono (turn n s hI) (fun r s₁ h₁=>?_) fun _ _ h'=>False.elim h')))
 cases r with
 | none=>exact wpAny_pure h₁
 | some v=>
  refine wpAny_bind (wpAny_mono h₁ (fun _ s₁' h₁'=>?_) fun _ _ h'=>False.elim h')
  refine wpAny_bind (wpAny_mono h₁' (fun _ s₂ h₂=>wpAny_bind (wpAny_mono h₂ (fun ok s₃ h₃=>?_) fun _ _ h'=>False.elim h')) fun _ _ h'=>False.elim h')
  cases ok with
  | false=>exact wpAny_pure ⟨rfl,h₃⟩
  | true=>
   exact wpAny_bind (wpAny_bind (wpAny_mono h₃ (fun x s₄ h₄=>wpAny_bind (wpAny_mono h₄ (fun _ s₅ h₅=>wpAny_pure (wpAny_pure ⟨rfl,h₅⟩)) fun _ _ h'=>False.elim h')) fun _ _ h'=>False.elim h'))
end
theorem Zb9 {env:Env} {x:Str} {k:NameKind}:∀ {names:List (Str × NameKind)},(names.map fun (n,k)=>if (k == NameKind.free && env.scope.kind == .function && env.kindOf n == some .cell) then (n,NameKind.cell) else (n,k)).lookup x = some k →
  ∃ k0,names.lookup x = some k0 ∧ (k0 = k ∨ (k0 = .free ∧ k = .cell)):=by
 intro names
 induction names with
 | nil=>intro h; simp at h
 | cons y r ih=>
  intro h
  obtain ⟨n,k1⟩:=y
  rw [List.map_cons] at h
  cases hx:x == n with
  | true=>
   refine ⟨k1,by simp [List.lookup_cons,hx],?_⟩
   by_cases hc:(k1 == NameKind.free && env.scope.kind == .function && env.kindOf n == some .cell) = true
   ·simp only [if_pos hc,List.lookup_cons,hx] at h
    cases h
    simp only [Bool.and_eq_true,beq_iff_eq] at hc
    exact .inr ⟨hc.1.1,rfl⟩
   ·simp only [if_neg hc,List.lookup_cons,hx] at h
    cases h
    exact .inl rfl
  | false=>
   have h':(r.map fun (n,k)=>if (k == NameKind.free && env.scope.kind == .function && env.kindOf n == some .cell) then (n,NameKind.cell) else (n,k)).lookup x = some k:=by
    by_cases hc:(k1 == NameKind.free && env.scope.kind == .function && env.kindOf n == some .cell) = true
    ·simp only [if_pos hc,List.lookup_cons,hx] at h; exact h
    ·simp only [if_neg hc,List.lookup_cons,hx] at h; exact h
   obtain ⟨k0,e,q⟩:=ih h'
   exact ⟨k0,by simp [List.lookup_cons,hx,e],q⟩
theorem Zft {env:Env} {x:Str}:∀ {names:List (Str × NameKind)},names.lookup x = some .free →
  (names.map fun (n,k)=>if (k == NameKind.free && env.scope.kind == .function && env.kindOf n == some .cell) then (n,NameKind.cell) else (n,k)).lookup x = some .free ∨
  (names.map fun (n,k)=>if (k == NameKind.free && env.scope.kind == .function && env.kindOf n == some .cell) then (n,NameKind.cell) else (n,k)).lookup x = some .cell:=by
 intro names
 induction names with
 | nil=>intro h; simp at h
 | cons y r ih=>
  intro h
  obtain ⟨n,k1⟩:=y
  rw [List.map_cons]
  cases hx:x == n with
  | true=>
   simp only [List.lookup_cons,hx] at h
   cases h
   by_cases hc:(NameKind.free == NameKind.free && env.scope.kind == .function && env.kindOf n == some .cell) = true
   ·simp only [if_pos hc,List.lookup_cons,hx]; exact .inr trivial
   ·simp only [if_neg hc,List.lookup_cons,hx]; exact .inl trivial
  | false=>
   simp only [List.lookup_cons,hx] at h
   by_cases hc:(k1 == NameKind.free && env.scope.kind == .function && env.kindOf n == some .cell) = true
   ·simp only [if_pos hc,List.lookup_cons,hx]; exact ih h
   ·simp only [if_neg hc,List.lookup_cons,hx]; exact ih h
section
variable {X:Cx} {pins:List (Addr × Obj)} {σ:St} {H:Hp} {s:Shared} {scope:Scope} {N':List Str} {own:Nat} {fp:List Addr}
theorem Zir (I:Inv X pins σ H s) (hk:scope.kind = .function) (hcell:∀ y ∈ scope.names,y.2 ≠ .cell) (hfree:∀ y ∈ scope.names,y.2 = .free → X.env.kindOf y.1 = some .cell ∨ X.env.kindOf y.1 = some .free)
  (hN:N'.length = X.N.length + own) (hv:Zh4 X.N N' scope = true) (hfp:∀ b ∈ fp,Zey X pins H b) (hlt:∀ b ∈ fp,b < s.heap.objs.size) {h1:Heap} {tk:Nat}
  (hns:h1.Ns s.heap.objs.size fun _=>none) (keep:∀ b o,s.heap.get? b = some o → h1.get? b = some o):
  Inv (ZbV X scope N' s.heap.objs.size (Za8 X.env.cells scope.names []) s H fp) [] (σ ++ List.replicate own none) H { s with heap:=h1,toks:=tk }:=by
 have hc0:∀ y ∈ scope.names,y.2 = .free → ∃ c,X.env.cells.lookup y.1 = some c:=fun y hy e=>I.ok.has y.1 (hfree y hy e)
 have sub:∀ x c,(Za8 X.env.cells scope.names []).lookup x = some c → X.env.cells.lookup x = some c:=fun x c h=>by
  rcases Zht scope.names [] hc0 h with q | q
  ·simp at q
  ·exact q
 have cellK:∀ {c:Addr} {v:Option Value},s.heap.IsCell c v → h1.IsCell c v:=fun ⟨o,ho,hd⟩=>⟨o,keep _ o ho,hd⟩
 refine ⟨⟨I.ok.mod,hk,I.ok.glob,I.ok.blt,Nat.le_refl _,fun x y c h1 h2=>I.ok.inj x y c (sub x c h1) (sub y c h2),fun x hx=>?_,fun x c h=>?_,I.ok.hd,I.ok.frames,.inl rfl,fun b hb=>⟨Nat.ne_of_lt (hlt b hb),fun x c h=>(hfp b hb).2.2.2.2.1 x c (sub x c h)⟩,
   I.bs,Nat.le_trans I.ok.bsz I.sz,fun b o e hb=>?_,fun b hb hz=>?_,I.stack,I.stkFree⟩,rfl,I.bare,Un.kept keep,⟨_,hns,fun i x v h1 h2 h3=>?_⟩,fun x c h=>?_,I.hok.fresh (Nat.le_refl _),fun x c h=>I.freeC x c (sub x c h),
  fun p hp=>absurd (show p ∈ ([]:List (Addr × Obj)) from hp) (by simp),I.hok.kept keep,?_⟩
 ·have hx':(relabel scope X.env).names.lookup x = some .cell ∨ (relabel scope X.env).names.lookup x = some .free:=hx
  have:scope.names.lookup x = some .free:=by
   rcases hx' with hx' | hx'
   ·obtain ⟨k0,e,q⟩:=Zb9 (names:=scope.names) hx'
    rcases q with q | ⟨q,_⟩
    ·subst q; exact absurd rfl (hcell _ (PySem.mem_of_lookup e))
    ·rw [e,q]
   ·obtain ⟨k0,e,q⟩:=Zb9 (names:=scope.names) hx'
    rcases q with q | ⟨_,q⟩
    ·rw [e,q]
    ·cases q
  exact Option.isSome_iff_exists.mp (Ze6 scope.names [] (PySem.mem_of_lookup this))
 ·cases h
 ·obtain ⟨_,_,_,q,_⟩:=hfp b hb
  rcases q with q | q
  ·exact I.ok.noex b o e q
  ·exact absurd (Nat.lt_of_lt_of_le (Heap.lt_size e) (Nat.le_trans I.ok.bsz q)) (Nat.lt_irrefl _)
 ·have hz':b ∈ frs X.stack:=hz
  obtain ⟨_,q1,q2,_⟩:=hfp b hb
  rcases List.mem_cons.mp (I.stkSub b hz') with e | e
  ·exact q1 e
  ·exact q2 e
 ·have hi:i < σ.length:=by
   by_cases hi:i < σ.length
   ·exact hi
   ·rw [List.getElem?_append_right (Nat.le_of_not_lt hi),List.getElem?_replicate] at h2
    split at h2 <;> cases h2
  rw [List.getElem?_append_left hi] at h2
  have hiN:i < X.N.length:=by rw [← I.len]; exact hi
  have hN':N'[i]? = some x:=h1
  have vq:=List.all_eq_true.mp hv i (List.mem_range.mpr hiN)
  rw [hN'] at vq
  have h3':(relabel scope X.env).names.lookup x = some .local ∨ (relabel scope X.env).names.lookup x = some .cell ∨ (relabel scope X.env).names.lookup x = some .free:=h3
  have some_of:∃ k0,scope.names.lookup x = some k0:=by
   rcases h3' with q | q | q <;> (obtain ⟨k0,e,_⟩:=Zb9 (names:=scope.names) q; exact ⟨k0,e⟩)
  obtain ⟨k0,ek⟩:=some_of
  simp only [ek,Option.isNone_some,Bool.false_or,Bool.and_eq_true,decide_eq_true_eq] at vq
  obtain ⟨vq1,vq2⟩:=vq
  cases vq2
  have hkind:=hfree (x,.free) (PySem.mem_of_lookup ek) rfl
  obtain ⟨m,hn,hl⟩:=I.loc
  have hVis:Vis X.env.scope x:=by
   rcases hkind with q | q
   ·exact .inr (.inl q)
   ·exact .inr (.inr q)
  obtain ⟨u,ru,lk⟩:=hl i x v vq1 h2 hVis
  refine ⟨u,ru,?_⟩
  rcases lk with ⟨kl,_⟩ | ⟨_,c,ec,ic⟩
  ·rcases hkind with q | q <;> (rw [q] at kl; cases kl)
  ·have hkk:(compEnvC scope (Za8 X.env.cells scope.names []) s.heap.objs.size X.env).kindOf x = some .cell ∨ (compEnvC scope (Za8 X.env.cells scope.names []) s.heap.objs.size X.env).kindOf x = some .free:=by
    rcases Zft (env:=X.env) ek with q | q
    ·exact .inr q
    ·exact .inl q
   obtain ⟨c',ec'⟩:=Option.isSome_iff_exists.mp (Ze6 (cells:=X.env.cells) scope.names [] (PySem.mem_of_lookup ek))
   have e2:=sub x c' ec'
   rw [ec] at e2
   cases e2
   exact .inr ⟨hkk,c,ec',cellK ic⟩
 ·obtain ⟨v,ic⟩:=I.cell x c (sub x c h)
  exact ⟨v,cellK ic⟩
 ·show (σ ++ List.replicate own none).length = N'.length
  rw [List.length_append,List.length_replicate,I.len,hN]
theorem ZaU.grow {K:PySem.W.Frag} {H:Hp} {ι:List Addr} {env:Zz} {σ:St} (E:ZaU K H ι env σ) (n:Nat):ZaU K H ι (env ++ List.replicate n none) (σ ++ List.replicate n none):=by
 refine ⟨by simp [E.1],fun i d h=>?_⟩
 by_cases hi:i < env.length
 ·rw [List.getElem?_append_left hi] at h
  obtain ⟨v,e,r⟩:=E.2 i d h
  exact ⟨v,by rw [List.getElem?_append_left (by rw [← E.1]; exact hi)]; exact e,r⟩
 ·rw [List.getElem?_append_right (Nat.le_of_not_lt hi),List.getElem?_replicate] at h
  split at h <;> cases h
end
section
variable {X:Cx} {elt tg iter:Expr} {ifs:List Expr} {scope:Scope} {pos:Pos} {i:I3} {own:Nat} {g:G3} {ts:List E3} {f:E3} {N':List Str}
structure Zgh (X:Cx) (scope:Scope) (N':List Str) (own:Nat):Prop where
 kind:scope.kind = .function
 cell:∀ y ∈ scope.names,y.2 ≠ .cell
 free:∀ y ∈ scope.names,y.2 = .free → X.env.kindOf y.1 = some .cell ∨ X.env.kindOf y.1 = some .free
 names:∀ y ∈ scope.names,y.2 = .local → scope.names.lookup y.1 = some .local
 len:N'.length = X.N.length + own
 vis:Zh4 X.N N' scope = true
inductive CbI (Y:Cx) (K:PySem.W.Frag) (fp:List Addr) (tn:Nat → Heap → Prop) (itd:It3) (H2:Hp) (ι2:List Addr) (Q:VK) (g:G3) (ts:List E3) (f:E3) (nM:Nat) (acc:Addr) (n:Nat) (s':Shared):Prop
 | mk (k:Nat) (σ5:St) (H5:Hp) (ι5:List Addr) (M5:Store) (env5:Zz) (I5:Inv Y [] σ5 H5 s') (st5:tn k s'.heap) (fr5:∀ b ∈ fp,H5 b = none) (hn:n = itd.items.length - k) (hk:k ≤ itd.items.length)
   (x5:Ext K H2 ι2 H5 ι5) (S5:Zw K H5 ι5 M5) (E5:ZaU K H5 ι5 env5 σ5) (hι:ι5[nM]? = some acc) (h5:Zu K H5 ι5 Q (ZcT itd g ts f nM (itd.items.drop k) env5 M5))
theorem ZgE {pins:List (Addr × Obj)} {σ:St} {s2:Shared} {H2:Hp} {ι2:List Addr} {M2:Store} {env:Zz} {it:Addr} {fp:List Addr} {tn:Nat → Heap → Prop} {J:It} {itd:It3} {Q:VK} {E:Value → Shared → Prop} (O:Zgh X scope N' own) (hc:X.calm = true)
  (hb:∀ C cl s H ex,CG (ZbV X scope N' C cl s H ex) tg g ∧ CTs (ZbV X scope N' C cl s H ex) ifs ts ∧ C3 (ZbV X scope N' C cl s H ex) elt f)
  (I2:Inv X pins σ H2 s2) (T:Turn X.prog X.w X.K tg J fp it tn) (st0:tn 0 s2.heap) (hfp:∀ b ∈ fp,Zey X pins H2 b) (S2:Zw X.K H2 ι2 M2) (E2:ZaU X.K H2 ι2 env σ) (ok:ZhH X.K H2 ι2 itd J)
  (h:Zu X.K H2 ι2 Q (ZcT itd g ts f M2.length itd.items (env ++ List.replicate own none) (M2 ++ [.lst []])))
  (RR:Value → Addr → Result → Shared → Prop)
  (fin:∀ (acc C:Addr) (s':Shared) (m:Str → Option Value) (H':Hp),s'.heap.Ns C m → Zey X pins H' C → Inv X pins σ H' s' → Q (.ref acc) H' → RR (.ref acc) C (.ok .next) s'):
  wpAny (model X.prog X.w) X.A (newList []) (fun acc s₃=>wpAny (model X.prog X.w) X.A (newFunctionEnv scope X.env.globals (Za8 X.env.cells scope.names []) [] X.env.qual none .none (some X.env)) (fun cenv s₄=>
   codeAny (model X.prog X.w) X.A (.compStart (.ListComp elt [⟨tg,iter,ifs,0⟩] scope pos) 0 (.ref it) acc { cenv with scope:=relabel scope X.env }) (RR acc cenv.locals) s₄) E s₃) E s2:=by
 refine wpAny_newObj_type ?_
 have hD:H2 s2.heap.objs.size = none:=I2.hok.fresh (Nat.le_refl _)
 obtain ⟨x3,S3,r3⟩:=S2.lst hD (Zk.nil (K:=X.K) (H:=H2) (ι:=ι2))
 have I3:Inv X pins σ (upd H2 s2.heap.objs.size (.lst [])) { s2 with heap:=s2.heap.push { cls:=.type "list",data:=.seq ([]:List Value).toArray } }:=
  I2.laid (t':=s2.toks) (fun b u e=>Heap.get?_push_of_some _ e) (Nat.le_refl _) ⟨Nat.zero_le _,[],0,.nil,Heap.get?_push_size _ rfl⟩
 generalize hs3:({ s2 with heap:=s2.heap.push { cls:=.type "list",data:=.seq ([]:List Value).toArray } }:Shared) = s3 at I3 ⊢
 have keep23:∀ b o,s2.heap.get? b = some o → s3.heap.get? b = some o:=fun b o e=>by rw [← hs3]; exact Heap.get?_push_of_some _ e
 have hfp3:∀ b ∈ fp,Zey X pins (upd H2 s2.heap.objs.size (.lst [])) b:=fun b hb=>by
  refine ⟨?_,(hfp b hb).2⟩
  obtain ⟨o,e,_⟩:=T.obj _ _ st0 b hb
  rw [Zan (Nat.ne_of_lt (Heap.lt_size e))]
  exact (hfp b hb).1
 have hlt3:∀ b ∈ fp,b < s3.heap.objs.size:=fun b hb=>by
  obtain ⟨o,e,_⟩:=T.obj _ _ st0 b hb
  exact Heap.lt_size (keep23 b o e)
 have st3:tn 0 s3.heap:=T.keep _ _ _ st0 fun b hb o e=>keep23 b o e
 refine wpAny_newFunctionEnv O.cell (by intro y hy; cases hy) (fun h4 hns hsb=>?_) O.kind
 have keep34:∀ b o,s3.heap.get? b = some o → h4.get? b = some o:=fun b o e=>hsb.extBut b o (Nat.ne_of_lt (Heap.lt_size e)) (Heap.get?_push_of_some _ e)
 have I4:=Zir (own:=own) (N':=N') (tk:=s3.toks + ([]:List (Str × Value)).length) I3 O.kind O.cell O.free O.len O.vis hfp3 hlt3 hns keep34
 have st4:tn 0 h4:=T.keep _ _ _ st3 fun b hb o e=>keep34 b o e
 have hfp4:∀ {H':Hp},(∀ b ∈ fp,H' b = none) → ∀ b ∈ fp,Zey (ZbV X scope N' s3.heap.objs.size (Za8 X.env.cells scope.names []) s3 (upd H2 s2.heap.objs.size (.lst [])) fp) [] H' b:=fun hn b hb=>by
  have hc0:∀ y ∈ scope.names,y.2 = .free → ∃ c,X.env.cells.lookup y.1 = some c:=fun y hy e=>I2.ok.has y.1 (O.free y hy e)
  refine ⟨hn b hb,Nat.ne_of_lt (hlt3 b hb),fun hz=>I4.ok.exfs b hb hz,.inl hb,fun x c hx=>(I4.ok.exf b hb).2 x c hx,fun p hp=>absurd (show p ∈ ([]:List (Addr × Obj)) from hp) (by simp)⟩
 obtain ⟨hg,hts,helt⟩:=hb s3.heap.objs.size (Za8 X.env.cells scope.names []) s3 (upd H2 s2.heap.objs.size (.lst [])) fp
 have loop:∀ s₄:Shared,s₄ = { s3 with heap:=h4,toks:=s3.toks + ([]:List (Str × Value)).length } →
   codeAny (model X.prog X.w) X.A (.compLoop (.ListComp elt [⟨tg,iter,ifs,0⟩] scope pos) 0 (.ref it) (.ref s2.heap.objs.size) (compEnvC scope (Za8 X.env.cells scope.names []) s3.heap.objs.size X.env)) (RR (.ref s2.heap.objs.size) s3.heap.objs.size) s₄:=by
  rintro s₄ rfl
  refine ZfE (CbI (ZbV X scope N' s3.heap.objs.size (Za8 X.env.cells scope.names []) s3 (upd H2 s2.heap.objs.size (.lst [])) fp) X.K fp tn itd H2 ι2 Q g ts f M2.length s2.heap.objs.size) ?_ itd.items.length
   ⟨0,_,_,_,_,_,I4,st4,fun b hb=>(hfp3 b hb).1,rfl,Nat.zero_le _,x3,S3,(E2.mono x3).grow own,?_,h.up x3⟩
  ·rintro n s5 ⟨k,σ5,H5,ι5,M5,env5,I5,st5,fr5,rfl,hk,x5,S5,E5,hι,h5⟩
   by_cases hlt:k < itd.items.length
   ·have hd:itd.items[k]? = some itd.items[k]:=by simp [hlt]
    rw [List.drop_eq_getElem_cons hlt] at h5
    unfold ZcT at h5
    by_cases lk:locked itd M5 = true
    ·rw [if_pos lk] at h5
     obtain ⟨go,yl⟩:=(ok k H5 ι5 M5 x5 S5 lk).1 _ hd
     cases eg:g itd.items[k] env5 with
     | none=>rw [eg] at h5; exact h5.elim
     | some env6=>
      rw [eg] at h5
      refine thn (T.item (ZbV X scope N' s3.heap.objs.size (Za8 X.env.cells scope.names []) s3 (upd H2 s2.heap.objs.size (.lst [])) fp) rfl rfl rfl hc k [] s5 σ5 H5 (fun _ _=>False) I5 (hfp4 fr5) st5 go) fun r s6 zz1=>?_
      obtain ⟨u,hr,h6⟩:=zz1
      subst hr
      refine thn h6 fun _ s7 zz1=>?_
      obtain ⟨x,H7,I7,r7,y7,st7,fr7⟩:=zz1
      obtain ⟨rfl,rx⟩:=yl x H7 y7
      have I7':=I7.pinned (hfp4 fr7) (T.obj _ _ st7)
      refine thn (hg _ s7 σ5 H7 x u (fun σ' H'=>H' = H7 ∧ ZaU X.K H7 ι5 env6 σ') I7' r7 ⟨ι5,M5,env5,_,env6,S5,E5,rx,eg,fun σ' E'=>⟨rfl,E'⟩⟩) fun _ s8 zz1=>?_
      obtain ⟨σ8,H8,I8,e8,E8⟩:=zz1
      subst e8
      have back:∀ {σ':St} {H':Hp} {s':Shared},Inv (ZbV X scope N' s3.heap.objs.size (Za8 X.env.cells scope.names []) s3 (upd H2 s2.heap.objs.size (.lst [])) fp) ([] ++ ZeJ fp s7.heap) σ' H' s' →
        Inv (ZbV X scope N' s3.heap.objs.size (Za8 X.env.cells scope.names []) s3 (upd H2 s2.heap.objs.size (.lst [])) fp) [] σ' H' s' ∧ tn (k + 1) s'.heap ∧ ∀ b ∈ fp,H' b = none:=fun {σ' H' s'} I'=>by
       refine ⟨I'.unpinned,T.keep _ _ _ st7 fun b hb o e=>(I'.pin (b,o) (List.mem_append_right _ (List.mem_append_right _ (ZcJ hb e)))).1,fun b hb=>?_⟩
       obtain ⟨o,e,d⟩:=T.obj _ _ st7 b hb
       exact (I'.pin (b,o) (List.mem_append_right _ (List.mem_append_right _ (ZcJ hb e)))).2.1
      obtain ⟨b,M9,e9,h9⟩:=Zu.bind h5
      refine thn (hts _ s8 σ8 H8 (fun b' H'=>b' = b ∧ ∃ ι9,Ext X.K H8 ι5 H' ι9 ∧ Zw X.K H' ι9 M9) I8 ⟨ι5,M5,env6,S5,E8,by rw [e9]; exact fun H' ι' x' S'=>⟨rfl,ι',x',S'⟩⟩) fun b' s9 zz1=>?_
      obtain ⟨H9,I9,eb,ι9,x9,S9⟩:=zz1
      subst eb
      cases b' with
      | false=>
       rw [if_neg (by decide)] at h9 ⊢
       obtain ⟨I9',st9,fr9⟩:=back I9
       exact ⟨itd.items.length - (k + 1),lD 2 0x30113c2012a1c0c21 T1 (Nat.sub_add_cancel (lB 1 6991908881 T1 hlt)) (sbA _ _),⟨k + 1,σ8,H9,ι9,M9,env6,I9',st9,fr9,rfl,hlt,x5.trans x9,S9,E8.mono x9,x9.pre _ _ hι,h9.up x9⟩⟩
      | true=>
       rw [if_pos rfl] at h9 ⊢
       obtain ⟨d,M10,e10,h10⟩:=Zu.bind h9
       refine thn (helt _ s9 σ8 H9 (fun v H'=>∃ ι10,Ext X.K H9 ι9 H' ι10 ∧ Zw X.K H' ι10 M10 ∧ Rep X.K H' ι10 d v) I9 ⟨ι9,M9,env6,S9,E8.mono x9,by rw [e10]; exact fun v H' ι' x' S' r'=>⟨ι',x',S',r'⟩⟩) fun xv s10 zz1=>?_
       obtain ⟨v,H10,I10,r10,ι10,x10,S10,rd⟩:=zz1
       have hι10:ι10[M2.length]? = some s2.heap.objs.size:=x10.pre _ _ (x9.pre _ _ hι)
       cases hm:M10[M2.length]? with
       | none=>rw [hm] at h10; exact h10.elim
       | some o=>
        cases o with
        | dct _=>rw [hm] at h10; exact h10.elim
        | fdct _=>rw [hm] at h10; exact h10.elim
        | ins _ _=>rw [hm] at h10; exact h10.elim
        | lst xs=>
         rw [hm] at h10
         by_cases hz:xs.length < SZ
         ·simp only [if_pos hz] at h10
          obtain ⟨vs,ev,rvs⟩:=S10.obj _ _ _ hm hι10
          obtain ⟨x11,S11⟩:=S10.setl (.inr (.inl ⟨_,ev⟩)) hι10 (rvs.append (Zk.cons rd Zk.nil))
          refine thn (Ze5 _ s10 σ8 H10 (.ref s2.heap.objs.size) [v] (.ref s2.heap.objs.size) [xv] (fun _ H'=>H' = upd H10 s2.heap.objs.size (.lst (vs ++ [v]))) I10 rfl (.cons r10 .nil) ⟨_,vs,v,rfl,rfl,ev,by rw [rvs.length]; exact Nat.lt_of_lt_of_le hz Zbi,rfl⟩) fun _ s11 zz1=>?_
          obtain ⟨_,H11,I11,_,eH⟩:=zz1
          subst eH
          obtain ⟨I11',st11,fr11⟩:=back I11
          exact ⟨itd.items.length - (k + 1),lD 2 0x30113c2012a1c0c21 T1 (Nat.sub_add_cancel (lB 1 6991908881 T1 hlt)) (sbA _ _),⟨k + 1,σ8,_,ι10,_,env6,I11',st11,fr11,rfl,hlt,((x5.trans x9).trans x10).trans x11,S11,((E8.mono x9).mono x10).mono x11,hι10,((h10.up x9).up x10).up x11⟩⟩
         ·simp only [if_neg hz] at h10; exact h10.elim
    ·rw [if_neg lk] at h5; exact h5.elim
   ·have e0:k = itd.items.length:=Nat.le_antisymm hk (Nat.le_of_not_lt hlt)
    subst e0
    rw [List.drop_length] at h5
    unfold ZcT at h5
    by_cases lk:locked itd M5 = true
    ·rw [if_pos lk] at h5
     refine thn (T.done (ZbV X scope N' s3.heap.objs.size (Za8 X.env.cells scope.names []) s3 (upd H2 s2.heap.objs.size (.lst [])) fp) rfl rfl rfl hc _ [] s5 σ5 H5 (fun _ _=>False) I5 (hfp4 fr5) st5 ((ok _ H5 ι5 M5 x5 S5 lk).2 rfl)) fun r s6 zz1=>?_
     obtain ⟨hr,I6⟩:=zz1
     subst hr
     obtain ⟨m6,hn6,_⟩:=I6.loc
     have I7:Inv X pins σ H5 s6:=I3.call' (ch:=fp) I6.os I6.base I6.hok I6.bare fun b hb=>⟨(hfp3 b hb).2.2.2.1,(hfp3 b hb).2.1,(hfp3 b hb).2.2.2.2.1,(hfp3 b hb).2.2.2.2.2⟩
     exact fin _ _ s6 m6 H5 hn6 (I3.fpOk (Nat.le_refl _) I6.free) I7 (h5 _ H5 ι5 Ext.refl S5 (Rep.ref hι))
    ·rw [if_neg lk] at h5; exact h5.elim
  ·rw [← S2.len]; simp
 exact codeAny_compStart_list (loop _ rfl) (T.self _ 0 _ _ _ st4 (loop _ rfl))
theorem Zop (O:Zgh X scope N' own) (hxe:X.xe = fun _ _=>False) (hc:X.calm = true) (hi:CI X tg iter i)
  (hb:∀ C cl s H ex,CG (ZbV X scope N' C cl s H ex) tg g ∧ CTs (ZbV X scope N' C cl s H ex) ifs ts ∧ C3 (ZbV X scope N' C cl s H ex) elt f)
  (hs:∀ x,foldedSetIterable iter X.env x = pure x:=by intro _; rfl):C3 X (.ListComp elt [⟨tg,iter,ifs,0⟩] scope pos) (eLC i own g ts f):=by
 intro pins s σ H Q I h
 obtain ⟨ι,M,env,S,E,h⟩:=h
 obtain ⟨itd,M1,e1,h⟩:=Zu.bind h
 have hc0:∀ y ∈ scope.names,y.2 = .free → ∃ c,X.env.cells.lookup y.1 = some c:=fun y hy e=>I.ok.has y.1 (O.free y hy e)
 rw [eval_ListComp]
 refine wpAny_comprehension_free (use:=none) rfl hs (ZeR hc0) O.kind O.names ?_
 refine thn (hi pins s σ H (fun J H'=>∃ ι',Ext X.K H ι H' ι' ∧ Zw X.K H' ι' M1 ∧ ZhH X.K H' ι' itd J) I ⟨ι,M,env,S,E,by rw [e1]; exact fun J H' ι' x S' o=>⟨ι',x,S',o⟩⟩) fun v s1 h1=>thn h1 fun itv s2 h2=>?_
 obtain ⟨it,fp,tn,J,H2,rfl,I2,T,st2,f2,ι2,x2,S2,ok⟩:=h2
 refine ZgE (own:=own) (g:=g) (ts:=ts) (f:=f) O hc hb I2 T st2 f2 S2 (E.mono x2) ok (h.up x2) (fun acc C=>compPost (model X.prog X.w) X.A X.xe none (EP X pins σ Q) acc C) ?_
 intro acc C s' m H' hn hf I' hq
 obtain ⟨f0,f1,f2',f3,f4,f5⟩:=hf
 exact ⟨m,hn,fun h' sb=>⟨.ref acc,H',I'.turned (t':=s'.toks) (fun b o hb e=>(sb.2 b hb).trans e) f0 f1 f3 f4 f5,rfl,hq⟩⟩
end
end L3
namespace L3
open PySem PySem.Spec PyProof.Rows L2
theorem ZdW {k:Nat} {A:Around} (r:ZaV k A):A.units + 80 < cLine:=by have:=r.un; exact lC 1 0x2502b0c12c82b110d0cc11 T1 this
noncomputable def Its (x:Str):It:=⟨fun i _=>i < x.cps.size,fun i H y H'=>H' = H ∧ ∃ c,x.cps[i]? = some c ∧ y = .str ⟨#[c]⟩,fun i _=>i = x.cps.size⟩
theorem Zio {P:Program} {w:World} {K:PySem.W.Frag} {tg:Expr} {it:Addr} {x:Str} {t:Tok} {ty:String} (W:∀ A':Around,A'.handled = none → Walks P w A' it [it] [it] x.cps.size (SignAt x) (fun i h=>h.IsStrIter it ty x t i))
  (hs:∀ (A:Around) (i:Nat) (s:Shared) (Q:Value → Shared → Prop) (E:Value → Shared → Prop),s.heap.IsStrIter it ty x t i → Q (.ref it) s → wpAny (model P w) A (pyIter (.ref it)) Q E s)
  (hty:["enumerate","zip","dict_itemiterator","dict_reverseitemiterator","odict_iterator","itertools.zip_longest","itertools.pairwise"].contains ty = false):Turn P w K tg (Its x) [it] it (fun i h=>h.IsStrIter it ty x t i) where
 mem:=by simp
 obj:=fun i h st b hb=>by
  have e:b = it:=by simpa using hb
  subst e
  obtain ⟨o,e,c,d⟩:=st
  exact ⟨o,e,fun v z=>by rw [d] at z; cases z⟩
 keep:=fun i h h' st k=>let ⟨o,e,r⟩:=st; ⟨o,k it (by simp) o e,r⟩
 item:=by
  intro X hP hw hK hc i pins s σ H E I hf st hg
  subst hP hw hK
  obtain ⟨f0,f1,f2,f3,f4,f5⟩:=hf it (by simp)
  refine (W X.A (I.ok.hd hc)).item i s _ _ hg st fun v h' tk hv st' kk=>?_
  obtain ⟨c,u,hx,rfl⟩:=hv
  have I1:Inv X pins σ H { s with heap:=h',toks:=tk }:=I.turned (fun b o hb e=>kk b o (by simpa using hb) e) f0 f1 f3 f4 f5
  obtain ⟨o,e,cc,d⟩:=id st'
  exact ⟨_,rfl,Zg5 (s:={ s with heap:=h',toks:=tk }) e cc d hty ⟨.str ⟨#[c]⟩,H,I1,⟨u,rfl⟩,⟨rfl,c,hx,rfl⟩,st',fun b hb=>(hf b hb).1⟩⟩
 done:=by
  intro X hP hw hK hc i pins s σ H E I hf st hg
  subst hP hw hK
  obtain ⟨f0,f1,f2,f3,f4,f5⟩:=hf it (by simp)
  have e:i = x.cps.size:=hg
  subst e
  exact (W X.A (I.ok.hd hc)).done s _ _ st fun h' tk kk=>⟨rfl,I.turned (fun b o hb e=>kk b o (by simpa using hb) e) f0 f1 f3 f4 f5⟩
 self:=hs
section
variable {X:Cx} {tg e o:Expr} {es:List Expr} {pos p apos cpos:Pos} {f:E3} {gl:EL3}
theorem Zma (h:C3 X e f):PI X tg e (fun σ H R=>tOf X.K f σ H fun x H1=>∃ z:Str,x = .str z ∧ z.length ≤ SZ ∧ ∀ J,(∀ ι,ZhH X.K H1 ι ⟨z.cps.toList.map fun c=>.str [c],none⟩ J) → R J H1):=by
 intro pins s σ H R I hw
 refine thn (h pins s σ H _ I hw) fun v s1 zz1=>?_
 obtain ⟨x,H1,I1,r1,z,ex,hz,q⟩:=zz1
 subst ex
 obtain ⟨t,rfl⟩:=r1
 have key:∀ (ty:String) (o:Obj),(∀ A':Around,A'.handled = none → Walks X.prog X.w A' s1.heap.objs.size [s1.heap.objs.size] [s1.heap.objs.size] z.cps.size (SignAt z) (fun i h=>h.IsStrIter s1.heap.objs.size ty z t i)) →
   (∀ (A:Around) (i:Nat) (s:Shared) (Q:Value → Shared → Prop) (E:Value → Shared → Prop),s.heap.IsStrIter s1.heap.objs.size ty z t i → Q (.ref s1.heap.objs.size) s → wpAny (model X.prog X.w) A (pyIter (.ref s1.heap.objs.size)) Q E s) →
   ["enumerate","zip","dict_itemiterator","dict_reverseitemiterator","odict_iterator","itertools.zip_longest","itertools.pairwise"].contains ty = false → (s1.heap.push o).IsStrIter s1.heap.objs.size ty z t 0 →
   PIE X pins σ tg R (.ref s1.heap.objs.size) { s1 with heap:=s1.heap.push o }:=by
  intro ty o W hs hty st
  refine ⟨s1.heap.objs.size,[s1.heap.objs.size],_,_,H1,rfl,I1.kept (t':=s1.toks) fun b o e=>Heap.get?_push_of_some _ e,Zio W hs hty,st,fun b hb=>?_,q _ fun ι=>?_⟩
  ·have e:b = s1.heap.objs.size:=by simpa using hb
   subst e
   exact I1.fpOk (Nat.le_refl _) (I1.hok.fresh (Nat.le_refl _))
  ·intro i H2 ι2 M2 x S _
   refine ⟨fun d hd=>?_,fun hl=>?_⟩
   ·rw [List.getElem?_map] at hd
    cases hq:z.cps.toList[i]? with
    | none=>rw [hq] at hd; cases hd
    | some c=>
     rw [hq] at hd
     have hd':D.str [c] = d:=by simpa using hd
     subst hd'
     have hi:i < z.cps.size:=by
      have:=(List.getElem?_eq_some_iff.mp hq).1
      simpa using this
     refine ⟨hi,fun y H3 hy=>⟨hy.1,?_⟩⟩
     obtain ⟨_,c',hc',rfl⟩:=hy
     have:c' = c:=by
      rw [← Array.getElem?_toList,hq] at hc'
      exact (Option.some.inj hc').symm
     subst this
     exact Rep.str
   ·show i = z.cps.size
    rw [hl]
    simp
 cases ha:z.cps.all (· < 128)
 ·exact wpAny_pyIter_wide ha (key "str_iterator" _ (fun A' hA=>Walks.strWide hA _ z t) (fun _ _ _ _ _ st h=>wpAny_pyIter_striter_wide st h) (by decide) ⟨_,Heap.get?_push_size _ rfl,rfl,rfl⟩)
 ·exact wpAny_pyIter_ascii ha (key "str_ascii_iterator" _ (fun A' hA=>Walks.strAscii hA _ z t) (fun _ _ _ _ _ st h=>wpAny_pyIter_striter_ascii st h) (by decide) ⟨_,Heap.get?_push_size _ rfl,rfl,rfl⟩)
theorem ZkT (h:C3 X e f):CI X tg e (Zdn f):=ZkW h (Zma h)
theorem Zlw {K:PySem.W.Frag} {T:String} {ty:D → Store → Bool} {m:D → List D → Store → R3 D} (hty:∀ H ι M a x,Zw K H ι M → Rep K H ι a x → ty a M = true → tyV K T x H) (σ:St) (H:Hp) (Q:VK) (h:tOf K (Zcq ty m f gl) σ H Q):tBM K T (rM K m) (tOf K f) (tAf K gl) σ H Q:=by
 obtain ⟨ι,M,env,S,E,h⟩:=h
 obtain ⟨a,M1,e1,h⟩:=Zu.bind h
 refine ⟨ι,M,env,S,E,?_⟩
 rw [e1]
 intro v H1 ι1 x1 S1 r1
 by_cases ht:ty a M1 = true
 ·rw [if_pos ht] at h
  obtain ⟨ds,M2,e2,h⟩:=Zu.bind h
  refine ⟨hty _ _ _ _ _ S1 r1 ht,ι1,M1,env,S1,E.mono x1,?_⟩
  rw [e2]
  intro vs H2 ι2 x2 S2 r2
  exact ⟨ι2,M2,a,ds,S2,r1.mono x2,r2,(h.up x1).up x2⟩
 ·rw [if_neg ht] at h; exact h.elim
theorem Zik {K:PySem.W.Frag} (H:Hp) (ι:List Addr) (M:Store) (a:D) (x:V) (S:Zw K H ι M) (r:Rep K H ι a x) (h:tyL a M = true):tyV K "list" x H:=by
 cases a with
 | ref n=>
  simp only [tyL] at h
  cases hn:M[n]? with
  | none=>simp [hn] at h
  | some o=>
   cases o with
   | dct _=>simp [hn] at h
   | fdct _=>simp [hn] at h
   | ins _ _=>simp [hn] at h
   | lst xs=>
    obtain ⟨p,hp,rfl⟩:=r.ref_inv
    obtain ⟨vs,e,_⟩:=S.obj n _ p hn hp
    exact .inl ⟨rfl,vs,SqL.of e⟩
 | _=>simp at h
theorem _root_.L2.MtR.imp {id:String} {r r':V → List V → Hp → VK → Prop} (h:MtR X id r) (i:∀ x xs H Q,r' x xs H Q → r x xs H Q):MtR X id r':=fun pins s σ H x xs v us Q I rx rs q=>h pins s σ H x xs v us Q I rx rs (i x xs H Q q)
theorem ZiY:MtR X "list.append" (rM X.K Za3):=MtR.imp (r:=Zhe) Ze5 fun x xs H Q zz1=>by
 obtain ⟨ι,M,a,ds,S,ra,rd,h⟩:=zz1
 cases a with
 | ref n=>
  cases ds with
  | nil=>exact h.elim
  | cons d ds=>
   cases ds with
   | cons _ _=>exact h.elim
   | nil=>
    simp only [Za3] at h
    cases hn:M[n]? with
    | none=>simp only [hn] at h; exact h.elim
    | some o=>
     cases o with
     | dct _=>simp only [hn] at h; exact h.elim
     | fdct _=>simp only [hn] at h; exact h.elim
     | ins _ _=>simp only [hn] at h; exact h.elim
     | lst z=>
      simp only [hn] at h
      split at h
      ·rename_i hz
       obtain ⟨p,hp,rfl⟩:=ra.ref_inv
       obtain ⟨v,ws,rfl,r1,r2⟩:=rd.cons_inv
       have:=r2.nil_inv
       subst this
       obtain ⟨vs,e,rv⟩:=S.obj n _ p hn hp
       obtain ⟨x2,S2⟩:=S.setl (.inr (.inl ⟨_,e⟩)) hp (rv.append (Zk.cons r1 Zk.nil))
       exact ⟨p,vs,v,rfl,rfl,e,by rw [rv.length]; exact Nat.lt_of_lt_of_le hz Zbi,h _ _ _ x2 S2 Rep.non⟩
      ·exact h.elim
 | _=>exact h.elim
theorem Zbh (ho:C3 X o f) (ha:CA X (e :: es) gl)
  (hbase:attributeBase o "append" X.env (eval o X.env) = eval o X.env:=by rfl)
  (hfew:((backTo cpos (starEach (e :: es) X.env)).all (fun x=>!x.1) && (backToKw cpos (keywordEach [] X.env)).all (fun x=>x.1.isSome)
   && decide ((e :: es).length + ([]:List Keyword).length + (if ([]:List Keyword).isEmpty then 0 else 1) < 30)) = true:=by rfl)
  (hline:(apos.endLine == cpos.line) = true:=by rfl) (hs:starEach (e :: es) X.env = (false,eval e X.env) :: starEach es X.env:=by rfl) (hplain:(backTo cpos (starEach es X.env)).any (·.1) = false:=by rfl):
  C3 X (.Call (.Attribute o "append" apos) (e :: es) [] cpos) (Zcq tyL Za3 f gl):=
 (Znj PySem.F.plainAttrs_list PySem.F.slot_list_append PySem.F.type_list_append ZiY ho ha hbase hfew hline hs hplain).imp (Zlw Zik)
end
end L3
namespace L3
open PySem PySem.Spec PyProof.Rows L2
section
variable {X:Cx}
theorem ZkZ {pins:List (Addr × Obj)} {σ:St} {H:Hp} {s:Shared} {ι:List Addr} {M:Store} {a b:D} {x y:V} {u v:Value} {k:Bool} (hu:X.A.units + 80 < cLine) (I:Inv X pins σ H s) (S:Zw X.K H ι M)
  (ra:Rep X.K H ι a x) (rb:Rep X.K H ι b y) (ru:RelV x u) (rv:RelV y v) (h:eqD a b M = some k):SeqAt.RcNeAt X.A s u v (!k):=by
 cases a with
 | ref n=>
  cases b with
  | ref m=>
   simp only [eqD] at h
   cases hn:M[n]? with
   | none=>simp [hn] at h
   | some o=>
    cases o with
    | dct _=>simp [hn] at h
    | fdct _=>simp [hn] at h
    | ins _ _=>simp [hn] at h
    | lst ds=>
     cases hm:M[m]? with
     | none=>simp [hn,hm] at h
     | some o=>
      cases o with
      | dct _=>simp [hn,hm] at h
      | fdct _=>simp [hn,hm] at h
      | ins _ _=>simp [hn,hm] at h
      | lst es=>
       simp only [hn,hm] at h
       split at h
       ·rename_i hp
        cases h
        rw [Bool.and_eq_true] at hp
        obtain ⟨p,hp1,rfl⟩:=ra.ref_inv
        obtain ⟨q,hq1,rfl⟩:=rb.ref_inv
        cases ru
        cases rv
        obtain ⟨vs,e1,r1⟩:=S.obj n _ p hn hp1
        obtain ⟨ws,e2,r2⟩:=S.obj m _ q hm hq1
        obtain ⟨its,rvs,pl1,_⟩:=I.list (SqL.of e1)
        obtain ⟨its2,rws,pl2,_⟩:=I.list (SqL.of e2)
        have it1:=pl1.isList
        have it2:=pl2.isList
        have l1:its.length = ds.length:=by rw [← rvs.length,r1.length]
        have l2:its2.length = es.length:=by rw [← rws.length,r2.length]
        have hu1:X.A.units < cLine:=lB 1 17666545486865 T1 hu
        by_cases hl:ds.length = es.length
        ·have key:(List.range its.toArray.size).all (fun j=>match ds[j]?,es[j]? with | some a,some b=>deq a b | _,_=>false) = ZbN ds es:=by
          rw [List.size_toArray,l1]
          exact ZbM hl fun j a b h1 h2=>by rw [h1,h2]
         rw [← key]
         refine SeqAt.RcNeAt.lists it1 it2 (by rw [List.size_toArray,List.size_toArray,l1,l2,hl]) hu1 fun j h1 h2=>?_
         have h1':j < ds.length:=by rw [← l1]; simpa using h1
         have h2':j < es.length:=by rw [← l2]; simpa using h2
         have q1:ds[j]? = some ds[j]:=by simp [h1']
         have q2:es[j]? = some es[j]:=by simp [h2']
         rw [q1,q2]
         obtain ⟨v1,g1,z1⟩:=r1.get q1
         obtain ⟨v2,g2,z2⟩:=r2.get q2
         obtain ⟨u1,k1,w1⟩:=rvs.get g1
         obtain ⟨u2,k2,w2⟩:=rws.get g2
         have m1:its.toArray[j] = u1:=by
          have:=List.getElem?_eq_some_iff.mp k1
          simpa using this.2
         have m2:its2.toArray[j] = u2:=by
          have:=List.getElem?_eq_some_iff.mp k2
          simpa using this.2
         rw [m1,m2]
         exact ZfF I DEEP X.A.in1 ds[j] es[j] v1 v2 u1 u2 (by rw [units_in1]; show X.A.units + 1 + 60 + 1 < cLine; exact lB 1 0x1a3c2ba0ccc11502b0c11 T1 hu) (List.all_eq_true.mp hp.1 _ (List.getElem_mem h1')) (List.all_eq_true.mp hp.2 _ (List.getElem_mem h2')) z1 z2 w1 w2
        ·have z:ZbN ds es = false:=by
          cases q:ZbN ds es with
          | false=>rfl
          | true=>exact absurd (Zcr q) hl
         rw [z]
         exact SeqAt.RcNeAt.lists_lengths it1 it2 (by rw [List.size_toArray,List.size_toArray,l1,l2]; simpa using hl) hu1
       ·cases h
  | _=>simp [eqD] at h
 | int i=>cases b with
  | int j=>
   simp only [eqD] at h
   cases h
   have:=ra.int_inv; subst this; have:=rb.int_inv; subst this
   obtain ⟨t,rfl⟩:=ru
   obtain ⟨t',rfl⟩:=rv
   rw [← Bool.beq_eq_decide_eq]
   exact SeqAt.RcNeAt.int_int _ _ _ _
  | _=>simp [eqD] at h
 | str i=>cases b with
  | str j=>
   simp only [eqD] at h
   cases h
   have:=ra.str_inv; subst this; have:=rb.str_inv; subst this
   obtain ⟨t,rfl⟩:=ru
   obtain ⟨t',rfl⟩:=rv
   have e:decide (i = j) = ((⟨i.toArray⟩:Str) == ⟨j.toArray⟩):=by
    rw [← Bool.beq_eq_decide_eq,← Zdp]
    by_cases h:(⟨i.toArray⟩:Str) = ⟨j.toArray⟩
    ·simp [h]
    ·simp [h]
   rw [e]
   exact SeqAt.RcNeAt.str_str _ _ _ _
  | _=>simp [eqD] at h
 | bl i=>cases b with
  | bl j=>
   simp only [eqD] at h
   cases h
   have:=ra.bl_inv; subst this; have:=rb.bl_inv; subst this
   cases ru
   cases rv
   rw [← Bool.beq_eq_decide_eq]
   exact SeqAt.RcNeAt.bool_bool _ _
  | _=>simp [eqD] at h
 | tup ds=>cases b with
  | tup es=>
   simp only [eqD] at h
   split at h
   ·rename_i hp
    cases h
    rw [Bool.and_eq_true] at hp
    obtain ⟨p,vs,rfl,s1,r1⟩:=ra.tup_inv
    obtain ⟨p',ws,rfl,s2,r2⟩:=rb.tup_inv
    cases ru
    cases rv
    obtain ⟨its,rvs,ht,_⟩:=I.tuple s1
    obtain ⟨its2,rws,ht2,_⟩:=I.tuple s2
    have e1:its.length = ds.length:=by rw [← rvs.length,r1.length]
    have e2:its2.length = es.length:=by rw [← rws.length,r2.length]
    have hu1:X.A.units < cLine:=lB 1 17666545486865 T1 hu
    have key:((List.range (min its.toArray.size its2.toArray.size)).all (fun j=>match ds[j]?,es[j]? with | some a,some b=>deq a b | _,_=>false) && its.toArray.size == its2.toArray.size) = ZbN ds es:=by
     rw [List.size_toArray,List.size_toArray,e1,e2]
     by_cases hl:ds.length = es.length
     ·rw [hl,Nat.min_self,beq_self_eq_true,Bool.and_true,← hl]
      exact ZbM hl fun j a b h1 h2=>by rw [h1,h2]
     ·have z:ZbN ds es = false:=by
       cases q:ZbN ds es with
       | false=>rfl
       | true=>exact absurd (Zcr q) hl
      rw [z,beq_eq_false_iff_ne.mpr hl,Bool.and_false]
    rw [← key]
    refine SeqAt.RcNeAt.tuples (show s.heap.IsTuple p its.toArray from ht) (show s.heap.IsTuple p' its2.toArray from ht2) hu1 fun j h1 h2=>?_
    have h1':j < ds.length:=by rw [← e1]; simpa using h1
    have h2':j < es.length:=by rw [← e2]; simpa using h2
    have q1:ds[j]? = some ds[j]:=by simp [h1']
    have q2:es[j]? = some es[j]:=by simp [h2']
    rw [q1,q2]
    obtain ⟨v1,g1,z1⟩:=r1.get q1
    obtain ⟨v2,g2,z2⟩:=r2.get q2
    obtain ⟨u1,k1,w1⟩:=rvs.get g1
    obtain ⟨u2,k2,w2⟩:=rws.get g2
    have m1:its.toArray[j] = u1:=by
     have:=List.getElem?_eq_some_iff.mp k1
     simpa using this.2
    have m2:its2.toArray[j] = u2:=by
     have:=List.getElem?_eq_some_iff.mp k2
     simpa using this.2
    rw [m1,m2]
    exact ZfF I DEEP X.A.in1 ds[j] es[j] v1 v2 u1 u2 (by rw [units_in1]; show X.A.units + 1 + 60 + 1 < cLine; exact lB 1 0x1a3c2ba0ccc11502b0c11 T1 hu) (List.all_eq_true.mp hp.1 _ (List.getElem_mem h1')) (List.all_eq_true.mp hp.2 _ (List.getElem_mem h2')) z1 z2 w1 w2
   ·cases h
  | _=>simp [eqD] at h
 | _=>cases b <;> simp [eqD] at h
theorem Zof (hu:X.A.units + 80 < cLine):OpR X (compareOp .NotEq) (r2 X.K Zli):=by
 intro pins s σ H x y v u Q I rx ry h
 obtain ⟨ι,M,a,b,S,ra,rb,h⟩:=h
 unfold Zli at h
 cases q:eqD a b M with
 | none=>rw [q] at h; exact h.elim
 | some k=>
  rw [q] at h
  exact ZkZ hu I S ra rb rx ry q X.prog X.w X.xe _ ⟨.bl (!k),H,I,rfl,Zu.ok h S Rep.bl⟩
theorem ZhV (x:List Nat) (n:Nat) (a:List Nat):(List.replicate n x.toArray).foldl (· ++ ·) a.toArray = (a ++ (List.replicate n x).flatten).toArray:=by
 induction n generalizing a with
 | zero=>simp
 | succ n ih=>
  rw [List.replicate_succ,List.foldl_cons,List.replicate_succ,List.flatten_cons]
  have:=ih (a ++ x)
  simp only [List.append_toArray] at this ⊢
  rw [this]
  simp
theorem ZlG (x:List Nat) (k:Int):Txt.mul (⟨x.toArray⟩:Str) k = ⟨(List.replicate k.toNat x).flatten.toArray⟩:=by
 unfold Txt.mul
 split
 ·rename_i h
  have:k.toNat = 0:=Nat.le_antisymm (Nat.le_of_eq (Int.toNat_of_nonpos (iN [] [_] 1 235446417 T1 h))) (Nat.zero_le _)
  rw [this]; rfl
 ·split
  ·rename_i h1 h2
   simp only [Bool.or_eq_true,beq_iff_eq,Str.length,List.size_toArray] at h2
   rcases h2 with h2 | h2
   ·subst h2; simp
   ·have:x = []:=List.eq_nil_of_length_eq_zero h2
    subst this
    simp
  ·have:=ZhV x k.toNat []
   rw [List.nil_append] at this
   exact congrArg Str.mk this
theorem Zk.repl {K:PySem.W.Frag} {H:Hp} {ι:List Addr} {ds:List D} {vs:List V} (r:Zk K H ι ds vs):∀ k:Nat,Zk K H ι (List.replicate k ds).flatten (List.replicate k vs).flatten
 | 0=>Zk.nil
 | k + 1=>by rw [List.replicate_succ,List.replicate_succ,List.flatten_cons,List.flatten_cons]; exact r.append (Zk.repl r k)
theorem ZgN:OpR X (binaryOp .Mult) (r2 X.K ZdO):=by
 have hs:OpR X (binaryOp .Mult) (fun x y H Q=>∃ (z:List Nat) (k:Int),x = .str ⟨z.toArray⟩ ∧ y = .int k ∧ z.length * k.toNat ≤ 1000000 ∧ k < 1000000 ∧ -1000000 < k ∧ Q (.str ⟨(List.replicate k.toNat z).flatten.toArray⟩) H):=by
  intro pins s σ H x y v u Q I rx ry h
  obtain ⟨z,k,rfl,rfl,h1,h2,h3,q⟩:=h
  obtain ⟨t,rfl⟩:=rx
  obtain ⟨t',rfl⟩:=ry
  refine SB.mul ⟨?_,fun h4 h5=>?_,fun h4 h5=>?_⟩ fun t'' tk=>?_
  ·simp; omega
  ·simp only [Str.length,List.size_toArray]
   simp at h4 h5
   have hk:2 ≤ k:=by
    simp only [Str.length,List.size_toArray] at h5
    omega
   have e:(k.toNat:Int) = k:=Int.le_antisymm (Int.le_of_eq (Int.toNat_of_nonneg (iN [] [_] 1 3892452225 T1 hk))) ((Int.self_le_toNat _))
   have hm:(z.length:Int) * k ≤ 1000000:=by
    have h1':((z.length * k.toNat:Nat):Int) ≤ 1000000:=Int.ofNat_le.mpr h1
    rw [Int.natCast_mul,e] at h1'
    exact h1'
   have hd:(z.length:Int) ≤ 9223372036854775807 / k:=Int.le_ediv_of_mul_le (iN [] [_] 1 3909229441 T1 hk) (by omega)
   show ¬ ((z.length:Int) > (2 ^ 63 - 1) / k)
   have e3:((2:Int) ^ 63 - 1) = 9223372036854775807:=by decide
   rw [e3]
   exact fun z=>iN [_] [_] 2 6599352549521 T1 z hd
  ·unfold Builtin.Str.tooLong
   simp only [Str.length,List.size_toArray,decide_eq_false_iff_not]
   have hsz:(1000000:Nat) ≤ sizeLine:=Zbi
   exact fun z=>lB 3 0x6f42405b1010f42405b011011 T1 z hsz h1
  ·rw [ZlG]
   exact ⟨.str _,H,I.tok _,⟨_,rfl⟩,q⟩
 refine OpR.imp (OpR.or Zmg (OpR.or hs Zl3)) fun x y H Q zz1=>?_
 obtain ⟨ι,M,a,b,S,ra,rb,h⟩:=zz1
 cases a with
 | int i=>cases b with
  | int j=>
   simp only [ZdO] at h
   split at h
   ·rename_i hm
    refine .inl ⟨i,j,ra.int_inv,rb.int_inv,?_,Zu.ok h S Rep.int⟩
    simp only [Zca,Bool.or_eq_true,Bool.and_eq_true,decide_eq_true_eq] at hm
    exact hm
   ·exact h.elim
  | _=>exact h.elim
 | str z=>cases b with
  | int k=>
   simp only [ZdO] at h
   split at h
   ·rename_i hz
    exact .inr (.inl ⟨z,k,ra.str_inv,rb.int_inv,hz.1,hz.2.1,hz.2.2,Zu.ok h S Rep.str⟩)
   ·exact h.elim
  | _=>exact h.elim
 | ref n=>cases b with
  | int k=>
   simp only [ZdO] at h
   cases hn:M[n]? with
   | none=>simp only [hn] at h; exact h.elim
   | some o=>
    cases o with
    | dct _=>simp only [hn] at h; exact h.elim
    | fdct _=>simp only [hn] at h; exact h.elim
    | ins _ _=>simp only [hn] at h; exact h.elim
    | lst z=>
     simp only [hn] at h
     split at h
     ·rename_i hz
      obtain ⟨p,hp,rfl⟩:=ra.ref_inv
      obtain ⟨vs,e,r⟩:=S.obj n _ p hn hp
      refine .inr (.inr ⟨p,k,vs,rfl,rb.int_inv,e,by omega,by omega,by rw [r.length]; exact Nat.le_trans hz.1 Zbi,fun q hq=>?_⟩)
      obtain ⟨x2,S2,r2⟩:=S.lst hq (Zk.repl r k.toNat)
      exact h _ _ _ x2 S2 r2
     ·exact h.elim
  | _=>exact h.elim
 | _=>cases b <;> exact h.elim
theorem Zg8 (n d:Nat) (hd:d ≤ n) (o:Option Int):(match o with | none=>(d:Int) | some i=>max 0 (min (if i < 0 then i + (n:Int) else i) (n:Int))) = ((sIx n d o:Nat):Int):=by
 cases o with
 | none=>rfl
 | some v=>
  show max 0 (min (if v < 0 then v + (n:Int) else v) (n:Int)) = (((if v < 0 then (v + (n:Int)).toNat else min v.toNat n):Nat):Int)
  by_cases h:v < 0
  ·rw [if_pos h,if_pos h]; exact clC v n h
  ·rw [if_neg h,if_neg h]; exact clD v n h
theorem Zd8 (lo hi:Option Int) (n:Nat):Builtin.Str.strSliceIndices lo hi 1 n = (List.range (sIx n n hi - sIx n 0 lo)).map (fun k=>sIx n 0 lo + k):=by
 have e1:=Zg8 n 0 (Nat.zero_le _) lo
 have e2:=Zg8 n n (Nat.le_refl _) hi
 have key:Builtin.Str.strSliceIndices lo hi 1 n = sliceRange ((sIx n 0 lo:Nat):Int) ((sIx n n hi:Nat):Int) 1:=by
  rw [← e1,← e2]
  simp only [Builtin.Str.strSliceIndices,show ((1:Int) > 0) = True from by simp,if_true]
  cases lo <;> cases hi <;> rfl
 rw [key]
 generalize sIx n 0 lo = a
 generalize sIx n n hi = b
 simp only [sliceRange,show ((1:Int) > 0) = True from by simp,if_true]
 by_cases hlt:(a:Int) < b
 ·have e3:(((b:Int) - a + 1 - 1) / 1).toNat = b - a:=by first | exact Nat.le_antisymm (iN [_,_,_,_] [_] 3 0x230038a112c001aa1808fcf001d81 T1 (Int.mul_ediv_self_le (by decide)) (sbA _ _) (Int.toNat_of_nonneg (iN [_,_] [_] 2 0xe8a001dcaa0818fcf91180891 T1 hlt (Int.lt_mul_ediv_self_add (by decide))))) (iN [_,_,_,_] [_] 3 0x230013c2128081a001dcaa1808fcf91 T1 (Int.lt_mul_ediv_self_add (by decide)) (Int.self_le_toNat _) (Nat.sub_add_cancel (iN [_,_] [] 1 4296542353 T1 hlt))) | (simp; done) | (simp; omega)
  simp only [hlt,if_true,e3]
  refine List.map_congr_left fun k _=>?_
  exact Nat.le_antisymm (iN [_,_,_] [] 1 0x21c002801d18c08a1 T1 (Int.toNat_of_nonneg (iN [_,_] [] 0 103109659880 T1))) (iN [_,_,_] [] 1 0x210c0281801d08c81 T1 (Int.self_le_toNat _))
 ·have:b - a = 0:=Nat.le_antisymm (Nat.le_of_eq (Nat.sub_eq_zero_of_le (iN [_,_] [] 1 270010577 T1 hlt))) (Nat.zero_le _)
  simp [hlt,this]
theorem Zfl (n d:Nat) (hd:d ≤ n) (o:Option Int):sIx n d o ≤ n:=by
 cases o with
 | none=>exact hd
 | some v=>simp only [sIx]; split <;> omega
theorem Zgj (z:List Nat) (lo hi:Option Int) (l u:Option (Int × Tok)) (hl:l.map (·.1) = lo) (hu:u.map (·.1) = hi):
  (if ((1:Int) == 1 && (slicePicked ⟨z.toArray⟩ l u none).length == (⟨z.toArray⟩:Str).length) = true then (⟨z.toArray⟩:Str) else ⟨((slicePicked ⟨z.toArray⟩ l u none).filterMap ((⟨z.toArray⟩:Str).cps[·]?)).toArray⟩) = ⟨(cutD z lo hi).toArray⟩:=by
 have e0:slicePicked ⟨z.toArray⟩ l u none = (List.range (sIx z.length z.length hi - sIx z.length 0 lo)).map (fun k=>sIx z.length 0 lo + k):=by
  unfold slicePicked
  rw [hl,hu]
  simp only [Str.length,List.size_toArray]
  exact Zd8 lo hi z.length
 have hb:=Zfl z.length z.length (Nat.le_refl _) hi
 rw [e0]
 have pick:((List.range (sIx z.length z.length hi - sIx z.length 0 lo)).map (fun k=>sIx z.length 0 lo + k)).filterMap ((⟨z.toArray⟩:Str).cps[·]?) = cutD z lo hi:=by
  unfold cutD
  by_cases hab:sIx z.length 0 lo ≤ sIx z.length z.length hi
  ·have h:=StrLaws.picks z (sIx z.length z.length hi - sIx z.length 0 lo) (sIx z.length 0 lo) (lD 2 82120338080600065 T1 hb (Nat.sub_add_cancel hab))
   simpa using h
  ·have:sIx z.length z.length hi - sIx z.length 0 lo = 0:=Nat.le_antisymm (Nat.le_of_eq (Nat.sub_eq_zero_of_le (lB 1 1052737 T1 hab))) (Nat.zero_le _)
   rw [this]
   simp
 rw [pick]
 split
 ·rename_i hc
  simp only [List.length_map,List.length_range,Str.length,List.size_toArray,Bool.and_eq_true,beq_iff_eq] at hc
  have hc2:=hc.2
  have h0:sIx z.length 0 lo = 0 ∨ z.length = 0:=by omega
  have:cutD z lo hi = z:=by
   unfold cutD
   rcases h0 with h0 | h0
   ·rw [h0,List.drop_zero,List.take_of_length_le (by exact lD 3 0x3102001e3c2011031 T1 hc2 (sbA _ _) (Nat.sub_le _ _))]
   ·have:z = []:=List.eq_nil_of_length_eq_zero h0
    subst this
    simp
  rw [this]
 ·rfl
theorem Zmd:SlR X (fun x lo hi H Q=>∃ z:List Nat,x = .str ⟨z.toArray⟩ ∧ z.length ≤ SZ ∧ Q (.str ⟨(cutD z lo hi).toArray⟩) H):=by
 intro pins s σ H x v vl vu lo hi sl Q I rx hs pl pu h
 obtain ⟨z,rfl,hz,q⟩:=h
 obtain ⟨t,rfl⟩:=rx
 have part:∀ {v:Value} {o:Option Int},IsPart v o → ∃ p:Option (Int × Tok),v = partValue p ∧ p.map (·.1) = o:=by
  intro v o h
  cases h with
  | none=>exact ⟨none,rfl,rfl⟩
  | int i t=>exact ⟨some (i,t),rfl,rfl⟩
 obtain ⟨l,rfl,hl⟩:=part pl
 obtain ⟨u,rfl,hu⟩:=part pu
 refine ⟨"str",_,PySem.F.slot_str_getitem.lookup,typeIs_str _ _ _,?_⟩
 refine wpAny_getItem_str_slice (l:=l) (u:=u) (st:=none) hs rfl ?_
 unfold sliceMade
 refine post_val_or_made (fun _=>?_) fun t' k=>?_
 ·show ((slicePicked ⟨z.toArray⟩ l u none).filterMap ((⟨z.toArray⟩:Str).cps[·]?)).toArray.size ≤ sizeLine
  rw [List.size_toArray]
  refine Nat.le_trans (List.length_filterMap_le _ _) ?_
  show (Builtin.Str.strSliceIndices (l.map (·.1)) (u.map (·.1)) 1 (⟨z.toArray⟩:Str).length).length ≤ sizeLine
  rw [Zd8]
  simp only [List.length_map,List.length_range,Str.length,List.size_toArray]
  have:=Zfl z.length z.length (Nat.le_refl _) (u.map (·.1))
  have:=Zbi
  omega
 ·have e:=Zgj z lo hi l u hl hu
  have e':(if (((none:Option (Int × Tok)).map (·.1)).getD 1 == 1 && (slicePicked ⟨z.toArray⟩ l u none).length == (⟨z.toArray⟩:Str).length) = true then (⟨z.toArray⟩:Str) else ⟨((slicePicked ⟨z.toArray⟩ l u none).filterMap ((⟨z.toArray⟩:Str).cps[·]?)).toArray⟩) = ⟨(cutD z lo hi).toArray⟩:=e
  rw [e']
  exact ⟨.str _,H,I.tok _,⟨_,rfl⟩,q⟩
theorem Zdg {prog:Program} {w:World} {A:Around} {E:Value → Shared → Prop} {s:Shared} {t sl:Addr} {items:Array Value} {vl vu:Value} {lo hi:Option Int} {Q:Value → Shared → Prop} (ht:IsTup s.heap t items) (hs:s.heap.IsSliceOf sl vl vu .none) (pl:IsPart vl lo) (pu:IsPart vu hi)
  (hw:HT.sIx items.size 0 lo = 0 ∧ HT.sIx items.size items.size hi = items.size) (h:Q (.ref t) s):wpAny (model prog w) A (getItem (.ref t) (.ref sl)) Q E s:=by
 obtain ⟨os,hos,hcs,hds⟩:=id hs
 have hTs:s.TypeIs (.ref sl) "slice":=⟨os,hos,hcs⟩
 unfold getItem
 try with_reducible refine wpAny_holding ?_
 first | refine wpAny_bind (wpAny_pure ?_) | skip
 refine wpAny_bind (wpAny_sequenceKey ht.typeIs (by decide) ?_)
 refine wpAny_bind (wpAny_callSpecial?_slot (name:=Str.ofString "__getitem__") ht.typeIs PyProof.Rows.slot_tuple_getitem
  (wpAny_call_entry PyProof.Rows.slot_tuple_getitem ht.typeIs entry_tuple_getitem ?_ (args_tuple_getitem _ _)))
 show wpAny _ _ (Builtin.Tuple.tupleItemsOf (.ref t) >>= _) _ _ s
 refine wpAny_bind (tupleItemsOf_ ht ?_)
 refine wpAny_bind (wpAny_typeOf hTs ?_)
 rw [if_pos (by decide)]
 refine wpAny_bind (HT.sliceApplied_gen hs pl pu ?_)
 have hyes:(((HT.sIx items.size 0 lo:Nat):Int) == 0 && (1:Int) == 1 && (HT.sIx items.size items.size hi - HT.sIx items.size 0 lo) == items.size) = true:=by
  rw [hw.1,hw.2]; simp
 show wpAny _ _ (if (((HT.sIx items.size 0 lo:Nat):Int) == 0 && (1:Int) == 1 && (HT.sIx items.size items.size hi - HT.sIx items.size 0 lo) == items.size) = true then _ else _) _ _ s
 rw [if_pos hyes]
 unfold Builtin.Tuple.tupleIsExact
 refine wpAny_bind (wpAny_bind (wpAny_typeOf ht.typeIs (wpAny_pure ?_)))
 rw [if_pos (by decide)]
 exact wpAny_bind (wpAny_rule (wpAny_pure ⟨_,rfl,wpAny_pure h⟩))
theorem ZjG:SlR X (fun x lo hi H Q=>∃ a xs,x = .ref a ∧ SqT X.K H a xs ∧ (HT.sIx xs.length 0 lo = 0 ∧ HT.sIx xs.length xs.length hi = xs.length) ∧ Q (.ref a) H):=by
 intro pins s σ H x v vl vu lo hi sl Q I rx hs pl pu h
 obtain ⟨a,xs,rfl,hx,hw,q⟩:=h
 cases rx
 obtain ⟨its,r,ht,hz⟩:=I.tuple hx
 have hlen:its.toArray.size = xs.length:=by rw [List.size_toArray]; exact r.length.symm
 refine ⟨"tuple",_,PyProof.Rows.slot_tuple_getitem.lookup,ht.typeIs,?_⟩
 exact Zdg ht hs pl pu (by rw [hlen]; exact hw) ⟨.ref a,H,I,rfl,q⟩
theorem ZnE:SlR X (rS X.K):=SlR.imp (SlR.or (SlR.or ZkU ZjG) (SlR.or Zjp Zmd)) fun x lo hi H Q zz1=>by
 obtain ⟨ι,M,a,S,ra,h⟩:=zz1
 have ex:∀ n d o,HT.sIx n d o = sIx n d o:=fun n d o=>by cases o <;> rfl
 cases a with
 | tup ds=>
  simp only [Zgi] at h
  obtain ⟨p,vs,rfl,s,r⟩:=ra.tup_inv
  by_cases hw:sIx ds.length 0 lo = 0 ∧ sIx ds.length ds.length hi = ds.length
  ·refine .inl (.inr ⟨p,vs,rfl,s,by rw [ex,ex,r.length]; exact hw,?_⟩)
   have e:cutD ds lo hi = ds:=by unfold cutD; rw [hw.1,hw.2]; simp
   rw [e] at h
   exact Zu.ok h S (Rep.tup s r)
  ·refine .inl (.inl ⟨p,vs,rfl,s,by rw [ex,ex,r.length]; exact hw,fun q hq=>?_⟩)
   obtain ⟨x2,S2,r2⟩:=S.tupl hq (ZgJ r lo hi)
   exact h _ _ _ x2 S2 r2
 | scr ds=>
  simp only [Zgi] at h
  obtain ⟨p,vs,rfl,s,r⟩:=ra.scr_inv
  refine .inr (.inl ⟨p,vs,rfl,s.sq,fun q hq=>?_⟩)
  obtain ⟨x2,S2,r2⟩:=S.lst hq (ZgJ r lo hi)
  exact h _ _ _ x2 S2 r2
 | str z=>
  simp only [Zgi] at h
  split at h
  ·rename_i hz
   exact .inr (.inr ⟨z,ra.str_inv,hz,Zu.ok h S Rep.str⟩)
  ·exact h.elim
 | ref n=>
  simp only [Zgi] at h
  cases hn:M[n]? with
  | none=>simp only [hn] at h; exact h.elim
  | some o=>
   cases o with
   | dct _=>simp only [hn] at h; exact h.elim
   | fdct _=>simp only [hn] at h; exact h.elim
   | ins _ _=>simp only [hn] at h; exact h.elim
   | lst ds=>
    simp only [hn] at h
    obtain ⟨p,hp,rfl⟩:=ra.ref_inv
    obtain ⟨vs,e,r⟩:=S.obj n _ p hn hp
    refine .inr (.inl ⟨p,vs,rfl,SqL.of e,fun q hq=>?_⟩)
    obtain ⟨x2,S2,r2⟩:=S.lst hq (ZgJ r lo hi)
    exact h _ _ _ x2 S2 r2
 | _=>exact h.elim
theorem Zeo {K:PySem.W.Frag} {H:Hp} {ι:List Addr} {d:D} {xs:List V} (r:Zk K H ι [d] xs):∃ x,xs = [x] ∧ Rep K H ι d x:=by
 obtain ⟨v,ws,rfl,r1,r2⟩:=r.cons_inv
 have:=r2.nil_inv
 subst this
 exact ⟨v,rfl,r1⟩
theorem Zck:Zba X (.builtin "len") (rB X.K Za0):=Zba.imp Zii fun xs H Q zz1=>by
 obtain ⟨ι,M,ds,S,rd,h⟩:=zz1
 cases ds with
 | nil=>exact h.elim
 | cons d ds=>
  cases ds with
  | cons _ _=>cases d <;> exact h.elim
  | nil=>
   obtain ⟨x,rfl,r⟩:=Zeo rd
   cases d with
   | tup z=>
    obtain ⟨p,vs,rfl,s,r'⟩:=r.tup_inv
    exact ⟨_,vs.length,rfl,.inr ⟨vs,s,rfl⟩,by rw [r'.length]; exact Zu.ok h S Rep.int⟩
   | scr z=>
    obtain ⟨p,vs,rfl,s,r'⟩:=r.scr_inv
    exact ⟨_,vs.length,rfl,.inl ⟨vs,s.sq,rfl⟩,by rw [r'.length]; exact Zu.ok h S Rep.int⟩
   | str z=>
    simp only [Za0] at h
    split at h
    ·rename_i hz
     have:=r.str_inv
     subst this
     refine ⟨_,z.length,rfl,⟨?_,?_⟩,Zu.ok h S Rep.int⟩
     ·show z.toArray.size ≤ sizeLine
      rw [List.size_toArray]
      exact Nat.le_trans hz Zbi
     ·show z.length = z.toArray.size
      rw [List.size_toArray]
    ·exact h.elim
   | ref n=>
    cases hn:M[n]? with
    | none=>simp only [Za0,hn] at h; exact h.elim
    | some o=>
     cases o with
     | dct _=>simp only [Za0,hn] at h; exact h.elim
     | fdct _=>simp only [Za0,hn] at h; exact h.elim
     | ins _ _=>simp only [Za0,hn] at h; exact h.elim
     | lst z=>
      simp only [Za0,hn] at h
      obtain ⟨p,hp,rfl⟩:=r.ref_inv
      obtain ⟨vs,e,r'⟩:=S.obj n _ p hn hp
      exact ⟨_,vs.length,rfl,.inl ⟨vs,SqL.of e,rfl⟩,by rw [r'.length]; exact Zu.ok h S Rep.int⟩
   | _=>exact h.elim
theorem ZgZ:Zba X (.type "tuple") (rB X.K Zb1):=Zba.imp ZeQ fun xs H Q zz1=>by
 obtain ⟨ι,M,ds,S,rd,h⟩:=zz1
 cases ds with
 | nil=>exact h.elim
 | cons d ds=>
  cases ds with
  | cons _ _=>cases d <;> exact h.elim
  | nil=>
   obtain ⟨x,rfl,r⟩:=Zeo rd
   cases d with
   | tup z=>
    obtain ⟨p,vs,rfl,s,r'⟩:=r.tup_inv
    exact ⟨p,vs,rfl,.inr ⟨s,Zu.ok h S (Rep.tup s r')⟩⟩
   | scr z=>
    obtain ⟨p,vs,rfl,s,r'⟩:=r.scr_inv
    refine ⟨p,vs,rfl,.inl ⟨s.sq,fun q hq=>?_⟩⟩
    obtain ⟨x2,S2,r2⟩:=S.tupl hq r'
    exact h _ _ _ x2 S2 r2
   | ref n=>
    cases hn:M[n]? with
    | none=>simp only [Zb1,hn] at h; exact h.elim
    | some o=>
     cases o with
     | dct _=>simp only [Zb1,hn] at h; exact h.elim
     | fdct _=>simp only [Zb1,hn] at h; exact h.elim
     | ins _ _=>simp only [Zb1,hn] at h; exact h.elim
     | lst z=>
      simp only [Zb1,hn] at h
      obtain ⟨p,hp,rfl⟩:=r.ref_inv
      obtain ⟨vs,e,r'⟩:=S.obj n _ p hn hp
      refine ⟨p,vs,rfl,.inl ⟨SqL.of e,fun q hq=>?_⟩⟩
      obtain ⟨x2,S2,r2⟩:=S.tupl hq r'
      exact h _ _ _ x2 S2 r2
   | _=>exact h.elim
theorem ZfB:Zba X (.type "list") (rB X.K ZbT):=Zba.imp Zfk fun xs H Q zz1=>by
 obtain ⟨ι,M,ds,S,rd,h⟩:=zz1
 cases ds with
 | nil=>exact h.elim
 | cons d ds=>
  cases ds with
  | cons _ _=>cases d <;> exact h.elim
  | nil=>
   obtain ⟨x,rfl,r⟩:=Zeo rd
   cases d with
   | tup z=>
    obtain ⟨p,vs,rfl,s,r'⟩:=r.tup_inv
    refine ⟨p,vs,rfl,.inr s,fun q hq=>?_⟩
    obtain ⟨x2,S2,r2⟩:=S.lst hq r'
    exact h _ _ _ x2 S2 r2
   | scr z=>
    obtain ⟨p,vs,rfl,s,r'⟩:=r.scr_inv
    refine ⟨p,vs,rfl,.inl s.sq,fun q hq=>?_⟩
    obtain ⟨x2,S2,r2⟩:=S.lst hq r'
    exact h _ _ _ x2 S2 r2
   | ref n=>
    cases hn:M[n]? with
    | none=>simp only [ZbT,hn] at h; exact h.elim
    | some o=>
     cases o with
     | dct _=>simp only [ZbT,hn] at h; exact h.elim
     | fdct _=>simp only [ZbT,hn] at h; exact h.elim
     | ins _ _=>simp only [ZbT,hn] at h; exact h.elim
     | lst z=>
      simp only [ZbT,hn] at h
      obtain ⟨p,hp,rfl⟩:=r.ref_inv
      obtain ⟨vs,e,r'⟩:=S.obj n _ p hn hp
      refine ⟨p,vs,rfl,.inl (SqL.of e),fun q hq=>?_⟩
      obtain ⟨x2,S2,r2⟩:=S.lst hq r'
      exact h _ _ _ x2 S2 r2
   | _=>exact h.elim
end
end L3
namespace L3
open PySem PySem.Spec PyProof.Rows L2
theorem ZbH:bootBuiltins "len" = some (.builtin "len"):=by decide +kernel
theorem ZlP:bootBuiltins "all" = some (.builtin "all"):=by decide +kernel
theorem ZbW:bootBuiltins "isinstance" = some (.builtin "isinstance"):=by decide +kernel
theorem Zel:bootBuiltins "list" = some (.type "list"):=by decide +kernel
theorem Zf5:bootBuiltins "tuple" = some (.type "tuple"):=by decide +kernel
section
variable {X:Cx} {a:Expr} {pos p p2:Pos} {f:E3}
noncomputable def tyN:Ty3 → String
 | .int=>"int" | .bool=>"bool" | .str=>"str" | .list=>"list" | .tuple=>"tuple"
theorem Zdh (K:PySem.W.Frag) (t:String) (T:Ty3) (ht:t ∈ ["NoneType","bool","int","str","list","tuple","dict"]):
  PySem.W.kitOne K (.type t) (.type (tyN T)) = some (t == tyN T || (t == "bool" && tyN T == "int")):=by
 simp only [List.mem_cons,List.not_mem_nil,or_false] at ht
 rcases ht with rfl | rfl | rfl | rfl | rfl | rfl | rfl <;> cases T <;> kernel_rfl
theorem Ziy (T:Ty3):bootBuiltins (tyN T) = some (.type (tyN T)):=by cases T <;> decide +kernel
theorem ZjM {pins:List (Addr × Obj)} {σ:St} {H:Hp} {s:Shared} {ι:List Addr} {M:Store} {A:Around} {E:Value → Shared → Prop} {Q:Value → Shared → Prop} {T:Ty3} {d:D} {x:V} {u:Value} {b:Bool} (I:Inv X pins σ H s) (S:Zw X.K H ι M) (r:Rep X.K H ι d x) (ru:RelV x u)
  (e:ZbK T d M = some b) (h:∀ tk,Q (.bool b) { s with toks:=tk }):wpAny (model X.prog X.w) A (call (.builtin "isinstance") [u,.type (tyN T)]) Q E s:=by
 cases d with
 | non=>
  have:=r.non_inv; subst this
  have hb:b = false:=by simpa [ZbK] using e.symm
  subst hb
  exact Zb7 I ru (.non) ((Zdh X.K "NoneType" T (by simp)).trans (by cases T <;> rfl)) h
 | bl c=>
  have:=r.bl_inv; subst this
  have hb:b = (T == .bool || T == .int):=by simpa [ZbK] using e.symm
  subst hb
  exact Zb7 I ru (.bl c) ((Zdh X.K "bool" T (by simp)).trans (by cases T <;> rfl)) h
 | int i=>
  have:=r.int_inv; subst this
  have hb:b = (T == .int):=by simpa [ZbK] using e.symm
  subst hb
  exact Zb7 I ru (.int i) ((Zdh X.K "int" T (by simp)).trans (by cases T <;> rfl)) h
 | str z=>
  have:=r.str_inv; subst this
  have hb:b = (T == .str):=by simpa [ZbK] using e.symm
  subst hb
  exact Zb7 I ru (.str _) ((Zdh X.K "str" T (by simp)).trans (by cases T <;> rfl)) h
 | tup ds=>
  obtain ⟨a,vs,rfl,st,rr⟩:=r.tup_inv
  cases ru
  have hb:b = (T == .tuple):=by simpa [ZbK] using e.symm
  subst hb
  obtain ⟨its,_,pt,_⟩:=I.tuple st
  obtain ⟨o,h1,h2,_⟩:=pt
  exact PySem.W.kia_one PySem.W.kitx_tuple I.kIn ⟨o,h1,h2⟩ ((Zdh X.K "tuple" T (by simp)).trans (by cases T <;> rfl)) (fun z=>nomatch z) h
 | scr ds=>simp [ZbK] at e
 | ref n=>
  simp only [ZbK] at e
  cases hn:M[n]? with
  | none=>simp [hn] at e
  | some o=>
   obtain ⟨a,ha,rfl⟩:=r.ref_inv
   cases o with
   | lst z=>
    have hb:b = (T == .list):=by simpa [hn] using e.symm
    subst hb
    obtain ⟨vs,ev,_⟩:=S.obj n _ a hn ha
    exact Zb7 I ru (.lst ev) ((Zdh X.K "list" T (by simp)).trans (by cases T <;> rfl)) h
   | dct z=>
    have hb:b = false:=by simpa [hn] using e.symm
    subst hb
    obtain ⟨vs,ev,_⟩:=S.obj n _ a hn ha
    exact Zb7 I ru (.dK ev) ((Zdh X.K "dict" T (by simp)).trans (by cases T <;> rfl)) h
   | fdct z=>simp [hn] at e
   | ins _ _=>simp [hn] at e
theorem ZcY (T:Ty3) {x:Str} (hm:X.mg "isinstance" = none) (hm2:X.mg x = none) (h:C3 X a f) (hx:x = (Str.ofString (tyN T)):=by rfl) (hg:Gl X "isinstance":=by rfl) (hg2:Gl X x:=by rfl)
  (hn:x ≠ "__name__":=by decide) (hd:(x == ("__debug__":Str)) = false:=by decide)
  (hs:starEach (a :: [.Name x p2]) X.env = (false,eval a X.env) :: starEach [.Name x p2] X.env:=by rfl) (hs2:starEach (.Name x p2 :: []) X.env = (false,eval (.Name x p2) X.env) :: starEach [] X.env:=by rfl)
  (hpl:(backTo pos (starEach [.Name x p2] X.env)).any (·.1) = false:=by rfl):C3 X (.Call (.Name "isinstance" p) [a,.Name x p2] [] pos) (e1 (Zcc T) f):=by
 subst hx
 have hc:Zba X (.builtin "isinstance") (fun xs H Q=>∃ ι M d x,xs = [x,.ty (tyN T)] ∧ Zw X.K H ι M ∧ Rep X.K H ι d x ∧ Zu X.K H ι Q (Zcc T d M)):=by
  intro pins s σ H xs us Q I r q
  obtain ⟨ι,M,d,x,rfl,S,rd,q⟩:=q
  obtain ⟨u,w',rfl,ru,rw'⟩:=vals2 r
  cases rw'
  unfold Zcc at q
  cases e:ZbK T d M with
  | none=>rw [e] at q; exact q.elim
  | some b=>
   rw [e] at q
   exact ZjM I S rd ru e fun tk=>⟨.bl b,H,I.tok _,rfl,Zu.ok q S Rep.bl⟩
 refine (ZcR hc hg hm ZbW (Zbt h (Zbt (Zeg hg2 hm2 (Ziy T) (v:=.ty (tyN T)) rfl hn hd) Zdi hs2) hs) (by decide) (by decide) hs hpl).imp fun σ H Q zz1=>?_
 obtain ⟨ι,M,env,S,E,h⟩:=zz1
 obtain ⟨d,M1,e1,h⟩:=Zu.bind h
 refine ⟨ι,M,env,S,E,?_⟩
 rw [e1]
 intro v H1 ι1 x1 S1 r1
 exact ⟨ι1,M1,d,v,rfl,S1,r1,h.up x1⟩
theorem Zdc {p:D → Bool}:∀ {l:List D} {e:Nat → Bool},(∀ (j:Nat) d,l[j]? = some d → e j = p d) → (List.range l.length).all e = l.all p
 | [],_,_=>rfl
 | d :: l,e,h=>by
  rw [List.length_cons,List.range_succ_eq_map,List.all_cons,List.all_map,h 0 d rfl,List.all_cons]
  congr 1
  exact Zdc fun j d' hj=>h (j + 1) d' (by simpa using hj)
theorem ZmX (hc:X.calm = true):Zba X (.builtin "all") (rB X.K ZgG):=by
 intro pins s σ H xs us Q I rs h
 obtain ⟨ι,M,ds,S,rd,h⟩:=h
 cases ds with
 | nil=>exact h.elim
 | cons d ds=>
  cases ds with
  | cons _ _=>cases d <;> exact h.elim
  | nil=>
   obtain ⟨x,rfl,r⟩:=Zeo rd
   obtain ⟨u,rfl,ru⟩:=vals1 rs
   cases d with
   | ref n=>
    cases hn:M[n]? with
    | none=>simp only [ZgG,hn] at h; exact h.elim
    | some o=>
     cases o with
     | dct _=>simp only [ZgG,hn] at h; exact h.elim
     | fdct _=>simp only [ZgG,hn] at h; exact h.elim
     | ins _ _=>simp only [ZgG,hn] at h; exact h.elim
     | lst z=>
      simp only [ZgG,hn] at h
      cases q:allB z with
      | none=>rw [q] at h; exact h.elim
      | some b=>
       rw [q] at h
       obtain ⟨a,ha,rfl⟩:=r.ref_inv
       cases ru
       obtain ⟨vs,ev,rv⟩:=S.obj n _ a hn ha
       obtain ⟨its,rr,pl,_⟩:=I.list (SqL.of ev)
       have hz:z.all isB = true ∧ z.all isT = b:=by
        unfold allB at q
        split at q
        ·rename_i hz
         exact ⟨hz,Option.some.inj q⟩
        ·cases q
       have hlen:its.toArray.size = z.length:=by rw [List.size_toArray,← rr.length,rv.length]
       have hhd:X.A.in1.handled = none:=I.ok.hd hc
       refine call_all_walk (wpAny_pyIter_list pl.isList ⟨s.heap.objs.size,_,_,_,_,_,(fun j=>match z[j]? with | some d=>isT d | none=>true),rfl,Walks.list hhd s.heap.objs.size a (Nat.ne_of_lt (I.hok.lt ev)) its.toArray,⟨⟨_,Heap.get?_push_size _ rfl,rfl,rfl⟩,pl.isList.at fun o e=>Heap.get?_push_of_some _ e⟩,?_,?_⟩)
       ·intro j v s' Q' E' hv hq
        have hv':its[j]? = some v:=by simpa using hv
        have hj:j < z.length:=by
         have:=(List.getElem?_eq_some_iff.mp hv').1
         rw [← List.size_toArray,hlen] at this
         exact this
        have e1:z[j]? = some z[j]:=by simp [hj]
        have hb:=List.all_eq_true.mp hz.1 _ (List.getElem_mem hj)
        obtain ⟨w,g1,g2⟩:=rv.get e1
        obtain ⟨u',k1,k2⟩:=rr.get g1
        rw [hv'] at k1
        cases k1
        have hq':Q' (isT z[j]) s':=by
         have:=hq
         simp only [e1] at this
         exact this
        generalize z[j] = dj at hb g2 hq'
        cases dj with
        | bl c=>
         have:=g2.bl_inv
         subst this
         cases k2
         exact wpAny_truthy_bool hq'
        | _=>simp [isB] at hb
       ·intro h' tk kk
        rw [hlen,Zdc (p:=isT) (fun j d hd=>by rw [hd]),hz.2]
        exact ⟨.bl b,H,I.kept (fun c o e=>kk c o (by simp; exact Nat.ne_of_lt (Heap.lt_size e)) (Heap.get?_push_of_some _ e)),rfl,Zu.ok h S Rep.bl⟩
   | _=>exact h.elim
end
noncomputable def ZkE (outer:List (Str × NameKind)) (N:List Str) (scope:Scope) (N':List Str) (own:Nat):Bool:=
 (scope.names.all fun y=>decide (y.2 ≠ .cell) && (decide (y.2 ≠ .free) || decide (outer.lookup y.1 = some .cell) || decide (outer.lookup y.1 = some .free)) && (decide (y.2 ≠ .local) || decide (scope.names.lookup y.1 = some .local))) &&
  decide (N'.length = N.length + own) && Zh4 N N' scope
theorem ZhG {X:Cx} {scope:Scope} {N':List Str} {own:Nat} (hk:scope.kind = .function) (h:ZkE X.env.scope.names X.N scope N' own = true):Zgh X scope N' own:=by
 simp only [ZkE,Bool.and_eq_true,decide_eq_true_eq,List.all_eq_true,Bool.or_eq_true] at h
 obtain ⟨⟨h1,h2⟩,h3⟩:=h
 refine ⟨hk,fun y hy=>(h1 y hy).1.1,fun y hy e=>?_,fun y hy e=>?_,h2,h3⟩
 ·rcases (h1 y hy).1.2 with (q | q) | q
  ·exact absurd e q
  ·exact .inl q
  ·exact .inr q
 ·rcases (h1 y hy).2 with q | q
  ·exact absurd e q
  ·exact q
theorem ZbX {K:PySem.W.Frag} {h:Heap} {mg:Str → Option Value} (KX:K.In h) (G:h.Ns mainGlobals mg) {x:Str} {st:Stmt} {f:Addr} {oc:Value} {od an:Option Addr} {osl:Array (Option Value)} {dV kV doc pm cdv ct:Value}
  (a:PySem.W.nsIn K mainGlobals x = some (some (.ref f))) (l:K.lookup f = some ⟨oc,od,.func (PySem.W.fnOf x x (Zas st) (Zai st) (Zg st) dV kV doc pm an cdv ct),osl⟩)
  (c:PySem.W.codeIn K cdv x = true) (k:PySem.W.keepIn K (.ref f) = true) {ps:List Str} (b:Binds K (PySem.W.fnOf x x (Zas st) (Zai st) (Zg st) dV kV doc pm an cdv ct) ps []):ZbS K mg x st ps:=⟨f,_,Zh0 l c k,PySem.W.mg_of KX G a,b⟩
theorem ZmJ {l:PySem.W.OpenLaw} {k:Nat} {q:Program} {loose:List Str} {XP:(Str → Option Value) → Heap → Prop} {YP:World → Heap → Prop} {d:DefRec} {K:Params → PySem.W.Frag} {F:F3} (hn:l.most = some 63) (hdf:d.params.defaults = []) (hr:ZaV k callerA)
  (hY:∀ (w:World) (h:Heap),YP w h → (K w.params).In h)
  (G:∀ (w:World) (mg:Str → Option Value) (fa:Addr) (h:Heap),(K w.params).In h → h.Ns mainGlobals mg → mg d.name = some (.ref fa) →
   ∃ fd:FuncData,(∀ (s:Shared) (u:Value),BindsTo s fd ⟨[u],[]⟩ [("script",u)]) ∧ ∀ base:Heap,(K w.params).In base → base.Ns mainGlobals mg → ZbR l.prog w (K w.params) mg base CX0 k fa fd ["script"] (sp3 (K w.params) 1 F))
  (hF:∀ ns:List Int,ns.length ≤ 63 → ∃ M',F [.scr (ns.map D.int)] [] = .ok (.bl true) M'):
  PySem.W.WalkO q loose XP YP l.row.toRowW d [] (fun f vs=>PySem.call f vs):=
 L2.Zhd (n:=63) (k:=k) (x:="script") (CX:=fun _=>CX0) (sp:=fun w=>sp3 (K w.params) 1 F) hn (by decide) hdf hr hY G (fun w H a ns hl hO hS=>by
  obtain ⟨M',e⟩:=hF ns hl
  refine ⟨[],[],[.scr (ns.map D.int)],⟨rfl,List.nodup_nil,fun n o a h=>by simp at h⟩,Zk.cons ?_ Zk.nil,rfl,?_⟩
  ·simp only [Rep]
   refine ⟨a,ns.map V.int,rfl,?_,Zk.ints ns⟩
   rcases hS with (h | ⟨o,h⟩) | h
   ·rcases hO a with z | ⟨ob,xs,z⟩
    ·rw [h] at z; cases z
    ·rw [h] at z; cases z
   ·exact .inl ⟨o,h⟩
   ·exact .inr h
  ·rw [e]
   exact fun v H' ι' _ _ r=>r.bl_inv) fun _ _ _ _ _ z=>z
end L3
namespace L3
open PySem PySem.Spec PyProof.Rows L2
theorem Zgs {a b:ZbO} (h:dk a = dk b):a = b:=by
 cases a with
 | inl i=>cases b with
  | inl j=>simp only [dk,Sum.inl.injEq] at h; rw [h]
  | inr y=>simp [dk] at h
 | inr x=>cases b with
  | inl j=>simp [dk] at h
  | inr y=>
   simp only [dk,Sum.inr.injEq,Str.mk.injEq] at h
   have:=congrArg Array.toList h
   simp at this
   rw [this]
section
variable {K:PySem.W.Frag} {H H':Hp} {ι ι':List Addr} {M:Store} {p:Addr}
theorem KvR.nil:KvR K H ι [] []:=⟨rfl,Zk.nil⟩
theorem KvR.cons {k:ZbO} {d:D} {v:V} {kvs:List (ZbO × D)} {ws:List (Key × V)} (h:Rep K H ι d v) (r:KvR K H ι kvs ws):KvR K H ι ((k,d) :: kvs) ((dk k,v) :: ws):=
 ⟨by simp [r.1],Zk.cons h r.2⟩
theorem KvR.cons_inv {q:ZbO × D} {kvs:List (ZbO × D)} {ws:List (Key × V)} (r:KvR K H ι (q :: kvs) ws):∃ v ws',ws = (dk q.1,v) :: ws' ∧ Rep K H ι q.2 v ∧ KvR K H ι kvs ws':=by
 obtain ⟨h1,h2⟩:=r
 cases ws with
 | nil=>simp at h1
 | cons w ws=>
  simp only [List.map_cons,List.cons.injEq] at h1
  obtain ⟨v,us,e,r1,r2⟩:=Zk.cons_inv h2
  simp only [List.map_cons,List.cons.injEq] at e
  exact ⟨w.2,ws,by rw [← h1.1],e.1 ▸ r1,h1.2,e.2 ▸ r2⟩
theorem KvR.nil_inv {ws:List (Key × V)} (r:KvR K H ι [] ws):ws = []:=by simpa using r.1
theorem KvR.mono {kvs:List (ZbO × D)} {ws:List (Key × V)} (r:KvR K H ι kvs ws) (e:Ext K H ι H' ι'):KvR K H' ι' kvs ws:=⟨r.1,r.2.mono e⟩
theorem KvR.length {kvs:List (ZbO × D)} {ws:List (Key × V)} (r:KvR K H ι kvs ws):ws.length = kvs.length:=by
 have:=congrArg List.length r.1
 simpa using this
theorem KvR.val {kvs:List (ZbO × D)} (k:ZbO):∀ {ws:List (Key × V)},KvR K H ι kvs ws → match Zj7 kvs k with | some d=>∃ v,Zdt ws (dk k) = some v ∧ Rep K H ι d v | none=>Zdt ws (dk k) = none:=by
 induction kvs with
 | nil=>intro ws r; rw [r.nil_inv]; exact ZiN
 | cons q kvs ih=>
  intro ws r
  obtain ⟨v,ws',rfl,r1,r2⟩:=r.cons_inv
  obtain ⟨k',d⟩:=q
  unfold Zj7
  by_cases e:k' = k
  ·rw [if_pos e]
   exact ⟨v,ZdC (by rw [e]),r1⟩
  ·rw [if_neg e,ZdH fun z=>e (Zgs z)]
   exact ih r2
theorem KvR.append {k1 k2:List (ZbO × D)} {w1 w2:List (Key × V)} (a:KvR K H ι k1 w1) (b:KvR K H ι k2 w2):KvR K H ι (k1 ++ k2) (w1 ++ w2):=
 ⟨by simp [a.1,b.1],by rw [List.map_append,List.map_append]; exact a.2.append b.2⟩
theorem KvR.any {kvs:List (ZbO × D)} (k:ZbO):∀ {ws:List (Key × V)},KvR K H ι kvs ws → (ws.any fun kv=>decide (kv.1 = dk k)) = (kvs.any fun q=>decide (q.1 = k)):=by
 induction kvs with
 | nil=>intro ws r; rw [r.nil_inv]; rfl
 | cons q kvs ih=>
  intro ws r
  obtain ⟨v,ws',rfl,r1,r2⟩:=r.cons_inv
  rw [List.any_cons,List.any_cons,ih r2]
  congr 1
  by_cases e:q.1 = k
  ·simp [e]
  ·simp [e]; exact fun z=>e (Zgs z)
theorem KvR.put {kvs:List (ZbO × D)} {k:ZbO} {d:D} {v:V} {ws:List (Key × V)} (r:KvR K H ι kvs ws) (rd:Rep K H ι d v):KvR K H ι (putD k d kvs) (putK ws (dk k) v):=by
 unfold putD putK
 rw [r.any k]
 by_cases c:(kvs.any fun q=>decide (q.1 = k)) = true
 ·rw [if_pos c,if_pos c]
  clear c
  induction kvs generalizing ws with
  | nil=>rw [r.nil_inv]; exact KvR.nil
  | cons q kvs ih=>
   obtain ⟨u,ws',rfl,r1,r2⟩:=r.cons_inv
   rw [List.map_cons,List.map_cons]
   by_cases e:q.1 = k
   ·rw [if_pos e,if_pos (by rw [e])]; exact KvR.cons rd (ih r2)
   ·rw [if_neg e,if_neg fun z=>e (Zgs z)]; exact KvR.cons r1 (ih r2)
 ·rw [if_neg c,if_neg c]
  exact r.append (KvR.cons rd KvR.nil)
theorem Zw.dct (S:Zw K H ι M) (hp:H p = none) {kvs:List (ZbO × D)} {ws:List (Key × V)} (r:KvR K H ι kvs ws):Ext K H ι (upd H p (.dK ws)) (ι ++ [p]) ∧ Zw K (upd H p (.dK ws)) (ι ++ [p]) (M ++ [.dct kvs]) ∧ Rep K (upd H p (.dK ws)) (ι ++ [p]) (.ref M.length) (.ref p):=by
 have e:Ext K H ι (upd H p (.dK ws)) (ι ++ [p]):=Loose.extA (.inl hp)
 exact ⟨e,S.new hp ⟨ws,ZaQ,r.mono e⟩,Rep.ref (by rw [← S.len]; simp)⟩
end
section
variable {X:Cx} {a b c e o:Expr} {es:List Expr} {pos p pos' apos cpos:Pos} {f g h:E3} {gl:EL3}
noncomputable def ZlZ (K:PySem.W.Frag) (H:Hp) (ι:List Addr) (Q:List (V × V) → Hp → Prop) (r:R3 (List (ZbO × D))):Prop:=match r with
 | .ok l M'=>∀ ws H' ι',Ext K H ι H' ι' → Zw K H' ι' M' → KvR K H' ι' l ws → Q (ws.map fun kv=>(kV kv.1,kv.2)) H'
 | _=>False
theorem ZlZ.bind {K:PySem.W.Frag} {H:Hp} {ι:List Addr} {α:Type} {Q:List (V × V) → Hp → Prop} {r:R3 α} {k:α → Store → R3 (List (ZbO × D))} (h:ZlZ K H ι Q (r.bind k)):∃ a M,r = .ok a M ∧ ZlZ K H ι Q (k a M):=by
 cases r with
 | ok a M=>exact ⟨a,M,rfl,h⟩
 | exc x M=>exact h.elim
 | bad=>exact h.elim
theorem hu1 (hu:X.A.units + 80 < cLine):X.A.units + 1 < cLine:=lB 1 7331617893452817 T1 hu
theorem ZjW {K:PySem.W.Frag} {op:D → D → D → Store → R3 D} {H:Hp} {ι:List Addr} {Q:VK} {env:Zz} {M:Store} (h':Zu K H ι Q (e3 op f g h env M)):
  ∃ a M1 b M2 c M3,f env M = .ok a M1 ∧ g env M1 = .ok b M2 ∧ h env M2 = .ok c M3 ∧ Zu K H ι Q (op a b c M3):=by
 obtain ⟨a,M1,e1,h'⟩:=Zu.bind h'
 obtain ⟨b,M2,e2,h'⟩:=Zu.bind h'
 obtain ⟨c,M3,e3,h'⟩:=Zu.bind h'
 exact ⟨a,M1,b,M2,c,M3,e1,e2,e3,h'⟩
theorem ZfY {K:PySem.W.Frag} {H:Hp} {ι:List Addr} {D':Ends} {env:Zz} {M:Store} {σ:St} (E:ZaU K H ι env σ) (h':ZeU K H ι D' (ZaC f env M)):Zu K H ι (fun _ H'=>D'.nx σ H') (f env M):=by
 unfold ZaC at h'
 cases q:f env M with
 | ok d M1=>rw [q] at h'; exact fun v H1 ι1 x1 S1 r1=>h' σ H1 ι1 x1 S1 (E.mono x1)
 | exc x M1=>rw [q] at h'; exact h'.elim
 | bad=>rw [q] at h'; exact h'.elim
theorem Zfm {i:Expr} {spos:Pos} (ho:C3 X o f) (hi:C3 X i g) (hv:C3 X e h)
  (ha:∀ v,assign (.Subscript o i spos) X.env v = (do
   let ov ← holding [v] (eval o X.env)
   let iv ← holding [v,ov] (eval i X.env)
   standAt spos
   holding [v,ov,iv] (setItem ov iv v)
   release [v,ov,iv] []):=by intro _; rfl)
  (hs:swapsWithSole [.Subscript o i spos] e pos.line X.env = pure false:=by rfl) (hw:swappedStores [.Subscript o i spos] e X.env = pure none:=by rfl)
  (h1:(assignEach [.Subscript o i spos] X.env).map (·.2) = [assign (.Subscript o i spos) X.env]:=by rfl):CS X (.Assign [.Subscript o i spos] e pos) (Zdd f g h):=(Zl0 hv (Zk4 ho hi set_list ha) hs hw h1).imp fun D' σ H zz1=>by
 obtain ⟨ι,M,env,S,E,hh⟩:=zz1
 obtain ⟨d,M1,b,M2,k,M3,e1,e2,e3,hh⟩:=ZjW (ZfY E hh)
 refine ⟨ι,M,env,S,E,?_⟩
 rw [e1]
 intro v H1 ι1 x1 S1 r1
 refine ⟨ι1,M1,env,S1,E.mono x1,?_⟩
 rw [e2]
 intro x H2 ι2 x2 S2 r2
 refine ⟨ι2,M2,env,S2,(E.mono x1).mono x2,?_⟩
 rw [e3]
 intro y H3 ι3 x3 S3 r3
 cases b with
 | ref n=>
  cases k with
  | int j=>
   simp only [Zgx] at hh
   cases hn:M3[n]? with
   | none=>simp only [hn] at hh; exact hh.elim
   | some ob=>
    cases ob with
    | dct _=>simp only [hn] at hh; exact hh.elim
    | fdct _=>simp only [hn] at hh; exact hh.elim
    | ins _ _=>simp only [hn] at hh; exact hh.elim
    | lst xs=>
     simp only [hn] at hh
     cases hj:ixD xs.length j with
     | none=>simp only [hj] at hh; exact hh.elim
     | some q=>
      simp only [hj] at hh
      obtain ⟨ad,ha,rfl⟩:=(r2.mono x3).ref_inv
      obtain ⟨ws,hw,kr⟩:=S3.obj n _ ad hn ha
      obtain ⟨x4,S4⟩:=S3.setl (.inr (.inl ⟨_,hw⟩)) ha (kr.set q ((r1.mono x2).mono x3))
      exact ⟨ad,ws,j,q,rfl,r3.int_inv,hw,by rw [kr.length]; exact hj,hh .non _ _ (((x1.trans x2).trans x3).trans x4) S4 Rep.non⟩
  | _=>exact hh.elim
 | _=>exact hh.elim
end
end L3
namespace L3
open PySem PySem.W PyProof.Rows
section
variable {lt:Nat → Nat → Bool}
structure ZfN (lt:Nat → Nat → Bool):Prop where
 asym:∀ {a b},lt a b = true → lt b a = false
 tr:∀ {a b c},lt b a = false → lt c b = false → lt c a = false
theorem ZfN.rf (o:ZfN lt) (a:Nat):lt a a = false:=by
 cases h:lt a a
 ·rfl
 ·exact h ▸ o.asym h
end
end L3
namespace L3
open PySem PySem.W PyProof.Rows
section
noncomputable def ZhX {α:Type} (n:Nat) (R:α → Prop):KasT α → Prop
 | .ret a=>R a
 | .ask i j k=>i < n ∧ j < n ∧ ∀ b,ZhX n R (k b)
theorem ZhX.bind {α β:Type} {n:Nat} {R:α → Prop} {R':β → Prop} {f:α → KasT β} (hf:∀ a,R a → ZhX n R' (f a)):∀ {t:KasT α},ZhX n R t → ZhX n R' (t.bind f)
 | .ret a,h=>hf a h
 | .ask _ _ _,⟨h1,h2,h3⟩=>⟨h1,h2,fun b=>(h3 b).bind hf⟩
variable {n:Nat}
end
section
variable {prog:Program} {w:World} {A:Around} {E:Value → Shared → Prop} {s:Shared}
end
end L3
namespace L3
open PySem PySem.W PySem.Spec PyProof.Rows L2
section
variable {prog:Program} {w:World} {A:Around} {K:PySem.W.Frag} {H:Hp} {ι:List Addr}
end
section
variable {X:Cx}
theorem Zk.pick {K:PySem.W.Frag} {H:Hp} {ι:List Addr} {x:List D} {vs:List V} (r:Zk K H ι x vs) (d0:D) (v0:V):∀ (p:List Nat),(∀ i ∈ p,i < x.length) → Zk K H ι (p.map fun i=>x.getD i d0) (p.map fun i=>vs.getD i v0)
 | [],_=>Zk.nil
 | i :: p,h=>by
  have hi:=h i List.mem_cons_self
  obtain ⟨v,e,q⟩:=r.get (i:=i) (d:=x[i]) (by simp [hi])
  refine Zk.cons ?_ (Zk.pick r d0 v0 p fun j hj=>h j (List.mem_cons_of_mem _ hj))
  dsimp only
  rw [List.getD_eq_getElem?_getD,List.getD_eq_getElem?_getD,e,List.getElem?_eq_getElem hi]; exact q
theorem Vals.pick {vs:List V} {us:List Value} (r:Vals vs us) (v0:V):∀ (p:List Nat),(∀ i ∈ p,i < vs.length) → Vals (p.map fun i=>vs.getD i v0) (p.map fun i=>us.getD i Value.none)
 | [],_=>.nil
 | i :: p,h=>by
  have hi:=h i List.mem_cons_self
  obtain ⟨v,e,q⟩:=r.get (i:=i) (x:=vs[i]) (by simp [hi])
  refine .cons ?_ (Vals.pick r v0 p fun j hj=>h j (List.mem_cons_of_mem _ hj))
  dsimp only
  rw [List.getD_eq_getElem?_getD,List.getD_eq_getElem?_getD,e,List.getElem?_eq_getElem hi]; exact q
end
end L3
namespace L3
open PySem PySem.Spec PyProof.Rows L2
section
variable {X:Cx} {a b c e o:Expr} {es:List Expr} {pos p apos cpos:Pos} {f g h:E3} {gl:EL3}
end
section
variable {X:Cx} {pins:List (Addr × Obj)} {σ:St} {H:Hp} {s:Shared} {d:Addr} {ws:List (Key × V)} {ob:Obj}
end
section
variable {X:Cx} {tg e elt:Expr} {ifs:List Expr} {pos:Pos} {f fe:E3} {ts:List E3} {g:G3} {scope:Scope} {N':List Str} {own:Nat}
end
end L3
namespace L3
open PySem PySem.Spec PyProof.Rows L2
section
variable {prog:Program} {w:World} {A:Around} {E:Value → Shared → Prop} {s:Shared}
end
section
variable {X:Cx}
end
end L3
namespace L3
open PySem PySem.Spec PyProof.Rows L2
theorem Zki {X:Cx} {sts:List Stmt}:CSs X sts Znd:=fun _ _ _ _ _ _ ⟨_,_,_,_,_,h⟩=>h.elim
end L3
namespace L3
open PySem PySem.Spec PyProof.Rows L2
section
variable {X:Cx} {o e:Expr} {es:List Expr} {apos cpos:Pos} {f:E3} {gl:EL3}
end
end L3
namespace L3
open PySem PySem.Spec PyProof.Rows L2
section
variable {X:Cx} {a b c e o:Expr} {es:List Expr} {pos p apos cpos:Pos} {f g h:E3} {gl:EL3}
end
end L3
namespace L3
open PySem PySem.Spec PyProof.Rows L2
section
variable {X:Cx} {a b c e o:Expr} {es:List Expr} {pos p apos cpos:Pos} {f g h:E3} {gl:EL3}
end
end L3
namespace L3
open PySem PySem.Spec PyProof.Rows L2
section
variable {X:Cx} {a b c e o:Expr} {es:List Expr} {pos p p1 p2 p3 pt apos cpos:Pos} {f g h:E3} {gl:EL3}
theorem Zjq (K:PySem.W.Frag) (t:String) (T1 T2:Ty3) (ht:t ∈ ["NoneType","bool","int","str","list","tuple","dict"]):
  PySem.W.kitAny K (.type t) [.type (tyN T1),.type (tyN T2)] = some ((t == tyN T1 || (t == "bool" && tyN T1 == "int")) || (t == tyN T2 || (t == "bool" && tyN T2 == "int"))):=by
 simp only [List.mem_cons,List.not_mem_nil,or_false] at ht
 rcases ht with rfl | rfl | rfl | rfl | rfl | rfl | rfl <;> cases T1 <;> cases T2 <;> kernel_rfl
theorem Zj9 {pins:List (Addr × Obj)} {σ:St} {H:Hp} {s:Shared} {ι:List Addr} {M:Store} {d:D} {x:V} {u:Value} (I:Inv X pins σ H s) (S:Zw X.K H ι M) (r:Rep X.K H ι d x) (ru:RelV x u) (hd:ZbK .int d M ≠ none):
  ∃ (t:String) (Hc:Heap → Prop),PySem.W.KitX X.K u (.type t) Hc ∧ Hc s.heap ∧ u ≠ .builtin "__main__.__loader__#opaque" ∧ t ∈ ["NoneType","bool","int","str","list","tuple","dict"] ∧ ∀ T b,ZbK T d M = some b → b = (t == tyN T || (t == "bool" && tyN T == "int")):=by
 cases d with
 | non=>
  have:=r.non_inv; subst this
  cases (show u = Value.none from ru)
  exact ⟨"NoneType",_,PySem.W.kitx_none,True.intro,(fun z=>nomatch z),by simp,fun T b e=>by
   have hb:b = false:=by simpa [ZbK] using e.symm
   subst hb; cases T <;> rfl⟩
 | bl c=>
  have:=r.bl_inv; subst this
  cases (show u = Value.bool c from ru)
  exact ⟨"bool",_,PySem.W.kitx_bool,True.intro,(fun z=>nomatch z),by simp,fun T b e=>by
   have hb:b = (T == .bool || T == .int):=by simpa [ZbK] using e.symm
   subst hb; cases T <;> rfl⟩
 | int i=>
  have:=r.int_inv; subst this
  obtain ⟨t,q⟩:=(show ∃ t,u = Value.int i t from ru); cases q
  exact ⟨"int",_,PySem.W.kitx_int,True.intro,(fun z=>nomatch z),by simp,fun T b e=>by
   have hb:b = (T == .int):=by simpa [ZbK] using e.symm
   subst hb; cases T <;> rfl⟩
 | str z=>
  have:=r.str_inv; subst this
  obtain ⟨t,q⟩:=(show ∃ t,u = Value.str _ t from ru); cases q
  exact ⟨"str",_,PySem.W.kitx_str,True.intro,(fun z=>nomatch z),by simp,fun T b e=>by
   have hb:b = (T == .str):=by simpa [ZbK] using e.symm
   subst hb; cases T <;> rfl⟩
 | tup ds=>
  obtain ⟨a,vs,rfl,st,rr⟩:=r.tup_inv
  cases ru
  obtain ⟨its,_,pt,_⟩:=I.tuple st
  obtain ⟨o,h1,h2,_⟩:=pt
  exact ⟨"tuple",_,PySem.W.kitx_tuple,⟨o,h1,h2⟩,(fun z=>nomatch z),by simp,fun T b e=>by
   have hb:b = (T == .tuple):=by simpa [ZbK] using e.symm
   subst hb; cases T <;> rfl⟩
 | scr ds=>exact absurd (by simp [ZbK]) hd
 | ref n=>
  simp only [ZbK] at hd
  cases hn:M[n]? with
  | none=>exact absurd (by simp [hn]) hd
  | some o=>
   obtain ⟨a,ha,rfl⟩:=r.ref_inv
   cases o with
   | lst z=>
    obtain ⟨vs,ev,_⟩:=S.obj n _ a hn ha
    cases (show u = Value.ref a from ru)
    obtain ⟨_,_,n',_,h1⟩:=(show ZaZ X.prog X.w H s.heap a (.lst vs) from I.hok a _ ev)
    exact ⟨"list",_,PySem.W.kitx_list,⟨_,h1,rfl⟩,(fun z=>nomatch z),by simp,fun T b e=>by
     have hb:b = (T == .list):=by simpa [ZbK,hn] using e.symm
     subst hb; cases T <;> rfl⟩
   | dct z=>
    obtain ⟨vs,ev,_⟩:=S.obj n _ a hn ha
    cases (show u = Value.ref a from ru)
    obtain ⟨_,_,vs',_,q⟩:=(show ZaZ X.prog X.w H s.heap a (.dK vs) from I.hok a _ ev)
    obtain ⟨o,es,ep,h1,h2,_⟩:=q
    exact ⟨"dict",_,PySem.W.kitx_dict,⟨o,h1,h2.1⟩,(fun z=>nomatch z),by simp,fun T b e=>by
     have hb:b = false:=by simpa [ZbK,hn] using e.symm
     subst hb; cases T <;> rfl⟩
   | fdct z=>exact absurd (by simp [hn]) hd
   | ins _ _=>exact absurd (by simp [hn]) hd
theorem Zha (T1 T2:Ty3) {x y:Str} {k} (hm:X.mg "isinstance" = none) (hm1:X.mg x = none) (hm2:X.mg y = none) (h:C3 X a f) (hx:x = (Str.ofString (tyN T1)):=by rfl) (hy:y = (Str.ofString (tyN T2)):=by rfl) (hg:Gl X "isinstance":=by rfl) (hg1:Gl X x:=by rfl) (hg2:Gl X y:=by rfl)
  (hn:x ≠ "__name__":=by decide) (hd:(x == ("__debug__":Str)) = false:=by decide) (hn':y ≠ "__name__":=by decide) (hd':(y == ("__debug__":Str)) = false:=by decide)
  (hs:starEach (a :: [.Tuple [.Name x p1,.Name y p2] k pt]) X.env = (false,eval a X.env) :: starEach [.Tuple [.Name x p1,.Name y p2] k pt] X.env:=by rfl) (hs1:starEach (.Tuple [.Name x p1,.Name y p2] k pt :: []) X.env = (false,eval (.Tuple [.Name x p1,.Name y p2] k pt) X.env) :: starEach [] X.env:=by rfl)
  (hs2:starEach (.Name x p1 :: [.Name y p2]) X.env = (false,eval (.Name x p1) X.env) :: starEach [.Name y p2] X.env:=by rfl) (hs3:starEach (.Name y p2 :: []) X.env = (false,eval (.Name y p2) X.env) :: starEach [] X.env:=by rfl)
  (hpl:(backTo pos (starEach [.Tuple [.Name x p1,.Name y p2] k pt] X.env)).any (·.1) = false:=by rfl):C3 X (.Call (.Name "isinstance" p) [a,.Tuple [.Name x p1,.Name y p2] k pt] [] pos) (e1 (ZdJ T1 T2) f):=by
 subst hx hy
 have hc:Zba X (.builtin "isinstance") (fun xs H Q=>∃ ι M d x q,xs = [x,.ref q] ∧ H q = some (.tup [.ty (tyN T1),.ty (tyN T2)]) ∧ Zw X.K H ι M ∧ Rep X.K H ι d x ∧ Zu X.K H ι Q (ZdJ T1 T2 d M)):=by
  intro pins s σ H xs us Q I r q
  obtain ⟨ι,M,d,x,tp,rfl,et,S,rd,q⟩:=q
  obtain ⟨u,w',rfl,ru,rw'⟩:=vals2 r
  cases rw'
  unfold ZdJ at q
  cases e1:ZbK T1 d M with
  | none=>rw [e1] at q; exact q.elim
  | some b1=>
   cases e2:ZbK T2 d M with
   | none=>rw [e1,e2] at q; exact q.elim
   | some b2=>
    rw [e1,e2] at q
    have hd:ZbK .int d M ≠ none:=fun z=>by
     cases d with
     | ref n=>
      simp only [ZbK] at z e1
      cases hn:M[n]? with
      | none=>simp [hn] at e1
      | some o=>cases o <;> simp [hn] at z e1
     | scr _=>simp [ZbK] at e1
     | _=>simp [ZbK] at z
    obtain ⟨t,Hc,kx,hh,hl,ht,hb⟩:=Zj9 I S rd ru hd
    obtain ⟨_,its,rt,pt⟩:=(show ZaZ X.prog X.w H s.heap tp (.tup [.ty (tyN T1),.ty (tyN T2)]) from I.hok tp _ et)
    obtain ⟨v1,v2,rfl,q1,q2⟩:=vals2 rt
    cases q1; cases q2
    obtain ⟨ob,g1,⟨g2,g3⟩,n,g4⟩:=pt
    have ho:ob = { cls:=.type "tuple",dict:=ob.dict,data:=.seq [.type (tyN T1),.type (tyN T2)].toArray n,slots:=ob.slots }:=by
     cases ob; simp only at g2 g4; subst g2 g4; rfl
    rw [ho] at g1
    refine PySem.W.kia_tup kx I.kIn hh g1 ((Zjq X.K t T1 T2 ht).trans ?_) hl fun tk=>⟨.bl (b1 || b2),H,I.tok _,rfl,Zu.ok q S Rep.bl⟩
    rw [hb T1 b1 e1,hb T2 b2 e2]
 refine (ZcR hc hg hm ZbW (Zbt h (Zbt (Zgu (Zbt (Zeg hg1 hm1 (Ziy T1) (v:=.ty (tyN T1)) rfl hn hd) (Zbt (Zeg hg2 hm2 (Ziy T2) (v:=.ty (tyN T2)) rfl hn' hd') Zdi hs3) hs2)) Zdi hs1) hs) (by decide) (by decide) hs hpl).imp fun σ H Q zz1=>?_
 obtain ⟨ι,M,env,S,E,h⟩:=zz1
 obtain ⟨d,M1,e1,h⟩:=Zu.bind h
 refine ⟨ι,M,env,S,E,?_⟩
 rw [e1]
 intro v H1 ι1 x1 S1 r1
 refine ⟨by simp; exact Nat.le_trans (by decide) Zbi,fun q hq=>?_⟩
 have x2:Ext X.K H1 ι1 (upd H1 q (.tup [.ty (tyN T1),.ty (tyN T2)])) ι1:=Loose.ext (.inl hq)
 exact ⟨ι1,M1,d,v,q,rfl,ZaQ,S1.other (.inl hq) (S1.fresh hq),r1.mono x2,h.up (x1.trans x2)⟩
end
end L3
namespace L3
open PySem PySem.Spec PyProof.Rows L2
section
variable {X:Cx} {tg e:Expr} {pos:Pos} {f:E3} {g:G3}
end
section
variable {X:Cx} {tg e elt:Expr} {ifs:List Expr} {pos:Pos} {f fe:E3} {ts:List E3} {g:G3} {scope:Scope} {N':List Str} {own:Nat}
end
noncomputable def ZnF (K:PySem.W.Frag) (H:Hp) (ι:List Addr) (it:ItL) (J:It):Prop:=∀ (i:Nat) H2 ι2 M2,Ext K H ι H2 ι2 → Zw K H2 ι2 M2 → ZjX it.lk M2 = true →
 (∀ d,it.items[i]? = some d → J.go i H2 ∧ ∀ x H3,J.yld i H2 x H3 → Ext K H2 ι2 H3 ι2 ∧ Zw K H3 ι2 M2 ∧ Rep K H3 ι2 d x) ∧ (i = it.items.length → J.stop i H2)
noncomputable def ZhQ (K:PySem.W.Frag) (H:Hp) (ι:List Addr) (R:It → Hp → Prop) (r:R3 ItL):Prop:=match r with
 | .ok it M'=>∀ J H' ι',Ext K H ι H' ι' → Zw K H' ι' M' → ZnF K H' ι' it J → R J H'
 | _=>False
theorem ZhQ.bind {K:PySem.W.Frag} {H:Hp} {ι:List Addr} {α:Type} {Q:It → Hp → Prop} {r:R3 α} {k:α → Store → R3 ItL} (h:ZhQ K H ι Q (r.bind k)):∃ a M,r = .ok a M ∧ ZhQ K H ι Q (k a M):=by
 cases r with
 | ok a M=>exact ⟨a,M,rfl,h⟩
 | exc x M=>exact h.elim
 | bad=>exact h.elim
section
variable {X:Cx} {tg:Expr} {pos:Pos}
end
end L3
namespace L3
open PySem PySem.Spec PyProof.Rows L2
open AutoSeq1 (wpAny_loadPart')
set_option maxRecDepth 100000
section
variable {prog:Program} {w:World} {A:Around} {E:Value → Shared → Prop} {s:Shared}
end
section
variable {X:Cx} {es:List Expr} {k:Nat} {a:Expr} {p pos tpos:Pos} {f:E3}
end
end L3
namespace L3
open PySem PySem.Spec PyProof.Rows L2
open AutoSeq1 (wpAny_loadPart')
open PySem.SeqAt MeetsSeq
set_option maxRecDepth 100000
end L3
namespace L3
open PySem PySem.Spec PyProof.Rows L2
section
variable {X:Cx} {o i p j e:Expr} {pos:Pos} {f g h fo fi fp fj:E3}
end
end L3
namespace L3
open PySem PySem.Spec PyProof.Rows L2
section
variable {X:Cx}
theorem ZlW:bootBuiltins "max" = some (.builtin "max"):=by decide +kernel
theorem Zjf {K:PySem.W.Frag} {H:Hp} {ι:List Addr} {i j:Int} {xs:List V} (r:Zk K H ι [.int i,.int j] xs):xs = [.int i,.int j]:=by
 obtain ⟨v1,vs1,rfl,q1,r⟩:=r.cons_inv
 obtain ⟨v2,vs2,rfl,q2,r⟩:=r.cons_inv
 have:=r.nil_inv
 subst this
 have e1:=q1.int_inv
 have e2:=q2.int_inv
 subst e1 e2
 rfl
theorem Zmc (hc:X.calm = true):Zba X (.builtin "max") (rB X.K Zg1):=Zba.imp (ZhE hc) fun xs H Q zz1=>by
 obtain ⟨ι,M,ds,S,rd,h⟩:=zz1
 unfold Zg1 at h
 split at h
 ·exact ⟨_,_,Zjf rd,h _ H ι Ext.refl S Rep.int⟩
 ·exact h.elim
end
end L3
namespace L3
open PySem PySem.Spec PyProof.Rows L2
section
variable {prog:Program} {w:World} {A:Around} {E:Value → Shared → Prop} {s:Shared}
end
section
variable {X:Cx} {e:Expr} {es:List Expr} {pos:Pos} {f:E3}
end
end L3
namespace L3
open PySem PySem.Spec PyProof.Rows L2
section
variable {X:Cx} {a b c:Expr} {p p2 pos pos2:Pos} {f g h:E3}
end
end L3
namespace L3
open PySem PySem.Spec PyProof.Rows L2
open AutoSeq1 (wpAny_loadPart')
set_option maxRecDepth 100000
section
variable {X:Cx} {o e:Expr} {es:List Expr} {apos cpos:Pos} {f:E3} {gl:EL3}
theorem ZjH {K:PySem.W.Frag} {T:String} {ty:D → Store → Bool} {m:D → List D → Store → R3 D} (hty:∀ H ι M a x,Zw K H ι M → Rep K H ι a x → ty a M = true → tyV K T x H) (σ:St) (H:Hp) (Q:VK) (h:tOf K (Zcq ty m f Ze) σ H Q):Znx K T (rM K m) (tOf K f) σ H Q:=by
 obtain ⟨ι,M,env,S,E,h⟩:=h
 obtain ⟨a,M1,e1,h⟩:=Zu.bind h
 refine ⟨ι,M,env,S,E,?_⟩
 rw [e1]
 intro v H1 ι1 x1 S1 r1
 by_cases ht:ty a M1 = true
 ·rw [if_pos ht] at h
  exact ⟨hty _ _ _ _ _ S1 r1 ht,ι1,M1,a,[],S1,r1,Zk.nil,h.up x1⟩
 ·rw [if_neg ht] at h; exact h.elim
end
end L3
namespace L3
open PySem PySem.Spec PyProof.Rows L2
set_option maxRecDepth 100000
section
variable {X:Cx} {es:List Expr} {k:Nat} {a b:Expr} {p pos tpos:Pos} {f g:E3}
end
end L3
namespace L3
open PySem PySem.Spec PyProof.Rows L2
set_option maxRecDepth 100000
section
variable {X:Cx} {elt tg iter:Expr} {ifs:List Expr} {scope:Scope} {pos:Pos} {i:IL3} {own:Nat} {g:G3} {ts:List E3} {f:E3} {N':List Str}
end
end L3
namespace L3
open PySem PySem.W PyProof.Rows
section
variable {M:Model} {A:Around} {E:Value → Shared → Prop} {G:Shared → Prop}
noncomputable def TT (M:Model) (A:Around) (E:Value → Shared → Prop) (G:Shared → Prop) {α:Type} (m:StateT SortSt Sem α) (Q:α → SortSt → Prop) (st:SortSt):Prop:=∀ s,G s → kasC M A E m (fun a st' s'=>Q a st' ∧ G s') st s
end
structure Cmp (prog:Program) (w:World) (A:Around) (E:Value → Shared → Prop) (G:Shared → Prop) (κ:SortKind) (it:Array Keyed) (lt:Nat → Nat → Bool) (N:Nat):Prop where
 ok:ZfN lt
 ask:∀ i j (C:Bool → Shared → Prop) s,i < N → j < N → G s → (∀ s',G s' → C (lt i j) s') → kas_cmp prog w A κ it i j C s
section
variable {prog:Program} {w:World} {A:Around} {E:Value → Shared → Prop} {G:Shared → Prop} {κ:SortKind} {it:Array Keyed} {lt:Nat → Nat → Bool} {N:Nat}
noncomputable abbrev ZgA (it:Array Keyed) (l:List Nat):Array Keyed:=(l.map (kas_item it)).toArray
noncomputable def Srt (lt:Nat → Nat → Bool) (l:List Nat):Prop:=l.Pairwise fun x y=>lt y x = false
section
variable {left:Bool} {key:Nat} {l:List Nat} {base n:Nat} {st:SortSt} {B:Nat → Bool}
end
end
end L3
namespace L3
open PySem PySem.W PyProof.Rows
section
variable {lt:Nat → Nat → Bool}
structure W (lt:Nat → Nat → Bool) (la lb out:List Nat) (ia ib:Nat):Prop where
 p:out.Perm (la.take ia ++ lb.take ib)
 s:Srt lt out
 a:∀ x ∈ out,∀ y ∈ la.drop ia,lt y x = false
 b:∀ x ∈ out,∀ y ∈ lb.drop ib,lt y x = false
 ha:ia ≤ la.length
 hb:ib ≤ lb.length
noncomputable def RR (lt:Nat → Nat → Bool) (la lb r:List Nat):Prop:=r.Perm (la ++ lb) ∧ Srt lt r
theorem W.last {la lb out:List Nat} {ia ib x:Nat} (sb:Srt lt lb) (w:W lt la lb out ia ib) (h:ia + 1 = la.length) (hx:la[ia]? = some x) (hm:∀ y ∈ lb,lt x y = false):RR lt la lb (out ++ lb.drop ib ++ la.drop ia):=by
 obtain ⟨hl,e⟩:=List.getElem?_eq_some_iff.mp hx
 have d:la.drop ia = [x]:=by rw [List.drop_eq_getElem_cons hl,e,h,List.drop_length]
 have p:=w.p
 refine ⟨?_,?_⟩
 ·refine ((p.append_right _).append_right _).trans ?_
  rw [List.append_assoc (la.take ia),List.take_append_drop,List.append_assoc]
  refine (List.Perm.append_left _ List.perm_append_comm).trans ?_
  rw [← List.append_assoc,List.take_append_drop]
 ·refine List.pairwise_append.mpr ⟨List.pairwise_append.mpr ⟨w.s,List.Pairwise.sublist (List.drop_sublist _ _) sb,w.b⟩,by rw [d]; simp,fun u hu y hy=>?_⟩
  rw [d,List.mem_singleton] at hy
  rw [hy]
  rcases List.mem_append.mp hu with hu | hu
  ·exact w.a u hu x (by rw [d]; simp)
  ·exact hm u (List.mem_of_mem_drop hu)
end
section
variable {prog:Program} {w:World} {A:Around} {E:Value → Shared → Prop} {G:Shared → Prop} {κ:SortKind} {it:Array Keyed} {lt:Nat → Nat → Bool} {N:Nat}
noncomputable def Zkq (st st':SortSt):Prop:=∃ g,st' = SortSt.mk' (kindOf st) (arrOf st) (pendingOf st) g (failedOf st)
theorem Zkq.kind {st st':SortSt} (h:Zkq st st'):kindOf st' = kindOf st:=by obtain ⟨g,rfl⟩:=h; rfl
structure Two (lt:Nat → Nat → Bool) (N:Nat) (la lb:List Nat):Prop where
 sa:Srt lt la
 sb:Srt lt lb
 na:∀ x ∈ la,x < N
 nb:∀ x ∈ lb,x < N
structure Mid (lt:Nat → Nat → Bool) (la lb:List Nat) (n:Nat) (out:List Nat) (ia ib:Nat):Prop where
 w:W lt la lb out ia ib
 a:ia + 1 < la.length
 b:ib < lb.length
 n:n ≤ ia + ib
noncomputable def DD (lt:Nat → Nat → Bool) (it:Array Keyed) (la lb:List Nat) (n:Nat) (r:Option (Array Keyed)) (o:Array Keyed) (ia ib:Nat):Prop:=(∃ l,r = some (ZgA it l) ∧ RR lt la lb l) ∨ (r = none ∧ ∃ out,o = ZgA it out ∧ Mid lt la lb n out ia ib)
noncomputable def YY (lt:Nat → Nat → Bool) (it:Array Keyed) (la lb:List Nat) (n:Nat) (r:Option (Array Keyed)) (o:Array Keyed) (ia ib:Nat):Prop:=r = none ∧ ∃ out,o = ZgA it out ∧ Mid lt la lb n out ia ib
section
variable {la lb:List Nat} {st st':SortSt} {n:Nat} {out:List Nat} {ia ib:Nat}
theorem Srt.from {l:List Nat} (s:Srt lt l) (o:ZfN lt) {i x y:Nat} (hx:l[i]? = some x) (h:lt x y = false):∀ z ∈ l.drop i,lt z y = false:=fun z hz=>by
 obtain ⟨hl,e⟩:=List.getElem?_eq_some_iff.mp hx
 rw [List.drop_eq_getElem_cons hl,e] at hz
 rcases List.mem_cons.mp hz with rfl | hz
 ·exact h
 ·have sd:(x :: l.drop (i + 1)).Pairwise fun x y=>lt y x = false:=by
   have:=List.Pairwise.sublist (List.drop_sublist i _) s
   rw [List.drop_eq_getElem_cons hl,e] at this
   exact this
  exact o.tr h ((List.pairwise_cons.mp sd).1 z hz)
theorem Mid.le {m:Nat} (h:Mid lt la lb n out ia ib) (hm:m ≤ n):Mid lt la lb m out ia ib:=⟨h.w,h.a,h.b,Nat.le_trans hm h.n⟩
theorem DD.le {m:Nat} {r:Option (Array Keyed)} {o:Array Keyed} (h:DD lt it la lb n r o ia ib) (hm:m ≤ n):DD lt it la lb m r o ia ib:=by
 rcases h with h | ⟨h1,out,h2,h3⟩
 ·exact .inl h
 ·exact .inr ⟨h1,out,h2,h3.le hm⟩
theorem YY.le {m:Nat} {r:Option (Array Keyed)} {o:Array Keyed} (h:YY lt it la lb n r o ia ib) (hm:m ≤ n):YY lt it la lb m r o ia ib:=⟨h.1,h.2.elim fun out h=>⟨out,h.1,h.2.le hm⟩⟩
end
end
end L3
namespace L3
open PySem PySem.W PyProof.Rows
section
variable {prog:Program} {w:World} {A:Around} {E:Value → Shared → Prop} {G:Shared → Prop} {κ:SortKind} {it:Array Keyed} {lt:Nat → Nat → Bool} {N:Nat}
noncomputable abbrev fl (lt:Nat → Nat → Bool):Nat → Nat → Bool:=fun x y=>lt y x
theorem Srt.rev {l:List Nat} (h:Srt lt l):Srt (fl lt) l.reverse:=List.pairwise_reverse.mpr h
theorem RR.rev {la lb r:List Nat} (h:RR (fl lt) lb.reverse la.reverse r):RR lt la lb r.reverse:=by
 refine ⟨(List.reverse_perm r).trans (h.1.trans ?_),List.pairwise_reverse.mpr h.2⟩
 exact ((List.reverse_perm lb).append (List.reverse_perm la)).trans List.perm_append_comm
theorem Znn (o:ZfN lt):ZfN (fl lt):=⟨fun h=>o.asym h,fun h1 h2=>o.tr h2 h1⟩
theorem ZjQ {l:List Nat} {k x:Nat} (h0:0 < k) (hk:k ≤ l.length) (hx:l[k - 1]? = some x):l.reverse[l.length - k]? = some x:=by
 rw [List.getElem?_reverse (by exact lC 2 581779561975313 T1 h0 (Nat.sub_add_cancel hk)),show l.length - 1 - (l.length - k) = k - 1 by exact Nat.le_antisymm (lF 4 0x450025c21a4c30132c1011a0c21 T1 (Nat.sub_add_cancel (lB 2 1786942394369 T1 hk h0)) (sbA _ _) (sbA _ _) (Nat.sub_add_cancel (lD 3 0x230103c21a2c1010e11 T1 h0 (sbA _ _) (Nat.sub_add_cancel hk)))) (lF 4 0x4503a5c2124c101032c21a1c001 T1 (sbA _ _) (Nat.sub_add_cancel hk) (sbA _ _) (Nat.sub_add_cancel (lA 1 10489361 T1 h0))),hx]
theorem Zf2 {l:List Nat} {k:Nat} (hk:k ≤ l.length):l.reverse.drop (l.length - k) = (l.take k).reverse:=by
 rw [List.drop_reverse,show l.length - (l.length - k) = k by exact Nat.le_antisymm (lD 2 0x230013c2121c001 T1 (sbA _ _) (Nat.sub_add_cancel ((Nat.sub_le _ _)))) (lD 2 0x31003c201210c21 T1 (Nat.sub_add_cancel hk) (sbA _ _))]
section
variable {la lb:List Nat} {st st':SortSt} {n:Nat} {out:List Nat} {na nb:Nat}
structure Zi3 (lt:Nat → Nat → Bool) (la lb:List Nat) (n:Nat) (out:List Nat) (na nb:Nat):Prop where
 w:W (fl lt) lb.reverse la.reverse out (lb.length - nb) (la.length - na)
 a:0 < na
 b:1 < nb
 ha:na ≤ la.length
 hb:nb ≤ lb.length
 n:n + na + nb ≤ la.length + lb.length
theorem Zju (h:RR (fl lt) lb.reverse la.reverse (out ++ la.reverse.drop (la.length - na) ++ lb.reverse.drop (lb.length - nb))) (ha:na ≤ la.length) (hb:nb ≤ lb.length):RR lt la lb (lb.take nb ++ la.take na ++ out.reverse):=by
 have:=h.rev
 rw [Zf2 ha,Zf2 hb] at this
 simpa using this
noncomputable def DH (lt:Nat → Nat → Bool) (it:Array Keyed) (la lb:List Nat) (n:Nat) (r:Option (Array Keyed)) (na nb:Nat) (o:Array Keyed):Prop:=(∃ l,r = some (ZgA it l) ∧ RR lt la lb l) ∨ (r = none ∧ ∃ out,o = ZgA it out ∧ Zi3 lt la lb n out na nb)
noncomputable def YH (lt:Nat → Nat → Bool) (it:Array Keyed) (la lb:List Nat) (n:Nat) (r:Option (Array Keyed)) (na nb:Nat) (o:Array Keyed):Prop:=r = none ∧ ∃ out,o = ZgA it out ∧ Zi3 lt la lb n out na nb
structure Hi (prog:Program) (w:World) (A:Around) (E:Value → Shared → Prop) (G:Shared → Prop) (κ:SortKind) (it:Array Keyed) (lt:Nat → Nat → Bool) (N:Nat) (la lb:List Nat) (st:SortSt):Prop where
 K:Cmp prog w A E G κ it lt N
 T:Two lt N la lb
 hm:∀ x,lb[0]? = some x → ∀ y ∈ la,lt y x = false
 hk:kindOf st = κ
theorem Hi.o (H:Hi prog w A E G κ it lt N la lb st):ZfN (fl lt):=Znn H.K.ok
theorem Hi.first (H:Hi prog w A E G κ it lt N la lb st) (hw:W (fl lt) lb.reverse la.reverse out (lb.length - nb) (la.length - na)) (h1:nb = 1) (ha:na ≤ la.length) (hb:0 < lb.length):RR lt la lb (lb.take nb ++ la.take na ++ out.reverse):=by
 subst h1
 have hx:lb[0]? = some lb[0]:=by simp
 refine Zju (hw.last H.T.sa.rev (by rw [List.length_reverse]; exact Nat.le_antisymm (Nat.le_of_eq (Nat.sub_add_cancel (lA 1 10489361 T1 hb))) ((sbA _ _))) (ZjQ (lN [] 0 2785 rfl) hb hx) fun y hy=>H.hm _ hx y (List.mem_reverse.mp hy)) ha hb
theorem Srt.at {l:List Nat} (s:Srt lt l) (o:ZfN lt) {i j:Nat} (hij:i ≤ j) (hj:j < l.length):lt (l.getD j 0) (l.getD i 0) = false:=by
 have e:∀ k,(hk:k < l.length) → l.getD k 0 = l[k]:=fun k hk=>by rw [List.getD_eq_getElem?_getD,List.getElem?_eq_getElem hk]; rfl
 rcases Nat.lt_or_eq_of_le hij with c | c
 ·rw [e i (Nat.lt_trans c hj),e j hj]
  exact List.pairwise_iff_getElem.mp s i j (Nat.lt_trans c hj) hj c
 ·rw [c]; exact o.rf _
theorem Zi3.le {m:Nat} (h:Zi3 lt la lb n out na nb) (hm:m ≤ n):Zi3 lt la lb m out na nb:=⟨h.w,h.a,h.b,h.ha,h.hb,by have:=h.n; exact lF 2 0x43c215cc0050143c210cc01 T1 this hm⟩
theorem DH.le {m:Nat} {r:Option (Array Keyed)} {o:Array Keyed} (h:DH lt it la lb n r na nb o) (hm:m ≤ n):DH lt it la lb m r na nb o:=by
 rcases h with h | ⟨h1,out,h2,h3⟩
 ·exact .inl h
 ·exact .inr ⟨h1,out,h2,h3.le hm⟩
theorem YH.le {m:Nat} {r:Option (Array Keyed)} {o:Array Keyed} (h:YH lt it la lb n r na nb o) (hm:m ≤ n):YH lt it la lb m r na nb o:=⟨h.1,h.2.elim fun out h=>⟨out,h.1,h.2.le hm⟩⟩
end
end
end L3
namespace L3
open PySem PySem.W PyProof.Rows
section
variable {prog:Program} {w:World} {A:Around} {E:Value → Shared → Prop} {G:Shared → Prop} {κ:SortKind} {it:Array Keyed} {lt:Nat → Nat → Bool} {N:Nat}
structure SS (κ:SortKind) (it:Array Keyed) (st:SortSt) (l:List Nat) (pd:Array (Nat × Nat × Nat)):Prop where
 kind:kindOf st = κ
 arr:arrOf st = ZgA it l
 pend:pendingOf st = pd
 fail:failedOf st = none
section
variable {st:SortSt} {l:List Nat} {pd:Array (Nat × Nat × Nat)}
end
end
end L3
namespace L3
open PySem PySem.W PyProof.Rows
section
variable {prog:Program} {w:World} {A:Around} {E:Value → Shared → Prop} {G:Shared → Prop} {κ:SortKind} {it:Array Keyed} {lt:Nat → Nat → Bool} {N:Nat}
variable {st:SortSt} {pd:Array (Nat × Nat × Nat)}
structure Dn (lt:Nat → Nat → Bool) (T X B:List Nat) (neq:Nat):Prop where
 e:T = X ++ B
 len:B.length = neq + 1
 s:Srt (fl lt) T
 eq:∀ x ∈ B,∀ y ∈ B,lt x y = false
theorem Dn.rev {T X B:List Nat} {neq:Nat} (d:Dn lt T X B neq):Srt (fl lt) (X ++ B.reverse):=by
 have s:=d.s
 rw [d.e] at s
 obtain ⟨s1,s2,s3⟩:=List.pairwise_append.mp s
 refine List.pairwise_append.mpr ⟨s1,?_,fun x hx y hy=>s3 x hx y (List.mem_reverse.mp hy)⟩
 exact List.pairwise_of_forall_mem_list fun x hx y hy=>d.eq x (List.mem_reverse.mp hx) y (List.mem_reverse.mp hy)
theorem Dn.last {T X B:List Nat} {neq z:Nat} (d:Dn lt T X B neq) (hz:B[neq]? = some z):∀ x ∈ T,lt x z = false:=fun x hx=>by
 have zB:=List.mem_of_getElem? hz
 rw [d.e] at hx
 rcases List.mem_append.mp hx with hx | hx
 ·have s:=d.s
  rw [d.e] at s
  exact (List.pairwise_append.mp s).2.2 x hx z zB
 ·exact d.eq x hx z zB
end
end L3
namespace L3
open PySem PySem.W PyProof.Rows
section
variable {prog:Program} {w:World} {A:Around} {E:Value → Shared → Prop} {G:Shared → Prop} {κ:SortKind} {it:Array Keyed} {lt:Nat → Nat → Bool} {N:Nat}
variable {st:SortSt} {l':List Nat} {pd:Array (Nat × Nat × Nat)}
inductive BnI {α:Type} (lt:Nat → Nat → Bool) (X:List Nat) (u k:Nat) (st':SortSt) (x:Nat) (c:Option α × Nat × Nat) (st2:SortSt):Prop
 | mk (l r:Nat) (e0:st2 = st') (e:c = (none,l,r)) (a1:l ≤ r) (a2:r ≤ k) (a3:r - l ≤ k - x) (a4:∀ i z,i < l → X[i]? = some z → lt u z = false) (a5:∀ i z,r ≤ i → X[i]? = some z → lt u z = true)
inductive BnQ {α:Type} (lt:Nat → Nat → Bool) (X:List Nat) (u k:Nat) (st':SortSt) (c:Option α × Nat × Nat) (st2:SortSt):Prop
 | mk (l:Nat) (e0:st2 = st') (e1:c.1 = none) (e2:c.2.1 = l) (a2:l ≤ k) (a4:∀ i z,i < l → X[i]? = some z → lt u z = false) (a5:∀ i z,l ≤ i → X[i]? = some z → lt u z = true)
end
end L3
namespace L3
open PySem PySem.W PyProof.Rows
section
variable {prog:Program} {w:World} {A:Around} {E:Value → Shared → Prop} {G:Shared → Prop} {κ:SortKind} {it:Array Keyed} {lt:Nat → Nat → Bool} {N:Nat}
variable {st:SortSt} {pd:Array (Nat × Nat × Nat)}
end
end L3
namespace L3
open PySem PySem.W PyProof.Rows
section
variable {prog:Program} {w:World} {A:Around} {E:Value → Shared → Prop} {G:Shared → Prop} {κ:SortKind} {it:Array Keyed} {lt:Nat → Nat → Bool} {N:Nat}
variable {st:SortSt}
noncomputable def Rn (lt:Nat → Nat → Bool):Nat → List (List Nat) → List (Nat × Nat × Nat) → Prop
 | _,[],[]=>True
 | b,X :: rs,z :: pd=>z.1 = b ∧ z.2.1 = X.length ∧ 0 < X.length ∧ Srt lt X ∧ Rn lt (b + X.length) rs pd
 | _,_,_=>False
theorem Rn.len:∀ {b:Nat} {rs:List (List Nat)} {pd:List (Nat × Nat × Nat)},Rn lt b rs pd → pd.length = rs.length
 | _,[],[],_=>rfl
 | _,_ :: _,_ :: _,h=>congrArg (· + 1) h.2.2.2.2.len
 | _,[],_ :: _,h=>h.elim
 | _,_ :: _,[],h=>h.elim
theorem Rn.many:∀ {b:Nat} {rs:List (List Nat)} {pd:List (Nat × Nat × Nat)},Rn lt b rs pd → rs.length ≤ rs.flatten.length
 | _,[],[],_=>Nat.le_refl _
 | _,X :: rs,_ :: _,h=>by
  have:=h.2.2.2.2.many
  have:=h.2.2.1
  rw [List.flatten_cons,List.length_append,List.length_cons]; omega
 | _,[],_ :: _,h=>h.elim
 | _,_ :: _,[],h=>h.elim
theorem Rn.push:∀ {b:Nat} {rs:List (List Nat)} {pd:List (Nat × Nat × Nat)} (_:Rn lt b rs pd) {X:List Nat} (_:0 < X.length) (_:Srt lt X) {z:Nat × Nat × Nat} (_:z.1 = b + rs.flatten.length) (_:z.2.1 = X.length),Rn lt b (rs ++ [X]) (pd ++ [z])
 | _,[],[],_,_,h1,h2,_,h3,h4=>⟨h3,h4,h1,h2,trivial⟩
 | _,Y :: rs,_ :: _,h,_,h1,h2,_,h3,h4=>⟨h.1,h.2.1,h.2.2.1,h.2.2.2.1,h.2.2.2.2.push h1 h2 (by rw [h3,List.flatten_cons,List.length_append]; exact Nat.le_antisymm (lC 0 2271167496384 T1) (lC 0 2319485832384 T1)) h4⟩
 | _,[],_ :: _,h,_,_,_,_,_,_=>h.elim
 | _,_ :: _,[],h,_,_,_,_,_,_=>h.elim
theorem Rn.same:∀ {b:Nat} {rs:List (List Nat)} {pd pd':List (Nat × Nat × Nat)} (_:Rn lt b rs pd) (_:pd'.map (fun z=>(z.1,z.2.1)) = pd.map (fun z=>(z.1,z.2.1))),Rn lt b rs pd'
 | _,[],[],[],_,_=>trivial
 | _,Y :: rs,z :: pd,z' :: pd',h,e=>by
  rw [List.map_cons,List.map_cons] at e
  obtain ⟨e1,e2⟩:=List.cons.inj e
  obtain ⟨e3,e4⟩:=Prod.mk.inj e1
  exact ⟨e3.trans h.1,e4.trans h.2.1,h.2.2.1,h.2.2.2.1,h.2.2.2.2.same e2⟩
 | _,[],[],_ :: _,_,e=>by cases e
 | _,_ :: _,_ :: _,[],_,e=>by cases e
 | _,[],_ :: _,_,h,_=>h.elim
 | _,_ :: _,[],_,h,_=>h.elim
theorem Rn.at:∀ {i b:Nat} {rs:List (List Nat)} {pd:List (Nat × Nat × Nat)} (_:Rn lt b rs pd) (_:i + 1 < pd.length),∃ rs0 X Y rs1 p q,rs = rs0 ++ X :: Y :: rs1 ∧ 0 < X.length ∧ 0 < Y.length ∧ Srt lt X ∧ Srt lt Y ∧
  pd[i]? = some (b + rs0.flatten.length,X.length,p) ∧ pd[i + 1]? = some (b + rs0.flatten.length + X.length,Y.length,q) ∧ ∀ Z,Z.length = X.length + Y.length → Srt lt Z → Rn lt b (rs0 ++ Z :: rs1) ((pd.set i (b + rs0.flatten.length,X.length + Y.length,p)).eraseIdx (i + 1))
 | 0,b,X :: Y :: rs,z :: z' :: pd,h,_=>by
  obtain ⟨h1,h2,h3,h4,h5,h6,h7,h8,h9⟩:=h
  refine ⟨[],X,Y,rs,z.2.2,z'.2.2,rfl,h3,h7,h4,h8,?_,?_,fun Z hZ sZ=>⟨rfl,hZ.symm,lC 2 0xe12e1121c031 T1 hZ h7,sZ,?_⟩⟩
  ·obtain ⟨z1,z2,z3⟩:=z; cases h1; cases h2; rfl
  ·obtain ⟨z1,z2,z3⟩:=z'; cases h5; cases h6; rfl
  ·rw [hZ,← Nat.add_assoc]; exact h9
 | i + 1,b,X0 :: rs,z :: pd,h,hi=>by
  obtain ⟨h1,h2,h3,h4,h5⟩:=h
  obtain ⟨rs0,X,Y,rs1,p,q,rfl,a1,a2,a3,a4,a5,a6,a7⟩:=h5.at (i:=i) (by simpa using hi)
  have e:b + X0.length + rs0.flatten.length = b + (X0 :: rs0).flatten.length:=by rw [List.flatten_cons,List.length_append]; exact Nat.le_antisymm (lC 0 2319485832384 T1) (lC 0 2271167496384 T1)
  rw [e] at a5 a6 a7
  exact ⟨X0 :: rs0,X,Y,rs1,p,q,rfl,a1,a2,a3,a4,a5,a6,fun Z hZ sZ=>⟨h1,h2,h3,h4,a7 Z hZ sZ⟩⟩
 | 0,_,_ :: [],_ :: _ :: _,h,_=>h.2.2.2.2.elim
 | 0,_,_,[],_,hi=>by cases hi
 | 0,_,_,[_],_,hi=>by simp at hi
 | _ + 1,_,_,[],_,hi=>by cases hi
 | _,_,[],_ :: _,h,_=>h.elim
structure MM (κ:SortKind) (it:Array Keyed) (lt:Nat → Nat → Bool) (st:SortSt) (rs:List (List Nat)) (R:List Nat):Prop where
 s:SS κ it st (rs.flatten ++ R) (pendingOf st)
 r:Rn lt 0 rs (pendingOf st).toList
theorem MM.pw {rs:List (List Nat)} {R:List Nat} (m:MM κ it lt st rs R) (i p:Nat):MM κ it lt (setPending st ((pendingOf st).modify i fun x=>(x.1,x.2.1,p))) rs R:=by
 obtain ⟨⟨a1,a2,a3,a4⟩,r⟩:=m
 refine ⟨⟨a1,a2,rfl,a4⟩,?_⟩
 show Rn lt 0 rs ((pendingOf st).modify i fun x=>(x.1,x.2.1,p)).toList
 refine r.same ?_
 apply List.ext_getElem?
 intro k
 rw [List.getElem?_map,List.getElem?_map,Array.getElem?_toList,Array.getElem?_toList,Array.getElem?_modify]
 split
 ·cases (pendingOf st)[k]? <;> rfl
 ·rfl
theorem MM.push {rs rs':List (List Nat)} {R X l:List Nat} {n x lo:Nat} (hp:(rs.flatten ++ R).Perm l) (hX:X.Perm (R.take n)) (sX:Srt lt X) (h1:1 ≤ n) (hn:n ≤ R.length) (hr:rs'.flatten.Perm rs.flatten) (m:MM κ it lt st rs' (X ++ R.drop n)) (hx:x ≤ rs.flatten.length ∨ R = []) (hlo:lo = rs.flatten.length):∃ rs2 R2,((none,lo + n):Option Unit × Nat) = (none,rs2.flatten.length) ∧ (rs2.flatten ++ R2).Perm l ∧ MM κ it lt (setPending st ((pendingOf st).push (lo,n,0))) rs2 R2 ∧ (x + 1 ≤ rs2.flatten.length ∨ R2 = []):=by
 subst hlo
 have Xl:X.length = n:=by rw [hX.length_eq,List.length_take,Nat.min_eq_left hn]
 have fl2:(rs' ++ [X]).flatten = rs'.flatten ++ X:=by simp
 have ln:(rs' ++ [X]).flatten.length = rs.flatten.length + n:=by rw [fl2,List.length_append,hr.length_eq,Xl]
 obtain ⟨⟨a1,a2,a3,a4⟩,r⟩:=m
 refine ⟨rs' ++ [X],R.drop n,by rw [ln],?_,⟨⟨a1,?_,rfl,a4⟩,?_⟩,?_⟩
 ·refine List.Perm.trans ?_ hp
  rw [fl2,List.append_assoc]
  refine List.Perm.trans (hr.append_right _) (List.Perm.append_left _ ?_)
  have:=hX.append_right (R.drop n)
  rwa [List.take_append_drop] at this
 ·rw [fl2,List.append_assoc]; exact a2
 ·show Rn lt 0 _ ((pendingOf st).push (rs.flatten.length,n,0)).toList
  rw [Array.toList_push]
  exact r.push (lB 2 966803918897 T1 Xl h1) sX (by rw [Nat.zero_add,hr.length_eq]) Xl.symm
 ·rcases hx with q | q
  ·exact .inl (by rw [ln]; exact lC 2 0x21ca0c02a011001 T1 q h1)
  ·subst q; exact .inr (by simp)
end
end L3
namespace L3
open PySem PySem.W PyProof.Rows
section
variable {prog:Program} {w:World} {A:Around} {E:Value → Shared → Prop} {s:Shared}
end
end L3
namespace L3
open PySem PySem.W PySem.Spec PyProof.Rows L2
section
variable {X:Cx}
end
end L3
namespace L3
open PySem PySem.Spec PyProof.Rows L2
noncomputable def gK {α:Type} (n:Nat) (us ws:List α):List α:=if us.length = n ∧ ws.length = 1 then us ++ ws else []
noncomputable def Zib (P:Program) (w:World) (K:PySem.W.Frag) (mg:Str → Option Value) (base:Heap) (k:Nat) (x:Str) (ps:List Str) (F:F3) (dd:List D) (n:Nat) (nm:Str):Prop:=
 (∀ ds M,ds.length ≠ ps.length → F ds M = .bad) ∧ ∃ f fd ds dvs,mg x = some (.ref f) ∧ PySem.W.keepIn K (.ref f) = true ∧ Binds K fd ps [] ∧ Binds K fd ps ds ∧ Vals dvs ds ∧ (∀ H ι,Zk K H ι dd dvs) ∧ Zll K fd ps [nm] (gK n) (gK n) ∧ ZbR P w K mg base CX0 k f fd ps (sp3 K ps.length F)
section
variable {P:Program} {w:World} {K:PySem.W.Frag} {mg:Str → Option Value} {base:Heap} {dd:List D} {n:Nat} {nm:Str}
theorem Zib.fn {k:Nat} {x:Str} {ps:List Str} {F:F3} (h:Zib P w K mg base k x ps F dd n nm):Fn3 P w K mg base k x ps F:=
 let ⟨a,f,fd,_,_,b,c,d,_,_,_,_,e⟩:=h; ⟨a,f,fd,b,c,d,e⟩
theorem Zib.mono {j k:Nat} {x:Str} {ps:List Str} {F:F3} (h:Zib P w K mg base j x ps F dd n nm) (l:j ≤ k):Zib P w K mg base k x ps F dd n nm:=
 let ⟨a,f,fd,ds,dvs,b,c,d,e,g,i,o,q⟩:=h; ⟨a,f,fd,ds,dvs,b,c,d,e,g,i,o,q.mono l⟩
end
section
variable {X:Cx} {e e':Expr} {es:List Expr} {pos p kpos:Pos} {gl:EL3} {g:E3} {x nm:Str} {k n:Nat} {ps:List Str} {F:F3} {dd:List D}
end
end L3
namespace L3
open PySem PySem.W PySem.Spec PyProof.Rows L2
section
variable {X:Cx}
end
end L3
namespace L3
open PySem PySem.Spec PyProof.Rows L2
noncomputable abbrev nm (f:List Nat):Str:=⟨f.toArray⟩
theorem Ziz {f g:List Nat} (h:nm f = nm g):f = g:=by
 have:=congrArg (fun s:Str=>s.cps.toList) h
 simpa using this
section
variable {K:PySem.W.Frag} {H H':Hp} {ι ι':List Addr} {fs:List (List Nat × D)} {gs:List (Str × V)}
theorem FsR.mono (e:Ext K H ι H' ι') (h:FsR K H ι fs gs):FsR K H' ι' fs gs:=⟨h.1,h.2.mono e⟩
theorem FsR.nil:FsR K H ι [] []:=⟨rfl,Zk.nil⟩
theorem FsR.nil_inv (h:FsR K H ι [] gs):gs = []:=List.map_eq_nil_iff.mp h.1
theorem FsR.cons_inv {f:List Nat} {d:D} (h:FsR K H ι ((f,d) :: fs) gs):∃ v gs',gs = (nm f,v) :: gs' ∧ Rep K H ι d v ∧ FsR K H ι fs gs':=by
 cases gs with
 | nil=>cases h.1
 | cons p gs'=>
  obtain ⟨g,v⟩:=p
  obtain ⟨h1,h2⟩:=h
  rw [List.map_cons,List.map_cons] at h1 h2
  obtain ⟨e1,e2⟩:=List.cons.inj h1
  obtain ⟨v',ws,e,r,q⟩:=h2.cons_inv
  obtain ⟨rfl,rfl⟩:=List.cons.inj e
  exact ⟨v,gs',by rw [show g = nm f from e1],r,e2,q⟩
theorem FsR.cons {f:List Nat} {d:D} {v:V} (r:Rep K H ι d v) (h:FsR K H ι fs gs):FsR K H ι ((f,d) :: fs) ((nm f,v) :: gs):=⟨by rw [List.map_cons,List.map_cons,h.1],Zk.cons r h.2⟩
theorem FsR.length (h:FsR K H ι fs gs):gs.length = fs.length:=by
 have:=congrArg List.length h.1
 simpa using this
theorem FsR.look {f:List Nat}:∀ {fs:List (List Nat × D)} {gs:List (Str × V)},FsR K H ι fs gs → (fs.lookup f = none → gs.lookup (nm f) = none) ∧ ∀ d,fs.lookup f = some d → ∃ v,gs.lookup (nm f) = some v ∧ Rep K H ι d v
 | [],_,h=>by rw [h.nil_inv]; exact ⟨fun _=>rfl,fun d e=>by cases e⟩
 | (g,x) :: fs,_,h=>by
  obtain ⟨v,gs',rfl,r,t⟩:=h.cons_inv
  rw [List.lookup_cons,List.lookup_cons]
  by_cases e:f = g
  ·subst e
   rw [beq_self_eq_true,beq_self_eq_true]
   exact ⟨fun q=>(by cases q),fun d q=>(by cases q; exact ⟨v,rfl,r⟩)⟩
  ·rw [beq_false_of_ne e,beq_false_of_ne fun q=>e (Ziz q)]
   exact t.look
theorem FsR.put {f:List Nat} {d:D} {v:V} (r:Rep K H ι d v):∀ {fs:List (List Nat × D)} {gs:List (Str × V)},FsR K H ι fs gs → FsR K H ι (ZeP f d fs) (Zct (nm f) v gs)
 | [],_,h=>by rw [h.nil_inv]; exact FsR.cons r FsR.nil
 | (g,x) :: fs,_,h=>by
  obtain ⟨w,gs',rfl,r',t⟩:=h.cons_inv
  unfold ZeP Zct
  by_cases e:g = f
  ·subst e
   rw [if_pos rfl,if_pos rfl]; exact FsR.cons r t
  ·rw [if_neg e,if_neg fun q=>e (Ziz q)]; exact FsR.cons r' (t.put r)
end
structure Zc7 (K:PySem.W.Frag) (c:List Nat) (C:Addr):Prop where
 at_:ClsAt K c C
 cls:Cls K C
 nz:c.head? ≠ some 0
theorem Zc7.same {K:PySem.W.Frag} {c:List Nat} {C C':Addr} (h:Zc7 K c C) (q:ClsAt K c C'):C' = C:=by
 have:=q.symm.trans h.at_
 cases this; rfl
section
variable {X:Cx} {o e:Expr} {es:List Expr} {f g:E3} {gl:EL3} {c m:List Nat} {C:Addr} {fn:Str} {pos pos' apos p:Pos} {x:Str}
theorem ZdA {M:Store} {n:Nat} {H:Hp} {ι:List Addr} {a:Addr} (kc:Zc7 X.K c C) (S:Zw X.K H ι M) (ha:ι[n]? = some a) {fs:List (List Nat × D)} (hn:M[n]? = some (.ins c fs)):∃ dx gs,H a = some (.ins C dx gs) ∧ FsR X.K H ι fs gs:=by
 rcases S.obj n _ a hn ha with ⟨C',dx,gs,q,ca,fr⟩ | ⟨_,_,z,_⟩
 ·rw [kc.same ca.1] at q
  exact ⟨dx,gs,q,fr⟩
 ·exact absurd z kc.nz
theorem ZfT (kc:Zc7 X.K c C) (nf:Zcp X.K C (nm m)) (he:C3 X e f) (hf:fn = nm m:=by decide +kernel) (hb:attributeBase e fn X.env (eval e X.env) = eval e X.env:=by rfl):C3 X (.Attribute e fn pos) (e1 (Zcm c m) f):=by
 subst hf
 refine (ZlC he hb).imp fun σ H Q zz1=>?_
 obtain ⟨ι,M,env,S,E,h⟩:=zz1
 obtain ⟨d,M1,e1,hh⟩:=Zu.bind h
 refine ⟨ι,M,env,S,E,?_⟩
 rw [e1]
 intro v H1 ι1 x1 S1 r1
 cases d with
 | ref n=>
  simp only [Zcm] at hh
  cases hn:M1[n]? with
  | none=>simp only [hn] at hh; exact hh.elim
  | some ob=>
   cases ob with
   | ins c' fs=>
    simp only [hn] at hh
    split at hh
    ·rename_i ec
     subst ec
     obtain ⟨a,ha,rfl⟩:=r1.ref_inv
     obtain ⟨dx,gs,q,fr⟩:=ZdA kc S1 ha hn
     split at hh
     ·rename_i d hl
      obtain ⟨w,lw,rw'⟩:=(fr.look (f:=m)).2 d hl
      exact ⟨a,C,dx,gs,w,rfl,q,kc.cls,nf,lw,hh w H1 ι1 x1 S1 rw'⟩
     ·exact hh.elim
    ·exact hh.elim
   | _=>simp only [hn] at hh; exact hh.elim
 | _=>exact hh.elim
theorem ZiX (kc:Zc7 X.K c C) (nf:Zcp X.K C (nm m)) (ho:C3 X o f) (hv:C3 X e g) (hf:fn = nm m:=by decide +kernel) (hs:swapsWith e (some (.Attribute o fn pos')) pos.line X.env = pure false:=by rfl):CS X (.Assign [.Attribute o fn pos'] e pos) (Ziw c m f g):=by
 subst hf
 refine (ZlL ho hv hs).imp fun D' σ H zz1=>?_
 obtain ⟨ι,M,env,S,E,hh⟩:=zz1
 have hh:=ZfY E hh
 obtain ⟨d,M1,e1,hh⟩:=Zu.bind hh
 obtain ⟨b,M2,e2,hh⟩:=Zu.bind hh
 refine ⟨ι,M,env,S,E,?_⟩
 rw [e1]
 intro y H1 ι1 x1 S1 r1
 refine ⟨ι1,M1,env,S1,E.mono x1,?_⟩
 rw [e2]
 intro w H2 ι2 x2 S2 r2
 cases b with
 | ref n=>
  simp only [Zd1] at hh
  cases hn:M2[n]? with
  | none=>simp only [hn] at hh; exact hh.elim
  | some ob=>
   cases ob with
   | ins c' fs=>
    simp only [hn] at hh
    split at hh
    ·rename_i ec
     obtain ⟨ec,lf⟩:=ec
     subst ec
     obtain ⟨a,ha,rfl⟩:=r2.ref_inv
     obtain ⟨dx,gs,q,fr⟩:=ZdA kc S2 ha hn
     have l0:Loose H2 a:=.inr (.inr (.inr ⟨C,dx,gs,q⟩))
     have x3:Ext X.K H2 ι2 (upd H2 a (.ins C dx (Zct (nm m) y gs))) ι2:=l0.ext
     have S3:Zw X.K (upd H2 a (.ins C dx (Zct (nm m) y gs))) ι2 (M2.set n (.ins c' (ZeP m d fs))):=S2.put l0 ha (.inl ⟨C,dx,_,ZaQ,⟨kc.at_,kc.nz⟩,(fr.put (r1.mono x2)).mono x3⟩)
     exact ⟨a,C,dx,gs,rfl,q,kc.cls,nf,by rw [fr.length]; exact lf,hh .non _ _ ((x1.trans x2).trans x3) S3 Rep.non⟩
    ·exact hh.elim
   | _=>simp only [hn] at hh; exact hh.elim
 | _=>exact hh.elim
noncomputable def Zdl (P:Program) (w:World) (K:PySem.W.Frag) (mg:Str → Option Value) (base:Heap) (k:Nat) (C:Addr) (m:Str) (ps:List Str) (F:F3):Prop:=
 (∀ ds M,ds.length ≠ ps.length → F ds M = .bad) ∧ ∃ f fd,Meth K C m f ∧ Binds K fd ps [] ∧ ZbR P w K mg base CX0 k f fd ps (sp3 K ps.length F)
theorem Zdl.mono {P:Program} {w:World} {K:PySem.W.Frag} {mg:Str → Option Value} {base:Heap} {C:Addr} {j k:Nat} {x:Str} {ps:List Str} {F:F3} (h:Zdl P w K mg base j C x ps F) (l:j ≤ k):Zdl P w K mg base k C x ps F:=
 let ⟨n,f,fd,a,b,d⟩:=h; ⟨n,f,fd,a,b,d.mono l⟩
theorem Zev {ps:List Str} {F:F3} {a:D} {M1:Store} {n:Nat} (hi:Zeq c m a M1 = true):∃ n fs,a = .ref n ∧ M1[n]? = some (.ins c fs) ∧ fs.lookup m = none:=by
 cases a with
 | ref n=>
  simp only [Zeq] at hi
  cases hn:M1[n]? with
  | none=>simp [hn] at hi
  | some ob=>
   cases ob with
   | ins c' fs=>
    simp only [hn,Bool.and_eq_true,decide_eq_true_eq,Option.isNone_iff_eq_none] at hi
    obtain ⟨rfl,hl⟩:=hi
    exact ⟨n,fs,rfl,hn,hl⟩
   | _=>simp [hn] at hi
 | _=>simp at hi
theorem ZkP {k:Nat} {ps:List Str} {F:F3} {pl:Sem Bool} (kc:Zc7 X.K c C) (G:Zdl X.prog X.w X.K X.mg X.base k C fn ps F) (hr:ZaV k X.A) (ho:C3 X o f) (ha:CA X (e :: es) gl) (hf:fn = nm m:=by decide +kernel)
  (hst:starEach (e :: es) X.env = (false,eval e X.env) :: starEach es X.env:=by rfl) (hpl:(backTo pos (starEach es X.env)).any (·.1) = false:=by rfl)
  (ht:eval (.Call (.Attribute o fn apos) (e :: es) [] pos) X.env = (do
   let ov ← eval o X.env
   standAt apos.atName
   let (f,first) ← holding [ov] (getMethod ov fn pl)
   callWith pos f first (backTo pos (starEach (e :: es) X.env)) (backToKw pos (keywordEach [] X.env))):=by rfl):C3 X (.Call (.Attribute o fn apos) (e :: es) [] pos) (ZaX c m F f gl):=by
 subst hf
 obtain ⟨hn,fa,fd,mt,bi,ok⟩:=G
 refine (Zjk ho kc.cls mt ok hr bi .nil ZgQ ha hst hpl ht).imp fun σ H Q zz1=>?_
 obtain ⟨ι,M,env,S,E,h⟩:=zz1
 obtain ⟨a,M1,e1,h⟩:=Zu.bind h
 refine ⟨ι,M,env,S,E,?_⟩
 rw [e1]
 intro v H1 ι1 x1 S1 r1
 split at h
 ·rename_i hi
  obtain ⟨n,fs,rfl,hm,hl⟩:=Zev (ps:=ps) (F:=F) (n:=0) hi
  obtain ⟨p,hp,rfl⟩:=r1.ref_inv
  obtain ⟨dx,gs,q,fr⟩:=ZdA kc S1 hp hm
  refine ⟨p,dx,gs,rfl,q,(fr.look (f:=m)).1 hl,?_⟩
  obtain ⟨ds,M2,e2,h⟩:=Zu.bind h
  refine ⟨ι1,M1,env,S1,E.mono x1,?_⟩
  rw [e2]
  intro vs H2 ι2 x2 S2 r2
  have hl:(D.ref n :: ds).length = ps.length:=by
   refine Decidable.byContradiction fun q=>?_
   rw [hn _ M2 q] at h
   exact h.elim
  exact ⟨ι2,M2,_,S2,by rw [List.append_nil]; exact Zk.cons (r1.mono x2) r2,hl,h.up (x1.trans x2)⟩
 ·exact h.elim
theorem Zei {k:Nat} {ps:List Str} {F:F3} {pl:Sem Bool} (kc:Zc7 X.K c C) (G:Zdl X.prog X.w X.K X.mg X.base k C fn ps F) (hr:ZaV k X.A) (ho:C3 X o f) (hf:fn = nm m:=by decide +kernel)
  (ht:eval (.Call (.Attribute o fn apos) [] [] pos) X.env = (do
   let ov ← eval o X.env
   standAt apos.atName
   let (f,first) ← holding [ov] (getMethod ov fn pl)
   callWith pos f first (backTo pos (starEach [] X.env)) (backToKw pos (keywordEach [] X.env))):=by rfl):C3 X (.Call (.Attribute o fn apos) [] [] pos) (ZaX c m F f Ze):=by
 subst hf
 obtain ⟨hn,fa,fd,mt,bi,ok⟩:=G
 refine (ZiF ho kc.cls mt ok hr bi .nil ZgQ ht).imp fun σ H Q zz1=>?_
 obtain ⟨ι,M,env,S,E,h⟩:=zz1
 obtain ⟨a,M1,e1,h⟩:=Zu.bind h
 refine ⟨ι,M,env,S,E,?_⟩
 rw [e1]
 intro v H1 ι1 x1 S1 r1
 split at h
 ·rename_i hi
  obtain ⟨n,fs,rfl,hm,hl⟩:=Zev (ps:=ps) (F:=F) (n:=0) hi
  obtain ⟨p,hp,rfl⟩:=r1.ref_inv
  obtain ⟨dx,gs,q,fr⟩:=ZdA kc S1 hp hm
  refine ⟨p,dx,gs,rfl,q,(fr.look (f:=m)).1 hl,?_⟩
  have hl:([D.ref n]:List D).length = ps.length:=by
   refine Decidable.byContradiction fun q=>?_
   have h':Zu X.K H ι Q (F [.ref n] M1):=h
   rw [hn _ M1 q] at h'
   exact h'.elim
  exact ⟨ι1,M1,[.ref n],S1,Zk.cons r1 Zk.nil,hl,Zu.up x1 h⟩
 ·exact h.elim
theorem Zl4 {k:Nat} {ps:List Str} {F:F3} {fa:Addr} {fd:FuncData} (at_:ClsAt X.K c C ∧ c.head? ≠ some 0) (Mc:Mk X.K C fa) (hF:∀ ds M,ds.length ≠ ps.length → F ds M = .bad) (ok:ZbR X.prog X.w X.K X.mg X.base CX0 k fa fd ps (sp3 X.K ps.length F)) (bi:Binds X.K fd ps []) (hm:X.mg x = some (.ref C)) (hr:ZaV (k + 1) X.A) (ha:CA X (e :: es) gl) (hg:Gl X x:=by rfl)
  (hdb:(x == ("__debug__":Str)) = false:=by decide) (he:starEach (e :: es) X.env = (false,eval e X.env) :: starEach es X.env:=by rfl) (hpl:(backTo pos (starEach es X.env)).any (·.1) = false:=by rfl):C3 X (.Call (.Name x p) (e :: es) [] pos) (ZcL c F gl):=by
 refine (Zj0 Mc ok hr hg hm bi .nil ZgQ ha hdb he hpl).imp fun σ H Q zz1=>?_
 obtain ⟨ι,M,env,S,E,h⟩:=zz1
 obtain ⟨ds,M1,e1,h⟩:=Zu.bind h
 refine ⟨ι,M,env,S,E,?_⟩
 rw [e1]
 intro vs H1 ι1 x1 S1 r1 y dx hy hd ne
 have y2:upd H1 dx (.own y) y = none:=by rw [Zan (Ne.symm ne)]; exact hy
 have x2:Ext X.K H1 ι1 (upd H1 dx (.own y)) ι1:=Loose.ext (.inl hd)
 have S2:Zw X.K (upd H1 dx (.own y)) ι1 M1:=S1.other (.inl hd) (S1.fresh hd)
 have x3:Ext X.K (upd H1 dx (.own y)) ι1 (upd (upd H1 dx (.own y)) y (.ins C dx [])) (ι1 ++ [y]):=Loose.extA (.inl y2)
 have S3:Zw X.K (upd (upd H1 dx (.own y)) y (.ins C dx [])) (ι1 ++ [y]) (M1 ++ [.ins c []]):=S2.new y2 (.inl ⟨C,dx,[],ZaQ,at_,FsR.nil⟩)
 have hy':(ι1 ++ [y])[M1.length]? = some y:=by rw [← S1.len]; simp
 have rr:Rep X.K (upd (upd H1 dx (.own y)) y (.ins C dx [])) (ι1 ++ [y]) (.ref M1.length) (.ref y):=Rep.ref hy'
 cases q:F (.ref M1.length :: ds) (M1 ++ [.ins c []]) with
 | bad=>simp only [q] at h; exact h.elim
 | exc _ _=>simp only [q] at h; exact h.elim
 | ok d M2=>
  have hl:(D.ref M1.length :: ds).length = ps.length:=by
   refine Decidable.byContradiction fun z=>?_
   rw [hF _ _ z] at q; cases q
  refine ⟨ι1 ++ [y],M1 ++ [.ins c []],.ref M1.length :: ds,S3,by rw [List.append_nil]; exact Zk.cons rr ((r1.mono x2).mono x3),hl,?_⟩
  rw [q]
  simp only [q] at h
  cases d with
  | non=>
   intro v H4 ι4 x4 S4 r4
   exact ⟨r4.non_inv,h _ H4 ι4 (((x1.trans x2).trans x3).trans x4) S4 (rr.mono x4)⟩
  | _=>exact h.elim
end
noncomputable def Zej (s:Stmt):List Stmt:=match s with
 | .ClassDef _ _ _ b _ _ _ _ _ _ _=>b
 | _=>[]
noncomputable def ZdF (K:PySem.W.Frag) (C:Addr) (m qual:Str) (st:Stmt) (ps:List Str):Prop:=∃ f fd,Fun K m qual st f fd ∧ Meth K C m f ∧ Binds K fd ps []
noncomputable def Zji (K:PySem.W.Frag) (C:Addr) (qual:Str) (st:Stmt) (ps:List Str):Prop:=∃ f fd,Fun K "__init__" qual st f fd ∧ Mk K C f ∧ Binds K fd ps []
noncomputable def Mk3 (P:Program) (w:World) (K:PySem.W.Frag) (mg:Str → Option Value) (base:Heap) (k:Nat) (C:Addr) (ps:List Str) (F:F3):Prop:=
 (∀ ds M,ds.length ≠ ps.length → F ds M = .bad) ∧ ∃ f fd,Mk K C f ∧ Binds K fd ps [] ∧ ZbR P w K mg base CX0 k f fd ps (sp3 K ps.length F)
section
variable {P:Program} {w:World} {K:PySem.W.Frag} {mg:Str → Option Value} {base:Heap} {C f:Addr} {m qual:Str} {st:Stmt} {N ps:List Str} {k:Nat} {body:S3} {oc:Value} {od an:Option Addr} {osl:Array (Option Value)} {dV kV doc pm cdv ct:Value}
theorem ZeC (a:PySem.W.findIn K (.ref C) m = some (some (.ref f))) (i:PySem.W.isFn K (.ref f) = true) (l:K.lookup f = some ⟨oc,od,.func (PySem.W.fnOf m qual (Zas st) (Zai st) (Zg st) dV kV doc pm an cdv ct),osl⟩)
  (c:PySem.W.codeIn K cdv qual = true) (kp:PySem.W.keepIn K (.ref f) = true) (b:Binds K (PySem.W.fnOf m qual (Zas st) (Zai st) (Zg st) dV kV doc pm an cdv ct) ps []):ZdF K C m qual st ps:=
 ⟨f,_,⟨⟨oc,od,dV,kV,doc,pm,an,cdv,ct,osl,rfl,l,c⟩,kp⟩,⟨a,i,kp⟩,b⟩
theorem ZjA (mk:PySem.W.makesIn K C = true) (kc:PySem.W.keepIn K (.ref C) = true) (a:PySem.W.findIn K (.ref C) "__init__" = some (some (.ref f))) (i:PySem.W.isFn K (.ref f) = true) (l:K.lookup f = some ⟨oc,od,.func (PySem.W.fnOf "__init__" qual (Zas st) (Zai st) (Zg st) dV kV doc pm an cdv ct),osl⟩)
  (c:PySem.W.codeIn K cdv qual = true) (kp:PySem.W.keepIn K (.ref f) = true) (b:Binds K (PySem.W.fnOf "__init__" qual (Zas st) (Zai st) (Zg st) dV kV doc pm an cdv ct) ps []):Zji K C qual st ps:=
 ⟨f,_,⟨⟨oc,od,dV,kV,doc,pm,an,cdv,ct,osl,rfl,l,c⟩,kp⟩,⟨mk,a,i,kc⟩,b⟩
theorem Zdl.of (d:ZdF K C m qual st ps) (S:Zaz N ps (Zg st))
  (hb:∀ (f:Addr) (cdv:Value) (A:Around) (outer:List Env) (s:Shared) (H:Hp) (E:XK),ZaV k (A.deeper (envOfC qual (Zg st) s.heap.objs.size f cdv)) → CSs (ZdV CX0 P w K mg base N qual (Zg st) f cdv A outer s H E).nox (Zai st) body):
  Zdl P w K mg base (k + 1) C m ps (mkF ps.length N.length body):=by
 obtain ⟨f,fd,F,mt,bi⟩:=d
 exact ⟨fun ds M h=>if_neg h,f,fd,mt,bi,fn3 F S (hb f)⟩
theorem Mk3.of (d:Zji K C qual st ps) (S:Zaz N ps (Zg st))
  (hb:∀ (f:Addr) (cdv:Value) (A:Around) (outer:List Env) (s:Shared) (H:Hp) (E:XK),ZaV k (A.deeper (envOfC qual (Zg st) s.heap.objs.size f cdv)) → CSs (ZdV CX0 P w K mg base N qual (Zg st) f cdv A outer s H E).nox (Zai st) body):
  Mk3 P w K mg base (k + 1) C ps (mkF ps.length N.length body):=by
 obtain ⟨f,fd,F,mk,bi⟩:=d
 exact ⟨fun ds M h=>if_neg h,f,fd,mk,bi,fn3 F S (hb f)⟩
end
theorem Zl7 {X:Cx} {e:Expr} {es:List Expr} {gl:EL3} {c:List Nat} {C:Addr} {pos p:Pos} {x:Str} {k:Nat} {ps:List Str} {F:F3} (kc:Zc7 X.K c C) (G:Mk3 X.prog X.w X.K X.mg X.base k C ps F) (hm:X.mg x = some (.ref C)) (hr:ZaV (k + 1) X.A) (ha:CA X (e :: es) gl) (hg:Gl X x:=by rfl)
  (hdb:(x == ("__debug__":Str)) = false:=by decide) (he:starEach (e :: es) X.env = (false,eval e X.env) :: starEach es X.env:=by rfl) (hpl:(backTo pos (starEach es X.env)).any (·.1) = false:=by rfl):C3 X (.Call (.Name x p) (e :: es) [] pos) (ZcL c F gl):=by
 obtain ⟨hF,f,fd,mk,bi,ok⟩:=G
 exact Zl4 ⟨kc.at_,kc.nz⟩ mk hF ok bi hm hr ha hg hdb he hpl
end L3
namespace L3
open PySem PySem.Spec PyProof.Rows L2
set_option maxRecDepth 100000
@[simp] noncomputable def Zbd (o:D) (ds:List D) (M:Store):R3 D:=match o,ds with
 | .ref n,[]=>match M[n]? with
  | some (.lst x)=>.ok .non (M.set n (.lst x.reverse))
  | _=>.bad
 | _,_=>.bad
section
variable {X:Cx} {o e:Expr} {es:List Expr} {apos cpos:Pos} {f:E3} {gl:EL3}
theorem Zk.rev {K:PySem.W.Frag} {H:Hp} {ι:List Addr}:∀ {ds:List D} {vs:List V},Zk K H ι ds vs → Zk K H ι ds.reverse vs.reverse
 | [],_,h=>by rw [h.nil_inv]; exact Zk.nil
 | d :: ds,_,h=>by
  obtain ⟨v,us,rfl,r,t⟩:=h.cons_inv
  rw [List.reverse_cons,List.reverse_cons]
  exact t.rev.append (Zk.cons r Zk.nil)
theorem ZhD:MtR X "list.reverse" (rM X.K Zbd):=MtR.imp (r:=Zgf) Zgt fun x xs H Q zz1=>by
 obtain ⟨ι,M,a,ds,S,ra,rd,h⟩:=zz1
 cases a with
 | ref n=>
  cases ds with
  | cons _ _=>exact h.elim
  | nil=>
   have:=rd.nil_inv
   subst this
   obtain ⟨p,hp,rfl⟩:=ra.ref_inv
   cases hn:M[n]? with
   | none=>simp only [Zbd,hn] at h; exact h.elim
   | some o=>
    cases o with
    | dct _=>simp only [Zbd,hn] at h; exact h.elim
    | fdct _=>simp only [Zbd,hn] at h; exact h.elim
    | ins _ _=>simp only [Zbd,hn] at h; exact h.elim
    | lst z=>
     simp only [Zbd,hn] at h
     obtain ⟨vs,e,rv⟩:=S.obj n _ p hn hp
     obtain ⟨x2,S2⟩:=S.setl (.inr (.inl ⟨_,e⟩)) hp rv.rev
     exact ⟨p,vs,rfl,rfl,e,h _ _ _ x2 S2 Rep.non⟩
 | _=>cases ds <;> exact h.elim
theorem ZeO (ho:C3 X o f) (hbase:attributeBase o "reverse" X.env (eval o X.env) = eval o X.env:=by rfl) (hline:(apos.endLine == cpos.line) = true:=by rfl):C3 X (.Call (.Attribute o "reverse" apos) [] [] cpos) (Zcq tyL Zbd f (Ze)):=
 (Zlc PySem.F.plainAttrs_list PySem.F.slot_list_reverse PySem.F.type_list_reverse ZhD ho hbase hline).imp (ZjH Zik)
end
end L3
namespace L3
open PySem PySem.Spec PyProof.Rows L2
theorem Ziq {P:Program} {w:World} {H:Hp} {h:Heap} {e C:Addr} (x:ExO e C h):ZaZ P w H h e (exH e C):=
 ⟨x,(let ⟨o,_,q,_⟩:=x; ⟨o,q⟩),fun _ _ z k=>let ⟨o,vs,a,b,c⟩:=z; ⟨o,vs,k o a,b,c⟩⟩
theorem ZdS {P:Program} {w:World} {H:Hp} {h:Heap} {a:Addr} {o:HO} (x:ZaZ P w H h a o):∃ u,h.get? a = some u:=by
 cases o with
 | lst xs=>obtain ⟨_,_,_,_,e⟩:=x; exact ⟨_,e⟩
 | tup xs=>obtain ⟨_,_,_,o,e,_⟩:=x; exact ⟨o,e⟩
 | dK kvs=>obtain ⟨_,_,_,_,o,_,_,e,_⟩:=x; exact ⟨o,e⟩
 | dT kvs=>obtain ⟨_,_,_,_,o,_,_,e,_⟩:=x; exact ⟨o,e⟩
 | set S n=>obtain ⟨o,_,_,_,e,_⟩:=x; exact ⟨o,e⟩
 | ins C dx fs=>obtain ⟨_,_,_,e,_⟩:=x; exact ⟨_,e⟩
 | own y=>exact x
 | xd fs=>obtain ⟨_,⟨o,_,_,e,_⟩,_⟩:=x; exact ⟨o,e⟩
 | rng lo hi=>obtain ⟨_,_,_,e⟩:=x; exact ⟨_,e⟩
 | frz ob u=>obtain ⟨e,_⟩:=x; exact ⟨_,e⟩
 | tbl ps=>exact ⟨_,x⟩
 | met f y=>exact ⟨_,x⟩
 | ext φ=>exact x.2.1
noncomputable def Zdb (B:Heap) (l:List Env) (e C:Addr) (h:Heap):Prop:=
 ∃ a0,Heap.FlyingW B l e (.ref C) a0 h ∨ (B.StaysIn h ∧ B.get? e = none ∧ h.FunFrames B l ∧ ∃ oe vs,h.get? e = some oe ∧ oe.cls = .ref C ∧ oe.data = .fields vs ∧ vs[0]? = some a0 ∧ vs[1]? = some .none)
section
variable {B h h':Heap} {l:List Env} {e C:Addr}
theorem ZdN {a0:Value} (f:Heap.FlyingW B l e (.ref C) a0 h):ExO e C h:=let ⟨o,vs,a,b,c,_⟩:=f.first; ⟨o,vs,a,b,c⟩
theorem Zdb.stays (f:Zdb B l e C h):B.StaysIn h:=by
 obtain ⟨a0,f | f⟩:=f
 ·exact f.1
 ·exact f.1
theorem Zdb.exo (f:Zdb B l e C h):ExO e C h:=by
 obtain ⟨a0,f | ⟨_,_,_,oe,vs,a,b,c,_⟩⟩:=f
 ·exact ZdN f
 ·exact ⟨oe,vs,a,b,c⟩
end
section
variable {M:Model} {A:Around} {E:Value → Shared → Prop} {s:Shared} {B:Heap} {env:Env} {outer:List Env} {L e C:Addr} {Q:Unit → Shared → Prop}
theorem Zlv (hfr:A.frames = some (env :: outer)) (hf:env.frame = some L) (f:Zdb B (env :: outer) e C s.heap)
  (hQ:∀ h' a0,Heap.HeldW B (env :: outer) e (.ref C) a0 L h' → s.heap.UpToSlots h' → Q () { s with heap:=h' }):wpAny M A (noteFrame (.ref e) env) Q E s:=by
 obtain ⟨a0,f | ⟨f1,f2,f3,oe,vs,he,hc,hd,h0,h1⟩⟩:=f
 ·exact wpAny_looks_onW hfr hf f fun h' x y=>hQ h' a0 x y
 ·unfold noteFrame
  simp only [hf]
  refine wpAny_bind (wpAny_field he hd h1 ?_)
  rw [if_neg (by decide)]
  refine wpAny_entryW hfr f3 hf he f1 f2 hd (Array.getElem?_eq_some_iff.mp h1).1 h0 fun h' hN=>?_
  obtain ⟨k1,k2,k3,k4⟩:=hN
  rw [hc] at k3
  exact hQ h' a0 ⟨k1,f2,k2,k3⟩ k4
theorem Zjj (hfr:A.frames = some (env :: outer)) (hf:env.frame = some L) (f:Zdb B (env :: outer) e C s.heap)
  (hQ:∀ h',Zdb B outer e C h' → s.heap.UpToSlots h' → Q () { s with heap:=h' }):wpAny M A (leaving env (.ref e)) Q E s:=by
 obtain ⟨a0,f | ⟨f1,f2,f3,oe,vs,he,hc,hd,h0,h1⟩⟩:=f
 ·exact wpAny_leaves_onW hfr hf f fun h' x y=>hQ h' ⟨a0,.inl x⟩ y
 ·refine wpAny_leaving_firstW hfr f3 hf he f1 f2 hd h1 h0 fun h' hL=>?_
  obtain ⟨k1,⟨_,_,k2⟩,k3,k4⟩:=hL
  rw [hc] at k3
  exact hQ h' ⟨a0,.inl ⟨k1,f2,k2,k3⟩⟩ k4
end
structure Cov (B:Heap) (fs ex:List Addr) (H₀:Hp) (h₀:Heap) (H:Hp) (e:Addr):Prop where
 trk:∀ b,H b ≠ none → b ≠ e → ∃ o,B.get? b = some o
 old:∀ b o,h₀.get? b = some o → H₀ b = none → b ∉ fs → b ∉ ex → B.get? b = some o
 there:∀ b o,h₀.get? b = some o → b ∉ fs → b ∉ ex → ∃ o',B.get? b = some o'
section
variable {B h h' h₀:Heap} {fs ex:List Addr} {H H₀:Hp} {e C:Addr} {P:Program} {w:World}
theorem Cov.hok (c:Cov B fs ex H₀ h₀ H e) (ok:HOk P w H h) (he:H e = some (exH e C)) (s1:B.StaysIn h) (s2:B.StaysIn h') (x:ExO e C h'):HOk P w H h':=fun b u q=>by
 by_cases hb:b = e
 ·subst hb; rw [he] at q; cases q; exact Ziq x
 ·refine (ok b u q).stay (fun d v hd z=>?_) (fun _ z=>z) fun _ _ z=>z
  have hd':H d ≠ none ∧ d ≠ e:=by
   rcases hd with rfl | hd
   ·exact ⟨by rw [q]; simp,hb⟩
   ·exact ⟨by rw [hd]; simp,by rintro rfl; rw [he] at hd; cases hd⟩
  obtain ⟨o,ho⟩:=c.trk d hd'.1 hd'.2
  have:=(s1 d o ho).symm.trans z
  cases this
  exact s2 d _ ho
theorem Cov.un (c:Cov B fs ex H₀ h₀ H e) (u:Un fs ex H₀ H h₀ h) (s2:B.StaysIn h') (sl:h.UpToSlots h') (nf:∀ b ∈ fs,H₀ b = none ∧ ∀ o,h₀.get? b = some o → ∀ vs,o.data ≠ .fields vs):Un fs ex H₀ H h₀ h' where
 keep:=fun b o q n hb hx=>s2 b o (c.old b o q n hb hx)
 slot:=fun b o q n hb hx=>by
  obtain ⟨s,e1⟩:=u.slot b o q n hb hx
  obtain ⟨s',e2⟩:=sl b _ e1 ((nf b hb).2 o q)
  exact ⟨s',e2⟩
 free:=u.free
 there:=fun b o q hx=>by
  by_cases hb:b ∈ fs
  ·obtain ⟨s,e1⟩:=u.slot b o q (nf b hb).1 hb hx
   obtain ⟨s',e2⟩:=sl b _ e1 ((nf b hb).2 o q)
   exact ⟨_,e2⟩
  ·exact let ⟨o',z⟩:=c.there b o q hb hx; ⟨o',s2 b o' z⟩
 tups:=u.tups
 frzs:=u.frzs
 tbls:=u.tbls
end
noncomputable def CXr (P:Program) (w:World):CXT:=fun outer H s E ev s'=>∃ e C H' B,ev = .ref e ∧ s'.os = s.os ∧ AllBare s'.gens ∧ Un (frs outer) [] H H' s.heap s'.heap ∧ HOk P w H' s'.heap ∧ H' e = some (exH e C) ∧
 Zdb B outer e C s'.heap ∧ Cov B (frs outer) [] H s.heap H' e ∧ E (.ref C) (some e) H'
noncomputable def ZiG (X:Cx) (e C:Addr) (H':Hp) (s':Shared):Prop:=H' e = some (exH e C) ∧ ∃ B,Zdb B X.stack e C s'.heap ∧ Cov B X.fs X.ex X.H₀ X.s₀.heap H' e ∧ ∀ p ∈ X.pn,B.get? p.1 = some p.2
noncomputable def XW (X:Cx) (σ:St) (e C:Addr) (H':Hp):Prop:=∀ pins s',Inv X pins σ H' s' → ZiG X e C H' s' → X.xe (.ref e) s'
noncomputable def EX (X:Cx) (σ:St):XK:=fun cv oe H'=>∀ e C,cv = .ref C → oe = some e → XW X σ e C H'
section
variable {X:Cx} {pins:List (Addr × Obj)} {σ:St} {H:Hp} {s s':Shared}
theorem Zc4 (I:Inv X pins σ H s) {b:Addr} {o:Obj} (q:X.s₀.heap.get? b = some o) (hb:b ∉ X.fs):b ∉ frs X.stack:=fun z=>by
 rcases List.mem_cons.mp (I.stkSub b z) with e | e
 ·exact absurd (Nat.lt_of_lt_of_le (Heap.lt_size q) I.ok.above) (by rw [e]; exact Nat.lt_irrefl _)
 ·exact hb e
theorem ZhO (I:Inv X pins σ H s):∀ b ∈ X.fs,X.H₀ b = none ∧ ∀ o,X.s₀.heap.get? b = some o → ∀ vs,o.data ≠ .fields vs:=fun b hb=>⟨I.ok.frf b hb,fun o q=>by
 obtain ⟨_,o',ho,hd⟩:=I.ok.funs.mem hb
 rw [ho] at q; cases q; exact hd⟩
theorem Znm (I:Inv X pins σ H s) {E:XK} {ev:Value} (h:CXr X.prog X.w X.stack H s E ev s'):∃ e C H',ev = .ref e ∧ Inv X pins σ H' s' ∧ ZiG X e C H' s' ∧ E (.ref C) (some e) H':=by
 obtain ⟨e,C,H',B,rfl,os,bare,un,hok,he,fl,cv,hE⟩:=h
 refine ⟨e,C,H',rfl,I.call' os un hok bare (fun b z=>nomatch z),⟨he,B,fl,⟨cv.trk,fun b o q n hb hx=>?_,fun b o q hb hx=>?_⟩,fun p hp=>?_⟩,hE⟩
 ·exact cv.old b o (I.base.keep b o q n hb hx) (I.base.free b o q n hx) (Zc4 I q hb) (fun z=>nomatch z)
 ·obtain ⟨o1,q1⟩:=I.base.there b o q hx
  exact cv.there b o1 q1 (Zc4 I q hb) (fun z=>nomatch z)
 ·obtain ⟨e,n,ne,nf,_⟩:=I.pin p (List.mem_append_left _ hp)
  exact cv.old p.1 p.2 e n (fun z=>(List.mem_cons.mp (I.stkSub p.1 z)).elim ne nf) (fun z=>nomatch z)
theorem Zka (I:Inv X pins σ H s) {h':Heap} {e C:Addr} {vs:List Value} (m:Heap.MadeExcOf s.heap h' e (.ref C) vs):
  H e = none ∧ Inv X pins σ (upd H e (exH e C)) { s with heap:=h' } ∧ ZiG X e C (upd H e (exH e C)) { s with heap:=h' }:=by
 have hn:H e = none:=by
  cases q:H e with
  | none=>rfl
  | some u=>
   obtain ⟨o,ho⟩:=ZdS (I.hok e u q)
   rw [m.new] at ho; cases ho
 obtain ⟨t,ht,_,_⟩:=m.there
 have xo:ExO e C h':=⟨_,_,ht,rfl,rfl⟩
 have ne:∀ b o,s.heap.get? b = some o → b ≠ e:=fun b o q z=>by subst z; rw [m.new] at q; cases q
 have un:Un X.fs [] H (upd H e (exH e C)) s.heap h':=
  ⟨fun b u q _ _ _=>m.keeps b u q,
   fun b u q _ _ _=>⟨u.slots,m.keeps b u q⟩,
   fun b u q n _=>by rw [Zan (ne b u q)]; exact n,
   fun b u q _=>⟨u,m.keeps b u q⟩,
   fun b xs q=>by rw [Zan (ZaR q hn)]; exact q,
   fun b u xs q=>by rw [Zan (ZaR q hn)]; exact q,
   fun b ps q=>⟨#[],by rw [Zan (ZaR q hn),q]; simp⟩⟩
 have hok:HOk X.prog X.w (upd H e (exH e C)) h':=fun b u q=>by
  by_cases hb:b = e
  ·subst hb; rw [ZaQ] at q; cases q; exact Ziq xo
  ·rw [Zan hb] at q
   exact (I.hok b u q).stay (fun c v _ z=>m.keeps c v z) (fun c z=>by rw [Zan (ZaR z hn)]; exact z) fun c xs z=>by rw [Zan (ZaR z hn)]; exact z
 refine ⟨hn,I.un (t':=s.toks) un hok,ZaQ,PySem.W.hideAll s.heap (frs X.stack),⟨.ref t,.inr ⟨fun b o q=>m.keeps b o (PySem.W.of_hideAll _ q),?_,?_,_,_,ht,rfl,rfl,rfl,rfl⟩⟩,⟨fun b hb hne=>?_,fun b o q n hb hx=>?_,fun b o q hb hx=>?_⟩,fun p hp=>?_⟩
 ·cases q:(PySem.W.hideAll s.heap (frs X.stack)).get? e with
  | none=>rfl
  | some o=>have:=PySem.W.of_hideAll _ q; rw [m.new] at this; cases this
 ·exact (PySem.W.funFrames_hide I.stack fun env he a ha=>List.mem_filterMap.mpr ⟨env,he,ha⟩).of_keeps fun b o hb _=>⟨o,m.keeps b o hb,rfl⟩
 ·rw [Zan hne] at hb
  obtain ⟨u,q⟩:=Option.ne_none_iff_exists'.mp hb
  obtain ⟨o,ho⟩:=ZdS (I.hok b u q)
  exact ⟨o,PySem.W.hideAll_get _ ho fun z=>hb (I.stkFree b z)⟩
 ·exact PySem.W.hideAll_get _ (I.base.keep b o q n hb hx) (Zc4 I q hb)
 ·obtain ⟨o1,q1⟩:=I.base.there b o q hx
  exact ⟨o1,PySem.W.hideAll_get _ q1 (Zc4 I q hb)⟩
 ·obtain ⟨e,n,ne,nf,_⟩:=I.pin p (List.mem_append_left _ hp)
  exact PySem.W.hideAll_get _ e fun z=>(List.mem_cons.mp (I.stkSub p.1 z)).elim ne nf
end
noncomputable def ZfM (K:PySem.W.Frag) (H:Hp) (ι:List Addr) (Q:VK) (E:XK) (r:R3 D):Prop:=match r with
 | .ok d M'=>∀ v H' ι',Ext K H ι H' ι' → Zw K H' ι' M' → Rep K H' ι' d v → Q v H'
 | .exc x M'=>∀ e C H' ι',Ext K H ι H' ι' → Zw K H' ι' M' → Rep K H' ι' x.arg (.ref e) → ClsAt K x.cls C → E (.ref C) (some e) H'
 | .bad=>False
theorem ZfM.up {K:PySem.W.Frag} {H H1:Hp} {ι ι1:List Addr} {Q:VK} {E:XK} {r:R3 D} (e:Ext K H ι H1 ι1) (h:ZfM K H ι Q E r):ZfM K H1 ι1 Q E r:=by
 cases r with
 | ok d M=>exact fun v H' ι' e' S r=>h v H' ι' (e.trans e') S r
 | exc x M=>exact fun a C H' ι' e' S r=>h a C H' ι' (e.trans e') S r
 | bad=>exact h
theorem Zu.x {K:PySem.W.Frag} {H:Hp} {ι:List Addr} {Q:VK} {E:XK} {r:R3 D} (h:Zu K H ι Q r):ZfM K H ι Q E r:=by
 cases r with
 | ok d M=>exact h
 | exc x M=>exact h.elim
 | bad=>exact h
noncomputable def Zkm (K:PySem.W.Frag) (n:Nat) (F:F3):Sp:=fun vs H Q E=>∃ ι M ds,Zw K H ι M ∧ Zk K H ι ds vs ∧ ds.length = n ∧ ZfM K H ι Q E (F ds M)
noncomputable def ZnR (X:Cx) (f:E3):TE:=fun σ H Q=>∃ ι M env,Zw X.K H ι M ∧ ZaU X.K H ι env σ ∧ ZfM X.K H ι Q (EX X σ) (f env M)
noncomputable def Zd7 (X:Cx) (any:Bool) (σ:St) (H:Hp) (ι:List Addr) (E:Ends) (r:O3):Prop:=match r with
 | .nx env' M'=>∀ σ' H' ι',Ext X.K H ι H' ι' → Zw X.K H' ι' M' → ZaU X.K H' ι' env' σ' → E.nx σ' H'
 | .bk env' M'=>∀ σ' H' ι',Ext X.K H ι H' ι' → Zw X.K H' ι' M' → ZaU X.K H' ι' env' σ' → E.bk σ' H'
 | .ct env' M'=>∀ σ' H' ι',Ext X.K H ι H' ι' → Zw X.K H' ι' M' → ZaU X.K H' ι' env' σ' → E.ct σ' H'
 | .rt d M'=>∀ v H' ι',Ext X.K H ι H' ι' → Zw X.K H' ι' M' → Rep X.K H' ι' d v → E.rt v H'
 | .exc x M'=>∀ σ' e C H' ι',(any = false → σ' = σ) → Ext X.K H ι H' ι' → Zw X.K H' ι' M' → Rep X.K H' ι' x.arg (.ref e) → ClsAt X.K x.cls C → XW X σ' e C H'
 | .bad=>False
noncomputable def Znq (X:Cx) (any:Bool) (f:S3):TS:=fun E σ H=>∃ ι M env,Zw X.K H ι M ∧ ZaU X.K H ι env σ ∧ Zd7 X any σ H ι E (f env M)
noncomputable def C3X (X:Cx) (e:Expr) (f:E3):Prop:=PE X e (ZnR X f)
noncomputable def CSX (X:Cx) (any:Bool) (st:Stmt) (f:S3):Prop:=PS X st (Znq X any f)
noncomputable def Zfw (X:Cx) (any:Bool) (st:List Stmt) (f:S3):Prop:=PSs X st (Znq X any f)
theorem Zd7.up {X:Cx} {any:Bool} {σ σ1:St} {H H1:Hp} {ι ι1:List Addr} {Q:Ends} {r:O3} (e:Ext X.K H ι H1 ι1) (hs:any = false → σ1 = σ) (h:Zd7 X any σ H ι Q r):Zd7 X any σ1 H1 ι1 Q r:=by
 cases r with
 | nx d M=>exact fun v H' ι' e' S r=>h v H' ι' (e.trans e') S r
 | bk d M=>exact fun v H' ι' e' S r=>h v H' ι' (e.trans e') S r
 | ct d M=>exact fun v H' ι' e' S r=>h v H' ι' (e.trans e') S r
 | rt d M=>exact fun v H' ι' e' S r=>h v H' ι' (e.trans e') S r
 | exc x M=>exact fun σ' a C H' ι' z e' S r=>h σ' a C H' ι' (fun q=>(z q).trans (hs q)) (e.trans e') S r
 | bad=>exact h
theorem ZhW {f:S3} {X:Cx} {any:Bool} {env:Zz} {M:Store} {σ:St} {H:Hp} {ι:List Addr} {E:Ends} (h:Zd7 X any σ H ι E (sNo f env M)):ZeU X.K H ι E (f env M):=by
 unfold sNo at h
 cases q:f env M with
 | exc x M1=>rw [q] at h; exact h.elim
 | bad=>rw [q] at h; exact h.elim
 | nx e M1=>rw [q] at h; exact h
 | rt e M1=>rw [q] at h; exact h
 | bk e M1=>rw [q] at h; exact h
 | ct e M1=>rw [q] at h; exact h
section
variable {X:Cx} {any:Bool} {st:Stmt} {sts:List Stmt} {e c1:Expr} {f:E3} {u w:S3} {pos:Pos}
theorem ZiJ (h:CS X.nox st u):CSX X any st (sNo u):=fun pins s σ H D I z=>by
 obtain ⟨ι,M,env,S,E,hf⟩:=z
 exact wpAny_mono (h pins s σ H D (I.wish _) ⟨ι,M,env,S,E,ZhW (X:=X) hf⟩) (fun _ _ q=>q.unwish) fun _ _ z=>False.elim z
theorem Zjs (h:CSs X.nox sts u):Zfw X any sts (sNo u):=fun pins s σ H D I z=>by
 obtain ⟨ι,M,env,S,E,hf⟩:=z
 exact wpAny_mono (h pins s σ H D (I.wish _) ⟨ι,M,env,S,E,ZhW (X:=X) hf⟩) (fun _ _ q=>q.unwish) fun _ _ z=>False.elim z
theorem ZeF (h:CSX X any st u):Zfw X any [st] u:=Zg3 h
theorem Zfc (h1:CSX X true st u) (h2:Zfw X true sts w):Zfw X true (st :: sts) (Zr u w):=(ZfZ h1 h2).imp fun D σ H zz1=>by
 obtain ⟨ι,M,env,S,E,h⟩:=zz1
 refine ⟨ι,M,env,S,E,?_⟩
 unfold Zr at h
 cases q:u env M with
 | nx e M1=>rw [q] at h; exact fun σ' H' ι' x S' E'=>⟨ι',M1,e,S',E',Zd7.up x (fun z=>nomatch z) h⟩
 | rt e M1=>rw [q] at h; exact h
 | bk e M1=>rw [q] at h; exact h
 | ct e M1=>rw [q] at h; exact h
 | exc x M1=>rw [q] at h; exact h
 | bad=>rw [q] at h; exact h
theorem Zk9 {x y:List Stmt} (hc:CT X.nox c1 f) (ha:Zfw X any x u) (hb:Zfw X any y w):CSX X any (.If c1 x y pos) (sIf (eNo f) u w):=(ZkC (PT.nox hc) ha hb).imp fun D σ H zz1=>by
 obtain ⟨ι,M,env,S,E,h⟩:=zz1
 refine ⟨ι,M,env,S,E,?_⟩
 unfold sIf eNo at h
 cases q:f env M with
 | ok d M1=>
  rw [q] at h
  cases d with
  | bl k=>
   intro H1 ι1 x1 S1
   cases k with
   | true=>rw [if_pos rfl]; exact ⟨ι1,M1,env,S1,E.mono x1,Zd7.up x1 (fun _=>rfl) h⟩
   | false=>rw [if_neg (by decide)]; exact ⟨ι1,M1,env,S1,E.mono x1,Zd7.up x1 (fun _=>rfl) h⟩
  | _=>exact h.elim
 | exc x M1=>rw [q] at h; exact h.elim
 | bad=>rw [q] at h; exact h.elim
theorem Zja (h:C3X X e f) (hs:swapsWith e none pos.line X.env = pure false:=by rfl):CSX X any (.Expr e pos) (ZaC f):=(Zhg h hs).imp fun D σ H zz1=>by
 obtain ⟨ι,M,env,S,E,h⟩:=zz1
 refine ⟨ι,M,env,S,E,?_⟩
 unfold ZaC at h
 cases q:f env M with
 | ok d M1=>rw [q] at h; exact fun v H1 ι1 x1 S1 r1=>h σ H1 ι1 x1 S1 (E.mono x1)
 | exc x M1=>rw [q] at h; exact fun a C H' ι' x1 S1 r1 c1 a' C' e1 e2=>by cases e1; cases e2; exact h σ a C H' ι' (fun _=>rfl) x1 S1 r1 c1
 | bad=>rw [q] at h; exact h.elim
end
section
variable {P:Program} {w:World} {K:PySem.W.Frag} {mg:Str → Option Value} {base:Heap}
theorem Zij {N:List Str} {qual:Str} {scope:Scope} {f:Addr} {cd:Value} {A:Around} {outer:List Env} {s:Shared} {H:Hp} {E:XK} {σ:St} {e C:Addr} {H':Hp} (hE:E (.ref C) (some e) H'):
  XW (ZdV (CXr P w) P w K mg base N qual scope f cd A outer s H E) σ e C H':=fun pins s' I x=>by
 obtain ⟨he,B,fl,cv,_⟩:=x
 show wpAny _ _ (leaving _ (.ref e)) _ _ s'
 refine Zjj I.ok.frames rfl fl fun h' fl' sl=>?_
 exact ⟨e,C,H',B,rfl,I.os,I.bare,cv.un I.base fl'.stays sl (ZhO I),cv.hok I.hok he fl.stays fl'.stays fl'.exo,he,fl',cv,hE⟩
theorem Zf9 {H H':Hp} {ι ι':List Addr} {M M':Store} {Q:VK} {E:XK} {d:D} {v:V} (S:Zw K H ι M) (x:Ext K H ι H' ι') (S':Zw K H' ι' M') (r:Rep K H' ι' d v) (h:ZfM K H ι Q E (ZbQ M d M')):Q v H':=
 ZfA S x S' r (by unfold ZbQ at h ⊢; split at h <;> (rename_i c; first | rw [if_pos c] | rw [if_neg c]) <;> exact h)
theorem Zn9 {x qual:Str} {st:Stmt} {f:Addr} {fd:FuncData} {N ps:List Str} {k:Nat} {body:S3} (F:Fun K x qual st f fd) (S:Zaz N ps (Zg st))
  (hb:∀ (cdv:Value) (A:Around) (outer:List Env) (s:Shared) (H:Hp) (E:XK),ZaV k (A.deeper (envOfC qual (Zg st) s.heap.objs.size f cdv)) → Zfw (ZdV (CXr P w) P w K mg base N qual (Zg st) f cdv A outer s H E) true (Zai st) body):
  ZbR P w K mg base (CXr P w) (k + 1) f fd ps (Zkm K ps.length (mkF ps.length N.length body)):=by
 obtain ⟨oc,od,dV,kV,doc,pm,an,cdv,ct,osl,rfl,lk,hcd⟩:=F.ex
 refine ZkB lk hcd S (fun vs H Q E ⟨ι,M,ds,_,r,l,_⟩=>by rw [r.length,l]) fun A outer s H vs Q E hr zz1=>?_
 obtain ⟨ι,M,ds,SR,r,l,h⟩:=zz1
 refine ⟨_,hb cdv A outer s H E hr,ι,M,ds.map some ++ List.replicate (N.length - ps.length) none,SR,?_,?_⟩
 ·have e:L2.start N vs = vs.map some ++ List.replicate (N.length - ps.length) none:=by unfold L2.start; rw [r.length,l]
  rw [e]
  exact ZaU.start r _
 ·unfold mkF at h
  rw [if_pos l] at h
  cases q:body (ds.map some ++ List.replicate (N.length - ps.length) none) M with
  | nx env' M'=>rw [q] at h; exact fun σ' H' ι' x S' E'=>Zf9 SR x S' Rep.non h
  | rt d M'=>rw [q] at h; exact fun v H' ι' x S' r'=>Zf9 SR x S' r' h
  | bk _ _=>rw [q] at h; exact h.elim
  | ct _ _=>rw [q] at h; exact h.elim
  | exc _ _=>rw [q] at h; exact fun σ' a C H' ι' _ x S' r' c'=>Zij (h a C H' ι' x S' r' c')
  | bad=>rw [q] at h; exact h.elim
end
end L3
namespace L3
open PySem PySem.Spec PyProof.Rows L2
section
variable {P:Program} {w:World} {K:PySem.W.Frag} {mg:Str → Option Value} {base:Heap}
theorem Zg4 {k n:Nat} {f:Addr} {fd:FuncData} {ps:List Str} {F:F3} (G:ZbR P w K mg base (CXr P w) k f fd ps (Zkm K n F)):ZbR P w K mg base CX0 k f fd ps (sp3 K n F):=
 ⟨fun vs H Q E z=>let ⟨ι,M,ds,S,r,l,h⟩:=z; G.len vs H Q E0 ⟨ι,M,ds,S,r,l,h.x⟩,fun A outer s H args us vs Q E hr he hb hv z=>let ⟨ι,M,ds,S,r,l,h⟩:=z; codeAny_mono (G.run A outer s H args us vs Q E0 hr he hb hv ⟨ι,M,ds,S,r,l,h.x⟩) fun r s' z=>by
  cases r with
  | error e=>obtain ⟨_,_,_,_,_,_,_,_,_,_,_,_,z⟩:=z; exact z.elim
  | ok fl=>cases fl <;> exact z⟩
noncomputable def FnX (P:Program) (w:World) (K:PySem.W.Frag) (mg:Str → Option Value) (base:Heap) (k:Nat) (x:Str) (ps:List Str) (F:F3):Prop:=
 (∀ ds M,ds.length ≠ ps.length → F ds M = .bad) ∧ ∃ f fd,mg x = some (.ref f) ∧ PySem.W.keepIn K (.ref f) = true ∧ Binds K fd ps [] ∧ ZbR P w K mg base (CXr P w) k f fd ps (Zkm K ps.length F)
noncomputable def Zgd (P:Program) (w:World) (K:PySem.W.Frag) (mg:Str → Option Value) (base:Heap) (k:Nat) (C:Addr) (m:Str) (ps:List Str) (F:F3):Prop:=
 (∀ ds M,ds.length ≠ ps.length → F ds M = .bad) ∧ ∃ f fd,Meth K C m f ∧ Binds K fd ps [] ∧ ZbR P w K mg base (CXr P w) k f fd ps (Zkm K ps.length F)
theorem FnX.fn {k:Nat} {x:Str} {ps:List Str} {F:F3} (h:FnX P w K mg base k x ps F):Fn3 P w K mg base k x ps F:=let ⟨n,f,fd,a,b,c,d⟩:=h; ⟨n,f,fd,a,b,c,Zg4 d⟩
theorem Zgd.mth {k:Nat} {C:Addr} {x:Str} {ps:List Str} {F:F3} (h:Zgd P w K mg base k C x ps F):Zdl P w K mg base k C x ps F:=let ⟨n,f,fd,a,b,d⟩:=h; ⟨n,f,fd,a,b,Zg4 d⟩
theorem Zgd.of {C:Addr} {m qual:Str} {st:Stmt} {N ps:List Str} {k:Nat} {body:S3} (d:ZdF K C m qual st ps) (S:Zaz N ps (Zg st))
  (hb:∀ (f:Addr) (cdv:Value) (A:Around) (outer:List Env) (s:Shared) (H:Hp) (E:XK),ZaV k (A.deeper (envOfC qual (Zg st) s.heap.objs.size f cdv)) → Zfw (ZdV (CXr P w) P w K mg base N qual (Zg st) f cdv A outer s H E) true (Zai st) body):
  Zgd P w K mg base (k + 1) C m ps (mkF ps.length N.length body):=by
 obtain ⟨f,fd,F,mt,bi⟩:=d
 exact ⟨fun ds M h=>if_neg h,f,fd,mt,bi,Zn9 F S (hb f)⟩
end
section
variable {X:Cx} {o e:Expr} {es:List Expr} {f:E3} {gl:EL3} {c m:List Nat} {C:Addr} {fn x:Str} {pos pos' apos p:Pos} {k:Nat} {ps:List Str} {F:F3}
theorem Zm0 {fa:Addr} {fd:FuncData} {sp:Sp} {pins:List (Addr × Obj)} {σ:St} {H:Hp} {s:Shared} {Q:VK} {us:List Value} {vs:List V} (G:ZbR X.prog X.w X.K X.mg X.base (CXr X.prog X.w) k fa fd ps sp) (hr:ZaV k X.A) (hb:Binds X.K fd ps [])
  (I:Inv X pins σ H s) (r:Vals vs us) (h:sp vs H Q (EX X σ)):wpAny (model X.prog X.w) X.A (call (.ref fa) us) (EP X pins σ Q) X.xe s:=by
 have hl:(us ++ []).length = ps.length:=by rw [List.append_nil,← r.length]; exact G.len _ _ _ _ h
 have hb':=hb s us I.kIn hl
 rw [List.append_nil] at hb'
 refine wpAny_call (codeAny_mono (G.run X.A X.stack s H ⟨us,[]⟩ us vs Q (EX X σ) hr I.env0 hb' r h) fun r s' hq=>?_)
 cases r with
 | error e=>
  obtain ⟨e,C,H',rfl,I',x,hE⟩:=Znm I hq
  exact hE e C rfl rfl pins s' I' x
 | ok fl=>
  cases fl with
  | ret u=>exact I.after hq
  | next=>exact False.elim hq
  | brk=>exact False.elim hq
  | cont=>exact False.elim hq
theorem Zh3 {es:List Expr} {pins:List (Addr × Obj)} {σ:St} {H:Hp} {s:Shared} {ι:List Addr} {M M1:Store} {env:Zz} {ds:List D} {R:List Value → Shared → Prop} (ha:CA X.nox es gl) (I:Inv X pins σ H s) (S:Zw X.K H ι M) (E:ZaU X.K H ι env σ) (q:gl env M = .ok ds M1)
  (h:∀ us s1 vs H1 ι1,Inv X pins σ H1 s1 → Vals vs us → Ext X.K H ι H1 ι1 → Zw X.K H1 ι1 M1 → Zk X.K H1 ι1 ds vs → R us s1):wpAny (model X.prog X.w) X.A (spliced (backTo pos (starEach es X.env))) R X.xe s:=by
 refine wpAny_mono (ha pos pins s σ H (fun vs H1=>∃ ι1,Ext X.K H ι H1 ι1 ∧ Zw X.K H1 ι1 M1 ∧ Zk X.K H1 ι1 ds vs) (I.wish _) ⟨ι,M,env,S,E,?_⟩) (fun us s1 z=>?_) fun _ _ z=>False.elim z
 ·rw [q]; exact fun vs H1 ι1 x1 S1 r1=>⟨ι1,x1,S1,r1⟩
 ·obtain ⟨vs,H1,I1,r,ι1,x1,S1,r1⟩:=z
  exact h us s1 vs H1 ι1 I1.unwish r x1 S1 r1
theorem Zjm {pl:Sem Bool} (kc:Zc7 X.K c C) (G:Zgd X.prog X.w X.K X.mg X.base k C fn ps F) (hr:ZaV k X.A) (ho:C3 X.nox o f) (ha:CA X.nox (e :: es) gl) (hf:fn = nm m:=by decide +kernel)
  (hst:starEach (e :: es) X.env = (false,eval e X.env) :: starEach es X.env:=by rfl) (hpl:(backTo pos (starEach es X.env)).any (·.1) = false:=by rfl)
  (ht:eval (.Call (.Attribute o fn apos) (e :: es) [] pos) X.env = (do
   let ov ← eval o X.env
   standAt apos.atName
   let (f,first) ← holding [ov] (getMethod ov fn pl)
   callWith pos f first (backTo pos (starEach (e :: es) X.env)) (backToKw pos (keywordEach [] X.env))):=by rfl):C3X X (.Call (.Attribute o fn apos) (e :: es) [] pos) (ZaX c m F (eNo f) (Ziu gl)):=by
 subst hf
 obtain ⟨hn,fa,fd,mt,bi,ok⟩:=G
 intro pins s σ H Q I h
 obtain ⟨ι,M,env,S,E,h⟩:=h
 refine PySem.W.methodCall_KW (pl:=pl) ?_ ht
 unfold ZaX eNo Ziu at h
 cases q:f env M with
 | exc _ _=>rw [q] at h; exact h.elim
 | bad=>rw [q] at h; exact h.elim
 | ok a M1=>
  rw [q] at h
  refine wpAny_mono (ho pins s σ H (fun v H1=>∃ ι1,Ext X.K H ι H1 ι1 ∧ Zw X.K H1 ι1 M1 ∧ Rep X.K H1 ι1 a v) (I.wish _) ⟨ι,M,env,S,E,by rw [q]; exact fun v H1 ι1 x1 S1 r1=>⟨ι1,x1,S1,r1⟩⟩) (fun u s1 z=>?_) fun _ _ z=>False.elim z
  obtain ⟨v,H1,I1,rv,ι1,x1,S1,r1⟩:=z
  have I1:=I1.unwish
  simp only [R3.bind] at h
  split at h
  ·rename_i hi
   obtain ⟨n,fs,rfl,hm,hl⟩:=Zev (ps:=ps) (F:=F) (n:=0) hi
   obtain ⟨pa,hp,rfl⟩:=r1.ref_inv
   obtain ⟨dx,gs,ea,fr⟩:=ZdA kc S1 hp hm
   obtain rfl:u = Value.ref pa:=rv
   refine Zdk I1 ea kc.cls mt ((fr.look (f:=m)).1 hl) ?_
   cases q2:gl env M1 with
   | exc _ _=>rw [q2] at h; exact h.elim
   | bad=>rw [q2] at h; exact h.elim
   | ok ds M2=>
    rw [q2] at h
    have h:ZfM X.K H ι Q (EX X σ) (F (.ref n :: ds) M2):=h
    have hl:(D.ref n :: ds).length = ps.length:=by
     refine Decidable.byContradiction fun z=>?_
     rw [hn _ M2 z] at h
     exact h.elim
    exact PySem.W.callWith_K (first:=[.ref pa]) (h₀:=X.base) I.ok.mod.kin mt.kp (Zh3 ha I1 S1 (E.mono x1) q2 fun us s2 vs H2 ι2 I2 r x2 S2 r2=>
     ⟨I2.kIn,Zm0 (us:=.ref pa :: us) (vs:=.ref pa :: vs) ok hr bi I2 (.cons rfl r) ⟨ι2,M2,.ref n :: ds,S2,Zk.cons (Rep.ref (x2.pre _ _ hp)) r2,hl,h.up (x1.trans x2)⟩⟩) hst hpl
  ·exact h.elim
end
noncomputable abbrev bmV:List Value:=[.type "ValueError",.type "Exception",.type "BaseException",.type "object"]
noncomputable def Zgc (K:PySem.W.Frag) (c:List Nat) (C:Addr):Prop:=ClsAt K c C ∧ ∃ (na q:Str) (N:Addr) (bs bm:List Value) (hdct:Bool) (sn:List Str) (sub:List Value) (ab:Bool) (col:Option Bool) (dd:Option Addr) (k0 k1 k2 k3 k5:Option Value),
 K.lookup C = some (excClassObj na q C N bs bm hdct sn sub ab col dd k0 k1 k2 k3 k5 "ValueError.__new__") ∧ (∀ h:Heap,K.In h → ∃ mN,h.Ns N mN ∧ mN "__init__" = none) ∧ ∀ h:Heap,K.In h → OwnTail h bmV bm
theorem Zho {X:Cx} {any:Bool} {c:List Nat} {C:Addr} {x:Str} {np cpos pos:Pos} {a:Expr} {as:List Expr} {gl:EL3} (O:Zgc X.K c C) (hm:X.mg x = some (.ref C)) (ha:CA X.nox (a :: as) gl) (hc:X.calm = true:=by rfl) (hg:Gl X x:=by rfl) (hdb:(x == ("__debug__":Str)) = false:=by decide)
  (he:starEach (a :: as) X.env = (false,eval a X.env) :: starEach as X.env:=by rfl) (hpl:(backTo cpos (starEach as X.env)).any (·.1) = false:=by rfl):CSX X any (.Raise (some (.Call (.Name x np) (a :: as) [] cpos)) none pos) (ZeA c gl):=by
 obtain ⟨at_,na,q,N,bs,bm,hdct,sn,sub,ab,col,dd,k0,k1,k2,k3,k5,lk,hN,hT⟩:=O
 intro pins s σ H D I z
 obtain ⟨ι,M,env,S,E,h⟩:=z
 unfold ZeA at h
 cases qg:gl env M with
 | exc _ _=>rw [qg] at h; exact h.elim
 | bad=>rw [qg] at h; exact h.elim
 | ok ds M1=>
  rw [qg] at h
  match ds,h,qg with
  | [],h,_=>exact h.elim
  | _ :: _ :: _,h,_=>exact h.elim
  | [d],h,qg=>
   obtain ⟨mN,hns,hni⟩:=hN X.base I.ok.mod.kin
   refine wpAny_Raise_call_subU (C:=C) (nm:=na) (q:=q) (N:=N) (bs:=bs) (bm:=bm) (hdct:=hdct) (sn:=sn) (sub:=sub) (ab:=ab) (col:=col) (dd:=dd) (k0:=k0) (k1:=k1) (k2:=k2) (k3:=k3) (k5:=k5)
    PySem.F.excBase_ValueError (bmB:=bmV) (by decide) PySem.F.excBase_ValueError (mN:=mN) ((hT X.base I.ok.mod.kin).hasType (by decide)) (I.ok.hd hc) (by rw [he]; show (false || (backTo cpos (starEach as X.env)).any (·.1)) = false; rw [hpl]; rfl) hni (Zdz I hg hm ⟨rfl,?_⟩ hdb)
   have key:=Zh3 (pos:=cpos) (R:=fun us s2=>us.length ≤ sizeLine ∧ s2.heap.get? C = some (excClassObj na q C N bs bm hdct sn sub ab col dd k0 k1 k2 k3 k5 "ValueError.__new__") ∧ s2.heap.Ns N mN ∧ OwnTail s2.heap bmV bm ∧ ∀ h' e,Heap.MadeExcOf s2.heap h' e (.ref C) us → X.xe (.ref e) { s2 with heap:=h' }) ha I S E qg (fun us s1 vs H1 ι1 I1 r x1 S1 r1=>by
    refine ⟨?_,I1.kIn _ _ lk,hns.keeps I1.bk,hT _ I1.kIn,fun h' e mk=>?_⟩
    ·rw [← r.length,r1.length]; exact (by decide:1 ≤ sizeLine)
    ·obtain ⟨hn,I2,xin⟩:=Zka I1 mk
     exact h σ e C _ (ι1 ++ [e]) (fun _=>rfl) (x1.trans (Loose.extA (.inl hn))) (S1.new hn (.inr ⟨C,ZaQ,rfl,at_,rfl⟩)) (Rep.ref (by rw [← S1.len]; simp)) at_ pins _ I2 xin)
   rw [he] at key ⊢
   exact Calls.evalArgs_plain (wpAny_mono key (fun vs s₂ h₂=>⟨rfl,h₂⟩) fun _ _ y=>y)
end L3
namespace L3
open PySem PySem.Spec PyProof.Rows L2
noncomputable abbrev inX (X:Cx) (A':Around) (E':Value → Shared → Prop):Cx:={ X with A:=A',calm:=false,xe:=E' }
noncomputable abbrev inT (X:Cx) (pn':List (Addr × Obj)) (E':Value → Shared → Prop):Cx:={ X with pn:=pn',xe:=E' }
section
variable {X:Cx} {pins:List (Addr × Obj)} {σ:St} {H:Hp} {s:Shared}
theorem ZgU (I:Inv X pins σ H s) (A':Around) (E':Value → Shared → Prop) (hf:A'.frames = X.A.frames):Inv (inX X A' E') pins σ H s:=
 let ok:=I.ok
 ⟨⟨ok.mod,ok.kind,ok.glob,ok.blt,ok.above,ok.inj,ok.has,ok.cab,(fun z=>nomatch z),hf.trans ok.frames,ok.stk,ok.exf,ok.bs,ok.bsz,ok.noex,ok.exfs,ok.funs,ok.frf⟩,I.os,I.bare,I.base,I.loc,I.cell,I.free,I.freeC,I.pin,I.hok,I.len⟩
theorem ZiM {pins':List (Addr × Obj)} {σ':St} {H':Hp} {s':Shared} {A':Around} {E':Value → Shared → Prop} (I:Inv X pins σ H s) (J:Inv (inX X A' E') pins' σ' H' s'):Inv X pins' σ' H' s':=
 ⟨I.ok,J.os,J.bare,J.base,J.loc,J.cell,J.free,J.freeC,J.pin,J.hok,J.len⟩
theorem Zjz (I:Inv X pins σ H s) (E':Value → Shared → Prop):Inv (inT X (X.pn ++ pins) E') [] σ H s:=
 let ok:=I.ok
 ⟨⟨ok.mod,ok.kind,ok.glob,ok.blt,ok.above,ok.inj,ok.has,ok.cab,ok.hd,ok.frames,ok.stk,ok.exf,ok.bs,ok.bsz,ok.noex,ok.exfs,ok.funs,ok.frf⟩,I.os,I.bare,I.base,I.loc,I.cell,I.free,I.freeC,fun p hp=>I.pin p (by simpa using hp),I.hok,I.len⟩
theorem Zc0 {pins':List (Addr × Obj)} {σ':St} {H':Hp} {s':Shared} {E':Value → Shared → Prop} (I:Inv X pins σ H s) (J:Inv (inT X (X.pn ++ pins) E') pins' σ' H' s'):Inv X pins σ' H' s':=
 ⟨I.ok,J.os,J.bare,J.base,J.loc,J.cell,J.free,J.freeC,fun p hp=>J.pin p (List.mem_append_left _ hp),J.hok,J.len⟩
theorem ZjT {D:Ends} {pins':List (Addr × Obj)} {f:Flow} {s':Shared} {E':Value → Shared → Prop} (I:Inv X pins σ H s) (h:SP (inT X (X.pn ++ pins) E') pins' D f s'):SP X pins D f s':=by
 cases f with
 | next=>obtain ⟨σ',H',J,q⟩:=h; exact ⟨σ',H',Zc0 I J,q⟩
 | brk=>obtain ⟨σ',H',J,q⟩:=h; exact ⟨σ',H',Zc0 I J,q⟩
 | cont=>obtain ⟨σ',H',J,q⟩:=h; exact ⟨σ',H',Zc0 I J,q⟩
 | ret u=>obtain ⟨v,σ',H',J,r,q⟩:=h; exact ⟨v,σ',H',Zc0 I J,r,q⟩
theorem ZiD {B h':Heap} {e C:Addr} (I:Inv X pins σ H s) (he:H e = some (exH e C)) (s1:B.StaysIn s.heap) (cv:Cov B X.fs X.ex X.H₀ X.s₀.heap H e) (hp:∀ p ∈ X.pn ++ pins,B.get? p.1 = some p.2) (s2:B.StaysIn h') (sl:s.heap.UpToSlots h') (xo:ExO e C h'):Inv X pins σ H { s with heap:=h' }:=by
 have cellK:∀ c v,s.heap.IsCell c v → h'.IsCell c v:=fun c v z=>by
  obtain ⟨o,ho,hd⟩:=z
  obtain ⟨s3,e3⟩:=sl c o ho fun vs q=>by rw [hd] at q; cases q
  exact ⟨_,e3,hd⟩
 refine ⟨I.ok,I.os,I.bare,cv.un I.base s2 sl (ZhO I),?_,fun x c z=>?_,I.free,I.freeC,fun p hq=>⟨s2 _ _ (hp p hq),(I.pin p hq).2⟩,cv.hok I.hok he s1 s2 xo,I.len⟩
 ·obtain ⟨m,hn,hl⟩:=I.loc
  refine ⟨m,sl.ns hn,fun i x v e1 e2 e3=>?_⟩
  obtain ⟨u,r,l⟩:=hl i x v e1 e2 e3
  refine ⟨u,r,?_⟩
  rcases l with l | ⟨k,c,e,z⟩
  ·exact .inl l
  ·exact .inr ⟨k,c,e,cellK _ _ z⟩
 ·obtain ⟨v,q⟩:=I.cell x c z
  exact ⟨v,cellK _ _ q⟩
theorem ZlR {M:Model} {A:Around} {E:Value → Shared → Prop} {Q:Unit → Shared → Prop} {j:Nat} {n:Str} {pos:Pos} (I:Inv X pins σ H s) (hN:X.N.Nodup) (hj:X.N[j]? = some n) (hl:X.env.scope.names.lookup n = some .local)
  (h:∀ s',Inv X pins (σ.set j none) H s' → Q () s'):wpAny M A (do bindName X.env n .none; unbindBehindTheSuite X.env n pos) Q E s:=by
 have hl':X.env.kindOf n = some .local:=hl
 have hp:(X.env.scope.kind == .class || (X.env.scope.kind == .module && X.env.locals != X.env.globals)) = false:=by rw [I.ok.kind]; rfl
 obtain ⟨m,hn,hv⟩:=id I.loc
 refine wpAny_bind (wpAny_bindName (wpAny_storeName_local hl' hn (fun h₁ hn₁ hs₁=>?_) hp))
 unfold unbindBehindTheSuite unbindName deleteName
 refine wpAny_onRaise (wpAny_bind (wpAny_point (wpAny_bind ?_)))
 simp only [hp,hl']
 rw [if_neg (by decide)]
 refine wpAny_bind (wpAny_nsDel_keeps hn₁ fun h₂ v hn₂ hs₂=>?_)
 simp only [Option.isSome_some,if_true,if_false,Bool.false_eq_true,Bool.not_true]
 refine wpAny_pure (wpAny_point (h _ ?_))
 have sb:=hs₁.trans hs₂
 have ne:∀ b o,X.s₀.heap.get? b = some o → b ≠ X.env.locals:=fun b o q=>Nat.ne_of_lt (Nat.lt_of_lt_of_le (Heap.lt_size q) I.ok.above)
 have nt:∀ b,H b ≠ none → b ≠ X.env.locals:=fun b q z=>q (by rw [z]; exact I.free)
 have cellK:∀ x c,X.env.cells.lookup x = some c → ∀ v,s.heap.IsCell c v → h₂.IsCell c v:=fun x c z v q=>by
  obtain ⟨o,ho,hd⟩:=q
  exact ⟨o,(sb.2 c (I.cne x c z)).trans ho,hd⟩
 refine ⟨I.ok,I.os,I.bare,⟨fun b o q n hb hx=>?_,fun b o q n hb hx=>?_,I.base.free,fun b o q hx=>?_,I.base.tups,I.base.frzs,I.base.tbls⟩,⟨_,hn₂,fun i x v' e1 e2 e3=>?_⟩,fun x c z=>?_,I.free,I.freeC,fun p hp=>?_,fun b u q=>?_,by rw [List.length_set]; exact I.len⟩
 ·exact (sb.2 b (ne b o q)).trans (I.base.keep b o q n hb hx)
 ·obtain ⟨sl,z⟩:=I.base.slot b o q n hb hx
  exact ⟨sl,(sb.2 b (ne b o q)).trans z⟩
 ·obtain ⟨o',z⟩:=I.base.there b o q hx
  exact ⟨o',(sb.2 b (ne b o q)).trans z⟩
 ·have hij:i ≠ j:=fun z=>by
   subst z
   rw [List.getElem?_set_self'] at e2
   cases q:σ[i]? with
   | none=>rw [q] at e2; simp at e2
   | some _=>rw [q] at e2; simp at e2
  rw [List.getElem?_set_ne (Ne.symm hij)] at e2
  obtain ⟨u,r,l⟩:=hv i x v' e1 e2 e3
  have hxn:x ≠ n:=fun z=>hij (ZeN hN e1 (by rw [z]; exact hj))
  refine ⟨u,r,?_⟩
  rcases l with ⟨k,l⟩ | ⟨k,c,e,z⟩
  ·refine .inl ⟨k,?_⟩
   show (if x = n then _ else _) = _
   rw [if_neg hxn]
   show (if x = n then _ else _) = _
   rw [if_neg hxn]
   exact l
  ·exact .inr ⟨k,c,e,cellK x c e _ z⟩
 ·obtain ⟨v,q⟩:=I.cell x c z
  exact ⟨v,cellK x c z v q⟩
 ·obtain ⟨e,n,ne',r⟩:=I.pin p hp
  exact ⟨(sb.2 _ ne').trans e,n,ne',r⟩
 ·refine (I.hok b u q).stay (fun c v hc z=>(sb.2 c (nt c ?_)).trans z) (fun _ z=>z) fun _ _ z=>z
  rcases hc with rfl | hc
  ·rw [q]; simp
  ·rw [hc]; simp
end
theorem ZaU.unset {K:PySem.W.Frag} {H:Hp} {ι:List Addr} {env:Zz} {σ:St} (r:ZaU K H ι env σ) (j:Nat):ZaU K H ι (env.set j none) (σ.set j none):=by
 refine ⟨by simp [r.1],fun i d h=>?_⟩
 by_cases hij:i = j
 ·subst hij
  rw [List.getElem?_set_self'] at h
  cases q:env[i]? with
  | none=>rw [q] at h; simp at h
  | some _=>rw [q] at h; simp at h
 ·rw [List.getElem?_set_ne (Ne.symm hij)] at h
  obtain ⟨w,q,z⟩:=r.2 i d h
  exact ⟨w,by rw [List.getElem?_set_ne (Ne.symm hij)]; exact q,z⟩
theorem Zlf {X:Cx} {x n:Str} {np pos pos2:Pos} {body suite:List Stmt} {b0:Stmt} {cs:List (List Nat)} (j:Nat) {b h:S3} {CE:Addr} (hN:X.N.Nodup) (hm:X.mg x = some (.ref CE)) (hsub:∀ c C,cs.contains c = true → ClsAt X.K c C → PySem.W.exmOne X.K (.ref C) (.ref CE) = some true)
  (hb:∀ pn' E',Zfw (inT X pn' E') false body b) (hs:∀ A' E',CSs (inX X A' E') (b0 :: suite) h) (hst:X.stack = X.env :: X.outer:=by rfl) (hfr:X.env.frame = some X.env.locals:=by rfl) (hj:X.N[j]? = some n:=by rfl) (hl:X.env.scope.names.lookup n = some .local:=by rfl) (hg:Gl X x:=by rfl)
  (hdb:(x == ("__debug__":Str)) = false:=by decide):CS X (.Try body [.ExceptHandler (some (.Name x np)) (some n) (b0 :: suite) pos] [] [] pos2) (ZhR cs j b h):=by
 intro pins s σ H D I z
 obtain ⟨ι,M,env,S,E,hf⟩:=z
 refine wpAny_Try_except (wpAny_mono (hb (X.pn ++ pins) _ [] s σ H D (Zjz I _) ⟨ι,M,env,S,E,?_⟩) (fun f s1 q=>?_) (fun _ _ z=>z))
 rotate_left
 ·have q:=ZjT I q
  cases f with
  | next=>obtain ⟨σ',H',J,q⟩:=q; exact wpAny_execs_nil ⟨σ',H',J,q⟩
  | brk=>exact q
  | cont=>exact q
  | ret u=>exact q
 unfold ZhR at hf
 cases q:b env M with
 | nx e M1=>rw [q] at hf; exact hf
 | rt e M1=>rw [q] at hf; exact hf
 | bk e M1=>rw [q] at hf; exact hf
 | ct e M1=>rw [q] at hf; exact hf
 | bad=>rw [q] at hf; exact hf
 | exc x1 M1=>
  rw [q] at hf
  dsimp only at hf
  have hc:cs.contains x1.cls = true:=Decidable.byContradiction fun z=>by rw [if_neg z] at hf; exact hf
  rw [if_pos hc] at hf
  intro σ' e C H' ι' hσ xt S1 r1 c1 pins' s' J xin
  obtain rfl:=hσ rfl
  obtain ⟨he,B,fl,cv,hpn⟩:=xin
  have I1:Inv X pins σ' H' s':=Zc0 I J
  have fl0:Zdb B (X.env :: X.outer) e C s'.heap:=by rw [← hst]; exact fl
  have hfrm:X.A.frames = some (X.env :: X.outer):=by rw [← hst]; exact I1.ok.frames
  show wpAny (model X.prog X.w) X.A (noteFrame (.ref e) X.env) _ _ s'
  refine Zlv hfrm hfr fl0 fun h₄ a0 held sl4=>?_
  refine wpAny_landsW held fun h₅ fly5 sl5=>?_
  have I5:Inv X pins σ' H' { s' with heap:=h₅ }:=ZiD I1 he fl.stays cv hpn fly5.1 (sl4.trans sl5) (ZdN fly5)
  have I5':=ZgU I5 (X.A.mark (some (.ref e))) (fun _ _=>False) rfl
  refine wpAny_handleBy_cons (codeAny_handlers_test (Zdz I5' hg hm ?_ hdb)) (by intro q; cases q)
  have LT:PySem.W.Looks (model X.prog X.w) h₅ (typeOf (.ref e)) (.ref C):=by
   obtain ⟨o,vs,a,b,_⟩:=ZdN fly5
   exact b ▸ (PySem.W.Looks.ld a).andThen .now
  refine PySem.W.exm_one (K:=X.K) (cls:=.ref C) I5.kIn LT (hsub _ _ hc c1) _ _ _ _ (fun _ _ q=>q) ?_
  refine codeAny_handlers_suite_as ?_
  refine lands_againW fly5 fun h₆ fly6 sl6=>?_
  have I6:Inv X pins σ' H' { s' with heap:=h₆ }:=ZiD (s:={ s' with heap:=h₅ }) I5 he fly5.1 cv hpn fly6.1 sl6 (ZdN fly6)
  have I6':=ZgU I6 (X.A.mark (some (.ref e))) (fun _ _=>False) rfl
  refine Zet (X:=inX X (X.A.mark (some (.ref e))) fun _ _=>False) (v:=.ref e) I6' hN hj (.inl hl) rfl (fun s7 I7=>?_) (.inr hl)
  refine wpAny_mono (hs (X.A.mark (some (.ref e))) (fun _ _=>False) pins s7 (σ'.set j (some (.ref e))) H' { nx:=fun σ2 H2=>D.nx (σ2.set j none) H2,rt:=fun _ _=>False } I7 ⟨ι',M1,env.set j (some x1.arg),S1,(E.mono xt).set j r1,?_⟩) (fun f s8 q=>?_) (fun _ _ z=>False.elim z)
  ·cases qh:h (env.set j (some x1.arg)) M1 with
   | nx e' M2=>rw [qh] at hf; exact fun σ2 H2 ι2 x2 S2 E2=>hf _ H2 ι2 (xt.trans x2) S2 (E2.unset j)
   | rt _ _=>rw [qh] at hf; exact hf.elim
   | bk _ _=>rw [qh] at hf; exact hf.elim
   | ct _ _=>rw [qh] at hf; exact hf.elim
   | exc _ _=>rw [qh] at hf; exact hf.elim
   | bad=>rw [qh] at hf; exact hf.elim
  ·cases f with
   | next=>
    obtain ⟨σ2,H2,I8,q⟩:=q
    exact ZlR (ZiM I I8) hN hj hl fun s9 I9=>⟨σ2.set j none,H2,I9,q⟩
   | brk=>obtain ⟨_,_,_,q⟩:=q; exact q.elim
   | cont=>obtain ⟨_,_,_,q⟩:=q; exact q.elim
   | ret u=>obtain ⟨_,_,_,_,_,q⟩:=q; exact q.elim
end L3
namespace PySem.W
open PySem PySem.Spec PySem.Calls PyProof.Rows Builtin Builtin.ObjectAttr Builtin.Getset_descriptor
section
variable {prog:Program} {w:World} {K:Frag} {x D:Addr}
noncomputable def ExcTy (x D:Addr) (h:Heap):Prop:=∃ o,h.get? x = some o ∧ o.cls = .ref D
theorem ExcTy.ty {h:Heap} (p:ExcTy x D h) (M:Model):Looks M h (typeOf (.ref x)) (.ref D):=by
 obtain ⟨o,a,b⟩:=p
 exact b ▸ (Looks.ld a).andThen .now
theorem Zj5 {M:Model} {h:Heap} {name:Str} {a g:Value} (X:K.In h) (ha:findIn K (.ref D) name = some (some a)) (hg:specialIn K a "__get__" = some (some g)) (ht:takesIn K a = some true):Looks M h (find (.ref x) (.ref D) name) (.bind g a):=
 (looks_findIn (M:=M) X ha).andThen ((show Looks M h (getOf (some a)) (some g) from looks_specialIn X hg).andThen
  ((show Looks M h (dataDescriptor? (some a) (some g)) (some (g,a)) from (looks_takesIn (M:=M) X ht).andThen .now).andThen (Looks.tag .now)))
theorem ZlJ {A:Around} {R:Result → Shared → Prop} {s:Shared} {tp:Value} (X:K.In s.heap) (p:ExcTy x D s.heap) (hm:mroIn K D (.type "object") = some true)
  (hq:R (.ok (.ret (.ref D))) s):codeAny (model prog w) A (.call (.builtin "getset_descriptor.__get__") ⟨[.builtin "object.__class__",.ref x,tp],[]⟩) R s:=by
 obtain ⟨hh,gg,dd,tt,oo⟩:=s
 have L0:=p.ty (model prog w)
 have L1:=looks_mroIn (M:=model prog w) X hm
 refine codeAny_call_builtin KF.slot_gs.plain KF.entry_gs (KF.slot_gs.check _ _ _ _ _ _ _ _ KF.type_class (KF.args_gs _ _ _) ?_)
 unfold Builtin.«getset_descriptor.__get__» descrGet; rw [dga_obj]
 refine wpAny_bind (wpAny_pure ?_)
 unfold descrGetter descrCheckInstance descrNameAndClass isInstance; simp only [KF.owner_class]
 repeat lk
 refine ⟨Code.quiet_builtin _ (by decide +kernel),codeAny_builtin KF.entry_class ?_⟩
 unfold Builtin.«object.__class__» shownTypeOf; repeat lk
 exact hq
theorem ZmK {A:Around} {R:Result → Shared → Prop} {s:Shared} {tk:Tok} (ha:findIn K (.ref D) "__class__" = some (some (.builtin "object.__class__")))
  (hn:specialIn K (.builtin "object.__class__") "__get__" = some (some (.builtin "getset_descriptor.__get__"))) (htk:takesIn K (.builtin "object.__class__") = some true) (hm:mroIn K D (.type "object") = some true) (hb:mroIn K D (.type "BaseException") = some true)
  (X:K.In s.heap) (p:ExcTy x D s.heap) (hq:R (.ok (.ret (.ref D))) s):codeAny (model prog w) A (.call (.builtin "BaseException.__getattribute__") ⟨[.ref x,.str "__class__" tk],[]⟩) R s:=by
 obtain ⟨hh,gg,dd,tt,oo⟩:=s
 have L0:=p.ty (model prog w)
 have L1:=looks_mroIn (M:=model prog w) X hb
 have L3:=Zj5 (M:=model prog w) (x:=x) X ha hn htk
 have hk:builtinKind "BaseException.__getattribute__" = some .slot:=by decide +kernel
 have hs:splitId "BaseException.__getattribute__" = some ("BaseException","__getattribute__"):=by decide +kernel
 have hz:=F.args_bexc_ga (.ref x) (.str "__class__" tk)
 refine codeAny_call_builtin F.excAttr_ValueError.ga.plain F.entry_bexc_ga ?_
 simp only [checkBuiltinCall,hk,hs]
 refine wpAny_bind ?_
 unfold isInstance
 repeat lk
 refine wpAny_run (h:=none) (ZlJ X p hm ?_)
 exact wpAny_pure (wpAny_pure hq)
theorem Zia {A:Around} {E:Value → Shared → Prop} {s:Shared} {Q:Option Value → Shared → Prop} (hg:findIn K (.ref D) "__getattribute__" = some (some (.builtin "BaseException.__getattribute__"))) (hg2:findIn K (.ref D) "__getattr__" = some none) (ha:findIn K (.ref D) "__class__" = some (some (.builtin "object.__class__")))
  (hn:specialIn K (.builtin "object.__class__") "__get__" = some (some (.builtin "getset_descriptor.__get__"))) (htk:takesIn K (.builtin "object.__class__") = some true) (hm:mroIn K D (.type "object") = some true) (hb:mroIn K D (.type "BaseException") = some true)
  (X:K.In s.heap) (p:ExcTy x D s.heap) (hq:Q (some (.ref D)) { s with toks:=s.toks + 1 }):wpAny (model prog w) A (getAttr? (.ref x) "__class__") Q E s:=by
 obtain ⟨hh,gg,dd,tt,oo⟩:=s
 have L0:=p.ty (model prog w)
 have L1:=looks_findIn (M:=model prog w) X hg
 have L2:=looks_findIn (M:=model prog w) X hg2
 have f3:=F.excAttr_ValueError.ga.bind (.ref x)
 unfold getAttr? getAttrBy? getAttrBy
 refine wpAny_bind (wpAny_mkText (wpAny_bind (wpAny_attempt (wpAny_holding (wpAny_bind (L0.at (wpAny_bind (L1.at ?_))))))))
 show wpAny _ _ (getAttrByItsOwn _ _ _ _ _ _) _ _ _
 unfold getAttrByItsOwn hookBefore callGetattribute
 refine wpAny_bind (L2.at (wpAny_bind (wpAny_attempt (wpAny_holding ?_))))
 show wpAny _ _ (boundAndCalled _ _ _) _ _ _
 unfold boundAndCalled
 rw [f3]
 refine wpAny_bind (wpAny_pure ?_)
 refine wpAny_call (ZmK ha hn htk hm hb X p ?_)
 exact handed_on rfl (wpAny_pure hq)
theorem kitx_exc (hg:findIn K (.ref D) "__getattribute__" = some (some (.builtin "BaseException.__getattribute__"))) (hg2:findIn K (.ref D) "__getattr__" = some none) (hb:mroIn K D (.type "BaseException") = some true) (hc:(clsIn K D).isSome = true) (ha:findIn K (.ref D) "__class__" = some (some (.builtin "object.__class__")))
  (hn:specialIn K (.builtin "object.__class__") "__get__" = some (some (.builtin "getset_descriptor.__get__"))) (htk:takesIn K (.builtin "object.__class__") = some true) (hm:mroIn K D (.type "object") = some true):
  KitX K (.ref x) (.ref D) (ExcTy x D):=by
 obtain ⟨cdD,hcD⟩:=Option.isSome_iff_exists.mp hc
 unfold clsIn at hcD
 split at hcD
 ·rename_i c' d' cd' sl' ho
  refine ⟨fun M h _ p=>p.ty M,fun M h X _=>?_,fun h tp dd its n sl X htp=>?_,fun X p k=>Zia hg hg2 ha hn htk hm hb X p k⟩
  ·intro A' Q' E' s' k q
   unfold isType loadHead
   exact wpAny_bind (wpAny_loadPart (k _ _ (X _ _ ho)) (wpAny_pure q))
  ·refine Bool.eq_false_iff.mpr fun q=>?_
   have e:D = tp:=Value.ref.inj (beq_iff_eq.mp q)
   rw [← e] at htp
   cases (X _ _ ho).symm.trans htp
 ·cases hcD
theorem kit1 {t:Value} {C:Addr} {cd:ClassData} {b:Bool} (cl:clsIn K C = some cd) (ty:typeIn K (.ref C) = some (.type "type")) (se:subIn K (.ref C) (.ref C) = some true) (sb:subIn K t (.ref C) = some b):kitOne K t (.ref C) = some b:=by
 unfold kitOne
 by_cases q:(t == .ref C) = true
 ·rw [if_pos q]
  rw [beq_iff_eq.mp q,se] at sb
  exact sb
 ·rw [if_neg q]
  show (if ((clsIn K C).isSome && typeIn K (.ref C) == some (.type "type")) = true then subIn K t (.ref C) else none) = some b
  rw [cl,ty,if_pos (by rfl)]
  exact sb
theorem kit1T {t:Value} {T:String} {b:Bool} (hm:kitMeta T = true) (ne:(t == .type T) = false) (sb:subIn K t (.type T) = some b):kitOne K t (.type T) = some b:=by
 unfold kitOne
 rw [if_neg (by rw [ne]; decide)]
 show (if kitMeta T = true then subIn K t (.type T) else none) = some b
 rw [if_pos hm]
 exact sb
theorem kitF {t c:Value} {r:List Value} {b:Bool} (h:kitOne K t c = some false) (hr:kitAny K t r = some b):kitAny K t (c :: r) = some b:=by unfold kitAny; rw [h]; exact hr
theorem kitT {t c:Value} {r:List Value} (h:kitOne K t c = some true):kitAny K t (c :: r) = some true:=by unfold kitAny; rw [h]
theorem kit0 {t:Value}:kitAny K t [] = some false:=rfl
theorem exm1 {C CE:Addr} {cd:ClassData} (cl:clsIn K CE = some cd) (ty:typeIn K (.ref CE) = some (.type "type")) (bs:subIn K (.ref CE) (.type "BaseException") = some true) (sb:subIn K (.ref C) (.ref CE) = some true):exmOne K (.ref C) (.ref CE) = some true:=by
 unfold exmOne
 rw [bs,if_pos (by rfl)]
 show (if ((clsIn K CE).isSome && typeIn K (.ref CE) == some (.type "type")) = true then subIn K (.ref C) (.ref CE) else none) = some true
 rw [cl,ty,if_pos (by rfl)]
 exact sb
end
end PySem.W
namespace L3
open PySem PySem.Spec PyProof.Rows L2
theorem Zee:bootBuiltins "ValueError" = some (.type "ValueError"):=by decide +kernel
structure ZcU (K:PySem.W.Frag) (C:Addr):Prop where
 ga:PySem.W.findIn K (.ref C) "__getattribute__" = some (some (.builtin "BaseException.__getattribute__"))
 gh:PySem.W.findIn K (.ref C) "__getattr__" = some none
 be:PySem.W.mroIn K C (.type "BaseException") = some true
 cl:(PySem.W.clsIn K C).isSome = true
 fa:PySem.W.findIn K (.ref C) "__class__" = some (some (.builtin "object.__class__"))
 sp:PySem.W.specialIn K (.builtin "object.__class__") "__get__" = some (some (.builtin "getset_descriptor.__get__"))
 tk:PySem.W.takesIn K (.builtin "object.__class__") = some true
 mo:PySem.W.mroIn K C (.type "object") = some true
theorem ZcU.kit {K:PySem.W.Frag} {C x:Addr} (h:ZcU K C):PySem.W.KitX K (.ref x) (.ref C) (PySem.W.ExcTy x C):=PySem.W.kitx_exc h.ga h.gh h.be h.cl h.fa h.sp h.tk h.mo
noncomputable def tK (vs:List V):TA:=fun _ H Q=>Q vs H
section
variable {X:Cx} {a:Expr} {es:List Expr} {f:E3} {p p1 p2 pos pt:Pos} {x:Str} {C:Addr} {vs:List V} {yes no:List (List Nat)}
theorem Zlz:PA X [] (tK []):=Zdi.imp fun σ H Q h=>h
theorem Zcz (hm:X.mg x = some (.ref C)) (h:PA X es (tK vs)) (hg:Gl X x:=by rfl) (hd:(x == ("__debug__":Str)) = false:=by decide) (he:starEach (.Name x p1 :: es) X.env = (false,eval (.Name x p1) X.env) :: starEach es X.env:=by rfl):PA X (.Name x p1 :: es) (tK (.ref C :: vs)):=
 (Zbt (Zhi hg hm (v:=.ref C) rfl hd) h he).imp fun σ H Q h=>h
structure Zd4 (K:PySem.W.Frag) (yes no:List (List Nat)) (cs:List Value):Prop where
 non:PySem.W.kitAny K (.type "NoneType") cs = some false
 yes:∀ c C,yes.contains c = true → ClsAt K c C → ZcU K C ∧ PySem.W.kitAny K (.ref C) cs = some true
 no:∀ c C,no.contains c = true → ClsAt K c C → ZcU K C ∧ PySem.W.kitAny K (.ref C) cs = some false
theorem Zge {pins:List (Addr × Obj)} {σ:St} {H:Hp} {s:Shared} {ι:List Addr} {M:Store} {d:D} {v:V} {u:Value} {cs:List Value} {Q:VK} (I:Inv X pins σ H s) (S:Zw X.K H ι M) (r:Rep X.K H ι d v) (ru:RelV v u) (hk:Zd4 X.K yes no cs) (q:Zu X.K H ι Q (Za1 yes no d M)):
  ∃ (t:Value) (Hc:Heap → Prop) (b:Bool),PySem.W.KitX X.K u t Hc ∧ Hc s.heap ∧ u ≠ .builtin "__main__.__loader__#opaque" ∧ PySem.W.kitAny X.K t cs = some b ∧ Q (.bl b) H:=by
 cases d with
 | non=>
  have:=r.non_inv; subst this
  cases (show u = Value.none from ru)
  exact ⟨_,_,false,PySem.W.kitx_none,True.intro,(fun z=>nomatch z),hk.non,Zu.ok q S Rep.bl⟩
 | ref n=>
  simp only [Za1] at q
  split at q
  ·rename_i c fs hn
   obtain ⟨a,ha,rfl⟩:=r.ref_inv
   cases (show u = Value.ref a from ru)
   rcases S.obj n _ a hn ha with ⟨_,_,_,_,z,_⟩ | ⟨C,e,_,at_,_⟩
   ·exact absurd rfl z.2
   ·have at_:ClsAt X.K c C:=at_
    obtain ⟨⟨o,ws,h1,h2,_⟩,_⟩:=(show ZaZ X.prog X.w H s.heap a (exH a C) from I.hok a _ e)
    split at q
    ·rename_i hy
     obtain ⟨k1,k2⟩:=hk.yes c C hy at_
     exact ⟨_,_,true,k1.kit,⟨o,h1,h2⟩,(fun z=>nomatch z),k2,Zu.ok q S Rep.bl⟩
    ·split at q
     ·rename_i hy
      obtain ⟨k1,k2⟩:=hk.no c C hy at_
      exact ⟨_,_,false,k1.kit,⟨o,h1,h2⟩,(fun z=>nomatch z),k2,Zu.ok q S Rep.bl⟩
     ·exact q.elim
  ·exact q.elim
 | _=>exact q.elim
noncomputable def refsOf (cs:List Addr):List Value:=cs.map Value.ref
theorem Ze8:∀ {cs:List Addr} {us:List Value},Vals (cs.map V.ref) us → us = refsOf cs
 | [],_,.nil=>rfl
 | c :: cs,_,.cons r t=>by rw [Ze8 (cs:=cs) t]; cases r; rfl
theorem Zif {cs:List Addr} {k} (hm:X.mg "isinstance" = none) (hk:Zd4 X.K yes no (refsOf cs)) (h:C3 X a f) (hc:PA X es (tK (cs.map V.ref))) (hl:cs.length ≤ 100:=by exact Nat.le_of_ble_eq_true rfl) (hg:Gl X "isinstance":=by rfl)
  (hs:starEach (a :: [.Tuple es k pt]) X.env = (false,eval a X.env) :: starEach [.Tuple es k pt] X.env:=by rfl) (hs1:starEach (.Tuple es k pt :: []) X.env = (false,eval (.Tuple es k pt) X.env) :: starEach [] X.env:=by rfl)
  (hpl:(backTo pos (starEach [.Tuple es k pt] X.env)).any (·.1) = false:=by rfl):C3 X (.Call (.Name "isinstance" p) [a,.Tuple es k pt] [] pos) (e1 (Za1 yes no) f):=by
 have hcl:Zba X (.builtin "isinstance") (fun xs H Q=>∃ ι M d x q,xs = [x,.ref q] ∧ H q = some (.tup (cs.map V.ref)) ∧ Zw X.K H ι M ∧ Rep X.K H ι d x ∧ Zu X.K H ι Q (Za1 yes no d M)):=by
  intro pins s σ H xs us Q I r q
  obtain ⟨ι,M,d,x,tp,rfl,et,S,rd,q⟩:=q
  obtain ⟨u,w',rfl,ru,rw'⟩:=vals2 r
  cases rw'
  obtain ⟨t,Hc,b,kx,hh,hl,ht,hq⟩:=Zge I S rd ru hk q
  obtain ⟨_,its,rt,ptt⟩:=(show ZaZ X.prog X.w H s.heap tp (.tup (cs.map V.ref)) from I.hok tp _ et)
  obtain rfl:=Ze8 rt
  obtain ⟨ob,g1,⟨g2,g3⟩,n,g4⟩:=ptt
  have ho:ob = { cls:=.type "tuple",dict:=ob.dict,data:=.seq (refsOf cs).toArray n,slots:=ob.slots }:=by
   cases ob; simp only at g2 g4; subst g2 g4; rfl
  rw [ho] at g1
  exact PySem.W.kia_tup kx I.kIn hh g1 ht hl fun tk=>⟨.bl b,H,I.tok _,rfl,hq⟩
 refine (ZcR hcl hg hm ZbW (Zbt h (Zbt (Zgu hc) Zdi hs1) hs) (by decide) (by decide) hs hpl).imp fun σ H Q zz1=>?_
 obtain ⟨ι,M,env,S,E,h⟩:=zz1
 obtain ⟨d,M1,e1,h⟩:=Zu.bind h
 refine ⟨ι,M,env,S,E,?_⟩
 rw [e1]
 intro v H1 ι1 x1 S1 r1
 refine ⟨?_,fun tp ht=>?_⟩
 ·rw [List.length_map]; exact Nat.le_trans hl (by decide)
 ·have x2:Ext X.K H1 ι1 (upd H1 tp (.tup (cs.map V.ref))) ι1:=Loose.ext (.inl ht)
  exact ⟨ι1,M1,d,v,tp,rfl,ZaQ,S1.other (.inl ht) (S1.fresh ht),r1.mono x2,(h.up x1).up x2⟩
theorem Zgb {c:Value} {cv:V} (hm:X.mg "isinstance" = none) (hk:Zd4 X.K yes no [c]) (h:C3 X a f) (hv:RelV cv c) (hx:PE X (.Name x p1) (tC cv)) (hc:∀ u,RelV cv u → u = c) (hg:Gl X "isinstance":=by rfl)
  (hs:starEach (a :: [.Name x p1]) X.env = (false,eval a X.env) :: starEach [.Name x p1] X.env:=by rfl) (hs1:starEach (.Name x p1 :: []) X.env = (false,eval (.Name x p1) X.env) :: starEach [] X.env:=by rfl)
  (hpl:(backTo pos (starEach [.Name x p1] X.env)).any (·.1) = false:=by rfl):C3 X (.Call (.Name "isinstance" p) [a,.Name x p1] [] pos) (e1 (Za1 yes no) f):=by
 have hcl:Zba X (.builtin "isinstance") (fun xs H Q=>∃ ι M d x,xs = [x,cv] ∧ Zw X.K H ι M ∧ Rep X.K H ι d x ∧ Zu X.K H ι Q (Za1 yes no d M)):=by
  intro pins s σ H xs us Q I r q
  obtain ⟨ι,M,d,x,rfl,S,rd,q⟩:=q
  obtain ⟨u,w',rfl,ru,rw'⟩:=vals2 r
  obtain rfl:=hc _ rw'
  obtain ⟨t,Hc,b,kx,hh,hl,ht,hq⟩:=Zge I S rd ru hk q
  have h1:PySem.W.kitOne X.K t w' = some b:=by
   unfold PySem.W.kitAny at ht
   split at ht
   ·rename_i q; cases ht; exact q
   ·rename_i q; rw [q]; exact ht
   ·cases ht
  exact PySem.W.kia_one kx I.kIn hh h1 hl fun tk=>⟨.bl b,H,I.tok _,rfl,hq⟩
 refine (ZcR hcl hg hm ZbW (Zbt h (Zbt hx Zdi hs1) hs) (by decide) (by decide) hs hpl).imp fun σ H Q zz1=>?_
 obtain ⟨ι,M,env,S,E,h⟩:=zz1
 obtain ⟨d,M1,e1,h⟩:=Zu.bind h
 refine ⟨ι,M,env,S,E,?_⟩
 rw [e1]
 intro v H1 ι1 x1 S1 r1
 exact ⟨ι1,M1,d,v,rfl,S1,r1,h.up x1⟩
theorem ZhY (hm:X.mg "isinstance" = none) (hx:X.mg x = some (.ref C)) (hk:Zd4 X.K yes no [.ref C]) (h:C3 X a f) (hg1:Gl X x:=by rfl) (hd:(x == ("__debug__":Str)) = false:=by decide) (hg:Gl X "isinstance":=by rfl)
  (hs:starEach (a :: [.Name x p1]) X.env = (false,eval a X.env) :: starEach [.Name x p1] X.env:=by rfl) (hs1:starEach (.Name x p1 :: []) X.env = (false,eval (.Name x p1) X.env) :: starEach [] X.env:=by rfl)
  (hpl:(backTo pos (starEach [.Name x p1] X.env)).any (·.1) = false:=by rfl):C3 X (.Call (.Name "isinstance" p) [a,.Name x p1] [] pos) (e1 (Za1 yes no) f):=
 Zgb (cv:=.ref C) hm hk h rfl (Zhi hg1 hx (v:=.ref C) rfl hd) (fun u q=>q) hg hs hs1 hpl
theorem ZiC {T:String} (hm:X.mg "isinstance" = none) (hx:X.mg x = none) (hv:bootBuiltins x = some (.type T)) (hk:Zd4 X.K yes no [.type T]) (h:C3 X a f) (hg1:Gl X x:=by rfl) (hn:x ≠ "__name__":=by decide) (hd:(x == ("__debug__":Str)) = false:=by decide) (hg:Gl X "isinstance":=by rfl)
  (hs:starEach (a :: [.Name x p1]) X.env = (false,eval a X.env) :: starEach [.Name x p1] X.env:=by rfl) (hs1:starEach (.Name x p1 :: []) X.env = (false,eval (.Name x p1) X.env) :: starEach [] X.env:=by rfl)
  (hpl:(backTo pos (starEach [.Name x p1] X.env)).any (·.1) = false:=by rfl):C3 X (.Call (.Name "isinstance" p) [a,.Name x p1] [] pos) (e1 (Za1 yes no) f):=
 Zgb (cv:=.ty T) hm hk h rfl (Zeg hg1 hx hv (v:=.ty T) rfl hn hd) (fun u q=>q) hg hs hs1 hpl
end
end L3
namespace L3
open PySem PySem.Spec PyProof.Rows L2
noncomputable def ZjB (es:Array DictEntry):Bool:=es.toList.all fun e=>match e.key with
 | .str _ _=>true
 | _=>false
theorem Zko {es:Array DictEntry} (h:ZjB es = true):StrKeys es:=fun e he=>by
 have:=List.all_eq_true.mp h e (Array.mem_toList_iff.mpr he)
 split at this
 ·rename_i n t q; exact ⟨n,t,q⟩
 ·cases this
section
variable {K:PySem.W.Frag} {h:Heap} {a:Addr} {oc:Value} {od:Option Addr} {es:Array DictEntry} {ep:Nat} {sl:Array (Option Value)}
theorem ZkJ (X:K.In h) (l:K.lookup a = some ⟨oc,od,.dict es ep,sl⟩) (sk:ZjB es = true):h.Ns a (nsFind es):=⟨_,es,ep,X _ _ l,rfl,Zko sk,fun _=>rfl⟩
theorem Zhr {c:List Nat} {C C':Addr} (x:ClsAt K c C) (y:ClsAt K c C'):C' = C:=by
 have:=y.symm.trans x
 cases this; rfl
theorem ZcG {P:Addr → Prop}:∀ c C,([]:List (List Nat)).contains c = true → ClsAt K c C → P C:=fun c C z=>by cases z
theorem Zen {P:Addr → Prop} {k:List Nat} {ks:List (List Nat)} {C1:Addr} (x:ClsAt K k C1) (p:P C1) (t:∀ c C,ks.contains c = true → ClsAt K c C → P C):∀ c C,(k :: ks).contains c = true → ClsAt K c C → P C:=fun c C z at_=>by
 rw [List.contains_cons,Bool.or_eq_true] at z
 rcases z with z | z
 ·rw [beq_iff_eq.mp z] at at_; rw [Zhr x at_]; exact p
 ·exact t c C z at_
end
end L3
set_option maxHeartbeats 400000
namespace Law
open PySem L3
noncomputable section
noncomputable def ZcZ:S3:=Zau (ZcA (e2 Zh9 (Zb 0) (eC (.int 0))) (e2 Zed (Zb 0) (Zb 1)))
noncomputable def Zby:F3:=mkF 2 2 ZcZ
noncomputable def ZbE:S3:=Zr (Zaw 1 (e2 Zh (Zb 0) (eC (.int 0)))) (Zr (Zaw 2 (e2 Zh (Zb 0) (eC (.int 1)))) (Zr (Zdd (Zb 0) (eC (.int 1)) (e2 Zcb (Zb 2) (eC (.int 1)))) (Zr (sIf (e2 Zed (Zb 2) (ZaJ Za0 (Za (Zb 1) (Ze)))) (Zau (e2 Zh (Zb 1) (Zb 2))) (Zac)) (Zr (sIf (e2 Zcu (ZaJ Za0 (Za (Zb 1) (Ze))) (eC (.int 0))) (Zau (e2 Zcb (e2 ZdO (e2 ZdO (Zb 2) (Zb 2)) (eC (.int 3))) (Zb 2))) (Zac)) (Zau (e2 Zcb (e2 Zag (e2 Zh (Zb 1) (e2 Zaf (Zb 2) (ZaJ Za0 (Za (Zb 1) (Ze))))) (eC (.int 2))) (e2 ZdO (Zb 2) (Zb 2))))))))
noncomputable def ZaO:F3:=mkF 1 3 ZbE
noncomputable def Zax (rec:F3):S3:=Zr (sIf (e1 (ZdJ .tuple .list) (Zb 1)) (Zr (sIf (eOr (e2 Zli (e1 (Zcc .tuple) (Zb 0)) (e1 (Zcc .tuple) (Zb 1))) (e1 ZaM (e1 (ZdJ .tuple .list) (Zb 0)))) (Zau (eC (.bl false))) (Zac)) (Zau (ZcA (e2 Zcu (ZaJ Za0 (Za (Zb 0) (Ze))) (ZaJ Za0 (Za (Zb 1) (Ze)))) (ZaJ ZgG (Za (eLC (Zcw (ZaJ Za0 (Za (Zb 1) (Ze)))) 1 (Zcv 2) [] (Zaa rec (Za (e2 Zh (Zb 0) (Zb 2)) (Za (e2 Zh (Zb 1) (Zb 2)) (Ze))))) (Ze)))))) (Zac)) (Zr (sIf (e1 (Zcc .str) (Zb 1)) (Zau (ZcA (e1 (Zcc .str) (Zb 0)) (e2 Zcu (Zb 0) (Zb 1)))) (Zac)) (Zr (sIf (e1 (Zcc .bool) (Zb 1)) (Zau (ZcA (e1 (Zcc .bool) (Zb 0)) (e2 Zcu (Zb 0) (Zb 1)))) (Zac)) (Zau (ZcA (e1 (Zcc .int) (Zb 0)) (ZcA (e1 ZaM (e1 (Zcc .bool) (Zb 0))) (e2 Zcu (Zb 0) (Zb 1)))))))
noncomputable def Zal:Nat → F3
 | 0=>mkF 2 2 Znd
 | n + 1=>mkF 2 2 (Zax (Zal n))
noncomputable def Zap:F3:=Zal 7
noncomputable def Zc8:S3:=Zr (Zaw 2 (ZaT (Ze))) (Zr (ZdU (Zcw (Zb 1)) (Zcv 3) (Zr (Zaw 4 (Zaa ZaO (Za (Zb 0) (Ze)))) (Zr (Zaw 5 (ZaT (Za (eC (.int 0)) (Za (eC (.int 0)) (Za (eC (.int 0)) (Za (eC (.int 0)) (Za (eC (.int 0)) (Za (eC (.int 0)) (Za (eC (.int 0)) (Za (eC (.int 0)) (Ze))))))))))) (Zr (Zdd (Zb 5) (e2 Zaf (Zb 4) (eC (.int 8))) (e2 Zaf (e2 Zag (Zb 4) (eC (.int 8))) (e2 Zbb (eC (.int 10)) (eC (.int 59))))) (Zr (Zdd (Zb 5) (e2 Zaf (e2 Zag (Zb 4) (eC (.int 3))) (eC (.int 8))) (e2 ZbY (eC (.int 0)) (e2 Zaf (e2 Zag (Zb 4) (eC (.int 5))) (eC (.int 7))))) (Zr (Zaw 6 (ZcI (Ze))) (Zr (sIf (e2 Zcu (e2 Zaf (Zb 4) (eC (.int 3))) (eC (.int 0))) (Zaw 6 (ZcI (Za (ZcI (Za (e2 ZbY (eC (.int 0)) (e2 Zaf (e2 Zag (Zb 4) (eC (.int 3))) (e2 Zbb (eC (.int 10)) (eC (.int 40))))) (Za (e2 Zcb (eC (.int 1)) (e2 Zaf (e2 Zag (Zb 4) (eC (.int 11))) (eC (.int 5)))) (Ze)))) (Za (ZcI (Za (e2 Zcb (eC (.int 1)) (e2 Zaf (e2 Zag (Zb 4) (eC (.int 13))) (eC (.int 9)))) (Za (e1 Zb5 (eC (.int 1))) (Ze)))) (Ze))))) (Zac)) (ZaC (Zcq tyL Za3 (Zb 2) (Za (ZcI (Za (e2 Zaf (e2 Zag (Zb 4) (eC (.int 2))) (eC (.int 9))) (Za (ZaJ Zb1 (Za (Zb 5) (Ze))) (Za (Zb 6) (Ze))))) (Ze))))))))))) (Zau (Zb 2)))
noncomputable def ZaS:F3:=mkF 2 7 Zc8
noncomputable def Zcl:S3:=Zr (sIf (eNo (e1 ZaM (Zaa Zby (Za (Zb 1) (Za (ZaJ Za0 (Za (e1 (Zcm [84,101,108,108,101,114] [115,116,97,116,101,115]) (Zb 0)) (Ze))) (Ze)))))) (ZeA [78,111,84,105,109,101] (Za (eC (.str [116,104,101,114,101,32,105,115,32,110,111,32,115,116,97,116,101,32,97,116,32,116,104,105,115,32,116,105,109,101])) (Ze))) (sNo (Zac))) (Zr (sNo (ZaC (Zcq tyL Za3 (e1 (Zcm [84,101,108,108,101,114] [97,115,107,101,100]) (Zb 0)) (Za (Zb 1) (Ze))))) (sNo (Zau (e2 Zh (e1 (Zcm [84,101,108,108,101,114] [115,116,97,116,101,115]) (Zb 0)) (Zb 1)))))
noncomputable def Zav:F3:=mkF 2 2 Zcl
noncomputable def ZcV:S3:=Zr (Zaw 2 (eC .non)) (Zr (ZhR [[78,111,84,105,109,101]] 3 (ZaC (ZaX [84,101,108,108,101,114] [115,116,97,116,101,95,97,116] Zav (eNo (Zb 0)) (Ziu (Za (Zb 1) (Ze))))) (Zaw 2 (Zb 3))) (Zr (sIf (e1 (Za1 [] [[78,111,84,105,109,101]]) (Zb 2)) (Zau (eC (.bl false))) (Zac)) (Zau (ZcA (e1 (Za1 [[78,111,84,105,109,101]] []) (Zb 2)) (e1 (Za1 [[78,111,84,105,109,101]] []) (Zb 2))))))
noncomputable def Zaq:F3:=mkF 2 4 ZcV
noncomputable def Zea:S3:=Zr (sIf (e2 Zd2 (e2 Zaf (Zb 0) (eC (.int 3))) (eC (.int 0))) (Zau (e2 Zaf (e2 Zag (Zb 0) (eC (.int 3))) (ZaJ Zg1 (Za (eC (.int 1)) (Za (Zb 1) (Ze)))))) (Zac)) (Zr (Zaw 2 (e2 Zaf (e2 Zag (Zb 0) (eC (.int 24))) (e2 Zbb (eC (.int 10)) (eC (.int 59))))) (Zau (e2 Zh (ZaT (Za (eC (.int 0)) (Za (e2 ZbY (Zb 1) (eC (.int 1))) (Za (Zb 1) (Za (e1 Zb5 (eC (.int 1))) (Za (e2 ZbY (eC (.int 0)) (Zb 1)) (Za (e2 Zcb (Zb 1) (Zb 2)) (Za (e2 ZbY (e1 Zb5 (eC (.int 1))) (Zb 2)) (Za (e2 Zag (Zb 1) (eC (.int 2))) (Ze)))))))))) (e2 Zaf (e2 Zag (Zb 0) (eC (.int 3))) (eC (.int 8))))))
noncomputable def Zbc:F3:=mkF 2 3 Zea
noncomputable def ZdD:S3:=Zr (sIf (eOr (e2 Zed (Zb 3) (eC (.int 0))) (e2 Zh9 (Zb 3) (ZaJ Za0 (Za (Zb 1) (Ze))))) (Zau (Zaa Zaq (Za (Zb 0) (Za (Zb 3) (Ze))))) (Zac)) (Zr (ZaC (Zcq tyL Za3 (Zb 2) (Za (Zb 3) (Ze)))) (Zau (Zaa Zap (Za (ZaX [84,101,108,108,101,114] [115,116,97,116,101,95,97,116] Zav (Zb 0) (Za (Zb 3) (Ze))) (Za (e2 Zh (Zb 1) (Zb 3)) (Ze))))))
noncomputable def Zaj:F3:=mkF 4 4 ZdD
noncomputable def Zc9:S3:=Zau (ZaJ Za0 (Za (e1 (Zcm [84,101,108,108,101,114] [115,116,97,116,101,115]) (Zb 0)) (Ze)))
noncomputable def Zbo:F3:=mkF 1 1 Zc9
noncomputable def ZbZ:S3:=Zau (ZaJ ZbT (Za (e1 (Zcm [84,101,108,108,101,114] [97,115,107,101,100]) (Zb 0)) (Ze)))
noncomputable def Zam:F3:=mkF 1 1 ZbZ
noncomputable def Zd9:S3:=Zr (Zaw 4 (ZaX [84,101,108,108,101,114] [116,105,109,101,115,95,97,115,107,101,100] Zam (Zb 0) (Ze))) (Zr (sIf (eOr (e1 ZaM (Zaa Zap (Za (Zb 4) (Za (Zb 2) (Ze))))) (e1 ZaM (Zaa Zap (Za (ZaX [84,101,108,108,101,114] [109,97,110,121] Zbo (Zb 0) (Ze)) (Za (ZaJ Za0 (Za (Zb 1) (Ze))) (Ze)))))) (Zau (eC (.bl false))) (Zac)) (Zr (sIf (e2 Zed (ZaJ Za0 (Za (Zb 3) (Ze))) (eC (.int 12))) (Zr (ZaC (Zcq tyL Za3 (Zb 3) (Za (ZcI (Za (Zb 4) (Za (ZaJ ZbT (Za (Zb 2) (Ze))) (Ze)))) (Ze)))) (Zau (Zaa Zap (Za (ZaX [84,101,108,108,101,114] [116,105,109,101,115,95,97,115,107,101,100] Zam (Zb 0) (Ze)) (Za (Zb 2) (Ze)))))) (Zac)) (Zr (ZaC (Zcq tyL Za3 (Zb 4) (Za (eC (.int 7)) (Ze)))) (Zau (Zaa Zap (Za (ZaX [84,101,108,108,101,114] [116,105,109,101,115,95,97,115,107,101,100] Zam (Zb 0) (Ze)) (Za (Zb 2) (Ze))))))))
noncomputable def Zad:F3:=mkF 4 5 Zd9
noncomputable def Zcn:S3:=Zr (Ziw [84,101,108,108,101,114] [115,116,97,116,101,115] (Zb 0) (ZaJ Zb1 (Za (Zb 1) (Ze)))) (Ziw [84,101,108,108,101,114] [97,115,107,101,100] (Zb 0) (ZaT (Ze)))
noncomputable def Zy:F3:=mkF 2 2 Zcn
noncomputable def Zip:S3:=Zr (Zaw 1 (ZaT (Za (eSl (Zb 0) (ZkG) (ZdE (eC (.int 402)))) (Za (eC (.int 0)) (Ze))))) (Zr (Zaw 2 (Zaa ZaO (Za (Zb 1) (Ze)))) (Zr (Zaw 3 (ZaT (Za (Zaa ZaS (Za (Zb 1) (Za (e2 Zaf (Zb 2) (eC (.int 41))) (Ze)))) (Za (Zaa ZaS (Za (Zb 1) (Za (e2 Zaf (e2 Zag (Zb 2) (eC (.int 41))) (eC (.int 41))) (Ze)))) (Ze))))) (Zr (Zaw 4 (ZaT (Za (ZaJ ZbT (Za (e2 Zh (Zb 3) (eC (.int 0))) (Ze))) (Za (ZaJ ZbT (Za (e2 Zh (Zb 3) (eC (.int 1))) (Ze))) (Ze))))) (Zr (Zaw 5 (ZaT (Za (ZcL [84,101,108,108,101,114] Zy (Za (e2 Zh (Zb 4) (eC (.int 0))) (Ze))) (Za (ZcL [84,101,108,108,101,114] Zy (Za (e2 Zh (Zb 4) (eC (.int 1))) (Ze))) (Ze))))) (Zr (Zaw 6 (ZaT (Za (ZaT (Ze)) (Za (ZaT (Ze)) (Ze))))) (Zr (Zaw 7 (ZaT (Ze))) (Zr (ZdU (Zdn (eSl (Zb 0) (ZdE (eC (.int 2))) (ZdE (eC (.int 402))))) (Zcv 2) (Zr (Zaw 8 (e2 Zaf (Zb 2) (eC (.int 2)))) (Zr (Zaw 9 (Zaa Zbc (Za (e2 Zag (Zb 2) (eC (.int 2))) (Za (ZaJ Za0 (Za (e2 Zh (Zb 3) (Zb 8)) (Ze))) (Ze))))) (Zr (sIf (e1 ZaM (Zaa Zaj (Za (e2 Zh (Zb 5) (Zb 8)) (Za (e2 Zh (Zb 3) (Zb 8)) (Za (e2 Zh (Zb 6) (Zb 8)) (Za (Zb 9) (Ze))))))) (Zau (eC (.bl false))) (Zac)) (Zr (Zaw 10 (e2 ZbY (eC (.int 1)) (Zb 8))) (Zr (Zaw 11 (e2 Zh (Zb 6) (Zb 10))) (Zr (sIf (e2 Zcu (e2 Zaf (Zb 2) (eC (.int 7))) (eC (.int 3))) (sIf (e1 ZaM (Zaa Zad (Za (e2 Zh (Zb 5) (Zb 10)) (Za (e2 Zh (Zb 3) (Zb 10)) (Za (Zb 11) (Za (Zb 7) (Ze))))))) (Zau (eC (.bl false))) (Zac)) (Zac)) (sIf (e2 Zcu (e2 Zaf (Zb 2) (eC (.int 7))) (eC (.int 5))) (Zr (ZaC (Zcq tyL Za3 (e2 Zh (Zb 4) (Zb 8)) (Za (Zb 6) (Ze)))) (ZaC (Zcq tyL Zbd (e2 Zh (Zb 4) (Zb 8)) (Ze)))) (Zac))))))))) (Zr (ZdU (Zcw (eC (.int 2))) (Zcv 12) (Zr (sIf (e1 ZaM (Zaa Zad (Za (e2 Zh (Zb 5) (Zb 12)) (Za (e2 Zh (Zb 3) (Zb 12)) (Za (e2 Zh (Zb 6) (Zb 12)) (Za (Zb 7) (Ze))))))) (Zau (eC (.bl false))) (Zac)) (Zr (ZdU (Zdn (ZaT (Za (ZaJ Za0 (Za (e2 Zh (Zb 3) (Zb 12)) (Ze))) (Za (e1 Zb5 (eC (.int 1))) (Za (e2 Zbb (eC (.int 10)) (eC (.int 59))) (Ze)))))) (Zcv 9) (sIf (e1 ZaM (Zaa Zaq (Za (e2 Zh (Zb 5) (Zb 12)) (Za (Zb 9) (Ze))))) (Zau (eC (.bl false))) (Zac))) (Zr (Zaw 13 (e2 Zag (ZaJ Za0 (Za (e2 Zh (Zb 3) (Zb 12)) (Ze))) (eC (.int 2)))) (Zr (sIf (ZcA (e2 Zd2 (Zb 13) (eC (.int 0))) (e1 ZaM (Zaa Zaj (Za (e2 Zh (Zb 5) (Zb 12)) (Za (e2 Zh (Zb 3) (Zb 12)) (Za (e2 Zh (Zb 6) (Zb 12)) (Za (Zb 13) (Ze)))))))) (Zau (eC (.bl false))) (Zac)) (sIf (e1 ZaM (Zaa Zad (Za (e2 Zh (Zb 5) (Zb 12)) (Za (e2 Zh (Zb 3) (Zb 12)) (Za (e2 Zh (Zb 6) (Zb 12)) (Za (Zb 7) (Ze))))))) (Zau (eC (.bl false))) (Zac))))))) (Zr (ZdU (Zdn (Zb 7)) (Zi6 [14,15]) (sIf (e1 ZaM (Zaa Zap (Za (Zb 14) (Za (Zb 15) (Ze))))) (Zau (eC (.bl false))) (Zac))) (Zr (Zaw 16 (ZcL [84,101,108,108,101,114] Zy (Za (ZaT (Ze)) (Ze)))) (Zau (ZcA (Zaa Zaq (Za (Zb 16) (Za (eC (.int 0)) (Ze)))) (ZcA (Zaa Zad (Za (Zb 16) (Za (ZaT (Ze)) (Za (ZaT (Ze)) (Za (Zb 7) (Ze)))))) (Zaa Zad (Za (Zb 16) (Za (ZaT (Ze)) (Za (ZaT (Ze)) (Za (e2 ZdO (ZaT (Za (eC .non) (Ze))) (eC (.int 12))) (Ze)))))))))))))))))))
noncomputable def Zg7:F3:=mkF 1 17 Zip
end
end Law
namespace Law
open PySem PySem.Spec PyProof.Rows L2 L3
noncomputable def top (i:Nat):Stmt:=PySem.Challenge.pw_stepledger_k51_tellers.main.body.getD i (.Pass ⟨0,0,0,0⟩)
noncomputable abbrev ZbB:Stmt:=top 11
noncomputable abbrev ZbC:Stmt:=top 15
noncomputable abbrev ZbD:Stmt:=top 16
noncomputable abbrev Za4:Stmt:=top 17
noncomputable abbrev ZaY:Stmt:=top 18
noncomputable abbrev ZbF:Stmt:=top 19
noncomputable abbrev Zbf:Stmt:=top 20
noncomputable abbrev ZbA:Stmt:=top 21
noncomputable abbrev Zdw:Stmt:=top 22
noncomputable abbrev ZaH:Stmt:=(Zej (top 13)).getD 0 (.Pass ⟨0,0,0,0⟩)
noncomputable abbrev ZaG:Stmt:=(Zej (top 13)).getD 1 (.Pass ⟨0,0,0,0⟩)
noncomputable abbrev Za5:Stmt:=(Zej (top 13)).getD 2 (.Pass ⟨0,0,0,0⟩)
noncomputable abbrev Zar:Stmt:=(Zej (top 13)).getD 3 (.Pass ⟨0,0,0,0⟩)
structure Zbg (K:W.Frag) (mg:Str → Option Value) (C:Addr):Prop where
  ok:Zc7 K [84,101,108,108,101,114] C
  mg:mg "Teller" = some (.ref C)
  n_asked:Zcp K C (nm [97,115,107,101,100])
  n_states:Zcp K C (nm [115,116,97,116,101,115])
structure ExT (K:W.Frag) (mg:Str → Option Value) (C_LedgerError C_BadCut C_BadGiven C_BadRow C_NoDispute C_NoRoll C_NoTime C_Spent C_Unfit:Addr):Prop where
  mg_LedgerError:mg "LedgerError" = some (.ref C_LedgerError)
  mg_BadCut:mg "BadCut" = some (.ref C_BadCut)
  mg_BadGiven:mg "BadGiven" = some (.ref C_BadGiven)
  mg_BadRow:mg "BadRow" = some (.ref C_BadRow)
  mg_NoDispute:mg "NoDispute" = some (.ref C_NoDispute)
  mg_NoRoll:mg "NoRoll" = some (.ref C_NoRoll)
  mg_NoTime:mg "NoTime" = some (.ref C_NoTime)
  mg_Spent:mg "Spent" = some (.ref C_Spent)
  mg_Unfit:mg "Unfit" = some (.ref C_Unfit)
  r_NoTime:Zgc K [78,111,84,105,109,101] C_NoTime
  t_LedgerError:∀ c C,([[78,111,84,105,109,101]]:List (List Nat)).contains c = true → ClsAt K c C → PySem.W.exmOne K (.ref C) (.ref C_LedgerError) = some true
  i_NoTime:Zd4 K [[78,111,84,105,109,101]] [] [.ref C_NoTime]
  i_ValueError:Zd4 K [[78,111,84,105,109,101]] [] [.type "ValueError"]
  i_BadCut_BadGiven_BadRow_NoDispute_NoRoll_Spent_Unfit:Zd4 K [] [[78,111,84,105,109,101]] (refsOf [C_BadCut,C_BadGiven,C_BadRow,C_NoDispute,C_NoRoll,C_Spent,C_Unfit])
structure Txt (K:W.Frag) (mg:Str → Option Value):Prop where
  kin:True
  m_ValueError:mg "ValueError" = none
  m_all:mg "all" = none
  m_bool:mg "bool" = none
  m_int:mg "int" = none
  m_isinstance:mg "isinstance" = none
  m_len:mg "len" = none
  m_list:mg "list" = none
  m_max:mg "max" = none
  m_range:mg "range" = none
  m_str:mg "str" = none
  m_tuple:mg "tuple" = none
section
variable {P:Program} {w:World} {K:W.Frag} {mg:Str → Option Value} {base:Heap}
theorem Zfz:Zaz ["number","many"] ["number","many"] (Zg ZbB):=⟨rfl,rfl,rfl,by decide +kernel,rfl,by decide +kernel,by decide +kernel⟩
theorem Zfq (A:ZbS K mg "is_within" ZbB ["number","many"]) (T:Txt K mg):Fn3 P w K mg base 1 "is_within" ["number","many"] Zby:=
  Fn3.of (N:=["number","many"]) (k:=0) A Zfz fun f cdv A outer s H E hr=>by
    have hu:=ZdW hr
    unfold ZcZ
    exact Zx (Zat (ZdP (Zfi Zno (Zd 0) Zn) (Zex (Zfi Zkl (Zd 0) (Zd 1)))))
theorem ZcF:Zaz ["deck","cells","at"] ["deck"] (Zg ZbC):=⟨rfl,rfl,rfl,by decide +kernel,rfl,by decide +kernel,by decide +kernel⟩
theorem Zfs (A:ZbS K mg "_law_next" ZbC ["deck"]) (T:Txt K mg):Fn3 P w K mg base 1 "_law_next" ["deck"] ZaO:=
  Fn3.of (N:=["deck","cells","at"]) (k:=0) A ZcF fun f cdv A outer s H E hr=>by
    have hu:=ZdW hr
    unfold ZbE
    refine Zj ?_ ?_
    ·exact ZaK 1 ZcF.nd (ZaI ZaE (Zd 0) Zn)
    ·refine Zj ?_ ?_
     ·exact ZaK 2 ZcF.nd (ZaI ZaE (Zd 0) Zn)
     ·refine Zj ?_ ?_
      ·exact Zfm (Zd 0) Zn (Zah Ze3 (Zd 2) Zn)
      ·refine Zj ?_ ?_
       ·exact Zbr (Zch Zkl (Zd 2) (Zb6 (id:="len") Zck T.m_len ZbH (Zc (Zd 1) Zi))) (Zx (Zat (ZaI ZaE (Zd 1) (Zd 2)))) Zay
       ·refine Zj ?_ ?_
        ·refine Zbr ?_ ?_ ?_
         ·exact Zch ((ZfO hu)) (Zb6 (id:="len") Zck T.m_len ZbH (Zc (Zd 1) Zi)) Zn
         ·exact Zx (Zat (Zah Ze3 (Zah ZgN (Zah ZgN (Zd 2) (Zd 2)) Zn) (Zd 2)))
         ·exact Zay
        ·refine Zx ?_
         refine Zat ?_
         exact Zah Ze3 (Zah Zbw (ZaI ZaE (Zd 1) (Zah ZbG (Zd 2) (Zb6 (id:="len") Zck T.m_len ZbH (Zc (Zd 1) Zi)))) Zn) (Zah ZgN (Zd 2) (Zd 2))
theorem ZdM:Zaz ["found","due"] ["found","due"] (Zg ZbD):=⟨rfl,rfl,rfl,by decide +kernel,rfl,by decide +kernel,by decide +kernel⟩
theorem Zfr (A:ZbS K mg "_law_same" ZbD ["found","due"]) (T:Txt K mg):Fn3 P w K mg base 8 "_law_same" ["found","due"] Zap:=by
  have all:∀ n:Nat,Fn3 P w K mg base (n + 1) "_law_same" ["found","due"] (Zal n):=by
    intro n
    induction n with
    | zero=>exact Fn3.of (N:=["found","due"]) (k:=0) A ZdM fun f cdv A outer s H E hr=>Zki
    | succ n IH=>
      refine (Fn3.of (N:=["found","due"]) (k:=n + 1) A ZdM fun f cdv A outer s H E hr=>?_).mono (by omega)
      have hu:=ZdW hr
      unfold Zax
      refine Zj ?_ ?_
      ·refine Zbr ?_ ?_ ?_
       ·exact Zbx (Zha .tuple .list T.m_isinstance T.m_tuple T.m_list (Zd 1))
       ·refine Zj ?_ ?_
        ·refine Zbr ?_ ?_ ?_
         ·exact CW.ct (Zi7 (Zch ((Zof hu)) (ZcY .tuple T.m_isinstance T.m_tuple (Zd 0)) (ZcY .tuple T.m_isinstance T.m_tuple (Zd 1))) (Zgo (Zcf (Zbx (Zha .tuple .list T.m_isinstance T.m_tuple T.m_list (Zd 0))))))
         ·exact Zx (Zat ZeW)
         ·exact Zay
        ·refine Zx ?_
         refine Zat ?_
         refine ZdP ?_ ?_
         ·exact Zfi ((ZfO hu)) (Zb6 (id:="len") Zck T.m_len ZbH (Zc (Zd 0) Zi)) (Zb6 (id:="len") Zck T.m_len ZbH (Zc (Zd 1) Zi))
         ·refine Zex ?_
          refine Zb6 (id:="all") ?_ ?_ ?_ ?_
          ·exact (ZmX rfl)
          ·exact T.m_all
          ·exact ZlP
          ·refine Zc ?_ ?_
           ·refine Zop (N':=["found","due","k"]) ?_ ?_ ?_ ?_ (fun C cl s H ex=>⟨?_,?_,?_⟩)
            ·exact ZhG rfl (by kernel_rfl)
            ·exact rfl
            ·exact rfl
            ·exact ZdY T.m_range (Zb6 (id:="len") Zck T.m_len ZbH (Zc (Zd 1) Zi))
            ·exact ZdG 2 ((show List.Nodup (["found","due","k"]:List Str) by decide +kernel))
            ·exact Zkf
            ·exact ZaL (k:=n + 1) (ps:=["found","due"]) IH hr (Zc (ZaI ZaE (Zd 0) (Zd 2)) (Zc (ZaI ZaE (Zd 1) (Zd 2)) Zi))
           ·exact Zi
       ·exact Zay
      ·refine Zj ?_ ?_
       ·exact Zbr (Zbx (ZcY .str T.m_isinstance T.m_str (Zd 1))) (Zx (Zat (ZdP (ZcY .str T.m_isinstance T.m_str (Zd 0)) (Zex (Zfi ((ZfO hu)) (Zd 0) (Zd 1)))))) Zay
       ·refine Zj ?_ ?_
        ·exact Zbr (Zbx (ZcY .bool T.m_isinstance T.m_bool (Zd 1))) (Zx (Zat (ZdP (ZcY .bool T.m_isinstance T.m_bool (Zd 0)) (Zex (Zfi ((ZfO hu)) (Zd 0) (Zd 1)))))) Zay
        ·exact Zx (Zat (ZdP (ZcY .int T.m_isinstance T.m_int (Zd 0)) (ZdP (ZmL (ZcY .bool T.m_isinstance T.m_bool (Zd 0))) (Zex (Zfi ((ZfO hu)) (Zd 0) (Zd 1))))))
  exact all 7
theorem ZaN:Zaz ["deck","many","found","k","cell","boxes","cells"] ["deck","many"] (Zg Za4):=⟨rfl,rfl,rfl,by decide +kernel,rfl,by decide +kernel,by decide +kernel⟩
theorem Zep (A:ZbS K mg "_law_states" Za4 ["deck","many"]) (T:Txt K mg) (F__law_next:Fn3 P w K mg base 1 "_law_next" ["deck"] ZaO):Fn3 P w K mg base 2 "_law_states" ["deck","many"] ZaS:=
  Fn3.of (N:=["deck","many","found","k","cell","boxes","cells"]) (k:=1) A ZaN fun f cdv A outer s H E hr=>by
    have hu:=ZdW hr
    unfold Zc8
    refine Zj ?_ ?_
    ·exact ZaK 2 ZaN.nd (ZbL Zi)
    ·refine Zj ?_ ?_
     ·refine ZeD ?_ ?_ ?_ ?_ ?_
      ·exact rfl
      ·exact rfl
      ·exact ZdY T.m_range (Zd 1)
      ·exact ZdG 3 ZaN.nd
      ·refine Zj ?_ ?_
       ·exact ZaK 4 ZaN.nd (ZaL (k:=1) (ps:=["deck"]) F__law_next (hr.mono (by decide)) (Zc (Zd 0) Zi))
       ·refine Zj ?_ ?_
        ·exact ZaK 5 ZaN.nd (ZbL (Zc Zn (Zc Zn (Zc Zn (Zc Zn (Zc Zn (Zc Zn (Zc Zn (Zc Zn Zi)))))))))
        ·refine Zj ?_ ?_
         ·exact Zfm (Zd 5) (Zah ZbG (Zd 4) Zn) (Zah ZbG (Zah Zbw (Zd 4) Zn) (Zah ZgW Zn Zn))
         ·refine Zj ?_ ?_
          ·exact Zfm (Zd 5) (Zah ZbG (Zah Zbw (Zd 4) Zn) Zn) (Zah Zfd Zn (Zah ZbG (Zah Zbw (Zd 4) Zn) Zn))
          ·refine Zj ?_ ?_
           ·exact ZaK 6 ZaN.nd (Zfe Zi)
           ·refine Zj ?_ ?_
            ·refine Zbr ?_ ?_ ?_
             ·exact Zch ((ZfO hu)) (Zah ZbG (Zd 4) Zn) Zn
             ·refine Zx ?_
              refine ZaK 6 ?_ ?_
              ·exact ZaN.nd
              ·refine Zfe ?_
               refine Zc ?_ ?_
               ·refine Zfe ?_
                refine Zc ?_ ?_
                ·exact Zah Zfd Zn (Zah ZbG (Zah Zbw (Zd 4) Zn) (Zah ZgW Zn Zn))
                ·exact Zc (Zah Ze3 Zn (Zah ZbG (Zah Zbw (Zd 4) Zn) Zn)) Zi
               ·exact Zc (Zfe (Zc (Zah Ze3 Zn (Zah ZbG (Zah Zbw (Zd 4) Zn) Zn)) (Zc (Zkg ZgO Zn) Zi))) Zi
             ·exact Zay
            ·refine Zx ?_
             refine ZcD ?_
             refine Zbh ?_ ?_
             ·exact Zd 2
             ·exact Zc (Zfe (Zc (Zah ZbG (Zah Zbw (Zd 4) Zn) Zn) (Zc (Zfa (T:="tuple") ZgZ T.m_tuple Zf5 (Zc (Zd 5) Zi)) (Zc (Zd 6) Zi)))) Zi
     ·exact Zx (Zat (Zd 2))
theorem Zds:Zaz ["self","time"] ["self","time"] (Zg ZaG):=⟨rfl,rfl,rfl,by decide +kernel,rfl,by decide +kernel,by decide +kernel⟩
theorem Zdf {C_Teller:Addr} (O_Teller:Zbg K mg C_Teller) (A:ZdF K C_Teller "state_at" "Teller.state_at" ZaG ["self","time"]) (T:Txt K mg) {C_LedgerError C_BadCut C_BadGiven C_BadRow C_NoDispute C_NoRoll C_NoTime C_Spent C_Unfit:Addr} (XO:ExT K mg C_LedgerError C_BadCut C_BadGiven C_BadRow C_NoDispute C_NoRoll C_NoTime C_Spent C_Unfit) (F_is_within:Fn3 P w K mg base 1 "is_within" ["number","many"] Zby):Zgd P w K mg base 2 C_Teller "state_at" ["self","time"] Zav:=
  Zgd.of (N:=["self","time"]) (k:=1) A Zds fun f cdv A outer s H E hr=>by
    have hu:=ZdW hr
    unfold Zcl
    refine Zfc ?_ ?_
    ·refine Zk9 ?_ ?_ ?_
     ·exact Zcf (Zbx (ZaL (k:=1) (ps:=["number","many"]) F_is_within (hr.mono (by decide)) (Zc (Zd 1) (Zc (Zb6 (id:="len") Zck T.m_len ZbH (Zc (ZfT (C:=C_Teller) (c:=[84,101,108,108,101,114]) (m:=[115,116,97,116,101,115]) O_Teller.ok O_Teller.n_states (Zd 0)) Zi)) Zi))))
     ·exact ZeF (Zho (C:=C_NoTime) XO.r_NoTime XO.mg_NoTime (Zc Znw Zi))
     ·exact Zjs Zay
    ·exact Zfc (ZiJ (ZcD (Zbh (ZfT (C:=C_Teller) (c:=[84,101,108,108,101,114]) (m:=[97,115,107,101,100]) O_Teller.ok O_Teller.n_asked (Zd 0)) (Zc (Zd 1) Zi)))) (ZeF (ZiJ (Zat (ZaI ZaE (ZfT (C:=C_Teller) (c:=[84,101,108,108,101,114]) (m:=[115,116,97,116,101,115]) O_Teller.ok O_Teller.n_states (Zd 0)) (Zd 1)))))
theorem Zbu:Zaz ["teller","time","caught","e"] ["teller","time"] (Zg ZaY):=⟨rfl,rfl,rfl,by decide +kernel,rfl,by decide +kernel,by decide +kernel⟩
theorem Zef (A:ZbS K mg "_law_refused" ZaY ["teller","time"]) (T:Txt K mg) {C_Teller:Addr} (O_Teller:Zbg K mg C_Teller) {C_LedgerError C_BadCut C_BadGiven C_BadRow C_NoDispute C_NoRoll C_NoTime C_Spent C_Unfit:Addr} (XO:ExT K mg C_LedgerError C_BadCut C_BadGiven C_BadRow C_NoDispute C_NoRoll C_NoTime C_Spent C_Unfit) (N_Teller_state_at:Zgd P w K mg base 2 C_Teller "state_at" ["self","time"] Zav):Fn3 P w K mg base 3 "_law_refused" ["teller","time"] Zaq:=
  Fn3.of (N:=["teller","time","caught","e"]) (k:=2) A Zbu fun f cdv A outer s H E hr=>by
    have hu:=ZdW hr
    unfold ZcV
    refine Zj ?_ ?_
    ·exact ZaK 2 Zbu.nd ZkF
    ·refine Zj ?_ ?_
     ·exact Zlf (cs:=[[78,111,84,105,109,101]]) (CE:=C_LedgerError) 3 Zbu.nd XO.mg_LedgerError XO.t_LedgerError (fun pn' E'=>(ZeF (Zja (Zjm (C:=C_Teller) (c:=[84,101,108,108,101,114]) (m:=[115,116,97,116,101,95,97,116]) (k:=2) (ps:=["self","time"]) O_Teller.ok N_Teller_state_at (hr.mono (by decide)) (Zd 0) (Zc (Zd 1) Zi))))) (fun A' E'=>(Zx (ZaK 2 Zbu.nd (Zd 3))))
     ·refine Zj ?_ ?_
      ·exact Zbr (Zbx (Zif (cs:=[C_BadCut,C_BadGiven,C_BadRow,C_NoDispute,C_NoRoll,C_Spent,C_Unfit]) T.m_isinstance XO.i_BadCut_BadGiven_BadRow_NoDispute_NoRoll_Spent_Unfit (Zd 2) ((Zcz XO.mg_BadCut (Zcz XO.mg_BadGiven (Zcz XO.mg_BadRow (Zcz XO.mg_NoDispute (Zcz XO.mg_NoRoll (Zcz XO.mg_Spent (Zcz XO.mg_Unfit Zlz)))))))))) (Zx (Zat ZeW)) Zay
      ·exact Zx (Zat (ZdP (ZhY (C:=C_NoTime) T.m_isinstance XO.mg_NoTime XO.i_NoTime (Zd 2)) (Zex (ZiC (T:="ValueError") T.m_isinstance T.m_ValueError Zee XO.i_ValueError (Zd 2)))))
theorem Zdx:Zaz ["cell","many","far"] ["cell","many"] (Zg ZbF):=⟨rfl,rfl,rfl,by decide +kernel,rfl,by decide +kernel,by decide +kernel⟩
theorem Zfv (A:ZbS K mg "_law_time" ZbF ["cell","many"]) (T:Txt K mg):Fn3 P w K mg base 1 "_law_time" ["cell","many"] Zbc:=
  Fn3.of (N:=["cell","many","far"]) (k:=0) A Zdx fun f cdv A outer s H E hr=>by
    have hu:=ZdW hr
    unfold Zea
    refine Zj ?_ ?_
    ·refine Zbr ?_ ?_ ?_
     ·exact Zch Zny (Zah ZbG (Zd 0) Zn) Zn
     ·exact Zx (Zat (Zah ZbG (Zah Zbw (Zd 0) Zn) (Zb6 (id:="max") ((Zmc rfl)) T.m_max ZlW (Zc Zn (Zc (Zd 1) Zi)))))
     ·exact Zay
    ·refine Zj ?_ ?_
     ·exact ZaK 2 Zdx.nd (Zah ZbG (Zah Zbw (Zd 0) Zn) (Zah ZgW Zn Zn))
     ·refine Zx ?_
      refine Zat ?_
      refine ZaI ?_ ?_ ?_
      ·exact ZaE
      ·refine ZbL ?_
       refine Zc ?_ ?_
       ·exact Zn
       ·refine Zc ?_ ?_
        ·exact Zah Zfd (Zd 1) Zn
        ·refine Zc ?_ ?_
         ·exact Zd 1
         ·refine Zc ?_ ?_
          ·exact Zkg ZgO Zn
          ·refine Zc ?_ ?_
           ·exact Zah Zfd Zn (Zd 1)
           ·exact Zc (Zah Ze3 (Zd 1) (Zd 2)) (Zc (Zah Zfd (Zkg ZgO Zn) (Zd 2)) (Zc (Zah Zbw (Zd 1) Zn) Zi))
      ·exact Zah ZbG (Zah Zbw (Zd 0) Zn) Zn
theorem ZeS:Zaz ["teller","states","times","time"] ["teller","states","times","time"] (Zg Zbf):=⟨rfl,rfl,rfl,by decide +kernel,rfl,by decide +kernel,by decide +kernel⟩
theorem ZeX (A:ZbS K mg "_law_asked" Zbf ["teller","states","times","time"]) (T:Txt K mg) {C_Teller:Addr} (O_Teller:Zbg K mg C_Teller) (M_Teller_state_at:Zdl P w K mg base 2 C_Teller "state_at" ["self","time"] Zav) (F__law_same:Fn3 P w K mg base 8 "_law_same" ["found","due"] Zap) (F__law_refused:Fn3 P w K mg base 3 "_law_refused" ["teller","time"] Zaq):Fn3 P w K mg base 9 "_law_asked" ["teller","states","times","time"] Zaj:=
  Fn3.of (N:=["teller","states","times","time"]) (k:=8) A ZeS fun f cdv A outer s H E hr=>by
    have hu:=ZdW hr
    unfold ZdD
    refine Zj ?_ ?_
    ·refine Zbr ?_ ?_ ?_
     ·exact CW.ct (Zi7 (Zch Zkl (Zd 3) Zn) (Zgo (Zch Zno (Zd 3) (Zb6 (id:="len") Zck T.m_len ZbH (Zc (Zd 1) Zi)))))
     ·exact Zx (Zat (ZaL (k:=3) (ps:=["teller","time"]) F__law_refused (hr.mono (by decide)) (Zc (Zd 0) (Zc (Zd 3) Zi))))
     ·exact Zay
    ·refine Zj ?_ ?_
     ·exact ZcD (Zbh (Zd 2) (Zc (Zd 3) Zi))
     ·exact Zx (Zat (ZaL (k:=8) (ps:=["found","due"]) F__law_same (hr.mono (by decide)) (Zc (ZkP (C:=C_Teller) (c:=[84,101,108,108,101,114]) (m:=[115,116,97,116,101,95,97,116]) (k:=2) (ps:=["self","time"]) O_Teller.ok M_Teller_state_at (hr.mono (by decide)) (Zd 0) (Zc (Zd 3) Zi)) (Zc (ZaI ZaE (Zd 1) (Zd 3)) Zi))))
theorem ZeM:Zaz ["self"] ["self"] (Zg Za5):=⟨rfl,rfl,rfl,by decide +kernel,rfl,by decide +kernel,by decide +kernel⟩
theorem Zew {C_Teller:Addr} (O_Teller:Zbg K mg C_Teller) (A:ZdF K C_Teller "many" "Teller.many" Za5 ["self"]) (T:Txt K mg):Zdl P w K mg base 1 C_Teller "many" ["self"] Zbo:=
  Zdl.of (N:=["self"]) (k:=0) A ZeM fun f cdv A outer s H E hr=>by
    have hu:=ZdW hr
    unfold Zc9
    exact Zx (Zat (Zb6 (id:="len") Zck T.m_len ZbH (Zc (ZfT (C:=C_Teller) (c:=[84,101,108,108,101,114]) (m:=[115,116,97,116,101,115]) O_Teller.ok O_Teller.n_states (Zd 0)) Zi)))
theorem ZcN:Zaz ["self"] ["self"] (Zg Zar):=⟨rfl,rfl,rfl,by decide +kernel,rfl,by decide +kernel,by decide +kernel⟩
theorem ZcO {C_Teller:Addr} (O_Teller:Zbg K mg C_Teller) (A:ZdF K C_Teller "times_asked" "Teller.times_asked" Zar ["self"]) (T:Txt K mg):Zdl P w K mg base 1 C_Teller "times_asked" ["self"] Zam:=
  Zdl.of (N:=["self"]) (k:=0) A ZcN fun f cdv A outer s H E hr=>by
    have hu:=ZdW hr
    unfold ZbZ
    exact Zx (Zat (Zfa (T:="list") ZfB T.m_list Zel (Zc (ZfT (C:=C_Teller) (c:=[84,101,108,108,101,114]) (m:=[97,115,107,101,100]) O_Teller.ok O_Teller.n_asked (Zd 0)) Zi)))
theorem ZdK:Zaz ["teller","states","times","kept","found"] ["teller","states","times","kept"] (Zg ZbA):=⟨rfl,rfl,rfl,by decide +kernel,rfl,by decide +kernel,by decide +kernel⟩
theorem Zfp (A:ZbS K mg "_law_told" ZbA ["teller","states","times","kept"]) (T:Txt K mg) {C_Teller:Addr} (O_Teller:Zbg K mg C_Teller) (M_Teller_many:Zdl P w K mg base 1 C_Teller "many" ["self"] Zbo) (M_Teller_times_asked:Zdl P w K mg base 1 C_Teller "times_asked" ["self"] Zam) (F__law_same:Fn3 P w K mg base 8 "_law_same" ["found","due"] Zap):Fn3 P w K mg base 9 "_law_told" ["teller","states","times","kept"] Zad:=
  Fn3.of (N:=["teller","states","times","kept","found"]) (k:=8) A ZdK fun f cdv A outer s H E hr=>by
    have hu:=ZdW hr
    unfold Zd9
    refine Zj ?_ ?_
    ·exact ZaK 4 ZdK.nd (Zei (C:=C_Teller) (c:=[84,101,108,108,101,114]) (m:=[116,105,109,101,115,95,97,115,107,101,100]) (k:=1) (ps:=["self"]) O_Teller.ok M_Teller_times_asked (hr.mono (by decide)) (Zd 0))
    ·refine Zj ?_ ?_
     ·refine Zbr ?_ ?_ ?_
      ·refine CW.ct ?_
       refine Zi7 ?_ ?_
       ·exact Zcf (Zbx (ZaL (k:=8) (ps:=["found","due"]) F__law_same (hr.mono (by decide)) (Zc (Zd 4) (Zc (Zd 2) Zi))))
       ·exact Zgo (Zcf (Zbx (ZaL (k:=8) (ps:=["found","due"]) F__law_same (hr.mono (by decide)) (Zc (Zei (C:=C_Teller) (c:=[84,101,108,108,101,114]) (m:=[109,97,110,121]) (k:=1) (ps:=["self"]) O_Teller.ok M_Teller_many (hr.mono (by decide)) (Zd 0)) (Zc (Zb6 (id:="len") Zck T.m_len ZbH (Zc (Zd 1) Zi)) Zi)))))
      ·exact Zx (Zat ZeW)
      ·exact Zay
     ·refine Zj ?_ ?_
      ·refine Zbr ?_ ?_ ?_
       ·exact Zch Zkl (Zb6 (id:="len") Zck T.m_len ZbH (Zc (Zd 3) Zi)) Zn
       ·refine Zj ?_ ?_
        ·exact ZcD (Zbh (Zd 3) (Zc (Zfe (Zc (Zd 4) (Zc (Zfa (T:="list") ZfB T.m_list Zel (Zc (Zd 2) Zi)) Zi))) Zi))
        ·exact Zx (Zat (ZaL (k:=8) (ps:=["found","due"]) F__law_same (hr.mono (by decide)) (Zc (Zei (C:=C_Teller) (c:=[84,101,108,108,101,114]) (m:=[116,105,109,101,115,95,97,115,107,101,100]) (k:=1) (ps:=["self"]) O_Teller.ok M_Teller_times_asked (hr.mono (by decide)) (Zd 0)) (Zc (Zd 2) Zi))))
       ·exact Zay
      ·exact Zj (ZcD (Zbh (Zd 4) (Zc Zn Zi))) (Zx (Zat (ZaL (k:=8) (ps:=["found","due"]) F__law_same (hr.mono (by decide)) (Zc (Zei (C:=C_Teller) (c:=[84,101,108,108,101,114]) (m:=[116,105,109,101,115,95,97,115,107,101,100]) (k:=1) (ps:=["self"]) O_Teller.ok M_Teller_times_asked (hr.mono (by decide)) (Zd 0)) (Zc (Zd 2) Zi)))))
theorem Zdj:Zaz ["self","states"] ["self","states"] (Zg ZaH):=⟨rfl,rfl,rfl,by decide +kernel,rfl,by decide +kernel,by decide +kernel⟩
theorem Zde {C_Teller:Addr} (O_Teller:Zbg K mg C_Teller) (A:Zji K C_Teller "Teller.__init__" ZaH ["self","states"]) (T:Txt K mg):Mk3 P w K mg base 1 C_Teller ["self","states"] Zy:=
  Mk3.of (N:=["self","states"]) (k:=0) A Zdj fun f cdv A outer s H E hr=>by
    have hu:=ZdW hr
    unfold Zcn
    exact Zj (ZiX (C:=C_Teller) (c:=[84,101,108,108,101,114]) (m:=[115,116,97,116,101,115]) O_Teller.ok O_Teller.n_states (Zd 0) (Zfa (T:="tuple") ZgZ T.m_tuple Zf5 (Zc (Zd 1) Zi))) (Zx (ZiX (C:=C_Teller) (c:=[84,101,108,108,101,114]) (m:=[97,115,107,101,100]) O_Teller.ok O_Teller.n_asked (Zd 0) (ZbL Zi)))
theorem Za2:Zaz ["script","deck","cell","states","handed","tellers","times","kept","which","time","beside","asked","k","amid","found","due","none"] ["script"] (Zg Zdw):=⟨rfl,rfl,rfl,by decide +kernel,rfl,by decide +kernel,by decide +kernel⟩
theorem Zml {f:Addr} {fd:FuncData} (F:Fun K "law" "law" Zdw f fd) (T:Txt K mg) {C_Teller:Addr} (O_Teller:Zbg K mg C_Teller) (M_Teller___init__:Mk3 P w K mg base 1 C_Teller ["self","states"] Zy) (F__law_next:Fn3 P w K mg base 1 "_law_next" ["deck"] ZaO) (F__law_same:Fn3 P w K mg base 8 "_law_same" ["found","due"] Zap) (F__law_states:Fn3 P w K mg base 2 "_law_states" ["deck","many"] ZaS) (F__law_refused:Fn3 P w K mg base 3 "_law_refused" ["teller","time"] Zaq) (F__law_time:Fn3 P w K mg base 1 "_law_time" ["cell","many"] Zbc) (F__law_asked:Fn3 P w K mg base 9 "_law_asked" ["teller","states","times","time"] Zaj) (F__law_told:Fn3 P w K mg base 9 "_law_told" ["teller","states","times","kept"] Zad):ZbR P w K mg base CX0 10 f fd ["script"] (sp3 K 1 Zg7):=
  fn3 (N:=["script","deck","cell","states","handed","tellers","times","kept","which","time","beside","asked","k","amid","found","due","none"]) (k:=9) F Za2 fun cdv A outer s H E hr=>by
    have hu:=ZdW hr
    unfold Zip
    refine Zj ?_ ?_
    ·exact ZaK 1 Za2.nd (ZbL (Zc (Zm3 ZnE (Zd 0) Zjy (Zfu Zn)) (Zc Zn Zi)))
    ·refine Zj ?_ ?_
     ·exact ZaK 2 Za2.nd (ZaL (k:=1) (ps:=["deck"]) F__law_next (hr.mono (by decide)) (Zc (Zd 1) Zi))
     ·refine Zj ?_ ?_
      ·refine ZaK 3 ?_ ?_
       ·exact Za2.nd
       ·refine ZbL ?_
        refine Zc ?_ ?_
        ·exact ZaL (k:=2) (ps:=["deck","many"]) F__law_states (hr.mono (by decide)) (Zc (Zd 1) (Zc (Zah ZbG (Zd 2) Zn) Zi))
        ·exact Zc (ZaL (k:=2) (ps:=["deck","many"]) F__law_states (hr.mono (by decide)) (Zc (Zd 1) (Zc (Zah ZbG (Zah Zbw (Zd 2) Zn) Zn) Zi))) Zi
      ·refine Zj ?_ ?_
       ·refine ZaK 4 ?_ ?_
        ·exact Za2.nd
        ·refine ZbL ?_
         refine Zc ?_ ?_
         ·exact Zfa (T:="list") ZfB T.m_list Zel (Zc (ZaI ZaE (Zd 3) Zn) Zi)
         ·exact Zc (Zfa (T:="list") ZfB T.m_list Zel (Zc (ZaI ZaE (Zd 3) Zn) Zi)) Zi
       ·refine Zj ?_ ?_
        ·refine ZaK 5 ?_ ?_
         ·exact Za2.nd
         ·refine ZbL ?_
          refine Zc ?_ ?_
          ·exact Zl7 (C:=C_Teller) (c:=[84,101,108,108,101,114]) (k:=1) (ps:=["self","states"]) O_Teller.ok M_Teller___init__ O_Teller.mg (hr.mono (by decide)) (Zc (ZaI ZaE (Zd 4) Zn) Zi)
          ·exact Zc (Zl7 (C:=C_Teller) (c:=[84,101,108,108,101,114]) (k:=1) (ps:=["self","states"]) O_Teller.ok M_Teller___init__ O_Teller.mg (hr.mono (by decide)) (Zc (ZaI ZaE (Zd 4) Zn) Zi)) Zi
        ·refine Zj ?_ ?_
         ·exact ZaK 6 Za2.nd (ZbL (Zc (ZbL Zi) (Zc (ZbL Zi) Zi)))
         ·refine Zj ?_ ?_
          ·exact ZaK 7 Za2.nd (ZbL Zi)
          ·refine Zj ?_ ?_
           ·refine ZeD ?_ ?_ ?_ ?_ ?_
            ·exact rfl
            ·exact rfl
            ·exact ZkT (Zm3 ZnE (Zd 0) (Zfu Zn) (Zfu Zn))
            ·exact ZdG 2 Za2.nd
            ·refine Zj ?_ ?_
             ·exact ZaK 8 Za2.nd (Zah ZbG (Zd 2) Zn)
             ·refine Zj ?_ ?_
              ·exact ZaK 9 Za2.nd (ZaL (k:=1) (ps:=["cell","many"]) F__law_time (hr.mono (by decide)) (Zc (Zah Zbw (Zd 2) Zn) (Zc (Zb6 (id:="len") Zck T.m_len ZbH (Zc (ZaI ZaE (Zd 3) (Zd 8)) Zi)) Zi)))
              ·refine Zj ?_ ?_
               ·refine Zbr ?_ ?_ ?_
                ·refine Zcf ?_
                 exact Zbx (ZaL (k:=9) (ps:=["teller","states","times","time"]) F__law_asked (hr.mono (by decide)) (Zc (ZaI ZaE (Zd 5) (Zd 8)) (Zc (ZaI ZaE (Zd 3) (Zd 8)) (Zc (ZaI ZaE (Zd 6) (Zd 8)) (Zc (Zd 9) Zi)))))
                ·exact Zx (Zat ZeW)
                ·exact Zay
               ·refine Zj ?_ ?_
                ·exact ZaK 10 Za2.nd (Zah Zfd Zn (Zd 8))
                ·refine Zj ?_ ?_
                 ·exact ZaK 11 Za2.nd (ZaI ZaE (Zd 6) (Zd 10))
                 ·refine Zj ?_ ?_
                  ·refine Zbr ?_ ?_ ?_
                   ·exact Zch ((ZfO hu)) (Zah ZbG (Zd 2) Zn) Zn
                   ·refine Zx ?_
                    refine Zbr ?_ ?_ ?_
                    ·exact Zcf (Zbx (ZaL (k:=9) (ps:=["teller","states","times","kept"]) F__law_told (hr.mono (by decide)) (Zc (ZaI ZaE (Zd 5) (Zd 10)) (Zc (ZaI ZaE (Zd 3) (Zd 10)) (Zc (Zd 11) (Zc (Zd 7) Zi))))))
                    ·exact Zx (Zat ZeW)
                    ·exact Zay
                   ·exact Zay
                  ·refine Zx ?_
                   refine Zbr ?_ ?_ ?_
                   ·exact Zch ((ZfO hu)) (Zah ZbG (Zd 2) Zn) Zn
                   ·exact Zj (ZcD (Zbh (ZaI ZaE (Zd 4) (Zd 8)) (Zc (Zd 6) Zi))) (Zx (ZcD (ZeO (ZaI ZaE (Zd 4) (Zd 8)))))
                   ·exact Zay
           ·refine Zj ?_ ?_
            ·refine ZeD ?_ ?_ ?_ ?_ ?_
             ·exact rfl
             ·exact rfl
             ·exact ZdY T.m_range Zn
             ·exact ZdG 12 Za2.nd
             ·refine Zj ?_ ?_
              ·refine Zbr ?_ ?_ ?_
               ·refine Zcf ?_
                exact Zbx (ZaL (k:=9) (ps:=["teller","states","times","kept"]) F__law_told (hr.mono (by decide)) (Zc (ZaI ZaE (Zd 5) (Zd 12)) (Zc (ZaI ZaE (Zd 3) (Zd 12)) (Zc (ZaI ZaE (Zd 6) (Zd 12)) (Zc (Zd 7) Zi)))))
               ·exact Zx (Zat ZeW)
               ·exact Zay
              ·refine Zj ?_ ?_
               ·refine ZeD ?_ ?_ ?_ ?_ ?_
                ·exact rfl
                ·exact rfl
                ·refine ZkT ?_
                 exact ZbL (Zc (Zb6 (id:="len") Zck T.m_len ZbH (Zc (ZaI ZaE (Zd 3) (Zd 12)) Zi)) (Zc (Zkg ZgO Zn) (Zc (Zah ZgW Zn Zn) Zi)))
                ·exact ZdG 9 Za2.nd
                ·exact Zx (Zbr (Zcf (Zbx (ZaL (k:=3) (ps:=["teller","time"]) F__law_refused (hr.mono (by decide)) (Zc (ZaI ZaE (Zd 5) (Zd 12)) (Zc (Zd 9) Zi))))) (Zx (Zat ZeW)) Zay)
               ·refine Zj ?_ ?_
                ·exact ZaK 13 Za2.nd (Zah Zbw (Zb6 (id:="len") Zck T.m_len ZbH (Zc (ZaI ZaE (Zd 3) (Zd 12)) Zi)) Zn)
                ·refine Zj ?_ ?_
                 ·refine Zbr ?_ ?_ ?_
                  ·refine CW.ct ?_
                   refine Zlu ?_ ?_
                   ·exact Zch Zny (Zd 13) Zn
                   ·refine Zjw ?_
                    refine Zcf ?_
                    exact Zbx (ZaL (k:=9) (ps:=["teller","states","times","time"]) F__law_asked (hr.mono (by decide)) (Zc (ZaI ZaE (Zd 5) (Zd 12)) (Zc (ZaI ZaE (Zd 3) (Zd 12)) (Zc (ZaI ZaE (Zd 6) (Zd 12)) (Zc (Zd 13) Zi)))))
                  ·exact Zx (Zat ZeW)
                  ·exact Zay
                 ·refine Zx ?_
                  refine Zbr ?_ ?_ ?_
                  ·refine Zcf ?_
                   exact Zbx (ZaL (k:=9) (ps:=["teller","states","times","kept"]) F__law_told (hr.mono (by decide)) (Zc (ZaI ZaE (Zd 5) (Zd 12)) (Zc (ZaI ZaE (Zd 3) (Zd 12)) (Zc (ZaI ZaE (Zd 6) (Zd 12)) (Zc (Zd 7) Zi)))))
                  ·exact Zx (Zat ZeW)
                  ·exact Zay
            ·refine Zj ?_ ?_
             ·refine ZeD ?_ ?_ ?_ ?_ ?_
              ·exact rfl
              ·exact rfl
              ·exact ZkT (Zd 7)
              ·exact ZlO rfl (Zf3 14 Za2.nd (Zf3 15 Za2.nd ZjP))
              ·exact Zx (Zbr (Zcf (Zbx (ZaL (k:=8) (ps:=["found","due"]) F__law_same (hr.mono (by decide)) (Zc (Zd 14) (Zc (Zd 15) Zi))))) (Zx (Zat ZeW)) Zay)
             ·refine Zj ?_ ?_
              ·exact ZaK 16 Za2.nd (Zl7 (C:=C_Teller) (c:=[84,101,108,108,101,114]) (k:=1) (ps:=["self","states"]) O_Teller.ok M_Teller___init__ O_Teller.mg (hr.mono (by decide)) (Zc (ZbL Zi) Zi))
              ·refine Zx ?_
               refine Zat ?_
               refine ZdP ?_ ?_
               ·exact ZaL (k:=3) (ps:=["teller","time"]) F__law_refused (hr.mono (by decide)) (Zc (Zd 16) (Zc Zn Zi))
               ·refine ZdP ?_ ?_
                ·exact ZaL (k:=9) (ps:=["teller","states","times","kept"]) F__law_told (hr.mono (by decide)) (Zc (Zd 16) (Zc (ZbL Zi) (Zc (ZbL Zi) (Zc (Zd 7) Zi))))
                ·exact Zex (ZaL (k:=9) (ps:=["teller","states","times","kept"]) F__law_told (hr.mono (by decide)) (Zc (Zd 16) (Zc (ZbL Zi) (Zc (ZbL Zi) (Zc (Zah ZgN (ZbL (Zc ZkF Zi)) Zn) Zi)))))
end
end Law
set_option maxHeartbeats 200000
namespace Law
open L3
theorem ZfW (n d:Nat):sIx n d none = d:=rfl
theorem ZgR (n d k:Nat):sIx n d (some (k:Int)) = min k n:=by
 have h:¬ ((k:Int) < 0):=(fun z=>iN [_] [] 1 7211153 T1 z)
 simp only [sIx,if_neg h,Int.toNat_natCast]
theorem ZlI {α:Type} (w:List α) (k:Nat):cutD w none (some (k:Int)) = w.take k:=by
 unfold cutD
 rw [ZgR,ZfW]
 by_cases h:k ≤ w.length
 ·rw [Nat.min_eq_left h]; simp
 ·rw [Nat.min_eq_right (by exact lB 1 1052737 T1 h),Nat.sub_zero,List.drop_zero,List.take_of_length_le (Nat.le_refl _),List.take_of_length_le (by exact lB 1 1052737 T1 h)]
theorem Znp {i j:Int} (h:-(2 ^ 64) < i ∧ i < 2 ^ 64):Zca i j = true:=by
 unfold Zca; rw [Bool.or_eq_true]; left; simp only [Bool.and_eq_true,decide_eq_true_eq]; exact h
theorem mul_r {i j:Int} (h:-(2 ^ 64) < j ∧ j < 2 ^ 64):Zca i j = true:=by
 unfold Zca; rw [Bool.or_eq_true]; right; simp only [Bool.and_eq_true,decide_eq_true_eq]; exact h
theorem ZcB (x:Int) (m:Nat) (h:0 < m):∃ a:Nat,x % (m:Int) = a ∧ a < m:=by
 have h1:=Int.emod_nonneg x (b:=(m:Int)) (by exact fun z=>iN [_] [] 2 416093702305 T1 z h)
 have h2:=Int.emod_lt_of_pos x (b:=(m:Int)) (by exact iN [_] [] 1 149491217 T1 h)
 exact ⟨(x % (m:Int)).toNat,(Int.toNat_of_nonneg h1).symm,by exact iN [_,_] [_] 2 18698308976785 T1 h2 (Int.toNat_of_nonneg h1)⟩
theorem ZcX {M M':Store} {d:D} (h:M'.length = M.length):ZbQ M d M' = .ok d M':=by
 unfold ZbQ
 rw [List.take_of_length_le (Nat.le_of_eq h)]
 split <;> rfl
noncomputable abbrev TEL:List Nat:=[84,101,108,108,101,114]
noncomputable abbrev STS:List Nat:=[115,116,97,116,101,115]
noncomputable abbrev ASK:List Nat:=[97,115,107,101,100]
noncomputable abbrev ZaD (ss:List D) (a:Nat):MO:=.ins TEL [(STS,.tup ss),(ASK,.ref a)]
theorem Zhy (a b:Int) (M:Store):Zby [.int a,.int b] M = .ok (.bl (decide (0 ≤ a) && decide (a < b))) M:=by
 by_cases h:0 ≤ a <;> simp [Zby,ZcZ,Zr,Zaw,Zau,sIf,Zac,ZaC,mkF,ZbQ,below,belowL,Zca,h]
theorem ZfG {ss:List D} {a n:Nat} {M:Store} (h:M[n]? = some (ZaD ss a)):Zcm TEL STS (.ref n) M = .ok (.tup ss) M:=by
 simp only [Zcm,h,if_true]; rfl
theorem Zhh {ss:List D} {a n:Nat} {M:Store} (h:M[n]? = some (ZaD ss a)):Zcm TEL ASK (.ref n) M = .ok (.ref a) M:=by
 simp only [Zcm,h,if_true]; rfl
theorem ZdL {c f:List Nat} {o:E3} {env:Zz} {M M1:Store} {a d:D} (h1:o env M = .ok a M1) (h2:Zcm c f a M1 = .ok d M1):e1 (Zcm c f) o env M = .ok d M1:=Zbz h1 h2
theorem Zci {c m:List Nat} {F:F3} {o:E3} {g:EL3} {env:Zz} {M M1 M2 M3:Store} {a d:D} {ds:List D} (h1:o env M = .ok a M1) (hi:Zeq c m a M1 = true) (h2:g env M1 = .ok ds M2) (h3:F (a :: ds) M2 = .ok d M3):ZaX c m F o g env M = .ok d M3:=by
 simp only [ZaX,h1,R3.bind,hi,if_true,h2,h3]
theorem ZbU {ss:List D} {a n:Nat} {M:Store} {m:List Nat} (h:M[n]? = some (ZaD ss a)) (h1:decide (m = STS) = false) (h2:decide (m = ASK) = false):Zeq TEL m (.ref n) M = true:=by
 have e1:¬ m = STS:=of_decide_eq_false h1
 have e2:¬ m = ASK:=of_decide_eq_false h2
 simp [Zeq,h,ZaD,List.lookup,beq_false_of_ne e1,beq_false_of_ne e2]
theorem ZjV {ss:List D} {a n:Nat} {M:Store} (h:M[n]? = some (ZaD ss a)):Zbo [.ref n] M = .ok (.int (ss.length:Int)) M:=
 (Zcg (env:=[some (.ref n)]) (M':=M) (d:=.int (ss.length:Int)) (Za9 (Zbp (ZdL rfl (ZfG h)) rfl))).trans (ZcX rfl)
theorem ZgI {f:E3} {env:Zz} {M M':Store} {d:D} (h:f env M = .ok d M'):eNo f env M = .ok d M':=by simp only [eNo,h]
theorem Zjg {f:EL3} {env:Zz} {M M':Store} {d:List D} (h:f env M = .ok d M'):Ziu f env M = .ok d M':=by simp only [Ziu,h]
theorem ZiK {f:S3} {env e:Zz} {M M':Store} (h:f env M = .nx e M'):sNo f env M = .nx e M':=by rw [sNo,h]
theorem Zmm {f:S3} {env:Zz} {M M':Store} {d:D} (h:f env M = .rt d M'):sNo f env M = .rt d M':=by rw [sNo,h]
theorem Zi0 {f g:S3} {env:Zz} {M M':Store} {x:X3} (h:f env M = .exc x M'):Zr f g env M = .exc x M':=by rw [Zr,h]
theorem Zj3 {ps n:Nat} {body:S3} {ds:List D} {env:Zz} {M M':Store} {x:X3} (h:body env M = .exc x M') (hl:ds.length = ps:=by rfl) (he:ds.map some ++ List.replicate (n - ps) none = env:=by rfl):mkF ps n body ds M = .exc x M':=by
 subst he; rw [mkF,if_pos hl,h]
theorem ZhB {c:List Nat} {g:EL3} {env:Zz} {M M1:Store} {d:D} (h:g env M = .ok [d] M1):ZeA c g env M = .exc ⟨c,.ref M1.length⟩ (M1 ++ [.ins (0 :: c) []]):=by rw [ZeA,h]
theorem Zhk {f:E3} {env:Zz} {M M':Store} {x:X3} (h:f env M = .exc x M'):ZaC f env M = .exc x M':=by rw [ZaC,h]
theorem Ziv {cs:List (List Nat)} {j:Nat} {b g:S3} {env e1 e2:Zz} {M M' M2:Store} {x:X3} (h:b env M = .exc x M') (hc:cs.contains x.cls = true) (hg:g (env.set j (some x.arg)) M' = .nx e1 M2) (he:e1.set j none = e2):ZhR cs j b g env M = .nx e2 M2:=by
 rw [ZhR,h]; simp only [hc,if_true,hg,he]
theorem Zf1 {c m:List Nat} {F:F3} {o:E3} {g:EL3} {env:Zz} {M M1 M2 M3:Store} {a:D} {ds:List D} {x:X3} (h1:o env M = .ok a M1) (hi:Zeq c m a M1 = true) (h2:g env M1 = .ok ds M2) (h3:F (a :: ds) M2 = .exc x M3):ZaX c m F o g env M = .exc x M3:=by
 simp only [ZaX,h1,R3.bind,hi,if_true,h2,h3]
theorem Zhc {yes no:List (List Nat)} {c:List Nat} {M:Store} {n:Nat} {fs:List (List Nat × D)} (h:M[n]? = some (.ins (0 :: c) fs)) (hy:yes.contains c = true):Za1 yes no (.ref n) M = .ok (.bl true) M:=by simp only [Za1,h,hy,if_true]
theorem ZjS {yes no:List (List Nat)} {c:List Nat} {M:Store} {n:Nat} {fs:List (List Nat × D)} (h:M[n]? = some (.ins (0 :: c) fs)) (hy:yes.contains c = false) (hn:no.contains c = true):Za1 yes no (.ref n) M = .ok (.bl false) M:=by
 simp only [Za1,h,hy,hn,if_true,Bool.false_eq_true,if_false]
noncomputable def ZaB:Nat → D → Bool
 | _,.int _=>true
 | _,.str _=>true
 | _,.bl _=>true
 | n + 1,.tup ds=>decide (ds.length ≤ 1000) && ds.all (ZaB n)
 | _,_=>false
theorem ZeK:∀ (n:Nat) (d:D) (M:Store),ZaB n d = true → Zal (n + 1) [d,d] M = .ok (.bl true) M:=by
 intro n
 induction n with
 | zero=>
  intro d M h
  cases d with
  | str x=>simp [Zal,Zax,Zr,Zaw,Zau,sIf,Zac,ZaC,mkF,ZbQ,below,belowL,Zca]
  | int i=>simp [Zal,Zax,Zr,Zaw,Zau,sIf,Zac,ZaC,mkF,ZbQ,below,belowL,Zca]
  | bl b=>simp [Zal,Zax,Zr,Zaw,Zau,sIf,Zac,ZaC,mkF,ZbQ,below,belowL,Zca]
  | _=>simp [ZaB] at h
 | succ n ih=>
  intro d M h
  cases d with
  | str x=>simp [Zal,Zax,Zr,Zaw,Zau,sIf,Zac,ZaC,mkF,ZbQ,below,belowL,Zca]
  | int i=>simp [Zal,Zax,Zr,Zaw,Zau,sIf,Zac,ZaC,mkF,ZbQ,below,belowL,Zca]
  | bl b=>simp [Zal,Zax,Zr,Zaw,Zau,sIf,Zac,ZaC,mkF,ZbQ,below,belowL,Zca]
  | tup ds=>
   simp only [ZaB,Bool.and_eq_true,decide_eq_true_eq,List.all_eq_true] at h
   obtain ⟨hl,hd⟩:=h
   show mkF 2 2 (Zax (Zal (n + 1))) [.tup ds,.tup ds] M = _
   generalize Zal (n + 1) = F at ih
   have lc:=ZlT (α:=Nat) (enc:=fun k=>D.int (0 + (k:Int))) (h:=fun _=>D.bl true) (own:=1) (i:=2) (it:=Zcw (ZaJ Za0 (Za (Zb 1) (Ze)))) (elt:=Zaa F (Za (e2 Zh (Zb 0) (Zb 2)) (Za (e2 Zh (Zb 1) (Zb 2)) (Ze)))) (env:=[some (.tup ds),some (.tup ds)]) (M:=M) (M1:=M) (lock:=none) (as:=List.range ds.length)
    (by
     have:(ds.length:Int) ≤ 1000000 ∧ -1000000 ≤ (ds.length:Int):=⟨iN [_] [] 1 0xf42405b0883e83b001 T1 hl,iN [_] [] 0 615291837336 T1⟩
     simp [this,ZcQ]) (fun _ h=>by cases h)
    (fun k hk M=>by
     have hk':k < ds.length:=by simpa using hk
     have hg:ds[k]? = some ds[k]:=by simp [hk']
     have:=ih ds[k] M (hd _ (List.getElem_mem hk'))
     have gk:Zbk ds (0 + (k:Int)) = some ds[k]:=by rw [Int.zero_add,Zce,hg]
     simp only [Zaa,Za,e2,Zb,Ze,List.cons_append,List.nil_append,List.replicate,List.set,List.getElem?_cons_zero,List.getElem?_cons_succ,R3.bind,Zh,gk,this]) (by simp; exact lA 1 0x186a05b003e83b001 T1 hl)
   refine Rt.pure (G:=[.lst ((List.range ds.length).map fun _=>D.bl true)]) (env:=[some (.tup ds),some (.tup ds)]) ?_ rfl
   unfold Zax
   refine Zdy ((Zc1 (M':=M) (by exact rfl)).trans ((Zm (Zab (M':=M) (by exact rfl))).trans (Za9 ((Zdm (M1:=M) (by simp)).trans (Zbp lc ?_)))))
   simp [allB,isB,isT]
  | _=>simp [ZaB] at h
theorem ZhI (n:Nat) (ds:List D) (p q:Nat) (M:Store) (hp:M[p]? = some (.lst ds)) (hq:M[q]? = some (.lst ds)) (h:∀ d ∈ ds,ZaB n d = true) (hl:ds.length ≤ 10000):Zal (n + 2) [.ref p,.ref q] M = .ok (.bl true) M:=by
 show mkF 2 2 (Zax (Zal (n + 1))) [.ref p,.ref q] M = _
 have ih:=ZeK n
 generalize Zal (n + 1) = F at ih
 have b:(ds.length:Int) ≤ 1000000 ∧ -1000000 ≤ (ds.length:Int):=⟨iN [_] [] 1 0xf42405b08827104b001 T1 hl,iN [_] [] 0 615291837336 T1⟩
 have ir:Zcw (ZaJ Za0 (Za (Zb 1) (Ze))) [some (.ref p),some (.ref q)] M = .ok ⟨(List.range ds.length).map fun (k:Nat)=>D.int (0 + (k:Int)),none⟩ M:=by simp [hq,b,ZcQ]
 obtain ⟨es,le,re,hh⟩:=ZfU (it:=⟨(List.range ds.length).map fun (k:Nat)=>D.int (0 + (k:Int)),none⟩) (i:=2) (n:=M.length) (elt:=Zaa F (Za (e2 Zh (Zb 0) (Zb 2)) (Za (e2 Zh (Zb 1) (Zb 2)) (Ze)))) (R:=fun _ e=>e = .bl true) (env0:=[some (.ref p),some (.ref q),none]) ((List.range ds.length).map fun (k:Nat)=>D.int (0 + (k:Int))) [] [some (.ref p),some (.ref q),none] (M ++ [.lst []]) (fun _=>rfl)
  (fun d hd x=>by
   obtain ⟨k,hk,rfl⟩:=List.mem_map.mp hd
   have hk':k < ds.length:=by simpa using hk
   have hg:ds[k]? = some ds[k]:=by simp [hk']
   have:=h _ (List.getElem_mem hk')
   generalize ds[k] = e at hg this
   have gk:Zbk ds (0 + (k:Int)) = some e:=by rw [Int.zero_add,Zce,hg]
   rw [show (M ++ [MO.lst []]).set M.length (.lst x) = M ++ [.lst x] by simp]
   have g1:=Zae hp [.lst x]
   have g2:=Zae hq [.lst x]
   refine ⟨.bl true,Zbl (a:=e) (b:=e) (M1:=M ++ [.lst x]) (M2:=M ++ [.lst x]) ?_ ?_ (ih e _ this),rfl⟩
   ·simp only [e2,Zb,List.set,List.getElem?_cons_zero,List.getElem?_cons_succ,R3.bind,Zh,g1,gk]
   ·simp only [e2,Zb,List.set,List.getElem?_cons_zero,List.getElem?_cons_succ,R3.bind,Zh,g2,gk])
  (fun _=>rfl) (by simp) (by simp; exact lA 1 0xf42405b0027104b001 T1 hl)
 have all:allB es = some true:=by
  have:∀ e ∈ es,e = .bl true:=fun e he=>by
   obtain ⟨j,hj,ej⟩:=List.mem_iff_getElem.mp he
   exact re j (((List.range ds.length).map fun (k:Nat)=>D.int (0 + (k:Int)))[j]'(by rw [← le]; exact hj)) e (List.getElem?_eq_getElem _) (by rw [← ej]; simp)
  unfold allB
  rw [if_pos (List.all_eq_true.mpr fun e he=>by rw [this e he]; rfl),List.all_eq_true.mpr fun e he=>by rw [this e he]; rfl]
 have lc:(eLC (Zcw (ZaJ Za0 (Za (Zb 1) (Ze)))) 1 (Zcv 2) [] (Zaa F (Za (e2 Zh (Zb 0) (Zb 2)) (Za (e2 Zh (Zb 1) (Zb 2)) (Ze))))) [some (.ref p),some (.ref q)] M = .ok (.ref M.length) (M ++ [.lst es]):=by
  rw [ZiB ir]
  refine Eq.trans hh ?_
  simp
 refine Rt.pure (G:=[.lst es]) (env:=[some (.ref p),some (.ref q)]) ?_ rfl
 unfold Zax
 refine Zdy ((Zc1 (M':=M) (by simp [hq])).trans ((Zm (Zab (M':=M) (by simp [hp,hq]))).trans (Za9 ((Zdm (M1:=M) (by simp [hp,hq])).trans (Zbp lc ?_)))))
 simp [all]
noncomputable abbrev NT:List Nat:=[78,111,84,105,109,101]
theorem ZfQ {ss:List D} {a n:Nat} {M:Store} {t:Int} {b:Bool} (h:M[n]? = some (ZaD ss a)) (hb:(decide (0 ≤ t) && decide (t < (ss.length:Int))) = b):(e1 ZaM (Zaa Zby (Za (Zb 1) (Za (ZaJ Za0 (Za (e1 (Zcm TEL STS) (Zb 0)) (Ze))) (Ze))))) [some (.ref n),some (.int t)] M = .ok (.bl (!b)) M:=
 Zbz (Zbl rfl (Zbp (ZdL rfl (ZfG h)) rfl) ((Zhy _ _ _).trans (by rw [hb]))) rfl
theorem Zf0 {ss ts:List D} {a n k:Nat} {d:D} {M:Store} (h:M[n]? = some (ZaD ss a)) (ha:M[a]? = some (.lst ts)) (hn:n ≠ a) (hd:ss[k]? = some d) (hz:ts.length < 1000000):Zav [.ref n,.int (k:Int)] M = .ok d (M.set a (.lst (ts ++ [.int (k:Int)]))):=by
 have hk:k < ss.length:=(List.getElem?_eq_some_iff.mp hd).1
 have h':(M.set a (.lst (ts ++ [.int (k:Int)])))[n]? = some (ZaD ss a):=by rw [List.getElem?_set_ne (Ne.symm hn)]; exact h
 have w:=ZfQ (t:=(k:Int)) (b:=true) h (by rw [decide_eq_true (Int.natCast_nonneg _),decide_eq_true (Int.ofNat_lt.2 hk)]; rfl)
 refine (Zcg (env:=[some (.ref n),some (.int (k:Int))]) (M':=M.set a (.lst (ts ++ [.int (k:Int)]))) (d:=d) ?_).trans (ZcX (by simp))
 refine (Zm ((Zni (M':=M) (ZgI w)).trans (ZiK rfl))).trans ((Zm (ZiK (Zbq (Zc2 (ZdL rfl (Zhh h)) ha rfl ha hz)))).trans (Zmm (Za9 (Zf (ZdL rfl (ZfG h')) rfl (Zkh ?_)))))
 rw [Zce]; exact hd
theorem ZfR {ss:List D} {a n:Nat} {t:Int} {M:Store} (h:M[n]? = some (ZaD ss a)) (ht:(decide (0 ≤ t) && decide (t < (ss.length:Int))) = false):Zav [.ref n,.int t] M = .exc ⟨NT,.ref M.length⟩ (M ++ [.ins (0 :: NT) []]):=
 Zj3 (env:=[some (.ref n),some (.int t)]) (Zi0 ((Zc1 (M':=M) (ZgI (ZfQ h ht))).trans (ZhB rfl)))
theorem ZcK {ss:List D} {a n:Nat} {t:Int} {M:Store} (h:M[n]? = some (ZaD ss a)) (ht:(decide (0 ≤ t) && decide (t < (ss.length:Int))) = false):Zaq [.ref n,.int t] M = .ok (.bl true) M:=by
 refine Rt.pure (G:=[.ins (0 :: NT) []]) (env:=[some (.ref n),some (.int t),none,none]) ?_ rfl
 have g:(M ++ [MO.ins (0 :: NT) []])[M.length]? = some (.ins (0 :: NT) []):=Zak _ _ _
 refine (Zm (ZaF rfl)).trans ((Zm (Ziv (x:=⟨NT,.ref M.length⟩) (M':=M ++ [.ins (0 :: NT) []]) (Zhk (Zf1 (ZgI rfl) (ZbU h rfl rfl) (Zjg rfl) (ZfR h ht))) rfl (ZaF rfl) rfl)).trans
  ((Zm (Zab (M':=M ++ [.ins (0 :: NT) []]) (Zbz rfl (ZjS g rfl rfl)))).trans (Za9 ((Zdm (Zbz rfl (Zhc g rfl))).trans (Zbz rfl (Zhc g rfl))))))
theorem ZfP {ss ts:List D} {a n sl tl:Nat} {t:Int} {M:Store} (h:M[n]? = some (ZaD ss a)) (hs:M[sl]? = some (.lst ss)) (ht:(decide (0 ≤ t) && decide (t < (ss.length:Int))) = false):Zaj [.ref n,.ref sl,.ref tl,.int t] M = .ok (.bl true) M:=by
 refine (Zcg (env:=[some (.ref n),some (.ref sl),some (.ref tl),some (.int t)]) (M':=M) (d:=.bl true) ?_).trans (ZcX rfl)
 refine Zdy ((Zc1 (M':=M) ?_).trans (Za9 (Zbl rfl rfl (ZcK h ht))))
 by_cases h0:t < 0
 ·exact ZmZ (Zf rfl rfl (by simp only [Zed,decide_eq_true h0]))
 ·have h1:(ss.length:Int) ≤ t:=by
   rw [decide_eq_true (by omega:0 ≤ t),Bool.true_and] at ht
   have:=of_decide_eq_false ht; omega
  exact (Zic (Zf rfl rfl (by simp only [Zed,decide_eq_false h0]))).trans (Zf rfl (Zbp rfl (ZbI hs)) (by simp only [Zh9,decide_eq_true h1]))
theorem Zfg {ss ts:List D} {a n sl tl k:Nat} {d:D} {M:Store} (h:M[n]? = some (ZaD ss a)) (ha:M[a]? = some (.lst ts)) (hs:M[sl]? = some (.lst ss)) (ht:M[tl]? = some (.lst ts)) (hd:ss[k]? = some d) (hz:ts.length < 1000000) (pd:ZaB 6 d = true)
  (h1:n ≠ a) (h2:n ≠ tl) (h3:a ≠ tl) (h4:sl ≠ a) (h5:sl ≠ tl):Zaj [.ref n,.ref sl,.ref tl,.int (k:Int)] M = .ok (.bl true) ((M.set tl (.lst (ts ++ [.int (k:Int)]))).set a (.lst (ts ++ [.int (k:Int)]))):=by
 have hk:k < ss.length:=(List.getElem?_eq_some_iff.mp hd).1
 have g1:(M.set tl (.lst (ts ++ [.int (k:Int)])))[n]? = some (ZaD ss a):=by rw [List.getElem?_set_ne (Ne.symm h2)]; exact h
 have g2:(M.set tl (.lst (ts ++ [.int (k:Int)])))[a]? = some (.lst ts):=by rw [List.getElem?_set_ne (Ne.symm h3)]; exact ha
 have g3:((M.set tl (.lst (ts ++ [.int (k:Int)]))).set a (.lst (ts ++ [.int (k:Int)])))[sl]? = some (.lst ss):=by rw [List.getElem?_set_ne (Ne.symm h4),List.getElem?_set_ne (Ne.symm h5)]; exact hs
 refine (Zcg (env:=[some (.ref n),some (.ref sl),some (.ref tl),some (.int (k:Int))]) (M':=(M.set tl (.lst (ts ++ [.int (k:Int)]))).set a (.lst (ts ++ [.int (k:Int)]))) (d:=.bl true) ?_).trans (ZcX (by simp))
 refine (Zm (Zab (M':=M) ((Zic (M1:=M) (Zf rfl rfl (by simp only [Zed,decide_eq_false (Int.not_lt.2 (Int.natCast_nonneg k))]))).trans (Zf rfl (Zbp rfl (ZbI hs)) (by simp only [Zh9,decide_eq_false (Int.not_le.2 (Int.ofNat_lt.2 hk))]))))).trans
  ((Zm (Zbq (Zc2 rfl ht rfl ht hz))).trans (Za9 (Zbl (Zci rfl (ZbU g1 rfl rfl) rfl (Zf0 g1 g2 h1 hd hz)) (Zf rfl rfl (Zq g3 ((Zce _ _).trans hd))) (ZeK 6 d _ pd))))
theorem Zb8 {ss ts:List D} {a n:Nat} {M:Store} (h:M[n]? = some (ZaD ss a)) (ha:M[a]? = some (.lst ts)) (hz:ts.length ≤ 1000000):Zam [.ref n] M = .ok (.ref M.length) (M ++ [.lst ts]):=by
 refine (Zcg (env:=[some (.ref n)]) (M':=M ++ [.lst ts]) (d:=.ref M.length) (Za9 (Zbp (ZdL rfl (Zhh h)) ?_))).trans (by simp [ZbQ,below])
 simp only [ZbT,ha]
 simp [hz]
theorem Zjr {ss:List D} {m:Nat} {M:Store} (hM:M[m]? = some (.lst ss)):Zy [.ref M.length,.ref m] (M ++ [.ins TEL []]) = .ok .non (M ++ [ZaD ss (M.length + 1),.lst []]):=by
 have g0:(M ++ [MO.ins TEL []])[M.length]? = some (.ins TEL []):=Zak _ _ _
 have s1:(M ++ [MO.ins TEL []]).set M.length (.ins TEL [(STS,.tup ss)]) = M ++ [.ins TEL [(STS,.tup ss)]]:=Zbe M _ 0 _
 have p1:Zd1 TEL STS (.tup ss) (.ref M.length) (M ++ [.ins TEL []]) = .ok .non (M ++ [.ins TEL [(STS,.tup ss)]]):=by
  simp only [Zd1,g0]
  rw [if_pos ⟨trivial,by simp⟩,show ZeP STS (.tup ss) [] = [(STS,.tup ss)] from rfl,s1]
 have g1:(M ++ [MO.ins TEL [(STS,.tup ss)],.lst []])[M.length]? = some (.ins TEL [(STS,.tup ss)]):=Zak _ _ _
 have p2:Zd1 TEL ASK (.ref (M.length + 1)) (.ref M.length) (M ++ [.ins TEL [(STS,.tup ss)],.lst []]) = .ok .non (M ++ [ZaD ss (M.length + 1),.lst []]):=by
  simp only [Zd1,g1]
  rw [if_pos ⟨trivial,by simp⟩,show ZeP ASK (.ref (M.length + 1)) [(STS,.tup ss)] = [(STS,.tup ss),(ASK,.ref (M.length + 1))] from rfl]
  exact congrArg (R3.ok D.non) (Zbe M [MO.ins TEL [(STS,.tup ss)],.lst []] 0 _)
 refine (Zlx (env:=[some (.ref M.length),some (.ref m)]) (env':=[some (.ref M.length),some (.ref m)]) (M':=M ++ [ZaD ss (M.length + 1),.lst []]) ?_).trans ?_
 ·refine (Zm (Zbq (Zf (Zbp rfl (Zg9 (Zae hM _))) rfl p1))).trans (Zbq (Zf (a:=.ref (M.length + 1)) (M1:=M ++ [.ins TEL [(STS,.tup ss)],.lst []]) ?_ rfl p2))
  simp
 ·have e:(M ++ [ZaD ss (M.length + 1),.lst []]).take (M ++ [MO.ins TEL []]).length = M ++ [ZaD ss (M.length + 1)]:=by
   rw [show M ++ [ZaD ss (M.length + 1),.lst []] = (M ++ [ZaD ss (M.length + 1)]) ++ [.lst []] by simp]
   exact List.take_left' (by simp)
  unfold ZbQ
  rw [e,if_neg]
  simp [ZcC,belowL,below,ZaD]
theorem ZaW {i j:Int} {M:Store} (h:0 < j ∧ j < 1073741824):Zag (.int i) (.int j) M = .ok (.int (i / j)) M:=by simp only [Zag,if_pos h]
theorem Za6 {g:EL3} {env:Zz} {M M':Store} {ds:List D} (h:g env M = .ok ds M') (hl:decide (ds.length ≤ 100) = true):ZaT g env M = .ok (.ref M'.length) (M' ++ [.lst ds]):=by
 have z:ds.length ≤ SZ:=Nat.le_trans (of_decide_eq_true hl) (by decide)
 simp only [ZaT,h,R3.bind,if_pos z,alloc]
theorem ZgC {env:Zz} {M M':Store} {n:Nat} {xs:List D} {d:D} {o t:E3} (ho:o env M = .ok (.ref n) M) (hM:M[n]? = some (.lst xs)) (ht:t env M = .ok d M') (hM':M'[n]? = some (.lst xs)) (hl:xs.length < SZ):
  ZaC (Zcq tyL Za3 o (Za t (Ze))) env M = .nx env (M'.set n (.lst (xs ++ [d]))):=by
 have e:Zcq tyL Za3 o (Za t (Ze)) env M = .ok .non (M'.set n (.lst (xs ++ [d]))):=by
  simp only [Zcq,ho,R3.bind,tyL,hM,Za,ht,Ze,Za3,hM',if_pos hl,if_true]
 rw [ZaC,e]
theorem Zn3 {op:D → D → D → Store → R3 D} {f g h:E3} {env:Zz} {M M1 M2 M3 M4:Store} {a b c d:D} (h1:f env M = .ok a M1) (h2:g env M1 = .ok b M2) (h3:h env M2 = .ok c M3) (h4:op a b c M3 = .ok d M4):e3 op f g h env M = .ok d M4:=by simp only [e3,h1,h2,h3,h4,R3.bind]
theorem ZeI (n:Nat):∀ (xs:List D) (d:D),belowL n (xs ++ [d]) = (belowL n xs && below n d)
 | [],d=>by simp only [List.nil_append,belowL,Bool.and_true,Bool.true_and]
 | x :: xs,d=>by simp only [List.cons_append,belowL,ZeI n xs d,Bool.and_assoc]
theorem Zie {M N G:Store} {d:D} (hl:N.length = M.length) (hne:N ≠ M) (hb:N.all (ZcC M.length) = false):ZbQ M d (N ++ G) = .ok d (N ++ G):=by
 unfold ZbQ
 rw [List.take_left' hl,decide_eq_false hne,hb,if_neg]
 simp
theorem Zez {M:Store} {n:Nat} {xs:List D} (h:M[n]? = some (.lst xs)):ZbT [.ref n] M = .ok (.ref M.length) (M ++ [.lst xs]):=by simp only [ZbT,h,alloc]
theorem Zhs {M G:Store} {kp:Nat} {ks:List D} {d x:D} (hk:M[kp]? = some (.lst ks)):ZbQ M d (M.set kp (.lst (ks ++ [.tup [.ref M.length,x]])) ++ G) = .ok d (M.set kp (.lst (ks ++ [.tup [.ref M.length,x]])) ++ G):=by
 have hlt:=(List.getElem?_eq_some_iff.mp hk).1
 refine Zie (by simp) (fun e=>?_) ?_
 ·have:=congrArg (fun N:Store=>N[kp]?) e
  simp only [List.getElem?_set_self hlt,hk,Option.some.injEq,MO.lst.injEq] at this
  have:=congrArg List.length this
  simp at this
 ·refine Bool.eq_false_iff.mpr fun e=>?_
  have:=List.all_eq_true.mp e (.lst (ks ++ [.tup [.ref M.length,x]])) (List.mem_of_getElem? (List.getElem?_set_self hlt))
  simp [ZcC,ZeI,below,belowL] at this
theorem ZgY {ts:List D} {p q:Nat} {M:Store} (hp:M[p]? = some (.lst ts)) (hq:M[q]? = some (.lst ts)) (pt:∀ d ∈ ts,ZaB 5 d = true) (lt:ts.length ≤ 10000):Zap [.ref p,.ref q] M = .ok (.bl true) M:=ZhI 5 ts p q M hp hq pt lt
section
variable {ss ts ks:List D} {a n sl tl kp:Nat} {M:Store}
theorem Ze0 (h:M[n]? = some (ZaD ss a)) (ha:M[a]? = some (.lst ts)) (hs:M[sl]? = some (.lst ss)) (ht:M[tl]? = some (.lst ts)) (pt:∀ d ∈ ts,ZaB 5 d = true) (lt:ts.length ≤ 10000) {g:S3}:
  (Zr (Zaw 4 (ZaX TEL [116,105,109,101,115,95,97,115,107,101,100] Zam (Zb 0) (Ze))) (Zr (sIf (eOr (e1 ZaM (Zaa Zap (Za (Zb 4) (Za (Zb 2) (Ze))))) (e1 ZaM (Zaa Zap (Za (ZaX TEL [109,97,110,121] Zbo (Zb 0) (Ze)) (Za (ZaJ Za0 (Za (Zb 1) (Ze))) (Ze)))))) (Zau (eC (.bl false))) (Zac)) g)) [some (.ref n),some (.ref sl),some (.ref tl),some (.ref kp),none] M = g [some (.ref n),some (.ref sl),some (.ref tl),some (.ref kp),some (.ref M.length)] (M ++ [.lst ts]):=by
 refine (Zm (ZaF (Zci rfl (ZbU h rfl rfl) rfl (Zb8 h ha (Nat.le_trans lt (by decide)))))).trans ?_
 refine Zm (Zab (M':=M ++ [.lst ts]) ?_)
 exact (Zic (M1:=M ++ [.lst ts]) (Zbz (Zbl rfl rfl (ZgY (Zak _ _ _) (Zae ht _) pt lt)) rfl)).trans (Zbz (Zbl (Zci rfl (ZbU (Zae h _) rfl rfl) rfl (ZjV (Zae h _))) (Zbp rfl (ZbI (Zae hs _))) (ZeK 6 _ _ rfl)) rfl)
theorem Zh8 (h:M[n]? = some (ZaD ss a)) (ha:M[a]? = some (.lst ts)) (hs:M[sl]? = some (.lst ss)) (ht:M[tl]? = some (.lst ts)) (hk:M[kp]? = some (.lst ks)) (pt:∀ d ∈ ts,ZaB 5 d = true) (lt:ts.length ≤ 10000) (lk:ks.length < 12)
  (h1:n ≠ kp) (h2:a ≠ kp) (h3:tl ≠ kp):Zad [.ref n,.ref sl,.ref tl,.ref kp] M = .ok (.bl true) (M.set kp (.lst (ks ++ [.tup [.ref M.length,.ref (M.length + 1)]])) ++ [.lst ts,.lst ts,.lst ts]):=by
 have hlt:=(List.getElem?_eq_some_iff.mp hk).1
 have e1:(M ++ [MO.lst ts]) ++ [MO.lst ts] = M ++ [.lst ts,.lst ts]:=by simp
 have e2:(M ++ [MO.lst ts,.lst ts]).set kp (.lst (ks ++ [.tup [.ref M.length,.ref (M.length + 1)]])) = M.set kp (.lst (ks ++ [.tup [.ref M.length,.ref (M.length + 1)]])) ++ [.lst ts,.lst ts]:=List.set_append_left _ _ hlt
 generalize hN:M.set kp (.lst (ks ++ [.tup [.ref M.length,.ref (M.length + 1)]])) = N at e2
 have gN:∀ {j:Nat} {o:MO},M[j]? = some o → j ≠ kp → (N ++ [.lst ts,.lst ts])[j]? = some o:=fun {j o} q z=>by
  refine Zae ?_ _
  rw [← hN,List.getElem?_set_ne (Ne.symm z)]; exact q
 have lN:N.length = M.length:=by rw [← hN]; simp
 refine (Zcg (env:=[some (.ref n),some (.ref sl),some (.ref tl),some (.ref kp),none]) (M':=N ++ [.lst ts,.lst ts,.lst ts]) (d:=.bl true) ?_).trans (by rw [← hN]; exact Zhs hk)
 have c12:Zed (.int (ks.length:Int)) (.int 12) (M ++ [.lst ts]) = .ok (.bl true) (M ++ [.lst ts]):=by simp only [Zed,decide_eq_true (by omega:(ks.length:Int) < 12)]
 refine (Ze0 h ha hs ht pt lt).trans (Zdy ((Zc1 (M':=M ++ [.lst ts]) (Zf (Zbp rfl (ZbI (Zae hk _))) rfl c12)).trans ?_))
 have tp:(ZcI (Za (Zb 4) (Za (ZaJ ZbT (Za (Zb 2) (Ze))) (Ze)))) [some (.ref n),some (.ref sl),some (.ref tl),some (.ref kp),some (.ref M.length)] (M ++ [.lst ts]) = .ok (.tup [.ref M.length,.ref (M.length + 1)]) (M ++ [.lst ts,.lst ts]):=by
  refine Zc3 (Zt rfl (Zt (Zbp rfl ?_) rfl)) rfl
  rw [Zez (Zae ht _),e1,List.length_append]; rfl
 have ap:=Zc2 (o:=Zb 3) (env:=[some (.ref n),some (.ref sl),some (.ref tl),some (.ref kp),some (.ref M.length)]) (n:=kp) rfl (Zae hk _) tp (Zae hk _) (Nat.lt_trans lk (by decide))
 rw [e2] at ap
 refine (Zm (Zbq ap)).trans (Za9 (Zbl (Zci rfl (ZbU (gN h h1) rfl rfl) rfl (Zb8 (gN h h1) (gN ha h2) (Nat.le_trans lt (by decide)))) rfl ?_))
 have e3:(N ++ [MO.lst ts,.lst ts]) ++ [MO.lst ts] = N ++ [.lst ts,.lst ts,.lst ts]:=by simp
 rw [ZgY (Zak _ _ _) (Zae (gN ht h3) _) pt lt,e3]
theorem Zfb (h:M[n]? = some (ZaD ss a)) (ha:M[a]? = some (.lst ts)) (hs:M[sl]? = some (.lst ss)) (ht:M[tl]? = some (.lst ts)) (hk:M[kp]? = some (.lst ks)) (pt:∀ d ∈ ts,ZaB 5 d = true) (lt:ts.length ≤ 10000) (lk:¬ ks.length < 12):
  Zad [.ref n,.ref sl,.ref tl,.ref kp] M = .ok (.bl true) M:=by
 have c12:Zed (.int (ks.length:Int)) (.int 12) (M ++ [.lst ts]) = .ok (.bl false) (M ++ [.lst ts]):=by simp only [Zed,decide_eq_false (by omega:¬ (ks.length:Int) < 12)]
 refine Rt.pure (G:=[.lst (ts ++ [.int 7]),.lst ts]) (env:=[some (.ref n),some (.ref sl),some (.ref tl),some (.ref kp),none]) ?_ rfl
 refine (Ze0 h ha hs ht pt lt).trans ((Zm (Zab (M':=M ++ [.lst ts]) (Zf (Zbp rfl (ZbI (Zae hk _))) rfl c12))).trans ?_)
 have e0:(M ++ [MO.lst ts]).set M.length (.lst (ts ++ [.int 7])) = M ++ [.lst (ts ++ [.int 7])]:=Zbe M _ 0 _
 have ap:=Zc2 (o:=Zb 4) (arg:=eC (.int 7)) (env:=[some (.ref n),some (.ref sl),some (.ref tl),some (.ref kp),some (.ref M.length)]) (n:=M.length) (M:=M ++ [.lst ts]) rfl (Zak _ _ _) rfl (Zak _ _ _) (Nat.lt_of_le_of_lt lt (by decide))
 rw [e0] at ap
 have e3:(M ++ [MO.lst (ts ++ [.int 7])]) ++ [MO.lst ts] = M ++ [.lst (ts ++ [.int 7]),.lst ts]:=by simp
 refine (Zm (Zbq ap)).trans (Za9 (Zbl (Zci rfl (ZbU (Zae h _) rfl rfl) rfl (Zb8 (Zae h _) (Zae ha _) (Nat.le_trans lt (by decide)))) rfl ?_))
 rw [ZgY (Zak _ _ _) (Zae (Zae ht _) _) pt lt,e3]
end
theorem Zhb (c:Int) (n:Nat) (M:Store):∃ t:Int,Zbc [.int c,.int (n:Int)] M = .ok (.int t) M:=by
 by_cases h:c % 3 > 0
 ·refine ⟨_,(Zcg (env:=[some (.int c),some (.int (n:Int)),none]) (M':=M) (d:=.int (c / 3 % (if (n:Int) > 1 then (n:Int) else 1))) ?_).trans (ZcX rfl)⟩
  refine Zdy ((Zc1 (M':=M) (Zf (Zf rfl rfl (ZaA (by decide))) rfl (by simp only [Zd2,decide_eq_true h]))).trans (Za9 (Zf (Zf rfl rfl (ZaW (by decide))) rfl (ZaA ?_))))
  split <;> omega
 ·have sk:sIf (e2 Zd2 (e2 Zaf (Zb 0) (eC (.int 3))) (eC (.int 0))) (Zau (e2 Zaf (e2 Zag (Zb 0) (eC (.int 3))) (ZaJ Zg1 (Za (eC (.int 1)) (Za (Zb 1) (Ze)))))) (Zac) [some (.int c),some (.int (n:Int)),none] M = .nx [some (.int c),some (.int (n:Int)),none] M:=Zab (Zf (Zf rfl rfl (ZaA (by decide))) rfl (by simp only [Zd2,decide_eq_false h]))
  obtain ⟨i,e,l⟩:=ZcB (c / 3) 8 (by decide)
  have pw:e2 Zbb (eC (.int 10)) (eC (.int 59)) [some (.int c),some (.int (n:Int)),none] M = .ok (.int (10 ^ 59)) M:=by simp
  have f24:(e2 Zaf (e2 Zag (Zb 0) (eC (.int 24))) (e2 Zbb (eC (.int 10)) (eC (.int 59)))) [some (.int c),some (.int (n:Int)),none] M = .ok (.int (c / 24 % 10 ^ 59)) M:=Zf (Zf rfl rfl (ZaW (by decide))) pw (ZaA (by decide))
  generalize c / 24 % 10 ^ 59 = far at f24
  have ls:(ZaT (Za (eC (.int 0)) (Za (e2 ZbY (Zb 1) (eC (.int 1))) (Za (Zb 1) (Za (e1 Zb5 (eC (.int 1))) (Za (e2 ZbY (eC (.int 0)) (Zb 1)) (Za (e2 Zcb (Zb 1) (Zb 2)) (Za (e2 ZbY (e1 Zb5 (eC (.int 1))) (Zb 2)) (Za (e2 Zag (Zb 1) (eC (.int 2))) (Ze)))))))))) [some (.int c),some (.int (n:Int)),some (.int far)] M = .ok (.ref M.length) (M ++ [.lst [.int 0,.int ((n:Int) - 1),.int (n:Int),.int (-1),.int (0 - (n:Int)),.int ((n:Int) + far),.int (-1 - far),.int ((n:Int) / 2)]]):=
   Za6 (Zt rfl (Zt rfl (Zt rfl (Zt rfl (Zt rfl (Zt rfl (Zt rfl (Zt (Zf rfl rfl (ZaW (by decide))) rfl)))))))) rfl
  have gt:∃ t,Zbk [D.int 0,.int ((n:Int) - 1),.int (n:Int),.int (-1),.int (0 - (n:Int)),.int ((n:Int) + far),.int (-1 - far),.int ((n:Int) / 2)] (c / 3 % 8) = some (.int t):=by
   rw [show c / 3 % 8 = (i:Int) from e,Zce]
   rcases (by decide:∀ i:Nat,i < 8 → i = 0 ∨ i = 1 ∨ i = 2 ∨ i = 3 ∨ i = 4 ∨ i = 5 ∨ i = 6 ∨ i = 7) i l with h | h | h | h | h | h | h | h <;> subst h <;> exact ⟨_,rfl⟩
  obtain ⟨t,ht⟩:=gt
  exact ⟨t,Rt.pure (G:=[.lst _]) (env:=[some (.int c),some (.int (n:Int)),none]) ((Zm sk).trans ((Zm (ZaF f24)).trans (Za9 (Zf ls (Zf (Zf rfl rfl (ZaW (by decide))) rfl (ZaA (by decide))) (Zq (Zak _ _ _) ht))))) rfl⟩
theorem Zkj (cs:List Int) (c d:Nat) (at_:Nat) (M:Store) (hd:M[d]? = some (.lst [.ref c,.int (at_:Int)])) (hc:M[c]? = some (.lst (cs.map D.int))) (ha:at_ < 1000000) (hne:c ≠ d):
  ∃ v:Int,ZaO [.ref d] M = .ok (.int v) (M.set d (.lst [.ref c,.int ((at_ + 1:Nat):Int)])):=by
 have hdl:=(List.getElem?_eq_some_iff.mp hd).1
 have hc2:(M.set d (.lst [.ref c,.int ((at_:Int) + 1)]))[c]? = some (.lst (cs.map D.int)):=by rw [List.getElem?_set_ne (Ne.symm hne)]; exact hc
 have fin:∀ v:Int,ZbE [some (.ref d),none,none] M = .rt (.int v) (M.set d (.lst [.ref c,.int ((at_:Int) + 1)])) → ∃ v:Int,ZaO [.ref d] M = .ok (.int v) (M.set d (.lst [.ref c,.int ((at_ + 1:Nat):Int)])):=fun v h=>by
  refine ⟨v,(Zcg h).trans ?_⟩
  unfold ZbQ
  rw [List.take_of_length_le (by simp)]
  split <;> first | exact rfl | simp
 have m1:Zca (at_:Int) (at_:Int) = true:=Znp (by omega)
 have m2:Zca ((at_:Int) * at_) 3 = true:=mul_r (by omega)
 by_cases h1:at_ < cs.length
 ·exact fin cs[at_] (by simp [ZbE,Zr,Zaw,Zau,sIf,Zac,ZaC,Zdd,hd,hc2,h1])
 ·by_cases h2:cs.length = 0
  ·have n0:¬ ((at_:Int) < 0):=(fun z=>iN [_] [] 1 7211153 T1 z)
   exact fin ((at_:Int) * at_ * 3 + at_) (by simp [ZbE,Zr,Zaw,Zau,sIf,Zac,ZaC,Zdd,hd,hc2,h2,m1,m2,n0])
  ·obtain ⟨a,ha',la⟩:=ZcB (at_:Int) cs.length ((Nat.lt_of_le_of_ne (Nat.zero_le _) (Ne.symm h2)))
   have p0:0 < cs.length:=lB 1 31526929 T1 la
   exact fin (cs[a] / 2 + (at_:Int) * at_) (by simp [ZbE,Zr,Zaw,Zau,sIf,Zac,ZaC,Zdd,hd,hc2,h1,h2,m1,p0,ha',la])
structure ZeY (cs:List Int) (c d:Nat) (at_:Nat) (M:Store):Prop where
 hd:M[d]? = some (.lst [.ref c,.int (at_:Int)])
 hc:M[c]? = some (.lst (cs.map D.int))
 ne:c ≠ d
theorem ZeY.next {cs:List Int} {c d at_:Nat} {M:Store} (K:ZeY cs c d at_ M) (ha:at_ < 1000000):∃ (v:Int) (M':Store),ZaO [.ref d] M = .ok (.int v) M' ∧ ZeY cs c d (at_ + 1) M' ∧ M'.length = M.length ∧ ∀ j,j ≠ d → M'[j]? = M[j]?:=by
 obtain ⟨v,h⟩:=Zkj cs c d at_ M K.hd K.hc ha K.ne
 have hdl:=(List.getElem?_eq_some_iff.mp K.hd).1
 exact ⟨v,_,h,⟨List.getElem?_set_self hdl,by rw [List.getElem?_set_ne (Ne.symm K.ne)]; exact K.hc,K.ne⟩,by simp,fun j hj=>List.getElem?_set_ne (Ne.symm hj)⟩
theorem ZeY.keep {cs:List Int} {c d at_:Nat} {M M':Store} (K:ZeY cs c d at_ M) (h:∀ j,j < M.length → M'[j]? = M[j]?):ZeY cs c d at_ M':=
 ⟨by rw [h d (List.getElem?_eq_some_iff.mp K.hd).1]; exact K.hd,by rw [h c (List.getElem?_eq_some_iff.mp K.hc).1]; exact K.hc,K.ne⟩
theorem Zkn {M M':Store} {d:D} (h:below M.length d = false):ZbQ M d M' = .ok d M':=by
 unfold ZbQ
 rw [h,if_neg (by simp)]
theorem ZmN {zs:List Int} {j:Nat} {w:Int} {M:Store} {env:Zz} {ie fe:E3} (hz:zs.length = 8) (hj:j < 8) (h5:env[5]? = some (some (.ref M.length))) (hi:ie env (M ++ [.lst (zs.map D.int)]) = .ok (.int (j:Int)) (M ++ [.lst (zs.map D.int)])) (hf:fe env (M ++ [.lst (zs.map D.int)]) = .ok (.int w) (M ++ [.lst (zs.map D.int)])):
  Zdd (Zb 5) ie fe env (M ++ [.lst (zs.map D.int)]) = .nx env (M ++ [.lst ((zs.set j w).map D.int)]):=by
 have ix:ixD (zs.map D.int).length (j:Int) = some j:=by rw [ZfJ,List.length_map,hz,if_pos hj]
 have hs:(M ++ [MO.lst (zs.map D.int)]).set M.length (.lst ((zs.map D.int).set j (.int w))) = M ++ [.lst ((zs.set j w).map D.int)]:=by
  rw [List.map_set]; exact Zbe M _ 0 _
 refine Zbq (d:=.non) (Zn3 hf (b:=.ref M.length) (by simp only [Zb,h5]) hi ?_)
 simp only [Zgx,Zak,ix,hs]
theorem Zgy (zs:List Int) (h:zs.length = 8) (n:Nat):ZaB (n + 1) (.tup (zs.map D.int)) = true:=by
 simp only [ZaB,List.length_map,h,Bool.and_eq_true,List.all_eq_true]
 refine ⟨rfl,fun d hd=>?_⟩
 obtain ⟨i,_,rfl⟩:=List.mem_map.mp hd
 cases n <;> rfl
theorem ZeG {cs:List Int} {c d at_ m:Nat} {M:Store} (K:ZeY cs c d at_ M) (ha:at_ + m < 1000000) (hm:m ≤ 1000):
  ∃ (ss:List D) (M':Store),ss.length = m ∧ ZaS [.ref d,.int (m:Int)] M = .ok (.ref M.length) M' ∧ M'[M.length]? = some (.lst ss) ∧ (∀ s ∈ ss,ZaB 6 s = true) ∧ ZeY cs c d (at_ + m) M' ∧ M.length < M'.length ∧ ∀ j,j < M.length → j ≠ d → M'[j]? = M[j]?:=by
 have hdl:=(List.getElem?_eq_some_iff.mp K.hd).1
 have hcl:=(List.getElem?_eq_some_iff.mp K.hc).1
 obtain ⟨e',M',hl,ss,x3,x4,x5,x6,lb,rfl,g,pl,K',lm,o⟩:=Zga (it:=⟨ZcQ 0 m,none⟩) (g:=Zcv 3)
  (body:=(Zr (Zaw 4 (Zaa ZaO (Za (Zb 0) (Ze)))) (Zr (Zaw 5 (ZaT (Za (eC (.int 0)) (Za (eC (.int 0)) (Za (eC (.int 0)) (Za (eC (.int 0)) (Za (eC (.int 0)) (Za (eC (.int 0)) (Za (eC (.int 0)) (Za (eC (.int 0)) (Ze))))))))))) (Zr (Zdd (Zb 5) (e2 Zaf (Zb 4) (eC (.int 8))) (e2 Zaf (e2 Zag (Zb 4) (eC (.int 8))) (e2 Zbb (eC (.int 10)) (eC (.int 59))))) (Zr (Zdd (Zb 5) (e2 Zaf (e2 Zag (Zb 4) (eC (.int 3))) (eC (.int 8))) (e2 ZbY (eC (.int 0)) (e2 Zaf (e2 Zag (Zb 4) (eC (.int 5))) (eC (.int 7))))) (Zr (Zaw 6 (ZcI (Ze))) (Zr (sIf (e2 Zcu (e2 Zaf (Zb 4) (eC (.int 3))) (eC (.int 0))) (Zaw 6 (ZcI (Za (ZcI (Za (e2 ZbY (eC (.int 0)) (e2 Zaf (e2 Zag (Zb 4) (eC (.int 3))) (e2 Zbb (eC (.int 10)) (eC (.int 40))))) (Za (e2 Zcb (eC (.int 1)) (e2 Zaf (e2 Zag (Zb 4) (eC (.int 11))) (eC (.int 5)))) (Ze)))) (Za (ZcI (Za (e2 Zcb (eC (.int 1)) (e2 Zaf (e2 Zag (Zb 4) (eC (.int 13))) (eC (.int 9)))) (Za (e1 Zb5 (eC (.int 1))) (Ze)))) (Ze))))) (Zac)) (ZaC (Zcq tyL Za3 (Zb 2) (Za (ZcI (Za (e2 Zaf (e2 Zag (Zb 4) (eC (.int 2))) (eC (.int 9))) (Za (ZaJ Zb1 (Za (Zb 5) (Ze))) (Za (Zb 6) (Ze))))) (Ze)))))))))))
  (P:=fun j env M'=>∃ (ss:List D) (x3 x4 x5 x6:Option D),ss.length = j ∧ env = [some (.ref d),some (.int (m:Int)),some (.ref M.length),x3,x4,x5,x6] ∧ M'[M.length]? = some (.lst ss) ∧ (∀ s ∈ ss,ZaB 6 s = true) ∧ ZeY cs c d (at_ + j) M' ∧ M.length < M'.length ∧ ∀ i,i < M.length → i ≠ d → M'[i]? = M[i]?)
  (ZcQ 0 m) 0 [some (.ref d),some (.int (m:Int)),some (.ref M.length),none,none,none,none] (M ++ [.lst []]) ⟨[],none,none,none,none,rfl,rfl,Zak _ _ _,(fun _ h=>nomatch h),K.keep fun j hj=>List.getElem?_append_left hj,by simp,fun i hi _=>List.getElem?_append_left hi⟩ (fun _ _ _ _=>rfl)
  (fun k e hd env M1 z=>by
   obtain ⟨ss,x3,x4,x5,x6,lb,he,g,pl,K1,lm,o⟩:=z
   obtain ⟨rfl,lk⟩:=ZhT hd
   subst he
   obtain ⟨v,M2,en,K2,l2,o2⟩:=K1.next (by omega)
   obtain ⟨j1,h1,l1⟩:=ZcB v 8 (by decide)
   obtain ⟨j2,h2,l3⟩:=ZcB (v / 3) 8 (by decide)
   have hne:M.length ≠ d:=by omega
   have g2:M2[M.length]? = some (.lst ss):=(o2 _ hne).trans g
   have p59:∀ (env:Zz) (M:Store),e2 Zbb (eC (.int 10)) (eC (.int 59)) env M = .ok (.int (10 ^ 59)) M:=fun env M=>by simp
   have p40:∀ (env:Zz) (M:Store),e2 Zbb (eC (.int 10)) (eC (.int 40)) env M = .ok (.int (10 ^ 40)) M:=fun env M=>by simp
   have z0:([0,0,0,0,0,0,0,0]:List Int).map D.int = [.int 0,.int 0,.int 0,.int 0,.int 0,.int 0,.int 0,.int 0]:=rfl
   have b5:(ZaT (Za (eC (.int 0)) (Za (eC (.int 0)) (Za (eC (.int 0)) (Za (eC (.int 0)) (Za (eC (.int 0)) (Za (eC (.int 0)) (Za (eC (.int 0)) (Za (eC (.int 0)) (Ze)))))))))) [some (.ref d),some (.int (m:Int)),some (.ref M.length),some (.int (k:Int)),some (.int v),x5,x6] M2 = .ok (.ref M2.length) (M2 ++ [.lst (([0,0,0,0,0,0,0,0]:List Int).map D.int)]):=Za6 rfl rfl
   have u1:=ZmN (zs:=[0,0,0,0,0,0,0,0]) (w:=v / 8 % 10 ^ 59) (M:=M2) (env:=[some (.ref d),some (.int (m:Int)),some (.ref M.length),some (.int (k:Int)),some (.int v),some (.ref M2.length),x6]) (ie:=e2 Zaf (Zb 4) (eC (.int 8))) (fe:=e2 Zaf (e2 Zag (Zb 4) (eC (.int 8))) (e2 Zbb (eC (.int 10)) (eC (.int 59)))) rfl l1 rfl (by rw [← h1]; exact Zf rfl rfl (ZaA (by decide))) (Zf (Zf rfl rfl (ZaW (by decide))) (p59 _ _) (ZaA (by decide)))
   have lz:(([0,0,0,0,0,0,0,0]:List Int).set j1 (v / 8 % 10 ^ 59)).length = 8:=by simp
   generalize ([0,0,0,0,0,0,0,0]:List Int).set j1 (v / 8 % 10 ^ 59) = z1 at u1 lz
   have u2:=ZmN (zs:=z1) (w:=0 - v / 5 % 7) (M:=M2) (env:=[some (.ref d),some (.int (m:Int)),some (.ref M.length),some (.int (k:Int)),some (.int v),some (.ref M2.length),x6]) (ie:=e2 Zaf (e2 Zag (Zb 4) (eC (.int 3))) (eC (.int 8))) (fe:=e2 ZbY (eC (.int 0)) (e2 Zaf (e2 Zag (Zb 4) (eC (.int 5))) (eC (.int 7)))) lz l3 rfl (by rw [← h2]; exact Zf (Zf rfl rfl (ZaW (by decide))) rfl (ZaA (by decide))) (Zf rfl (Zf (Zf rfl rfl (ZaW (by decide))) rfl (ZaA (by decide))) rfl)
   have lz2:(z1.set j2 (0 - v / 5 % 7)).length = 8:=by simp [lz]
   generalize z1.set j2 (0 - v / 5 % 7) = z2 at u2 lz2
   generalize hM3:M2 ++ [MO.lst (z2.map D.int)] = M3 at u2
   have gz:M3[M2.length]? = some (.lst (z2.map D.int)):=by rw [← hM3]; exact Zak _ _ _
   have g3:M3[M.length]? = some (.lst ss):=by rw [← hM3]; exact Zae g2 _
   have cl:∃ ce:List D,ZaB 5 (.tup ce) = true ∧ sIf (e2 Zcu (e2 Zaf (Zb 4) (eC (.int 3))) (eC (.int 0))) (Zaw 6 (ZcI (Za (ZcI (Za (e2 ZbY (eC (.int 0)) (e2 Zaf (e2 Zag (Zb 4) (eC (.int 3))) (e2 Zbb (eC (.int 10)) (eC (.int 40))))) (Za (e2 Zcb (eC (.int 1)) (e2 Zaf (e2 Zag (Zb 4) (eC (.int 11))) (eC (.int 5)))) (Ze)))) (Za (ZcI (Za (e2 Zcb (eC (.int 1)) (e2 Zaf (e2 Zag (Zb 4) (eC (.int 13))) (eC (.int 9)))) (Za (e1 Zb5 (eC (.int 1))) (Ze)))) (Ze))))) (Zac) [some (.ref d),some (.int (m:Int)),some (.ref M.length),some (.int (k:Int)),some (.int v),some (.ref M2.length),some (.tup [])] M3 = .nx [some (.ref d),some (.int (m:Int)),some (.ref M.length),some (.int (k:Int)),some (.int v),some (.ref M2.length),some (.tup ce)] M3:=by
    by_cases h:v % 3 = 0
    ·refine ⟨[.tup [.int (0 - v / 3 % 10 ^ 40),.int (1 + v / 11 % 5)],.tup [.int (1 + v / 13 % 9),.int (-1)]],rfl,(Zc1 (M':=M3) (Zf (Zf rfl rfl (ZaA (by decide))) rfl (Zil h))).trans (ZaF (Zc3 (Zt (Zc3 (Zt (Zf rfl (Zf (Zf rfl rfl (ZaW (by decide))) (p40 _ _) (ZaA (by decide))) rfl) (Zt (Zf rfl (Zf (Zf rfl rfl (ZaW (by decide))) rfl (ZaA (by decide))) rfl) rfl)) rfl) (Zt (Zc3 (Zt (Zf rfl (Zf (Zf rfl rfl (ZaW (by decide))) rfl (ZaA (by decide))) rfl) (Zt rfl rfl)) rfl) rfl)) rfl))⟩
    ·exact ⟨[],rfl,Zab (Zf (Zf rfl rfl (ZaA (by decide))) rfl (ZiV h))⟩
   obtain ⟨ce,pc,ec⟩:=cl
   have ap:=ZgC (o:=Zb 2) (t:=ZcI (Za (e2 Zaf (e2 Zag (Zb 4) (eC (.int 2))) (eC (.int 9))) (Za (ZaJ Zb1 (Za (Zb 5) (Ze))) (Za (Zb 6) (Ze))))) (env:=[some (.ref d),some (.int (m:Int)),some (.ref M.length),some (.int (k:Int)),some (.int v),some (.ref M2.length),some (.tup ce)]) (M:=M3) (M':=M3) (d:=.tup [.int (v / 2 % 9),.tup (z2.map D.int),.tup ce]) rfl g3 (Zc3 (Zt (Zf (Zf rfl rfl (ZaW (by decide))) rfl (ZaA (by decide))) (Zt (Zbp rfl (Zg9 gz)) (Zt rfl rfl))) rfl) g3 (Nat.lt_of_lt_of_le (by omega:ss.length < 1000) (by decide))
   have l3':M3.length = M2.length + 1:=by rw [← hM3]; simp
   have old:∀ i,i < M2.length → M3[i]? = M2[i]?:=fun i hi=>by rw [← hM3]; exact List.getElem?_append_left hi
   refine ⟨_,_,M3.set M.length (.lst (ss ++ [.tup [.int (v / 2 % 9),.tup (z2.map D.int),.tup ce]])),rfl,(Zm (ZaF (Zi4 rfl en))).trans ((Zm (ZaF b5)).trans ((Zm u1).trans ((Zm u2).trans ((Zm (ZaF (Zc3 rfl rfl))).trans ((Zm ec).trans ap))))),_,_,_,_,_,by simp [lb],rfl,List.getElem?_set_self (by omega),fun s hs=>?_,⟨?_,?_,K2.ne⟩,by simp; omega,fun i hi hi'=>?_⟩
   ·rcases List.mem_append.mp hs with h | h
    ·exact pl s h
    ·rw [List.mem_singleton.mp h]
     have:=Zgy z2 lz2 4
     show (decide (3 ≤ 1000) && (true && (ZaB 5 (.tup (z2.map D.int)) && (ZaB 5 (.tup ce) && true)))) = true
     rw [this,pc]; rfl
   ·rw [List.getElem?_set_ne (by omega),old d (by omega)]; exact K2.hd
   ·rw [List.getElem?_set_ne (by omega),old c (by omega)]; exact K2.hc
   ·rw [List.getElem?_set_ne (by omega),old i (by omega),o2 i hi']; exact o i hi hi')
 rw [ZjO,Nat.zero_add] at lb K'
 refine ⟨ss,M',lb,(Zcg (env:=[some (.ref d),some (.int (m:Int)),none,none,none,none,none]) (M':=M') (d:=.ref M.length) ?_).trans (Zkn (by simp [below])),g,pl,K',lm,o⟩
 refine (Zm (ZaF (d:=.ref M.length) (M':=M ++ [.lst []]) (Za6 rfl rfl))).trans ((Zm ((Zek (it:=⟨ZcQ 0 m,none⟩) (M':=M ++ [.lst []]) ?_).trans hl)).trans (Za9 rfl))
 have b:(m:Int) ≤ 1000000 ∧ -1000000 ≤ (m:Int):=by omega
 simp [b]
noncomputable def Zo (B:Store) (s1:Nat) (ss0 ss1 h0 h1 ts0 ts1 ks:List D) (G:Store):Store:=B ++ (.lst [.ref 2,.ref s1] :: .lst h0 :: .lst h1 :: .lst [.ref (B.length + 1),.ref (B.length + 2)] :: ZaD ss0 (B.length + 5) :: .lst ts0 :: ZaD ss1 (B.length + 7) :: .lst ts1 :: .lst [.ref (B.length + 4),.ref (B.length + 6)] :: .lst ts0 :: .lst ts1 :: .lst [.ref (B.length + 9),.ref (B.length + 10)] :: .lst ks :: G)
noncomputable def Tm (j:Nat) (ts:List D):Prop:=(∀ d ∈ ts,ZaB 5 d = true) ∧ ts.length ≤ j
theorem Tm.up {j k:Nat} {ts:List D} (h:Tm j ts) (hk:j ≤ k):Tm k ts:=⟨h.1,Nat.le_trans h.2 hk⟩
theorem Tm.snoc {j k:Nat} {ts:List D} (h:Tm j ts):Tm (j + 1) (ts ++ [.int (k:Int)]):=
 ⟨fun d hd=>(List.mem_append.mp hd).elim (h.1 d) fun z=>by rw [List.mem_singleton.mp z]; rfl,by rw [List.length_append]; exact Nat.succ_le_succ h.2⟩
noncomputable def Kp (B G:Store) (ks:List D):Prop:=∀ x ∈ ks,∃ (p q:Nat) (zs:List D),x = .tup [.ref (B.length + (13 + p)),.ref (B.length + (13 + q))] ∧ G[p]? = some (.lst zs) ∧ G[q]? = some (.lst zs) ∧ Tm 10000 zs
theorem Kp.more {B G:Store} {ks:List D} (h:Kp B G ks) (G':Store):Kp B (G ++ G') ks:=fun x hx=>by
 obtain ⟨p,q,zs,e,a,b,t⟩:=h x hx
 exact ⟨p,q,zs,e,Zae a _,Zae b _,t⟩
section
variable {B G:Store} {s1:Nat} {ss0 ss1 h0 h1 ts0 ts1 ks:List D}
theorem Zcx:(Zo B s1 ss0 ss1 h0 h1 ts0 ts1 ks G).length = B.length + (13 + G.length):=by
 unfold Zo; rw [List.length_append]; simp only [List.length_cons]; omega
theorem Zv (k:Nat) {o:MO} (h:(MO.lst [.ref 2,.ref s1] :: .lst h0 :: .lst h1 :: .lst [.ref (B.length + 1),.ref (B.length + 2)] :: ZaD ss0 (B.length + 5) :: .lst ts0 :: ZaD ss1 (B.length + 7) :: .lst ts1 :: .lst [.ref (B.length + 4),.ref (B.length + 6)] :: .lst ts0 :: .lst ts1 :: .lst [.ref (B.length + 9),.ref (B.length + 10)] :: .lst ks :: G)[k]? = some o):(Zo B s1 ss0 ss1 h0 h1 ts0 ts1 ks G)[B.length + k]? = some o:=(Zbj B _ k).trans h
theorem Zb3 {j:Nat} {o:MO} (h:B[j]? = some o):(Zo B s1 ss0 ss1 h0 h1 ts0 ts1 ks G)[j]? = some o:=Zae h _
theorem Zbs (k:Nat) {o:MO} (h:G[k]? = some o):(Zo B s1 ss0 ss1 h0 h1 ts0 ts1 ks G)[B.length + (13 + k)]? = some o:=(Zbj B _ (13 + k)).trans (by
 rw [show 13 + k = k + 1 + 1 + 1 + 1 + 1 + 1 + 1 + 1 + 1 + 1 + 1 + 1 + 1 by omega]
 simp only [List.getElem?_cons_succ]; exact h)
theorem Zcd (G':Store):Zo B s1 ss0 ss1 h0 h1 ts0 ts1 ks G ++ G' = Zo B s1 ss0 ss1 h0 h1 ts0 ts1 ks (G ++ G'):=by unfold Zo; rw [List.append_assoc]; rfl
theorem ZgV (t:Int) (ss:List D):(decide (0 ≤ t) && decide (t < (ss.length:Int))) = false ∨ ∃ (k:Nat) (d:D),t = (k:Int) ∧ ss[k]? = some d:=by
 by_cases h:0 ≤ t ∧ t < (ss.length:Int)
 ·refine .inr ⟨t.toNat,ss[t.toNat]'(by omega),by omega,by simp⟩
 ·refine .inl ?_
  by_cases h0:0 ≤ t
  ·rw [decide_eq_true h0,decide_eq_false fun z=>h ⟨h0,z⟩]; rfl
  ·rw [decide_eq_false h0]; rfl
theorem Znc {j:Nat} {t:Int} (b0:B[2]? = some (.lst ss0)) (p0:∀ s ∈ ss0,ZaB 6 s = true) (hj:j ≤ 1000) (h:Tm j ts0):∃ ts',Tm (j + 1) ts' ∧ Zaj [.ref (B.length + 4),.ref 2,.ref (B.length + 9),.int t] (Zo B s1 ss0 ss1 h0 h1 ts0 ts1 ks G) = .ok (.bl true) (Zo B s1 ss0 ss1 h0 h1 ts' ts1 ks G):=by
 have lb:2 < B.length:=(List.getElem?_eq_some_iff.mp b0).1
 rcases ZgV t ss0 with z | ⟨k,d,rfl,hd⟩
 ·exact ⟨ts0,h.up (by omega),ZfP (ts:=ts0) (Zv 4 rfl) (Zb3 b0) z⟩
 ·refine ⟨ts0 ++ [.int (k:Int)],h.snoc,(Zfg (a:=B.length + 5) (Zv 4 rfl) (Zv 5 rfl) (Zb3 b0) (Zv 9 rfl) hd (Nat.lt_of_le_of_lt (Nat.le_trans h.2 hj) (by decide)) (p0 d (List.mem_of_getElem? hd)) (by omega) (by omega) (by omega) (by omega) (by omega)).trans ?_⟩
  unfold Zo; rw [Zbe,Zbe]; rfl
theorem ZnA {j:Nat} {t:Int} (b0:B[s1]? = some (.lst ss1)) (p0:∀ s ∈ ss1,ZaB 6 s = true) (hj:j ≤ 1000) (h:Tm j ts1):∃ ts',Tm (j + 1) ts' ∧ Zaj [.ref (B.length + 6),.ref s1,.ref (B.length + 10),.int t] (Zo B s1 ss0 ss1 h0 h1 ts0 ts1 ks G) = .ok (.bl true) (Zo B s1 ss0 ss1 h0 h1 ts0 ts' ks G):=by
 have lb:s1 < B.length:=(List.getElem?_eq_some_iff.mp b0).1
 rcases ZgV t ss1 with z | ⟨k,d,rfl,hd⟩
 ·exact ⟨ts1,h.up (by omega),ZfP (ts:=ts1) (Zv 6 rfl) (Zb3 b0) z⟩
 ·refine ⟨ts1 ++ [.int (k:Int)],h.snoc,(Zfg (a:=B.length + 7) (Zv 6 rfl) (Zv 7 rfl) (Zb3 b0) (Zv 10 rfl) hd (Nat.lt_of_le_of_lt (Nat.le_trans h.2 hj) (by decide)) (p0 d (List.mem_of_getElem? hd)) (by omega) (by omega) (by omega) (by omega) (by omega)).trans ?_⟩
  unfold Zo; rw [Zbe,Zbe]; rfl
theorem ZlY {ts:List D} (h:Kp B G ks) (ht:Tm 10000 ts):Kp B (G ++ [.lst ts,.lst ts,.lst ts]) (ks ++ [.tup [.ref (B.length + (13 + G.length)),.ref (B.length + (13 + (G.length + 1)))]]):=fun x hx=>by
 rcases List.mem_append.mp hx with z | z
 ·exact h.more _ x z
 ·rw [List.mem_singleton.mp z]
  exact ⟨G.length,G.length + 1,ts,rfl,Zak _ _ _,Zbj G _ 1,ht⟩
theorem Zh7 {n sl tl a:Nat} {ss ts:List D} (hk:Kp B G ks) (ht:Tm 10000 ts) (h:(Zo B s1 ss0 ss1 h0 h1 ts0 ts1 ks G)[n]? = some (ZaD ss a)) (ha:(Zo B s1 ss0 ss1 h0 h1 ts0 ts1 ks G)[a]? = some (.lst ts)) (hs:(Zo B s1 ss0 ss1 h0 h1 ts0 ts1 ks G)[sl]? = some (.lst ss)) (hl:(Zo B s1 ss0 ss1 h0 h1 ts0 ts1 ks G)[tl]? = some (.lst ts))
  (n1:n ≠ B.length + 12) (n2:a ≠ B.length + 12) (n3:tl ≠ B.length + 12):∃ ks' G',Kp B (G ++ G') ks' ∧ Zad [.ref n,.ref sl,.ref tl,.ref (B.length + 12)] (Zo B s1 ss0 ss1 h0 h1 ts0 ts1 ks G) = .ok (.bl true) (Zo B s1 ss0 ss1 h0 h1 ts0 ts1 ks' (G ++ G')):=by
 by_cases l:ks.length < 12
 ·refine ⟨_,_,ZlY hk ht,(Zh8 h ha hs hl (Zv 12 rfl) ht.1 ht.2 l n1 n2 n3).trans ?_⟩
  rw [Zcx,← Zcd]
  congr 2
  unfold Zo; rw [Zbe]; rfl
 ·exact ⟨ks,[],by rw [List.append_nil]; exact hk,by rw [List.append_nil]; exact Zfb h ha hs hl (Zv 12 rfl) ht.1 ht.2 l⟩
theorem Zix (b0:B[2]? = some (.lst ss0)) (hk:Kp B G ks) (h:Tm 10000 ts0):∃ ks' G',Kp B (G ++ G') ks' ∧ Zad [.ref (B.length + 4),.ref 2,.ref (B.length + 9),.ref (B.length + 12)] (Zo B s1 ss0 ss1 h0 h1 ts0 ts1 ks G) = .ok (.bl true) (Zo B s1 ss0 ss1 h0 h1 ts0 ts1 ks' (G ++ G')):=
 Zh7 hk h (Zv 4 rfl) (Zv 5 rfl) (Zb3 b0) (Zv 9 rfl) (by omega) (by omega) (by omega)
theorem Zin (b0:B[s1]? = some (.lst ss1)) (hk:Kp B G ks) (h:Tm 10000 ts1):∃ ks' G',Kp B (G ++ G') ks' ∧ Zad [.ref (B.length + 6),.ref s1,.ref (B.length + 10),.ref (B.length + 12)] (Zo B s1 ss0 ss1 h0 h1 ts0 ts1 ks G) = .ok (.bl true) (Zo B s1 ss0 ss1 h0 h1 ts0 ts1 ks' (G ++ G')):=
 Zh7 hk h (Zv 6 rfl) (Zv 7 rfl) (Zb3 b0) (Zv 10 rfl) (by omega) (by omega) (by omega)
end
noncomputable def Zl9:S3:=(Zr (Zaw 8 (e2 Zaf (Zb 2) (eC (.int 2)))) (Zr (Zaw 9 (Zaa Zbc (Za (e2 Zag (Zb 2) (eC (.int 2))) (Za (ZaJ Za0 (Za (e2 Zh (Zb 3) (Zb 8)) (Ze))) (Ze))))) (Zr (sIf (e1 ZaM (Zaa Zaj (Za (e2 Zh (Zb 5) (Zb 8)) (Za (e2 Zh (Zb 3) (Zb 8)) (Za (e2 Zh (Zb 6) (Zb 8)) (Za (Zb 9) (Ze))))))) (Zau (eC (.bl false))) (Zac)) (Zr (Zaw 10 (e2 ZbY (eC (.int 1)) (Zb 8))) (Zr (Zaw 11 (e2 Zh (Zb 6) (Zb 10))) (Zr (sIf (e2 Zcu (e2 Zaf (Zb 2) (eC (.int 7))) (eC (.int 3))) (sIf (e1 ZaM (Zaa Zad (Za (e2 Zh (Zb 5) (Zb 10)) (Za (e2 Zh (Zb 3) (Zb 10)) (Za (Zb 11) (Za (Zb 7) (Ze))))))) (Zau (eC (.bl false))) (Zac)) (Zac)) (sIf (e2 Zcu (e2 Zaf (Zb 2) (eC (.int 7))) (eC (.int 5))) (Zr (ZaC (Zcq tyL Za3 (e2 Zh (Zb 4) (Zb 8)) (Za (Zb 6) (Ze)))) (ZaC (Zcq tyL Zbd (e2 Zh (Zb 4) (Zb 8)) (Ze)))) (Zac))))))))
noncomputable def E51 (z:D) (B:Store) (x2 x8 x9 x10 x11 x12 x13 x14 x15 x16:Option D):Zz:=[some z,some (.ref 1),x2,some (.ref B.length),some (.ref (B.length + 3)),some (.ref (B.length + 8)),some (.ref (B.length + 11)),some (.ref (B.length + 12)),x8,x9,x10,x11,x12,x13,x14,x15,x16]
theorem ZiT {o:E3} {env:Zz} {M:Store} {n:Nat} {xs:List D} (ho:o env M = .ok (.ref n) M) (hM:M[n]? = some (.lst xs)):Zcq tyL Zbd o (Ze) env M = .ok .non (M.set n (.lst xs.reverse)):=by
 simp only [Zcq,ho,R3.bind,tyL,hM,Ze,Zbd,if_true]
section
variable {B G:Store} {s1:Nat} {ss0 ss1 h0 h1 ts0 ts1 ks:List D} {z:D} {x2 x8 x9 x10 x11 x12 x13 x14 x15 x16:Option D} {c:Int} {j:Nat}
theorem ZmM (b0:B[2]? = some (.lst ss0)) (b1:B[s1]? = some (.lst ss1)) (p0:∀ s ∈ ss0,ZaB 6 s = true) (p1:∀ s ∈ ss1,ZaB 6 s = true) (hj:j ≤ 1000) (t0:Tm j ts0) (t1:Tm j ts1) (lh:h0.length < 1000) (hk:Kp B G ks) (hc:c % 2 = 0):
  ∃ (h' ts' ks':List D) (G':Store) (x8' x9' x10' x11':Option D),Tm (j + 1) ts' ∧ h'.length ≤ h0.length + 1 ∧ Kp B (G ++ G') ks' ∧ Zl9 (E51 z B (some (.int c)) x8 x9 x10 x11 x12 x13 x14 x15 x16) (Zo B s1 ss0 ss1 h0 h1 ts0 ts1 ks G) = .nx (E51 z B (some (.int c)) x8' x9' x10' x11' x12 x13 x14 x15 x16) (Zo B s1 ss0 ss1 h' h1 ts' ts1 ks' (G ++ G')):=by
 obtain ⟨t,et⟩:=Zhb (c / 2) ss0.length (Zo B s1 ss0 ss1 h0 h1 ts0 ts1 ks G)
 obtain ⟨ts',tt,ea⟩:=Znc (B:=B) (G:=G) (s1:=s1) (ss0:=ss0) (ss1:=ss1) (h0:=h0) (h1:=h1) (ts0:=ts0) (ts1:=ts1) (ks:=ks) (t:=t) b0 p0 hj t0
 have e8:(e2 Zaf (Zb 2) (eC (.int 2))) (E51 z B (some (.int c)) x8 x9 x10 x11 x12 x13 x14 x15 x16) (Zo B s1 ss0 ss1 h0 h1 ts0 ts1 ks G) = .ok (.int 0) (Zo B s1 ss0 ss1 h0 h1 ts0 ts1 ks G):=by rw [← hc]; exact Zf rfl rfl (ZaA (by decide))
 obtain ⟨ks',G',kk,ek⟩:∃ ks' G',Kp B (G ++ G') ks' ∧ sIf (e2 Zcu (e2 Zaf (Zb 2) (eC (.int 7))) (eC (.int 3))) (sIf (e1 ZaM (Zaa Zad (Za (e2 Zh (Zb 5) (Zb 10)) (Za (e2 Zh (Zb 3) (Zb 10)) (Za (Zb 11) (Za (Zb 7) (Ze))))))) (Zau (eC (.bl false))) (Zac)) (Zac) (E51 z B (some (.int c)) (some (.int 0)) (some (.int t)) (some (.int 1)) (some (.ref (B.length + 10))) x12 x13 x14 x15 x16) (Zo B s1 ss0 ss1 h0 h1 ts' ts1 ks G) = .nx (E51 z B (some (.int c)) (some (.int 0)) (some (.int t)) (some (.int 1)) (some (.ref (B.length + 10))) x12 x13 x14 x15 x16) (Zo B s1 ss0 ss1 h0 h1 ts' ts1 ks' (G ++ G')):=by
  by_cases h:c % 7 = 3
  ·obtain ⟨ks',G',kk,ek⟩:=Zin (B:=B) (G:=G) (s1:=s1) (ss0:=ss0) (ss1:=ss1) (h0:=h0) (h1:=h1) (ts0:=ts') (ts1:=ts1) (ks:=ks) b1 hk (t1.up (by omega))
   exact ⟨ks',G',kk,(Zc1 (M':=(Zo B s1 ss0 ss1 h0 h1 ts' ts1 ks G)) (Zf (Zf rfl rfl (ZaA (by decide))) rfl (Zil h))).trans (Zab (Zbz (Zb0 (Zf rfl rfl (Zq (Zv 8 rfl) rfl)) (Zf rfl rfl (Zq (Zv 0 rfl) rfl)) rfl rfl ek) rfl))⟩
  ·exact ⟨ks,[],by rw [List.append_nil]; exact hk,by rw [List.append_nil]; exact Zab (Zf (Zf rfl rfl (ZaA (by decide))) rfl (ZiV h))⟩
 have head:∀ f:S3,Zr (Zaw 8 (e2 Zaf (Zb 2) (eC (.int 2)))) (Zr (Zaw 9 (Zaa Zbc (Za (e2 Zag (Zb 2) (eC (.int 2))) (Za (ZaJ Za0 (Za (e2 Zh (Zb 3) (Zb 8)) (Ze))) (Ze))))) (Zr (sIf (e1 ZaM (Zaa Zaj (Za (e2 Zh (Zb 5) (Zb 8)) (Za (e2 Zh (Zb 3) (Zb 8)) (Za (e2 Zh (Zb 6) (Zb 8)) (Za (Zb 9) (Ze))))))) (Zau (eC (.bl false))) (Zac)) (Zr (Zaw 10 (e2 ZbY (eC (.int 1)) (Zb 8))) (Zr (Zaw 11 (e2 Zh (Zb 6) (Zb 10))) f)))) (E51 z B (some (.int c)) x8 x9 x10 x11 x12 x13 x14 x15 x16) (Zo B s1 ss0 ss1 h0 h1 ts0 ts1 ks G) = f (E51 z B (some (.int c)) (some (.int 0)) (some (.int t)) (some (.int 1)) (some (.ref (B.length + 10))) x12 x13 x14 x15 x16) (Zo B s1 ss0 ss1 h0 h1 ts' ts1 ks G):=fun f=>
  (Zm (ZaF e8)).trans ((Zm (ZaF (Zbl (Zf rfl rfl (ZaW (by decide))) (Zbp (Zf rfl rfl (Zq (Zv 0 rfl) rfl)) (ZbI (Zb3 b0))) et))).trans ((Zm (Zab (Zbz (Zb0 (Zf rfl rfl (Zq (Zv 8 rfl) rfl)) (Zf rfl rfl (Zq (Zv 0 rfl) rfl)) (Zf rfl rfl (Zq (Zv 11 rfl) rfl)) rfl ea) rfl))).trans ((Zm (ZaF (d:=.int 1) rfl)).trans (Zm (ZaF (Zf rfl rfl (Zq (Zv 11 rfl) rfl)))))))
 by_cases h:c % 7 = 5
 ·refine ⟨(h0 ++ [D.ref (B.length + 11)]).reverse,ts',ks',G',some (.int 0),some (.int t),some (.int 1),some (.ref (B.length + 10)),tt,by simp,kk,(head _).trans ((Zm ek).trans ((Zc1 (Zf (Zf rfl rfl (ZaA (by decide))) rfl (Zil h))).trans ((Zm (ZgC (Zf rfl rfl (Zq (Zv 3 rfl) rfl)) (Zv 1 rfl) rfl (Zv 1 rfl) (Nat.lt_trans lh (by decide)))).trans ?_)))⟩
  have es:(Zo B s1 ss0 ss1 h0 h1 ts' ts1 ks' (G ++ G')).set (B.length + 1) (.lst (h0 ++ [D.ref (B.length + 11)])) = (Zo B s1 ss0 ss1 (h0 ++ [D.ref (B.length + 11)]) h1 ts' ts1 ks' (G ++ G')):=by unfold Zo; rw [Zbe]; rfl
  rw [es]
  refine (Zbq (ZiT (Zf rfl rfl (Zq (Zv 3 rfl) rfl)) (Zv 1 rfl))).trans ?_
  have er:(Zo B s1 ss0 ss1 (h0 ++ [D.ref (B.length + 11)]) h1 ts' ts1 ks' (G ++ G')).set (B.length + 1) (.lst (h0 ++ [D.ref (B.length + 11)]).reverse) = (Zo B s1 ss0 ss1 (h0 ++ [D.ref (B.length + 11)]).reverse h1 ts' ts1 ks' (G ++ G')):=by unfold Zo; rw [Zbe]; rfl
  rw [er]
 ·exact ⟨h0,ts',ks',G',some (.int 0),some (.int t),some (.int 1),some (.ref (B.length + 10)),tt,Nat.le_succ _,kk,(head _).trans ((Zm ek).trans (Zab (Zf (Zf rfl rfl (ZaA (by decide))) rfl (ZiV h))))⟩
theorem ZmR (b0:B[2]? = some (.lst ss0)) (b1:B[s1]? = some (.lst ss1)) (p0:∀ s ∈ ss0,ZaB 6 s = true) (p1:∀ s ∈ ss1,ZaB 6 s = true) (hj:j ≤ 1000) (t0:Tm j ts0) (t1:Tm j ts1) (lh:h1.length < 1000) (hk:Kp B G ks) (hc:c % 2 = 1):
  ∃ (h' ts' ks':List D) (G':Store) (x8' x9' x10' x11':Option D),Tm (j + 1) ts' ∧ h'.length ≤ h1.length + 1 ∧ Kp B (G ++ G') ks' ∧ Zl9 (E51 z B (some (.int c)) x8 x9 x10 x11 x12 x13 x14 x15 x16) (Zo B s1 ss0 ss1 h0 h1 ts0 ts1 ks G) = .nx (E51 z B (some (.int c)) x8' x9' x10' x11' x12 x13 x14 x15 x16) (Zo B s1 ss0 ss1 h0 h' ts0 ts' ks' (G ++ G')):=by
 obtain ⟨t,et⟩:=Zhb (c / 2) ss1.length (Zo B s1 ss0 ss1 h0 h1 ts0 ts1 ks G)
 obtain ⟨ts',tt,ea⟩:=ZnA (B:=B) (G:=G) (s1:=s1) (ss0:=ss0) (ss1:=ss1) (h0:=h0) (h1:=h1) (ts0:=ts0) (ts1:=ts1) (ks:=ks) (t:=t) b1 p1 hj t1
 have e8:(e2 Zaf (Zb 2) (eC (.int 2))) (E51 z B (some (.int c)) x8 x9 x10 x11 x12 x13 x14 x15 x16) (Zo B s1 ss0 ss1 h0 h1 ts0 ts1 ks G) = .ok (.int 1) (Zo B s1 ss0 ss1 h0 h1 ts0 ts1 ks G):=by rw [← hc]; exact Zf rfl rfl (ZaA (by decide))
 obtain ⟨ks',G',kk,ek⟩:∃ ks' G',Kp B (G ++ G') ks' ∧ sIf (e2 Zcu (e2 Zaf (Zb 2) (eC (.int 7))) (eC (.int 3))) (sIf (e1 ZaM (Zaa Zad (Za (e2 Zh (Zb 5) (Zb 10)) (Za (e2 Zh (Zb 3) (Zb 10)) (Za (Zb 11) (Za (Zb 7) (Ze))))))) (Zau (eC (.bl false))) (Zac)) (Zac) (E51 z B (some (.int c)) (some (.int 1)) (some (.int t)) (some (.int 0)) (some (.ref (B.length + 9))) x12 x13 x14 x15 x16) (Zo B s1 ss0 ss1 h0 h1 ts0 ts' ks G) = .nx (E51 z B (some (.int c)) (some (.int 1)) (some (.int t)) (some (.int 0)) (some (.ref (B.length + 9))) x12 x13 x14 x15 x16) (Zo B s1 ss0 ss1 h0 h1 ts0 ts' ks' (G ++ G')):=by
  by_cases h:c % 7 = 3
  ·obtain ⟨ks',G',kk,ek⟩:=Zix (B:=B) (G:=G) (s1:=s1) (ss0:=ss0) (ss1:=ss1) (h0:=h0) (h1:=h1) (ts0:=ts0) (ts1:=ts') (ks:=ks) b0 hk (t0.up (by omega))
   exact ⟨ks',G',kk,(Zc1 (M':=(Zo B s1 ss0 ss1 h0 h1 ts0 ts' ks G)) (Zf (Zf rfl rfl (ZaA (by decide))) rfl (Zil h))).trans (Zab (Zbz (Zb0 (Zf rfl rfl (Zq (Zv 8 rfl) rfl)) (Zf rfl rfl (Zq (Zv 0 rfl) rfl)) rfl rfl ek) rfl))⟩
  ·exact ⟨ks,[],by rw [List.append_nil]; exact hk,by rw [List.append_nil]; exact Zab (Zf (Zf rfl rfl (ZaA (by decide))) rfl (ZiV h))⟩
 have head:∀ f:S3,Zr (Zaw 8 (e2 Zaf (Zb 2) (eC (.int 2)))) (Zr (Zaw 9 (Zaa Zbc (Za (e2 Zag (Zb 2) (eC (.int 2))) (Za (ZaJ Za0 (Za (e2 Zh (Zb 3) (Zb 8)) (Ze))) (Ze))))) (Zr (sIf (e1 ZaM (Zaa Zaj (Za (e2 Zh (Zb 5) (Zb 8)) (Za (e2 Zh (Zb 3) (Zb 8)) (Za (e2 Zh (Zb 6) (Zb 8)) (Za (Zb 9) (Ze))))))) (Zau (eC (.bl false))) (Zac)) (Zr (Zaw 10 (e2 ZbY (eC (.int 1)) (Zb 8))) (Zr (Zaw 11 (e2 Zh (Zb 6) (Zb 10))) f)))) (E51 z B (some (.int c)) x8 x9 x10 x11 x12 x13 x14 x15 x16) (Zo B s1 ss0 ss1 h0 h1 ts0 ts1 ks G) = f (E51 z B (some (.int c)) (some (.int 1)) (some (.int t)) (some (.int 0)) (some (.ref (B.length + 9))) x12 x13 x14 x15 x16) (Zo B s1 ss0 ss1 h0 h1 ts0 ts' ks G):=fun f=>
  (Zm (ZaF e8)).trans ((Zm (ZaF (Zbl (Zf rfl rfl (ZaW (by decide))) (Zbp (Zf rfl rfl (Zq (Zv 0 rfl) rfl)) (ZbI (Zb3 b1))) et))).trans ((Zm (Zab (Zbz (Zb0 (Zf rfl rfl (Zq (Zv 8 rfl) rfl)) (Zf rfl rfl (Zq (Zv 0 rfl) rfl)) (Zf rfl rfl (Zq (Zv 11 rfl) rfl)) rfl ea) rfl))).trans ((Zm (ZaF (d:=.int 0) rfl)).trans (Zm (ZaF (Zf rfl rfl (Zq (Zv 11 rfl) rfl)))))))
 by_cases h:c % 7 = 5
 ·refine ⟨(h1 ++ [D.ref (B.length + 11)]).reverse,ts',ks',G',some (.int 1),some (.int t),some (.int 0),some (.ref (B.length + 9)),tt,by simp,kk,(head _).trans ((Zm ek).trans ((Zc1 (Zf (Zf rfl rfl (ZaA (by decide))) rfl (Zil h))).trans ((Zm (ZgC (Zf rfl rfl (Zq (Zv 3 rfl) rfl)) (Zv 2 rfl) rfl (Zv 2 rfl) (Nat.lt_trans lh (by decide)))).trans ?_)))⟩
  have es:(Zo B s1 ss0 ss1 h0 h1 ts0 ts' ks' (G ++ G')).set (B.length + 2) (.lst (h1 ++ [D.ref (B.length + 11)])) = (Zo B s1 ss0 ss1 h0 (h1 ++ [D.ref (B.length + 11)]) ts0 ts' ks' (G ++ G')):=by unfold Zo; rw [Zbe]; rfl
  rw [es]
  refine (Zbq (ZiT (Zf rfl rfl (Zq (Zv 3 rfl) rfl)) (Zv 2 rfl))).trans ?_
  have er:(Zo B s1 ss0 ss1 h0 (h1 ++ [D.ref (B.length + 11)]) ts0 ts' ks' (G ++ G')).set (B.length + 2) (.lst (h1 ++ [D.ref (B.length + 11)]).reverse) = (Zo B s1 ss0 ss1 h0 (h1 ++ [D.ref (B.length + 11)]).reverse ts0 ts' ks' (G ++ G')):=by unfold Zo; rw [Zbe]; rfl
  rw [er]
 ·exact ⟨h1,ts',ks',G',some (.int 1),some (.int t),some (.int 0),some (.ref (B.length + 9)),tt,Nat.le_succ _,kk,(head _).trans ((Zm ek).trans (Zab (Zf (Zf rfl rfl (ZaA (by decide))) rfl (ZiV h))))⟩
end
noncomputable def Zl6:S3:=(Zr (sIf (e1 ZaM (Zaa Zad (Za (e2 Zh (Zb 5) (Zb 12)) (Za (e2 Zh (Zb 3) (Zb 12)) (Za (e2 Zh (Zb 6) (Zb 12)) (Za (Zb 7) (Ze))))))) (Zau (eC (.bl false))) (Zac)) (Zr (ZdU (Zdn (ZaT (Za (ZaJ Za0 (Za (e2 Zh (Zb 3) (Zb 12)) (Ze))) (Za (e1 Zb5 (eC (.int 1))) (Za (e2 Zbb (eC (.int 10)) (eC (.int 59))) (Ze)))))) (Zcv 9) (sIf (e1 ZaM (Zaa Zaq (Za (e2 Zh (Zb 5) (Zb 12)) (Za (Zb 9) (Ze))))) (Zau (eC (.bl false))) (Zac))) (Zr (Zaw 13 (e2 Zag (ZaJ Za0 (Za (e2 Zh (Zb 3) (Zb 12)) (Ze))) (eC (.int 2)))) (Zr (sIf (ZcA (e2 Zd2 (Zb 13) (eC (.int 0))) (e1 ZaM (Zaa Zaj (Za (e2 Zh (Zb 5) (Zb 12)) (Za (e2 Zh (Zb 3) (Zb 12)) (Za (e2 Zh (Zb 6) (Zb 12)) (Za (Zb 13) (Ze)))))))) (Zau (eC (.bl false))) (Zac)) (sIf (e1 ZaM (Zaa Zad (Za (e2 Zh (Zb 5) (Zb 12)) (Za (e2 Zh (Zb 3) (Zb 12)) (Za (e2 Zh (Zb 6) (Zb 12)) (Za (Zb 7) (Ze))))))) (Zau (eC (.bl false))) (Zac))))))
noncomputable def ZjY:S3:=(sIf (e1 ZaM (Zaa Zaq (Za (e2 Zh (Zb 5) (Zb 12)) (Za (Zb 9) (Ze))))) (Zau (eC (.bl false))) (Zac))
theorem ZcH {it:It3} {g:G3} {body:S3} {M:Store} {Q:Zz → Prop} (hl:locked it M = true):∀ (ds:List D) (env:Zz),Q env → (∀ d ∈ ds,∀ env,Q env → ∃ e1 e2,g d env = some e1 ∧ body e1 M = .nx e2 M ∧ Q e2) → ∃ e',ZbJ it g body ds env M = .nx e' M ∧ Q e'
 | [],env,h,_=>⟨env,by simp only [ZbJ,hl,if_true],h⟩
 | d :: ds,env,h,hs=>by
  obtain ⟨e1,e2,a,b,c⟩:=hs d List.mem_cons_self env h
  obtain ⟨e3,a3,c3⟩:=ZcH hl ds e2 c fun d' hd'=>hs d' (List.mem_cons_of_mem _ hd')
  exact ⟨e3,by simp only [ZbJ,hl,if_true,a,b,a3],c3⟩
section
variable {B G:Store} {s1:Nat} {ss0 ss1 h0 h1 ts0 ts1 ks:List D} {z:D} {x2 x8 x9 x10 x11 x12 x13 x14 x15 x16:Option D} {j:Nat}
theorem ref0 (ls:ss0.length ≤ 1000):∃ y,ZdU (Zdn (ZaT (Za (ZaJ Za0 (Za (e2 Zh (Zb 3) (Zb 12)) (Ze))) (Za (e1 Zb5 (eC (.int 1))) (Za (e2 Zbb (eC (.int 10)) (eC (.int 59))) (Ze)))))) (Zcv 9) ZjY (E51 z B x2 x8 x9 x10 x11 (some (.int 0)) x13 x14 x15 x16) (Zo B s1 ss0 ss1 h0 h1 ts0 ts1 ks G) = .nx (E51 z B x2 x8 y x10 x11 (some (.int 0)) x13 x14 x15 x16) (Zo B s1 ss0 ss1 h0 h1 ts0 ts1 ks (G ++ [.lst [D.int (ss0.length:Int),.int (-1),.int (10 ^ 59)]])) ∨ B[2]? ≠ some (.lst ss0):=by
 by_cases b:B[2]? = some (.lst ss0)
 rotate_left
 ·exact ⟨none,.inr b⟩
 have p59:∀ (env:Zz) (M:Store),e2 Zbb (eC (.int 10)) (eC (.int 59)) env M = .ok (.int (10 ^ 59)) M:=fun env M=>by simp
 have ls':(ZaT (Za (ZaJ Za0 (Za (e2 Zh (Zb 3) (Zb 12)) (Ze))) (Za (e1 Zb5 (eC (.int 1))) (Za (e2 Zbb (eC (.int 10)) (eC (.int 59))) (Ze))))) (E51 z B x2 x8 x9 x10 x11 (some (.int 0)) x13 x14 x15 x16) (Zo B s1 ss0 ss1 h0 h1 ts0 ts1 ks G) = .ok (.ref (Zo B s1 ss0 ss1 h0 h1 ts0 ts1 ks G).length) ((Zo B s1 ss0 ss1 h0 h1 ts0 ts1 ks G) ++ [.lst [D.int (ss0.length:Int),.int (-1),.int (10 ^ 59)]]):=Za6 (Zt (Zbp (Zf rfl rfl (Zq (Zv 0 rfl) rfl)) (ZbI (Zb3 b))) (Zt rfl (Zt (p59 _ _) rfl))) rfl
 have iv:Zdn (ZaT (Za (ZaJ Za0 (Za (e2 Zh (Zb 3) (Zb 12)) (Ze))) (Za (e1 Zb5 (eC (.int 1))) (Za (e2 Zbb (eC (.int 10)) (eC (.int 59))) (Ze))))) (E51 z B x2 x8 x9 x10 x11 (some (.int 0)) x13 x14 x15 x16) (Zo B s1 ss0 ss1 h0 h1 ts0 ts1 ks G) = .ok ⟨[D.int (ss0.length:Int),.int (-1),.int (10 ^ 59)],some (Zo B s1 ss0 ss1 h0 h1 ts0 ts1 ks G).length⟩ ((Zo B s1 ss0 ss1 h0 h1 ts0 ts1 ks G) ++ [.lst [D.int (ss0.length:Int),.int (-1),.int (10 ^ 59)]]):=by
  simp only [Zdn,ls',R3.bind,Zak]
 obtain ⟨e',hl,y,rfl⟩:=ZcH (it:=⟨[D.int (ss0.length:Int),.int (-1),.int (10 ^ 59)],some (Zo B s1 ss0 ss1 h0 h1 ts0 ts1 ks G).length⟩) (g:=Zcv 9) (body:=ZjY) (M:=(Zo B s1 ss0 ss1 h0 h1 ts0 ts1 ks G) ++ [.lst [D.int (ss0.length:Int),.int (-1),.int (10 ^ 59)]]) (Q:=fun env=>∃ y,env = (E51 z B x2 x8 y x10 x11 (some (.int 0)) x13 x14 x15 x16)) (by simp only [locked,Zak,decide_true]) [D.int (ss0.length:Int),.int (-1),.int (10 ^ 59)] (E51 z B x2 x8 x9 x10 x11 (some (.int 0)) x13 x14 x15 x16) ⟨x9,rfl⟩ (fun d hd env q=>by
  obtain ⟨y,rfl⟩:=q
  have key:∃ t:Int,d = .int t ∧ (decide (0 ≤ t) && decide (t < (ss0.length:Int))) = false:=by
   rcases List.mem_cons.mp hd with h | h
   ·exact ⟨_,h,by rw [decide_eq_false (Int.lt_irrefl (ss0.length:Int)),Bool.and_false]⟩
   ·rcases List.mem_cons.mp h with h | h
    ·exact ⟨_,h,rfl⟩
    ·refine ⟨_,List.mem_singleton.mp h,?_⟩
     rw [decide_eq_false (by omega:¬ (10 ^ 59:Int) < (ss0.length:Int)),Bool.and_false]
  obtain ⟨t,rfl,ht⟩:=key
  exact ⟨_,_,rfl,Zab (Zbz (Zbl (Zf rfl rfl (Zq (Zae (Zv 8 rfl) _) rfl)) rfl (ZcK (Zae (Zv 4 rfl) _) ht)) rfl),some (.int t),rfl⟩)
 exact ⟨y,.inl ((Zek iv).trans (by rw [hl,Zcd]))⟩
theorem ZnW (b0:B[2]? = some (.lst ss0)) (p0:∀ s ∈ ss0,ZaB 6 s = true) (ls:ss0.length ≤ 1000) (hj:j ≤ 1000) (t0:Tm j ts0) (hk:Kp B G ks):
  ∃ (ts' ks':List D) (G':Store) (x9' x13':Option D),Tm (j + 1) ts' ∧ Kp B (G ++ G') ks' ∧ Zl6 (E51 z B x2 x8 x9 x10 x11 (some (.int 0)) x13 x14 x15 x16) (Zo B s1 ss0 ss1 h0 h1 ts0 ts1 ks G) = .nx (E51 z B x2 x8 x9' x10 x11 (some (.int 0)) x13' x14 x15 x16) (Zo B s1 ss0 ss1 h0 h1 ts' ts1 ks' (G ++ G')):=by
 obtain ⟨k1,G1,kk1,e1⟩:=Zix (B:=B) (G:=G) (s1:=s1) (ss0:=ss0) (ss1:=ss1) (h0:=h0) (h1:=h1) (ts0:=ts0) (ts1:=ts1) (ks:=ks) b0 hk (t0.up (by omega))
 obtain ⟨y,e2 | e2⟩:=ref0 (B:=B) (G:=G ++ G1) (s1:=s1) (ss0:=ss0) (ss1:=ss1) (h0:=h0) (h1:=h1) (ts0:=ts0) (ts1:=ts1) (ks:=k1) (z:=z) (x2:=x2) (x8:=x8) (x9:=x9) (x10:=x10) (x11:=x11) (x13:=x13) (x14:=x14) (x15:=x15) (x16:=x16) ls
 rotate_left
 ·exact absurd b0 e2
 have kk2:=kk1.more [.lst [D.int (ss0.length:Int),.int (-1),.int (10 ^ 59)]]
 generalize hG2:(G ++ G1) ++ [MO.lst [D.int (ss0.length:Int),.int (-1),.int (10 ^ 59)]] = G2 at e2 kk2
 have am:∃ ts',Tm (j + 1) ts' ∧ sIf (ZcA (L3.e2 Zd2 (Zb 13) (eC (.int 0))) (L3.e1 ZaM (Zaa Zaj (Za (L3.e2 Zh (Zb 5) (Zb 12)) (Za (L3.e2 Zh (Zb 3) (Zb 12)) (Za (L3.e2 Zh (Zb 6) (Zb 12)) (Za (Zb 13) (Ze)))))))) (Zau (eC (.bl false))) (Zac) (E51 z B x2 x8 y x10 x11 (some (.int 0)) (some (.int ((ss0.length:Int) / 2))) x14 x15 x16) (Zo B s1 ss0 ss1 h0 h1 ts0 ts1 k1 G2) = .nx (E51 z B x2 x8 y x10 x11 (some (.int 0)) (some (.int ((ss0.length:Int) / 2))) x14 x15 x16) (Zo B s1 ss0 ss1 h0 h1 ts' ts1 k1 G2):=by
  by_cases h:(ss0.length:Int) / 2 > 0
  ·obtain ⟨ts',tt,ea⟩:=Znc (B:=B) (G:=G2) (s1:=s1) (ss0:=ss0) (ss1:=ss1) (h0:=h0) (h1:=h1) (ts0:=ts0) (ts1:=ts1) (ks:=k1) (t:=(ss0.length:Int) / 2) b0 p0 hj t0
   exact ⟨ts',tt,Zab ((Zdm (Zf rfl rfl (by simp only [Zd2,decide_eq_true h]))).trans (Zbz (Zb0 (Zf rfl rfl (Zq (Zv 8 rfl) rfl)) (Zf rfl rfl (Zq (Zv 0 rfl) rfl)) (Zf rfl rfl (Zq (Zv 11 rfl) rfl)) rfl ea) rfl))⟩
  ·exact ⟨ts0,t0.up (by omega),Zab (Zi5 (Zf rfl rfl (by simp only [Zd2,decide_eq_false h])))⟩
 obtain ⟨ts',tt,ea⟩:=am
 obtain ⟨k3,G3,kk3,e3⟩:=Zix (B:=B) (G:=G2) (s1:=s1) (ss0:=ss0) (ss1:=ss1) (h0:=h0) (h1:=h1) (ts0:=ts') (ts1:=ts1) (ks:=k1) b0 kk2 (tt.up (by omega))
 have hG:G2 ++ G3 = G ++ (G1 ++ [MO.lst [D.int (ss0.length:Int),.int (-1),.int (10 ^ 59)]] ++ G3):=by rw [← hG2]; simp only [List.append_assoc]
 rw [hG] at kk3 e3
 refine ⟨ts',k3,_,y,some (.int ((ss0.length:Int) / 2)),tt,kk3,?_⟩
 exact (Zm (Zab (Zbz (Zb0 (Zf rfl rfl (Zq (Zv 8 rfl) rfl)) (Zf rfl rfl (Zq (Zv 0 rfl) rfl)) (Zf rfl rfl (Zq (Zv 11 rfl) rfl)) rfl e1) rfl))).trans
  ((Zm e2).trans ((Zm (ZaF (Zf (Zbp (Zf rfl rfl (Zq (Zv 0 rfl) rfl)) (ZbI (Zb3 b0))) rfl (ZaW (by decide))))).trans ((Zm ea).trans (Zab (Zbz (Zb0 (Zf rfl rfl (Zq (Zv 8 rfl) rfl)) (Zf rfl rfl (Zq (Zv 0 rfl) rfl)) (Zf rfl rfl (Zq (Zv 11 rfl) rfl)) rfl e3) rfl)))))
theorem Zox (ls:ss1.length ≤ 1000):∃ y,ZdU (Zdn (ZaT (Za (ZaJ Za0 (Za (e2 Zh (Zb 3) (Zb 12)) (Ze))) (Za (e1 Zb5 (eC (.int 1))) (Za (e2 Zbb (eC (.int 10)) (eC (.int 59))) (Ze)))))) (Zcv 9) ZjY (E51 z B x2 x8 x9 x10 x11 (some (.int 1)) x13 x14 x15 x16) (Zo B s1 ss0 ss1 h0 h1 ts0 ts1 ks G) = .nx (E51 z B x2 x8 y x10 x11 (some (.int 1)) x13 x14 x15 x16) (Zo B s1 ss0 ss1 h0 h1 ts0 ts1 ks (G ++ [.lst [D.int (ss1.length:Int),.int (-1),.int (10 ^ 59)]])) ∨ B[s1]? ≠ some (.lst ss1):=by
 by_cases b:B[s1]? = some (.lst ss1)
 rotate_left
 ·exact ⟨none,.inr b⟩
 have p59:∀ (env:Zz) (M:Store),e2 Zbb (eC (.int 10)) (eC (.int 59)) env M = .ok (.int (10 ^ 59)) M:=fun env M=>by simp
 have ls':(ZaT (Za (ZaJ Za0 (Za (e2 Zh (Zb 3) (Zb 12)) (Ze))) (Za (e1 Zb5 (eC (.int 1))) (Za (e2 Zbb (eC (.int 10)) (eC (.int 59))) (Ze))))) (E51 z B x2 x8 x9 x10 x11 (some (.int 1)) x13 x14 x15 x16) (Zo B s1 ss0 ss1 h0 h1 ts0 ts1 ks G) = .ok (.ref (Zo B s1 ss0 ss1 h0 h1 ts0 ts1 ks G).length) ((Zo B s1 ss0 ss1 h0 h1 ts0 ts1 ks G) ++ [.lst [D.int (ss1.length:Int),.int (-1),.int (10 ^ 59)]]):=Za6 (Zt (Zbp (Zf rfl rfl (Zq (Zv 0 rfl) rfl)) (ZbI (Zb3 b))) (Zt rfl (Zt (p59 _ _) rfl))) rfl
 have iv:Zdn (ZaT (Za (ZaJ Za0 (Za (e2 Zh (Zb 3) (Zb 12)) (Ze))) (Za (e1 Zb5 (eC (.int 1))) (Za (e2 Zbb (eC (.int 10)) (eC (.int 59))) (Ze))))) (E51 z B x2 x8 x9 x10 x11 (some (.int 1)) x13 x14 x15 x16) (Zo B s1 ss0 ss1 h0 h1 ts0 ts1 ks G) = .ok ⟨[D.int (ss1.length:Int),.int (-1),.int (10 ^ 59)],some (Zo B s1 ss0 ss1 h0 h1 ts0 ts1 ks G).length⟩ ((Zo B s1 ss0 ss1 h0 h1 ts0 ts1 ks G) ++ [.lst [D.int (ss1.length:Int),.int (-1),.int (10 ^ 59)]]):=by
  simp only [Zdn,ls',R3.bind,Zak]
 obtain ⟨e',hl,y,rfl⟩:=ZcH (it:=⟨[D.int (ss1.length:Int),.int (-1),.int (10 ^ 59)],some (Zo B s1 ss0 ss1 h0 h1 ts0 ts1 ks G).length⟩) (g:=Zcv 9) (body:=ZjY) (M:=(Zo B s1 ss0 ss1 h0 h1 ts0 ts1 ks G) ++ [.lst [D.int (ss1.length:Int),.int (-1),.int (10 ^ 59)]]) (Q:=fun env=>∃ y,env = (E51 z B x2 x8 y x10 x11 (some (.int 1)) x13 x14 x15 x16)) (by simp only [locked,Zak,decide_true]) [D.int (ss1.length:Int),.int (-1),.int (10 ^ 59)] (E51 z B x2 x8 x9 x10 x11 (some (.int 1)) x13 x14 x15 x16) ⟨x9,rfl⟩ (fun d hd env q=>by
  obtain ⟨y,rfl⟩:=q
  have key:∃ t:Int,d = .int t ∧ (decide (0 ≤ t) && decide (t < (ss1.length:Int))) = false:=by
   rcases List.mem_cons.mp hd with h | h
   ·exact ⟨_,h,by rw [decide_eq_false (Int.lt_irrefl (ss1.length:Int)),Bool.and_false]⟩
   ·rcases List.mem_cons.mp h with h | h
    ·exact ⟨_,h,rfl⟩
    ·refine ⟨_,List.mem_singleton.mp h,?_⟩
     rw [decide_eq_false (by omega:¬ (10 ^ 59:Int) < (ss1.length:Int)),Bool.and_false]
  obtain ⟨t,rfl,ht⟩:=key
  exact ⟨_,_,rfl,Zab (Zbz (Zbl (Zf rfl rfl (Zq (Zae (Zv 8 rfl) _) rfl)) rfl (ZcK (Zae (Zv 6 rfl) _) ht)) rfl),some (.int t),rfl⟩)
 exact ⟨y,.inl ((Zek iv).trans (by rw [hl,Zcd]))⟩
theorem Zn4 (b0:B[s1]? = some (.lst ss1)) (p0:∀ s ∈ ss1,ZaB 6 s = true) (ls:ss1.length ≤ 1000) (hj:j ≤ 1000) (t0:Tm j ts1) (hk:Kp B G ks):
  ∃ (ts' ks':List D) (G':Store) (x9' x13':Option D),Tm (j + 1) ts' ∧ Kp B (G ++ G') ks' ∧ Zl6 (E51 z B x2 x8 x9 x10 x11 (some (.int 1)) x13 x14 x15 x16) (Zo B s1 ss0 ss1 h0 h1 ts0 ts1 ks G) = .nx (E51 z B x2 x8 x9' x10 x11 (some (.int 1)) x13' x14 x15 x16) (Zo B s1 ss0 ss1 h0 h1 ts0 ts' ks' (G ++ G')):=by
 obtain ⟨k1,G1,kk1,e1⟩:=Zin (B:=B) (G:=G) (s1:=s1) (ss0:=ss0) (ss1:=ss1) (h0:=h0) (h1:=h1) (ts0:=ts0) (ts1:=ts1) (ks:=ks) b0 hk (t0.up (by omega))
 obtain ⟨y,e2 | e2⟩:=Zox (B:=B) (G:=G ++ G1) (s1:=s1) (ss0:=ss0) (ss1:=ss1) (h0:=h0) (h1:=h1) (ts0:=ts0) (ts1:=ts1) (ks:=k1) (z:=z) (x2:=x2) (x8:=x8) (x9:=x9) (x10:=x10) (x11:=x11) (x13:=x13) (x14:=x14) (x15:=x15) (x16:=x16) ls
 rotate_left
 ·exact absurd b0 e2
 have kk2:=kk1.more [.lst [D.int (ss1.length:Int),.int (-1),.int (10 ^ 59)]]
 generalize hG2:(G ++ G1) ++ [MO.lst [D.int (ss1.length:Int),.int (-1),.int (10 ^ 59)]] = G2 at e2 kk2
 have am:∃ ts',Tm (j + 1) ts' ∧ sIf (ZcA (L3.e2 Zd2 (Zb 13) (eC (.int 0))) (L3.e1 ZaM (Zaa Zaj (Za (L3.e2 Zh (Zb 5) (Zb 12)) (Za (L3.e2 Zh (Zb 3) (Zb 12)) (Za (L3.e2 Zh (Zb 6) (Zb 12)) (Za (Zb 13) (Ze)))))))) (Zau (eC (.bl false))) (Zac) (E51 z B x2 x8 y x10 x11 (some (.int 1)) (some (.int ((ss1.length:Int) / 2))) x14 x15 x16) (Zo B s1 ss0 ss1 h0 h1 ts0 ts1 k1 G2) = .nx (E51 z B x2 x8 y x10 x11 (some (.int 1)) (some (.int ((ss1.length:Int) / 2))) x14 x15 x16) (Zo B s1 ss0 ss1 h0 h1 ts0 ts' k1 G2):=by
  by_cases h:(ss1.length:Int) / 2 > 0
  ·obtain ⟨ts',tt,ea⟩:=ZnA (B:=B) (G:=G2) (s1:=s1) (ss0:=ss0) (ss1:=ss1) (h0:=h0) (h1:=h1) (ts0:=ts0) (ts1:=ts1) (ks:=k1) (t:=(ss1.length:Int) / 2) b0 p0 hj t0
   exact ⟨ts',tt,Zab ((Zdm (Zf rfl rfl (by simp only [Zd2,decide_eq_true h]))).trans (Zbz (Zb0 (Zf rfl rfl (Zq (Zv 8 rfl) rfl)) (Zf rfl rfl (Zq (Zv 0 rfl) rfl)) (Zf rfl rfl (Zq (Zv 11 rfl) rfl)) rfl ea) rfl))⟩
  ·exact ⟨ts1,t0.up (by omega),Zab (Zi5 (Zf rfl rfl (by simp only [Zd2,decide_eq_false h])))⟩
 obtain ⟨ts',tt,ea⟩:=am
 obtain ⟨k3,G3,kk3,e3⟩:=Zin (B:=B) (G:=G2) (s1:=s1) (ss0:=ss0) (ss1:=ss1) (h0:=h0) (h1:=h1) (ts0:=ts0) (ts1:=ts') (ks:=k1) b0 kk2 (tt.up (by omega))
 have hG:G2 ++ G3 = G ++ (G1 ++ [MO.lst [D.int (ss1.length:Int),.int (-1),.int (10 ^ 59)]] ++ G3):=by rw [← hG2]; simp only [List.append_assoc]
 rw [hG] at kk3 e3
 refine ⟨ts',k3,_,y,some (.int ((ss1.length:Int) / 2)),tt,kk3,?_⟩
 exact (Zm (Zab (Zbz (Zb0 (Zf rfl rfl (Zq (Zv 8 rfl) rfl)) (Zf rfl rfl (Zq (Zv 0 rfl) rfl)) (Zf rfl rfl (Zq (Zv 11 rfl) rfl)) rfl e1) rfl))).trans
  ((Zm e2).trans ((Zm (ZaF (Zf (Zbp (Zf rfl rfl (Zq (Zv 0 rfl) rfl)) (ZbI (Zb3 b0))) rfl (ZaW (by decide))))).trans ((Zm ea).trans (Zab (Zbz (Zb0 (Zf rfl rfl (Zq (Zv 8 rfl) rfl)) (Zf rfl rfl (Zq (Zv 0 rfl) rfl)) (Zf rfl rfl (Zq (Zv 11 rfl) rfl)) rfl e3) rfl)))))
end
theorem Zfy {o:E3} {env:Zz} {M M1:Store} {m:Nat} {ss:List D} (ho:o env M = .ok (.ref m) M1) (hM:M1[m]? = some (.lst ss)):ZcL TEL Zy (Za o (Ze)) env M = .ok (.ref M1.length) (M1 ++ [ZaD ss (M1.length + 1),.lst []]):=by
 have h:(Za o Ze) env M = .ok [.ref m] M1:=Zt ho rfl
 simp only [ZcL,h,R3.bind,Zjr hM]
theorem ZnD {n:Nat} {M:Store} {a b:D} (h:M[n]? = some (.lst [a,b])):Zh (.ref n) (.int 0) M = .ok a M:=Zq h rfl
theorem Znh {n:Nat} {M:Store} {a b:D} (h:M[n]? = some (.lst [a,b])):Zh (.ref n) (.int 1) M = .ok b M:=Zq h rfl
theorem law_holds:∀ ns:List Int,ns.length ≤ 63 → ∃ M',Zg7 [.scr (ns.map D.int)] [] = .ok (.bl true) M':=by
 intro ns hns
 refine Rt.law (env:=[some (.scr (ns.map D.int)),none,none,none,none,none,none,none,none,none,none,none,none,none,none,none,none]) ?_
 unfold Zip
 have c402:cutD (ns.map D.int) none (some 402) = (ns.take 402).map D.int:=by
  have:=ZlI (ns.map D.int) 402
  rw [← List.map_take] at this
  exact this
 obtain ⟨its,ci,li⟩:∃ its:List Int,cutD (ns.map D.int) (some 2) (some 402) = its.map D.int ∧ its.length ≤ 63:=⟨cutD ns (some 2) (some 402),by rw [Zi8],by
  unfold cutD
  rw [List.length_take,List.length_drop]; omega⟩
 generalize ns.take 402 = cs at c402
 generalize hz:D.scr (ns.map D.int) = z
 refine Rt.set (d:=.ref 1) (M':=[.lst (cs.map D.int),.lst [.ref 0,.int 0]]) (by rw [← hz]; simp [c402]) ?_
 have K0:ZeY cs 0 1 0 [.lst (cs.map D.int),.lst [.ref 0,.int 0]]:=⟨rfl,rfl,by omega⟩
 obtain ⟨v,M1,en,K1,l1,_⟩:=K0.next (by omega)
 have l1':M1.length = 2:=l1
 refine Rt.set (Zi4 rfl en) ?_
 obtain ⟨a,ea,la⟩:=ZcB v 41 (by decide)
 obtain ⟨b,eb,lb⟩:=ZcB (v / 41) 41 (by decide)
 obtain ⟨ss0,M2,z0,e0,g0,p0,K2,lm2,o2⟩:=ZeG (m:=a) K1 (by omega) (by omega)
 obtain ⟨ss1,B,z1,e1',g1,p1,K3,lm3,o3⟩:=ZeG (m:=b) K2 (by omega) (by omega)
 have b0:B[2]? = some (.lst ss0):=by rw [o3 2 (by omega) (by omega),← l1']; exact g0
 have b1:B[M2.length]? = some (.lst ss1):=g1
 have q0:ss0.length ≤ 1000:=by omega
 have q1:ss1.length ≤ 1000:=by omega
 rw [l1'] at e0
 have a3:(ZaT (Za (Zaa ZaS (Za (Zb 1) (Za (e2 Zaf (Zb 2) (eC (.int 41))) (Ze)))) (Za (Zaa ZaS (Za (Zb 1) (Za (e2 Zaf (e2 Zag (Zb 2) (eC (.int 41))) (eC (.int 41))) (Ze)))) (Ze)))) [some z,some (.ref 1),some (.int v),none,none,none,none,none,none,none,none,none,none,none,none,none,none] M1 = .ok (.ref B.length) (B ++ [.lst [.ref 2,.ref M2.length]]):=
  Za6 (Zt (Zbl rfl (Zf rfl rfl (ZaA (by decide))) (by rw [show v % 41 = (a:Int) from ea]; exact e0)) (Zt (Zbl rfl (Zf (Zf rfl rfl (ZaW (by decide))) rfl (ZaA (by decide))) (by rw [show v / 41 % 41 = (b:Int) from eb]; exact e1')) rfl)) rfl
 refine Rt.set a3 ?_
 generalize hs1:M2.length = s1 at b1 ⊢
 clear a3 e0 e1' en K0 K1 K2 K3 o2 o3 g0 g1
 have gS:∀ X:Store,(B ++ ([MO.lst [.ref 2,.ref s1]] ++ X))[B.length]? = some (.lst [.ref 2,.ref s1]):=fun X=>Zak _ _ _
 have a4:(ZaT (Za (ZaJ ZbT (Za (e2 Zh (Zb 3) (eC (.int 0))) (Ze))) (Za (ZaJ ZbT (Za (e2 Zh (Zb 3) (eC (.int 1))) (Ze))) (Ze)))) [some z,some (.ref 1),some (.int v),some (.ref B.length),none,none,none,none,none,none,none,none,none,none,none,none,none] (B ++ [.lst [.ref 2,.ref s1]]) = .ok (.ref (B.length + 3)) (B ++ [.lst [.ref 2,.ref s1],.lst ss0,.lst ss1,.lst [.ref (B.length + 1),.ref (B.length + 2)]]):=by
  have w1:ZbT [.ref 2] (B ++ [.lst [.ref 2,.ref s1]]) = .ok (.ref (B.length + 1)) (B ++ [.lst [.ref 2,.ref s1],.lst ss0]):=(Zez (Zae b0 _)).trans (by rw [List.length_append,List.append_assoc]; rfl)
  have w2:ZbT [.ref s1] (B ++ [.lst [.ref 2,.ref s1],.lst ss0]) = .ok (.ref (B.length + 2)) (B ++ [.lst [.ref 2,.ref s1],.lst ss0,.lst ss1]):=(Zez (Zae b1 _)).trans (by rw [List.length_append,List.append_assoc]; rfl)
  refine (Za6 (Zt (Zbp (Zf rfl rfl (ZnD (Zak _ _ _))) w1) (Zt (Zbp (Zf rfl rfl (Znh (Zak _ _ _))) w2) rfl)) rfl).trans ?_
  rw [List.length_append,List.append_assoc]; rfl
 refine Rt.set a4 ?_
 have a5:(ZaT (Za (ZcL TEL Zy (Za (e2 Zh (Zb 4) (eC (.int 0))) (Ze))) (Za (ZcL TEL Zy (Za (e2 Zh (Zb 4) (eC (.int 1))) (Ze))) (Ze)))) [some z,some (.ref 1),some (.int v),some (.ref B.length),some (.ref (B.length + 3)),none,none,none,none,none,none,none,none,none,none,none,none] (B ++ [.lst [.ref 2,.ref s1],.lst ss0,.lst ss1,.lst [.ref (B.length + 1),.ref (B.length + 2)]]) = .ok (.ref (B.length + 8)) (B ++ [.lst [.ref 2,.ref s1],.lst ss0,.lst ss1,.lst [.ref (B.length + 1),.ref (B.length + 2)],ZaD ss0 (B.length + 5),.lst [],ZaD ss1 (B.length + 7),.lst [],.lst [.ref (B.length + 4),.ref (B.length + 6)]]):=by
  have w1:ZcL TEL Zy (Za (e2 Zh (Zb 4) (eC (.int 0))) (Ze)) [some z,some (.ref 1),some (.int v),some (.ref B.length),some (.ref (B.length + 3)),none,none,none,none,none,none,none,none,none,none,none,none] (B ++ [.lst [.ref 2,.ref s1],.lst ss0,.lst ss1,.lst [.ref (B.length + 1),.ref (B.length + 2)]]) = .ok (.ref (B.length + 4)) (B ++ [.lst [.ref 2,.ref s1],.lst ss0,.lst ss1,.lst [.ref (B.length + 1),.ref (B.length + 2)],ZaD ss0 (B.length + 5),.lst []]):=
   (Zfy (Zf rfl rfl (ZnD (Zbj _ _ 3))) (Zbj _ _ 1)).trans (by rw [List.length_append,List.append_assoc]; rfl)
  have w2:ZcL TEL Zy (Za (e2 Zh (Zb 4) (eC (.int 1))) (Ze)) [some z,some (.ref 1),some (.int v),some (.ref B.length),some (.ref (B.length + 3)),none,none,none,none,none,none,none,none,none,none,none,none] (B ++ [.lst [.ref 2,.ref s1],.lst ss0,.lst ss1,.lst [.ref (B.length + 1),.ref (B.length + 2)],ZaD ss0 (B.length + 5),.lst []]) = .ok (.ref (B.length + 6)) (B ++ [.lst [.ref 2,.ref s1],.lst ss0,.lst ss1,.lst [.ref (B.length + 1),.ref (B.length + 2)],ZaD ss0 (B.length + 5),.lst [],ZaD ss1 (B.length + 7),.lst []]):=
   (Zfy (Zf rfl rfl (Znh (Zbj _ _ 3))) (Zbj _ _ 2)).trans (by rw [List.length_append,List.append_assoc]; rfl)
  refine (Za6 (Zt w1 (Zt w2 rfl)) rfl).trans ?_
  rw [List.length_append,List.append_assoc]; rfl
 refine Rt.set a5 ?_
 have a6:(ZaT (Za (ZaT (Ze)) (Za (ZaT (Ze)) (Ze)))) [some z,some (.ref 1),some (.int v),some (.ref B.length),some (.ref (B.length + 3)),some (.ref (B.length + 8)),none,none,none,none,none,none,none,none,none,none,none] (B ++ [.lst [.ref 2,.ref s1],.lst ss0,.lst ss1,.lst [.ref (B.length + 1),.ref (B.length + 2)],ZaD ss0 (B.length + 5),.lst [],ZaD ss1 (B.length + 7),.lst [],.lst [.ref (B.length + 4),.ref (B.length + 6)]]) = .ok (.ref (B.length + 11)) (B ++ [.lst [.ref 2,.ref s1],.lst ss0,.lst ss1,.lst [.ref (B.length + 1),.ref (B.length + 2)],ZaD ss0 (B.length + 5),.lst [],ZaD ss1 (B.length + 7),.lst [],.lst [.ref (B.length + 4),.ref (B.length + 6)],.lst [],.lst [],.lst [.ref (B.length + 9),.ref (B.length + 10)]]):=by
  refine (Za6 (Zt (Za6 rfl rfl) (Zt (Za6 rfl rfl) rfl)) rfl).trans ?_
  simp only [List.length_append,List.append_assoc]; rfl
 refine Rt.set a6 ?_
 have a7:(ZaT (Ze)) [some z,some (.ref 1),some (.int v),some (.ref B.length),some (.ref (B.length + 3)),some (.ref (B.length + 8)),some (.ref (B.length + 11)),none,none,none,none,none,none,none,none,none,none] (B ++ [.lst [.ref 2,.ref s1],.lst ss0,.lst ss1,.lst [.ref (B.length + 1),.ref (B.length + 2)],ZaD ss0 (B.length + 5),.lst [],ZaD ss1 (B.length + 7),.lst [],.lst [.ref (B.length + 4),.ref (B.length + 6)],.lst [],.lst [],.lst [.ref (B.length + 9),.ref (B.length + 10)]]) = .ok (.ref (B.length + 12)) (Zo B s1 ss0 ss1 ss0 ss1 [] [] [] []):=by
  refine (Za6 rfl rfl).trans ?_
  simp only [List.length_append,List.append_assoc]; rfl
 refine Rt.set a7 ?_
 clear a4 a5 a6 a7
 have toE:∀ (f:S3) (M:Store) (d:D),Rt (f (E51 z B (some (.int v)) none none none none none none none none none) M) d → Rt (f [some z,some (.ref 1),some (.int v),some (.ref B.length),some (.ref (B.length + 3)),some (.ref (B.length + 8)),some (.ref (B.length + 11)),some (.ref (B.length + 12)),none,none,none,none,none,none,none,none,none] M) d:=fun _ _ _ h=>h
 refine toE _ _ _ ?_
 have iv:Zdn (eSl (Zb 0) (ZdE (eC (.int 2))) (ZdE (eC (.int 402)))) (E51 z B (some (.int v)) none none none none none none none none none) (Zo B s1 ss0 ss1 ss0 ss1 [] [] [] []) = .ok ⟨its.map D.int,some (B.length + 13)⟩ (Zo B s1 ss0 ss1 ss0 ss1 [] [] [] [.lst (its.map D.int)]):=by
  have:(eSl (Zb 0) (ZdE (eC (.int 2))) (ZdE (eC (.int 402)))) (E51 z B (some (.int v)) none none none none none none none none none) (Zo B s1 ss0 ss1 ss0 ss1 [] [] [] []) = .ok (.ref (B.length + 13)) (Zo B s1 ss0 ss1 ss0 ss1 [] [] [] [.lst (its.map D.int)]):=by
   rw [← hz]
   simp only [eSl,E51,Zb,List.getElem?_cons_zero,R3.bind,ZdE,eC,Zgi,ci,alloc,Zcx,Zcd]; rfl
  simp only [Zdn,this,R3.bind]
  rw [show (Zo B s1 ss0 ss1 ss0 ss1 [] [] [] [.lst (its.map D.int)])[B.length + 13]? = some (.lst (its.map D.int)) from Zbs 0 rfl]
 obtain ⟨e',M',hl,h0,h1,ts0,ts1,ks,G,x2,x8,x9,x10,x11,rfl,rfl,t0,t1,lh0,lh1,hk,hi⟩:=Zga (it:=⟨its.map D.int,some (B.length + 13)⟩) (g:=Zcv 2) (body:=Zl9)
  (P:=fun j env M'=>∃ (h0 h1 ts0 ts1 ks:List D) (G:Store) (x2 x8 x9 x10 x11:Option D),env = E51 z B x2 x8 x9 x10 x11 none none none none none ∧ M' = Zo B s1 ss0 ss1 h0 h1 ts0 ts1 ks G ∧ Tm j ts0 ∧ Tm j ts1 ∧ h0.length ≤ 41 + j ∧ h1.length ≤ 41 + j ∧ Kp B G ks ∧ G[0]? = some (.lst (its.map D.int)))
  (its.map D.int) 0 (E51 z B (some (.int v)) none none none none none none none none none) (Zo B s1 ss0 ss1 ss0 ss1 [] [] [] [.lst (its.map D.int)])
  ⟨ss0,ss1,[],[],[],_,_,_,_,_,_,rfl,rfl,⟨(fun _ h=>nomatch h),Nat.le_refl _⟩,⟨(fun _ h=>nomatch h),Nat.le_refl _⟩,by omega,by omega,(fun _ h=>nomatch h),rfl⟩
  (fun j env M' q=>by
   obtain ⟨h0,h1,ts0,ts1,ks,G,x2,x8,x9,x10,x11,_,rfl,_,_,_,_,_,hi⟩:=q
   simp only [locked,decide_eq_true_eq]
   exact Zbs 0 hi)
  (fun k d hd env M' q=>by
   obtain ⟨h0,h1,ts0,ts1,ks,G,x2,x8,x9,x10,x11,rfl,rfl,t0,t1,lh0,lh1,hk,hi⟩:=q
   have hd0:=hd
   rw [List.getElem?_map] at hd
   obtain ⟨c,_,rfl⟩:=Option.map_eq_some_iff.mp hd
   have lk:k < its.length:=by
    have:=(List.getElem?_eq_some_iff.mp hd0).1
    rwa [List.length_map] at this
   obtain ⟨i,ei,l2⟩:=ZcB c 2 (by decide)
   rcases (by decide:∀ i:Nat,i < 2 → i = 0 ∨ i = 1) i l2 with h | h
   ·subst h
    obtain ⟨h',ts',ks',G',x8',x9',x10',x11',tt,lh',kk,et⟩:=ZmM (z:=z) (x8:=x8) (x9:=x9) (x10:=x10) (x11:=x11) (x12:=none) (x13:=none) (x14:=none) (x15:=none) (x16:=none) (c:=c) (h0:=h0) (h1:=h1) b0 b1 p0 p1 (j:=0 + k) (by omega) t0 t1 (by omega) hk ei
    exact ⟨_,_,_,rfl,et,h',h1,ts',ts1,ks',G ++ G',_,_,_,_,_,rfl,rfl,tt,t1.up (by omega),by omega,by omega,kk,Zae hi _⟩
   ·subst h
    obtain ⟨h',ts',ks',G',x8',x9',x10',x11',tt,lh',kk,et⟩:=ZmR (z:=z) (x8:=x8) (x9:=x9) (x10:=x10) (x11:=x11) (x12:=none) (x13:=none) (x14:=none) (x15:=none) (x16:=none) (c:=c) (h0:=h0) (h1:=h1) b0 b1 p0 p1 (j:=0 + k) (by omega) t0 t1 (by omega) hk ei
    exact ⟨_,_,_,rfl,et,h0,h',ts0,ts',ks',G ++ G',_,_,_,_,_,rfl,rfl,t0.up (by omega),tt,by omega,by omega,kk,Zae hi _⟩)
 rw [List.length_map] at t0 t1
 refine Rt.loop iv hl ?_
 clear iv hl
 obtain ⟨ts0',k1,G1,y9,y13,u0,kk1,ee0⟩:=ZnW (h0:=h0) (h1:=h1) (ss1:=ss1) (s1:=s1) (ts1:=ts1) (z:=z) (x2:=x2) (x8:=x8) (x9:=x9) (x10:=x10) (x11:=x11) (x13:=none) (x14:=none) (x15:=none) (x16:=none) b0 p0 q0 (by omega) t0 hk
 obtain ⟨ts1',k2,G2,w9,w13,u1,kk2,ee1⟩:=Zn4 (h0:=h0) (h1:=h1) (ss0:=ss0) (s1:=s1) (ts0:=ts0') (z:=z) (x2:=x2) (x8:=x8) (x9:=y9) (x10:=x10) (x11:=x11) (x13:=y13) (x14:=none) (x15:=none) (x16:=none) b1 p1 q1 (by omega) t1 kk1
 have lp:ZbJ ⟨ZcQ 0 2,none⟩ (Zcv 12) Zl6 (ZcQ 0 2) (E51 z B x2 x8 x9 x10 x11 none none none none none) (Zo B s1 ss0 ss1 h0 h1 ts0 ts1 ks G) = .nx (E51 z B x2 x8 w9 x10 x11 (some (.int 1)) w13 none none none) (Zo B s1 ss0 ss1 h0 h1 ts0' ts1' k2 (G ++ G1 ++ G2)):=by
  rw [show ZcQ 0 2 = [.int 0,.int 1] from rfl]
  unfold ZbJ
  rw [show Zcv 12 (.int 0) (E51 z B x2 x8 x9 x10 x11 none none none none none) = some (E51 z B x2 x8 x9 x10 x11 (some (.int 0)) none none none none) from rfl]
  simp only [locked,if_true,ee0]
  unfold ZbJ
  rw [show Zcv 12 (.int 1) (E51 z B x2 x8 y9 x10 x11 (some (.int 0)) y13 none none none) = some (E51 z B x2 x8 y9 x10 x11 (some (.int 1)) y13 none none none) from rfl]
  simp only [locked,if_true,ee1]
  unfold ZbJ
  simp only [locked,if_true]
 refine Rt.loop (it:=⟨ZcQ 0 2,none⟩) (M1:=Zo B s1 ss0 ss1 h0 h1 ts0 ts1 ks G) (by simp [E51]) lp ?_
 generalize G ++ G1 ++ G2 = G at kk2
 clear lp ee0 ee1
 obtain ⟨e4,h4,y14,y15,rfl⟩:=ZcH (it:=⟨k2,some (B.length + 12)⟩) (g:=Zi6 [14,15]) (body:=(sIf (e1 ZaM (Zaa Zap (Za (Zb 14) (Za (Zb 15) (Ze))))) (Zau (eC (.bl false))) (Zac))) (M:=Zo B s1 ss0 ss1 h0 h1 ts0' ts1' k2 G) (Q:=fun env=>∃ y14 y15,env = E51 z B x2 x8 w9 x10 x11 (some (.int 1)) w13 y14 y15 none) (by simp only [locked,decide_eq_true_eq]; exact Zv 12 rfl) k2 _ ⟨none,none,rfl⟩ (fun d hd env q=>by
  obtain ⟨y14,y15,rfl⟩:=q
  obtain ⟨p,q,zs,rfl,gp,gq,tz⟩:=kk2 d hd
  exact ⟨_,_,rfl,Zab (Zbz (Zbl rfl rfl (ZgY (Zbs p gp) (Zbs q gq) tz.1 tz.2)) rfl),some (.ref (B.length + (13 + p))),some (.ref (B.length + (13 + q))),rfl⟩)
 refine Rt.loop (it:=⟨k2,some (B.length + 12)⟩) (M1:=Zo B s1 ss0 ss1 h0 h1 ts0' ts1' k2 G) ?_ h4 ?_
 ·have:Zb 7 (E51 z B x2 x8 w9 x10 x11 (some (.int 1)) w13 none none none) (Zo B s1 ss0 ss1 h0 h1 ts0' ts1' k2 G) = .ok (.ref (B.length + 12)) (Zo B s1 ss0 ss1 h0 h1 ts0' ts1' k2 G):=rfl
  simp only [Zdn,this,R3.bind]
  rw [show (Zo B s1 ss0 ss1 h0 h1 ts0' ts1' k2 G)[B.length + 12]? = some (.lst k2) from Zv 12 rfl]
 clear h4
 have mk:ZcL TEL Zy (Za (ZaT (Ze)) (Ze)) (E51 z B x2 x8 w9 x10 x11 (some (.int 1)) w13 y14 y15 none) (Zo B s1 ss0 ss1 h0 h1 ts0' ts1' k2 G) = .ok (.ref (B.length + (13 + (G.length + 1)))) (Zo B s1 ss0 ss1 h0 h1 ts0' ts1' k2 (G ++ [.lst [],ZaD [] (B.length + (13 + (G.length + 2))),.lst []])):=by
  refine (Zfy (Za6 rfl rfl) (Zak _ _ _)).trans ?_
  simp only [List.length_append,Zcx,Zcd,List.append_assoc]; rfl
 refine Rt.set (env':=E51 z B x2 x8 w9 x10 x11 (some (.int 1)) w13 y14 y15 (some (.ref (B.length + (13 + (G.length + 1)))))) mk ?_ rfl
 have kk3:=kk2.more [.lst [],ZaD [] (B.length + (13 + (G.length + 2))),.lst []]
 have gn:(G ++ [MO.lst [],ZaD [] (B.length + (13 + (G.length + 2))),.lst []])[G.length + 1]? = some (ZaD [] (B.length + (13 + (G.length + 2)))):=Zbj G _ 1
 have ga:(G ++ [MO.lst [],ZaD [] (B.length + (13 + (G.length + 2))),.lst []])[G.length + 2]? = some (.lst []):=Zbj G _ 2
 generalize hN:B.length + (13 + (G.length + 1)) = n at gn
 have sn:∀ (t0 t1 k:List D) (X:Store),(Zo B s1 ss0 ss1 h0 h1 t0 t1 k (G ++ [.lst [],ZaD [] (B.length + (13 + (G.length + 2))),.lst []] ++ X))[n]? = some (ZaD [] (B.length + (13 + (G.length + 2)))):=fun t0 t1 k X=>by rw [← hN]; exact Zbs _ (Zae gn _)
 have sa:∀ (t0 t1 k:List D) (X:Store),(Zo B s1 ss0 ss1 h0 h1 t0 t1 k (G ++ [.lst [],ZaD [] (B.length + (13 + (G.length + 2))),.lst []] ++ X))[B.length + (13 + (G.length + 2))]? = some (.lst []):=fun t0 t1 k X=>Zbs _ (Zae ga _)
 have nn:n ≠ B.length + 12:=by omega
 have na:B.length + (13 + (G.length + 2)) ≠ B.length + 12:=by omega
 generalize B.length + (13 + (G.length + 2)) = a at kk3 sn sa na gn ga
 generalize G ++ [MO.lst [],ZaD [] a,.lst []] = G1 at kk3 sn sa
 have tm0:Tm 10000 []:=⟨(fun _ h=>nomatch h),by decide⟩
 have r0:Zaq [.ref n,.int 0] (Zo B s1 ss0 ss1 h0 h1 ts0' ts1' k2 G1) = .ok (.bl true) (Zo B s1 ss0 ss1 h0 h1 ts0' ts1' k2 G1):=ZcK (ss:=[]) (a:=a) (by have:=sn ts0' ts1' k2 []; rwa [List.append_nil] at this) rfl
 obtain ⟨k4,G4,kk4,e4⟩:=Zh7 (B:=B) (s1:=s1) (ss0:=ss0) (ss1:=ss1) (h0:=h0) (h1:=h1) (ts0:=ts0') (ts1:=ts1') (ks:=k2) (G:=G1 ++ [.lst [],.lst []]) (n:=n) (sl:=B.length + (13 + G1.length)) (tl:=B.length + (13 + (G1.length + 1))) (a:=a) (ss:=[]) (ts:=[]) (kk3.more _) tm0 (sn _ _ _ _) (sa _ _ _ _) (Zbs _ (Zak _ _ _)) (Zbs _ (Zbj G1 _ 1)) nn na (by omega)
 have w4:Zaa Zad (Za (Zb 16) (Za (ZaT (Ze)) (Za (ZaT (Ze)) (Za (Zb 7) (Ze))))) (E51 z B x2 x8 w9 x10 x11 (some (.int 1)) w13 y14 y15 (some (.ref n))) (Zo B s1 ss0 ss1 h0 h1 ts0' ts1' k2 G1) = .ok (.bl true) (Zo B s1 ss0 ss1 h0 h1 ts0' ts1' k4 (G1 ++ ([.lst [],.lst []] ++ G4))):=by
  refine Zb0 (b:=.ref (B.length + (13 + G1.length))) (c:=.ref (B.length + (13 + (G1.length + 1)))) (M2:=Zo B s1 ss0 ss1 h0 h1 ts0' ts1' k2 (G1 ++ [.lst []])) (M3:=Zo B s1 ss0 ss1 h0 h1 ts0' ts1' k2 (G1 ++ [.lst [],.lst []])) rfl ((Za6 rfl rfl).trans ?_) ((Za6 rfl rfl).trans ?_) rfl (e4.trans ?_)
  ·rw [Zcx,Zcd]
  ·simp only [Zcx,Zcd,List.length_append,List.append_assoc]; rfl
  ·rw [List.append_assoc]
 generalize [MO.lst [],.lst []] ++ G4 = G5 at w4
 refine Rt.ret ((Zdm (Zbl rfl rfl r0)).trans ((Zdm w4).trans (Zb0 (b:=.ref (B.length + (13 + (G1 ++ G5).length))) (c:=.ref (B.length + (13 + ((G1 ++ G5).length + 1)))) (d:=.ref (B.length + (13 + ((G1 ++ G5).length + 3)))) (M2:=Zo B s1 ss0 ss1 h0 h1 ts0' ts1' k4 (G1 ++ G5 ++ [.lst []])) (M3:=Zo B s1 ss0 ss1 h0 h1 ts0' ts1' k4 (G1 ++ G5 ++ [.lst [],.lst []])) (M4:=Zo B s1 ss0 ss1 h0 h1 ts0' ts1' k4 (G1 ++ G5 ++ [.lst [],.lst [],.lst [.non],.lst [.non,.non,.non,.non,.non,.non,.non,.non,.non,.non,.non,.non]])) rfl ((Za6 rfl rfl).trans ?_) ((Za6 rfl rfl).trans ?_) ?_ (Zfb (ss:=[]) (ts:=[]) (a:=a) (by rw [List.append_assoc]; exact sn _ _ _ _) (by rw [List.append_assoc]; exact sa _ _ _ _) (Zbs _ (Zak _ _ _)) (Zbs _ (Zbj _ _ 1)) (Zbs _ (Zbj _ _ 3)) tm0.1 tm0.2 (by decide)))))
 ·rw [Zcx,Zcd]
 ·simp only [Zcx,Zcd,List.length_append,List.append_assoc]; rfl
 ·have lq:(ZaT (Za (eC .non) (Ze))) (E51 z B x2 x8 w9 x10 x11 (some (.int 1)) w13 y14 y15 (some (.ref n))) (Zo B s1 ss0 ss1 h0 h1 ts0' ts1' k4 (G1 ++ G5 ++ [.lst [],.lst []])) = .ok (.ref (B.length + (13 + ((G1 ++ G5).length + 2)))) (Zo B s1 ss0 ss1 h0 h1 ts0' ts1' k4 (G1 ++ G5 ++ [.lst [],.lst [],.lst [.non]])):=by
   refine (Za6 rfl rfl).trans ?_
   simp only [Zcx,Zcd,List.length_append,List.append_assoc]; rfl
  refine Zf lq rfl ?_
  have gq:(Zo B s1 ss0 ss1 h0 h1 ts0' ts1' k4 (G1 ++ G5 ++ [.lst [],.lst [],.lst [.non]]))[B.length + (13 + ((G1 ++ G5).length + 2))]? = some (.lst [.non]):=Zbs _ (Zbj _ _ 2)
  simp only [ZdO,gq]
  rw [if_pos ⟨by decide,by decide,by decide⟩]
  simp only [alloc,Zcx,Zcd,List.length_append,List.append_assoc]; rfl
end Law
set_option maxHeartbeats 400000
namespace Law
open PySem PySem.Spec PyProof.Rows L2 L3
theorem uZ {P:List Value → Prop} (h:P []):∀ us:List Value,us.length = 0 → P us:=fun us e=>(List.eq_nil_of_length_eq_zero e) ▸ h
theorem uS {P:List Value → Prop} {n:Nat} (h:∀ a us,us.length = n → P (a :: us)) (us:List Value) (e:us.length = n + 1):P us:=by
 cases us with
 | nil=>exact absurd e (Nat.succ_ne_zero n).symm
 | cons a us=>exact h a us (Nat.succ.inj e)
theorem ub1 {P:List Value → Prop} {xa:Str} (h:∀ a,P [a]):∀ us:List Value,us.length = [xa].length → P us:=uS fun a=>uZ (h a)
theorem ub2 {P:List Value → Prop} {xa xb:Str} (h:∀ a b,P [a,b]):∀ us:List Value,us.length = [xa,xb].length → P us:=uS fun a=>uS fun b=>uZ (h a b)
theorem ub4 {P:List Value → Prop} {xa xb xc xd:Str} (h:∀ a b c d,P [a,b,c,d]):∀ us:List Value,us.length = [xa,xb,xc,xd].length → P us:=uS fun a=>uS fun b=>uS fun c=>uS fun d=>uZ (h a b c d)
theorem Zlk {l:PySem.W.OpenLaw} {w:World} {K:W.Frag} {h:Heap} {mg:Str → Option Value} {fa f0 f1 f2 f3 f4 f5 f6 f7 f8 f9 f10 f11 f12:Addr} (X:K.In h) (G:h.Ns mainGlobals mg) (hfa:mg "law" = some (.ref fa))
  {od0 an0 od1 an1 od2 an2 od3 an3 od4 an4 od5 an5 od6 an6 od7 an7 od8 an8 od9 an9 od10 an10 od11 an11 od12 an12:Option Addr} {sl0 sl1 sl2 sl3 sl4 sl5 sl6 sl7 sl8 sl9 sl10 sl11 sl12:Array (Option Value)} {oc0 kV0 dc0 pm0 cd0 ct0 oc1 kV1 dc1 pm1 cd1 ct1 oc2 kV2 dc2 pm2 cd2 ct2 oc3 kV3 dc3 pm3 cd3 ct3 oc4 kV4 dc4 pm4 cd4 ct4 oc5 kV5 dc5 pm5 cd5 ct5 oc6 kV6 dc6 pm6 cd6 ct6 oc7 kV7 dc7 pm7 cd7 ct7 oc8 kV8 dc8 pm8 cd8 ct8 oc9 kV9 dc9 pm9 cd9 ct9 oc10 kV10 dc10 pm10 cd10 ct10 oc11 kV11 dc11 pm11 cd11 ct11 oc12 kV12 dc12 pm12 cd12 ct12:Value} {C_Teller:Addr} {C_LedgerError C_BadCut C_BadGiven C_BadRow C_NoDispute C_NoRoll C_NoTime C_Spent C_Unfit:Addr} {cd_LedgerError cd_BadCut cd_BadGiven cd_BadRow cd_NoDispute cd_NoRoll cd_NoTime cd_Spent cd_Unfit:ClassData} {na_LedgerError qn_LedgerError:Str} {N_LedgerError:Addr} {bs_LedgerError su_LedgerError:List Value} {hd_LedgerError ab_LedgerError:Bool} {sn_LedgerError:List Str} {co_LedgerError:Option Bool} {dd_LedgerError od_LedgerError:Option Addr} {ka_LedgerError kb_LedgerError kc_LedgerError kd_LedgerError kf_LedgerError:Option Value} {oc_LedgerError:Value} {es_LedgerError:Array DictEntry} {ep_LedgerError:Nat} {sl_LedgerError:Array (Option Value)} {na_NoTime qn_NoTime:Str} {N_NoTime:Addr} {bs_NoTime su_NoTime:List Value} {hd_NoTime ab_NoTime:Bool} {sn_NoTime:List Str} {co_NoTime:Option Bool} {dd_NoTime od_NoTime:Option Addr} {ka_NoTime kb_NoTime kc_NoTime kd_NoTime kf_NoTime:Option Value} {oc_NoTime:Value} {es_NoTime:Array DictEntry} {ep_NoTime:Nat} {sl_NoTime:Array (Option Value)}
  (w_Teller_a:W.nsIn K mainGlobals "Teller" = some (some (.ref C_Teller)))
  (w_Teller_pg:PySem.W.plainGet K C_Teller Str.empty = true)
  (w_Teller_hd:PySem.W.hasDictIn K C_Teller = true)
  (w_Teller_po:PySem.W.plainOver K C_Teller = true)
  (w_Teller_sa:PySem.W.findIn K (.ref C_Teller) "__setattr__" = some (some (.builtin "object.__setattr__")))
  (w_Teller_mk:PySem.W.makesIn K C_Teller = true)
  (w_Teller_kp:W.keepIn K (.ref C_Teller) = true)
  (w_Teller_n_asked:PySem.W.findIn K (.ref C_Teller) "asked" = some none)
  (w_Teller_n_states:PySem.W.findIn K (.ref C_Teller) "states" = some none)
  (a0:W.nsIn K mainGlobals "is_within" = some (some (.ref f0))) (l0:K.lookup f0 = some ⟨oc0,od0,.func (W.fnOf "is_within" "is_within" (Zas ZbB) (Zai ZbB) (Zg ZbB) .none kV0 dc0 pm0 an0 cd0 ct0),sl0⟩) (c0:W.codeIn K cd0 "is_within" = true) (k0:W.keepIn K (.ref f0) = true)
  (a1:W.nsIn K mainGlobals "_law_next" = some (some (.ref f1))) (l1:K.lookup f1 = some ⟨oc1,od1,.func (W.fnOf "_law_next" "_law_next" (Zas ZbC) (Zai ZbC) (Zg ZbC) .none kV1 dc1 pm1 an1 cd1 ct1),sl1⟩) (c1:W.codeIn K cd1 "_law_next" = true) (k1:W.keepIn K (.ref f1) = true)
  (a2:W.nsIn K mainGlobals "_law_same" = some (some (.ref f2))) (l2:K.lookup f2 = some ⟨oc2,od2,.func (W.fnOf "_law_same" "_law_same" (Zas ZbD) (Zai ZbD) (Zg ZbD) .none kV2 dc2 pm2 an2 cd2 ct2),sl2⟩) (c2:W.codeIn K cd2 "_law_same" = true) (k2:W.keepIn K (.ref f2) = true)
  (a3:W.nsIn K mainGlobals "_law_states" = some (some (.ref f3))) (l3:K.lookup f3 = some ⟨oc3,od3,.func (W.fnOf "_law_states" "_law_states" (Zas Za4) (Zai Za4) (Zg Za4) .none kV3 dc3 pm3 an3 cd3 ct3),sl3⟩) (c3:W.codeIn K cd3 "_law_states" = true) (k3:W.keepIn K (.ref f3) = true)
  (a4:PySem.W.findIn K (.ref C_Teller) "state_at" = some (some (.ref f4))) (i4:PySem.W.isFn K (.ref f4) = true) (l4:K.lookup f4 = some ⟨oc4,od4,.func (W.fnOf "state_at" "Teller.state_at" (Zas ZaG) (Zai ZaG) (Zg ZaG) .none kV4 dc4 pm4 an4 cd4 ct4),sl4⟩) (c4:W.codeIn K cd4 "Teller.state_at" = true) (k4:W.keepIn K (.ref f4) = true)
  (a5:W.nsIn K mainGlobals "_law_refused" = some (some (.ref f5))) (l5:K.lookup f5 = some ⟨oc5,od5,.func (W.fnOf "_law_refused" "_law_refused" (Zas ZaY) (Zai ZaY) (Zg ZaY) .none kV5 dc5 pm5 an5 cd5 ct5),sl5⟩) (c5:W.codeIn K cd5 "_law_refused" = true) (k5:W.keepIn K (.ref f5) = true)
  (a6:W.nsIn K mainGlobals "_law_time" = some (some (.ref f6))) (l6:K.lookup f6 = some ⟨oc6,od6,.func (W.fnOf "_law_time" "_law_time" (Zas ZbF) (Zai ZbF) (Zg ZbF) .none kV6 dc6 pm6 an6 cd6 ct6),sl6⟩) (c6:W.codeIn K cd6 "_law_time" = true) (k6:W.keepIn K (.ref f6) = true)
  (a7:W.nsIn K mainGlobals "_law_asked" = some (some (.ref f7))) (l7:K.lookup f7 = some ⟨oc7,od7,.func (W.fnOf "_law_asked" "_law_asked" (Zas Zbf) (Zai Zbf) (Zg Zbf) .none kV7 dc7 pm7 an7 cd7 ct7),sl7⟩) (c7:W.codeIn K cd7 "_law_asked" = true) (k7:W.keepIn K (.ref f7) = true)
  (a8:PySem.W.findIn K (.ref C_Teller) "many" = some (some (.ref f8))) (i8:PySem.W.isFn K (.ref f8) = true) (l8:K.lookup f8 = some ⟨oc8,od8,.func (W.fnOf "many" "Teller.many" (Zas Za5) (Zai Za5) (Zg Za5) .none kV8 dc8 pm8 an8 cd8 ct8),sl8⟩) (c8:W.codeIn K cd8 "Teller.many" = true) (k8:W.keepIn K (.ref f8) = true)
  (a9:PySem.W.findIn K (.ref C_Teller) "times_asked" = some (some (.ref f9))) (i9:PySem.W.isFn K (.ref f9) = true) (l9:K.lookup f9 = some ⟨oc9,od9,.func (W.fnOf "times_asked" "Teller.times_asked" (Zas Zar) (Zai Zar) (Zg Zar) .none kV9 dc9 pm9 an9 cd9 ct9),sl9⟩) (c9:W.codeIn K cd9 "Teller.times_asked" = true) (k9:W.keepIn K (.ref f9) = true)
  (a10:W.nsIn K mainGlobals "_law_told" = some (some (.ref f10))) (l10:K.lookup f10 = some ⟨oc10,od10,.func (W.fnOf "_law_told" "_law_told" (Zas ZbA) (Zai ZbA) (Zg ZbA) .none kV10 dc10 pm10 an10 cd10 ct10),sl10⟩) (c10:W.codeIn K cd10 "_law_told" = true) (k10:W.keepIn K (.ref f10) = true)
  (a11:PySem.W.findIn K (.ref C_Teller) "__init__" = some (some (.ref f11))) (i11:PySem.W.isFn K (.ref f11) = true) (l11:K.lookup f11 = some ⟨oc11,od11,.func (W.fnOf "__init__" "Teller.__init__" (Zas ZaH) (Zai ZaH) (Zg ZaH) .none kV11 dc11 pm11 an11 cd11 ct11),sl11⟩) (c11:W.codeIn K cd11 "Teller.__init__" = true) (k11:W.keepIn K (.ref f11) = true)
  (a12:W.nsIn K mainGlobals "law" = some (some (.ref f12))) (l12:K.lookup f12 = some ⟨oc12,od12,.func (W.fnOf "law" "law" (Zas Zdw) (Zai Zdw) (Zg Zdw) .none kV12 dc12 pm12 an12 cd12 ct12),sl12⟩) (c12:W.codeIn K cd12 "law" = true) (k12:W.keepIn K (.ref f12) = true)
  (z_ValueError:W.nsIn K mainGlobals "ValueError" = some none)
  (z_all:W.nsIn K mainGlobals "all" = some none)
  (z_bool:W.nsIn K mainGlobals "bool" = some none)
  (z_int:W.nsIn K mainGlobals "int" = some none)
  (z_isinstance:W.nsIn K mainGlobals "isinstance" = some none)
  (z_len:W.nsIn K mainGlobals "len" = some none)
  (z_list:W.nsIn K mainGlobals "list" = some none)
  (z_max:W.nsIn K mainGlobals "max" = some none)
  (z_range:W.nsIn K mainGlobals "range" = some none)
  (z_str:W.nsIn K mainGlobals "str" = some none)
  (z_tuple:W.nsIn K mainGlobals "tuple" = some none)
  (w_LedgerError_a:W.nsIn K mainGlobals "LedgerError" = some (some (.ref C_LedgerError)))
  (w_BadCut_a:W.nsIn K mainGlobals "BadCut" = some (some (.ref C_BadCut)))
  (w_BadGiven_a:W.nsIn K mainGlobals "BadGiven" = some (some (.ref C_BadGiven)))
  (w_BadRow_a:W.nsIn K mainGlobals "BadRow" = some (some (.ref C_BadRow)))
  (w_NoDispute_a:W.nsIn K mainGlobals "NoDispute" = some (some (.ref C_NoDispute)))
  (w_NoRoll_a:W.nsIn K mainGlobals "NoRoll" = some (some (.ref C_NoRoll)))
  (w_NoTime_a:W.nsIn K mainGlobals "NoTime" = some (some (.ref C_NoTime)))
  (w_Spent_a:W.nsIn K mainGlobals "Spent" = some (some (.ref C_Spent)))
  (w_Unfit_a:W.nsIn K mainGlobals "Unfit" = some (some (.ref C_Unfit)))
  (w_LedgerError_cl:PySem.W.clsIn K C_LedgerError = some cd_LedgerError)
  (w_LedgerError_ty:PySem.W.typeIn K (.ref C_LedgerError) = some (.type "type"))
  (w_LedgerError_se:PySem.W.subIn K (.ref C_LedgerError) (.ref C_LedgerError) = some true)
  (w_BadCut_cl:PySem.W.clsIn K C_BadCut = some cd_BadCut)
  (w_BadCut_ty:PySem.W.typeIn K (.ref C_BadCut) = some (.type "type"))
  (w_BadCut_se:PySem.W.subIn K (.ref C_BadCut) (.ref C_BadCut) = some true)
  (w_BadGiven_cl:PySem.W.clsIn K C_BadGiven = some cd_BadGiven)
  (w_BadGiven_ty:PySem.W.typeIn K (.ref C_BadGiven) = some (.type "type"))
  (w_BadGiven_se:PySem.W.subIn K (.ref C_BadGiven) (.ref C_BadGiven) = some true)
  (w_BadRow_cl:PySem.W.clsIn K C_BadRow = some cd_BadRow)
  (w_BadRow_ty:PySem.W.typeIn K (.ref C_BadRow) = some (.type "type"))
  (w_BadRow_se:PySem.W.subIn K (.ref C_BadRow) (.ref C_BadRow) = some true)
  (w_NoDispute_cl:PySem.W.clsIn K C_NoDispute = some cd_NoDispute)
  (w_NoDispute_ty:PySem.W.typeIn K (.ref C_NoDispute) = some (.type "type"))
  (w_NoDispute_se:PySem.W.subIn K (.ref C_NoDispute) (.ref C_NoDispute) = some true)
  (w_NoRoll_cl:PySem.W.clsIn K C_NoRoll = some cd_NoRoll)
  (w_NoRoll_ty:PySem.W.typeIn K (.ref C_NoRoll) = some (.type "type"))
  (w_NoRoll_se:PySem.W.subIn K (.ref C_NoRoll) (.ref C_NoRoll) = some true)
  (w_NoTime_cl:PySem.W.clsIn K C_NoTime = some cd_NoTime)
  (w_NoTime_ty:PySem.W.typeIn K (.ref C_NoTime) = some (.type "type"))
  (w_NoTime_se:PySem.W.subIn K (.ref C_NoTime) (.ref C_NoTime) = some true)
  (w_Spent_cl:PySem.W.clsIn K C_Spent = some cd_Spent)
  (w_Spent_ty:PySem.W.typeIn K (.ref C_Spent) = some (.type "type"))
  (w_Spent_se:PySem.W.subIn K (.ref C_Spent) (.ref C_Spent) = some true)
  (w_Unfit_cl:PySem.W.clsIn K C_Unfit = some cd_Unfit)
  (w_Unfit_ty:PySem.W.typeIn K (.ref C_Unfit) = some (.type "type"))
  (w_Unfit_se:PySem.W.subIn K (.ref C_Unfit) (.ref C_Unfit) = some true)
  (w_LedgerError_lk:K.lookup C_LedgerError = some (excClassObj na_LedgerError qn_LedgerError C_LedgerError N_LedgerError bs_LedgerError [.type "ValueError",.type "Exception",.type "BaseException",.type "object"] hd_LedgerError sn_LedgerError su_LedgerError ab_LedgerError co_LedgerError dd_LedgerError ka_LedgerError kb_LedgerError kc_LedgerError kd_LedgerError kf_LedgerError "ValueError.__new__"))
  (w_LedgerError_ns:K.lookup N_LedgerError = some ⟨oc_LedgerError,od_LedgerError,.dict es_LedgerError ep_LedgerError,sl_LedgerError⟩)
  (r_LedgerError_sk:ZjB es_LedgerError = true)
  (r_LedgerError_ni:nsFind es_LedgerError "__init__" = none)
  (w_NoTime_lk:K.lookup C_NoTime = some (excClassObj na_NoTime qn_NoTime C_NoTime N_NoTime bs_NoTime [.ref C_LedgerError,.type "ValueError",.type "Exception",.type "BaseException",.type "object"] hd_NoTime sn_NoTime su_NoTime ab_NoTime co_NoTime dd_NoTime ka_NoTime kb_NoTime kc_NoTime kd_NoTime kf_NoTime "ValueError.__new__"))
  (w_NoTime_ns:K.lookup N_NoTime = some ⟨oc_NoTime,od_NoTime,.dict es_NoTime ep_NoTime,sl_NoTime⟩)
  (r_NoTime_sk:ZjB es_NoTime = true)
  (r_NoTime_ni:nsFind es_NoTime "__init__" = none)
  (w_NoTime_ga:PySem.W.findIn K (.ref C_NoTime) "__getattribute__" = some (some (.builtin "BaseException.__getattribute__")))
  (w_NoTime_gh:PySem.W.findIn K (.ref C_NoTime) "__getattr__" = some none)
  (w_NoTime_be:PySem.W.mroIn K C_NoTime (.type "BaseException") = some true)
  (w_NoTime_fa:PySem.W.findIn K (.ref C_NoTime) "__class__" = some (some (.builtin "object.__class__")))
  (w_NoTime_mo:PySem.W.mroIn K C_NoTime (.type "object") = some true)
  (w_xsp:PySem.W.specialIn K (.builtin "object.__class__") "__get__" = some (some (.builtin "getset_descriptor.__get__")))
  (w_xtk:PySem.W.takesIn K (.builtin "object.__class__") = some true)
  (s_LedgerError_BaseException:PySem.W.subIn K (.ref C_LedgerError) (.type "BaseException") = some true)
  (s_NoTime_LedgerError:PySem.W.subIn K (.ref C_NoTime) (.ref C_LedgerError) = some true)
  (s_NoneType_NoTime:PySem.W.subIn K (.type "NoneType") (.ref C_NoTime) = some false)
  (s_NoTime_NoTime:PySem.W.subIn K (.ref C_NoTime) (.ref C_NoTime) = some true)
  (s_NoneType_ValueError:PySem.W.subIn K (.type "NoneType") (.type "ValueError") = some false)
  (s_NoTime_ValueError:PySem.W.subIn K (.ref C_NoTime) (.type "ValueError") = some true)
  (s_NoneType_Unfit:PySem.W.subIn K (.type "NoneType") (.ref C_Unfit) = some false)
  (s_NoneType_Spent:PySem.W.subIn K (.type "NoneType") (.ref C_Spent) = some false)
  (s_NoneType_NoRoll:PySem.W.subIn K (.type "NoneType") (.ref C_NoRoll) = some false)
  (s_NoneType_NoDispute:PySem.W.subIn K (.type "NoneType") (.ref C_NoDispute) = some false)
  (s_NoneType_BadRow:PySem.W.subIn K (.type "NoneType") (.ref C_BadRow) = some false)
  (s_NoneType_BadGiven:PySem.W.subIn K (.type "NoneType") (.ref C_BadGiven) = some false)
  (s_NoneType_BadCut:PySem.W.subIn K (.type "NoneType") (.ref C_BadCut) = some false)
  (s_NoTime_Unfit:PySem.W.subIn K (.ref C_NoTime) (.ref C_Unfit) = some false)
  (s_NoTime_Spent:PySem.W.subIn K (.ref C_NoTime) (.ref C_Spent) = some false)
  (s_NoTime_NoRoll:PySem.W.subIn K (.ref C_NoTime) (.ref C_NoRoll) = some false)
  (s_NoTime_NoDispute:PySem.W.subIn K (.ref C_NoTime) (.ref C_NoDispute) = some false)
  (s_NoTime_BadRow:PySem.W.subIn K (.ref C_NoTime) (.ref C_BadRow) = some false)
  (s_NoTime_BadGiven:PySem.W.subIn K (.ref C_NoTime) (.ref C_BadGiven) = some false)
  (s_NoTime_BadCut:PySem.W.subIn K (.ref C_NoTime) (.ref C_BadCut) = some false):
  ∃ fd:FuncData,(∀ (s:Shared) (v:Value),BindsTo s fd ⟨[v],[]⟩ [("script",v)]) ∧ ∀ base:Heap,K.In base → base.Ns mainGlobals mg → ZbR l.prog w K mg base CX0 10 fa fd ["script"] (sp3 K 1 Zg7):=by
 have e:=hfa.symm.trans (W.mg_of X G a12)
 cases e
 have T:Txt K mg:=⟨trivial,W.mg_none_of X G z_ValueError,W.mg_none_of X G z_all,W.mg_none_of X G z_bool,W.mg_none_of X G z_int,W.mg_none_of X G z_isinstance,W.mg_none_of X G z_len,W.mg_none_of X G z_list,W.mg_none_of X G z_max,W.mg_none_of X G z_range,W.mg_none_of X G z_str,W.mg_none_of X G z_tuple⟩
 have O_Teller:Zbg K mg C_Teller:=⟨⟨by unfold L3.ClsAt; rw [show (⟨([84,101,108,108,101,114]:List Nat).toArray⟩:Str) = "Teller" by decide +kernel]; exact w_Teller_a,⟨w_Teller_pg,w_Teller_hd,w_Teller_po,w_Teller_sa⟩,by decide⟩,W.mg_of X G w_Teller_a,by rw [show nm [97,115,107,101,100] = "asked" by decide +kernel]; exact w_Teller_n_asked,by rw [show nm [115,116,97,116,101,115] = "states" by decide +kernel]; exact w_Teller_n_states⟩
 have at_NoTime:ClsAt K [78,111,84,105,109,101] C_NoTime:=by unfold L3.ClsAt; rw [show (⟨([78,111,84,105,109,101]:List Nat).toArray⟩:Str) = "NoTime" by decide +kernel]; exact w_NoTime_a
 have ki_NoTime:ZcU K C_NoTime:=⟨w_NoTime_ga,w_NoTime_gh,w_NoTime_be,by rw [w_NoTime_cl]; rfl,w_NoTime_fa,w_xsp,w_xtk,w_NoTime_mo⟩
 have XO:ExT K mg C_LedgerError C_BadCut C_BadGiven C_BadRow C_NoDispute C_NoRoll C_NoTime C_Spent C_Unfit:=⟨W.mg_of X G w_LedgerError_a,W.mg_of X G w_BadCut_a,W.mg_of X G w_BadGiven_a,W.mg_of X G w_BadRow_a,W.mg_of X G w_NoDispute_a,W.mg_of X G w_NoRoll_a,W.mg_of X G w_NoTime_a,W.mg_of X G w_Spent_a,W.mg_of X G w_Unfit_a,⟨at_NoTime,_,_,_,_,_,_,_,_,_,_,_,_,_,_,_,_,w_NoTime_lk,fun h Y=>⟨_,ZkJ Y w_NoTime_ns r_NoTime_sk,r_NoTime_ni⟩,fun h Y=>.own (Y _ _ w_LedgerError_lk) (ZkJ Y w_LedgerError_ns r_LedgerError_sk) r_LedgerError_ni (.base)⟩,(Zen (P:=fun C=>PySem.W.exmOne K (.ref C) (.ref C_LedgerError) = some true) at_NoTime (PySem.W.exm1 w_LedgerError_cl w_LedgerError_ty s_LedgerError_BaseException s_NoTime_LedgerError) ZcG),⟨(PySem.W.kitF (PySem.W.kit1 w_NoTime_cl w_NoTime_ty w_NoTime_se s_NoneType_NoTime) PySem.W.kit0),(Zen (P:=fun C=>ZcU K C ∧ PySem.W.kitAny K (.ref C) [.ref C_NoTime] = some true) at_NoTime ⟨ki_NoTime,(PySem.W.kitT (PySem.W.kit1 w_NoTime_cl w_NoTime_ty w_NoTime_se s_NoTime_NoTime))⟩ ZcG),ZcG⟩,⟨(PySem.W.kitF (PySem.W.kit1T (by decide +kernel) (by first | rfl | decide) s_NoneType_ValueError) PySem.W.kit0),(Zen (P:=fun C=>ZcU K C ∧ PySem.W.kitAny K (.ref C) [.type "ValueError"] = some true) at_NoTime ⟨ki_NoTime,(PySem.W.kitT (PySem.W.kit1T (by decide +kernel) (by first | rfl | decide) s_NoTime_ValueError))⟩ ZcG),ZcG⟩,⟨(PySem.W.kitF (PySem.W.kit1 w_BadCut_cl w_BadCut_ty w_BadCut_se s_NoneType_BadCut) (PySem.W.kitF (PySem.W.kit1 w_BadGiven_cl w_BadGiven_ty w_BadGiven_se s_NoneType_BadGiven) (PySem.W.kitF (PySem.W.kit1 w_BadRow_cl w_BadRow_ty w_BadRow_se s_NoneType_BadRow) (PySem.W.kitF (PySem.W.kit1 w_NoDispute_cl w_NoDispute_ty w_NoDispute_se s_NoneType_NoDispute) (PySem.W.kitF (PySem.W.kit1 w_NoRoll_cl w_NoRoll_ty w_NoRoll_se s_NoneType_NoRoll) (PySem.W.kitF (PySem.W.kit1 w_Spent_cl w_Spent_ty w_Spent_se s_NoneType_Spent) (PySem.W.kitF (PySem.W.kit1 w_Unfit_cl w_Unfit_ty w_Unfit_se s_NoneType_Unfit) PySem.W.kit0))))))),ZcG,(Zen (P:=fun C=>ZcU K C ∧ PySem.W.kitAny K (.ref C) (refsOf [C_BadCut,C_BadGiven,C_BadRow,C_NoDispute,C_NoRoll,C_Spent,C_Unfit]) = some false) at_NoTime ⟨ki_NoTime,(PySem.W.kitF (PySem.W.kit1 w_BadCut_cl w_BadCut_ty w_BadCut_se s_NoTime_BadCut) (PySem.W.kitF (PySem.W.kit1 w_BadGiven_cl w_BadGiven_ty w_BadGiven_se s_NoTime_BadGiven) (PySem.W.kitF (PySem.W.kit1 w_BadRow_cl w_BadRow_ty w_BadRow_se s_NoTime_BadRow) (PySem.W.kitF (PySem.W.kit1 w_NoDispute_cl w_NoDispute_ty w_NoDispute_se s_NoTime_NoDispute) (PySem.W.kitF (PySem.W.kit1 w_NoRoll_cl w_NoRoll_ty w_NoRoll_se s_NoTime_NoRoll) (PySem.W.kitF (PySem.W.kit1 w_Spent_cl w_Spent_ty w_Spent_se s_NoTime_Spent) (PySem.W.kitF (PySem.W.kit1 w_Unfit_cl w_Unfit_ty w_Unfit_se s_NoTime_Unfit) PySem.W.kit0)))))))⟩ ZcG)⟩⟩
 have D_is_within:ZbS K mg "is_within" ZbB ["number","many"]:=ZbX X G a0 l0 c0 k0 (Binds.all (ub2 fun _ _=>rfl))
 have D__law_next:ZbS K mg "_law_next" ZbC ["deck"]:=ZbX X G a1 l1 c1 k1 (Binds.all (ub1 fun _=>rfl))
 have D__law_same:ZbS K mg "_law_same" ZbD ["found","due"]:=ZbX X G a2 l2 c2 k2 (Binds.all (ub2 fun _ _=>rfl))
 have D__law_states:ZbS K mg "_law_states" Za4 ["deck","many"]:=ZbX X G a3 l3 c3 k3 (Binds.all (ub2 fun _ _=>rfl))
 have D_Teller_state_at:ZdF K C_Teller "state_at" "Teller.state_at" ZaG ["self","time"]:=ZeC a4 i4 l4 c4 k4 (Binds.all (ub2 fun _ _=>rfl))
 have D__law_refused:ZbS K mg "_law_refused" ZaY ["teller","time"]:=ZbX X G a5 l5 c5 k5 (Binds.all (ub2 fun _ _=>rfl))
 have D__law_time:ZbS K mg "_law_time" ZbF ["cell","many"]:=ZbX X G a6 l6 c6 k6 (Binds.all (ub2 fun _ _=>rfl))
 have D__law_asked:ZbS K mg "_law_asked" Zbf ["teller","states","times","time"]:=ZbX X G a7 l7 c7 k7 (Binds.all (ub4 fun _ _ _ _=>rfl))
 have D_Teller_many:ZdF K C_Teller "many" "Teller.many" Za5 ["self"]:=ZeC a8 i8 l8 c8 k8 (Binds.all (ub1 fun _=>rfl))
 have D_Teller_times_asked:ZdF K C_Teller "times_asked" "Teller.times_asked" Zar ["self"]:=ZeC a9 i9 l9 c9 k9 (Binds.all (ub1 fun _=>rfl))
 have D__law_told:ZbS K mg "_law_told" ZbA ["teller","states","times","kept"]:=ZbX X G a10 l10 c10 k10 (Binds.all (ub4 fun _ _ _ _=>rfl))
 have D_Teller___init__:Zji K C_Teller "Teller.__init__" ZaH ["self","states"]:=ZjA w_Teller_mk w_Teller_kp a11 i11 l11 c11 k11 (Binds.all (ub2 fun _ _=>rfl))
 refine ⟨W.fnOf "law" "law" (Zas Zdw) (Zai Zdw) (Zg Zdw) .none kV12 dc12 pm12 an12 cd12 ct12,fun s v=>.of_eq rfl,fun base _ _=>?_⟩
 have F_is_within:=Zfq (P:=l.prog) (w:=w) (base:=base) D_is_within T
 have F__law_next:=Zfs (P:=l.prog) (w:=w) (base:=base) D__law_next T
 have F__law_same:=Zfr (P:=l.prog) (w:=w) (base:=base) D__law_same T
 have F__law_states:=Zep (P:=l.prog) (w:=w) (base:=base) D__law_states T F__law_next
 have N_Teller_state_at:=Zdf (P:=l.prog) (w:=w) (base:=base) O_Teller D_Teller_state_at T XO F_is_within
 have M_Teller_state_at:=N_Teller_state_at.mth
 have F__law_refused:=Zef (P:=l.prog) (w:=w) (base:=base) D__law_refused T O_Teller XO N_Teller_state_at
 have F__law_time:=Zfv (P:=l.prog) (w:=w) (base:=base) D__law_time T
 have F__law_asked:=ZeX (P:=l.prog) (w:=w) (base:=base) D__law_asked T O_Teller M_Teller_state_at F__law_same F__law_refused
 have M_Teller_many:=Zew (P:=l.prog) (w:=w) (base:=base) O_Teller D_Teller_many T
 have M_Teller_times_asked:=ZcO (P:=l.prog) (w:=w) (base:=base) O_Teller D_Teller_times_asked T
 have F__law_told:=Zfp (P:=l.prog) (w:=w) (base:=base) D__law_told T O_Teller M_Teller_many M_Teller_times_asked F__law_same
 have M_Teller___init__:=Zde (P:=l.prog) (w:=w) (base:=base) O_Teller D_Teller___init__ T
 exact Zml (Zh0 (st:=Zdw) l12 c12 k12) T O_Teller M_Teller___init__ F__law_next F__law_same F__law_states F__law_refused F__law_time F__law_asked F__law_told
end Law
open PySem PySem.W PyProof.Rows
set_option maxRecDepth 100000 in
set_option maxHeartbeats 0 in
theorem PySem.Challenge.cw_stepledger_k51_tellers_holds : PySem.Challenge.rw_stepledger_k51_tellers.Holds := by
 w_on; o_law; k_head; (case hw=>w_witness2)
 k_fill
 refine L3.ZmJ (l:=PySem.Challenge.rw_stepledger_k51_tellers) (k:=10) (F:=Law.Zg7) rfl rfl ⟨rfl,by decide,by decide⟩ (fun w h Y=>W.kIn_of Y) ?G Law.law_holds
 case G=>
  intro w mg fa h KX G hmg
  refine' Law.Zlk KX G hmg ?w_Teller_a ?w_Teller_pg ?w_Teller_hd ?w_Teller_po ?w_Teller_sa ?w_Teller_mk ?w_Teller_kp ?w_Teller_n_asked ?w_Teller_n_states ?a0 ?l0 ?c0 ?k0 ?a1 ?l1 ?c1 ?k1 ?a2 ?l2 ?c2 ?k2 ?a3 ?l3 ?c3 ?k3 ?a4 ?i4 ?l4 ?c4 ?k4 ?a5 ?l5 ?c5 ?k5 ?a6 ?l6 ?c6 ?k6 ?a7 ?l7 ?c7 ?k7 ?a8 ?i8 ?l8 ?c8 ?k8 ?a9 ?i9 ?l9 ?c9 ?k9 ?a10 ?l10 ?c10 ?k10 ?a11 ?i11 ?l11 ?c11 ?k11 ?a12 ?l12 ?c12 ?k12 ?z_ValueError ?z_all ?z_bool ?z_int ?z_isinstance ?z_len ?z_list ?z_max ?z_range ?z_str ?z_tuple ?w_LedgerError_a ?w_BadCut_a ?w_BadGiven_a ?w_BadRow_a ?w_NoDispute_a ?w_NoRoll_a ?w_NoTime_a ?w_Spent_a ?w_Unfit_a ?w_LedgerError_cl ?w_LedgerError_ty ?w_LedgerError_se ?w_BadCut_cl ?w_BadCut_ty ?w_BadCut_se ?w_BadGiven_cl ?w_BadGiven_ty ?w_BadGiven_se ?w_BadRow_cl ?w_BadRow_ty ?w_BadRow_se ?w_NoDispute_cl ?w_NoDispute_ty ?w_NoDispute_se ?w_NoRoll_cl ?w_NoRoll_ty ?w_NoRoll_se ?w_NoTime_cl ?w_NoTime_ty ?w_NoTime_se ?w_Spent_cl ?w_Spent_ty ?w_Spent_se ?w_Unfit_cl ?w_Unfit_ty ?w_Unfit_se ?w_LedgerError_lk ?w_LedgerError_ns ?r_LedgerError_sk ?r_LedgerError_ni ?w_NoTime_lk ?w_NoTime_ns ?r_NoTime_sk ?r_NoTime_ni ?w_NoTime_ga ?w_NoTime_gh ?w_NoTime_be ?w_NoTime_fa ?w_NoTime_mo ?w_xsp ?w_xtk ?s_LedgerError_BaseException ?s_NoTime_LedgerError ?s_NoneType_NoTime ?s_NoTime_NoTime ?s_NoneType_ValueError ?s_NoTime_ValueError ?s_NoneType_Unfit ?s_NoneType_Spent ?s_NoneType_NoRoll ?s_NoneType_NoDispute ?s_NoneType_BadRow ?s_NoneType_BadGiven ?s_NoneType_BadCut ?s_NoTime_Unfit ?s_NoTime_Spent ?s_NoTime_NoRoll ?s_NoTime_NoDispute ?s_NoTime_BadRow ?s_NoTime_BadGiven ?s_NoTime_BadCut
  (case w_Teller_a=>k_is)
  (case w_Teller_pg=>k_is)
  (case w_Teller_hd=>k_is)
  (case w_Teller_po=>k_is)
  (case w_Teller_sa=>k_is)
  (case w_Teller_mk=>k_is)
  (case w_Teller_kp=>k_is)
  (case w_Teller_n_asked=>k_is)
  (case w_Teller_n_states=>k_is)
  (case a0=>k_is)
  (case l0=>k_is)
  (case c0=>k_is)
  (case k0=>k_is)
  (case a1=>k_is)
  (case l1=>k_is)
  (case c1=>k_is)
  (case k1=>k_is)
  (case a2=>k_is)
  (case l2=>k_is)
  (case c2=>k_is)
  (case k2=>k_is)
  (case a3=>k_is)
  (case l3=>k_is)
  (case c3=>k_is)
  (case k3=>k_is)
  (case a4=>k_is)
  (case i4=>k_is)
  (case l4=>k_is)
  (case c4=>k_is)
  (case k4=>k_is)
  (case a5=>k_is)
  (case l5=>k_is)
  (case c5=>k_is)
  (case k5=>k_is)
  (case a6=>k_is)
  (case l6=>k_is)
  (case c6=>k_is)
  (case k6=>k_is)
  (case a7=>k_is)
  (case l7=>k_is)
  (case c7=>k_is)
  (case k7=>k_is)
  (case a8=>k_is)
  (case i8=>k_is)
  (case l8=>k_is)
  (case c8=>k_is)
  (case k8=>k_is)
  (case a9=>k_is)
  (case i9=>k_is)
  (case l9=>k_is)
  (case c9=>k_is)
  (case k9=>k_is)
  (case a10=>k_is)
  (case l10=>k_is)
  (case c10=>k_is)
  (case k10=>k_is)
  (case a11=>k_is)
  (case i11=>k_is)
  (case l11=>k_is)
  (case c11=>k_is)
  (case k11=>k_is)
  (case a12=>k_is)
  (case l12=>k_is)
  (case c12=>k_is)
  (case k12=>k_is)
  (case z_ValueError=>k_is)
  (case z_all=>k_is)
  (case z_bool=>k_is)
  (case z_int=>k_is)
  (case z_isinstance=>k_is)
  (case z_len=>k_is)
  (case z_list=>k_is)
  (case z_max=>k_is)
  (case z_range=>k_is)
  (case z_str=>k_is)
  (case z_tuple=>k_is)
  (case w_LedgerError_a=>k_is)
  (case w_BadCut_a=>k_is)
  (case w_BadGiven_a=>k_is)
  (case w_BadRow_a=>k_is)
  (case w_NoDispute_a=>k_is)
  (case w_NoRoll_a=>k_is)
  (case w_NoTime_a=>k_is)
  (case w_Spent_a=>k_is)
  (case w_Unfit_a=>k_is)
  (case w_LedgerError_cl=>k_is)
  (case w_LedgerError_ty=>k_is)
  (case w_LedgerError_se=>k_is)
  (case w_BadCut_cl=>k_is)
  (case w_BadCut_ty=>k_is)
  (case w_BadCut_se=>k_is)
  (case w_BadGiven_cl=>k_is)
  (case w_BadGiven_ty=>k_is)
  (case w_BadGiven_se=>k_is)
  (case w_BadRow_cl=>k_is)
  (case w_BadRow_ty=>k_is)
  (case w_BadRow_se=>k_is)
  (case w_NoDispute_cl=>k_is)
  (case w_NoDispute_ty=>k_is)
  (case w_NoDispute_se=>k_is)
  (case w_NoRoll_cl=>k_is)
  (case w_NoRoll_ty=>k_is)
  (case w_NoRoll_se=>k_is)
  (case w_NoTime_cl=>k_is)
  (case w_NoTime_ty=>k_is)
  (case w_NoTime_se=>k_is)
  (case w_Spent_cl=>k_is)
  (case w_Spent_ty=>k_is)
  (case w_Spent_se=>k_is)
  (case w_Unfit_cl=>k_is)
  (case w_Unfit_ty=>k_is)
  (case w_Unfit_se=>k_is)
  (case w_LedgerError_lk=>k_is)
  (case w_LedgerError_ns=>k_is)
  (case r_LedgerError_sk=>first | rfl | decide +kernel)
  (case r_LedgerError_ni=>first | rfl | decide +kernel)
  (case w_NoTime_lk=>k_is)
  (case w_NoTime_ns=>k_is)
  (case r_NoTime_sk=>first | rfl | decide +kernel)
  (case r_NoTime_ni=>first | rfl | decide +kernel)
  (case w_NoTime_ga=>k_is)
  (case w_NoTime_gh=>k_is)
  (case w_NoTime_be=>k_is)
  (case w_NoTime_fa=>k_is)
  (case w_NoTime_mo=>k_is)
  (case w_xsp=>k_is)
  (case w_xtk=>k_is)
  (case s_LedgerError_BaseException=>k_is)
  (case s_NoTime_LedgerError=>k_is)
  (case s_NoneType_NoTime=>k_is)
  (case s_NoTime_NoTime=>k_is)
  (case s_NoneType_ValueError=>k_is)
  (case s_NoTime_ValueError=>k_is)
  (case s_NoneType_Unfit=>k_is)
  (case s_NoneType_Spent=>k_is)
  (case s_NoneType_NoRoll=>k_is)
  (case s_NoneType_NoDispute=>k_is)
  (case s_NoneType_BadRow=>k_is)
  (case s_NoneType_BadGiven=>k_is)
  (case s_NoneType_BadCut=>k_is)
  (case s_NoTime_Unfit=>k_is)
  (case s_NoTime_Spent=>k_is)
  (case s_NoTime_NoRoll=>k_is)
  (case s_NoTime_NoDispute=>k_is)
  (case s_NoTime_BadRow=>k_is)
  (case s_NoTime_BadGiven=>k_is)
  (case s_NoTime_BadCut=>k_is)
