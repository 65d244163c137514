import PyProof.Rows.All
import Wide.All
import OpenK.AllK
import Wide.FinOn
import Lean
import PyProof.EqAt
import PyProof.EqKinds
import PyProof.TupleCall
import PySem.Challenge.RW_stepledger_k73_roll_row_by_row
namespace L3
set_option compiler.extract_closed false
set_option genSizeOf false in
set_option genInjectivity false in
inductive AE where
 | v (i:Nat)
 | k (n:Nat)
 | a (x y:AE)
 | m (n:Nat) (x:AE)
noncomputable def ZpU:List Nat → Nat → Nat
 | [],_=>0
 | x :: _,0=>x
 | _ :: l,n + 1=>ZpU l n
noncomputable def AE.ev (c:List Nat):AE → Nat
 | .v i=>ZpU c i
 | .k n=>n
 | .a x y=>x.ev c + y.ev c
 | .m n x=>n * x.ev c
noncomputable def aL:List Nat → List Nat → List Nat
 | [],r=>r
 | x :: l,[]=>x :: l
 | x :: l,y :: r=>(x + y) :: aL l r
noncomputable def sL (n:Nat):List Nat → List Nat
 | []=>[]
 | x :: l=>(n * x) :: sL n l
noncomputable def uL:Nat → List Nat
 | 0=>[1]
 | n + 1=>0 :: uL n
noncomputable def AE.li:AE → List Nat
 | .v i=>0 :: uL i
 | .k n=>[n]
 | .a x y=>aL x.li y.li
 | .m n x=>sL n x.li
noncomputable def dt:List Nat → List Nat → Nat
 | x :: c,y :: l=>x * y + dt c l
 | [],_=>0
 | _,[]=>0
noncomputable def leL:List Nat → List Nat → Bool
 | [],_=>true
 | x :: l,[]=>Nat.ble x 0 && leL l []
 | x :: l,y :: r=>Nat.ble x y && leL l r
theorem ZdI:∀ c,dt c [] = 0
 | []=>rfl
 | _ :: _=>rfl
theorem Zf0:∀ c l r,dt c (aL l r) = dt c l + dt c r
 | c,[],r=>by rw [ZdI,Nat.zero_add]; rfl
 | c,x :: l,[]=>by rw [ZdI]; rfl
 | [],x :: l,y :: r=>rfl
 | z :: c,x :: l,y :: r=>by
  show z * (x + y) + dt c (aL l r) = _
  rw [Zf0 c l r,Nat.mul_add]; exact Nat.add_add_add_comm _ _ _ _
theorem Zkx (n:Nat):∀ c l,dt c (sL n l) = n * dt c l
 | c,[]=>by rw [ZdI]; exact ZdI c
 | [],x :: l=>rfl
 | z :: c,x :: l=>by
  show z * (n * x) + dt c (sL n l) = n * (z * x + dt c l)
  rw [Zkx n c l,Nat.mul_add,Nat.mul_left_comm]
theorem Zq3:∀ c i,dt c (uL i) = ZpU c i
 | [],0=>rfl
 | [],_ + 1=>rfl
 | x :: c,0=>by show x * 1 + dt c [] = x; rw [ZdI,Nat.mul_one]; rfl
 | x :: c,n + 1=>by show x * 0 + dt c (uL n) = ZpU c n; rw [Zq3 c n,Nat.mul_zero,Nat.zero_add]
theorem Zhh:∀ c l r,leL l r = true → dt c l ≤ dt c r
 | c,[],r,_=>by rw [ZdI]; exact Nat.zero_le _
 | [],x :: l,r,_=>Nat.zero_le _
 | z :: c,x :: l,[],h=>by
  have h:=(Bool.and_eq_true _ _).mp h
  have e:x = 0:=Nat.le_zero.1 (Nat.le_of_ble_eq_true h.1)
  have i:=Zhh c l [] h.2
  rw [ZdI] at i
  show z * x + dt c l ≤ 0
  rw [e,Nat.le_zero.1 i]; exact Nat.le_refl 0
 | z :: c,x :: l,y :: r,h=>
  have h:=(Bool.and_eq_true _ _).mp h
  Nat.add_le_add (Nat.mul_le_mul_left z (Nat.le_of_ble_eq_true h.1)) (Zhh c l r h.2)
theorem AE.li_ev (c:List Nat):∀ e:AE,dt (1 :: c) e.li = e.ev c
 | .v i=>(Nat.zero_add _).trans (Zq3 c i)
 | .k n=>by show 1 * n + dt c [] = n; rw [ZdI,Nat.one_mul]; rfl
 | .a x y=>(Zf0 _ _ _).trans (congr (congrArg _ (x.li_ev c)) (y.li_ev c))
 | .m n x=>(Zkx n _ _).trans (congrArg _ (x.li_ev c))
noncomputable def rdE:Nat → Nat → AE × Nat
 | 0,s=>(.k 0,s)
 | f + 1,s=>bif Nat.ble (s % 16) 9 then (.v (s % 16),s / 16) else bif Nat.beq (s % 16) 10 then (.k 1,s / 16)
  else bif Nat.beq (s % 16) 11 then (.k (s / 256 % 16 ^ (s / 16 % 16)),s / 256 / 16 ^ (s / 16 % 16))
  else bif Nat.beq (s % 16) 12 then (.a (rdE f (s / 16)).1 (rdE f (rdE f (s / 16)).2).1,(rdE f (rdE f (s / 16)).2).2)
  else bif Nat.beq (s % 16) 13 then (.m (s / 16 % 256) (rdE f (s / 4096)).1,(rdE f (s / 4096)).2)
  else (.k 0,s / 16)
noncomputable def Zou:Nat → Nat → Nat → Prop
 | 0,x,y=>x ≤ y
 | 1,x,y=>x < y
 | 2,x,y=>x = y
 | 3,x,y=>x = y
 | 4,x,y=>¬ x ≤ y
 | 5,x,y=>¬ x < y
 | _,_,_=>False
noncomputable def loN:Nat → AE → AE → List Nat
 | 0,x,_=>x.li
 | 1,x,_=>aL [1] x.li
 | 2,x,_=>x.li
 | 4,_,y=>aL [1] y.li
 | _,_,y=>y.li
noncomputable def hiN:Nat → AE → AE → List Nat
 | 0,_,y=>y.li
 | 1,_,y=>y.li
 | 2,_,y=>y.li
 | _,x,_=>x.li
noncomputable def Zkb (c:List Nat):Nat → Nat → Prop
 | 0,s=>Zou (s % 16) ((rdE 9 (s / 16)).1.ev c) ((rdE 9 (rdE 9 (s / 16)).2).1.ev c)
 | n + 1,s=>Zou (s / 16 % 16) ((rdE 9 (s / 256)).1.ev c) ((rdE 9 (rdE 9 (s / 256)).2).1.ev c) → Zkb c n (rdE 9 (rdE 9 (s / 256)).2).2
noncomputable def gN:Nat → AE → AE → List Nat → List Nat → Bool
 | 0,x,y,L,R=>leL (aL R x.li) (aL L y.li)
 | 1,x,y,L,R=>leL (aL [1] (aL R x.li)) (aL L y.li)
 | _,_,_,L,R=>leL (aL [1] R) L
noncomputable def chN:Nat → Nat → List Nat → List Nat → Bool
 | 0,s,L,R=>gN (s % 16) (rdE 9 (s / 16)).1 (rdE 9 (rdE 9 (s / 16)).2).1 L R
 | n + 1,s,L,R=>chN n (rdE 9 (rdE 9 (s / 256)).2).2 (aL L (sL (s % 16) (loN (s / 16 % 16) (rdE 9 (s / 256)).1 (rdE 9 (rdE 9 (s / 256)).2).1))) (aL R (sL (s % 16) (hiN (s / 16 % 16) (rdE 9 (s / 256)).1 (rdE 9 (rdE 9 (s / 256)).2).1)))
theorem Zir (c l:List Nat):dt (1 :: c) (aL [1] l) = dt (1 :: c) l + 1:=by
 rw [Zf0]; show 1 * 1 + dt c [] + _ = _; rw [ZdI]; exact Nat.add_comm _ _
theorem Zpd (c:List Nat) (x y:AE):∀ r,Zou r (x.ev c) (y.ev c) → dt (1 :: c) (loN r x y) ≤ dt (1 :: c) (hiN r x y)
 | 0,h=>by show dt _ x.li ≤ dt _ y.li; rw [x.li_ev,y.li_ev]; exact h
 | 1,h=>by show dt _ (aL [1] x.li) ≤ dt _ y.li; rw [Zir,x.li_ev,y.li_ev]; exact h
 | 2,h=>by show dt _ x.li ≤ dt _ y.li; rw [x.li_ev,y.li_ev]; exact Nat.le_of_eq h
 | 3,h=>by show dt _ y.li ≤ dt _ x.li; rw [x.li_ev,y.li_ev]; exact Nat.le_of_eq h.symm
 | 4,h=>by show dt _ (aL [1] y.li) ≤ dt _ x.li; rw [Zir,x.li_ev,y.li_ev]; exact Nat.lt_of_not_le h
 | 5,h=>by show dt _ y.li ≤ dt _ x.li; rw [x.li_ev,y.li_ev]; exact Nat.le_of_not_lt h
 | _ + 6,h=>h.elim
theorem ZtV (c:List Nat) (x y:AE) (L R:List Nat) (h:dt (1 :: c) L ≤ dt (1 :: c) R):∀ r,gN r x y L R = true → Zou r (x.ev c) (y.ev c)
 | 0,k=>by
  have e:=Zhh (1 :: c) _ _ k
  rw [Zf0,Zf0,x.li_ev,y.li_ev] at e
  exact Nat.le_of_add_le_add_left (Nat.le_trans e (Nat.add_le_add_right h _))
 | 1,k=>by
  have e:=Zhh (1 :: c) _ _ k
  rw [Zir,Zf0,Zf0,x.li_ev,y.li_ev] at e
  exact Nat.lt_of_add_lt_add_left (Nat.le_trans e (Nat.add_le_add_right h _))
 | r + 2,k=>by
  have e:=Zhh (1 :: c) _ _ k
  rw [Zir] at e
  exact absurd (Nat.le_trans e h) (Nat.not_succ_le_self _)
theorem arN (c:List Nat):∀ (n s:Nat) (L R:List Nat),dt (1 :: c) L ≤ dt (1 :: c) R → chN n s L R = true → Zkb c n s
 | 0,s,L,R,h,k=>ZtV c _ _ L R h _ k
 | n + 1,s,L,R,h,k=>fun g=>arN c n _ _ _ (by
   rw [Zf0,Zf0,Zkx,Zkx]; exact Nat.add_le_add h (Nat.mul_le_mul_left _ (Zpd c _ _ _ g))) k
end L3
theorem lN (c:List Nat) (n s:Nat) (h:L3.chN n s [] [] = true):L3.Zkb c n s:=L3.arN c n s [] [] (Nat.le_refl _) h
theorem sbA (a b:Nat):a ≤ a - b + b:=Nat.le_add_of_sub_le (Nat.le_refl _)
theorem T1:true = true:=rfl
theorem lA {a:Nat} (n s:Nat) (y:L3.chN n s [] [] = true):L3.Zkb [a] n s:=lN _ n s y
theorem lB {a b:Nat} (n s:Nat) (y:L3.chN n s [] [] = true):L3.Zkb [a,b] n s:=lN _ n s y
theorem lC {a b c:Nat} (n s:Nat) (y:L3.chN n s [] [] = true):L3.Zkb [a,b,c] n s:=lN _ n s y
theorem lD {a b c d:Nat} (n s:Nat) (y:L3.chN n s [] [] = true):L3.Zkb [a,b,c,d] n s:=lN _ n s y
theorem lE {a b c d e:Nat} (n s:Nat) (y:L3.chN n s [] [] = true):L3.Zkb [a,b,c,d,e] n s:=lN _ n s y
theorem clA (w:Int):max w 0 = (w.toNat:Int):=(Int.ofNat_toNat w).symm
theorem clB (v:Int) (n:Nat) (h:¬ v < 0):min v (n:Int) = ((min v.toNat n:Nat):Int):=by
 obtain ⟨k,rfl⟩:=Int.eq_ofNat_of_zero_le (Int.not_lt.1 h)
 rcases Nat.le_total k n with z | z
 ·rw [Int.min_eq_left (Int.ofNat_le.2 z)]; exact congrArg Int.ofNat (Nat.min_eq_left z).symm
 ·rw [Int.min_eq_right (Int.ofNat_le.2 z)]; exact congrArg Int.ofNat (Nat.min_eq_right z).symm
theorem clC (v:Int) (n:Nat) (h:v < 0):max 0 (min (v + (n:Int)) (n:Int)) = ((v + (n:Int)).toNat:Int):=by
 rw [Int.min_eq_left (Int.le_of_lt (Int.lt_of_lt_of_le (Int.add_lt_add_right h _) (Int.le_of_eq (Int.zero_add _)))),Int.max_comm]; exact clA _
theorem clD (v:Int) (n:Nat) (h:¬ v < 0):max 0 (min v (n:Int)) = ((min v.toNat n:Nat):Int):=by
 rw [clB v n h]; exact Int.max_eq_right (Int.natCast_nonneg _)
namespace L3
set_option genSizeOf false in
set_option genInjectivity false in
inductive AI where
 | v (i:Nat)
 | k (n:Nat)
 | c (e:AE)
 | a (x y:AI)
 | s (x y:AI)
 | g (x:AI)
 | m (n:Nat) (x:AI)
noncomputable def Zo4:List Int → Nat → Int
 | [],_=>0
 | x :: _,0=>x
 | _ :: l,n + 1=>Zo4 l n
noncomputable def AI.ev (c:List Nat) (d:List Int):AI → Int
 | .v i=>Zo4 d i
 | .k n=>Int.ofNat n
 | .c e=>((e.ev c:Nat):Int)
 | .a x y=>x.ev c d + y.ev c d
 | .s x y=>x.ev c d - y.ev c d
 | .g x=>-x.ev c d
 | .m n x=>Int.ofNat n * x.ev c d
noncomputable def pL (u w:List Nat × List Nat):List Nat × List Nat:=(aL u.1 w.1,aL u.2 w.2)
noncomputable def AI.li:AI → Bool → List Nat × List Nat
 | .v i,b=>bif b then ([],uL i) else ([],[])
 | .k n,b=>bif b then ([n],[]) else ([],[])
 | .c e,b=>bif b then (e.li,[]) else ([],[])
 | .a x y,b=>pL (x.li b) (y.li b)
 | .s x y,b=>pL (x.li b) (y.li (!b))
 | .g x,b=>x.li (!b)
 | .m n x,b=>(sL n (x.li b).1,sL n (x.li b).2)
noncomputable def dtI:List Int → List Nat → Int
 | x :: c,y :: l=>x * (y:Int) + dtI c l
 | [],_=>0
 | _,[]=>0
noncomputable def dI (c:List Nat) (d:List Int) (u:List Nat × List Nat):Int:=((dt (1 :: c) u.1:Nat):Int) + dtI d u.2
theorem Zra (p q r s:Int):p + q + (r + s) = p + r + (q + s):=by omega
theorem ZcT:∀ c,dtI c [] = 0
 | []=>rfl
 | _ :: _=>rfl
theorem ZoA:∀ c l r,dtI c (aL l r) = dtI c l + dtI c r
 | c,[],r=>by rw [ZcT,Int.zero_add]; rfl
 | c,x :: l,[]=>by rw [ZcT,Int.add_zero]; rfl
 | [],x :: l,y :: r=>rfl
 | z :: c,x :: l,y :: r=>by
  show z * ((x + y:Nat):Int) + dtI c (aL l r) = (z * x + dtI c l) + (z * y + dtI c r)
  rw [ZoA c l r,Int.natCast_add,Int.mul_add]; exact Zra _ _ _ _
theorem ZoO (n:Nat):∀ c l,dtI c (sL n l) = Int.ofNat n * dtI c l
 | c,[]=>by rw [ZcT,Int.mul_zero]; exact ZcT c
 | [],x :: l=>(Int.mul_zero _).symm
 | z :: c,x :: l=>by
  show z * ((n * x:Nat):Int) + dtI c (sL n l) = Int.ofNat n * (z * x + dtI c l)
  rw [ZoO n c l,Int.mul_add,Int.natCast_mul,Int.mul_left_comm]; rfl
theorem Zpm:∀ c i,dtI c (uL i) = Zo4 c i
 | [],0=>rfl
 | [],_ + 1=>rfl
 | x :: c,0=>by show x * 1 + dtI c [] = x; rw [ZcT,Int.mul_one,Int.add_zero]
 | x :: c,n + 1=>by show x * 0 + dtI c (uL n) = Zo4 c n; rw [Zpm c n,Int.mul_zero,Int.zero_add]
section
variable (c:List Nat) (d:List Int)
theorem ZdM (u w:List Nat × List Nat):dI c d (pL u w) = dI c d u + dI c d w:=by
 show ((dt (1 :: c) (aL u.1 w.1):Nat):Int) + dtI d (aL u.2 w.2) = _
 rw [Zf0,ZoA,Int.natCast_add]; exact Zra _ _ _ _
theorem Zmx (n:Nat) (u:List Nat × List Nat):dI c d (sL n u.1,sL n u.2) = Int.ofNat n * dI c d u:=by
 show ((dt (1 :: c) (sL n u.1):Nat):Int) + dtI d (sL n u.2) = _
 rw [Zkx,ZoO,Int.natCast_mul]; exact (Int.mul_add _ _ _).symm
theorem ZsS:dI c d ([],[]) = 0:=by
 show ((dt (1 :: c) []:Nat):Int) + dtI d [] = 0
 rw [ZdI,ZcT]; rfl
theorem Zr0 (p q r s:Int):p - q + (r - s) = p + r - (q + s):=by omega
theorem ZoU (p q r s:Int):p - q - (r - s) = p + s - (q + r):=by omega
theorem AI.li_ev:∀ e:AI,e.ev c d = dI c d (e.li true) - dI c d (e.li false)
 | .v i=>by show Zo4 d i = dI c d ([],uL i) - dI c d ([],[]); rw [ZsS,Int.sub_zero]; show _ = ((dt (1 :: c) []:Nat):Int) + dtI d (uL i); rw [ZdI,Zpm]; exact (Int.zero_add _).symm
 | .k n=>by show Int.ofNat n = dI c d ([n],[]) - dI c d ([],[]); rw [ZsS,Int.sub_zero]; show _ = ((dt (1 :: c) [n]:Nat):Int) + dtI d []; rw [ZcT,Int.add_zero]; show _ = ((1 * n + dt c []:Nat):Int); rw [ZdI,Nat.one_mul]; rfl
 | .c e=>by show ((e.ev c:Nat):Int) = dI c d (e.li,[]) - dI c d ([],[]); rw [ZsS,Int.sub_zero]; show _ = ((dt (1 :: c) e.li:Nat):Int) + dtI d []; rw [ZcT,Int.add_zero,e.li_ev]
 | .a x y=>by show x.ev c d + y.ev c d = dI c d (pL (x.li true) (y.li true)) - dI c d (pL (x.li false) (y.li false)); rw [ZdM,ZdM,x.li_ev,y.li_ev]; exact Zr0 _ _ _ _
 | .s x y=>by show x.ev c d - y.ev c d = dI c d (pL (x.li true) (y.li false)) - dI c d (pL (x.li false) (y.li true)); rw [ZdM,ZdM,x.li_ev,y.li_ev]; exact ZoU _ _ _ _
 | .g x=>by show -x.ev c d = dI c d (x.li false) - dI c d (x.li true); rw [x.li_ev]; exact Int.neg_sub _ _
 | .m n x=>by show Int.ofNat n * x.ev c d = dI c d (sL n (x.li true).1,sL n (x.li true).2) - dI c d (sL n (x.li false).1,sL n (x.li false).2); rw [Zmx,Zmx,x.li_ev]; exact Int.mul_sub _ _ _
noncomputable def cI (x y:AI):List Nat × List Nat:=pL (x.li true) (y.li false)
noncomputable def Zln (u:List Nat × List Nat):List Nat × List Nat:=(aL [1] u.1,u.2)
theorem Zj1 (u:List Nat × List Nat):dI c d (Zln u) = dI c d u + 1:=by
 show ((dt (1 :: c) (aL [1] u.1):Nat):Int) + dtI d u.2 = ((dt (1 :: c) u.1:Nat):Int) + dtI d u.2 + 1
 rw [Zir,Int.natCast_add,Int.add_right_comm]; rfl
theorem ZjL (x y:AI):dI c d (cI x y) - dI c d (cI y x) = x.ev c d - y.ev c d:=by
 unfold cI
 rw [ZdM,ZdM,x.li_ev,y.li_ev,ZoU,Int.add_comm (dI c d (y.li true))]
theorem Zma {x y:AI} (h:x.ev c d ≤ y.ev c d):dI c d (cI x y) ≤ dI c d (cI y x):=by
 have:=ZjL c d x y; omega
theorem ZtC {x y:AI} (h:dI c d (cI x y) ≤ dI c d (cI y x)):x.ev c d ≤ y.ev c d:=by
 have:=ZjL c d x y; omega
noncomputable def ZtI:Nat → Int → Int → Prop
 | 0,x,y=>x ≤ y
 | 1,x,y=>x < y
 | 2,x,y=>x = y
 | 3,x,y=>x = y
 | 4,x,y=>¬ x ≤ y
 | 5,x,y=>¬ x < y
 | _,_,_=>False
noncomputable def loI:Nat → AI → AI → List Nat × List Nat
 | 0,x,y=>cI x y
 | 1,x,y=>Zln (cI x y)
 | 2,x,y=>cI x y
 | 4,x,y=>Zln (cI y x)
 | _,x,y=>cI y x
noncomputable def hiI:Nat → AI → AI → List Nat × List Nat
 | 0,x,y=>cI y x
 | 1,x,y=>cI y x
 | 2,x,y=>cI y x
 | _,x,y=>cI x y
theorem Zre {x y:AI} (h:x.ev c d < y.ev c d):dI c d (Zln (cI x y)) ≤ dI c d (cI y x):=by
 have:=ZjL c d x y; rw [Zj1]; omega
theorem Ztc (x y:AI):∀ r,ZtI r (x.ev c d) (y.ev c d) → dI c d (loI r x y) ≤ dI c d (hiI r x y)
 | 0,h=>Zma c d h
 | 1,h=>Zre c d h
 | 2,h=>Zma c d (Int.le_of_eq h)
 | 3,h=>Zma c d (Int.le_of_eq h.symm)
 | 4,h=>Zre c d (Int.not_le.1 h)
 | 5,h=>Zma c d (Int.not_lt.1 h)
 | _ + 6,h=>h.elim
end
noncomputable def rdI:Nat → Nat → AI × Nat
 | 0,s=>(.k 0,s)
 | f + 1,s=>bif Nat.ble (s % 16) 7 then (.v (s % 16),s / 16) else bif Nat.beq (s % 16) 8 then (.c (rdE 9 (s / 16)).1,(rdE 9 (s / 16)).2)
  else bif Nat.beq (s % 16) 9 then (.g (rdI f (s / 16)).1,(rdI f (s / 16)).2) else bif Nat.beq (s % 16) 10 then (.k 1,s / 16)
  else bif Nat.beq (s % 16) 11 then (.k (s / 256 % 16 ^ (s / 16 % 16)),s / 256 / 16 ^ (s / 16 % 16))
  else bif Nat.beq (s % 16) 12 then (.a (rdI f (s / 16)).1 (rdI f (rdI f (s / 16)).2).1,(rdI f (rdI f (s / 16)).2).2)
  else bif Nat.beq (s % 16) 13 then (.m (s / 16 % 256) (rdI f (s / 4096)).1,(rdI f (s / 4096)).2)
  else bif Nat.beq (s % 16) 14 then (.k 0,s / 16) else (.s (rdI f (s / 16)).1 (rdI f (rdI f (s / 16)).2).1,(rdI f (rdI f (s / 16)).2).2)
def hP (c:List Nat) (d:List Int) (r s:Nat):Prop:=bif Nat.ble 8 r then ZtI (r - 8) ((rdI 9 s).1.ev c d) ((rdI 9 (rdI 9 s).2).1.ev c d) else Zou r ((rdE 9 s).1.ev c) ((rdE 9 (rdE 9 s).2).1.ev c)
noncomputable def hR (r s:Nat):Nat:=bif Nat.ble 8 r then (rdI 9 (rdI 9 s).2).2 else (rdE 9 (rdE 9 s).2).2
noncomputable def hL (r s:Nat):List Nat × List Nat:=bif Nat.ble 8 r then loI (r - 8) (rdI 9 s).1 (rdI 9 (rdI 9 s).2).1 else (loN r (rdE 9 s).1 (rdE 9 (rdE 9 s).2).1,[])
noncomputable def hH (r s:Nat):List Nat × List Nat:=bif Nat.ble 8 r then hiI (r - 8) (rdI 9 s).1 (rdI 9 (rdI 9 s).2).1 else (hiN r (rdE 9 s).1 (rdE 9 (rdE 9 s).2).1,[])
theorem Zt6 (c:List Nat) (d:List Int) (r s:Nat) (h:hP c d r s):dI c d (hL r s) ≤ dI c d (hH r s):=by
 unfold hP at h
 unfold hL hH
 cases e:Nat.ble 8 r <;> rw [e] at h
 ·exact Int.add_le_add_right (Int.ofNat_le.2 (Zpd c _ _ _ h)) _
 ·exact Ztc c d _ _ _ h
noncomputable def zL:List Nat → Bool
 | []=>true
 | x :: l=>Nat.beq x 0 && zL l
noncomputable def eqL:List Nat → List Nat → Bool
 | [],r=>zL r
 | x :: l,[]=>Nat.beq x 0 && zL l
 | x :: l,y :: r=>Nat.beq x y && eqL l r
theorem ZoY:∀ c l,zL l = true → dtI c l = 0
 | c,[],_=>ZcT c
 | [],x :: l,_=>rfl
 | z :: c,x :: l,h=>by
  have h:=(Bool.and_eq_true _ _).mp h
  show z * (x:Int) + dtI c l = 0
  rw [Nat.eq_of_beq_eq_true h.1,ZoY c l h.2,Int.add_zero]; exact Int.mul_zero z
theorem Zpc:∀ c l r,eqL l r = true → dtI c l = dtI c r
 | c,[],r,h=>(ZcT c).trans (ZoY c r h).symm
 | c,x :: l,[],h=>(ZoY c (x :: l) h).trans (ZcT c).symm
 | [],x :: l,y :: r,_=>rfl
 | z :: c,x :: l,y :: r,h=>by
  have h:=(Bool.and_eq_true _ _).mp h
  show z * (x:Int) + dtI c l = z * (y:Int) + dtI c r
  rw [Nat.eq_of_beq_eq_true h.1,Zpc c l r h.2]
noncomputable def leP (u w:List Nat × List Nat):Bool:=leL u.1 w.1 && eqL u.2 w.2
theorem Zim (c:List Nat) (d:List Int) {u w:List Nat × List Nat} (h:leP u w = true):dI c d u ≤ dI c d w:=by
 have h:=(Bool.and_eq_true _ _).mp h
 exact Int.add_le_add (Int.ofNat_le.2 (Zhh _ _ _ h.1)) (Int.le_of_eq (Zpc d _ _ h.2))
noncomputable def ZsD (c:List Nat) (d:List Int):Nat → Nat → Prop
 | 0,s=>hP c d (s % 16) (s / 16)
 | n + 1,s=>hP c d (s / 16 % 16) (s / 256) → ZsD c d n (hR (s / 16 % 16) (s / 256))
noncomputable def gI (r s:Nat) (L R:List Nat × List Nat):Bool:=bif Nat.beq r 0 then leP (pL R ((rdE 9 s).1.li,[])) (pL L ((rdE 9 (rdE 9 s).2).1.li,[]))
 else bif Nat.beq r 1 then leP (Zln (pL R ((rdE 9 s).1.li,[]))) (pL L ((rdE 9 (rdE 9 s).2).1.li,[]))
 else bif Nat.beq r 8 then leP (pL R (cI (rdI 9 s).1 (rdI 9 (rdI 9 s).2).1)) (pL L (cI (rdI 9 (rdI 9 s).2).1 (rdI 9 s).1))
 else bif Nat.beq r 9 then leP (Zln (pL R (cI (rdI 9 s).1 (rdI 9 (rdI 9 s).2).1))) (pL L (cI (rdI 9 (rdI 9 s).2).1 (rdI 9 s).1))
 else leP (Zln R) L
noncomputable def chI:Nat → Nat → List Nat × List Nat → List Nat × List Nat → Bool
 | 0,s,L,R=>gI (s % 16) (s / 16) L R
 | n + 1,s,L,R=>chI n (hR (s / 16 % 16) (s / 256)) (pL L (sL (s % 16) (hL (s / 16 % 16) (s / 256)).1,sL (s % 16) (hL (s / 16 % 16) (s / 256)).2)) (pL R (sL (s % 16) (hH (s / 16 % 16) (s / 256)).1,sL (s % 16) (hH (s / 16 % 16) (s / 256)).2))
theorem Zmf (c:List Nat) (d:List Int) (e:AE):dI c d (e.li,[]) = ((e.ev c:Nat):Int):=by
 show ((dt (1 :: c) e.li:Nat):Int) + dtI d [] = _
 rw [ZcT,Int.add_zero,e.li_ev]
theorem Zoo {a b l r:Int} (h:l ≤ r) (e:r + a ≤ l + b):a ≤ b:=by omega
theorem ZnV {a b l r:Int} (h:l ≤ r) (e:r + a + 1 ≤ l + b):a < b:=by omega
theorem ZsJ {l r:Int} (h:l ≤ r) (e:r + 1 ≤ l):False:=by omega
theorem Zux (c:List Nat) (d:List Int) (r s:Nat) (L R:List Nat × List Nat) (h:dI c d L ≤ dI c d R) (k:gI r s L R = true):hP c d r s:=by
 unfold gI at k
 cases e0:Nat.beq r 0 with
 | true=>
  rw [Nat.eq_of_beq_eq_true e0] at k ⊢
  have e:=Zim c d k
  rw [ZdM,ZdM,Zmf,Zmf] at e
  exact Int.ofNat_le.1 (Zoo h e)
 | false=>
  cases e1:Nat.beq r 1 with
  | true=>
   rw [Nat.eq_of_beq_eq_true e1] at k ⊢
   have e:=Zim c d k
   rw [Zj1,ZdM,ZdM,Zmf,Zmf] at e
   exact Int.ofNat_lt.1 (ZnV h e)
  | false=>
   cases e8:Nat.beq r 8 with
   | true=>
    rw [Nat.eq_of_beq_eq_true e8] at k ⊢
    have e:=Zim c d k
    rw [ZdM,ZdM] at e
    exact ZtC c d (Zoo h e)
   | false=>
    cases e9:Nat.beq r 9 with
    | true=>
     rw [Nat.eq_of_beq_eq_true e9] at k ⊢
     have e:=Zim c d k
     rw [Zj1,ZdM,ZdM] at e
     have z:=ZnV h e
     have y:=ZjL c d (rdI 9 s).1 (rdI 9 (rdI 9 s).2).1
     show (rdI 9 s).1.ev c d < (rdI 9 (rdI 9 s).2).1.ev c d
     exact Int.lt_of_sub_neg (y ▸ Int.sub_neg_of_lt z)
    | false=>
     rw [e0,e1,e8,e9] at k
     have e:=Zim c d k
     rw [Zj1] at e
     exact (ZsJ h e).elim
theorem arI (c:List Nat) (d:List Int):∀ (n s:Nat) (L R:List Nat × List Nat),dI c d L ≤ dI c d R → chI n s L R = true → ZsD c d n s
 | 0,s,L,R,h,k=>Zux c d _ _ L R h k
 | n + 1,s,L,R,h,k=>fun g=>arI c d n _ _ _ (by
   rw [ZdM,ZdM,Zmx,Zmx]; exact Int.add_le_add h (Int.mul_le_mul_of_nonneg_left (Zt6 c d _ _ g) (Int.natCast_nonneg _))) k
end L3
theorem iN (c:List Nat) (d:List Int) (n s:Nat) (h:L3.chI n s ([],[]) ([],[]) = true):L3.ZsD c d n s:=L3.arI c d n s ([],[]) ([],[]) (Int.le_refl _) h
set_option Elab.async false
set_option linter.all false
set_option maxRecDepth 100000
namespace L2
open PySem PySem.Spec PyProof.Rows
noncomputable abbrev Key:=Sum Int Str
noncomputable def ZiR:Key → Value → Bool
 | .inl k,v=>Value.isInt k v
 | .inr x,v=>Value.isStrOf x v
noncomputable def ZvM (w:World):Key → Int
 | .inl k=>hashInt k
 | .inr x=>hashStr w x
theorem ZbL:∀ {k:Key} {v:Value},ZiR k v = true → (∃ i t,k = Sum.inl i ∧ v = Value.int i t) ∨ (∃ x t,k = Sum.inr x ∧ v = Value.str x t)
 | .inl i,v,h=>by
  obtain ⟨t,e⟩:=Value.isInt_shape (k:=i) (v:=v) h
  exact .inl ⟨i,t,rfl,e⟩
 | .inr x,v,h=>by
  obtain ⟨t,e⟩:=Value.isStrOf_shape (x:=x) (v:=v) h
  exact .inr ⟨x,t,rfl,e⟩
theorem Zng (i:Int) (t:Tok):ZiR (.inl i) (.int i t) = true:=by simp [ZiR,Value.isInt]
theorem ZnC (x:Str) (t:Tok):ZiR (.inr x) (.str x t) = true:=by simp [ZiR,Value.isStrOf]
theorem ZsC (a b:Int):decide ((Sum.inl a:Key) = Sum.inl b) = (a == b):=by
 by_cases e:a = b
 ·subst e; simp
 ·have h:¬ (Sum.inl a:Key) = Sum.inl b:=fun q=>e (Sum.inl.inj q)
  rw [decide_eq_false h]
  exact (beq_eq_false_iff_ne.mpr e).symm
theorem Zsh (a b:Str):decide ((Sum.inr a:Key) = Sum.inr b) = decide (a = b):=by
 by_cases e:a = b
 ·subst e; simp
 ·have h:¬ (Sum.inr a:Key) = Sum.inr b:=fun q=>e (Sum.inr.inj q)
  rw [decide_eq_false h,decide_eq_false e]
theorem ZsI (a:Int) (b:Str):decide ((Sum.inl a:Key) = Sum.inr b) = false:=decide_eq_false (fun q=>nomatch q)
theorem Zrr (a:Str) (b:Int):decide ((Sum.inr a:Key) = Sum.inl b) = false:=decide_eq_false (fun q=>nomatch q)
noncomputable def Zbk (prog:Program) (w:World):PySem.KeyKind prog w Key where
 is:=ZiR
 hash:=ZvM w
 inj:=fun v a b ha hb=>by
  rcases ZbL ha with ⟨i,t,rfl,rfl⟩ | ⟨x,t,rfl,rfl⟩
  ·rcases ZbL hb with ⟨j,u,rfl,e⟩ | ⟨y,u,rfl,e⟩
   ·injection e with e1 _; rw [e1]
   ·exact nomatch e
  ·rcases ZbL hb with ⟨j,u,rfl,e⟩ | ⟨y,u,rfl,e⟩
   ·exact nomatch e
   ·injection e with e1 _; rw [e1]
 byValue:=fun k v h=>by
  rcases ZbL h with ⟨i,t,rfl,rfl⟩ | ⟨x,t,rfl,rfl⟩ <;> rfl
 pyHash:=fun hv h=>by
  rcases ZbL hv with ⟨i,t,rfl,rfl⟩ | ⟨x,t,rfl,rfl⟩
  ·exact wpAny_pyHash_int h
  ·exact wpAny_pyHash_str h
 eqBool:=fun hu hv h=>by
  rcases ZbL hu with ⟨i,t,rfl,rfl⟩ | ⟨x,t,rfl,rfl⟩
  ·rcases ZbL hv with ⟨j,u,rfl,rfl⟩ | ⟨y,u,rfl,rfl⟩
   ·rw [ZsC] at h; exact wpAny_eqBool_int h
   ·rw [ZsI] at h; exact SeqAt.EqAt.int_str i t y u _ _ _ _ h
  ·rcases ZbL hv with ⟨j,u,rfl,rfl⟩ | ⟨y,u,rfl,rfl⟩
   ·rw [Zrr] at h; exact SeqAt.EqAt.str_int x t j u _ _ _ _ h
   ·rw [Zsh] at h; exact wpAny_eqBool_str h
 «strs»:=fun k x t v h=>by
  rcases ZbL h with ⟨i,u,rfl,e⟩ | ⟨y,u,rfl,e⟩
  ·exact nomatch e
  ·injection e with e1 _
   subst e1
   cases v <;> rfl
theorem Zk8 (prog:Program) (w:World) (i:Int) (t:Tok):(Zbk prog w).is (.inl i) (.int i t) = true:=Zng i t
theorem Zkm (prog:Program) (w:World) (x:Str) (t:Tok):(Zbk prog w).is (.inr x) (.str x t) = true:=ZnC x t
end L2
namespace L2
open PySem PySem.Spec PyProof.Rows
inductive V where
 | non | bl (b:Bool) | int (i:Int) | str (x:Str) | byt (b:Array UInt8) | flt (b:UInt64) | ref (a:Addr) | ty (n:String)
 deriving DecidableEq
noncomputable def RelV:V → Value → Prop
 | .non,u=>u = Value.none
 | .bl b,u=>u = Value.bool b
 | .int i,u=>∃ t,u = Value.int i t
 | .str x,u=>∃ t,u = Value.str x t
 | .byt b,u=>∃ t,u = Value.bytes b t
 | .flt b,u=>∃ t,u = Value.float b t
 | .ref a,u=>u = Value.ref a
 | .ty n,u=>u = Value.type n
noncomputable abbrev Vals:List V → List Value → Prop:=Paired RelV
theorem Vals.length {xs:List V} {us:List Value} (r:Vals xs us):xs.length = us.length:=Paired.length r
theorem Vals.get:∀ {xs:List V} {us:List Value} {i:Nat} {x:V},Vals xs us → xs[i]? = some x → ∃ u,us[i]? = some u ∧ RelV x u
 | _,_,_,_,.nil,e=>by simp at e
 | _,_,0,_,.cons r _,e=>by simp at e; subst e; exact ⟨_,rfl,r⟩
 | _,_,i + 1,x,.cons _ t,e=>by
  obtain ⟨u,h1,h2⟩:=Vals.get (i:=i) (x:=x) t (by simpa using e)
  exact ⟨u,by simpa using h1,h2⟩
theorem Vals.set {x:V} {u:Value} (r:RelV x u):∀ {xs:List V} {us:List Value} (i:Nat),Vals xs us → Vals (xs.set i x) (us.set i u)
 | _,_,_,.nil=>.nil
 | _,_,0,.cons _ t=>.cons r t
 | _,_,i + 1,.cons q t=>.cons q (Vals.set r i t)
theorem Vals.append:∀ {xs ys:List V} {us ws:List Value},Vals xs us → Vals ys ws → Vals (xs ++ ys) (us ++ ws)
 | _,_,_,_,.nil,s=>s
 | _,_,_,_,.cons r t,s=>.cons r (Vals.append t s)
theorem Vals.take:∀ {xs:List V} {us:List Value} (n:Nat),Vals xs us → Vals (xs.take n) (us.take n)
 | _,_,0,_=>.nil
 | _,_,_ + 1,.nil=>.nil
 | _,_,n + 1,.cons r t=>.cons r (Vals.take n t)
theorem Vals.drop:∀ {xs:List V} {us:List Value} (n:Nat),Vals xs us → Vals (xs.drop n) (us.drop n)
 | _,_,0,r=>r
 | _,_,_ + 1,.nil=>.nil
 | _,_,n + 1,.cons _ t=>Vals.drop n t
noncomputable def Zhf:Option V → Option Value → Prop
 | some v,some u=>RelV v u
 | none,none=>True
 | _,_=>False
noncomputable def KV {κ:Type}:List (κ × V) → List (κ × Value) → Prop:=Paired fun (p:κ × V) (q:κ × Value)=>p.1 = q.1 ∧ RelV p.2 q.2
noncomputable def kV:Key → V
 | .inl i=>.int i
 | .inr x=>.str x
inductive HO where
 /-- a list -/
 | lst (xs:List V)
 /-- a tuple (never changes) -/
 | tup (xs:List V)
 /-- a dict whose keys are ints and texts; one whose keys are tuples of ints and texts (the empty one is both) -/
 | dK (kvs:List (Key × V)) | dT (kvs:List (List Key × V))
 /-- a set of ints: its members,its size -/
 | set (S:Int → Bool) (n:Nat)
 /-- an instance of the class at C,its dict at dx,its attributes -/
 | ins (C dx:Addr) (fs:List (Str × V))
 /-- the dict of the instance at x -/
 | own (x:Addr)
 /-- the dict of an exception -/
 | xd (fs:List (Str × V))
 /-- a bound method,f of x -/
 | met (f x:Addr)
 /-- a range object lo,lo + 1,.. below hi -/
 | rng (lo hi:Int)
 /-- a thing that is known to the object (the script; a dict while a loop walks it): read,never written while it is so -/
 | frz (o:Obj) (u:HO)
 /-- a code object's table -/
 | tbl (ps:Array Value)
 /-- any other thing,by what is true of its one object (a def of one's own: SetO a S n:=HO.ext fun h=>..) -/
 | ext (φ:Heap → Prop)
noncomputable abbrev Hp:=Addr → Option HO
noncomputable def upd (H:Hp) (a:Addr) (o:HO):Hp:=fun b=>if b = a then some o else H b
theorem Zd5 {H:Hp} {a:Addr} {o:HO}:upd H a o a = some o:=by unfold upd; rw [if_pos rfl]
theorem Zbw {H:Hp} {a b:Addr} {o:HO} (h:b ≠ a):upd H a o b = H b:=by unfold upd; rw [if_neg h]
theorem Zum {H:Hp} {a b:Addr} {o u:HO} (h:H a = some o) (h':H b = some u) (d:o ≠ u):a ≠ b:=by
 intro e; subst e; rw [h] at h'; exact d (Option.some.inj h')
theorem Zeh {H:Hp} {a b:Addr} {o:HO} (h:H a = some o) (h':H b = none):a ≠ b:=by
 intro e; subst e; rw [h] at h'; cases h'
section
variable (P:Program) (w:World)
def ZeE (h:Heap) (a:Addr) (items:Array Value):Prop:=∃ o,h.get? a = some o ∧ (o.cls = .type "tuple" ∧ o.dict = none) ∧ ∃ n,o.data = .seq items n
theorem ZeE.tup {h:Heap} {a:Addr} {items:Array Value} (x:ZeE h a items):IsTup h a items:=let ⟨o,e,c,d⟩:=x; ⟨o,e,c.1,d⟩
theorem ZeE.new (h:Heap) (items:Array Value):ZeE (h.push { cls:=.type "tuple",data:=.seq items }) h.objs.size items:=⟨_,Heap.get?_push_size _ rfl,⟨rfl,rfl⟩,0,rfl⟩
noncomputable def ZbU (H:Hp) (h:Heap) (a:Addr):HO → Prop
 | .lst xs=>xs.length ≤ sizeLine ∧ ∃ (its:List Value) (n:Nat),Vals xs its ∧ h.get? a = some { cls:=.type "list",data:=.seq its.toArray n }
 | .tup xs=>xs.length ≤ sizeLine ∧ ∃ its:List Value,Vals xs its ∧ ZeE h a its.toArray
 | .dK kvs=>kvs.length ≤ sizeLine ∧ (a == sysModules) = false ∧ ∃ vs,KV kvs vs ∧ h.DictOf (Zbk P w) a vs
 | .dT kvs=>kvs.length ≤ sizeLine ∧ (a == sysModules) = false ∧ ∃ xs:List (List Key × Addr × Value),
   Paired (fun (p:List Key × V) (q:List Key × Addr × Value)=>p.1 = q.1 ∧ H q.2.1 = some (.tup (p.1.map kV)) ∧ RelV p.2 q.2.2) kvs xs ∧
   ∃ o es ep,h.get? a = some o ∧ o.ExactDict ∧ o.data = .dict es ep ∧ es.toList = xs.map (entryOfKey (tupleKind (Zbk P w))) ∧ (xs.map (·.1)).Nodup
 | .set S n=>h.SetOf (intKind P w) a S n
 | .ins C dx fs=>H dx = some (.own a) ∧ fs.length ≤ 1000 ∧ dx ≠ a ∧ h.get? a = some (PySem.W.instObj C dx) ∧
   ∃ mA,h.Ns1 dx mA ∧ (∀ f,Zhf (fs.lookup f) (mA f)) ∧ PySem.Within mA (fs.map (·.1))
 | .own _=>∃ o,h.get? a = some o
 | .xd fs=>∃ mA,h.Ns1 a mA ∧ ∀ f,Zhf (fs.lookup f) (mA f)
 | .rng lo hi=>∃ t u v,h.get? a = some { cls:=.type "range",data:=.fields #[.int lo t,.int hi u,.int 1 v] }
 | .frz o u=>h.get? a = some o ∧ ZbU H h a u
 | .tbl ps=>h.get? a = some { cls:=.none,data:=.fields ps }
 | .met f x=>h.get? a = some (PySem.W.methodObj (.ref f) (.ref x))
 | .ext φ=>φ h ∧ (∃ o,h.get? a = some o) ∧ ∀ h1 h2:Heap,φ h1 → (∀ o,h1.get? a = some o → h2.get? a = some o) → φ h2
def HOk (H:Hp) (h:Heap):Prop:=∀ a o,H a = some o → ZbU P w H h a o
end
section
variable {P:Program} {w:World} {H H':Hp} {h h':Heap} {a:Addr} {o:HO}
theorem ZbU.lt (x:ZbU P w H h a o):a < h.objs.size:=by
 cases o with
 | lst xs=>obtain ⟨_,_,_,_,e⟩:=x; exact Heap.lt_size e
 | tup xs=>obtain ⟨_,_,_,p⟩:=x; exact p.tup.lt
 | dK kvs=>obtain ⟨_,_,_,_,o,_,_,e,_⟩:=x; exact Heap.lt_size e
 | dT kvs=>obtain ⟨_,_,_,_,o,_,_,e,_⟩:=x; exact Heap.lt_size e
 | set S n=>obtain ⟨o,_,_,_,e,_⟩:=x; exact Heap.lt_size e
 | ins C dx fs=>obtain ⟨_,_,_,e,_⟩:=x; exact Heap.lt_size e
 | own y=>obtain ⟨_,e⟩:=x; exact Heap.lt_size e
 | xd fs=>obtain ⟨_,⟨_,_,_,e,_⟩,_⟩:=x; exact Heap.lt_size e
 | rng lo hi=>obtain ⟨_,_,_,e⟩:=x; exact Heap.lt_size e
 | frz ob u=>obtain ⟨e,_⟩:=x; exact Heap.lt_size e
 | tbl ps=>exact Heap.lt_size (show h.get? a = some _ from x)
 | met f y=>exact Heap.lt_size (show h.get? a = some _ from x)
 | ext φ=>obtain ⟨_,⟨_,e⟩,_⟩:=x; exact Heap.lt_size e
theorem Paired.mapP {α β:Type} {F G:α → β → Prop}:∀ {l₁:List α} {l₂:List β},Paired F l₁ l₂ → (∀ a b,F a b → G a b) → Paired G l₁ l₂
 | _,_,.nil,_=>.nil
 | _,_,.cons r t,f=>.cons (f _ _ r) (Paired.mapP t f)
theorem ZbU.stay (x:ZbU P w H h a o) (k:∀ b u,(b = a ∨ H b = some (.own a)) → h.get? b = some u → h'.get? b = some u)
  (ho:∀ b,H b = some (.own a) → H' b = some (.own a)) (ht:∀ b xs,H b = some (.tup xs) → H' b = some (.tup xs)):ZbU P w H' h' a o:=by
 induction o with
 | lst xs=>obtain ⟨z,its,n,r,e⟩:=x; exact ⟨z,its,n,r,k _ _ (.inl rfl) e⟩
 | tup xs=>obtain ⟨z,its,r,ob,e,c⟩:=x; exact ⟨z,its,r,ob,k _ _ (.inl rfl) e,c⟩
 | dK kvs=>obtain ⟨z,y,vs,r,ob,es,ep,e,c⟩:=x; exact ⟨z,y,vs,r,ob,es,ep,k _ _ (.inl rfl) e,c⟩
 | dT kvs=>
  obtain ⟨z,y,xs,r,ob,es,ep,e,c⟩:=x
  exact ⟨z,y,xs,Paired.mapP r fun p q z=>⟨z.1,ht _ _ z.2.1,z.2.2⟩,ob,es,ep,k _ _ (.inl rfl) e,c⟩
 | set S n=>obtain ⟨ob,es,ep,t,e,c⟩:=x; exact ⟨ob,es,ep,t,k _ _ (.inl rfl) e,c⟩
 | ins C dx fs=>
  obtain ⟨d,z,ne,e,mA,⟨od,es,ep,e2,c⟩,r⟩:=x
  exact ⟨ho _ d,z,ne,k _ _ (.inl rfl) e,mA,⟨od,es,ep,k _ _ (.inr d) e2,c⟩,r⟩
 | own y=>obtain ⟨ob,e⟩:=x; exact ⟨ob,k _ _ (.inl rfl) e⟩
 | xd fs=>obtain ⟨mA,⟨od,es,ep,e,c⟩,r⟩:=x; exact ⟨mA,⟨od,es,ep,k _ _ (.inl rfl) e,c⟩,r⟩
 | rng lo hi=>obtain ⟨t,u,v,e⟩:=x; exact ⟨t,u,v,k _ _ (.inl rfl) e⟩
 | frz ob u ih=>obtain ⟨e,q⟩:=x; exact ⟨k _ _ (.inl rfl) e,ih q⟩
 | tbl ps=>
  have e:h.get? a = some { cls:=.none,data:=.fields ps }:=x
  show h'.get? a = some { cls:=.none,data:=.fields ps }
  exact k a _ (.inl rfl) e
 | met f y=>
  have e:h.get? a = some (PySem.W.methodObj (.ref f) (.ref y)):=x
  show h'.get? a = some (PySem.W.methodObj (.ref f) (.ref y))
  exact k a _ (.inl rfl) e
 | ext φ=>obtain ⟨p,⟨o,e⟩,st⟩:=x; exact ⟨st _ _ p fun o q=>k _ _ (.inl rfl) q,⟨o,k _ _ (.inl rfl) e⟩,st⟩
theorem HOk.lt (x:HOk P w H h) (e:H a = some o):a < h.objs.size:=(x a o e).lt
theorem HOk.fresh (x:HOk P w H h) (e:h.objs.size ≤ a):H a = none:=by
 cases q:H a with
 | none=>rfl
 | some u=>exact absurd (Nat.lt_of_lt_of_le (x.lt q) e) (Nat.lt_irrefl _)
theorem HOk.kept (x:HOk P w H h) (k:∀ b u,h.get? b = some u → h'.get? b = some u):HOk P w H h':=fun a o e=>
 (x a o e).stay (fun b u _ q=>k b u q) (fun _ q=>q) fun _ _ q=>q
theorem HOk.laid (x:HOk P w H h) (k:∀ b u,h.get? b = some u → h'.get? b = some u) (hp:h.objs.size ≤ a) (new:ZbU P w (upd H a o) h' a o):HOk P w (upd H a o) h':=fun b u e=>by
 have hn:=x.fresh hp
 by_cases hb:b = a
 ·subst hb; rw [Zd5] at e; cases e; exact new
 ·rw [Zbw hb] at e
  exact (x b u e).stay (fun c v _ q=>k c v q) (fun c q=>by rw [Zbw (Zeh q hn)]; exact q) fun c xs q=>by rw [Zbw (Zeh q hn)]; exact q
end
def Rd (H:Hp) (a:Addr) (u:HO):Prop:=H a = some u ∨ ∃ o,H a = some (.frz o u)
theorem Rd.ok {P:Program} {w:World} {H:Hp} {h:Heap} {a:Addr} {u:HO} (r:Rd H a u) (x:HOk P w H h):ZbU P w H h a u:=by
 rcases r with r | ⟨o,r⟩
 ·exact x a u r
 ·obtain ⟨_,q⟩:=x a _ r
  exact q
noncomputable def Mut:Option HO → Prop
 | some (.lst _)=>True
 | some (.dK _)=>True
 | some (.dT _)=>True
 | some (.set _ _)=>True
 | some (.ins _ _ _)=>True
 | some (.ext _)=>True
 | _=>False
section
variable {P:Program} {w:World} {H:Hp} {h h':Heap} {x e:Addr} {o':HO}
theorem HOk.write (ok:HOk P w H h) (mu:Mut (H x)) (he:e = x ∨ H e = some (.own x)) (k:∀ b u,b ≠ e → h.get? b = some u → h'.get? b = some u) (heo:∃ u,h'.get? e = some u)
  (new:ZbU P w (upd H x o') h' x o'):HOk P w (upd H x o') h':=fun b u q=>by
 have nown:∀ c y,H c = some (.own y) → c ≠ x:=fun c y r z=>by subst z; rw [r] at mu; exact mu
 have ntup:∀ c xs,H c = some (.tup xs) → c ≠ x:=fun c xs r z=>by subst z; rw [r] at mu; exact mu
 by_cases hb:b = x
 ·subst hb; rw [Zd5] at q; cases q; exact new
 ·rw [Zbw hb] at q
  by_cases hbe:b = e
  ·have q':H b = some (.own x):=by
    rcases he with z | z
    ·exact absurd (hbe.trans z) hb
    ·rw [hbe]; exact z
   rw [q] at q'; cases q'
   obtain ⟨v,hv⟩:=heo
   exact ⟨v,by rw [hbe]; exact hv⟩
  ·refine (ok b u q).stay (fun c v hc r=>k c v ?_ r) (fun c r=>by rw [Zbw (nown c b r)]; exact r) fun c xs r=>by rw [Zbw (ntup c xs r)]; exact r
   rcases hc with rfl | hc
   ·exact hbe
   ·rintro rfl
    rcases he with z | z
    ·exact nown c b hc z
    ·rw [hc] at z; cases z; exact hb rfl
end
structure Un (fs ex:List Addr) (H H':Hp) (h h':Heap):Prop where
 keep:∀ b o,h.get? b = some o → H b = none → b ∉ fs → b ∉ ex → h'.get? b = some o
 slot:∀ b o,h.get? b = some o → H b = none → b ∈ fs → b ∉ ex → ∃ sl,h'.get? b = some { o with slots:=sl }
 free:∀ b o,h.get? b = some o → H b = none → b ∉ ex → H' b = none
 there:∀ b o,h.get? b = some o → b ∉ ex → ∃ o',h'.get? b = some o'
 tups:∀ b xs,H b = some (.tup xs) → H' b = some (.tup xs)
 frzs:∀ b o u,H b = some (.frz o u) → H' b = some (.frz o u)
 tbls:∀ b ps,H b = some (.tbl ps) → ∃ more,H' b = some (.tbl (ps ++ more))
section
variable {fs fs' ex ex':List Addr} {H H1 H2:Hp} {h h1 h2 h':Heap} {a x e:Addr} {o:HO}
theorem Un.any (u:Un fs ex H H1 h h1) {b:Addr} {ob:Obj} (q:h.get? b = some ob) (n:H b = none) (hx:b ∉ ex):∃ sl,h1.get? b = some { ob with slots:=sl }:=by
 by_cases hb:b ∈ fs
 ·exact u.slot b ob q n hb hx
 ·exact ⟨ob.slots,u.keep b ob q n hb hx⟩
theorem Un.trans (a:Un fs ex H H1 h h1) (b:Un fs ex H1 H2 h1 h2):Un fs ex H H2 h h2 where
 keep:=fun c ob q n hc hx=>b.keep c ob (a.keep c ob q n hc hx) (a.free c ob q n hx) hc hx
 slot:=fun c ob q n hc hx=>by
  obtain ⟨sl,e1⟩:=a.slot c ob q n hc hx
  obtain ⟨sl',e2⟩:=b.slot c _ e1 (a.free c ob q n hx) hc hx
  exact ⟨sl',e2⟩
 free:=fun c ob q n hx=>by
  obtain ⟨o',e1⟩:=a.there c ob q hx
  exact b.free c o' e1 (a.free c ob q n hx) hx
 there:=fun c ob q hx=>by
  obtain ⟨o',e1⟩:=a.there c ob q hx
  exact b.there c o' e1 hx
 tups:=fun c xs q=>b.tups c xs (a.tups c xs q)
 frzs:=fun c ob xs q=>b.frzs c ob xs (a.frzs c ob xs q)
 tbls:=fun c ps q=>by
  obtain ⟨m1,e1⟩:=a.tbls c ps q
  obtain ⟨m2,e2⟩:=b.tbls c _ e1
  exact ⟨m1 ++ m2,by rw [e2,Array.append_assoc]⟩
theorem Un.kept (k:∀ b u,h.get? b = some u → h'.get? b = some u):Un fs ex H H h h':=
 ⟨fun b ob q _ _ _=>k b ob q,fun b ob q _ _ _=>⟨ob.slots,k b ob q⟩,fun _ _ _ n _=>n,fun b ob q _=>⟨ob,k b ob q⟩,fun _ _ q=>q,fun _ _ _ q=>q,fun _ ps q=>⟨#[],by rw [q]; simp⟩⟩
theorem Un.refl:Un fs ex H H h h:=Un.kept fun _ _ q=>q
theorem Un.laid (k:∀ b u,h.get? b = some u → h'.get? b = some u) (hp:h.objs.size ≤ a) (hn:H a = none):Un fs ex H (upd H a o) h h' where
 keep:=fun b u q _ _ _=>k b u q
 slot:=fun b u q _ _ _=>⟨u.slots,k b u q⟩
 free:=fun b u q n _=>by rw [Zbw (Nat.ne_of_lt (Nat.lt_of_lt_of_le (Heap.lt_size q) hp))]; exact n
 there:=fun b u q _=>⟨u,k b u q⟩
 tups:=fun b xs q=>by rw [Zbw (Zeh q hn)]; exact q
 frzs:=fun b u xs q=>by rw [Zbw (Zeh q hn)]; exact q
 tbls:=fun b ps q=>⟨#[],by rw [Zbw (Zeh q hn),q]; simp⟩
theorem Un.write (mu:Mut (H x)) (he:e = x ∨ H e = some (.own x)) (k:∀ b u,b ≠ e → h.get? b = some u → h'.get? b = some u) (heo:∃ u,h'.get? e = some u):Un fs ex H (upd H x o) h h':=by
 have hx:∀ b,H b = none → b ≠ x:=fun b n z=>by subst z; rw [n] at mu; exact mu
 have hb:∀ b,H b = none → b ≠ e:=fun b n z=>by
  subst z
  rcases he with r | r
  ·exact hx b n r
  ·rw [n] at r; cases r
 have hm:∀ b u,H b = some u → ¬ Mut (some u) → b ≠ x:=fun b u q nm z=>by subst z; rw [q] at mu; exact nm mu
 refine ⟨fun b u q n _ _=>k b u (hb b n) q,fun b u q n _ _=>⟨u.slots,k b u (hb b n) q⟩,fun b u q n _=>by rw [Zbw (hx b n)]; exact n,fun b u q _=>?_,
  fun b xs q=>by rw [Zbw (hm b _ q fun z=>z)]; exact q,fun b u xs q=>by rw [Zbw (hm b _ q fun z=>z)]; exact q,fun b ps q=>⟨#[],by rw [Zbw (hm b _ q fun z=>z),q]; simp⟩⟩
 by_cases hbe:b = e
 ·subst hbe; exact heo
 ·exact ⟨u,k b u hbe q⟩
end
noncomputable def trk (h:Heap) (H:Hp):List Addr:=(List.range h.objs.size).filter fun a=>(H a).isSome
noncomputable def Zjo (h:Heap) (H:Hp):Heap:=PySem.W.hideAll h (trk h H)
theorem ZmX (h:Heap) (H:Hp):(Zjo h H).objs.size = h.objs.size:=PySem.W.hideAll_size _ _
theorem Zn8 {h:Heap} {H:Hp} {b:Addr} {o:Obj} (e:h.get? b = some o) (n:H b = none):(Zjo h H).get? b = some o:=
 PySem.W.hideAll_get _ e fun hm=>by
  have q:(H b).isSome = true:=(List.mem_filter.mp hm).2
  rw [n] at q; simp at q
theorem Zqk {h:Heap} {H:Hp} {b:Addr} {o:Obj} (e:(Zjo h H).get? b = some o):h.get? b = some o ∧ H b = none:=by
 have e':h.get? b = some o:=PySem.W.of_hideAll (trk h H) e
 refine ⟨e',?_⟩
 cases q:H b with
 | none=>rfl
 | some x=>
  have hm:b ∈ trk h H:=List.mem_filter.mpr ⟨List.mem_range.mpr (Heap.lt_size e'),by simp [q]⟩
  have z:(Zjo h H).get? b = none:=PySem.W.hideAll_none (trk h H) hm
  rw [z] at e; cases e
noncomputable def ZpN (g h:Heap) (L:Addr):List (Addr × Obj):=(List.range h.objs.size).filterMap fun a=>if a = L ∨ (g.get? a).isSome = true then none else (h.get? a).map fun o=>(a,o)
noncomputable def rest (g h:Heap) (L d:Addr):List (Addr × Obj):=(ZpN g h L).filter fun p=>decide (p.1 ≠ d)
end L2
namespace L2
open PySem PySem.Spec PyProof.Rows
structure Mod (K:PySem.W.Frag) (mg:Str → Option Value) (base:Heap):Prop where
 kin:K.In base
 glob:base.Ns mainGlobals mg
 blt:∃ mb,base.Ns builtinsNs mb ∧ ∀ x:Str,x ≠ "__name__" → mb x = bootBuiltins x
 nolimit:base.NoLimit
/-- the context: a def's body (or a comprehension's block) running. base: fixed through the whole law; s₀,H₀: the entry; outer: the frames whose slots others may change (a def's callers); stack: all frames that run;
  ex: iterators that were made ahead of the entry and are walked here (a comprehension's); fn: the names whose cells were made at the entry (a def: all; a comprehension's block: its own); calm: not within an except suite; pn: pins that every state bears; xe: what is wanted of an exception that leaves the code -/
structure Cx where
 prog:Program
 w:World
 K:PySem.W.Frag
 mg:Str → Option Value
 base:Heap
 A:Around
 N:List Str
 s₀:Shared
 H₀:Hp
 env:Env
 outer:List Env
 stack:List Env
 ex:List Addr
 fn:Str → Bool
 calm:Bool
 pn:List (Addr × Obj)
 xe:Value → Shared → Prop
noncomputable def frs (l:List Env):List Addr:=l.filterMap (·.frame)
noncomputable abbrev Cx.fs (X:Cx):List Addr:=frs X.outer
def Vis (sc:Scope) (x:Str):Prop:=sc.names.lookup x = some .local ∨ sc.names.lookup x = some .cell ∨ sc.names.lookup x = some .free
def Loc (sc:Scope) (x:Str):Prop:=sc.names.lookup x = some .local ∨ sc.names.lookup x = some .cell
def Look (env:Env) (h:Heap) (m:Str → Option Value) (x:Str) (u:Value):Prop:=
 (env.kindOf x = some .local ∧ m x = some u) ∨ ((env.kindOf x = some .cell ∨ env.kindOf x = some .free) ∧ ∃ c,env.cells.lookup x = some c ∧ h.IsCell c (some u))
structure Cx.Ok (X:Cx):Prop where
 mod:Mod X.K X.mg X.base
 kind:X.env.scope.kind = .function
 glob:X.env.globals = mainGlobals
 blt:X.env.builtins = builtinsNs
 above:X.s₀.heap.objs.size ≤ X.env.locals
 inj:∀ x y c,X.env.cells.lookup x = some c → X.env.cells.lookup y = some c → x = y
 has:∀ x,(X.env.kindOf x = some .cell ∨ X.env.kindOf x = some .free) → ∃ c,X.env.cells.lookup x = some c
 cab:∀ x c,X.fn x = true → X.env.cells.lookup x = some c → X.s₀.heap.objs.size ≤ c
 hd:X.calm = true → X.A.handled = none
 frames:X.A.frames = some X.stack
 stk:X.stack = X.outer ∨ (X.stack = X.env :: X.outer ∧ X.env.frame = some X.env.locals)
 exf:∀ b ∈ X.ex,b ≠ X.env.locals ∧ ∀ x c,X.env.cells.lookup x = some c → c ≠ b
 bs:∀ b o,X.base.get? b = some o → X.s₀.heap.get? b = some o ∧ X.H₀ b = none
 bsz:X.base.objs.size ≤ X.s₀.heap.objs.size
 noex:∀ b o,X.base.get? b = some o → b ∉ X.ex
 exfs:∀ b ∈ X.ex,b ∉ X.fs
 funs:X.s₀.heap.FunFrames X.base X.outer
 frf:∀ b ∈ X.fs,X.H₀ b = none
structure Inv (X:Cx) (pins:List (Addr × Obj)) (σ:List (Option V)) (H:Hp) (s:Shared):Prop where
 ok:X.Ok
 os:s.os = X.s₀.os
 bare:AllBare s.gens
 base:Un X.fs X.ex X.H₀ H X.s₀.heap s.heap
 loc:∃ m,s.heap.Ns X.env.locals m ∧ ∀ (i:Nat) (x:Str) (v:V),X.N[i]? = some x → σ[i]? = some (some v) → Vis X.env.scope x → ∃ u,RelV v u ∧ Look X.env s.heap m x u
 cell:∀ x c,X.env.cells.lookup x = some c → ∃ v,s.heap.IsCell c v
 free:H X.env.locals = none
 freeC:∀ x c,X.env.cells.lookup x = some c → H c = none
 pin:∀ p ∈ X.pn ++ pins,s.heap.get? p.1 = some p.2 ∧ H p.1 = none ∧ p.1 ≠ X.env.locals ∧ p.1 ∉ X.fs ∧ ∀ v,p.2.data ≠ .cell v
 hok:HOk X.prog X.w H s.heap
 len:σ.length = X.N.length
section
variable {X:Cx} {pins:List (Addr × Obj)} {σ:List (Option V)} {H H':Hp} {s:Shared} {h':Heap}
theorem Cx.Ok.nofr (ok:X.Ok) {b:Addr} {o:Obj} (e:X.base.get? b = some o):b ∉ X.fs:=fun hb=>by
 have:=(ok.funs.mem hb).1
 rw [e] at this; cases this
theorem Inv.bs (I:Inv X pins σ H s):∀ b o,X.base.get? b = some o → s.heap.get? b = some o ∧ H b = none:=fun b o e=>
 ⟨I.base.keep b o (I.ok.bs b o e).1 (I.ok.bs b o e).2 (I.ok.nofr e) (I.ok.noex b o e),I.base.free b o (I.ok.bs b o e).1 (I.ok.bs b o e).2 (I.ok.noex b o e)⟩
theorem Inv.bk (I:Inv X pins σ H s):∀ b o,X.base.get? b = some o → s.heap.get? b = some o:=fun b o e=>(I.bs b o e).1
theorem Inv.mod (I:Inv X pins σ H s):Mod X.K X.mg X.base:=I.ok.mod
theorem Inv.kIn (I:Inv X pins σ H s):X.K.In s.heap:=I.ok.mod.kin.keeps I.bk
theorem Inv.nolimit (I:Inv X pins σ H s):s.heap.NoLimit:=I.ok.mod.nolimit.keeps I.bk
theorem Inv.lt (I:Inv X pins σ H s):X.env.locals < s.heap.objs.size:=let ⟨_,hn,_⟩:=I.loc; hn.lt
theorem Inv.sz (I:Inv X pins σ H s):X.s₀.heap.objs.size ≤ s.heap.objs.size:=Nat.le_trans I.ok.above (Nat.le_of_lt I.lt)
theorem Inv.nofs (I:Inv X pins σ H s) {a:Addr} (h:s.heap.objs.size ≤ a):a ∉ X.fs:=fun hb=>by
 obtain ⟨_,o,ho,_⟩:=I.ok.funs.mem hb
 exact absurd (Nat.lt_of_lt_of_le (Heap.lt_size ho) (Nat.le_trans I.sz h)) (Nat.lt_irrefl _)
theorem Inv.cne (I:Inv X pins σ H s):∀ x c,X.env.cells.lookup x = some c → c ≠ X.env.locals:=fun x c e z=>by
 obtain ⟨v,o,ho,hd⟩:=I.cell x c e
 obtain ⟨m,⟨o',es,ep,ho',hd',_⟩,_⟩:=I.loc
 rw [z,ho'] at ho; cases ho; rw [hd'] at hd; cases hd
theorem Inv.funs (I:Inv X pins σ H s):s.heap.FunFrames X.base X.outer:=by
 have all:∀ (l:List Env),(∀ b ∈ frs l,b ∈ X.fs) → X.s₀.heap.FunFrames X.base l → s.heap.FunFrames X.base l:=by
  intro l
  induction l with
  | nil=>intro _ _; trivial
  | cons env r ih=>
   intro hs hl
   obtain ⟨hk,⟨L,o,hf,hn,ho,hd⟩,hr⟩:=hl
   have hL:L ∈ X.fs:=hs L (by unfold frs; rw [List.filterMap_cons,hf]; exact List.mem_cons_self)
   obtain ⟨sl,e⟩:=I.base.slot L o ho (I.ok.frf L hL) hL fun z=>I.ok.exfs L z hL
   exact ⟨hk,⟨L,_,hf,hn,e,hd⟩,ih (fun b hb=>hs b (by unfold frs; rw [List.filterMap_cons,hf]; exact List.mem_cons_of_mem _ hb)) hr⟩
 exact all X.outer (fun _ hb=>hb) I.ok.funs
theorem Inv.stack (I:Inv X pins σ H s):s.heap.FunFrames X.base X.stack:=by
 rcases I.ok.stk with e | ⟨e,hf⟩
 ·rw [e]; exact I.funs
 ·rw [e]
  obtain ⟨m,hn,_⟩:=I.loc
  refine .cons (by rw [I.ok.kind]; decide) hf hn ?_ I.funs
  exact Heap.get?_none_of_le (Nat.le_trans I.ok.bsz I.ok.above)
theorem Inv.stkSub (I:Inv X pins σ H s):∀ b ∈ frs X.stack,b ∈ X.env.locals :: X.fs:=fun b hb=>by
 rcases I.ok.stk with e | ⟨e,hf⟩
 ·rw [e] at hb; exact List.mem_cons_of_mem _ hb
 ·rw [e] at hb
  unfold frs at hb
  rw [List.filterMap_cons,hf] at hb
  exact hb
theorem Inv.stkFree (I:Inv X pins σ H s):∀ b ∈ frs X.stack,H b = none:=fun b hb=>by
 rcases List.mem_cons.mp (I.stkSub b hb) with e | hb
 ·rw [e]; exact I.free
 ·obtain ⟨_,o,ho,_⟩:=I.ok.funs.mem hb
  exact I.base.free b o ho (I.ok.frf b hb) fun z=>I.ok.exfs b z hb
theorem Inv.step {g':Array GenState} {t':Nat} {d':Drawn} {ch:List Addr} (I:Inv X pins σ H s)
  (hch:∀ b ∈ ch,(b ∈ X.ex ∨ X.s₀.heap.objs.size ≤ b) ∧ b ≠ X.env.locals ∧ (∀ x c,X.env.cells.lookup x = some c → c ≠ b) ∧ ∀ p ∈ X.pn ++ pins,p.1 ≠ b)
  (keep:∀ b o,b ≠ X.env.locals → b ∉ X.fs → b ∉ ch → s.heap.get? b = some o → H b = none → h'.get? b = some o)
  (slot:∀ b o,b ≠ X.env.locals → b ∈ X.fs → b ∉ ch → s.heap.get? b = some o → H b = none → ∃ sl,h'.get? b = some { o with slots:=sl }) (free:∀ b o,b ∉ ch → s.heap.get? b = some o → H b = none → H' b = none)
  (there:∀ b o,b ∉ ch → s.heap.get? b = some o → ∃ o',h'.get? b = some o')
  (tups:∀ b xs,H b = some (.tup xs) → H' b = some (.tup xs)) (frzs:∀ b o u,H b = some (.frz o u) → H' b = some (.frz o u)) (tbls:∀ b ps,H b = some (.tbl ps) → ∃ more,H' b = some (.tbl (ps ++ more)))
  (ns:∀ m,s.heap.Ns X.env.locals m → h'.Ns X.env.locals m) (hok:HOk X.prog X.w H' h') (hg:AllBare g'):
  Inv X pins σ H' { s with heap:=h',gens:=g',drawn:=d',toks:=t' }:=by
 have neL:∀ b o,X.s₀.heap.get? b = some o → b ≠ X.env.locals:=fun b o e=>Nat.ne_of_lt (Nat.lt_of_lt_of_le (Heap.lt_size e) I.ok.above)
 have neC:∀ b o,X.s₀.heap.get? b = some o → b ∉ X.ex → b ∉ ch:=fun b o e hx hb=>by
  rcases (hch b hb).1 with z | z
  ·exact hx z
  ·exact absurd (Nat.lt_of_lt_of_le (Heap.lt_size e) z) (Nat.lt_irrefl _)
 have cellK:∀ x c,X.env.cells.lookup x = some c → ∀ v,s.heap.IsCell c v → h'.IsCell c v:=fun x c e v zz1=>by
  obtain ⟨o,ho,hd⟩:=zz1
  have nch:c ∉ ch:=fun z=>(hch c z).2.2.1 x c e rfl
  by_cases hc:c ∈ X.fs
  ·obtain ⟨sl,q⟩:=slot c o (I.cne x c e) hc nch ho (I.freeC x c e)
   exact ⟨_,q,hd⟩
  ·exact ⟨o,keep c o (I.cne x c e) hc nch ho (I.freeC x c e),hd⟩
 refine ⟨I.ok,I.os,hg,⟨fun b o e n hb hx=>?_,fun b o e n hb hx=>?_,fun b o e n hx=>?_,fun b o e hx=>?_,fun b xs e=>tups b xs (I.base.tups b xs e),fun b o xs e=>frzs b o xs (I.base.frzs b o xs e),fun b ps e=>?_⟩,?_,fun x c e=>?_,?_,fun x c e=>?_,fun p hp=>?_,hok,I.len⟩
 ·exact keep b o (neL b o e) hb (neC b o e hx) (I.base.keep b o e n hb hx) (I.base.free b o e n hx)
 ·obtain ⟨sl,e1⟩:=I.base.slot b o e n hb hx
  obtain ⟨sl',e2⟩:=slot b _ (neL b o e) hb (neC b o e hx) e1 (I.base.free b o e n hx)
  exact ⟨sl',e2⟩
 ·obtain ⟨o',e1⟩:=I.base.there b o e hx
  exact free b o' (neC b o e hx) e1 (I.base.free b o e n hx)
 ·obtain ⟨o',e1⟩:=I.base.there b o e hx
  exact there b o' (neC b o e hx) e1
 ·obtain ⟨m1,e1⟩:=I.base.tbls b ps e
  obtain ⟨m2,e2⟩:=tbls b _ e1
  exact ⟨m1 ++ m2,by rw [e2,Array.append_assoc]⟩
 ·obtain ⟨m,hn,hl⟩:=I.loc
  refine ⟨m,ns m hn,fun i x v e1 e2 e3=>?_⟩
  obtain ⟨u,r,l⟩:=hl i x v e1 e2 e3
  refine ⟨u,r,?_⟩
  rcases l with l | ⟨k,c,e,z⟩
  ·exact .inl l
  ·exact .inr ⟨k,c,e,cellK x c e _ z⟩
 ·obtain ⟨v,z⟩:=I.cell x c e
  exact ⟨v,cellK x c e v z⟩
 ·obtain ⟨m,⟨o,_,_,ho,_⟩,_⟩:=I.loc
  exact free _ o (fun z=>(hch _ z).2.1 rfl) ho I.free
 ·obtain ⟨v,o,ho,hd⟩:=I.cell x c e
  exact free c o (fun z=>(hch c z).2.2.1 x c e rfl) ho (I.freeC x c e)
 ·obtain ⟨e,n,ne,nf,d⟩:=I.pin p hp
  have nch:p.1 ∉ ch:=fun z=>(hch p.1 z).2.2.2 p hp rfl
  exact ⟨keep p.1 p.2 ne nf nch e n,free p.1 p.2 nch e n,ne,nf,d⟩
theorem Inv.un {t':Nat} (I:Inv X pins σ H s) (u:Un X.fs [] H H' s.heap h') (hok:HOk X.prog X.w H' h'):Inv X pins σ H' { s with heap:=h',toks:=t' }:=by
 obtain ⟨m,⟨o,es,ep,ho,r⟩,_⟩:=id I.loc
 obtain ⟨sl,hL⟩:=u.any ho I.free (by simp)
 exact I.step (g':=s.gens) (d':=s.drawn) (ch:=[]) (fun _ z=>nomatch z) (fun b o _ hb _ e n=>u.keep b o e n hb (by simp)) (fun b o _ hb _ e n=>u.slot b o e n hb (by simp)) (fun b o _ e n=>u.free b o e n (by simp)) (fun b o _ e=>u.there b o e (by simp)) u.tups u.frzs u.tbls (fun m' hm=>by
  obtain ⟨o',es',ep',ho',r'⟩:=hm
  rw [ho] at ho'; cases ho'
  exact ⟨_,es',ep',hL,r'⟩) hok I.bare
theorem Inv.call {g':Array GenState} {t':Nat} {d':Drawn} {ch:List Addr} (I:Inv X pins σ H s) (u:Un (frs X.stack) ch H H' s.heap h') (hok:HOk X.prog X.w H' h') (hg:AllBare g')
  (hch:∀ b ∈ ch,(b ∈ X.ex ∨ X.s₀.heap.objs.size ≤ b) ∧ b ≠ X.env.locals ∧ (∀ x c,X.env.cells.lookup x = some c → c ≠ b) ∧ ∀ p ∈ X.pn ++ pins,p.1 ≠ b):
  Inv X pins σ H' { s with heap:=h',gens:=g',drawn:=d',toks:=t' }:=by
 obtain ⟨m,⟨o,es,ep,ho,r⟩,_⟩:=id I.loc
 obtain ⟨sl,hL⟩:=u.any ho I.free fun z=>(hch _ z).2.1 rfl
 exact I.step (ch:=ch) hch (fun b o hL hb hc e n=>u.keep b o e n (fun z=>(List.mem_cons.mp (I.stkSub b z)).elim hL hb) hc) (fun b o _ _ hc e n=>u.any e n hc) (fun b o hc e n=>u.free b o e n hc) (fun b o hc e=>u.there b o e hc) u.tups u.frzs u.tbls (fun m' hm=>by
  obtain ⟨o',es',ep',ho',r'⟩:=hm
  rw [ho] at ho'; cases ho'
  exact ⟨_,es',ep',hL,r'⟩) hok hg
theorem Inv.turned {t':Nat} {it:Addr} (I:Inv X pins σ H s) (k:∀ b o,b ≠ it → s.heap.get? b = some o → h'.get? b = some o) (hn:H it = none) (hL:it ≠ X.env.locals)
  (h1:it ∈ X.ex ∨ X.s₀.heap.objs.size ≤ it) (h2:∀ x c,X.env.cells.lookup x = some c → c ≠ it) (h3:∀ p ∈ X.pn ++ pins,p.1 ≠ it):Inv X pins σ H { s with heap:=h',toks:=t' }:=by
 have nit:∀ b u,H b = some u → b ≠ it:=fun b u e z=>by rw [z,hn] at e; cases e
 refine I.step (g':=s.gens) (d':=s.drawn) (ch:=[it]) (fun b hb=>?_) (fun b o _ _ hc e _=>k b o (fun z=>hc (by simp [z])) e) (fun b o _ _ hc e _=>⟨o.slots,k b o (fun z=>hc (by simp [z])) e⟩) (fun _ _ _ _ n=>n)
  (fun b o hc e=>⟨o,k b o (fun z=>hc (by simp [z])) e⟩) (fun _ _ e=>e) (fun _ _ _ e=>e) (fun b ps e=>⟨#[],by rw [e]; simp⟩) (fun m hm=>?_) (fun b u e=>?_) I.bare
 ·have e:b = it:=by simpa using hb
  subst e
  exact ⟨h1,hL,h2,h3⟩
 ·obtain ⟨o,es,ep,ho,r⟩:=hm
  exact ⟨o,es,ep,k _ o (Ne.symm hL) ho,r⟩
 ·refine (I.hok b u e).stay (fun c v hc q=>k c v ?_ q) (fun _ q=>q) fun _ _ q=>q
  rcases hc with z | z
  ·rw [z]; exact nit b u e
  ·exact nit c _ z
theorem Inv.tok (I:Inv X pins σ H s) (t:Nat):Inv X pins σ H { s with toks:=t }:=I.un (h':=s.heap) (t':=t) Un.refl I.hok
theorem Inv.kept {t':Nat} (I:Inv X pins σ H s) (k:∀ b u,s.heap.get? b = some u → h'.get? b = some u):Inv X pins σ H { s with heap:=h',toks:=t' }:=I.un (Un.kept k) (I.hok.kept k)
theorem Inv.laid {a:Addr} {o:HO} {t':Nat} (I:Inv X pins σ H s) (k:∀ b u,s.heap.get? b = some u → h'.get? b = some u) (hp:s.heap.objs.size ≤ a) (new:ZbU X.prog X.w (upd H a o) h' a o):
  Inv X pins σ (upd H a o) { s with heap:=h',toks:=t' }:=I.un (Un.laid k hp (I.hok.fresh hp)) (I.hok.laid k hp new)
theorem Inv.write {x e:Addr} {o:HO} {t':Nat} (I:Inv X pins σ H s) (mu:Mut (H x)) (he:e = x ∨ H e = some (.own x)) (k:∀ b u,b ≠ e → s.heap.get? b = some u → h'.get? b = some u) (heo:∃ u,h'.get? e = some u)
  (new:ZbU X.prog X.w (upd H x o) h' x o):Inv X pins σ (upd H x o) { s with heap:=h',toks:=t' }:=I.un (Un.write mu he k heo) (I.hok.write mu he k heo new)
theorem Inv.pins_of {pins':List (Addr × Obj)} (I:Inv X pins σ H s) (h:∀ p ∈ pins',s.heap.get? p.1 = some p.2 ∧ H p.1 = none ∧ p.1 ≠ X.env.locals ∧ p.1 ∉ X.fs ∧ ∀ v,p.2.data ≠ .cell v):Inv X pins' σ H s:=
 ⟨I.ok,I.os,I.bare,I.base,I.loc,I.cell,I.free,I.freeC,fun p hp=>(List.mem_append.mp hp).elim (fun z=>I.pin p (List.mem_append_left _ z)) (h p),I.hok,I.len⟩
theorem ZkH {N:List Str} (hN:N.Nodup) {i j:Nat} {x:Str} (a:N[i]? = some x) (b:N[j]? = some x):i = j:=by
 obtain ⟨h1,e1⟩:=List.getElem?_eq_some_iff.mp a
 obtain ⟨h2,e2⟩:=List.getElem?_eq_some_iff.mp b
 exact (List.getElem_inj hN).mp (e1.trans e2.symm)
theorem ZiO {M:Model} {A:Around} {E:Value → Shared → Prop} {i:Nat} {x:Str} {v:V} {u:Value} {Q:Unit → Shared → Prop} (I:Inv X pins σ H s) (hN:X.N.Nodup) (hi:X.N[i]? = some x) (hx:Loc X.env.scope x) (r:RelV v u)
  (h:∀ s',Inv X pins (σ.set i (some v)) H s' → (∃ a,Heap.SameBut a s.heap s'.heap ∧ (a = X.env.locals ∨ X.env.cells.lookup x = some a)) → Q () s') (hf:X.fn x = true ∨ X.env.scope.names.lookup x = some .local:=by first | exact .inl rfl | exact .inr rfl | assumption):wpAny M A (storeName X.env x u) Q E s:=by
 obtain ⟨m,hn,hl⟩:=id I.loc
 have hcls:(X.env.scope.kind == .class || (X.env.scope.kind == .module && X.env.locals != X.env.globals)) = false:=by rw [I.ok.kind]; rfl
 have hiσ:i < σ.length:=by rw [I.len]; exact (List.getElem?_eq_some_iff.mp hi).1
 have cne:=I.cne
 have tracked:∀ {a:Addr} {h':Heap},(∃ o,s.heap.get? a = some o ∧ H a = none) → Heap.SameBut a s.heap h' → HOk X.prog X.w H h':=fun {a h'} ha hs b ob e=>by
  obtain ⟨_,_,hfree⟩:=ha
  refine (I.hok b ob e).stay (fun c w' hc q=>(hs.2 c ?_).trans q) (fun _ q=>q) fun _ _ q=>q
  rintro rfl
  rcases hc with rfl | hc
  ·rw [hfree] at e; cases e
  ·rw [hfree] at hc; cases hc
 rcases hx with hk | hk
 ·refine wpAny_storeName_local hk hn (fun h' hn' hs=>?_) hcls
  obtain ⟨oL,_,_,hoL,_⟩:=id hn
  refine h _ ⟨I.ok,I.os,I.bare,⟨fun b o e n hb hx=>?_,fun b o e n hb hx=>?_,I.base.free,fun b o e hx=>?_,I.base.tups,I.base.frzs,I.base.tbls⟩,⟨_,hn',fun j y v' e1 e2 e3=>?_⟩,fun y c e=>?_,I.free,I.freeC,fun p hp=>?_,tracked ⟨oL,hoL,I.free⟩ hs,by simpa using I.len⟩ ⟨_,hs,.inl rfl⟩
  ·exact (hs.2 b (Nat.ne_of_lt (Nat.lt_of_lt_of_le (Heap.lt_size e) I.ok.above))).trans (I.base.keep b o e n hb hx)
  ·obtain ⟨sl,e1⟩:=I.base.slot b o e n hb hx
   exact ⟨sl,(hs.2 b (Nat.ne_of_lt (Nat.lt_of_lt_of_le (Heap.lt_size e) I.ok.above))).trans e1⟩
  ·obtain ⟨o',e1⟩:=I.base.there b o e hx
   exact ⟨o',(hs.2 b (Nat.ne_of_lt (Nat.lt_of_lt_of_le (Heap.lt_size e) I.ok.above))).trans e1⟩
  ·by_cases hj:j = i
   ·subst hj
    rw [hi] at e1; cases e1
    rw [List.getElem?_set_self hiσ] at e2
    cases e2
    exact ⟨u,r,.inl ⟨hk,by simp⟩⟩
   ·rw [List.getElem?_set_ne (Ne.symm hj)] at e2
    obtain ⟨u',r',q⟩:=hl j y v' e1 e2 e3
    refine ⟨u',r',?_⟩
    rcases q with ⟨k,e⟩ | ⟨k,c,e,z⟩
    ·refine .inl ⟨k,?_⟩
     have:y ≠ x:=fun e=>hj (ZkH hN e1 (e ▸ hi))
     simp [this,e]
    ·exact .inr ⟨k,c,e,z.sameBut hs (cne y c e)⟩
  ·obtain ⟨w',z⟩:=I.cell y c e
   exact ⟨w',z.sameBut hs (cne y c e)⟩
  ·obtain ⟨e,n,ne,nf,d⟩:=I.pin p hp
   exact ⟨(hs.2 p.1 ne).trans e,n,ne,nf,d⟩
 ·have hfn:X.fn x = true:=by
   rcases hf with z | z
   ·exact z
   ·rw [z] at hk; cases hk
  obtain ⟨c,hc⟩:=I.ok.has x (.inl hk)
  obtain ⟨w',z⟩:=I.cell x c hc
  refine wpAny_storeName_cell I.ok.kind hk hc z (fun h' hc' hs=>?_)
  obtain ⟨oc,hoc,hocd⟩:=id z
  refine h { s with heap:=h' } ⟨I.ok,I.os,I.bare,⟨fun b o e n hb hx=>?_,fun b o e n hb hx=>?_,I.base.free,fun b o e hx=>?_,I.base.tups,I.base.frzs,I.base.tbls⟩,⟨m,hn.sameBut hs (Ne.symm (cne x c hc)),fun j y v' e1 e2 e3=>?_⟩,fun y c' e=>?_,I.free,I.freeC,fun p hp=>?_,tracked ⟨oc,hoc,I.freeC x c hc⟩ hs,by simpa using I.len⟩ ⟨c,hs,.inr hc⟩
  ·exact (hs.2 b (Nat.ne_of_lt (Nat.lt_of_lt_of_le (Heap.lt_size e) (I.ok.cab x c hfn hc)))).trans (I.base.keep b o e n hb hx)
  ·obtain ⟨sl,e1⟩:=I.base.slot b o e n hb hx
   exact ⟨sl,(hs.2 b (Nat.ne_of_lt (Nat.lt_of_lt_of_le (Heap.lt_size e) (I.ok.cab x c hfn hc)))).trans e1⟩
  ·obtain ⟨o',e1⟩:=I.base.there b o e hx
   exact ⟨o',(hs.2 b (Nat.ne_of_lt (Nat.lt_of_lt_of_le (Heap.lt_size e) (I.ok.cab x c hfn hc)))).trans e1⟩
  ·by_cases hj:j = i
   ·subst hj
    rw [hi] at e1; cases e1
    rw [List.getElem?_set_self hiσ] at e2
    cases e2
    exact ⟨u,r,.inr ⟨.inl hk,c,hc,hc'⟩⟩
   ·rw [List.getElem?_set_ne (Ne.symm hj)] at e2
    obtain ⟨u',r',q⟩:=hl j y v' e1 e2 e3
    refine ⟨u',r',?_⟩
    rcases q with q | ⟨k,c',e,z'⟩
    ·exact .inl q
    ·refine .inr ⟨k,c',e,z'.sameBut hs ?_⟩
     rintro rfl
     exact hj (ZkH hN e1 (I.ok.inj _ _ _ e hc ▸ hi))
  ·by_cases hcc:c' = c
   ·subst hcc; exact ⟨_,hc'⟩
   ·obtain ⟨w2,z2⟩:=I.cell y c' e
    exact ⟨w2,z2.sameBut hs hcc⟩
  ·obtain ⟨e,n,ne,nf,d⟩:=I.pin p hp
   refine ⟨(hs.2 p.1 ?_).trans e,n,ne,nf,d⟩
   intro q
   rw [q,hoc] at e
   have q':oc = p.2:=Option.some.inj e
   exact d w' (by rw [← q']; exact hocd)
theorem Zkw {M:Model} {A:Around} {E:Value → Shared → Prop} {i:Nat} {x:Str} {v:V} {u:Value} {Q:Unit → Shared → Prop} (I:Inv X pins σ H s) (hN:X.N.Nodup) (hi:X.N[i]? = some x) (hx:Loc X.env.scope x) (r:RelV v u)
  (h:∀ s',Inv X pins (σ.set i (some v)) H s' → Q () s') (hf:X.fn x = true ∨ X.env.scope.names.lookup x = some .local:=by first | exact .inl rfl | exact .inr rfl | assumption):wpAny M A (storeName X.env x u) Q E s:=
 ZiO I hN hi hx r (fun s' I' _=>h s' I') hf
theorem Inv.call' {s':Shared} {ch:List Addr} (I:Inv X pins σ H s) (ho:s'.os = s.os) (u:Un (frs X.stack) ch H H' s.heap s'.heap) (hok:HOk X.prog X.w H' s'.heap) (hg:AllBare s'.gens)
  (hch:∀ b ∈ ch,(b ∈ X.ex ∨ X.s₀.heap.objs.size ≤ b) ∧ b ≠ X.env.locals ∧ (∀ x c,X.env.cells.lookup x = some c → c ≠ b) ∧ ∀ p ∈ X.pn ++ pins,p.1 ≠ b):Inv X pins σ H' s':=by
 obtain ⟨h',g',d',t',o'⟩:=s'
 have e:o' = s.os:=ho
 subst e
 exact I.call (g':=g') (t':=t') (d':=d') u hok hg hch
end
noncomputable abbrev XK:=Value → Option Addr → Hp → Prop
noncomputable abbrev St:=List (Option V)
noncomputable abbrev VK:=V → Hp → Prop
noncomputable abbrev TE:=St → Hp → VK → Prop
noncomputable abbrev TT:=St → Hp → (Bool → Hp → Prop) → Prop
noncomputable abbrev TA:=St → Hp → (List V → Hp → Prop) → Prop
structure Ends where
 nx:St → Hp → Prop
 rt:VK
 bk:St → Hp → Prop:=fun _ _=>False
 ct:St → Hp → Prop:=fun _ _=>False
noncomputable abbrev TS:=Ends → St → Hp → Prop
inductive EP (X:Cx) (pins:List (Addr × Obj)) (σ:St) (Q:VK) (u:Value) (s':Shared):Prop where
 | mk (v:V) (H':Hp) (I:Inv X pins σ H' s') (r:RelV v u) (q:Q v H'):EP X pins σ Q u s'
inductive TP (X:Cx) (pins:List (Addr × Obj)) (σ:St) (Q:Bool → Hp → Prop) (b:Bool) (s':Shared):Prop where
 | mk (H':Hp) (I:Inv X pins σ H' s') (q:Q b H'):TP X pins σ Q b s'
inductive AP (X:Cx) (pins:List (Addr × Obj)) (σ:St) (Q:List V → Hp → Prop) (us:List Value) (s':Shared):Prop where
 | mk (vs:List V) (H':Hp) (I:Inv X pins σ H' s') (r:Vals vs us) (q:Q vs H'):AP X pins σ Q us s'
def SP (X:Cx) (pins:List (Addr × Obj)) (D:Ends) (f:Flow) (s':Shared):Prop:=
 match f with
 | .next=>∃ σ' H',Inv X pins σ' H' s' ∧ D.nx σ' H'
 | .brk=>∃ σ' H',Inv X pins σ' H' s' ∧ D.bk σ' H'
 | .cont=>∃ σ' H',Inv X pins σ' H' s' ∧ D.ct σ' H'
 | .ret u=>∃ v σ' H',Inv X pins σ' H' s' ∧ RelV v u ∧ D.rt v H'
def PE (X:Cx) (e:Expr) (t:TE):Prop:=
 ∀ (pins:List (Addr × Obj)) (s:Shared) (σ:St) (H:Hp) (Q:VK),Inv X pins σ H s → t σ H Q → wpAny (model X.prog X.w) X.A (eval e X.env) (EP X pins σ Q) X.xe s
def PT (X:Cx) (e:Expr) (t:TT):Prop:=
 ∀ (pins:List (Addr × Obj)) (s:Shared) (σ:St) (H:Hp) (Q:Bool → Hp → Prop),Inv X pins σ H s → t σ H Q → wpAny (model X.prog X.w) X.A (isTrue e X.env (eval e X.env)) (TP X pins σ Q) X.xe s
def PW (X:Cx) (e:Expr) (t:TT):Prop:=
 ∀ (whole:Sem Value) (pins:List (Addr × Obj)) (s:Shared) (σ:St) (H:Hp) (Q:Bool → Hp → Prop),Inv X pins σ H s → t σ H Q → wpAny (model X.prog X.w) X.A (isTrue e X.env whole) (TP X pins σ Q) X.xe s
theorem PW.pt {X:Cx} {e:Expr} {t:TT} (h:PW X e t):PT X e t:=h _
def PA (X:Cx) (es:List Expr) (t:TA):Prop:=
 ∀ (pos:Pos) (pins:List (Addr × Obj)) (s:Shared) (σ:St) (H:Hp) (Q:List V → Hp → Prop),Inv X pins σ H s → t σ H Q → wpAny (model X.prog X.w) X.A (spliced (backTo pos (starEach es X.env))) (AP X pins σ Q) X.xe s
def PS (X:Cx) (st:Stmt) (t:TS):Prop:=
 ∀ (pins:List (Addr × Obj)) (s:Shared) (σ:St) (H:Hp) (D:Ends),Inv X pins σ H s → t D σ H → wpAny (model X.prog X.w) X.A (exec st X.env) (SP X pins D) X.xe s
def PSs (X:Cx) (st:List Stmt) (t:TS):Prop:=
 ∀ (pins:List (Addr × Obj)) (s:Shared) (σ:St) (H:Hp) (D:Ends),Inv X pins σ H s → t D σ H → wpAny (model X.prog X.w) X.A (execs st X.env) (SP X pins D) X.xe s
theorem thn {α:Type} {t:Sem α} {Q Q':α → Shared → Prop} {M:Model} {A:Around} {E:Value → Shared → Prop} {s:Shared} (h:wpAny M A t Q E s) (hQ:∀ a s,Q a s → Q' a s):wpAny M A t Q' E s:=wpAny_mono h hQ fun _ _ x=>x
end L2
namespace L2
open PySem PySem.Spec PyProof.Rows
section
variable {X:Cx}
def ZvJ (i:Nat):TE:=fun σ H Q=>∃ v,σ[i]? = some (some v) ∧ Q v H
def tC (v:V):TE:=fun _ H Q=>Q v H
theorem ZsH {i:Nat} {x:Str} {pos:Pos} (hN:X.N[i]? = some x) (hv:Vis X.env.scope x) (hd:(x == ("__debug__":Str)) = false:=by decide) (hcd:(x == ("__classdict__":Str)) = false:=by decide):PE X (.Name x pos) (ZvJ i):=by
 intro pins s σ H Q I h
 obtain ⟨v,e,h⟩:=h
 obtain ⟨m,hn,hl⟩:=I.loc
 obtain ⟨u,r,l⟩:=hl i x v hN e hv
 have fin:EP X pins σ Q u s:=⟨v,H,I,r,h⟩
 rcases l with ⟨hk,hm⟩ | ⟨hk,c,hc,hcell⟩
 ·exact wpAny_Name (wpAny_loadName_local I.ok.kind hk hn hm fin) hd
 ·rcases hk with hk | hk
  ·exact wpAny_Name (wpAny_loadName_cell I.ok.kind hk hc hcell fin) hd
  ·exact wpAny_Name (wpAny_loadName_free I.ok.kind hk hc hcell fin hcd) hd
theorem Zru {i j pos}:PE X (.Constant (.int i) j pos) (tC (.int i)):=fun _ _ _ H _ I h=>wpAny_Constant_int ⟨.int i,H,I.tok _,⟨_,rfl⟩,h⟩
theorem Zul {b j pos}:PE X (.Constant (.bool b) j pos) (tC (.bl b)):=fun _ _ _ H _ I h=>Constant_bool ⟨.bl b,H,I,rfl,h⟩
theorem Zs6 {j pos}:PE X (.Constant .none j pos) (tC .non):=fun _ _ _ H _ I h=>Constant_none ⟨.non,H,I,rfl,h⟩
theorem Zrz {x j pos}:PE X (.Constant (.str x) j pos) (tC (.str x)):=fun _ _ _ H _ I h=>Calls.Constant_str ⟨.str x,H,I.tok _,⟨_,rfl⟩,h⟩
def Gl (X:Cx) (x:Str):Prop:=X.env.kindOf x = some .globalImplicit
theorem ZmA {E:Value → Shared → Prop} {pins:List (Addr × Obj)} {s:Shared} {σ:St} {H:Hp} {x:Str} {u:Value} {pos:Pos} {Q:Value → Shared → Prop} (I:Inv X pins σ H s) (hg:Gl X x) (hm:X.mg x = some u) (h:Q u s)
  (hd:(x == ("__debug__":Str)) = false:=by decide):wpAny (model X.prog X.w) X.A (eval (.Name x pos) X.env) Q E s:=
 Calls.Name_function_global I.ok.kind hg (Calls.loadGlobal_global (by rw [I.ok.glob]; exact I.mod.glob.keeps I.bk) hm h) hd
theorem ZhT {E:Value → Shared → Prop} {pins:List (Addr × Obj)} {s:Shared} {σ:St} {H:Hp} {x:Str} {u:Value} {pos:Pos} {Q:Value → Shared → Prop} (I:Inv X pins σ H s) (hg:Gl X x) (hm:X.mg x = none) (hv:bootBuiltins x = some u) (h:Q u s)
  (hn:x ≠ "__name__":=by decide) (hd:(x == ("__debug__":Str)) = false:=by decide):wpAny (model X.prog X.w) X.A (eval (.Name x pos) X.env) Q E s:=by
 obtain ⟨mb,h1,h2⟩:=I.mod.blt
 exact Calls.Name_function_global I.ok.kind hg (Calls.loadGlobal_builtin (by rw [I.ok.glob]; exact I.mod.glob.keeps I.bk) hm (by rw [I.ok.blt]; exact h1.keeps I.bk) ((h2 x hn).trans hv) h) hd
theorem Zmc {x:Str} {v:V} {u:Value} {pos:Pos} (hg:Gl X x) (hm:X.mg x = some u) (r:RelV v u) (hd:(x == ("__debug__":Str)) = false:=by decide):PE X (.Name x pos) (tC v):=
 fun _ _ _ H _ I h=>ZmA I hg hm ⟨v,H,I,r,h⟩ hd
theorem Zqi {x:Str} {v:V} {u:Value} {pos:Pos} (hg:Gl X x) (hm:X.mg x = none) (hv:bootBuiltins x = some u) (r:RelV v u) (hn:x ≠ "__name__":=by decide) (hd:(x == ("__debug__":Str)) = false:=by decide):PE X (.Name x pos) (tC v):=
 fun _ _ _ H _ I h=>ZhT I hg hm hv ⟨v,H,I,r,h⟩ hn hd
variable {a b:Expr} {ta tb:TE} {pos:Pos}
def tB (t:TE):TT:=fun σ H Q=>t σ H fun x H1=>∃ c,x = .bl c ∧ Q c H1
theorem ZsM {e:Expr} {t:TE} (h:PE X e t) (he:∀ whole,isTrue e X.env whole = (do let v ← whole; standAt e.pos; holding [v] (truthy v)):=by intro _; rfl):PT X e (tB t):=by
 intro pins s σ H Q I hw
 refine isTrue_plain (thn (h pins s σ H _ I hw) fun v s1 zz1=>?_) (he _)
 obtain ⟨x,H1,I1,r1,q1⟩:=zz1
 obtain ⟨d,rfl,q⟩:=q1
 cases r1
 exact wpAny_truthy_bool ⟨H1,I1,q⟩
variable {tA tB':TT} {rest:List Expr}
def Zwe (t u:TT):TT:=fun σ H Q=>t σ H fun c H1=>if c = true then u σ H1 Q else Q false H1
def tOr (t u:TT):TT:=fun σ H Q=>t σ H fun c H1=>if c = true then Q true H1 else u σ H1 Q
def Zvq (t:TT):TT:=fun σ H Q=>t σ H fun c H1=>Q (!c) H1
theorem ZqN (ha:PT X a tA):PW X (.BoolOp .And [a] pos) tA:=by
 intro wh pins s σ H Q I h
 refine isTrue_and (thn (ha pins s σ H Q I h) fun c s1 e=>?_)
 cases c with
 | true=>exact isTrue_and_nil e
 | false=>exact e
theorem ZsK (ha:PT X a tA):PW X (.BoolOp .Or [a] pos) tA:=by
 intro wh pins s σ H Q I h
 refine isTrue_or (thn (ha pins s σ H Q I h) fun c s1 e=>?_)
 cases c with
 | false=>exact isTrue_or_nil e
 | true=>exact e
theorem ZrY (ha:PT X a tA) (hb:PW X (.BoolOp .And (b :: rest) pos) tB'):PW X (.BoolOp .And (a :: b :: rest) pos) (Zwe tA tB'):=by
 intro wh pins s σ H Q I h
 refine isTrue_and (thn (ha pins s σ H _ I h) fun c s1 zz1=>?_)
 obtain ⟨H1,I1,q1⟩:=zz1
 cases c with
 | true=>exact hb wh pins s1 σ H1 Q I1 q1
 | false=>exact ⟨H1,I1,q1⟩
theorem ZtK (ha:PT X a tA) (hb:PW X (.BoolOp .Or (b :: rest) pos) tB'):PW X (.BoolOp .Or (a :: b :: rest) pos) (tOr tA tB'):=by
 intro wh pins s σ H Q I h
 refine isTrue_or (thn (ha pins s σ H _ I h) fun c s1 zz1=>?_)
 obtain ⟨H1,I1,q1⟩:=zz1
 cases c with
 | true=>exact ⟨H1,I1,q1⟩
 | false=>exact hb wh pins s1 σ H1 Q I1 q1
theorem Zsk (ha:PT X a tA):PT X (.UnaryOp .Not a pos) (Zvq tA):=by
 intro pins s σ H Q I h
 exact isTrue_not (thn (ha pins s σ H (fun c H1=>Q (!c) H1) I h) fun c s' ⟨H',I',q⟩=>⟨H',I',q⟩)
def tIf (t:TT) (ta tb:TE):TE:=fun σ H Q=>t σ H fun c H1=>if c = true then ta σ H1 Q else tb σ H1 Q
theorem ZoR {c:Expr} (hc:PT X c tA) (ha:PE X a ta) (hb:PE X b tb):PE X (.IfExp c a b pos) (tIf tA ta tb):=by
 intro pins s σ H Q I h
 refine wpAny_IfExp (thn (hc pins s σ H _ I h) fun d s1 zz1=>?_)
 obtain ⟨H1,I1,q1⟩:=zz1
 cases d with
 | true=>exact ha pins s1 σ H1 Q I1 q1
 | false=>exact hb pins s1 σ H1 Q I1 q1
end
end L2
namespace L2
open PySem PySem.Spec PyProof.Rows
def SqL (K:PySem.W.Frag) (H:Hp) (a:Addr) (xs:List V):Prop:=
 Rd H a (.lst xs) ∨
  ∃ (o:Obj) (its:Array Value) (n:Nat),K.lookup a = some o ∧ o.cls = .type "list" ∧ o.dict = none ∧ o.data = .seq its n ∧ its.size ≤ sizeLine ∧ Vals xs its.toList
def SqT (K:PySem.W.Frag) (H:Hp) (a:Addr) (xs:List V):Prop:=
 Rd H a (.tup xs) ∨
  ∃ (o:Obj) (its:Array Value) (n:Nat),K.lookup a = some o ∧ (o.cls = .type "tuple" ∧ o.dict = none) ∧ o.data = .seq its n ∧ its.size ≤ sizeLine ∧ Vals xs its.toList
noncomputable def Zv6:Value → Option V
 | .none=>some .non
 | .bool b=>some (.bl b)
 | .int i _=>some (.int i)
 | .str x _=>some (.str x)
 | .bytes b _=>some (.byt b)
 | .float b _=>some (.flt b)
 | .ref a=>some (.ref a)
 | .type n=>some (.ty n)
 | _=>none
theorem RelV.abs {x:V} {u:Value} (r:RelV x u):Zv6 u = some x:=by
 cases x with
 | non=>cases r; rfl
 | bl _=>cases r; rfl
 | int _=>obtain ⟨t,rfl⟩:=r; rfl
 | str _=>obtain ⟨t,rfl⟩:=r; rfl
 | byt _=>obtain ⟨t,rfl⟩:=r; rfl
 | flt _=>obtain ⟨t,rfl⟩:=r; rfl
 | ref _=>cases r; rfl
 | ty _=>cases r; rfl
theorem RelV.inj {x y:V} {u:Value} (r:RelV x u) (q:RelV y u):x = y:=Option.some.inj (r.abs.symm.trans q.abs)
theorem Vals.inj:∀ {xs ys:List V} {us:List Value},Vals xs us → Vals ys us → xs = ys
 | _,_,_,.nil,.nil=>rfl
 | _,_,_,.cons r t,.cons r' t'=>by rw [r.inj r',Vals.inj t t']
section
variable {X:Cx} {pins:List (Addr × Obj)} {σ:St} {H:Hp} {s:Shared} {a:Addr} {xs ys:List V}
theorem SqL.of {K:PySem.W.Frag} (h:H a = some (.lst xs)):SqL K H a xs:=.inl (.inl h)
theorem SqT.of {K:PySem.W.Frag} (h:H a = some (.tup xs)):SqT K H a xs:=.inl (.inl h)
theorem Inv.list (I:Inv X pins σ H s) (h:SqL X.K H a xs):∃ its:List Value,Vals xs its ∧ PlainL s.heap a its.toArray ∧ xs.length ≤ sizeLine:=by
 rcases h with h | ⟨o,its,n,hk,hc,hd,hs,hz,r⟩
 ·obtain ⟨z,its,n,r,e⟩:=h.ok I.hok
  exact ⟨its,r,⟨_,n,e,rfl,rfl,rfl⟩,z⟩
 ·refine ⟨its.toList,r,⟨o,n,I.kIn a o hk,hc,hd,by simpa using hs⟩,?_⟩
  have e:=r.length
  simp only [Array.length_toList] at e
  exact lC 2 2199576973345 T1 e hz
theorem Inv.tuple (I:Inv X pins σ H s) (h:SqT X.K H a xs):∃ its:List Value,Vals xs its ∧ IsTup s.heap a its.toArray ∧ xs.length ≤ sizeLine:=by
 rcases h with h | ⟨o,its,n,hk,hc,hs,hz,r⟩
 ·obtain ⟨z,its,r,p⟩:=h.ok I.hok
  exact ⟨its,r,p.tup,z⟩
 ·refine ⟨its.toList,r,⟨o,I.kIn a o hk,hc.1,n,by simpa using hs⟩,?_⟩
  have e:=r.length
  simp only [Array.length_toList] at e
  exact lC 2 2199576973345 T1 e hz
theorem Inv.list_inj (I:Inv X pins σ H s) (h:SqL X.K H a xs) (h':SqL X.K H a ys):xs = ys:=by
 obtain ⟨its,r,⟨o,n,e,_,_,d⟩,_⟩:=I.list h
 obtain ⟨its',r',⟨o',n',e',_,_,d'⟩,_⟩:=I.list h'
 rw [e] at e'; cases e'
 rw [d] at d'
 injection d' with d1 _
 have:its = its':=by simpa using congrArg Array.toList d1
 subst this
 exact r.inj r'
theorem Inv.tupleN (I:Inv X pins σ H s) (h:SqT X.K H a xs):∃ its:List Value,Vals xs its ∧ ZeE s.heap a its.toArray ∧ xs.length ≤ sizeLine:=by
 rcases h with h | ⟨o,its,n,hk,hc,hs,hz,r⟩
 ·obtain ⟨z,its,r,p⟩:=h.ok I.hok; exact ⟨its,r,p,z⟩
 ·refine ⟨its.toList,r,⟨o,I.kIn a o hk,hc,n,by simpa using hs⟩,?_⟩; have e:=r.length; simp only [Array.length_toList] at e; exact lC 2 2199576973345 T1 e hz
theorem Inv.tuple_inj (I:Inv X pins σ H s) (h:SqT X.K H a xs) (h':SqT X.K H a ys):xs = ys:=by
 obtain ⟨its,r,⟨o,e,_,n,d⟩,_⟩:=I.tuple h
 obtain ⟨its',r',⟨o',e',_,n',d'⟩,_⟩:=I.tuple h'
 rw [e] at e'; cases e'
 rw [d] at d'
 injection d' with d1 _
 have:its = its':=by simpa using congrArg Array.toList d1
 subst this
 exact r.inj r'
end
noncomputable abbrev Cx.wish (X:Cx) (E:Value → Shared → Prop):Cx:={ X with xe:=E }
noncomputable abbrev Cx.nox (X:Cx):Cx:=X.wish fun _ _=>False
theorem Cx.Ok.wish {X:Cx} (ok:X.Ok) (E:Value → Shared → Prop):(X.wish E).Ok:=
 ⟨ok.mod,ok.kind,ok.glob,ok.blt,ok.above,ok.inj,ok.has,ok.cab,ok.hd,ok.frames,ok.stk,ok.exf,ok.bs,ok.bsz,ok.noex,ok.exfs,ok.funs,ok.frf⟩
theorem Cx.Ok.unwish {X:Cx} {E:Value → Shared → Prop} (ok:(X.wish E).Ok):X.Ok:=
 ⟨ok.mod,ok.kind,ok.glob,ok.blt,ok.above,ok.inj,ok.has,ok.cab,ok.hd,ok.frames,ok.stk,ok.exf,ok.bs,ok.bsz,ok.noex,ok.exfs,ok.funs,ok.frf⟩
section
variable {X:Cx} {pins:List (Addr × Obj)} {σ:St} {H:Hp} {s:Shared} {E:Value → Shared → Prop}
theorem Inv.wish (I:Inv X pins σ H s) (E:Value → Shared → Prop):Inv (X.wish E) pins σ H s:=⟨I.ok.wish E,I.os,I.bare,I.base,I.loc,I.cell,I.free,I.freeC,I.pin,I.hok,I.len⟩
theorem Inv.unwish (I:Inv (X.wish E) pins σ H s):Inv X pins σ H s:=⟨I.ok.unwish,I.os,I.bare,I.base,I.loc,I.cell,I.free,I.freeC,I.pin,I.hok,I.len⟩
theorem SP.unwish {D:Ends} {f:Flow} {s':Shared} (h:SP (X.wish E) pins D f s'):SP X pins D f s':=by
 cases f with
 | next=>obtain ⟨σ',H',I,q⟩:=h; exact ⟨σ',H',I.unwish,q⟩
 | brk=>obtain ⟨σ',H',I,q⟩:=h; exact ⟨σ',H',I.unwish,q⟩
 | cont=>obtain ⟨σ',H',I,q⟩:=h; exact ⟨σ',H',I.unwish,q⟩
 | ret u=>obtain ⟨v,σ',H',I,r,q⟩:=h; exact ⟨v,σ',H',I.unwish,r,q⟩
theorem PSs.nox {st:List Stmt} {t:TS} (h:PSs X.nox st t):PSs X st t:=fun pins s σ H D I hw=>
 wpAny_mono (h pins s σ H D (I.wish _) hw) (fun _ _ q=>q.unwish) fun _ _ z=>False.elim z
end
section
variable {X:Cx} {st:Stmt} {rest:List Stmt} {t u:TS} {e:Expr} {te:TE} {pos:Pos}
def ZuF:TS:=fun D σ H=>D.nx σ H
def ZvN (t u:TS):TS:=fun D σ H=>t { D with nx:=u D } σ H
theorem Zqp:PSs X [] ZuF:=fun _ _ σ H _ I h=>wpAny_execs_nil ⟨σ,H,I,h⟩
theorem Zo3 (h1:PS X st t) (h2:PSs X rest u):PSs X (st :: rest) (ZvN t u):=by
 intro pins s σ H D I h
 refine wpAny_execs_cons (thn (h1 pins s σ H { D with nx:=u D } I h) fun f s1 q=>?_)
 cases f with
 | next=>
  obtain ⟨σ',H',I',q⟩:=q
  exact h2 pins s1 σ' H' D I' q
 | ret v=>exact q
 | brk=>exact q
 | cont=>exact q
theorem ZpM (h1:PS X st t):PSs X [st] t:=by
 intro pins s σ H D I h
 refine wpAny_execs_cons (thn (h1 pins s σ H D I h) fun f s1 q=>?_)
 cases f with
 | next=>exact wpAny_execs_nil q
 | ret v=>exact q
 | brk=>exact q
 | cont=>exact q
theorem Inv.quiet {pins:List (Addr × Obj)} {σ:St} {H:Hp} {s:Shared} (I:Inv X pins σ H s):interactive X.env = false:=by simp [interactive,I.ok.kind]
def Zuj (te:TE):TS:=fun D σ H=>te σ H fun _ H1=>D.nx σ H1
theorem Zqt (he:PE X e te) (hs:swapsWith e none pos.line X.env = pure false:=by rfl):PS X (.Expr e pos) (Zuj te):=by
 intro pins s σ H D I h
 exact wpAny_Expr_any (thn (he pins s σ H _ I h) fun v s1 ⟨x,H1,I1,r1,q1⟩=>⟨σ,H1,I1,q1⟩) I.quiet hs
def Zvp (te:TE):TS:=fun D σ H=>te σ H D.rt
theorem Zsl (he:PE X e te):PS X (.Return (some e) pos) (Zvp te):=by
 intro pins s σ H D I h
 exact wpAny_Return_some (thn (he pins s σ H _ I h) fun v s1 ⟨x,H1,I1,r1,q1⟩=>⟨x,σ,H1,I1,r1,q1⟩)
def Zv9 (c:TT) (t u:TS):TS:=fun D σ H=>c σ H fun b H1=>if b = true then t D σ H1 else u D σ H1
theorem Zut {c:Expr} {a b:List Stmt} {tc:TT} (hc:PT X c tc) (ha:PSs X a t) (hb:PSs X b u):PS X (.If c a b pos) (Zv9 tc t u):=by
 intro pins s σ H D I h
 refine wpAny_If (thn (hc pins s σ H _ I h) fun d s1 zz1=>?_)
 obtain ⟨H1,I1,q1⟩:=zz1
 cases d with
 | true=>exact ha pins s1 σ H1 D I1 q1
 | false=>exact hb pins s1 σ H1 D I1 q1
end
noncomputable abbrev TG:=V → St → Hp → (St → Hp → Prop) → Prop
noncomputable abbrev TGs:=List V → St → Hp → (St → Hp → Prop) → Prop
def PG (X:Cx) (target:Expr) (t:TG):Prop:=
 ∀ (pins:List (Addr × Obj)) (s:Shared) (σ:St) (H:Hp) (v:V) (u:Value) (Q:St → Hp → Prop),Inv X pins σ H s → RelV v u → t v σ H Q →
  wpAny (model X.prog X.w) X.A (assign target X.env u) (fun _ s'=>∃ σ' H',Inv X pins σ' H' s' ∧ Q σ' H') X.xe s
def PGs (X:Cx) (ts:List Expr) (t:TGs):Prop:=
 ∀ (pins:List (Addr × Obj)) (s:Shared) (σ:St) (H:Hp) (vs:List V) (us:List Value) (Q:St → Hp → Prop),Inv X pins σ H s → Vals vs us → t vs σ H Q →
  wpAny (model X.prog X.w) X.A (assignInOrder ((assignEach ts X.env).map (·.2)) us) (fun _ s'=>∃ σ' H',Inv X pins σ' H' s' ∧ Q σ' H') X.xe s
section
variable {X:Cx} {pos:Pos}
def Zro (i:Nat):TG:=fun v σ H Q=>Q (σ.set i (some v)) H
theorem ZmU {i:Nat} {x:Str} (hN:X.N.Nodup) (hi:X.N[i]? = some x) (hx:Loc X.env.scope x) (hf:X.fn x = true ∨ X.env.scope.names.lookup x = some .local:=by first | exact .inl rfl | exact .inr rfl | assumption):PG X (.Name x pos) (Zro i):=by
 intro pins s σ H v u Q I r h
 exact wpAny_assign_Name (Zkw I hN hi hx r (fun s' I'=>⟨_,H,I',h⟩) hf)
def ZvV:TGs:=fun vs σ H Q=>vs = [] ∧ Q σ H
def ZuA (t:TG) (u:TGs):TGs:=fun vs σ H Q=>∃ v r,vs = v :: r ∧ t v σ H fun σ' H'=>u r σ' H' Q
theorem ZpP:PGs X [] ZvV:=by
 intro pins s σ H vs us Q I r h
 obtain ⟨e,h⟩:=h
 subst e
 cases r
 exact assignInOrder_nil ⟨σ,H,I,h⟩
theorem Zoq {e:Expr} {es:List Expr} {t:TG} {u:TGs} (h1:PG X e t) (h2:PGs X es u)
  (hs:(assignEach (e :: es) X.env).map (·.2) = assign e X.env :: (assignEach es X.env).map (·.2):=by rfl):PGs X (e :: es) (ZuA t u):=by
 intro pins s σ H vs us Q I r h
 obtain ⟨v,vr,e1,h⟩:=h
 subst e1
 cases r with
 | cons r rr=>
  rw [hs]
  refine assignInOrder_cons (thn (h1 pins s σ H _ _ _ I r h) fun _ s1 zz1=>?_)
  obtain ⟨σ1,H1,I1,q1⟩:=zz1
  exact h2 pins s1 σ1 H1 _ _ Q I1 rr q1
def Zvz (K:PySem.W.Frag) (n:Nat) (t:TGs):TG:=fun v σ H Q=>∃ a xs,v = .ref a ∧ SqT K H a xs ∧ xs.length = n ∧ t xs σ H Q
theorem ZrC {es:List Expr} {k:Nat} {t:TGs} {n:Nat} (hc:X.calm = true) (h:PGs X es t)
  (hn:(assignEach es X.env).length = n:=by rfl) (hst:(assignEach es X.env).findIdx? (·.1) = none:=by rfl):PG X (.Tuple es k pos) (Zvz X.K n t):=by
 intro pins s σ H v u Q I r hw
 obtain ⟨a,xs,e1,hq,hl,hw⟩:=hw
 subst e1
 cases r
 obtain ⟨its,rv,ht,hz⟩:=I.tuple hq
 refine assign_Tuple_tuple (I.ok.hd hc) ht (by simp [hn,← hl,rv.length]) hst fun h' hx=>?_
 have I1:Inv X pins σ H { s with heap:=h' }:=I.kept (t':=s.toks) fun b o e=>hx b o (Nat.ne_of_lt (Heap.lt_size e)) e
 exact h pins _ σ H xs _ Q I1 (by simpa using rv) hw
def ZvA (te:TE) (g:TG):TS:=fun D σ H=>te σ H fun x H1=>g x σ H1 D.nx
theorem Ztd {i:Nat} {x:Str} {e:Expr} {te:TE} {pos':Pos} (hN:X.N.Nodup) (hi:X.N[i]? = some x) (hx:Loc X.env.scope x) (he:PE X e te) (hs:swapsWith e (some (.Name x pos')) pos.line X.env = pure false:=by rfl) (hf:X.fn x = true ∨ X.env.scope.names.lookup x = some .local:=by first | exact .inl rfl | exact .inr rfl | assumption):
  PS X (.Assign [.Name x pos'] e pos) (ZvA te (Zro i)):=by
 intro pins s σ H D I h
 refine wpAny_Assign_Name (thn (he pins s σ H _ I h) fun v s1 zz1=>?_) hs
 obtain ⟨y,H1,I1,r1,q1⟩:=zz1
 exact Zkw I1 hN hi hx r1 (fun s2 I2=>⟨_,H1,I2,q1⟩) hf
end
section
variable {X:Cx} {pos:Pos}
def ZrU (c:TT) (tb:TS):TS:=fun D σ H=>∃ W:Nat → St → Hp → Prop,(∃ m,W m σ H) ∧ ∀ m σ H,W m σ H →
 c σ H fun b H1=>if b = true then ∃ N:St → Hp → Prop,(∀ σ' H',N σ' H' → ∃ m',m' < m ∧ W m' σ' H') ∧ tb { D with nx:=N,ct:=N,bk:=D.nx } σ H1 else D.nx σ H1
theorem ZnQ {c:Expr} {body:List Stmt} {tc:TT} {tb:TS} (hp:PassesOwn (model X.prog X.w) X.A X.env X.xe) (hc:PT X c tc) (hb:PSs X body tb):PS X (.While c body [] pos) (ZrU tc tb):=by
 intro pins s σ H D I h
 obtain ⟨W,⟨m0,w0⟩,turn⟩:=h
 refine wpAny_While (codeAny_whileLoop (fun n s'=>∃ σ' H',Inv X pins σ' H' s' ∧ W n σ' H') ?_ m0 ⟨σ,H,I,w0⟩)
 rintro n s1 ⟨σ1,H1,I1,w1⟩
 refine wpAny_passesOwn hp (thn (hc pins s1 σ1 H1 _ I1 (turn n σ1 H1 w1)) fun b s2 zz1=>?_)
 obtain ⟨H2,I2,q2⟩:=zz1
 cases b with
 | true=>
  obtain ⟨N,hN,q2⟩:=q2
  rw [if_pos rfl]
  refine wpAny_passesOwn hp (thn (hb pins s2 σ1 H2 _ I2 q2) fun f s3 q3=>?_)
  cases f with
  | next=>
   obtain ⟨σ3,H3,I3,n3⟩:=q3
   obtain ⟨m',hm,w3⟩:=hN σ3 H3 n3
   exact ⟨m',hm,σ3,H3,I3,w3⟩
  | cont=>
   obtain ⟨σ3,H3,I3,n3⟩:=q3
   obtain ⟨m',hm,w3⟩:=hN σ3 H3 n3
   exact ⟨m',hm,σ3,H3,I3,w3⟩
  | brk=>exact q3
  | ret v=>exact q3
 | false=>
  rw [if_neg Bool.false_ne_true]
  exact wpAny_execs_nil ⟨σ1,H2,I2,q2⟩
end
structure It where
 go:Nat → Hp → Prop
 yld:Nat → Hp → V → Hp → Prop
 stop:Nat → Hp → Prop
def ZeC (X:Cx) (pins:List (Addr × Obj)) (H:Hp) (b:Addr):Prop:=
 H b = none ∧ b ≠ X.env.locals ∧ b ∉ X.fs ∧ (b ∈ X.ex ∨ X.s₀.heap.objs.size ≤ b) ∧ (∀ x c,X.env.cells.lookup x = some c → c ≠ b) ∧ ∀ p ∈ X.pn ++ pins,p.1 ≠ b
theorem Inv.fpOk {X:Cx} {pins:List (Addr × Obj)} {σ:St} {H H':Hp} {s:Shared} {b:Addr} (I:Inv X pins σ H s) (hb:s.heap.objs.size ≤ b) (hn:H' b = none):ZeC X pins H' b:=by
 refine ⟨hn,Nat.ne_of_gt (Nat.lt_of_lt_of_le I.lt hb),I.nofs hb,.inr (Nat.le_trans I.sz hb),fun x c e z=>?_,fun p hp z=>?_⟩
 ·obtain ⟨v,q⟩:=I.cell x c e
  exact absurd (Nat.lt_of_lt_of_le q.lt (by rw [z]; exact hb)) (Nat.lt_irrefl _)
 ·exact absurd (Nat.lt_of_lt_of_le (Heap.lt_size (I.pin p hp).1) (by rw [z]; exact hb)) (Nat.lt_irrefl _)
structure Turn (P:Program) (w:World) (K:PySem.W.Frag) (tg:Expr) (J:It) (fp:List Addr) (it:Addr) (tn:Nat → Heap → Prop):Prop where
 mem:it ∈ fp
 obj:∀ i h,tn i h → ∀ b ∈ fp,∃ o,h.get? b = some o ∧ ∀ v,o.data ≠ .cell v
 keep:∀ i h h',tn i h → (∀ b ∈ fp,∀ o,h.get? b = some o → h'.get? b = some o) → tn i h'
 item:∀ (X:Cx),X.prog = P → X.w = w → X.K = K → X.calm = true → ∀ (i:Nat) (pins:List (Addr × Obj)) (s:Shared) (σ:St) (H:Hp) (E:Value → Shared → Prop),Inv X pins σ H s → (∀ b ∈ fp,ZeC X pins H b) → tn i s.heap → J.go i H →
  wpAny (model P w) X.A (pyNext (.ref it)) (fun r s1=>∃ u,r = some u ∧
   wpAny (model P w) X.A (letOwnedTupleGo tg (.ref it) u) (fun _ s2=>∃ x H',Inv X pins σ H' s2 ∧ RelV x u ∧ J.yld i H x H' ∧ tn (i + 1) s2.heap ∧ ∀ b ∈ fp,H' b = none) E s1) E s
 done:∀ (X:Cx),X.prog = P → X.w = w → X.K = K → X.calm = true → ∀ (i:Nat) (pins:List (Addr × Obj)) (s:Shared) (σ:St) (H:Hp) (E:Value → Shared → Prop),Inv X pins σ H s → (∀ b ∈ fp,ZeC X pins H b) → tn i s.heap → J.stop i H →
  wpAny (model P w) X.A (pyNext (.ref it)) (fun r s1=>r = none ∧ Inv X pins σ H s1) E s
 self:∀ (A:Around) (i:Nat) (s:Shared) (Q:Value → Shared → Prop) (E:Value → Shared → Prop),tn i s.heap → Q (.ref it) s → wpAny (model P w) A (pyIter (.ref it)) Q E s
noncomputable abbrev TI:=St → Hp → (It → Hp → Prop) → Prop
def PIE (X:Cx) (pins:List (Addr × Obj)) (σ:St) (tg:Expr) (R:It → Hp → Prop) (itv:Value) (s2:Shared):Prop:=
 ∃ (it:Addr) (fp:List Addr) (tn:Nat → Heap → Prop) (J:It) (H':Hp),itv = .ref it ∧ Inv X pins σ H' s2 ∧ Turn X.prog X.w X.K tg J fp it tn ∧ tn 0 s2.heap ∧ (∀ b ∈ fp,ZeC X pins H' b) ∧ R J H'
def PI (X:Cx) (tg iter:Expr) (wi:TI):Prop:=
 ∀ (pins:List (Addr × Obj)) (s:Shared) (σ:St) (H:Hp) (R:It → Hp → Prop),Inv X pins σ H s → wi σ H R →
  wpAny (model X.prog X.w) X.A (eval iter X.env) (fun v s1=>wpAny (model X.prog X.w) X.A (pyIter v) (PIE X pins σ tg R) X.xe s1) X.xe s
theorem ZmI {M:Model} {A:Around} {E:Value → Shared → Prop} {s:Shared} {tg:Expr} {it:Addr} {u:Value} {o:Obj} {n:String} {vs:Array Value} {Q:Unit → Shared → Prop} (ho:s.heap.get? it = some o) (hc:o.cls = .type n) (hd:o.data = .fields vs)
  (hn:["enumerate","zip","dict_itemiterator","dict_reverseitemiterator","odict_iterator","itertools.zip_longest","itertools.pairwise"].contains n = false) (hQ:Q () s):wpAny M A (letOwnedTupleGo tg (.ref it) u) Q E s:=by
 unfold letOwnedTupleGo
 cases tg <;> first
  | exact wpAny_pure hQ
  | (cases u <;> first
    | exact wpAny_pure hQ
    | (refine wpAny_bind (wpAny_load ho ?_)
       rw [hc,hd]
       show wpAny M A (if (["enumerate","zip","dict_itemiterator","dict_reverseitemiterator","odict_iterator","itertools.zip_longest","itertools.pairwise"].contains n && vs[0]? == some (rawInt _)) = true then _ else _) Q E s
       rw [if_neg (by intro h; rw [hn,Bool.false_and] at h; cases h)]
       exact wpAny_pure hQ))
noncomputable def Itl (K:PySem.W.Frag) (a:Addr):It:=
 ⟨fun i H=>∃ xs x,SqL K H a xs ∧ xs[i]? = some x,fun i H x H'=>H' = H ∧ ∀ xs,SqL K H a xs → xs[i]? = some x,fun i H=>∃ xs,SqL K H a xs ∧ xs.length ≤ i⟩
noncomputable def Itt (K:PySem.W.Frag) (a:Addr):It:=
 ⟨fun i H=>∃ xs x,SqT K H a xs ∧ xs[i]? = some x,fun i H x H'=>H' = H ∧ ∀ xs,SqT K H a xs → xs[i]? = some x,fun i H=>∃ xs,SqT K H a xs ∧ xs.length ≤ i⟩
noncomputable def Itr (lo:Int) (n:Nat):It:=⟨fun i _=>i < n,fun i H x H'=>H' = H ∧ x = .int (lo + i),fun i _=>n ≤ i⟩
theorem Znr {P:Program} {w:World} {K:PySem.W.Frag} {tg:Expr} (a it:Addr):Turn P w K tg (Itl K a) [it] it (fun i h=>h.IsListIter it a i) where
 mem:=by simp
 obj:=fun i h st b hb=>by
  have e:b = it:=by simpa using hb
  subst e
  obtain ⟨o,e,c,d⟩:=st
  exact ⟨o,e,fun v z=>by rw [d] at z; cases z⟩
 keep:=fun i h h' st k=>st.at fun o e=>k it (by simp) o e
 item:=by
  intro X hP hw hK hc i pins s σ H E I hf st hg
  subst hP hw hK
  obtain ⟨xs,x,hq,hx⟩:=hg
  obtain ⟨its,rv,p,hz⟩:=I.list hq
  obtain ⟨u,hu,ru⟩:=rv.get hx
  obtain ⟨f0,f1,f2,f3,f4,f5⟩:=hf it (by simp)
  refine wpAny_pyNext_list_item st p.isList (x:=u) (by simpa using hu) fun h' st' sb=>?_
  have I1:Inv X pins σ H { s with heap:=h' }:=I.turned (t':=s.toks) (fun b o hb e=>(sb.2 b hb).trans e) f0 f1 f3 f4 f5
  obtain ⟨o,e,c,d⟩:=id st'
  exact ⟨u,rfl,ZmI (s:={ s with heap:=h' }) e c d (by decide) ⟨x,H,I1,ru,⟨rfl,fun ys hy=>by rw [I.list_inj hy hq]; exact hx⟩,st',fun b hb=>(hf b hb).1⟩⟩
 done:=by
  intro X hP hw hK hc i pins s σ H E I hf st hg
  subst hP hw hK
  obtain ⟨xs,hq,hx⟩:=hg
  obtain ⟨its,rv,p,hz⟩:=I.list hq
  obtain ⟨f0,f1,f2,f3,f4,f5⟩:=hf it (by simp)
  have hl:=rv.length
  exact wpAny_pyNext_list_end (I.ok.hd hc) st p.isList (by simp; exact lC 2 2268279672881 T1 hl hx) fun h' eb=>⟨rfl,I.turned (t':=s.toks) (fun b o hb e=>eb b o hb e) f0 f1 f3 f4 f5⟩
 self:=fun _ _ _ _ _ st h=>wpAny_pyIter_listiter st h
theorem ZlS {P:Program} {w:World} {K:PySem.W.Frag} {tg:Expr} (a it:Addr):Turn P w K tg (Itt K a) [it] it (fun i h=>h.IsTupleIter it a i) where
 mem:=by simp
 obj:=fun i h st b hb=>by
  have e:b = it:=by simpa using hb
  subst e
  obtain ⟨o,e,c,d⟩:=st
  exact ⟨o,e,fun v z=>by rw [d] at z; cases z⟩
 keep:=fun i h h' st k=>st.at fun o e=>k it (by simp) o e
 item:=by
  intro X hP hw hK hc i pins s σ H E I hf st hg
  subst hP hw hK
  obtain ⟨xs,x,hq,hx⟩:=hg
  obtain ⟨its,rv,p,hz⟩:=I.tuple hq
  obtain ⟨u,hu,ru⟩:=rv.get hx
  obtain ⟨f0,f1,f2,f3,f4,f5⟩:=hf it (by simp)
  refine wpAny_pyNext_tuple_item st (show s.heap.IsTuple a its.toArray from p) (x:=u) (by simpa using hu) fun h' st' sb=>?_
  have I1:Inv X pins σ H { s with heap:=h' }:=I.turned (t':=s.toks) (fun b o hb e=>(sb.2 b hb).trans e) f0 f1 f3 f4 f5
  obtain ⟨o,e,c,d⟩:=id st'
  exact ⟨u,rfl,ZmI (s:={ s with heap:=h' }) e c d (by decide) ⟨x,H,I1,ru,⟨rfl,fun ys hy=>by rw [I.tuple_inj hy hq]; exact hx⟩,st',fun b hb=>(hf b hb).1⟩⟩
 done:=by
  intro X hP hw hK hc i pins s σ H E I hf st hg
  subst hP hw hK
  obtain ⟨xs,hq,hx⟩:=hg
  obtain ⟨its,rv,p,hz⟩:=I.tuple hq
  obtain ⟨f0,f1,f2,f3,f4,f5⟩:=hf it (by simp)
  have hl:=rv.length
  exact wpAny_pyNext_tuple_end (I.ok.hd hc) st (show s.heap.IsTuple a its.toArray from p) (by simp; exact lC 2 2268279672881 T1 hl hx) fun h' eb=>⟨rfl,I.turned (t':=s.toks) (fun b o hb e=>eb b o hb e) f0 f1 f3 f4 f5⟩
 self:=fun _ _ _ _ _ st h=>wpAny_pyIter_tupleiter st h
theorem ZlE {P:Program} {w:World} {K:PySem.W.Frag} {tg:Expr} (it:Addr) (lo:Int) (n:Nat):Turn P w K tg (Itr lo n) [it] it (fun i h=>IsRangeIter h it (lo + (i:Nat) * 1) ((n:Int) - (i:Nat)) 1) where
 mem:=by simp
 obj:=fun i h st b hb=>by
  have e:b = it:=by simpa using hb
  subst e
  exact ⟨_,st,fun v z=>by
   have z':Data.fields _ = Data.cell v:=z
   cases z'⟩
 keep:=fun i h h' st k=>k it (by simp) _ st
 item:=by
  intro X hP hw hK hc i pins s σ H E I hf st hg
  subst hP hw hK
  obtain ⟨f0,f1,f2,f3,f4,f5⟩:=hf it (by simp)
  have W:=Walks.range (prog:=X.prog) (w:=X.w) (I.ok.hd hc) it lo 1 n
  refine W.item i s _ _ hg st fun v h' tk hv st' kk=>?_
  obtain ⟨t,rfl⟩:=hv
  have I1:Inv X pins σ H { s with heap:=h',toks:=tk }:=I.turned (fun b o hb e=>kk b o (by simpa using hb) e) f0 f1 f3 f4 f5
  refine ⟨_,rfl,ZmI (s:={ s with heap:=h',toks:=tk }) (n:="range_iterator") st' rfl rfl (by decide) ⟨.int (lo + i),H,I1,⟨t,?_⟩,⟨rfl,rfl⟩,st',fun b hb=>(hf b hb).1⟩⟩
  rw [Int.mul_one]
 done:=by
  intro X hP hw hK hc i pins s σ H E I hf st hg
  subst hP hw hK
  obtain ⟨f0,f1,f2,f3,f4,f5⟩:=hf it (by simp)
  exact wpAny_pyNext_range_end (I.ok.hd hc) st (by have:n ≤ i:=hg; exact iN [_,_] [] 1 0xe1808f81001 T1 this) fun h' eb=>⟨rfl,I.turned (t':=s.toks) (fun b o hb e=>eb b o hb e) f0 f1 f3 f4 f5⟩
 self:=fun _ _ _ _ _ st h=>wpAny_pyIter_rangeiter st h
end L2
namespace L2
open PySem PySem.Spec PyProof.Rows
section
variable {X:Cx} {tg:Expr}
def Zup (K:PySem.W.Frag) (tl:TE):TI:=fun σ H R=>tl σ H fun x H1=>∃ a,x = .ref a ∧ (∃ xs,SqL K H1 a xs) ∧ R (Itl K a) H1
def Zv3 (K:PySem.W.Frag) (tl:TE):TI:=fun σ H R=>tl σ H fun x H1=>∃ a,x = .ref a ∧ (∃ xs,SqT K H1 a xs) ∧ R (Itt K a) H1
theorem ZqC {l:Expr} {tl:TE} (hl:PE X l tl):PI X tg l (Zup X.K tl):=by
 intro pins s σ H R I h
 refine thn (hl pins s σ H _ I h) fun v s1 zz1=>?_
 obtain ⟨x,H1,I1,r1,q1⟩:=zz1
 obtain ⟨a,e,⟨xs,hq⟩,q⟩:=q1
 subst e
 cases r1
 obtain ⟨its,rv,p,hz⟩:=I1.list hq
 refine wpAny_pyIter_list p.isList ?_
 refine ⟨s1.heap.objs.size,[s1.heap.objs.size],_,_,H1,rfl,I1.kept (t':=s1.toks) fun b o e=>Heap.get?_push_of_some _ e,Znr a _,⟨_,Heap.get?_push_size _ rfl,rfl,rfl⟩,fun b hb=>?_,q⟩
 have e:b = s1.heap.objs.size:=by simpa using hb
 subst e
 exact I1.fpOk (Nat.le_refl _) (I1.hok.fresh (Nat.le_refl _))
theorem Ztn {l:Expr} {tl:TE} (hl:PE X l tl):PI X tg l (Zv3 X.K tl):=by
 intro pins s σ H R I h
 refine thn (hl pins s σ H _ I h) fun v s1 zz1=>?_
 obtain ⟨x,H1,I1,r1,q1⟩:=zz1
 obtain ⟨a,e,⟨xs,hq⟩,q⟩:=q1
 subst e
 cases r1
 obtain ⟨its,rv,p,hz⟩:=I1.tuple hq
 refine wpAny_pyIter_tuple (show s1.heap.IsTuple a its.toArray from p) ?_
 refine ⟨s1.heap.objs.size,[s1.heap.objs.size],_,_,H1,rfl,I1.kept (t':=s1.toks) fun b o e=>Heap.get?_push_of_some _ e,ZlS a _,⟨_,Heap.get?_push_size _ rfl,rfl,rfl⟩,fun b hb=>?_,q⟩
 have e:b = s1.heap.objs.size:=by simpa using hb
 subst e
 exact I1.fpOk (Nat.le_refl _) (I1.hok.fresh (Nat.le_refl _))
theorem Zob {pins:List (Addr × Obj)} {σ:St} {H:Hp} {s:Shared} {R:It → Hp → Prop} {E:Value → Shared → Prop} {lo hi:Int} {t u v:Tok} {tk:Nat} (I:Inv X pins σ H s) (h1:-(2 ^ 62) ≤ lo) (h2:lo < 2 ^ 62) (h3:-(2 ^ 62) ≤ hi) (h4:hi < 2 ^ 62)
  (q:R (Itr lo (hi - lo).toNat) H):wpAny (model X.prog X.w) X.A (pyIter (.ref s.heap.objs.size)) (PIE X pins σ tg R) E { s with heap:=s.heap.push { cls:=.type "range",data:=.fields #[.int lo t,.int hi u,.int 1 v] },toks:=tk }:=by
 refine wpAny_pyIter_range (IsRange.new ..) (small_one h1 h2 h3 h4) ?_
 have I1:Inv X pins σ H { s with heap:=s.heap.push { cls:=.type "range",data:=.fields #[.int lo t,.int hi u,.int 1 v] },toks:=tk }:=I.kept fun b o e=>Heap.get?_push_of_some _ e
 refine ⟨(s.heap.push { cls:=.type "range",data:=.fields #[.int lo t,.int hi u,.int 1 v] }).objs.size,[(s.heap.push { cls:=.type "range",data:=.fields #[.int lo t,.int hi u,.int 1 v] }).objs.size],_,_,H,rfl,
  I1.kept (t':=tk) fun b o e=>Heap.get?_push_of_some _ e,ZlE _ lo (hi - lo).toNat,?_,fun b hb=>?_,q⟩
 ·have e1:lo + ((0:Nat):Int) * 1 = lo:=by simp
  have e2:(((hi - lo).toNat:Nat):Int) - ((0:Nat):Int) = Builtin.Range.rangeSize lo hi 1:=by rw [rangeSize_one]; split <;> omega
  show IsRangeIter _ _ (lo + ((0:Nat):Int) * 1) ((((hi - lo).toNat:Nat):Int) - ((0:Nat):Int)) 1
  rw [e1,e2]
  exact Heap.get?_push_size _ rfl
 ·have e:b = (s.heap.push { cls:=.type "range",data:=.fields #[.int lo t,.int hi u,.int 1 v] }).objs.size:=by simpa using hb
  subst e
  exact I1.fpOk (Nat.le_refl _) (I1.hok.fresh (Nat.le_refl _))
def ZuR (ta:TA):TI:=fun σ H R=>ta σ H fun vs H1=>∃ j:Int,vs = [.int j] ∧ -(2 ^ 62) ≤ j ∧ j < 2 ^ 62 ∧ R (Itr 0 j.toNat) H1
theorem ZnH {a:Expr} {ta:TA} {p pos:Pos} (hg:Gl X "range") (hm:X.mg "range" = none) (ha:PA X [a] ta) (hs:starEach [a] X.env = [(false,eval a X.env)]:=by rfl):PI X tg (.Call (.Name "range" p) [a] [] pos) (ZuR ta):=by
 intro pins s σ H R I h
 refine Call_ (ZhT I hg hm boot_range (PyProof.Rows.callWith_type1 (thn (ha pos pins s σ H _ I h) fun us s1 zz1=>?_) hs rfl))
 obtain ⟨vs,H1,I1,r1,q1⟩:=zz1
 obtain ⟨j,e,q1,q2,q⟩:=q1
 subst e
 cases r1 with
 | cons r rr=>
  cases rr
  obtain ⟨t,rfl⟩:=r
  exact call_range_1 (Zob I1 (by omega) (by omega) q1 q2 (by simpa using q))
def ZvU (wi:TI) (g:TG) (tb:TS):TS:=fun D σ H=>wi σ H fun J H1=>∃ W:Nat → Nat → St → Hp → Prop,(∃ m,W 0 m σ H1) ∧ ∀ i m σ H,W i m σ H →
 (J.stop i H ∧ D.nx σ H) ∨ (J.go i H ∧ ∃ N:St → Hp → Prop,(∀ σ' H',N σ' H' → ∃ m',m' < m ∧ W (i + 1) m' σ' H') ∧ ∀ x H',J.yld i H x H' → g x σ H' fun σ2 H2=>tb { D with nx:=N,ct:=N,bk:=D.nx } σ2 H2)
noncomputable def Zfa (fp:List Addr) (h:Heap):List (Addr × Obj):=fp.filterMap fun b=>(h.get? b).map fun o=>(b,o)
theorem Zdn {fp:List Addr} {h:Heap} {b:Addr} {o:Obj} (hb:b ∈ fp) (e:h.get? b = some o):(b,o) ∈ Zfa fp h:=List.mem_filterMap.mpr ⟨b,hb,by rw [e]; rfl⟩
theorem Zni {fp:List Addr} {h:Heap} {p:Addr × Obj} (hp:p ∈ Zfa fp h):p.1 ∈ fp ∧ h.get? p.1 = some p.2:=by
 obtain ⟨b,hb,e⟩:=List.mem_filterMap.mp hp
 cases q:h.get? b with
 | none=>rw [q] at e; cases e
 | some o=>
  rw [q] at e
  have e':(b,o) = p:=Option.some.inj e
  subst e'
  exact ⟨hb,q⟩
theorem Inv.pinned {pins:List (Addr × Obj)} {σ:St} {H:Hp} {s:Shared} {fp:List Addr} (I:Inv X pins σ H s) (hf:∀ b ∈ fp,ZeC X pins H b) (ho:∀ b ∈ fp,∃ o,s.heap.get? b = some o ∧ ∀ v,o.data ≠ .cell v):Inv X (pins ++ Zfa fp s.heap) σ H s:=
 I.pins_of fun p hp=>(List.mem_append.mp hp).elim (fun z=>I.pin p (List.mem_append_right _ z)) fun z=>by
  obtain ⟨hb,e⟩:=Zni z
  obtain ⟨f0,f1,f2,_⟩:=hf p.1 hb
  obtain ⟨o,e',d⟩:=ho p.1 hb
  rw [e] at e'; cases e'
  exact ⟨e,f0,f1,f2,d⟩
theorem Inv.unpinned {pins pl:List (Addr × Obj)} {σ:St} {H:Hp} {s:Shared} (I:Inv X (pins ++ pl) σ H s):Inv X pins σ H s:=I.pins_of fun p hp=>I.pin p (List.mem_append_right _ (List.mem_append_left _ hp))
theorem Zn9 {iter:Expr} {body:List Stmt} {wi:TI} {g:TG} {tb:TS} {pos:Pos} (hp:PassesOwn (model X.prog X.w) X.A X.env X.xe) (hc:X.calm = true) (hi:PI X tg iter wi) (hg:PG X tg g) (hb:PSs X body tb)
  (hs:∀ x,foldedSetIterable iter X.env x = pure x:=by intro _; rfl):PS X (.For tg iter body [] pos) (ZvU wi g tb):=by
 intro pins s σ H D I h
 refine wpAny_For (thn (hi pins s σ H _ I h) fun v s1 h1=>thn h1 fun itv s2 h2=>?_) hs
 obtain ⟨it,fp,tn,J,H2,e,I2,T,st2,f2,W,⟨m0,w0⟩,turn⟩:=h2
 subst e
 have stat:∀ {H':Hp},(∀ b ∈ fp,H' b = none) → ∀ b ∈ fp,ZeC X pins H' b:=fun hn b hb=>⟨hn b hb,(f2 b hb).2⟩
 refine codeAny_forLoop_any (fun n s'=>∃ i σ' H',Inv X pins σ' H' s' ∧ tn i s'.heap ∧ (∀ b ∈ fp,H' b = none) ∧ W i n σ' H') ?_ m0 ⟨0,σ,H2,I2,st2,fun b hb=>(f2 b hb).1,w0⟩
 rintro n s3 ⟨i,σ3,H3,I3,st3,fr3,w3⟩
 rcases turn i n σ3 H3 w3 with ⟨stop,qn⟩ | ⟨go,N,hN,step⟩
 ·refine wpAny_passesOwn hp (thn (T.done X rfl rfl rfl hc i pins s3 σ3 H3 X.xe I3 (stat fr3) st3 stop) fun r s4 ⟨hr,I4⟩=>?_)
  subst hr
  exact wpAny_execs_nil ⟨σ3,H3,I4,qn⟩
 ·refine wpAny_passesOwn hp (thn (T.item X rfl rfl rfl hc i pins s3 σ3 H3 X.xe I3 (stat fr3) st3 go) fun r s4 ⟨u,hr,h4⟩=>?_)
  subst hr
  refine wpAny_passesOwn hp (thn h4 fun _ s5 zz1=>?_)
  obtain ⟨x,H5,I5,r5,y5,st5,fr5⟩:=zz1
  have I5':=I5.pinned (stat fr5) (T.obj _ _ st5)
  refine wpAny_passesOwn hp (thn (hg _ s5 σ3 H5 x u _ I5' r5 (step x H5 y5)) fun _ s6 zz1=>?_)
  obtain ⟨σ6,H6,I6,q6⟩:=zz1
  refine wpAny_passesOwn hp (thn (hb _ s6 σ6 H6 _ I6 q6) fun f s7 q7=>?_)
  have again:∀ {σ7:St} {H7:Hp},Inv X (pins ++ Zfa fp s5.heap) σ7 H7 s7 → N σ7 H7 → ∃ m,m < n ∧ ∃ i σ' H',Inv X pins σ' H' s7 ∧ tn i s7.heap ∧ (∀ b ∈ fp,H' b = none) ∧ W i m σ' H':=fun {σ7 H7} I7 n7=>by
   obtain ⟨m',hm,w7⟩:=hN σ7 H7 n7
   refine ⟨m',hm,i + 1,σ7,H7,I7.unpinned,T.keep _ _ _ st5 fun b hb o e=>(I7.pin (b,o) (List.mem_append_right _ (List.mem_append_right _ (Zdn hb e)))).1,fun b hb=>?_,w7⟩
   obtain ⟨o,e,d⟩:=T.obj _ _ st5 b hb
   exact (I7.pin (b,o) (List.mem_append_right _ (List.mem_append_right _ (Zdn hb e)))).2.1
  cases f with
  | next=>obtain ⟨σ7,H7,I7,n7⟩:=q7; exact again I7 n7
  | cont=>obtain ⟨σ7,H7,I7,n7⟩:=q7; exact again I7 n7
  | brk=>obtain ⟨σ7,H7,I7,q7⟩:=q7; exact ⟨σ7,H7,I7.unpinned,q7⟩
  | ret v=>obtain ⟨x7,σ7,H7,I7,r7,q7⟩:=q7; exact ⟨x7,σ7,H7,I7.unpinned,r7,q7⟩
end
end L2
namespace L2
open PySem PySem.Spec PyProof.Rows
noncomputable abbrev R2:=V → V → Hp → VK → Prop
def OpR (X:Cx) (f:Value → Value → Sem Value) (r:R2):Prop:=
 ∀ (pins:List (Addr × Obj)) (s:Shared) (σ:St) (H:Hp) (x y:V) (v u:Value) (Q:VK),Inv X pins σ H s → RelV x v → RelV y u → r x y H Q →
  wpAny (model X.prog X.w) X.A (f v u) (EP X pins σ Q) X.xe s
def UnR (X:Cx) (f:Value → Sem Value) (r:V → Hp → VK → Prop):Prop:=
 ∀ (pins:List (Addr × Obj)) (s:Shared) (σ:St) (H:Hp) (x:V) (v:Value) (Q:VK),Inv X pins σ H s → RelV x v → r x H Q →
  wpAny (model X.prog X.w) X.A (f v) (EP X pins σ Q) X.xe s
def ZbA (X:Cx) (f:Value) (r:List V → Hp → VK → Prop):Prop:=
 ∀ (pins:List (Addr × Obj)) (s:Shared) (σ:St) (H:Hp) (xs:List V) (us:List Value) (Q:VK),Inv X pins σ H s → Vals xs us → r xs H Q →
  wpAny (model X.prog X.w) X.A (call f us) (EP X pins σ Q) X.xe s
def tOp (r:R2) (ta tb:TE):TE:=fun σ H Q=>ta σ H fun x H1=>tb σ H1 fun y H2=>r x y H2 Q
def tUn (r:V → Hp → VK → Prop) (ta:TE):TE:=fun σ H Q=>ta σ H fun x H1=>r x H1 Q
def rI (C:Int → Int → Prop) (g:Int → Int → V):R2:=fun x y H Q=>∃ i j,x = .int i ∧ y = .int j ∧ C i j ∧ Q (g i j) H
def rI0 (g:Int → Int → V):R2:=fun x y H Q=>∃ i j,x = .int i ∧ y = .int j ∧ Q (g i j) H
noncomputable def rU (g:Int → V):V → Hp → VK → Prop:=fun x H Q=>∃ i,x = .int i ∧ Q (g i) H
section
variable {X:Cx} {a b c:Expr} {ta tb tc:TE} {pos:Pos}
theorem ZrS (ha:PE X a ta) (hb:PE X b tb) {pins:List (Addr × Obj)} {s:Shared} {σ:St} {H:Hp} {R:V → V → Hp → Prop} (I:Inv X pins σ H s)
  (h:ta σ H fun x H1=>tb σ H1 fun y H2=>R x y H2) {Q:Value → Shared → Prop} {f:Value → Value → Sem Value}
  (hf:∀ v u s2 x y H2,Inv X pins σ H2 s2 → RelV x v → RelV y u → R x y H2 → wpAny (model X.prog X.w) X.A (f v u) Q X.xe s2):
  wpAny (model X.prog X.w) X.A (eval a X.env) (fun v s₁=>wpAny (model X.prog X.w) X.A (eval b X.env) (fun u s₂=>wpAny (model X.prog X.w) X.A (f v u) Q X.xe s₂) X.xe s₁) X.xe s:=by
 refine thn (ha pins s σ H _ I h) fun v s1 zz1=>?_
 obtain ⟨x,H1,I1,r1,q1⟩:=zz1
 refine thn (hb pins s1 σ H1 _ I1 q1) fun u s2 zz1=>?_
 obtain ⟨y,H2,I2,r2,q2⟩:=zz1
 exact hf v u s2 x y H2 I2 r1 r2 q2
theorem Zub {op:Operator} {r:R2} (ho:OpR X (binaryOp op) r) (ha:PE X a ta) (hb:PE X b tb):PE X (.BinOp a op b pos) (tOp r ta tb):=by
 intro pins s σ H Q I h
 exact wpAny_BinOp (ZrS ha hb I h fun v u s2 x y H2 I2 rx ry q=>ho pins s2 σ H2 x y v u Q I2 rx ry q)
theorem ZuE {op:UnaryOp} {r:V → Hp → VK → Prop} (ho:UnR X (unaryOp op) r) (ha:PE X a ta):PE X (.UnaryOp op a pos) (tUn r ta):=by
 intro pins s σ H Q I h
 exact UnaryOp_ (thn (ha pins s σ H _ I h) fun v s1 ⟨x,H1,I1,r1,q1⟩=>ho pins s1 σ H1 x v Q I1 r1 q1)
theorem opI {f:Value → Value → Sem Value} {C:Int → Int → Prop} {g:Int → Int → Int}
  (rule:∀ (i j:Int) (t u:Tok) (s:Shared) (Q:Value → Shared → Prop) (E:Value → Shared → Prop),C i j → Q (.int (g i j) s.toks) { s with toks:=s.toks + 1 } → wpAny (model X.prog X.w) X.A (f (.int i t) (.int j u)) Q E s):
  OpR X f (rI C fun i j=>.int (g i j)):=by
 intro pins s σ H x y v u Q I rx ry h
 obtain ⟨i,j,rfl,rfl,hc,q⟩:=h
 obtain ⟨t,rfl⟩:=rx
 obtain ⟨t',rfl⟩:=ry
 exact rule i j t t' s _ _ hc ⟨.int (g i j),H,I.tok _,⟨_,rfl⟩,q⟩
theorem Zt7 {f:Value → Value → Sem Value} {g:Int → Int → Int}
  (rule:∀ (i j:Int) (t u:Tok) (s:Shared) (Q:Value → Shared → Prop) (E:Value → Shared → Prop),Q (.int (g i j) s.toks) { s with toks:=s.toks + 1 } → wpAny (model X.prog X.w) X.A (f (.int i t) (.int j u)) Q E s):
  OpR X f (rI0 fun i j=>.int (g i j)):=by
 intro pins s σ H x y v u Q I rx ry h
 obtain ⟨i,j,rfl,rfl,q⟩:=h
 obtain ⟨t,rfl⟩:=rx
 obtain ⟨t',rfl⟩:=ry
 exact rule i j t t' s _ _ ⟨.int (g i j),H,I.tok _,⟨_,rfl⟩,q⟩
theorem ZsL {f:Value → Value → Sem Value} {g:Int → Int → Bool}
  (rule:∀ (i j:Int) (t u:Tok) (s:Shared) (Q:Value → Shared → Prop) (E:Value → Shared → Prop),Q (.bool (g i j)) s → wpAny (model X.prog X.w) X.A (f (.int i t) (.int j u)) Q E s):
  OpR X f (rI0 fun i j=>.bl (g i j)):=by
 intro pins s σ H x y v u Q I rx ry h
 obtain ⟨i,j,rfl,rfl,q⟩:=h
 obtain ⟨t,rfl⟩:=rx
 obtain ⟨t',rfl⟩:=ry
 exact rule i j t t' s _ _ ⟨.bl (g i j),H,I,rfl,q⟩
def ZvF (i j:Int):Prop:=0 < j ∧ j < 1073741824
def ZvS (i j:Int):Prop:=0 ≤ j ∧ j ≤ 1000000 ∧ i.natAbs < 2 ^ 64
def ZrR (i j:Int):Prop:=(-(2 ^ 64) < i ∧ i < 2 ^ 64) ∨ (-(2 ^ 64) < j ∧ j < 2 ^ 64)
theorem ZrR.ok {i j:Int} (h:ZrR i j):IntMulOk i j:=by
 rcases h with ⟨h1,h2⟩ | ⟨h1,h2⟩
 ·exact .of_left (intBits_le_64 h1 h2)
 ·exact .of_right (intBits_le_64 h1 h2)
theorem ZrH:OpR X (binaryOp .Add) (rI0 fun i j=>.int (i + j)):=Zt7 fun _ _ _ _ _ _ _ q=>add_int q
theorem Zs7:OpR X (binaryOp .Sub) (rI0 fun i j=>.int (i - j)):=Zt7 fun _ _ _ _ _ _ _ q=>sub_int q
theorem Zsy:OpR X (binaryOp .Mult) (rI ZrR fun i j=>.int (i * j)):=opI fun _ _ _ _ _ _ _ hc q=>mul_int q hc.ok
theorem Zp3:OpR X (binaryOp .FloorDiv) (rI ZvF fun i j=>.int (i / j)):=opI fun i j _ _ _ _ _ hc q=>by
 have h1:(0:Int) < j:=hc.1
 have h2:j < 1073741824:=hc.2
 exact floordiv_int (by exact fun z=>iN [] [_] 2 26014245025 T1 z h1) (by rw [Int.fdiv_eq_ediv_of_nonneg i (by exact Int.le_of_lt h1)]; exact q) (.inl (PyProof.noPylong_small (by omega)))
theorem Ztb:OpR X (binaryOp .Mod) (rI (fun _ j=>0 < j) fun i j=>.int (i % j)):=opI fun i j _ _ _ _ _ hc q=>by
 have h1:(0:Int) < j:=hc
 exact mod_int' (by exact fun z=>iN [] [_] 2 26014245025 T1 z h1) (by rw [Int.fmod_eq_emod_of_nonneg i (by exact Int.le_of_lt h1)]; exact q)
theorem ZsT:OpR X (binaryOp .Pow) (rI ZvS fun i j=>.int (i ^ j.toNat)):=opI fun _ _ _ _ _ _ _ hc q=>pow_int_small hc.1 hc.2.1 hc.2.2 q
theorem unI {f:Value → Sem Value} {g:Int → Int}
  (rule:∀ (i:Int) (t:Tok) (s:Shared) (Q:Value → Shared → Prop) (E:Value → Shared → Prop),Q (.int (g i) s.toks) { s with toks:=s.toks + 1 } → wpAny (model X.prog X.w) X.A (f (.int i t)) Q E s):
  UnR X f (rU fun i=>.int (g i)):=by
 intro pins s σ H x v Q I rx h
 obtain ⟨i,rfl,q⟩:=h
 obtain ⟨t,rfl⟩:=rx
 exact rule i t s _ _ ⟨.int (g i),H,I.tok _,⟨_,rfl⟩,q⟩
theorem Zst:UnR X (unaryOp .USub) (rU fun i=>.int (-i)):=unI fun _ _ _ _ _ q=>neg_int q
end
theorem ZjH {i j:Str}:decide (V.str i = V.str j) = (i == j):=by
 rw [Bool.eq_iff_iff]
 simp
section
variable {X:Cx} {a b c:Expr} {ta tb tc:TE} {pos:Pos}
theorem Zlw {pins:List (Addr × Obj)} {σ:St} {H:Hp} {s:Shared} {Q:VK} {k k':Bool} (I:Inv X pins σ H s) (q:Q (.bl k) H) (e:k = k'):EP X pins σ Q (.bool k') s:=by
 subst e
 exact ⟨.bl k,H,I,rfl,q⟩
theorem Zus:OpR X (compareOp .Lt) (rI0 fun i j=>.bl (decide (i < j))):=ZsL fun _ _ _ _ _ _ _ q=>lt_int q
theorem ZtW:OpR X (compareOp .Gt) (rI0 fun i j=>.bl (decide (j < i))):=ZsL fun _ _ _ _ _ _ _ q=>gt_int q
theorem ZtB:OpR X (compareOp .GtE) (rI0 fun i j=>.bl (decide (j ≤ i))):=ZsL fun _ _ _ _ _ _ _ q=>ge_int q
theorem ZmY:OpR X (compareOp .In) (fun x y H Q=>∃ i j,x = .str i ∧ y = .str j ∧ Q (.bl (!(Builtin.Str.occurrences j i 0 j.length 1).isEmpty)) H):=by
 intro pins s σ H x y v u Q I rx ry h
 obtain ⟨i,j,rfl,rfl,q⟩:=h
 obtain ⟨t,rfl⟩:=rx
 obtain ⟨t',rfl⟩:=ry
 exact in_str (Zlw I q rfl)
theorem ZsV:OpR X (compareOp .Is) (fun x y H Q=>y = .non ∧ Q (.bl (decide (x = .non))) H):=by
 intro pins s σ H x y v u Q I rx ry h
 obtain ⟨rfl,q⟩:=h
 cases ry
 refine is_none_gen (Zlw I q ?_)
 cases x <;> first
  | (cases rx; rfl)
  | (obtain ⟨t,rfl⟩:=rx; rfl)
theorem ZjI:OpR X (compareOp .NotIn) (fun x y H Q=>∃ i j,x = .str i ∧ y = .str j ∧ Q (.bl (!(!(Builtin.Str.occurrences j i 0 j.length 1).isEmpty))) H):=by
 intro pins s σ H x y v u Q I rx ry h
 obtain ⟨i,j,rfl,rfl,q⟩:=h
 obtain ⟨t,rfl⟩:=rx
 obtain ⟨t',rfl⟩:=ry
 exact notIn_str (Zlw I q rfl)
theorem OpR.or {f:Value → Value → Sem Value} {r r':R2} (h:OpR X f r) (h':OpR X f r'):OpR X f (fun x y H Q=>r x y H Q ∨ r' x y H Q):=by
 intro pins s σ H x y v u Q I rx ry q
 rcases q with q | q
 ·exact h pins s σ H x y v u Q I rx ry q
 ·exact h' pins s σ H x y v u Q I rx ry q
theorem ZqX {op:CmpOp} {r:R2} (ho:OpR X (compareOp op) r) (ha:PE X a ta) (hb:PE X b tb) (hm:behindInMarks op b = false):PE X (.Compare a [op] [b] pos) (tOp r ta tb):=by
 intro pins s σ H Q I h
 exact wpAny_Compare1 (ZrS ha hb I h fun v u s2 x y H2 I2 rx ry q=>ho pins s2 σ H2 x y v u Q I2 rx ry q) hm
def ZtX (t:TE):TT:=fun σ H Q=>t σ H fun x H'=>∃ k,x = .bl k ∧ Q k H'
theorem Zqu {op:CmpOp} {r:R2} (ho:OpR X (compareOp op) r) (ha:PE X a ta) (hb:PE X b tb) (hm:behindInMarks op b = false):PT X (.Compare a [op] [b] pos) (ZtX (tOp r ta tb)):=by
 intro pins s σ H Q I h
 refine wpAny_isTrue_Compare1 (thn (ha pins s σ H _ I h) fun v s1 ⟨x,H1,I1,r1,q1⟩=>thn (hb pins s1 σ H1 _ I1 q1) fun u s2 ⟨y,H2,I2,r2,q2⟩=>
  thn (ho pins s2 σ H2 x y v u _ I2 r1 r2 q2) fun c s3 ⟨z,H3,I3,r3,k,e,q3⟩=>?_) hm
 subst e
 cases r3
 exact wpAny_truthy_bool ⟨H3,I3,q3⟩
theorem ZjY:(sizeLine:Nat) < 2 ^ 63:=by rw [sizeLine_eq]; decide
theorem Zly:OpR X (binaryOp .Add) (fun x y H Q=>∃ i j,x = .str i ∧ y = .str j ∧ i.length + j.length ≤ sizeLine ∧ Q (.str (i ++ j)) H):=by
 intro pins s σ H x y v u Q I rx ry h
 obtain ⟨i,j,rfl,rfl,hz,q⟩:=h
 obtain ⟨t,rfl⟩:=rx
 obtain ⟨t',rfl⟩:=ry
 exact add_str (fun t' tk=>⟨.str (i ++ j),H,I.tok _,⟨_,rfl⟩,q⟩) hz
theorem vals1 {x:V} {us:List Value} (r:Vals [x] us):∃ u,us = [u] ∧ RelV x u:=by
 cases r with
 | cons r1 r2=>cases r2; exact ⟨_,rfl,r1⟩
theorem vals2 {x y:V} {us:List Value} (r:Vals [x,y] us):∃ u w',us = [u,w'] ∧ RelV x u ∧ RelV y w':=by
 cases r with
 | cons r1 r2=>
  cases r2 with
  | cons r3 r4=>cases r4; exact ⟨_,_,rfl,r1,r3⟩
theorem Zne (hc:X.calm = true):ZbA X (.builtin "max") (fun xs H Q=>∃ i j,xs = [.int i,.int j] ∧ Q (.int (if j > i then j else i)) H):=by
 intro pins s σ H xs us Q I r h
 obtain ⟨i,j,rfl,q⟩:=h
 obtain ⟨u,w',rfl,⟨t,rfl⟩,⟨t',rfl⟩⟩:=vals2 r
 refine max_two_ints (I.ok.hd hc) fun h' tk k=>⟨_,H,I.kept k,?_,q⟩
 by_cases hj:j > i
 ·rw [if_pos hj,if_pos hj]; exact ⟨_,rfl⟩
 ·rw [if_neg hj,if_neg hj]; exact ⟨_,rfl⟩
theorem ZnF:ZbA X (.type "int") (fun xs H Q=>(∃ i,xs = [.int i] ∧ Q (.int i) H) ∨ ∃ k,xs = [.bl k] ∧ Q (.int (if k then 1 else 0)) H):=by
 intro pins s σ H xs us Q I r h
 rcases h with ⟨i,rfl,q⟩ | ⟨k,rfl,q⟩
 ·obtain ⟨u,rfl,t,rfl⟩:=vals1 r
  exact call_int_int ⟨.int i,H,I,⟨_,rfl⟩,q⟩
 ·obtain ⟨u,rfl,r1⟩:=vals1 r
  cases r1
  exact call_int_bool ⟨.int (if k then 1 else 0),H,I.tok _,⟨_,rfl⟩,q⟩
def Zv8 (K:PySem.W.Frag) (x:V) (H:Hp) (n:Nat):Prop:=
 match x with
 | .str y=>y.length ≤ sizeLine ∧ n = y.length
 | .byt y=>y.size ≤ sizeLine ∧ n = y.size
 | .ref p=>(∃ xs,SqL K H p xs ∧ n = xs.length) ∨ ∃ xs,SqT K H p xs ∧ n = xs.length
 | _=>False
theorem ZoD:ZbA X (.builtin "len") (fun xs H Q=>∃ x n,xs = [x] ∧ Zv8 X.K x H n ∧ Q (.int n) H):=by
 intro pins s σ H xs us Q I r h
 obtain ⟨x,n,rfl,e,q⟩:=h
 obtain ⟨u,rfl,rx⟩:=vals1 r
 have hl:=ZjY
 have hs:sizeLine = 16777216:=sizeLine_eq
 cases x with
 | str y=>
  obtain ⟨t,rfl⟩:=rx
  obtain ⟨hy,e'⟩:y.length ≤ sizeLine ∧ n = y.length:=e
  subst e'
  exact len_str (by omega) ⟨.int _,H,I.tok _,⟨_,rfl⟩,q⟩
 | byt y=>
  obtain ⟨t,rfl⟩:=rx
  obtain ⟨hy,e'⟩:y.size ≤ sizeLine ∧ n = y.size:=e
  subst e'
  exact PySem.W.len_bytes (by omega) ⟨.int _,H,I.tok _,⟨_,rfl⟩,q⟩
 | ref p=>
  cases rx
  have e':(∃ xs,SqL X.K H p xs ∧ n = xs.length) ∨ ∃ xs,SqT X.K H p xs ∧ n = xs.length:=e
  rcases e' with ⟨xs,hx,e'⟩ | ⟨xs,hx,e'⟩
  ·subst e'
   obtain ⟨its,r',pl,hz⟩:=I.list hx
   have hlen:=r'.length
   exact Calls.call_len_list pl.isList (by simp only [List.size_toArray]; omega) ⟨.int xs.length,H,I.tok _,⟨_,by simp only [List.size_toArray]; rw [hlen]⟩,q⟩
  ·subst e'
   obtain ⟨its,r',pl,hz⟩:=I.tuple hx
   have hlen:=r'.length
   exact len_tuple pl (by simp only [List.size_toArray]; omega) ⟨.int xs.length,H,I.tok _,⟨_,by simp only [List.size_toArray]; rw [hlen]⟩,q⟩
 | _=>exact (show False from e).elim
end
end L2
namespace L2
open PySem PySem.Spec PyProof.Rows
structure ZrJ (h:Heap) (x dx C:Addr) (mA:Str → Option Value):Prop where
 obj:h.get? x = some (PySem.W.instObj C dx)
 ns:h.Ns1 dx mA
 ne:dx ≠ x
theorem Zns {h:Heap} {dx:Addr} {mA:Str → Option Value} (n:h.Ns1 dx mA):∃ od,h.get? dx = some od ∧ ∀ name,PySem.W.lookIn name od = some (mA name):=by
 obtain ⟨o,es,ep,ho,hd,hk,_,hm⟩:=n
 refine ⟨o,ho,fun name=>?_⟩
 have e:=hm name
 unfold nsFind findBy at e
 rw [← Array.find?_toList] at e
 unfold PySem.W.lookIn
 rw [hd]
 dsimp only
 split
 ·rename_i y q
  rw [q] at e
  exact congrArg some e
 ·rename_i q
  rw [q] at e
  have a:es.toList.any (·.refKey) = false:=by
   rw [List.any_eq_false]
   intro y hy
   obtain ⟨z,t,hkey⟩:=hk y (Array.mem_toList_iff.mp hy)
   simp [DictEntry.refKey,hkey]
  have a':¬ es.toList.any (·.refKey) = true:=by rw [a]; exact Bool.false_ne_true
  rw [if_neg a']
  exact congrArg some e
theorem ZrJ.look {h:Heap} {x dx C:Addr} {mA:Str → Option Value} (I:ZrJ h x dx C mA):∃ od,PySem.W.InstAt h x (PySem.W.instObj C dx) C (some od) ∧ ∀ name,PySem.W.lookIn name od = some (mA name):=
 let ⟨od,ho,hl⟩:=Zns I.ns
 ⟨od,⟨I.obj,rfl,rfl,ho⟩,hl⟩
section
variable {prog:Program} {w:World} {A:Around} {E:Value → Shared → Prop} {s:Shared} {K:PySem.W.Frag} {x dx C f:Addr} {mA:Str → Option Value} {name:Str} {v:Value}
end
theorem Zhf.some_of {v:V} {o:Option Value} (r:Zhf (some v) o):∃ u,o = some u ∧ RelV v u:=by
 cases o with
 | none=>exact (show False from r).elim
 | some u=>exact ⟨u,rfl,r⟩
section
variable {P:Program} {w:World} {H H':Hp} {h h':Heap} {a C dx:Addr} {fs fs':List (Str × V)}
theorem Zqm (hok:HOk P w H h) (e:H a = some (.ins C dx fs)):∃ mA,ZrJ h a dx C mA ∧ (∀ f,Zhf (fs.lookup f) (mA f)) ∧ PySem.Within mA (fs.map (·.1)) ∧ fs.length ≤ 1000 ∧ H dx = some (.own a):=by
 obtain ⟨d,z,ne,ob,mA,n,r,q⟩:=(show ZbU P w H h a (.ins C dx fs) from hok a _ e)
 exact ⟨mA,⟨ob,n,ne⟩,r,q,z,d⟩
end
structure Cls (K:PySem.W.Frag) (C:Addr):Prop where
 pg:PySem.W.plainGet K C Str.empty = true
 hd:PySem.W.hasDictIn K C = true
 po:PySem.W.plainOver K C = true
 sa:PySem.W.findIn K (.ref C) "__setattr__" = some (some (.builtin "object.__setattr__"))
theorem Cls.get {K:PySem.W.Frag} {C:Addr} (c:Cls K C) (f:Str):PySem.W.plainGet K C f = true:=c.pg
section
variable {X:Cx} {pins:List (Addr × Obj)} {σ:St} {H:Hp} {s:Shared} {a C dx:Addr} {fs:List (Str × V)} {f:Str} {v:V} {A:Around} {E:Value → Shared → Prop}
end
section
variable {X:Cx} {o e value:Expr} {f:Str} {pos pos' tpos:Pos} {ta tv:TE}
end
section
variable {X:Cx} {pins:List (Addr × Obj)} {σ:St} {H:Hp} {s:Shared} {A:Around} {E:Value → Shared → Prop} {Q:Value → Shared → Prop} {c:Value} {b:Bool}
inductive Zhu (K:PySem.W.Frag) (H:Hp):V → Value → Prop where
 | non:Zhu K H .non (.type "NoneType")
 | bl (x:Bool):Zhu K H (.bl x) (.type "bool")
 | int (i:Int):Zhu K H (.int i) (.type "int")
 | str (x:Str):Zhu K H (.str x) (.type "str")
 | flt (x:UInt64):Zhu K H (.flt x) (.type "float")
 | lst {a:Addr} {xs:List V} (e:H a = some (.lst xs)):Zhu K H (.ref a) (.type "list")
 | frz {a:Addr} {o:Obj} {xs:List V} (e:H a = some (.frz o (.lst xs))):Zhu K H (.ref a) (.type "list")
 | tup {a:Addr} {xs:List V} (e:H a = some (.tup xs)):Zhu K H (.ref a) (.type "tuple")
 | dK {a:Addr} {kvs:List (Key × V)} (e:H a = some (.dK kvs)):Zhu K H (.ref a) (.type "dict")
 | dT {a:Addr} {kvs:List (List Key × V)} (e:H a = some (.dT kvs)):Zhu K H (.ref a) (.type "dict")
 | ins {a C dx:Addr} {fs:List (Str × V)} (e:H a = some (.ins C dx fs)) (cl:Cls K C) (ha:PySem.W.findIn K (.ref C) "__class__" = some (some (.builtin "object.__class__")))
   (hn:PySem.W.specialIn K (.builtin "object.__class__") "__get__" = some (some (.builtin "getset_descriptor.__get__"))) (htk:PySem.W.takesIn K (.builtin "object.__class__") = some true)
   (hm:PySem.W.mroIn K C (.type "object") = some true):Zhu K H (.ref a) (.ref C)
theorem Zd0 {x:V} {u t:Value} (I:Inv X pins σ H s) (rx:RelV x u) (ty:Zhu X.K H x t) (e:PySem.W.kitOne X.K t c = some b) (h:∀ tk,Q (.bool b) { s with toks:=tk }):
  wpAny (model X.prog X.w) A (call (.builtin "isinstance") [u,c]) Q E s:=by
 cases ty with
 | non=>cases (show u = Value.none from rx); exact PySem.W.kia_one PySem.W.kitx_none I.kIn True.intro e (fun z=>nomatch z) h
 | bl y=>cases (show u = Value.bool y from rx); exact PySem.W.kia_one PySem.W.kitx_bool I.kIn True.intro e (fun z=>nomatch z) h
 | int i=>obtain ⟨t,q⟩:=(show ∃ t,u = Value.int i t from rx); cases q; exact PySem.W.kia_one PySem.W.kitx_int I.kIn True.intro e (fun z=>nomatch z) h
 | str y=>obtain ⟨t,q⟩:=(show ∃ t,u = Value.str y t from rx); cases q; exact PySem.W.kia_one PySem.W.kitx_str I.kIn True.intro e (fun z=>nomatch z) h
 | flt y=>obtain ⟨t,q⟩:=(show ∃ t,u = Value.float y t from rx); cases q; exact PySem.W.kia_one PySem.W.kitx_float I.kIn True.intro e (fun z=>nomatch z) h
 | @lst a xs ea=>
  cases (show u = Value.ref a from rx)
  obtain ⟨_,_,n,_,h1⟩:=(show ZbU X.prog X.w H s.heap a (.lst xs) from I.hok a _ ea)
  exact PySem.W.kia_one PySem.W.kitx_list I.kIn ⟨_,h1,rfl⟩ e (fun z=>nomatch z) h
 | @frz a ob xs ea=>
  cases (show u = Value.ref a from rx)
  obtain ⟨_,_,_,n,_,h1⟩:=(show ZbU X.prog X.w H s.heap a (.frz ob (.lst xs)) from I.hok a _ ea)
  exact PySem.W.kia_one PySem.W.kitx_list I.kIn ⟨_,h1,rfl⟩ e (fun z=>nomatch z) h
 | @tup a xs ea=>
  cases (show u = Value.ref a from rx)
  obtain ⟨_,_,_,p⟩:=(show ZbU X.prog X.w H s.heap a (.tup xs) from I.hok a _ ea)
  obtain ⟨o,h1,h2,_⟩:=p
  exact PySem.W.kia_one PySem.W.kitx_tuple I.kIn ⟨o,h1,h2.1⟩ e (fun z=>nomatch z) h
 | @dK a kvs ea=>
  cases (show u = Value.ref a from rx)
  obtain ⟨_,_,vs,_,p⟩:=(show ZbU X.prog X.w H s.heap a (.dK kvs) from I.hok a _ ea)
  obtain ⟨o,es,ep,h1,h2,_⟩:=p
  exact PySem.W.kia_one PySem.W.kitx_dict I.kIn ⟨o,h1,h2.1⟩ e (fun z=>nomatch z) h
 | @dT a kvs ea=>
  cases (show u = Value.ref a from rx)
  obtain ⟨_,_,xs,_,o,es,ep,h1,h2,_⟩:=(show ZbU X.prog X.w H s.heap a (.dT kvs) from I.hok a _ ea)
  exact PySem.W.kia_one PySem.W.kitx_dict I.kIn ⟨o,h1,h2.1⟩ e (fun z=>nomatch z) h
 | @ins a C dx fs ea cl ha hn htk hm=>
  cases (show u = Value.ref a from rx)
  obtain ⟨mA,O,_⟩:=Zqm I.hok ea
  obtain ⟨od,J,_⟩:=O.look
  exact PySem.W.kia_one (PySem.W.kitx_own (cl.get _) cl.hd ha hn htk hm) I.kIn J e (fun z=>nomatch z) h
end
end L2
namespace L2
open PySem PySem.Spec PyProof.Rows
structure ZdL (k:Nat) (A:Around):Prop where
 hd:A.handled = none
 dp:A.depth + 3 * k + 5 < recursionLimit
 un:A.units + 16 * k + 200 < cLine
theorem ZdL.mono {j k:Nat} {A:Around} (r:ZdL k A) (h:j ≤ k):ZdL j A:=⟨r.hd,by have:=r.dp; exact lD 2 0x251b303d0cc11303251b103d0cc11 T1 this h,by have:=r.un; omega⟩
theorem ZdL.deeper {k:Nat} {A:Around} (r:ZdL (k + 1) A) (env:Env):ZdL k (A.deeper env):=
 ⟨r.hd,by have:=r.dp; show A.depth + 1 + 3 * k + 5 < _; exact lC 1 0x251b103da0ccc1251ba1c03d0cc11 T1 this,by have:=r.un; show A.units + 3 + 16 * k + 200 < _; exact lC 1 0x2c82b110d31b0ccc12c82ba1c10d0cc11 T1 this⟩
theorem ZdL.in1 {k:Nat} {A:Around} (r:ZdL (k + 1) A):ZdL k A.in1:=
 ⟨r.hd,by have:=r.dp; show A.depth + 3 * k + 5 < _; exact lC 1 0x251b103d0cc1251ba1c03d0cc11 T1 this,by have:=r.un; show A.units + 1 + 16 * k + 200 < _; exact lC 1 0x2c82b110da0ccc12c82ba1c10d0cc11 T1 this⟩
theorem ZdL.depth {k:Nat} {A:Around} (r:ZdL k A):A.depth < recursionLimit:=by have:=r.dp; exact lC 1 0x201251b103d0cc11 T1 this
theorem ZdL.units {k:Nat} {A:Around} (r:ZdL k A):A.units + 64 < cLine:=by have:=r.un; exact lC 1 0x2402b0c12c82b110d0cc11 T1 this
def Zvm:TA:=fun _ H Q=>Q [] H
def ZtZ (ta:TE) (tr:TA):TA:=fun σ H Q=>ta σ H fun x H1=>tr σ H1 fun xs H2=>Q (x :: xs) H2
section
variable {X:Cx} {e:Expr} {es:List Expr} {te:TE} {t:TA} {pos:Pos}
theorem ZoN:PA X [] Zvm:=fun _ _ _ _ H Q I h=>Calls.spliced_nil ⟨[],H,I,.nil,h⟩
theorem Zj2 (ha:PE X e te) (hr:PA X es t) (hs:starEach (e :: es) X.env = (false,eval e X.env) :: starEach es X.env:=by rfl):PA X (e :: es) (ZtZ te t):=by
 intro pos pins s σ H Q I h
 rw [hs]
 show wpAny _ _ (spliced ((false,eval e X.env) :: backTo pos (starEach es X.env))) _ _ s
 refine Calls.spliced_cons (thn (ha pins s σ H _ I h) fun u s1 zz1=>?_)
 obtain ⟨x,H1,I1,r1,q1⟩:=zz1
 exact thn (hr pos pins s1 σ H1 _ I1 q1) fun us s2 ⟨xs,H2,I2,r2,q2⟩=>⟨x :: xs,H2,I2,.cons r1 r2,q2⟩
def Zvn (t:TA):TE:=fun σ H Q=>t σ H fun xs H1=>xs.length ≤ sizeLine ∧ ∀ p,H1 p = none → Q (.ref p) (upd H1 p (.tup xs))
def ZvW (t:TA):TE:=fun σ H Q=>t σ H fun xs H1=>xs.length ≤ sizeLine ∧ ∀ p,H1 p = none → Q (.ref p) (upd H1 p (.lst xs))
theorem Zs9 {x1} (h:PA X es t):PE X (.Tuple es x1 pos) (Zvn t):=by
 intro pins s σ H Q I hq
 refine wpAny_Tuple_spliced (thn (h pos pins s σ H _ I hq) fun us s1 ⟨xs,H1,I1,r,z,q⟩=>⟨by rw [← r.length]; exact z,?_⟩)
 have hf:H1 s1.heap.objs.size = none:=I1.hok.fresh (Nat.le_refl _)
 refine ⟨.ref s1.heap.objs.size,upd H1 s1.heap.objs.size (.tup xs),I1.laid (t':=s1.toks) (fun b u e=>Heap.get?_push_of_some _ e) (Nat.le_refl _) ?_,rfl,q _ hf⟩
 exact ⟨z,us,r,⟨_,Heap.get?_push_size _ rfl,⟨rfl,rfl⟩,_,rfl⟩⟩
theorem Zrw (h:PA X es t):PE X (.List es pos) (ZvW t):=by
 intro pins s σ H Q I hq
 refine wpAny_List_spliced (thn (h pos pins s σ H _ I hq) fun us s1 ⟨xs,H1,I1,r,z,q⟩=>⟨by rw [← r.length]; exact z,?_⟩)
 have hf:H1 s1.heap.objs.size = none:=I1.hok.fresh (Nat.le_refl _)
 refine ⟨.ref s1.heap.objs.size,upd H1 s1.heap.objs.size (.lst xs),I1.laid (t':=s1.toks) (fun b u e=>Heap.get?_push_of_some _ e) (Nat.le_refl _) ?_,rfl,q _ hf⟩
 exact ⟨z,us,0,r,Heap.get?_push_size _ rfl⟩
end
noncomputable abbrev Sp:=List V → Hp → VK → XK → Prop
noncomputable abbrev CXT:=List Env → Hp → Shared → XK → Value → Shared → Prop
structure ZlA (P:Program) (w:World) (K:PySem.W.Frag) (mg:Str → Option Value) (base:Heap) (A:Around) (outer:List Env) (s:Shared) (H:Hp):Prop where
 frames:A.frames = some outer
 mod:Mod K mg base
 bs:∀ b o,base.get? b = some o → s.heap.get? b = some o ∧ H b = none
 bsz:base.objs.size ≤ s.heap.objs.size
 funs:s.heap.FunFrames base outer
 frf:∀ b ∈ frs outer,H b = none
 hok:HOk P w H s.heap
 bare:AllBare s.gens
def CE (outer:List Env) (P:Program) (w:World) (H:Hp) (s:Shared) (Q:VK) (u:Value) (s':Shared):Prop:=
 ∃ v H',s'.os = s.os ∧ AllBare s'.gens ∧ Un (frs outer) [] H H' s.heap s'.heap ∧ HOk P w H' s'.heap ∧ RelV v u ∧ Q v H'
def CR (CX:CXT) (outer:List Env) (P:Program) (w:World) (H:Hp) (s:Shared) (Q:VK) (E:XK) (r:Result) (s':Shared):Prop:=
 match r with
 | .ok (.ret u)=>CE outer P w H s Q u s'
 | .ok _=>False
 | .error e=>CX outer H s E e s'
structure Zfo (P:Program) (w:World) (K:PySem.W.Frag) (mg:Str → Option Value) (base:Heap) (CX:CXT) (k:Nat) (f:Addr) (fd:FuncData) (ps:List Str) (sp:Sp):Prop where
 len:∀ vs H Q E,sp vs H Q E → vs.length = ps.length
 run:∀ (A:Around) (outer:List Env) (s:Shared) (H:Hp) (args:Args) (us:List Value) (vs:List V) (Q:VK) (E:XK),ZdL k A → ZlA P w K mg base A outer s H → BindsTo s fd args (ps.zip us) → Vals vs us → sp vs H Q E →
  codeAny (model P w) A (.call (.ref f) args) (CR CX outer P w H s Q E) s
theorem Zfo.mono {P:Program} {w:World} {K:PySem.W.Frag} {mg:Str → Option Value} {base:Heap} {CX:CXT} {j k:Nat} {f:Addr} {fd:FuncData} {ps:List Str} {sp:Sp} (F:Zfo P w K mg base CX j f fd ps sp) (h:j ≤ k):
  Zfo P w K mg base CX k f fd ps sp:=⟨F.len,fun A outer s H args us vs Q E hr=>F.run A outer s H args us vs Q E (hr.mono h)⟩
theorem Zfo.imp {P:Program} {w:World} {K:PySem.W.Frag} {mg:Str → Option Value} {base:Heap} {CX:CXT} {k:Nat} {f:Addr} {fd:FuncData} {ps:List Str} {sp sp':Sp} (F:Zfo P w K mg base CX k f fd ps sp)
  (h:∀ vs H Q E,sp' vs H Q E → sp vs H Q E):Zfo P w K mg base CX k f fd ps sp':=
 ⟨fun vs H Q E q=>F.len vs H Q E (h _ _ _ _ q),fun A outer s H args us vs Q E hr he hb hv hs=>F.run A outer s H args us vs Q E hr he hb hv (h _ _ _ _ hs)⟩
theorem ZlA.in1 {P:Program} {w:World} {K:PySem.W.Frag} {mg:Str → Option Value} {base:Heap} {A:Around} {outer:List Env} {s:Shared} {H:Hp} (e:ZlA P w K mg base A outer s H):
  ZlA P w K mg base A.in1 outer s H:=⟨e.frames,e.mod,e.bs,e.bsz,e.funs,e.frf,e.hok,e.bare⟩
section
variable {X:Cx} {pins:List (Addr × Obj)} {σ:St} {H:Hp} {s s':Shared}
theorem Inv.env0 (I:Inv X pins σ H s):ZlA X.prog X.w X.K X.mg X.base X.A X.stack s H:=
 ⟨I.ok.frames,I.ok.mod,I.bs,Nat.le_trans I.ok.bsz I.sz,I.stack,I.stkFree,I.hok,I.bare⟩
theorem Inv.after {Q:VK} {u:Value} (I:Inv X pins σ H s) (h:CE X.stack X.prog X.w H s Q u s'):EP X pins σ Q u s':=by
 obtain ⟨v,H',os,bare,un,hok,r,q⟩:=h
 obtain ⟨hh,g,d,t,os'⟩:=s'
 obtain rfl:os' = s.os:=os
 exact ⟨v,H',I.call (h':=hh) (g':=g) (d':=d) (t':=t) (ch:=[]) un hok bare (fun b z=>absurd z (by simp)),r,q⟩
end
def Zt5 (sp:Sp) (dvs:List V) (E:XK) (t:TA):TE:=fun σ H Q=>t σ H fun vs H1=>sp (vs ++ dvs) H1 Q E
def Binds (K:PySem.W.Frag) (fd:FuncData) (ps:List Str) (ds:List Value):Prop:=
 ∀ (s:Shared) (us:List Value),K.In s.heap → (us ++ ds).length = ps.length → BindsTo s fd ⟨us,[]⟩ (ps.zip (us ++ ds))
theorem Binds.all {K:PySem.W.Frag} {fd:FuncData} {ps:List Str} (h:∀ us:List Value,us.length = ps.length → bindArgs fd ⟨us,[]⟩ = pure (ps.zip us)):Binds K fd ps []:=fun s us _ hl=>by
 rw [List.append_nil] at hl ⊢
 exact .of_eq (h us hl)
def Zlm (CX:CXT) (X:Cx) (E:XK):Prop:=∀ (pins:List (Addr × Obj)) (σ:St) (H:Hp) (s:Shared) (e:Value) (s':Shared),Inv X pins σ H s → CX X.stack H s E e s' → X.xe e s'
section
variable {X:Cx} {CX:CXT} {k:Nat} {f C:Addr} {fd:FuncData} {ps:List Str} {sp:Sp} {dvs:List V} {ds:List Value} {E:XK} {x m:Str} {p pos apos:Pos} {e o:Expr} {es:List Expr} {ta:TE} {t:TA}
theorem Zrs {pins:List (Addr × Obj)} {σ:St} {H:Hp} {s:Shared} {Q:VK} {us:List Value} {vs:List V} (F:Zfo X.prog X.w X.K X.mg X.base CX k f fd ps sp) (hr:ZdL k X.A) (hb:Binds X.K fd ps ds) (hd:Vals dvs ds) (hx:Zlm CX X E)
  (I:Inv X pins σ H s) (r:Vals vs us) (h:sp (vs ++ dvs) H Q E):wpAny (model X.prog X.w) X.A (call (.ref f) us) (EP X pins σ Q) X.xe s:=by
 have r2:Vals (vs ++ dvs) (us ++ ds):=r.append hd
 have hl:(us ++ ds).length = ps.length:=by rw [← r2.length]; exact F.len _ _ _ _ h
 refine wpAny_call (codeAny_mono (F.run X.A X.stack s H ⟨us,[]⟩ (us ++ ds) (vs ++ dvs) Q E hr I.env0 (hb s us I.kIn hl) r2 h) fun r s' hq=>?_)
 cases r with
 | error e=>exact hx pins σ H s e s' I hq
 | ok fl=>
  cases fl with
  | ret u=>exact I.after hq
  | next=>exact False.elim hq
  | brk=>exact False.elim hq
  | cont=>exact False.elim hq
theorem ZpX (F:Zfo X.prog X.w X.K X.mg X.base CX k f fd ps sp) (hr:ZdL k X.A) (hg:Gl X x) (hm:X.mg x = some (.ref f)) (hk:PySem.W.keepIn X.K (.ref f) = true) (hb:Binds X.K fd ps ds) (hd:Vals dvs ds) (hx:Zlm CX X E)
  (ha:PA X (e :: es) t) (hdb:(x == ("__debug__":Str)) = false:=by decide) (he:starEach (e :: es) X.env = (false,eval e X.env) :: starEach es X.env:=by rfl) (hpl:(backTo pos (starEach es X.env)).any (·.1) = false:=by rfl):
  PE X (.Call (.Name x p) (e :: es) [] pos) (Zt5 sp dvs E t):=by
 intro pins s σ H Q I h
 refine wpAny_Call_Name_kw (ZmA I hg hm ?_ hdb)
 refine PySem.W.callWith_K (h₀:=X.base) I.ok.mod.kin hk (thn (ha pos pins s σ H _ I h) fun us s1 ⟨vs,H1,I1,r,q⟩=>⟨I1.kIn,?_⟩) he hpl
 exact Zrs F hr hb hd hx I1 r q
end
section
variable {X:Cx} {CX:CXT} {k:Nat} {f C:Addr} {fd:FuncData} {ps ks:List Str} {sp:Sp} {E:XK} {x m:Str} {p pos apos kpos:Pos} {e o:Expr} {es:List Expr} {kws:List Keyword} {te ta:TE} {t tk:TA} {nm:Option Str}
variable {g:List Value → List Value → List Value} {gV:List V → List V → List V}
end
structure ZaJ (N P:List Str) (sc:Scope):Prop where
 kind:sc.kind = .function
 co:sc.isCoroutine = false
 gen:sc.isGenerator = false
 nd:N.Nodup
 pre:N.take P.length = P
 par:∀ x ∈ P,sc.names.lookup x = some .local ∨ sc.names.lookup x = some .cell
 nofree:∀ y ∈ sc.names,y.2 ≠ .free
theorem Zi8 {kindOf:Str → Option NameKind} {x:Str}:∀ {binds:List (Str × Value)} {m:Str → Option Value},(∀ v,(x,v) ∉ binds) → bindL kindOf binds m x = m x
 | [],_,_=>rfl
 | (n,v) :: r,m,h=>by
  unfold bindL
  rw [Zi8 fun w hw=>h w (List.mem_cons_of_mem _ hw)]
  split
  ·have:x ≠ n:=by rintro rfl; exact h v List.mem_cons_self
   simp [this]
  ·rfl
theorem Zjl {kindOf:Str → Option NameKind} {x:Str}:∀ {binds:List (Str × Value)} {m:Str → Option Value},(∀ v,(x,v) ∉ binds) → bindC kindOf binds m x = m x
 | [],_,_=>rfl
 | (n,v) :: r,m,h=>by
  unfold bindC
  rw [Zjl fun w hw=>h w (List.mem_cons_of_mem _ hw)]
  split
  ·rfl
  ·have:x ≠ n:=by rintro rfl; exact h v List.mem_cons_self
   simp [this]
theorem ZiT {kindOf:Str → Option NameKind} {x:Str} {v:Value}:∀ {P:List Str} {vs:List Value} {i:Nat} {m:Str → Option Value},P.Nodup → P[i]? = some x → vs[i]? = some v → kindOf x = some .local →
  bindL kindOf (P.zip vs) m x = some v
 | [],_,_,_,_,h,_,_=>by simp at h
 | _ :: _,[],_,_,_,_,h,_=>by simp at h
 | p :: P,w :: vs,0,m,nd,h1,h2,hk=>by
  simp at h1 h2; subst h1; subst h2
  show bindL kindOf ((p,w) :: P.zip vs) m p = _
  unfold bindL
  rw [Zi8 fun v hv=>(List.nodup_cons.mp nd).1 (List.of_mem_zip hv).1,if_pos hk]
  simp
 | p :: P,w :: vs,i + 1,m,nd,h1,h2,hk=>by
  show bindL kindOf ((p,w) :: P.zip vs) m x = _
  unfold bindL
  exact ZiT (i:=i) (List.nodup_cons.mp nd).2 (by simpa using h1) (by simpa using h2) hk
theorem Zi7 {kindOf:Str → Option NameKind} {x:Str} {v:Value}:∀ {P:List Str} {vs:List Value} {i:Nat} {m:Str → Option Value},P.Nodup → P[i]? = some x → vs[i]? = some v → kindOf x ≠ some .local →
  bindC kindOf (P.zip vs) m x = some v
 | [],_,_,_,_,h,_,_=>by simp at h
 | _ :: _,[],_,_,_,_,h,_=>by simp at h
 | p :: P,w :: vs,0,m,nd,h1,h2,hk=>by
  simp at h1 h2; subst h1; subst h2
  show bindC kindOf ((p,w) :: P.zip vs) m p = _
  unfold bindC
  rw [Zjl fun v hv=>(List.nodup_cons.mp nd).1 (List.of_mem_zip hv).1,if_neg hk]
  simp
 | p :: P,w :: vs,i + 1,m,nd,h1,h2,hk=>by
  show bindC kindOf ((p,w) :: P.zip vs) m x = _
  unfold bindC
  exact Zi7 (i:=i) (List.nodup_cons.mp nd).2 (by simpa using h1) (by simpa using h2) hk
noncomputable def start (N:List Str) (vs:List V):St:=vs.map some ++ List.replicate (N.length - vs.length) none
noncomputable def ZkS (CX:CXT) (P:Program) (w:World) (K:PySem.W.Frag) (mg:Str → Option Value) (base:Heap) (N:List Str) (qual:Str) (scope:Scope) (f:Addr) (cd:Value) (A:Around) (outer:List Env) (s:Shared) (H:Hp) (E:XK):Cx where
 prog:=P
 w:=w
 K:=K
 mg:=mg
 base:=base
 A:=A.deeper (envOfC qual scope s.heap.objs.size f cd)
 N:=N
 s₀:=s
 H₀:=H
 env:=envOfC qual scope s.heap.objs.size f cd
 outer:=outer
 stack:=envOfC qual scope s.heap.objs.size f cd :: outer
 ex:=[]
 calm:=true
 fn:=fun _=>true
 pn:=[]
 xe:=fun e s'=>wpAny (model P w) (A.deeper (envOfC qual scope s.heap.objs.size f cd)) (leaving (envOfC qual scope s.heap.objs.size f cd) e) (fun _ s''=>CX outer H s E e s'') (fun e' s''=>CX outer H s E e' s'') s'
theorem Zkd {sc:Scope} {n:Nat} {x:Str} (h:sc.names.lookup x = some .cell):∃ c,(cellsFrom n sc.names []).lookup x = some c:=by
 have q:=PySem.W.cellsFrom_some sc.names n [] (.inl h)
 exact Option.isSome_iff_exists.mp q
theorem Zm2 {CX:CXT} {P:Program} {w:World} {K:PySem.W.Frag} {mg:Str → Option Value} {base:Heap} {N ps:List Str} {qual:Str} {scope:Scope} {f:Addr} {cd:Value} {A:Around} {outer:List Env} {s s1:Shared} {H:Hp} {E:XK} {us:List Value} {vs:List V}
  (S:ZaJ N ps scope) (hd:A.handled = none) (e0:ZlA P w K mg base A outer s H) (hl:vs.length = ps.length) (r:Vals vs us)
  (x:InCallC s s.heap.objs.size (bindL (envOfC qual scope s.heap.objs.size f cd).kindOf (ps.zip us) fun _=>none) (cellsFrom (s.heap.objs.size + 1) scope.names []) (bindC (envOfC qual scope s.heap.objs.size f cd).kindOf (ps.zip us) fun _=>none) s1):
  Inv (ZkS CX P w K mg base N qual scope f cd A outer s H E) [] (start N vs) H s1:=by
 have hpl:ps.length ≤ N.length:=by have:=congrArg List.length S.pre; rw [List.length_take] at this; omega
 obtain ⟨h1,tk,rfl,hk⟩:=x.done
 have noA:∀ b:Addr,b ∉ (ZkS CX P w K mg base N qual scope f cd A outer s H E).ex:=fun b z=>absurd (show b ∈ ([]:List Addr) from z) (by simp)
 refine ⟨⟨e0.mod,S.kind,rfl,rfl,Nat.le_refl _,fun y z c h1 h2=>?_,fun y hy=>?_,fun y c _ h=>?_,fun _=>hd,Around.frames_deeper e0.frames,.inr ⟨rfl,rfl⟩,fun b z=>absurd z (noA b),e0.bs,e0.bsz,fun b _ _=>noA b,fun b z=>absurd z (noA b),e0.funs,e0.frf⟩,
  rfl,e0.bare,Un.kept hk,⟨_,x.toInCall.ns,fun i y v h1 h2 h3=>?_⟩,fun y c h=>⟨_,x.cell y c h⟩,e0.hok.fresh (Nat.le_refl _),fun y c h=>?_,fun p hp=>absurd (show p ∈ ([]:List (Addr × Obj)) from hp) (by simp),e0.hok.kept hk,?_⟩
 ·exact name_of_addr x.apart (PySem.mem_of_lookup h1) (PySem.mem_of_lookup h2)
 ·have hy:scope.names.lookup y = some .cell ∨ scope.names.lookup y = some .free:=hy
  rcases hy with hy | hy
  ·exact Zkd hy
  ·exact absurd rfl (S.nofree _ (PySem.mem_of_lookup hy))
 ·exact Nat.le_of_lt (x.above y c (PySem.mem_of_lookup h))
 ·have hi:i < vs.length:=by
   unfold start at h2
   by_cases hi:i < vs.length
   ·exact hi
   ·rw [List.getElem?_append_right (by simpa using hi)] at h2
    rw [List.getElem?_replicate] at h2
    split at h2 <;> cases h2
  have ha:vs[i]? = some v:=by
   unfold start at h2
   rw [List.getElem?_append_left (by simpa using hi),List.getElem?_map] at h2
   cases e:vs[i]? with
   | none=>rw [e] at h2; cases h2
   | some a=>rw [e] at h2; cases h2; rfl
  obtain ⟨u,hu,rv⟩:=r.get ha
  have hp:ps[i]? = some y:=by
   rw [← S.pre,List.getElem?_take_of_lt (by exact lC 2 2203874037777 T1 hi hl)]; exact h1
  have ndP:ps.Nodup:=by rw [← S.pre]; exact S.nd.sublist (List.take_sublist _ _)
  refine ⟨u,rv,?_⟩
  rcases S.par y (List.mem_of_getElem? hp) with k | k
  ·exact .inl ⟨k,ZiT ndP hp hu k⟩
  ·obtain ⟨c,e⟩:=Zkd (n:=s.heap.objs.size + 1) k
   refine .inr ⟨.inl k,c,e,?_⟩
   have q:=x.cell y c e
   rw [Zi7 ndP hp hu (by show scope.names.lookup y ≠ _; rw [k]; decide)] at q
   exact q
 ·exact e0.hok.fresh (Nat.le_of_lt (x.above y c (PySem.mem_of_lookup h)))
 ·unfold start
  show _ = N.length
  rw [List.length_append,List.length_map,List.length_replicate]
  exact Nat.le_antisymm (lC 1 2206541614113 T1 (Nat.sub_add_cancel (lC 2 1236986302465 T1 hpl hl))) (lC 1 1288492400641 T1 (sbA _ _))
theorem ZuG {CX:CXT} {P:Program} {w:World} {K:PySem.W.Frag} {mg:Str → Option Value} {base:Heap} {k:Nat} {f:Addr} {name qual:Str} {params:Arguments} {body:List Stmt} {scope:Scope} {dV kV doc pm cdv ct oc:Value} {an od:Option Addr}
  {osl:Array (Option Value)} {N ps:List Str} {sp:Sp} (lk:K.lookup f = some ⟨oc,od,.func (PySem.W.fnOf name qual params body scope dV kV doc pm an cdv ct),osl⟩) (hcd:PySem.W.codeIn K cdv qual = true) (S:ZaJ N ps scope)
  (len:∀ vs H Q E,sp vs H Q E → vs.length = ps.length)
  (hbody:∀ (A:Around) (outer:List Env) (s:Shared) (H:Hp) (vs:List V) (Q:VK) (E:XK),ZdL k (A.deeper (envOfC qual scope s.heap.objs.size f cdv)) → sp vs H Q E →
   ∃ t,PSs (ZkS CX P w K mg base N qual scope f cdv A outer s H E) body t ∧ t { nx:=fun _ H'=>Q .non H',rt:=Q } (start N vs) H):
  Zfo P w K mg base CX (k + 1) f (PySem.W.fnOf name qual params body scope dV kV doc pm an cdv ct) ps sp:=by
 refine ⟨len,fun A outer s H args us vs Q E hr e0 hb r hsp=>?_⟩
 have hl:=len _ _ _ _ hsp
 have KX:K.In s.heap:=e0.mod.kin.keeps fun b o e=>(e0.bs b o e).1
 have lim:s.heap.NoLimit:=e0.mod.nolimit.keeps fun b o e=>(e0.bs b o e).1
 have hkind:∀ y ∈ ps.zip us,scope.names.lookup y.1 = some .local ∨ (scope.names.lookup y.1 = some .cell ∧ ((cellsFrom (s.heap.objs.size + 1) scope.names []).lookup y.1).isSome = true):=fun ⟨n,v⟩ hy=>by
  rcases S.par n (List.of_mem_zip hy).1 with q | q
  ·exact .inl q
  ·exact .inr ⟨q,PySem.W.cellsFrom_some _ _ _ (.inl q)⟩
 refine codeAny_call_function hr.depth (KX _ _ lk) rfl S.co S.gen rfl (PySem.W.codeRec_of KX hcd) (hb _ _ _ _ ?_)
 refine wpAny_newFunctionEnv_cells S.kind hkind fun env he s1 x=>?_
 subst he
 refine ⟨lim.keeps x.toInCall.keep,codeAny_func ?_⟩
 obtain ⟨t,ht,hq⟩:=hbody A outer s H vs Q E (hr.deeper _) hsp
 have I:Inv (ZkS CX P w K mg base N qual scope f cdv A outer s H E) [] (start N vs) H s1:=Zm2 S hr.hd e0 hl r x
 refine wpAny_mono (ht [] s1 (start N vs) H _ I hq) (fun fl s' hs=>?_) fun e s' hs=>hs
 have fin:∀ {σ':St} {H':Hp} {v:V} {u:Value},Inv (ZkS CX P w K mg base N qual scope f cdv A outer s H E) [] σ' H' s' → RelV v u → Q v H' → CE outer P w H s Q u s':=
  fun {σ' H' v u} J rv q=>⟨v,H',J.os,J.bare,J.base,J.hok,rv,q⟩
 cases fl with
 | ret u=>
  obtain ⟨v,σ',H',J,rv,q⟩:=hs
  exact fin J rv q
 | next=>
  obtain ⟨σ',H',J,q⟩:=hs
  exact fin (v:=V.non) (u:=Value.none) J rfl q
 | brk=>
  obtain ⟨_,_,_,q⟩:=hs
  exact False.elim q
 | cont=>
  obtain ⟨_,_,_,q⟩:=hs
  exact False.elim q
end L2
namespace L2
open PySem PySem.Spec PyProof.Rows
section
variable {X:Cx} {x:Str} {p pos:Pos} {e:Expr} {es:List Expr} {t:TA} {id T:String} {r:List V → Hp → VK → Prop}
def tCB (r:List V → Hp → VK → Prop) (t:TA):TE:=fun σ H Q=>t σ H fun vs H1=>r vs H1 Q
theorem ZkF (hc:ZbA X (.builtin id) r) (hg:Gl X x) (hm:X.mg x = none) (hv:bootBuiltins x = some (.builtin id)) (ha:PA X (e :: es) t) (hn:x ≠ "__name__":=by decide) (hdb:(x == ("__debug__":Str)) = false:=by decide)
  (he:starEach (e :: es) X.env = (false,eval e X.env) :: starEach es X.env:=by rfl) (hpl:(backTo pos (starEach es X.env)).any (·.1) = false:=by rfl):PE X (.Call (.Name x p) (e :: es) [] pos) (tCB r t):=by
 intro pins s σ H Q I h
 refine wpAny_Call_Name_kw (ZhT I hg hm hv ?_ hn hdb)
 exact PyProof.Rows.callWith_builtin1 (thn (ha pos pins s σ H _ I h) fun us s1 ⟨vs,H1,I1,r1,q1⟩=>hc pins s1 σ H1 vs us Q I1 r1 q1) he hpl
theorem Zm1 (hc:ZbA X (.type T) r) (hg:Gl X x) (hm:X.mg x = none) (hv:bootBuiltins x = some (.type T)) (ha:PA X (e :: es) t) (hn:x ≠ "__name__":=by decide) (hdb:(x == ("__debug__":Str)) = false:=by decide)
  (he:starEach (e :: es) X.env = (false,eval e X.env) :: starEach es X.env:=by rfl) (hpl:(backTo pos (starEach es X.env)).any (·.1) = false:=by rfl):PE X (.Call (.Name x p) (e :: es) [] pos) (tCB r t):=by
 intro pins s σ H Q I h
 refine wpAny_Call_Name_kw (ZhT I hg hm hv ?_ hn hdb)
 exact PyProof.Rows.callWith_type1 (thn (ha pos pins s σ H _ I h) fun us s1 ⟨vs,H1,I1,r1,q1⟩=>hc pins s1 σ H1 vs us Q I1 r1 q1) he hpl
end
end L2
namespace HT
open PySem PyProof.Rows
section
open PySem.SeqAt
open PySem.AutoSeq1 (wpAny_loadPart')
open PySem.MeetsSeq PySem.MeetsSeq2 PySem.MeetsSeq3
end
section
variable {prog:Program} {w:World} {A:Around} {E:Value → Shared → Prop} {s:Shared}
theorem cat_tup {t b:Addr} {vs ws:List Value} {Q:Value → Shared → Prop} (ht:IsTup s.heap t vs.toArray) (hb:IsTup s.heap b ws.toArray) (hv:vs ≠ [])
  (h1:ws = [] → Q (.ref t) s) (h2:ws ≠ [] → Q (.ref s.heap.objs.size) { s with heap:=s.heap.push { cls:=.type "tuple",data:=.seq (vs ++ ws).toArray } })
  (hsz:vs.length + ws.length ≤ sizeLine):wpAny (model prog w) A (binaryOp .Add (.ref t) (.ref b)) Q E s:=by
 obtain ⟨⟨cls,dd,data,sl⟩,ho,hc,n,hd⟩:=id ht
 obtain ⟨⟨cls2,dd2,data2,sl2⟩,ho2,hc2,n2,hd2⟩:=id hb
 simp only at hc hd hc2 hd2
 subst hc hd hc2 hd2
 have e:vs.toArray ++ ws.toArray = (vs ++ ws).toArray:=by simp
 by_cases hw:ws = []
 ·exact concat_meets ⟨_,ho,rfl⟩ ⟨_,ho2,rfl⟩ noFill_tuple_add seq_tuple_add PySem.F.slot_tuple_add PySem.F.entry_tuple_add (PySem.F.args_tuple_add_2 _ _)
   (tuple_addW1 t b vs.toArray ws.toArray n n2 dd dd2 sl sl2 (by simpa using hv) (by simp [hw])) ⟨ho,ho2,h1 hw⟩
 ·refine concat_meets ⟨_,ho,rfl⟩ ⟨_,ho2,rfl⟩ noFill_tuple_add seq_tuple_add PySem.F.slot_tuple_add PySem.F.entry_tuple_add (PySem.F.args_tuple_add_2 _ _)
   (tuple_addW2 t b vs.toArray ws.toArray n n2 dd dd2 sl sl2 (by simpa using hv) (by simpa using hw) (by rw [List.size_toArray,List.size_toArray]; exact hsz)) ⟨ho,ho2,?_⟩
  rw [e]
  exact h2 hw
noncomputable def sIx (n d:Nat):Option Int → Nat
 | none=>d
 | some v=>if v < 0 then (v + (n:Int)).toNat else min v.toNat n
theorem Zil (n d:Nat):sIx n d none = d:=rfl
theorem ZjR (n d k:Nat):sIx n d (some (k:Int)) = min k n:=by
 show (if (k:Int) < 0 then ((k:Int) + (n:Int)).toNat else min (k:Int).toNat n) = min k n
 rw [if_neg (Int.not_lt.2 (Int.natCast_nonneg _)),Int.toNat_natCast]
theorem ZjP (n d:Nat) (hd:d ≤ n) (o:Option Int):sIx n d o ≤ n:=by
 cases o with
 | none=>exact hd
 | some v=>
  show (if v < 0 then (v + (n:Int)).toNat else min v.toNat n) ≤ n
  by_cases hv:v < 0
  ·rw [if_pos hv]; omega
  ·rw [if_neg hv]; exact Nat.min_le_right _ _
theorem Zl8 (v:Int) (n d:Nat):(if v < 0 then max (v + (n:Int)) 0 else min v (n:Int)) = ((sIx n d (some v):Nat):Int):=by
 show (if v < 0 then max (v + (n:Int)) 0 else min v (n:Int)) = (((if v < 0 then (v + (n:Int)).toNat else min v.toNat n):Nat):Int)
 by_cases hv:v < 0
 ·simp only [if_pos hv]; exact clA _
 ·simp only [if_neg hv]; exact clB _ _ hv
theorem ZlW (lo hi:Option Int) (n:Nat):Builtin.Slice.sliceAdjust lo hi 1 (n:Int) = (((sIx n 0 lo:Nat):Int),((sIx n n hi:Nat):Int)):=by
 have h1:¬ ((1:Int) < 0):=by decide
 unfold Builtin.Slice.sliceAdjust
 simp only [h1,if_false]
 refine Prod.ext ?_ ?_
 ·cases lo with
  | none=>rfl
  | some v=>exact Zl8 v n 0
 ·cases hi with
  | none=>rfl
  | some v=>exact Zl8 v n n
theorem Zlg (i j:Nat):Builtin.Slice.slicePlaces (i:Int) (j:Int) 1 = j - i:=by
 unfold Builtin.Slice.slicePlaces
 have h1:(1:Int) > 0:=by decide
 simp only [h1,if_true,Int.ediv_one]
 split <;> omega
theorem Ziq {v:Value} {o:Option Int} {Q:Option Int → Shared → Prop} (p:IsPart v o) (h:Q o s):wpAny (model prog w) A (Builtin.Slice.slicePartIndex v) Q E s:=by
 cases p with
 | none=>exact slicePart_none h
 | int i t=>exact slicePart_int h
theorem sliceApplied_gen {sl:Addr} {vl vu:Value} {lo hi:Option Int} {n:Nat} {Q:Int × Int × Nat → Shared → Prop} (hs:s.heap.IsSliceOf sl vl vu .none) (pl:IsPart vl lo) (pu:IsPart vu hi)
  (h:Q (((sIx n 0 lo:Nat):Int),1,sIx n n hi - sIx n 0 lo) s):wpAny (model prog w) A (Builtin.Slice.sliceApplied (.ref sl) (pure (n:Int))) Q E s:=by
 obtain ⟨os,hos,hcs,hds⟩:=id hs
 unfold Builtin.Slice.sliceApplied Builtin.Slice.sliceFields
 refine wpAny_bind (wpAny_bind (wpAny_field hos hds (x:=vl) rfl (wpAny_bind (wpAny_field hos hds (x:=vu) rfl (wpAny_bind (wpAny_field hos hds (x:=.none) rfl (wpAny_pure ?_)))))))
 refine wpAny_bind (slicePart_none ?_)
 show wpAny _ _ (if ((1:Int) == 0) = true then _ else _) _ _ s
 rw [if_neg (by decide)]
 refine wpAny_bind (Ziq pl (wpAny_bind (Ziq pu (wpAny_bind (wpAny_pure ?_)))))
 show wpAny _ _ (match Builtin.Slice.sliceAdjust lo hi 1 (n:Int) with | (lo,hi)=>pure (lo,(1:Int),Builtin.Slice.slicePlaces lo hi 1)) _ _ s
 rw [ZlW lo hi n]
 show wpAny _ _ (pure (((sIx n 0 lo:Nat):Int),(1:Int),Builtin.Slice.slicePlaces ((sIx n 0 lo:Nat):Int) ((sIx n n hi:Nat):Int) 1)) _ _ s
 rw [Zlg]
 exact wpAny_pure h
theorem Zop (xs:Array Value) (i k:Nat):((List.range k).filterMap fun (m:Nat)=>xs[((i:Int) + (m:Int) * 1).toNat]?).toArray = ((xs.toList.drop i).take k).toArray:=by
 have e:(fun (m:Nat)=>xs[((i:Int) + (m:Int) * 1).toNat]?) = fun m=>xs[i + m]?:=by
  funext m
  have:((i:Int) + (m:Int) * 1).toNat = i + m:=by omega
  rw [this]
 rw [e]
 have:=pick_run xs i k
 rw [List.filterMap_map] at this
 have e2:((fun x=>xs[x]?) ∘ fun x=>i + x) = fun m=>xs[i + m]?:=rfl
 rw [e2] at this
 rw [this]
theorem getItem_tuple_cut {t sl:Addr} {items:Array Value} {vl vu:Value} {lo hi:Option Int} {Q:Value → Shared → Prop} (ht:IsTup s.heap t items) (hs:s.heap.IsSliceOf sl vl vu .none) (pl:IsPart vl lo) (pu:IsPart vu hi)
  (hw:¬ (sIx items.size 0 lo = 0 ∧ sIx items.size items.size hi = items.size))
  (h:Q (.ref s.heap.objs.size) { s with heap:=s.heap.push { cls:=.type "tuple",data:=.seq ((items.toList.drop (sIx items.size 0 lo)).take (sIx items.size items.size hi - sIx items.size 0 lo)).toArray } })
  (hsz:items.size ≤ sizeLine):wpAny (model prog w) A (getItem (.ref t) (.ref sl)) Q E s:=by
 have htake:sizeOk (.seq ((items.toList.drop (sIx items.size 0 lo)).take (sIx items.size items.size hi - sIx items.size 0 lo)).toArray):=by
  show ((items.toList.drop (sIx items.size 0 lo)).take (sIx items.size items.size hi - sIx items.size 0 lo)).toArray.size ≤ sizeLine
  rw [List.size_toArray,List.length_take,List.length_drop,Array.length_toList]
  exact lD 3 85606880155602945 T1 hsz (Nat.sub_le _ _) (Nat.min_le_right _ _)
 have hj:sIx items.size items.size hi ≤ items.size:=ZjP _ _ (Nat.le_refl _) hi
 obtain ⟨os,hos,hcs,hds⟩:=id hs
 have hTs:s.TypeIs (.ref sl) "slice":=⟨os,hos,hcs⟩
 unfold getItem
 try with_reducible refine wpAny_holding ?_
 first | refine wpAny_bind (wpAny_pure ?_) | skip
 refine wpAny_bind (wpAny_sequenceKey ht.typeIs (by decide) ?_)
 refine wpAny_bind (wpAny_callSpecial?_slot (name:=Str.ofString "__getitem__") ht.typeIs PyProof.Rows.slot_tuple_getitem
  (wpAny_call_entry PyProof.Rows.slot_tuple_getitem ht.typeIs entry_tuple_getitem ?_ (args_tuple_getitem _ _)))
 show wpAny _ _ (Builtin.Tuple.tupleItemsOf (.ref t) >>= _) _ _ s
 refine wpAny_bind (tupleItemsOf_ ht ?_)
 refine wpAny_bind (wpAny_typeOf hTs ?_)
 rw [if_pos (by decide)]
 refine wpAny_bind (sliceApplied_gen hs pl pu ?_)
 have hno:¬ ((((sIx items.size 0 lo:Nat):Int) == 0 && (1:Int) == 1 && (sIx items.size items.size hi - sIx items.size 0 lo) == items.size) = true):=by
  intro q
  rw [Bool.and_eq_true,Bool.and_eq_true] at q
  have q1:((sIx items.size 0 lo:Nat):Int) = 0:=eq_of_beq q.1.1
  have q2:sIx items.size items.size hi - sIx items.size 0 lo = items.size:=eq_of_beq q.2
  exact hw ⟨by exact Nat.le_antisymm (iN [_] [] 1 3759016097 T1 q1) (Nat.zero_le _),by exact Nat.le_antisymm hj (lC 2 2268279672881 T1 q2 (Nat.sub_le _ _))⟩
 show wpAny _ _ (if (((sIx items.size 0 lo:Nat):Int) == 0 && (1:Int) == 1 && (sIx items.size items.size hi - sIx items.size 0 lo) == items.size) = true then _ else _) _ _ s
 rw [if_neg hno,Zop]
 first
  | exact wpAny_bind (m:=Builtin.Tuple.tupleExact _) (wpAny_newObj_type (wpAny_pure ⟨_,rfl,wpAny_pure h⟩) htake)
  | exact wpAny_bind (m:=Builtin.Tuple.tupleExact _) (wpAny_newObj_type (wpAny_bind (wpAny_pure (wpAny_pure ⟨_,rfl,wpAny_pure h⟩))) htake)
  | exact wpAny_bind (wpAny_bind (m:=Builtin.Tuple.tupleExact _) (wpAny_newObj_type (wpAny_pure (wpAny_pure ⟨_,rfl,wpAny_pure h⟩)) htake))
  | exact wpAny_bind (wpAny_bind (m:=Builtin.Tuple.tupleExact _) (wpAny_newObj_type (wpAny_pure ⟨_,rfl,wpAny_pure h⟩) htake))
end
end HT
namespace L2
open PySem PySem.Spec PyProof.Rows
noncomputable abbrev TO:=St → Hp → (Option Int → Hp → Prop) → Prop
def PO (X:Cx) (e:Option Expr) (t:TO):Prop:=
 ∀ (pins:List (Addr × Obj)) (s:Shared) (σ:St) (H:Hp) (Q:Option Int → Hp → Prop),Inv X pins σ H s → t σ H Q →
  wpAny (model X.prog X.w) X.A (evalPart e X.env) (fun u s'=>∃ o H',Inv X pins σ H' s' ∧ IsPart u o ∧ Q o H') X.xe s
def ZqQ:TO:=fun _ H Q=>Q none H
def Zt8 (t:TE):TO:=fun σ H Q=>t σ H fun x H1=>∃ i,x = .int i ∧ Q (some i) H1
section
variable {X:Cx} {e:Expr} {te:TE} {lo hi:Option Expr} {tl th:TO} {pos p2:Pos}
theorem Zqy:PO X none ZqQ:=by
 intro pins s σ H Q I h
 rw [evalPart_none]
 exact wpAny_pure ⟨none,H,I,.none,h⟩
theorem Zqo (h:PE X e te):PO X (some e) (Zt8 te):=by
 intro pins s σ H Q I hw
 rw [evalPart_some]
 refine thn (h pins s σ H _ I hw) fun u s1 zz1=>?_
 obtain ⟨x,H1,I1,r1,q1⟩:=zz1
 obtain ⟨i,rfl,q⟩:=q1
 obtain ⟨t,rfl⟩:=r1
 exact ⟨some i,H1,I1,.int i t,q⟩
def SlR (X:Cx) (r:V → Option Int → Option Int → Hp → VK → Prop):Prop:=
 ∀ (pins:List (Addr × Obj)) (s:Shared) (σ:St) (H:Hp) (x:V) (v vl vu:Value) (lo hi:Option Int) (sl:Addr) (Q:VK),Inv X pins σ H s → RelV x v → s.heap.IsSliceOf sl vl vu .none → IsPart vl lo → IsPart vu hi → r x lo hi H Q →
  ∃ T id,typeLookup (.type T) "__getitem__" = pure (some (.builtin id)) ∧ s.TypeIs v T ∧ wpAny (model X.prog X.w) X.A (getItem v (.ref sl)) (EP X pins σ Q) X.xe s
theorem SlR.or {r r':V → Option Int → Option Int → Hp → VK → Prop} (h:SlR X r) (h':SlR X r'):SlR X (fun x lo hi H Q=>r x lo hi H Q ∨ r' x lo hi H Q):=by
 intro pins s σ H x v vl vu lo hi sl Q I rx hs pl pu q
 rcases q with q | q
 ·exact h pins s σ H x v vl vu lo hi sl Q I rx hs pl pu q
 ·exact h' pins s σ H x v vl vu lo hi sl Q I rx hs pl pu q
def tSl (r:V → Option Int → Option Int → Hp → VK → Prop) (te:TE) (tl th:TO):TE:=fun σ H Q=>te σ H fun x H1=>tl σ H1 fun l H2=>th σ H2 fun u H3=>r x l u H3 Q
theorem Zoi {r:V → Option Int → Option Int → Hp → VK → Prop} (hr:SlR X r) (he:PE X e te) (hl:PO X lo tl) (hu:PO X hi th):PE X (.Subscript e (.Slice lo hi none p2) pos) (tSl r te tl th):=by
 intro pins s σ H Q I h
 refine Subscript_ (thn (he pins s σ H _ I h) fun v s1 zz1=>?_)
 obtain ⟨x,H1,I1,r1,q1⟩:=zz1
 refine wpAny_Slice (thn (hl pins s1 σ H1 _ I1 q1) fun vl s2 ⟨l,H2,I2,pl,q2⟩=>thn (hu pins s2 σ H2 _ I2 q2) fun vu s3 zz1=>?_)
 obtain ⟨u,H3,I3,pu,q3⟩:=zz1
 rw [evalPart_none]
 refine wpAny_pure ?_
 have I4:Inv X pins σ H3 { s3 with heap:=s3.heap.push { cls:=.type "slice",data:=.fields #[vl,vu,.none] } }:=I3.kept (t':=s3.toks) fun b ob q=>Heap.get?_push_of_some _ q
 obtain ⟨T,id,hT,ht,hg⟩:=hr pins { s3 with heap:=s3.heap.push { cls:=.type "slice",data:=.fields #[vl,vu,.none] } } σ H3 x v vl vu l u s3.heap.objs.size Q I4 r1 (Heap.IsSliceOf.new ..) pl pu q3
 show wpAny (model X.prog X.w) X.A (subscriptTail e (.Slice lo hi none p2) v (.ref s3.heap.objs.size)) (EP X pins σ Q) X.xe { s3 with heap:=s3.heap.push { cls:=.type "slice",data:=.fields #[vl,vu,.none] } }
 exact tail_any (ops:=[.ref s3.heap.objs.size,v]) ht hT hg (by with_unfolding_all rfl)
noncomputable def ZkP (xs:List V) (lo hi:Option Int):List V:=(xs.drop (HT.sIx xs.length 0 lo)).take (HT.sIx xs.length xs.length hi - HT.sIx xs.length 0 lo)
theorem Zhp (xs:List V) (lo hi:Option Int):(ZkP xs lo hi).length ≤ xs.length:=by
 unfold ZkP
 rw [List.length_take,List.length_drop]
 exact Nat.le_trans (Nat.min_le_right _ _) (Nat.sub_le _ _)
noncomputable def Zvw (K:PySem.W.Frag):V → Option Int → Option Int → Hp → VK → Prop:=fun x lo hi H Q=>∃ a xs,x = .ref a ∧ SqT K H a xs ∧
 ¬ (HT.sIx xs.length 0 lo = 0 ∧ HT.sIx xs.length xs.length hi = xs.length) ∧ ∀ p,H p = none → Q (.ref p) (upd H p (.tup (ZkP xs lo hi)))
theorem Zr8:SlR X (Zvw X.K):=by
 intro pins s σ H x v vl vu lo hi sl Q I rx hs pl pu h
 obtain ⟨a,xs,rfl,hx,hw,q⟩:=h
 cases rx
 obtain ⟨its,r,ht,hz⟩:=I.tuple hx
 have hlen:its.toArray.size = xs.length:=by rw [List.size_toArray]; exact r.length.symm
 refine ⟨"tuple",_,PyProof.Rows.slot_tuple_getitem.lookup,ht.typeIs,?_⟩
 refine HT.getItem_tuple_cut ht hs pl pu (by rw [hlen]; exact hw) ?_ (by rw [hlen]; exact hz)
 rw [hlen]
 refine ⟨.ref s.heap.objs.size,_,I.laid (t':=s.toks) (o:=.tup (ZkP xs lo hi)) (fun b ob q=>Heap.get?_push_of_some _ q) (Nat.le_refl _) ?_,rfl,q _ (I.hok.fresh (Nat.le_refl _))⟩
 exact ⟨Nat.le_trans (Zhp xs lo hi) hz,_,(r.drop (HT.sIx xs.length 0 lo)).take (HT.sIx xs.length xs.length hi - HT.sIx xs.length 0 lo),ZeE.new _ _⟩
def ZuK (K:PySem.W.Frag):R2:=fun x y H Q=>∃ a b xs ys,x = .ref a ∧ y = .ref b ∧ SqT K H a xs ∧ SqT K H b ys ∧ xs ≠ [] ∧ xs.length + ys.length ≤ sizeLine ∧
 (ys = [] → Q (.ref a) H) ∧ (ys ≠ [] → ∀ p,H p = none → Q (.ref p) (upd H p (.tup (xs ++ ys))))
theorem Vals.nil_iff {xs:List V} {us:List Value} (r:Vals xs us):us = [] ↔ xs = []:=by
 cases r with
 | nil=>simp
 | cons _ _=>simp
theorem Zp8:OpR X (binaryOp .Add) (ZuK X.K):=by
 intro pins s σ H x y v u Q I rx ry h
 obtain ⟨a,b,xs,ys,rfl,rfl,ha,hb,hx,hz,q1,q2⟩:=h
 cases rx
 cases ry
 obtain ⟨its,r1,p1,_⟩:=I.tuple ha
 obtain ⟨its2,r2,p2,_⟩:=I.tuple hb
 refine HT.cat_tup p1 p2 (fun z=>hx (r1.nil_iff.mp z)) (fun z=>⟨.ref a,H,I,rfl,q1 (r2.nil_iff.mp z)⟩) (fun z=>?_) (by rw [← r1.length,← r2.length]; exact hz)
 refine ⟨.ref s.heap.objs.size,_,I.laid (t':=s.toks) (o:=.tup (xs ++ ys)) (fun b ob q=>Heap.get?_push_of_some _ q) (Nat.le_refl _) ?_,rfl,q2 (fun w=>z (r2.nil_iff.mpr w)) _ (I.hok.fresh (Nat.le_refl _))⟩
 exact ⟨by rw [List.length_append]; exact hz,_,r1.append r2,ZeE.new _ _⟩
end
end L2
namespace L2
open PySem PySem.Spec PyProof.Rows
noncomputable def ixN (n:Nat) (i:Int):Option Nat:=if 0 ≤ i then (if i < n then some i.toNat else none) else if -(n:Int) ≤ i then some (i + n).toNat else none
noncomputable def atI {α:Type} (xs:List α) (i:Int):Option α:=(ixN xs.length i).bind fun j=>xs[j]?
theorem Zmh {n:Nat} {i:Int} {j:Nat} (h:ixN n i = some j):seqIndex? i n = some j ∧ j < n ∧ -(n:Int) ≤ i ∧ i < n:=by
 unfold ixN at h
 by_cases h0:0 ≤ i
 ·rw [if_pos h0] at h
  by_cases h1:i < n
  ·rw [if_pos h1] at h
   have e:i.toNat = j:=Option.some.inj h
   exact ⟨by rw [seqIndex_of h0 h1,e],by exact iN [_,_,_] [_] 3 0x211008a1280911031 T1 e h1 (Int.toNat_of_nonneg h0),by exact iN [_] [_] 1 144182913 T1 h0,h1⟩
  ·rw [if_neg h1] at h; cases h
 ·rw [if_neg h0] at h
  by_cases h1:-(n:Int) ≤ i
  ·rw [if_pos h1] at h
   have e:(i + n).toNat = j:=Option.some.inj h
   exact ⟨by rw [seqIndex_neg (by exact Int.not_le.1 h0) h1,e],by exact iN [_,_,_] [_] 3 0x211280c08a10ec11031 T1 e h0 (Int.toNat_of_nonneg (iN [_] [_] 1 8851524979073 T1 h1)),h1,by exact iN [_] [_] 1 134811329 T1 h0⟩
  ·rw [if_neg h1] at h; cases h
theorem ZjA {α:Type} {xs:List α} {i:Int} {v:α} (h:atI xs i = some v):∃ j,seqIndex? i xs.length = some j ∧ xs[j]? = some v ∧ j < xs.length ∧ -(xs.length:Int) ≤ i ∧ i < xs.length:=by
 unfold atI at h
 cases e:ixN xs.length i with
 | none=>rw [e] at h; cases h
 | some j=>
  rw [e] at h
  obtain ⟨h1,h2,h3,h4⟩:=Zmh e
  exact ⟨j,h1,h,h2,h3,h4⟩
def Zl5 (b:Expr):Prop:=∀ o i,subscripted b false o i = operate [o,i] (getItem o i)
def IxR (X:Cx) (r:R2):Prop:=
 ∀ (value slice:Expr) (pins:List (Addr × Obj)) (s:Shared) (σ:St) (H:Hp) (x y:V) (v u:Value) (Q:VK),Inv X pins σ H s → RelV x v → RelV y u → r x y H Q →
  subscripted slice false v u = operate [v,u] (getItem v u) → wpAny (model X.prog X.w) X.A (subscriptTail value slice v u) (EP X pins σ Q) X.xe s
def MtR (X:Cx) (id:String) (r:V → List V → Hp → VK → Prop):Prop:=
 ∀ (pins:List (Addr × Obj)) (s:Shared) (σ:St) (H:Hp) (x:V) (xs:List V) (v:Value) (us:List Value) (Q:VK),Inv X pins σ H s → RelV x v → Vals xs us → r x xs H Q →
  wpAny (model X.prog X.w) X.A (call (.builtin id) (v :: us)) (EP X pins σ Q) X.xe s
section
variable {X:Cx} {a b:Expr} {ta tb:TE} {pos:Pos}
theorem IxR.or {r r':R2} (h:IxR X r) (h':IxR X r'):IxR X (fun x y H Q=>r x y H Q ∨ r' x y H Q):=by
 intro value slice pins s σ H x y v u Q I rx ry q hs
 rcases q with q | q
 ·exact h value slice pins s σ H x y v u Q I rx ry q hs
 ·exact h' value slice pins s σ H x y v u Q I rx ry q hs
theorem ZtN {r:R2} (hr:IxR X r) (ha:PE X a ta) (hb:PE X b tb) (hs:Zl5 b):PE X (.Subscript a b pos) (tOp r ta tb):=by
 intro pins s σ H Q I h
 exact Subscript_ (ZrS ha hb I h fun v u s2 x y H2 I2 rx ry q=>hr a b pins s2 σ H2 x y v u Q I2 rx ry q (hs _ _))
def Zt0 (K:PySem.W.Frag):R2:=fun x y H Q=>∃ p xs i v,x = .ref p ∧ y = .int i ∧ SqL K H p xs ∧ atI xs i = some v ∧ Q v H
def ZtR (K:PySem.W.Frag):R2:=fun x y H Q=>∃ p xs i v,x = .ref p ∧ y = .int i ∧ SqT K H p xs ∧ atI xs i = some v ∧ Q v H
def Zuk:R2:=fun x y H Q=>∃ z i c,x = .str z ∧ y = .int i ∧ z.length ≤ sizeLine ∧ atI z.cps.toList i = some c ∧ Q (.str ⟨#[c]⟩) H
theorem ZqT:IxR X (Zt0 X.K):=by
 intro value slice pins s σ H x y v u Q I rx ry h hs
 obtain ⟨p,xs,i,z,rfl,rfl,hq,he,q⟩:=h
 cases rx
 obtain ⟨t,rfl⟩:=ry
 obtain ⟨its,r,pl,hz⟩:=I.list hq
 obtain ⟨j,h1,h2,h3,h4,h5⟩:=ZjA he
 obtain ⟨w,ew,rw'⟩:=r.get h2
 have hl:=r.length
 have hn:=ZjY
 have fin:EP X pins σ Q w s:=⟨z,H,I,rw',q⟩
 by_cases h0:0 ≤ i
 ·have hj:i.toNat = j:=by
   rw [seqIndex_of h0 h5] at h1
   exact Option.some.inj h1
  exact item_listR pl.isList h0 (by omega) (by rw [hj]; simpa using ew) fin hs
 ·have hj:(i + (its.toArray.size:Int)).toNat = j:=by
   rw [seqIndex_neg (by exact Int.not_le.1 h0) h4] at h1
   rw [List.size_toArray,← hl]
   exact Option.some.inj h1
  exact subscriptTail_builtinR (x:=w) pl.isList.typeIs slot_list_getitem.lookup
   (wpAny_getItem_list_neg (Q:=fun r s'=>r = w ∧ EP X pins σ Q r s') pl.isList (by exact Int.not_le.1 h0) (by rw [List.size_toArray] <;> exact iN [_,_] [_] 2 6922527515414561 T1 hl h4) (by omega) (by rw [hj]; simpa using ew) ⟨rfl,fin⟩) hs
theorem ZrT:IxR X (ZtR X.K):=by
 intro value slice pins s σ H x y v u Q I rx ry h hs
 obtain ⟨p,xs,i,z,rfl,rfl,hq,he,q⟩:=h
 cases rx
 obtain ⟨t,rfl⟩:=ry
 obtain ⟨its,r,pl,hz⟩:=I.tuple hq
 obtain ⟨j,h1,h2,h3,h4,h5⟩:=ZjA he
 obtain ⟨w,ew,rw'⟩:=r.get h2
 have hl:=r.length
 have hn:=ZjY
 have fin:EP X pins σ Q w s:=⟨z,H,I,rw',q⟩
 exact subscriptTail_builtinR (x:=w) pl.typeIs slot_tuple_getitem.lookup
  (getItem_tuple (j:=j) (Q:=fun r s'=>r = w ∧ EP X pins σ Q r s') pl (by omega) (by omega) (by rw [List.size_toArray,← hl]; exact h1) (by simpa using ew) ⟨rfl,fin⟩) hs
theorem Zs4:IxR X Zuk:=by
 intro value slice pins s σ H x y v u Q I rx ry h hs
 obtain ⟨z,i,c,rfl,rfl,hz,he,q⟩:=h
 obtain ⟨t,rfl⟩:=rx
 obtain ⟨t',rfl⟩:=ry
 obtain ⟨j,h1,h2,h3,h4,h5⟩:=ZjA he
 have hl:z.cps.toList.length = z.length:=by simp [Str.length]
 rw [hl] at h1 h4 h5
 have hn:=ZjY
 exact tail_any (typeIs_str s z t) slot_str_getitem.lookup (getItem_str (c:=c) (by
  have e1:decide (i < -(2 ^ 63:Int)) = false:=decide_eq_false (by omega)
  have e2:decide (i ≥ 2 ^ 63) = false:=decide_eq_false (by omega)
  rw [e1,e2,Bool.or_false]) (by rw [h1]; simpa using h2) ⟨.str ⟨#[c]⟩,H,I.tok _,⟨_,rfl⟩,q⟩) hs
def rIx (K:PySem.W.Frag):R2:=fun x y H Q=>Zt0 K x y H Q ∨ ZtR K x y H Q ∨ Zuk x y H Q
theorem Zte:IxR X (rIx X.K):=ZqT.or (ZrT.or Zs4)
theorem Inv.lst {pins:List (Addr × Obj)} {σ:St} {H:Hp} {s:Shared} {p:Addr} {xs:List V} (I:Inv X pins σ H s) (h:H p = some (.lst xs)):
  ∃ (its:List Value) (n:Nat),Vals xs its ∧ s.heap.get? p = some { cls:=.type "list",data:=.seq its.toArray n } ∧ xs.length ≤ sizeLine:=by
 obtain ⟨z,its,n,r,e⟩:=I.hok p _ h
 exact ⟨its,n,r,e,z⟩
theorem ZjJ (lo hi:Option Int) (n:Nat):(sliceBounds lo hi none n).1 = ((HT.sIx n 0 lo:Nat):Int) ∧ (sliceBounds lo hi none n).2.1 = ((HT.sIx n n hi:Nat):Int) ∧ (sliceBounds lo hi none n).2.2 = 1:=by
 refine ⟨?_,?_,rfl⟩
 ·cases lo with
  | none=>simp [sliceBounds,HT.sIx]
  | some i=>
   simp only [sliceBounds,HT.sIx,Option.getD_none,show (1:Int) > 0 by decide,if_true]
   by_cases h:i < 0
   ·simp only [h,if_true] <;> exact clC _ _ h
   ·simp only [h,if_false] <;> exact clD _ _ h
 ·cases hi with
  | none=>simp [sliceBounds,HT.sIx]
  | some i=>
   simp only [sliceBounds,HT.sIx,Option.getD_none,show (1:Int) > 0 by decide,if_true]
   by_cases h:i < 0
   ·simp only [h,if_true] <;> exact clC _ _ h
   ·simp only [h,if_false] <;> exact clD _ _ h
theorem ZiA (its:List Value) (lo hi:Option Int):slicePick its.toArray lo hi none = ((its.drop (HT.sIx its.length 0 lo)).take (HT.sIx its.length its.length hi - HT.sIx its.length 0 lo)).toArray:=by
 obtain ⟨h1,h2,h3⟩:=ZjJ lo hi its.toArray.size
 unfold slicePick
 rw [h1,h2,h3]
 simp only [sliceRange_one,pick_run,List.size_toArray] <;> rfl
noncomputable def Zwa (K:PySem.W.Frag):V → Option Int → Option Int → Hp → VK → Prop:=fun x lo hi H Q=>∃ a xs,x = .ref a ∧ SqL K H a xs ∧ ∀ p,H p = none → Q (.ref p) (upd H p (.lst (ZkP xs lo hi)))
theorem ZqL:SlR X (Zwa X.K):=by
 intro pins s σ H x v vl vu lo hi sl Q I rx hs pl pu h
 obtain ⟨a,xs,rfl,hx,q⟩:=h
 cases rx
 obtain ⟨its,r,ht,hz⟩:=I.list hx
 have hlen:=r.length
 refine ⟨"list",_,slot_list_getitem.lookup,ht.isList.typeIs,?_⟩
 refine wpAny_getItem_list_slice ht.isList hs pl pu .none (by simp) ?_ (by rw [List.size_toArray] <;> exact lC 2 2268279672881 T1 hlen hz)
 rw [ZiA,← hlen]
 refine ⟨.ref s.heap.objs.size,_,I.laid (t':=s.toks) (o:=.lst (ZkP xs lo hi)) (fun b ob q=>Heap.get?_push_of_some _ q) (Nat.le_refl _) ?_,rfl,q _ (I.hok.fresh (Nat.le_refl _))⟩
 exact ⟨Nat.le_trans (Zhp xs lo hi) hz,_,0,(r.drop (HT.sIx xs.length 0 lo)).take (HT.sIx xs.length xs.length hi - HT.sIx xs.length 0 lo),Heap.get?_push_size _ rfl⟩
noncomputable def ZfY:V → Bool
 | .non=>true
 | .bl _=>true
 | .int _=>true
 | .str _=>true
 | _=>false
noncomputable def eqV:V → V → Bool
 | .non,.non=>true
 | .bl a,.bl b=>a == b
 | .bl a,.int b=>(if a then 1 else 0) == b
 | .int a,.bl b=>a == (if b then 1 else 0)
 | .int a,.int b=>a == b
 | .str a,.str b=>a == b
 | _,_=>false
theorem Zsq {A:Around} {s:Shared} {y x:V} {u v:Value} (ry:RelV y u) (rx:RelV x v) (fy:ZfY y = true) (fx:ZfY x = true):SeqAt.EqAt A s u v (eqV y x):=by
 cases y with
 | non=>
  cases ry
  cases x with
  | non=>cases rx; exact SeqAt.EqAt.same _
  | bl b=>cases rx; exact SeqAt.EqAt.none_bool b
  | int b=>obtain ⟨t,rfl⟩:=rx; exact SeqAt.EqAt.none_int b t
  | str b=>obtain ⟨t,rfl⟩:=rx; exact SeqAt.EqAt.none_str b t
  | _=>exact absurd (show false = true from fx) Bool.false_ne_true
 | bl a=>
  cases ry
  cases x with
  | non=>cases rx; exact SeqAt.EqAt.bool_none a
  | bl b=>cases rx; exact SeqAt.EqAt.bool_bool a b
  | int b=>obtain ⟨t,rfl⟩:=rx; exact SeqAt.EqAt.bool_int a b t
  | str b=>obtain ⟨t,rfl⟩:=rx; exact SeqAt.EqAt.bool_str a b t
  | _=>exact absurd (show false = true from fx) Bool.false_ne_true
 | int a=>
  obtain ⟨t',rfl⟩:=ry
  cases x with
  | non=>cases rx; exact SeqAt.EqAt.int_none a t'
  | bl b=>cases rx; exact SeqAt.EqAt.int_bool a t' b
  | int b=>obtain ⟨t,rfl⟩:=rx; exact SeqAt.EqAt.int_int a t' b t
  | str b=>obtain ⟨t,rfl⟩:=rx; exact SeqAt.EqAt.int_str a t' b t
  | _=>exact absurd (show false = true from fx) Bool.false_ne_true
 | str a=>
  obtain ⟨t',rfl⟩:=ry
  cases x with
  | non=>cases rx; exact SeqAt.EqAt.str_none a t'
  | bl b=>cases rx; exact SeqAt.EqAt.str_bool a t' b
  | int b=>obtain ⟨t,rfl⟩:=rx; exact SeqAt.EqAt.str_int a t' b t
  | str b=>obtain ⟨t,rfl⟩:=rx; exact SeqAt.EqAt.str_str a t' b t
  | _=>exact absurd (show false = true from fx) Bool.false_ne_true
 | _=>exact absurd (show false = true from fy) Bool.false_ne_true
noncomputable def eqU (x:V) (u:Value):Bool:=match u with
 | .none=>eqV .non x
 | .bool b=>eqV (.bl b) x
 | .int i _=>eqV (.int i) x
 | .str z _=>eqV (.str z) x
 | _=>false
theorem ZoE {x y:V} {u:Value} (r:RelV y u) (f:ZfY y = true):eqU x u = eqV y x:=by
 cases y with
 | non=>cases r; rfl
 | bl b=>cases r; rfl
 | int i=>obtain ⟨t,rfl⟩:=r; rfl
 | str z=>obtain ⟨t,rfl⟩:=r; rfl
 | _=>exact absurd (show false = true from f) Bool.false_ne_true
theorem ZgJ {x:V}:∀ {xs:List V} {us:List Value},Vals xs us → xs.all ZfY = true → us.any (eqU x) = xs.any fun y=>eqV y x
 | _,_,.nil,_=>rfl
 | y :: xs,u :: us,.cons r t,f=>by
  rw [List.all_cons,Bool.and_eq_true] at f
  rw [List.any_cons,List.any_cons,ZoE r f.1,ZgJ t f.2]
theorem Zft {A:Around} {s:Shared} {x:V} {v:Value} (rx:RelV x v) (fx:ZfY x = true):∀ {xs:List V} {us:List Value},Vals xs us → xs.all ZfY = true → ∀ u ∈ us,SeqAt.EqAt A s u v (eqU x u)
 | _,_,.nil,_=>fun u hu=>by cases hu
 | y :: xs,u :: us,.cons r t,f=>fun u' hu=>by
  rw [List.all_cons,Bool.and_eq_true] at f
  rcases List.mem_cons.mp hu with rfl | hu
  ·rw [ZoE r f.1]; exact Zsq r rx f.1 fx
  ·exact Zft rx fx t f.2 u' hu
noncomputable def inV (x:V) (xs:List V):Bool:=xs.any fun y=>eqV y x
def rIn (K:PySem.W.Frag) (neg:Bool):R2:=fun x y H Q=>∃ p xs,y = .ref p ∧ (SqL K H p xs ∨ SqT K H p xs) ∧ ZfY x = true ∧ xs.all ZfY = true ∧ Q (.bl (if neg then !inV x xs else inV x xs)) H
theorem ZnB:OpR X (compareOp .In) (rIn X.K false):=by
 intro pins s σ H x y v u Q I rx ry h
 obtain ⟨p,xs,rfl,hq,fx,fs,q⟩:=h
 cases ry
 rcases hq with hq | hq
 ·obtain ⟨its,r,pl,hz⟩:=I.list hq
  refine SeqAt.in_listAt (eqU x) pl.isList (fun w hw=>Zft rx fx r fs w (by simpa using hw)) ⟨.bl _,H,I,rfl,?_⟩
  rw [show its.toArray.any (eqU x) = its.any (eqU x) by simp,ZgJ r fs]
  exact q
 ·obtain ⟨its,r,pl,hz⟩:=I.tuple hq
  refine SeqAt.in_tupleAt (eqU x) pl (fun w hw=>Zft rx fx r fs w (by simpa using hw)) ⟨.bl _,H,I,rfl,?_⟩
  rw [show its.toArray.any (eqU x) = its.any (eqU x) by simp,ZgJ r fs]
  exact q
theorem ZjK:OpR X (compareOp .NotIn) (rIn X.K true):=by
 intro pins s σ H x y v u Q I rx ry h
 obtain ⟨p,xs,rfl,hq,fx,fs,q⟩:=h
 cases ry
 rcases hq with hq | hq
 ·obtain ⟨its,r,pl,hz⟩:=I.list hq
  refine SeqAt.notIn_listAt (eqU x) pl.isList (fun w hw=>Zft rx fx r fs w (by simpa using hw)) ⟨.bl _,H,I,rfl,?_⟩
  rw [show its.toArray.any (eqU x) = its.any (eqU x) by simp,ZgJ r fs]
  exact q
 ·obtain ⟨its,r,pl,hz⟩:=I.tuple hq
  refine SeqAt.notIn_tupleAt (eqU x) pl (fun w hw=>Zft rx fx r fs w (by simpa using hw)) ⟨.bl _,H,I,rfl,?_⟩
  rw [show its.toArray.any (eqU x) = its.any (eqU x) by simp,ZgJ r fs]
  exact q
theorem ZbA.or {f:Value} {r r':List V → Hp → VK → Prop} (h:ZbA X f r) (h':ZbA X f r'):ZbA X f (fun xs H Q=>r xs H Q ∨ r' xs H Q):=by
 intro pins s σ H xs us Q I rs q
 rcases q with q | q
 ·exact h pins s σ H xs us Q I rs q
 ·exact h' pins s σ H xs us Q I rs q
theorem Zj7:ZbA X (.type "list") (fun xs H Q=>∃ p ys,xs = [.ref p] ∧ (SqL X.K H p ys ∨ SqT X.K H p ys) ∧ ∀ l,H l = none → Q (.ref l) (upd H l (.lst ys))):=by
 intro pins s σ H xs us Q I r h
 obtain ⟨p,ys,rfl,hq,q⟩:=h
 obtain ⟨u,rfl,rx⟩:=vals1 r
 cases rx
 have fin:∀ (its:List Value),Vals ys its → ys.length ≤ sizeLine → ∀ (h':Heap) (c':Nat),(∀ b o',s.heap.get? b = some o' → h'.get? b = some o') →
   h'.get? s.heap.objs.size = some { cls:=.type "list",dict:=none,data:=.seq its.toArray c',slots:=#[] } → EP X pins σ Q (.ref s.heap.objs.size) { s with heap:=h' }:=fun its r' hz h' c' kp e=>
  ⟨.ref s.heap.objs.size,_,I.laid (t':=s.toks) kp (Nat.le_refl _) (show ZbU X.prog X.w _ h' _ (.lst ys) from ⟨hz,its,c',r',e⟩),rfl,q _ (I.hok.fresh (Nat.le_refl _))⟩
 rcases hq with hq | hq
 ·obtain ⟨its,r',pl,hz⟩:=I.list hq
  have hlen:=r'.length
  obtain ⟨o,ho,hc,n,hd⟩:=pl.isList
  exact call_list_seq p (.inl rfl) ho hc hd (fun h' c' kp e=>fin its r' hz h' c' kp e) (by simp only [List.size_toArray] <;> exact lC 2 2268279672881 T1 hlen hz)
 ·obtain ⟨its,r',pl,hz⟩:=I.tuple hq
  have hlen:=r'.length
  obtain ⟨o,ho,hc,n,hd⟩:=pl
  exact call_list_seq p (.inr rfl) ho hc hd (fun h' c' kp e=>fin its r' hz h' c' kp e) (by simp only [List.size_toArray] <;> exact lC 2 2268279672881 T1 hlen hz)
theorem ZiG:ZbA X (.type "tuple") (fun xs H Q=>∃ p ys,xs = [.ref p] ∧ ((SqL X.K H p ys ∧ ∀ l,H l = none → Q (.ref l) (upd H l (.tup ys))) ∨ (SqT X.K H p ys ∧ Q (.ref p) H))):=by
 intro pins s σ H xs us Q I r h
 obtain ⟨p,ys,rfl,h⟩:=h
 obtain ⟨u,rfl,rx⟩:=vals1 r
 cases rx
 rcases h with ⟨hq,q⟩ | ⟨hq,q⟩
 ·obtain ⟨its,r',pl,hz⟩:=I.list hq
  have hlen:=r'.length
  refine call_tuple_list pl.isList (fun h' kp=>?_) (by simp only [List.size_toArray] <;> exact lC 2 2268279672881 T1 hlen hz)
  have I1:Inv X pins σ H { s with heap:=h' }:=I.kept (t':=s.toks) kp
  have I2:Inv X pins σ (upd H h'.objs.size (.tup ys)) { s with heap:=h'.push { cls:=.type "tuple",data:=.seq its.toArray } }:=
   I1.laid (t':=s.toks) (fun b o e=>Heap.get?_push_of_some _ e) (Nat.le_refl _) (show ZbU X.prog X.w _ _ _ (.tup ys) from ⟨hz,its,r',ZeE.new _ _⟩)
  exact ⟨.ref h'.objs.size,_,I2,rfl,q _ (I1.hok.fresh (Nat.le_refl _))⟩
 ·obtain ⟨its,r',pl,hz⟩:=I.tuple hq
  exact call_tuple_same pl ⟨.ref p,H,I,rfl,q⟩
def tyV (K:PySem.W.Frag) (T:String) (x:V) (H:Hp):Prop:=match x with
 | .str _=>T = "str"
 | .int _=>T = "int"
 | .ref p=>(T = "list" ∧ ∃ xs,SqL K H p xs) ∨ (T = "tuple" ∧ ∃ o,K.lookup p = some o ∧ o.cls = .type "tuple" ∧ o.dict = none) ∨
   (T = "dict" ∧ ((∃ kvs,H p = some (.dK kvs)) ∨ ∃ kvs,H p = some (.dT kvs))) ∨ (T = "set" ∧ ∃ S n,H p = some (.set S n))
 | _=>False
theorem ZoM {pins:List (Addr × Obj)} {σ:St} {H:Hp} {s:Shared} {T:String} {x:V} {v:Value} (I:Inv X pins σ H s) (r:RelV x v) (ty:tyV X.K T x H):
  s.TypeIs v T ∧ ∀ a,v = .ref a → ∃ ob,s.heap.get? a = some ob ∧ ob.dict = none:=by
 cases x with
 | str z=>
  obtain ⟨t,rfl⟩:=r
  cases (show T = "str" from ty)
  exact ⟨typeIs_str s z t,fun _ e=>nomatch e⟩
 | int i=>
  obtain ⟨t,rfl⟩:=r
  cases (show T = "int" from ty)
  exact ⟨typeIs_int s i t,fun _ e=>nomatch e⟩
 | ref p=>
  cases r
  rcases ty with ⟨rfl,xs,hq⟩ | ⟨rfl,o,hk,hc,hd⟩ | ⟨rfl,hk⟩ | ⟨rfl,S,n,hk⟩
  ·obtain ⟨its,_,pl,_⟩:=I.list hq
   refine ⟨pl.isList.typeIs,fun a e=>?_⟩
   cases e
   obtain ⟨o,n,e,c,hd,_⟩:=pl
   exact ⟨o,e,hd⟩
  ·refine ⟨⟨o,I.kIn p o hk,hc⟩,fun a e=>?_⟩
   cases e
   exact ⟨o,I.kIn _ o hk,hd⟩
  ·have z:∃ o,s.heap.get? p = some o ∧ o.ExactDict:=by
    rcases hk with ⟨kvs,hk⟩ | ⟨kvs,hk⟩
    ·obtain ⟨_,_,_,_,o,_,_,e,ex,_⟩:=I.hok p _ hk
     exact ⟨o,e,ex⟩
    ·obtain ⟨_,_,_,_,o,_,_,e,ex,_⟩:=I.hok p _ hk
     exact ⟨o,e,ex⟩
   obtain ⟨o,e,ex⟩:=z
   refine ⟨⟨o,e,ex.1⟩,fun a e2=>?_⟩
   cases e2
   exact ⟨o,e,ex.2.1⟩
  ·obtain ⟨o,_,_,_,e,ex,_⟩:=I.hok p _ hk
   refine ⟨⟨o,e,ex.1⟩,fun a e2=>?_⟩
   cases e2
   exact ⟨o,e,ex.2.1⟩
 | _=>exact False.elim ty
def Zug (K:PySem.W.Frag) (T:String) (r:V → List V → Hp → VK → Prop) (to:TE):TE:=fun σ H Q=>to σ H fun x H1=>tyV K T x H1 ∧ r x [] H1 Q
def tBM (K:PySem.W.Frag) (T:String) (r:V → List V → Hp → VK → Prop) (to:TE) (t:TA):TE:=fun σ H Q=>to σ H fun x H1=>tyV K T x H1 ∧ t σ H1 fun xs H2=>r x xs H2 Q
variable {o e:Expr} {es:List Expr} {to:TE} {t:TA} {name:Str} {apos cpos:Pos} {T id:String} {r:V → List V → Hp → VK → Prop}
theorem Zsr (pa:PlainAttrs T) (slot:Slot T name id) (hty:typeOf (.builtin id) = pure (.type "method_descriptor")) (hm:MtR X id r) (ho:PE X o to)
  (hbase:attributeBase o name X.env (eval o X.env) = eval o X.env:=by rfl) (hline:(apos.endLine == cpos.line) = true:=by rfl):PE X (.Call (.Attribute o name apos) [] [] cpos) (Zug X.K T r to):=by
 intro pins s σ H Q I h
 refine wpAny_Call_method0_late hbase hline (thn (ho pins s σ H _ I h) fun v s1 zz1=>?_)
 obtain ⟨x,H1,I1,r1,ty,q1⟩:=zz1
 obtain ⟨h1,h2⟩:=ZoM I1 r1 ty
 exact ⟨T,id,pa,slot,hty,h1,h2,Calls.callWith_builtin rfl (PySem.evalArgs_none (hm pins s1 σ H1 x [] v [] Q I1 r1 .nil q1))⟩
theorem ZoC (pa:PlainAttrs T) (slot:Slot T name id) (hty:typeOf (.builtin id) = pure (.type "method_descriptor")) (hm:MtR X id r) (ho:PE X o to) (ha:PA X (e :: es) t)
  (hbase:attributeBase o name X.env (eval o X.env) = eval o X.env:=by rfl)
  (hfew:((backTo cpos (starEach (e :: es) X.env)).all (fun x=>!x.1) && (backToKw cpos (keywordEach [] X.env)).all (fun x=>x.1.isSome)
   && decide ((e :: es).length + ([]:List Keyword).length + (if ([]:List Keyword).isEmpty then 0 else 1) < 30)) = true:=by rfl)
  (hline:(apos.endLine == cpos.line) = true:=by rfl) (hs:starEach (e :: es) X.env = (false,eval e X.env) :: starEach es X.env:=by rfl) (hplain:(backTo cpos (starEach es X.env)).any (·.1) = false:=by rfl):
  PE X (.Call (.Attribute o name apos) (e :: es) [] cpos) (tBM X.K T r to t):=by
 intro pins s σ H Q I h
 refine wpAny_Call_method_late hbase hfew hline rfl (thn (ho pins s σ H _ I h) fun v s1 zz1=>?_)
 obtain ⟨x,H1,I1,r1,ty,q1⟩:=zz1
 obtain ⟨h1,h2⟩:=ZoM I1 r1 ty
 refine ⟨T,id,pa,slot,hty,h1,h2,?_⟩
 have hA:=ha cpos pins s1 σ H1 _ I1 q1
 rw [hs] at hA ⊢
 refine Calls.callWith_builtin (by show (false || (backTo cpos (starEach es X.env)).any (·.1)) = false; rw [hplain] <;> rfl) (Calls.evalArgs_plain ?_)
 exact thn hA fun us s2 ⟨vs,H2,I2,r2,q2⟩=>hm pins s2 σ H2 x vs v us Q I2 r1 r2 q2
/- xs.append(e),list.index on a module's tuple .. are MtR facts of 06m -/
end
end L2
namespace L2
open PySem PySem.Spec PyProof.Rows
def MtM (X:Cx) (id:String) (r:V → List V → Hp → VK → Prop):Prop:=
 ∀ (pins:List (Addr × Obj)) (s:Shared) (σ:St) (H:Hp) (x:V) (xs:List V) (v:Value) (us:List Value) (Q:VK),Inv X pins σ H s → RelV x v → Vals xs us → r x xs H Q →
  wpAny (model X.prog X.w) X.A (call (.builtin id) (v :: us)) (EP X pins σ Q) X.xe s
theorem Vals.one:∀ {x:V} {us:List Value},Vals [x] us → ∃ u,us = [u] ∧ RelV x u
 | _,_,.cons r .nil=>⟨_,rfl,r⟩
theorem Vals.two:∀ {x y:V} {us:List Value},Vals [x,y] us → ∃ u v,us = [u,v] ∧ RelV x u ∧ RelV y v
 | _,_,_,.cons r (.cons q .nil)=>⟨_,_,rfl,r,q⟩
theorem Vals.zero:∀ {us:List Value},Vals [] us → us = []
 | _,.nil=>rfl
theorem Vals.dropLast {xs:List V} {us:List Value} (h:Vals xs us):Vals xs.dropLast us.dropLast:=by
 induction h with
 | nil=>exact .nil
 | cons r t ih=>
  cases t with
  | nil=>exact .nil
  | cons q t'=>exact .cons r ih
theorem Vals.eraseIdx:∀ {xs:List V} {us:List Value} (i:Nat),Vals xs us → Vals (xs.eraseIdx i) (us.eraseIdx i)
 | _,_,_,.nil=>.nil
 | _,_,0,.cons _ t=>t
 | _,_,i + 1,.cons r t=>.cons r (Vals.eraseIdx i t)
theorem Vals.reverse {xs:List V} {us:List Value} (h:Vals xs us):Vals xs.reverse us.reverse:=by
 induction h with
 | nil=>exact .nil
 | cons r t ih=>rw [List.reverse_cons,List.reverse_cons]; exact Vals.append ih (.cons r .nil)
theorem Vals.rep {xs:List V} {us:List Value} (h:Vals xs us):∀ k:Nat,Vals (List.replicate k xs).flatten (List.replicate k us).flatten
 | 0=>.nil
 | k + 1=>by
  rw [List.replicate_succ,List.replicate_succ,List.flatten_cons,List.flatten_cons]
  exact Vals.append h (Vals.rep h k)
theorem ZlB {α:Type} (l:List α):l.eraseIdx (l.length - 1) = l.dropLast:=by
 induction l with
 | nil=>rfl
 | cons a r ih=>
  cases r with
  | nil=>rfl
  | cons b r=>
   have e:(a :: b :: r).length - 1 = ((b :: r).length - 1) + 1:=by
    have h1:(a :: b :: r).length = r.length + 2:=rfl
    have h2:(b :: r).length = r.length + 1:=rfl
    exact Nat.le_antisymm (lE 4 0xa4c30a4c0012a3c2121b1c221a1c031 T1 h2 h1 (Nat.sub_add_cancel (lB 1 687760064561 T1 h1)) (sbA _ _)) (lE 4 0x3a4c00a4c21a3c20121b1c231a1c021 T1 h2 h1 (sbA _ _) (Nat.sub_add_cancel (lB 1 2694955057 T1 h2)))
   rw [e,List.eraseIdx_cons_succ,ih]
   all_goals rfl
theorem Zi2 {α:Type}:∀ (l:List α) (i:Nat),(l.eraseIdx i).length ≤ l.length
 | [],_=>Nat.le_refl _
 | _ :: _,0=>Nat.le_succ _
 | _ :: r,i + 1=>Nat.succ_le_succ (Zi2 r i)
theorem foldl_rep (its:List Value):∀ (k:Nat) (acc:List Value),
  List.foldl (fun x1 x2=>x1 ++ x2) acc.toArray (List.replicate k its.toArray) = (acc ++ (List.replicate k its).flatten).toArray
 | 0,acc=>by simp
 | k + 1,acc=>by
  have e:acc.toArray ++ its.toArray = (acc ++ its).toArray:=by simp
  have e2:(acc ++ its) ++ (List.replicate k its).flatten = acc ++ (List.replicate (k + 1) its).flatten:=by
   rw [List.replicate_succ,List.flatten_cons,List.append_assoc]
  rw [← e2,← foldl_rep its k (acc ++ its),← e,List.replicate_succ,List.foldl_cons]
section
variable {X:Cx} {pins:List (Addr × Obj)} {σ:St} {H:Hp} {s:Shared} {l b:Addr} {xs ys zs:List V}
theorem Inv.lset {its its':List Value} {n:Nat} {f:Array Value → Array Value} {t':Nat} (I:Inv X pins σ H s) (hH:H l = some (.lst xs))
  (e:s.heap.get? l = some { cls:=.type "list",data:=.seq its.toArray n }) (hf:f its.toArray = its'.toArray) (hv:Vals ys its') (hz:ys.length ≤ sizeLine):
  Inv X pins σ (upd H l (.lst ys)) { s with heap:=s.heap.update l (Obj.mapSeq f),toks:=t' }:=by
 have q:=PySem.IsL.update e f
 rw [hf] at q
 refine I.write (x:=l) (e:=l) (by rw [hH]; exact trivial) (.inl rfl) (fun b' u hb hu=>(Heap.get?_update_other s.heap (Obj.mapSeq f) (Ne.symm hb)).trans hu) ⟨_,q⟩ ?_
 exact ⟨hz,its',_,hv,q⟩
theorem Inv.lnew {its:List Value} {t':Nat} (I:Inv X pins σ H s) (hv:Vals ys its) (hz:ys.length ≤ sizeLine):
  Inv X pins σ (upd H s.heap.objs.size (.lst ys)) { s with heap:=s.heap.push { cls:=.type "list",data:=.seq its.toArray },toks:=t' }:=
 I.laid (fun _ _ q=>Heap.get?_push_of_some _ q) (Nat.le_refl _) ⟨hz,its,0,hv,Heap.get?_push_size _ rfl⟩
theorem Inv.fresh (I:Inv X pins σ H s):H s.heap.objs.size = none:=I.hok.fresh (Nat.le_refl _)
theorem Inv.lstM (I:Inv X pins σ H s) (hH:H l = some (.lst xs)):xs.length ≤ sizeLine ∧ ∃ (its:List Value) (n:Nat),Vals xs its ∧ xs.length = its.length ∧ s.heap.get? l = some { cls:=.type "list",data:=.seq its.toArray n }:=by
 obtain ⟨z,its,n,r,e⟩:=I.hok l _ hH
 exact ⟨z,its,n,r,r.length,e⟩
theorem ZhX {n:Nat} (h:n ≤ sizeLine):Builtin.List.listTooLong n = false:=by
 unfold Builtin.List.listTooLong
 exact decide_eq_false (by omega)
end
section
variable {X:Cx}
noncomputable def Zmi:V → List V → Hp → VK → Prop:=fun x vs H Q=>∃ l xs y,x = .ref l ∧ vs = [y] ∧ H l = some (.lst xs) ∧ xs.length < sizeLine ∧ Q .non (upd H l (.lst (xs ++ [y])))
theorem Zg2:MtM X "list.append" Zmi:=by
 intro pins s σ H x vs v us Q I rx rv h
 obtain ⟨l,xs,y,rfl,rfl,hH,hz,q⟩:=h
 cases rx
 obtain ⟨u,rfl,ru⟩:=rv.one
 obtain ⟨z,its,n,r,hl,e⟩:=I.lstM hH
 refine call_meets F.slot_list_append ⟨_,e,rfl⟩ F.entry_list_append (F.args_list_append_2 _ _) (PySem.list_append l its.toArray n u (by rw [List.size_toArray]; exact lC 2 2268279672881 T1 hl z)) ⟨e,?_⟩
 refine ⟨.non,_,I.lset (its':=its ++ [u]) hH e (by simp) (r.append (.cons ru .nil)) ?_,rfl,q⟩
 rw [List.length_append,List.length_singleton]
 exact lB 1 6991908881 T1 hz
noncomputable def ZmH:V → List V → Hp → VK → Prop:=fun x vs H Q=>∃ l b xs zs,x = .ref l ∧ vs = [.ref b] ∧ H l = some (.lst xs) ∧ H b = some (.lst zs) ∧ xs.length + zs.length ≤ sizeLine ∧ Q .non (upd H l (.lst (xs ++ zs)))
theorem ZnG:MtM X "list.extend" ZmH:=by
 intro pins s σ H x vs v us Q I rx rv h
 obtain ⟨l,b,xs,zs,rfl,rfl,hH,hB,hz,q⟩:=h
 cases rx
 obtain ⟨u,rfl,ru⟩:=rv.one
 cases ru
 obtain ⟨z,its,n,r,hl,e⟩:=I.lstM hH
 obtain ⟨z2,its2,n2,r2,hl2,e2⟩:=I.lstM hB
 have hsz:its.toArray.size + its2.toArray.size ≤ sizeLine:=by rw [List.size_toArray,List.size_toArray]; exact lE 3 0x413c0402c0132311031 T1 hl2 hl hz
 have hlong:¬ (!its.toArray.isEmpty && Builtin.List.listTooLong (its.toArray.size + its2.toArray.size)) = true:=by
  rw [ZhX hsz,Bool.and_false]
  exact Bool.false_ne_true
 refine call_meets F.slot_list_extend ⟨_,e,rfl⟩ F.entry_list_extend (F.args_list_extend_2 _ _)
  (AutoSeq1.list_extend_list_list_0 l its.toArray n b its2.toArray n2 hlong (by rw [List.size_toArray]; exact lC 2 2268279672881 T1 hl z) (by exact lC 1 0xa2c10c0210c01 T1 hsz)) ⟨e,e2,?_⟩
 refine ⟨.non,_,I.lset (its':=its ++ its2) hH e (by simp) (r.append r2) ?_,rfl,q⟩
 rw [List.length_append]
 exact hz
noncomputable def Zt4:V → List V → Hp → VK → Prop:=fun x vs H Q=>∃ l xs y,x = .ref l ∧ vs = [] ∧ H l = some (.lst xs) ∧ xs[xs.length - 1]? = some y ∧ Q y (upd H l (.lst xs.dropLast))
theorem ZsR:MtM X "list.pop" Zt4:=by
 intro pins s σ H x vs v us Q I rx rv h
 obtain ⟨l,xs,y,rfl,rfl,hH,hy,q⟩:=h
 cases rx
 have hus:=rv.zero
 subst hus
 obtain ⟨z,its,n,r,hl,e⟩:=I.lstM hH
 obtain ⟨u,hu,ru⟩:=r.get hy
 have hy':its.toArray[its.toArray.size - 1]? = some u:=by
  show its.toArray[its.length - 1]? = some u
  rw [← Array.getElem?_toList,← hl]
  exact hu
 refine call_meets F.slot_list_pop ⟨_,e,rfl⟩ F.entry_list_pop (F.args_list_pop_1 _) (MeetsSeq.list_pop_last l its.toArray n u hy' (by rw [List.size_toArray]; exact lC 2 2268279672881 T1 hl z)) ⟨e,?_⟩
 refine ⟨y,_,I.lset (its':=its.dropLast) hH e ?_ r.dropLast ?_,ru,q⟩
 ·show its.toArray.eraseIdxIfInBounds (its.toArray.size - 1) = its.dropLast.toArray
  rw [List.size_toArray,List.eraseIdxIfInBounds_toArray,ZlB]
 ·rw [List.length_dropLast]
  exact Nat.le_trans (Nat.sub_le _ _) z
noncomputable def Zn0:V → List V → Hp → VK → Prop:=fun x vs H Q=>∃ l xs i k y,x = .ref l ∧ vs = [.int i] ∧ H l = some (.lst xs) ∧ -(2 ^ 63) ≤ i ∧ i < 2 ^ 63 ∧ seqIndex? i xs.length = some k ∧ xs[k]? = some y ∧ Q y (upd H l (.lst (xs.eraseIdx k)))
theorem ZoX:MtM X "list.pop" Zn0:=by
 intro pins s σ H x vs v us Q I rx rv h
 obtain ⟨l,xs,i,k,y,rfl,rfl,hH,h1,h2,hk,hy,q⟩:=h
 cases rx
 obtain ⟨u,rfl,ru⟩:=rv.one
 obtain ⟨t,rfl⟩:=ru
 obtain ⟨z,its,n,r,hl,e⟩:=I.lstM hH
 obtain ⟨w,hw,rw'⟩:=r.get hy
 refine call_meets F.slot_list_pop ⟨_,e,rfl⟩ F.entry_list_pop (F.args_list_pop_2 _ _)
  (MeetsSeq.list_pop_at l its.toArray n i t k w (fitsIndex_both h1 h2) (by rw [List.size_toArray,← hl]; exact hk) (by rw [← Array.getElem?_toList]; exact hw) (by rw [List.size_toArray]; exact lC 2 2268279672881 T1 hl z)) ⟨e,?_⟩
 refine ⟨y,_,I.lset (its':=its.eraseIdx k) hH e ?_ (r.eraseIdx k) ?_,rw',q⟩
 ·show its.toArray.eraseIdxIfInBounds k = (its.eraseIdx k).toArray
  rw [List.eraseIdxIfInBounds_toArray]
 ·have:=Zi2 xs k
  exact Nat.le_trans this z
def ZvK:R2:=fun x y H Q=>∃ l b xs zs,x = .ref l ∧ y = .ref b ∧ H l = some (.lst xs) ∧ H b = some (.lst zs) ∧ xs.length + zs.length ≤ sizeLine ∧ ∀ p,H p = none → Q (.ref p) (upd H p (.lst (xs ++ zs)))
theorem ZsW:OpR X (binaryOp .Add) ZvK:=by
 intro pins s σ H x y v u Q I rx ry h
 obtain ⟨l,b,xs,zs,rfl,rfl,hH,hB,hz,q⟩:=h
 cases rx
 cases ry
 obtain ⟨z,its,n,r,hl,e⟩:=I.lstM hH
 obtain ⟨z2,its2,n2,r2,hl2,e2⟩:=I.lstM hB
 refine PySem.P.add_list e e2 ?_ (by rw [List.size_toArray,List.size_toArray]; exact lE 3 0x413c0402c0132311031 T1 hl2 hl hz)
 have ea:its.toArray ++ its2.toArray = (its ++ its2).toArray:=by simp
 rw [ea]
 exact ⟨.ref _,_,I.lnew (t':=s.toks) (r.append r2) (by rw [List.length_append]; exact hz),rfl,q _ I.fresh⟩
def ZvP:R2:=fun x y H Q=>∃ l k xs,x = .ref l ∧ y = .int k ∧ H l = some (.lst xs) ∧ -(2 ^ 63) ≤ k ∧ k < 2 ^ 63 ∧ xs.length * k.toNat ≤ sizeLine ∧
 ∀ p,H p = none → Q (.ref p) (upd H p (.lst (List.replicate k.toNat xs).flatten))
theorem len_rep {α:Type} (xs:List α) (k:Nat):(List.replicate k xs).flatten.length = k * xs.length:=by
 induction k with
 | zero=>simp
 | succ k ih=>rw [List.replicate_succ,List.flatten_cons,List.length_append,ih,Nat.succ_mul,Nat.add_comm]
theorem Zrv:OpR X (binaryOp .Mult) ZvP:=by
 intro pins s σ H x y v u Q I rx ry h
 obtain ⟨l,k,xs,rfl,rfl,hH,h1,h2,hz,q⟩:=h
 cases rx
 obtain ⟨t,rfl⟩:=ry
 obtain ⟨z,its,n,r,hl,e⟩:=I.lstM hH
 have hlen:its.toArray.size * k.toNat ≤ sizeLine:=by rw [List.size_toArray,← hl]; exact hz
 have hcap:¬ its.toArray.size * k.toNat > (2 ^ 63 - 1) / 8:=by
  have:(sizeLine:Nat) ≤ (2 ^ 63 - 1) / 8:=by decide
  omega
 have hfit:¬ (!Builtin.List.listFitsIndex k) = true:=by
  rw [fitsIndex_both h1 h2]
  exact Bool.false_ne_true
 have hlong:¬ Builtin.List.listTooLong (its.toArray.size * k.toNat) = true:=by
  rw [ZhX hlen]
  exact Bool.false_ne_true
 have hnew:List.foldl (fun x1 x2=>x1 ++ x2) #[] (List.replicate (if its.toArray.isEmpty = true then 0 else k.toNat) its.toArray) = (List.replicate k.toNat its).flatten.toArray:=by
  have f0:∀ m:Nat,List.foldl (fun x1 x2=>x1 ++ x2) #[] (List.replicate m its.toArray) = (List.replicate m its).flatten.toArray:=fun m=>by
   have:=foldl_rep its m []
   rw [List.nil_append] at this
   exact this
  rw [f0]
  cases its with
  | nil=>simp
  | cons a r'=>rw [if_neg (by simp)]
 refine wpAny_binaryOp_repeat_ref (T:="list") (U:="int") (by decide) ⟨_,e,rfl⟩ (fun s'=>typeIs_int s' k t) noFill_list_mul F.fills_int_mul F.slot_int_rmul repeat_list F.slot_int_index.lookup
  (call_meets F.slot_int_rmul (typeIs_int s k t) F.entry_int_rmul (F.args_int_rmul_2 _ _) (int___rmul___int_list k t l its.toArray n)
   ⟨e,rfl,⟨_,e,rfl⟩,call_meets F.slot_list_mul ⟨_,e,rfl⟩ F.entry_list_mul (F.args_list_mul_2 _ _) (AutoListH.list___mul___list_int_3 l its.toArray n k t hfit hcap hlong) ⟨e,?_⟩⟩)
 rw [hnew]
 exact ⟨.ref _,_,I.lnew (t':=s.toks) (r.rep k.toNat) (by rw [len_rep,Nat.mul_comm]; exact hz),rfl,q _ I.fresh⟩
end
section
variable {prog:Program} {w:World} {A:Around} {E:Value → Shared → Prop} {s:Shared}
end
section
variable {X:Cx}
end
end L2
namespace Att
open PySem PySem.W PySem.Calls PyProof.Rows
theorem ZhC {P:Params} {h:Heap}:∀ (ns:List Int) (vs:List Value),WellAll P h vs (ns.map WData.int) → IntsAre vs ns:=by
 intro ns
 induction ns with
 | nil=>
  intro vs w
  rw [List.map_nil] at w
  cases w
  exact .nil
 | cons n ns ih=>
  intro vs w
  rw [List.map_cons] at w
  cases w with
  | cons a b=>
   cases a
   exact .cons _ _ (ih _ b)
theorem Znt {l:OpenLaw} {n:Nat} (hn:l.most = some n) {P:Params} {h:Heap} {args:List WData} {vals:List Value}
  (hpre:l.row.toRowW.claim.pre args = true) (hwl:WellAll P h vals args):
  ∃ a vs ns,vals = [Value.ref a] ∧ args = [WData.list (ns.map WData.int)] ∧ h.get? a = some { cls:=.type "list",data:=.seq vs.toArray } ∧ IntsAre vs ns ∧ ns.length ≤ n:=by
 have hsh:WShape.hasAll [] args [.list .int] = true:=(pre_splitW hpre).1
 have hc:l.pre.holds [] { args:=args } = true:=(pre_splitW hpre).2
 obtain ⟨d,r,rfl,h1,h2⟩:=hasAllW_cons hsh
 obtain rfl:=hasAllW_nil h2
 obtain ⟨xs,rfl,h3⟩:=hasW_list h1
 obtain ⟨ns,rfl⟩:=items_int h3
 have hlen:ns.length ≤ n:=by
  unfold OpenLaw.pre at hc
  have h4:(WTm.not (.lt (.lit (.int (n:Int))) (.len (.arg 0)))).holds [] { args:=[.list (ns.map .int)] } = true:=by
   have h4:=(holds_andW hc).1
   rw [hn] at h4
   exact h4
  have h5:=condW_of h4 (w_not (w_lt w_lit (w_len_list (w_arg rfl))))
  rw [List.length_map] at h5
  refine Nat.le_of_not_lt fun q=>?_
  have q':(n:Int) < ((ns.length:Nat):Int):=by exact Int.ofNat_lt.2 q
  first
   | (rw [decide_eq_true q'] at h5; exact absurd h5 (by decide))
   | (simp at h5; omega)
 cases hwl with
 | cons w1 w2=>
  cases w2
  cases w1 with
  | list ho hall=>exact ⟨_,_,ns,rfl,rfl,ho,ZhC ns _ hall,hlen⟩
theorem Znp (l:OpenLaw) (args:List WData):l.row.toRowW.claim.post args (.bool true) args = true:=
 postW_of (r:=l.row.toRowW) (X:=(true == true))
  (show WShape.has [] (.bool true) .bool = true by first | rfl | decide | simp [WShape.has,WShape.arms,WShape.armsAll])
  (show (WTm.eq .res (.lit (.bool true))).value [] { args:=args,res:=some (.bool true),after:=args } = some (.bool (true == true)) from w_eq_bool (w_res rfl) w_lit) rfl
theorem attach_call {l:OpenLaw} {n:Nat} {q:Program} {loose:List Str} {XP:(Str → Option Value) → Heap → Prop} {YP:World → Heap → Prop} {d:DefRec}
  (hn:l.most = some n) (hdf:d.params.defaults = [])
  (call:∀ (w:World) (s₀ s₁:Shared) (mg mb:Str → Option Value) (fa:Addr) (o:Obj) (pm cd doc:Value) (a:Addr) (vs:List Value) (ns:List Int),
   Ground q loose [] XP w s₀ mg mb s₁.heap → YP w s₁.heap →
   s₁.heap.get? fa = some o → o.data = .func (docDef d.name d.params d.body d.scope pm cd doc) → s₁.heap.CodeRec cd d.name → mg d.name = some (.ref fa) →
   s₁.heap.get? a = some { cls:=.type "list",data:=.seq vs.toArray } → IntsAre vs ns → ns.length ≤ n → s₁.gens = #[] →
   codeAny (model l.prog w) callerA (.call (.ref fa) ⟨[.ref a],[]⟩) (fun r s'=>r = .ok (.ret (.bool true)) ∧ OldK s₁.heap s'.heap ∧ s'.os = s₁.os ∧ AllBare s'.gens) s₁):
  WalkO q loose XP YP l.row.toRowW d [] (fun f vs=>PySem.call f vs):=by
 intro w s₀ s₁ mg mb G Y fa o pm cd doc dV kV ho hd hcd hD hmg hg args vals as hpre hlay hrd hwl hlo
 obtain rfl:dV = .none:=Dflts.none hD hdf
 obtain rfl:kV = .none:=Dflts.noKw hD
 obtain ⟨a,vs,ns,rfl,rfl,hobj,hints,hlen⟩:=Znt hn hpre hwl
 refine enter_call (codeAny_mono (call w s₀ s₁ mg mb fa o pm cd doc a vs ns G Y ho (fd_plain hd) hcd hmg hobj hints hlen hg) fun r s' hq=>?_)
 obtain ⟨rfl,h2,h3,h4⟩:=hq
 exact ⟨.inl ⟨.bool true,.bool true,[],rfl,fun _=>rfl,.bool true,Znp l _,fun _=>⟨List.Pairwise.nil,fun _ hm=>(nomatch hm)⟩⟩,h2,h3,h4⟩
section
variable {prog:Program} {w:World} {A:Around} {E:Value → Shared → Prop} {s:Shared} {K:Frag}
end
end Att
namespace L2
open PySem PySem.Spec PyProof.Rows
theorem ZiU:∀ {vs:List Value} {ns:List Int},IntsAre vs ns → Vals (ns.map V.int) vs
 | _,_,.nil=>.nil
 | _,_,.cons n t h=>.cons ⟨t,rfl⟩ (ZiU h)
def Only (H:Hp):Prop:=∀ b,H b = none ∨ ∃ o xs,H b = some (.frz o (.lst xs))
theorem ZoJ {P:Program} {w:World} {K:PySem.W.Frag} {mg mb:Str → Option Value} {CX:CXT} {k:Nat} {fa a:Addr} {fd:FuncData} {x:Str} {sp:Sp} {s₁:Shared} {vs:List Value} {ns:List Int}
  (KX:K.In s₁.heap) (hns:s₁.heap.Ns mainGlobals mg) (hb:s₁.heap.Ns builtinsNs mb) (hbb:∀ x:Str,x ≠ "__name__" → mb x = bootBuiltins x) (hlim:s₁.heap.NoLimit) (hg:s₁.gens = #[])
  (ha:s₁.heap.get? a = some { cls:=.type "list",data:=.seq vs.toArray }) (hi:IntsAre vs ns) (hl:ns.length ≤ sizeLine) (hr:ZdL k callerA)
  (F:∀ base:Heap,K.In base → base.Ns mainGlobals mg → Zfo P w K mg base CX k fa fd [x] sp) (hbind:∀ (s:Shared) (u:Value),BindsTo s fd ⟨[u],[]⟩ [(x,u)])
  (hsp:∀ H:Hp,Only H → SqL K H a (ns.map V.int) → sp [.ref a] H (fun v _=>v = .bl true) fun _ _ _=>False)
  (hCX:∀ H e s',CX [] H s₁ (fun _ _ _=>False) e s' → False):
  codeAny (model P w) callerA (.call (.ref fa) ⟨[.ref a],[]⟩) (fun r s'=>r = .ok (.ret (.bool true)) ∧ OldK s₁.heap s'.heap ∧ s'.os = s₁.os ∧ AllBare s'.gens) s₁:=by
 have rv:=ZiU hi
 have lenV:=hi.length
 have core:∀ H:Hp,Only H → SqL K H a (ns.map V.int) → HOk P w H s₁.heap → (∀ b,H b ≠ none → b = a) → (H a ≠ none → K.lookup a = none) →
   codeAny (model P w) callerA (.call (.ref fa) ⟨[.ref a],[]⟩) (fun r s'=>r = .ok (.ret (.bool true)) ∧ OldK s₁.heap s'.heap ∧ s'.os = s₁.os ∧ AllBare s'.gens) s₁:=by
  intro H hO hS hok hA hK
  have base_of:∀ {b:Addr} {o:Obj},s₁.heap.get? b = some o → H b = none → (Zjo s₁.heap H).get? b = some o:=fun e n=>Zn8 e n
  have noA:∀ {b:Addr} {o:Obj} {es:Array DictEntry} {ep:Nat},s₁.heap.get? b = some o → o.data = .dict es ep → H b = none:=fun {b o es ep} e d=>by
   cases q:H b with
   | none=>rfl
   | some u=>
    have e':b = a:=hA b (by rw [q]; simp)
    subst e'
    rw [ha] at e; cases e
    have d':Data.seq vs.toArray _ = Data.dict es ep:=d
    cases d'
  have nsK:∀ {b:Addr} {m:Str → Option Value},s₁.heap.Ns b m → (Zjo s₁.heap H).Ns b m:=fun {b m} ⟨o,es,ep,e,d,r⟩=>⟨o,es,ep,base_of e (noA e d),d,r⟩
  have hKb:K.In (Zjo s₁.heap H):=fun b o e=>base_of (KX b o e) (by
   cases q:H b with
   | none=>rfl
   | some u=>
    have e':b = a:=hA b (by rw [q]; simp)
    subst e'
    rw [hK (by rw [q]; simp)] at e; cases e)
  have hM:Mod K mg (Zjo s₁.heap H):=⟨hKb,nsK hns,⟨mb,nsK hb,hbb⟩,let ⟨mc,h1,h2⟩:=hlim; ⟨mc,nsK h1,h2⟩⟩
  have e0:ZlA P w K mg (Zjo s₁.heap H) callerA [] s₁ H:=⟨rfl,hM,fun b o e=>Zqk e,Nat.le_of_eq (ZmX _ _),trivial,fun b hb=>absurd (show b ∈ ([]:List Addr) from hb) (by simp),hok,.of_eq hg⟩
  refine codeAny_mono ((F _ hKb (nsK hns)).run callerA [] s₁ H ⟨[.ref a],[]⟩ [.ref a] [.ref a] _ _ hr e0 (hbind s₁ (.ref a)) (.cons rfl .nil) (hsp H hO hS)) fun r s' h=>?_
  cases r with
  | error e=>exact (hCX H e s' h).elim
  | ok fl=>
   cases fl with
   | next=>exact False.elim h
   | brk=>exact False.elim h
   | cont=>exact False.elim h
   | ret u=>
    obtain ⟨v,H',os,bare,un,hok',r',q⟩:=h
    have q':v = .bl true:=q
    subst q'
    obtain rfl:u = Value.bool true:=r'
    refine ⟨rfl,OldK.of_keep fun b o e=>?_,os,bare⟩
    cases q:H b with
    | none=>exact un.keep b o e q (by intro z; exact absurd (show b ∈ ([]:List Addr) from z) (by simp)) (by simp)
    | some u=>
     rcases hO b with z | ⟨ob,xs,z⟩
     ·rw [q] at z; cases z
     ·have z2:=un.frzs b ob _ z
      obtain ⟨e1,_⟩:=hok b _ z
      obtain ⟨e2,_⟩:=hok' b _ z2
      rw [e] at e1; cases e1
      exact e2
 cases hk:K.lookup a with
 | some o=>
  have e:=KX a o hk
  rw [ha] at e
  cases e
  refine core (fun _=>none) (fun _=>.inl rfl) (.inr ⟨_,vs.toArray,_,hk,rfl,rfl,rfl,by rw [List.size_toArray,lenV]; exact hl,by simpa using rv⟩) (fun b u z=>by have z':(none:Option HO) = some u:=z; cases z') (fun b z=>absurd rfl z) fun z=>absurd rfl z
 | none=>
  refine core (fun b=>if b = a then some (.frz { cls:=.type "list",data:=.seq vs.toArray } (.lst (ns.map V.int))) else none) (fun b=>?_) (.inl (.inr ⟨{ cls:=.type "list",data:=.seq vs.toArray },if_pos rfl⟩)) (fun b u z=>?_) (fun b z=>?_) fun _=>hk
  ·by_cases hb:b = a
   ·exact .inr ⟨_,_,if_pos hb⟩
   ·exact .inl (if_neg hb)
  ·by_cases hb:b = a
   ·have z':=(if_pos hb).symm.trans z
    cases z'
    subst hb
    exact ⟨ha,by rw [List.length_map]; exact hl,vs,_,rv,ha⟩
   ·have z':=(if_neg hb).symm.trans z
    cases z'
  ·by_cases hb:b = a
   ·exact hb
   ·exact absurd (if_neg hb) z
end L2
namespace L2
open PySem PySem.Spec PyProof.Rows
theorem Zmd {l:PySem.W.OpenLaw} {n k:Nat} {q:Program} {loose:List Str} {XP:(Str → Option Value) → Heap → Prop} {YP:World → Heap → Prop} {d:DefRec} {K:Params → PySem.W.Frag} {CX:World → CXT} {sp:World → Sp} {x:Str}
  (hn:l.most = some n) (hn2:n ≤ sizeLine) (hdf:d.params.defaults = []) (hr:ZdL k callerA)
  (hY:∀ (w:World) (h:Heap),YP w h → (K w.params).In h)
  (F:∀ (w:World) (mg:Str → Option Value) (fa:Addr) (h:Heap),(K w.params).In h → h.Ns mainGlobals mg → mg d.name = some (.ref fa) →
   ∃ fd:FuncData,(∀ (s:Shared) (u:Value),BindsTo s fd ⟨[u],[]⟩ [(x,u)]) ∧
    ∀ base:Heap,(K w.params).In base → base.Ns mainGlobals mg → Zfo l.prog w (K w.params) mg base (CX w) k fa fd [x] (sp w))
  (hsp:∀ (w:World) (H:Hp) (a:Addr) (ns:List Int),ns.length ≤ n → Only H → SqL (K w.params) H a (ns.map V.int) → sp w [.ref a] H (fun v _=>v = .bl true) fun _ _ _=>False)
  (hCX:∀ (w:World) (H:Hp) (s:Shared) (e:Value) (s':Shared),CX w [] H s (fun _ _ _=>False) e s' → False):
  PySem.W.WalkO q loose XP YP l.row.toRowW d [] (fun f vs=>PySem.call f vs):=by
 refine Att.attach_call hn hdf fun w s₀ s₁ mg mb fa o pm cd doc a vs ns G Y ho hd hcd hmg hobj hints hlen hg=>?_
 have KX:=hY w _ Y
 obtain ⟨fd,hb,hF⟩:=F w mg fa _ KX G.T.g hmg
 exact ZoJ KX G.T.g G.T.b G.T.builtins G.T.nolimit hg hobj hints (Nat.le_trans hlen hn2) hr hF hb (fun H hO hS=>hsp w H a ns hlen hO hS) fun H e s'=>hCX w H s₁ e s'
end L2
/- THE LAST THEOREM (shape; LID,My.* are yours):
  My.Adr: a structure of the addresses that your layer names (classes,functions); My.Txt K t: a structure (Prop) of the equations over K;
  My.txt_mk:{K} {implicit addresses ..} (e1:nsIn K mainGlobals "law" = some (some (.ref f))) (e2:K.lookup f = some ⟨oc,od,.func (fnOf "law" "law" params body scope dV kV doc pm an cdv ct),sl⟩) (e3:codeIn K cdv "law" = true) ..:∃ t,My.Txt K t
set_option maxRecDepth 100000 in
set_option maxHeartbeats 0 in
theorem PySem.Challenge.cw_LID_holds : PySem.Challenge.rw_LID.Holds := by
 w_on; o_law; k_head; (case hw=>w_witness2)
 k_fill
 refine L2.Zmd (l:=PySem.Challenge.rw_LID) (n:=63) (k:=40) (x:="script") (CX:=fun w=>..) (sp:=fun _=>My.sp_law) rfl (by decide) rfl ⟨rfl,by decide,by decide⟩ (fun w h Y=>PySem.W.kIn_of Y) ?F ?S ?C
 case F=>
  intro w mg fa h KX G hmg
  have T:∃ t,My.Txt (L2.KOf KX) t:=by
   dsimp only [L2.KOf]                          -- K must stand as «<heap const> w.params» for k_is
   refine' My.txt_mk ?e1 ?e2 ?e3 ..
   (case e1=>PySem.W.k_is)                    -- in the order: a name -> its address -> its object -> its parts
   (case e2=>PySem.W.k_is)
   ..
  obtain ⟨t,T⟩:=T
  have e0:=hmg.symm.trans (PySem.W.mg_of KX G T.law)
  cases e0                                       -- fa is the law's own address
  exact ⟨_,fun s u=>.of_eq rfl,fun base kb nb=>My.law_fn T kb nb⟩     -- if «.of_eq rfl» comes too early: refine' ⟨_,?b,fun base kb nb=>My.law_fn T kb nb⟩; exact fun s u=>.of_eq rfl
 case S=>exact fun w H a ns hl hO hS=>..
 case C=>exact ..
(the tactic k_is has no namespace: write k_is) -/
namespace L2
open PySem PySem.Spec PyProof.Rows
noncomputable def ZaG (s:Stmt):Arguments:=match s with
 | .FunctionDef _ a _ _ _ _ _ _ _ _=>a
 | _=>{ posonlyargs:=[],args:=[],vararg:=none,kwonlyargs:=[],kw_defaults:=[],kwarg:=none,defaults:=[] }
noncomputable def ZaB (s:Stmt):List Stmt:=match s with
 | .FunctionDef _ _ b _ _ _ _ _ _ _=>b
 | _=>[]
noncomputable def Zr (s:Stmt):Scope:=match s with
 | .FunctionDef _ _ _ _ _ _ sc _ _ _=>sc
 | _=>{ kind:=.function,names:=[],isGenerator:=false,isCoroutine:=false }
noncomputable abbrev CX0:CXT:=fun _ _ _ _ _ _=>False
noncomputable abbrev E0:XK:=fun _ _ _=>False
theorem Zuu {X:Cx}:Zlm CX0 X E0:=fun _ _ _ _ _ _ _ h=>h.elim
structure Fun (K:PySem.W.Frag) (x qual:Str) (st:Stmt) (f:Addr) (fd:FuncData):Prop where
 ex:∃ (oc:Value) (od:Option Addr) (dV kV doc pm:Value) (an:Option Addr) (cdv ct:Value) (osl:Array (Option Value)),
  fd = PySem.W.fnOf x qual (ZaG st) (ZaB st) (Zr st) dV kV doc pm an cdv ct ∧ K.lookup f = some ⟨oc,od,.func fd,osl⟩ ∧ PySem.W.codeIn K cdv qual = true
 kp:PySem.W.keepIn K (.ref f) = true
section
variable {P:Program} {w:World} {K:PySem.W.Frag} {mg:Str → Option Value} {base:Heap}
theorem Fun.ok {x qual:Str} {st:Stmt} {f:Addr} {fd:FuncData} {N ps:List Str} {k:Nat} {sp:Sp} (F:Fun K x qual st f fd) (S:ZaJ N ps (Zr st)) (len:∀ vs H Q E,sp vs H Q E → vs.length = ps.length)
  (hbody:∀ (cdv:Value) (A:Around) (outer:List Env) (s:Shared) (H:Hp) (vs:List V) (Q:VK) (E:XK),ZdL k (A.deeper (envOfC qual (Zr st) s.heap.objs.size f cdv)) → sp vs H Q E →
   ∃ t,PSs (ZkS CX0 P w K mg base N qual (Zr st) f cdv A outer s H E).nox (ZaB st) t ∧ t { nx:=fun _ H'=>Q .non H',rt:=Q } (start N vs) H):Zfo P w K mg base CX0 (k + 1) f fd ps sp:=by
 obtain ⟨oc,od,dV,kV,doc,pm,an,cdv,ct,osl,rfl,lk,hcd⟩:=F.ex
 refine ZuG lk hcd S len fun A outer s H vs Q E hr hsp=>?_
 obtain ⟨t,h,q⟩:=hbody cdv A outer s H vs Q E hr hsp
 exact ⟨t,h.nox,q⟩
theorem Fun.binds {x qual:Str} {st:Stmt} {f:Addr} {fd:FuncData} {ps:List Str} (F:Fun K x qual st f fd)
  (h:∀ (dV kV doc pm:Value) (an:Option Addr) (cdv ct:Value) (us:List Value),us.length = ps.length → bindArgs (PySem.W.fnOf x qual (ZaG st) (ZaB st) (Zr st) dV kV doc pm an cdv ct) ⟨us,[]⟩ = pure (ps.zip us)):Binds K fd ps []:=by
 obtain ⟨oc,od,dV,kV,doc,pm,an,cdv,ct,osl,rfl,lk,hcd⟩:=F.ex
 exact .all (h dV kV doc pm an cdv ct)
theorem Zo6 {x qual:Str} {st:Stmt} {f:Addr} {oc:Value} {od an:Option Addr} {osl:Array (Option Value)} {dV kV doc pm cdv ct:Value} (l:K.lookup f = some ⟨oc,od,.func (PySem.W.fnOf x qual (ZaG st) (ZaB st) (Zr st) dV kV doc pm an cdv ct),osl⟩)
  (c:PySem.W.codeIn K cdv qual = true) (k:PySem.W.keepIn K (.ref f) = true):Fun K x qual st f (PySem.W.fnOf x qual (ZaG st) (ZaB st) (Zr st) dV kV doc pm an cdv ct):=⟨⟨oc,od,dV,kV,doc,pm,an,cdv,ct,osl,rfl,l,c⟩,k⟩
end
section
variable {X:Cx}
end
def ZkC (H H':Hp):Prop:=∀ b o,H b = some o → H' b = some o
theorem ZkC.trans {H H1 H2:Hp} (a:ZkC H H1) (b:ZkC H1 H2):ZkC H H2:=fun c o h=>b c o (a c o h)
theorem ZkC.free {H H':Hp} (e:ZkC H H') {l:Addr} (h:H' l = Option.none):H l = Option.none:=by
 cases q:H l with
 | none=>rfl
 | some o=>
  rw [e l o q] at h
  cases h
theorem ZkC.seq {K:PySem.W.Frag} {H H':Hp} {a:Addr} {xs:List V} (e:ZkC H H') (h:SqL K H a xs):SqL K H' a xs:=by
 rcases h with (h | ⟨o,h⟩) | h
 ·exact .inl (.inl (e _ _ h))
 ·exact .inl (.inr ⟨o,e _ _ h⟩)
 ·exact .inr h
end L2
namespace L2
open PySem PySem.Spec PyProof.Rows
section
variable {κ:Type} [DecidableEq κ]
noncomputable def Zge (kvs:List (κ × V)) (k:κ):Option V:=(kvs.find? fun kv=>decide (kv.1 = k)).map (·.2)
noncomputable def putK (kvs:List (κ × V)) (k:κ) (v:V):List (κ × V):=
 if (kvs.any fun kv=>decide (kv.1 = k)) = true then kvs.map (fun kv=>if kv.1 = k then (kv.1,v) else kv) else kvs ++ [(k,v)]
theorem ZnS {k:κ}:Zge ([]:List (κ × V)) k = none:=rfl
theorem Zgr {p:κ × V} {r:List (κ × V)} {k:κ} (e:p.1 = k):Zge (p :: r) k = some p.2:=by simp [Zge,List.find?_cons,e]
theorem ZgL {p:κ × V} {r:List (κ × V)} {k:κ} (e:¬ p.1 = k):Zge (p :: r) k = Zge r k:=by simp [Zge,List.find?_cons,e]
theorem Zk2 (k:κ):∀ kvs:List (κ × V),(kvs.any fun kv=>decide (kv.1 = k)) = (Zge kvs k).isSome
 | []=>rfl
 | p :: r=>by
  rw [List.any_cons]
  by_cases e:p.1 = k
  ·simp only [Zgr e,decide_eq_true e,Bool.true_or,Option.isSome_some]
  ·rw [ZgL e,decide_eq_false e,Bool.false_or]; exact Zk2 k r
theorem Zfy (kvs:List (κ × V)) (k:κ) (v:V):(putK kvs k v).length ≤ kvs.length + 1:=by
 unfold putK
 split
 ·rw [List.length_map]; exact Nat.le_add_right _ _
 ·rw [List.length_append,List.length_cons,List.length_nil]; exact lA 0 43162452160 T1
theorem Zhf.isSome_eq {o:Option V} {u:Option Value} (r:Zhf o u):o.isSome = u.isSome:=by
 cases o with
 | none=>cases u with
  | none=>rfl
  | some _=>exact (show False from r).elim
 | some _=>cases u with
  | none=>exact (show False from r).elim
  | some _=>rfl
theorem Zhf.getD {o:Option V} {u:Option Value} {d:V} {d':Value} (r:Zhf o u) (rd:RelV d d'):RelV (o.getD d) (u.getD d'):=by
 cases o with
 | none=>cases u with
  | none=>exact rd
  | some _=>exact (show False from r).elim
 | some _=>cases u with
  | none=>exact (show False from r).elim
  | some _=>exact r
theorem KV.val {kvs:List (κ × V)} {vs:List (κ × Value)} (r:KV kvs vs) (k:κ):Zhf (Zge kvs k) (valueAt vs k):=by
 unfold KV at r
 induction r with
 | nil=>exact True.intro
 | @cons p q ps qs h t ih=>
  obtain ⟨h1,h2⟩:=h
  by_cases e:p.1 = k
  ·have e':q.1 = k:=h1.symm.trans e
   have b:valueAt (q :: qs) k = some q.2:=by simp [valueAt,List.find?_cons,e']
   rw [Zgr e,b]; exact h2
  ·have e':¬ q.1 = k:=fun z=>e (h1.trans z)
   have b:valueAt (q :: qs) k = valueAt qs k:=by simp [valueAt,List.find?_cons,e']
   rw [ZgL e,b]; exact ih
theorem KV.any {kvs:List (κ × V)} {vs:List (κ × Value)} (r:KV kvs vs) (k:κ):(kvs.any fun kv=>decide (kv.1 = k)) = vs.any fun kv=>decide (kv.1 = k):=by
 unfold KV at r
 induction r with
 | nil=>rfl
 | cons h t ih=>rw [List.any_cons,List.any_cons,ih,h.1]
theorem KV.repl {kvs:List (κ × V)} {vs:List (κ × Value)} (r:KV kvs vs) (k:κ) {y:V} {u:Value} (ry:RelV y u):
  KV (kvs.map fun kv=>if kv.1 = k then (kv.1,y) else kv) (vs.map fun kv=>if kv.1 = k then (kv.1,u) else kv):=by
 unfold KV at r ⊢
 induction r with
 | nil=>exact .nil
 | @cons p q ps qs h t ih=>
  rw [List.map_cons,List.map_cons]
  refine .cons ?_ ih
  obtain ⟨h1,h2⟩:=h
  by_cases e:p.1 = k
  ·rw [if_pos e,if_pos (h1.symm.trans e)]; exact ⟨h1,ry⟩
  ·rw [if_neg e,if_neg (fun z=>e (h1.trans z))]; exact ⟨h1,h2⟩
theorem KV.put {kvs:List (κ × V)} {vs:List (κ × Value)} (r:KV kvs vs) (k:κ) {y:V} {u:Value} (ry:RelV y u):KV (putK kvs k y) (stored vs k u):=by
 unfold putK stored
 rw [r.any k]
 by_cases e:(vs.any fun kv=>decide (kv.1 = k)) = true
 ·rw [if_pos e,if_pos e]; exact r.repl k ry
 ·rw [if_neg e,if_neg e]; exact Paired.snoc r ⟨rfl,ry⟩
theorem KV.keys {kvs:List (κ × V)} {vs:List (κ × Value)} (r:KV kvs vs):kvs.map (·.1) = vs.map (·.1):=by
 unfold KV at r
 induction r with
 | nil=>rfl
 | cons h t ih=>rw [List.map_cons,List.map_cons,ih,h.1]
theorem KV.length {kvs:List (κ × V)} {vs:List (κ × Value)} (r:KV kvs vs):kvs.length = vs.length:=Paired.length r
end
theorem Zl0 {P:Program} {w:World} {k:Key} {u:Value} (r:RelV (kV k) u):(Zbk P w).is k u = true:=by
 cases k with
 | inl i=>obtain ⟨t,e⟩:=(show ∃ t,u = Value.int i t from r); subst e; exact Zk8 P w i t
 | inr x=>obtain ⟨t,e⟩:=(show ∃ t,u = Value.str x t from r); subst e; exact Zkm P w x t
theorem Zi3 {P:Program} {w:World}:∀ {ks:List Key} {us:List Value},Vals (ks.map kV) us → ItemsAre (Zbk P w) ks us
 | [],_,r=>by rw [List.map_nil] at r; cases r; exact .nil
 | k :: ks,_,r=>by
  rw [List.map_cons] at r
  cases r with
  | cons h t=>exact .cons (Zl0 h) (Zi3 t)
noncomputable abbrev KT (H:Hp):List (List Key × V) → List (List Key × Addr × Value) → Prop:=Paired fun p q=>p.1 = q.1 ∧ H q.2.1 = some (.tup (p.1.map kV)) ∧ RelV p.2 q.2.2
theorem KT.val {H:Hp} {kvs:List (List Key × V)} {xs:List (List Key × Addr × Value)} (r:KT H kvs xs) (k:List Key):Zhf (Zge kvs k) ((atKey xs k).map (·.2)):=by
 induction r with
 | nil=>exact True.intro
 | @cons p q ps qs h t ih=>
  obtain ⟨h1,_,h2⟩:=h
  by_cases e:p.1 = k
  ·have e':q.1 = k:=h1.symm.trans e
   have b:atKey (q :: qs) k = some q.2:=by simp [atKey,List.find?_cons,e']
   rw [Zgr e,b]; exact h2
  ·have e':¬ q.1 = k:=fun z=>e (h1.trans z)
   have b:atKey (q :: qs) k = atKey qs k:=by simp [atKey,List.find?_cons,e']
   rw [ZgL e,b]; exact ih
theorem KT.repl {H:Hp} {kvs:List (List Key × V)} {xs:List (List Key × Addr × Value)} (r:KT H kvs xs) (k:List Key) {y:V} {u:Value} (ry:RelV y u):
  KT H (kvs.map fun kv=>if kv.1 = k then (kv.1,y) else kv) (xs.map (putAt k u)):=by
 induction r with
 | nil=>exact .nil
 | @cons p q ps qs h t ih=>
  rw [List.map_cons,List.map_cons]
  refine .cons ?_ ih
  obtain ⟨h1,h2,h3⟩:=h
  unfold putAt
  by_cases e:p.1 = k
  ·rw [if_pos e,if_pos (h1.symm.trans e)]; exact ⟨h1,h2,ry⟩
  ·rw [if_neg e,if_neg (fun z=>e (h1.trans z))]; exact ⟨h1,h2,h3⟩
theorem KT.put {H:Hp} {kvs:List (List Key × V)} {xs:List (List Key × Addr × Value)} (r:KT H kvs xs) (k:List Key) {b:Addr} {y:V} {u:Value} (hb:H b = some (.tup (k.map kV))) (ry:RelV y u):
  KT H (putK kvs k y) (storedH xs k b u):=by
 have e:(kvs.any fun kv=>decide (kv.1 = k)) = (atKey xs k).isSome:=by
  rw [Zk2,(r.val k).isSome_eq,Option.isSome_map]
 unfold putK storedH
 rw [e]
 by_cases q:(atKey xs k).isSome = true
 ·rw [if_pos q,if_pos q]; exact r.repl k ry
 ·rw [if_neg q,if_neg q]; exact Paired.snoc r ⟨rfl,hb,ry⟩
theorem KT.keeps {H H':Hp} {kvs:List (List Key × V)} {xs:List (List Key × Addr × Value)} (r:KT H kvs xs) (ht:∀ b ys,H b = some (.tup ys) → H' b = some (.tup ys)):KT H' kvs xs:=
 Paired.mapP r fun _ _ z=>⟨z.1,ht _ _ z.2.1,z.2.2⟩
section
variable {P:Program} {w:World} {H:Hp} {h:Heap} {a:Addr}
theorem Zrk {u:HO} (ok:HOk P w H h) (e:Rd H a u):ZbU P w H h a u:=e.ok ok
theorem Zov {kvs:List (Key × V)} (ok:HOk P w H h) (e:Rd H a (.dK kvs)):kvs.length ≤ sizeLine ∧ (a == sysModules) = false ∧ ∃ vs,KV kvs vs ∧ h.DictOf (Zbk P w) a vs:=
 show ZbU P w H h a (.dK kvs) from Zrk ok e
theorem Zt1 {kvs:List (Key × V)} (ok:HOk P w H h) (e:H a = some (.dK kvs)):kvs.length ≤ sizeLine ∧ (a == sysModules) = false ∧ ∃ vs,KV kvs vs ∧ h.DictOf (Zbk P w) a vs:=Zov ok (.inl e)
theorem Zlr {ks:List Key} (ok:HOk P w H h) (e:H a = some (.tup (ks.map kV))):(tupleKind (Zbk P w)).is h ks a:=by
 obtain ⟨_,its,r,o,h1,h2,n,h3⟩:=(show ZbU P w H h a (.tup (ks.map kV)) from ok a _ e)
 exact ⟨o,its.toArray,n,h1,h2.1,h3,by simpa using Zi3 r⟩
theorem Zo7 {kvs:List (List Key × V)} (ok:HOk P w H h) (e:Rd H a (.dT kvs)):kvs.length ≤ sizeLine ∧ (a == sysModules) = false ∧
  ∃ xs,KT H kvs xs ∧ h.DictOfH (tupleKind (Zbk P w)) a xs:=by
 obtain ⟨z,y,xs,r,o,es,ep,h1,h2,h3,h4,h5⟩:=(show ZbU P w H h a (.dT kvs) from Zrk ok e)
 refine ⟨z,y,xs,r,o,es,ep,h1,h2,h3,h4,fun x hx=>?_,h5⟩
 have all:∀ {l:List (List Key × V)} {m:List (List Key × Addr × Value)},KT H l m → ∀ x ∈ m,(tupleKind (Zbk P w)).is h x.1 x.2.1:=by
  intro l m q
  induction q with
  | nil=>intro x hx; exact nomatch hx
  | @cons p q ps qs hq t ih=>
   intro x hx
   rcases List.mem_cons.mp hx with e | hx
   ·subst e
    exact Zlr ok (by rw [← hq.1]; exact hq.2.1)
   ·exact ih x hx
 exact all r x hx
theorem Zuv {kvs:List (List Key × V)} (ok:HOk P w H h) (e:H a = some (.dT kvs)):kvs.length ≤ sizeLine ∧ (a == sysModules) = false ∧
  ∃ xs,KT H kvs xs ∧ h.DictOfH (tupleKind (Zbk P w)) a xs:=Zo7 ok (.inl e)
end
def Zlz (H:Hp) (a:Addr) (y:V) (r:Option V):Prop:=
 (∃ kvs k,Rd H a (.dK kvs) ∧ y = kV k ∧ r = Zge kvs k) ∨ ∃ kvs k b,Rd H a (.dT kvs) ∧ y = .ref b ∧ H b = some (.tup (k.map kV)) ∧ r = Zge kvs k
def ZlX (H:Hp) (a:Addr) (y v:V) (H':Hp):Prop:=
 (∃ kvs k,H a = some (.dK kvs) ∧ y = kV k ∧ kvs.length < sizeLine ∧ H' = upd H a (.dK (putK kvs k v))) ∨
 ∃ kvs k b,H a = some (.dT kvs) ∧ y = .ref b ∧ H b = some (.tup (k.map kV)) ∧ kvs.length < sizeLine ∧ H' = upd H a (.dT (putK kvs k v))
theorem Zlz.k {H:Hp} {a:Addr} {kvs:List (Key × V)} {k:Key} (e:H a = some (.dK kvs)):Zlz H a (kV k) (Zge kvs k):=.inl ⟨kvs,k,.inl e,rfl,rfl⟩
theorem Zlz.t {H:Hp} {a b:Addr} {kvs:List (List Key × V)} {k:List Key} (e:H a = some (.dT kvs)) (eb:H b = some (.tup (k.map kV))):Zlz H a (.ref b) (Zge kvs k):=.inr ⟨kvs,k,b,.inl e,rfl,eb,rfl⟩
theorem ZlX.k {H:Hp} {a:Addr} {kvs:List (Key × V)} {k:Key} {v:V} (e:H a = some (.dK kvs)) (hl:kvs.length < sizeLine):ZlX H a (kV k) v (upd H a (.dK (putK kvs k v))):=.inl ⟨kvs,k,e,rfl,hl,rfl⟩
theorem ZlX.t {H:Hp} {a b:Addr} {kvs:List (List Key × V)} {k:List Key} {v:V} (e:H a = some (.dT kvs)) (eb:H b = some (.tup (k.map kV))) (hl:kvs.length < sizeLine):
  ZlX H a (.ref b) v (upd H a (.dT (putK kvs k v))):=.inr ⟨kvs,k,b,e,rfl,eb,hl,rfl⟩
section
variable {X:Cx} {pins:List (Addr × Obj)} {σ:St} {H:Hp} {s:Shared} {a:Addr} {y v:V} {u r:Value} {o:Option V} {A:Around} {E:Value → Shared → Prop}
theorem Inv.big (I:Inv X pins σ H s):sysModules < s.heap.objs.size:=by
 have h:mainGlobals < s.heap.objs.size:=(I.mod.glob.keeps I.bk).lt
 exact Nat.lt_trans (by decide) h
theorem Znc {Q:Value → Shared → Prop} (hu:A.units + 1 < cLine) (I:Inv X pins σ H s) (g:Zlz H a y (some v)) (ry:RelV y u) (h:∀ w' s',Inv X pins σ H s' → RelV v w' → Q w' s'):
  wpAny (model X.prog X.w) A (getItem (.ref a) u) Q E s:=by
 rcases g with ⟨kvs,k,e,ey,l⟩ | ⟨kvs,k,b,e,ey,eb,l⟩
 ·subst ey
  obtain ⟨z,hd,vs,rel,dd⟩:=Zov I.hok e
  obtain ⟨w',hw,rw'⟩:=Zhf.some_of (v:=v) (o:=valueAt vs k) (by rw [l]; exact rel.val k)
  exact wpAny_getItem_of (Zl0 ry) dd.mapOf hw (h w' _ (I.tok _) rw')
 ·subst ey
  cases (show u = Value.ref b from ry)
  obtain ⟨z,hd,xs,rel,dd⟩:=Zo7 I.hok e
  obtain ⟨w',hw,rw'⟩:=Zhf.some_of (v:=v) (o:=(atKey xs k).map (·.2)) (by rw [l]; exact rel.val k)
  obtain ⟨p,hp,hp2⟩:=Option.map_eq_some_iff.mp hw
  refine wpAny_getItem_heap (tupleKind_room_in1 hu) (Zlr I.hok eb) dd hp ?_
  rw [hp2]
  exact h w' _ (I.tok _) rw'
theorem Zmz {h':Heap} {t':Nat} {ob:HO} (I:Inv X pins σ H s) (mu:Mut (H a)) (hs:Heap.SameBut a s.heap h') (he:∃ q,h'.get? a = some q) (new:ZbU X.prog X.w (upd H a ob) h' a ob):
  Inv X pins σ (upd H a ob) { s with heap:=h',toks:=t' }:=
 I.write (x:=a) (e:=a) mu (.inl rfl) (fun b q hb z=>(hs.2 b hb).trans z) he new
theorem Zod {P:Program} {w:World} {H':Hp} {h':Heap} {kvs:List (Key × V)} {vs:List (Key × Value)} (z:kvs.length ≤ sizeLine) (hd:(a == sysModules) = false) (rel:KV kvs vs) (dd:h'.DictOf (Zbk P w) a vs):
  ZbU P w H' h' a (.dK kvs):=⟨z,hd,vs,rel,dd⟩
theorem Zm8 {H':Hp} {Q:Unit → Shared → Prop} (hu:A.units + 1 < cLine) (I:Inv X pins σ H s) (g:ZlX H a y v H') (ry:RelV y u) (rv:RelV v r) (h:∀ s',Inv X pins σ H' s' → Q () s'):
  wpAny (model X.prog X.w) A (setItem (.ref a) u r) Q E s:=by
 rcases g with ⟨kvs,k,e,ey,l,eH⟩ | ⟨kvs,k,b,e,ey,eb,l,eH⟩
 ·subst ey eH
  obtain ⟨z,hd,vs,rel,dd⟩:=Zt1 I.hok e
  have hz:vs.length ≤ sizeLine:=by rw [← rel.length]; exact z
  have hl:(putK kvs k v).length ≤ sizeLine:=by have:=Zfy kvs k v; exact lC 2 563091983155201 T1 this l
  refine wpAny_setItem_pairs (hsz:=hz) (Zl0 ry) dd fun h' dd' hs=>h _ ?_
  have he:∃ q,h'.get? a = some q:=let ⟨q,_,_,hq,_⟩:=dd'; ⟨q,hq⟩
  exact Zmz I (by rw [e]; exact True.intro) hs he (Zod hl hd (rel.put k rv) dd')
 ·subst ey eH
  cases (show u = Value.ref b from ry)
  obtain ⟨z,hd,xs,rel,dd⟩:=Zuv I.hok e
  have hz:xs.length ≤ sizeLine:=by rw [← Paired.length rel]; exact z
  have hl:(putK kvs k v).length ≤ sizeLine:=by have:=Zfy kvs k v; exact lC 2 563091983155201 T1 this l
  refine wpAny_setItem_heap (hsz:=hz) (tupleKind_room_in1 hu) (Zlr I.hok eb) dd fun h' dd' hs=>h _ ?_
  obtain ⟨q,es,ep,hq,h2,h3,h4,_,h5⟩:=dd'
  refine Zmz I (by rw [e]; exact True.intro) hs ⟨q,hq⟩ ⟨hl,hd,_,(rel.put k eb rv).keeps fun c ys ec=>?_,q,es,ep,hq,h2,h3,h4,h5⟩
  rw [Zbw (Zum ec e (fun z=>nomatch z))]
  exact ec
end
section
variable {X:Cx} {pins:List (Addr × Obj)} {σ:St} {H:Hp} {s:Shared} {a:Addr} {kvs:List (Key × V)} {k:Key} {u:Value} {A:Around} {E:Value → Shared → Prop}
end
def ZsP (i:Expr):Prop:=∀ ov iv,subscripted i false ov iv = operate [ov,iv] (getItem ov iv)
theorem ZqI {prog:Program} {w:World} {A:Around} {E:Value → Shared → Prop} {s:Shared} {env:Env} {value slice:Expr} {pos:Pos} {T id:String} {Q:Value → Shared → Prop}
  (hl:typeLookup (.type T) "__getitem__" = pure (some (.builtin id))) (hs:ZsP slice)
  (h:wpAny (model prog w) A (eval value env) (fun o s₁=>wpAny (model prog w) A (eval slice env) (fun i s₂=>s₂.TypeIs o T ∧ wpAny (model prog w) A (getItem o i) Q E s₂) E s₁) E s):
  wpAny (model prog w) A (eval (.Subscript value slice pos) env) Q E s:=by
 refine Subscript_ (wpAny_mono h (fun o s₁ h₁=>wpAny_mono h₁ (fun i s₂ h₂=>?_) fun _ _ x=>x) fun _ _ x=>x)
 obtain ⟨hT,h₂⟩:=h₂
 unfold subscriptTail
 refine wpAny_bind ?_
 rw [getitemInPython_of_ne hT.not_modules]
 refine wpAny_bind (wpAny_specialOf hT hl ?_)
 have fin:wpAny (model prog w) A (subscripted slice false o i) (fun r s₃=>wpAny (model prog w) A (letTemporaryGo value o r >>= fun _=>pure r) Q E s₃) E s₂:=by
  rw [hs o i]
  exact wpAny_operating (wpAny_mono h₂ (fun r s₃ h₃=>wpAny_bind (wpAny_letTemporaryGo (wpAny_pure h₃))) fun _ _ x=>x)
 first
  | exact wpAny_pure (wpAny_bind fin)
  | exact wpAny_bind (wpAny_pure (wpAny_bind fin))
  | exact wpAny_bind fin
theorem Zks {X:Cx} {pins:List (Addr × Obj)} {σ:St} {H:Hp} {s:Shared} {a:Addr} {y:V} {o:Option V} (I:Inv X pins σ H s) (g:Zlz H a y o):s.TypeIs (.ref a) "dict":=by
 rcases g with ⟨kvs,k,e,_,_⟩ | ⟨kvs,k,b,e,_,_,_⟩
 ·obtain ⟨_,_,vs,_,dd⟩:=Zov I.hok e
  exact dd.typeIs
 ·obtain ⟨_,_,xs,_,dd⟩:=Zo7 I.hok e
  exact dd.typeIs
def ZuJ (td ty:TE):TE:=fun σ H Q=>td σ H fun x H1=>ty σ H1 fun y H2=>∃ a v,x = .ref a ∧ Zlz H2 a y (some v) ∧ Q v H2
def ZuC (td ty tv:TE):TS:=fun D σ H=>tv σ H fun v H1=>td σ H1 fun x H2=>ty σ H2 fun y H3=>∃ a H4,x = .ref a ∧ ZlX H3 a y v H4 ∧ D.nx σ H4
section
variable {X:Cx} {o i e value:Expr} {pos pos' tpos:Pos} {td ty tv:TE}
theorem Zqv (hu:X.A.units + 1 < cLine) (ho:PE X o td) (hi:PE X i ty) (hs:ZsP i):PE X (.Subscript o i pos) (ZuJ td ty):=by
 intro pins s σ H Q I h
 refine ZqI PySem.F.slot_dict_getitem.lookup hs (thn (ho pins s σ H _ I h) fun u s1 ⟨x,H1,I1,rx,q1⟩=>thn (hi pins s1 σ H1 _ I1 q1) fun iv s2 zz1=>?_)
 obtain ⟨y,H2,I2,ry,a,v,ex,g,q2⟩:=zz1
 subst ex
 obtain rfl:u = Value.ref a:=rx
 exact ⟨Zks I2 g,Znc hu I2 g ry fun w' s3 I3 rw'=>⟨v,H2,I3,rw',q2⟩⟩
theorem ZpR (hu:X.A.units + 1 < cLine) (ho:PE X o td) (hi:PE X i ty) (hv:PE X value tv) (hs:swapsWith value (some (.Subscript o i pos')) pos.line X.env = pure false):
  PS X (.Assign [.Subscript o i pos'] value pos) (ZuC td ty tv):=by
 intro pins s σ H D I h
 refine wpAny_Assign_Subscript (thn (hv pins s σ H _ I h) fun r s1 ⟨v,H1,I1,rv,q1⟩=>thn (ho pins s1 σ H1 _ I1 q1) fun u s2 ⟨x,H2,I2,rx,q2⟩=>thn (hi pins s2 σ H2 _ I2 q2) fun iv s3 zz1=>?_) hs
 obtain ⟨y,H3,I3,ry,a,H4,ex,g,q3⟩:=zz1
 subst ex
 obtain rfl:u = Value.ref a:=rx
 exact Zm8 hu I3 g ry rv fun s4 I4=>⟨σ,H4,I4,q3⟩
end
theorem Zpv {P:Program} {w:World} {H:Hp} (h:Heap) (hb:sysModules < h.objs.size):ZbU P w H (h.push { cls:=.type "dict",data:=.dict #[] }) h.objs.size (.dK []):=
 ⟨Nat.zero_le _,beq_eq_false_iff_ne.mpr (Ne.symm (Nat.ne_of_lt hb)),[],.nil,Heap.DictOf.new h⟩
def Ztm:TE:=fun _ H Q=>∀ p,H p = none → Q (.ref p) (upd H p (.dK []))
section
variable {X:Cx} {pos:Pos}
theorem Zog:PE X (.Dict [] [] pos) Ztm:=fun pins s σ H Q I h=>
 wpAny_Dict_empty ⟨.ref s.heap.objs.size,_,I.laid (a:=s.heap.objs.size) (o:=.dK []) (t':=s.toks) (fun _ _ q=>Heap.get?_push_of_some _ q) (Nat.le_refl _) (Zpv s.heap I.big),rfl,h _ (I.hok.fresh (Nat.le_refl _))⟩
end
noncomputable def ZhW (kvs more:List (Key × V)):List (Key × V):=more.foldl (fun acc kv=>putK acc kv.1 kv.2) kvs
theorem KV.merge:∀ {more:List (Key × V)} {rs:List (Key × Value)} {kvs:List (Key × V)} {vs:List (Key × Value)},KV more rs → KV kvs vs → KV (ZhW kvs more) (merged vs rs):=by
 intro more rs kvs vs r
 unfold KV at r
 induction r generalizing kvs vs with
 | nil=>intro q; exact q
 | @cons p q ps qs h t ih=>
  intro r0
  have e:KV (putK kvs p.1 p.2) (stored vs q.1 q.2):=by
   have:=r0.put p.1 h.2
   rw [← h.1]; exact this
  exact ih e
theorem Zf1:∀ (more kvs:List (Key × V)),(ZhW kvs more).length ≤ kvs.length + more.length
 | [],kvs=>by show kvs.length ≤ kvs.length + 0; exact Nat.le_add_right _ _
 | p :: r,kvs=>by
  have h1:=Zf1 r (putK kvs p.1 p.2)
  have h2:=Zfy kvs p.1 p.2
  show (ZhW (putK kvs p.1 p.2) r).length ≤ _
  rw [List.length_cons]; exact lD 2 0xa3c1c2030c201a1c001 T1 h2 h1
structure M1 (X:Cx) (o:Expr) (m:Str) (apos:Pos) (e:Expr) (cpos:Pos):Prop where
 base:attributeBase o m X.env (eval o X.env) = eval o X.env
 few:((backTo cpos (starEach [e] X.env)).all (fun x=>!x.1) && (backToKw cpos (keywordEach [] X.env)).all (fun x=>x.1.isSome)
  && decide (([e]:List Expr).length + ([]:List Keyword).length + (if ([]:List Keyword).isEmpty then 0 else 1) < 30)) = true
 line:(apos.endLine == cpos.line) = true
 trees:backTo cpos (starEach [e] X.env) = [(false,eval e X.env)]
structure M2 (X:Cx) (o:Expr) (m:Str) (apos:Pos) (e f:Expr) (cpos:Pos):Prop where
 base:attributeBase o m X.env (eval o X.env) = eval o X.env
 few:((backTo cpos (starEach [e,f] X.env)).all (fun x=>!x.1) && (backToKw cpos (keywordEach [] X.env)).all (fun x=>x.1.isSome)
  && decide (([e,f]:List Expr).length + ([]:List Keyword).length + (if ([]:List Keyword).isEmpty then 0 else 1) < 30)) = true
 line:(apos.endLine == cpos.line) = true
 trees:backTo cpos (starEach [e,f] X.env) = [(false,eval e X.env),(false,eval f X.env)]
section
variable {X:Cx} {pins:List (Addr × Obj)} {σ:St} {H:Hp} {s:Shared} {a:Addr} {y d:V} {u r:Value} {o:Option V} {A:Around} {E:Value → Shared → Prop}
end
section
variable {X:Cx} {o e f:Expr} {apos cpos:Pos} {td ty tx:TE}
end
section
variable {X:Cx} {pins:List (Addr × Obj)} {σ:St} {H:Hp} {s:Shared} {a:Addr} {kvs:List (Key × V)} {A:Around} {E:Value → Shared → Prop}
end
section
variable {X:Cx} {pins:List (Addr × Obj)} {σ:St} {H:Hp} {s:Shared} {a:Addr} {y:V} {u:Value} {A:Around} {E:Value → Shared → Prop}
end
end L2
namespace L3
open PySem
noncomputable section
inductive D where
 | non | bl (b:Bool) | int (i:Int) | str (x:List Nat) | tup (ds:List D) | scr (ds:List D) | ref (n:Nat)
 deriving Inhabited
noncomputable abbrev Zav:=Sum Int (List Nat)
inductive MO where
 | lst (xs:List D) | dct (kvs:List (Zav × D)) | fdct (kvs:List (Zav × D)) | ins (c:List Nat) (fs:List (List Nat × D))
 deriving Inhabited
noncomputable abbrev Store:=List MO
structure X3 where
 cls:List Nat
 arg:D
inductive R3 (α:Type) where
 | ok (a:α) (M:Store) | exc (x:X3) (M:Store) | bad
@[simp] noncomputable def R3.bind {α β:Type} (r:R3 α) (k:α → Store → R3 β):R3 β:=match r with
 | .ok a M=>k a M
 | .exc x M=>.exc x M
 | .bad=>.bad
theorem R3.bind_ok {α β:Type} (a:α) (M:Store) (k:α → Store → R3 β):(R3.ok a M).bind k = k a M:=rfl
theorem ft {C:Prop} (h:false = true):C:=Bool.noConfusion h
theorem nsm {α:Type} {C:Prop} {k:α} (h:none = some k):C:=by cases h
noncomputable def ZaX:Nat → D → Bool
 | _,.non=>true | _,.bl _=>true | _,.int _=>true | _,.str _=>true
 | n + 1,.tup ds=>ds.all (ZaX n)
 | _,_=>false
noncomputable abbrev DEEP:Nat:=60
mutual
noncomputable def deq:D → D → Bool
 | .non,.non=>true
 | .bl a,.bl b=>a == b
 | .int a,.int b=>a == b
 | .str a,.str b=>a == b
 | .tup a,.tup b=>ZdN a b
 | .bl a,.int b=>(if a then 1 else 0) == b
 | .int a,.bl b=>a == (if b then 1 else 0)
 | _,_=>false
noncomputable def ZdN:List D → List D → Bool
 | [],[]=>true
 | a :: x,b :: y=>deq a b && ZdN x y
 | _,_=>false
end
theorem ZmT (a b:List Nat):deq (.str a) (.str b) = (a == b):=rfl
theorem Zrf (a b:List D):deq (.tup a) (.tup b) = ZdN a b:=rfl
theorem Zsb:ZdN [] [] = true:=rfl
theorem Zlt (a b:D) (x y:List D):ZdN (a :: x) (b :: y) = (deq a b && ZdN x y):=rfl
theorem ZmF (n:Nat) (i:Int):ZaX n (.int i) = true:=by cases n <;> rfl
theorem ZmE (n:Nat) (x:List Nat):ZaX n (.str x) = true:=by cases n <;> rfl
mutual
noncomputable def below (n:Nat):D → Bool
 | .tup ds=>belowL n ds
 | .scr ds=>belowL n ds
 | .ref k=>k < n
 | .non=>true | .bl _=>true | .int _=>true | .str _=>true
noncomputable def belowL (n:Nat):List D → Bool
 | []=>true
 | d :: ds=>below n d && belowL n ds
end
mutual
noncomputable def same:D → D → Bool
 | .non,.non=>true
 | .bl a,.bl b=>a == b
 | .int a,.int b=>a == b
 | .str a,.str b=>a == b
 | .tup a,.tup b=>Zjb a b
 | .scr a,.scr b=>Zjb a b
 | .ref a,.ref b=>a == b
 | _,_=>false
noncomputable def Zjb:List D → List D → Bool
 | [],[]=>true
 | a :: x,b :: y=>same a b && Zjb x y
 | _,_=>false
end
mutual
theorem ZmN:∀ {a b:D},same a b = true → a = b
 | .non,b,h=>by cases b <;> first | exact rfl | exact ft h
 | .bl a,b,h=>by cases b <;> first | exact congrArg D.bl (beq_iff_eq.mp h) | exact ft h
 | .int a,b,h=>by cases b <;> first | exact congrArg D.int (beq_iff_eq.mp h) | exact ft h
 | .str a,b,h=>by cases b <;> first | exact congrArg D.str (beq_iff_eq.mp h) | exact ft h
 | .tup a,b,h=>by cases b <;> first | exact congrArg D.tup (ZhV h) | exact ft h
 | .scr a,b,h=>by cases b <;> first | exact congrArg D.scr (ZhV h) | exact ft h
 | .ref a,b,h=>by cases b <;> first | exact congrArg D.ref (beq_iff_eq.mp h) | exact ft h
theorem ZhV:∀ {x y:List D},Zjb x y = true → x = y
 | [],y,h=>by cases y <;> first | exact rfl | exact ft h
 | a :: x,y,h=>by
  cases y with
  | nil=>exact ft h
  | cons b y=>exact have w:=Bool.and_eq_true_iff.mp (h:(same a b && Zjb x y) = true); congr (congrArg _ (ZmN w.1)) (ZhV w.2)
end
mutual
theorem Zmt:∀ (a:D),same a a = true
 | .non=>rfl
 | .bl a=>beq_self_eq_true a
 | .int a=>beq_self_eq_true a
 | .str a=>beq_self_eq_true a
 | .tup a=>Zic a
 | .scr a=>Zic a
 | .ref a=>beq_self_eq_true a
theorem Zic:∀ (x:List D),Zjb x x = true
 | []=>rfl
 | a :: x=>Bool.and_eq_true_iff.mpr ⟨Zmt a,Zic x⟩
end
theorem same_iff {a b:D}:same a b = true ↔ a = b:=⟨ZmN,fun h=>h ▸ Zmt a⟩
noncomputable instance:DecidableEq D:=fun a b=>decidable_of_iff (same a b = true) same_iff
noncomputable instance:DecidableEq MO:=fun a b=>match a,b with
 | .lst x,.lst y=>if h:x = y then isTrue (by rw [h]) else isFalse (by intro e; cases e; exact h rfl)
 | .dct x,.dct y=>if h:x = y then isTrue (by rw [h]) else isFalse (by intro e; cases e; exact h rfl)
 | .fdct x,.fdct y=>if h:x = y then isTrue (by rw [h]) else isFalse (by intro e; cases e; exact h rfl)
 | .ins c x,.ins d y=>if h:c = d ∧ x = y then isTrue (by rw [h.1,h.2]) else isFalse (by intro e; cases e; exact h ⟨rfl,rfl⟩)
 | .ins _ _,.lst _=>isFalse (by intro e; cases e)
 | .ins _ _,.dct _=>isFalse (by intro e; cases e)
 | .ins _ _,.fdct _=>isFalse (by intro e; cases e)
 | .lst _,.ins _ _=>isFalse (by intro e; cases e)
 | .dct _,.ins _ _=>isFalse (by intro e; cases e)
 | .fdct _,.ins _ _=>isFalse (by intro e; cases e)
 | .lst _,.dct _=>isFalse (by intro e; cases e)
 | .lst _,.fdct _=>isFalse (by intro e; cases e)
 | .dct _,.lst _=>isFalse (by intro e; cases e)
 | .dct _,.fdct _=>isFalse (by intro e; cases e)
 | .fdct _,.lst _=>isFalse (by intro e; cases e)
 | .fdct _,.dct _=>isFalse (by intro e; cases e)
@[simp] noncomputable abbrev SZ:Nat:=1000000
noncomputable abbrev Zam:=List (Option D)
noncomputable abbrev E3:=Zam → Store → R3 D
noncomputable abbrev EL3:=Zam → Store → R3 (List D)
noncomputable abbrev F3:=List D → Store → R3 D
inductive O3 where
 | nx (env:Zam) (M:Store) | rt (d:D) (M:Store) | bk (env:Zam) (M:Store) | ct (env:Zam) (M:Store) | exc (x:X3) (M:Store) | bad
noncomputable abbrev S3:=Zam → Store → O3
@[simp] noncomputable def Zc (i:Nat):E3:=fun env M=>match env[i]? with
 | some (some d)=>.ok d M
 | _=>.bad
@[simp] noncomputable def eC (d:D):E3:=fun _ M=>.ok d M
@[simp] noncomputable def e1 (op:D → Store → R3 D) (f:E3):E3:=fun env M=>(f env M).bind op
@[simp] noncomputable def e2 (op:D → D → Store → R3 D) (f g:E3):E3:=fun env M=>(f env M).bind fun a M1=>(g env M1).bind fun b M2=>op a b M2
@[simp] noncomputable def Ze:EL3:=fun _ M=>.ok [] M
@[simp] noncomputable def Za (f:E3) (g:EL3):EL3:=fun env M=>(f env M).bind fun a M1=>(g env M1).bind fun b M2=>.ok (a :: b) M2
@[simp] noncomputable def alloc (o:MO) (M:Store):R3 D:=.ok (.ref M.length) (M ++ [o])
section
local instance (priority:=100000) clP1 (p:Prop):Decidable p:=Classical.propDecidable p
@[simp] noncomputable def Zai (g:EL3):E3:=fun env M=>(g env M).bind fun ds M1=>if ds.length ≤ SZ then .ok (.tup ds) M1 else .bad
end
section
local instance (priority:=100000) clP2 (p:Prop):Decidable p:=Classical.propDecidable p
@[simp] noncomputable def ZaE (g:EL3):E3:=fun env M=>(g env M).bind fun ds M1=>if ds.length ≤ SZ then alloc (.lst ds) M1 else .bad
end
@[simp] noncomputable def Zew (f g:E3):E3:=fun env M=>(f env M).bind fun a M1=>match a with
 | .bl true=>g env M1
 | .bl false=>.ok (.bl false) M1
 | _=>.bad
@[simp] noncomputable def eOr (f g:E3):E3:=fun env M=>(f env M).bind fun a M1=>match a with
 | .bl false=>g env M1
 | .bl true=>.ok (.bl true) M1
 | _=>.bad
noncomputable def Zc9 (a:D) (M:Store):R3 D:=match a with
 | .bl b=>.ok (.bl (!b)) M
 | _=>.bad
@[simp] theorem Zur {M:Store}:∀ b,Zc9 (.bl b) M = .ok (.bl (!b)) M:=fun _=>rfl
@[simp] noncomputable def eIf (c f g:E3):E3:=fun env M=>(c env M).bind fun a M1=>match a with
 | .bl true=>f env M1
 | .bl false=>g env M1
 | _=>.bad
@[simp] noncomputable def Zt (F:F3) (g:EL3):E3:=fun env M=>(g env M).bind fun ds M1=>F ds M1
section
local instance (priority:=100000) clP3 (p:Prop):Decidable p:=Classical.propDecidable p
noncomputable def Zm (a b:D) (M:Store):R3 D:=match a,b with
 | .int i,.int j=>.ok (.int (i + j)) M
 | .str x,.str y=>if x.length + y.length ≤ SZ then .ok (.str (x ++ y)) M else .bad
 | .tup x,.tup y=>if x.length + y.length ≤ SZ then .ok (.tup (x ++ y)) M else .bad
 | .ref n,.ref m=>match M[n]?,M[m]? with
  | some (.lst x),some (.lst y)=>if x.length + y.length ≤ SZ then alloc (.lst (x ++ y)) M else .bad
  | _,_=>.bad
 | _,_=>.bad
@[simp] theorem ZeQ {M:Store}:∀ i j,Zm (.int i) (.int j) M = .ok (.int (i + j)) M:=fun _ _=>rfl
@[simp] theorem Zol {M:Store}:∀ x y,Zm (.str x) (.str y) M = (if x.length + y.length ≤ SZ then .ok (.str (x ++ y)) M else .bad):=fun _ _=>rfl
@[simp] theorem ZgE {M:Store}:∀ x y,Zm (.tup x) (.tup y) M = (if x.length + y.length ≤ SZ then .ok (.tup (x ++ y)) M else .bad):=fun _ _=>rfl
@[simp] theorem Zo9 {M:Store}:∀ n m,Zm (.ref n) (.ref m) M = (match M[n]?,M[m]? with
  | some (.lst x),some (.lst y)=>if x.length + y.length ≤ SZ then alloc (.lst (x ++ y)) M else .bad
  | _,_=>.bad):=fun _ _=>rfl
end
noncomputable def ZeU (a b:D) (M:Store):R3 D:=match a,b with
 | .int i,.int j=>.ok (.int (i - j)) M
 | _,_=>.bad
@[simp] theorem ZhZ {M:Store}:∀ i j,ZeU (.int i) (.int j) M = .ok (.int (i - j)) M:=fun _ _=>rfl
section
local instance (priority:=100000) clP4 (p:Prop):Decidable p:=Classical.propDecidable p
noncomputable def Zia (i j:Int):Bool:=(decide (-(2 ^ 64) < i) && decide (i < 2 ^ 64)) || (decide (-(2 ^ 64) < j) && decide (j < 2 ^ 64))
end
section
local instance (priority:=100000) clP5 (p:Prop):Decidable p:=Classical.propDecidable p
noncomputable def ZbD (a b:D) (M:Store):R3 D:=match a,b with
 | .int i,.int j=>if Zia i j then .ok (.int (i * j)) M else .bad
 | .str x,.int k=>if x.length * k.toNat ≤ SZ ∧ k < 1000000 ∧ -1000000 < k then .ok (.str (List.replicate k.toNat x).flatten) M else .bad
 | .ref n,.int k=>match M[n]? with
  | some (.lst x)=>if x.length * k.toNat ≤ SZ ∧ k < 1000000 ∧ -1000000 < k then alloc (.lst (List.replicate k.toNat x).flatten) M else .bad
  | _=>.bad
 | _,_=>.bad
@[simp] theorem Zef {M:Store}:∀ i j,ZbD (.int i) (.int j) M = (if Zia i j then .ok (.int (i * j)) M else .bad):=fun _ _=>rfl
@[simp] theorem Zpt {M:Store}:∀ x k,ZbD (.str x) (.int k) M = (if x.length * k.toNat ≤ SZ ∧ k < 1000000 ∧ -1000000 < k then .ok (.str (List.replicate k.toNat x).flatten) M else .bad):=fun _ _=>rfl
@[simp] theorem ZuP {M:Store}:∀ n k,ZbD (.ref n) (.int k) M = (match M[n]? with
  | some (.lst x)=>if x.length * k.toNat ≤ SZ ∧ k < 1000000 ∧ -1000000 < k then alloc (.lst (List.replicate k.toNat x).flatten) M else .bad
  | _=>.bad):=fun _ _=>rfl
end
noncomputable def Zaw (a b:D) (M:Store):R3 D:=match a,b with
 | .int i,.int j=>if 0 < j then .ok (.int (i % j)) M else .bad
 | _,_=>.bad
@[simp] theorem Zkp {M:Store}:∀ i j,Zaw (.int i) (.int j) M = (if 0 < j then .ok (.int (i % j)) M else .bad):=fun _ _=>rfl
section
local instance (priority:=100000) clP6 (p:Prop):Decidable p:=Classical.propDecidable p
noncomputable def Za6 (a b:D) (M:Store):R3 D:=match a,b with
 | .int i,.int j=>if 0 < j ∧ j < 1073741824 then .ok (.int (i / j)) M else .bad
 | _,_=>.bad
@[simp] theorem ZiP {M:Store}:∀ i j,Za6 (.int i) (.int j) M = (if 0 < j ∧ j < 1073741824 then .ok (.int (i / j)) M else .bad):=fun _ _=>rfl
end
noncomputable def Zok (a b:D) (M:Store):R3 D:=match a,b with
 | .int i,.int j=>if 0 ≤ j ∧ j ≤ 1000 ∧ i.natAbs < 1000 then .ok (.int (i ^ j.toNat)) M else .bad
 | _,_=>.bad
@[simp] theorem ZoQ {M:Store}:∀ i j,Zok (.int i) (.int j) M = (if 0 ≤ j ∧ j ≤ 1000 ∧ i.natAbs < 1000 then .ok (.int (i ^ j.toNat)) M else .bad):=fun _ _=>rfl
noncomputable def ZcI (a:D) (M:Store):R3 D:=match a with
 | .int i=>.ok (.int (-i)) M
 | _=>.bad
@[simp] theorem ZgC {M:Store}:∀ i,ZcI (.int i) M = .ok (.int (-i)) M:=fun _=>rfl
noncomputable def Zgq (a b:D) (M:Store):R3 D:=match a,b with
 | .int i,.int j=>.ok (.bl (decide (i < j))) M
 | _,_=>.bad
@[simp] theorem Zeo {M:Store}:∀ i j,Zgq (.int i) (.int j) M = .ok (.bl (decide (i < j))) M:=fun _ _=>rfl
noncomputable def ZeL (a b:D) (M:Store):R3 D:=match a,b with
 | .int i,.int j=>.ok (.bl (decide (j < i))) M
 | _,_=>.bad
@[simp] theorem ZdX {M:Store}:∀ i j,ZeL (.int i) (.int j) M = .ok (.bl (decide (j < i))) M:=fun _ _=>rfl
noncomputable def Zo2 (a b:D) (M:Store):R3 D:=match a,b with
 | .int i,.int j=>.ok (.bl (decide (j ≤ i))) M
 | _,_=>.bad
@[simp] theorem Zmp {M:Store}:∀ i j,Zo2 (.int i) (.int j) M = .ok (.bl (decide (j ≤ i))) M:=fun _ _=>rfl
noncomputable def eqD (a b:D) (M:Store):Option Bool:=match a,b with
 | .ref n,.ref m=>match M[n]?,M[m]? with
  | some (.lst x),some (.lst y)=>if x.all (ZaX DEEP) && y.all (ZaX DEEP) then some (ZdN x y) else none
  | _,_=>none
 | .int i,.int j=>some (decide (i = j))
 | .str x,.str y=>some (decide (x = y))
 | .bl x,.bl y=>some (decide (x = y))
 | .tup x,.tup y=>if x.all (ZaX DEEP) && y.all (ZaX DEEP) then some (ZdN x y) else none
 | _,_=>none
@[simp] theorem ZpJ {M:Store}:∀ n m,eqD (.ref n) (.ref m) M = (match M[n]?,M[m]? with
  | some (.lst x),some (.lst y)=>if x.all (ZaX DEEP) && y.all (ZaX DEEP) then some (ZdN x y) else none
  | _,_=>none):=fun _ _=>rfl
@[simp] theorem Zo5 {M:Store}:∀ i j,eqD (.int i) (.int j) M = some (decide (i = j)):=fun _ _=>rfl
@[simp] theorem Zj4 {M:Store}:∀ x y,eqD (.str x) (.str y) M = some (decide (x = y)):=fun _ _=>rfl
@[simp] theorem ZpD {M:Store}:∀ x y,eqD (.bl x) (.bl y) M = some (decide (x = y)):=fun _ _=>rfl
@[simp] theorem ZlJ {M:Store}:∀ x y,eqD (.tup x) (.tup y) M = (if x.all (ZaX DEEP) && y.all (ZaX DEEP) then some (ZdN x y) else none):=fun _ _=>rfl
@[simp] noncomputable def Za7 (a b:D) (M:Store):R3 D:=match eqD a b M with
 | some r=>.ok (.bl r) M
 | none=>.bad
@[simp] noncomputable def ZiF (a b:D) (M:Store):R3 D:=match eqD a b M with
 | some r=>.ok (.bl (!r)) M
 | none=>.bad
noncomputable def Zsz (a b:D) (M:Store):R3 D:=match b with
 | .non=>.ok (.bl (decide (a = .non))) M
 | _=>.bad
@[simp] theorem ZmR {a:D} {M:Store}:Zsz a (.non) M = .ok (.bl (decide (a = .non))) M:=rfl
noncomputable def Zbs:D → Bool
 | .non=>true | .bl _=>true | .int _=>true | .str _=>true | _=>false
noncomputable def inS (a:D) (y:List Nat):Option Bool:=match a with
 | .str [c]=>some (decide (c ∈ y))
 | _=>none
@[simp] theorem ZvZ {y:List Nat}:∀ c,inS (.str [c]) y = some (decide (c ∈ y)):=fun _=>rfl
noncomputable def inD (a b:D):Option Bool:=match b with
 | .str y=>inS a y
 | .tup ys=>if Zbs a && ys.all Zbs then some (ys.any fun y=>deq y a) else none
 | _=>none
@[simp] theorem ZvL {a:D}:∀ y,inD a (.str y) = inS a y:=fun _=>rfl
@[simp] theorem ZrF {a:D}:∀ ys,inD a (.tup ys) = (if Zbs a && ys.all Zbs then some (ys.any fun y=>deq y a) else none):=fun _=>rfl
@[simp] noncomputable def Znb (a b:D) (M:Store):R3 D:=match inD a b with
 | some r=>.ok (.bl r) M
 | none=>.bad
@[simp] noncomputable def Zer (a b:D) (M:Store):R3 D:=match inD a b with
 | some r=>.ok (.bl (!r)) M
 | none=>.bad
noncomputable def ixD (n:Nat) (i:Int):Option Nat:=if 0 ≤ i then (if i < n then some i.toNat else none) else if -(n:Int) ≤ i then some (i + n).toNat else none
noncomputable def ZbT {α:Type} (xs:List α) (i:Int):Option α:=(ixD xs.length i).bind fun j=>xs[j]?
noncomputable def ZeP:D → Option Zav
 | .int i=>some (.inl i)
 | .str x=>some (.inr x)
 | _=>none
@[simp] theorem Zvl:ZeP .non = none:=rfl
@[simp] theorem Zvx (b:Bool):ZeP (.bl b) = none:=rfl
@[simp] theorem Zv1 (x:List D):ZeP (.tup x) = none:=rfl
@[simp] theorem ZvR (x:List D):ZeP (.scr x) = none:=rfl
@[simp] theorem ZvH (n:Nat):ZeP (.ref n) = none:=rfl
@[simp] theorem Zva:∀ i,ZeP (.int i) = some (.inl i):=fun _=>rfl
@[simp] theorem Zu3:∀ x,ZeP (.str x) = some (.inr x):=fun _=>rfl
noncomputable def Zb5:List (Zav × D) → Zav → Option D
 | [],_=>none
 | (k,v) :: r,x=>if k = x then some v else Zb5 r x
section
local instance (priority:=100000) clP7 (p:Prop):Decidable p:=Classical.propDecidable p
noncomputable def Zk (a b:D) (M:Store):R3 D:=match a,b with
 | .tup ds,.int i=>match ZbT ds i with
  | some d=>.ok d M
  | none=>.bad
 | .scr ds,.int i=>match ZbT ds i with
  | some d=>.ok d M
  | none=>.bad
 | .str x,.int i=>match ZbT x i with
  | some c=>if x.length ≤ SZ then .ok (.str [c]) M else .bad
  | none=>.bad
 | .ref n,.int i=>match M[n]? with
  | some (.lst ds)=>match ZbT ds i with
   | some d=>.ok d M
   | none=>.bad
  | _=>.bad
 | _,_=>.bad
@[simp] theorem Zk5 {M:Store}:∀ ds i,Zk (.tup ds) (.int i) M = (match ZbT ds i with
  | some d=>.ok d M
  | none=>.bad):=fun _ _=>rfl
@[simp] theorem Zig {M:Store}:∀ ds i,Zk (.scr ds) (.int i) M = (match ZbT ds i with
  | some d=>.ok d M
  | none=>.bad):=fun _ _=>rfl
@[simp] theorem ZhR {M:Store}:∀ x i,Zk (.str x) (.int i) M = (match ZbT x i with
  | some c=>if x.length ≤ SZ then .ok (.str [c]) M else .bad
  | none=>.bad):=fun _ _=>rfl
@[simp] theorem Zkh {M:Store}:∀ n i,Zk (.ref n) (.int i) M = (match M[n]? with
  | some (.lst ds)=>match ZbT ds i with
   | some d=>.ok d M
   | none=>.bad
  | _=>.bad):=fun _ _=>rfl
end
noncomputable def ZgO:Option MO → Option (List (Zav × D))
 | some (.dct kvs)=>some kvs
 | some (.fdct kvs)=>some kvs
 | _=>none
@[simp] theorem ZuW:ZgO none = none:=rfl
@[simp] theorem Zu2 (x:List D):ZgO (some (.lst x)) = none:=rfl
@[simp] theorem Zu0 (c:List Nat) (f:List (List Nat × D)):ZgO (some (.ins c f)) = none:=rfl
@[simp] theorem ZtG:∀ kvs,ZgO (some (.dct kvs)) = some kvs:=fun _=>rfl
@[simp] theorem ZtJ:∀ kvs,ZgO (some (.fdct kvs)) = some kvs:=fun _=>rfl
noncomputable def Zex (a b:D) (M:Store):R3 D:=match a with
 | .ref n=>match ZgO M[n]?,ZeP b with
  | some kvs,some x=>match Zb5 kvs x with
   | some d=>.ok d M
   | none=>.bad
  | _,_=>.bad
 | _=>.bad
@[simp] theorem ZiQ {b:D} {M:Store}:∀ n,Zex (.ref n) b M = (match ZgO M[n]?,ZeP b with
  | some kvs,some x=>match Zb5 kvs x with
   | some d=>.ok d M
   | none=>.bad
  | _,_=>.bad):=fun _=>rfl
noncomputable def sIx (n d:Nat):Option Int → Nat
 | none=>d
 | some v=>if v < 0 then (v + (n:Int)).toNat else min v.toNat n
noncomputable def cutD {α:Type} (xs:List α) (lo hi:Option Int):List α:=(xs.drop (sIx xs.length 0 lo)).take (sIx xs.length xs.length hi - sIx xs.length 0 lo)
noncomputable abbrev EO3:=Zam → Store → R3 (Option Int)
@[simp] noncomputable def ZeN:EO3:=fun _ M=>.ok none M
@[simp] noncomputable def ZeV (f:E3):EO3:=fun env M=>(f env M).bind fun a M1=>match a with
 | .int i=>.ok (some i) M1
 | _=>.bad
section
local instance (priority:=100000) clP8 (p:Prop):Decidable p:=Classical.propDecidable p
noncomputable def Zna (a:D) (lo hi:Option Int) (M:Store):R3 D:=match a with
 | .tup ds=>.ok (.tup (cutD ds lo hi)) M
 | .scr ds=>alloc (.lst (cutD ds lo hi)) M
 | .str x=>if x.length ≤ SZ then .ok (.str (cutD x lo hi)) M else .bad
 | .ref n=>match M[n]? with
  | some (.lst ds)=>alloc (.lst (cutD ds lo hi)) M
  | _=>.bad
 | _=>.bad
@[simp] theorem ZhM {lo:Option Int} {hi:Option Int} {M:Store}:∀ ds,Zna (.tup ds) lo hi M = .ok (.tup (cutD ds lo hi)) M:=fun _=>rfl
@[simp] theorem ZhE {lo:Option Int} {hi:Option Int} {M:Store}:∀ ds,Zna (.scr ds) lo hi M = alloc (.lst (cutD ds lo hi)) M:=fun _=>rfl
@[simp] theorem ZhF {lo:Option Int} {hi:Option Int} {M:Store}:∀ x,Zna (.str x) lo hi M = (if x.length ≤ SZ then .ok (.str (cutD x lo hi)) M else .bad):=fun _=>rfl
@[simp] theorem Zgp {lo:Option Int} {hi:Option Int} {M:Store}:∀ n,Zna (.ref n) lo hi M = (match M[n]? with
  | some (.lst ds)=>alloc (.lst (cutD ds lo hi)) M
  | _=>.bad):=fun _=>rfl
end
@[simp] noncomputable def eSl (f:E3) (lo hi:EO3):E3:=fun env M=>(f env M).bind fun a M1=>(lo env M1).bind fun l M2=>(hi env M2).bind fun h M3=>Zna a l h M3
section
local instance (priority:=100000) clP9 (p:Prop):Decidable p:=Classical.propDecidable p
noncomputable def ZaF (ds:List D) (M:Store):R3 D:=match ds with
 | [.tup x]=>.ok (.int x.length) M
 | [.scr x]=>.ok (.int x.length) M
 | [.str x]=>if x.length ≤ SZ then .ok (.int x.length) M else .bad
 | [.ref n]=>match M[n]? with
  | some (.lst x)=>.ok (.int x.length) M
  | _=>.bad
 | _=>.bad
@[simp] theorem Zgm {M:Store}:∀ x,ZaF ([.tup x]) M = .ok (.int x.length) M:=fun _=>rfl
@[simp] theorem ZhJ {M:Store}:∀ x,ZaF ([.scr x]) M = .ok (.int x.length) M:=fun _=>rfl
@[simp] theorem Zjw {M:Store}:∀ x,ZaF ([.str x]) M = (if x.length ≤ SZ then .ok (.int x.length) M else .bad):=fun _=>rfl
@[simp] theorem Ze2 {M:Store}:∀ n,ZaF ([.ref n]) M = (match M[n]? with
  | some (.lst x)=>.ok (.int x.length) M
  | _=>.bad):=fun _=>rfl
end
noncomputable def ZcY (ds:List D) (M:Store):R3 D:=match ds with
 | [.tup x]=>.ok (.tup x) M
 | [.scr x]=>.ok (.tup x) M
 | [.ref n]=>match M[n]? with
  | some (.lst x)=>.ok (.tup x) M
  | _=>.bad
 | _=>.bad
@[simp] theorem Zi4 {M:Store}:∀ x,ZcY ([.tup x]) M = .ok (.tup x) M:=fun _=>rfl
@[simp] theorem Zjm {M:Store}:∀ x,ZcY ([.scr x]) M = .ok (.tup x) M:=fun _=>rfl
@[simp] theorem Zd1 {M:Store}:∀ n,ZcY ([.ref n]) M = (match M[n]? with
  | some (.lst x)=>.ok (.tup x) M
  | _=>.bad):=fun _=>rfl
noncomputable def ZhP (ds:List D) (M:Store):R3 D:=match ds with
 | [.tup x]=>alloc (.lst x) M
 | [.scr x]=>alloc (.lst x) M
 | [.ref n]=>match M[n]? with
  | some (.lst x)=>alloc (.lst x) M
  | _=>.bad
 | _=>.bad
@[simp] theorem Zip {M:Store}:∀ x,ZhP ([.tup x]) M = alloc (.lst x) M:=fun _=>rfl
@[simp] theorem ZnW {M:Store}:∀ x,ZhP ([.scr x]) M = alloc (.lst x) M:=fun _=>rfl
@[simp] theorem Zfz {M:Store}:∀ n,ZhP ([.ref n]) M = (match M[n]? with
  | some (.lst x)=>alloc (.lst x) M
  | _=>.bad):=fun _=>rfl
inductive Ty3 where
 | int | bool | str | list | tuple
 deriving DecidableEq
noncomputable def Zix (T:Ty3) (d:D) (M:Store):Option Bool:=match d with
 | .non=>some false
 | .bl _=>some (T == .bool || T == .int)
 | .int _=>some (T == .int)
 | .str _=>some (T == .str)
 | .tup _=>some (T == .tuple)
 | .scr _=>none
 | .ref n=>match M[n]? with
  | some (.lst _)=>some (T == .list)
  | some (.dct _)=>some false
  | some (.fdct _)=>none
  | some (.ins _ _)=>none
  | none=>none
@[simp] theorem Zvg {T:Ty3} {M:Store}:Zix T (.non) M = some false:=rfl
@[simp] theorem Zu7 {T:Ty3} {M:Store}:∀ w0,Zix T (.bl w0) M = some (T == .bool || T == .int):=fun _=>rfl
@[simp] theorem Zvj {T:Ty3} {M:Store}:∀ w0,Zix T (.int w0) M = some (T == .int):=fun _=>rfl
@[simp] theorem ZuX {T:Ty3} {M:Store}:∀ w0,Zix T (.str w0) M = some (T == .str):=fun _=>rfl
@[simp] theorem Zvd {T:Ty3} {M:Store}:∀ w0,Zix T (.tup w0) M = some (T == .tuple):=fun _=>rfl
@[simp] theorem Zu1 {T:Ty3} {M:Store}:∀ w0,Zix T (.scr w0) M = none:=fun _=>rfl
@[simp] theorem ZuT {T:Ty3} {M:Store}:∀ n,Zix T (.ref n) M = (match M[n]? with
  | some (.lst _)=>some (T == .list)
  | some (.dct _)=>some false
  | some (.fdct _)=>none
  | some (.ins _ _)=>none
  | none=>none):=fun _=>rfl
@[simp] noncomputable def ZaD (T:Ty3) (d:D) (M:Store):R3 D:=match Zix T d M with
 | some b=>.ok (.bl b) M
 | none=>.bad
section
local instance (priority:=100000) clP11 (p:Prop):Decidable p:=Classical.propDecidable p
noncomputable def Zan (o:D) (ds:List D) (M:Store):R3 D:=match o,ds with
 | .ref n,[d]=>match M[n]? with
  | some (.lst x)=>if x.length < SZ then .ok .non (M.set n (.lst (x ++ [d]))) else .bad
  | _=>.bad
 | _,_=>.bad
@[simp] theorem Zf5 {M:Store}:∀ n d,Zan (.ref n) ([d]) M = (match M[n]? with
  | some (.lst x)=>if x.length < SZ then .ok .non (M.set n (.lst (x ++ [d]))) else .bad
  | _=>.bad):=fun _ _=>rfl
end
section
local instance (priority:=100000) clPp (p:Prop):Decidable p:=Classical.propDecidable p
noncomputable def Zet (o:D) (ds:List D) (M:Store):R3 D:=match o,ds with
 | .ref n,[.int i]=>match M[n]? with
  | some (.lst x)=>if -1000000 ≤ i ∧ i ≤ 1000000 then match ixD x.length i with
   | some k=>match x[k]? with
    | some d=>.ok d (M.set n (.lst (x.eraseIdx k)))
    | none=>.bad
   | none=>.bad
   else .bad
  | _=>.bad
 | .ref n,[]=>match M[n]? with
  | some (.lst x)=>match x[x.length - 1]? with
   | some d=>.ok d (M.set n (.lst x.dropLast))
   | none=>.bad
  | _=>.bad
 | _,_=>.bad
@[simp] theorem Zjp {M:Store}:∀ n i,Zet (.ref n) ([.int i]) M = (match M[n]? with
  | some (.lst x)=>if -1000000 ≤ i ∧ i ≤ 1000000 then match ixD x.length i with
   | some k=>match x[k]? with
    | some d=>.ok d (M.set n (.lst (x.eraseIdx k)))
    | none=>.bad
   | none=>.bad
   else .bad
  | _=>.bad):=fun _ _=>rfl
@[simp] theorem Zj6 {M:Store}:∀ n,Zet (.ref n) ([]) M = (match M[n]? with
  | some (.lst x)=>match x[x.length - 1]? with
   | some d=>.ok d (M.set n (.lst x.dropLast))
   | none=>.bad
  | _=>.bad):=fun _=>rfl
end
noncomputable def tyL (a:D) (M:Store):Bool:=match a with
 | .ref n=>match M[n]? with
  | some (.lst _)=>true
  | _=>false
 | _=>false
@[simp] theorem Zhc {M:Store}:∀ n,tyL (.ref n) M = (match M[n]? with
  | some (.lst _)=>true
  | _=>false):=fun _=>rfl
@[simp] noncomputable def ZaN (ty:D → Store → Bool) (m:D → List D → Store → R3 D) (o:E3) (g:EL3):E3:=fun env M=>(o env M).bind fun a M1=>if ty a M1 then (g env M1).bind fun ds M2=>m a ds M2 else .bad
@[simp] noncomputable def Zaq (b:List D → Store → R3 D) (g:EL3):E3:=fun env M=>(g env M).bind fun ds M1=>b ds M1
noncomputable def putD (k:Zav) (v:D) (kvs:List (Zav × D)):List (Zav × D):=
 if (kvs.any fun p=>decide (p.1 = k)) = true then kvs.map (fun p=>if p.1 = k then (p.1,v) else p) else kvs ++ [(k,v)]
noncomputable abbrev EP3:=Zam → Store → R3 (List (Zav × D))
@[simp] noncomputable def Zwi (f g:E3) (r:EP3):EP3:=fun env M=>(f env M).bind fun a M1=>(g env M1).bind fun b M2=>match ZeP a with
 | some k=>(r env M2).bind fun l M3=>.ok ((k,b) :: l) M3
 | none=>.bad
noncomputable def dictOf (l:List (Zav × D)):List (Zav × D):=l.foldl (fun acc p=>putD p.1 p.2 acc) []
@[simp] noncomputable def ZwS (r:EP3):E3:=fun env M=>(r env (M ++ [.dct []])).bind fun l M1=>match M1[M.length]? with
 | some (.dct [])=>if l.length ≤ 15 then .ok (.ref M.length) (M1.set M.length (.dct (dictOf l))) else .bad
 | _=>.bad
@[simp] noncomputable def Zq0:E3:=fun _ M=>alloc (.dct []) M
@[simp] noncomputable def e3 (op:D → D → D → Store → R3 D) (f g h:E3):E3:=fun env M=>(f env M).bind fun a M1=>(g env M1).bind fun b M2=>(h env M2).bind fun c M3=>op a b c M3
section
local instance (priority:=100000) clP12 (p:Prop):Decidable p:=Classical.propDecidable p
noncomputable def Zof (v a b:D) (M:Store):R3 D:=match a with
 | .ref n=>match M[n]?,ZeP b with
  | some (.dct kvs),some k=>if kvs.length < SZ then .ok .non (M.set n (.dct (putD k v kvs))) else .bad
  | _,_=>.bad
 | _=>.bad
@[simp] theorem Zjj {v:D} {b:D} {M:Store}:∀ n,Zof v (.ref n) b M = (match M[n]?,ZeP b with
  | some (.dct kvs),some k=>if kvs.length < SZ then .ok .non (M.set n (.dct (putD k v kvs))) else .bad
  | _,_=>.bad):=fun _=>rfl
end
noncomputable def Zdr:List D → Option (List (Zav × D))
 | []=>some []
 | .tup [a,b] :: r=>match ZeP a with
  | some k=>(Zdr r).map fun l=>(k,b) :: l
  | none=>none
 | _ :: _=>none
section
local instance (priority:=100000) clP13 (p:Prop):Decidable p:=Classical.propDecidable p
end
noncomputable def Zpp (ds:List D) (M:Store):R3 D:=match ds with
 | [.int i]=>.ok (.int i) M
 | [.bl b]=>.ok (.int (if b then 1 else 0)) M
 | _=>.bad
@[simp] theorem Zvk {M:Store}:∀ i,Zpp ([.int i]) M = .ok (.int i) M:=fun _=>rfl
@[simp] theorem ZqF {M:Store}:∀ b,Zpp ([.bl b]) M = .ok (.int (if b then 1 else 0)) M:=fun _=>rfl
section
local instance (priority:=100000) clPs (p:Prop):Decidable p:=Classical.propDecidable p
end
noncomputable def Zfh:List D → Option (List Int)
 | []=>some []
 | .int i :: r=>(Zfh r).map (i :: ·)
 | _ :: _=>none
noncomputable def Zba:S3:=fun env M=>.nx env M
noncomputable def Ziv:S3:=fun _ _=>.bad
noncomputable def Zy (f g:S3):S3:=fun env M=>match f env M with
 | .nx env' M'=>g env' M'
 | o=>o
noncomputable def sIf (c:E3) (f g:S3):S3:=fun env M=>match c env M with
 | .ok (.bl true) M1=>f env M1
 | .ok (.bl false) M1=>g env M1
 | .exc x M1=>.exc x M1
 | _=>.bad
noncomputable def Zbu (f:E3):S3:=fun env M=>match f env M with
 | .ok d M1=>.rt d M1
 | .exc x M1=>.exc x M1
 | .bad=>.bad
noncomputable def Zak (f:E3):S3:=fun env M=>match f env M with
 | .ok _ M1=>.nx env M1
 | .exc x M1=>.exc x M1
 | .bad=>.bad
noncomputable def Zaf (i:Nat) (f:E3):S3:=fun env M=>match f env M with
 | .ok d M1=>.nx (env.set i (some d)) M1
 | .exc x M1=>.exc x M1
 | .bad=>.bad
noncomputable def Zpa (o i f:E3):S3:=Zak (e3 Zof f o i)
noncomputable abbrev G3:=D → Zam → Option Zam
@[simp] noncomputable def ZbC (i:Nat):G3:=fun d env=>some (env.set i (some d))
noncomputable def bindAll:List Nat → List D → Zam → Option Zam
 | [],[],env=>some env
 | i :: is,d :: ds,env=>bindAll is ds (env.set i (some d))
 | _,_,_=>none
@[simp] theorem Zdt:∀ env,bindAll ([]) ([]) (env) = some env:=fun _=>rfl
@[simp] theorem Zdv:∀ i is d ds env,bindAll (i :: is) (d :: ds) (env) = bindAll is ds (env.set i (some d)):=fun _ _ _ _ _=>rfl
@[simp] noncomputable def Zc3 (is:List Nat):G3:=fun d env=>match d with
 | .tup ds=>bindAll is ds env
 | _=>none
structure It3 where
 items:List D
 lock:Option Nat
noncomputable abbrev I3:=Zam → Store → R3 It3
section
local instance (priority:=100000) clP14 (p:Prop):Decidable p:=Classical.propDecidable p
@[simp] noncomputable def ZfV (f:E3):I3:=fun env M=>(f env M).bind fun a M1=>match a with
 | .tup ds=>.ok ⟨ds,none⟩ M1
 | .scr ds=>.ok ⟨ds,none⟩ M1
 | .str x=>if x.length ≤ SZ then .ok ⟨x.map fun c=>.str [c],none⟩ M1 else .bad
 | .ref n=>match M1[n]? with
  | some (.lst ds)=>.ok ⟨ds,some n⟩ M1
  | _=>.bad
 | _=>.bad
end
noncomputable def ZnJ (lo:Int) (n:Nat):List D:=(List.range n).map fun (k:Nat)=>D.int (lo + (k:Int))
section
local instance (priority:=100000) clP15 (p:Prop):Decidable p:=Classical.propDecidable p
@[simp] noncomputable def Zen (f:E3):I3:=fun env M=>(f env M).bind fun a M1=>match a with
 | .int j=>if j ≤ 1000000 ∧ -1000000 ≤ j then .ok ⟨ZnJ 0 j.toNat,none⟩ M1 else .bad
 | _=>.bad
end
section
local instance (priority:=100000) clP16 (p:Prop):Decidable p:=Classical.propDecidable p
end
noncomputable def locked (it:It3) (M:Store):Bool:=match it.lock with
 | none=>true
 | some n=>decide (M[n]? = some (.lst it.items))
noncomputable def Zbl (it:It3) (g:G3) (body:S3):List D → Zam → Store → O3
 | [],env,M=>if locked it M then .nx env M else .bad
 | d :: ds,env,M=>if locked it M then match g d env with
  | none=>.bad
  | some env1=>match body env1 M with
   | .nx e M'=>Zbl it g body ds e M'
   | .ct e M'=>Zbl it g body ds e M'
   | .bk e M'=>.nx e M'
   | o=>o
  else .bad
theorem ZcO {it:It3} {g:G3} {body:S3} {env:Zam} {M:Store}:Zbl it g body [] env M = if locked it M then .nx env M else .bad:=rfl
theorem ZcM {it:It3} {g:G3} {body:S3} {d:D} {ds:List D} {env:Zam} {M:Store}:Zbl it g body (d :: ds) env M = if locked it M then match g d env with
  | none=>.bad
  | some env1=>match body env1 M with
   | .nx e M'=>Zbl it g body ds e M'
   | .ct e M'=>Zbl it g body ds e M'
   | .bk e M'=>.nx e M'
   | o=>o
  else .bad:=rfl
noncomputable def Zfj (i:I3) (g:G3) (body:S3):S3:=fun env M=>match i env M with
 | .ok it M1=>Zbl it g body it.items env M1
 | .exc x M1=>.exc x M1
 | .bad=>.bad
noncomputable def ZcW (c:E3) (body:S3):Nat → Zam → Store → O3
 | 0,_,_=>.bad
 | n + 1,env,M=>match c env M with
  | .ok (.bl true) M1=>match body env M1 with
   | .nx e M'=>ZcW c body n e M'
   | .ct e M'=>ZcW c body n e M'
   | .bk e M'=>.nx e M'
   | o=>o
  | .ok (.bl false) M1=>.nx env M1
  | .exc x M1=>.exc x M1
  | _=>.bad
theorem Zdf {c:E3} {body:S3} {n:Nat} {env:Zam} {M:Store}:ZcW c body (n + 1) env M = match c env M with
  | .ok (.bl true) M1=>match body env M1 with
   | .nx e M'=>ZcW c body n e M'
   | .ct e M'=>ZcW c body n e M'
   | .bk e M'=>.nx e M'
   | o=>o
  | .ok (.bl false) M1=>.nx env M1
  | .exc x M1=>.exc x M1
  | _=>.bad:=rfl
noncomputable def Zjt (c:E3) (body:S3):S3:=ZcW c body 1000000
noncomputable def ZdQ:List E3 → Zam → Store → R3 Bool
 | [],_,M=>.ok true M
 | c :: cs,env,M=>(c env M).bind fun a M1=>match a with
  | .bl true=>ZdQ cs env M1
  | .bl false=>.ok false M1
  | _=>.bad
theorem Zjh {env:Zam} {M:Store}:ZdQ [] env M = .ok true M:=rfl
theorem Znx {c:E3} {cs:List E3} {env:Zam} {M:Store}:ZdQ (c :: cs) env M = (c env M).bind fun a M1=>match a with
  | .bl true=>ZdQ cs env M1
  | .bl false=>.ok false M1
  | _=>.bad:=rfl
section
local instance (priority:=100000) clP17 (p:Prop):Decidable p:=Classical.propDecidable p
noncomputable def Zdd (it:It3) (g:G3) (ifs:List E3) (elt:E3) (n:Nat):List D → Zam → Store → R3 D
 | [],_,M=>if locked it M then .ok (.ref n) M else .bad
 | d :: ds,env,M=>if locked it M then match g d env with
  | none=>.bad
  | some env1=>(ZdQ ifs env1 M).bind fun b M1=>if b then (elt env1 M1).bind fun e M2=>match M2[n]? with
    | some (.lst x)=>if x.length < SZ then Zdd it g ifs elt n ds env1 (M2.set n (.lst (x ++ [e]))) else .bad
    | _=>.bad
   else Zdd it g ifs elt n ds env1 M1
  else .bad
theorem ZqJ {it:It3} {g:G3} {ifs:List E3} {elt:E3} {n:Nat} {env:Zam} {M:Store}:Zdd it g ifs elt n [] env M = if locked it M then .ok (.ref n) M else .bad:=rfl
theorem ZqP {it:It3} {g:G3} {ifs:List E3} {elt:E3} {n:Nat} {d:D} {ds:List D} {env:Zam} {M:Store}:Zdd it g ifs elt n (d :: ds) env M = if locked it M then match g d env with
  | none=>.bad
  | some env1=>(ZdQ ifs env1 M).bind fun b M1=>if b then (elt env1 M1).bind fun e M2=>match M2[n]? with
    | some (.lst x)=>if x.length < SZ then Zdd it g ifs elt n ds env1 (M2.set n (.lst (x ++ [e]))) else .bad
    | _=>.bad
   else Zdd it g ifs elt n ds env1 M1
  else .bad:=rfl
end
noncomputable def eLC (i:I3) (own:Nat) (g:G3) (ifs:List E3) (elt:E3):E3:=fun env M=>(i env M).bind fun it M1=>
 Zdd it g ifs elt M1.length it.items (env ++ List.replicate own none) (M1 ++ [.lst []])
noncomputable def Zgi (n:Nat):MO → Bool
 | .lst xs=>belowL n xs
 | .dct kvs=>belowL n (kvs.map (·.2))
 | .fdct kvs=>belowL n (kvs.map (·.2))
 | .ins _ fs=>belowL n (fs.map (·.2))
noncomputable def Zff (M:Store) (d:D) (M':Store):R3 D:=
 if below M.length d && (decide (M'.take M.length = M) || (M'.take M.length).all (Zgi M.length)) then .ok d (M'.take M.length) else .ok d M'
noncomputable def mkF (ps n:Nat) (body:S3):F3:=fun ds M=>if ds.length = ps then match body (ds.map some ++ List.replicate (n - ps) none) M with
  | .nx _ M'=>Zff M .non M'
  | .rt d M'=>Zff M d M'
  | .exc x M'=>.exc x M'
  | _=>.bad
 else .bad
end
end L3
namespace L3
theorem Zn {f g:S3} {env env':Zam} {M M':Store} (h:f env M = .nx env' M'):Zy f g env M = g env' M':=by rw [Zy,h]
theorem Zl2 {f g:S3} {env:Zam} {M M':Store} {d:D} (h:f env M = .rt d M'):Zy f g env M = .rt d M':=by rw [Zy,h]
theorem ZbO {c:E3} {f g:S3} {env:Zam} {M M':Store} (h:c env M = .ok (.bl true) M'):sIf c f g env M = f env M':=by rw [sIf,h]
theorem ZaZ {c:E3} {f g:S3} {env:Zam} {M M':Store} (h:c env M = .ok (.bl false) M'):sIf c f g env M = g env M':=by rw [sIf,h]
theorem ZbP {f:E3} {env:Zam} {M M':Store} {d:D} (h:f env M = .ok d M'):Zbu f env M = .rt d M':=by rw [Zbu,h]
theorem Zx {f:E3} {i:Nat} {env env':Zam} {M M':Store} {d:D} (h:f env M = .ok d M') (he:env.set i (some d) = env':=by first | (dsimp only [List.set_cons_succ,List.set_cons_zero] <;> exact rfl) | exact rfl):Zaf i f env M = .nx env' M':=by rw [Zaf,h]; simp only [he]
theorem ZaO {c:E3} {f:S3} {env:Zam} {M M':Store} (h:c env M = .ok (.bl false) M'):sIf c f Zba env M = .nx env M':=by rw [sIf,h]; rfl
theorem Zcs {f:E3} {env:Zam} {M M':Store} {d:D} (h:f env M = .ok d M'):Zak f env M = .nx env M':=by rw [Zak,h]
theorem Zdz {i:I3} {g:G3} {u:S3} {env:Zam} {M M':Store} {it:It3} (h:i env M = .ok it M'):Zfj i g u env M = Zbl it g u it.items env M':=by rw [Zfj,h]
theorem Zr1 {i:I3} {own:Nat} {g:G3} {ts:List E3} {f:E3} {env:Zam} {M M':Store} {it:It3} (h:i env M = .ok it M'):eLC i own g ts f env M = Zdd it g ts f M'.length it.items (env ++ List.replicate own none) (M' ++ [.lst []]):=by rw [eLC,h]; rfl
theorem ZcX {ps n:Nat} {body:S3} {ds:List D} {env:Zam} {M M':Store} {d:D} (h:body env M = .rt d M') (hl:ds.length = ps:=by rfl) (he:ds.map some ++ List.replicate (n - ps) none = env:=by rfl):mkF ps n body ds M = Zff M d M':=by rw [mkF,if_pos hl,he,h]
theorem Zhd {ps n:Nat} {body:S3} {ds:List D} {env env':Zam} {M M':Store} (h:body env M = .nx env' M') (hl:ds.length = ps:=by rfl) (he:ds.map some ++ List.replicate (n - ps) none = env:=by rfl):mkF ps n body ds M = Zff M .non M':=by rw [mkF,if_pos hl,he,h]
theorem Zed {M G:Store} {d:D} (h:below M.length d = true):Zff M d (M ++ G) = .ok d M:=by
 simp [Zff,h]
theorem ZgZ {M:Store} {d:D} (h:below M.length d = true):Zff M d M = .ok d M:=by
 simp [Zff,h]
end L3
namespace L3
theorem Zax {α:Type} (M:List α) (x:α) (xs:List α):(M ++ x :: xs)[M.length]? = some x:=by simp
theorem ZdU {α:Type} (M xs:List α) (k:Nat):(M ++ xs)[M.length + k]? = xs[k]?:=by
 rw [List.getElem?_append_right (Nat.le_add_right _ _)]; congr 1; exact Nat.le_antisymm (lC 1 2199589555233 T1 (Nat.sub_add_cancel (Nat.le_add_right _ _))) (lC 1 2267788938241 T1 (sbA _ _))
theorem ZhK {α:Type} (M xs:List α) (k:Nat) (o:α):(M ++ xs).set (M.length + k) o = M ++ xs.set k o:=by
 rw [List.set_append_right _ _ (Nat.le_add_right _ _)]; congr 2; exact Nat.le_antisymm (lC 1 2199589555233 T1 (Nat.sub_add_cancel (Nat.le_add_right _ _))) (lC 1 2267788938241 T1 (sbA _ _))
theorem ZaW {α:Type} {M:List α} {n:Nat} {o:α} (h:M[n]? = some o) (xs:List α):(M ++ xs)[n]? = some o:=by
 rw [List.getElem?_append_left (List.getElem?_eq_some_iff.mp h).1,h]
theorem ZaU {α:Type} (xs:List α) (k:Nat):ZbT xs (k:Int) = xs[k]?:=by
 unfold ZbT ixD
 rw [if_pos (Int.natCast_nonneg k)]
 by_cases h:k < xs.length
 ·rw [if_pos (Int.ofNat_lt.2 h)]; simp
 ·rw [if_neg (by exact fun z=>iN [_,_] [] 2 6667149772945 T1 z h)]; simp at h ⊢; exact h
@[simp] theorem Ztz {α:Type} (xs:List α) (k:Nat):ZbT xs (k:Int) = xs[k]?:=ZaU xs k
@[simp] theorem Zue {α:Type} (xs:List α) (n:Nat):ZbT xs (no_index (OfNat.ofNat n:Int)) = xs[(OfNat.ofNat n:Nat)]?:=ZaU xs n
@[simp] theorem Ztv {α:Type} (xs:List α):ZbT xs (-1) = xs.getLast?:=by
 unfold ZbT ixD
 rw [if_neg (by decide),List.getLast?_eq_getElem?]
 by_cases h:0 < xs.length
 ·rw [if_pos (by exact iN [_] [] 1 725993655825 T1 h)]
  simp only [Option.bind_some]
  congr 1; exact Nat.le_antisymm (iN [_,_,_] [] 2 0x200a2c10118a9c08a1 T1 (Int.toNat_of_nonneg (iN [_] [] 1 595337940497 T1 h)) (sbA _ _)) (iN [_,_,_] [] 2 0x1200a2c211808a9c81 T1 (Int.self_le_toNat _) (Nat.sub_add_cancel (lA 1 10489361 T1 h)))
 ·have:xs = []:=by simpa using h
  subst this; rfl
theorem ZjD (n k:Nat):ixD n (k:Int) = if k < n then some k else none:=by
 unfold ixD
 rw [if_pos (Int.natCast_nonneg k)]
 by_cases h:k < n
 ·rw [if_pos (Int.ofNat_lt.2 h),if_pos h]; simp
 ·rw [if_neg (by exact fun z=>iN [_,_] [] 2 6667149772945 T1 z h),if_neg h]
@[simp] theorem Zt2 (n k:Nat):ixD n (k:Int) = if k < n then some k else none:=ZjD n k
@[simp] theorem Zu9 (m n:Nat):ixD m (no_index (OfNat.ofNat n:Int)) = if (OfNat.ofNat n:Nat) < m then some (OfNat.ofNat n:Nat) else none:=ZjD m n
theorem getD_last {α:Type} (xs:List α) (x:α):ZbT (xs ++ [x]) (-1) = some x:=by
 unfold ZbT ixD
 rw [if_neg (by decide),if_pos (by simp; exact iN [_] [] 0 10521768 T1)]
 have:(-1 + ((xs ++ [x]).length:Int)).toNat = xs.length:=by simp; exact Nat.le_antisymm (iN [_,_] [] 1 4514701222086817 T1 (Int.toNat_of_nonneg (iN [_] [] 0 43097169128 T1))) (iN [_,_] [] 1 4505291991981185 T1 (Int.self_le_toNat _))
 simp only [Option.bind_some,this]
 simp
inductive Row where
 | put (a:Nat) (n:Int) | add (a b c:Nat) | sub (a b c:Nat) | more (a b c:Nat) | get (a b:Nat) | set (a b:Nat) | jump (k:Nat) | when (a k:Nat) | tell (a:Nat) | halt
 deriving Inhabited
noncomputable def Row.ok (many:Nat):Row → Prop
 | .put a _=>a < 8
 | .add a b c=>a < 8 ∧ b < 8 ∧ c < 8
 | .sub a b c=>a < 8 ∧ b < 8 ∧ c < 8
 | .more a b c=>a < 8 ∧ b < 8 ∧ c < 8
 | .get a b=>a < 8 ∧ b < 8
 | .set a b=>a < 8 ∧ b < 8
 | .jump k=>k < many
 | .when a k=>a < 8 ∧ k < many
 | .tell a=>a < 8
 | .halt=>True
noncomputable def Row.tells (bs:List Int):Row → Option Int
 | .tell a=>bs[a]?
 | _=>none
noncomputable def Row.isHalt:Row → Bool
 | .halt=>true
 | _=>false
@[simp] theorem Ztr {a:Nat} {n:Int} {bs:List Int}:(Row.put a n).tells bs = none:=rfl
@[simp] theorem Zth {a:Nat} {n:Int}:(Row.put a n).isHalt = false:=rfl
@[simp] theorem Ztt {a:Nat} {b:Nat} {c:Nat} {bs:List Int}:(Row.add a b c).tells bs = none:=rfl
@[simp] theorem Zs3 {a:Nat} {b:Nat} {c:Nat}:(Row.add a b c).isHalt = false:=rfl
@[simp] theorem Zty {a:Nat} {b:Nat} {c:Nat} {bs:List Int}:(Row.sub a b c).tells bs = none:=rfl
@[simp] theorem Zrt {a:Nat} {b:Nat} {c:Nat}:(Row.sub a b c).isHalt = false:=rfl
@[simp] theorem ZsX {a:Nat} {b:Nat} {c:Nat} {bs:List Int}:(Row.more a b c).tells bs = none:=rfl
@[simp] theorem Zrl {a:Nat} {b:Nat} {c:Nat}:(Row.more a b c).isHalt = false:=rfl
@[simp] theorem Ztx {a:Nat} {b:Nat} {bs:List Int}:(Row.get a b).tells bs = none:=rfl
@[simp] theorem Zsn {a:Nat} {b:Nat}:(Row.get a b).isHalt = false:=rfl
@[simp] theorem Zts {a:Nat} {b:Nat} {bs:List Int}:(Row.set a b).tells bs = none:=rfl
@[simp] theorem Zr6 {a:Nat} {b:Nat}:(Row.set a b).isHalt = false:=rfl
@[simp] theorem Zsv {k:Nat} {bs:List Int}:(Row.jump k).tells bs = none:=rfl
@[simp] theorem Zrd {k:Nat}:(Row.jump k).isHalt = false:=rfl
@[simp] theorem Zrq {a:Nat} {k:Nat} {bs:List Int}:(Row.when a k).tells bs = none:=rfl
@[simp] theorem Zrp {a:Nat} {k:Nat}:(Row.when a k).isHalt = false:=rfl
@[simp] theorem ZrB {a:Nat} {bs:List Int}:(Row.tell a).tells bs = bs[a]?:=rfl
@[simp] theorem Zrj {a:Nat}:(Row.tell a).isHalt = false:=rfl
@[simp] theorem Ztk  {bs:List Int}:(Row.halt).tells bs = none:=rfl
@[simp] theorem Zrn :(Row.halt).isHalt = true:=rfl
mutual
theorem Znl:∀ (n:Nat) (d:D),ZaX n d = true → deq d d = true
 | _,.non,_=>rfl
 | _,.bl b,_=>beq_self_eq_true b
 | _,.int b,_=>beq_self_eq_true b
 | _,.str b,_=>beq_self_eq_true b
 | 0,.tup _,h=>ft h
 | n + 1,.tup ds,h=>Zf9 n ds (List.all_eq_true.mp h)
 | n,.scr _,h=>by cases n <;> exact ft h
 | n,.ref _,h=>by cases n <;> exact ft h
theorem Zf9:∀ (n:Nat) (ds:List D),(∀ d ∈ ds,ZaX n d = true) → ZdN ds ds = true
 | _,[],_=>rfl
 | n,d :: ds,h=>by
  simp only [Zsb,Zlt,Bool.and_eq_true]
  exact ⟨Znl n d (h d List.mem_cons_self),Zf9 n ds fun x hx=>h x (List.mem_cons_of_mem _ hx)⟩
end
theorem Zm7 {ds:List D} (h:ds.all (ZaX DEEP) = true):ZdN ds ds = true:=Zf9 DEEP ds (by simpa using h)
end L3
namespace L3
def Rt (o:O3) (d:D):Prop:=∃ M',o = .rt d M'
theorem Rt.set {i:Nat} {f:E3} {g:S3} {env env':Zam} {M M':Store} {d r:D} (h:f env M = .ok d M') (k:Rt (g env' M') r) (he:env.set i (some d) = env':=by first | (dsimp only [List.set_cons_succ,List.set_cons_zero] <;> exact rfl) | exact rfl):Rt (Zy (Zaf i f) g env M) r:=by
 rw [Rt,Zn (Zx h he)]; exact k
theorem Rt.expr {f:E3} {g:S3} {env:Zam} {M M':Store} {d r:D} (h:f env M = .ok d M') (k:Rt (g env M') r):Rt (Zy (Zak f) g env M) r:=by
 rw [Rt,Zn (Zcs h)]; exact k
theorem Rt.skip {c:E3} {u g:S3} {env:Zam} {M M':Store} {r:D} (h:c env M = .ok (.bl false) M') (k:Rt (g env M') r):Rt (Zy (sIf c u Zba) g env M) r:=by
 rw [Rt,Zn (ZaO h)]; exact k
theorem Rt.loop {i:I3} {t:G3} {u g:S3} {env env':Zam} {M M' M1:Store} {it:It3} {r:D} (h:i env M = .ok it M1) (hl:Zbl it t u it.items env M1 = .nx env' M') (k:Rt (g env' M') r):Rt (Zy (Zfj i t u) g env M) r:=by
 rw [Rt,Zn ((Zdz h).trans hl)]; exact k
theorem Rt.step {f g:S3} {env env':Zam} {M M':Store} {r:D} (h:f env M = .nx env' M') (k:Rt (g env' M') r):Rt (Zy f g env M) r:=by
 rw [Rt,Zn h]; exact k
theorem Rt.ret {f:E3} {env:Zam} {M M':Store} {d:D} (h:f env M = .ok d M'):Rt (Zbu f env M) d:=⟨M',ZbP h⟩
theorem Rt.law {ps n:Nat} {body:S3} {ds:List D} {env:Zam} {b:Bool} (h:Rt (body env []) (.bl b)) (hl:ds.length = ps:=by rfl) (he:ds.map some ++ List.replicate (n - ps) none = env:=by rfl):∃ M',mkF ps n body ds [] = .ok (.bl b) M':=by
 obtain ⟨M',h⟩:=h
 exact ⟨_,(ZcX h hl he).trans (by rw [Zff,if_pos (by simp [below])])⟩
theorem Rt.pure {ps n:Nat} {body:S3} {ds:List D} {env:Zam} {M G:Store} {d:D} (h:body env M = .rt d (M ++ G)) (hd:below M.length d = true) (hl:ds.length = ps:=by rfl) (he:ds.map some ++ List.replicate (n - ps) none = env:=by rfl):mkF ps n body ds M = .ok d M:=
 (ZcX h hl he).trans (Zed hd)
end L3
namespace L3
theorem Zg {op:D → D → Store → R3 D} {f g:E3} {env:Zam} {M M1 M2 M3:Store} {a b d:D} (h1:f env M = .ok a M1) (h2:g env M1 = .ok b M2) (h3:op a b M2 = .ok d M3):e2 op f g env M = .ok d M3:=by
 simp only [e2,h1,h2,h3,R3.bind]
theorem ZeI {F:F3} {f:E3} {env:Zam} {M M1 M2:Store} {a d:D} (h1:f env M = .ok a M1) (h2:F [a] M1 = .ok d M2):Zt F (Za f Ze) env M = .ok d M2:=by
 simp only [Zt,Za,Ze,h1,h2,R3.bind]
theorem Zej {F:F3} {f g:E3} {env:Zam} {M M1 M2 M3:Store} {a b d:D} (h1:f env M = .ok a M1) (h2:g env M1 = .ok b M2) (h3:F [a,b] M2 = .ok d M3):Zt F (Za f (Za g Ze)) env M = .ok d M3:=by
 simp only [Zt,Za,Ze,h1,h2,h3,R3.bind]
theorem ZrP {F:F3} {f g h:E3} {env:Zam} {M M1 M2 M3 M4:Store} {a b c d:D} (h1:f env M = .ok a M1) (h2:g env M1 = .ok b M2) (h3:h env M2 = .ok c M3) (h4:F [a,b,c] M3 = .ok d M4):Zt F (Za f (Za g (Za h Ze))) env M = .ok d M4:=by
 simp only [Zt,Za,Ze,h1,h2,h3,h4,R3.bind]
@[simp] theorem Zvr (a b:Ty3):(a == b) = decide (a = b):=by cases a <;> cases b <;> rfl
theorem Zph {F:F3} {f g h k:E3} {env:Zam} {M M1 M2 M3 M4 M5:Store} {a b c d e:D} (h1:f env M = .ok a M1) (h2:g env M1 = .ok b M2) (h3:h env M2 = .ok c M3) (h4:k env M3 = .ok d M4) (h5:F [a,b,c,d] M4 = .ok e M5):Zt F (Za f (Za g (Za h (Za k Ze)))) env M = .ok e M5:=by
 simp only [Zt,Za,Ze,h1,h2,h3,h4,h5,R3.bind]
theorem ZaS {b:List D → Store → R3 D} {f:E3} {env:Zam} {M M1 M2:Store} {a d:D} (h1:f env M = .ok a M1) (h2:b [a] M1 = .ok d M2):Zaq b (Za f Ze) env M = .ok d M2:=by
 simp only [Zaq,Za,Ze,h1,h2,R3.bind]
theorem ZbG {op:D → Store → R3 D} {f:E3} {env:Zam} {M M1 M2:Store} {a d:D} (h1:f env M = .ok a M1) (h2:op a M1 = .ok d M2):e1 op f env M = .ok d M2:=by
 simp only [e1,h1,h2,R3.bind]
theorem Zh {f:E3} {g:EL3} {env:Zam} {M M1 M2:Store} {d:D} {ds:List D} (h1:f env M = .ok d M1) (h2:g env M1 = .ok ds M2):Za f g env M = .ok (d :: ds) M2:=by
 simp only [Za,h1,h2,R3.bind]
theorem Zv {g:EL3} {env:Zam} {M M':Store} {ds:List D} (h:g env M = .ok ds M') (hl:decide (ds.length ≤ 100) = true):Zai g env M = .ok (.tup ds) M':=by
 have:=of_decide_eq_true hl
 simp only [Zai,h,R3.bind]
 rw [if_pos (Nat.le_trans this (by decide))]
theorem ZaM {n:Nat} {M:Store} {xs:List D} (h:M[n]? = some (.lst xs)):ZaF [.ref n] M = .ok (.int (xs.length:Int)) M:=by simp only [Zgm,ZhJ,Zjw,Ze2,h]
theorem ZfN {n:Nat} {M:Store} {xs:List D} (h:M[n]? = some (.lst xs)):ZcY [.ref n] M = .ok (.tup xs) M:=by simp only [Zi4,Zjm,Zd1,h]
theorem Zbe {n:Nat} {M:Store} {xs:List D} {i:Int} {d:D} (h:M[n]? = some (.lst xs)) (hd:ZbT xs i = some d):Zk (.ref n) (.int i) M = .ok d M:=by simp only [Zk5,Zig,ZhR,Zkh,h,hd]
theorem Zfc {M:Store} {xs:List D} {i:Int} {d:D} (hd:ZbT xs i = some d):Zk (.tup xs) (.int i) M = .ok d M:=by simp only [Zk5,Zig,ZhR,Zkh,hd]
theorem Zh4 {a b:Int} {M:Store} (h:a = b):Za7 (.int a) (.int b) M = .ok (.bl true) M:=by simp only [Za7,ZpJ,Zo5,Zj4,ZpD,ZlJ,decide_eq_true h]
theorem Zhz {a b:Int} {M:Store} (h:¬ a = b):Za7 (.int a) (.int b) M = .ok (.bl false) M:=by simp only [Za7,ZpJ,Zo5,Zj4,ZpD,ZlJ,decide_eq_false h]
theorem ZaV {i j:Int} {M:Store} (h:0 < j):Zaw (.int i) (.int j) M = .ok (.int (i % j)) M:=by simp only [Zkp,if_pos h]
theorem Zkr {f g:E3} {env:Zam} {M M1:Store} (h1:f env M = .ok (.bl false) M1):eOr f g env M = g env M1:=by simp only [eOr,h1,R3.bind]
theorem ZuL {f g:E3} {env:Zam} {M M1:Store} (h1:f env M = .ok (.bl true) M1):eOr f g env M = .ok (.bl true) M1:=by simp only [eOr,h1,R3.bind]
theorem Zez {f g:E3} {env:Zam} {M M1:Store} (h1:f env M = .ok (.bl true) M1):Zew f g env M = g env M1:=by simp only [Zew,h1,R3.bind]
theorem Zg8 {f g:E3} {env:Zam} {M M1:Store} (h1:f env M = .ok (.bl false) M1):Zew f g env M = .ok (.bl false) M1:=by simp only [Zew,h1,R3.bind]
theorem Zq2 {c f g:E3} {env:Zam} {M M1:Store} (h1:c env M = .ok (.bl true) M1):eIf c f g env M = f env M1:=by simp only [eIf,h1,R3.bind]
theorem ZtO {c f g:E3} {env:Zam} {M M1:Store} (h1:c env M = .ok (.bl false) M1):eIf c f g env M = g env M1:=by simp only [eIf,h1,R3.bind]
end L3
namespace L3
def keysOk (t:List (Int × Int)):Prop:=(t.map (·.1)).Nodup
def Zsc (cs:List (Int × Int)):Prop:=cs.Pairwise fun a b=>a.1 < b.1
theorem Zsc.keys {cs:List (Int × Int)} (h:Zsc cs):keysOk cs:=by
 unfold keysOk Zsc at *
 rw [List.Nodup,List.pairwise_map]
 exact h.imp fun h=>(fun z=>iN [] [_,_] 2 26047746225 T1 z h)
noncomputable def Zql (cs:List (Int × Int)) (n v:Int):List (Int × Int):=cs.filter (fun c=>decide (c.1 < n)) ++ (if v ≠ 0 then [(n,v)] else []) ++ cs.filter (fun c=>decide (n < c.1))
noncomputable def Row.place (bs:List Int) (p:Nat):Row → Nat
 | .jump k=>k
 | .when a k=>if 0 < bs.getD a 0 then k else p + 1
 | _=>p + 1
noncomputable def Row.cells (bs:List Int) (cs:List (Int × Int)):Row → List (Int × Int)
 | .set a b=>Zql cs (bs.getD a 0) (bs.getD b 0)
 | _=>cs
theorem ZoS (kvs:List (Zav × D)) (k j:Zav) (v:D):Zb5 (putD k v kvs) j = if j = k then some v else Zb5 kvs j:=by
 have mp:∀ l:List (Zav × D),Zb5 (l.map fun p=>if p.1 = k then (p.1,v) else p) j = if j = k then (if l.any (fun p=>decide (p.1 = k)) then some v else none) else Zb5 l j:=by
  intro l
  induction l with
  | nil=>simp [Zb5]
  | cons p l ih=>
   obtain ⟨a,b⟩:=p
   rw [List.map_cons]
   by_cases e:a = k
   ·subst e
    simp only [if_true,Zb5]
    by_cases ej:a = j
    ·subst ej; simp
    ·rw [if_neg ej,ih,if_neg (Ne.symm ej),if_neg (Ne.symm ej),if_neg ej]
   ·simp only [if_neg e,Zb5]
    by_cases ej:a = j
    ·subst ej; simp [e]
    ·rw [if_neg ej,ih,if_neg ej]; simp only [List.any_cons,decide_eq_false e,Bool.false_or]
 have ap:∀ l:List (Zav × D),¬ l.any (fun p=>decide (p.1 = k)) = true → Zb5 (l ++ [(k,v)]) j = if j = k then some v else Zb5 l j:=by
  intro l
  induction l with
  | nil=>intro _; simp only [List.nil_append,Zb5]; by_cases e:k = j <;> simp [e,Ne.symm,eq_comm]
  | cons p l ih=>
   intro h
   obtain ⟨a,b⟩:=p
   simp only [List.any_cons,Bool.or_eq_true,decide_eq_true_eq,not_or] at h
   simp only [List.cons_append,Zb5]
   by_cases ej:a = j
   ·subst ej; rw [if_pos rfl,if_neg h.1,if_pos rfl]
   ·rw [if_neg ej,if_neg ej]; exact ih (by simpa using h.2)
 unfold putD
 by_cases c:(kvs.any fun p=>decide (p.1 = k)) = true
 ·rw [if_pos c,mp,c]; simp
 ·rw [if_neg c]; exact ap kvs c
theorem Zja:∀ (l acc:List (Zav × D)) (j:Zav),(l.map (·.1)).Nodup → Zb5 (l.foldl (fun a p=>putD p.1 p.2 a) acc) j = (match Zb5 l j with | some v=>some v | none=>Zb5 acc j)
 | [],acc,j,_=>rfl
 | p :: l,acc,j,h=>by
  obtain ⟨k,v⟩:=p
  simp only [List.map_cons,List.nodup_cons] at h
  rw [List.foldl_cons,Zja l _ j h.2,ZoS]
  simp only [Zb5]
  by_cases e:k = j
  ·subst e
   have:Zb5 l k = none:=by
    have hn:=h.1
    clear h
    induction l with
    | nil=>rfl
    | cons q l ih=>
     simp only [List.map_cons,List.mem_cons,not_or] at hn
     simp only [Zb5]
     rw [if_neg (Ne.symm hn.1)]; exact ih hn.2
   rw [this]; simp
  ·rw [if_neg e,if_neg (Ne.symm e)]
end L3
namespace L3
end L3
namespace L3
end L3
namespace L3
noncomputable def ZmK (i:Int):List Nat:=(PySem.Str.ofString (toString i)).cps.toList
noncomputable section
local instance (priority:=100000) clQ1 (p:Prop):Decidable p:=Classical.propDecidable p
noncomputable def ZtM (ds:List D) (M:Store):R3 D:=match ds with
 | [.int i]=>if i.natAbs.log2 < 1920 then .ok (.str (ZmK i)) M else .bad
 | [.str x]=>.ok (.str x) M
 | _=>.bad
@[simp] theorem Zvh {M:Store}:∀ i,ZtM ([.int i]) M = (if i.natAbs.log2 < 1920 then .ok (.str (ZmK i)) M else .bad):=fun _=>rfl
@[simp] theorem ZuV {M:Store}:∀ x,ZtM ([.str x]) M = .ok (.str x) M:=fun _=>rfl
noncomputable def Zuy:List D → Option (List (List Nat))
 | []=>some []
 | .str x :: ds=>(Zuy ds).map (x :: ·)
 | _=>none
noncomputable def ZgS (ds:List D) (M:Store):R3 D:=match ds with
 | [.str x]=>match PySem.intText? ⟨x.toArray⟩ with
  | some n=>if x.length ≤ 640 then .ok (.int n) M else .bad
  | none=>.bad
 | ds=>Zpp ds M
@[simp] theorem Zpn {M:Store}:∀ x,ZgS ([.str x]) M = (match PySem.intText? ⟨x.toArray⟩ with
  | some n=>if x.length ≤ 640 then .ok (.int n) M else .bad
  | none=>.bad):=fun _=>rfl
@[simp] theorem ZnU {M:Store}:∀ i,ZgS [.int i] M = .ok (.int i) M:=fun _=>rfl
@[simp] theorem Zpi {M:Store}:∀ b,ZgS [.bl b] M = Zpp [.bl b] M:=fun _=>rfl
end
end L3
namespace L3
noncomputable section
structure ItL where
 items:List D
 lk:List (Nat × List D)
noncomputable def Za5 (lk:List (Nat × List D)) (M:Store):Bool:=lk.all fun q=>decide (M[q.1]? = some (.lst q.2))
noncomputable def Zcb (lk:List (Nat × List D)) (g:G3) (body:S3):List D → Zam → Store → O3
 | [],env,M=>if Za5 lk M then .nx env M else .bad
 | d :: ds,env,M=>if Za5 lk M then match g d env with
  | none=>.bad
  | some env1=>match body env1 M with
   | .nx e M'=>Zcb lk g body ds e M'
   | .ct e M'=>Zcb lk g body ds e M'
   | .bk e M'=>.nx e M'
   | o=>o
  else .bad
theorem Ze3 {lk:List (Nat × List D)} {g:G3} {body:S3} {env:Zam} {M:Store}:Zcb lk g body [] env M = if Za5 lk M then .nx env M else .bad:=rfl
theorem Ze1 {lk:List (Nat × List D)} {g:G3} {body:S3} {d:D} {ds:List D} {env:Zam} {M:Store}:Zcb lk g body (d :: ds) env M = if Za5 lk M then match g d env with
  | none=>.bad
  | some env1=>match body env1 M with
   | .nx e M'=>Zcb lk g body ds e M'
   | .ct e M'=>Zcb lk g body ds e M'
   | .bk e M'=>.nx e M'
   | o=>o
  else .bad:=rfl
noncomputable abbrev IL3:=Zam → Store → R3 ItL
noncomputable def ZgK (i:IL3) (g:G3) (body:S3):S3:=fun env M=>match i env M with
 | .ok it M1=>Zcb it.lk g body it.items env M1
 | .exc x M1=>.exc x M1
 | .bad=>.bad
noncomputable def ZbM:Nat → List D → List D
 | _,[]=>[]
 | k,d :: ds=>.tup [.int k,d] :: ZbM (k + 1) ds
@[simp] noncomputable def Zfm (f:E3):IL3:=fun env M=>(f env M).bind fun a M1=>match a with
 | .tup ds=>.ok ⟨ZbM 0 ds,[]⟩ M1
 | .ref n=>match M1[n]? with
  | some (.lst ds)=>.ok ⟨ZbM 0 ds,[(n,ds)]⟩ M1
  | _=>.bad
 | _=>.bad
noncomputable def Zun (a b:D) (M:Store):R3 D:=match a,b with
 | .tup [.int i,.int j],.tup [.int k,.int l]=>.ok (.bl (decide (i < k) || (decide (i = k) && decide (j ≤ l)))) M
 | _,_=>.bad
@[simp] theorem Zui {M:Store}:∀ i j k l,Zun (.tup [.int i,.int j]) (.tup [.int k,.int l]) M = .ok (.bl (decide (i < k) || (decide (i = k) && decide (j ≤ l)))) M:=fun _ _ _ _=>rfl
noncomputable def ZiJ (ds:List D) (M:Store):R3 D:=match ds with
 | [.int i,.int j]=>.ok (.int (if j > i then j else i)) M
 | _=>.bad
@[simp] theorem Zor {M:Store}:∀ i j,ZiJ ([.int i,.int j]) M = .ok (.int (if j > i then j else i)) M:=fun _ _=>rfl
theorem Zg4:∀ (k:Nat) (ds:List D) (i:Nat),(ZbM k ds)[i]? = (ds[i]?).map fun d=>.tup [.int ((k + i:Nat):Int),d]
 | _,[],_=>by simp [ZbM]
 | k,d :: ds,0=>by simp [ZbM]
 | k,d :: ds,i + 1=>by
  simp only [ZbM,List.getElem?_cons_succ,Zg4 (k + 1) ds i]
  rw [show k + 1 + i = k + (i + 1) by exact Nat.le_antisymm (lB 0 0xa1c0c1a0cc0 T1) (lB 0 1790139547840 T1)]
theorem Zg3:∀ (k:Nat) (ds:List D),(ZbM k ds).length = ds.length
 | _,[]=>rfl
 | k,d :: ds=>by simp [ZbM,Zg3 (k + 1) ds]
end
end L3
namespace L3
noncomputable section
noncomputable def Zs0:List D → List D → List D
 | a :: x,b :: y=>.tup [a,b] :: Zs0 x y
 | _,_=>[]
@[simp] noncomputable def ZwX (f g:E3):IL3:=fun env M=>(f env M).bind fun a M1=>(g env M1).bind fun b M2=>match a,b with
 | .ref n,.ref m=>match M2[n]?,M2[m]? with
  | some (.lst x),some (.lst y)=>.ok ⟨Zs0 x y,[(n,x),(m,y)]⟩ M2
  | _,_=>.bad
 | _,_=>.bad
section
local instance (priority:=100000) clZ1 (p:Prop):Decidable p:=Classical.propDecidable p
noncomputable def ZdJ (lk:List (Nat × List D)) (g:G3) (ifs:List E3) (elt:E3) (n:Nat):List D → Zam → Store → R3 D
 | [],_,M=>if Za5 lk M then .ok (.ref n) M else .bad
 | d :: ds,env,M=>if Za5 lk M then match g d env with
  | none=>.bad
  | some env1=>(ZdQ ifs env1 M).bind fun b M1=>if b then (elt env1 M1).bind fun v M2=>match M2[n]? with
    | some (.lst xs)=>if xs.length < SZ then ZdJ lk g ifs elt n ds env1 (M2.set n (.lst (xs ++ [v]))) else .bad
    | _=>.bad
   else ZdJ lk g ifs elt n ds env1 M1
  else .bad
end
noncomputable def ZrK (i:IL3) (own:Nat) (g:G3) (ifs:List E3) (elt:E3):E3:=fun env M=>(i env M).bind fun it M1=>ZdJ it.lk g ifs elt M1.length it.items (env ++ List.replicate own none) (M1 ++ [.lst []])
section
local instance (priority:=100000) clZ2 (p:Prop):Decidable p:=Classical.propDecidable p
noncomputable def Zcn (o:D) (ds:List D) (M:Store):R3 D:=match o,ds with
 | .ref n,[.ref m]=>match M[n]?,M[m]? with
  | some (.lst x),some (.lst y)=>if n ≠ m ∧ x.length + y.length ≤ SZ then .ok .non (M.set n (.lst (x ++ y))) else .bad
  | _,_=>.bad
 | .ref n,[.tup y]=>match M[n]? with
  | some (.lst x)=>if x.length + y.length ≤ SZ then .ok .non (M.set n (.lst (x ++ y))) else .bad
  | _=>.bad
 | _,_=>.bad
@[simp] theorem ZcZ {M:Store}:∀ n m,Zcn (.ref n) ([.ref m]) M = (match M[n]?,M[m]? with
  | some (.lst x),some (.lst y)=>if n ≠ m ∧ x.length + y.length ≤ SZ then .ok .non (M.set n (.lst (x ++ y))) else .bad
  | _,_=>.bad):=fun _ _=>rfl
@[simp] theorem Zdw {M:Store}:∀ n y,Zcn (.ref n) ([.tup y]) M = (match M[n]? with
  | some (.lst x)=>if x.length + y.length ≤ SZ then .ok .non (M.set n (.lst (x ++ y))) else .bad
  | _=>.bad):=fun _ _=>rfl
end
end
end L3
namespace L3
noncomputable section
section
local instance (priority:=100000) clPg (p:Prop):Decidable p:=Classical.propDecidable p
end
end
end L3
namespace L3
end L3
namespace L3
noncomputable section
end
end L3
namespace L3
noncomputable section
end
end L3
namespace L3
noncomputable section
noncomputable abbrev Zn5:=List (List Nat × List (List Nat))
noncomputable def ZtS (M:Store):D → Option (List D × List (Nat × List D))
 | .tup x=>some (x,[])
 | .ref n=>match M[n]? with
  | some (.lst x)=>some (x,[(n,x)])
  | _=>none
 | _=>none
end
end L3
namespace L3
noncomputable section
noncomputable abbrev ZgN:=List (List Nat × Int)
noncomputable def Zev (x:List Nat):ZgN → Option Int
 | []=>none
 | (k,v) :: r=>if x = k then some v else Zev x r
noncomputable def ZfJ (t:ZgN) (d e:D) (M:Store):R3 D:=match d with
 | .str x=>match Zev x t with
  | some i=>.ok (.int i) M
  | none=>.ok e M
 | .int _=>.ok e M
 | _=>.bad
noncomputable def Zvs (x y:List D) (M:Store):R3 D:=match Zdr (Zs0 x y) with
 | some l=>if l.length ≤ 100000 then alloc (.dct (dictOf l)) M else .bad
 | none=>.bad
noncomputable def ZuI (f g:E3):E3:=fun env M=>(f env M).bind fun a M1=>(g env M1).bind fun b M2=>match ZtS M2 a,ZtS M2 b with
 | some (x,_),some (y,_)=>Zvs x y M2
 | _,_=>.bad
noncomputable def ZnX:D → Option (Nat × Int)
 | .tup [.ref n,.int i]=>some (n,i)
 | _=>none
noncomputable def Zwd (x y:List D) (r:Bool) (M:Store):R3 D:=if x.all (ZaX 50) = true ∧ y.all (ZaX 50) = true then .ok (.bl (ZdN x y && r)) M else .bad
noncomputable def Zwm (a b:D) (M:Store):R3 D:=match ZnX a,ZnX b with
 | some (n,i),some (m,j)=>match M[n]?,M[m]? with
  | some (.lst x),some (.lst y)=>if n = m then .bad else Zwd x y (i == j) M
  | _,_=>.bad
 | _,_=>.bad
noncomputable def Zek (a b:D) (M:Store):R3 D:=match b with
 | .ref n=>match M[n]? with
  | some (.lst ys)=>if Zbs a && ys.all Zbs then .ok (.bl (!ys.any fun y=>deq y a)) M else .bad
  | _=>.bad
 | _=>.bad
noncomputable def Zlv (ds:List D) (M:Store):R3 D:=match ds with
 | [.ref n]=>match M[n]? with
  | some (.lst z)=>(match Zdr z with
   | some l=>if l.length ≤ 100000 then alloc (.dct (dictOf l)) M else .bad
   | none=>.bad)
  | _=>.bad
 | _=>.bad
end
end L3
namespace L3
open PySem PySem.Spec PyProof.Rows L2
noncomputable abbrev St:=L2.St
theorem ZbX:SZ ≤ sizeLine:=by rw [sizeLine_eq]; decide
def SqF (K:PySem.W.Frag) (H:Hp) (a:Addr) (xs:List V):Prop:=
 (∃ o,H a = some (.frz o (.lst xs))) ∨
  ∃ (o:Obj) (its:Array Value) (n:Nat),K.lookup a = some o ∧ o.cls = .type "list" ∧ o.dict = none ∧ o.data = .seq its n ∧ its.size ≤ sizeLine ∧ Vals xs its.toList
theorem SqF.sq {K:PySem.W.Frag} {H:Hp} {a:Addr} {xs:List V} (h:SqF K H a xs):SqL K H a xs:=by
 rcases h with ⟨o,h⟩ | h
 ·exact .inl (.inr ⟨o,h⟩)
 ·exact .inr h
mutual
noncomputable def Rep (K:PySem.W.Frag) (H:Hp) (ι:List Addr):D → V → Prop
 | .non,v=>v = .non
 | .bl b,v=>v = .bl b
 | .int i,v=>v = .int i
 | .str x,v=>v = .str ⟨x.toArray⟩
 | .tup ds,v=>∃ a vs,v = .ref a ∧ SqT K H a vs ∧ Zac K H ι ds vs
 | .scr ds,v=>∃ a vs,v = .ref a ∧ SqF K H a vs ∧ Zac K H ι ds vs
 | .ref n,v=>∃ a,ι[n]? = some a ∧ v = .ref a
noncomputable def Zac (K:PySem.W.Frag) (H:Hp) (ι:List Addr):List D → List V → Prop
 | [],vs=>vs = []
 | d :: ds,vs=>∃ v ws,vs = v :: ws ∧ Rep K H ι d v ∧ Zac K H ι ds ws
end
structure Ext (K:PySem.W.Frag) (H:Hp) (ι:List Addr) (H':Hp) (ι':List Addr):Prop where
 tup:∀ a xs,SqT K H a xs → SqT K H' a xs
 scr:∀ a xs,SqF K H a xs → SqF K H' a xs
 pre:∀ (n:Nat) (a:Addr),ι[n]? = some a → ι'[n]? = some a
 frz:∀ a o u,H a = some (.frz o u) → H' a = some (.frz o u)
section
variable {K:PySem.W.Frag} {H H' H1 H2:Hp} {ι ι' ι1 ι2:List Addr}
theorem Ext.refl:Ext K H ι H ι:=⟨fun _ _ h=>h,fun _ _ h=>h,fun _ _ h=>h,fun _ _ _ h=>h⟩
theorem Ext.trans (a:Ext K H ι H1 ι1) (b:Ext K H1 ι1 H2 ι2):Ext K H ι H2 ι2:=
 ⟨fun x xs h=>b.tup x xs (a.tup x xs h),fun x xs h=>b.scr x xs (a.scr x xs h),fun n x h=>b.pre n x (a.pre n x h),fun x o u h=>b.frz x o u (a.frz x o u h)⟩
mutual
theorem Rep.mono (e:Ext K H ι H' ι'):∀ {d:D} {v:V},Rep K H ι d v → Rep K H' ι' d v
 | .non,_,h=>h
 | .bl _,_,h=>h
 | .int _,_,h=>h
 | .str _,_,h=>h
 | .tup ds,_,h=>by
  obtain ⟨a,vs,rfl,s,r⟩:=h
  exact ⟨a,vs,rfl,e.tup _ _ s,Zac.mono e (ds:=ds) r⟩
 | .scr ds,_,h=>by
  obtain ⟨a,vs,rfl,s,r⟩:=h
  exact ⟨a,vs,rfl,e.scr _ _ s,Zac.mono e (ds:=ds) r⟩
 | .ref n,_,h=>by
  obtain ⟨a,s,rfl⟩:=h
  exact ⟨a,e.pre _ _ s,rfl⟩
theorem Zac.mono (e:Ext K H ι H' ι'):∀ {ds:List D} {vs:List V},Zac K H ι ds vs → Zac K H' ι' ds vs
 | [],_,h=>h
 | d :: ds,_,h=>by
  obtain ⟨v,ws,rfl,r,q⟩:=h
  exact ⟨v,ws,rfl,Rep.mono e (d:=d) r,Zac.mono e (ds:=ds) q⟩
end
mutual
theorem Rep.keep (ht:∀ a xs,SqT K H a xs → SqT K H' a xs) (hs:∀ a xs,SqF K H a xs → SqF K H' a xs):∀ {d:D} {v:V},Rep K H ι d v → Rep K H' ι d v
 | .non,_,h=>h
 | .bl _,_,h=>h
 | .int _,_,h=>h
 | .str _,_,h=>h
 | .tup ds,_,h=>by
  obtain ⟨a,vs,rfl,s,r⟩:=h
  exact ⟨a,vs,rfl,ht _ _ s,Zac.keep ht hs (ds:=ds) r⟩
 | .scr ds,_,h=>by
  obtain ⟨a,vs,rfl,s,r⟩:=h
  exact ⟨a,vs,rfl,hs _ _ s,Zac.keep ht hs (ds:=ds) r⟩
 | .ref n,_,h=>h
theorem Zac.keep (ht:∀ a xs,SqT K H a xs → SqT K H' a xs) (hs:∀ a xs,SqF K H a xs → SqF K H' a xs):∀ {ds:List D} {vs:List V},Zac K H ι ds vs → Zac K H' ι ds vs
 | [],_,h=>h
 | d :: ds,_,h=>by
  obtain ⟨v,ws,rfl,r,q⟩:=h
  exact ⟨v,ws,rfl,Rep.keep ht hs (d:=d) r,Zac.keep ht hs (ds:=ds) q⟩
end
theorem Zac.nil:Zac K H ι [] []:=rfl
theorem Zac.cons {d:D} {ds:List D} {v:V} {vs:List V} (h:Rep K H ι d v) (t:Zac K H ι ds vs):Zac K H ι (d :: ds) (v :: vs):=⟨v,vs,rfl,h,t⟩
theorem Zac.nil_inv {vs:List V} (h:Zac K H ι [] vs):vs = []:=h
theorem Zac.cons_inv {d:D} {ds:List D} {vs:List V} (h:Zac K H ι (d :: ds) vs):∃ v ws,vs = v :: ws ∧ Rep K H ι d v ∧ Zac K H ι ds ws:=h
theorem Zac.length:∀ {ds:List D} {vs:List V},Zac K H ι ds vs → vs.length = ds.length
 | [],_,h=>by rw [h.nil_inv]; rfl
 | d :: ds,_,h=>by
  obtain ⟨v,ws,rfl,_,q⟩:=h.cons_inv
  exact congrArg Nat.succ q.length
theorem Zac.append:∀ {ds es:List D} {vs ws:List V},Zac K H ι ds vs → Zac K H ι es ws → Zac K H ι (ds ++ es) (vs ++ ws)
 | [],_,_,_,h,q=>by rw [h.nil_inv]; exact q
 | d :: ds,_,_,_,h,q=>by
  obtain ⟨v,us,rfl,r,t⟩:=h.cons_inv
  exact Zac.cons r (t.append q)
theorem Zac.drop:∀ {ds:List D} {vs:List V} (n:Nat),Zac K H ι ds vs → Zac K H ι (ds.drop n) (vs.drop n)
 | _,_,0,h=>h
 | [],_,n + 1,h=>by rw [h.nil_inv]; exact Zac.nil
 | d :: ds,_,n + 1,h=>by
  obtain ⟨v,us,rfl,r,t⟩:=h.cons_inv
  exact t.drop n
theorem Zac.take:∀ {ds:List D} {vs:List V} (n:Nat),Zac K H ι ds vs → Zac K H ι (ds.take n) (vs.take n)
 | _,_,0,h=>Zac.nil
 | [],_,n + 1,h=>by rw [h.nil_inv]; exact Zac.nil
 | d :: ds,_,n + 1,h=>by
  obtain ⟨v,us,rfl,r,t⟩:=h.cons_inv
  exact Zac.cons r (t.take n)
theorem Zac.get:∀ {ds:List D} {vs:List V} {i:Nat} {d:D},Zac K H ι ds vs → ds[i]? = some d → ∃ v,vs[i]? = some v ∧ Rep K H ι d v
 | [],_,_,_,_,e=>by simp at e
 | d :: ds,_,0,_,h,e=>by
  obtain ⟨v,us,rfl,r,t⟩:=h.cons_inv
  simp at e; subst e
  exact ⟨v,rfl,r⟩
 | d :: ds,_,i + 1,_,h,e=>by
  obtain ⟨v,us,rfl,r,t⟩:=h.cons_inv
  obtain ⟨w,q,z⟩:=t.get (i:=i) (by simpa using e)
  exact ⟨w,by simpa using q,z⟩
theorem Zac.set:∀ {ds:List D} {vs:List V} {d:D} {v:V} (i:Nat),Zac K H ι ds vs → Rep K H ι d v → Zac K H ι (ds.set i d) (vs.set i v)
 | [],_,_,_,_,h,_=>by rw [h.nil_inv]; exact Zac.nil
 | d :: ds,_,_,_,0,h,q=>by
  obtain ⟨v,us,rfl,r,t⟩:=h.cons_inv
  exact Zac.cons q t
 | d :: ds,_,_,_,i + 1,h,q=>by
  obtain ⟨v,us,rfl,r,t⟩:=h.cons_inv
  exact Zac.cons r (t.set i q)
theorem Zac.ints:∀ (ns:List Int),Zac K H ι (ns.map D.int) (ns.map V.int)
 | []=>Zac.nil
 | n :: ns=>Zac.cons rfl (Zac.ints ns)
theorem Rep.non_inv {v:V} (h:Rep K H ι .non v):v = .non:=h
theorem Rep.bl_inv {v:V} {b:Bool} (h:Rep K H ι (.bl b) v):v = .bl b:=h
theorem Rep.int_inv {v:V} {i:Int} (h:Rep K H ι (.int i) v):v = .int i:=h
theorem Rep.str_inv {v:V} {x:List Nat} (h:Rep K H ι (.str x) v):v = .str ⟨x.toArray⟩:=h
theorem Rep.tup_inv {v:V} {ds:List D} (h:Rep K H ι (.tup ds) v):∃ a vs,v = .ref a ∧ SqT K H a vs ∧ Zac K H ι ds vs:=h
theorem Rep.scr_inv {v:V} {ds:List D} (h:Rep K H ι (.scr ds) v):∃ a vs,v = .ref a ∧ SqF K H a vs ∧ Zac K H ι ds vs:=h
theorem Rep.ref_inv {v:V} {n:Nat} (h:Rep K H ι (.ref n) v):∃ a,ι[n]? = some a ∧ v = .ref a:=h
theorem Rep.non:Rep K H ι .non .non:=rfl
theorem Rep.bl {b:Bool}:Rep K H ι (.bl b) (.bl b):=rfl
theorem Rep.int {i:Int}:Rep K H ι (.int i) (.int i):=rfl
theorem Rep.str {x:List Nat}:Rep K H ι (.str x) (.str ⟨x.toArray⟩):=rfl
theorem Rep.tup {a:Addr} {vs:List V} {ds:List D} (s:SqT K H a vs) (r:Zac K H ι ds vs):Rep K H ι (.tup ds) (.ref a):=⟨a,vs,rfl,s,r⟩
theorem Rep.ref {a:Addr} {n:Nat} (s:ι[n]? = some a):Rep K H ι (.ref n) (.ref a):=⟨a,s,rfl⟩
end
def ExO (e C:Addr) (h:Heap):Prop:=∃ o vs,h.get? e = some o ∧ o.cls = .ref C ∧ o.data = .fields vs
noncomputable abbrev exH (e C:Addr):HO:=.ext (ExO e C)
noncomputable def dk:Zav → Key
 | .inl i=>.inl i
 | .inr x=>.inr ⟨x.toArray⟩
def KvR (K:PySem.W.Frag) (H:Hp) (ι:List Addr) (kvs:List (Zav × D)) (ws:List (Key × V)):Prop:=
 ws.map (·.1) = kvs.map (fun p=>dk p.1) ∧ Zac K H ι (kvs.map (·.2)) (ws.map (·.2))
def FsR (K:PySem.W.Frag) (H:Hp) (ι:List Addr) (fs:List (List Nat × D)) (gs:List (Str × V)):Prop:=
 gs.map (·.1) = fs.map (fun p=>(⟨p.1.toArray⟩:Str)) ∧ Zac K H ι (fs.map (·.2)) (gs.map (·.2))
def ClsAt (K:PySem.W.Frag) (c:List Nat) (C:Addr):Prop:=PySem.W.nsIn K mainGlobals ⟨c.toArray⟩ = some (some (.ref C))
noncomputable def Zgb (K:PySem.W.Frag) (H:Hp) (ι:List Addr):MO → Addr → Prop
 | .lst xs,a=>∃ vs,H a = some (.lst vs) ∧ Zac K H ι xs vs
 | .dct kvs,a=>∃ ws,H a = some (.dK ws) ∧ KvR K H ι kvs ws
 | .fdct kvs,a=>∃ ws,(∃ o,H a = some (.frz o (.dK ws))) ∧ KvR K H ι kvs ws
 | .ins c fs,a=>(∃ C dx gs,H a = some (.ins C dx gs) ∧ (ClsAt K c C ∧ c.head? ≠ some 0) ∧ FsR K H ι fs gs) ∨ ∃ C,H a = some (exH a C) ∧ c.head? = some 0 ∧ ClsAt K c.tail C ∧ fs = []
structure Zaz (K:PySem.W.Frag) (H:Hp) (ι:List Addr) (M:Store):Prop where
 len:ι.length = M.length
 nd:ι.Nodup
 obj:∀ (n:Nat) o a,M[n]? = some o → ι[n]? = some a → Zgb K H ι o a
def Loose (H:Hp) (p:Addr):Prop:=H p = none ∨ (∃ vs,H p = some (.lst vs)) ∨ (∃ ws,H p = some (.dK ws)) ∨ ∃ C dx gs,H p = some (.ins C dx gs)
section
variable {K:PySem.W.Frag} {H H':Hp} {ι ι':List Addr} {M:Store} {p:Addr} {o:HO}
theorem Loose.ne {a:Addr} {u:HO} (l:Loose H p) (h:H a = some u) (h1:∀ vs,u ≠ .lst vs) (h2:∀ ws,u ≠ .dK ws) (h3:∀ C dx gs,u ≠ .ins C dx gs:=by exact fun _ _ _ z=>nomatch z):a ≠ p:=by
 rintro rfl
 rcases l with l | ⟨vs,l⟩ | ⟨ws,l⟩ | ⟨C,dx,gs,l⟩
 ·rw [h] at l; cases l
 ·rw [h] at l; exact h1 vs (Option.some.inj l)
 ·rw [h] at l; exact h2 ws (Option.some.inj l)
 ·rw [h] at l; exact h3 C dx gs (Option.some.inj l)
theorem Loose.tup (l:Loose H p) {a:Addr} {xs:List V} (h:SqT K H a xs):SqT K (upd H p o) a xs:=by
 rcases h with (h | ⟨ob,h⟩) | h
 ·exact .inl (.inl (by rw [Zbw (l.ne h (fun _ z=>nomatch z) (fun _ z=>nomatch z))]; exact h))
 ·exact .inl (.inr ⟨ob,by rw [Zbw (l.ne h (fun _ z=>nomatch z) (fun _ z=>nomatch z))]; exact h⟩)
 ·exact .inr h
theorem Loose.scr (l:Loose H p) {a:Addr} {xs:List V} (h:SqF K H a xs):SqF K (upd H p o) a xs:=by
 rcases h with ⟨ob,h⟩ | h
 ·exact .inl ⟨ob,by rw [Zbw (l.ne h (fun _ z=>nomatch z) (fun _ z=>nomatch z))]; exact h⟩
 ·exact .inr h
theorem Loose.frz (l:Loose H p) {a:Addr} {ob:Obj} {u:HO} (h:H a = some (.frz ob u)):upd H p o a = some (.frz ob u):=by
 rw [Zbw (l.ne h (fun _ z=>nomatch z) (fun _ z=>nomatch z))]; exact h
theorem Loose.ext (l:Loose H p):Ext K H ι (upd H p o) ι:=⟨fun _ _ h=>l.tup h,fun _ _ h=>l.scr h,fun _ _ h=>h,fun _ _ _ h=>l.frz h⟩
theorem Loose.extA (l:Loose H p):Ext K H ι (upd H p o) (ι ++ [p]):=⟨fun _ _ h=>l.tup h,fun _ _ h=>l.scr h,fun n a h=>by
 rw [List.getElem?_append_left (List.getElem?_eq_some_iff.mp h).1]; exact h,fun _ _ _ h=>l.frz h⟩
theorem Zgb.mono {m:MO} {a:Addr} (e:Ext K H ι H' ι') (h:Zgb K H ι m a) (k:H' a = H a):Zgb K H' ι' m a:=by
 cases m with
 | lst xs=>obtain ⟨vs,q,r⟩:=h; exact ⟨vs,k.trans q,r.mono e⟩
 | dct kvs=>obtain ⟨ws,q,r1,r2⟩:=h; exact ⟨ws,k.trans q,r1,r2.mono e⟩
 | fdct kvs=>obtain ⟨ws,⟨o,q⟩,r1,r2⟩:=h; exact ⟨ws,⟨o,k.trans q⟩,r1,r2.mono e⟩
 | ins c fs=>
  rcases h with ⟨C,dx,gs,q,c,r1,r2⟩ | ⟨C,q,r⟩
  ·exact .inl ⟨C,dx,gs,k.trans q,c,r1,r2.mono e⟩
  ·exact .inr ⟨C,k.trans q,r⟩
theorem Zgb.ne {m:MO} {a:Addr} (h:Zgb K H ι m a):H a ≠ none:=by
 cases m with
 | lst xs=>obtain ⟨vs,q,r⟩:=h; rw [q]; simp
 | dct kvs=>obtain ⟨ws,q,r⟩:=h; rw [q]; simp
 | fdct kvs=>obtain ⟨ws,⟨o,q⟩,r⟩:=h; rw [q]; simp
 | ins c fs=>rcases h with ⟨C,dx,gs,q,r⟩ | ⟨C,q,r⟩ <;> (rw [q]; simp)
theorem Zaz.at (S:Zaz K H ι M) {n:Nat} {m:MO} (h:M[n]? = some m):∃ a,ι[n]? = some a ∧ Zgb K H ι m a:=by
 have hn:n < ι.length:=by rw [S.len]; exact (List.getElem?_eq_some_iff.mp h).1
 exact ⟨ι[n],by simp [hn],S.obj n m _ h (by simp [hn])⟩
theorem Zaz.there (S:Zaz K H ι M) {n:Nat} {a:Addr} (h:ι[n]? = some a):∃ m,M[n]? = some m ∧ Zgb K H ι m a:=by
 have hn:n < M.length:=by rw [← S.len]; exact (List.getElem?_eq_some_iff.mp h).1
 exact ⟨M[n],by simp [hn],S.obj n _ _ (by simp [hn]) h⟩
theorem Zaz.fresh (S:Zaz K H ι M) (hp:H p = none):p ∉ ι:=fun h=>by
 obtain ⟨n,hn⟩:=List.getElem?_of_mem h
 obtain ⟨m,_,q⟩:=S.there hn
 exact q.ne hp
theorem Zaz.other (S:Zaz K H ι M) (l:Loose H p) (hp:p ∉ ι):Zaz K (upd H p o) ι M:=
 ⟨S.len,S.nd,fun n m a h1 h2=>(S.obj n m a h1 h2).mono l.ext (by
  rw [Zbw]; rintro rfl; exact hp (List.mem_of_getElem? h2))⟩
theorem Zaz.new (S:Zaz K H ι M) (hp:H p = none) {m:MO} (h:Zgb K (upd H p o) (ι ++ [p]) m p):Zaz K (upd H p o) (ι ++ [p]) (M ++ [m]):=by
 have hf:=S.fresh hp
 refine ⟨by simp [S.len],?_,fun n m' a h1 h2=>?_⟩
 ·exact List.nodup_append.mpr ⟨S.nd,by simp,fun x hx y hy=>by
   have e:y = p:=by simpa using hy
   subst e
   rintro rfl
   exact hf hx⟩
 ·by_cases hn:n < ι.length
  ·rw [List.getElem?_append_left hn] at h2
   rw [List.getElem?_append_left (by rw [← S.len]; exact hn)] at h1
   refine (S.obj n m' a h1 h2).mono (Loose.extA (.inl hp)) ?_
   rw [Zbw]
   rintro rfl
   exact hf (List.mem_of_getElem? h2)
  ·rw [List.getElem?_append_right (Nat.le_of_not_lt hn)] at h2
   rw [List.getElem?_append_right (by rw [← S.len]; exact Nat.le_of_not_lt hn)] at h1
   have hlt:n - ι.length < 1:=by
    have:=(List.getElem?_eq_some_iff.mp h2).1
    simpa using this
   have e0:n - ι.length = 0:=Nat.le_antisymm (lA 1 234922001 T1 hlt) (Nat.zero_le _)
   rw [e0] at h2
   rw [← S.len,e0] at h1
   simp at h1 h2
   subst h1 h2
   exact h
theorem Zaz.put (S:Zaz K H ι M) {n:Nat} (l0:Loose H p) (hn:ι[n]? = some p) {m:MO} (h:Zgb K (upd H p o) ι m p):Zaz K (upd H p o) ι (M.set n m):=by
 obtain ⟨m0,hm0,q0⟩:=S.there hn
 refine ⟨by simp [S.len],S.nd,fun k m' a h1 h2=>?_⟩
 by_cases hk:k = n
 ·subst hk
  rw [hn] at h2
  cases h2
  have hlt:k < M.length:=(List.getElem?_eq_some_iff.mp hm0).1
  rw [List.getElem?_set_self hlt] at h1
  cases h1
  exact h
 ·rw [List.getElem?_set_ne (Ne.symm hk)] at h1
  refine (S.obj k m' a h1 h2).mono (Loose.ext l0) ?_
  rw [Zbw]
  rintro rfl
  have hlt1:=(List.getElem?_eq_some_iff.mp h2)
  have hlt2:=(List.getElem?_eq_some_iff.mp hn)
  exact hk ((List.getElem_inj S.nd).mp (hlt1.2.trans hlt2.2.symm))
theorem Zaz.lst (S:Zaz K H ι M) (hp:H p = none) {xs:List D} {vs:List V} (r:Zac K H ι xs vs):Ext K H ι (upd H p (.lst vs)) (ι ++ [p]) ∧ Zaz K (upd H p (.lst vs)) (ι ++ [p]) (M ++ [.lst xs]) ∧ Rep K (upd H p (.lst vs)) (ι ++ [p]) (.ref M.length) (.ref p):=by
 have e:Ext K H ι (upd H p (.lst vs)) (ι ++ [p]):=Loose.extA (.inl hp)
 refine ⟨e,S.new hp ⟨vs,Zd5,r.mono e⟩,Rep.ref ?_⟩
 rw [← S.len]; simp
theorem Zaz.tupl (S:Zaz K H ι M) (hp:H p = none) {xs:List D} {vs:List V} (r:Zac K H ι xs vs):Ext K H ι (upd H p (.tup vs)) ι ∧ Zaz K (upd H p (.tup vs)) ι M ∧ Rep K (upd H p (.tup vs)) ι (.tup xs) (.ref p):=by
 have e:Ext K H ι (upd H p (.tup vs)) ι:=Loose.ext (.inl hp)
 exact ⟨e,S.other (.inl hp) (S.fresh hp),Rep.tup (SqT.of Zd5) (r.mono e)⟩
theorem Zaz.setl (S:Zaz K H ι M) {n:Nat} (l0:Loose H p) (hn:ι[n]? = some p) {xs:List D} {vs:List V} (r:Zac K H ι xs vs):Ext K H ι (upd H p (.lst vs)) ι ∧ Zaz K (upd H p (.lst vs)) ι (M.set n (.lst xs)):=by
 have e:Ext K H ι (upd H p (.lst vs)) ι:=Loose.ext l0
 exact ⟨e,S.put l0 hn ⟨vs,Zd5,r.mono e⟩⟩
end
def ZbF (K:PySem.W.Frag) (H:Hp) (ι:List Addr) (env:Zam) (σ:St):Prop:=
 env.length = σ.length ∧ ∀ (i:Nat) d,env[i]? = some (some d) → ∃ v,σ[i]? = some (some v) ∧ Rep K H ι d v
theorem ZbF.mono {K:PySem.W.Frag} {H H':Hp} {ι ι':List Addr} {env:Zam} {σ:St} (r:ZbF K H ι env σ) (e:Ext K H ι H' ι'):ZbF K H' ι' env σ:=
 ⟨r.1,fun i d h=>let ⟨v,q,z⟩:=r.2 i d h; ⟨v,q,z.mono e⟩⟩
theorem ZbF.set {K:PySem.W.Frag} {H:Hp} {ι:List Addr} {env:Zam} {σ:St} {d:D} {v:V} (r:ZbF K H ι env σ) (i:Nat) (h:Rep K H ι d v):ZbF K H ι (env.set i (some d)) (σ.set i (some v)):=by
 refine ⟨by simp [r.1],fun j e hj=>?_⟩
 by_cases hij:j = i
 ·subst hij
  have hlt:j < env.length:=by
   have:=(List.getElem?_eq_some_iff.mp hj).1
   simpa using this
  rw [List.getElem?_set_self hlt] at hj
  cases hj
  exact ⟨v,by rw [List.getElem?_set_self (by rw [← r.1]; exact hlt)],h⟩
 ·rw [List.getElem?_set_ne (Ne.symm hij)] at hj
  obtain ⟨w,q,z⟩:=r.2 j e hj
  exact ⟨w,by rw [List.getElem?_set_ne (Ne.symm hij)]; exact q,z⟩
def Zae (K:PySem.W.Frag) (H:Hp) (ι:List Addr) (Q:VK) (r:R3 D):Prop:=match r with
 | .ok d M'=>∀ v H' ι',Ext K H ι H' ι' → Zaz K H' ι' M' → Rep K H' ι' d v → Q v H'
 | _=>False
inductive TOf (K:PySem.W.Frag) (f:E3) (σ:St) (H:Hp) (Q:VK):Prop where
 | mk (ι:List Addr) (M:Store) (env:Zam) (S:Zaz K H ι M) (E:ZbF K H ι env σ) (h:Zae K H ι Q (f env M)):TOf K f σ H Q
def tOf (K:PySem.W.Frag) (f:E3):TE:=fun σ H Q=>TOf K f σ H Q
def Zid (K:PySem.W.Frag) (H:Hp) (ι:List Addr) (Q:Bool → Hp → Prop) (r:R3 D):Prop:=match r with
 | .ok (.bl b) M'=>∀ H' ι',Ext K H ι H' ι' → Zaz K H' ι' M' → Q b H'
 | _=>False
inductive TTf (K:PySem.W.Frag) (f:E3) (σ:St) (H:Hp) (Q:Bool → Hp → Prop):Prop where
 | mk (ι:List Addr) (M:Store) (env:Zam) (S:Zaz K H ι M) (E:ZbF K H ι env σ) (h:Zid K H ι Q (f env M)):TTf K f σ H Q
def tTf (K:PySem.W.Frag) (f:E3):TT:=fun σ H Q=>TTf K f σ H Q
def Zm5 (K:PySem.W.Frag) (H:Hp) (ι:List Addr) (Q:List V → Hp → Prop) (r:R3 (List D)):Prop:=match r with
 | .ok ds M'=>∀ vs H' ι',Ext K H ι H' ι' → Zaz K H' ι' M' → Zac K H' ι' ds vs → Q vs H'
 | _=>False
inductive TAf (K:PySem.W.Frag) (f:EL3) (σ:St) (H:Hp) (Q:List V → Hp → Prop):Prop where
 | mk (ι:List Addr) (M:Store) (env:Zam) (S:Zaz K H ι M) (E:ZbF K H ι env σ) (h:Zm5 K H ι Q (f env M)):TAf K f σ H Q
def tAf (K:PySem.W.Frag) (f:EL3):TA:=fun σ H Q=>TAf K f σ H Q
def Zpe (K:PySem.W.Frag) (H:Hp) (ι:List Addr) (Q:Option Int → Hp → Prop) (r:R3 (Option Int)):Prop:=match r with
 | .ok o M'=>∀ H' ι',Ext K H ι H' ι' → Zaz K H' ι' M' → Q o H'
 | _=>False
def tOo (K:PySem.W.Frag) (f:EO3):TO:=fun σ H Q=>∃ ι M env,Zaz K H ι M ∧ ZbF K H ι env σ ∧ Zpe K H ι Q (f env M)
def ZfU (K:PySem.W.Frag) (H:Hp) (ι:List Addr) (E:Ends) (r:O3):Prop:=match r with
 | .nx env' M'=>∀ σ' H' ι',Ext K H ι H' ι' → Zaz K H' ι' M' → ZbF K H' ι' env' σ' → E.nx σ' H'
 | .bk env' M'=>∀ σ' H' ι',Ext K H ι H' ι' → Zaz K H' ι' M' → ZbF K H' ι' env' σ' → E.bk σ' H'
 | .ct env' M'=>∀ σ' H' ι',Ext K H ι H' ι' → Zaz K H' ι' M' → ZbF K H' ι' env' σ' → E.ct σ' H'
 | .rt d M'=>∀ v H' ι',Ext K H ι H' ι' → Zaz K H' ι' M' → Rep K H' ι' d v → E.rt v H'
 | _=>False
inductive TSf (K:PySem.W.Frag) (f:S3) (D:Ends) (σ:St) (H:Hp):Prop where
 | mk (ι:List Addr) (M:Store) (env:Zam) (S:Zaz K H ι M) (E:ZbF K H ι env σ) (h:ZfU K H ι D (f env M)):TSf K f D σ H
def tSf (K:PySem.W.Frag) (f:S3):TS:=fun E σ H=>TSf K f E σ H
def C3 (X:Cx) (e:Expr) (f:E3):Prop:=PE X e (tOf X.K f)
def CT (X:Cx) (e:Expr) (f:E3):Prop:=PT X e (tTf X.K f)
def CA (X:Cx) (es:List Expr) (f:EL3):Prop:=PA X es (tAf X.K f)
def CO (X:Cx) (e:Option Expr) (f:EO3):Prop:=PO X e (tOo X.K f)
def CS (X:Cx) (st:Stmt) (f:S3):Prop:=PS X st (tSf X.K f)
def CSs (X:Cx) (st:List Stmt) (f:S3):Prop:=PSs X st (tSf X.K f)
theorem _root_.L2.PE.imp {X:Cx} {e:Expr} {t t':TE} (h:PE X e t) (i:∀ σ H Q,t' σ H Q → t σ H Q):PE X e t':=fun pins s σ H Q I q=>h pins s σ H Q I (i σ H Q q)
theorem _root_.L2.PT.imp {X:Cx} {e:Expr} {t t':TT} (h:PT X e t) (i:∀ σ H Q,t' σ H Q → t σ H Q):PT X e t':=fun pins s σ H Q I q=>h pins s σ H Q I (i σ H Q q)
theorem _root_.L2.PA.imp {X:Cx} {e:List Expr} {t t':TA} (h:PA X e t) (i:∀ σ H Q,t' σ H Q → t σ H Q):PA X e t':=fun pos pins s σ H Q I q=>h pos pins s σ H Q I (i σ H Q q)
theorem _root_.L2.PO.imp {X:Cx} {e:Option Expr} {t t':TO} (h:PO X e t) (i:∀ σ H Q,t' σ H Q → t σ H Q):PO X e t':=fun pins s σ H Q I q=>h pins s σ H Q I (i σ H Q q)
theorem _root_.L2.PS.imp {X:Cx} {e:Stmt} {t t':TS} (h:PS X e t) (i:∀ D σ H,t' D σ H → t D σ H):PS X e t':=fun pins s σ H D I q=>h pins s σ H D I (i D σ H q)
theorem _root_.L2.PSs.imp {X:Cx} {e:List Stmt} {t t':TS} (h:PSs X e t) (i:∀ D σ H,t' D σ H → t D σ H):PSs X e t':=fun pins s σ H D I q=>h pins s σ H D I (i D σ H q)
theorem _root_.L2.OpR.imp {X:Cx} {f:Value → Value → Sem Value} {r r':R2} (h:OpR X f r) (i:∀ x y H Q,r' x y H Q → r x y H Q):OpR X f r':=fun pins s σ H x y v u Q I rx ry q=>h pins s σ H x y v u Q I rx ry (i x y H Q q)
theorem _root_.L2.UnR.imp {X:Cx} {f:Value → Sem Value} {r r':V → Hp → VK → Prop} (h:UnR X f r) (i:∀ x H Q,r' x H Q → r x H Q):UnR X f r':=fun pins s σ H x v Q I rx q=>h pins s σ H x v Q I rx (i x H Q q)
theorem _root_.L2.ZbA.imp {X:Cx} {f:Value} {r r':List V → Hp → VK → Prop} (h:ZbA X f r) (i:∀ x H Q,r' x H Q → r x H Q):ZbA X f r':=fun pins s σ H xs us Q I rx q=>h pins s σ H xs us Q I rx (i xs H Q q)
theorem _root_.L2.IxR.imp {X:Cx} {r r':R2} (h:IxR X r) (i:∀ x y H Q,r' x y H Q → r x y H Q):IxR X r':=fun value slice pins s σ H x y v u Q I rx ry q hs=>h value slice pins s σ H x y v u Q I rx ry (i x y H Q q) hs
theorem _root_.L2.SlR.imp {X:Cx} {r r':V → Option Int → Option Int → Hp → VK → Prop} (h:SlR X r) (i:∀ x lo hi H Q,r' x lo hi H Q → r x lo hi H Q):SlR X r':=fun pins s σ H x v vl vu lo hi sl Q I rx hs pl pu q=>h pins s σ H x v vl vu lo hi sl Q I rx hs pl pu (i x lo hi H Q q)
section
variable {K:PySem.W.Frag} {H H1:Hp} {ι ι1:List Addr}
theorem Zae.up {Q:VK} {r:R3 D} (e:Ext K H ι H1 ι1) (h:Zae K H ι Q r):Zae K H1 ι1 Q r:=by
 cases r with
 | ok d M=>exact fun v H' ι' e' S r=>h v H' ι' (e.trans e') S r
 | exc x M=>exact h
 | bad=>exact h
theorem Zid.up {Q:Bool → Hp → Prop} {r:R3 D} (e:Ext K H ι H1 ι1) (h:Zid K H ι Q r):Zid K H1 ι1 Q r:=by
 cases r with
 | ok d M=>cases d <;> first | exact h | exact fun H' ι' e' S=>h H' ι' (e.trans e') S
 | exc x M=>exact h
 | bad=>exact h
theorem ZfU.up {Q:Ends} {r:O3} (e:Ext K H ι H1 ι1) (h:ZfU K H ι Q r):ZfU K H1 ι1 Q r:=by
 cases r with
 | nx d M=>exact fun v H' ι' e' S r=>h v H' ι' (e.trans e') S r
 | bk d M=>exact fun v H' ι' e' S r=>h v H' ι' (e.trans e') S r
 | ct d M=>exact fun v H' ι' e' S r=>h v H' ι' (e.trans e') S r
 | rt d M=>exact fun v H' ι' e' S r=>h v H' ι' (e.trans e') S r
 | exc x M=>exact h
 | bad=>exact h
theorem Zae.ok {Q:VK} {d:D} {M:Store} {v:V} (h:Zae K H ι Q (.ok d M)) (S:Zaz K H ι M) (r:Rep K H ι d v):Q v H:=h v H ι Ext.refl S r
theorem Zae.bind {α:Type} {Q:VK} {r:R3 α} {k:α → Store → R3 D} (h:Zae K H ι Q (r.bind k)):∃ a M,r = .ok a M ∧ Zae K H ι Q (k a M):=by
 cases r with
 | ok a M=>exact ⟨a,M,rfl,h⟩
 | exc x M=>exact h.elim
 | bad=>exact h.elim
theorem Zm5.bind {α:Type} {Q:List V → Hp → Prop} {r:R3 α} {k:α → Store → R3 (List D)} (h:Zm5 K H ι Q (r.bind k)):∃ a M,r = .ok a M ∧ Zm5 K H ι Q (k a M):=by
 cases r with
 | ok a M=>exact ⟨a,M,rfl,h⟩
 | exc x M=>exact h.elim
 | bad=>exact h.elim
theorem Zpe.bind {α:Type} {Q:Option Int → Hp → Prop} {r:R3 α} {k:α → Store → R3 (Option Int)} (h:Zpe K H ι Q (r.bind k)):∃ a M,r = .ok a M ∧ Zpe K H ι Q (k a M):=by
 cases r with
 | ok a M=>exact ⟨a,M,rfl,h⟩
 | exc x M=>exact h.elim
 | bad=>exact h.elim
theorem Zid.bind {α:Type} {Q:Bool → Hp → Prop} {r:R3 α} {k:α → Store → R3 D} (h:Zid K H ι Q (r.bind k)):∃ a M,r = .ok a M ∧ Zid K H ι Q (k a M):=by
 cases r with
 | ok a M=>exact ⟨a,M,rfl,h⟩
 | exc x M=>exact h.elim
 | bad=>exact h.elim
end
inductive R2I (K:PySem.W.Frag) (op:D → D → Store → R3 D) (x y:V) (H:Hp) (Q:VK):Prop where
 | mk (ι:List Addr) (M:Store) (a b:D) (S:Zaz K H ι M) (ra:Rep K H ι a x) (rb:Rep K H ι b y) (h:Zae K H ι Q (op a b M)):R2I K op x y H Q
def r2 (K:PySem.W.Frag) (op:D → D → Store → R3 D):R2:=fun x y H Q=>R2I K op x y H Q
noncomputable def r1 (K:PySem.W.Frag) (op:D → Store → R3 D):V → Hp → VK → Prop:=fun x H Q=>∃ ι M a,Zaz K H ι M ∧ Rep K H ι a x ∧ Zae K H ι Q (op a M)
inductive RBI (K:PySem.W.Frag) (b:List D → Store → R3 D) (xs:List V) (H:Hp) (Q:VK):Prop where
 | mk (ι:List Addr) (M:Store) (ds:List D) (S:Zaz K H ι M) (r:Zac K H ι ds xs) (h:Zae K H ι Q (b ds M)):RBI K b xs H Q
noncomputable def rB (K:PySem.W.Frag) (b:List D → Store → R3 D):List V → Hp → VK → Prop:=fun xs H Q=>RBI K b xs H Q
noncomputable def rM (K:PySem.W.Frag) (m:D → List D → Store → R3 D):V → List V → Hp → VK → Prop:=fun x xs H Q=>∃ ι M a ds,Zaz K H ι M ∧ Rep K H ι a x ∧ Zac K H ι ds xs ∧ Zae K H ι Q (m a ds M)
noncomputable def rS (K:PySem.W.Frag):V → Option Int → Option Int → Hp → VK → Prop:=fun x lo hi H Q=>∃ ι M a,Zaz K H ι M ∧ Rep K H ι a x ∧ Zae K H ι Q (Zna a lo hi M)
theorem Zjy {K:PySem.W.Frag} {op:D → D → Store → R3 D} {f g:E3} (σ:St) (H:Hp) (Q:VK) (h:tOf K (e2 op f g) σ H Q):tOp (r2 K op) (tOf K f) (tOf K g) σ H Q:=by
 obtain ⟨ι,M,env,S,E,h⟩:=h
 obtain ⟨a,M1,e1,h⟩:=Zae.bind h
 obtain ⟨b,M2,e2,h⟩:=Zae.bind h
 refine ⟨ι,M,env,S,E,?_⟩
 rw [e1]
 intro v H1 ι1 x1 S1 r1
 refine ⟨ι1,M1,env,S1,E.mono x1,?_⟩
 rw [e2]
 intro u H2 ι2 x2 S2 r2
 exact ⟨ι2,M2,a,b,S2,r1.mono x2,r2,(h.up x1).up x2⟩
theorem Zsm {K:PySem.W.Frag} {op:D → Store → R3 D} {f:E3} (σ:St) (H:Hp) (Q:VK) (h:tOf K (e1 op f) σ H Q):tUn (r1 K op) (tOf K f) σ H Q:=by
 obtain ⟨ι,M,env,S,E,h⟩:=h
 obtain ⟨a,M1,e1,h⟩:=Zae.bind h
 refine ⟨ι,M,env,S,E,?_⟩
 rw [e1]
 intro v H1 ι1 x1 S1 r1
 exact ⟨ι1,M1,a,S1,r1,h.up x1⟩
section
variable {X:Cx} {a b c e o:Expr} {es:List Expr} {pos p:Pos} {f g h:E3} {gl:EL3}
theorem Zd (i:Nat) {x:Str} (hN:X.N[i]? = some x:=by rfl) (hv:Vis X.env.scope x:=by first | exact Or.inl rfl | exact Or.inr (Or.inl rfl) | exact Or.inr (Or.inr rfl)) (hd:(x == ("__debug__":Str)) = false:=by decide)
  (hcd:(x == ("__classdict__":Str)) = false:=by decide):C3 X (.Name x pos) (Zc i):=(ZsH hN hv hd hcd).imp fun σ H Q zz1=>by
 obtain ⟨ι,M,env,S,E,h⟩:=zz1
 unfold Zc at h
 cases q:env[i]? with
 | none=>rw [q] at h; exact h.elim
 | some od=>
  cases od with
  | none=>rw [q] at h; exact h.elim
  | some d=>
   rw [q] at h
   obtain ⟨v,e1,r⟩:=E.2 i d q
   exact ⟨v,e1,Zae.ok h S r⟩
theorem Zi {i j}:C3 X (.Constant (.int i) j pos) (eC (.int i)):=Zru.imp fun σ H Q ⟨ι,M,env,S,E,h⟩=>Zae.ok h S Rep.int
theorem Zpu {i j}:C3 X (.Constant (.bool i) j pos) (eC (.bl i)):=Zul.imp fun σ H Q ⟨ι,M,env,S,E,h⟩=>Zae.ok h S Rep.bl
theorem Zpq {j}:C3 X (.Constant .none j pos) (eC .non):=Zs6.imp fun σ H Q ⟨ι,M,env,S,E,h⟩=>Zae.ok h S Rep.non
theorem Zal {x:Str} {cs:List Nat} {j} (hx:x = ⟨cs.toArray⟩:=by decide +kernel):C3 X (.Constant (.str x) j pos) (eC (.str cs)):=Zrz.imp fun σ H Q zz1=>by
 obtain ⟨ι,M,env,S,E,h⟩:=zz1
 subst hx
 exact Zae.ok h S Rep.str
theorem Zoc {x:Str} {d:D} {v:V} {u:Value} (hm:X.mg x = some u) (r:RelV v u) (hr:∀ H ι,Rep X.K H ι d v) (hg:Gl X x:=by rfl) (hd:(x == ("__debug__":Str)) = false:=by decide):C3 X (.Name x pos) (eC d):=
 (Zmc hg hm r hd).imp fun σ H Q ⟨ι,M,env,S,E,h⟩=>Zae.ok h S (hr H ι)
theorem Zq {op:Operator} {q:D → D → Store → R3 D} (ho:OpR X (binaryOp op) (r2 X.K q)) (ha:C3 X a f) (hb:C3 X b g):C3 X (.BinOp a op b pos) (e2 q f g):=(Zub ho ha hb).imp Zjy
theorem Zit {op:UnaryOp} {q:D → Store → R3 D} (ho:UnR X (unaryOp op) (r1 X.K q)) (ha:C3 X a f):C3 X (.UnaryOp op a pos) (e1 q f):=(ZuE ho ha).imp Zsm
theorem Zq6 {op:CmpOp} {q:D → D → Store → R3 D} (ho:OpR X (compareOp op) (r2 X.K q)) (ha:C3 X a f) (hb:C3 X b g) (hm:behindInMarks op b = false:=by rfl):C3 X (.Compare a [op] [b] pos) (e2 q f g):=(ZqX ho ha hb hm).imp Zjy
theorem ZiL {K:PySem.W.Frag} {H:Hp} {ι:List Addr} {Q:Bool → Hp → Prop} {r:R3 D} (h:Zid K H ι Q r):Zae K H ι (fun x H'=>∃ k,x = .bl k ∧ Q k H') r:=by
 cases r with
 | ok d M=>
  cases d with
  | bl b=>exact fun v H' ι' e S r=>⟨b,r.bl_inv,h H' ι' e S⟩
  | _=>exact h.elim
 | exc x M=>exact h.elim
 | bad=>exact h.elim
theorem ZeB (h:C3 X e f) (he:∀ whole,isTrue e X.env whole = (do let v ← whole; standAt e.pos; holding [v] (truthy v)):=by intro _; rfl):CT X e f:=(ZsM h he).imp fun σ H Q ⟨ι,M,env,S,E,h⟩=>⟨ι,M,env,S,E,ZiL h⟩
theorem ZaA {op:CmpOp} {q:D → D → Store → R3 D} (ho:OpR X (compareOp op) (r2 X.K q)) (ha:C3 X a f) (hb:C3 X b g) (hm:behindInMarks op b = false:=by rfl):CT X (.Compare a [op] [b] pos) (e2 q f g):=
 (Zqu ho ha hb hm).imp fun σ H Q ⟨ι,M,env,S,E,h⟩=>Zjy σ H _ ⟨ι,M,env,S,E,ZiL h⟩
end
end L3
namespace L3
open PySem PySem.Spec PyProof.Rows L2
section
variable {X:Cx} {a b c e o:Expr} {es rest:List Expr} {pos p:Pos} {f g h:E3} {gl:EL3}
def CW (X:Cx) (e:Expr) (f:E3):Prop:=PW X e (tTf X.K f)
theorem CW.ct (h:CW X e f):CT X e f:=PW.pt h
theorem PW.imp {t t':TT} (h:PW X e t) (i:∀ σ H Q,t' σ H Q → t σ H Q):PW X e t':=fun wh pins s σ H Q I q=>h wh pins s σ H Q I (i σ H Q q)
theorem ZhL (ha:CT X a f):CW X (.BoolOp .And [a] pos) f:=ZqN ha
theorem ZjZ (ha:CT X a f):CW X (.BoolOp .Or [a] pos) f:=ZsK ha
theorem Zg1 (ha:CT X a f) (hb:CW X (.BoolOp .And (b :: rest) pos) g):CW X (.BoolOp .And (a :: b :: rest) pos) (Zew f g):=PW.imp (ZrY ha hb) fun σ H Q zz1=>by
 obtain ⟨ι,M,env,S,E,h⟩:=zz1
 obtain ⟨d,M1,e1,h⟩:=Zid.bind h
 refine ⟨ι,M,env,S,E,?_⟩
 rw [e1]
 cases d with
 | bl k=>
  intro H1 ι1 x1 S1
  cases k with
  | true=>rw [if_pos rfl]; exact ⟨ι1,M1,env,S1,E.mono x1,h.up x1⟩
  | false=>rw [if_neg (by decide)]; exact h H1 ι1 x1 S1
 | _=>exact h.elim
theorem ZkB (ha:CT X a f) (hb:CW X (.BoolOp .Or (b :: rest) pos) g):CW X (.BoolOp .Or (a :: b :: rest) pos) (eOr f g):=PW.imp (ZtK ha hb) fun σ H Q zz1=>by
 obtain ⟨ι,M,env,S,E,h⟩:=zz1
 obtain ⟨d,M1,e1,h⟩:=Zid.bind h
 refine ⟨ι,M,env,S,E,?_⟩
 rw [e1]
 cases d with
 | bl k=>
  intro H1 ι1 x1 S1
  cases k with
  | false=>rw [if_neg (by decide)]; exact ⟨ι1,M1,env,S1,E.mono x1,h.up x1⟩
  | true=>rw [if_pos rfl]; exact h H1 ι1 x1 S1
 | _=>exact h.elim
theorem Zhj (ha:CT X a f):CT X (.UnaryOp .Not a pos) (e1 Zc9 f):=(Zsk ha).imp fun σ H Q zz1=>by
 obtain ⟨ι,M,env,S,E,h⟩:=zz1
 obtain ⟨d,M1,e1,h⟩:=Zid.bind h
 refine ⟨ι,M,env,S,E,?_⟩
 rw [e1]
 cases d with
 | bl k=>exact fun H1 ι1 x1 S1=>h H1 ι1 x1 S1
 | _=>exact h.elim
theorem Zua (hc:CT X c f) (ha:C3 X a g) (hb:C3 X b h):C3 X (.IfExp c a b pos) (eIf f g h):=(ZoR hc ha hb).imp fun σ H Q zz1=>by
 obtain ⟨ι,M,env,S,E,h⟩:=zz1
 obtain ⟨d,M1,e1,h⟩:=Zae.bind h
 refine ⟨ι,M,env,S,E,?_⟩
 rw [e1]
 cases d with
 | bl k=>
  intro H1 ι1 x1 S1
  cases k with
  | true=>rw [if_pos rfl]; exact ⟨ι1,M1,env,S1,E.mono x1,h.up x1⟩
  | false=>rw [if_neg (by decide)]; exact ⟨ι1,M1,env,S1,E.mono x1,h.up x1⟩
 | _=>exact h.elim
theorem Zf:CA X [] Ze:=ZoN.imp fun σ H Q ⟨ι,M,env,S,E,h⟩=>h [] H ι Ext.refl S Zac.nil
theorem Zb (ha:C3 X e f) (hr:CA X es gl) (hs:starEach (e :: es) X.env = (false,eval e X.env) :: starEach es X.env:=by rfl):CA X (e :: es) (Za f gl):=(Zj2 ha hr hs).imp fun σ H Q zz1=>by
 obtain ⟨ι,M,env,S,E,h⟩:=zz1
 obtain ⟨d,M1,e1,h⟩:=Zm5.bind h
 obtain ⟨ds,M2,e2,h⟩:=Zm5.bind h
 refine ⟨ι,M,env,S,E,?_⟩
 rw [e1]
 intro v H1 ι1 x1 S1 r1
 refine ⟨ι1,M1,env,S1,E.mono x1,?_⟩
 rw [e2]
 intro vs H2 ι2 x2 S2 r2
 exact h (v :: vs) H2 ι2 (x1.trans x2) S2 (Zac.cons (r1.mono x2) r2)
theorem Zay {x1} (h:CA X es gl):C3 X (.Tuple es x1 pos) (Zai gl):=(Zs9 h).imp fun σ H Q zz1=>by
 obtain ⟨ι,M,env,S,E,h⟩:=zz1
 obtain ⟨ds,M1,e1,h⟩:=Zae.bind h
 refine ⟨ι,M,env,S,E,?_⟩
 rw [e1]
 intro vs H1 ι1 x1 S1 r1
 by_cases hz:ds.length ≤ SZ
 ·rw [if_pos hz] at h
  refine ⟨by rw [r1.length]; exact Nat.le_trans hz ZbX,fun p hp=>?_⟩
  obtain ⟨x2,S2,r2⟩:=S1.tupl hp r1
  exact h _ _ _ (x1.trans x2) S2 r2
 ·rw [if_neg hz] at h; exact h.elim
theorem ZaH (h:CA X es gl):C3 X (.List es pos) (ZaE gl):=(Zrw h).imp fun σ H Q zz1=>by
 obtain ⟨ι,M,env,S,E,h⟩:=zz1
 obtain ⟨ds,M1,e1,h⟩:=Zae.bind h
 refine ⟨ι,M,env,S,E,?_⟩
 rw [e1]
 intro vs H1 ι1 x1 S1 r1
 by_cases hz:ds.length ≤ SZ
 ·rw [if_pos hz] at h
  refine ⟨by rw [r1.length]; exact Nat.le_trans hz ZbX,fun p hp=>?_⟩
  obtain ⟨x2,S2,r2⟩:=S1.lst hp r1
  exact h _ _ _ (x1.trans x2) S2 r2
 ·rw [if_neg hz] at h; exact h.elim
theorem Zox {K:PySem.W.Frag} {q:List D → Store → R3 D} (σ:St) (H:Hp) (Q:VK) (h:tOf K (Zaq q gl) σ H Q):tCB (rB K q) (tAf K gl) σ H Q:=by
 obtain ⟨ι,M,env,S,E,h⟩:=h
 obtain ⟨ds,M1,e1,h⟩:=Zae.bind h
 refine ⟨ι,M,env,S,E,?_⟩
 rw [e1]
 intro vs H1 ι1 x1 S1 r1
 exact ⟨ι1,M1,ds,S1,r1,h.up x1⟩
theorem Zbf {x:Str} {id:String} {q:List D → Store → R3 D} (hc:ZbA X (.builtin id) (rB X.K q)) (hm:X.mg x = none) (hv:bootBuiltins x = some (.builtin id)) (ha:CA X (e :: es) gl) (hg:Gl X x:=by rfl) (hn:x ≠ "__name__":=by decide) (hdb:(x == ("__debug__":Str)) = false:=by decide)
  (he:starEach (e :: es) X.env = (false,eval e X.env) :: starEach es X.env:=by rfl) (hpl:(backTo pos (starEach es X.env)).any (·.1) = false:=by rfl):C3 X (.Call (.Name x p) (e :: es) [] pos) (Zaq q gl):=(ZkF hc hg hm hv ha hn hdb he hpl).imp Zox
theorem ZeK {x:Str} {T:String} {q:List D → Store → R3 D} (hc:ZbA X (.type T) (rB X.K q)) (hm:X.mg x = none) (hv:bootBuiltins x = some (.type T)) (ha:CA X (e :: es) gl) (hg:Gl X x:=by rfl) (hn:x ≠ "__name__":=by decide) (hdb:(x == ("__debug__":Str)) = false:=by decide)
  (he:starEach (e :: es) X.env = (false,eval e X.env) :: starEach es X.env:=by rfl) (hpl:(backTo pos (starEach es X.env)).any (·.1) = false:=by rfl):C3 X (.Call (.Name x p) (e :: es) [] pos) (Zaq q gl):=(Zm1 hc hg hm hv ha hn hdb he hpl).imp Zox
theorem Zaa (hr:IxR X (r2 X.K Zk)) (ha:C3 X a f) (hb:C3 X b g) (hs:Zl5 b:=by exact fun _ _=>rfl):C3 X (.Subscript a b pos) (e2 Zk f g):=(ZtN hr ha hb hs).imp Zjy
theorem Zgl:CO X none ZeN:=Zqy.imp fun σ H Q ⟨ι,M,env,S,E,h⟩=>h H ι Ext.refl S
theorem Zgy (h:C3 X e f):CO X (some e) (ZeV f):=(Zqo h).imp fun σ H Q zz1=>by
 obtain ⟨ι,M,env,S,E,h⟩:=zz1
 obtain ⟨d,M1,e1,h⟩:=Zpe.bind h
 refine ⟨ι,M,env,S,E,?_⟩
 rw [e1]
 intro v H1 ι1 x1 S1 r1
 cases d with
 | int i=>exact ⟨i,r1.int_inv,h H1 ι1 x1 S1⟩
 | _=>exact h.elim
theorem ZoW {lo hi:Option Expr} {ol oh:EO3} {p2:Pos} (hr:SlR X (rS X.K)) (he:C3 X e f) (hl:CO X lo ol) (hu:CO X hi oh):C3 X (.Subscript e (.Slice lo hi none p2) pos) (eSl f ol oh):=(Zoi hr he hl hu).imp fun σ H Q zz1=>by
 obtain ⟨ι,M,env,S,E,h⟩:=zz1
 obtain ⟨d,M1,e1,h⟩:=Zae.bind h
 obtain ⟨l,M2,e2,h⟩:=Zae.bind h
 obtain ⟨u,M3,e3,h⟩:=Zae.bind h
 refine ⟨ι,M,env,S,E,?_⟩
 rw [e1]
 intro v H1 ι1 x1 S1 r1
 refine ⟨ι1,M1,env,S1,E.mono x1,?_⟩
 rw [e2]
 intro H2 ι2 x2 S2
 refine ⟨ι2,M2,env,S2,(E.mono x1).mono x2,?_⟩
 rw [e3]
 intro H3 ι3 x3 S3
 exact ⟨ι3,M3,d,S3,(r1.mono x2).mono x3,((h.up x1).up x2).up x3⟩
theorem Za9:CSs X [] Zba:=Zqp.imp fun D σ H ⟨ι,M,env,S,E,h⟩=>h σ H ι Ext.refl S E
theorem Zo {st:Stmt} {u:S3} (h:CS X st u):CSs X [st] u:=ZpM h
theorem Zj {st:Stmt} {sts:List Stmt} {u w:S3} (h1:CS X st u) (h2:CSs X sts w):CSs X (st :: sts) (Zy u w):=(Zo3 h1 h2).imp fun D σ H zz1=>by
 obtain ⟨ι,M,env,S,E,h⟩:=zz1
 refine ⟨ι,M,env,S,E,?_⟩
 have h':ZfU X.K H ι D (match u env M with | .nx env' M'=>w env' M' | o=>o):=h
 cases q:u env M with
 | nx env' M'=>rw [q] at h'; exact fun σ' H' ι' x S' E'=>⟨ι',M',env',S',E',h'.up x⟩
 | _=>rw [q] at h'; exact h'
theorem Za0 {c1:Expr} {x y:List Stmt} {u w:S3} (hc:CT X c1 f) (ha:CSs X x u) (hb:CSs X y w):CS X (.If c1 x y pos) (sIf f u w):=(Zut hc ha hb).imp fun D σ H zz1=>by
 obtain ⟨ι,M,env,S,E,h⟩:=zz1
 refine ⟨ι,M,env,S,E,?_⟩
 unfold sIf at h
 cases q:f env M with
 | ok d M1=>
  rw [q] at h
  cases d with
  | bl k=>
   intro H1 ι1 x1 S1
   cases k with
   | true=>rw [if_pos rfl]; exact ⟨ι1,M1,env,S1,E.mono x1,h.up x1⟩
   | false=>rw [if_neg (by decide)]; exact ⟨ι1,M1,env,S1,E.mono x1,h.up x1⟩
  | _=>exact h.elim
 | exc x M1=>rw [q] at h; exact h.elim
 | bad=>rw [q] at h; exact h.elim
theorem ZaP (h:C3 X e f):CS X (.Return (some e) pos) (Zbu f):=(Zsl h).imp fun D σ H zz1=>by
 obtain ⟨ι,M,env,S,E,h⟩:=zz1
 refine ⟨ι,M,env,S,E,?_⟩
 unfold Zbu at h
 cases q:f env M with
 | ok d M1=>rw [q] at h; exact h
 | exc x M1=>rw [q] at h; exact h.elim
 | bad=>rw [q] at h; exact h.elim
theorem ZaC (h:C3 X e f) (hs:swapsWith e none pos.line X.env = pure false:=by rfl):CS X (.Expr e pos) (Zak f):=(Zqt h hs).imp fun D σ H zz1=>by
 obtain ⟨ι,M,env,S,E,h⟩:=zz1
 refine ⟨ι,M,env,S,E,?_⟩
 unfold Zak at h
 cases q:f env M with
 | ok d M1=>rw [q] at h; exact fun v H1 ι1 x1 S1 r1=>h σ H1 ι1 x1 S1 (E.mono x1)
 | exc x M1=>rw [q] at h; exact h.elim
 | bad=>rw [q] at h; exact h.elim
theorem Zw (i:Nat) {x:Str} {pos':Pos} (hN:X.N.Nodup) (he:C3 X e f) (hi:X.N[i]? = some x:=by rfl) (hx:Loc X.env.scope x:=by first | exact Or.inl rfl | exact Or.inr rfl) (hs:swapsWith e (some (.Name x pos')) pos.line X.env = pure false:=by rfl)
  (hf:X.fn x = true ∨ X.env.scope.names.lookup x = some .local:=by first | exact .inl rfl | exact .inr rfl):CS X (.Assign [.Name x pos'] e pos) (Zaf i f):=(Ztd hN hi hx he hs hf).imp fun D σ H zz1=>by
 obtain ⟨ι,M,env,S,E,h⟩:=zz1
 refine ⟨ι,M,env,S,E,?_⟩
 unfold Zaf at h
 cases q:f env M with
 | ok d M1=>rw [q] at h; exact fun v H1 ι1 x1 S1 r1=>h _ H1 ι1 x1 S1 ((E.mono x1).set i r1)
 | exc x M1=>rw [q] at h; exact h.elim
 | bad=>rw [q] at h; exact h.elim
end
noncomputable def sp3 (K:PySem.W.Frag) (n:Nat) (F:F3):Sp:=fun vs H Q _=>∃ ι M ds,Zaz K H ι M ∧ Zac K H ι ds vs ∧ ds.length = n ∧ Zae K H ι Q (F ds M)
section
variable {K:PySem.W.Frag} {H H':Hp} {ι ι':List Addr} {M M':Store}
mutual
theorem Rep.below:∀ {d:D} {v:V},Rep K H ι d v → L3.below ι.length d = true
 | .non,_,_=>rfl
 | .bl _,_,_=>rfl
 | .int _,_,_=>rfl
 | .str _,_,_=>rfl
 | .tup ds,_,h=>by
  obtain ⟨a,vs,_,_,r⟩:=h.tup_inv
  exact Zac.belowL (ds:=ds) r
 | .scr ds,_,h=>by
  obtain ⟨a,vs,_,_,r⟩:=h.scr_inv
  exact Zac.belowL (ds:=ds) r
 | .ref n,_,h=>by
  obtain ⟨a,q,_⟩:=h.ref_inv
  exact decide_eq_true (List.getElem?_eq_some_iff.mp q).1
theorem Zac.belowL:∀ {ds:List D} {vs:List V},Zac K H ι ds vs → L3.belowL ι.length ds = true
 | [],_,_=>rfl
 | d :: ds,_,h=>by
  obtain ⟨v,ws,_,r,q⟩:=h.cons_inv
  exact Bool.and_eq_true_iff.mpr ⟨Rep.below (d:=d) r,Zac.belowL (ds:=ds) q⟩
end
mutual
theorem Rep.cut {n:Nat}:∀ {d:D} {v:V},L3.below n d = true → Rep K H ι d v → Rep K H (ι.take n) d v
 | .non,_,_,h=>h
 | .bl _,_,_,h=>h
 | .int _,_,_,h=>h
 | .str _,_,_,h=>h
 | .tup ds,_,hb,h=>by
  obtain ⟨a,vs,rfl,s,r⟩:=h.tup_inv
  exact Rep.tup s (Zac.cut (ds:=ds) hb r)
 | .scr ds,_,hb,h=>by
  obtain ⟨a,vs,rfl,s,r⟩:=h.scr_inv
  exact ⟨a,vs,rfl,s,Zac.cut (ds:=ds) hb r⟩
 | .ref k,_,hb,h=>by
  obtain ⟨a,q,rfl⟩:=h.ref_inv
  refine Rep.ref ?_
  rw [List.getElem?_take_of_lt (of_decide_eq_true hb)]
  exact q
theorem Zac.cut {n:Nat}:∀ {ds:List D} {vs:List V},L3.belowL n ds = true → Zac K H ι ds vs → Zac K H (ι.take n) ds vs
 | [],_,_,h=>h
 | d :: ds,_,hb,h=>by
  obtain ⟨v,ws,rfl,r,q⟩:=h.cons_inv
  exact have w:=Bool.and_eq_true_iff.mp (hb:(L3.below n d && L3.belowL n ds) = true); Zac.cons (Rep.cut (d:=d) w.1 r) (Zac.cut (ds:=ds) w.2 q)
end
theorem Zgb.below {m:MO} {a:Addr} (h:Zgb K H ι m a):Zgi ι.length m = true:=by
 cases m with
 | lst xs=>obtain ⟨vs,_,r⟩:=h; exact r.belowL
 | dct kvs=>obtain ⟨ws,_,_,r⟩:=h; exact r.belowL
 | fdct kvs=>obtain ⟨ws,_,_,r⟩:=h; exact r.belowL
 | ins c fs=>
  rcases h with ⟨_,_,gs,_,_,_,r⟩ | ⟨_,_,_,_,rfl⟩
  ·exact r.belowL
  ·rfl
theorem Zgb.cut {n:Nat} {m:MO} {a:Addr} (hb:Zgi n m = true) (h:Zgb K H ι m a):Zgb K H (ι.take n) m a:=by
 cases m with
 | lst xs=>obtain ⟨vs,q,r⟩:=h; exact ⟨vs,q,r.cut hb⟩
 | dct kvs=>obtain ⟨ws,q,r1,r2⟩:=h; exact ⟨ws,q,r1,r2.cut hb⟩
 | fdct kvs=>obtain ⟨ws,q,r1,r2⟩:=h; exact ⟨ws,q,r1,r2.cut hb⟩
 | ins c fs=>
  rcases h with ⟨C,dx,gs,q,c,r1,r2⟩ | h
  ·exact .inl ⟨C,dx,gs,q,c,r1,r2.cut hb⟩
  ·exact .inr h
theorem Zaz.cut {n:Nat} (S:Zaz K H ι M) (h:(M.take n).all (Zgi n) = true):Zaz K H (ι.take n) (M.take n):=by
 refine ⟨by simp [S.len],S.nd.sublist (List.take_sublist _ _),fun k m a h1 h2=>?_⟩
 have hk:k < n:=by
  have:=(List.getElem?_eq_some_iff.mp h1).1
  rw [List.length_take] at this
  exact Nat.lt_of_lt_of_le this (Nat.min_le_left _ _)
 have hb:Zgi n m = true:=List.all_eq_true.mp h m (List.mem_of_getElem? h1)
 rw [List.getElem?_take_of_lt hk] at h1 h2
 exact (S.obj k m a h1 h2).cut hb
theorem Zml {Q:VK} {d:D} {v:V} (S:Zaz K H ι M) (x:Ext K H ι H' ι') (S':Zaz K H' ι' M') (r:Rep K H' ι' d v) (h:Zae K H ι Q (Zff M d M')):Q v H':=by
 unfold Zff at h
 split at h
 ·rename_i c
  simp only [Bool.and_eq_true,Bool.or_eq_true,decide_eq_true_eq] at c
  have hall:(M'.take M.length).all (Zgi M.length) = true:=by
   rcases c.2 with e | e
   ·rw [e,List.all_eq_true]
    intro m hm
    obtain ⟨n,hn⟩:=List.getElem?_of_mem hm
    obtain ⟨a,q,w⟩:=S.at hn
    rw [← S.len]
    exact w.below
   ·exact e
  refine h v H' (ι'.take M.length) ⟨x.tup,x.scr,fun n a q=>?_,x.frz⟩ (S'.cut hall) (r.cut c.1)
  rw [List.getElem?_take_of_lt (by rw [← S.len]; exact (List.getElem?_eq_some_iff.mp q).1)]
  exact x.pre n a q
 ·exact h v H' ι' x S' r
end
theorem ZbF.start {K:PySem.W.Frag} {H:Hp} {ι:List Addr} {ds:List D} {vs:List V} (r:Zac K H ι ds vs) (n:Nat):ZbF K H ι (ds.map some ++ List.replicate n none) (vs.map some ++ List.replicate n none):=by
 refine ⟨by simp [r.length],fun i d h=>?_⟩
 by_cases hi:i < ds.length
 ·rw [List.getElem?_append_left (by simpa using hi),List.getElem?_map] at h
  cases q:ds[i]? with
  | none=>rw [q] at h; simp at h
  | some d'=>
   rw [q] at h
   simp at h
   subst h
   obtain ⟨v,e,z⟩:=r.get q
   refine ⟨v,?_,z⟩
   rw [List.getElem?_append_left (by simpa [r.length] using hi),List.getElem?_map,e]
   rfl
 ·rw [List.getElem?_append_right (by simpa using hi),List.getElem?_replicate] at h
  split at h <;> simp at h
section
variable {P:Program} {w:World} {K:PySem.W.Frag} {mg:Str → Option Value} {base:Heap}
theorem fn3 {x qual:Str} {st:Stmt} {f:Addr} {fd:FuncData} {N ps:List Str} {k:Nat} {body:S3} (F:Fun K x qual st f fd) (S:ZaJ N ps (Zr st))
  (hb:∀ (cdv:Value) (A:Around) (outer:List Env) (s:Shared) (H:Hp) (E:XK),ZdL k (A.deeper (envOfC qual (Zr st) s.heap.objs.size f cdv)) → CSs (ZkS CX0 P w K mg base N qual (Zr st) f cdv A outer s H E).nox (ZaB st) body):
  Zfo P w K mg base CX0 (k + 1) f fd ps (sp3 K ps.length (mkF ps.length N.length body)):=by
 refine F.ok S (fun vs H Q E ⟨ι,M,ds,_,r,l,_⟩=>by rw [r.length,l]) fun cdv A outer s H vs Q E hr zz1=>?_
 obtain ⟨ι,M,ds,SR,r,l,h⟩:=zz1
 refine ⟨_,hb cdv A outer s H E hr,ι,M,ds.map some ++ List.replicate (N.length - ps.length) none,SR,?_,?_⟩
 ·have e:L2.start N vs = vs.map some ++ List.replicate (N.length - ps.length) none:=by unfold L2.start; rw [r.length,l]
  rw [e]
  exact ZbF.start r _
 ·unfold mkF at h
  rw [if_pos l] at h
  cases q:body (ds.map some ++ List.replicate (N.length - ps.length) none) M with
  | nx env' M'=>rw [q] at h; exact fun σ' H' ι' x S' E'=>Zml SR x S' Rep.non h
  | rt d M'=>rw [q] at h; exact fun v H' ι' x S' r'=>Zml SR x S' r' h
  | bk _ _=>rw [q] at h; exact h.elim
  | ct _ _=>rw [q] at h; exact h.elim
  | exc _ _=>rw [q] at h; exact h.elim
  | bad=>rw [q] at h; exact h.elim
def Fn3 (P:Program) (w:World) (K:PySem.W.Frag) (mg:Str → Option Value) (base:Heap) (k:Nat) (x:Str) (ps:List Str) (F:F3):Prop:=
 (∀ ds M,ds.length ≠ ps.length → F ds M = .bad) ∧ ∃ f fd,mg x = some (.ref f) ∧ PySem.W.keepIn K (.ref f) = true ∧ Binds K fd ps [] ∧ Zfo P w K mg base CX0 k f fd ps (sp3 K ps.length F)
def ZaI (K:PySem.W.Frag) (mg:Str → Option Value) (x:Str) (st:Stmt) (ps:List Str):Prop:=∃ f fd,Fun K x x st f fd ∧ mg x = some (.ref f) ∧ Binds K fd ps []
theorem Fn3.mono {j k:Nat} {x:Str} {ps:List Str} {F:F3} (h:Fn3 P w K mg base j x ps F) (l:j ≤ k):Fn3 P w K mg base k x ps F:=
 let ⟨n,f,fd,a,b,c,d⟩:=h; ⟨n,f,fd,a,b,c,d.mono l⟩
theorem Fn3.of {x:Str} {st:Stmt} {N ps:List Str} {k:Nat} {body:S3} (d:ZaI K mg x st ps) (S:ZaJ N ps (Zr st))
  (hb:∀ (f:Addr) (cdv:Value) (A:Around) (outer:List Env) (s:Shared) (H:Hp) (E:XK),ZdL k (A.deeper (envOfC x (Zr st) s.heap.objs.size f cdv)) → CSs (ZkS CX0 P w K mg base N x (Zr st) f cdv A outer s H E).nox (ZaB st) body):
  Fn3 P w K mg base (k + 1) x ps (mkF ps.length N.length body):=by
 obtain ⟨f,fd,F,m,bi⟩:=d
 exact ⟨fun ds M h=>if_neg h,f,fd,m,F.kp,bi,fn3 F S (hb f)⟩
end
section
variable {X:Cx} {e:Expr} {es:List Expr} {pos p:Pos} {gl:EL3} {x:Str} {k:Nat} {ps:List Str} {F:F3}
theorem Zad (G:Fn3 X.prog X.w X.K X.mg X.base k x ps F) (hr:ZdL k X.A) (ha:CA X (e :: es) gl) (hg:Gl X x:=by rfl) (hdb:(x == ("__debug__":Str)) = false:=by decide)
  (he:starEach (e :: es) X.env = (false,eval e X.env) :: starEach es X.env:=by rfl) (hpl:(backTo pos (starEach es X.env)).any (·.1) = false:=by rfl):C3 X (.Call (.Name x p) (e :: es) [] pos) (Zt F gl):=by
 obtain ⟨hn,f,fd,m,kp,bi,ok⟩:=G
 refine (ZpX ok hr hg m kp bi .nil Zuu ha hdb he hpl).imp fun σ H Q zz1=>?_
 obtain ⟨ι,M,env,S,E,h⟩:=zz1
 obtain ⟨ds,M1,e1,h⟩:=Zae.bind h
 refine ⟨ι,M,env,S,E,?_⟩
 rw [e1]
 intro vs H1 ι1 x1 S1 r1
 have hl:ds.length = ps.length:=by
  refine Decidable.byContradiction fun q=>?_
  rw [hn ds M1 q] at h
  exact h.elim
 exact ⟨ι1,M1,ds,S1,by rw [List.append_nil]; exact r1,hl,h.up x1⟩
end
end L3
namespace L3
open PySem PySem.Spec PyProof.Rows L2
def tGf (K:PySem.W.Frag) (g:G3):TG:=fun v σ H Q=>∃ ι M env d env',Zaz K H ι M ∧ ZbF K H ι env σ ∧ Rep K H ι d v ∧ g d env = some env' ∧ ∀ σ',ZbF K H ι env' σ' → Q σ' H
def tGs (K:PySem.W.Frag) (is:List Nat):TGs:=fun vs σ H Q=>∃ ι M env ds env',Zaz K H ι M ∧ ZbF K H ι env σ ∧ Zac K H ι ds vs ∧ bindAll is ds env = some env' ∧ ∀ σ',ZbF K H ι env' σ' → Q σ' H
def CG (X:Cx) (tg:Expr) (g:G3):Prop:=PG X tg (tGf X.K g)
def CGs (X:Cx) (tg:List Expr) (is:List Nat):Prop:=PGs X tg (tGs X.K is)
theorem PG.imp {X:Cx} {e:Expr} {t t':TG} (h:PG X e t) (i:∀ v σ H Q,t' v σ H Q → t v σ H Q):PG X e t':=fun pins s σ H v u Q I r q=>h pins s σ H v u Q I r (i v σ H Q q)
theorem PGs.imp {X:Cx} {e:List Expr} {t t':TGs} (h:PGs X e t) (i:∀ v σ H Q,t' v σ H Q → t v σ H Q):PGs X e t':=fun pins s σ H v u Q I r q=>h pins s σ H v u Q I r (i v σ H Q q)
section
variable {X:Cx} {e:Expr} {es:List Expr} {pos:Pos}
theorem ZcQ (i:Nat) {x:Str} (hN:X.N.Nodup) (hi:X.N[i]? = some x:=by rfl) (hx:Loc X.env.scope x:=by first | exact Or.inl rfl | exact Or.inr rfl)
  (hf:X.fn x = true ∨ X.env.scope.names.lookup x = some .local:=by first | exact .inl rfl | exact .inr rfl):CG X (.Name x pos) (ZbC i):=PG.imp (ZmU hN hi hx hf) fun v σ H Q zz1=>by
 obtain ⟨ι,M,env,d,env',S,E,r,q,h⟩:=zz1
 cases q
 exact h _ (E.set i r)
theorem ZfI:CGs X [] []:=PGs.imp ZpP fun v σ H Q zz1=>by
 obtain ⟨ι,M,env,ds,env',S,E,r,q,h⟩:=zz1
 cases ds with
 | nil=>cases q; exact ⟨r.nil_inv,h σ E⟩
 | cons d ds=>cases q
theorem Zcc (i:Nat) {is:List Nat} {x:Str} (hN:X.N.Nodup) (ht:CGs X es is) (hi:X.N[i]? = some x:=by rfl) (hx:Loc X.env.scope x:=by first | exact Or.inl rfl | exact Or.inr rfl)
  (hf:X.fn x = true ∨ X.env.scope.names.lookup x = some .local:=by first | exact .inl rfl | exact .inr rfl) (hs:(assignEach (.Name x pos :: es) X.env).map (·.2) = assign (.Name x pos) X.env :: (assignEach es X.env).map (·.2):=by rfl):
  CGs X (.Name x pos :: es) (i :: is):=PGs.imp (Zoq (ZmU hN hi hx hf) ht hs) fun v σ H Q zz1=>by
 obtain ⟨ι,M,env,ds,env',S,E,r,q,h⟩:=zz1
 cases ds with
 | nil=>cases q
 | cons d ds=>
  obtain ⟨v,ws,rfl,r1,r2⟩:=r.cons_inv
  exact ⟨v,ws,rfl,ι,M,env.set i (some d),ds,env',S,E.set i r1,r2,q,h⟩
theorem Zg0 {is:List Nat} {k:Nat} (hc:X.calm = true) (h:CGs X es is) (hl:es.length = is.length:=by rfl) (hn:(assignEach es X.env).length = is.length:=by rfl) (hst:(assignEach es X.env).findIdx? (·.1) = none:=by rfl):CG X (.Tuple es k pos) (Zc3 is):=
 PG.imp (ZrC (n:=is.length) hc h hn hst) fun v σ H Q zz1=>by
  obtain ⟨ι,M,env,d,env',S,E,r,q,h⟩:=zz1
  cases d with
  | tup ds=>
   obtain ⟨a,vs,rfl,s,r⟩:=r.tup_inv
   have hlen:∀ (is:List Nat) (ds:List D) (env env':Zam),bindAll is ds env = some env' → ds.length = is.length:=by
    intro is
    induction is with
    | nil=>intro ds env env' h; cases ds with | nil=>rfl | cons d ds=>cases h
    | cons i is ih=>intro ds env env' h; cases ds with | nil=>cases h | cons d ds=>simp [ih ds _ _ h]
   exact ⟨a,vs,rfl,s,by rw [r.length]; exact hlen _ _ _ _ q,ι,M,env,ds,env',S,E,r,q,h⟩
  | _=>cases q
end
def Zh7 (K:PySem.W.Frag) (H:Hp) (ι:List Addr) (it:It3) (J:It):Prop:=∀ (i:Nat) H2 ι2 M2,Ext K H ι H2 ι2 → Zaz K H2 ι2 M2 → locked it M2 = true →
 (∀ d,it.items[i]? = some d → J.go i H2 ∧ ∀ x H3,J.yld i H2 x H3 → H3 = H2 ∧ Rep K H2 ι2 d x) ∧ (i = it.items.length → J.stop i H2)
def Znq (K:PySem.W.Frag) (H:Hp) (ι:List Addr) (R:It → Hp → Prop) (r:R3 It3):Prop:=match r with
 | .ok it M'=>∀ J H' ι',Ext K H ι H' ι' → Zaz K H' ι' M' → Zh7 K H' ι' it J → R J H'
 | _=>False
def tIf (K:PySem.W.Frag) (g:I3):TI:=fun σ H R=>∃ ι M env,Zaz K H ι M ∧ ZbF K H ι env σ ∧ Znq K H ι R (g env M)
def CI (X:Cx) (tg e:Expr) (g:I3):Prop:=PI X tg e (tIf X.K g)
theorem PI.imp {X:Cx} {tg e:Expr} {t t':TI} (h:PI X tg e t) (i:∀ σ H Q,t' σ H Q → t σ H Q):PI X tg e t':=fun pins s σ H Q I q=>h pins s σ H Q I (i σ H Q q)
theorem PI.or {X:Cx} {tg e:Expr} {t t':TI} (h:PI X tg e t) (h':PI X tg e t'):PI X tg e (fun σ H R=>t σ H R ∨ t' σ H R):=fun pins s σ H Q I q=>q.elim (h pins s σ H Q I) (h' pins s σ H Q I)
theorem Znq.bind {K:PySem.W.Frag} {H:Hp} {ι:List Addr} {α:Type} {Q:It → Hp → Prop} {r:R3 α} {k:α → Store → R3 It3} (h:Znq K H ι Q (r.bind k)):∃ a M,r = .ok a M ∧ Znq K H ι Q (k a M):=by
 cases r with
 | ok a M=>exact ⟨a,M,rfl,h⟩
 | exc x M=>exact h.elim
 | bad=>exact h.elim
section
variable {K:PySem.W.Frag} {H:Hp} {ι:List Addr}
end
section
variable {X:Cx} {tg e a b:Expr} {pos p:Pos} {f g:E3}
theorem ZrE (h:C3 X e f) (hs:PI X tg e (fun σ H R=>tOf X.K f σ H fun x H1=>∃ z:Str,x = .str z ∧ z.length ≤ SZ ∧ ∀ J,(∀ ι,Zh7 X.K H1 ι ⟨z.cps.toList.map fun c=>.str [c],none⟩ J) → R J H1)):CI X tg e (ZfV f):=
 PI.imp (PI.or (Ztn h) (PI.or (ZqC h) hs)) fun σ H R zz1=>by
  obtain ⟨ι,M,env,S,E,h⟩:=zz1
  obtain ⟨d,M1,e1,h⟩:=Znq.bind h
  cases d with
  | tup ds=>
   refine .inl ⟨ι,M,env,S,E,?_⟩
   rw [e1]
   intro v H1 ι1 x1 S1 r1
   obtain ⟨a,vs,rfl,s,r⟩:=r1.tup_inv
   refine ⟨a,rfl,⟨vs,s⟩,h _ H1 ι1 x1 S1 ?_⟩
   intro i H2 ι2 M2 x S2 _
   refine ⟨fun d hd=>?_,fun hl=>⟨vs,x.tup _ _ s,by rw [r.length,hl]; exact Nat.le_refl _⟩⟩
   obtain ⟨v,hv,rv⟩:=r.get hd
   refine ⟨⟨vs,v,x.tup _ _ s,hv⟩,fun y H3 hy=>⟨hy.1,?_⟩⟩
   have e:=hy.2 vs (x.tup _ _ s)
   rw [hv] at e
   cases e
   exact rv.mono x
  | scr ds=>
   refine .inr (.inl ⟨ι,M,env,S,E,?_⟩)
   rw [e1]
   intro v H1 ι1 x1 S1 r1
   obtain ⟨a,vs,rfl,s,r⟩:=r1.scr_inv
   refine ⟨a,rfl,⟨vs,s.sq⟩,h _ H1 ι1 x1 S1 ?_⟩
   intro i H2 ι2 M2 x S2 _
   refine ⟨fun d hd=>?_,fun hl=>⟨vs,(x.scr _ _ s).sq,by rw [r.length,hl]; exact Nat.le_refl _⟩⟩
   obtain ⟨v,hv,rv⟩:=r.get hd
   refine ⟨⟨vs,v,(x.scr _ _ s).sq,hv⟩,fun y H3 hy=>⟨hy.1,?_⟩⟩
   have e:=hy.2 vs (x.scr _ _ s).sq
   rw [hv] at e
   cases e
   exact rv.mono x
  | ref n=>
   refine .inr (.inl ⟨ι,M,env,S,E,?_⟩)
   rw [e1]
   intro v H1 ι1 x1 S1 r1
   cases hm:M1[n]? with
   | none=>simp only [hm] at h; exact h.elim
   | some o=>
    cases o with
    | dct kvs=>simp only [hm] at h; exact h.elim
    | fdct kvs=>simp only [hm] at h; exact h.elim
    | ins _ _=>simp only [hm] at h; exact h.elim
    | lst ds=>
     simp only [hm] at h
     obtain ⟨a,ha,rfl⟩:=r1.ref_inv
     obtain ⟨vs,q,r⟩:=S1.obj n _ a hm ha
     refine ⟨a,rfl,⟨vs,SqL.of q⟩,h _ H1 ι1 x1 S1 ?_⟩
     intro i H2 ι2 M2 x S2 lk
     have lk':M2[n]? = some (.lst ds):=of_decide_eq_true lk
     obtain ⟨vs2,q2,r2⟩:=S2.obj n _ a lk' (x.pre _ _ ha)
     refine ⟨fun d hd=>?_,fun hl=>⟨vs2,SqL.of q2,by rw [r2.length,hl]; exact Nat.le_refl _⟩⟩
     obtain ⟨v,hv,rv⟩:=r2.get hd
     refine ⟨⟨vs2,v,SqL.of q2,hv⟩,fun y H3 hy=>⟨hy.1,?_⟩⟩
     have e:=hy.2 vs2 (SqL.of q2)
     rw [hv] at e
     cases e
     exact rv
  | str z=>
   refine .inr (.inr ⟨ι,M,env,S,E,?_⟩)
   rw [e1]
   intro v H1 ι1 x1 S1 r1
   have hv:=r1.str_inv
   subst hv
   by_cases hz:z.length ≤ SZ
   ·simp only [if_pos hz] at h
    refine ⟨_,rfl,by simpa [Str.length] using hz,fun J hJ=>h J H1 ι1 x1 S1 ?_⟩
    simpa using hJ ι1
   ·simp only [if_neg hz] at h; exact h.elim
  | non=>exact h.elim
  | bl b=>exact h.elim
  | int i=>exact h.elim
theorem Zoy {K:PySem.W.Frag} {H:Hp} {ι:List Addr} (lo:Int) (n:Nat):Zh7 K H ι ⟨ZnJ lo n,none⟩ (Itr lo n):=by
 intro i H2 ι2 M2 x S _
 refine ⟨fun d hd=>?_,fun hl=>?_⟩
 ·unfold ZnJ at hd
  rw [List.getElem?_map] at hd
  cases q:(List.range n)[i]? with
  | none=>rw [q] at hd; cases hd
  | some k=>
   rw [q] at hd
   obtain ⟨hi,e⟩:=List.getElem?_eq_some_iff.mp q
   rw [List.getElem_range] at e
   subst e
   have hd':D.int (lo + (i:Int)) = d:=by simpa using hd
   subst hd'
   exact ⟨(by show i < n; simpa using hi),fun y H3 hy=>⟨hy.1,by rw [hy.2]; exact Rep.int⟩⟩
 ·show n ≤ i
  rw [hl]
  simp [ZnJ]
theorem Zjc (hm:X.mg "range" = none) (h:C3 X a f) (hg:Gl X "range":=by rfl) (hs:starEach [a] X.env = [(false,eval a X.env)]:=by rfl) (hs':starEach (a :: []) X.env = (false,eval a X.env) :: starEach [] X.env:=by rfl):CI X tg (.Call (.Name "range" p) [a] [] pos) (Zen f):=
 PI.imp (ZnH hg hm (Zb h Zf hs') hs) fun σ H R zz1=>by
  obtain ⟨ι,M,env,S,E,h⟩:=zz1
  obtain ⟨d,M1,e1,h⟩:=Znq.bind h
  refine ⟨ι,M,env,S,E,?_⟩
  have e2:Za f Ze env M = .ok [d] M1:=by unfold Za; rw [e1]; rfl
  rw [e2]
  intro vs H1 ι1 x1 S1 r1
  obtain ⟨v,ws,rfl,r,q⟩:=r1.cons_inv
  have:=q.nil_inv
  subst this
  cases d with
  | int j=>
   have hv:=r.int_inv
   subst hv
   by_cases hj:j ≤ 1000000 ∧ -1000000 ≤ j
   ·simp only [if_pos hj] at h
    exact ⟨j,rfl,by omega,by omega,h _ H1 ι1 x1 S1 (Zoy 0 j.toNat)⟩
   ·simp only [if_neg hj] at h; exact h.elim
  | _=>exact h.elim
theorem Zeu {iter:Expr} {body:List Stmt} {i:I3} {g:G3} {u:S3} (hxe:X.xe = fun _ _=>False) (hc:X.calm = true) (hi:CI X tg iter i) (hg:CG X tg g) (hb:CSs X body u) (hs:∀ x,foldedSetIterable iter X.env x = pure x:=by intro _; rfl):
  CS X (.For tg iter body [] pos) (Zfj i g u):=(Zn9 (by rw [hxe]; exact PassesOwn.never) hc hi hg hb hs).imp fun D σ H zz1=>by
 obtain ⟨ι,M,env,S,E,h⟩:=zz1
 unfold Zfj at h
 cases q:i env M with
 | exc x M1=>rw [q] at h; exact h.elim
 | bad=>rw [q] at h; exact h.elim
 | ok it M1=>
  rw [q] at h
  refine ⟨ι,M,env,S,E,?_⟩
  rw [q]
  intro J H1 ι1 x1 S1 ok
  refine ⟨fun i m σ2 H2=>m = it.items.length - i ∧ i ≤ it.items.length ∧ ∃ ι2 M2 env2,Ext X.K H1 ι1 H2 ι2 ∧ Zaz X.K H2 ι2 M2 ∧ ZbF X.K H2 ι2 env2 σ2 ∧ ZfU X.K H2 ι2 D (Zbl it g u (it.items.drop i) env2 M2),
   ⟨_,rfl,Nat.zero_le _,ι1,M1,env,Ext.refl,S1,E.mono x1,ZfU.up x1 h⟩,?_⟩
  rintro i m σ2 H2 ⟨rfl,hi,ι2,M2,env2,x2,S2,E2,h2⟩
  by_cases hlt:i < it.items.length
  ·have hd:it.items[i]? = some it.items[i]:=by simp [hlt]
   rw [List.drop_eq_getElem_cons hlt] at h2
   first | rw [ZcM] at h2 | rw [ZcO] at h2
   by_cases lk:locked it M2 = true
   ·rw [if_pos lk] at h2
    obtain ⟨go,yl⟩:=(ok i H2 ι2 M2 x2 S2 lk).1 _ hd
    cases eg:g it.items[i] env2 with
    | none=>rw [eg] at h2; exact h2.elim
    | some env3=>
     rw [eg] at h2
     refine .inr ⟨go,fun σ' H'=>∃ ι3 M3 env4,Ext X.K H2 ι2 H' ι3 ∧ Zaz X.K H' ι3 M3 ∧ ZbF X.K H' ι3 env4 σ' ∧ ZfU X.K H' ι3 D (Zbl it g u (it.items.drop (i + 1)) env4 M3),
      fun σ' H' ⟨ι3,M3,env4,x3,S3,E3,h3⟩=>⟨it.items.length - (i + 1),lD 2 0x30113c2012a1c0c21 T1 (Nat.sub_add_cancel (lB 1 6991908881 T1 hlt)) (sbA _ _),rfl,hlt,ι3,M3,env4,x2.trans x3,S3,E3,h3⟩,fun x H' hy=>?_⟩
     obtain ⟨rfl,rx⟩:=yl x H' hy
     refine ⟨ι2,M2,env2,_,env3,S2,E2,rx,eg,fun σ' E'=>⟨ι2,M2,env3,S2,E',?_⟩⟩
     cases qu:u env3 M2 with
     | nx e' M'=>simp only [qu] at h2; exact fun σ' H' ι' x' S' E'=>⟨ι',M',e',x',S',E',h2.up x'⟩
     | ct e' M'=>simp only [qu] at h2; exact fun σ' H' ι' x' S' E'=>⟨ι',M',e',x',S',E',h2.up x'⟩
     | bk e' M'=>simp only [qu] at h2; exact h2
     | rt d M'=>simp only [qu] at h2; exact h2
     | exc x' M'=>simp only [qu] at h2; exact h2.elim
     | bad=>simp only [qu] at h2; exact h2.elim
   ·rw [if_neg lk] at h2; exact h2.elim
  ·have e0:i = it.items.length:=Nat.le_antisymm hi (Nat.le_of_not_lt hlt)
   subst e0
   rw [List.drop_length] at h2
   first | rw [ZcM] at h2 | rw [ZcO] at h2
   by_cases lk:locked it M2 = true
   ·rw [if_pos lk] at h2
    exact .inl ⟨(ok _ H2 ι2 M2 x2 S2 lk).2 rfl,h2 σ2 H2 ι2 Ext.refl S2 E2⟩
   ·rw [if_neg lk] at h2; exact h2.elim
theorem Zih {c1:Expr} {body:List Stmt} {u:S3} (hxe:X.xe = fun _ _=>False) (hc:CT X c1 f) (hb:CSs X body u):CS X (.While c1 body [] pos) (Zjt f u):=(ZnQ (by rw [hxe]; exact PassesOwn.never) hc hb).imp fun D σ H zz1=>by
 obtain ⟨ι,M,env,S,E,h⟩:=zz1
 refine ⟨fun m σ2 H2=>∃ ι2 M2 env2,Zaz X.K H2 ι2 M2 ∧ ZbF X.K H2 ι2 env2 σ2 ∧ ZfU X.K H2 ι2 D (ZcW f u m env2 M2),⟨1000000,ι,M,env,S,E,h⟩,?_⟩
 rintro m σ2 H2 ⟨ι2,M2,env2,S2,E2,h2⟩
 cases m with
 | zero=>exact h2.elim
 | succ m=>
  refine ⟨ι2,M2,env2,S2,E2,?_⟩
  rw [Zdf] at h2
  cases q:f env2 M2 with
  | exc x M1=>rw [q] at h2; exact h2.elim
  | bad=>rw [q] at h2; exact h2.elim
  | ok d M1=>
   rw [q] at h2
   cases d with
   | bl k=>
    cases k with
    | false=>
     intro H3 ι3 x3 S3
     rw [if_neg (by decide)]
     exact h2 σ2 H3 ι3 x3 S3 (E2.mono x3)
    | true=>
     intro H3 ι3 x3 S3
     rw [if_pos rfl]
     refine ⟨fun σ' H'=>∃ ι4 M4 env4,Zaz X.K H' ι4 M4 ∧ ZbF X.K H' ι4 env4 σ' ∧ ZfU X.K H' ι4 D (ZcW f u m env4 M4),fun σ' H' q=>⟨m,Nat.lt_succ_self _,q⟩,ι3,M1,env2,S3,E2.mono x3,?_⟩
     have h3:=ZfU.up x3 h2
     cases qu:u env2 M1 with
     | nx e' M'=>simp only [qu] at h3; exact fun σ' H' ι' x' S' E'=>⟨ι',M',e',S',E',h3.up x'⟩
     | ct e' M'=>simp only [qu] at h3; exact fun σ' H' ι' x' S' E'=>⟨ι',M',e',S',E',h3.up x'⟩
     | bk e' M'=>simp only [qu] at h3; exact h3
     | rt d M'=>simp only [qu] at h3; exact h3
     | exc x' M'=>simp only [qu] at h3; exact h3.elim
     | bad=>simp only [qu] at h3; exact h3.elim
   | _=>exact h2.elim
end
end L3
namespace L3
open PySem PySem.Spec PyProof.Rows L2
theorem Rep.non_iff {K:PySem.W.Frag} {H:Hp} {ι:List Addr} {d:D} {v:V} (r:Rep K H ι d v):decide (v = V.non) = decide (d = D.non):=by
 cases d with
 | non=>rw [r.non_inv]; rfl
 | bl b=>rw [r.bl_inv]; rfl
 | int i=>rw [r.int_inv]; rfl
 | str x=>rw [r.str_inv]; rfl
 | tup ds=>obtain ⟨a,vs,e,_⟩:=r.tup_inv; rw [e]; rfl
 | scr ds=>obtain ⟨a,vs,e,_⟩:=r.scr_inv; rw [e]; rfl
 | ref n=>obtain ⟨a,_,e⟩:=r.ref_inv; rw [e]; rfl
theorem ZhQ {x y:List Nat}:decide (V.str ⟨x.toArray⟩ = V.str ⟨y.toArray⟩) = (x == y):=by
 by_cases h:x = y
 ·subst h; simp
 ·rw [decide_eq_false (fun e=>h (by injection e with e1; injection e1 with e2; simpa using congrArg Array.toList e2))]
  exact (beq_eq_false_iff_ne.mpr h).symm
section
variable {X:Cx}
theorem Zoh:OpR X (binaryOp .Add) (fun x y H Q=>∃ a b ys,x = .ref a ∧ y = .ref b ∧ SqT X.K H a [] ∧ SqT X.K H b ys ∧ Q (.ref b) H):=by
 intro pins s σ H x y v u Q I rx ry h
 obtain ⟨a,b,ys,rfl,rfl,ha,hb,q⟩:=h
 cases rx
 cases ry
 obtain ⟨its,r1,p1,_⟩:=I.tuple ha
 obtain ⟨its2,r2,p2,_⟩:=I.tuple hb
 cases r1
 obtain ⟨⟨cls,dd,data,sl⟩,ho,hc,n,hd⟩:=id p1
 obtain ⟨⟨cls2,dd2,data2,sl2⟩,ho2,hc2,n2,hd2⟩:=id p2
 simp only at hc hd hc2 hd2
 subst hc hd hc2 hd2
 exact concat_meets ⟨_,ho,rfl⟩ ⟨_,ho2,rfl⟩ noFill_tuple_add seq_tuple_add PySem.F.slot_tuple_add PySem.F.entry_tuple_add (PySem.F.args_tuple_add_2 _ _)
   (tuple_addW0 a b _ its2.toArray n n2 dd dd2 sl sl2 (by simp)) ⟨ho,ho2,⟨.ref b,H,I,rfl,q⟩⟩
theorem ZqV (x y:List Nat):(⟨x.toArray⟩:Str) ++ ⟨y.toArray⟩ = ⟨(x ++ y).toArray⟩:=by
 show Str.append _ _ = _
 unfold Str.append
 simp
noncomputable def onO (o:Option D) (f:D → R3 D):R3 D:=match o with
 | some d=>f d
 | none=>.bad
theorem ZjF {K:PySem.W.Frag} {H:Hp} {ι:List Addr} {Q:VK} {o:Option D} {f:D → R3 D} (h:Zae K H ι Q (onO o f)):∃ x,o = some x ∧ Zae K H ι Q (f x):=by
 cases o with
 | none=>exact h.elim
 | some x=>exact ⟨x,rfl,h⟩
noncomputable def onN (o:Option Nat) (f:Nat → R3 D):R3 D:=match o with
 | some d=>f d
 | none=>.bad
theorem Zqn {K:PySem.W.Frag} {H:Hp} {ι:List Addr} {Q:VK} {o:Option Nat} {f:Nat → R3 D} (h:Zae K H ι Q (onN o f)):∃ x,o = some x ∧ Zae K H ι Q (f x):=by
 cases o with
 | none=>exact h.elim
 | some x=>exact ⟨x,rfl,h⟩
noncomputable def onL (o:Option MO) (f:List D → R3 D):R3 D:=match o with
 | some (.lst x)=>f x
 | _=>.bad
theorem Zmb {K:PySem.W.Frag} {H:Hp} {ι:List Addr} {Q:VK} {o:Option MO} {f:List D → R3 D} (h:Zae K H ι Q (onL o f)):∃ x,o = some (.lst x) ∧ Zae K H ι Q (f x):=by
 cases o with
 | none=>exact h.elim
 | some o=>cases o with
  | lst x=>exact ⟨x,rfl,h⟩
  | _=>exact h.elim
noncomputable def Zt9 (a b:Option MO) (f:List D → List D → R3 D):R3 D:=match a,b with
 | some (.lst x),some (.lst y)=>f x y
 | _,_=>.bad
theorem ZpG {K:PySem.W.Frag} {H:Hp} {ι:List Addr} {Q:VK} {a b:Option MO} {f:List D → List D → R3 D} (h:Zae K H ι Q (Zt9 a b f)):∃ x y,a = some (.lst x) ∧ b = some (.lst y) ∧ Zae K H ι Q (f x y):=by
 cases a with
 | none=>exact h.elim
 | some a=>cases a with
  | lst x=>cases b with
   | none=>exact h.elim
   | some b=>cases b with
    | lst y=>exact ⟨x,y,rfl,rfl,h⟩
    | _=>exact h.elim
  | _=>exact h.elim
theorem Zgh {K:PySem.W.Frag} {H:Hp} {ι:List Addr} {Q:VK} {c:Prop} {_:Decidable c} {r:R3 D} (h:Zae K H ι Q (if c then r else .bad)):c ∧ Zae K H ι Q r:=by
 by_cases hc:c
 ·rw [if_pos hc] at h; exact ⟨hc,h⟩
 ·rw [if_neg hc] at h; exact h.elim
theorem Zke {K:PySem.W.Frag} {H:Hp} {ι:List Addr} {ds:List D} (r:Zac K H ι ds []):ds = []:=List.eq_nil_of_length_eq_zero r.length.symm
theorem Zab:OpR X (binaryOp .Add) (r2 X.K Zm):=OpR.imp (OpR.or ZrH (OpR.or Zly (OpR.or ZsW (OpR.or Zp8 Zoh)))) fun x y H Q zz1=>by
 obtain ⟨ι,M,a,b,S,ra,rb,h⟩:=zz1
 cases a with
 | int i=>cases b with
  | int j=>exact .inl ⟨i,j,ra.int_inv,rb.int_inv,Zae.ok h S Rep.int⟩
  | _=>exact h.elim
 | str x=>cases b with
  | str y=>
   obtain ⟨hz,h⟩:=Zgh h
   exact .inr (.inl ⟨_,_,ra.str_inv,rb.str_inv,Nat.le_trans hz ZbX,by rw [ZqV]; exact Zae.ok h S Rep.str⟩)
  | _=>exact h.elim
 | tup x=>cases b with
  | tup y=>
   obtain ⟨hz,h⟩:=Zgh h
   obtain ⟨p,vs,e,s,r⟩:=ra.tup_inv
   obtain ⟨q,ws,e',s',r'⟩:=rb.tup_inv
   by_cases hv:vs = []
   ·rw [hv] at r s
    rw [Zke r] at h
    exact .inr (.inr (.inr (.inr ⟨p,q,ws,e,e',s,s',Zae.ok h S (Rep.tup s' r')⟩)))
   ·refine .inr (.inr (.inr (.inl ⟨p,q,vs,ws,e,e',s,s',hv,by rw [r.length,r'.length]; exact Nat.le_trans hz ZbX,fun hw=>?_,fun hw p' hp=>?_⟩)))
    ·rw [hw] at r'
     rw [Zke r',List.append_nil] at h
     exact Zae.ok h S (Rep.tup s r)
    ·obtain ⟨x2,S2,r2⟩:=S.tupl hp (r.append r')
     exact h _ _ _ x2 S2 r2
  | _=>exact h.elim
 | ref n=>cases b with
  | ref m=>
   have h:Zae X.K H ι Q (Zt9 M[n]? M[m]? fun x y=>@ite _ (x.length + y.length ≤ SZ) (Classical.propDecidable _) (alloc (.lst (x ++ y)) M) .bad):=h
   obtain ⟨x,y,hn,hm,h⟩:=ZpG h
   obtain ⟨hz,h⟩:=Zgh h
   obtain ⟨p,hp,e⟩:=ra.ref_inv
   obtain ⟨q,hq,e'⟩:=rb.ref_inv
   obtain ⟨vs,e1,r1⟩:=S.obj n _ p hn hp
   obtain ⟨ws,e2,r2⟩:=S.obj m _ q hm hq
   refine .inr (.inr (.inl ⟨p,q,vs,ws,e,e',e1,e2,by rw [r1.length,r2.length]; exact Nat.le_trans hz ZbX,fun p' hp'=>?_⟩))
   obtain ⟨x2,S2,r3⟩:=S.lst hp' (r1.append r2)
   exact h _ _ _ x2 S2 r3
  | _=>exact h.elim
 | _=>cases b <;> exact h.elim
theorem ZkY:OpR X (binaryOp .Sub) (r2 X.K ZeU):=OpR.imp Zs7 fun x y H Q zz1=>by
 obtain ⟨ι,M,a,b,S,ra,rb,h⟩:=zz1
 cases a <;> cases b <;> first | exact h.elim | exact ⟨_,_,ra.int_inv,rb.int_inv,Zae.ok h S Rep.int⟩
theorem Zbq:OpR X (binaryOp .Mod) (r2 X.K Zaw):=OpR.imp Ztb fun x y H Q zz1=>by
 obtain ⟨ι,M,a,b,S,ra,rb,h⟩:=zz1
 cases a with
 | int i=>cases b with
  | int j=>
   simp only [Zkp] at h
   split at h
   ·rename_i hj
    exact ⟨i,j,ra.int_inv,rb.int_inv,hj,Zae.ok h S Rep.int⟩
   ·exact h.elim
  | _=>exact h.elim
 | _=>cases b <;> exact h.elim
theorem Zc0:OpR X (binaryOp .FloorDiv) (r2 X.K Za6):=OpR.imp Zp3 fun x y H Q zz1=>by
 obtain ⟨ι,M,a,b,S,ra,rb,h⟩:=zz1
 cases a with
 | int i=>cases b with
  | int j=>
   simp only [ZiP] at h
   split at h
   ·rename_i hj
    exact ⟨i,j,ra.int_inv,rb.int_inv,hj,Zae.ok h S Rep.int⟩
   ·exact h.elim
  | _=>exact h.elim
 | _=>cases b <;> exact h.elim
theorem Zuh:OpR X (binaryOp .Pow) (r2 X.K Zok):=OpR.imp ZsT fun x y H Q zz1=>by
 obtain ⟨ι,M,a,b,S,ra,rb,h⟩:=zz1
 cases a with
 | int i=>cases b with
  | int j=>
   simp only [ZoQ] at h
   split at h
   ·rename_i hj
    exact ⟨i,j,ra.int_inv,rb.int_inv,⟨hj.1,iN [] [_] 1 0xf42405b083e83b081 T1 hj.2.1,by have:=hj.2.2; omega⟩,Zae.ok h S Rep.int⟩
   ·exact h.elim
  | _=>exact h.elim
 | _=>cases b <;> exact h.elim
theorem ZfX:UnR X (unaryOp .USub) (r1 X.K ZcI):=UnR.imp Zst fun x H Q zz1=>by
 obtain ⟨ι,M,a,S,ra,h⟩:=zz1
 cases a with
 | int i=>exact ⟨i,ra.int_inv,Zae.ok h S Rep.int⟩
 | _=>exact h.elim
theorem Zqf:OpR X (compareOp .Lt) (r2 X.K Zgq):=OpR.imp Zus fun x y H Q zz1=>by
 obtain ⟨ι,M,a,b,S,ra,rb,h⟩:=zz1
 cases a <;> cases b <;> first | exact h.elim | exact ⟨_,_,ra.int_inv,rb.int_inv,Zae.ok h S Rep.bl⟩
theorem Zm0:OpR X (compareOp .Gt) (r2 X.K ZeL):=OpR.imp ZtW fun x y H Q zz1=>by
 obtain ⟨ι,M,a,b,S,ra,rb,h⟩:=zz1
 cases a <;> cases b <;> first | exact h.elim | exact ⟨_,_,ra.int_inv,rb.int_inv,Zae.ok h S Rep.bl⟩
theorem ZvT:OpR X (compareOp .GtE) (r2 X.K Zo2):=OpR.imp ZtB fun x y H Q zz1=>by
 obtain ⟨ι,M,a,b,S,ra,rb,h⟩:=zz1
 cases a <;> cases b <;> first | exact h.elim | exact ⟨_,_,ra.int_inv,rb.int_inv,Zae.ok h S Rep.bl⟩
theorem Zvt:OpR X (compareOp .Is) (r2 X.K Zsz):=OpR.imp ZsV fun x y H Q zz1=>by
 obtain ⟨ι,M,a,b,S,ra,rb,h⟩:=zz1
 cases b with
 | non=>exact ⟨rb.non_inv,by rw [ra.non_iff]; exact Zae.ok h S Rep.bl⟩
 | _=>exact h.elim
end
theorem units_in1 (A:Around):A.in1.units = A.units + 1:=rfl
section
variable {X:Cx} {pins:List (Addr × Obj)} {σ:St} {H:Hp} {s:Shared} {ι:List Addr}
theorem ZjV {e:Nat → Bool}:∀ {x y:List D},x.length = y.length → (∀ (j:Nat) a b,x[j]? = some a → y[j]? = some b → e j = deq a b) → (List.range x.length).all e = ZdN x y:=by
 intro x
 induction x generalizing e with
 | nil=>intro y h _; cases y with | nil=>rfl | cons _ _=>simp at h
 | cons a x ih=>
  intro y h he
  cases y with
  | nil=>simp at h
  | cons b y=>
   rw [List.length_cons,List.range_succ_eq_map,List.all_cons,List.all_map,he 0 a b rfl rfl]
   rw [Zlt]
   congr 1
   exact ih (e:=e ∘ Nat.succ) (by simpa using h) fun j a' b' h1 h2=>he (j + 1) a' b' (by simpa using h1) (by simpa using h2)
theorem Zki:∀ {x y:List D},ZdN x y = true → x.length = y.length
 | [],[],_=>rfl
 | [],_ :: _,h=>ft h
 | _ :: _,[],h=>ft h
 | a :: x,b :: y,h=>congrArg Nat.succ (Zki (Bool.and_eq_true_iff.mp (h:(deq a b && ZdN x y) = true)).2)
theorem ZjU {d:D} (h:ZaX 0 d = true):Zbs d = true:=by cases d <;> first | exact rfl | exact h
theorem ZfH {n:Nat} {d:D} (h:ZaX (n + 1) d = true):Zbs d = true ∨ ∃ ds,d = .tup ds:=by
 cases d with
 | tup ds=>exact .inr ⟨ds,rfl⟩
 | scr _=>exact ft h
 | ref _=>exact ft h
 | _=>exact .inl rfl
theorem Zje {K:PySem.W.Frag} {a b:D} {v:V} (fa:Zbs a = true) (fb:Zbs b = true) (r:Rep K H ι a v) (q:Rep K H ι b v):deq a b = true:=by
 cases a with
 | non=>have e:=r.non_inv; cases b with
  | non=>rfl
  | bl _=>cases e.symm.trans q.bl_inv
  | int _=>cases e.symm.trans q.int_inv
  | str _=>cases e.symm.trans q.str_inv
  | _=>exact ft fb
 | bl x=>have e:=r.bl_inv; cases b with
  | non=>cases e.symm.trans q.non_inv
  | bl _=>exact beq_iff_eq.mpr (V.bl.inj (e.symm.trans q.bl_inv))
  | int _=>cases e.symm.trans q.int_inv
  | str _=>cases e.symm.trans q.str_inv
  | _=>exact ft fb
 | int x=>have e:=r.int_inv; cases b with
  | non=>cases e.symm.trans q.non_inv
  | bl _=>cases e.symm.trans q.bl_inv
  | int _=>exact beq_iff_eq.mpr (V.int.inj (e.symm.trans q.int_inv))
  | str _=>cases e.symm.trans q.str_inv
  | _=>exact ft fb
 | str x=>have e:=r.str_inv; cases b with
  | non=>cases e.symm.trans q.non_inv
  | bl _=>cases e.symm.trans q.bl_inv
  | int _=>cases e.symm.trans q.int_inv
  | str _=>exact ZhQ.symm.trans (decide_eq_true (e.symm.trans q.str_inv))
  | _=>exact ft fb
 | _=>exact ft fa
theorem Zkz {K:PySem.W.Frag} {a:D} {v:V} {p:Addr} (fa:Zbs a = true) (r:Rep K H ι a v) (e:v = .ref p):False:=by
 cases a with
 | non=>cases e.symm.trans r.non_inv
 | bl x=>cases e.symm.trans r.bl_inv
 | int x=>cases e.symm.trans r.int_inv
 | str x=>cases e.symm.trans r.str_inv
 | _=>exact ft fa
theorem Rep.fun1 (I:Inv X pins σ H s):∀ (n:Nat) (a b:D) (v:V),ZaX n a = true → ZaX n b = true → Rep X.K H ι a v → Rep X.K H ι b v → deq a b = true:=by
 intro n
 induction n with
 | zero=>intro a b v ha hb r q; exact Zje (ZjU ha) (ZjU hb) r q
 | succ n ih=>
  intro a b v ha hb r q
  rcases ZfH ha with fa | ⟨ds,ea⟩
  ·rcases ZfH hb with fb | ⟨es,eb⟩
   ·exact Zje fa fb r q
   ·rw [eb] at q
    obtain ⟨p,vs,e,_⟩:=q.tup_inv
    exact (Zkz fa r e).elim
  ·rw [ea] at r ha ⊢
   obtain ⟨p,vs,e,s1,r1⟩:=r.tup_inv
   rcases ZfH hb with fb | ⟨es,eb⟩
   ·exact (Zkz fb q e).elim
   ·rw [eb] at q hb ⊢
    obtain ⟨p',ws,e',s2,r2⟩:=q.tup_inv
    rw [← V.ref.inj (e.symm.trans e')] at s2
    rw [← I.tuple_inj s1 s2] at r2
    clear s1 s2 e e' q r eb ea
    rw [Zrf]
    revert ha hb r1 r2
    induction ds generalizing es vs with
    | nil=>
     intro _ r1 _ r2
     cases es with
     | nil=>rfl
     | cons _ _=>obtain ⟨_,_,e,_⟩:=r2.cons_inv; cases r1.nil_inv.symm.trans e
    | cons d ds ih2=>
     intro h1 r1 h2 r2
     obtain ⟨v,ws,e,q1,q2⟩:=r1.cons_inv
     cases es with
     | nil=>cases r2.nil_inv.symm.trans e
     | cons e' es=>
      obtain ⟨v',ws',z,q3,q4⟩:=r2.cons_inv
      obtain ⟨z1,z2⟩:=List.cons.inj (z.symm.trans e)
      rw [z1] at q3
      rw [z2] at q4
      have g1:=Bool.and_eq_true_iff.mp (h1:(ZaX n d && ds.all (ZaX n)) = true)
      have g2:=Bool.and_eq_true_iff.mp (h2:(ZaX n e' && es.all (ZaX n)) = true)
      rw [Zlt,ih d e' v g1.1 g2.1 q1 q3]
      exact ih2 ws es g1.2 q2 g2.2 q4
theorem Zi1 {K:PySem.W.Frag} {x:V} {u:Value} (r:Rep K H ι .non x) (e:RelV x u):u = .none:=by
 rw [r.non_inv] at e; cases e; rfl
theorem Zky {K:PySem.W.Frag} {b:Bool} {x:V} {u:Value} (r:Rep K H ι (.bl b) x) (e:RelV x u):u = .bool b:=by
 rw [r.bl_inv] at e; cases e; rfl
theorem Zhm {K:PySem.W.Frag} {i:Int} {x:V} {u:Value} (r:Rep K H ι (.int i) x) (e:RelV x u):∃ t,u = .int i t:=by
 rw [r.int_inv] at e; exact e
theorem Zho {K:PySem.W.Frag} {i:List Nat} {x:V} {u:Value} (r:Rep K H ι (.str i) x) (e:RelV x u):∃ t,u = .str ⟨i.toArray⟩ t:=by
 rw [r.str_inv] at e; exact e
inductive ZrI (X:Cx) (H:Hp) (ι:List Addr) (T:Addr → Array Value → Prop) (ds:List D) (x:V) (u:Value):Prop
 | mk (p:Addr) (vs:List V) (its:List Value):x = .ref p → u = .ref p → T p its.toArray → Zac X.K H ι ds vs → Vals vs its → ZrI X H ι T ds x u
theorem Zi5 (I:Inv X pins σ H s) {ds:List D} {x:V} {u:Value} (r:Rep X.K H ι (.tup ds) x) (e:RelV x u):ZrI X H ι s.heap.IsTuple ds x u:=by
 obtain ⟨p,vs,ex,s1,r1⟩:=r.tup_inv
 obtain ⟨its,rvs,ht,_⟩:=I.tuple s1
 rw [ex] at e
 exact ⟨p,vs,its,ex,e,ht,r1,rvs⟩
theorem ZjH {i k:List Nat}:decide (i = k) = ((⟨i.toArray⟩:Str) == ⟨k.toArray⟩):=by
 rw [← Bool.beq_eq_decide_eq,← ZhQ]
 by_cases h:(⟨i.toArray⟩:Str) = ⟨k.toArray⟩
 ·rw [h,beq_self_eq_true]; exact decide_eq_true rfl
 ·rw [beq_eq_false_iff_ne.mpr h]; exact decide_eq_false fun e=>h (V.str.inj e)
theorem ZqA {i k:List Nat}:deq (.str i) (.str k) = ((⟨i.toArray⟩:Str) == ⟨k.toArray⟩):=
 Eq.trans (show (i == k) = decide (i = k) from Bool.beq_eq_decide_eq i k) ZjH
theorem Zg5 (A:Around) (a b:D) (x y:V) (u v:Value) (ha:Zbs a = true) (hb:Zbs b = true) (ra:Rep X.K H ι a x) (rb:Rep X.K H ι b y) (ru:RelV x u) (rv:RelV y v):SeqAt.EqAt A s u v (deq a b):=by
 cases a with
 | non=>rw [Zi1 ra ru]; cases b with
  | non=>rw [Zi1 rb rv]; exact SeqAt.EqAt.same _
  | bl k=>rw [Zky rb rv]; exact SeqAt.EqAt.none_bool _
  | int k=>obtain ⟨t,e⟩:=Zhm rb rv; rw [e]; exact SeqAt.EqAt.none_int _ _
  | str k=>obtain ⟨t,e⟩:=Zho rb rv; rw [e]; exact SeqAt.EqAt.none_str _ _
  | _=>exact ft hb
 | bl i=>rw [Zky ra ru]; cases b with
  | non=>rw [Zi1 rb rv]; exact SeqAt.EqAt.bool_none _
  | bl k=>rw [Zky rb rv]; exact SeqAt.EqAt.bool_bool _ _
  | int k=>obtain ⟨t,e⟩:=Zhm rb rv; rw [e]; exact SeqAt.EqAt.bool_int _ _ _
  | str k=>obtain ⟨t,e⟩:=Zho rb rv; rw [e]; exact SeqAt.EqAt.bool_str _ _ _
  | _=>exact ft hb
 | int i=>obtain ⟨t0,e0⟩:=Zhm ra ru; rw [e0]; cases b with
  | non=>rw [Zi1 rb rv]; exact SeqAt.EqAt.int_none _ _
  | bl k=>rw [Zky rb rv]; exact SeqAt.EqAt.int_bool _ _ _
  | int k=>obtain ⟨t,e⟩:=Zhm rb rv; rw [e]; exact SeqAt.EqAt.int_int _ _ _ _
  | str k=>obtain ⟨t,e⟩:=Zho rb rv; rw [e]; exact SeqAt.EqAt.int_str _ _ _ _
  | _=>exact ft hb
 | str i=>obtain ⟨t0,e0⟩:=Zho ra ru; rw [e0]; cases b with
  | non=>rw [Zi1 rb rv]; exact SeqAt.EqAt.str_none _ _
  | bl k=>rw [Zky rb rv]; exact SeqAt.EqAt.str_bool _ _ _
  | int k=>obtain ⟨t,e⟩:=Zhm rb rv; rw [e]; exact SeqAt.EqAt.str_int _ _ _ _
  | str k=>obtain ⟨t,e⟩:=Zho rb rv; rw [e,ZqA]; exact SeqAt.EqAt.str_str _ _ _ _
  | _=>exact ft hb
 | _=>exact ft ha
noncomputable def dq2 (ds es:List D) (j:Nat):Bool:=match ds[j]?,es[j]? with | some a,some b=>deq a b | _,_=>false
theorem ZmD {ds es:List D} (hl:ds.length ≠ es.length):ZdN ds es = false:=by
 cases q:ZdN ds es with
 | false=>rfl
 | true=>exact absurd (Zki q) hl
theorem ZmL {ds es:List D} {n:Nat} (hn:n = ds.length) (hl:ds.length = es.length):(List.range n).all (dq2 ds es) = ZdN ds es:=by
 rw [hn]
 exact ZjV hl fun j a b h1 h2=>by unfold dq2; rw [h1,h2]
theorem Zmk {ds es:List D} {n m:Nat} (hn:n = ds.length) (hm:m = es.length):((List.range (min n m)).all (dq2 ds es) && n == m) = ZdN ds es:=by
 by_cases hl:ds.length = es.length
 ·have e:n = m:=hn.trans (hl.trans hm.symm)
  rw [← e,Nat.min_self,beq_self_eq_true,Bool.and_true]
  exact ZmL hn hl
 ·rw [ZmD hl,beq_eq_false_iff_ne.mpr fun e=>hl (hn.symm.trans (e.trans hm)),Bool.and_false]
theorem Zdb {ds:List D} {vs:List V} {its:List Value} (r:Zac X.K H ι ds vs) (v:Vals vs its):its.toArray.size = ds.length:=
 List.size_toArray.trans (v.length.symm.trans r.length)
theorem Zls {A:Around} {n:Nat} {ds es:List D} {vs ws:List V} {its its2:List Value}
  (ih:∀ (a b:D) (x y:V) (u v:Value),ZaX n a = true → ZaX n b = true → Rep X.K H ι a x → Rep X.K H ι b y → RelV x u → RelV y v → SeqAt.EqAt A s u v (deq a b))
  (p1:ds.all (ZaX n) = true) (p2:es.all (ZaX n) = true) (r1:Zac X.K H ι ds vs) (r2:Zac X.K H ι es ws) (v1:Vals vs its) (v2:Vals ws its2)
  (j:Nat) (h1:j < its.toArray.size) (h2:j < its2.toArray.size):SeqAt.EqAt A s its.toArray[j] its2.toArray[j] (dq2 ds es j):=by
 have k1:j < ds.length:=by rw [← Zdb r1 v1]; exact h1
 have k2:j < es.length:=by rw [← Zdb r2 v2]; exact h2
 have q1:=List.getElem?_eq_getElem k1
 have q2:=List.getElem?_eq_getElem k2
 obtain ⟨x,g1,z1⟩:=r1.get q1
 obtain ⟨y,g2,z2⟩:=r2.get q2
 obtain ⟨u,e1,l1⟩:=v1.get g1
 obtain ⟨v,e2,l2⟩:=v2.get g2
 unfold dq2
 rw [q1,q2]
 obtain ⟨_,e1⟩:=List.getElem?_eq_some_iff.mp e1
 obtain ⟨_,e2⟩:=List.getElem?_eq_some_iff.mp e2
 exact ih _ _ x y _ _ (List.all_eq_true.mp p1 _ (List.getElem_mem k1)) (List.all_eq_true.mp p2 _ (List.getElem_mem k2)) z1 z2 (e1 ▸ l1) (e2 ▸ l2)
theorem ZkZ (A:Around) (hu1:A.units < cLine) {a:D} {x:V} {u:Value} {p:Addr} {its:Array Value} {es:List D} (ha:Zbs a = true) (ra:Rep X.K H ι a x) (ru:RelV x u) (it:s.heap.IsTuple p its):SeqAt.EqAt A s u (.ref p) (deq a (.tup es)) ∧ SeqAt.EqAt A s (.ref p) u (deq (.tup es) a):=by
 cases a with
 | non=>rw [Zi1 ra ru]; exact ⟨SeqAt.EqAt.none_tuple it hu1,SeqAt.EqAt.tuple_none it hu1⟩
 | bl k=>rw [Zky ra ru]; exact ⟨SeqAt.EqAt.bool_tuple _ it hu1,SeqAt.EqAt.tuple_bool _ it hu1⟩
 | int k=>obtain ⟨t,e⟩:=Zhm ra ru; rw [e]; exact ⟨SeqAt.EqAt.int_tuple _ _ it hu1,SeqAt.EqAt.tuple_int _ _ it hu1⟩
 | str k=>obtain ⟨t,e⟩:=Zho ra ru; rw [e]; exact ⟨SeqAt.EqAt.str_tuple _ _ it hu1,SeqAt.EqAt.tuple_str _ _ it hu1⟩
 | _=>exact ft ha
theorem Zo1 (I:Inv X pins σ H s):∀ (n:Nat) (A:Around) (_:A.units + n + 1 < cLine) (a b:D) (x y:V) (u v:Value),ZaX n a = true → ZaX n b = true → Rep X.K H ι a x → Rep X.K H ι b y → RelV x u → RelV y v → SeqAt.EqAt A s u v (deq a b):=by
 intro n
 induction n with
 | zero=>
  intro A hu a b x y u v ha hb ra rb ru rv
  exact Zg5 A a b x y u v (ZjU ha) (ZjU hb) ra rb ru rv
 | succ n ih=>
  intro A hu a b x y u v ha hb ra rb ru rv
  have hu0:A.units + 0 + 1 < cLine:=lC 1 0x2ae0cc12aa1c0cc11 T1 hu
  have hu1:A.units < cLine:=lB 1 1104257534993 T1 hu0
  rcases ZfH ha with fa | ⟨ds,ea⟩
  ·rcases ZfH hb with fb | ⟨es,eb⟩
   ·exact Zg5 A a b x y u v fa fb ra rb ru rv
   ·rw [eb] at rb ⊢
    obtain ⟨p,vs,its,ex,eu,t,_⟩:=Zi5 I rb rv
    rw [eu]
    exact (ZkZ A hu1 fa ra ru t).1
  ·rw [ea] at ra ha ⊢
   obtain ⟨p,vs,its,ex,eu,t,r1,v1⟩:=Zi5 I ra ru
   rw [eu]
   rcases ZfH hb with fb | ⟨es,eb⟩
   ·exact (ZkZ A hu1 fb rb rv t).2
   ·rw [eb] at rb hb ⊢
    obtain ⟨q,ws,its2,ey,ev,t',r2,v2⟩:=Zi5 I rb rv
    rw [ev]
    by_cases hp:p = q
    ·rw [ey,← hp,← ex] at rb
     rw [Rep.fun1 I (n + 1) _ _ _ ha hb ra rb,hp]
     exact SeqAt.EqAt.same _
    ·refine SeqAt.EqAt.of_refs hp ?_
     rw [Zrf,← Zmk (Zdb r1 v1) (Zdb r2 v2)]
     exact SeqAt.RcAt.tuples t t' hu1 (Zls (ih A.in1 (by rw [units_in1]; exact lC 1 0x2a1a0ccc12aa1c0cc11 T1 hu)) ha hb r1 r2 v1 v2)
end
end L3
namespace L3
open PySem PySem.Spec PyProof.Rows L2
section
variable {X:Cx}
section
variable {pins:List (Addr × Obj)} {σ:St} {H:Hp} {s:Shared} {ι:List Addr}
theorem Zrc {M:Store} (I:Inv X pins σ H s) (S:Zaz X.K H ι M) {n:Nat} {ds:List D} {x:V} {u:Value} (h:M[n]? = some (.lst ds)) (r:Rep X.K H ι (.ref n) x) (e:RelV x u):ZrI X H ι s.heap.IsList ds x u:=by
 obtain ⟨p,hp1,ex⟩:=r.ref_inv
 obtain ⟨vs,e1,r1⟩:=S.obj n _ p h hp1
 obtain ⟨its,rvs,pl1,_⟩:=I.list (SqL.of e1)
 rw [ex] at e
 exact ⟨p,vs,its,ex,e,pl1.isList,r1,rvs⟩
inductive EqK (M:Store) (a b:D) (k:Bool):Prop
 | ref {n m:Nat} (ds es:List D):a = .ref n → b = .ref m → ZdN ds es = k → M[n]? = some (.lst ds) → M[m]? = some (.lst es) → ds.all (ZaX DEEP) = true ∧ es.all (ZaX DEEP) = true → EqK M a b k
 | int (i j:Int):a = .int i → b = .int j → decide (i = j) = k → EqK M a b k
 | str (i j:List Nat):a = .str i → b = .str j → decide (i = j) = k → EqK M a b k
 | bl (i j:Bool):a = .bl i → b = .bl j → decide (i = j) = k → EqK M a b k
 | tup {ds es:List D}:a = .tup ds → b = .tup es → ZdN ds es = k → ds.all (ZaX DEEP) = true ∧ es.all (ZaX DEEP) = true → EqK M a b k
theorem Zlj {α:Type} {c d:Bool} {a k:α} (h:(if c && d then some a else none) = some k):a = k ∧ c = true ∧ d = true:=by
 cases c with
 | false=>exact nsm h
 | true=>cases d with
  | false=>exact nsm h
  | true=>exact ⟨Option.some.inj h,rfl,rfl⟩
noncomputable def ZvY (a b:Option MO):Option Bool:=match a,b with
 | some (.lst x),some (.lst y)=>if x.all (ZaX DEEP) && y.all (ZaX DEEP) then some (ZdN x y) else none
 | _,_=>none
theorem Zqe {M:Store} {n m:Nat} {k:Bool} (h:ZvY M[n]? M[m]? = some k):EqK M (.ref n) (.ref m) k:=by
 cases e1:M[n]? with
 | none=>rw [e1] at h; exact nsm h
 | some o=>cases o with
  | lst x=>cases e2:M[m]? with
   | none=>rw [e1,e2] at h; exact nsm h
   | some o=>cases o with
    | lst y=>rw [e1,e2] at h; exact have w:=Zlj h; .ref x y rfl rfl w.1 e1 e2 w.2
    | _=>rw [e1,e2] at h; exact nsm h
  | _=>rw [e1] at h; exact nsm h
theorem eqK {M:Store} {a b:D} {k:Bool} (h:eqD a b M = some k):EqK M a b k:=by
 cases a with
 | ref n=>cases b with
  | ref m=>exact Zqe h
  | _=>exact nsm h
 | int i=>cases b with
  | int j=>exact .int i j rfl rfl (Option.some.inj h)
  | _=>exact nsm h
 | str i=>cases b with
  | str j=>exact .str i j rfl rfl (Option.some.inj h)
  | _=>exact nsm h
 | bl i=>cases b with
  | bl j=>exact .bl i j rfl rfl (Option.some.inj h)
  | _=>exact nsm h
 | tup ds=>cases b with
  | tup es=>exact have w:=Zlj h; .tup rfl rfl w.1 w.2
  | _=>exact nsm h
 | _=>cases b <;> exact nsm h
theorem ZmS {M:Store} {a b:D} {x y:V} {u v:Value} {k:Bool} (hu:X.A.units + 80 < cLine) (I:Inv X pins σ H s) (S:Zaz X.K H ι M)
  (ra:Rep X.K H ι a x) (rb:Rep X.K H ι b y) (ru:RelV x u) (rv:RelV y v) (h:eqD a b M = some k):SeqAt.RcAt X.A s u v k ∧ SeqAt.RcNeAt X.A s u v (!k):=by
 have hu1:X.A.units < cLine:=lB 1 17666545486865 T1 hu
 have hu2:X.A.in1.units + DEEP + 1 < cLine:=by rw [units_in1]; exact (show X.A.units + 1 + 60 + 1 < cLine from lB 1 0x1a3c2ba0ccc11502b0c11 T1 hu)
 rcases eqK h with ⟨ds,es,ea,eb,ek,e1,e2,p1,p2⟩ | ⟨i,j,ea,eb,ek⟩ | ⟨i,j,ea,eb,ek⟩ | ⟨i,j,ea,eb,ek⟩ | ⟨ea,eb,ek,p1,p2⟩
 ·rw [ea] at ra
  rw [eb] at rb
  rw [← ek]
  obtain ⟨p,vs,its,_,eu,t,r1,v1⟩:=Zrc I S e1 ra ru
  obtain ⟨q,ws,its2,_,ev,t',r2,v2⟩:=Zrc I S e2 rb rv
  rw [eu,ev]
  by_cases hl:ds.length = es.length
  ·rw [← ZmL (Zdb r1 v1) hl]
   have hz:=(Zdb r1 v1).trans (hl.trans (Zdb r2 v2).symm)
   have w:=Zls (Zo1 I DEEP X.A.in1 hu2) p1 p2 r1 r2 v1 v2
   exact ⟨SeqAt.RcAt.lists t t' hz hu1 w,SeqAt.RcNeAt.lists t t' hz hu1 w⟩
  ·rw [ZmD hl]
   have hz:(its.toArray.size != its2.toArray.size) = true:=bne_iff_ne.mpr fun e=>hl ((Zdb r1 v1).symm.trans (e.trans (Zdb r2 v2)))
   exact ⟨SeqAt.RcAt.lists_lengths t t' hz hu1,SeqAt.RcNeAt.lists_lengths t t' hz hu1⟩
 ·rw [ea] at ra
  rw [eb] at rb
  obtain ⟨t,e⟩:=Zhm ra ru
  obtain ⟨t',e'⟩:=Zhm rb rv
  rw [e,e',← ek,← Bool.beq_eq_decide_eq]
  exact ⟨SeqAt.RcAt.int_int _ _ _ _,SeqAt.RcNeAt.int_int _ _ _ _⟩
 ·rw [ea] at ra
  rw [eb] at rb
  obtain ⟨t,e⟩:=Zho ra ru
  obtain ⟨t',e'⟩:=Zho rb rv
  rw [e,e',← ek,ZjH]
  exact ⟨SeqAt.RcAt.str_str _ _ _ _,SeqAt.RcNeAt.str_str _ _ _ _⟩
 ·rw [ea] at ra
  rw [eb] at rb
  rw [Zky ra ru,Zky rb rv,← ek,← Bool.beq_eq_decide_eq]
  exact ⟨SeqAt.RcAt.bool_bool _ _,SeqAt.RcNeAt.bool_bool _ _⟩
 ·rw [ea] at ra
  rw [eb] at rb
  obtain ⟨p,vs,its,_,eu,t,r1,v1⟩:=Zi5 I ra ru
  obtain ⟨q,ws,its2,_,ev,t',r2,v2⟩:=Zi5 I rb rv
  rw [eu,ev,← ek,← Zmk (Zdb r1 v1) (Zdb r2 v2)]
  have w:=Zls (Zo1 I DEEP X.A.in1 hu2) p1 p2 r1 r2 v1 v2
  exact ⟨SeqAt.RcAt.tuples t t' hu1 w,SeqAt.RcNeAt.tuples t t' hu1 w⟩
end
theorem Zc7 (hu:X.A.units + 80 < cLine):OpR X (compareOp .Eq) (r2 X.K Za7):=by
 intro pins s σ H x y v u Q I rx ry h
 obtain ⟨ι,M,a,b,S,ra,rb,h⟩:=h
 unfold Za7 at h
 cases q:eqD a b M with
 | none=>rw [q] at h; exact h.elim
 | some k=>
  rw [q] at h
  exact (ZmS hu I S ra rb rx ry q).1 X.prog X.w X.xe _ ⟨.bl k,H,I,rfl,Zae.ok h S Rep.bl⟩
theorem ZlP {K:PySem.W.Frag} {H:Hp} {ι:List Addr} {ds:List D} {vs:List V} {i:Int} {d:D} (r:Zac K H ι ds vs) (h:ZbT ds i = some d):∃ v,atI vs i = some v ∧ Rep K H ι d v:=by
 unfold ZbT at h
 unfold atI
 have e:ixN vs.length i = ixD ds.length i:=by rw [r.length]; rfl
 rw [e]
 cases q:ixD ds.length i with
 | none=>rw [q] at h; cases h
 | some j=>
  rw [q] at h
  exact r.get h
theorem Zz:IxR X (r2 X.K Zk):=IxR.imp Zte fun x y H Q zz1=>by
 obtain ⟨ι,M,a,b,S,ra,rb,h⟩:=zz1
 cases a with
 | tup ds=>cases b with
  | int i=>
   have h:Zae X.K H ι Q (onO (ZbT ds i) (fun d=>.ok d M)):=h
   obtain ⟨d,q,h⟩:=ZjF h
   obtain ⟨p,vs,e',s1,r1⟩:=ra.tup_inv
   obtain ⟨v,e,rv⟩:=ZlP r1 q
   exact .inr (.inl ⟨p,vs,i,v,e',rb.int_inv,s1,e,Zae.ok h S rv⟩)
  | _=>exact h.elim
 | scr ds=>cases b with
  | int i=>
   have h:Zae X.K H ι Q (onO (ZbT ds i) (fun d=>.ok d M)):=h
   obtain ⟨d,q,h⟩:=ZjF h
   obtain ⟨p,vs,e',s1,r1⟩:=ra.scr_inv
   obtain ⟨v,e,rv⟩:=ZlP r1 q
   exact .inl ⟨p,vs,i,v,e',rb.int_inv,s1.sq,e,Zae.ok h S rv⟩
  | _=>exact h.elim
 | str z=>cases b with
  | int i=>
   have h:Zae X.K H ι Q (onN (ZbT z i) (fun c=>@ite _ (z.length ≤ SZ) (Classical.propDecidable _) (.ok (.str [c]) M) .bad)):=h
   obtain ⟨c,q,h⟩:=Zqn h
   obtain ⟨hz,h⟩:=Zgh h
   exact .inr (.inr ⟨_,i,c,ra.str_inv,rb.int_inv,Nat.le_trans hz ZbX,q,Zae.ok h S Rep.str⟩)
  | _=>exact h.elim
 | ref n=>cases b with
  | int i=>
   have h:Zae X.K H ι Q (onL (M[n]?) (fun ds=>onO (ZbT ds i) fun d=>.ok d M)):=h
   obtain ⟨ds,hn,h⟩:=Zmb h
   obtain ⟨d,q,h⟩:=ZjF h
   obtain ⟨p,hp,e'⟩:=ra.ref_inv
   obtain ⟨vs,e1,r1⟩:=S.obj n _ p hn hp
   obtain ⟨v,e,rv⟩:=ZlP r1 q
   exact .inl ⟨p,vs,i,v,e',rb.int_inv,SqL.of e1,e,Zae.ok h S rv⟩
  | _=>exact h.elim
 | _=>cases b <;> exact h.elim
theorem Zli {K:PySem.W.Frag} {H:Hp} {ι:List Addr} {ds:List D} {vs:List V} (r:Zac K H ι ds vs) (lo hi:Option Int):Zac K H ι (cutD ds lo hi) (ZkP vs lo hi):=by
 have e:∀ n d o,HT.sIx n d o = sIx n d o:=fun n d o=>by cases o <;> rfl
 unfold cutD ZkP
 rw [e,e,r.length]
 exact (r.drop _).take _
end
end L3
namespace L3
open PySem PySem.Spec PyProof.Rows L2
noncomputable def Zb6 (cells:List (Str × Addr)):List (Str × NameKind) → List (Str × Addr) → List (Str × Addr)
 | [],cs=>cs
 | (n,k) :: r,cs=>Zb6 cells r (if k == .free then (n,(cells.lookup n).getD 0) :: cs else cs)
theorem ZgR {cells:List (Str × Addr)} {n:Str} {k:NameKind} {r:List (Str × NameKind)} {cs:List (Str × Addr)}:Zb6 cells ((n,k) :: r) cs = Zb6 cells r (if k == .free then (n,(cells.lookup n).getD 0) :: cs else cs):=rfl
theorem ZeH {scope:Scope} {env:Env} (h:∀ y ∈ scope.names,y.2 = .free → ∃ c,env.cells.lookup y.1 = some c):closureFor scope env = pure (Zb6 env.cells scope.names []):=by
 unfold closureFor
 have key:∀ (names:List (Str × NameKind)) (cs:List (Str × Addr)),(∀ y ∈ names,y.2 = .free → ∃ c,env.cells.lookup y.1 = some c) →
   (forIn names cs fun x r=>match x with | (name,kind)=>if (kind == NameKind.free) = true then do let c ← cellOf env name; pure (ForInStep.yield ((name,c) :: r)) else pure (ForInStep.yield r):Sem (List (Str × Addr))) = pure (Zb6 env.cells names cs):=by
  intro names
  induction names with
  | nil=>intro cs _; rfl
  | cons y r ih=>
   intro cs hy
   obtain ⟨n,k⟩:=y
   rw [List.forIn_cons]
   by_cases hk:k = .free
   ·subst hk
    obtain ⟨c,hc⟩:=hy (n,.free) List.mem_cons_self rfl
    have e1:cellOf env n = pure c:=by unfold cellOf; rw [hc]
    simp only [beq_self_eq_true,if_true,e1,pure_bind]
    rw [ih _ fun z hz=>hy z (List.mem_cons_of_mem _ hz)]
    rw [ZgR,hc]; rfl
   ·have hb:(k == NameKind.free) = false:=by simpa using hk
    simp only [hb,Bool.false_eq_true,if_false,pure_bind]
    rw [ih _ fun z hz=>hy z (List.mem_cons_of_mem _ hz)]
    rw [ZgR,hb]; rfl
 have:=key scope.names [] h
 first
  | exact this
  | (simp only [bind_pure]; exact this)
theorem Zm9 {cells:List (Str × Addr)} {x:Str} {c:Addr}:∀ (names:List (Str × NameKind)) (cs:List (Str × Addr)),(∀ y ∈ names,y.2 = .free → ∃ c,cells.lookup y.1 = some c) → (Zb6 cells names cs).lookup x = some c → cs.lookup x = some c ∨ cells.lookup x = some c:=by
 intro names
 induction names with
 | nil=>intro cs _ h; exact .inl h
 | cons y r ih=>
  intro cs hy h
  obtain ⟨n,k⟩:=y
  rw [ZgR] at h
  rcases ih _ (fun z hz=>hy z (List.mem_cons_of_mem _ hz)) h with q | q
  ·by_cases hk:k = .free
   ·subst hk
    obtain ⟨c0,hc⟩:=hy (n,.free) List.mem_cons_self rfl
    simp only [beq_self_eq_true,if_true,hc,Option.getD_some,List.lookup_cons] at q
    cases hx:x == n with
    | true=>
     simp only [hx] at q
     cases q
     have:x = n:=by simpa using hx
     subst this
     exact .inr hc
    | false=>simp only [hx] at q; exact .inl q
   ·have hb:(k == NameKind.free) = false:=by simpa using hk
    simp only [hb,Bool.false_eq_true,if_false] at q
    exact .inl q
  ·exact .inr q
theorem Zlq {cells:List (Str × Addr)} {x:Str}:∀ (names:List (Str × NameKind)) (cs:List (Str × Addr)),(cs.lookup x).isSome = true → ((Zb6 cells names cs).lookup x).isSome = true:=by
 intro names
 induction names with
 | nil=>intro cs h; exact h
 | cons y r ih=>
  intro cs h
  obtain ⟨n,k⟩:=y
  rw [ZgR]
  refine ih _ ?_
  split
  ·rw [List.lookup_cons]
   split
   ·rfl
   ·exact h
  ·exact h
theorem Zjf {cells:List (Str × Addr)} {x:Str}:∀ (names:List (Str × NameKind)) (cs:List (Str × Addr)),(x,NameKind.free) ∈ names → ((Zb6 cells names cs).lookup x).isSome = true:=by
 intro names
 induction names with
 | nil=>intro cs h; cases h
 | cons y r ih=>
  intro cs h
  obtain ⟨n,k⟩:=y
  rw [ZgR]
  rcases List.mem_cons.mp h with e | h
  ·cases e
   refine Zlq _ _ ?_
   simp
  ·exact ih _ h
noncomputable def Zbh (X:Cx) (scope:Scope) (N':List Str) (C:Addr) (cl:List (Str × Addr)) (s:Shared) (H:Hp) (ex:List Addr):Cx:=
 { X with N:=N',s₀:=s,H₀:=H,env:=compEnvC scope cl C X.env,outer:=X.stack,stack:=X.stack,ex:=ex,fn:=fun _=>false,pn:=[],xe:=fun _ _=>False }
noncomputable def Zpx (N N':List Str) (scope:Scope):Bool:=(List.range N.length).all fun i=>match N'[i]? with
 | some x=>(scope.names.lookup x).isNone || (decide (N[i]? = some x) && decide (scope.names.lookup x = some .free))
 | none=>false
def CTs (X:Cx) (ifs:List Expr) (ts:List E3):Prop:=∀ (pins:List (Addr × Obj)) (s:Shared) (σ:St) (H:Hp) (Q:Bool → Hp → Prop),Inv X pins σ H s →
 (∃ ι M env,Zaz X.K H ι M ∧ ZbF X.K H ι env σ ∧ match ZdQ ts env M with | .ok b M'=>∀ H' ι',Ext X.K H ι H' ι' → Zaz X.K H' ι' M' → Q b H' | _=>False) →
 wpAny (model X.prog X.w) X.A (forIn ifs true fun c r=>if r = true then do let ok ← isTrue c X.env (eval c X.env); pure (ForInStep.yield ok) else pure (ForInStep.yield r)) (TP X pins σ Q) X.xe s
theorem Zj0 {X:Cx}:CTs X [] []:=fun pins s σ H Q I ⟨ι,M,env,S,E,h⟩=>wpAny_tests_nil ⟨H,I,h H ι Ext.refl S⟩
section
variable {prog:Program} {w:World} {A:Around} {R:Result → Shared → Prop} {s:Shared}
theorem ZgB {elt target iter:Expr} {ifs:List Expr} {scope:Scope} {pos:Pos} {it acc:Value} {env:Env} (I:Nat → Shared → Prop)
  (turn:∀ n s,I n s → wpAny (model prog w) A (pyNext it) (fun r s₁=>match r with
   | none=>R (.ok .next) s₁
   | some v=>wpAny (model prog w) A (letOwnedTupleGo target it v) (fun _ s₁'=>wpAny (model prog w) A (assign target env v) (fun _ s₂=>
     wpAny (model prog w) A (forIn ifs true fun c r=>if r = true then do let ok ← isTrue c env (eval c env); pure (ForInStep.yield ok) else pure (ForInStep.yield r)) (fun ok s₃=>
      if ok = true then wpAny (model prog w) A (eval elt env) (fun x s₄=>
       wpAny (model prog w) A (call (.builtin "list.append") [acc,x]) (fun _ s₅=>∃ m,m < n ∧ I m s₅) (fun _ _=>False) s₄) (fun _ _=>False) s₃
      else ∃ m,m < n ∧ I m s₃) (fun _ _=>False) s₂) (fun _ _=>False) s₁') (fun _ _=>False) s₁) (fun _ _=>False) s)
  (n:Nat) (h:I n s):codeAny (model prog w) A (.compLoop (.ListComp elt [⟨target,iter,ifs,0⟩] scope pos) 0 it acc env) R s:=by
 refine codeAny_loop rfl I (fun n s hI=>?_) n h
 show wpAny _ A ((compTurn (.ListComp elt [⟨target,iter,ifs,0⟩] scope pos) 0 it acc env).onRaise (fun x=>do noteFrame x env; theTreesLotGoes x)) _ _ s
 refine wpAny_noted ?_
 rw [compTurn_list]
 refine wpAny_bind (wpAny_standAt (wpAny_bind (wpAny_mono (turn n s hI) (fun r s₁ h₁=>?_) fun _ _ h'=>False.elim h')))
 cases r with
 | none=>exact wpAny_pure h₁
 | some v=>
  refine wpAny_bind (wpAny_mono h₁ (fun _ s₁' h₁'=>?_) fun _ _ h'=>False.elim h')
  refine wpAny_bind (wpAny_mono h₁' (fun _ s₂ h₂=>wpAny_bind (wpAny_mono h₂ (fun ok s₃ h₃=>?_) fun _ _ h'=>False.elim h')) fun _ _ h'=>False.elim h')
  cases ok with
  | false=>exact wpAny_pure ⟨rfl,h₃⟩
  | true=>
   exact wpAny_bind (wpAny_bind (wpAny_mono h₃ (fun x s₄ h₄=>wpAny_bind (wpAny_mono h₄ (fun _ s₅ h₅=>wpAny_pure (wpAny_pure ⟨rfl,h₅⟩)) fun _ _ h'=>False.elim h')) fun _ _ h'=>False.elim h'))
end
theorem Zeb {env:Env} {x:Str} {k:NameKind}:∀ {names:List (Str × NameKind)},(names.map fun (n,k)=>if (k == NameKind.free && env.scope.kind == .function && env.kindOf n == some .cell) then (n,NameKind.cell) else (n,k)).lookup x = some k →
  ∃ k0,names.lookup x = some k0 ∧ (k0 = k ∨ (k0 = .free ∧ k = .cell)):=by
 intro names
 induction names with
 | nil=>intro h; simp at h
 | cons y r ih=>
  intro h
  obtain ⟨n,k1⟩:=y
  rw [List.map_cons] at h
  cases hx:x == n with
  | true=>
   refine ⟨k1,by simp [List.lookup_cons,hx],?_⟩
   by_cases hc:(k1 == NameKind.free && env.scope.kind == .function && env.kindOf n == some .cell) = true
   ·simp only [if_pos hc,List.lookup_cons,hx] at h
    cases h
    simp only [Bool.and_eq_true,beq_iff_eq] at hc
    exact .inr ⟨hc.1.1,rfl⟩
   ·simp only [if_neg hc,List.lookup_cons,hx] at h
    cases h
    exact .inl rfl
  | false=>
   have h':(r.map fun (n,k)=>if (k == NameKind.free && env.scope.kind == .function && env.kindOf n == some .cell) then (n,NameKind.cell) else (n,k)).lookup x = some k:=by
    by_cases hc:(k1 == NameKind.free && env.scope.kind == .function && env.kindOf n == some .cell) = true
    ·simp only [if_pos hc,List.lookup_cons,hx] at h; exact h
    ·simp only [if_neg hc,List.lookup_cons,hx] at h; exact h
   obtain ⟨k0,e,q⟩:=ih h'
   exact ⟨k0,by simp [List.lookup_cons,hx,e],q⟩
theorem Zjr {env:Env} {x:Str}:∀ {names:List (Str × NameKind)},names.lookup x = some .free →
  (names.map fun (n,k)=>if (k == NameKind.free && env.scope.kind == .function && env.kindOf n == some .cell) then (n,NameKind.cell) else (n,k)).lookup x = some .free ∨
  (names.map fun (n,k)=>if (k == NameKind.free && env.scope.kind == .function && env.kindOf n == some .cell) then (n,NameKind.cell) else (n,k)).lookup x = some .cell:=by
 intro names
 induction names with
 | nil=>intro h; simp at h
 | cons y r ih=>
  intro h
  obtain ⟨n,k1⟩:=y
  rw [List.map_cons]
  cases hx:x == n with
  | true=>
   simp only [List.lookup_cons,hx] at h
   cases h
   by_cases hc:(NameKind.free == NameKind.free && env.scope.kind == .function && env.kindOf n == some .cell) = true
   ·simp only [if_pos hc,List.lookup_cons,hx]; exact .inr trivial
   ·simp only [if_neg hc,List.lookup_cons,hx]; exact .inl trivial
  | false=>
   simp only [List.lookup_cons,hx] at h
   by_cases hc:(k1 == NameKind.free && env.scope.kind == .function && env.kindOf n == some .cell) = true
   ·simp only [if_pos hc,List.lookup_cons,hx]; exact ih h
   ·simp only [if_neg hc,List.lookup_cons,hx]; exact ih h
section
variable {X:Cx} {pins:List (Addr × Obj)} {σ:St} {H:Hp} {s:Shared} {scope:Scope} {N':List Str} {own:Nat} {fp:List Addr}
theorem ZkJ (I:Inv X pins σ H s) (hk:scope.kind = .function) (hcell:∀ y ∈ scope.names,y.2 ≠ .cell) (hfree:∀ y ∈ scope.names,y.2 = .free → X.env.kindOf y.1 = some .cell ∨ X.env.kindOf y.1 = some .free)
  (hN:N'.length = X.N.length + own) (hv:Zpx X.N N' scope = true) (hfp:∀ b ∈ fp,ZeC X pins H b) (hlt:∀ b ∈ fp,b < s.heap.objs.size) {h1:Heap} {tk:Nat}
  (hns:h1.Ns s.heap.objs.size fun _=>none) (keep:∀ b o,s.heap.get? b = some o → h1.get? b = some o):
  Inv (Zbh X scope N' s.heap.objs.size (Zb6 X.env.cells scope.names []) s H fp) [] (σ ++ List.replicate own none) H { s with heap:=h1,toks:=tk }:=by
 have hc0:∀ y ∈ scope.names,y.2 = .free → ∃ c,X.env.cells.lookup y.1 = some c:=fun y hy e=>I.ok.has y.1 (hfree y hy e)
 have sub:∀ x c,(Zb6 X.env.cells scope.names []).lookup x = some c → X.env.cells.lookup x = some c:=fun x c h=>by
  rcases Zm9 scope.names [] hc0 h with q | q
  ·simp at q
  ·exact q
 have cellK:∀ {c:Addr} {v:Option Value},s.heap.IsCell c v → h1.IsCell c v:=fun ⟨o,ho,hd⟩=>⟨o,keep _ o ho,hd⟩
 refine ⟨⟨I.ok.mod,hk,I.ok.glob,I.ok.blt,Nat.le_refl _,fun x y c h1 h2=>I.ok.inj x y c (sub x c h1) (sub y c h2),fun x hx=>?_,fun x c h=>?_,I.ok.hd,I.ok.frames,.inl rfl,fun b hb=>⟨Nat.ne_of_lt (hlt b hb),fun x c h=>(hfp b hb).2.2.2.2.1 x c (sub x c h)⟩,
   I.bs,Nat.le_trans I.ok.bsz I.sz,fun b o e hb=>?_,fun b hb hz=>?_,I.stack,I.stkFree⟩,rfl,I.bare,Un.kept keep,⟨_,hns,fun i x v h1 h2 h3=>?_⟩,fun x c h=>?_,I.hok.fresh (Nat.le_refl _),fun x c h=>I.freeC x c (sub x c h),
  fun p hp=>absurd (show p ∈ ([]:List (Addr × Obj)) from hp) (by simp),I.hok.kept keep,?_⟩
 ·have hx':(relabel scope X.env).names.lookup x = some .cell ∨ (relabel scope X.env).names.lookup x = some .free:=hx
  have:scope.names.lookup x = some .free:=by
   rcases hx' with hx' | hx'
   ·obtain ⟨k0,e,q⟩:=Zeb (names:=scope.names) hx'
    rcases q with q | ⟨q,_⟩
    ·subst q; exact absurd rfl (hcell _ (PySem.mem_of_lookup e))
    ·rw [e,q]
   ·obtain ⟨k0,e,q⟩:=Zeb (names:=scope.names) hx'
    rcases q with q | ⟨_,q⟩
    ·rw [e,q]
    ·cases q
  exact Option.isSome_iff_exists.mp (Zjf scope.names [] (PySem.mem_of_lookup this))
 ·cases h
 ·obtain ⟨_,_,_,q,_⟩:=hfp b hb
  rcases q with q | q
  ·exact I.ok.noex b o e q
  ·exact absurd (Nat.lt_of_lt_of_le (Heap.lt_size e) (Nat.le_trans I.ok.bsz q)) (Nat.lt_irrefl _)
 ·have hz':b ∈ frs X.stack:=hz
  obtain ⟨_,q1,q2,_⟩:=hfp b hb
  rcases List.mem_cons.mp (I.stkSub b hz') with e | e
  ·exact q1 e
  ·exact q2 e
 ·have hi:i < σ.length:=by
   by_cases hi:i < σ.length
   ·exact hi
   ·rw [List.getElem?_append_right (Nat.le_of_not_lt hi),List.getElem?_replicate] at h2
    split at h2 <;> cases h2
  rw [List.getElem?_append_left hi] at h2
  have hiN:i < X.N.length:=by rw [← I.len]; exact hi
  have hN':N'[i]? = some x:=h1
  have vq:=List.all_eq_true.mp hv i (List.mem_range.mpr hiN)
  rw [hN'] at vq
  have h3':(relabel scope X.env).names.lookup x = some .local ∨ (relabel scope X.env).names.lookup x = some .cell ∨ (relabel scope X.env).names.lookup x = some .free:=h3
  have some_of:∃ k0,scope.names.lookup x = some k0:=by
   rcases h3' with q | q | q <;> (obtain ⟨k0,e,_⟩:=Zeb (names:=scope.names) q; exact ⟨k0,e⟩)
  obtain ⟨k0,ek⟩:=some_of
  simp only [ek,Option.isNone_some,Bool.false_or,Bool.and_eq_true,decide_eq_true_eq] at vq
  obtain ⟨vq1,vq2⟩:=vq
  cases vq2
  have hkind:=hfree (x,.free) (PySem.mem_of_lookup ek) rfl
  obtain ⟨m,hn,hl⟩:=I.loc
  have hVis:Vis X.env.scope x:=by
   rcases hkind with q | q
   ·exact .inr (.inl q)
   ·exact .inr (.inr q)
  obtain ⟨u,ru,lk⟩:=hl i x v vq1 h2 hVis
  refine ⟨u,ru,?_⟩
  rcases lk with ⟨kl,_⟩ | ⟨_,c,ec,ic⟩
  ·rcases hkind with q | q <;> (rw [q] at kl; cases kl)
  ·have hkk:(compEnvC scope (Zb6 X.env.cells scope.names []) s.heap.objs.size X.env).kindOf x = some .cell ∨ (compEnvC scope (Zb6 X.env.cells scope.names []) s.heap.objs.size X.env).kindOf x = some .free:=by
    rcases Zjr (env:=X.env) ek with q | q
    ·exact .inr q
    ·exact .inl q
   obtain ⟨c',ec'⟩:=Option.isSome_iff_exists.mp (Zjf (cells:=X.env.cells) scope.names [] (PySem.mem_of_lookup ek))
   have e2:=sub x c' ec'
   rw [ec] at e2
   cases e2
   exact .inr ⟨hkk,c,ec',cellK ic⟩
 ·obtain ⟨v,ic⟩:=I.cell x c (sub x c h)
  exact ⟨v,cellK ic⟩
 ·show (σ ++ List.replicate own none).length = N'.length
  rw [List.length_append,List.length_replicate,I.len,hN]
theorem ZbF.grow {K:PySem.W.Frag} {H:Hp} {ι:List Addr} {env:Zam} {σ:St} (E:ZbF K H ι env σ) (n:Nat):ZbF K H ι (env ++ List.replicate n none) (σ ++ List.replicate n none):=by
 refine ⟨by simp [E.1],fun i d h=>?_⟩
 by_cases hi:i < env.length
 ·rw [List.getElem?_append_left hi] at h
  obtain ⟨v,e,r⟩:=E.2 i d h
  exact ⟨v,by rw [List.getElem?_append_left (by rw [← E.1]; exact hi)]; exact e,r⟩
 ·rw [List.getElem?_append_right (Nat.le_of_not_lt hi),List.getElem?_replicate] at h
  split at h <;> cases h
end
section
structure Cb where
 Y:Cx
 fp:List Addr
 tn:Nat → Heap → Prop
 itd:It3
 H2:Hp
 ι2:List Addr
 Q:VK
 g:G3
 ts:List E3
 f:E3
 nM:Nat
 acc:Addr
inductive CbJ (P:Cb) (n:Nat) (s':Shared):Prop
 | mk (k:Nat) (σ5:St) (H5:Hp) (ι5:List Addr) (M5:Store) (env5:Zam) (I5:Inv P.Y [] σ5 H5 s') (st5:P.tn k s'.heap) (fr5:∀ b ∈ P.fp,H5 b = none) (hn:P.itd.items.length - k = n) (hk:k ≤ P.itd.items.length)
   (x5:Ext P.Y.K P.H2 P.ι2 H5 ι5) (S5:Zaz P.Y.K H5 ι5 M5) (E5:ZbF P.Y.K H5 ι5 env5 σ5) (hι:ι5[P.nM]? = some P.acc) (h5:Zae P.Y.K H5 ι5 P.Q (Zdd P.itd P.g P.ts P.f P.nM (P.itd.items.drop k) env5 M5))
def CbL (P:Cb) (n:Nat) (s':Shared):Prop:=∃ m,m < n ∧ CbJ P m s'
section
noncomputable local instance (priority:=100000) clP18a (p:Prop):Decidable p:=clP17 p
noncomputable def cbE (P:Cb) (k:Nat) (env:Zam) (e:D) (M2:Store):R3 D:=match M2[P.nM]? with
 | some (.lst x)=>if x.length < SZ then Zdd P.itd P.g P.ts P.f P.nM (P.itd.items.drop (k + 1)) env (M2.set P.nM (.lst (x ++ [e]))) else .bad
 | _=>.bad
noncomputable def cbB (P:Cb) (k:Nat) (env:Zam) (b:Bool) (M1:Store):R3 D:=if b then (P.f env M1).bind (cbE P k env) else Zdd P.itd P.g P.ts P.f P.nM (P.itd.items.drop (k + 1)) env M1
end
def cbF (P:Cb) (n:Nat) (xv:Value) (s:Shared):Prop:=wpAny (model P.Y.prog P.Y.w) P.Y.A (call (.builtin "list.append") [.ref P.acc,xv]) (fun _ s'=>CbL P n s') P.Y.xe s
def cbO (P:Cb) (elt:Expr) (n:Nat) (ok:Bool) (s:Shared):Prop:=if ok = true then wpAny (model P.Y.prog P.Y.w) P.Y.A (eval elt P.Y.env) (cbF P n) P.Y.xe s else CbL P n s
def cbS (P:Cb) (elt:Expr) (ifs:List Expr) (n:Nat) (s:Shared):Prop:=wpAny (model P.Y.prog P.Y.w) P.Y.A (forIn ifs true fun c r=>if r = true then do let ok ← isTrue c P.Y.env (eval c P.Y.env); pure (ForInStep.yield ok) else pure (ForInStep.yield r)) (cbO P elt n) P.Y.xe s
def cbA (P:Cb) (tg elt:Expr) (ifs:List Expr) (n:Nat) (u:Value) (s:Shared):Prop:=wpAny (model P.Y.prog P.Y.w) P.Y.A (assign tg P.Y.env u) (fun _=>cbS P elt ifs n) P.Y.xe s
def cbN (P:Cb) (tg elt:Expr) (ifs:List Expr) (it:Addr) (n:Nat) (F:Shared → Prop) (r:Option Value) (s:Shared):Prop:=match r with
 | none=>F s
 | some v=>wpAny (model P.Y.prog P.Y.w) P.Y.A (letOwnedTupleGo tg (.ref it) v) (fun _=>cbA P tg elt ifs n v) P.Y.xe s
variable {P:Cb} {tg elt:Expr} {ifs:List Expr} {J:It} {it:Addr} {k:Nat} {h7:Heap} {σ:St} {H H':Hp} {s:Shared} {ι:List Addr} {M M1:Store} {env:Zam}
theorem Zmg (T:Turn P.Y.prog P.Y.w P.Y.K tg J P.fp it P.tn) (st7:P.tn (k + 1) h7) (hlt:k < P.itd.items.length) (I':Inv P.Y ([] ++ Zfa P.fp h7) σ H s) (x:Ext P.Y.K P.H2 P.ι2 H ι) (S:Zaz P.Y.K H ι M) (E:ZbF P.Y.K H ι env σ) (hι:ι[P.nM]? = some P.acc)
  (h:Zae P.Y.K H ι P.Q (Zdd P.itd P.g P.ts P.f P.nM (P.itd.items.drop (k + 1)) env M)):CbL P (P.itd.items.length - k) s:=
 ⟨P.itd.items.length - (k + 1),lD 2 0x30113c2012a1c0c21 T1 (Nat.sub_add_cancel (lB 1 6991908881 T1 hlt)) (sbA _ _),⟨k + 1,σ,H,ι,M,env,I'.unpinned,T.keep _ _ _ st7 fun b hb o e=>(I'.pin (b,o) (List.mem_append_right _ (List.mem_append_right _ (Zdn hb e)))).1,fun b hb=>(T.obj _ _ st7 b hb).elim fun o e=>(I'.pin (b,o) (List.mem_append_right _ (List.mem_append_right _ (Zdn hb e.1)))).2.1,rfl,hlt,x,S,E,hι,h⟩⟩
theorem ZtE:cbB P k env true M = (P.f env M).bind (cbE P k env):=if_pos rfl
theorem ZuQ:cbB P k env false M = Zdd P.itd P.g P.ts P.f P.nM (P.itd.items.drop (k + 1)) env M:=if_neg (by decide)
theorem Zae.iff {K:PySem.W.Frag} {H:Hp} {ι:List Addr} {Q:VK} {c:Prop} {dc:Decidable c} {r:R3 D} (h:Zae K H ι Q (if c then r else .bad)):c ∧ Zae K H ι Q r:=by
 by_cases hc:c
 ·rw [if_pos hc] at h; exact ⟨hc,h⟩
 ·rw [if_neg hc] at h; exact h.elim
theorem Zr7 {xs:List D} {d:D} {v:V} {xv:Value} (T:Turn P.Y.prog P.Y.w P.Y.K tg J P.fp it P.tn) (st7:P.tn (k + 1) h7) (hlt:k < P.itd.items.length) (I':Inv P.Y ([] ++ Zfa P.fp h7) σ H s) (r:RelV v xv) (x:Ext P.Y.K P.H2 P.ι2 H ι) (S:Zaz P.Y.K H ι M) (E:ZbF P.Y.K H ι env σ) (rd:Rep P.Y.K H ι d v) (hι:ι[P.nM]? = some P.acc)
  (hm:M[P.nM]? = some (.lst xs)) (hz:xs.length < SZ) (h:Zae P.Y.K H ι P.Q (Zdd P.itd P.g P.ts P.f P.nM (P.itd.items.drop (k + 1)) env (M.set P.nM (.lst (xs ++ [d]))))):
  cbF P (P.itd.items.length - k) xv s:=by
 obtain ⟨vs,ev,rvs⟩:=S.obj _ _ _ hm hι
 obtain ⟨x11,S11⟩:=S.setl (.inr (.inl ⟨_,ev⟩)) hι (rvs.append (Zac.cons rd Zac.nil))
 refine thn (Q':=fun _ s'=>CbL P (P.itd.items.length - k) s') (Zg2 _ s σ H (.ref P.acc) [v] (.ref P.acc) [xv] (fun _ H'=>H' = upd H P.acc (.lst (vs ++ [v]))) I' rfl (.cons r .nil) ⟨_,vs,v,rfl,rfl,ev,by rw [rvs.length]; exact Nat.lt_of_lt_of_le hz ZbX,rfl⟩) fun _ s11 zz1=>?_
 obtain ⟨_,H11,I11,_,eH⟩:=zz1
 rw [eH] at I11
 exact Zmg T st7 hlt I11 (x.trans x11) S11 (E.mono x11) (x11.pre _ _ hι) (h.up x11)
theorem ZsO (T:Turn P.Y.prog P.Y.w P.Y.K tg J P.fp it P.tn) (helt:C3 P.Y elt P.f) (st7:P.tn (k + 1) h7) (hlt:k < P.itd.items.length) (I':Inv P.Y ([] ++ Zfa P.fp h7) σ H s) (x:Ext P.Y.K P.H2 P.ι2 H ι) (S:Zaz P.Y.K H ι M) (E:ZbF P.Y.K H ι env σ) (hι:ι[P.nM]? = some P.acc)
  (h:Zae P.Y.K H ι P.Q ((P.f env M).bind (cbE P k env))):
  wpAny (model P.Y.prog P.Y.w) P.Y.A (eval elt P.Y.env) (cbF P (P.itd.items.length - k)) P.Y.xe s:=by
 obtain ⟨d,M10,e10,h10⟩:=Zae.bind h
 refine thn (Q':=cbF P (P.itd.items.length - k)) (helt _ s σ H (fun v H'=>∃ ι10,Ext P.Y.K H ι H' ι10 ∧ Zaz P.Y.K H' ι10 M10 ∧ Rep P.Y.K H' ι10 d v) I' ⟨ι,M,env,S,E,by rw [e10]; exact fun v H' ι' x' S' r'=>⟨ι',x',S',r'⟩⟩) fun xv s10 zz1=>?_
 obtain ⟨v,H10,I10,r10,ι10,x10,S10,rd⟩:=zz1
 unfold cbE at h10
 cases hm:M10[P.nM]? with
 | none=>rw [hm] at h10; exact h10.elim
 | some o=>
  rw [hm] at h10
  cases o with
  | dct _=>exact h10.elim
  | fdct _=>exact h10.elim
  | ins _ _=>exact h10.elim
  | lst xs=>
   exact Zr7 T st7 hlt I10 r10 (x.trans x10) S10 (E.mono x10) rd (x10.pre _ _ hι) hm (Zae.iff h10).1 ((Zae.iff h10).2.up x10)
theorem Zsf (T:Turn P.Y.prog P.Y.w P.Y.K tg J P.fp it P.tn) (hts:CTs P.Y ifs P.ts) (helt:C3 P.Y elt P.f) (st7:P.tn (k + 1) h7) (hlt:k < P.itd.items.length) (I':Inv P.Y ([] ++ Zfa P.fp h7) σ H s) (x:Ext P.Y.K P.H2 P.ι2 H ι) (S:Zaz P.Y.K H ι M) (E:ZbF P.Y.K H ι env σ) (hι:ι[P.nM]? = some P.acc)
  (h:Zae P.Y.K H ι P.Q ((ZdQ P.ts env M).bind (cbB P k env))):
  cbS P elt ifs (P.itd.items.length - k) s:=by
 obtain ⟨b,M9,e9,h9⟩:=Zae.bind h
 refine thn (Q':=cbO P elt (P.itd.items.length - k)) (hts _ s σ H (fun b' H'=>b' = b ∧ ∃ ι9,Ext P.Y.K H ι H' ι9 ∧ Zaz P.Y.K H' ι9 M9) I' ⟨ι,M,env,S,E,by rw [e9]; exact fun H' ι' x' S'=>⟨rfl,ι',x',S'⟩⟩) fun b' s9 zz1=>?_
 obtain ⟨H9,I9,eb,ι9,x9,S9⟩:=zz1
 rw [← eb] at h9
 cases b' with
 | false=>exact Zmg T st7 hlt I9 (x.trans x9) S9 (E.mono x9) (x9.pre _ _ hι) (Zae.up x9 (ZuQ ▸ h9))
 | true=>exact ZsO T helt st7 hlt I9 (x.trans x9) S9 (E.mono x9) (x9.pre _ _ hι) (Zae.up x9 (ZtE ▸ h9))
theorem Zuq (T:Turn P.Y.prog P.Y.w P.Y.K tg J P.fp it P.tn) (hc:P.Y.calm = true) (hfp:∀ {H':Hp},(∀ b ∈ P.fp,H' b = none) → ∀ b ∈ P.fp,ZeC P.Y [] H' b) (hg:CG P.Y tg P.g) (hts:CTs P.Y ifs P.ts) (helt:C3 P.Y elt P.f) (hlt:k < P.itd.items.length)
  (I5:Inv P.Y [] σ H s) (st5:P.tn k s.heap) (fr5:∀ b ∈ P.fp,H b = none) (x:Ext P.Y.K P.H2 P.ι2 H ι) (S:Zaz P.Y.K H ι M) (E:ZbF P.Y.K H ι env σ) (hι:ι[P.nM]? = some P.acc) (ok:Zh7 P.Y.K P.H2 P.ι2 P.itd J)
  (h:Zae P.Y.K H ι P.Q (Zdd P.itd P.g P.ts P.f P.nM (P.itd.items[k] :: P.itd.items.drop (k + 1)) env M)) (F:Shared → Prop):
  wpAny (model P.Y.prog P.Y.w) P.Y.A (pyNext (.ref it)) (cbN P tg elt ifs it (P.itd.items.length - k) F) P.Y.xe s:=by
 obtain ⟨lk,h⟩:=Zae.iff h
 obtain ⟨go,yl⟩:=(ok k H ι M x S lk).1 _ (List.getElem?_eq_getElem hlt)
 cases eg:P.g P.itd.items[k] env with
 | none=>rw [eg] at h; exact h.elim
 | some env6=>
  rw [eg] at h
  refine thn (T.item P.Y rfl rfl rfl hc k [] s σ H P.Y.xe I5 (hfp fr5) st5 go) fun r s6 zz1=>?_
  obtain ⟨u,hr,h6⟩:=zz1
  rw [hr]
  refine thn (Q':=fun _=>cbA P tg elt ifs (P.itd.items.length - k) u) h6 fun _ s7 zz1=>?_
  obtain ⟨y,H7,I7,r7,y7,st7,fr7⟩:=zz1
  obtain ⟨e7,rx⟩:=yl y H7 y7
  rw [e7] at I7 fr7
  refine thn (Q':=fun _=>cbS P elt ifs (P.itd.items.length - k)) (hg _ s7 σ H y u (fun σ' H'=>H' = H ∧ ZbF P.Y.K H ι env6 σ') (I7.pinned (hfp fr7) (T.obj _ _ st7)) r7 ⟨ι,M,env,_,env6,S,E,rx,eg,fun σ' E'=>⟨rfl,E'⟩⟩) fun _ s8 zz1=>?_
  obtain ⟨σ8,H8,I8,e8,E8⟩:=zz1
  rw [e8] at I8
  exact Zsf T hts helt st7 hlt I8 x S E8 hι h
theorem ZqU {n:Nat} (T:Turn P.Y.prog P.Y.w P.Y.K tg J P.fp it P.tn) (hc:P.Y.calm = true) (hfp:∀ {H':Hp},(∀ b ∈ P.fp,H' b = none) → ∀ b ∈ P.fp,ZeC P.Y [] H' b)
  (I5:Inv P.Y [] σ H s) (st5:P.tn P.itd.items.length s.heap) (fr5:∀ b ∈ P.fp,H b = none) (x:Ext P.Y.K P.H2 P.ι2 H ι) (S:Zaz P.Y.K H ι M) (hι:ι[P.nM]? = some P.acc) (ok:Zh7 P.Y.K P.H2 P.ι2 P.itd J)
  (h:Zae P.Y.K H ι P.Q (Zdd P.itd P.g P.ts P.f P.nM [] env M)) {F:Shared → Prop} (hF:∀ s6,Inv P.Y [] σ H s6 → P.Q (.ref P.acc) H → F s6):
  wpAny (model P.Y.prog P.Y.w) P.Y.A (pyNext (.ref it)) (cbN P tg elt ifs it n F) P.Y.xe s:=by
 obtain ⟨lk,h⟩:=Zae.iff h
 refine thn (T.done P.Y rfl rfl rfl hc _ [] s σ H P.Y.xe I5 (hfp fr5) st5 ((ok _ H ι M x S lk).2 rfl)) fun r s6 zz1=>?_
 rw [zz1.1]
 exact hF s6 zz1.2 (h _ H ι Ext.refl S (Rep.ref hι))
end
section
variable {X:Cx} {elt tg iter:Expr} {ifs:List Expr} {scope:Scope} {pos:Pos} {i:I3} {own:Nat} {g:G3} {ts:List E3} {f:E3} {N':List Str}
structure Zf3 (X:Cx) (scope:Scope) (N':List Str) (own:Nat):Prop where
 kind:scope.kind = .function
 cell:∀ y ∈ scope.names,y.2 ≠ .cell
 free:∀ y ∈ scope.names,y.2 = .free → X.env.kindOf y.1 = some .cell ∨ X.env.kindOf y.1 = some .free
 names:∀ y ∈ scope.names,y.2 = .local → scope.names.lookup y.1 = some .local
 len:N'.length = X.N.length + own
 vis:Zpx X.N N' scope = true
theorem Zp7 {P:Cb} {J:It} {it:Addr} {s:Shared} {F:Shared → Prop} (T:Turn P.Y.prog P.Y.w P.Y.K tg J P.fp it P.tn) (hc:P.Y.calm = true) (hfp:∀ {H':Hp},(∀ b ∈ P.fp,H' b = none) → ∀ b ∈ P.fp,ZeC P.Y [] H' b)
  (hb:CG P.Y tg P.g ∧ CTs P.Y ifs P.ts ∧ C3 P.Y elt P.f) (ok:Zh7 P.Y.K P.H2 P.ι2 P.itd J) {n:Nat} (z:CbJ P n s)
  (fin:∀ σ H s',Inv P.Y [] σ H s' → P.Q (.ref P.acc) H → F s'):wpAny (model P.Y.prog P.Y.w) P.Y.A (pyNext (.ref it)) (cbN P tg elt ifs it n F) P.Y.xe s:=by
 obtain ⟨k,σ5,H5,ι5,M5,env5,I5,st5,fr5,hn,hk,x5,S5,E5,hι,h5⟩:=z
 by_cases hlt:k < P.itd.items.length
 ·rw [List.drop_eq_getElem_cons hlt] at h5
  exact hn ▸ Zuq T hc hfp hb.1 hb.2.1 hb.2.2 hlt I5 st5 fr5 x5 S5 E5 hι ok h5 _
 ·rw [Nat.le_antisymm hk (Nat.le_of_not_lt hlt)] at st5 h5
  rw [List.drop_length] at h5
  exact ZqU T hc hfp I5 st5 fr5 x5 S5 hι ok h5 fun s6 I6 q=>fin σ5 H5 s6 I6 q
theorem Zko {pins:List (Addr × Obj)} {σ:St} {s3:Shared} {H2 H3:Hp} {ι2 ι3:List Addr} {M3:Store} {nM:Nat} {D:Addr} {env:Zam} {it:Addr} {fp:List Addr} {tn:Nat → Heap → Prop} {J:It} {itd:It3} {Q:VK} {E:Value → Shared → Prop} (O:Zf3 X scope N' own) (hc:X.calm = true)
  (hb:∀ C cl s H ex,CG (Zbh X scope N' C cl s H ex) tg g ∧ CTs (Zbh X scope N' C cl s H ex) ifs ts ∧ C3 (Zbh X scope N' C cl s H ex) elt f)
  (T:Turn X.prog X.w X.K tg J fp it tn) (st3:tn 0 s3.heap) (hlt3:∀ b ∈ fp,b < s3.heap.objs.size) (I3:Inv X pins σ H3 s3) (hfp3:∀ b ∈ fp,ZeC X pins H3 b) (x3:Ext X.K H2 ι2 H3 ι3) (S3:Zaz X.K H3 ι3 M3) (E2:ZbF X.K H3 ι3 env σ) (ok:Zh7 X.K H2 ι2 itd J)
  (h:Zae X.K H3 ι3 Q (Zdd itd g ts f nM itd.items (env ++ List.replicate own none) M3)) (hι:ι3[nM]? = some D)
  (RR:Value → Addr → Result → Shared → Prop)
  (fin:∀ (acc C:Addr) (s':Shared) (m:Str → Option Value) (H':Hp),s'.heap.Ns C m → ZeC X pins H' C → Inv X pins σ H' s' → Q (.ref acc) H' → RR (.ref acc) C (.ok .next) s'):
  wpAny (model X.prog X.w) X.A (newFunctionEnv scope X.env.globals (Zb6 X.env.cells scope.names []) [] X.env.qual none .none (some X.env)) (fun cenv s₄=>
   codeAny (model X.prog X.w) X.A (.compStart (.ListComp elt [⟨tg,iter,ifs,0⟩] scope pos) 0 (.ref it) (.ref D) { cenv with scope:=relabel scope X.env }) (RR (.ref D) cenv.locals) s₄) E s3:=by
 refine wpAny_newFunctionEnv O.cell (by intro y hy; cases hy) (fun h4 hns hsb=>?_) O.kind
 have keep34:∀ b o,s3.heap.get? b = some o → h4.get? b = some o:=fun b o e=>hsb.extBut b o (Nat.ne_of_lt (Heap.lt_size e)) (Heap.get?_push_of_some _ e)
 have I4:=ZkJ (own:=own) (N':=N') (tk:=s3.toks + ([]:List (Str × Value)).length) I3 O.kind O.cell O.free O.len O.vis hfp3 hlt3 hns keep34
 have st4:tn 0 h4:=T.keep _ _ _ st3 fun b hb o e=>keep34 b o e
 have L:=ZgB (prog:=X.prog) (w:=X.w) (A:=X.A) (R:=RR (.ref D) s3.heap.objs.size) (scope:=scope) (pos:=pos) (iter:=iter) (elt:=elt) (target:=tg) (ifs:=ifs) (env:=compEnvC scope (Zb6 X.env.cells scope.names []) s3.heap.objs.size X.env) (CbJ ⟨Zbh X scope N' s3.heap.objs.size (Zb6 X.env.cells scope.names []) s3 H3 fp,fp,tn,itd,H2,ι2,Q,g,ts,f,nM,D⟩) (fun n s5 z=>Zp7 (P:=⟨Zbh X scope N' s3.heap.objs.size (Zb6 X.env.cells scope.names []) s3 H3 fp,fp,tn,itd,H2,ι2,Q,g,ts,f,nM,D⟩) T hc
  (fun hn b hb=>⟨hn b hb,Nat.ne_of_lt (hlt3 b hb),fun hz=>I4.ok.exfs b hb hz,.inl hb,fun x c hx=>(I4.ok.exf b hb).2 x c hx,fun p hp=>absurd (show p ∈ ([]:List (Addr × Obj)) from hp) (by simp)⟩)
  (hb _ _ _ _ _) ok z
  fun σ' H' s6 I6 q=>I6.loc.elim fun m6 hn6=>fin _ _ s6 m6 H' hn6.1 (I3.fpOk (Nat.le_refl _) I6.free) (I3.call' (ch:=fp) I6.os I6.base I6.hok I6.bare fun b hb=>⟨(hfp3 b hb).2.2.2.1,(hfp3 b hb).2.1,(hfp3 b hb).2.2.2.2.1,(hfp3 b hb).2.2.2.2.2⟩) q) _
  ⟨0,_,_,_,_,_,I4,st4,fun b hb=>(hfp3 b hb).1,rfl,Nat.zero_le _,x3,S3,E2.grow own,hι,h⟩
 exact codeAny_compStart_list L (T.self _ 0 _ _ _ st4 L)
theorem ZhY {pins:List (Addr × Obj)} {σ:St} {s2:Shared} {H2:Hp} {ι2:List Addr} {M2:Store} {env:Zam} {it:Addr} {fp:List Addr} {tn:Nat → Heap → Prop} {J:It} {itd:It3} {Q:VK} {E:Value → Shared → Prop} (O:Zf3 X scope N' own) (hc:X.calm = true)
  (hb:∀ C cl s H ex,CG (Zbh X scope N' C cl s H ex) tg g ∧ CTs (Zbh X scope N' C cl s H ex) ifs ts ∧ C3 (Zbh X scope N' C cl s H ex) elt f)
  (I2:Inv X pins σ H2 s2) (T:Turn X.prog X.w X.K tg J fp it tn) (st0:tn 0 s2.heap) (hfp:∀ b ∈ fp,ZeC X pins H2 b) (S2:Zaz X.K H2 ι2 M2) (E2:ZbF X.K H2 ι2 env σ) (ok:Zh7 X.K H2 ι2 itd J)
  (h:Zae X.K H2 ι2 Q (Zdd itd g ts f M2.length itd.items (env ++ List.replicate own none) (M2 ++ [.lst []])))
  (RR:Value → Addr → Result → Shared → Prop)
  (fin:∀ (acc C:Addr) (s':Shared) (m:Str → Option Value) (H':Hp),s'.heap.Ns C m → ZeC X pins H' C → Inv X pins σ H' s' → Q (.ref acc) H' → RR (.ref acc) C (.ok .next) s'):
  wpAny (model X.prog X.w) X.A (newList []) (fun acc s₃=>wpAny (model X.prog X.w) X.A (newFunctionEnv scope X.env.globals (Zb6 X.env.cells scope.names []) [] X.env.qual none .none (some X.env)) (fun cenv s₄=>
   codeAny (model X.prog X.w) X.A (.compStart (.ListComp elt [⟨tg,iter,ifs,0⟩] scope pos) 0 (.ref it) acc { cenv with scope:=relabel scope X.env }) (RR acc cenv.locals) s₄) E s₃) E s2:=by
 refine wpAny_newObj_type ?_
 have hD:H2 s2.heap.objs.size = none:=I2.hok.fresh (Nat.le_refl _)
 obtain ⟨x3,S3,r3⟩:=S2.lst hD (Zac.nil (K:=X.K) (H:=H2) (ι:=ι2))
 have I3:Inv X pins σ (upd H2 s2.heap.objs.size (.lst [])) { s2 with heap:=s2.heap.push { cls:=.type "list",data:=.seq ([]:List Value).toArray } }:=
  I2.laid (t':=s2.toks) (fun b u e=>Heap.get?_push_of_some _ e) (Nat.le_refl _) ⟨Nat.zero_le _,[],0,.nil,Heap.get?_push_size _ rfl⟩
 have keep23:∀ b o,s2.heap.get? b = some o → (s2.heap.push { cls:=.type "list",data:=.seq ([]:List Value).toArray }).get? b = some o:=fun b o e=>Heap.get?_push_of_some _ e
 generalize hs3:({ s2 with heap:=s2.heap.push { cls:=.type "list",data:=.seq ([]:List Value).toArray } }:Shared) = s3 at I3 ⊢
 have keep23:∀ b o,s2.heap.get? b = some o → s3.heap.get? b = some o:=by rw [← hs3]; exact keep23
 have lt2:∀ b ∈ fp,b < s2.heap.objs.size:=fun b hb=>(T.obj _ _ st0 b hb).elim fun o e=>Heap.lt_size e.1
 have hlt3:∀ b ∈ fp,b < s3.heap.objs.size:=fun b hb=>(T.obj _ _ st0 b hb).elim fun o e=>Heap.lt_size (keep23 b o e.1)
 exact Zko O hc hb (T:=T) (st3:=T.keep _ _ _ st0 fun b hb o e=>keep23 b o e) (hlt3:=hlt3) (I3:=I3) (hfp3:=fun b hb=>⟨(Zbw (Nat.ne_of_lt (lt2 b hb))).trans (hfp b hb).1,(hfp b hb).2⟩) (x3:=x3) (S3:=S3) (E2:=E2.mono x3) (ok:=ok) (h:=h.up x3) (hι:=by rw [← S2.len]; simp) RR fin
theorem ZvD (O:Zf3 X scope N' own) (hxe:X.xe = fun _ _=>False) (hc:X.calm = true) (hi:CI X tg iter i)
  (hb:∀ C cl s H ex,CG (Zbh X scope N' C cl s H ex) tg g ∧ CTs (Zbh X scope N' C cl s H ex) ifs ts ∧ C3 (Zbh X scope N' C cl s H ex) elt f)
  (hs:∀ x,foldedSetIterable iter X.env x = pure x:=by intro _; rfl):C3 X (.ListComp elt [⟨tg,iter,ifs,0⟩] scope pos) (eLC i own g ts f):=by
 intro pins s σ H Q I h
 obtain ⟨ι,M,env,S,E,h⟩:=h
 obtain ⟨itd,M1,e1,h⟩:=Zae.bind h
 have hc0:∀ y ∈ scope.names,y.2 = .free → ∃ c,X.env.cells.lookup y.1 = some c:=fun y hy e=>I.ok.has y.1 (O.free y hy e)
 rw [eval_ListComp]
 refine wpAny_comprehension_free (use:=none) rfl hs (ZeH hc0) O.kind O.names ?_
 refine thn (hi pins s σ H (fun J H'=>∃ ι',Ext X.K H ι H' ι' ∧ Zaz X.K H' ι' M1 ∧ Zh7 X.K H' ι' itd J) I ⟨ι,M,env,S,E,by rw [e1]; exact fun J H' ι' x S' o=>⟨ι',x,S',o⟩⟩) fun v s1 h1=>thn h1 fun itv s2 h2=>?_
 obtain ⟨it,fp,tn,J,H2,rfl,I2,T,st2,f2,ι2,x2,S2,ok⟩:=h2
 refine ZhY (own:=own) (g:=g) (ts:=ts) (f:=f) O hc hb I2 T st2 f2 S2 (E.mono x2) ok (h.up x2) (fun acc C=>compPost (model X.prog X.w) X.A X.xe none (EP X pins σ Q) acc C) ?_
 intro acc C s' m H' hn hf I' hq
 obtain ⟨f0,f1,f2',f3,f4,f5⟩:=hf
 exact ⟨m,hn,fun h' sb=>⟨.ref acc,H',I'.turned (t':=s'.toks) (fun b o hb e=>(sb.2 b hb).trans e) f0 f1 f3 f4 f5,rfl,hq⟩⟩
theorem Zn7 (j:Nat) {x:Str} {pos' spos:Pos} (O:Zf3 X scope N' own) (hxe:X.xe = fun _ _=>False) (hc:X.calm = true) (hN:X.N.Nodup) (hi:CI X tg iter i)
  (hb:∀ C cl s H ex,CG (Zbh X scope N' C cl s H ex) tg g ∧ CTs (Zbh X scope N' C cl s H ex) ifs ts ∧ C3 (Zbh X scope N' C cl s H ex) elt f)
  (hj:X.N[j]? = some x:=by rfl) (hx:Loc X.env.scope x:=by first | exact Or.inl rfl | exact Or.inr rfl)
  (hf:X.fn x = true ∨ X.env.scope.names.lookup x = some .local:=by first | exact .inl rfl | exact .inr rfl)
  (hsw:swapsWith (.ListComp elt [⟨tg,iter,ifs,0⟩] scope pos) (some (.Name x pos')) spos.line X.env = pure true:=by rfl)
  (hs:∀ x,foldedSetIterable iter X.env x = pure x:=by intro _; rfl):CS X (.Assign [.Name x pos'] (.ListComp elt [⟨tg,iter,ifs,0⟩] scope pos) spos) (Zaf j (eLC i own g ts f)):=by
 intro pins s σ H D I h
 obtain ⟨ι,M,env,S,E,h⟩:=h
 have h0:Zae X.K H ι (fun v H'=>D.nx (σ.set j (some v)) H') (eLC i own g ts f env M):=by
  unfold Zaf at h
  cases q:eLC i own g ts f env M with
  | ok d M1=>rw [q] at h; exact fun v H1 ι1 x1 S1 r1=>h _ H1 ι1 x1 S1 ((E.mono x1).set j r1)
  | exc _ _=>rw [q] at h; exact h.elim
  | bad=>rw [q] at h; exact h.elim
 obtain ⟨itd,M1,e1,h1⟩:=Zae.bind h0
 have hc0:∀ y ∈ scope.names,y.2 = .free → ∃ c,X.env.cells.lookup y.1 = some c:=fun y hy e=>I.ok.has y.1 (O.free y hy e)
 rw [exec_Assign_Name_used _ _ _ _ hsw]
 refine wpAny_bind (wpAny_standAt (wpAny_bind ?_))
 show wpAny _ X.A (do let _ ← comprehension (.ListComp elt [⟨tg,iter,ifs,0⟩] scope pos) scope X.env _ (newList []) false (eval iter X.env) (some (assign (.Name x pos') X.env))) _ _ s
 refine wpAny_bind (wpAny_mono (wpAny_comprehension_free (use:=some (assign (.Name x pos') X.env)) (Q:=fun _ s'=>SP X pins D .next s') rfl hs (ZeH hc0) O.kind O.names ?_) (fun _ s' hq=>wpAny_pure (wpAny_pure hq)) fun _ _ e=>e)
 refine thn (hi pins s σ H (fun J H'=>∃ ι',Ext X.K H ι H' ι' ∧ Zaz X.K H' ι' M1 ∧ Zh7 X.K H' ι' itd J) I ⟨ι,M,env,S,E,by rw [e1]; exact fun J H' ι' x S' o=>⟨ι',x,S',o⟩⟩) fun v s1 h1'=>thn h1' fun itv s2 h2=>?_
 obtain ⟨it,fp,tn,J,H2,rfl,I2,T,st2,f2,ι2,x2,S2,ok⟩:=h2
 refine ZhY (own:=own) (g:=g) (ts:=ts) (f:=f) O hc hb I2 T st2 f2 S2 (E.mono x2) ok (h1.up x2) (fun acc C=>compPost (model X.prog X.w) X.A X.xe (some (assign (.Name x pos') X.env)) (fun _ s'=>SP X pins D .next s') acc C) ?_
 intro acc C s' m H' hn hfC I' hq
 obtain ⟨f0,f1,f2',f3,f4,f5⟩:=hfC
 show wpAny _ X.A (assign (.Name x pos') X.env (.ref acc)) _ _ s'
 refine wpAny_assign_Name (ZiO I' hN hj hx (show RelV (.ref acc) (.ref acc) from rfl) (fun s'' I'' ⟨a,sb,ha⟩=>?_) hf)
 have hCa:C ≠ a:=by
  rcases ha with rfl | ha
  ·exact f1
  ·exact Ne.symm (f4 x a ha)
 exact ⟨m,hn.sameBut sb hCa,fun h' sb'=>⟨_,H',I''.turned (t':=s''.toks) (fun b o hb e=>(sb'.2 b hb).trans e) f0 f1 f3 f4 f5,hq⟩⟩
end
end L3
namespace L3
open PySem PySem.Spec PyProof.Rows L2
theorem Zdk {k:Nat} {A:Around} (r:ZdL k A):A.units + 80 < cLine:=by have:=r.un; exact lC 1 0x2502b0c12c82b110d0cc11 T1 this
noncomputable def Its (x:Str):It:=⟨fun i _=>i < x.cps.size,fun i H y H'=>H' = H ∧ ∃ c,x.cps[i]? = some c ∧ y = .str ⟨#[c]⟩,fun i _=>i = x.cps.size⟩
theorem Zpb {P:Program} {w:World} {K:PySem.W.Frag} {tg:Expr} {it:Addr} {x:Str} {t:Tok} {ty:String} (W:∀ A':Around,A'.handled = none → Walks P w A' it [it] [it] x.cps.size (SignAt x) (fun i h=>h.IsStrIter it ty x t i))
  (hs:∀ (A:Around) (i:Nat) (s:Shared) (Q:Value → Shared → Prop) (E:Value → Shared → Prop),s.heap.IsStrIter it ty x t i → Q (.ref it) s → wpAny (model P w) A (pyIter (.ref it)) Q E s)
  (hty:["enumerate","zip","dict_itemiterator","dict_reverseitemiterator","odict_iterator","itertools.zip_longest","itertools.pairwise"].contains ty = false):Turn P w K tg (Its x) [it] it (fun i h=>h.IsStrIter it ty x t i) where
 mem:=by simp
 obj:=fun i h st b hb=>by
  have e:b = it:=by simpa using hb
  subst e
  obtain ⟨o,e,c,d⟩:=st
  exact ⟨o,e,fun v z=>by rw [d] at z; cases z⟩
 keep:=fun i h h' st k=>let ⟨o,e,r⟩:=st; ⟨o,k it (by simp) o e,r⟩
 item:=by
  intro X hP hw hK hc i pins s σ H E I hf st hg
  subst hP hw hK
  obtain ⟨f0,f1,f2,f3,f4,f5⟩:=hf it (by simp)
  refine (W X.A (I.ok.hd hc)).item i s _ _ hg st fun v h' tk hv st' kk=>?_
  obtain ⟨c,u,hx,rfl⟩:=hv
  have I1:Inv X pins σ H { s with heap:=h',toks:=tk }:=I.turned (fun b o hb e=>kk b o (by simpa using hb) e) f0 f1 f3 f4 f5
  obtain ⟨o,e,cc,d⟩:=id st'
  exact ⟨_,rfl,ZmI (s:={ s with heap:=h',toks:=tk }) e cc d hty ⟨.str ⟨#[c]⟩,H,I1,⟨u,rfl⟩,⟨rfl,c,hx,rfl⟩,st',fun b hb=>(hf b hb).1⟩⟩
 done:=by
  intro X hP hw hK hc i pins s σ H E I hf st hg
  subst hP hw hK
  obtain ⟨f0,f1,f2,f3,f4,f5⟩:=hf it (by simp)
  have e:i = x.cps.size:=hg
  subst e
  exact (W X.A (I.ok.hd hc)).done s _ _ st fun h' tk kk=>⟨rfl,I.turned (fun b o hb e=>kk b o (by simpa using hb) e) f0 f1 f3 f4 f5⟩
 self:=hs
section
variable {X:Cx} {tg e o:Expr} {es:List Expr} {pos p apos cpos:Pos} {f:E3} {gl:EL3}
theorem Zs8 (h:C3 X e f):PI X tg e (fun σ H R=>tOf X.K f σ H fun x H1=>∃ z:Str,x = .str z ∧ z.length ≤ SZ ∧ ∀ J,(∀ ι,Zh7 X.K H1 ι ⟨z.cps.toList.map fun c=>.str [c],none⟩ J) → R J H1):=by
 intro pins s σ H R I hw
 refine thn (h pins s σ H _ I hw) fun v s1 zz1=>?_
 obtain ⟨x,H1,I1,r1,z,ex,hz,q⟩:=zz1
 subst ex
 obtain ⟨t,rfl⟩:=r1
 have key:∀ (ty:String) (o:Obj),(∀ A':Around,A'.handled = none → Walks X.prog X.w A' s1.heap.objs.size [s1.heap.objs.size] [s1.heap.objs.size] z.cps.size (SignAt z) (fun i h=>h.IsStrIter s1.heap.objs.size ty z t i)) →
   (∀ (A:Around) (i:Nat) (s:Shared) (Q:Value → Shared → Prop) (E:Value → Shared → Prop),s.heap.IsStrIter s1.heap.objs.size ty z t i → Q (.ref s1.heap.objs.size) s → wpAny (model X.prog X.w) A (pyIter (.ref s1.heap.objs.size)) Q E s) →
   ["enumerate","zip","dict_itemiterator","dict_reverseitemiterator","odict_iterator","itertools.zip_longest","itertools.pairwise"].contains ty = false → (s1.heap.push o).IsStrIter s1.heap.objs.size ty z t 0 →
   PIE X pins σ tg R (.ref s1.heap.objs.size) { s1 with heap:=s1.heap.push o }:=by
  intro ty o W hs hty st
  refine ⟨s1.heap.objs.size,[s1.heap.objs.size],_,_,H1,rfl,I1.kept (t':=s1.toks) fun b o e=>Heap.get?_push_of_some _ e,Zpb W hs hty,st,fun b hb=>?_,q _ fun ι=>?_⟩
  ·have e:b = s1.heap.objs.size:=by simpa using hb
   subst e
   exact I1.fpOk (Nat.le_refl _) (I1.hok.fresh (Nat.le_refl _))
  ·intro i H2 ι2 M2 x S _
   refine ⟨fun d hd=>?_,fun hl=>?_⟩
   ·rw [List.getElem?_map] at hd
    cases hq:z.cps.toList[i]? with
    | none=>rw [hq] at hd; cases hd
    | some c=>
     rw [hq] at hd
     have hd':D.str [c] = d:=by simpa using hd
     subst hd'
     have hi:i < z.cps.size:=by
      have:=(List.getElem?_eq_some_iff.mp hq).1
      simpa using this
     refine ⟨hi,fun y H3 hy=>⟨hy.1,?_⟩⟩
     obtain ⟨_,c',hc',rfl⟩:=hy
     have:c' = c:=by
      rw [← Array.getElem?_toList,hq] at hc'
      exact (Option.some.inj hc').symm
     subst this
     exact Rep.str
   ·show i = z.cps.size
    rw [hl]
    simp
 cases ha:z.cps.all (· < 128)
 ·exact wpAny_pyIter_wide ha (key "str_iterator" _ (fun A' hA=>Walks.strWide hA _ z t) (fun _ _ _ _ _ st h=>wpAny_pyIter_striter_wide st h) (by decide) ⟨_,Heap.get?_push_size _ rfl,rfl,rfl⟩)
 ·exact wpAny_pyIter_ascii ha (key "str_ascii_iterator" _ (fun A' hA=>Walks.strAscii hA _ z t) (fun _ _ _ _ _ st h=>wpAny_pyIter_striter_ascii st h) (by decide) ⟨_,Heap.get?_push_size _ rfl,rfl,rfl⟩)
theorem Ziu (h:C3 X e f):CI X tg e (ZfV f):=ZrE h (Zs8 h)
theorem ZlO {K:PySem.W.Frag} {T:String} {ty:D → Store → Bool} {m:D → List D → Store → R3 D} (hty:∀ H ι M a x,Zaz K H ι M → Rep K H ι a x → ty a M = true → tyV K T x H) (σ:St) (H:Hp) (Q:VK) (h:tOf K (ZaN ty m f gl) σ H Q):tBM K T (rM K m) (tOf K f) (tAf K gl) σ H Q:=by
 obtain ⟨ι,M,env,S,E,h⟩:=h
 obtain ⟨a,M1,e1,h⟩:=Zae.bind h
 refine ⟨ι,M,env,S,E,?_⟩
 rw [e1]
 intro v H1 ι1 x1 S1 r1
 by_cases ht:ty a M1 = true
 ·rw [if_pos ht] at h
  obtain ⟨ds,M2,e2,h⟩:=Zae.bind h
  refine ⟨hty _ _ _ _ _ S1 r1 ht,ι1,M1,env,S1,E.mono x1,?_⟩
  rw [e2]
  intro vs H2 ι2 x2 S2 r2
  exact ⟨ι2,M2,a,ds,S2,r1.mono x2,r2,(h.up x1).up x2⟩
 ·rw [if_neg ht] at h; exact h.elim
theorem Zju {K:PySem.W.Frag} (H:Hp) (ι:List Addr) (M:Store) (a:D) (x:V) (S:Zaz K H ι M) (r:Rep K H ι a x) (h:tyL a M = true):tyV K "list" x H:=by
 cases a with
 | ref n=>
  rw [Zhc] at h
  cases hn:M[n]? with
  | none=>rw [hn] at h; exact ft h
  | some o=>
   cases o with
   | dct _=>rw [hn] at h; exact ft h
   | fdct _=>rw [hn] at h; exact ft h
   | ins _ _=>rw [hn] at h; exact ft h
   | lst xs=>
    obtain ⟨p,hp,rfl⟩:=r.ref_inv
    obtain ⟨vs,e,_⟩:=S.obj n _ p hn hp
    exact .inl ⟨rfl,vs,SqL.of e⟩
 | _=>exact ft h
theorem _root_.L2.MtR.imp {id:String} {r r':V → List V → Hp → VK → Prop} (h:MtR X id r) (i:∀ x xs H Q,r' x xs H Q → r x xs H Q):MtR X id r':=fun pins s σ H x xs v us Q I rx rs q=>h pins s σ H x xs v us Q I rx rs (i x xs H Q q)
theorem Zos:MtR X "list.append" (rM X.K Zan):=MtR.imp (r:=Zmi) Zg2 fun x xs H Q zz1=>by
 obtain ⟨ι,M,a,ds,S,ra,rd,h⟩:=zz1
 cases a with
 | ref n=>
  cases ds with
  | nil=>exact h.elim
  | cons d ds=>
   cases ds with
   | cons _ _=>exact h.elim
   | nil=>
    simp only [Zf5] at h
    cases hn:M[n]? with
    | none=>simp only [hn] at h; exact h.elim
    | some o=>
     cases o with
     | dct _=>simp only [hn] at h; exact h.elim
     | fdct _=>simp only [hn] at h; exact h.elim
     | ins _ _=>simp only [hn] at h; exact h.elim
     | lst z=>
      simp only [hn] at h
      split at h
      ·rename_i hz
       obtain ⟨p,hp,rfl⟩:=ra.ref_inv
       obtain ⟨v,ws,rfl,r1,r2⟩:=rd.cons_inv
       have:=r2.nil_inv
       subst this
       obtain ⟨vs,e,rv⟩:=S.obj n _ p hn hp
       obtain ⟨x2,S2⟩:=S.setl (.inr (.inl ⟨_,e⟩)) hp (rv.append (Zac.cons r1 Zac.nil))
       exact ⟨p,vs,v,rfl,rfl,e,by rw [rv.length]; exact Nat.lt_of_lt_of_le hz ZbX,h _ _ _ x2 S2 Rep.non⟩
      ·exact h.elim
 | _=>exact h.elim
theorem Zau (ho:C3 X o f) (ha:CA X (e :: es) gl)
  (hbase:attributeBase o "append" X.env (eval o X.env) = eval o X.env:=by rfl)
  (hfew:((backTo cpos (starEach (e :: es) X.env)).all (fun x=>!x.1) && (backToKw cpos (keywordEach [] X.env)).all (fun x=>x.1.isSome)
   && decide ((e :: es).length + ([]:List Keyword).length + (if ([]:List Keyword).isEmpty then 0 else 1) < 30)) = true:=by rfl)
  (hline:(apos.endLine == cpos.line) = true:=by rfl) (hs:starEach (e :: es) X.env = (false,eval e X.env) :: starEach es X.env:=by rfl) (hplain:(backTo cpos (starEach es X.env)).any (·.1) = false:=by rfl):
  C3 X (.Call (.Attribute o "append" apos) (e :: es) [] cpos) (ZaN tyL Zan f gl):=
 (ZoC PySem.F.plainAttrs_list PySem.F.slot_list_append PySem.F.type_list_append Zos ho ha hbase hfew hline hs hplain).imp (ZlO Zju)
theorem Zt3:OpR X (compareOp .In) (r2 X.K fun a b M=>match a,b with | .str [c],.str y=>.ok (.bl (decide (c ∈ y))) M | _,_=>.bad):=OpR.imp ZmY fun x y H Q zz1=>by
 obtain ⟨ι,M,a,b,S,ra,rb,h⟩:=zz1
 cases a with
 | str z=>
  cases z with
  | nil=>cases b <;> exact h.elim
  | cons c z=>
   cases z with
   | cons _ _=>cases b <;> exact h.elim
   | nil=>
    cases b with
    | str y=>
     refine ⟨_,_,ra.str_inv,rb.str_inv,?_⟩
     have e:=StrLaws.found_one (⟨y.toArray⟩:Str) c
     rw [show (⟨[c].toArray⟩:Str) = ⟨#[c]⟩ from rfl,e]
     exact Zae.ok h S Rep.bl
    | _=>exact h.elim
 | _=>cases b <;> exact h.elim
end
end L3
namespace L3
open PySem PySem.Spec PyProof.Rows L2
section
variable {X:Cx}
theorem ZrN (hu:X.A.units + 80 < cLine):OpR X (compareOp .NotEq) (r2 X.K ZiF):=by
 intro pins s σ H x y v u Q I rx ry h
 obtain ⟨ι,M,a,b,S,ra,rb,h⟩:=h
 unfold ZiF at h
 cases q:eqD a b M with
 | none=>rw [q] at h; exact h.elim
 | some k=>
  rw [q] at h
  exact (ZmS hu I S ra rb rx ry q).2 X.prog X.w X.xe _ ⟨.bl (!k),H,I,rfl,Zae.ok h S Rep.bl⟩
theorem Zk0 {K:PySem.W.Frag} {H:Hp} {ι:List Addr} {d:D} {v:V} (r:Rep K H ι d v) (h:Zbs d = true):ZfY v = true:=by
 cases d with
 | non=>rw [r.non_inv]; rfl
 | bl b=>rw [r.bl_inv]; rfl
 | int i=>rw [r.int_inv]; rfl
 | str x=>rw [r.str_inv]; rfl
 | _=>exact ft h
theorem ZqR (x y:List Nat):((⟨x.toArray⟩:Str) == ⟨y.toArray⟩) = (x == y):=by
 rw [Bool.eq_iff_iff]
 simp
theorem ZpO {K:PySem.W.Frag} {H:Hp} {ι:List Addr} {d e:D} {v w:V} (r:Rep K H ι d v) (q:Rep K H ι e w) (h:Zbs d = true) (h':Zbs e = true):eqV v w = deq d e:=by
 cases d with
 | non=>rw [r.non_inv]; cases e with
  | non=>rw [q.non_inv]; rfl
  | bl _=>rw [q.bl_inv]; rfl
  | int _=>rw [q.int_inv]; rfl
  | str _=>rw [q.str_inv]; rfl
  | _=>exact ft h'
 | bl _=>rw [r.bl_inv]; cases e with
  | non=>rw [q.non_inv]; rfl
  | bl _=>rw [q.bl_inv]; rfl
  | int _=>rw [q.int_inv]; rfl
  | str _=>rw [q.str_inv]; rfl
  | _=>exact ft h'
 | int _=>rw [r.int_inv]; cases e with
  | non=>rw [q.non_inv]; rfl
  | bl _=>rw [q.bl_inv]; rfl
  | int _=>rw [q.int_inv]; rfl
  | str _=>rw [q.str_inv]; rfl
  | _=>exact ft h'
 | str _=>rw [r.str_inv]; cases e with
  | non=>rw [q.non_inv]; rfl
  | bl _=>rw [q.bl_inv]; rfl
  | int _=>rw [q.int_inv]; rfl
  | str _=>rw [q.str_inv]; exact ZqR _ _
  | _=>exact ft h'
 | _=>exact ft h
theorem ZmQ {K:PySem.W.Frag} {H:Hp} {ι:List Addr} {d:D} {v:V} (r:Rep K H ι d v) (h:Zbs d = true):∀ {ds:List D} {vs:List V},Zac K H ι ds vs → ds.all Zbs = true → vs.all ZfY = true ∧ inV v vs = ds.any fun y=>deq y d
 | [],_,q,_=>by rw [q.nil_inv]; exact ⟨rfl,rfl⟩
 | e :: ds,_,q,hd=>by
  obtain ⟨w,ws,rfl,r1,r2⟩:=q.cons_inv
  rw [List.all_cons,Bool.and_eq_true] at hd
  obtain ⟨h1,h2⟩:=ZmQ r h r2 hd.2
  refine ⟨by rw [List.all_cons,Zk0 r1 hd.1,h1]; rfl,?_⟩
  unfold inV at h2 ⊢
  rw [List.any_cons,List.any_cons,h2,ZpO r1 r hd.1 h]
inductive InK (a b:D) (k:Bool):Prop
 | tup (ys:List D):b = .tup ys → (ys.any fun y=>deq y a) = k → Zbs a = true → ys.all Zbs = true → InK a b k
 | str (c:Nat) (y:List Nat):a = .str [c] → b = .str y → decide (c ∈ y) = k → InK a b k
theorem inK {a b:D} {k:Bool} (h:inD a b = some k):InK a b k:=by
 cases b with
 | tup ys=>exact have w:=Zlj h; .tup ys rfl w.1 w.2.1 w.2.2
 | str y=>
  cases a with
  | str z=>cases z with
   | nil=>exact nsm h
   | cons c z=>cases z with
    | nil=>exact .str c y rfl rfl (Option.some.inj h)
    | cons _ _=>exact nsm h
  | _=>exact nsm h
 | _=>exact nsm h
theorem Zpz {K:PySem.W.Frag} {H:Hp} {ι:List Addr} {Q:VK} {a:D} {ys:List D} {x y:V} (n:Bool) (ra:Rep K H ι a x) (rb:Rep K H ι (.tup ys) y) (fa:Zbs a = true) (fs:ys.all Zbs = true) (q:Q (.bl (if n then !(ys.any fun y=>deq y a) else ys.any fun y=>deq y a)) H):rIn K n x y H Q:=by
 obtain ⟨p,vs,e,s,r⟩:=rb.tup_inv
 obtain ⟨h1,h2⟩:=ZmQ ra fa r fs
 exact ⟨p,vs,e,.inr s,Zk0 ra fa,h1,by rw [h2]; exact q⟩
theorem ZvC (hu:X.A.units + 80 < cLine):OpR X (compareOp .In) (r2 X.K Znb):=OpR.imp (OpR.or Zt3 ZnB) fun x y H Q zz1=>by
 obtain ⟨ι,M,a,b,S,ra,rb,h⟩:=zz1
 unfold Znb at h
 cases q:inD a b with
 | none=>rw [q] at h; exact h.elim
 | some k=>
  rw [q] at h
  rcases inK q with ⟨ys,eb,ek,fa,fs⟩ | ⟨c,z,ea,eb,ek⟩
  ·rw [eb] at rb
   rw [← ek] at h
   exact .inr (Zpz false ra rb fa fs (Zae.ok h S Rep.bl))
  ·rw [ea] at ra
   rw [eb] at rb
   rw [← ek] at h
   exact .inl ⟨ι,M,_,_,S,ra,rb,h⟩
theorem Zo0:OpR X (compareOp .NotIn) (r2 X.K fun a b M=>match a,b with | .str [c],.str y=>.ok (.bl (!decide (c ∈ y))) M | _,_=>.bad):=OpR.imp ZjI fun x y H Q zz1=>by
 obtain ⟨ι,M,a,b,S,ra,rb,h⟩:=zz1
 cases a with
 | str z=>
  cases z with
  | nil=>cases b <;> exact h.elim
  | cons c z=>
   cases z with
   | cons _ _=>cases b <;> exact h.elim
   | nil=>
    cases b with
    | str y=>
     refine ⟨_,_,ra.str_inv,rb.str_inv,?_⟩
     have e:=StrLaws.found_one (⟨y.toArray⟩:Str) c
     rw [show (⟨[c].toArray⟩:Str) = ⟨#[c]⟩ from rfl,e]
     exact Zae.ok h S Rep.bl
    | _=>exact h.elim
 | _=>cases b <;> exact h.elim
theorem Zmj (hu:X.A.units + 80 < cLine):OpR X (compareOp .NotIn) (r2 X.K Zer):=OpR.imp (OpR.or Zo0 ZjK) fun x y H Q zz1=>by
 obtain ⟨ι,M,a,b,S,ra,rb,h⟩:=zz1
 unfold Zer at h
 cases q:inD a b with
 | none=>rw [q] at h; exact h.elim
 | some k=>
  rw [q] at h
  rcases inK q with ⟨ys,eb,ek,fa,fs⟩ | ⟨c,z,ea,eb,ek⟩
  ·rw [eb] at rb
   rw [← ek] at h
   exact .inr (Zpz true ra rb fa fs (Zae.ok h S Rep.bl))
  ·rw [ea] at ra
   rw [eb] at rb
   rw [← ek] at h
   exact .inl ⟨ι,M,_,_,S,ra,rb,h⟩
theorem Zoj (x:List Nat) (n:Nat) (a:List Nat):(List.replicate n x.toArray).foldl (· ++ ·) a.toArray = (a ++ (List.replicate n x).flatten).toArray:=by
 induction n generalizing a with
 | zero=>simp
 | succ n ih=>
  rw [List.replicate_succ,List.foldl_cons,List.replicate_succ,List.flatten_cons]
  have:=ih (a ++ x)
  simp only [List.append_toArray] at this ⊢
  rw [this]
  simp
theorem Zso (x:List Nat) (k:Int):Txt.mul (⟨x.toArray⟩:Str) k = ⟨(List.replicate k.toNat x).flatten.toArray⟩:=by
 unfold Txt.mul
 split
 ·rename_i h
  have:k.toNat = 0:=Nat.le_antisymm (Nat.le_of_eq (Int.toNat_of_nonpos (iN [] [_] 1 235446417 T1 h))) (Nat.zero_le _)
  rw [this]; rfl
 ·split
  ·rename_i h1 h2
   simp only [Bool.or_eq_true,beq_iff_eq,Str.length,List.size_toArray] at h2
   rcases h2 with h2 | h2
   ·subst h2; simp
   ·have:x = []:=List.eq_nil_of_length_eq_zero h2
    subst this
    simp
  ·have:=Zoj x k.toNat []
   rw [List.nil_append] at this
   exact congrArg Str.mk this
theorem Zac.repl {K:PySem.W.Frag} {H:Hp} {ι:List Addr} {ds:List D} {vs:List V} (r:Zac K H ι ds vs):∀ k:Nat,Zac K H ι (List.replicate k ds).flatten (List.replicate k vs).flatten
 | 0=>Zac.nil
 | k + 1=>by rw [List.replicate_succ,List.replicate_succ,List.flatten_cons,List.flatten_cons]; exact r.append (Zac.repl r k)
theorem Zfi:OpR X (binaryOp .Mult) (r2 X.K ZbD):=by
 have hs:OpR X (binaryOp .Mult) (fun x y H Q=>∃ (z:List Nat) (k:Int),x = .str ⟨z.toArray⟩ ∧ y = .int k ∧ z.length * k.toNat ≤ 1000000 ∧ k < 1000000 ∧ -1000000 < k ∧ Q (.str ⟨(List.replicate k.toNat z).flatten.toArray⟩) H):=by
  intro pins s σ H x y v u Q I rx ry h
  obtain ⟨z,k,rfl,rfl,h1,h2,h3,q⟩:=h
  obtain ⟨t,rfl⟩:=rx
  obtain ⟨t',rfl⟩:=ry
  refine SB.mul ⟨?_,fun h4 h5=>?_,fun h4 h5=>?_⟩ fun t'' tk=>?_
  ·simp; omega
  ·simp only [Str.length,List.size_toArray]
   simp at h4 h5
   have hk:2 ≤ k:=by
    simp only [Str.length,List.size_toArray] at h5
    omega
   have e:(k.toNat:Int) = k:=Int.le_antisymm (Int.le_of_eq (Int.toNat_of_nonneg (iN [] [_] 1 3892452225 T1 hk))) ((Int.self_le_toNat _))
   have hm:(z.length:Int) * k ≤ 1000000:=by
    have h1':((z.length * k.toNat:Nat):Int) ≤ 1000000:=Int.ofNat_le.mpr h1
    rw [Int.natCast_mul,e] at h1'
    exact h1'
   have hd:(z.length:Int) ≤ 9223372036854775807 / k:=Int.le_ediv_of_mul_le (iN [] [_] 1 3909229441 T1 hk) (by omega)
   show ¬ ((z.length:Int) > (2 ^ 63 - 1) / k)
   have e3:((2:Int) ^ 63 - 1) = 9223372036854775807:=by decide
   rw [e3]
   exact fun z=>iN [_] [_] 2 6599352549521 T1 z hd
  ·unfold Builtin.Str.tooLong
   simp only [Str.length,List.size_toArray,decide_eq_false_iff_not]
   have hsz:(1000000:Nat) ≤ sizeLine:=ZbX
   exact fun z=>lB 3 0x6f42405b1010f42405b011011 T1 z hsz h1
  ·rw [Zso]
   exact ⟨.str _,H,I.tok _,⟨_,rfl⟩,q⟩
 refine OpR.imp (OpR.or Zsy (OpR.or hs Zrv)) fun x y H Q zz1=>?_
 obtain ⟨ι,M,a,b,S,ra,rb,h⟩:=zz1
 cases a with
 | int i=>cases b with
  | int j=>
   obtain ⟨hm,h⟩:=Zgh h
   refine .inl ⟨i,j,ra.int_inv,rb.int_inv,?_,Zae.ok h S Rep.int⟩
   simp only [Zia,Bool.or_eq_true,Bool.and_eq_true,decide_eq_true_eq] at hm
   exact hm
  | _=>exact h.elim
 | str z=>cases b with
  | int k=>
   obtain ⟨hz,h⟩:=Zgh h
   exact .inr (.inl ⟨z,k,ra.str_inv,rb.int_inv,hz.1,hz.2.1,hz.2.2,Zae.ok h S Rep.str⟩)
  | _=>exact h.elim
 | ref n=>cases b with
  | int k=>
   have h:Zae X.K H ι Q (onL M[n]? fun x=>@ite _ (x.length * k.toNat ≤ SZ ∧ k < 1000000 ∧ -1000000 < k) (Classical.propDecidable _) (alloc (.lst (List.replicate k.toNat x).flatten) M) .bad):=h
   obtain ⟨z,hn,h⟩:=Zmb h
   obtain ⟨hz,h⟩:=Zgh h
   obtain ⟨p,hp,e'⟩:=ra.ref_inv
   obtain ⟨vs,e,r⟩:=S.obj n _ p hn hp
   refine .inr (.inr ⟨p,k,vs,e',rb.int_inv,e,?_,?_,by rw [r.length]; exact Nat.le_trans hz.1 ZbX,fun q hq=>?_⟩)
   ·exact Int.le_trans (by decide) (Int.le_of_lt hz.2.2)
   ·exact Int.lt_of_lt_of_le hz.2.1 (by decide)
   obtain ⟨x2,S2,r2⟩:=S.lst hq (Zac.repl r k.toNat)
   exact h _ _ _ x2 S2 r2
  | _=>exact h.elim
 | _=>cases b <;> exact h.elim
theorem Zme (n d:Nat) (hd:d ≤ n) (o:Option Int):(match o with | none=>(d:Int) | some i=>max 0 (min (if i < 0 then i + (n:Int) else i) (n:Int))) = ((sIx n d o:Nat):Int):=by
 cases o with
 | none=>rfl
 | some v=>
  show max 0 (min (if v < 0 then v + (n:Int) else v) (n:Int)) = (((if v < 0 then (v + (n:Int)).toNat else min v.toNat n):Nat):Int)
  by_cases h:v < 0
  ·rw [if_pos h,if_pos h]; exact clC v n h
  ·rw [if_neg h,if_neg h]; exact clD v n h
theorem Zhr (lo hi:Option Int) (n:Nat):Builtin.Str.strSliceIndices lo hi 1 n = (List.range (sIx n n hi - sIx n 0 lo)).map (fun k=>sIx n 0 lo + k):=by
 have e1:=Zme n 0 (Nat.zero_le _) lo
 have e2:=Zme n n (Nat.le_refl _) hi
 have key:Builtin.Str.strSliceIndices lo hi 1 n = sliceRange ((sIx n 0 lo:Nat):Int) ((sIx n n hi:Nat):Int) 1:=by
  rw [← e1,← e2]
  simp only [Builtin.Str.strSliceIndices,show ((1:Int) > 0) = True from by simp,if_true]
  cases lo <;> cases hi <;> rfl
 rw [key]
 generalize sIx n 0 lo = a
 generalize sIx n n hi = b
 simp only [sliceRange,show ((1:Int) > 0) = True from by simp,if_true]
 by_cases hlt:(a:Int) < b
 ·have e3:(((b:Int) - a + 1 - 1) / 1).toNat = b - a:=by first | exact Nat.le_antisymm (iN [_,_,_,_] [_] 3 0x230038a112c001aa1808fcf001d81 T1 (Int.mul_ediv_self_le (by decide)) (sbA _ _) (Int.toNat_of_nonneg (iN [_,_] [_] 2 0xe8a001dcaa0818fcf91180891 T1 hlt (Int.lt_mul_ediv_self_add (by decide))))) (iN [_,_,_,_] [_] 3 0x230013c2128081a001dcaa1808fcf91 T1 (Int.lt_mul_ediv_self_add (by decide)) (Int.self_le_toNat _) (Nat.sub_add_cancel (iN [_,_] [] 1 4296542353 T1 hlt))) | (simp; done) | (simp; omega)
  simp only [hlt,if_true,e3]
  refine List.map_congr_left fun k _=>?_
  exact Nat.le_antisymm (iN [_,_,_] [] 1 0x21c002801d18c08a1 T1 (Int.toNat_of_nonneg (iN [_,_] [] 0 103109659880 T1))) (iN [_,_,_] [] 1 0x210c0281801d08c81 T1 (Int.self_le_toNat _))
 ·have:b - a = 0:=Nat.le_antisymm (Nat.le_of_eq (Nat.sub_eq_zero_of_le (iN [_,_] [] 1 270010577 T1 hlt))) (Nat.zero_le _)
  simp [hlt,this]
theorem ZjP (n d:Nat) (hd:d ≤ n) (o:Option Int):sIx n d o ≤ n:=by
 cases o with
 | none=>exact hd
 | some v=>simp only [sIx]; split <;> omega
theorem Zlp (z:List Nat) (lo hi:Option Int) (l u:Option (Int × Tok)) (hl:l.map (·.1) = lo) (hu:u.map (·.1) = hi):
  (if ((1:Int) == 1 && (slicePicked ⟨z.toArray⟩ l u none).length == (⟨z.toArray⟩:Str).length) = true then (⟨z.toArray⟩:Str) else ⟨((slicePicked ⟨z.toArray⟩ l u none).filterMap ((⟨z.toArray⟩:Str).cps[·]?)).toArray⟩) = ⟨(cutD z lo hi).toArray⟩:=by
 have e0:slicePicked ⟨z.toArray⟩ l u none = (List.range (sIx z.length z.length hi - sIx z.length 0 lo)).map (fun k=>sIx z.length 0 lo + k):=by
  unfold slicePicked
  rw [hl,hu]
  simp only [Str.length,List.size_toArray]
  exact Zhr lo hi z.length
 have hb:=ZjP z.length z.length (Nat.le_refl _) hi
 rw [e0]
 have pick:((List.range (sIx z.length z.length hi - sIx z.length 0 lo)).map (fun k=>sIx z.length 0 lo + k)).filterMap ((⟨z.toArray⟩:Str).cps[·]?) = cutD z lo hi:=by
  unfold cutD
  by_cases hab:sIx z.length 0 lo ≤ sIx z.length z.length hi
  ·have h:=StrLaws.picks z (sIx z.length z.length hi - sIx z.length 0 lo) (sIx z.length 0 lo) (lD 2 82120338080600065 T1 hb (Nat.sub_add_cancel hab))
   simpa using h
  ·have:sIx z.length z.length hi - sIx z.length 0 lo = 0:=Nat.le_antisymm (Nat.le_of_eq (Nat.sub_eq_zero_of_le (lB 1 1052737 T1 hab))) (Nat.zero_le _)
   rw [this]
   simp
 rw [pick]
 split
 ·rename_i hc
  simp only [List.length_map,List.length_range,Str.length,List.size_toArray,Bool.and_eq_true,beq_iff_eq] at hc
  have hc2:=hc.2
  have h0:sIx z.length 0 lo = 0 ∨ z.length = 0:=by omega
  have:cutD z lo hi = z:=by
   unfold cutD
   rcases h0 with h0 | h0
   ·rw [h0,List.drop_zero,List.take_of_length_le (by exact lD 3 0x3102001e3c2011031 T1 hc2 (sbA _ _) (Nat.sub_le _ _))]
   ·have:z = []:=List.eq_nil_of_length_eq_zero h0
    subst this
    simp
  rw [this]
 ·rfl
theorem ZsZ:SlR X (fun x lo hi H Q=>∃ z:List Nat,x = .str ⟨z.toArray⟩ ∧ z.length ≤ SZ ∧ Q (.str ⟨(cutD z lo hi).toArray⟩) H):=by
 intro pins s σ H x v vl vu lo hi sl Q I rx hs pl pu h
 obtain ⟨z,rfl,hz,q⟩:=h
 obtain ⟨t,rfl⟩:=rx
 have part:∀ {v:Value} {o:Option Int},IsPart v o → ∃ p:Option (Int × Tok),v = partValue p ∧ p.map (·.1) = o:=by
  intro v o h
  cases h with
  | none=>exact ⟨none,rfl,rfl⟩
  | int i t=>exact ⟨some (i,t),rfl,rfl⟩
 obtain ⟨l,rfl,hl⟩:=part pl
 obtain ⟨u,rfl,hu⟩:=part pu
 refine ⟨"str",_,PySem.F.slot_str_getitem.lookup,typeIs_str _ _ _,?_⟩
 refine wpAny_getItem_str_slice (l:=l) (u:=u) (st:=none) hs rfl ?_
 unfold sliceMade
 refine post_val_or_made (fun _=>?_) fun t' k=>?_
 ·show ((slicePicked ⟨z.toArray⟩ l u none).filterMap ((⟨z.toArray⟩:Str).cps[·]?)).toArray.size ≤ sizeLine
  rw [List.size_toArray]
  refine Nat.le_trans (List.length_filterMap_le _ _) ?_
  show (Builtin.Str.strSliceIndices (l.map (·.1)) (u.map (·.1)) 1 (⟨z.toArray⟩:Str).length).length ≤ sizeLine
  rw [Zhr]
  simp only [List.length_map,List.length_range,Str.length,List.size_toArray]
  have:=ZjP z.length z.length (Nat.le_refl _) (u.map (·.1))
  have:=ZbX
  omega
 ·have e:=Zlp z lo hi l u hl hu
  have e':(if (((none:Option (Int × Tok)).map (·.1)).getD 1 == 1 && (slicePicked ⟨z.toArray⟩ l u none).length == (⟨z.toArray⟩:Str).length) = true then (⟨z.toArray⟩:Str) else ⟨((slicePicked ⟨z.toArray⟩ l u none).filterMap ((⟨z.toArray⟩:Str).cps[·]?)).toArray⟩) = ⟨(cutD z lo hi).toArray⟩:=e
  rw [e']
  exact ⟨.str _,H,I.tok _,⟨_,rfl⟩,q⟩
theorem Zf6 {prog:Program} {w:World} {A:Around} {E:Value → Shared → Prop} {s:Shared} {t sl:Addr} {items:Array Value} {vl vu:Value} {lo hi:Option Int} {Q:Value → Shared → Prop} (ht:IsTup s.heap t items) (hs:s.heap.IsSliceOf sl vl vu .none) (pl:IsPart vl lo) (pu:IsPart vu hi)
  (hw:HT.sIx items.size 0 lo = 0 ∧ HT.sIx items.size items.size hi = items.size) (h:Q (.ref t) s):wpAny (model prog w) A (getItem (.ref t) (.ref sl)) Q E s:=by
 obtain ⟨os,hos,hcs,hds⟩:=id hs
 have hTs:s.TypeIs (.ref sl) "slice":=⟨os,hos,hcs⟩
 unfold getItem
 try with_reducible refine wpAny_holding ?_
 first | refine wpAny_bind (wpAny_pure ?_) | skip
 refine wpAny_bind (wpAny_sequenceKey ht.typeIs (by decide) ?_)
 refine wpAny_bind (wpAny_callSpecial?_slot (name:=Str.ofString "__getitem__") ht.typeIs PyProof.Rows.slot_tuple_getitem
  (wpAny_call_entry PyProof.Rows.slot_tuple_getitem ht.typeIs entry_tuple_getitem ?_ (args_tuple_getitem _ _)))
 show wpAny _ _ (Builtin.Tuple.tupleItemsOf (.ref t) >>= _) _ _ s
 refine wpAny_bind (tupleItemsOf_ ht ?_)
 refine wpAny_bind (wpAny_typeOf hTs ?_)
 rw [if_pos (by decide)]
 refine wpAny_bind (HT.sliceApplied_gen hs pl pu ?_)
 have hyes:(((HT.sIx items.size 0 lo:Nat):Int) == 0 && (1:Int) == 1 && (HT.sIx items.size items.size hi - HT.sIx items.size 0 lo) == items.size) = true:=by
  rw [hw.1,hw.2]; simp
 show wpAny _ _ (if (((HT.sIx items.size 0 lo:Nat):Int) == 0 && (1:Int) == 1 && (HT.sIx items.size items.size hi - HT.sIx items.size 0 lo) == items.size) = true then _ else _) _ _ s
 rw [if_pos hyes]
 unfold Builtin.Tuple.tupleIsExact
 refine wpAny_bind (wpAny_bind (wpAny_typeOf ht.typeIs (wpAny_pure ?_)))
 rw [if_pos (by decide)]
 exact wpAny_bind (wpAny_rule (wpAny_pure ⟨_,rfl,wpAny_pure h⟩))
theorem Zqd:SlR X (fun x lo hi H Q=>∃ a xs,x = .ref a ∧ SqT X.K H a xs ∧ (HT.sIx xs.length 0 lo = 0 ∧ HT.sIx xs.length xs.length hi = xs.length) ∧ Q (.ref a) H):=by
 intro pins s σ H x v vl vu lo hi sl Q I rx hs pl pu h
 obtain ⟨a,xs,rfl,hx,hw,q⟩:=h
 cases rx
 obtain ⟨its,r,ht,hz⟩:=I.tuple hx
 have hlen:its.toArray.size = xs.length:=by rw [List.size_toArray]; exact r.length.symm
 refine ⟨"tuple",_,PyProof.Rows.slot_tuple_getitem.lookup,ht.typeIs,?_⟩
 exact Zf6 ht hs pl pu (by rw [hlen]; exact hw) ⟨.ref a,H,I,rfl,q⟩
theorem ZoL:SlR X (rS X.K):=SlR.imp (SlR.or (SlR.or Zr8 Zqd) (SlR.or ZqL ZsZ)) fun x lo hi H Q zz1=>by
 obtain ⟨ι,M,a,S,ra,h⟩:=zz1
 have ex:∀ n d o,HT.sIx n d o = sIx n d o:=fun n d o=>by cases o <;> rfl
 cases a with
 | tup ds=>
  simp only [ZhM,ZhE,ZhF,Zgp] at h
  obtain ⟨p,vs,rfl,s,r⟩:=ra.tup_inv
  by_cases hw:sIx ds.length 0 lo = 0 ∧ sIx ds.length ds.length hi = ds.length
  ·refine .inl (.inr ⟨p,vs,rfl,s,by rw [ex,ex,r.length]; exact hw,?_⟩)
   have e:cutD ds lo hi = ds:=by unfold cutD; rw [hw.1,hw.2]; simp
   rw [e] at h
   exact Zae.ok h S (Rep.tup s r)
  ·refine .inl (.inl ⟨p,vs,rfl,s,by rw [ex,ex,r.length]; exact hw,fun q hq=>?_⟩)
   obtain ⟨x2,S2,r2⟩:=S.tupl hq (Zli r lo hi)
   exact h _ _ _ x2 S2 r2
 | scr ds=>
  simp only [ZhM,ZhE,ZhF,Zgp] at h
  obtain ⟨p,vs,rfl,s,r⟩:=ra.scr_inv
  refine .inr (.inl ⟨p,vs,rfl,s.sq,fun q hq=>?_⟩)
  obtain ⟨x2,S2,r2⟩:=S.lst hq (Zli r lo hi)
  exact h _ _ _ x2 S2 r2
 | str z=>
  simp only [ZhM,ZhE,ZhF,Zgp] at h
  split at h
  ·rename_i hz
   exact .inr (.inr ⟨z,ra.str_inv,hz,Zae.ok h S Rep.str⟩)
  ·exact h.elim
 | ref n=>
  simp only [ZhM,ZhE,ZhF,Zgp] at h
  cases hn:M[n]? with
  | none=>simp only [hn] at h; exact h.elim
  | some o=>
   cases o with
   | dct _=>simp only [hn] at h; exact h.elim
   | fdct _=>simp only [hn] at h; exact h.elim
   | ins _ _=>simp only [hn] at h; exact h.elim
   | lst ds=>
    simp only [hn] at h
    obtain ⟨p,hp,rfl⟩:=ra.ref_inv
    obtain ⟨vs,e,r⟩:=S.obj n _ p hn hp
    refine .inr (.inl ⟨p,vs,rfl,SqL.of e,fun q hq=>?_⟩)
    obtain ⟨x2,S2,r2⟩:=S.lst hq (Zli r lo hi)
    exact h _ _ _ x2 S2 r2
 | _=>exact h.elim
theorem ZfG {K:PySem.W.Frag} {H:Hp} {ι:List Addr} {d:D} {xs:List V} (r:Zac K H ι [d] xs):∃ x,xs = [x] ∧ Rep K H ι d x:=by
 obtain ⟨v,ws,rfl,r1,r2⟩:=r.cons_inv
 have:=r2.nil_inv
 subst this
 exact ⟨v,rfl,r1⟩
theorem Zbj:ZbA X (.builtin "len") (rB X.K ZaF):=ZbA.imp ZoD fun xs H Q zz1=>by
 obtain ⟨ι,M,ds,S,rd,h⟩:=zz1
 cases ds with
 | nil=>exact h.elim
 | cons d ds=>
  cases ds with
  | cons _ _=>cases d <;> exact h.elim
  | nil=>
   obtain ⟨x,rfl,r⟩:=ZfG rd
   cases d with
   | tup z=>
    obtain ⟨p,vs,rfl,s,r'⟩:=r.tup_inv
    exact ⟨_,vs.length,rfl,.inr ⟨vs,s,rfl⟩,by rw [r'.length]; exact Zae.ok h S Rep.int⟩
   | scr z=>
    obtain ⟨p,vs,rfl,s,r'⟩:=r.scr_inv
    exact ⟨_,vs.length,rfl,.inl ⟨vs,s.sq,rfl⟩,by rw [r'.length]; exact Zae.ok h S Rep.int⟩
   | str z=>
    simp only [Zgm,ZhJ,Zjw,Ze2] at h
    split at h
    ·rename_i hz
     have:=r.str_inv
     subst this
     refine ⟨_,z.length,rfl,⟨?_,?_⟩,Zae.ok h S Rep.int⟩
     ·show z.toArray.size ≤ sizeLine
      rw [List.size_toArray]
      exact Nat.le_trans hz ZbX
     ·show z.length = z.toArray.size
      rw [List.size_toArray]
    ·exact h.elim
   | ref n=>
    cases hn:M[n]? with
    | none=>rw [Ze2,hn] at h; exact h.elim
    | some o=>
     cases o with
     | dct _=>rw [Ze2,hn] at h; exact h.elim
     | fdct _=>rw [Ze2,hn] at h; exact h.elim
     | ins _ _=>rw [Ze2,hn] at h; exact h.elim
     | lst z=>
      simp only [Zgm,ZhJ,Zjw,Ze2,hn] at h
      obtain ⟨p,hp,rfl⟩:=r.ref_inv
      obtain ⟨vs,e,r'⟩:=S.obj n _ p hn hp
      exact ⟨_,vs.length,rfl,.inl ⟨vs,SqL.of e,rfl⟩,by rw [r'.length]; exact Zae.ok h S Rep.int⟩
   | _=>exact h.elim
theorem Zfd:ZbA X (.type "tuple") (rB X.K ZcY):=ZbA.imp ZiG fun xs H Q zz1=>by
 obtain ⟨ι,M,ds,S,rd,h⟩:=zz1
 cases ds with
 | nil=>exact h.elim
 | cons d ds=>
  cases ds with
  | cons _ _=>cases d <;> exact h.elim
  | nil=>
   obtain ⟨x,rfl,r⟩:=ZfG rd
   cases d with
   | tup z=>
    obtain ⟨p,vs,rfl,s,r'⟩:=r.tup_inv
    exact ⟨p,vs,rfl,.inr ⟨s,Zae.ok h S (Rep.tup s r')⟩⟩
   | scr z=>
    obtain ⟨p,vs,rfl,s,r'⟩:=r.scr_inv
    refine ⟨p,vs,rfl,.inl ⟨s.sq,fun q hq=>?_⟩⟩
    obtain ⟨x2,S2,r2⟩:=S.tupl hq r'
    exact h _ _ _ x2 S2 r2
   | ref n=>
    cases hn:M[n]? with
    | none=>rw [Zd1,hn] at h; exact h.elim
    | some o=>
     cases o with
     | dct _=>rw [Zd1,hn] at h; exact h.elim
     | fdct _=>rw [Zd1,hn] at h; exact h.elim
     | ins _ _=>rw [Zd1,hn] at h; exact h.elim
     | lst z=>
      simp only [Zi4,Zjm,Zd1,hn] at h
      obtain ⟨p,hp,rfl⟩:=r.ref_inv
      obtain ⟨vs,e,r'⟩:=S.obj n _ p hn hp
      refine ⟨p,vs,rfl,.inl ⟨SqL.of e,fun q hq=>?_⟩⟩
      obtain ⟨x2,S2,r2⟩:=S.tupl hq r'
      exact h _ _ _ x2 S2 r2
   | _=>exact h.elim
theorem ZlH:ZbA X (.type "list") (rB X.K ZhP):=ZbA.imp Zj7 fun xs H Q zz1=>by
 obtain ⟨ι,M,ds,S,rd,h⟩:=zz1
 cases ds with
 | nil=>exact h.elim
 | cons d ds=>
  cases ds with
  | cons _ _=>cases d <;> exact h.elim
  | nil=>
   obtain ⟨x,rfl,r⟩:=ZfG rd
   cases d with
   | tup z=>
    obtain ⟨p,vs,rfl,s,r'⟩:=r.tup_inv
    refine ⟨p,vs,rfl,.inr s,fun q hq=>?_⟩
    obtain ⟨x2,S2,r2⟩:=S.lst hq r'
    exact h _ _ _ x2 S2 r2
   | scr z=>
    obtain ⟨p,vs,rfl,s,r'⟩:=r.scr_inv
    refine ⟨p,vs,rfl,.inl s.sq,fun q hq=>?_⟩
    obtain ⟨x2,S2,r2⟩:=S.lst hq r'
    exact h _ _ _ x2 S2 r2
   | ref n=>
    cases hn:M[n]? with
    | none=>rw [Zfz,hn] at h; exact h.elim
    | some o=>
     cases o with
     | dct _=>rw [Zfz,hn] at h; exact h.elim
     | fdct _=>rw [Zfz,hn] at h; exact h.elim
     | ins _ _=>rw [Zfz,hn] at h; exact h.elim
     | lst z=>
      simp only [Zip,ZnW,Zfz,hn] at h
      obtain ⟨p,hp,rfl⟩:=r.ref_inv
      obtain ⟨vs,e,r'⟩:=S.obj n _ p hn hp
      refine ⟨p,vs,rfl,.inl (SqL.of e),fun q hq=>?_⟩
      obtain ⟨x2,S2,r2⟩:=S.lst hq r'
      exact h _ _ _ x2 S2 r2
   | _=>exact h.elim
end
end L3
namespace L3
open PySem PySem.Spec PyProof.Rows L2
theorem ZaT:bootBuiltins "len" = some (.builtin "len"):=by decide +kernel
theorem Ziz:bootBuiltins "isinstance" = some (.builtin "isinstance"):=by decide +kernel
theorem Zpw:bootBuiltins "int" = some (.type "int"):=by decide +kernel
theorem Zj5:bootBuiltins "list" = some (.type "list"):=by decide +kernel
theorem Zd7:bootBuiltins "tuple" = some (.type "tuple"):=by decide +kernel
theorem Zqh:bootBuiltins "dict" = some (.type "dict"):=by decide +kernel
section
variable {X:Cx} {a:Expr} {pos p p2:Pos} {f:E3}
noncomputable def tyN:Ty3 → String
 | .int=>"int" | .bool=>"bool" | .str=>"str" | .list=>"list" | .tuple=>"tuple"
theorem Zgd (K:PySem.W.Frag) (t:String) (T:Ty3) (ht:t ∈ ["NoneType","bool","int","str","list","tuple","dict"]):
  PySem.W.kitOne K (.type t) (.type (tyN T)) = some (t == tyN T || (t == "bool" && tyN T == "int")):=by
 simp only [List.mem_cons,List.not_mem_nil,or_false] at ht
 rcases ht with rfl | rfl | rfl | rfl | rfl | rfl | rfl <;> cases T <;> kernel_rfl
theorem ZtF (T:Ty3):bootBuiltins (tyN T) = some (.type (tyN T)):=by cases T <;> decide +kernel
noncomputable def Zuz (T:Ty3) (o:Option MO):Option Bool:=match o with
 | some (.lst _)=>some (T == .list)
 | some (.dct _)=>some false
 | some (.fdct _)=>none
 | some (.ins _ _)=>none
 | none=>none
theorem Zp5 {pins:List (Addr × Obj)} {σ:St} {H:Hp} {s:Shared} {ι:List Addr} {M:Store} {A:Around} {E:Value → Shared → Prop} {Q:Value → Shared → Prop} {T:Ty3} {d:D} {x:V} {u:Value} {b:Bool} (I:Inv X pins σ H s) (S:Zaz X.K H ι M) (r:Rep X.K H ι d x) (ru:RelV x u)
  (e:Zix T d M = some b) (h:∀ tk,Q (.bool b) { s with toks:=tk }):wpAny (model X.prog X.w) A (call (.builtin "isinstance") [u,.type (tyN T)]) Q E s:=by
 cases d with
 | non=>
  rw [r.non_inv] at ru
  exact Zd0 I ru .non ((Zgd X.K "NoneType" T (by decide)).trans (Eq.trans (by cases T <;> rfl) e)) h
 | bl c=>
  rw [r.bl_inv] at ru
  exact Zd0 I ru (.bl c) ((Zgd X.K "bool" T (by decide)).trans (Eq.trans (by cases T <;> rfl) e)) h
 | int i=>
  rw [r.int_inv] at ru
  exact Zd0 I ru (.int i) ((Zgd X.K "int" T (by decide)).trans (Eq.trans (by cases T <;> rfl) e)) h
 | str z=>
  rw [r.str_inv] at ru
  exact Zd0 I ru (.str _) ((Zgd X.K "str" T (by decide)).trans (Eq.trans (by cases T <;> rfl) e)) h
 | tup ds=>
  obtain ⟨p,vs,its,_,eu,⟨o,h1,h2,_⟩,_⟩:=Zi5 I r ru
  rw [eu]
  exact PySem.W.kia_one PySem.W.kitx_tuple I.kIn ⟨o,h1,h2⟩ ((Zgd X.K "tuple" T (by decide)).trans (Eq.trans (by cases T <;> rfl) e)) (fun z=>nomatch z) h
 | scr ds=>exact nsm e
 | ref n=>
  have e:Zuz T M[n]? = some b:=e
  obtain ⟨a,ha,ex⟩:=r.ref_inv
  rw [ex] at ru
  cases hn:M[n]? with
  | none=>rw [hn] at e; exact nsm e
  | some o=>
   rw [hn] at e
   cases o with
   | lst z=>
    obtain ⟨vs,ev,_⟩:=S.obj n _ a hn ha
    exact Zd0 I ru (.lst ev) ((Zgd X.K "list" T (by decide)).trans (Eq.trans (by cases T <;> rfl) e)) h
   | dct z=>
    obtain ⟨vs,ev,_⟩:=S.obj n _ a hn ha
    exact Zd0 I ru (.dK ev) ((Zgd X.K "dict" T (by decide)).trans (Eq.trans (by cases T <;> rfl) e)) h
   | fdct z=>exact nsm e
   | ins _ _=>exact nsm e
theorem ZeJ (T:Ty3) {x:Str} (hm:X.mg "isinstance" = none) (hm2:X.mg x = none) (h:C3 X a f) (hx:x = (Str.ofString (tyN T)):=by rfl) (hg:Gl X "isinstance":=by rfl) (hg2:Gl X x:=by rfl)
  (hn:x ≠ "__name__":=by decide) (hd:(x == ("__debug__":Str)) = false:=by decide)
  (hs:starEach (a :: [.Name x p2]) X.env = (false,eval a X.env) :: starEach [.Name x p2] X.env:=by rfl) (hs2:starEach (.Name x p2 :: []) X.env = (false,eval (.Name x p2) X.env) :: starEach [] X.env:=by rfl)
  (hpl:(backTo pos (starEach [.Name x p2] X.env)).any (·.1) = false:=by rfl):C3 X (.Call (.Name "isinstance" p) [a,.Name x p2] [] pos) (e1 (ZaD T) f):=by
 subst hx
 have hc:ZbA X (.builtin "isinstance") (fun xs H Q=>∃ ι M d x,xs = [x,.ty (tyN T)] ∧ Zaz X.K H ι M ∧ Rep X.K H ι d x ∧ Zae X.K H ι Q (ZaD T d M)):=by
  intro pins s σ H xs us Q I r q
  obtain ⟨ι,M,d,x,rfl,S,rd,q⟩:=q
  obtain ⟨u,w',rfl,ru,rw'⟩:=vals2 r
  cases rw'
  unfold ZaD at q
  cases e:Zix T d M with
  | none=>rw [e] at q; exact q.elim
  | some b=>
   rw [e] at q
   exact Zp5 I S rd ru e fun tk=>⟨.bl b,H,I.tok _,rfl,Zae.ok q S Rep.bl⟩
 refine (ZkF hc hg hm Ziz (Zj2 h (Zj2 (Zqi hg2 hm2 (ZtF T) (v:=.ty (tyN T)) rfl hn hd) ZoN hs2) hs) (by decide) (by decide) hs hpl).imp fun σ H Q zz1=>?_
 obtain ⟨ι,M,env,S,E,h⟩:=zz1
 obtain ⟨d,M1,e1,h⟩:=Zae.bind h
 refine ⟨ι,M,env,S,E,?_⟩
 rw [e1]
 intro v H1 ι1 x1 S1 r1
 exact ⟨ι1,M1,d,v,rfl,S1,r1,h.up x1⟩
end
noncomputable def Zrh (outer:List (Str × NameKind)) (N:List Str) (scope:Scope) (N':List Str) (own:Nat):Bool:=
 (scope.names.all fun y=>decide (y.2 ≠ .cell) && (decide (y.2 ≠ .free) || decide (outer.lookup y.1 = some .cell) || decide (outer.lookup y.1 = some .free)) && (decide (y.2 ≠ .local) || decide (scope.names.lookup y.1 = some .local))) &&
  decide (N'.length = N.length + own) && Zpx N N' scope
theorem Zhb {X:Cx} {scope:Scope} {N':List Str} {own:Nat} (hk:scope.kind = .function) (h:Zrh X.env.scope.names X.N scope N' own = true):Zf3 X scope N' own:=by
 simp only [Zrh,Bool.and_eq_true,decide_eq_true_eq,List.all_eq_true,Bool.or_eq_true] at h
 obtain ⟨⟨h1,h2⟩,h3⟩:=h
 refine ⟨hk,fun y hy=>(h1 y hy).1.1,fun y hy e=>?_,fun y hy e=>?_,h2,h3⟩
 ·rcases (h1 y hy).1.2 with (q | q) | q
  ·exact absurd e q
  ·exact .inl q
  ·exact .inr q
 ·rcases (h1 y hy).2 with q | q
  ·exact absurd e q
  ·exact q
theorem ZaL {K:PySem.W.Frag} {h:Heap} {mg:Str → Option Value} (KX:K.In h) (G:h.Ns mainGlobals mg) {x:Str} {st:Stmt} {f:Addr} {oc:Value} {od an:Option Addr} {osl:Array (Option Value)} {dV kV doc pm cdv ct:Value}
  (a:PySem.W.nsIn K mainGlobals x = some (some (.ref f))) (l:K.lookup f = some ⟨oc,od,.func (PySem.W.fnOf x x (ZaG st) (ZaB st) (Zr st) dV kV doc pm an cdv ct),osl⟩)
  (c:PySem.W.codeIn K cdv x = true) (k:PySem.W.keepIn K (.ref f) = true) {ps:List Str} (b:Binds K (PySem.W.fnOf x x (ZaG st) (ZaB st) (Zr st) dV kV doc pm an cdv ct) ps []):ZaI K mg x st ps:=⟨f,_,Zo6 l c k,PySem.W.mg_of KX G a,b⟩
theorem Zuc {l:PySem.W.OpenLaw} {k:Nat} {q:Program} {loose:List Str} {XP:(Str → Option Value) → Heap → Prop} {YP:World → Heap → Prop} {d:DefRec} {K:Params → PySem.W.Frag} {F:F3} (hn:l.most = some 63) (hdf:d.params.defaults = []) (hr:ZdL k callerA)
  (hY:∀ (w:World) (h:Heap),YP w h → (K w.params).In h)
  (G:∀ (w:World) (mg:Str → Option Value) (fa:Addr) (h:Heap),(K w.params).In h → h.Ns mainGlobals mg → mg d.name = some (.ref fa) →
   ∃ fd:FuncData,(∀ (s:Shared) (u:Value),BindsTo s fd ⟨[u],[]⟩ [("script",u)]) ∧ ∀ base:Heap,(K w.params).In base → base.Ns mainGlobals mg → Zfo l.prog w (K w.params) mg base CX0 k fa fd ["script"] (sp3 (K w.params) 1 F))
  (hF:∀ ns:List Int,ns.length ≤ 63 → ∃ M',F [.scr (ns.map D.int)] [] = .ok (.bl true) M'):
  PySem.W.WalkO q loose XP YP l.row.toRowW d [] (fun f vs=>PySem.call f vs):=
 L2.Zmd (n:=63) (k:=k) (x:="script") (CX:=fun _=>CX0) (sp:=fun w=>sp3 (K w.params) 1 F) hn (by decide) hdf hr hY G (fun w H a ns hl hO hS=>by
  obtain ⟨M',e⟩:=hF ns hl
  refine ⟨[],[],[.scr (ns.map D.int)],⟨rfl,List.nodup_nil,fun n o a h=>by simp at h⟩,Zac.cons ?_ Zac.nil,rfl,?_⟩
  ·refine ⟨a,ns.map V.int,rfl,?_,Zac.ints ns⟩
   rcases hS with (h | ⟨o,h⟩) | h
   ·rcases hO a with z | ⟨ob,xs,z⟩
    ·rw [h] at z; cases z
    ·rw [h] at z; cases z
   ·exact .inl ⟨o,h⟩
   ·exact .inr h
  ·rw [e]
   exact fun v H' ι' _ _ r=>r.bl_inv) fun _ _ _ _ _ z=>z
end L3
namespace L3
open PySem PySem.Spec PyProof.Rows L2
theorem Zlk {a b:Zav} (h:dk a = dk b):a = b:=by
 cases a with
 | inl i=>cases b with
  | inl j=>simp only [dk,Sum.inl.injEq] at h; rw [h]
  | inr y=>simp [dk] at h
 | inr x=>cases b with
  | inl j=>simp [dk] at h
  | inr y=>
   simp only [dk,Sum.inr.injEq,Str.mk.injEq] at h
   have:=congrArg Array.toList h
   simp at this
   rw [this]
theorem ZjO {K:PySem.W.Frag} {H:Hp} {ι:List Addr} {b:D} {y:V} {k:Zav} (h:ZeP b = some k) (r:Rep K H ι b y):y = kV (dk k):=by
 cases b with
 | int i=>cases h; exact r.int_inv
 | str x=>cases h; exact r.str_inv
 | _=>exact nsm h
section
variable {K:PySem.W.Frag} {H H':Hp} {ι ι':List Addr} {M:Store} {p:Addr}
theorem KvR.nil:KvR K H ι [] []:=⟨rfl,Zac.nil⟩
theorem KvR.cons {k:Zav} {d:D} {v:V} {kvs:List (Zav × D)} {ws:List (Key × V)} (h:Rep K H ι d v) (r:KvR K H ι kvs ws):KvR K H ι ((k,d) :: kvs) ((dk k,v) :: ws):=
 ⟨by simp [r.1],Zac.cons h r.2⟩
theorem KvR.cons_inv {q:Zav × D} {kvs:List (Zav × D)} {ws:List (Key × V)} (r:KvR K H ι (q :: kvs) ws):∃ v ws',ws = (dk q.1,v) :: ws' ∧ Rep K H ι q.2 v ∧ KvR K H ι kvs ws':=by
 obtain ⟨h1,h2⟩:=r
 cases ws with
 | nil=>simp at h1
 | cons w ws=>
  simp only [List.map_cons,List.cons.injEq] at h1
  obtain ⟨v,us,e,r1,r2⟩:=Zac.cons_inv h2
  simp only [List.map_cons,List.cons.injEq] at e
  exact ⟨w.2,ws,by rw [← h1.1],e.1 ▸ r1,h1.2,e.2 ▸ r2⟩
theorem KvR.nil_inv {ws:List (Key × V)} (r:KvR K H ι [] ws):ws = []:=by simpa using r.1
theorem KvR.mono {kvs:List (Zav × D)} {ws:List (Key × V)} (r:KvR K H ι kvs ws) (e:Ext K H ι H' ι'):KvR K H' ι' kvs ws:=⟨r.1,r.2.mono e⟩
theorem KvR.length {kvs:List (Zav × D)} {ws:List (Key × V)} (r:KvR K H ι kvs ws):ws.length = kvs.length:=by
 have:=congrArg List.length r.1
 simpa using this
theorem KvR.val {kvs:List (Zav × D)} (k:Zav):∀ {ws:List (Key × V)},KvR K H ι kvs ws → match Zb5 kvs k with | some d=>∃ v,Zge ws (dk k) = some v ∧ Rep K H ι d v | none=>Zge ws (dk k) = none:=by
 induction kvs with
 | nil=>intro ws r; rw [r.nil_inv]; exact ZnS
 | cons q kvs ih=>
  intro ws r
  obtain ⟨v,ws',rfl,r1,r2⟩:=r.cons_inv
  obtain ⟨k',d⟩:=q
  unfold Zb5
  by_cases e:k' = k
  ·rw [if_pos e]
   exact ⟨v,Zgr (by rw [e]),r1⟩
  ·rw [if_neg e,ZgL fun z=>e (Zlk z)]
   exact ih r2
theorem KvR.append {k1 k2:List (Zav × D)} {w1 w2:List (Key × V)} (a:KvR K H ι k1 w1) (b:KvR K H ι k2 w2):KvR K H ι (k1 ++ k2) (w1 ++ w2):=
 ⟨by simp [a.1,b.1],by rw [List.map_append,List.map_append]; exact a.2.append b.2⟩
theorem KvR.any {kvs:List (Zav × D)} (k:Zav):∀ {ws:List (Key × V)},KvR K H ι kvs ws → (ws.any fun kv=>decide (kv.1 = dk k)) = (kvs.any fun q=>decide (q.1 = k)):=by
 induction kvs with
 | nil=>intro ws r; rw [r.nil_inv]; rfl
 | cons q kvs ih=>
  intro ws r
  obtain ⟨v,ws',rfl,r1,r2⟩:=r.cons_inv
  rw [List.any_cons,List.any_cons,ih r2]
  congr 1
  by_cases e:q.1 = k
  ·simp [e]
  ·simp [e]; exact fun z=>e (Zlk z)
theorem KvR.put {kvs:List (Zav × D)} {k:Zav} {d:D} {v:V} {ws:List (Key × V)} (r:KvR K H ι kvs ws) (rd:Rep K H ι d v):KvR K H ι (putD k d kvs) (putK ws (dk k) v):=by
 unfold putD putK
 rw [r.any k]
 by_cases c:(kvs.any fun q=>decide (q.1 = k)) = true
 ·rw [if_pos c,if_pos c]
  clear c
  induction kvs generalizing ws with
  | nil=>rw [r.nil_inv]; exact KvR.nil
  | cons q kvs ih=>
   obtain ⟨u,ws',rfl,r1,r2⟩:=r.cons_inv
   rw [List.map_cons,List.map_cons]
   by_cases e:q.1 = k
   ·rw [if_pos e,if_pos (by rw [e])]; exact KvR.cons rd (ih r2)
   ·rw [if_neg e,if_neg fun z=>e (Zlk z)]; exact KvR.cons r1 (ih r2)
 ·rw [if_neg c,if_neg c]
  exact r.append (KvR.cons rd KvR.nil)
theorem KvR.merge {l:List (Zav × D)}:∀ {kvs:List (Zav × D)} {ws us:List (Key × V)},KvR K H ι l us → KvR K H ι kvs ws → KvR K H ι (l.foldl (fun acc p=>putD p.1 p.2 acc) kvs) (ZhW ws us):=by
 induction l with
 | nil=>intro kvs ws us r r0; rw [r.nil_inv]; exact r0
 | cons q l ih=>
  intro kvs ws us r r0
  obtain ⟨v,us',rfl,r1,r2⟩:=r.cons_inv
  exact ih (ws:=putK ws (dk q.1) v) (us:=us') r2 (r0.put r1)
theorem Zaz.dct (S:Zaz K H ι M) (hp:H p = none) {kvs:List (Zav × D)} {ws:List (Key × V)} (r:KvR K H ι kvs ws):Ext K H ι (upd H p (.dK ws)) (ι ++ [p]) ∧ Zaz K (upd H p (.dK ws)) (ι ++ [p]) (M ++ [.dct kvs]) ∧ Rep K (upd H p (.dK ws)) (ι ++ [p]) (.ref M.length) (.ref p):=by
 have e:Ext K H ι (upd H p (.dK ws)) (ι ++ [p]):=Loose.extA (.inl hp)
 exact ⟨e,S.new hp ⟨ws,Zd5,r.mono e⟩,Rep.ref (by rw [← S.len]; simp)⟩
theorem Zaz.setd (S:Zaz K H ι M) {n:Nat} (l0:Loose H p) (hn:ι[n]? = some p) {kvs:List (Zav × D)} {ws:List (Key × V)} (r:KvR K H ι kvs ws):Ext K H ι (upd H p (.dK ws)) ι ∧ Zaz K (upd H p (.dK ws)) ι (M.set n (.dct kvs)):=by
 have e:Ext K H ι (upd H p (.dK ws)) ι:=Loose.ext l0
 exact ⟨e,S.put l0 hn ⟨ws,Zd5,r.mono e⟩⟩
end
section
variable {X:Cx} {a b c e o:Expr} {es:List Expr} {pos p pos' apos cpos:Pos} {f g h:E3} {gl:EL3}
def ZsG (K:PySem.W.Frag) (H:Hp) (ι:List Addr) (Q:List (V × V) → Hp → Prop) (r:R3 (List (Zav × D))):Prop:=match r with
 | .ok l M'=>∀ ws H' ι',Ext K H ι H' ι' → Zaz K H' ι' M' → KvR K H' ι' l ws → Q (ws.map fun kv=>(kV kv.1,kv.2)) H'
 | _=>False
theorem ZsG.bind {K:PySem.W.Frag} {H:Hp} {ι:List Addr} {α:Type} {Q:List (V × V) → Hp → Prop} {r:R3 α} {k:α → Store → R3 (List (Zav × D))} (h:ZsG K H ι Q (r.bind k)):∃ a M,r = .ok a M ∧ ZsG K H ι Q (k a M):=by
 cases r with
 | ok a M=>exact ⟨a,M,rfl,h⟩
 | exc x M=>exact h.elim
 | bad=>exact h.elim
theorem Ztg:C3 X (.Dict [] [] pos) Zq0:=Zog.imp fun σ H Q ⟨ι,M,env,S,E,h⟩ p hp=>by
 obtain ⟨x1,S1,r1⟩:=S.dct hp KvR.nil
 exact h _ _ _ x1 S1 r1
theorem hu1 (hu:X.A.units + 80 < cLine):X.A.units + 1 < cLine:=lB 1 7331617893452817 T1 hu
theorem Zss {K:PySem.W.Frag} {H:Hp} {ι:List Addr} {M:Store} (S:Zaz K H ι M) {n:Nat} {kvs:List (Zav × D)} {a:Addr} (h:ZgO M[n]? = some kvs) (ha:ι[n]? = some a):∃ ws,Rd H a (.dK ws) ∧ KvR K H ι kvs ws:=by
 cases hn:M[n]? with
 | none=>simp [hn] at h
 | some ob=>
  cases ob with
  | lst _=>simp [hn] at h
  | dct k=>
   have e:k = kvs:=by simpa [hn] using h
   subst e
   obtain ⟨ws,hw,kr⟩:=S.obj n _ a hn ha
   exact ⟨ws,.inl hw,kr⟩
  | fdct k=>
   have e:k = kvs:=by simpa [hn] using h
   subst e
   obtain ⟨ws,⟨o,hw⟩,kr⟩:=S.obj n _ a hn ha
   exact ⟨ws,.inr ⟨o,hw⟩,kr⟩
  | ins _ _=>simp [hn] at h
theorem ZjX (hu:X.A.units + 80 < cLine) (ha:C3 X a f) (hb:C3 X b g) (hs:ZsP b:=by exact fun _ _=>rfl):C3 X (.Subscript a b pos) (e2 Zex f g):=(Zqv (hu1 hu) ha hb hs).imp fun σ H Q zz1=>by
 obtain ⟨ι,M,env,S,E,h⟩:=zz1
 obtain ⟨d,M1,e1,h⟩:=Zae.bind h
 obtain ⟨k,M2,e2,h⟩:=Zae.bind h
 refine ⟨ι,M,env,S,E,?_⟩
 rw [e1]
 intro x H1 ι1 x1 S1 r1
 refine ⟨ι1,M1,env,S1,E.mono x1,?_⟩
 rw [e2]
 intro y H2 ι2 x2 S2 r2
 cases d with
 | ref n=>
  simp only [ZiQ] at h
  cases hn:ZgO M2[n]? with
  | none=>simp only [hn] at h; exact h.elim
  | some kvs=>
   cases hk:ZeP k with
   | none=>simp only [hn,hk] at h; exact h.elim
   | some kk=>
    simp only [hn,hk] at h
    cases hv:Zb5 kvs kk with
    | none=>simp only [hv] at h; exact h.elim
    | some w=>
     simp only [hv] at h
     obtain ⟨ad,ha,rfl⟩:=(r1.mono x2).ref_inv
     obtain ⟨ws,hw,kr⟩:=Zss S2 hn ha
     have hv':=kr.val kk
     rw [hv] at hv'
     obtain ⟨v,ev,rv⟩:=hv'
     refine ⟨ad,v,rfl,?_,h v H2 ι2 (x1.trans x2) S2 rv⟩
     rw [ZjO hk r2,← ev]
     exact .inl ⟨ws,dk kk,hw,rfl,rfl⟩
 | _=>exact h.elim
theorem Zqc {K:PySem.W.Frag} {op:D → D → D → Store → R3 D} {H:Hp} {ι:List Addr} {Q:VK} {env:Zam} {M:Store} (h':Zae K H ι Q (e3 op f g h env M)):
  ∃ a M1 b M2 c M3,f env M = .ok a M1 ∧ g env M1 = .ok b M2 ∧ h env M2 = .ok c M3 ∧ Zae K H ι Q (op a b c M3):=by
 obtain ⟨a,M1,e1,h'⟩:=Zae.bind h'
 obtain ⟨b,M2,e2,h'⟩:=Zae.bind h'
 obtain ⟨c,M3,e3,h'⟩:=Zae.bind h'
 exact ⟨a,M1,b,M2,c,M3,e1,e2,e3,h'⟩
theorem ZoI {K:PySem.W.Frag} {H:Hp} {ι:List Addr} {D':Ends} {env:Zam} {M:Store} {σ:St} (E:ZbF K H ι env σ) (h':ZfU K H ι D' (Zak f env M)):Zae K H ι (fun _ H'=>D'.nx σ H') (f env M):=by
 unfold Zak at h'
 cases q:f env M with
 | ok d M1=>rw [q] at h'; exact fun v H1 ι1 x1 S1 r1=>h' σ H1 ι1 x1 S1 (E.mono x1)
 | exc x M1=>rw [q] at h'; exact h'.elim
 | bad=>rw [q] at h'; exact h'.elim
theorem ZqK {i:Expr} (hu:X.A.units + 80 < cLine) (ho:C3 X o f) (hi:C3 X i g) (hv:C3 X e h) (hs:swapsWith e (some (.Subscript o i pos')) pos.line X.env = pure false:=by rfl):CS X (.Assign [.Subscript o i pos'] e pos) (Zpa f g h):=(ZpR (hu1 hu) ho hi hv hs).imp fun D' σ H zz1=>by
 obtain ⟨ι,M,env,S,E,hh⟩:=zz1
 obtain ⟨d,M1,b,M2,k,M3,e1,e2,e3,hh⟩:=Zqc (ZoI E hh)
 refine ⟨ι,M,env,S,E,?_⟩
 rw [e1]
 intro v H1 ι1 x1 S1 r1
 refine ⟨ι1,M1,env,S1,E.mono x1,?_⟩
 rw [e2]
 intro x H2 ι2 x2 S2 r2
 refine ⟨ι2,M2,env,S2,(E.mono x1).mono x2,?_⟩
 rw [e3]
 intro y H3 ι3 x3 S3 r3
 cases b with
 | ref n=>
  simp only [Zjj] at hh
  cases hn:M3[n]? with
  | none=>simp only [hn] at hh; exact hh.elim
  | some ob=>
   cases ob with
   | lst _=>simp only [hn] at hh; exact hh.elim
   | fdct _=>simp only [hn] at hh; exact hh.elim
   | ins _ _=>simp only [hn] at hh; exact hh.elim
   | dct kvs=>
    cases hk:ZeP k with
    | none=>simp only [hn,hk] at hh; exact hh.elim
    | some kk=>
     simp only [hn,hk] at hh
     split at hh
     ·rename_i hz
      obtain ⟨ad,ha,rfl⟩:=(r2.mono x3).ref_inv
      obtain ⟨ws,hw,kr⟩:=S3.obj n _ ad hn ha
      obtain ⟨x4,S4⟩:=S3.setd (.inr (.inr (.inl ⟨_,hw⟩))) ha (kr.put (k:=kk) ((r1.mono x2).mono x3))
      refine ⟨ad,_,rfl,?_,hh .non _ _ (((x1.trans x2).trans x3).trans x4) S4 Rep.non⟩
      rw [ZjO hk r3]
      exact ZlX.k hw (by rw [kr.length]; exact Nat.lt_of_lt_of_le hz ZbX)
     ·exact hh.elim
 | _=>exact hh.elim
end
end L3
namespace L3
open PySem PySem.Spec PyProof.Rows L2
section
variable {X:Cx} {a b c e o:Expr} {es:List Expr} {pos p apos cpos:Pos} {f g h:E3} {gl:EL3}
theorem ZuM:ZbA X (.type "int") (rB X.K Zpp):=ZbA.imp ZnF fun xs H Q zz1=>by
 obtain ⟨ι,M,ds,S,rd,h⟩:=zz1
 cases ds with
 | nil=>exact h.elim
 | cons d ds=>
  cases ds with
  | cons _ _=>cases d <;> exact h.elim
  | nil=>
   obtain ⟨x,rfl,r⟩:=ZfG rd
   cases d with
   | int i=>exact .inl ⟨i,by rw [r.int_inv],Zae.ok h S Rep.int⟩
   | bl k=>exact .inr ⟨k,by rw [r.bl_inv],Zae.ok h S Rep.int⟩
   | _=>exact h.elim
theorem ZiK {K:PySem.W.Frag} {H:Hp} {ι:List Addr}:∀ {x:List D} {ns:List Int} {vs:List V} {us:List Value},Zfh x = some ns → Zac K H ι x vs → Vals vs us → IntsAre us ns
 | [],ns,vs,us,h,r,v=>by
  have e:=r.nil_inv; subst e; cases v
  have:ns = []:=by simpa [Zfh] using h.symm
  subst this; exact .nil
 | .int i :: x,ns,vs,us,h,r,v=>by
  obtain ⟨u,vs',rfl,r1,r2⟩:=r.cons_inv
  have e:=r1.int_inv; subst e
  cases v with
  | @cons _ z _ us' rz rzs=>
  obtain ⟨t,rfl⟩:=rz
  simp only [Zfh] at h
  cases hx:Zfh x with
  | none=>rw [hx] at h; cases h
  | some ms=>
   rw [hx] at h
   have:ns = i :: ms:=by simpa using h.symm
   subst this
   exact .cons i t (ZiK hx r2 rzs)
 | .non :: _,_,_,_,h,_,_=>by simp [Zfh] at h
 | .bl _ :: _,_,_,_,h,_,_=>by simp [Zfh] at h
 | .str _ :: _,_,_,_,h,_,_=>by simp [Zfh] at h
 | .tup _ :: _,_,_,_,h,_,_=>by simp [Zfh] at h
 | .scr _ :: _,_,_,_,h,_,_=>by simp [Zfh] at h
 | .ref _ :: _,_,_,_,h,_,_=>by simp [Zfh] at h
theorem ZlM {pins:List (Addr × Obj)} {σ:St} {H:Hp} {s:Shared} {Q:VK} {l:Addr} {vs:List V} {x:List D} {ns:List Int} {ι:List Addr} (hc:X.calm = true) (I:Inv X pins σ H s) (sq:SqL X.K H l vs) (r:Zac X.K H ι x vs) (hx:Zfh x = some ns) (q:Q (.int ns.sum) H):
  wpAny (model X.prog X.w) X.A (call (.builtin "sum") [.ref l]) (EP X pins σ Q) X.xe s:=by
 obtain ⟨its,rr,pl,zl⟩:=I.list sq
 have ia:=ZiK hx r rr
 obtain ⟨ys,hy⟩:=ia.allInts.items
 refine sum_intListG (I.ok.hd hc) (by rw [← hy]; exact pl.isList) fun h' tk t' hk=>⟨.int ns.sum,H,I.kept hk,⟨t',?_⟩,q⟩
 have e1:ns = ys.toList.map (·.1):=by rw [← nums_intItems,← hy]; exact (show numsOf its.toArray.toList = ns from ia.numsOf).symm
 rw [preSum_eq,List.take_of_length_le (by simp),← e1]
end
section
variable {X:Cx} {pins:List (Addr × Obj)} {σ:St} {H:Hp} {s:Shared} {d:Addr} {ws:List (Key × V)} {ob:Obj}
end
section
variable {X:Cx} {tg e elt:Expr} {ifs:List Expr} {pos:Pos} {f fe:E3} {ts:List E3} {g:G3} {scope:Scope} {N':List Str} {own:Nat}
end
end L3
namespace L3
open PySem PySem.Spec PyProof.Rows L2
section
variable {prog:Program} {w:World} {A:Around} {E:Value → Shared → Prop} {s:Shared}
theorem ZfB:entryFor table "dict.update.loop" = some Builtin.«dict.update.loop»:=entryFor_of_tree (by kernel_rfl)
theorem Zdh:plainId "dict.update.loop" = true:=by decide +kernel
def ZlV (prog:Program) (w:World) (h:Heap) (v:Value) (q:Key × Value):Prop:=∃ a o key n,v = .ref a ∧ h.get? a = some o ∧ o.cls = .type "tuple" ∧ o.data = .seq #[key,q.2] n ∧ (Zbk prog w).is q.1 key = true
end
section
variable {X:Cx}
theorem ZlL {d:D} {x:List D} {l:List (Zav × D)} (h:Zdr (d :: x) = some l):∃ a b k l',d = .tup [a,b] ∧ ZeP a = some k ∧ Zdr x = some l' ∧ l = (k,b) :: l':=by
 cases d with
 | tup ds=>cases ds with
  | nil=>exact nsm h
  | cons a ds=>cases ds with
   | nil=>exact nsm h
   | cons b ds=>cases ds with
    | cons _ _=>exact nsm h
    | nil=>
     have h:(match ZeP a with | some k=>(Zdr x).map fun l=>(k,b) :: l | none=>none) = some l:=h
     cases hk:ZeP a with
     | none=>rw [hk] at h; exact nsm h
     | some k=>
      rw [hk] at h
      cases hx:Zdr x with
      | none=>rw [hx] at h; exact nsm h
      | some l'=>rw [hx] at h; exact ⟨a,b,k,l',rfl,hk,rfl,(Option.some.inj h).symm⟩
 | _=>exact nsm h
def ZjW (X:Cx) (H:Hp) (s:Shared) (ι:List Addr) (l:List (Zav × D)) (us:List Value):Prop:=
  ∃ (ws:List (Key × V)) (ps:List (Key × Value)),KvR X.K H ι l ws ∧ KV ws ps ∧ ps.length = us.length ∧ ∀ (j:Nat) v q,us[j]? = some v → ps[j]? = some q → ZlV X.prog X.w s.heap v q
theorem ZlQ {pins:List (Addr × Obj)} {σ:St} {H:Hp} {s:Shared} {ι:List Addr} (I:Inv X pins σ H s) {a b:D} {k:Zav} {l:List (Zav × D)} {u:V} {z:Value} {us:List Value} (hk:ZeP a = some k) (r:Rep X.K H ι (.tup [a,b]) u) (rz:RelV u z) (h:ZjW X H s ι l us):ZjW X H s ι ((k,b) :: l) (z :: us):=by
 obtain ⟨ws,ps,kr,kv,lp,hp⟩:=h
 obtain ⟨ad,xs,eu,sq,rr⟩:=r.tup_inv
 rw [eu] at rz
 obtain ⟨ya,ys,rfl,ra,rr⟩:=rr.cons_inv
 obtain ⟨yb,ys,rfl,rb,rr⟩:=rr.cons_inv
 rw [rr.nil_inv] at sq
 obtain ⟨its,rv,⟨o,ho,hc,n,hd⟩,_⟩:=I.tuple sq
 cases rv with
 | @cons _ u1 _ _ q1 rv=>
 cases rv with
 | @cons _ u2 _ _ q2 rv=>
 cases rv
 refine ⟨(dk k,yb) :: ws,(dk k,u2) :: ps,KvR.cons rb kr,.cons ⟨rfl,q2⟩ kv,congrArg Nat.succ lp,fun j v q hj hq=>?_⟩
 cases j with
 | zero=>
  rw [← Option.some.inj hj,← Option.some.inj hq]
  exact ⟨ad,o,u1,n,rz,ho,hc,hd,Zl0 (by rw [← ZjO hk ra]; exact q1)⟩
 | succ j=>exact hp j v q hj hq
theorem pairs_at {pins:List (Addr × Obj)} {σ:St} {H:Hp} {s:Shared} {ι:List Addr} (I:Inv X pins σ H s) {x:List D} {l:List (Zav × D)} {vs:List V} {us:List Value} (h:Zdr x = some l) (r:Zac X.K H ι x vs) (v:Vals vs us):ZjW X H s ι l us:=by
 induction x generalizing l vs us with
 | nil=>
  rw [r.nil_inv] at v
  cases v
  rw [← Option.some.inj h]
  exact ⟨[],[],KvR.nil,.nil,rfl,fun j v q h=>nsm h⟩
 | cons d x ih=>
  obtain ⟨a,b,k,l',ed,hk,hx,el⟩:=ZlL h
  obtain ⟨u,vs',ev,r1,r2⟩:=r.cons_inv
  rw [ev] at v
  rw [ed] at r1
  rw [el]
  cases v with
  | cons rz rzs=>exact ZlQ I hk r1 rz (ih hx r2 rzs)
end
end L3
namespace L3
open PySem PySem.Spec PyProof.Rows L2
theorem ZdS {X:Cx} {sts:List Stmt}:CSs X sts Ziv:=fun _ _ _ _ _ _ ⟨_,_,_,_,_,h⟩=>h.elim
end L3
namespace L3
open PySem PySem.Spec PyProof.Rows L2
section
variable {X:Cx} {o e:Expr} {es:List Expr} {apos cpos:Pos} {f:E3} {gl:EL3}
theorem Zac.erase {K:PySem.W.Frag} {H:Hp} {ι:List Addr}:∀ {ds:List D} {vs:List V} (i:Nat),Zac K H ι ds vs → Zac K H ι (ds.eraseIdx i) (vs.eraseIdx i)
 | [],_,_,h=>by rw [h.nil_inv]; exact Zac.nil
 | d :: ds,_,0,h=>by obtain ⟨v,us,rfl,r,t⟩:=h.cons_inv; exact t
 | d :: ds,_,i + 1,h=>by obtain ⟨v,us,rfl,r,t⟩:=h.cons_inv; exact Zac.cons r (t.erase i)
theorem Zac.dropLast {K:PySem.W.Frag} {H:Hp} {ι:List Addr} {ds:List D} {vs:List V} (r:Zac K H ι ds vs):Zac K H ι ds.dropLast vs.dropLast:=by
 rw [List.dropLast_eq_take,List.dropLast_eq_take,r.length]; exact r.take _
theorem Zrm:MtR X "list.pop" (rM X.K Zet):=MtR.imp (r:=fun x xs H Q=>Zn0 x xs H Q ∨ Zt4 x xs H Q) (fun pins s σ H x xs v us Q I rx rs q=>q.elim (ZoX pins s σ H x xs v us Q I rx rs) (ZsR pins s σ H x xs v us Q I rx rs)) fun x xs H Q zz1=>by
 obtain ⟨ι,M,a,ds,S,ra,rd,h⟩:=zz1
 cases a with
 | ref n=>
  cases ds with
  | nil=>
   simp only [Zjp,Zj6] at h
   cases hn:M[n]? with
   | none=>simp only [hn] at h; exact h.elim
   | some ob=>
    cases ob with
    | dct _=>simp only [hn] at h; exact h.elim
    | fdct _=>simp only [hn] at h; exact h.elim
    | ins _ _=>simp only [hn] at h; exact h.elim
    | lst z=>
     simp only [hn] at h
     cases hx:z[z.length - 1]? with
     | none=>simp only [hx] at h; exact h.elim
     | some d=>
      simp only [hx] at h
      obtain ⟨p,hp,rfl⟩:=ra.ref_inv
      have:=rd.nil_inv; subst this
      obtain ⟨vs,e,rv⟩:=S.obj n _ p hn hp
      obtain ⟨y,hy,ry⟩:=rv.get hx
      obtain ⟨x2,S2⟩:=S.setl (.inr (.inl ⟨_,e⟩)) hp rv.dropLast
      exact .inr ⟨p,vs,y,rfl,rfl,e,by rw [rv.length]; exact hy,h _ _ _ x2 S2 (ry.mono x2)⟩
  | cons d ds=>
   cases ds with
   | cons _ _=>cases d <;> exact h.elim
   | nil=>
    cases d with
    | int i=>
     simp only [Zjp,Zj6] at h
     cases hn:M[n]? with
     | none=>simp only [hn] at h; exact h.elim
     | some ob=>
      cases ob with
      | dct _=>simp only [hn] at h; exact h.elim
      | fdct _=>simp only [hn] at h; exact h.elim
      | ins _ _=>simp only [hn] at h; exact h.elim
      | lst z=>
       simp only [hn] at h
       by_cases hb:-1000000 ≤ i ∧ i ≤ 1000000
       ·rw [if_pos hb] at h
        cases hk:ixD z.length i with
        | none=>simp only [hk] at h; exact h.elim
        | some k=>
         simp only [hk] at h
         cases hx:z[k]? with
         | none=>simp only [hx] at h; exact h.elim
         | some d=>
          simp only [hx] at h
          obtain ⟨p,hp,rfl⟩:=ra.ref_inv
          obtain ⟨v,ws,rfl,r1,r2⟩:=rd.cons_inv
          have:=r2.nil_inv; subst this
          have:=r1.int_inv; subst this
          obtain ⟨vs,e,rv⟩:=S.obj n _ p hn hp
          obtain ⟨y,hy,ry⟩:=rv.get hx
          obtain ⟨x2,S2⟩:=S.setl (.inr (.inl ⟨_,e⟩)) hp (rv.erase k)
          obtain ⟨q1,q2,q3,q4⟩:=Zmh (n:=z.length) (i:=i) (j:=k) hk
          exact .inl ⟨p,vs,i,k,y,rfl,rfl,e,by omega,by omega,by rw [rv.length]; exact q1,hy,h _ _ _ x2 S2 (ry.mono x2)⟩
       ·rw [if_neg hb] at h; exact h.elim
    | _=>exact h.elim
 | _=>cases ds <;> exact h.elim
theorem ZeW (ho:C3 X o f) (ha:CA X (e :: es) gl)
  (hbase:attributeBase o "pop" X.env (eval o X.env) = eval o X.env:=by rfl)
  (hfew:((backTo cpos (starEach (e :: es) X.env)).all (fun x=>!x.1) && (backToKw cpos (keywordEach [] X.env)).all (fun x=>x.1.isSome)
   && decide ((e :: es).length + ([]:List Keyword).length + (if ([]:List Keyword).isEmpty then 0 else 1) < 30)) = true:=by rfl)
  (hline:(apos.endLine == cpos.line) = true:=by rfl) (hs:starEach (e :: es) X.env = (false,eval e X.env) :: starEach es X.env:=by rfl) (hplain:(backTo cpos (starEach es X.env)).any (·.1) = false:=by rfl):
  C3 X (.Call (.Attribute o "pop" apos) (e :: es) [] cpos) (ZaN tyL Zet f gl):=
 (ZoC PySem.F.plainAttrs_list PySem.F.slot_list_pop PySem.F.type_list_pop Zrm ho ha hbase hfew hline hs hplain).imp (ZlO Zju)
end
end L3
namespace L3
open PySem PySem.Spec PyProof.Rows L2
section
variable {X:Cx} {a b c e o:Expr} {es:List Expr} {pos p apos cpos:Pos} {f g h:E3} {gl:EL3}
theorem ZiI:ZbA X (.type "int") (fun xs H Q=>∃ x n,xs = [.str x] ∧ intText? x = some n ∧ x.length ≤ 640 ∧ Q (.int n) H):=by
 intro pins s σ H xs us Q I r h
 obtain ⟨x,n,rfl,hn,hz,q⟩:=h
 obtain ⟨u,rfl,t,rfl⟩:=vals1 r
 exact PySem.W.KIN.call_text hn hz ⟨.int n,H,I.tok _,⟨_,rfl⟩,q⟩
theorem Zoa:ZbA X (.type "int") (rB X.K ZgS):=ZbA.imp (ZbA.or ZuM ZiI) fun xs H Q zz1=>by
 obtain ⟨ι,M,ds,S,rd,h⟩:=zz1
 match ds,rd,h with
 | [.str x],rd,h=>
  obtain ⟨v,rfl,r⟩:=ZfG rd
  simp only [Zpn,ZnU] at h
  cases hn:PySem.intText? ⟨x.toArray⟩ with
  | none=>rw [hn] at h; exact h.elim
  | some n=>
   rw [hn] at h
   dsimp only at h
   split at h
   ·rename_i hz
    exact .inr ⟨_,n,by rw [r.str_inv],hn,by simpa [Str.length] using hz,Zae.ok h S Rep.int⟩
   ·exact h.elim
 | [],rd,h=>exact h.elim
 | [.int i],rd,h=>exact .inl ⟨ι,M,_,S,rd,h⟩
 | [.bl i],rd,h=>exact .inl ⟨ι,M,_,S,rd,h⟩
 | [.non],rd,h=>exact h.elim
 | [.tup _],rd,h=>exact h.elim
 | [.scr _],rd,h=>exact h.elim
 | [.ref _],rd,h=>exact h.elim
 | .str _ :: _ :: _,rd,h=>exact h.elim
 | .int _ :: _ :: _,rd,h=>exact h.elim
 | .bl _ :: _ :: _,rd,h=>exact h.elim
 | .non :: _ :: _,rd,h=>exact h.elim
 | .tup _ :: _ :: _,rd,h=>exact h.elim
 | .scr _ :: _ :: _,rd,h=>exact h.elim
 | .ref _ :: _ :: _,rd,h=>exact h.elim
end
end L3
namespace L3
open PySem PySem.Spec PyProof.Rows L2
section
variable {X:Cx} {tg e:Expr} {pos:Pos} {f:E3} {g:G3}
end
section
variable {X:Cx} {tg e elt:Expr} {ifs:List Expr} {pos:Pos} {f fe:E3} {ts:List E3} {g:G3} {scope:Scope} {N':List Str} {own:Nat}
end
def Zot (K:PySem.W.Frag) (H:Hp) (ι:List Addr) (it:ItL) (J:It):Prop:=∀ (i:Nat) H2 ι2 M2,Ext K H ι H2 ι2 → Zaz K H2 ι2 M2 → Za5 it.lk M2 = true →
 (∀ d,it.items[i]? = some d → J.go i H2 ∧ ∀ x H3,J.yld i H2 x H3 → Ext K H2 ι2 H3 ι2 ∧ Zaz K H3 ι2 M2 ∧ Rep K H3 ι2 d x) ∧ (i = it.items.length → J.stop i H2)
def Zkn (K:PySem.W.Frag) (H:Hp) (ι:List Addr) (R:It → Hp → Prop) (r:R3 ItL):Prop:=match r with
 | .ok it M'=>∀ J H' ι',Ext K H ι H' ι' → Zaz K H' ι' M' → Zot K H' ι' it J → R J H'
 | _=>False
def tIL (K:PySem.W.Frag) (g:IL3):TI:=fun σ H R=>∃ ι M env,Zaz K H ι M ∧ ZbF K H ι env σ ∧ Zkn K H ι R (g env M)
def CIL (X:Cx) (tg e:Expr) (g:IL3):Prop:=PI X tg e (tIL X.K g)
theorem Zkn.bind {K:PySem.W.Frag} {H:Hp} {ι:List Addr} {α:Type} {Q:It → Hp → Prop} {r:R3 α} {k:α → Store → R3 ItL} (h:Zkn K H ι Q (r.bind k)):∃ a M,r = .ok a M ∧ Zkn K H ι Q (k a M):=by
 cases r with
 | ok a M=>exact ⟨a,M,rfl,h⟩
 | exc x M=>exact h.elim
 | bad=>exact h.elim
section
variable {X:Cx} {tg:Expr} {pos:Pos}
theorem ZgH {iter:Expr} {body:List Stmt} {i:IL3} {g:G3} {u:S3} (hxe:X.xe = fun _ _=>False) (hc:X.calm = true) (hi:CIL X tg iter i) (hg:CG X tg g) (hb:CSs X body u) (hs:∀ x,foldedSetIterable iter X.env x = pure x:=by intro _; rfl):
  CS X (.For tg iter body [] pos) (ZgK i g u):=(Zn9 (by rw [hxe]; exact PassesOwn.never) hc hi hg hb hs).imp fun D σ H zz1=>by
 obtain ⟨ι,M,env,S,E,h⟩:=zz1
 unfold ZgK at h
 cases q:i env M with
 | exc x M1=>rw [q] at h; exact h.elim
 | bad=>rw [q] at h; exact h.elim
 | ok it M1=>
  rw [q] at h
  refine ⟨ι,M,env,S,E,?_⟩
  rw [q]
  intro J H1 ι1 x1 S1 ok
  refine ⟨fun i m σ2 H2=>m = it.items.length - i ∧ i ≤ it.items.length ∧ ∃ ι2 M2 env2,Ext X.K H1 ι1 H2 ι2 ∧ Zaz X.K H2 ι2 M2 ∧ ZbF X.K H2 ι2 env2 σ2 ∧ ZfU X.K H2 ι2 D (Zcb it.lk g u (it.items.drop i) env2 M2),
   ⟨_,rfl,Nat.zero_le _,ι1,M1,env,Ext.refl,S1,E.mono x1,ZfU.up x1 h⟩,?_⟩
  rintro i m σ2 H2 ⟨rfl,hi,ι2,M2,env2,x2,S2,E2,h2⟩
  by_cases hlt:i < it.items.length
  ·have hd:it.items[i]? = some it.items[i]:=by simp [hlt]
   rw [List.drop_eq_getElem_cons hlt] at h2
   first | rw [Ze1] at h2 | rw [Ze3] at h2
   by_cases lk:Za5 it.lk M2 = true
   ·rw [if_pos lk] at h2
    obtain ⟨go,yl⟩:=(ok i H2 ι2 M2 x2 S2 lk).1 _ hd
    cases eg:g it.items[i] env2 with
    | none=>rw [eg] at h2; exact h2.elim
    | some env3=>
     rw [eg] at h2
     refine .inr ⟨go,fun σ' H'=>∃ ι3 M3 env4,Ext X.K H2 ι2 H' ι3 ∧ Zaz X.K H' ι3 M3 ∧ ZbF X.K H' ι3 env4 σ' ∧ ZfU X.K H' ι3 D (Zcb it.lk g u (it.items.drop (i + 1)) env4 M3),
      fun σ' H' ⟨ι3,M3,env4,x3,S3,E3,h3⟩=>⟨it.items.length - (i + 1),lD 2 0x30113c2012a1c0c21 T1 (Nat.sub_add_cancel (lB 1 6991908881 T1 hlt)) (sbA _ _),rfl,hlt,ι3,M3,env4,x2.trans x3,S3,E3,h3⟩,fun x H' hy=>?_⟩
     obtain ⟨x7,S7,rx⟩:=yl x H' hy
     refine ⟨ι2,M2,env2,_,env3,S7,E2.mono x7,rx,eg,fun σ' E'=>⟨ι2,M2,env3,S7,E',?_⟩⟩
     have h2':=ZfU.up x7 h2
     cases qu:u env3 M2 with
     | nx e' M'=>simp only [qu] at h2'; exact fun σ' H' ι' x' S' E'=>⟨ι',M',e',x7.trans x',S',E',h2'.up x'⟩
     | ct e' M'=>simp only [qu] at h2'; exact fun σ' H' ι' x' S' E'=>⟨ι',M',e',x7.trans x',S',E',h2'.up x'⟩
     | bk e' M'=>simp only [qu] at h2'; exact h2'
     | rt d M'=>simp only [qu] at h2'; exact h2'
     | exc x' M'=>simp only [qu] at h2'; exact h2'.elim
     | bad=>simp only [qu] at h2'; exact h2'.elim
   ·rw [if_neg lk] at h2; exact h2.elim
  ·have e0:i = it.items.length:=Nat.le_antisymm hi (Nat.le_of_not_lt hlt)
   subst e0
   rw [List.drop_length] at h2
   first | rw [Ze1] at h2 | rw [Ze3] at h2
   by_cases lk:Za5 it.lk M2 = true
   ·rw [if_pos lk] at h2
    exact .inl ⟨(ok _ H2 ι2 M2 x2 S2 lk).2 rfl,h2 σ2 H2 ι2 Ext.refl S2 E2⟩
   ·rw [if_neg lk] at h2; exact h2.elim
end
theorem _root_.L2.Inv.turnedL {X:Cx} {pins:List (Addr × Obj)} {σ:St} {H:Hp} {s:Shared} {h':Heap} {t':Nat} {fp:List Addr} (I:Inv X pins σ H s) (k:∀ b o,b ∉ fp → s.heap.get? b = some o → h'.get? b = some o) (hf:∀ b ∈ fp,ZeC X pins H b):
  Inv X pins σ H { s with heap:=h',toks:=t' }:=by
 have nit:∀ b u,H b = some u → b ∉ fp:=fun b u e z=>by rw [(hf b z).1] at e; cases e
 refine I.step (g':=s.gens) (d':=s.drawn) (ch:=fp) (fun b hb=>⟨(hf b hb).2.2.2.1,(hf b hb).2.1,(hf b hb).2.2.2.2.1,(hf b hb).2.2.2.2.2⟩) (fun b o _ _ hc e _=>k b o hc e) (fun b o _ _ hc e _=>⟨o.slots,k b o hc e⟩) (fun _ _ _ _ n=>n)
  (fun b o hc e=>⟨o,k b o hc e⟩) (fun _ _ e=>e) (fun _ _ _ e=>e) (fun b ps e=>⟨#[],by rw [e]; simp⟩) (fun m hm=>?_) (fun b u e=>?_) I.bare
 ·obtain ⟨o,es,ep,ho,r⟩:=hm
  exact ⟨o,es,ep,k _ o (fun z=>(hf _ z).2.1 rfl) ho,r⟩
 ·refine (I.hok b u e).stay (fun c v hc q=>k c v ?_ q) (fun _ q=>q) fun _ _ q=>q
  rcases hc with z | z
  ·rw [z]; exact nit b u e
  ·exact nit c _ z
noncomputable def Ite (S:Hp → List V → Prop):It:=⟨fun i H=>∃ xs x,S H xs ∧ xs[i]? = some x,fun i H x H'=>∃ T y,x = .ref T ∧ H T = none ∧ H' = upd H T (.tup [.int i,y]) ∧ ∀ xs,S H xs → xs[i]? = some y,fun i H=>∃ xs,S H xs ∧ xs.length ≤ i⟩
theorem ZiW {X:Cx} {pins:List (Addr × Obj)} {σ:St} {H:Hp} {s:Shared} {h' h'':Heap} {e it:Addr} {i:Nat} {x:V} {u:Value} {tk tk':Nat} (I:Inv X pins σ H s) (hf:∀ b ∈ [e,it],ZeC X pins H b) (he:e < s.heap.objs.size) (hi:it < s.heap.objs.size) (ru:RelV x u)
  (hT:h'.get? s.heap.objs.size = some { cls:=.type "tuple",data:=.seq #[.int i tk,u] }) (hk:∀ b o,b ≠ e → b ≠ it → s.heap.get? b = some o → h'.get? b = some o) (hs:Heap.SameBut e h' h''):
  Inv X pins σ (upd H s.heap.objs.size (.tup [.int i,x])) { s with heap:=h'',toks:=tk' } ∧ ∀ b ∈ [e,it],upd H s.heap.objs.size (.tup [.int i,x]) b = none:=by
 have hn:∀ b ∈ [e,it],upd H s.heap.objs.size (.tup [.int i,x]) b = none:=fun b hb=>by
  have:b ≠ s.heap.objs.size:=by
   simp only [List.mem_cons,List.not_mem_nil,or_false] at hb
   rcases hb with rfl | rfl
   ·exact Nat.ne_of_lt he
   ·exact Nat.ne_of_lt hi
  rw [Zbw this]; exact (hf b hb).1
 refine ⟨?_,hn⟩
 have I1:Inv X pins σ (upd H s.heap.objs.size (.tup [.int i,x])) { s with heap:=s.heap.push { cls:=.type "tuple",data:=.seq ([.int i tk,u]:List Value).toArray },toks:=s.toks }:=
  I.laid (t':=s.toks) (fun b o e=>Heap.get?_push_of_some _ e) (Nat.le_refl _) (show ZbU X.prog X.w _ _ _ (.tup [.int i,x]) from ⟨by rw [sizeLine_eq]; show 2 ≤ _; decide,[.int i tk,u],.cons ⟨tk,rfl⟩ (.cons ru .nil),ZeE.new _ _⟩)
 have I3:=I1.turnedL (t':=tk') (h':=h'') (fp:=[e,it]) (fun b o hb q=>by
  have hbe:b ≠ e:=fun z=>hb (by simp [z])
  have hbi:b ≠ it:=fun z=>hb (by simp [z])
  rcases Heap.get?_push_cases q with ⟨rfl,rfl⟩ | q
  ·exact (hs.2 _ (Nat.ne_of_gt he)).trans hT
  ·exact (hs.2 _ hbe).trans (hk b o hbe hbi q)) fun b hb=>⟨hn b hb,(hf b hb).2⟩
 exact I3
theorem ZlT {P:Program} {w:World} {K:PySem.W.Frag} {es:List Expr} {k:Nat} {pos:Pos} (a e it:Addr) (hne:e ≠ it):
  Turn P w K (.Tuple es k pos) (Ite fun H xs=>SqL K H a xs) [e,it] e (fun i h=>(∃ old,IsEnum h e it i old) ∧ h.IsListIter it a i) where
 mem:=by simp
 obj:=fun i h st b hb=>by
  obtain ⟨⟨old,he⟩,o,ho,c,d⟩:=st
  simp only [List.mem_cons,List.not_mem_nil,or_false] at hb
  rcases hb with rfl | rfl
  ·exact ⟨_,he,fun v z=>by cases z⟩
  ·exact ⟨o,ho,fun v z=>by rw [d] at z; cases z⟩
 keep:=fun i h h' st k=>by
  obtain ⟨⟨old,he⟩,hit⟩:=st
  exact ⟨⟨old,k e (by simp) _ he⟩,hit.at fun o q=>k it (by simp) o q⟩
 item:=by
  intro X hP hw hK hc i pins s σ H E I hf st hg
  subst hP hw hK
  obtain ⟨xs,x,hq,hx⟩:=hg
  obtain ⟨its,rv,p,hz⟩:=I.list hq
  obtain ⟨u,hu,ru⟩:=rv.get hx
  obtain ⟨⟨old,he⟩,hit⟩:=st
  have hel:=Heap.lt_size he
  have hil:it < s.heap.objs.size:=by obtain ⟨o,ho,_⟩:=id hit; exact Heap.lt_size ho
  refine wpAny_pyNext_enum_item he hit p.isList (x:=u) (by simpa using hu) hne fun h' ho hit' hT hsz hk=>?_
  refine ⟨_,rfl,wpAny_letOwnedTupleGo_enum (s:={ s with heap:=h',toks:=s.toks + 1 }) ho fun h'' he'' hs''=>?_⟩
  obtain ⟨I2,n2⟩:=ZiW (x:=x) (tk':=s.toks + 1) I hf hel hil ru hT hk hs''
  exact ⟨.ref s.heap.objs.size,_,I2,rfl,⟨_,x,rfl,I.hok.fresh (Nat.le_refl _),rfl,fun ys hy=>by rw [I.list_inj hy hq]; exact hx⟩,⟨⟨_,by simpa using he''⟩,hit'.extBut hs''.extBut (Ne.symm hne)⟩,n2⟩
 done:=by
  intro X hP hw hK hc i pins s σ H E I hf st hg
  subst hP hw hK
  obtain ⟨xs,hq,hx⟩:=hg
  obtain ⟨its,rv,p,hz⟩:=I.list hq
  obtain ⟨⟨old,he⟩,hit⟩:=st
  have hl:=rv.length
  exact wpAny_pyNext_enum_end (I.ok.hd hc) he hit p.isList (by simp; exact lC 2 2268279672881 T1 hl hx) fun h' eb=>⟨rfl,I.turnedL (t':=s.toks) (fun b o hb q=>eb b o (fun z=>hb (by simp [z])) q) hf⟩
 self:=fun _ _ _ _ _ st h=>by
  obtain ⟨⟨old,he⟩,_⟩:=st
  exact wpAny_pyIter_enum he h
theorem boot_enumerate:bootBuiltins "enumerate" = some (.type "enumerate"):=by decide +kernel
end L3
namespace L3
open PySem PySem.Spec PyProof.Rows L2
open AutoSeq1 (wpAny_loadPart')
set_option maxRecDepth 100000
section
variable {prog:Program} {w:World} {A:Around} {E:Value → Shared → Prop} {s:Shared}
theorem Zgw {it t:Addr} {i:Nat} {items:Array Value} {x:Value} {Q:Value → Shared → Prop} (hit:s.heap.IsTupleIter it t i) (ht:s.heap.IsTuple t items) (hx:items[i]? = some x)
  (hQ:∀ h',h'.IsTupleIter it t (i + 1) → Heap.SameBut it s.heap h' → Q x { s with heap:=h' }):wpAny (model prog w) A (Builtin.SmallTypes.nextOf (.ref it)) Q E s:=by
 obtain ⟨o,ho,hc,hd⟩:=id hit
 obtain ⟨ol,hol,_,nl,hdl⟩:=ht
 unfold Builtin.SmallTypes.nextOf
 refine wpAny_bind (wpAny_callSpecial?_slot (name:=Str.ofString "__next__") hit.typeIs slot_tupleiter_next
  (wpAny_call_entry slot_tupleiter_next hit.typeIs entry_tupleiter_next ?_ (args_tupleiter_next _)))
 show wpAny _ _ (field (.ref it) 0 >>= _) _ _ s
 refine wpAny_bind (wpAny_field ho hd (x:=.ref t) rfl ?_)
 show wpAny _ _ (if (Value.ref t == Value.none) = true then _ else _) _ _ s
 rw [if_neg (show ¬ ((Value.ref t == Value.none) = true) from Bool.false_ne_true)]
 show wpAny _ _ (field (.ref it) 1 >>= _) _ _ s
 refine wpAny_bind (wpAny_field ho hd (x:=.int i 0) rfl ?_)
 show wpAny _ _ (seqItems? (.ref t) >>= _) _ _ s
 refine wpAny_bind (wpAny_seqItems hol hdl ?_)
 simp only [Int.toNat_natCast,hx]
 refine wpAny_bind (wpAny_setField ho hd (by simp) (wpAny_pure ⟨x,rfl,wpAny_pure (hQ _ ?_ (Heap.SameBut.update ..))⟩))
 exact ⟨_,Heap.get?_update_self _ ho (Obj.isFreed_of_fields (Obj.data_mapFields hd _)),(Obj.cls_mapFields ..).trans hc,by
  rw [Obj.data_mapFields hd]; simp [rawInt]⟩
theorem ZeM {it t:Addr} {i:Nat} {items:Array Value} {Q:Value → Shared → Prop} (hh:A.handled = none) (hit:s.heap.IsTupleIter it t i) (ht:s.heap.IsTuple t items) (hx:items[i]? = none)
  (hE:∀ h' e,Heap.ExtBut it s.heap h' → (∃ o,h'.get? e = some o ∧ o.cls = .type "StopIteration") → E (.ref e) { s with heap:=h' }):wpAny (model prog w) A (Builtin.SmallTypes.nextOf (.ref it)) Q E s:=by
 obtain ⟨o,ho,hc,hd⟩:=id hit
 obtain ⟨ol,hol,_,nl,hdl⟩:=ht
 unfold Builtin.SmallTypes.nextOf
 refine wpAny_bind (wpAny_callSpecial?_slot (name:=Str.ofString "__next__") hit.typeIs slot_tupleiter_next
  (wpAny_call_entry slot_tupleiter_next hit.typeIs entry_tupleiter_next ?_ (args_tupleiter_next _)))
 show wpAny _ _ (field (.ref it) 0 >>= _) _ _ s
 refine wpAny_bind (wpAny_field ho hd (x:=.ref t) rfl ?_)
 show wpAny _ _ (if (Value.ref t == Value.none) = true then _ else _) _ _ s
 rw [if_neg (show ¬ ((Value.ref t == Value.none) = true) from Bool.false_ne_true)]
 show wpAny _ _ (field (.ref it) 1 >>= _) _ _ s
 refine wpAny_bind (wpAny_field ho hd (x:=.int i 0) rfl ?_)
 show wpAny _ _ (seqItems? (.ref t) >>= _) _ _ s
 refine wpAny_bind (wpAny_seqItems hol hdl ?_)
 simp only [Int.toNat_natCast,hx]
 refine wpAny_bind (wpAny_rule (wpAny_bind (wpAny_setField ho hd (by simp) ?_)))
 show wpAny _ _ (newExc (.type "StopIteration") [] >>= _) _ _ _
 refine wpAny_bind ?_
 simp only [newExc,newTuple]
 refine wpAny_bind (wpAny_newObj_type ?_ (by size_fits))
 refine wpAny_bind (m:=firstArgMember _ _) (wpAny_of_eq (a:=Value.none) (by first | rfl | (simp only [firstArgMember]; rfl)) ?_)
 refine wpAny_newObj_type ?_ (by size_fits)
 simp only [raiseNew]
 refine wpAny_bind (wpAny_handled ?_)
 first | rw [show A.in1.handled = none from hh] | rw [hh]
 refine wpAny_bind (wpAny_pure (wpAny_throw ?_))
 exact hE _ _ (((Heap.SameBut.update ..).extBut.push _).push _) ⟨_,Heap.get?_push_size _ rfl,rfl⟩
end
theorem ZkR {prog:Program} {w:World} {A:Around} (hh:A.handled = none) (it l:Addr) (hne:l ≠ it) (items:Array Value):
  Draws prog w A it [it,l] items.size (fun i v=>items[i]? = some v) (fun i h=>h.IsTupleIter it l i ∧ h.IsTuple l items) where
 live:=fun _ _ st=>let ⟨o,ho,_⟩:=st.1; ⟨o,ho⟩
 frame:=fun _ _ _ st hk=>⟨st.1.at fun o e=>hk it (by simp) o e,st.2.at fun o e=>hk l (by simp) o e⟩
 item:=fun i s Q E hi st hQ=>by
  refine Zgw st.1 st.2 (x:=items[i]) (by simp [hi]) fun h' hit' hs'=>?_
  exact hQ _ h' s.toks (by simp [hi]) ⟨hit',st.2.extBut hs'.extBut hne⟩ hs'
 done:=fun s Q E st hE=>ZeM hh st.1 st.2 (by simp) hE
theorem ZfA (l:Addr) (items:Array Value) (n:Nat) (dct:Option Addr) (sl:Array (Option Value)):
  Meets (Builtin.«enumerate.__new__» ⟨[.type "enumerate",.ref l],[]⟩) (fun _ R s=>s.heap.get? l = some { cls:=.type "tuple",dict:=dct,data:=.seq items n,slots:=sl } ∧
   R (.ok (.ret (.ref (s.heap.push { cls:=.type "tuple_iterator",data:=.fields #[.ref l,.int 0 0] }).objs.size)))
    { s with heap:=(s.heap.push { cls:=.type "tuple_iterator",data:=.fields #[.ref l,.int 0 0] }).push { cls:=.type "enumerate",data:=.fields #[.none,.bool false,.ref s.heap.objs.size,rawInt 0,.none,.none] } }):=
 .of_wp fun prog w A R s h=>by
  obtain ⟨hp,g,d,tk,os⟩:=s; obtain ⟨hl,h⟩:=h
  have hsub:=sub_enumerate
  have hL:Heap.IsTuple (Shared.heap ⟨hp,g,d,tk,os⟩) l items:=⟨_,hl,rfl,n,rfl⟩
  wp_walk using wpAny_loadPart' hl
  refine wpAny_stack_any fun st=>wpAny_pure ?_
  split
  ·rename_i c _ _ _ _ _
   cases (c == Value.type "enumerate")
   ·wp_walk using wpAny_loadPart' hl,wpAny_pyIter_tuple hL
    exact ⟨_,rfl,h⟩
   ·wp_walk using wpAny_loadPart' hl,wpAny_pyIter_tuple hL
    exact ⟨_,rfl,h⟩
  ·wp_walk using wpAny_loadPart' hl,wpAny_pyIter_tuple hL
   exact ⟨_,rfl,h⟩
theorem Zfw {prog:Program} {w:World} {A:Around} {E:Value → Shared → Prop} {s:Shared} {l:Addr} {items:Array Value} {Q:Value → Shared → Prop} (hL:s.heap.IsTuple l items)
  (h:∀ h',IsEnum h' (s.heap.objs.size + 1) s.heap.objs.size 0 .none → h'.IsTupleIter s.heap.objs.size l 0 → h'.objs.size = s.heap.objs.size + 2 →
   (∀ b o,s.heap.get? b = some o → h'.get? b = some o) → Q (.ref (s.heap.objs.size + 1)) { s with heap:=h' }):
  wpAny (model prog w) A (call (.type "enumerate") [.ref l]) Q E s:=by
 obtain ⟨⟨c,dct,dt,sl⟩,hl,hc,n,hd⟩:=hL
 replace hc:c = .type "tuple":=hc
 replace hd:dt = .seq items n:=hd
 subst hc hd
 refine callType_new F.called_enumerate (by decide) (F.typeCall_enumerate_1 _) (F.newCall_enumerate_1 _) (fun obj=>F.args_object_init_2 obj _) F.entry_enumerate_new
  (ZfA l items n dct sl) ⟨hl,?_⟩
 have hz:(s.heap.push { cls:=.type "tuple_iterator",data:=.fields #[.ref l,.int 0 0] }).objs.size = s.heap.objs.size + 1:=Heap.size_push ..
 show _ ∧ _
 rw [hz]
 have he:IsEnum ((s.heap.push { cls:=.type "tuple_iterator",data:=.fields #[.ref l,.int 0 0] }).push
   { cls:=.type "enumerate",data:=.fields #[.none,.bool false,.ref s.heap.objs.size,rawInt 0,.none,.none] }) (s.heap.objs.size + 1) s.heap.objs.size 0 .none:=by
  have:=Heap.get?_push_size (s.heap.push { cls:=.type "tuple_iterator",data:=.fields #[.ref l,.int 0 0] })
   (o:={ cls:=.type "enumerate",data:=.fields #[.none,.bool false,.ref s.heap.objs.size,rawInt 0,.none,.none] }) rfl
  rw [hz] at this; exact this
 refine ⟨⟨_,he,rfl⟩,h _ he ⟨_,Heap.get?_push_of_some _ (Heap.get?_push_size _ rfl),rfl,rfl⟩ (by rw [Heap.size_push,hz]) fun b o x=>Heap.get?_push_of_some _ (Heap.get?_push_of_some _ x)⟩
theorem ZlK {P:Program} {w:World} {K:PySem.W.Frag} {es:List Expr} {k:Nat} {pos:Pos} (a e it:Addr) (hne:e ≠ it):
  Turn P w K (.Tuple es k pos) (Ite fun H xs=>SqT K H a xs) [e,it] e (fun i h=>(∃ old,IsEnum h e it i old) ∧ h.IsTupleIter it a i) where
 mem:=by simp
 obj:=fun i h st b hb=>by
  obtain ⟨⟨old,he⟩,o,ho,c,d⟩:=st
  simp only [List.mem_cons,List.not_mem_nil,or_false] at hb
  rcases hb with rfl | rfl
  ·exact ⟨_,he,fun v z=>by cases z⟩
  ·exact ⟨o,ho,fun v z=>by rw [d] at z; cases z⟩
 keep:=fun i h h' st k=>by
  obtain ⟨⟨old,he⟩,hit⟩:=st
  exact ⟨⟨old,k e (by simp) _ he⟩,hit.at fun o q=>k it (by simp) o q⟩
 item:=by
  intro X hP hw hK hc i pins s σ H E I hf st hg
  subst hP hw hK
  obtain ⟨xs,x,hq,hx⟩:=hg
  obtain ⟨its,rv,p,hz⟩:=I.tuple hq
  obtain ⟨u,hu,ru⟩:=rv.get hx
  obtain ⟨⟨old,he⟩,hit⟩:=st
  have hel:=Heap.lt_size he
  have hil:it < s.heap.objs.size:=by obtain ⟨o,ho,_⟩:=id hit; exact Heap.lt_size ho
  have pt:s.heap.IsTuple a its.toArray:=p
  have hae:e ≠ a:=by
   rintro rfl
   obtain ⟨o,ho,hc,_⟩:=pt
   rw [he] at ho; cases ho
   exact absurd hc (by simp)
  have hai:a ≠ it:=by
   rintro rfl
   obtain ⟨o,ho,hc,_⟩:=pt
   obtain ⟨o',ho',hc',_⟩:=hit
   rw [ho'] at ho; cases ho
   rw [hc'] at hc
   exact absurd hc (by simp)
  have D:=ZkR (prog:=X.prog) (w:=X.w) (A:=X.A.in1) (I.ok.hd hc) it a hai its.toArray
  refine wpAny_pyNext_enum_itemD D he ⟨hit,pt⟩ (by simpa using (List.getElem?_eq_some_iff.mp hu).1) hne (by simp [hne,hae]) fun y h' tk hy ho hst hT hsz hk=>?_
  have ey:y = u:=by
   have:its.toArray[i]? = some u:=by simpa using hu
   rw [this] at hy; cases hy; rfl
  subst ey
  refine ⟨_,rfl,wpAny_letOwnedTupleGo_enum (s:={ s with heap:=h',toks:=tk + 1 }) ho fun h'' he'' hs''=>?_⟩
  obtain ⟨I2,n2⟩:=ZiW (x:=x) (tk':=tk + 1) I hf hel hil ru hT hk hs''
  exact ⟨.ref s.heap.objs.size,_,I2,rfl,⟨_,x,rfl,I.hok.fresh (Nat.le_refl _),rfl,fun ys hy=>by rw [I.tuple_inj hy hq]; exact hx⟩,⟨⟨_,by simpa using he''⟩,hst.1.extBut hs''.extBut (Ne.symm hne)⟩,n2⟩
 done:=by
  intro X hP hw hK hc i pins s σ H E I hf st hg
  subst hP hw hK
  obtain ⟨xs,hq,hx⟩:=hg
  obtain ⟨its,rv,p,hz⟩:=I.tuple hq
  obtain ⟨⟨old,he⟩,hit⟩:=st
  have hl:=rv.length
  have pt:s.heap.IsTuple a its.toArray:=p
  have hT:s.TypeIs (.ref e) "enumerate":=⟨_,he,rfl⟩
  unfold pyNext
  refine wpAny_bind (wpAny_attempt (wpAny_callSpecial?_slot (name:=Str.ofString "__next__") hT F.slot_enumerate_next
   (wpAny_call_entry F.slot_enumerate_next hT F.entry_enumerate_next ?_ (F.args_enumerate_next_1 _))))
  show wpAny _ _ (field (.ref e) 2 >>= _) _ _ _
  refine wpAny_bind (wpAny_field he rfl (x:=.ref it) rfl ?_)
  refine wpAny_bind (ZeM (I.ok.hd hc) hit pt (by simp; exact lC 2 2268279672881 T1 hl hx) fun h' x he' hx'=>?_)
  obtain ⟨o,ho,hc⟩:=hx'
  refine wpAny_bind (wpAny_isInstance (T:="StopIteration") (b:=true) ⟨o,ho,hc⟩ isSubtype_stop ?_)
  exact wpAny_pure ⟨rfl,I.turnedL (t':=s.toks) (fun b o hb q=>he' b o (fun z=>hb (by simp [z])) q) hf⟩
 self:=fun _ _ _ _ _ st h=>by
  obtain ⟨⟨old,he⟩,_⟩:=st
  exact wpAny_pyIter_enum he h
section
variable {X:Cx} {es:List Expr} {k:Nat} {a:Expr} {p pos tpos:Pos} {f:E3}
def Zs2 (K:PySem.W.Frag) (ta:TA):TI:=fun σ H R=>ta σ H fun vs H1=>∃ b,vs = [.ref b] ∧ ((∃ xs,SqL K H1 b xs ∧ R (Ite fun H xs=>SqL K H b xs) H1) ∨ ∃ xs,SqT K H1 b xs ∧ R (Ite fun H xs=>SqT K H b xs) H1)
theorem ZqE {ta:TA} (hg:Gl X "enumerate") (hm:X.mg "enumerate" = none) (ha:PA X [a] ta) (hs:starEach [a] X.env = [(false,eval a X.env)]:=by rfl):PI X (.Tuple es k tpos) (.Call (.Name "enumerate" p) [a] [] pos) (Zs2 X.K ta):=by
 intro pins s σ H R I h
 refine Call_ (ZhT I hg hm boot_enumerate (PyProof.Rows.callWith_type1 (thn (ha pos pins s σ H _ I h) fun us s1 ⟨vs,H1,I1,r1,q1⟩=>?_) hs rfl))
 obtain ⟨b,e,q⟩:=q1
 subst e
 cases r1 with
 | cons r rr=>
  cases rr
  cases r
  have fp:∀ {h':Heap} {s2:Shared},∀ c ∈ [s1.heap.objs.size + 1,s1.heap.objs.size],ZeC X pins H1 c:=fun {h' s2} c hc=>by
   have hc':s1.heap.objs.size ≤ c:=by
    simp only [List.mem_cons,List.not_mem_nil,or_false] at hc
    rcases hc with rfl | rfl <;> omega
   exact I1.fpOk hc' (I1.hok.fresh hc')
  rcases q with ⟨xs,hq,q⟩ | ⟨xs,hq,q⟩
  ·obtain ⟨its,rv,pl,hz⟩:=I1.list hq
   refine call_enumerate_list pl.isList fun h' hE hI hsz hk=>?_
   have I2:Inv X pins σ H1 { s1 with heap:=h' }:=I1.kept (t':=s1.toks) hk
   exact wpAny_pyIter_enum (s:={ s1 with heap:=h' }) hE ⟨_,[s1.heap.objs.size + 1,s1.heap.objs.size],_,_,H1,rfl,I2,ZlT b _ _ (Nat.succ_ne_self _),⟨⟨_,hE⟩,hI⟩,fp (h':=h') (s2:=s1),q⟩
  ·obtain ⟨its,rv,pl,hz⟩:=I1.tuple hq
   refine Zfw (show s1.heap.IsTuple b its.toArray from pl) fun h' hE hI hsz hk=>?_
   have I2:Inv X pins σ H1 { s1 with heap:=h' }:=I1.kept (t':=s1.toks) hk
   exact wpAny_pyIter_enum (s:={ s1 with heap:=h' }) hE ⟨_,[s1.heap.objs.size + 1,s1.heap.objs.size],_,_,H1,rfl,I2,ZlK b _ _ (Nat.succ_ne_self _),⟨⟨_,hE⟩,hI⟩,fp (h':=h') (s2:=s1),q⟩
theorem ZfK (hm:X.mg "enumerate" = none) (h:C3 X a f) (hg:Gl X "enumerate":=by rfl) (hs:starEach [a] X.env = [(false,eval a X.env)]:=by rfl) (hs':starEach (a :: []) X.env = (false,eval a X.env) :: starEach [] X.env:=by rfl):CIL X (.Tuple es k tpos) (.Call (.Name "enumerate" p) [a] [] pos) (Zfm f):=
 PI.imp (ZqE hg hm (Zb h Zf hs') hs) fun σ H R zz1=>by
  obtain ⟨ι,M,env,S,E,h⟩:=zz1
  obtain ⟨d,M1,e1,h⟩:=Zkn.bind h
  refine ⟨ι,M,env,S,E,?_⟩
  have e2:Za f Ze env M = .ok [d] M1:=by unfold Za; rw [e1]; rfl
  rw [e2]
  intro vs H1 ι1 x1 S1 r1
  obtain ⟨v,ws,rfl,r,q⟩:=r1.cons_inv
  have:=q.nil_inv
  subst this
  cases d with
  | tup ds=>
   obtain ⟨b,vs,rfl,s,r⟩:=r.tup_inv
   refine ⟨b,rfl,.inr ⟨vs,s,h _ H1 ι1 x1 S1 ?_⟩⟩
   intro i H2 ι2 M2 x S2 _
   refine ⟨fun d hd=>?_,fun hl=>⟨vs,x.tup _ _ s,by rw [r.length,hl,Zg3]; exact Nat.le_refl _⟩⟩
   rw [Zg4] at hd
   cases hq:ds[i]? with
   | none=>rw [hq] at hd; cases hd
   | some d0=>
    rw [hq] at hd
    simp only [Option.map_some,Nat.zero_add,Option.some.injEq] at hd
    subst hd
    obtain ⟨v,hv,rv⟩:=r.get hq
    refine ⟨⟨vs,v,x.tup _ _ s,hv⟩,fun y H3 hy=>?_⟩
    obtain ⟨T,y',rfl,hT,rfl,hall⟩:=hy
    have e:=hall vs (x.tup _ _ s)
    rw [hv] at e
    cases e
    exact S2.tupl hT (Zac.cons Rep.int (Zac.cons (rv.mono x) Zac.nil))
  | ref n=>
   cases hm:M1[n]? with
   | none=>simp only [hm] at h; exact h.elim
   | some o=>
    cases o with
    | dct kvs=>simp only [hm] at h; exact h.elim
    | fdct kvs=>simp only [hm] at h; exact h.elim
    | ins _ _=>simp only [hm] at h; exact h.elim
    | lst ds=>
     simp only [hm] at h
     obtain ⟨b,ha,rfl⟩:=r.ref_inv
     obtain ⟨vs,q,r⟩:=S1.obj n _ b hm ha
     refine ⟨b,rfl,.inl ⟨vs,SqL.of q,h _ H1 ι1 x1 S1 ?_⟩⟩
     intro i H2 ι2 M2 x S2 lk
     have lk':M2[n]? = some (.lst ds):=by simpa [Za5] using lk
     obtain ⟨vs2,q2,r2⟩:=S2.obj n _ b lk' (x.pre _ _ ha)
     refine ⟨fun d hd=>?_,fun hl=>⟨vs2,SqL.of q2,by rw [r2.length,hl,Zg3]; exact Nat.le_refl _⟩⟩
     rw [Zg4] at hd
     cases hq:ds[i]? with
     | none=>rw [hq] at hd; cases hd
     | some d0=>
      rw [hq] at hd
      simp only [Option.map_some,Nat.zero_add,Option.some.injEq] at hd
      subst hd
      obtain ⟨v,hv,rv⟩:=r2.get hq
      refine ⟨⟨vs2,v,SqL.of q2,hv⟩,fun y H3 hy=>?_⟩
      obtain ⟨T,y',rfl,hT,rfl,hall⟩:=hy
      have e:=hall vs2 (SqL.of q2)
      rw [hv] at e
      cases e
      exact S2.tupl hT (Zac.cons Rep.int (Zac.cons rv Zac.nil))
  | _=>exact h.elim
end
end L3
namespace L3
open PySem PySem.Spec PyProof.Rows L2
section
variable {X:Cx}
theorem Zr3:bootBuiltins "max" = some (.builtin "max"):=by decide +kernel
theorem Zqw {K:PySem.W.Frag} {H:Hp} {ι:List Addr} {i j:Int} {xs:List V} (r:Zac K H ι [.int i,.int j] xs):xs = [.int i,.int j]:=by
 obtain ⟨v1,vs1,rfl,q1,r⟩:=r.cons_inv
 obtain ⟨v2,vs2,rfl,q2,r⟩:=r.cons_inv
 have:=r.nil_inv
 subst this
 have e1:=q1.int_inv
 have e2:=q2.int_inv
 subst e1 e2
 rfl
theorem Zse (hc:X.calm = true):ZbA X (.builtin "max") (rB X.K ZiJ):=ZbA.imp (Zne hc) fun xs H Q zz1=>by
 obtain ⟨ι,M,ds,S,rd,h⟩:=zz1
 unfold ZiJ at h
 split at h
 ·exact ⟨_,_,Zqw rd,h _ H ι Ext.refl S Rep.int⟩
 ·exact h.elim
noncomputable def ofV:Value → D
 | .int i _=>.int i
 | .bool b=>.bl b
 | .str x _=>.str x.cps.toList
 | _=>.non
theorem ZmO {K:PySem.W.Frag} {H:Hp} {ι:List Addr} {d:D} {v:V} {y:Value} (hf:Zbs d = true) (r:Rep K H ι d v) (rv:RelV v y):ofV y = d:=by
 cases d with
 | non=>have:=r.non_inv; subst this; cases rv; rfl
 | bl b=>have:=r.bl_inv; subst this; cases rv; rfl
 | int i=>have:=r.int_inv; subst this; obtain ⟨t,rfl⟩:=rv; rfl
 | str x=>have:=r.str_inv; subst this; obtain ⟨t,rfl⟩:=rv; rfl
 | _=>simp [Zbs] at hf
theorem Zmr {K:PySem.W.Frag} {H:Hp} {ι:List Addr} {a:D}:∀ {ds:List D} {vs:List V} {its:List Value},Zac K H ι ds vs → Vals vs its → ds.all Zbs = true → (ds.any fun y=>deq y a) = its.any fun y=>deq (ofV y) a
 | [],vs,its,r,rv,_=>by
  have:=r.nil_inv
  subst this
  cases rv
  rfl
 | d :: ds,vs,its,r,rv,hf=>by
  obtain ⟨v,ws,rfl,r1,r2⟩:=r.cons_inv
  cases rv with
  | cons q rv=>
   simp only [List.all_cons,Bool.and_eq_true] at hf
   simp only [List.any_cons,Zmr r2 rv hf.2,ZmO hf.1 r1 q]
end
end L3
namespace L3
open PySem PySem.Spec PyProof.Rows L2
open AutoSeq1 (wpAny_loadPart')
set_option maxRecDepth 100000
theorem Zf2 (l:Addr) (items:Array Value) (n:Nat) (b:Addr) (items2:Array Value) (n2:Nat) (sl:Array (Option Value)) (hl:¬ (!items.isEmpty && Builtin.List.listTooLong (items.size + items2.size)) = true) (hz:items.size ≤ sizeLine) (hz2:items.size + items2.size ≤ sizeLine + 1):
  Meets (Builtin.«list.extend» ⟨[.ref l,.ref b],[]⟩) (fun _ R s=>s.heap.get? l = some { cls:=.type "list",data:=.seq items n } ∧ s.heap.get? b = some { cls:=.type "tuple",data:=.seq items2 n2,slots:=sl } ∧
   R (.ok (.ret .none)) { s with heap:=s.heap.update l (Obj.mapSeq fun x=>x ++ items2) }):=
 .of_wp fun prog w A R s h=>by
  obtain ⟨hp,g,d,tk,os⟩:=s; obtain ⟨h1,h2,h⟩:=h
  wp_walk using wpAny_loadPart' h1,wpAny_loadPart' h2
  rw [show (Obj.mapSeq (fun x=>x ++ items2) { cls:=Value.type "list",data:=Data.seq items n }).data.pastItsLine = none by
   show (if (items ++ items2).size > sizeLine + 1 then some "sequence:memory" else none) = none
   rw [if_neg (by rw [Array.size_append]; exact fun z=>lC 2 0x6a0c21c0121ca0c11 T1 z hz2)]]
  exact wpAny_pure (wpAny_pure ⟨_,rfl,h⟩)
section
variable {X:Cx} {o e:Expr} {es:List Expr} {apos cpos:Pos} {f:E3} {gl:EL3}
noncomputable def Zk1 (K:PySem.W.Frag):V → List V → Hp → VK → Prop:=fun x vs H Q=>∃ l b xs zs,x = .ref l ∧ vs = [.ref b] ∧ H l = some (.lst xs) ∧ SqT K H b zs ∧ xs.length + zs.length ≤ sizeLine ∧ Q .non (upd H l (.lst (xs ++ zs)))
theorem Zlh:MtR X "list.extend" (Zk1 X.K):=by
 intro pins s σ H x vs v us Q I rx rv h
 obtain ⟨l,b,xs,zs,rfl,rfl,hH,hB,hz,q⟩:=h
 cases rx
 obtain ⟨u,rfl,ru⟩:=rv.one
 cases ru
 obtain ⟨z,its,n,r,hl,e⟩:=I.lstM hH
 obtain ⟨its2,r2,⟨⟨c,dc,dt,sl⟩,e2,⟨hc,hd⟩,n2,hs⟩,z2⟩:=I.tupleN hB
 replace hc:c = .type "tuple":=hc
 replace hd:dc = none:=hd
 replace hs:dt = .seq its2.toArray n2:=hs
 subst hc hd hs
 have hl2:=r2.length
 have hsz:its.toArray.size + its2.toArray.size ≤ sizeLine:=by rw [List.size_toArray,List.size_toArray]; exact lE 3 0x413c0402c0132311031 T1 hl2 hl hz
 have hlong:¬ (!its.toArray.isEmpty && Builtin.List.listTooLong (its.toArray.size + its2.toArray.size)) = true:=by
  rw [ZhX hsz,Bool.and_false]
  exact Bool.false_ne_true
 refine call_meets F.slot_list_extend ⟨_,e,rfl⟩ F.entry_list_extend (F.args_list_extend_2 _ _)
  (Zf2 l its.toArray n b its2.toArray n2 sl hlong (by rw [List.size_toArray]; exact lC 2 2268279672881 T1 hl z) (lC 1 0xa2c10c0210c01 T1 hsz)) ⟨e,e2,?_⟩
 refine ⟨.non,_,I.lset (its':=its ++ its2) hH e (by simp) (r.append r2) ?_,rfl,q⟩
 rw [List.length_append]
 exact hz
theorem ZoZ:MtR X "list.extend" (rM X.K Zcn):=MtR.imp (r:=fun x xs H Q=>ZmH x xs H Q ∨ Zk1 X.K x xs H Q) (fun pins s σ H x xs v us Q I rx rs q=>q.elim (ZnG pins s σ H x xs v us Q I rx rs) (Zlh pins s σ H x xs v us Q I rx rs)) fun x xs H Q zz1=>by
 obtain ⟨ι,M,a,ds,S,ra,rd,h⟩:=zz1
 cases a with
 | ref n=>
  cases ds with
  | nil=>exact h.elim
  | cons d ds=>
   cases ds with
   | cons _ _=>cases d <;> exact h.elim
   | nil=>
    obtain ⟨v,ws,rfl,r1,r2⟩:=rd.cons_inv
    have:=r2.nil_inv
    subst this
    obtain ⟨p,hp,rfl⟩:=ra.ref_inv
    cases hn:M[n]? with
    | none=>cases d <;> first | exact h.elim | (rw [ZcZ,hn] at h; exact h.elim) | (rw [Zdw,hn] at h; exact h.elim)
    | some o=>
     cases o with
     | dct _=>cases d <;> first | exact h.elim | (rw [ZcZ,hn] at h; exact h.elim) | (rw [Zdw,hn] at h; exact h.elim)
     | fdct _=>cases d <;> first | exact h.elim | (rw [ZcZ,hn] at h; exact h.elim) | (rw [Zdw,hn] at h; exact h.elim)
     | ins _ _=>cases d <;> first | exact h.elim | (rw [ZcZ,hn] at h; exact h.elim) | (rw [Zdw,hn] at h; exact h.elim)
     | lst z=>
      obtain ⟨vs,e,rv⟩:=S.obj n _ p hn hp
      cases d with
      | tup y=>
       simp only [ZcZ,Zdw,hn] at h
       split at h
       ·rename_i hz
        obtain ⟨b,ys,rfl,sb,ry⟩:=r1.tup_inv
        obtain ⟨x2,S2⟩:=S.setl (.inr (.inl ⟨_,e⟩)) hp (rv.append ry)
        exact .inr ⟨p,b,vs,ys,rfl,rfl,e,sb,by rw [rv.length,ry.length]; exact Nat.le_trans hz (Nat.le_of_lt_succ (Nat.lt_succ_of_le ZbX)),h _ _ _ x2 S2 Rep.non⟩
       ·exact h.elim
      | ref m=>
       simp only [ZcZ,Zdw,hn] at h
       cases hm:M[m]? with
       | none=>simp only [hm] at h; exact h.elim
       | some o2=>
        cases o2 with
        | dct _=>simp only [hm] at h; exact h.elim
        | fdct _=>simp only [hm] at h; exact h.elim
        | ins _ _=>simp only [hm] at h; exact h.elim
        | lst y=>
         simp only [hm] at h
         split at h
         ·rename_i hz
          obtain ⟨b,hb,rfl⟩:=r1.ref_inv
          obtain ⟨ys,eb,ry⟩:=S.obj m _ b hm hb
          obtain ⟨x2,S2⟩:=S.setl (.inr (.inl ⟨_,e⟩)) hp (rv.append ry)
          exact .inl ⟨p,b,vs,ys,rfl,rfl,e,eb,by rw [rv.length,ry.length]; exact Nat.le_trans hz.2 (Nat.le_of_lt_succ (Nat.lt_succ_of_le ZbX)),h _ _ _ x2 S2 Rep.non⟩
         ·exact h.elim
      | _=>exact h.elim
 | _=>cases ds <;> exact h.elim
theorem Zdi (ho:C3 X o f) (ha:CA X (e :: es) gl)
  (hbase:attributeBase o "extend" X.env (eval o X.env) = eval o X.env:=by rfl)
  (hfew:((backTo cpos (starEach (e :: es) X.env)).all (fun x=>!x.1) && (backToKw cpos (keywordEach [] X.env)).all (fun x=>x.1.isSome)
   && decide ((e :: es).length + ([]:List Keyword).length + (if ([]:List Keyword).isEmpty then 0 else 1) < 30)) = true:=by rfl)
  (hline:(apos.endLine == cpos.line) = true:=by rfl) (hs:starEach (e :: es) X.env = (false,eval e X.env) :: starEach es X.env:=by rfl) (hplain:(backTo cpos (starEach es X.env)).any (·.1) = false:=by rfl):
  C3 X (.Call (.Attribute o "extend" apos) (e :: es) [] cpos) (ZaN tyL Zcn f gl):=
 (ZoC PySem.F.plainAttrs_list PySem.F.slot_list_extend PySem.F.type_list_extend ZoZ ho ha hbase hfew hline hs hplain).imp (ZlO Zju)
theorem ZpV {K:PySem.W.Frag} {T:String} {ty:D → Store → Bool} {m:D → List D → Store → R3 D} (hty:∀ H ι M a x,Zaz K H ι M → Rep K H ι a x → ty a M = true → tyV K T x H) (σ:St) (H:Hp) (Q:VK) (h:tOf K (ZaN ty m f Ze) σ H Q):Zug K T (rM K m) (tOf K f) σ H Q:=by
 obtain ⟨ι,M,env,S,E,h⟩:=h
 obtain ⟨a,M1,e1,h⟩:=Zae.bind h
 refine ⟨ι,M,env,S,E,?_⟩
 rw [e1]
 intro v H1 ι1 x1 S1 r1
 by_cases ht:ty a M1 = true
 ·rw [if_pos ht] at h
  exact ⟨hty _ _ _ _ _ S1 r1 ht,ι1,M1,a,[],S1,r1,Zac.nil,h.up x1⟩
 ·rw [if_neg ht] at h; exact h.elim
theorem Zie (ho:C3 X o f) (hbase:attributeBase o "pop" X.env (eval o X.env) = eval o X.env:=by rfl) (hline:(apos.endLine == cpos.line) = true:=by rfl):C3 X (.Call (.Attribute o "pop" apos) [] [] cpos) (ZaN tyL Zet f Ze):=
 (Zsr PySem.F.plainAttrs_list PySem.F.slot_list_pop PySem.F.type_list_pop Zrm ho hbase hline).imp (ZpV Zju)
end
end L3
namespace L3
open PySem PySem.Spec PyProof.Rows L2
set_option maxRecDepth 100000
section
variable {X:Cx} {elt tg iter:Expr} {ifs:List Expr} {scope:Scope} {pos:Pos} {i:IL3} {own:Nat} {g:G3} {ts:List E3} {f:E3} {N':List Str}
theorem Zk7 {pins:List (Addr × Obj)} {σ:St} {s2:Shared} {H2:Hp} {ι2:List Addr} {M2:Store} {env:Zam} {it:Addr} {fp:List Addr} {tn:Nat → Heap → Prop} {J:It} {itd:ItL} {Q:VK} {E:Value → Shared → Prop} (O:Zf3 X scope N' own) (hc:X.calm = true)
  (hb:∀ C cl s H ex,CG (Zbh X scope N' C cl s H ex) tg g ∧ CTs (Zbh X scope N' C cl s H ex) ifs ts ∧ C3 (Zbh X scope N' C cl s H ex) elt f)
  (I2:Inv X pins σ H2 s2) (T:Turn X.prog X.w X.K tg J fp it tn) (st0:tn 0 s2.heap) (hfp:∀ b ∈ fp,ZeC X pins H2 b) (S2:Zaz X.K H2 ι2 M2) (E2:ZbF X.K H2 ι2 env σ) (ok:Zot X.K H2 ι2 itd J)
  (h:Zae X.K H2 ι2 Q (ZdJ itd.lk g ts f M2.length itd.items (env ++ List.replicate own none) (M2 ++ [.lst []])))
  (RR:Value → Addr → Result → Shared → Prop)
  (fin:∀ (acc C:Addr) (s':Shared) (m:Str → Option Value) (H':Hp),s'.heap.Ns C m → ZeC X pins H' C → Inv X pins σ H' s' → Q (.ref acc) H' → RR (.ref acc) C (.ok .next) s'):
  wpAny (model X.prog X.w) X.A (newList []) (fun acc s₃=>wpAny (model X.prog X.w) X.A (newFunctionEnv scope X.env.globals (Zb6 X.env.cells scope.names []) [] X.env.qual none .none (some X.env)) (fun cenv s₄=>
   codeAny (model X.prog X.w) X.A (.compStart (.ListComp elt [⟨tg,iter,ifs,0⟩] scope pos) 0 (.ref it) acc { cenv with scope:=relabel scope X.env }) (RR acc cenv.locals) s₄) E s₃) E s2:=by
 refine wpAny_newObj_type ?_
 have hD:H2 s2.heap.objs.size = none:=I2.hok.fresh (Nat.le_refl _)
 obtain ⟨x3,S3,r3⟩:=S2.lst hD (Zac.nil (K:=X.K) (H:=H2) (ι:=ι2))
 have I3:Inv X pins σ (upd H2 s2.heap.objs.size (.lst [])) { s2 with heap:=s2.heap.push { cls:=.type "list",data:=.seq ([]:List Value).toArray } }:=
  I2.laid (t':=s2.toks) (fun b u e=>Heap.get?_push_of_some _ e) (Nat.le_refl _) ⟨Nat.zero_le _,[],0,.nil,Heap.get?_push_size _ rfl⟩
 generalize hs3:({ s2 with heap:=s2.heap.push { cls:=.type "list",data:=.seq ([]:List Value).toArray } }:Shared) = s3 at I3 ⊢
 have keep23:∀ b o,s2.heap.get? b = some o → s3.heap.get? b = some o:=fun b o e=>by rw [← hs3]; exact Heap.get?_push_of_some _ e
 have hfp3:∀ b ∈ fp,ZeC X pins (upd H2 s2.heap.objs.size (.lst [])) b:=fun b hb=>by
  refine ⟨?_,(hfp b hb).2⟩
  obtain ⟨o,e,_⟩:=T.obj _ _ st0 b hb
  rw [Zbw (Nat.ne_of_lt (Heap.lt_size e))]
  exact (hfp b hb).1
 have hlt3:∀ b ∈ fp,b < s3.heap.objs.size:=fun b hb=>by
  obtain ⟨o,e,_⟩:=T.obj _ _ st0 b hb
  exact Heap.lt_size (keep23 b o e)
 have st3:tn 0 s3.heap:=T.keep _ _ _ st0 fun b hb o e=>keep23 b o e
 refine wpAny_newFunctionEnv O.cell (by intro y hy; cases hy) (fun h4 hns hsb=>?_) O.kind
 have keep34:∀ b o,s3.heap.get? b = some o → h4.get? b = some o:=fun b o e=>hsb.extBut b o (Nat.ne_of_lt (Heap.lt_size e)) (Heap.get?_push_of_some _ e)
 have I4:=ZkJ (own:=own) (N':=N') (tk:=s3.toks + ([]:List (Str × Value)).length) I3 O.kind O.cell O.free O.len O.vis hfp3 hlt3 hns keep34
 have st4:tn 0 h4:=T.keep _ _ _ st3 fun b hb o e=>keep34 b o e
 have hfp4:∀ {H':Hp},(∀ b ∈ fp,H' b = none) → ∀ b ∈ fp,ZeC (Zbh X scope N' s3.heap.objs.size (Zb6 X.env.cells scope.names []) s3 (upd H2 s2.heap.objs.size (.lst [])) fp) [] H' b:=fun hn b hb=>by
  have hc0:∀ y ∈ scope.names,y.2 = .free → ∃ c,X.env.cells.lookup y.1 = some c:=fun y hy e=>I2.ok.has y.1 (O.free y hy e)
  refine ⟨hn b hb,Nat.ne_of_lt (hlt3 b hb),fun hz=>I4.ok.exfs b hb hz,.inl hb,fun x c hx=>(I4.ok.exf b hb).2 x c hx,fun p hp=>absurd (show p ∈ ([]:List (Addr × Obj)) from hp) (by simp)⟩
 obtain ⟨hg,hts,helt⟩:=hb s3.heap.objs.size (Zb6 X.env.cells scope.names []) s3 (upd H2 s2.heap.objs.size (.lst [])) fp
 have loop:∀ s₄:Shared,s₄ = { s3 with heap:=h4,toks:=s3.toks + ([]:List (Str × Value)).length } →
   codeAny (model X.prog X.w) X.A (.compLoop (.ListComp elt [⟨tg,iter,ifs,0⟩] scope pos) 0 (.ref it) (.ref s2.heap.objs.size) (compEnvC scope (Zb6 X.env.cells scope.names []) s3.heap.objs.size X.env)) (RR (.ref s2.heap.objs.size) s3.heap.objs.size) s₄:=by
  rintro s₄ rfl
  refine ZgB (fun n s'=>∃ k σ5 H5 ι5 M5 env5,Inv (Zbh X scope N' s3.heap.objs.size (Zb6 X.env.cells scope.names []) s3 (upd H2 s2.heap.objs.size (.lst [])) fp) [] σ5 H5 s' ∧ tn k s'.heap ∧ (∀ b ∈ fp,H5 b = none) ∧ n = itd.items.length - k ∧ k ≤ itd.items.length ∧
   Ext X.K H2 ι2 H5 ι5 ∧ Zaz X.K H5 ι5 M5 ∧ ZbF X.K H5 ι5 env5 σ5 ∧ ι5[M2.length]? = some s2.heap.objs.size ∧ Zae X.K H5 ι5 Q (ZdJ itd.lk g ts f M2.length (itd.items.drop k) env5 M5)) ?_ itd.items.length
   ⟨0,_,_,_,_,_,I4,st4,fun b hb=>(hfp3 b hb).1,rfl,Nat.zero_le _,x3,S3,(E2.mono x3).grow own,?_,h.up x3⟩
  ·rintro n s5 ⟨k,σ5,H5,ι5,M5,env5,I5,st5,fr5,rfl,hk,x5,S5,E5,hι,h5⟩
   by_cases hlt:k < itd.items.length
   ·have hd:itd.items[k]? = some itd.items[k]:=by simp [hlt]
    rw [List.drop_eq_getElem_cons hlt] at h5
    unfold ZdJ at h5
    by_cases lk:Za5 itd.lk M5 = true
    ·rw [if_pos lk] at h5
     obtain ⟨go,yl⟩:=(ok k H5 ι5 M5 x5 S5 lk).1 _ hd
     cases eg:g itd.items[k] env5 with
     | none=>rw [eg] at h5; exact h5.elim
     | some env6=>
      rw [eg] at h5
      refine thn (T.item (Zbh X scope N' s3.heap.objs.size (Zb6 X.env.cells scope.names []) s3 (upd H2 s2.heap.objs.size (.lst [])) fp) rfl rfl rfl hc k [] s5 σ5 H5 (fun _ _=>False) I5 (hfp4 fr5) st5 go) fun r s6 zz1=>?_
      obtain ⟨u,hr,h6⟩:=zz1
      subst hr
      refine thn h6 fun _ s7 zz1=>?_
      obtain ⟨x,H7,I7,r7,y7,st7,fr7⟩:=zz1
      obtain ⟨y8,S7,rx⟩:=yl x H7 y7
      have I7':=I7.pinned (hfp4 fr7) (T.obj _ _ st7)
      refine thn (hg _ s7 σ5 H7 x u (fun σ' H'=>H' = H7 ∧ ZbF X.K H7 ι5 env6 σ') I7' r7 ⟨ι5,M5,env5,_,env6,S7,E5.mono y8,rx,eg,fun σ' E'=>⟨rfl,E'⟩⟩) fun _ s8 zz1=>?_
      obtain ⟨σ8,H8,I8,e8,E8⟩:=zz1
      subst e8
      replace h5:=Zae.up y8 h5
      replace x5:=x5.trans y8
      replace S5:=S7
      have back:∀ {σ':St} {H':Hp} {s':Shared},Inv (Zbh X scope N' s3.heap.objs.size (Zb6 X.env.cells scope.names []) s3 (upd H2 s2.heap.objs.size (.lst [])) fp) ([] ++ Zfa fp s7.heap) σ' H' s' →
        Inv (Zbh X scope N' s3.heap.objs.size (Zb6 X.env.cells scope.names []) s3 (upd H2 s2.heap.objs.size (.lst [])) fp) [] σ' H' s' ∧ tn (k + 1) s'.heap ∧ ∀ b ∈ fp,H' b = none:=fun {σ' H' s'} I'=>by
       refine ⟨I'.unpinned,T.keep _ _ _ st7 fun b hb o e=>(I'.pin (b,o) (List.mem_append_right _ (List.mem_append_right _ (Zdn hb e)))).1,fun b hb=>?_⟩
       obtain ⟨o,e,d⟩:=T.obj _ _ st7 b hb
       exact (I'.pin (b,o) (List.mem_append_right _ (List.mem_append_right _ (Zdn hb e)))).2.1
      obtain ⟨b,M9,e9,h9⟩:=Zae.bind h5
      refine thn (hts _ s8 σ8 H8 (fun b' H'=>b' = b ∧ ∃ ι9,Ext X.K H8 ι5 H' ι9 ∧ Zaz X.K H' ι9 M9) I8 ⟨ι5,M5,env6,S5,E8,by rw [e9]; exact fun H' ι' x' S'=>⟨rfl,ι',x',S'⟩⟩) fun b' s9 zz1=>?_
      obtain ⟨H9,I9,eb,ι9,x9,S9⟩:=zz1
      subst eb
      cases b' with
      | false=>
       rw [if_neg (by decide)] at h9 ⊢
       obtain ⟨I9',st9,fr9⟩:=back I9
       exact ⟨itd.items.length - (k + 1),lD 2 0x30113c2012a1c0c21 T1 (Nat.sub_add_cancel (lB 1 6991908881 T1 hlt)) (sbA _ _),k + 1,σ8,H9,ι9,M9,env6,I9',st9,fr9,rfl,hlt,x5.trans x9,S9,E8.mono x9,x9.pre _ _ hι,h9.up x9⟩
      | true=>
       rw [if_pos rfl] at h9 ⊢
       obtain ⟨d,M10,e10,h10⟩:=Zae.bind h9
       refine thn (helt _ s9 σ8 H9 (fun v H'=>∃ ι10,Ext X.K H9 ι9 H' ι10 ∧ Zaz X.K H' ι10 M10 ∧ Rep X.K H' ι10 d v) I9 ⟨ι9,M9,env6,S9,E8.mono x9,by rw [e10]; exact fun v H' ι' x' S' r'=>⟨ι',x',S',r'⟩⟩) fun xv s10 zz1=>?_
       obtain ⟨v,H10,I10,r10,ι10,x10,S10,rd⟩:=zz1
       have hι10:ι10[M2.length]? = some s2.heap.objs.size:=x10.pre _ _ (x9.pre _ _ hι)
       cases hm:M10[M2.length]? with
       | none=>rw [hm] at h10; exact h10.elim
       | some o=>
        cases o with
        | dct _=>rw [hm] at h10; exact h10.elim
        | fdct _=>rw [hm] at h10; exact h10.elim
        | ins _ _=>rw [hm] at h10; exact h10.elim
        | lst xs=>
         rw [hm] at h10
         by_cases hz:xs.length < SZ
         ·simp only [if_pos hz] at h10
          obtain ⟨vs,ev,rvs⟩:=S10.obj _ _ _ hm hι10
          obtain ⟨x11,S11⟩:=S10.setl (.inr (.inl ⟨_,ev⟩)) hι10 (rvs.append (Zac.cons rd Zac.nil))
          refine thn (Zg2 _ s10 σ8 H10 (.ref s2.heap.objs.size) [v] (.ref s2.heap.objs.size) [xv] (fun _ H'=>H' = upd H10 s2.heap.objs.size (.lst (vs ++ [v]))) I10 rfl (.cons r10 .nil) ⟨_,vs,v,rfl,rfl,ev,by rw [rvs.length]; exact Nat.lt_of_lt_of_le hz ZbX,rfl⟩) fun _ s11 zz1=>?_
          obtain ⟨_,H11,I11,_,eH⟩:=zz1
          subst eH
          obtain ⟨I11',st11,fr11⟩:=back I11
          exact ⟨itd.items.length - (k + 1),lD 2 0x30113c2012a1c0c21 T1 (Nat.sub_add_cancel (lB 1 6991908881 T1 hlt)) (sbA _ _),k + 1,σ8,_,ι10,_,env6,I11',st11,fr11,rfl,hlt,((x5.trans x9).trans x10).trans x11,S11,((E8.mono x9).mono x10).mono x11,hι10,((h10.up x9).up x10).up x11⟩
         ·simp only [if_neg hz] at h10; exact h10.elim
    ·rw [if_neg lk] at h5; exact h5.elim
   ·have e0:k = itd.items.length:=Nat.le_antisymm hk (Nat.le_of_not_lt hlt)
    subst e0
    rw [List.drop_length] at h5
    unfold ZdJ at h5
    by_cases lk:Za5 itd.lk M5 = true
    ·rw [if_pos lk] at h5
     refine thn (T.done (Zbh X scope N' s3.heap.objs.size (Zb6 X.env.cells scope.names []) s3 (upd H2 s2.heap.objs.size (.lst [])) fp) rfl rfl rfl hc _ [] s5 σ5 H5 (fun _ _=>False) I5 (hfp4 fr5) st5 ((ok _ H5 ι5 M5 x5 S5 lk).2 rfl)) fun r s6 zz1=>?_
     obtain ⟨hr,I6⟩:=zz1
     subst hr
     obtain ⟨m6,hn6,_⟩:=I6.loc
     have I7:Inv X pins σ H5 s6:=I3.call' (ch:=fp) I6.os I6.base I6.hok I6.bare fun b hb=>⟨(hfp3 b hb).2.2.2.1,(hfp3 b hb).2.1,(hfp3 b hb).2.2.2.2.1,(hfp3 b hb).2.2.2.2.2⟩
     exact fin _ _ s6 m6 H5 hn6 (I3.fpOk (Nat.le_refl _) I6.free) I7 (h5 _ H5 ι5 Ext.refl S5 (Rep.ref hι))
    ·rw [if_neg lk] at h5; exact h5.elim
  ·rw [← S2.len]; simp
 exact codeAny_compStart_list (loop _ rfl) (T.self _ 0 _ _ _ st4 (loop _ rfl))
theorem Zuw (O:Zf3 X scope N' own) (hxe:X.xe = fun _ _=>False) (hc:X.calm = true) (hi:CIL X tg iter i)
  (hb:∀ C cl s H ex,CG (Zbh X scope N' C cl s H ex) tg g ∧ CTs (Zbh X scope N' C cl s H ex) ifs ts ∧ C3 (Zbh X scope N' C cl s H ex) elt f)
  (hs:∀ x,foldedSetIterable iter X.env x = pure x:=by intro _; rfl):C3 X (.ListComp elt [⟨tg,iter,ifs,0⟩] scope pos) (ZrK i own g ts f):=by
 intro pins s σ H Q I h
 obtain ⟨ι,M,env,S,E,h⟩:=h
 obtain ⟨itd,M1,e1,h⟩:=Zae.bind h
 have hc0:∀ y ∈ scope.names,y.2 = .free → ∃ c,X.env.cells.lookup y.1 = some c:=fun y hy e=>I.ok.has y.1 (O.free y hy e)
 rw [eval_ListComp]
 refine wpAny_comprehension_free (use:=none) rfl hs (ZeH hc0) O.kind O.names ?_
 refine thn (hi pins s σ H (fun J H'=>∃ ι',Ext X.K H ι H' ι' ∧ Zaz X.K H' ι' M1 ∧ Zot X.K H' ι' itd J) I ⟨ι,M,env,S,E,by rw [e1]; exact fun J H' ι' x S' o=>⟨ι',x,S',o⟩⟩) fun v s1 h1=>thn h1 fun itv s2 h2=>?_
 obtain ⟨it,fp,tn,J,H2,rfl,I2,T,st2,f2,ι2,x2,S2,ok⟩:=h2
 refine Zk7 (own:=own) (g:=g) (ts:=ts) (f:=f) O hc hb I2 T st2 f2 S2 (E.mono x2) ok (h.up x2) (fun acc C=>compPost (model X.prog X.w) X.A X.xe none (EP X pins σ Q) acc C) ?_
 intro acc C s' m H' hn hf I' hq
 obtain ⟨f0,f1,f2',f3,f4,f5⟩:=hf
 exact ⟨m,hn,fun h' sb=>⟨.ref acc,H',I'.turned (t':=s'.toks) (fun b o hb e=>(sb.2 b hb).trans e) f0 f1 f3 f4 f5,rfl,hq⟩⟩
end
end L3
namespace L3
open PySem PySem.W PyProof.Rows
section
variable {M:Model} {A:Around} {E:Value → Shared → Prop} {G:Shared → Prop}
def TT (M:Model) (A:Around) (E:Value → Shared → Prop) (G:Shared → Prop) {α:Type} (m:StateT SortSt Sem α) (Q:α → SortSt → Prop) (st:SortSt):Prop:=∀ s,G s → kasC M A E m (fun a st' s'=>Q a st' ∧ G s') st s
end
section
variable {prog:Program} {w:World} {A:Around} {E:Value → Shared → Prop} {G:Shared → Prop} {κ:SortKind} {it:Array Keyed} {lt:Nat → Nat → Bool} {N:Nat}
section
variable {left:Bool} {key:Nat} {l:List Nat} {base n:Nat} {st:SortSt} {B:Nat → Bool}
end
end
end L3
namespace L3
open PySem PySem.Spec PyProof.Rows L2
noncomputable def Znu (K:PySem.W.Frag) (d:List Str) (v:Value):Bool:=match v with
 | .ref a=>(match K.lookup a with
  | some o=>o.cls == .type "tuple" && o.dict.isNone && (match o.data with | .seq vs _=>decide (vs.size ≤ 1000) && KTD.strsLook vs.toList d | _=>false)
  | none=>false)
 | _=>false
noncomputable def ZuN (t:Zn5):List (Str × List Str):=t.map fun p=>(⟨p.1.toArray⟩,p.2.map fun y=>⟨y.toArray⟩)
def ZuS (K:PySem.W.Frag) (d:List Str) (v:Value):Prop:=∃ a,v = .ref a ∧ ∀ H,SqT K H a (d.map V.str)
theorem Zm4:∀ {vs:List Value} {d:List Str},StrsAre vs d → Vals (d.map V.str) vs:=by
 intro vs d h
 induction h with
 | nil=>exact .nil
 | cons _ _ _ ih=>exact .cons ⟨_,rfl⟩ ih
theorem Zmo {K:PySem.W.Frag} {d:List Str} {v:Value} (h:Znu K d v = true):ZuS K d v:=by
 unfold Znu at h
 split at h
 ·rename_i a
  refine ⟨a,rfl,fun H=>?_⟩
  split at h
  ·rename_i o ho
   simp only [Bool.and_eq_true] at h
   obtain ⟨⟨h1,h2⟩,h3⟩:=h
   split at h3
   ·rename_i vs n hd
    simp only [Bool.and_eq_true,decide_eq_true_eq] at h3
    exact .inr ⟨o,vs,n,ho,⟨beq_iff_eq.mp h1,by simpa using h2⟩,hd,Nat.le_trans h3.1 (by rw [sizeLine_eq]; decide),Zm4 (KTD.strs_of_look h3.2)⟩
   ·cases h3
  ·cases h
 ·cases h
abbrev ZtP (K:PySem.W.Frag) (a:Addr) (t:Zn5):Prop:=KTD.tabLook (Znu K) (fun b=>K.lookup b) a (ZuN t) = true
theorem ZtP.at {K:PySem.W.Frag} {a:Addr} {t:Zn5} {h:Heap} (T:ZtP K a t) (X:K.In h):KTD.TabOf (ZuS K) h a (ZuN t):=KTD.tab_of_look (fun _ _ q=>Zmo q) X T
theorem ZkE {K:PySem.W.Frag} {H:Hp} {ι:List Addr}:∀ ds:List (List Nat),Zac K H ι (ds.map D.str) ((ds.map fun y=>(⟨y.toArray⟩:Str)).map V.str)
 | []=>Zac.nil
 | _ :: ds=>Zac.cons Rep.str (ZkE ds)
section
variable {prog:Program} {w:World} {A:Around} {E:Value → Shared → Prop} {s:Shared} {a:Addr} {K:PySem.W.Frag} {t:Zn5} {x:List Nat} {tk:Tok}
theorem Zh5 {δ:Type} {R:δ → Value → Prop} {T:List (Str × δ)} (h:KTD.TabOf R s.heap a T):s.TypeIs (.ref a) "dict":=let ⟨_,o,_,_,ho,hc,_⟩:=h; ⟨o,ho,hc.1⟩
theorem ZpH {δ:Type} {R:δ → Value → Prop} {T:List (Str × δ)} {k:Str} {Q:Option Value → Shared → Prop} (h:KTD.TabOf R s.heap a T)
  (hs:∀ d v,KTD.datumAt k T = some d → R d v → Q (some v) { s with toks:=s.toks + 1 }) (hn:KTD.datumAt k T = none → Q none { s with toks:=s.toks + 1 }):wpAny (model prog w) A (dictGet a (.str k tk)) Q E s:=by
 obtain ⟨_,o,es,ep,ho,hc,hd,hr⟩:=h
 unfold dictGet
 try with_reducible refine wpAny_holding ?_
 refine wpAny_bind (wpAny_pyHash_str (wpAny_bind (KTD.kt_dictFind_strs (s:={ s with toks:=s.toks + 1 }) ho hd (by obtain ⟨es⟩:=es; simpa using hr.exact) ?_)))
 have key:Q (findBy (fun q v=>v.isStr q) es k) { s with toks:=s.toks + 1 }:=by
  rw [show findBy (fun q v=>v.isStr q) es k = (es.toList.find? fun z=>z.key.isStr k).map (·.val) by obtain ⟨es⟩:=es; simp [findBy]]
  cases e:KTD.datumAt k T with
  | none=>rw [hr.find_none e]; exact hn e
  | some d=>
   obtain ⟨v,hv,r⟩:=hr.find_some e
   rw [hv]; exact hs d v e r
 rw [findBy_of_findIdx?] at key
 cases e:es.findIdx? fun z=>z.key.isStr k with
 | none=>rw [e] at key; exact wpAny_pure key
 | some j=>rw [e] at key; exact wpAny_bind (wpAny_dictEntries (s:={ s with toks:=s.toks + 1 }) ho hd (wpAny_pure key))
end
section
variable {X:Cx} {e:Expr} {x:Str} {a:Addr} {t:Zn5} {npos apos cpos pos:Pos} {g:E3}
end
end L3
namespace L3
open PySem PySem.Spec PyProof.Rows L2
noncomputable def Zuf (i:Int) (v:Value):Bool:=match v with
 | .int j _=>decide (j = i)
 | _=>false
def ZuD (i:Int) (v:Value):Prop:=∃ t,v = .int i t
theorem ZqO {i:Int} {v:Value} (h:Zuf i v = true):ZuD i v:=by
 cases v with
 | int j t=>exact ⟨t,by rw [of_decide_eq_true (show decide (j = i) = true from h)]⟩
 | _=>exact ft h
noncomputable def ZmB (t:ZgN):List (Str × Int):=t.map fun p=>(⟨p.1.toArray⟩,p.2)
abbrev ZiY (K:PySem.W.Frag) (a:Addr) (t:ZgN):Prop:=KTD.tabLook Zuf (fun b=>K.lookup b) a (ZmB t) = true
theorem ZiY.at {K:PySem.W.Frag} {a:Addr} {t:ZgN} {h:Heap} (T:ZiY K a t) (X:K.In h):KTD.TabOf ZuD h a (ZmB t):=KTD.tab_of_look (fun _ _ q=>ZqO q) X T
theorem Zgc (x:List Nat):∀ t:ZgN,KTD.datumAt (⟨x.toArray⟩:Str) (ZmB t) = Zev x t
 | []=>rfl
 | (k,v) :: r=>by
  show (if decide ((⟨x.toArray⟩:Str) = ⟨k.toArray⟩) = true then some v else KTD.datumAt ⟨x.toArray⟩ (ZmB r)) = (if x = k then some v else Zev x r)
  by_cases e:x = k
  ·subst e; rw [if_pos rfl,if_pos (decide_eq_true rfl)]
  ·rw [if_neg e,if_neg (by simp [e]),Zgc x r]
section
variable {prog:Program} {w:World} {A:Around} {E:Value → Shared → Prop} {s:Shared} {a:Addr} {K:PySem.W.Frag} {tk:Tok}
theorem ZoV {δ:Type} {R:δ → Value → Prop} {l:List DictEntry} {T:List (Str × δ)} (h:KTD.Rows R l T):∀ e ∈ l,∃ x t,e.key = .str x t:=by
 induction h with
 | nil=>intro e he; cases he
 | cons hk _ _ ih=>
  intro e he
  rcases List.mem_cons.mp he with q | q
  ·rw [q]; exact ⟨_,_,hk⟩
  ·exact ih e q
theorem Znj {δ:Type} {R:δ → Value → Prop} {T:List (Str × δ)} {i:Int} {Q:Option Value → Shared → Prop} (h:KTD.TabOf R s.heap a T)
  (hn:Q none { s with toks:=s.toks + 1 }):wpAny (model prog w) A (dictGet a (.int i tk)) Q E s:=by
 obtain ⟨_,o,es,ep,ho,hc,hd,hr⟩:=h
 have hs:∀ e ∈ es,∃ x t,e.key = .str x t:=fun e he=>ZoV hr e (by simpa using he)
 unfold dictGet
 try with_reducible refine wpAny_holding ?_
 refine wpAny_bind (wpAny_pyHash_int (wpAny_bind ?_))
 unfold dictFind
 try with_reducible refine wpAny_holding ?_
 refine wpAny_bind (wpAny_dictEntries (s:={ s with toks:=s.toks + 1 }) ho hd ?_)
 dsimp only
 rw [if_pos]
 ·unfold dictWalkPlain
  refine wpAny_bind ?_
  refine wpAny_forIn_list _ (fun _ b s'=>s' = { s with toks:=s.toks + 1 } ∧ b = (none,())) _ ?_ ?_ _ _ ⟨rfl,rfl⟩
  ·rintro x rest b s' ⟨rfl,rfl⟩
   cases he:es[x]? with
   | none=>exact wpAny_pure ⟨rfl,rfl⟩
   | some e=>
    obtain ⟨y,t,ek⟩:=hs e (Array.mem_of_getElem? he)
    dsimp only
    by_cases hh:(e.hash == hashInt i) = true
    ·rw [if_pos hh,ek]
     refine wpAny_bind (wpAny_dictEpoch (s:={ s with toks:=s.toks + 1 }) ho hd (wpAny_bind (SeqAt.EqAt.str_int y t i tk prog w E _ (wpAny_bind (wpAny_dictEpoch (s:={ s with toks:=s.toks + 1 }) ho hd ?_)))))
     show wpAny _ _ (if (ep != ep) = true then _ else _) _ E _
     rw [if_neg (by simp)]
     exact wpAny_bind (wpAny_rule (wpAny_pure ⟨rfl,rfl⟩))
    ·rw [if_neg hh]
     exact wpAny_pure ⟨rfl,rfl⟩
  ·rintro b s' ⟨rfl,rfl⟩
   exact wpAny_pure (wpAny_pure hn)
 ·rw [List.all_cons]
  refine Bool.and_eq_true_iff.mpr ⟨rfl,List.all_eq_true.mpr fun v hv=>?_⟩
  obtain ⟨j,_,hj⟩:=List.mem_filterMap.mp hv
  cases he:es[j]? with
  | none=>rw [he] at hj; cases hj
  | some e=>
   rw [he] at hj
   obtain rfl:e.key = v:=by simpa using hj
   obtain ⟨y,t,ek⟩:=hs e (Array.mem_of_getElem? he)
   rw [ek]; rfl
theorem Zlc {δ:Type} {R:δ → Value → Prop} {T:List (Str × δ)} {k:Str} {z:Value}:
  MeetsIn prog w (Builtin.«dict.get» ⟨[.ref a,.str k tk,z],[]⟩) fun _ Z s=>KTD.TabOf R s.heap a T ∧ (∀ d v,KTD.datumAt k T = some d → R d v → Z (.ok (.ret v)) { s with toks:=s.toks + 1 }) ∧ (KTD.datumAt k T = none → Z (.ok (.ret z)) { s with toks:=s.toks + 1 }):=
 .of_wp fun A Z s zz=>by
  obtain ⟨h,h1,h2⟩:=zz
  show wpAny _ _ (dictGet a (.str k tk) >>= fun o=>_) _ _ s
  refine wpAny_bind (ZpH h (fun d v e r=>wpAny_pure ⟨v,rfl,h1 d v e r⟩) fun e=>?_)
  show wpAny _ _ (Builtin.Dict.missed a (.str k tk) >>= fun o=>_) _ _ _
  exact wpAny_bind (wpAny_missed_other h.1 (wpAny_pure ⟨z,rfl,h2 e⟩))
theorem ZkA {δ:Type} {R:δ → Value → Prop} {T:List (Str × δ)} {i:Int} {z:Value}:
  MeetsIn prog w (Builtin.«dict.get» ⟨[.ref a,.int i tk,z],[]⟩) fun _ Z s=>KTD.TabOf R s.heap a T ∧ Z (.ok (.ret z)) { s with toks:=s.toks + 1 }:=
 .of_wp fun A Z s zz=>by
  obtain ⟨h,h2⟩:=zz
  show wpAny _ _ (dictGet a (.int i tk) >>= fun o=>_) _ _ s
  refine wpAny_bind (Znj h ?_)
  show wpAny _ _ (Builtin.Dict.missed a (.int i tk) >>= fun o=>_) _ _ _
  exact wpAny_bind (wpAny_missed_other h.1 (wpAny_pure ⟨z,rfl,h2⟩))
theorem Zpg {δ:Type} {R:δ → Value → Prop} {T:List (Str × δ)} {k:Str} {z:Value} {Q:Value → Shared → Prop} (h:KTD.TabOf R s.heap a T)
  (h1:∀ d v,KTD.datumAt k T = some d → R d v → Q v { s with toks:=s.toks + 1 }) (h2:KTD.datumAt k T = none → Q z { s with toks:=s.toks + 1 }):wpAny (model prog w) A (call (.builtin "dict.get") [.ref a,.str k tk,z]) Q E s:=
 call_meetsIn PySem.F.slot_dict_get (Zh5 h) PySem.F.entry_dict_get (PySem.F.args_dict_get_3 _ _ _) (Zlc (R:=R) (T:=T)) ⟨h,h1,h2⟩
theorem ZnD {δ:Type} {R:δ → Value → Prop} {T:List (Str × δ)} {i:Int} {z:Value} {Q:Value → Shared → Prop} (h:KTD.TabOf R s.heap a T)
  (h2:Q z { s with toks:=s.toks + 1 }):wpAny (model prog w) A (call (.builtin "dict.get") [.ref a,.int i tk,z]) Q E s:=
 call_meetsIn PySem.F.slot_dict_get (Zh5 h) PySem.F.entry_dict_get (PySem.F.args_dict_get_3 _ _ _) (ZkA (R:=R) (T:=T)) ⟨h,h2⟩
end
section
variable {X:Cx} {e e':Expr} {x:Str} {a:Addr} {t:ZgN} {npos apos cpos pos:Pos} {g g':E3}
inductive Zwc (t:ZgN) (y z:V) (H1:Hp) (Q:VK):Prop
 | str (k:List Nat) (e:y = .str ⟨k.toArray⟩) (s:∀ i,Zev k t = some i → Q (.int i) H1) (n:Zev k t = none → Q z H1)
 | int (i:Int) (e:y = .int i) (n:Q z H1)
theorem ZoT {te te':TE} (hm:X.mg x = some (.ref a)) (ht:ZiY X.K a t) (he:PE X e te) (he':PE X e' te') (m:M2 X (.Name x npos) "get" apos e e' cpos) (hg:Gl X x) (hd:(x == ("__debug__":Str)) = false):
  PE X (.Call (.Attribute (.Name x npos) "get" apos) [e,e'] [] cpos) (fun σ H Q=>te σ H fun y H1=>te' σ H1 fun z H2=>Zwc t y z H2 Q):=by
 intro pins s σ H Q I h
 refine wpAny_Call_method m.base m.few m.line PySem.F.plainAttrs_dict PySem.F.slot_dict_get PySem.F.type_dict_get (thn (Zmc (v:=.ref a) (u:=.ref a) hg hm rfl hd pins s σ H (fun v H'=>v = .ref a ∧ H' = H) I ⟨rfl,rfl⟩) fun u s1 zz1=>?_)
 obtain ⟨v,H1,I1,r1,rfl,rfl⟩:=zz1
 obtain rfl:u = Value.ref a:=r1
 have T1:=ht.at I1.kIn
 refine ⟨Zh5 T1,fun b q=>?_,?_⟩
 ·cases q
  obtain ⟨_,ob,_,_,h1,h2,_⟩:=T1
  exact ⟨ob,h1,h2.2.1⟩
 rw [m.trees]
 refine Calls.callWith_builtin rfl (Calls.evalArgs_plain (Calls.spliced_cons (thn (he pins s1 σ H1 _ I1 h) fun iv s2 ⟨y,H2,I2,ry,q2⟩=>
  Calls.spliced_cons (thn (he' pins s2 σ H2 _ I2 q2) fun fv s3 ⟨z,H3,I3,rz,q3⟩=>Calls.spliced_nil ?_))))
 cases q3 with
 | str k ey hs hn=>
  rw [ey] at ry
  obtain ⟨tk,rfl⟩:=ry
  refine Zpg (ht.at I3.kIn) (fun d v ed rv=>?_) fun ed=>?_
  ·rw [Zgc] at ed
   obtain ⟨t',rfl⟩:=rv
   exact ⟨.int d,H3,I3.tok _,⟨t',rfl⟩,hs d ed⟩
  ·rw [Zgc] at ed
   exact ⟨z,H3,I3.tok _,rz,hn ed⟩
 | int i ey hn=>
  rw [ey] at ry
  obtain ⟨tk,rfl⟩:=ry
  exact ZnD (ht.at I3.kIn) ⟨z,H3,I3.tok _,rz,hn⟩
theorem ZqZ (hm:X.mg x = some (.ref a)) (ht:ZiY X.K a t) (he:C3 X e g) (he':C3 X e' g') (m:M2 X (.Name x npos) "get" apos e e' cpos:=by exact ⟨rfl,rfl,rfl,rfl⟩) (hg:Gl X x:=by rfl) (hd:(x == ("__debug__":Str)) = false:=by decide):
  C3 X (.Call (.Attribute (.Name x npos) "get" apos) [e,e'] [] cpos) (e2 (ZfJ t) g g'):=(ZoT hm ht he he' m hg hd).imp fun σ H Q zz1=>by
 obtain ⟨ι,M,env,S,E,h⟩:=zz1
 obtain ⟨d,M1,e1,h⟩:=Zae.bind h
 obtain ⟨d2,M2,e2,h⟩:=Zae.bind h
 refine ⟨ι,M,env,S,E,?_⟩
 rw [e1]
 intro y H1 ι1 x1 S1 r1
 refine ⟨ι1,M1,env,S1,E.mono x1,?_⟩
 rw [e2]
 intro z H2 ι2 x2 S2 r2
 have h:=(h.up x1).up x2
 cases d with
 | str k=>
  cases r1.str_inv
  refine .str k rfl (fun i ei=>?_) fun en=>?_
  ·have h:Zae X.K H2 ι2 Q (match Zev k t with | some i=>.ok (.int i) M2 | none=>.ok d2 M2):=h
   rw [ei] at h
   exact Zae.ok h S2 Rep.int
  ·have h:Zae X.K H2 ι2 Q (match Zev k t with | some i=>.ok (.int i) M2 | none=>.ok d2 M2):=h
   rw [en] at h
   exact Zae.ok h S2 r2
 | int i=>
  cases r1.int_inv
  exact .int i rfl (Zae.ok h S2 r2)
 | _=>exact h.elim
end
end L3
namespace L3
open PySem PySem.Spec PyProof.Rows L2
section
variable {X:Cx} {pos:Pos}
theorem ZqB {x:Str} {a:Addr} {ds:List (List Nat)} (hm:X.mg x = some (.ref a)) (ht:Znu X.K (ds.map fun y=>(⟨y.toArray⟩:Str)) (.ref a) = true) (hg:Gl X x:=by rfl) (hd:(x == ("__debug__":Str)) = false:=by decide):C3 X (.Name x pos) (eC (.tup (ds.map D.str))):=by
 obtain ⟨b,eb,sq⟩:=Zmo ht
 cases eb
 exact Zoc (v:=.ref a) hm rfl (fun H ι=>Rep.tup (sq H) (ZkE ds)) hg hd
theorem Zkj:OpR X (compareOp .NotIn) (r2 X.K Zek):=by
 intro pins s σ H x y v u Q I rx ry ⟨ι,M,a,b,S,ra,rb,h⟩
 unfold Zek at h
 cases b with
 | ref n=>
  cases hn:M[n]? with
  | none=>simp only [hn] at h; exact h.elim
  | some ob=>
   cases ob with
   | dct _=>simp only [hn] at h; exact h.elim
   | fdct _=>simp only [hn] at h; exact h.elim
   | ins _ _=>simp only [hn] at h; exact h.elim
   | lst ds=>
    simp only [hn] at h
    by_cases hf:(Zbs a && ds.all Zbs) = true
    ·rw [if_pos hf] at h
     rw [Bool.and_eq_true] at hf
     obtain ⟨p,hp,rfl⟩:=rb.ref_inv
     cases ry
     obtain ⟨vs,e1,r1⟩:=S.obj n _ p hn hp
     obtain ⟨its,rvs,pl,_⟩:=I.list (SqL.of e1)
     have he:∀ y,y ∈ its.toArray → SeqAt.EqAt X.A.in1 s y v (deq (ofV y) a):=fun y hy=>by
      have hy:y ∈ its:=by simpa using hy
      obtain ⟨j,hj⟩:=List.getElem?_of_mem hy
      have hjl:j < vs.length:=by rw [rvs.length]; exact (List.getElem?_eq_some_iff.mp hj).1
      obtain ⟨w,hw,rw'⟩:=rvs.get (List.getElem?_eq_getElem hjl)
      rw [hj] at hw; cases hw
      have hjd:j < ds.length:=by rw [← r1.length]; exact hjl
      obtain ⟨z,hz,rz⟩:=r1.get (List.getElem?_eq_getElem hjd)
      rw [List.getElem?_eq_getElem hjl] at hz; cases hz
      have hfl:=List.all_eq_true.mp hf.2 _ (List.getElem_mem hjd)
      rw [ZmO hfl rz rw']
      exact Zg5 X.A.in1 ds[j] a _ x y v hfl hf.1 rz ra rw' rx
     refine SeqAt.notIn_listAt (fun y=>deq (ofV y) a) pl.isList he ⟨.bl (!ds.any fun y=>deq y a),H,I,?_,h _ H ι Ext.refl S Rep.bl⟩
     show (.bool _:Value) = .bool _
     rw [Zmr r1 rvs hf.2]
     simp
    ·rw [if_neg hf] at h; exact h.elim
 | _=>exact h.elim
end
section
variable {prog:Program} {w:World} {A:Around} {E:Value → Shared → Prop} {s:Shared}
theorem ZlR:typeLookup (.type "list") (Str.ofString "keys") = pure none:=by rw [typeLookup_type,builtinLookup_eq_fast]; kernel_rfl
set_option maxRecDepth 8000 in
theorem Zj8 {a:Addr} {o:Obj} {xs:Array Value} {k:Nat} {Q:Option Value → Shared → Prop} (hx:s.heap.get? a = some o) (hc:o.cls = .type "list") (hdat:o.data = .seq xs k) (hd:o.dict = none) (hA:A.handled = none)
  (h:∀ h' tk,(∀ b u,s.heap.get? b = some u → h'.get? b = some u) → Q none { s with heap:=h',toks:=tk }):wpAny (model prog w) A (getAttr? (.ref a) (Str.ofString "keys")) Q E s:=by
 obtain ⟨c,dct,dat,sl⟩:=o
 simp only at hc hdat hd
 subst hc hdat hd
 obtain ⟨hp,g,d,tk,os⟩:=s
 have hT:∀ tk',(⟨hp,g,d,tk',os⟩:Shared).TypeIs (.ref a) "list":=fun _=>⟨_,hx,rfl⟩
 have f1:=sub_AttributeError; have f3:=F.slot_list_getattribute.lookup; have f4:=F.slot_list_getattribute.bind (.ref a); have f5:=am_list_getattr_none
 unfold getAttr? getAttrBy? getAttrBy
 repeat (any_goals (first | assumption | exact hT _ | ((with_reducible show wpAny _ _ (call (Value.builtin "list.__getattribute__") _ _) _ _ _); refine call_meets F.slot_list_getattribute (hT _) am_entry_list_getattribute (F.args_list_getattribute_2 _ _) (meets_getattribute_miss_list a xs k sl _ _ ZlR (by decide) (by rw [sizeLine_eq]; decide)) ⟨hx,hA,fun h' tk' e hx'=>?_⟩) | wp_step))
 obtain ⟨t',u',he⟩:=hx'.there
 show wpAny _ _ (getattributeRaised _ _ _ _ _ _ _) _ _ _
 unfold getattributeRaised
 repeat (any_goals (first | assumption | wp_step))
 all_goals exact h _ _ hx'.of.keeps
theorem Znz {d I ax:Addr} {items:Array Value} {ps:List (Key × Value)} {res:Value} (hh:A.in1.handled = none) (hne:ax ≠ I) (hdI:d ≠ I) (hda:d ≠ ax) (hl:ps.length = items.size) (hz:ps.length ≤ 100000):
  ∀ (k i:Nat) (s:Shared) (kvs:List (Key × Value)) {R:Result → Shared → Prop},items.size - i = k → i ≤ items.size → s.heap.IsListIter I ax i → s.heap.IsList ax items → s.heap.DictOf (Zbk prog w) d kvs → kvs.length ≤ i →
   (∀ (j:Nat) v q,items[j]? = some v → ps[j]? = some q → ZlV prog w s.heap v q ∧ v ≠ .ref d ∧ v ≠ .ref I) →
   (∀ h' tk,h'.DictOf (Zbk prog w) d (PySem.merged kvs (ps.drop i)) → (∀ b o,b ≠ d → b ≠ I → s.heap.get? b = some o → h'.get? b = some o) → R (.ok (.ret res)) { s with heap:=h',toks:=tk }) →
   codeAny (model prog w) A (.builtin "dict.update.loop" ⟨[.ref d,.ref I,rawInt i,res],[]⟩) R s:=by
 have W:=Walks.list (prog:=prog) (w:=w) hh I ax hne items
 intro k
 induction k with
 | zero=>
  intro i s kvs R hk hi st tup dd hkl hp hR
  have hin:i = items.size:=Nat.le_antisymm hi (lC 2 580682816544801 T1 hk (sbA _ _))
  subst hin
  refine codeAny_builtin ZfB ?_
  rw [Around.under_plainId Zdh _]
  show wpAny _ A.in1 (pyNext (.ref I) >>= _) _ _ s
  refine wpAny_bind (W.done s _ _ ⟨st,tup⟩ fun h' tk kk=>?_)
  show wpAny _ A.in1 (Builtin.Dict.addKeywords d [] >>= _) _ _ _
  refine wpAny_bind (wpAny_pure (wpAny_pure (hR h' tk ?_ fun b o hb hI e=>kk b o (by simpa using hI) e)))
  rw [List.drop_of_length_le (Nat.le_of_eq hl)]
  obtain ⟨o,es,ep,ho,r⟩:=dd
  exact ⟨o,es,ep,kk d o (by simpa using hdI) ho,r⟩
 | succ k ih=>
  intro i s kvs R hk hi st tup dd hkl hp hR
  have hlt:i < items.size:=lD 2 0x321320c21a1c031 T1 hk (Nat.sub_add_cancel hi)
  have hv:items[i]? = some items[i]:=by simp [hlt]
  have hq:ps[i]? = some (ps[i]'(by omega)):=by simp [show i < ps.length by omega]
  refine codeAny_builtin ZfB ?_
  rw [Around.under_plainId Zdh _]
  show wpAny _ A.in1 (pyNext (.ref I) >>= _) _ _ s
  refine wpAny_bind (W.item i s _ _ hlt ⟨st,tup⟩ fun v h1 tk1 hP st1 kk1=>?_)
  rw [hv] at hP
  cases hP
  obtain ⟨⟨a,o,key,n,ev,ho,hc,hd,hkey⟩,nd,nI⟩:=hp i _ _ hv hq
  have haI:a ≠ I:=fun z=>nI (by rw [ev,z])
  have had:a ≠ d:=fun z=>nd (by rw [ev,z])
  have ho1:h1.get? a = some o:=kk1 a o (by simpa using haI) ho
  have dd1:h1.DictOf (Zbk prog w) d kvs:=by
   obtain ⟨o',es,ep,ho',r⟩:=dd
   exact ⟨o',es,ep,kk1 d o' (by simpa using hdI) ho',r⟩
  rw [ev]
  generalize ps[i]'(lC 2 2203623428113 T1 hlt hl) = q at hq hkey hd
  dsimp only
  refine wpAny_bind (wpAny_holding (wpAny_bind (wpAny_tryCatch ?_)))
  unfold Builtin.Dict.pairItems
  refine wpAny_bind (wpAny_typeOf (T:="tuple") ⟨o,ho1,hc⟩ ?_)
  rw [if_pos (by decide)]
  refine wpAny_bind ?_
  unfold seqItems?
  refine wpAny_bind (wpAny_load ho1 ?_)
  rw [hd]
  refine wpAny_pure (wpAny_pure ?_)
  show wpAny _ A.in1 (holding [key,q.2] (dictSet d key q.2)) _ _ _
  refine wpAny_holding (wpAny_dictSet_pairs hkey dd1 (fun h2 dd2 sb=>?_) (by rw [sizeLine_eq]; exact lD 4 0x10000007b201331186a05b30102011011 T1 hlt hkl hz hl))
  refine wpAny_pure ⟨plainId_quiet Zdh _,?_⟩
  show codeAny (model prog w) A (.builtin "dict.update.loop" ⟨[.ref d,.ref I,rawInt ((i:Int) + 1),res],[]⟩) R _
  have e1:((i:Int) + 1) = ((i + 1:Nat):Int):=rfl
  rw [e1]
  have k2:∀ b u,b ≠ d → b ≠ I → s.heap.get? b = some u → h2.get? b = some u:=fun b u hb hI e=>(sb.2 b hb).trans (kk1 b u (by simpa using hI) e)
  refine ih (i + 1) _ (stored kvs q.1 q.2) (Nat.le_antisymm (lE 3 0x12030c4014a3c2c21a1c021 T1 hk (Nat.sub_add_cancel (lB 1 6991908881 T1 hlt)) (sbA _ _)) (lE 3 0x310240c21a4c3c201a1c031 T1 hk (sbA _ _) (Nat.sub_add_cancel (Nat.le_of_lt hlt)))) hlt ?_ ?_ dd2 ?_ ?_ ?_
  ·obtain ⟨o',e',r⟩:=st1.1
   exact ⟨o',(sb.2 I (Ne.symm hdI)).trans e',r⟩
  ·obtain ⟨o',e',r⟩:=st1.2
   exact ⟨o',(sb.2 ax (Ne.symm hda)).trans e',r⟩
  ·have:=(show (stored kvs q.1 q.2).length ≤ kvs.length + 1 from by unfold stored; split <;> simp)
   exact lC 2 0xa2c002101a1c001 T1 this hkl
  ·intro j v q' hj hq'
   obtain ⟨⟨a',o',key',n',ev',ho',r⟩,nd',nI'⟩:=hp j v q' hj hq'
   exact ⟨⟨a',o',key',n',ev',k2 a' o' (fun z=>nd' (by rw [ev',z])) (fun z=>nI' (by rw [ev',z])) ho',r⟩,nd',nI'⟩
  ·intro h' tk dd' kk'
   refine hR h' tk ?_ fun b u hb hI e=>kk' b u hb hI (k2 b u hb hI e)
   have hq2:ps.drop i = q :: ps.drop (i + 1):=by rw [List.drop_eq_getElem_cons (by exact lC 2 2203623428113 T1 hlt hl)]; congr 1; rw [List.getElem?_eq_getElem (by exact lC 2 2203623428113 T1 hlt hl)] at hq; exact Option.some.inj hq
   rw [hq2]
   exact dd'
theorem Zkl {ax:Addr} {items:Array Value} {ps:List (Key × Value)} {Q:Value → Shared → Prop} (hA:A.handled = none) (ht:PlainL s.heap ax items) (hl:ps.length = items.size) (hz:ps.length ≤ 100000)
  (hp:∀ (j:Nat) v q,items[j]? = some v → ps[j]? = some q → ZlV prog w s.heap v q)
  (h:∀ h' tk,h'.DictOf (Zbk prog w) s.heap.objs.size (PySem.merged [] ps) → (∀ b o,s.heap.get? b = some o → h'.get? b = some o) → Q (.ref s.heap.objs.size) { s with heap:=h',toks:=tk }):
  wpAny (model prog w) A (call (.type "dict") [.ref ax]) Q E s:=by
 obtain ⟨o,n,ho,hc,hdn,hdat⟩:=id ht
 have hlt:ax < s.heap.objs.size:=Heap.lt_size ho
 refine callType_codes (Q₁:=fun obj s₁=>obj = .ref s.heap.objs.size ∧ s₁ = { s with heap:=s.heap.push { cls:=.type "dict",data:=.dict #[] } }) F.kt_called_dict (F.kt_typeCall_dict_1 _) F.entry_dict_init (kt_code_dict_new _ ⟨rfl,rfl⟩) ?_
 rintro obj s₁ ⟨rfl,rfl⟩
 have hnew:(s.heap.push { cls:=.type "dict",data:=.dict #[] }).DictOf (Zbk prog w) s.heap.objs.size []:=Heap.DictOf.new s.heap
 have hk1:∀ b u,s.heap.get? b = some u → (s.heap.push { cls:=.type "dict",data:=.dict #[] }).get? b = some u:=fun b u q=>Heap.get?_push_of_some _ q
 refine ⟨hnew.typeIs,F.args_dict_init_2 _ _,?_⟩
 unfold Builtin.«dict.__init__»
 refine wpAny_bind ?_; unfold Builtin.Dict.selfAndRest
 refine wpAny_bind (wpAny_notOrdered_dict hnew.typeIs ?_); show wpAny _ _ (pure (s.heap.objs.size,[Value.ref ax])) _ _ _
 refine wpAny_pure ?_; show wpAny _ _ (Builtin.Dict.updateFrom "dict.__init__" s.heap.objs.size (.ref ax) [] .none) _ _ _
 unfold Builtin.Dict.updateFrom
 refine wpAny_bind (wpAny_typeOf (T:="list") ⟨o,hk1 _ _ ho,hc⟩ ?_)
 rw [if_pos (by decide)]
 refine wpAny_bind (Zj8 (hk1 _ _ ho) hc hdat hdn hA fun h2 tk2 k2=>?_)
 simp only [Option.isNone_none,if_true]
 refine wpAny_bind (wpAny_rule ?_)
 have d2:h2.DictOf (Zbk prog w) s.heap.objs.size []:=by
  obtain ⟨o',es,ep,ho',r⟩:=hnew
  exact ⟨o',es,ep,k2 _ _ ho',r⟩
 have t2:h2.IsList ax items:=⟨o,k2 _ _ (hk1 _ _ ho),hc,n,hdat⟩
 have l2:s.heap.objs.size < h2.objs.size:=by obtain ⟨o',_,_,ho',_⟩:=d2; exact Heap.lt_size ho'
 refine wpAny_bind (wpAny_pyIter_list t2 ?_)
 have k3:∀ b u,h2.get? b = some u → (h2.push { cls:=.type "list_iterator",data:=.fields #[.ref ax,.int 0 0] }).get? b = some u:=fun b u q=>Heap.get?_push_of_some _ q
 have t3:(h2.push { cls:=.type "list_iterator",data:=.fields #[.ref ax,.int 0 0] }).IsList ax items:=by obtain ⟨o',e',r⟩:=t2; exact ⟨o',k3 _ _ e',r⟩
 have d3:(h2.push { cls:=.type "list_iterator",data:=.fields #[.ref ax,.int 0 0] }).DictOf (Zbk prog w) s.heap.objs.size []:=by obtain ⟨o',es,ep,ho',r⟩:=d2; exact ⟨o',es,ep,k3 _ _ ho',r⟩
 refine wpAny_pure ⟨plainId_quiet Zdh _,Znz (prog:=prog) (w:=w) (A:=A.in1) (ax:=ax) (items:=items) (ps:=ps) hA (Nat.ne_of_lt (Nat.lt_trans hlt l2)) (Nat.ne_of_lt l2) (Nat.ne_of_gt hlt) hl hz items.size 0 _ [] (Nat.le_antisymm ((Nat.sub_le _ _)) (lB 1 4309762049 T1 (sbA _ _))) (Nat.zero_le _) ⟨_,Heap.get?_push_size _ rfl,rfl,rfl⟩ t3 d3 (Nat.zero_le _) (fun j v q hj hq=>?_) fun h' tk dd' kk'=>?_⟩
 ·obtain ⟨a,o',key,n',ev,ho',r⟩:=hp j v q hj hq
  have hla:a < s.heap.objs.size:=Heap.lt_size ho'
  refine ⟨⟨a,o',key,n',ev,k3 _ _ (k2 _ _ (hk1 _ _ ho')),r⟩,fun z=>?_,fun z=>?_⟩
  ·rw [ev] at z; injection z with z; exact absurd hla (by rw [z]; exact Nat.lt_irrefl _)
  ·rw [ev] at z; injection z with z; exact absurd (Nat.lt_trans hla l2) (by rw [z]; exact Nat.lt_irrefl _)
 ·refine ⟨rfl,h h' tk dd' fun b u q=>kk' b u (Nat.ne_of_lt (Heap.lt_size q)) (Nat.ne_of_lt (Nat.lt_trans (Heap.lt_size q) l2)) (k3 _ _ (k2 _ _ (hk1 _ _ q)))⟩
end
section
variable {X:Cx}
theorem ZpT (hc:X.calm = true):ZbA X (.type "dict") (rB X.K Zlv):=by
 intro pins s σ H xs us Q I rs ⟨ι,M,ds,S,rd,h⟩
 cases ds with
 | nil=>exact h.elim
 | cons d ds=>
  cases ds with
  | cons _ _=>cases d <;> exact h.elim
  | nil=>
   obtain ⟨x,rfl,r⟩:=ZfG rd
   obtain ⟨u,rfl,ru⟩:=vals1 rs
   cases d with
   | ref n=>
    have h:Zae X.K H ι Q (match M[n]? with | some (.lst z)=>(match Zdr z with | some l=>if l.length ≤ 100000 then alloc (.dct (dictOf l)) M else .bad | none=>.bad) | _=>.bad):=h
    cases hn:M[n]? with
    | none=>rw [hn] at h; exact h.elim
    | some ob=>cases ob with
     | lst z=>
      rw [hn] at h
      dsimp only at h
      cases hp:Zdr z with
      | none=>rw [hp] at h; exact h.elim
      | some l=>
       rw [hp] at h
       dsimp only at h
       by_cases hz:l.length ≤ 100000
       ·rw [if_pos hz] at h
        obtain ⟨a,ha,rfl⟩:=r.ref_inv
        cases ru
        obtain ⟨vs,q,rr⟩:=S.obj n _ a hn ha
        obtain ⟨its,rv,ht,_⟩:=I.list (SqL.of q)
        obtain ⟨ws,ps,kr,kv,lp,hpp⟩:=pairs_at I hp rr rv
        have hl:ps.length = l.length:=by rw [← kv.length,kr.length]
        refine Zkl (ps:=ps) (I.ok.hd hc) ht (by simpa using lp) (by rw [hl]; exact hz) (fun j v q hj hq=>hpp j v q (by simpa using hj) hq) fun h' tk dd kk=>⟨.ref s.heap.objs.size,upd H s.heap.objs.size (.dK (ZhW [] ws)),?_,rfl,?_⟩
        ·have hm:=kv.merge (kvs:=[]) (vs:=[]) .nil
         refine I.laid kk (Nat.le_refl _) (Zod ?_ (beq_eq_false_iff_ne.mpr (Ne.symm (Nat.ne_of_lt I.big))) hm dd)
         have h1:=Zf1 ws []
         rw [List.length_nil] at h1
         rw [sizeLine_eq]
         have:=kr.length
         omega
        ·obtain ⟨x2,S2,r2⟩:=S.dct (I.hok.fresh (Nat.le_refl _)) (KvR.merge (kvs:=[]) (ws:=[]) kr KvR.nil)
         exact h _ _ _ x2 S2 r2
       ·rw [if_neg hz] at h; exact h.elim
     | _=>rw [hn] at h; exact h.elim
   | _=>exact h.elim
end
end L3
set_option maxHeartbeats 400000
namespace Law
open PySem L3
noncomputable section
def g_NAME_BOX:E3:=eC (.int 7)
def ZcE:ZgN:=[([97,100,100],2),([115,117,98],2),([109,111,114,101],2),([99,101,108,108],1)]
def Zcp:List (List Nat):=[[116,97,107,101],[115,101,116],[112,117,116],[116,101,108,108],[119,104,101,110],[101,108,115,101],[119,104,105,108,101],[101,110,100],[97,100,100],[115,117,98],[109,111,114,101],[99,101,108,108]]
def Zfe:E3:=eC (.tup (Zcp.map D.str))
def Zg7:S3:=Zy (Zaf 1 (ZaE (Ze))) (Zy (Zaf 2 (eC (.int 0))) (Zy (Zfj (ZfV (Zc 0)) (ZbC 3) (Zy (sIf (e2 Za7 (Zc 2) (eC (.int 0))) (Zy (Zak (ZaN tyL Zan (Zc 1) (Za (ZaE (Ze)) (Ze)))) (Zaf 2 (eC (.int 1)))) (Zba)) (Zy (Zak (ZaN tyL Zan (e2 Zk (Zc 1) (e1 ZcI (eC (.int 1)))) (Za (Zc 3) (Ze)))) (Zaf 2 (e2 Zm (e2 ZeU (Zc 2) (eC (.int 1))) (e2 (ZfJ ZcE) (Zc 3) (eC (.int 0)))))))) (Zbu (eIf (e2 Za7 (Zc 2) (eC (.int 0))) (eLC (ZfV (Zc 1)) 1 (ZbC 4) [] (Zaq ZcY (Za (Zc 4) (Ze)))) (eC .non)))))
def ZfQ:F3:=mkF 1 4 Zg7
def Zgg:S3:=Zbu (Zt ZfQ (Za (eSl (Zc 0) (ZeV (eC (.int 1))) (ZeN)) (Ze)))
def Zfb:F3:=mkF 1 1 Zgg
def Zat (rec:Nat → F3):S3:=Zy (sIf (e2 Za7 (e2 Zk (Zc 0) (eC (.int 0))) (eC (.str [119,104,101,110]))) (Zy (Zaf 1 (Zt (rec 0) (Za (e2 Zk (Zc 0) (eC (.int 2))) (Ze)))) (Zy (Zaf 2 (Zt (rec 0) (Za (e2 Zk (Zc 0) (eC (.int 3))) (Ze)))) (Zbu (e2 Zm (e2 Zm (e2 Zm (e2 Zm (ZaE (Za (e2 Zm (Zai (Za (eC (.str [119,104,101,110])) (Ze))) (e2 Zk (Zc 0) (eC (.int 1)))) (Ze))) (Zc 1)) (ZaE (Za (Zai (Za (eC (.str [101,108,115,101])) (Ze))) (Ze)))) (Zc 2)) (ZaE (Za (Zai (Za (eC (.str [101,110,100])) (Ze))) (Ze))))))) (Zba)) (Zy (sIf (e2 Za7 (e2 Zk (Zc 0) (eC (.int 0))) (eC (.str [119,104,105,108,101]))) (Zbu (e2 Zm (e2 Zm (ZaE (Za (e2 Zm (Zai (Za (eC (.str [119,104,105,108,101])) (Ze))) (e2 Zk (Zc 0) (eC (.int 1)))) (Ze))) (Zt (rec 0) (Za (e2 Zk (Zc 0) (eC (.int 2))) (Ze)))) (ZaE (Za (Zai (Za (eC (.str [101,110,100])) (Ze))) (Ze))))) (Zba)) (Zy (sIf (e2 Za7 (e2 Zk (Zc 0) (eC (.int 0))) (eC (.str [112,117,116]))) (Zbu (ZaE (Za (e2 Zm (e2 Zm (Zai (Za (eC (.str [112,117,116])) (Ze))) (e2 Zk (Zc 0) (eC (.int 1)))) (e2 Zk (Zc 0) (eC (.int 2)))) (Ze)))) (Zba)) (Zbu (ZaE (Za (e2 Zm (eSl (Zc 0) (ZeN) (ZeV (e1 ZcI (eC (.int 1))))) (e2 Zk (Zc 0) (e1 ZcI (eC (.int 1))))) (Ze))))))
def ZdD (rec:Nat → F3):S3:=Zy (Zaf 1 (ZaE (Ze))) (Zy (Zfj (ZfV (Zc 0)) (ZbC 2) (Zak (ZaN tyL Zcn (Zc 1) (Za (Zt (rec 1) (Za (Zc 2) (Ze))) (Ze))))) (Zbu (Zc 1)))
def Zap:Nat → Nat → F3
 | 0,0=>mkF 1 3 Ziv
 | 0,1=>mkF 1 3 Ziv
 | n + 1,0=>mkF 1 3 (ZdD (Zap n))
 | n + 1,1=>mkF 1 3 (Zat (Zap n))
 | _,_=>fun _ _=>.bad
def ZbK:F3:=Zap 13 0
def ZfC:S3:=Zy (Zaf 1 (eIf (e2 ZeL (Zaq ZaF (Za (e2 Zk (Zc 0) (eC (.int 0))) (Ze))) (eC (.int 0))) (ZaE (Za (e2 Zm (Zai (Za (eC (.str [116,97,107,101])) (Ze))) (e2 Zk (Zc 0) (eC (.int 0)))) (Ze))) (ZaE (Ze)))) (Zbu (e2 Zm (Zc 1) (Zt ZbK (Za (e2 Zk (Zc 0) (eC (.int 1))) (Ze)))))
def ZdF:F3:=mkF 1 2 ZfC
def Zga:S3:=Zy (Zaf 1 (Zaq ZhP (Za (e2 Zk (Zc 0) (eC (.int 0))) (Ze)))) (Zy (Zfj (ZfV (Zt ZdF (Za (Zc 0) (Ze)))) (ZbC 2) (Zfj (ZfV (Zc 2)) (ZbC 3) (sIf (Zew (e1 Zc9 (e1 (ZaD .int) (Zc 3))) (Zew (e2 Zer (Zc 3) (Zfe)) (e2 Zek (Zc 3) (Zc 1)))) (Zak (ZaN tyL Zan (Zc 1) (Za (Zc 3) (Ze)))) (Zba)))) (Zbu (Zaq ZcY (Za (Zc 1) (Ze)))))
def Zeg:F3:=mkF 1 4 Zga
def Ze9:S3:=Zy (Zaf 1 (Zq0)) (Zy (ZgK (Zfm (Zt Zeg (Za (Zc 0) (Ze)))) (Zc3 [2,3]) (Zpa (Zc 1) (Zc 3) (e2 Zm (e2 ZbD (eC (.int 2)) (Zc 2)) (eC (.int 1))))) (Zbu (Zc 1)))
def ZdY:F3:=mkF 1 4 Ze9
def Zfx:S3:=Zbu (ZaE (Za (Zai (Za (eC (.str [112,117,116])) (Za (g_NAME_BOX) (Za (e2 Zex (Zc 2) (Zc 0)) (Ze))))) (Za (Zai (Za (eC (.str [115,101,116])) (Za (g_NAME_BOX) (Za (Zc 1) (Ze))))) (Ze))))
def Zbo:F3:=mkF 3 3 Zfx
def Zgv:S3:=Zbu (Zai (Za (eC (.str [97,100,100])) (Za (Zc 0) (Za (Zc 0) (Za (Zc 0) (Ze))))))
def ZcC:F3:=mkF 1 1 Zgv
def Zdy (rec:F3):S3:=Zy (Zaf 3 (ZaE (Ze))) (Zy (Zaf 4 (Zt Zfb (Za (Zc 0) (Ze)))) (Zy (ZgK (Zfm (Zc 4)) (Zc3 [5,6]) (Zak (ZaN tyL Zcn (Zc 3) (Za (Zt rec (Za (Zc 6) (Za (e2 Zm (Zc 1) (Zc 5)) (Za (Zc 2) (Ze))))) (Ze))))) (Zy (sIf (e2 Za7 (Zaq ZaF (Za (Zc 4) (Ze))) (eC (.int 2))) (Zbu (e2 Zm (Zc 3) (ZaE (Za (Zai (Za (e2 Zk (Zc 0) (eC (.int 0))) (Za (Zc 1) (Za (Zc 1) (Za (e2 Zm (Zc 1) (eC (.int 1))) (Ze)))))) (Ze))))) (Zba)) (Zy (sIf (e2 Za7 (Zaq ZaF (Za (Zc 4) (Ze))) (eC (.int 1))) (Zbu (e2 Zm (Zc 3) (ZaE (Za (Zt ZcC (Za (Zc 1) (Ze))) (Za (Zai (Za (eC (.str [103,101,116])) (Za (Zc 1) (Za (Zc 1) (Ze))))) (Ze)))))) (Zba)) (Zy (sIf (e1 (ZaD .int) (e2 Zk (Zc 0) (eC (.int 0)))) (Zbu (ZaE (Za (Zai (Za (eC (.str [112,117,116])) (Za (Zc 1) (Za (e2 Zk (Zc 0) (eC (.int 0))) (Ze))))) (Ze)))) (Zba)) (Zbu (ZaE (Za (Zai (Za (eC (.str [112,117,116])) (Za (g_NAME_BOX) (Za (e2 Zex (Zc 2) (e2 Zk (Zc 0) (eC (.int 0)))) (Ze))))) (Za (Zai (Za (eC (.str [103,101,116])) (Za (Zc 1) (Za (g_NAME_BOX) (Ze))))) (Ze))))))))))
def ZdC:Nat → F3
 | 0=>mkF 3 7 Ziv
 | n + 1=>mkF 3 7 (Zdy (ZdC n))
def Za8:F3:=ZdC 13
def ZcR (rec:Nat → F3):S3:=Zy (Zaf 3 (Zt Za8 (Za (e2 Zk (Zc 0) (eC (.int 1))) (Za (eC (.int 0)) (Za (Zc 2) (Ze)))))) (Zy (Zaf 4 (e2 Zm (e2 Zm (Zc 1) (Zaq ZaF (Za (Zc 3) (Ze)))) (eC (.int 2)))) (Zy (Zaf 5 (Zt (rec 0) (Za (e2 Zk (Zc 0) (eC (.int 2))) (Za (Zc 4) (Za (Zc 2) (Ze)))))) (Zy (Zaf 6 (e2 Zm (e2 Zm (Zc 4) (Zaq ZaF (Za (Zc 5) (Ze)))) (eC (.int 1)))) (Zbu (e2 Zm (e2 Zm (e2 Zm (Zc 3) (ZaE (Za (Zai (Za (eC (.str [119,104,101,110])) (Za (eC (.int 0)) (Za (Zc 4) (Ze))))) (Za (Zai (Za (eC (.str [106,117,109,112])) (Za (Zc 6) (Ze)))) (Ze))))) (Zc 5)) (ZaE (Za (Zai (Za (eC (.str [106,117,109,112])) (Za (Zc 1) (Ze)))) (Ze))))))))
def Zdc (rec:Nat → F3):S3:=Zy (Zaf 3 (Zt Za8 (Za (e2 Zk (Zc 0) (eC (.int 1))) (Za (eC (.int 0)) (Za (Zc 2) (Ze)))))) (Zy (Zaf 4 (e2 Zm (e2 Zm (Zc 1) (Zaq ZaF (Za (Zc 3) (Ze)))) (eC (.int 1)))) (Zy (Zaf 5 (Zt (rec 0) (Za (e2 Zk (Zc 0) (eC (.int 3))) (Za (Zc 4) (Za (Zc 2) (Ze)))))) (Zy (Zaf 6 (e2 Zm (e2 Zm (Zc 4) (Zaq ZaF (Za (Zc 5) (Ze)))) (eC (.int 1)))) (Zy (Zaf 7 (Zt (rec 0) (Za (e2 Zk (Zc 0) (eC (.int 2))) (Za (Zc 6) (Za (Zc 2) (Ze)))))) (Zy (Zaf 8 (e2 Zm (Zc 6) (Zaq ZaF (Za (Zc 7) (Ze))))) (Zbu (e2 Zm (e2 Zm (e2 Zm (e2 Zm (Zc 3) (ZaE (Za (Zai (Za (eC (.str [119,104,101,110])) (Za (eC (.int 0)) (Za (Zc 6) (Ze))))) (Ze)))) (Zc 5)) (ZaE (Za (Zai (Za (eC (.str [106,117,109,112])) (Za (Zc 8) (Ze)))) (Ze)))) (Zc 7))))))))
def Zbn (rec:Nat → F3):S3:=Zy (sIf (e2 Za7 (e2 Zk (Zc 0) (eC (.int 0))) (eC (.str [119,104,101,110]))) (Zbu (Zt (rec 2) (Za (Zc 0) (Za (Zc 1) (Za (Zc 2) (Ze)))))) (Zba)) (Zy (sIf (e2 Za7 (e2 Zk (Zc 0) (eC (.int 0))) (eC (.str [119,104,105,108,101]))) (Zbu (Zt (rec 3) (Za (Zc 0) (Za (Zc 1) (Za (Zc 2) (Ze)))))) (Zba)) (Zy (sIf (e2 Za7 (e2 Zk (Zc 0) (eC (.int 0))) (eC (.str [112,117,116]))) (Zy (Zaf 3 (e2 Zm (Zt Za8 (Za (e2 Zk (Zc 0) (eC (.int 1))) (Za (eC (.int 0)) (Za (Zc 2) (Ze))))) (ZaE (Za (Zt ZcC (Za (eC (.int 0)) (Ze))) (Ze))))) (Zbu (e2 Zm (e2 Zm (Zc 3) (Zt Za8 (Za (e2 Zk (Zc 0) (eC (.int 2))) (Za (eC (.int 1)) (Za (Zc 2) (Ze)))))) (ZaE (Za (Zai (Za (eC (.str [115,101,116])) (Za (eC (.int 0)) (Za (eC (.int 1)) (Ze))))) (Ze)))))) (Zba)) (Zy (sIf (e2 Za7 (e2 Zk (Zc 0) (eC (.int 0))) (eC (.str [115,101,116]))) (Zbu (e2 Zm (Zt Za8 (Za (e2 Zk (Zc 0) (eC (.int 2))) (Za (eC (.int 0)) (Za (Zc 2) (Ze))))) (Zt Zbo (Za (e2 Zk (Zc 0) (eC (.int 1))) (Za (eC (.int 0)) (Za (Zc 2) (Ze))))))) (Zba)) (Zbu (e2 Zm (Zt Za8 (Za (e2 Zk (Zc 0) (eC (.int 1))) (Za (eC (.int 0)) (Za (Zc 2) (Ze))))) (ZaE (Za (Zai (Za (eC (.str [116,101,108,108])) (Za (eC (.int 0)) (Ze)))) (Ze))))))))
def ZcP (rec:Nat → F3):S3:=Zy (Zaf 3 (ZaE (Ze))) (Zy (Zfj (ZfV (Zc 0)) (ZbC 4) (Zak (ZaN tyL Zcn (Zc 3) (Za (Zt (rec 1) (Za (Zc 4) (Za (e2 Zm (Zc 1) (Zaq ZaF (Za (Zc 3) (Ze)))) (Za (Zc 2) (Ze))))) (Ze))))) (Zbu (Zc 3)))
def Zar:Nat → Nat → F3
 | 0,0=>mkF 3 5 Ziv
 | 0,1=>mkF 3 4 Ziv
 | 0,2=>mkF 3 9 Ziv
 | 0,3=>mkF 3 7 Ziv
 | n + 1,0=>mkF 3 5 (ZcP (Zar n))
 | n + 1,1=>mkF 3 4 (Zbn (Zar n))
 | n + 1,2=>mkF 3 9 (Zdc (Zar n))
 | n + 1,3=>mkF 3 7 (ZcR (Zar n))
 | _,_=>fun _ _=>.bad
def ZcS:F3:=Zar 13 0
def Zhe:S3:=Zy (Zaf 1 (Zt ZdY (Za (Zc 0) (Ze)))) (Zy (Zaf 2 (ZaE (Ze))) (Zy (ZgK (Zfm (e2 Zk (Zc 0) (eC (.int 0)))) (Zc3 [3,4]) (Zak (ZaN tyL Zcn (Zc 2) (Za (Zt Zbo (Za (Zc 4) (Za (Zc 3) (Za (Zc 1) (Ze))))) (Ze))))) (Zy (Zak (ZaN tyL Zcn (Zc 2) (Za (Zt ZcS (Za (e2 Zk (Zc 0) (eC (.int 1))) (Za (Zaq ZaF (Za (Zc 2) (Ze))) (Za (Zc 1) (Ze))))) (Ze)))) (Zbu (e2 Zm (Zaq ZcY (Za (Zc 2) (Ze))) (Zai (Za (Zai (Za (eC (.str [104,97,108,116])) (Ze))) (Ze))))))))
def ZfD:F3:=mkF 1 5 Zhe
def Zfr:S3:=Zy (Zaf 2 (eC (.int 0))) (Zy (sIf (e2 ZeL (Zaq ZaF (Za (Zc 0) (Ze))) (eC (.int 0))) (Zaf 2 (e2 Zaw (e2 Zk (Zc 0) (e2 Zaw (Zc 1) (Zaq ZaF (Za (Zc 0) (Ze))))) (eC (.int 2147483629)))) (Zba)) (Zy (Zaf 3 (e2 Zaw (e2 ZbD (e2 Zm (e2 Zm (Zc 2) (eC (.int 3))) (e2 ZbD (eC (.int 86243)) (e2 Za6 (Zc 1) (Zaq ZiJ (Za (eC (.int 1)) (Za (Zaq ZaF (Za (Zc 0) (Ze))) (Ze))))))) (eC (.int 69621))) (eC (.int 2147483629)))) (Zbu (e2 Zaw (e2 ZbD (Zc 3) (Zc 3)) (eC (.int 2147483587))))))
def Zaj:F3:=mkF 2 4 Zfr
def Zfn:S3:=Zy (Zaf 2 (eC (.str [97,98,99,100,101,102,103,104,105,106,107,108,109,110,111,112,113,114,115,116,117,118,119,120,121,122]))) (Zy (Zaf 3 (e2 Zk (Zc 2) (e2 Zaw (Zt Zaj (Za (Zc 0) (Za (eC (.int 0)) (Ze)))) (eC (.int 26))))) (Zy (Zaf 4 (e2 Zaw (Zt Zaj (Za (Zc 0) (Za (eC (.int 1)) (Ze)))) (eC (.int 8)))) (Zy (Zaf 5 (e2 Zaw (Zt Zaj (Za (Zc 0) (Za (eC (.int 2)) (Ze)))) (e2 ZeU (eC (.int 8)) (Zc 4)))) (Zy (sIf (e2 Za7 (e2 Zaw (e2 Za6 (Zt Zaj (Za (Zc 0) (Za (eC (.int 1)) (Ze)))) (eC (.int 8))) (eC (.int 2))) (eC (.int 1))) (Zaf 5 (e2 Zaw (Zt Zaj (Za (Zc 0) (Za (e2 Zm (eC (.int 4)) (Zc 1)) (Ze)))) (e2 ZeU (eC (.int 8)) (Zc 4)))) (Zba)) (Zy (Zaf 6 (e2 Zm (e2 Zm (e2 ZbD (Zc 3) (Zc 4)) (e2 Zk (Zc 2) (e2 Zaw (e2 Zm (Zc 1) (Zt Zaj (Za (Zc 0) (Za (eC (.int 3)) (Ze))))) (eC (.int 26))))) (e2 ZbD (Zc 3) (Zc 5)))) (Zy (sIf (e2 Za7 (Zc 6) (eC (.str [97,100,100]))) (Zbu (eC (.str [97,100,100,100]))) (Zba)) (Zbu (Zc 6))))))))
def Za1:F3:=mkF 2 7 Zfn
def Zey:S3:=Zy (Zaf 1 (ZaE (Za (e2 Zaw (e2 Za6 (Zc 0) (eC (.int 8))) (eC (.int 5))) (Za (e2 Zaw (e2 Za6 (Zc 0) (eC (.int 8))) (eC (.int 1000))) (Za (e2 Zaw (e2 ZbD (e2 Za6 (Zc 0) (eC (.int 8))) (eC (.int 4099))) (e2 Zok (eC (.int 10)) (eC (.int 12)))) (Za (eC (.int 0)) (Ze))))))) (Zbu (e2 Zk (ZaE (Za (e2 Zk (Zc 1) (e2 Zaw (Zc 0) (eC (.int 4)))) (Za (e1 ZcI (e2 Zk (Zc 1) (e2 Zaw (Zc 0) (eC (.int 4))))) (Ze)))) (e2 Zaw (e2 Za6 (Zc 0) (eC (.int 4))) (eC (.int 2)))))
def ZcJ:F3:=mkF 1 2 Zey
def Zf8:S3:=Zy (Zaf 4 (ZaE (Ze))) (Zy (Zaf 5 (eC (.int 1))) (Zy (Zjt (e2 ZeL (Zc 5) (eC (.int 0))) (Zy (Zaf 6 (Zt Zaj (Za (Zc 0) (Za (e2 Zm (Zc 1) (Zaq ZaF (Za (Zc 4) (Ze)))) (Ze))))) (Zy (Zaf 5 (e2 ZeU (Zc 5) (eC (.int 1)))) (sIf (eOr (e2 Zo2 (e2 Zm (Zaq ZaF (Za (Zc 4) (Ze))) (Zc 5)) (Zc 3)) (e2 Zgq (e2 Zaw (Zc 6) (eC (.int 5))) (eC (.int 2)))) (sIf (e2 Za7 (e2 Zaw (e2 Za6 (Zc 6) (eC (.int 5))) (eC (.int 3))) (eC (.int 0))) (Zak (ZaN tyL Zan (Zc 4) (Za (Zt ZcJ (Za (e2 Za6 (Zc 6) (eC (.int 15))) (Ze))) (Ze)))) (Zak (ZaN tyL Zan (Zc 4) (Za (e2 Zk (Zc 2) (e2 Zaw (e2 Za6 (Zc 6) (eC (.int 15))) (Zaq ZaF (Za (Zc 2) (Ze))))) (Ze))))) (sIf (e2 Za7 (e2 Zaw (Zc 6) (eC (.int 5))) (eC (.int 2))) (Zy (Zak (ZaN tyL Zan (Zc 4) (Za (eC (.str [99,101,108,108])) (Ze)))) (Zaf 5 (e2 Zm (Zc 5) (eC (.int 1))))) (Zy (Zak (ZaN tyL Zan (Zc 4) (Za (e2 Zk (ZaE (Za (eC (.str [97,100,100])) (Za (eC (.str [115,117,98])) (Za (eC (.str [109,111,114,101])) (Ze))))) (e2 Zaw (e2 Za6 (Zc 6) (eC (.int 5))) (eC (.int 3)))) (Ze)))) (Zaf 5 (e2 Zm (Zc 5) (eC (.int 2)))))))))) (Zbu (Zaq ZcY (Za (Zc 4) (Ze))))))
def Zbt:F3:=mkF 4 7 Zf8
def ZeD:S3:=Zy (Zaf 2 (Zaq ZcY (Za (ZaN tyL Zet (Zc 0) (Ze)) (Ze)))) (Zy (Zaf 3 (ZaN tyL Zet (Zc 1) (Ze))) (sIf (e2 Za7 (e2 Zk (Zc 3) (eC (.int 0))) (eC (.str [119,104,105,108,101]))) (Zak (ZaN tyL Zan (e2 Zk (Zc 0) (e1 ZcI (eC (.int 1)))) (Za (Zai (Za (eC (.str [119,104,105,108,101])) (Za (e2 Zk (Zc 3) (eC (.int 1))) (Za (e2 Zm (Zc 2) (e2 Zk (Zc 3) (eC (.int 2)))) (Ze))))) (Ze)))) (sIf (e2 Zsz (e2 Zk (Zc 3) (eC (.int 2))) (eC .non)) (Zy (Zak (ZaN tyL Zan (Zc 1) (Za (Zai (Za (e2 Zk (Zc 3) (eC (.int 0))) (Za (e2 Zk (Zc 3) (eC (.int 1))) (Za (Zc 2) (Ze))))) (Ze)))) (Zak (ZaN tyL Zan (Zc 0) (Za (ZaE (Ze)) (Ze))))) (Zak (ZaN tyL Zan (e2 Zk (Zc 0) (e1 ZcI (eC (.int 1)))) (Za (Zai (Za (eC (.str [119,104,101,110])) (Za (e2 Zk (Zc 3) (eC (.int 1))) (Za (e2 Zk (Zc 3) (eC (.int 2))) (Za (Zc 2) (Ze)))))) (Ze)))))))
def Zbz:F3:=mkF 2 4 ZeD
def ZcL:S3:=Zy (Zaf 5 (Zt Zaj (Za (Zc 0) (Za (e2 Zm (eC (.int 100)) (Zc 1)) (Ze))))) (Zy (sIf (e2 Za7 (e2 Zaw (Zc 5) (eC (.int 2))) (eC (.int 1))) (Zy (Zaf 6 (Zt Za1 (Za (Zc 0) (Za (e2 Zm (eC (.int 10)) (Zaq ZaF (Za (Zc 3) (Ze)))) (Ze))))) (Zy (Zak (ZaN tyL Zan (e2 Zk (Zc 2) (e1 ZcI (eC (.int 1)))) (Za (Zai (Za (eC (.str [115,101,116])) (Za (Zc 6) (Za (Zai (Za (e2 Zaw (e2 Za6 (Zc 5) (eC (.int 2))) (eC (.int 4))) (Ze))) (Ze))))) (Ze)))) (Zy (Zaf 7 (ZaE (Za (Zai (Za (Zc 6) (Ze))) (Za (Zai (Za (eC (.str [109,111,114,101])) (Za (Zc 6) (Za (eC (.int 0)) (Ze))))) (Za (Zai (Za (eC (.str [97,100,100])) (Za (Zc 6) (Za (eC (.int 0)) (Ze))))) (Za (Zai (Za (eC (.str [115,117,98])) (Za (Zc 6) (Za (eC (.int 0)) (Ze))))) (Za (Zai (Za (e2 ZeU (eC (.int 1)) (e2 Zaw (e2 Za6 (Zc 5) (eC (.int 64))) (eC (.int 3)))) (Ze))) (Ze)))))))) (Zy (Zaf 8 (e2 Zk (ZaE (Za (Zai (Za (Zai (Za (eC (.str [115,101,116])) (Za (Zc 6) (Za (Zai (Za (eC (.str [115,117,98])) (Za (Zc 6) (Za (eC (.int 1)) (Ze))))) (Ze))))) (Ze))) (Za (Zai (Ze)) (Ze)))) (Zaq ZgS (Za (e2 Za7 (e2 Zaw (e2 Za6 (Zc 5) (eC (.int 8))) (eC (.int 8))) (eC (.int 7))) (Ze))))) (Zak (ZaN tyL Zan (Zc 3) (Za (Zai (Za (eC (.str [119,104,105,108,101])) (Za (e2 Zk (Zc 7) (e2 Zaw (e2 Zaw (e2 Za6 (Zc 5) (eC (.int 8))) (eC (.int 8))) (eC (.int 5)))) (Za (Zc 8) (Ze))))) (Ze)))))))) (Zak (ZaN tyL Zan (Zc 3) (Za (Zai (Za (eC (.str [119,104,101,110])) (Za (Zt Zbt (Za (Zc 0) (Za (e2 Zm (eC (.int 200)) (e2 ZbD (eC (.int 30)) (Zc 1))) (Za (Zc 4) (Za (eC (.int 4)) (Ze)))))) (Za (eC .non) (Ze))))) (Ze))))) (Zak (ZaN tyL Zan (Zc 2) (Za (ZaE (Ze)) (Ze)))))
def Zcg:F3:=mkF 5 9 ZcL
def Ze5:S3:=Zy (Zaf 3 (ZaE (Za (ZaE (Ze)) (Ze)))) (Zy (Zaf 4 (ZaE (Ze))) (Zy (ZgK (Zfm (Zc 1)) (Zc3 [5,6]) (Zy (Zaf 7 (Zaq ZgS (Za (e2 Za7 (Zc 5) (e2 Zaw (Zt Zaj (Za (Zc 0) (Za (eC (.int 58)) (Ze)))) (eC (.int 8)))) (Ze)))) (Zy (Zaf 8 (Zt Zbt (Za (Zc 0) (Za (e2 Zm (eC (.int 200)) (e2 ZbD (eC (.int 30)) (Zc 5))) (Za (Zc 2) (Za (e2 Zk (ZaE (Za (eC (.int 4)) (Za (eC (.int 10)) (Ze)))) (Zc 7)) (Ze))))))) (sIf (e2 Zgq (e2 Zaw (Zc 6) (eC (.int 9))) (eC (.int 3))) (Zak (ZaN tyL Zan (e2 Zk (Zc 3) (e1 ZcI (eC (.int 1)))) (Za (Zai (Za (eC (.str [115,101,116])) (Za (e2 Zk (Zc 2) (e2 Zaw (e2 Za6 (Zc 6) (eC (.int 9))) (eC (.int 6)))) (Za (Zc 8) (Ze))))) (Ze)))) (sIf (e2 Za7 (e2 Zaw (Zc 6) (eC (.int 9))) (eC (.int 3))) (Zak (ZaN tyL Zan (e2 Zk (Zc 3) (e1 ZcI (eC (.int 1)))) (Za (Zai (Za (eC (.str [112,117,116])) (Za (Zc 8) (Za (Zt Zbt (Za (Zc 0) (Za (e2 Zm (eC (.int 215)) (e2 ZbD (eC (.int 30)) (Zc 5))) (Za (Zc 2) (Za (e2 Zk (ZaE (Za (eC (.int 3)) (Za (eC (.int 8)) (Ze)))) (Zc 7)) (Ze)))))) (Ze))))) (Ze)))) (sIf (Zew (e2 Zgq (e2 Zaw (Zc 6) (eC (.int 9))) (eC (.int 6))) (e2 Zgq (Zaq ZaF (Za (Zc 4) (Ze))) (eC (.int 3)))) (Zak (Zt Zcg (Za (Zc 0) (Za (Zc 5) (Za (Zc 3) (Za (Zc 4) (Za (Zc 2) (Ze)))))))) (sIf (Zew (e2 Za7 (e2 Zaw (Zc 6) (eC (.int 9))) (eC (.int 6))) (e2 ZeL (Zaq ZaF (Za (Zc 4) (Ze))) (eC (.int 0)))) (Zak (Zt Zbz (Za (Zc 3) (Za (Zc 4) (Ze))))) (Zak (ZaN tyL Zan (e2 Zk (Zc 3) (e1 ZcI (eC (.int 1)))) (Za (Zai (Za (eC (.str [116,101,108,108])) (Za (Zc 8) (Ze)))) (Ze))))))))))) (Zy (Zjt (e2 ZeL (Zaq ZaF (Za (Zc 4) (Ze))) (eC (.int 0))) (Zak (Zt Zbz (Za (Zc 3) (Za (Zc 4) (Ze)))))) (Zbu (Zaq ZcY (Za (e2 Zk (Zc 3) (eC (.int 0))) (Ze)))))))
def ZdW:F3:=mkF 3 9 Ze5
def Zec:S3:=Zy (Zaf 1 (eLC (Zen (eC (.int 6))) 1 (ZbC 3) [] (Zt Za1 (Za (Zc 0) (Za (Zc 3) (Ze)))))) (Zy (Zaf 2 (Zaq ZcY (Za (eSl (Zc 1) (ZeN) (ZeV (e2 Zaw (Zt Zaj (Za (Zc 0) (Za (eC (.int 50)) (Ze)))) (eC (.int 7))))) (Ze)))) (Zbu (Zai (Za (Zc 2) (Za (Zt ZdW (Za (Zc 0) (Za (eSl (Zc 0) (ZeN) (ZeV (eC (.int 24)))) (Za (e2 Zm (Zc 1) (ZaE (Za (Zt Za1 (Za (Zc 0) (Za (eC (.int 10)) (Ze)))) (Ze)))) (Ze))))) (Ze))))))
def Zco:F3:=mkF 1 3 Zec
def ZcV:S3:=Zy (Zaf 3 (ZaE (Ze))) (Zy (Zaf 4 (ZaE (Za (Zc 1) (Ze)))) (Zy (Zaf 5 (Zaq ZhP (Za (Zc 0) (Ze)))) (Zy (Zjt (e2 ZeL (Zaq ZaF (Za (Zc 4) (Ze))) (eC (.int 0))) (Zy (Zaf 6 (ZaN tyL Zet (Zc 4) (Za (eC (.int 0)) (Ze)))) (sIf (e1 (ZaD .tuple) (Zc 6)) (Zak (ZaN tyL Zan (Zc 3) (Za (Zc 6) (Ze)))) (sIf (e1 (ZaD .int) (e2 Zk (Zc 5) (eC (.int 0)))) (Zak (ZaN tyL Zan (Zc 3) (Za (Zai (Za (eC (.str [112,117,116])) (Za (Zc 6) (Za (ZaN tyL Zet (Zc 5) (Za (eC (.int 0)) (Ze))) (Ze))))) (Ze)))) (sIf (e2 Za7 (e2 Zk (Zc 5) (eC (.int 0))) (eC (.str [99,101,108,108]))) (Zy (Zak (ZaN tyL Zet (Zc 5) (Za (eC (.int 0)) (Ze)))) (Zaf 4 (e2 Zm (ZaE (Za (Zc 6) (Za (Zai (Za (eC (.str [97,100,100])) (Za (Zc 6) (Za (Zc 6) (Za (Zc 6) (Ze)))))) (Za (Zai (Za (eC (.str [103,101,116])) (Za (Zc 6) (Za (Zc 6) (Ze))))) (Ze))))) (Zc 4)))) (sIf (e2 Znb (e2 Zk (Zc 5) (eC (.int 0))) (Zai (Za (eC (.str [97,100,100])) (Za (eC (.str [115,117,98])) (Za (eC (.str [109,111,114,101])) (Ze)))))) (Zaf 4 (e2 Zm (ZaE (Za (Zc 6) (Za (e2 Zm (Zc 6) (eC (.int 1))) (Za (Zai (Za (ZaN tyL Zet (Zc 5) (Za (eC (.int 0)) (Ze))) (Za (Zc 6) (Za (Zc 6) (Za (e2 Zm (Zc 6) (eC (.int 1))) (Ze)))))) (Ze))))) (Zc 4))) (Zaf 3 (e2 Zm (Zc 3) (ZaE (Za (Zai (Za (eC (.str [112,117,116])) (Za (eC (.int 7)) (Za (e2 Zex (Zc 2) (ZaN tyL Zet (Zc 5) (Za (eC (.int 0)) (Ze)))) (Ze))))) (Za (Zai (Za (eC (.str [103,101,116])) (Za (Zc 6) (Za (eC (.int 7)) (Ze))))) (Ze)))))))))))) (Zbu (Zc 3)))))
def Zag:F3:=mkF 3 7 ZcV
def ZbN (rec:F3):S3:=Zy (Zaf 3 (ZaE (Ze))) (Zy (Zfj (ZfV (Zc 0)) (ZbC 4) (Zy (Zaf 5 (e2 Zm (Zc 1) (Zaq ZaF (Za (Zc 3) (Ze))))) (sIf (e2 Za7 (e2 Zk (Zc 4) (eC (.int 0))) (eC (.str [115,101,116]))) (Zaf 3 (e2 Zm (e2 Zm (Zc 3) (Zt Zag (Za (e2 Zk (Zc 4) (eC (.int 2))) (Za (eC (.int 0)) (Za (Zc 2) (Ze)))))) (ZaE (Za (Zai (Za (eC (.str [112,117,116])) (Za (eC (.int 7)) (Za (e2 Zex (Zc 2) (e2 Zk (Zc 4) (eC (.int 1)))) (Ze))))) (Za (Zai (Za (eC (.str [115,101,116])) (Za (eC (.int 7)) (Za (eC (.int 0)) (Ze))))) (Ze)))))) (sIf (e2 Za7 (e2 Zk (Zc 4) (eC (.int 0))) (eC (.str [112,117,116]))) (Zy (Zaf 3 (e2 Zm (e2 Zm (Zc 3) (Zt Zag (Za (e2 Zk (Zc 4) (eC (.int 1))) (Za (eC (.int 0)) (Za (Zc 2) (Ze)))))) (ZaE (Za (Zai (Za (eC (.str [97,100,100])) (Za (eC (.int 0)) (Za (eC (.int 0)) (Za (eC (.int 0)) (Ze)))))) (Ze))))) (Zaf 3 (e2 Zm (e2 Zm (Zc 3) (Zt Zag (Za (e2 Zk (Zc 4) (eC (.int 2))) (Za (eC (.int 1)) (Za (Zc 2) (Ze)))))) (ZaE (Za (Zai (Za (eC (.str [115,101,116])) (Za (eC (.int 0)) (Za (eC (.int 1)) (Ze))))) (Ze)))))) (sIf (e2 Za7 (e2 Zk (Zc 4) (eC (.int 0))) (eC (.str [116,101,108,108]))) (Zaf 3 (e2 Zm (e2 Zm (Zc 3) (Zt Zag (Za (e2 Zk (Zc 4) (eC (.int 1))) (Za (eC (.int 0)) (Za (Zc 2) (Ze)))))) (ZaE (Za (Zai (Za (eC (.str [116,101,108,108])) (Za (eC (.int 0)) (Ze)))) (Ze))))) (sIf (e2 Za7 (e2 Zk (Zc 4) (eC (.int 0))) (eC (.str [119,104,101,110]))) (Zy (Zaf 6 (Zt Zag (Za (e2 Zk (Zc 4) (eC (.int 1))) (Za (eC (.int 0)) (Za (Zc 2) (Ze)))))) (Zy (Zaf 7 (Zt rec (Za (e2 Zk (Zc 4) (eC (.int 3))) (Za (e2 Zm (e2 Zm (Zc 5) (Zaq ZaF (Za (Zc 6) (Ze)))) (eC (.int 1))) (Za (Zc 2) (Ze)))))) (Zy (Zaf 8 (e2 Zm (e2 Zm (e2 Zm (Zc 5) (Zaq ZaF (Za (Zc 6) (Ze)))) (Zaq ZaF (Za (Zc 7) (Ze)))) (eC (.int 2)))) (Zy (Zaf 9 (Zt rec (Za (e2 Zk (Zc 4) (eC (.int 2))) (Za (Zc 8) (Za (Zc 2) (Ze)))))) (Zaf 3 (e2 Zm (e2 Zm (e2 Zm (e2 Zm (e2 Zm (Zc 3) (Zc 6)) (ZaE (Za (Zai (Za (eC (.str [119,104,101,110])) (Za (eC (.int 0)) (Za (Zc 8) (Ze))))) (Ze)))) (Zc 7)) (ZaE (Za (Zai (Za (eC (.str [106,117,109,112])) (Za (e2 Zm (Zc 8) (Zaq ZaF (Za (Zc 9) (Ze)))) (Ze)))) (Ze)))) (Zc 9))))))) (Zy (Zaf 6 (Zt Zag (Za (e2 Zk (Zc 4) (eC (.int 1))) (Za (eC (.int 0)) (Za (Zc 2) (Ze)))))) (Zy (Zaf 10 (Zt rec (Za (e2 Zk (Zc 4) (eC (.int 2))) (Za (e2 Zm (e2 Zm (Zc 5) (Zaq ZaF (Za (Zc 6) (Ze)))) (eC (.int 2))) (Za (Zc 2) (Ze)))))) (Zy (Zaf 11 (e2 Zm (e2 Zm (e2 Zm (Zc 5) (Zaq ZaF (Za (Zc 6) (Ze)))) (Zaq ZaF (Za (Zc 10) (Ze)))) (eC (.int 3)))) (Zaf 3 (e2 Zm (e2 Zm (e2 Zm (e2 Zm (Zc 3) (Zc 6)) (ZaE (Za (Zai (Za (eC (.str [119,104,101,110])) (Za (eC (.int 0)) (Za (e2 Zm (e2 Zm (Zc 5) (Zaq ZaF (Za (Zc 6) (Ze)))) (eC (.int 2))) (Ze))))) (Za (Zai (Za (eC (.str [106,117,109,112])) (Za (Zc 11) (Ze)))) (Ze))))) (Zc 10)) (ZaE (Za (Zai (Za (eC (.str [106,117,109,112])) (Za (Zc 5) (Ze)))) (Ze)))))))))))))) (Zbu (Zc 3)))
def ZbQ:Nat → F3
 | 0=>mkF 3 12 Ziv
 | n + 1=>mkF 3 12 (ZbN (ZbQ n))
def Zbm:F3:=ZbQ 7
def Zhn:S3:=Zfj (ZfV (Zc 0)) (ZbC 2) (sIf (Zew (e1 Zc9 (e1 (ZaD .int) (Zc 2))) (Zew (e2 Zer (Zc 2) (Zai (Za (eC (.str [97,100,100])) (Za (eC (.str [115,117,98])) (Za (eC (.str [109,111,114,101])) (Za (eC (.str [99,101,108,108])) (Ze))))))) (e2 Zek (Zc 2) (Zc 1)))) (Zak (ZaN tyL Zan (Zc 1) (Za (Zc 2) (Ze)))) (Zba))
def Zby:F3:=mkF 2 3 Zhn
def ZgD (rec:F3):S3:=Zfj (ZfV (Zc 0)) (ZbC 2) (Zy (sIf (e2 Za7 (e2 Zk (Zc 2) (eC (.int 0))) (eC (.str [115,101,116]))) (Zak (Zt Zby (Za (e2 Zm (Zai (Za (e2 Zk (Zc 2) (eC (.int 1))) (Ze))) (e2 Zk (Zc 2) (eC (.int 2)))) (Za (Zc 1) (Ze))))) (Zak (Zt Zby (Za (e2 Zk (Zc 2) (eC (.int 1))) (Za (Zc 1) (Ze)))))) (Zy (sIf (e2 Za7 (e2 Zk (Zc 2) (eC (.int 0))) (eC (.str [112,117,116]))) (Zak (Zt Zby (Za (e2 Zk (Zc 2) (eC (.int 2))) (Za (Zc 1) (Ze))))) (Zba)) (Zy (sIf (e2 Za7 (e2 Zk (Zc 2) (eC (.int 0))) (eC (.str [119,104,101,110]))) (Zy (Zak (Zt rec (Za (e2 Zk (Zc 2) (eC (.int 2))) (Za (Zc 1) (Ze))))) (Zak (Zt rec (Za (e2 Zk (Zc 2) (eC (.int 3))) (Za (Zc 1) (Ze)))))) (Zba)) (sIf (e2 Za7 (e2 Zk (Zc 2) (eC (.int 0))) (eC (.str [119,104,105,108,101]))) (Zak (Zt rec (Za (e2 Zk (Zc 2) (eC (.int 2))) (Za (Zc 1) (Ze))))) (Zba)))))
def ZdT:Nat → F3
 | 0=>mkF 2 3 Ziv
 | n + 1=>mkF 2 3 (ZgD (ZdT n))
def ZdV:F3:=ZdT 7
def Zpf:S3:=Zy (Zaf 1 (Zt Zco (Za (Zc 0) (Ze)))) (Zy (Zaf 2 (Zaq ZhP (Za (e2 Zk (Zc 1) (eC (.int 0))) (Ze)))) (Zy (Zak (Zt ZdV (Za (e2 Zk (Zc 1) (eC (.int 1))) (Za (Zc 2) (Ze))))) (Zy (Zaf 3 (Zaq Zlv (Za (ZrK (Zfm (Zc 2)) 2 (Zc3 [9,10]) [] (Zai (Za (Zc 10) (Za (e2 Zm (e2 ZbD (eC (.int 2)) (Zc 9)) (eC (.int 1))) (Ze))))) (Ze)))) (Zy (Zaf 4 (ZaE (Ze))) (Zy (Zfj (Zen (Zaq ZaF (Za (e2 Zk (Zc 1) (eC (.int 0))) (Ze)))) (ZbC 5) (Zaf 4 (e2 Zm (Zc 4) (ZaE (Za (Zai (Za (eC (.str [112,117,116])) (Za (eC (.int 7)) (Za (e2 Zm (e2 ZbD (eC (.int 2)) (Zc 5)) (eC (.int 1))) (Ze))))) (Za (Zai (Za (eC (.str [115,101,116])) (Za (eC (.int 7)) (Za (Zc 5) (Ze))))) (Ze))))))) (Zy (Zaf 4 (e2 Zm (e2 Zm (Zc 4) (Zt Zbm (Za (e2 Zk (Zc 1) (eC (.int 1))) (Za (Zaq ZaF (Za (Zc 4) (Ze))) (Za (Zc 3) (Ze)))))) (ZaE (Za (Zai (Za (eC (.str [104,97,108,116])) (Ze))) (Ze))))) (Zy (Zaf 6 (Zt ZfD (Za (Zc 1) (Ze)))) (Zy (sIf (eOr (e1 Zc9 (e1 (ZaD .tuple) (Zc 6))) (e2 ZiF (Zaq ZaF (Za (Zc 6) (Ze))) (Zaq ZaF (Za (Zc 4) (Ze))))) (Zbu (eC (.bl false))) (Zba)) (Zy (ZgK (Zfm (Zc 4)) (Zc3 [5,7]) (Zy (sIf (eOr (e1 Zc9 (e1 (ZaD .tuple) (e2 Zk (Zc 6) (Zc 5)))) (eOr (e2 ZiF (Zaq ZaF (Za (e2 Zk (Zc 6) (Zc 5)) (Ze))) (Zaq ZaF (Za (Zc 7) (Ze)))) (e1 Zc9 (e1 (ZaD .str) (e2 Zk (e2 Zk (Zc 6) (Zc 5)) (eC (.int 0))))))) (Zbu (eC (.bl false))) (Zba)) (Zy (Zfj (ZfV (eSl (e2 Zk (Zc 6) (Zc 5)) (ZeV (eC (.int 1))) (ZeN))) (ZbC 8) (sIf (eOr (e1 Zc9 (e1 (ZaD .int) (Zc 8))) (e1 (ZaD .bool) (Zc 8))) (Zbu (eC (.bl false))) (Zba))) (sIf (e2 ZiF (e2 Zk (Zc 6) (Zc 5)) (Zc 7)) (Zbu (eC (.bl false))) (Zba))))) (Zbu (eC (.bl true))))))))))))
def Zl4:F3:=mkF 1 9 Zpf
end
end Law
namespace Law
open PySem PySem.Spec PyProof.Rows L2 L3
noncomputable def top (i:Nat):Stmt:=PySem.Challenge.pw_stepledger_k73_roll_row_by_row.main.body.getD i (.Pass ⟨0,0,0,0⟩)
noncomputable abbrev ZdZ:Stmt:=top 2
noncomputable abbrev Zdx:Stmt:=top 3
noncomputable abbrev Zc2:Stmt:=top 6
noncomputable abbrev Za3:Stmt:=top 7
noncomputable abbrev Zbb:Stmt:=top 8
noncomputable abbrev Zdq:Stmt:=top 9
noncomputable abbrev Zd3:Stmt:=top 12
noncomputable abbrev Zcw:Stmt:=top 13
noncomputable abbrev ZbZ:Stmt:=top 14
noncomputable abbrev Zci:Stmt:=top 15
noncomputable abbrev Zcv:Stmt:=top 16
noncomputable abbrev ZbI:Stmt:=top 17
noncomputable abbrev Zb2:Stmt:=top 18
noncomputable abbrev Zb1:Stmt:=top 19
noncomputable abbrev ZbJ:Stmt:=top 20
noncomputable abbrev Zc6:Stmt:=top 22
noncomputable abbrev Zc5:Stmt:=top 23
noncomputable abbrev Zcf:Stmt:=top 24
noncomputable abbrev Zdm:Stmt:=top 25
noncomputable abbrev Zcj:Stmt:=top 26
noncomputable abbrev Zch:Stmt:=top 27
noncomputable abbrev Zcy:Stmt:=top 28
noncomputable abbrev Zb3:Stmt:=top 29
noncomputable abbrev Zbi:Stmt:=top 31
noncomputable abbrev Za2:Stmt:=top 32
noncomputable abbrev Zc4:Stmt:=top 33
noncomputable abbrev ZcB:Stmt:=top 34
noncomputable abbrev ZgG:Stmt:=top 35
structure Txt (K:W.Frag) (mg:Str → Option Value):Prop where
  kin:True
  m_bool:mg "bool" = none
  m_dict:mg "dict" = none
  m_enumerate:mg "enumerate" = none
  m_int:mg "int" = none
  m_isinstance:mg "isinstance" = none
  m_len:mg "len" = none
  m_list:mg "list" = none
  m_max:mg "max" = none
  m_range:mg "range" = none
  m_str:mg "str" = none
  m_tuple:mg "tuple" = none
  g_NAME_BOX:∃ t,mg "NAME_BOX" = some (.int 7 t)
  t_PARTS:∃ a,mg "PARTS" = some (.ref a) ∧ ZiY K a ZcE
  t_WORDS:∃ a,mg "WORDS" = some (.ref a) ∧ Znu K (Zcp.map fun y=>(⟨y.toArray⟩:Str)) (.ref a) = true
theorem Zep {X:Cx} {pos:Pos} (T:Txt X.K X.mg) (hg:Gl X "NAME_BOX":=by rfl):C3 X (.Name "NAME_BOX" pos) g_NAME_BOX:=by
  obtain ⟨t,e⟩:=T.g_NAME_BOX
  exact Zoc (v:=.int 7) e ⟨t,rfl⟩ (fun _ _=>Rep.int) hg
theorem ZlF {X:Cx} {e e':Expr} {npos apos cpos:Pos} {g g':E3} (T:Txt X.K X.mg) (he:C3 X e g) (he':C3 X e' g') (m:M2 X (.Name "PARTS" npos) "get" apos e e' cpos:=by exact ⟨rfl,rfl,rfl,rfl⟩) (hg:Gl X "PARTS":=by rfl):C3 X (.Call (.Attribute (.Name "PARTS" npos) "get" apos) [e,e'] [] cpos) (e2 (ZfJ ZcE) g g'):=by
  obtain ⟨a,hm,ht⟩:=T.t_PARTS
  exact ZqZ hm ht he he' m hg
theorem Zpr {X:Cx} {pos:Pos} (T:Txt X.K X.mg) (hg:Gl X "WORDS":=by rfl):C3 X (.Name "WORDS" pos) Zfe:=by
  obtain ⟨a,hm,ht⟩:=T.t_WORDS
  exact ZqB hm ht hg
section
variable {P:Program} {w:World} {K:W.Frag} {mg:Str → Option Value} {base:Heap}
theorem Zdu:ZaJ ["words","sums","lacking","word"] ["words"] (Zr ZdZ):=⟨rfl,rfl,rfl,by decide +kernel,rfl,by decide +kernel,by decide +kernel⟩
theorem ZlC (A:ZaI K mg "sums_in" ZdZ ["words"]) (T:Txt K mg):Fn3 P w K mg base 1 "sums_in" ["words"] ZfQ:=
  Fn3.of (N:=["words","sums","lacking","word"]) (k:=0) A Zdu fun f cdv A outer s H E hr=>by
    have hu:=Zdk hr
    unfold Zg7
    refine Zj ?_ ?_
    ·exact Zw 1 Zdu.nd (ZaH Zf)
    ·refine Zj ?_ ?_
     ·exact Zw 2 Zdu.nd Zi
     ·refine Zj ?_ ?_
      ·refine Zeu ?_ ?_ ?_ ?_ ?_
       ·exact rfl
       ·exact rfl
       ·exact Ziu (Zd 0)
       ·exact ZcQ 3 Zdu.nd
       ·refine Zj ?_ ?_
        ·exact Za0 (ZaA ((Zc7 hu)) (Zd 2) Zi) (Zj (ZaC (Zau (Zd 1) (Zb (ZaH Zf) Zf))) (Zo (Zw 2 Zdu.nd Zi))) Za9
        ·refine Zj ?_ ?_
         ·exact ZaC (Zau (Zaa Zz (Zd 1) (Zit ZfX Zi)) (Zb (Zd 3) Zf))
         ·exact Zo (Zw 2 Zdu.nd (Zq Zab (Zq ZkY (Zd 2) Zi) (ZlF T (Zd 3) Zi)))
      ·refine Zo ?_
       refine ZaP ?_
       exact Zua (ZaA ((Zc7 hu)) (Zd 2) Zi) (ZvD (N':=["words","sums","lacking","word","one"]) (Zhb rfl (by kernel_rfl)) rfl rfl (Ziu (Zd 1)) (fun C cl s H ex=>⟨(ZcQ 4 ((show List.Nodup (["words","sums","lacking","word","one"]:List Str) by decide +kernel))),Zj0,(ZeK (T:="tuple") Zfd T.m_tuple Zd7 (Zb (Zd 4) Zf))⟩)) Zpq
theorem Zk4:ZaJ ["words"] ["words"] (Zr Zdx):=⟨rfl,rfl,rfl,by decide +kernel,rfl,by decide +kernel,by decide +kernel⟩
theorem Zkt (A:ZaI K mg "parts_of" Zdx ["words"]) (T:Txt K mg) (F_sums_in:Fn3 P w K mg base 1 "sums_in" ["words"] ZfQ):Fn3 P w K mg base 2 "parts_of" ["words"] Zfb:=
  Fn3.of (N:=["words"]) (k:=1) A Zk4 fun f cdv A outer s H E hr=>by
    have hu:=Zdk hr
    unfold Zgg
    exact Zo (ZaP (Zad (k:=1) (ps:=["words"]) F_sums_in (hr.mono (by decide)) (Zb (ZoW ZoL (Zd 0) (Zgy Zi) Zgl) Zf)))
theorem ZbR:ZaJ ["deed","first","second"] ["deed"] (Zr Zbb):=⟨rfl,rfl,rfl,by decide +kernel,rfl,by decide +kernel,by decide +kernel⟩
theorem ZbE:ZaJ ["deeds","rows","deed"] ["deeds"] (Zr Za3):=⟨rfl,rfl,rfl,by decide +kernel,rfl,by decide +kernel,by decide +kernel⟩
theorem Ze6 (A_text_rows_of_deeds:ZaI K mg "text_rows_of_deeds" Za3 ["deeds"]) (A_text_rows_of_deed:ZaI K mg "text_rows_of_deed" Zbb ["deed"]) (T:Txt K mg):∀ n:Nat,Fn3 P w K mg base (n + 1) "text_rows_of_deeds" ["deeds"] (Zap n 0) ∧ Fn3 P w K mg base (n + 1) "text_rows_of_deed" ["deed"] (Zap n 1):=by
  intro n
  induction n with
  | zero=>exact ⟨Fn3.of (N:=["deeds","rows","deed"]) (k:=0) A_text_rows_of_deeds ZbE fun f cdv A outer s H E hr=>ZdS,Fn3.of (N:=["deed","first","second"]) (k:=0) A_text_rows_of_deed ZbR fun f cdv A outer s H E hr=>ZdS⟩
  | succ n IH=>
    obtain ⟨IH_text_rows_of_deeds,IH_text_rows_of_deed⟩:=IH
    refine ⟨?_,?_⟩
    · refine (Fn3.of (N:=["deeds","rows","deed"]) (k:=n + 1) A_text_rows_of_deeds ZbE fun f cdv A outer s H E hr=>?_).mono (by omega)
      have hu:=Zdk hr
      unfold ZdD
      refine Zj ?_ ?_
      ·exact Zw 1 ZbE.nd (ZaH Zf)
      ·refine Zj ?_ ?_
       ·exact Zeu rfl rfl (Ziu (Zd 0)) (ZcQ 2 ZbE.nd) (Zo (ZaC (Zdi (Zd 1) (Zb (Zad (k:=n + 1) (ps:=["deed"]) IH_text_rows_of_deed hr (Zb (Zd 2) Zf)) Zf))))
       ·exact Zo (ZaP (Zd 1))
    · refine (Fn3.of (N:=["deed","first","second"]) (k:=n + 1) A_text_rows_of_deed ZbR fun f cdv A outer s H E hr=>?_).mono (by omega)
      have hu:=Zdk hr
      unfold Zat
      refine Zj ?_ ?_
      ·refine Za0 ?_ ?_ ?_
       ·exact ZaA ((Zc7 hu)) (Zaa Zz (Zd 0) Zi) Zal
       ·refine Zj ?_ ?_
        ·exact Zw 1 ZbR.nd (Zad (k:=n + 1) (ps:=["deeds"]) IH_text_rows_of_deeds hr (Zb (Zaa Zz (Zd 0) Zi) Zf))
        ·refine Zj ?_ ?_
         ·exact Zw 2 ZbR.nd (Zad (k:=n + 1) (ps:=["deeds"]) IH_text_rows_of_deeds hr (Zb (Zaa Zz (Zd 0) Zi) Zf))
         ·refine Zo ?_
          refine ZaP ?_
          refine Zq ?_ ?_ ?_
          ·exact Zab
          ·refine Zq ?_ ?_ ?_
           ·exact Zab
           ·refine Zq ?_ ?_ ?_
            ·exact Zab
            ·exact Zq Zab (ZaH (Zb (Zq Zab (Zay (Zb Zal Zf)) (Zaa Zz (Zd 0) Zi)) Zf)) (Zd 1)
            ·exact ZaH (Zb (Zay (Zb Zal Zf)) Zf)
           ·exact Zd 2
          ·exact ZaH (Zb (Zay (Zb Zal Zf)) Zf)
       ·exact Za9
      ·refine Zj ?_ ?_
       ·refine Za0 ?_ ?_ ?_
        ·exact ZaA ((Zc7 hu)) (Zaa Zz (Zd 0) Zi) Zal
        ·refine Zo ?_
         refine ZaP ?_
         refine Zq ?_ ?_ ?_
         ·exact Zab
         ·refine Zq ?_ ?_ ?_
          ·exact Zab
          ·exact ZaH (Zb (Zq Zab (Zay (Zb Zal Zf)) (Zaa Zz (Zd 0) Zi)) Zf)
          ·exact Zad (k:=n + 1) (ps:=["deeds"]) IH_text_rows_of_deeds hr (Zb (Zaa Zz (Zd 0) Zi) Zf)
         ·exact ZaH (Zb (Zay (Zb Zal Zf)) Zf)
        ·exact Za9
       ·refine Zj ?_ ?_
        ·refine Za0 ?_ ?_ ?_
         ·exact ZaA ((Zc7 hu)) (Zaa Zz (Zd 0) Zi) Zal
         ·exact Zo (ZaP (ZaH (Zb (Zq Zab (Zq Zab (Zay (Zb Zal Zf)) (Zaa Zz (Zd 0) Zi)) (Zaa Zz (Zd 0) Zi)) Zf)))
         ·exact Za9
        ·exact Zo (ZaP (ZaH (Zb (Zq Zab (ZoW ZoL (Zd 0) Zgl (Zgy (Zit ZfX Zi))) (Zaa Zz (Zd 0) (Zit ZfX Zi))) Zf)))
theorem ZgQ:ZaJ ["program","rows"] ["program"] (Zr Zc2):=⟨rfl,rfl,rfl,by decide +kernel,rfl,by decide +kernel,by decide +kernel⟩
theorem Zjv (A:ZaI K mg "text_rows" Zc2 ["program"]) (T:Txt K mg) (F_text_rows_of_deeds:Fn3 P w K mg base 14 "text_rows_of_deeds" ["deeds"] ZbK):Fn3 P w K mg base 15 "text_rows" ["program"] ZdF:=
  Fn3.of (N:=["program","rows"]) (k:=14) A ZgQ fun f cdv A outer s H E hr=>by
    have hu:=Zdk hr
    unfold ZfC
    refine Zj ?_ ?_
    ·refine Zw 1 ?_ ?_
     ·exact ZgQ.nd
     ·refine Zua ?_ ?_ ?_
      ·exact ZaA Zm0 (Zbf (id:="len") Zbj T.m_len ZaT (Zb (Zaa Zz (Zd 0) Zi) Zf)) Zi
      ·exact ZaH (Zb (Zq Zab (Zay (Zb Zal Zf)) (Zaa Zz (Zd 0) Zi)) Zf)
      ·exact ZaH Zf
    ·exact Zo (ZaP (Zq Zab (Zd 1) (Zad (k:=14) (ps:=["deeds"]) F_text_rows_of_deeds (hr.mono (by decide)) (Zb (Zaa Zz (Zd 0) Zi) Zf))))
theorem Zes:ZaJ ["program","names","row","word"] ["program"] (Zr Zdq):=⟨rfl,rfl,rfl,by decide +kernel,rfl,by decide +kernel,by decide +kernel⟩
theorem ZkT (A:ZaI K mg "names_of" Zdq ["program"]) (T:Txt K mg) (F_text_rows:Fn3 P w K mg base 15 "text_rows" ["program"] ZdF):Fn3 P w K mg base 16 "names_of" ["program"] Zeg:=
  Fn3.of (N:=["program","names","row","word"]) (k:=15) A Zes fun f cdv A outer s H E hr=>by
    have hu:=Zdk hr
    unfold Zga
    refine Zj ?_ ?_
    ·exact Zw 1 Zes.nd (ZeK (T:="list") ZlH T.m_list Zj5 (Zb (Zaa Zz (Zd 0) Zi) Zf))
    ·refine Zj ?_ ?_
     ·refine Zeu ?_ ?_ ?_ ?_ ?_
      ·exact rfl
      ·exact rfl
      ·exact Ziu (Zad (k:=15) (ps:=["program"]) F_text_rows (hr.mono (by decide)) (Zb (Zd 0) Zf))
      ·exact ZcQ 2 Zes.nd
      ·refine Zo ?_
       refine Zeu ?_ ?_ ?_ ?_ ?_
       ·exact rfl
       ·exact rfl
       ·exact Ziu (Zd 2)
       ·exact ZcQ 3 Zes.nd
       ·refine Zo ?_
        refine Za0 ?_ ?_ ?_
        ·exact CW.ct (Zg1 (Zhj (ZeB (ZeJ .int T.m_isinstance T.m_int (Zd 3)))) (Zg1 (ZaA ((Zmj hu)) (Zd 3) (Zpr T)) (ZhL (ZaA Zkj (Zd 3) (Zd 1)))))
        ·exact Zo (ZaC (Zau (Zd 1) (Zb (Zd 3) Zf)))
        ·exact Za9
     ·exact Zo (ZaP (ZeK (T:="tuple") Zfd T.m_tuple Zd7 (Zb (Zd 1) Zf)))
theorem ZdA:ZaJ ["program","cells","number","name"] ["program"] (Zr Zcw):=⟨rfl,rfl,rfl,by decide +kernel,rfl,by decide +kernel,by decide +kernel⟩
theorem Ziy (A:ZaI K mg "name_cells" Zcw ["program"]) (T:Txt K mg) (F_names_of:Fn3 P w K mg base 16 "names_of" ["program"] Zeg):Fn3 P w K mg base 17 "name_cells" ["program"] ZdY:=
  Fn3.of (N:=["program","cells","number","name"]) (k:=16) A ZdA fun f cdv A outer s H E hr=>by
    have hu:=Zdk hr
    unfold Ze9
    refine Zj ?_ ?_
    ·exact Zw 1 ZdA.nd Ztg
    ·refine Zj ?_ ?_
     ·refine ZgH ?_ ?_ ?_ ?_ ?_
      ·exact rfl
      ·exact rfl
      ·exact ZfK T.m_enumerate (Zad (k:=16) (ps:=["program"]) F_names_of (hr.mono (by decide)) (Zb (Zd 0) Zf))
      ·exact Zg0 rfl (Zcc 2 ZdA.nd (Zcc 3 ZdA.nd ZfI))
      ·exact Zo (ZqK hu (Zd 1) (Zd 3) (Zq Zab (Zq Zfi Zi (Zd 2)) Zi))
     ·exact Zo (ZaP (Zd 1))
theorem Zhx:ZaJ ["name","box","cells"] ["name","box","cells"] (Zr ZbZ):=⟨rfl,rfl,rfl,by decide +kernel,rfl,by decide +kernel,by decide +kernel⟩
theorem Zhw (A:ZaI K mg "rows_to_name" ZbZ ["name","box","cells"]) (T:Txt K mg):Fn3 P w K mg base 1 "rows_to_name" ["name","box","cells"] Zbo:=
  Fn3.of (N:=["name","box","cells"]) (k:=0) A Zhx fun f cdv A outer s H E hr=>by
    have hu:=Zdk hr
    unfold Zfx
    refine Zo ?_
    refine ZaP ?_
    refine ZaH ?_
    refine Zb ?_ ?_
    ·exact Zay (Zb Zal (Zb (Zep T) (Zb (ZjX hu (Zd 2) (Zd 0)) Zf)))
    ·exact Zb (Zay (Zb Zal (Zb (Zep T) (Zb (Zd 1) Zf)))) Zf
theorem ZiH:ZaJ ["box"] ["box"] (Zr Zcv):=⟨rfl,rfl,rfl,by decide +kernel,rfl,by decide +kernel,by decide +kernel⟩
theorem ZiD (A:ZaI K mg "double_row" Zcv ["box"]) (T:Txt K mg):Fn3 P w K mg base 1 "double_row" ["box"] ZcC:=
  Fn3.of (N:=["box"]) (k:=0) A ZiH fun f cdv A outer s H E hr=>by
    have hu:=Zdk hr
    unfold Zgv
    exact Zo (ZaP (Zay (Zb Zal (Zb (Zd 0) (Zb (Zd 0) (Zb (Zd 0) Zf))))))
theorem ZbY:ZaJ ["words","box","cells","rows","parts","beside","part"] ["words","box","cells"] (Zr Zci):=⟨rfl,rfl,rfl,by decide +kernel,rfl,by decide +kernel,by decide +kernel⟩
theorem ZhO (A:ZaI K mg "rows_of_sum" Zci ["words","box","cells"]) (T:Txt K mg) (F_parts_of:Fn3 P w K mg base 2 "parts_of" ["words"] Zfb) (F_double_row:Fn3 P w K mg base 1 "double_row" ["box"] ZcC):Fn3 P w K mg base 16 "rows_of_sum" ["words","box","cells"] Za8:=by
  have all:∀ n:Nat,Fn3 P w K mg base (n + 3) "rows_of_sum" ["words","box","cells"] (ZdC n):=by
    intro n
    induction n with
    | zero=>exact Fn3.of (N:=["words","box","cells","rows","parts","beside","part"]) (k:=2) A ZbY fun f cdv A outer s H E hr=>ZdS
    | succ n IH=>
      refine (Fn3.of (N:=["words","box","cells","rows","parts","beside","part"]) (k:=n + 3) A ZbY fun f cdv A outer s H E hr=>?_).mono (by omega)
      have hu:=Zdk hr
      unfold Zdy
      refine Zj ?_ ?_
      ·exact Zw 3 ZbY.nd (ZaH Zf)
      ·refine Zj ?_ ?_
       ·exact Zw 4 ZbY.nd (Zad (k:=2) (ps:=["words"]) F_parts_of (hr.mono (by omega)) (Zb (Zd 0) Zf))
       ·refine Zj ?_ ?_
        ·refine ZgH ?_ ?_ ?_ ?_ ?_
         ·exact rfl
         ·exact rfl
         ·exact ZfK T.m_enumerate (Zd 4)
         ·exact Zg0 rfl (Zcc 5 ZbY.nd (Zcc 6 ZbY.nd ZfI))
         ·exact Zo (ZaC (Zdi (Zd 3) (Zb (Zad (k:=n + 3) (ps:=["words","box","cells"]) IH hr (Zb (Zd 6) (Zb (Zq Zab (Zd 1) (Zd 5)) (Zb (Zd 2) Zf)))) Zf)))
        ·refine Zj ?_ ?_
         ·refine Za0 ?_ ?_ ?_
          ·exact ZaA ((Zc7 hu)) (Zbf (id:="len") Zbj T.m_len ZaT (Zb (Zd 4) Zf)) Zi
          ·refine Zo ?_
           refine ZaP ?_
           exact Zq Zab (Zd 3) (ZaH (Zb (Zay (Zb (Zaa Zz (Zd 0) Zi) (Zb (Zd 1) (Zb (Zd 1) (Zb (Zq Zab (Zd 1) Zi) Zf))))) Zf))
          ·exact Za9
         ·refine Zj ?_ ?_
          ·refine Za0 ?_ ?_ ?_
           ·exact ZaA ((Zc7 hu)) (Zbf (id:="len") Zbj T.m_len ZaT (Zb (Zd 4) Zf)) Zi
           ·refine Zo ?_
            exact ZaP (Zq Zab (Zd 3) (ZaH (Zb (Zad (k:=1) (ps:=["box"]) F_double_row (hr.mono (by omega)) (Zb (Zd 1) Zf)) (Zb (Zay (Zb Zal (Zb (Zd 1) (Zb (Zd 1) Zf)))) Zf))))
           ·exact Za9
          ·refine Zj ?_ ?_
           ·refine Za0 ?_ ?_ ?_
            ·exact ZeB (ZeJ .int T.m_isinstance T.m_int (Zaa Zz (Zd 0) Zi))
            ·exact Zo (ZaP (ZaH (Zb (Zay (Zb Zal (Zb (Zd 1) (Zb (Zaa Zz (Zd 0) Zi) Zf)))) Zf)))
            ·exact Za9
           ·refine Zo ?_
            refine ZaP ?_
            refine ZaH ?_
            refine Zb ?_ ?_
            ·exact Zay (Zb Zal (Zb (Zep T) (Zb (ZjX hu (Zd 2) (Zaa Zz (Zd 0) Zi)) Zf)))
            ·exact Zb (Zay (Zb Zal (Zb (Zd 1) (Zb (Zep T) Zf)))) Zf
  exact all 13
theorem ZbB:ZaJ ["deed","begin","cells","asked","inner_begin","inner","behind"] ["deed","begin","cells"] (Zr ZbJ):=⟨rfl,rfl,rfl,by decide +kernel,rfl,by decide +kernel,by decide +kernel⟩
theorem Zbd:ZaJ ["deed","begin","cells","asked","second_begin","second","first_begin","first","behind"] ["deed","begin","cells"] (Zr Zb1):=⟨rfl,rfl,rfl,by decide +kernel,rfl,by decide +kernel,by decide +kernel⟩
theorem ZdH:ZaJ ["deed","begin","cells","number"] ["deed","begin","cells"] (Zr Zb2):=⟨rfl,rfl,rfl,by decide +kernel,rfl,by decide +kernel,by decide +kernel⟩
theorem ZcA:ZaJ ["deeds","begin","cells","rows","deed"] ["deeds","begin","cells"] (Zr ZbI):=⟨rfl,rfl,rfl,by decide +kernel,rfl,by decide +kernel,by decide +kernel⟩
theorem ZgP (F_rows_to_name:Fn3 P w K mg base 1 "rows_to_name" ["name","box","cells"] Zbo) (F_rows_of_sum:Fn3 P w K mg base 16 "rows_of_sum" ["words","box","cells"] Za8) (F_double_row:Fn3 P w K mg base 1 "double_row" ["box"] ZcC) (A_rows_of_deeds:ZaI K mg "rows_of_deeds" ZbI ["deeds","begin","cells"]) (A_rows_of_deed:ZaI K mg "rows_of_deed" Zb2 ["deed","begin","cells"]) (A_rows_of_when:ZaI K mg "rows_of_when" Zb1 ["deed","begin","cells"]) (A_rows_of_while:ZaI K mg "rows_of_while" ZbJ ["deed","begin","cells"]) (T:Txt K mg):∀ n:Nat,Fn3 P w K mg base (n + 17) "rows_of_deeds" ["deeds","begin","cells"] (Zar n 0) ∧ Fn3 P w K mg base (n + 17) "rows_of_deed" ["deed","begin","cells"] (Zar n 1) ∧ Fn3 P w K mg base (n + 17) "rows_of_when" ["deed","begin","cells"] (Zar n 2) ∧ Fn3 P w K mg base (n + 17) "rows_of_while" ["deed","begin","cells"] (Zar n 3):=by
  intro n
  induction n with
  | zero=>exact ⟨Fn3.of (N:=["deeds","begin","cells","rows","deed"]) (k:=16) A_rows_of_deeds ZcA fun f cdv A outer s H E hr=>ZdS,Fn3.of (N:=["deed","begin","cells","number"]) (k:=16) A_rows_of_deed ZdH fun f cdv A outer s H E hr=>ZdS,Fn3.of (N:=["deed","begin","cells","asked","second_begin","second","first_begin","first","behind"]) (k:=16) A_rows_of_when Zbd fun f cdv A outer s H E hr=>ZdS,Fn3.of (N:=["deed","begin","cells","asked","inner_begin","inner","behind"]) (k:=16) A_rows_of_while ZbB fun f cdv A outer s H E hr=>ZdS⟩
  | succ n IH=>
    obtain ⟨IH_rows_of_deeds,IH_rows_of_deed,IH_rows_of_when,IH_rows_of_while⟩:=IH
    refine ⟨?_,?_,?_,?_⟩
    · refine (Fn3.of (N:=["deeds","begin","cells","rows","deed"]) (k:=n + 17) A_rows_of_deeds ZcA fun f cdv A outer s H E hr=>?_).mono (by omega)
      have hu:=Zdk hr
      unfold ZcP
      refine Zj ?_ ?_
      ·exact Zw 3 ZcA.nd (ZaH Zf)
      ·refine Zj ?_ ?_
       ·refine Zeu ?_ ?_ ?_ ?_ ?_
        ·exact rfl
        ·exact rfl
        ·exact Ziu (Zd 0)
        ·exact ZcQ 4 ZcA.nd
        ·refine Zo ?_
         refine ZaC ?_
         refine Zdi ?_ ?_
         ·exact Zd 3
         ·exact Zb (Zad (k:=n + 17) (ps:=["deed","begin","cells"]) IH_rows_of_deed hr (Zb (Zd 4) (Zb (Zq Zab (Zd 1) (Zbf (id:="len") Zbj T.m_len ZaT (Zb (Zd 3) Zf))) (Zb (Zd 2) Zf)))) Zf
       ·exact Zo (ZaP (Zd 3))
    · refine (Fn3.of (N:=["deed","begin","cells","number"]) (k:=n + 17) A_rows_of_deed ZdH fun f cdv A outer s H E hr=>?_).mono (by omega)
      have hu:=Zdk hr
      unfold Zbn
      refine Zj ?_ ?_
      ·exact Za0 (ZaA ((Zc7 hu)) (Zaa Zz (Zd 0) Zi) Zal) (Zo (ZaP (Zad (k:=n + 17) (ps:=["deed","begin","cells"]) IH_rows_of_when hr (Zb (Zd 0) (Zb (Zd 1) (Zb (Zd 2) Zf)))))) Za9
      ·refine Zj ?_ ?_
       ·exact Za0 (ZaA ((Zc7 hu)) (Zaa Zz (Zd 0) Zi) Zal) (Zo (ZaP (Zad (k:=n + 17) (ps:=["deed","begin","cells"]) IH_rows_of_while hr (Zb (Zd 0) (Zb (Zd 1) (Zb (Zd 2) Zf)))))) Za9
       ·refine Zj ?_ ?_
        ·refine Za0 ?_ ?_ ?_
         ·exact ZaA ((Zc7 hu)) (Zaa Zz (Zd 0) Zi) Zal
         ·refine Zj ?_ ?_
          ·refine Zw 3 ?_ ?_
           ·exact ZdH.nd
           ·refine Zq ?_ ?_ ?_
            ·exact Zab
            ·exact Zad (k:=16) (ps:=["words","box","cells"]) F_rows_of_sum (hr.mono (by omega)) (Zb (Zaa Zz (Zd 0) Zi) (Zb Zi (Zb (Zd 2) Zf)))
            ·exact ZaH (Zb (Zad (k:=1) (ps:=["box"]) F_double_row (hr.mono (by omega)) (Zb Zi Zf)) Zf)
          ·refine Zo ?_
           refine ZaP ?_
           refine Zq ?_ ?_ ?_
           ·exact Zab
           ·exact Zq Zab (Zd 3) (Zad (k:=16) (ps:=["words","box","cells"]) F_rows_of_sum (hr.mono (by omega)) (Zb (Zaa Zz (Zd 0) Zi) (Zb Zi (Zb (Zd 2) Zf))))
           ·exact ZaH (Zb (Zay (Zb Zal (Zb Zi (Zb Zi Zf)))) Zf)
         ·exact Za9
        ·refine Zj ?_ ?_
         ·refine Za0 ?_ ?_ ?_
          ·exact ZaA ((Zc7 hu)) (Zaa Zz (Zd 0) Zi) Zal
          ·refine Zo ?_
           refine ZaP ?_
           refine Zq ?_ ?_ ?_
           ·exact Zab
           ·exact Zad (k:=16) (ps:=["words","box","cells"]) F_rows_of_sum (hr.mono (by omega)) (Zb (Zaa Zz (Zd 0) Zi) (Zb Zi (Zb (Zd 2) Zf)))
           ·exact Zad (k:=1) (ps:=["name","box","cells"]) F_rows_to_name (hr.mono (by omega)) (Zb (Zaa Zz (Zd 0) Zi) (Zb Zi (Zb (Zd 2) Zf)))
          ·exact Za9
         ·refine Zo ?_
          refine ZaP ?_
          refine Zq ?_ ?_ ?_
          ·exact Zab
          ·exact Zad (k:=16) (ps:=["words","box","cells"]) F_rows_of_sum (hr.mono (by omega)) (Zb (Zaa Zz (Zd 0) Zi) (Zb Zi (Zb (Zd 2) Zf)))
          ·exact ZaH (Zb (Zay (Zb Zal (Zb Zi Zf))) Zf)
    · refine (Fn3.of (N:=["deed","begin","cells","asked","second_begin","second","first_begin","first","behind"]) (k:=n + 17) A_rows_of_when Zbd fun f cdv A outer s H E hr=>?_).mono (by omega)
      have hu:=Zdk hr
      unfold Zdc
      refine Zj ?_ ?_
      ·exact Zw 3 Zbd.nd (Zad (k:=16) (ps:=["words","box","cells"]) F_rows_of_sum (hr.mono (by omega)) (Zb (Zaa Zz (Zd 0) Zi) (Zb Zi (Zb (Zd 2) Zf))))
      ·refine Zj ?_ ?_
       ·exact Zw 4 Zbd.nd (Zq Zab (Zq Zab (Zd 1) (Zbf (id:="len") Zbj T.m_len ZaT (Zb (Zd 3) Zf))) Zi)
       ·refine Zj ?_ ?_
        ·exact Zw 5 Zbd.nd (Zad (k:=n + 17) (ps:=["deeds","begin","cells"]) IH_rows_of_deeds hr (Zb (Zaa Zz (Zd 0) Zi) (Zb (Zd 4) (Zb (Zd 2) Zf))))
        ·refine Zj ?_ ?_
         ·exact Zw 6 Zbd.nd (Zq Zab (Zq Zab (Zd 4) (Zbf (id:="len") Zbj T.m_len ZaT (Zb (Zd 5) Zf))) Zi)
         ·refine Zj ?_ ?_
          ·exact Zw 7 Zbd.nd (Zad (k:=n + 17) (ps:=["deeds","begin","cells"]) IH_rows_of_deeds hr (Zb (Zaa Zz (Zd 0) Zi) (Zb (Zd 6) (Zb (Zd 2) Zf))))
          ·refine Zj ?_ ?_
           ·exact Zw 8 Zbd.nd (Zq Zab (Zd 6) (Zbf (id:="len") Zbj T.m_len ZaT (Zb (Zd 7) Zf)))
           ·refine Zo ?_
            refine ZaP ?_
            refine Zq ?_ ?_ ?_
            ·exact Zab
            ·refine Zq ?_ ?_ ?_
             ·exact Zab
             ·exact Zq Zab (Zq Zab (Zd 3) (ZaH (Zb (Zay (Zb Zal (Zb Zi (Zb (Zd 6) Zf)))) Zf))) (Zd 5)
             ·exact ZaH (Zb (Zay (Zb Zal (Zb (Zd 8) Zf))) Zf)
            ·exact Zd 7
    · refine (Fn3.of (N:=["deed","begin","cells","asked","inner_begin","inner","behind"]) (k:=n + 17) A_rows_of_while ZbB fun f cdv A outer s H E hr=>?_).mono (by omega)
      have hu:=Zdk hr
      unfold ZcR
      refine Zj ?_ ?_
      ·exact Zw 3 ZbB.nd (Zad (k:=16) (ps:=["words","box","cells"]) F_rows_of_sum (hr.mono (by omega)) (Zb (Zaa Zz (Zd 0) Zi) (Zb Zi (Zb (Zd 2) Zf))))
      ·refine Zj ?_ ?_
       ·exact Zw 4 ZbB.nd (Zq Zab (Zq Zab (Zd 1) (Zbf (id:="len") Zbj T.m_len ZaT (Zb (Zd 3) Zf))) Zi)
       ·refine Zj ?_ ?_
        ·exact Zw 5 ZbB.nd (Zad (k:=n + 17) (ps:=["deeds","begin","cells"]) IH_rows_of_deeds hr (Zb (Zaa Zz (Zd 0) Zi) (Zb (Zd 4) (Zb (Zd 2) Zf))))
        ·refine Zj ?_ ?_
         ·exact Zw 6 ZbB.nd (Zq Zab (Zq Zab (Zd 4) (Zbf (id:="len") Zbj T.m_len ZaT (Zb (Zd 5) Zf))) Zi)
         ·refine Zo ?_
          refine ZaP ?_
          refine Zq ?_ ?_ ?_
          ·exact Zab
          ·refine Zq ?_ ?_ ?_
           ·exact Zab
           ·exact Zq Zab (Zd 3) (ZaH (Zb (Zay (Zb Zal (Zb Zi (Zb (Zd 4) Zf)))) (Zb (Zay (Zb Zal (Zb (Zd 6) Zf))) Zf)))
           ·exact Zd 5
          ·exact ZaH (Zb (Zay (Zb Zal (Zb (Zd 1) Zf))) Zf)
theorem Zd6:ZaJ ["program","cells","rows","box","name"] ["program"] (Zr Zd3):=⟨rfl,rfl,rfl,by decide +kernel,rfl,by decide +kernel,by decide +kernel⟩
theorem ZlN (A:ZaI K mg "roll_of" Zd3 ["program"]) (T:Txt K mg) (F_name_cells:Fn3 P w K mg base 17 "name_cells" ["program"] ZdY) (F_rows_to_name:Fn3 P w K mg base 1 "rows_to_name" ["name","box","cells"] Zbo) (F_rows_of_deeds:Fn3 P w K mg base 30 "rows_of_deeds" ["deeds","begin","cells"] ZcS):Fn3 P w K mg base 31 "roll_of" ["program"] ZfD:=
  Fn3.of (N:=["program","cells","rows","box","name"]) (k:=30) A Zd6 fun f cdv A outer s H E hr=>by
    have hu:=Zdk hr
    unfold Zhe
    refine Zj ?_ ?_
    ·exact Zw 1 Zd6.nd (Zad (k:=17) (ps:=["program"]) F_name_cells (hr.mono (by decide)) (Zb (Zd 0) Zf))
    ·refine Zj ?_ ?_
     ·exact Zw 2 Zd6.nd (ZaH Zf)
     ·refine Zj ?_ ?_
      ·refine ZgH ?_ ?_ ?_ ?_ ?_
       ·exact rfl
       ·exact rfl
       ·exact ZfK T.m_enumerate (Zaa Zz (Zd 0) Zi)
       ·exact Zg0 rfl (Zcc 3 Zd6.nd (Zcc 4 Zd6.nd ZfI))
       ·exact Zo (ZaC (Zdi (Zd 2) (Zb (Zad (k:=1) (ps:=["name","box","cells"]) F_rows_to_name (hr.mono (by decide)) (Zb (Zd 4) (Zb (Zd 3) (Zb (Zd 1) Zf)))) Zf)))
      ·refine Zj ?_ ?_
       ·refine ZaC ?_
        refine Zdi ?_ ?_
        ·exact Zd 2
        ·exact Zb (Zad (k:=30) (ps:=["deeds","begin","cells"]) F_rows_of_deeds (hr.mono (by decide)) (Zb (Zaa Zz (Zd 0) Zi) (Zb (Zbf (id:="len") Zbj T.m_len ZaT (Zb (Zd 2) Zf)) (Zb (Zd 1) Zf)))) Zf
       ·exact Zo (ZaP (Zq Zab (ZeK (T:="tuple") Zfd T.m_tuple Zd7 (Zb (Zd 2) Zf)) (Zay (Zb (Zay (Zb Zal Zf)) Zf))))
theorem ZdO:ZaJ ["script","k","cell","mixed"] ["script","k"] (Zr Zc6):=⟨rfl,rfl,rfl,by decide +kernel,rfl,by decide +kernel,by decide +kernel⟩
theorem Zjz (A:ZaI K mg "_law_draw" Zc6 ["script","k"]) (T:Txt K mg):Fn3 P w K mg base 1 "_law_draw" ["script","k"] Zaj:=
  Fn3.of (N:=["script","k","cell","mixed"]) (k:=0) A ZdO fun f cdv A outer s H E hr=>by
    have hu:=Zdk hr
    unfold Zfr
    refine Zj ?_ ?_
    ·exact Zw 2 ZdO.nd Zi
    ·refine Zj ?_ ?_
     ·refine Za0 ?_ ?_ ?_
      ·exact ZaA Zm0 (Zbf (id:="len") Zbj T.m_len ZaT (Zb (Zd 0) Zf)) Zi
      ·exact Zo (Zw 2 ZdO.nd (Zq Zbq (Zaa Zz (Zd 0) (Zq Zbq (Zd 1) (Zbf (id:="len") Zbj T.m_len ZaT (Zb (Zd 0) Zf)))) Zi))
      ·exact Za9
     ·refine Zj ?_ ?_
      ·refine Zw 3 ?_ ?_
       ·exact ZdO.nd
       ·refine Zq ?_ ?_ ?_
        ·exact Zbq
        ·refine Zq ?_ ?_ ?_
         ·exact Zfi
         ·refine Zq ?_ ?_ ?_
          ·exact Zab
          ·exact Zq Zab (Zd 2) Zi
          ·exact Zq Zfi Zi (Zq Zc0 (Zd 1) (Zbf (id:="max") ((Zse rfl)) T.m_max Zr3 (Zb Zi (Zb (Zbf (id:="len") Zbj T.m_len ZaT (Zb (Zd 0) Zf)) Zf))))
         ·exact Zi
        ·exact Zi
      ·exact Zo (ZaP (Zq Zbq (Zq Zfi (Zd 3) (Zd 3)) Zi))
theorem Zb7:ZaJ ["script","i","letters","pad","place","tail","word"] ["script","i"] (Zr Zc5):=⟨rfl,rfl,rfl,by decide +kernel,rfl,by decide +kernel,by decide +kernel⟩
theorem Zjn (A:ZaI K mg "_law_word" Zc5 ["script","i"]) (T:Txt K mg) (F__law_draw:Fn3 P w K mg base 1 "_law_draw" ["script","k"] Zaj):Fn3 P w K mg base 2 "_law_word" ["script","i"] Za1:=
  Fn3.of (N:=["script","i","letters","pad","place","tail","word"]) (k:=1) A Zb7 fun f cdv A outer s H E hr=>by
    have hu:=Zdk hr
    unfold Zfn
    refine Zj ?_ ?_
    ·exact Zw 2 Zb7.nd Zal
    ·refine Zj ?_ ?_
     ·exact Zw 3 Zb7.nd (Zaa Zz (Zd 2) (Zq Zbq (Zad (k:=1) (ps:=["script","k"]) F__law_draw (hr.mono (by decide)) (Zb (Zd 0) (Zb Zi Zf))) Zi))
     ·refine Zj ?_ ?_
      ·exact Zw 4 Zb7.nd (Zq Zbq (Zad (k:=1) (ps:=["script","k"]) F__law_draw (hr.mono (by decide)) (Zb (Zd 0) (Zb Zi Zf))) Zi)
      ·refine Zj ?_ ?_
       ·exact Zw 5 Zb7.nd (Zq Zbq (Zad (k:=1) (ps:=["script","k"]) F__law_draw (hr.mono (by decide)) (Zb (Zd 0) (Zb Zi Zf))) (Zq ZkY Zi (Zd 4)))
       ·refine Zj ?_ ?_
        ·refine Za0 ?_ ?_ ?_
         ·exact ZaA ((Zc7 hu)) (Zq Zbq (Zq Zc0 (Zad (k:=1) (ps:=["script","k"]) F__law_draw (hr.mono (by decide)) (Zb (Zd 0) (Zb Zi Zf))) Zi) Zi) Zi
         ·exact Zo (Zw 5 Zb7.nd (Zq Zbq (Zad (k:=1) (ps:=["script","k"]) F__law_draw (hr.mono (by decide)) (Zb (Zd 0) (Zb (Zq Zab Zi (Zd 1)) Zf))) (Zq ZkY Zi (Zd 4))))
         ·exact Za9
        ·refine Zj ?_ ?_
         ·refine Zw 6 ?_ ?_
          ·exact Zb7.nd
          ·refine Zq ?_ ?_ ?_
           ·exact Zab
           ·refine Zq ?_ ?_ ?_
            ·exact Zab
            ·exact Zq Zfi (Zd 3) (Zd 4)
            ·exact Zaa Zz (Zd 2) (Zq Zbq (Zq Zab (Zd 1) (Zad (k:=1) (ps:=["script","k"]) F__law_draw (hr.mono (by decide)) (Zb (Zd 0) (Zb Zi Zf)))) Zi)
           ·exact Zq Zfi (Zd 3) (Zd 5)
         ·exact Zj (Za0 (ZaA ((Zc7 hu)) (Zd 6) Zal) (Zo (ZaP Zal)) Za9) (Zo (ZaP (Zd 6)))
theorem Zfv:ZaJ ["draw","some"] ["draw"] (Zr Zcf):=⟨rfl,rfl,rfl,by decide +kernel,rfl,by decide +kernel,by decide +kernel⟩
theorem Zif (A:ZaI K mg "_law_number" Zcf ["draw"]) (T:Txt K mg):Fn3 P w K mg base 1 "_law_number" ["draw"] ZcJ:=
  Fn3.of (N:=["draw","some"]) (k:=0) A Zfv fun f cdv A outer s H E hr=>by
    have hu:=Zdk hr
    unfold Zey
    refine Zj ?_ ?_
    ·refine Zw 1 ?_ ?_
     ·exact Zfv.nd
     ·refine ZaH ?_
      refine Zb ?_ ?_
      ·exact Zq Zbq (Zq Zc0 (Zd 0) Zi) Zi
      ·refine Zb ?_ ?_
       ·exact Zq Zbq (Zq Zc0 (Zd 0) Zi) Zi
       ·exact Zb (Zq Zbq (Zq Zfi (Zq Zc0 (Zd 0) Zi) Zi) (Zq Zuh Zi Zi)) (Zb Zi Zf)
    ·refine Zo ?_
     refine ZaP ?_
     refine Zaa ?_ ?_ ?_
     ·exact Zz
     ·exact ZaH (Zb (Zaa Zz (Zd 1) (Zq Zbq (Zd 0) Zi)) (Zb (Zit ZfX (Zaa Zz (Zd 1) (Zq Zbq (Zd 0) Zi))) Zf))
     ·exact Zq Zbq (Zq Zc0 (Zd 0) Zi) Zi
theorem Zcq:ZaJ ["script","at","names","limit","words","due","draw"] ["script","at","names","limit"] (Zr Zdm):=⟨rfl,rfl,rfl,by decide +kernel,rfl,by decide +kernel,by decide +kernel⟩
theorem ZkU (A:ZaI K mg "_law_sum" Zdm ["script","at","names","limit"]) (T:Txt K mg) (F__law_draw:Fn3 P w K mg base 1 "_law_draw" ["script","k"] Zaj) (F__law_number:Fn3 P w K mg base 1 "_law_number" ["draw"] ZcJ):Fn3 P w K mg base 2 "_law_sum" ["script","at","names","limit"] Zbt:=
  Fn3.of (N:=["script","at","names","limit","words","due","draw"]) (k:=1) A Zcq fun f cdv A outer s H E hr=>by
    have hu:=Zdk hr
    unfold Zf8
    refine Zj ?_ ?_
    ·exact Zw 4 Zcq.nd (ZaH Zf)
    ·refine Zj ?_ ?_
     ·exact Zw 5 Zcq.nd Zi
     ·refine Zj ?_ ?_
      ·refine Zih ?_ ?_ ?_
       ·exact rfl
       ·exact ZaA Zm0 (Zd 5) Zi
       ·refine Zj ?_ ?_
        ·exact Zw 6 Zcq.nd (Zad (k:=1) (ps:=["script","k"]) F__law_draw (hr.mono (by decide)) (Zb (Zd 0) (Zb (Zq Zab (Zd 1) (Zbf (id:="len") Zbj T.m_len ZaT (Zb (Zd 4) Zf))) Zf)))
        ·refine Zj ?_ ?_
         ·exact Zw 5 Zcq.nd (Zq ZkY (Zd 5) Zi)
         ·refine Zo ?_
          refine Za0 ?_ ?_ ?_
          ·refine CW.ct ?_
           exact ZkB (ZaA ZvT (Zq Zab (Zbf (id:="len") Zbj T.m_len ZaT (Zb (Zd 4) Zf)) (Zd 5)) (Zd 3)) (ZjZ (ZaA Zqf (Zq Zbq (Zd 6) Zi) Zi))
          ·refine Zo ?_
           refine Za0 ?_ ?_ ?_
           ·exact ZaA ((Zc7 hu)) (Zq Zbq (Zq Zc0 (Zd 6) Zi) Zi) Zi
           ·exact Zo (ZaC (Zau (Zd 4) (Zb (Zad (k:=1) (ps:=["draw"]) F__law_number (hr.mono (by decide)) (Zb (Zq Zc0 (Zd 6) Zi) Zf)) Zf)))
           ·exact Zo (ZaC (Zau (Zd 4) (Zb (Zaa Zz (Zd 2) (Zq Zbq (Zq Zc0 (Zd 6) Zi) (Zbf (id:="len") Zbj T.m_len ZaT (Zb (Zd 2) Zf)))) Zf)))
          ·refine Zo ?_
           refine Za0 ?_ ?_ ?_
           ·exact ZaA ((Zc7 hu)) (Zq Zbq (Zd 6) Zi) Zi
           ·exact Zj (ZaC (Zau (Zd 4) (Zb Zal Zf))) (Zo (Zw 5 Zcq.nd (Zq Zab (Zd 5) Zi)))
           ·refine Zj ?_ ?_
            ·exact ZaC (Zau (Zd 4) (Zb (Zaa Zz (ZaH (Zb Zal (Zb Zal (Zb Zal Zf)))) (Zq Zbq (Zq Zc0 (Zd 6) Zi) Zi)) Zf))
            ·exact Zo (Zw 5 Zcq.nd (Zq Zab (Zd 5) Zi))
      ·exact Zo (ZaP (ZeK (T:="tuple") Zfd T.m_tuple Zd7 (Zb (Zd 4) Zf)))
theorem Zd9:ZaJ ["frames","opens","body","top"] ["frames","opens"] (Zr Zcj):=⟨rfl,rfl,rfl,by decide +kernel,rfl,by decide +kernel,by decide +kernel⟩
theorem Zis (A:ZaI K mg "_law_closed" Zcj ["frames","opens"]) (T:Txt K mg):Fn3 P w K mg base 1 "_law_closed" ["frames","opens"] Zbz:=
  Fn3.of (N:=["frames","opens","body","top"]) (k:=0) A Zd9 fun f cdv A outer s H E hr=>by
    have hu:=Zdk hr
    unfold ZeD
    refine Zj ?_ ?_
    ·exact Zw 2 Zd9.nd (ZeK (T:="tuple") Zfd T.m_tuple Zd7 (Zb (Zie (Zd 0)) Zf))
    ·refine Zj ?_ ?_
     ·exact Zw 3 Zd9.nd (Zie (Zd 1))
     ·refine Zo ?_
      refine Za0 ?_ ?_ ?_
      ·exact ZaA ((Zc7 hu)) (Zaa Zz (Zd 3) Zi) Zal
      ·refine Zo ?_
       refine ZaC ?_
       refine Zau ?_ ?_
       ·exact Zaa Zz (Zd 0) (Zit ZfX Zi)
       ·exact Zb (Zay (Zb Zal (Zb (Zaa Zz (Zd 3) Zi) (Zb (Zq Zab (Zd 2) (Zaa Zz (Zd 3) Zi)) Zf)))) Zf
      ·refine Zo ?_
       refine Za0 ?_ ?_ ?_
       ·exact ZaA Zvt (Zaa Zz (Zd 3) Zi) Zpq
       ·refine Zj ?_ ?_
        ·exact ZaC (Zau (Zd 1) (Zb (Zay (Zb (Zaa Zz (Zd 3) Zi) (Zb (Zaa Zz (Zd 3) Zi) (Zb (Zd 2) Zf)))) Zf))
        ·exact Zo (ZaC (Zau (Zd 0) (Zb (ZaH Zf) Zf)))
       ·refine Zo ?_
        refine ZaC ?_
        refine Zau ?_ ?_
        ·exact Zaa Zz (Zd 0) (Zit ZfX Zi)
        ·exact Zb (Zay (Zb Zal (Zb (Zaa Zz (Zd 3) Zi) (Zb (Zaa Zz (Zd 3) Zi) (Zb (Zd 2) Zf))))) Zf
theorem Zcr:ZaJ ["script","k","frames","opens","names","draw","name","some","less"] ["script","k","frames","opens","names"] (Zr Zch):=⟨rfl,rfl,rfl,by decide +kernel,rfl,by decide +kernel,by decide +kernel⟩
theorem Zh9 (A:ZaI K mg "_law_opened" Zch ["script","k","frames","opens","names"]) (T:Txt K mg) (F__law_draw:Fn3 P w K mg base 1 "_law_draw" ["script","k"] Zaj) (F__law_word:Fn3 P w K mg base 2 "_law_word" ["script","i"] Za1) (F__law_sum:Fn3 P w K mg base 2 "_law_sum" ["script","at","names","limit"] Zbt):Fn3 P w K mg base 3 "_law_opened" ["script","k","frames","opens","names"] Zcg:=
  Fn3.of (N:=["script","k","frames","opens","names","draw","name","some","less"]) (k:=2) A Zcr fun f cdv A outer s H E hr=>by
    have hu:=Zdk hr
    unfold ZcL
    refine Zj ?_ ?_
    ·exact Zw 5 Zcr.nd (Zad (k:=1) (ps:=["script","k"]) F__law_draw (hr.mono (by decide)) (Zb (Zd 0) (Zb (Zq Zab Zi (Zd 1)) Zf)))
    ·refine Zj ?_ ?_
     ·refine Za0 ?_ ?_ ?_
      ·exact ZaA ((Zc7 hu)) (Zq Zbq (Zd 5) Zi) Zi
      ·refine Zj ?_ ?_
       ·exact Zw 6 Zcr.nd (Zad (k:=2) (ps:=["script","i"]) F__law_word (hr.mono (by decide)) (Zb (Zd 0) (Zb (Zq Zab Zi (Zbf (id:="len") Zbj T.m_len ZaT (Zb (Zd 3) Zf))) Zf)))
       ·refine Zj ?_ ?_
        ·refine ZaC ?_
         refine Zau ?_ ?_
         ·exact Zaa Zz (Zd 2) (Zit ZfX Zi)
         ·exact Zb (Zay (Zb Zal (Zb (Zd 6) (Zb (Zay (Zb (Zq Zbq (Zq Zc0 (Zd 5) Zi) Zi) Zf)) Zf)))) Zf
        ·refine Zj ?_ ?_
         ·refine Zw 7 ?_ ?_
          ·exact Zcr.nd
          ·refine ZaH ?_
           refine Zb ?_ ?_
           ·exact Zay (Zb (Zd 6) Zf)
           ·refine Zb ?_ ?_
            ·exact Zay (Zb Zal (Zb (Zd 6) (Zb Zi Zf)))
            ·refine Zb ?_ ?_
             ·exact Zay (Zb Zal (Zb (Zd 6) (Zb Zi Zf)))
             ·refine Zb ?_ ?_
              ·exact Zay (Zb Zal (Zb (Zd 6) (Zb Zi Zf)))
              ·exact Zb (Zay (Zb (Zq ZkY Zi (Zq Zbq (Zq Zc0 (Zd 5) Zi) Zi)) Zf)) Zf
         ·refine Zj ?_ ?_
          ·refine Zw 8 ?_ ?_
           ·exact Zcr.nd
           ·refine Zaa ?_ ?_ ?_
            ·exact Zz
            ·refine ZaH ?_
             refine Zb ?_ ?_
             ·exact Zay (Zb (Zay (Zb Zal (Zb (Zd 6) (Zb (Zay (Zb Zal (Zb (Zd 6) (Zb Zi Zf)))) Zf)))) Zf)
             ·exact Zb (Zay Zf) Zf
            ·exact ZeK (T:="int") Zoa T.m_int Zpw (Zb (Zq6 ((Zc7 hu)) (Zq Zbq (Zq Zc0 (Zd 5) Zi) Zi) Zi) Zf)
          ·refine Zo ?_
           refine ZaC ?_
           refine Zau ?_ ?_
           ·exact Zd 3
           ·exact Zb (Zay (Zb Zal (Zb (Zaa Zz (Zd 7) (Zq Zbq (Zq Zbq (Zq Zc0 (Zd 5) Zi) Zi) Zi)) (Zb (Zd 8) Zf)))) Zf
      ·refine Zo ?_
       refine ZaC ?_
       refine Zau ?_ ?_
       ·exact Zd 3
       ·refine Zb ?_ ?_
        ·refine Zay ?_
         refine Zb ?_ ?_
         ·exact Zal
         ·exact Zb (Zad (k:=2) (ps:=["script","at","names","limit"]) F__law_sum (hr.mono (by decide)) (Zb (Zd 0) (Zb (Zq Zab Zi (Zq Zfi Zi (Zd 1))) (Zb (Zd 4) (Zb Zi Zf))))) (Zb Zpq Zf)
        ·exact Zf
     ·exact Zo (ZaC (Zau (Zd 2) (Zb (ZaH Zf) Zf)))
theorem ZbS:ZaJ ["script","cells","names","frames","opens","k","cell","deep","one"] ["script","cells","names"] (Zr Zcy):=⟨rfl,rfl,rfl,by decide +kernel,rfl,by decide +kernel,by decide +kernel⟩
theorem Ziw (A:ZaI K mg "_law_deeds" Zcy ["script","cells","names"]) (T:Txt K mg) (F__law_draw:Fn3 P w K mg base 1 "_law_draw" ["script","k"] Zaj) (F__law_sum:Fn3 P w K mg base 2 "_law_sum" ["script","at","names","limit"] Zbt) (F__law_closed:Fn3 P w K mg base 1 "_law_closed" ["frames","opens"] Zbz) (F__law_opened:Fn3 P w K mg base 3 "_law_opened" ["script","k","frames","opens","names"] Zcg):Fn3 P w K mg base 4 "_law_deeds" ["script","cells","names"] ZdW:=
  Fn3.of (N:=["script","cells","names","frames","opens","k","cell","deep","one"]) (k:=3) A ZbS fun f cdv A outer s H E hr=>by
    have hu:=Zdk hr
    unfold Ze5
    refine Zj ?_ ?_
    ·exact Zw 3 ZbS.nd (ZaH (Zb (ZaH Zf) Zf))
    ·refine Zj ?_ ?_
     ·exact Zw 4 ZbS.nd (ZaH Zf)
     ·refine Zj ?_ ?_
      ·refine ZgH ?_ ?_ ?_ ?_ ?_
       ·exact rfl
       ·exact rfl
       ·exact ZfK T.m_enumerate (Zd 1)
       ·exact Zg0 rfl (Zcc 5 ZbS.nd (Zcc 6 ZbS.nd ZfI))
       ·refine Zj ?_ ?_
        ·exact Zw 7 ZbS.nd (ZeK (T:="int") Zoa T.m_int Zpw (Zb (Zq6 ((Zc7 hu)) (Zd 5) (Zq Zbq (Zad (k:=1) (ps:=["script","k"]) F__law_draw (hr.mono (by decide)) (Zb (Zd 0) (Zb Zi Zf))) Zi)) Zf))
        ·refine Zj ?_ ?_
         ·refine Zw 8 ?_ ?_
          ·exact ZbS.nd
          ·refine Zad (k:=2) (ps:=["script","at","names","limit"]) ?_ ?_ ?_
           ·exact F__law_sum
           ·exact hr.mono (by decide)
           ·refine Zb ?_ ?_
            ·exact Zd 0
            ·exact Zb (Zq Zab Zi (Zq Zfi Zi (Zd 5))) (Zb (Zd 2) (Zb (Zaa Zz (ZaH (Zb Zi (Zb Zi Zf))) (Zd 7)) Zf))
         ·refine Zo ?_
          refine Za0 ?_ ?_ ?_
          ·exact ZaA Zqf (Zq Zbq (Zd 6) Zi) Zi
          ·refine Zo ?_
           refine ZaC ?_
           refine Zau ?_ ?_
           ·exact Zaa Zz (Zd 3) (Zit ZfX Zi)
           ·exact Zb (Zay (Zb Zal (Zb (Zaa Zz (Zd 2) (Zq Zbq (Zq Zc0 (Zd 6) Zi) Zi)) (Zb (Zd 8) Zf)))) Zf
          ·refine Zo ?_
           refine Za0 ?_ ?_ ?_
           ·exact ZaA ((Zc7 hu)) (Zq Zbq (Zd 6) Zi) Zi
           ·refine Zo ?_
            refine ZaC ?_
            refine Zau ?_ ?_
            ·exact Zaa Zz (Zd 3) (Zit ZfX Zi)
            ·refine Zb ?_ ?_
             ·refine Zay ?_
              refine Zb ?_ ?_
              ·exact Zal
              ·refine Zb ?_ ?_
               ·exact Zd 8
               ·refine Zb ?_ ?_
                ·refine Zad (k:=2) (ps:=["script","at","names","limit"]) ?_ ?_ ?_
                 ·exact F__law_sum
                 ·exact hr.mono (by decide)
                 ·refine Zb ?_ ?_
                  ·exact Zd 0
                  ·exact Zb (Zq Zab Zi (Zq Zfi Zi (Zd 5))) (Zb (Zd 2) (Zb (Zaa Zz (ZaH (Zb Zi (Zb Zi Zf))) (Zd 7)) Zf))
                ·exact Zf
             ·exact Zf
           ·refine Zo ?_
            refine Za0 ?_ ?_ ?_
            ·exact CW.ct (Zg1 (ZaA Zqf (Zq Zbq (Zd 6) Zi) Zi) (ZhL (ZaA Zqf (Zbf (id:="len") Zbj T.m_len ZaT (Zb (Zd 4) Zf)) Zi)))
            ·exact Zo (ZaC (Zad (k:=3) (ps:=["script","k","frames","opens","names"]) F__law_opened (hr.mono (by decide)) (Zb (Zd 0) (Zb (Zd 5) (Zb (Zd 3) (Zb (Zd 4) (Zb (Zd 2) Zf)))))))
            ·refine Zo ?_
             refine Za0 ?_ ?_ ?_
             ·exact CW.ct (Zg1 (ZaA ((Zc7 hu)) (Zq Zbq (Zd 6) Zi) Zi) (ZhL (ZaA Zm0 (Zbf (id:="len") Zbj T.m_len ZaT (Zb (Zd 4) Zf)) Zi)))
             ·exact Zo (ZaC (Zad (k:=1) (ps:=["frames","opens"]) F__law_closed (hr.mono (by decide)) (Zb (Zd 3) (Zb (Zd 4) Zf))))
             ·exact Zo (ZaC (Zau (Zaa Zz (Zd 3) (Zit ZfX Zi)) (Zb (Zay (Zb Zal (Zb (Zd 8) Zf))) Zf)))
      ·refine Zj ?_ ?_
       ·exact Zih rfl (ZaA Zm0 (Zbf (id:="len") Zbj T.m_len ZaT (Zb (Zd 4) Zf)) Zi) (Zo (ZaC (Zad (k:=1) (ps:=["frames","opens"]) F__law_closed (hr.mono (by decide)) (Zb (Zd 3) (Zb (Zd 4) Zf)))))
       ·exact Zo (ZaP (ZeK (T:="tuple") Zfd T.m_tuple Zd7 (Zb (Zaa Zz (Zd 3) Zi) Zf)))
theorem ZdK:ZaJ ["script","names","taken"] ["script"] (Zr Zb3):=⟨rfl,rfl,rfl,by decide +kernel,rfl,by decide +kernel,by decide +kernel⟩
theorem ZhB (A:ZaI K mg "_law_program" Zb3 ["script"]) (T:Txt K mg) (F__law_draw:Fn3 P w K mg base 1 "_law_draw" ["script","k"] Zaj) (F__law_word:Fn3 P w K mg base 2 "_law_word" ["script","i"] Za1) (F__law_deeds:Fn3 P w K mg base 4 "_law_deeds" ["script","cells","names"] ZdW):Fn3 P w K mg base 5 "_law_program" ["script"] Zco:=
  Fn3.of (N:=["script","names","taken"]) (k:=4) A ZdK fun f cdv A outer s H E hr=>by
    have hu:=Zdk hr
    unfold Zec
    refine Zj ?_ ?_
    ·exact Zn7 (N':=["script","names","taken","k"]) 1 (Zhb rfl (by kernel_rfl)) rfl rfl ZdK.nd (Zjc T.m_range Zi) (fun C cl s H ex=>⟨(ZcQ 3 ((show List.Nodup (["script","names","taken","k"]:List Str) by decide +kernel))),Zj0,(Zad (k:=2) (ps:=["script","i"]) F__law_word (hr.mono (by decide)) (Zb (Zd 0) (Zb (Zd 3) Zf)))⟩)
    ·refine Zj ?_ ?_
     ·refine Zw 2 ?_ ?_
      ·exact ZdK.nd
      ·exact ZeK (T:="tuple") Zfd T.m_tuple Zd7 (Zb (ZoW ZoL (Zd 1) Zgl (Zgy (Zq Zbq (Zad (k:=1) (ps:=["script","k"]) F__law_draw (hr.mono (by decide)) (Zb (Zd 0) (Zb Zi Zf))) Zi))) Zf)
     ·refine Zo ?_
      refine ZaP ?_
      refine Zay ?_
      refine Zb ?_ ?_
      ·exact Zd 2
      ·refine Zb ?_ ?_
       ·refine Zad (k:=4) (ps:=["script","cells","names"]) ?_ ?_ ?_
        ·exact F__law_deeds
        ·exact hr.mono (by decide)
        ·refine Zb ?_ ?_
         ·exact Zd 0
         ·refine Zb ?_ ?_
          ·exact ZoW ZoL (Zd 0) Zgl (Zgy Zi)
          ·exact Zb (Zq Zab (Zd 1) (ZaH (Zb (Zad (k:=2) (ps:=["script","i"]) F__law_word (hr.mono (by decide)) (Zb (Zd 0) (Zb Zi Zf))) Zf))) Zf
       ·exact Zf
theorem ZaQ:ZaJ ["words","box","cells","rows","todo","left","here"] ["words","box","cells"] (Zr Zbi):=⟨rfl,rfl,rfl,by decide +kernel,rfl,by decide +kernel,by decide +kernel⟩
theorem ZfT (A:ZaI K mg "_law_rows_of_sum" Zbi ["words","box","cells"]) (T:Txt K mg):Fn3 P w K mg base 1 "_law_rows_of_sum" ["words","box","cells"] Zag:=
  Fn3.of (N:=["words","box","cells","rows","todo","left","here"]) (k:=0) A ZaQ fun f cdv A outer s H E hr=>by
    have hu:=Zdk hr
    unfold ZcV
    refine Zj ?_ ?_
    ·exact Zw 3 ZaQ.nd (ZaH Zf)
    ·refine Zj ?_ ?_
     ·exact Zw 4 ZaQ.nd (ZaH (Zb (Zd 1) Zf))
     ·refine Zj ?_ ?_
      ·exact Zw 5 ZaQ.nd (ZeK (T:="list") ZlH T.m_list Zj5 (Zb (Zd 0) Zf))
      ·refine Zj ?_ ?_
       ·refine Zih ?_ ?_ ?_
        ·exact rfl
        ·exact ZaA Zm0 (Zbf (id:="len") Zbj T.m_len ZaT (Zb (Zd 4) Zf)) Zi
        ·refine Zj ?_ ?_
         ·exact Zw 6 ZaQ.nd (ZeW (Zd 4) (Zb Zi Zf))
         ·refine Zo ?_
          refine Za0 ?_ ?_ ?_
          ·exact ZeB (ZeJ .tuple T.m_isinstance T.m_tuple (Zd 6))
          ·exact Zo (ZaC (Zau (Zd 3) (Zb (Zd 6) Zf)))
          ·refine Zo ?_
           refine Za0 ?_ ?_ ?_
           ·exact ZeB (ZeJ .int T.m_isinstance T.m_int (Zaa Zz (Zd 5) Zi))
           ·exact Zo (ZaC (Zau (Zd 3) (Zb (Zay (Zb Zal (Zb (Zd 6) (Zb (ZeW (Zd 5) (Zb Zi Zf)) Zf)))) Zf)))
           ·refine Zo ?_
            refine Za0 ?_ ?_ ?_
            ·exact ZaA ((Zc7 hu)) (Zaa Zz (Zd 5) Zi) Zal
            ·refine Zj ?_ ?_
             ·exact ZaC (ZeW (Zd 5) (Zb Zi Zf))
             ·refine Zo ?_
              refine Zw 4 ?_ ?_
              ·exact ZaQ.nd
              ·refine Zq ?_ ?_ ?_
               ·exact Zab
               ·refine ZaH ?_
                refine Zb ?_ ?_
                ·exact Zd 6
                ·exact Zb (Zay (Zb Zal (Zb (Zd 6) (Zb (Zd 6) (Zb (Zd 6) Zf))))) (Zb (Zay (Zb Zal (Zb (Zd 6) (Zb (Zd 6) Zf)))) Zf)
               ·exact Zd 4
            ·refine Zo ?_
             refine Za0 ?_ ?_ ?_
             ·exact ZaA ((ZvC hu)) (Zaa Zz (Zd 5) Zi) (Zay (Zb Zal (Zb Zal (Zb Zal Zf))))
             ·refine Zo ?_
              refine Zw 4 ?_ ?_
              ·exact ZaQ.nd
              ·refine Zq ?_ ?_ ?_
               ·exact Zab
               ·refine ZaH ?_
                refine Zb ?_ ?_
                ·exact Zd 6
                ·refine Zb ?_ ?_
                 ·exact Zq Zab (Zd 6) Zi
                 ·exact Zb (Zay (Zb (ZeW (Zd 5) (Zb Zi Zf)) (Zb (Zd 6) (Zb (Zd 6) (Zb (Zq Zab (Zd 6) Zi) Zf))))) Zf
               ·exact Zd 4
             ·refine Zo ?_
              refine Zw 3 ?_ ?_
              ·exact ZaQ.nd
              ·refine Zq ?_ ?_ ?_
               ·exact Zab
               ·exact Zd 3
               ·refine ZaH ?_
                refine Zb ?_ ?_
                ·exact Zay (Zb Zal (Zb Zi (Zb (ZjX hu (Zd 2) (ZeW (Zd 5) (Zb Zi Zf))) Zf)))
                ·exact Zb (Zay (Zb Zal (Zb (Zd 6) (Zb Zi Zf)))) Zf
       ·exact Zo (ZaP (Zd 3))
theorem Zu:ZaJ ["deeds","at","cells","rows","deed","here","some","second","there","first","within","end"] ["deeds","at","cells"] (Zr Za2):=⟨rfl,rfl,rfl,by decide +kernel,rfl,by decide +kernel,by decide +kernel⟩
theorem Zfk (A:ZaI K mg "_law_rows_of_deeds" Za2 ["deeds","at","cells"]) (T:Txt K mg) (F__law_rows_of_sum:Fn3 P w K mg base 1 "_law_rows_of_sum" ["words","box","cells"] Zag):Fn3 P w K mg base 9 "_law_rows_of_deeds" ["deeds","at","cells"] Zbm:=by
  have all:∀ n:Nat,Fn3 P w K mg base (n + 2) "_law_rows_of_deeds" ["deeds","at","cells"] (ZbQ n):=by
    intro n
    induction n with
    | zero=>exact Fn3.of (N:=["deeds","at","cells","rows","deed","here","some","second","there","first","within","end"]) (k:=1) A Zu fun f cdv A outer s H E hr=>ZdS
    | succ n IH=>
      refine (Fn3.of (N:=["deeds","at","cells","rows","deed","here","some","second","there","first","within","end"]) (k:=n + 2) A Zu fun f cdv A outer s H E hr=>?_).mono (by omega)
      have hu:=Zdk hr
      unfold ZbN
      refine Zj ?_ ?_
      ·exact Zw 3 Zu.nd (ZaH Zf)
      ·refine Zj ?_ ?_
       ·refine Zeu ?_ ?_ ?_ ?_ ?_
        ·exact rfl
        ·exact rfl
        ·exact Ziu (Zd 0)
        ·exact ZcQ 4 Zu.nd
        ·refine Zj ?_ ?_
         ·exact Zw 5 Zu.nd (Zq Zab (Zd 1) (Zbf (id:="len") Zbj T.m_len ZaT (Zb (Zd 3) Zf)))
         ·refine Zo ?_
          refine Za0 ?_ ?_ ?_
          ·exact ZaA ((Zc7 hu)) (Zaa Zz (Zd 4) Zi) Zal
          ·refine Zo ?_
           refine Zw 3 ?_ ?_
           ·exact Zu.nd
           ·refine Zq ?_ ?_ ?_
            ·exact Zab
            ·exact Zq Zab (Zd 3) (Zad (k:=1) (ps:=["words","box","cells"]) F__law_rows_of_sum (hr.mono (by omega)) (Zb (Zaa Zz (Zd 4) Zi) (Zb Zi (Zb (Zd 2) Zf))))
            ·refine ZaH ?_
             refine Zb ?_ ?_
             ·exact Zay (Zb Zal (Zb Zi (Zb (ZjX hu (Zd 2) (Zaa Zz (Zd 4) Zi)) Zf)))
             ·exact Zb (Zay (Zb Zal (Zb Zi (Zb Zi Zf)))) Zf
          ·refine Zo ?_
           refine Za0 ?_ ?_ ?_
           ·exact ZaA ((Zc7 hu)) (Zaa Zz (Zd 4) Zi) Zal
           ·refine Zj ?_ ?_
            ·refine Zw 3 ?_ ?_
             ·exact Zu.nd
             ·refine Zq ?_ ?_ ?_
              ·exact Zab
              ·exact Zq Zab (Zd 3) (Zad (k:=1) (ps:=["words","box","cells"]) F__law_rows_of_sum (hr.mono (by omega)) (Zb (Zaa Zz (Zd 4) Zi) (Zb Zi (Zb (Zd 2) Zf))))
              ·exact ZaH (Zb (Zay (Zb Zal (Zb Zi (Zb Zi (Zb Zi Zf))))) Zf)
            ·refine Zo ?_
             refine Zw 3 ?_ ?_
             ·exact Zu.nd
             ·refine Zq ?_ ?_ ?_
              ·exact Zab
              ·exact Zq Zab (Zd 3) (Zad (k:=1) (ps:=["words","box","cells"]) F__law_rows_of_sum (hr.mono (by omega)) (Zb (Zaa Zz (Zd 4) Zi) (Zb Zi (Zb (Zd 2) Zf))))
              ·exact ZaH (Zb (Zay (Zb Zal (Zb Zi (Zb Zi Zf)))) Zf)
           ·refine Zo ?_
            refine Za0 ?_ ?_ ?_
            ·exact ZaA ((Zc7 hu)) (Zaa Zz (Zd 4) Zi) Zal
            ·refine Zo ?_
             refine Zw 3 ?_ ?_
             ·exact Zu.nd
             ·refine Zq ?_ ?_ ?_
              ·exact Zab
              ·exact Zq Zab (Zd 3) (Zad (k:=1) (ps:=["words","box","cells"]) F__law_rows_of_sum (hr.mono (by omega)) (Zb (Zaa Zz (Zd 4) Zi) (Zb Zi (Zb (Zd 2) Zf))))
              ·exact ZaH (Zb (Zay (Zb Zal (Zb Zi Zf))) Zf)
            ·refine Zo ?_
             refine Za0 ?_ ?_ ?_
             ·exact ZaA ((Zc7 hu)) (Zaa Zz (Zd 4) Zi) Zal
             ·refine Zj ?_ ?_
              ·exact Zw 6 Zu.nd (Zad (k:=1) (ps:=["words","box","cells"]) F__law_rows_of_sum (hr.mono (by omega)) (Zb (Zaa Zz (Zd 4) Zi) (Zb Zi (Zb (Zd 2) Zf))))
              ·refine Zj ?_ ?_
               ·refine Zw 7 ?_ ?_
                ·exact Zu.nd
                ·refine Zad (k:=n + 2) (ps:=["deeds","at","cells"]) ?_ ?_ ?_
                 ·exact IH
                 ·exact hr
                 ·exact Zb (Zaa Zz (Zd 4) Zi) (Zb (Zq Zab (Zq Zab (Zd 5) (Zbf (id:="len") Zbj T.m_len ZaT (Zb (Zd 6) Zf))) Zi) (Zb (Zd 2) Zf))
               ·refine Zj ?_ ?_
                ·refine Zw 8 ?_ ?_
                 ·exact Zu.nd
                 ·exact Zq Zab (Zq Zab (Zq Zab (Zd 5) (Zbf (id:="len") Zbj T.m_len ZaT (Zb (Zd 6) Zf))) (Zbf (id:="len") Zbj T.m_len ZaT (Zb (Zd 7) Zf))) Zi
                ·refine Zj ?_ ?_
                 ·exact Zw 9 Zu.nd (Zad (k:=n + 2) (ps:=["deeds","at","cells"]) IH hr (Zb (Zaa Zz (Zd 4) Zi) (Zb (Zd 8) (Zb (Zd 2) Zf))))
                 ·refine Zo ?_
                  refine Zw 3 ?_ ?_
                  ·exact Zu.nd
                  ·refine Zq ?_ ?_ ?_
                   ·exact Zab
                   ·refine Zq ?_ ?_ ?_
                    ·exact Zab
                    ·exact Zq Zab (Zq Zab (Zq Zab (Zd 3) (Zd 6)) (ZaH (Zb (Zay (Zb Zal (Zb Zi (Zb (Zd 8) Zf)))) Zf))) (Zd 7)
                    ·exact ZaH (Zb (Zay (Zb Zal (Zb (Zq Zab (Zd 8) (Zbf (id:="len") Zbj T.m_len ZaT (Zb (Zd 9) Zf))) Zf))) Zf)
                   ·exact Zd 9
             ·refine Zj ?_ ?_
              ·exact Zw 6 Zu.nd (Zad (k:=1) (ps:=["words","box","cells"]) F__law_rows_of_sum (hr.mono (by omega)) (Zb (Zaa Zz (Zd 4) Zi) (Zb Zi (Zb (Zd 2) Zf))))
              ·refine Zj ?_ ?_
               ·refine Zw 10 ?_ ?_
                ·exact Zu.nd
                ·refine Zad (k:=n + 2) (ps:=["deeds","at","cells"]) ?_ ?_ ?_
                 ·exact IH
                 ·exact hr
                 ·exact Zb (Zaa Zz (Zd 4) Zi) (Zb (Zq Zab (Zq Zab (Zd 5) (Zbf (id:="len") Zbj T.m_len ZaT (Zb (Zd 6) Zf))) Zi) (Zb (Zd 2) Zf))
               ·refine Zj ?_ ?_
                ·refine Zw 11 ?_ ?_
                 ·exact Zu.nd
                 ·exact Zq Zab (Zq Zab (Zq Zab (Zd 5) (Zbf (id:="len") Zbj T.m_len ZaT (Zb (Zd 6) Zf))) (Zbf (id:="len") Zbj T.m_len ZaT (Zb (Zd 10) Zf))) Zi
                ·refine Zo ?_
                 refine Zw 3 ?_ ?_
                 ·exact Zu.nd
                 ·refine Zq ?_ ?_ ?_
                  ·exact Zab
                  ·refine Zq ?_ ?_ ?_
                   ·exact Zab
                   ·refine Zq ?_ ?_ ?_
                    ·exact Zab
                    ·exact Zq Zab (Zd 3) (Zd 6)
                    ·refine ZaH ?_
                     refine Zb ?_ ?_
                     ·exact Zay (Zb Zal (Zb Zi (Zb (Zq Zab (Zq Zab (Zd 5) (Zbf (id:="len") Zbj T.m_len ZaT (Zb (Zd 6) Zf))) Zi) Zf)))
                     ·exact Zb (Zay (Zb Zal (Zb (Zd 11) Zf))) Zf
                   ·exact Zd 10
                  ·exact ZaH (Zb (Zay (Zb Zal (Zb (Zd 5) Zf))) Zf)
       ·exact Zo (ZaP (Zd 3))
  exact all 7
theorem Zgn:ZaJ ["words","seen","word"] ["words","seen"] (Zr Zc4):=⟨rfl,rfl,rfl,by decide +kernel,rfl,by decide +kernel,by decide +kernel⟩
theorem ZjC (A:ZaI K mg "_law_seen" Zc4 ["words","seen"]) (T:Txt K mg):Fn3 P w K mg base 1 "_law_seen" ["words","seen"] Zby:=
  Fn3.of (N:=["words","seen","word"]) (k:=0) A Zgn fun f cdv A outer s H E hr=>by
    have hu:=Zdk hr
    unfold Zhn
    refine Zo ?_
    refine Zeu ?_ ?_ ?_ ?_ ?_
    ·exact rfl
    ·exact rfl
    ·exact Ziu (Zd 0)
    ·exact ZcQ 2 Zgn.nd
    ·refine Zo ?_
     refine Za0 ?_ ?_ ?_
     ·refine CW.ct ?_
      refine Zg1 ?_ ?_
      ·exact Zhj (ZeB (ZeJ .int T.m_isinstance T.m_int (Zd 2)))
      ·exact Zg1 (ZaA ((Zmj hu)) (Zd 2) (Zay (Zb Zal (Zb Zal (Zb Zal (Zb Zal Zf)))))) (ZhL (ZaA Zkj (Zd 2) (Zd 1)))
     ·exact Zo (ZaC (Zau (Zd 1) (Zb (Zd 2) Zf)))
     ·exact Za9
theorem ZeA:ZaJ ["deeds","seen","deed"] ["deeds","seen"] (Zr ZcB):=⟨rfl,rfl,rfl,by decide +kernel,rfl,by decide +kernel,by decide +kernel⟩
theorem ZiC (A:ZaI K mg "_law_names" ZcB ["deeds","seen"]) (T:Txt K mg) (F__law_seen:Fn3 P w K mg base 1 "_law_seen" ["words","seen"] Zby):Fn3 P w K mg base 9 "_law_names" ["deeds","seen"] ZdV:=by
  have all:∀ n:Nat,Fn3 P w K mg base (n + 2) "_law_names" ["deeds","seen"] (ZdT n):=by
    intro n
    induction n with
    | zero=>exact Fn3.of (N:=["deeds","seen","deed"]) (k:=1) A ZeA fun f cdv A outer s H E hr=>ZdS
    | succ n IH=>
      refine (Fn3.of (N:=["deeds","seen","deed"]) (k:=n + 2) A ZeA fun f cdv A outer s H E hr=>?_).mono (by omega)
      have hu:=Zdk hr
      unfold ZgD
      refine Zo ?_
      refine Zeu ?_ ?_ ?_ ?_ ?_
      ·exact rfl
      ·exact rfl
      ·exact Ziu (Zd 0)
      ·exact ZcQ 2 ZeA.nd
      ·refine Zj ?_ ?_
       ·refine Za0 ?_ ?_ ?_
        ·exact ZaA ((Zc7 hu)) (Zaa Zz (Zd 2) Zi) Zal
        ·exact Zo (ZaC (Zad (k:=1) (ps:=["words","seen"]) F__law_seen (hr.mono (by omega)) (Zb (Zq Zab (Zay (Zb (Zaa Zz (Zd 2) Zi) Zf)) (Zaa Zz (Zd 2) Zi)) (Zb (Zd 1) Zf))))
        ·exact Zo (ZaC (Zad (k:=1) (ps:=["words","seen"]) F__law_seen (hr.mono (by omega)) (Zb (Zaa Zz (Zd 2) Zi) (Zb (Zd 1) Zf))))
       ·refine Zj ?_ ?_
        ·exact Za0 (ZaA ((Zc7 hu)) (Zaa Zz (Zd 2) Zi) Zal) (Zo (ZaC (Zad (k:=1) (ps:=["words","seen"]) F__law_seen (hr.mono (by omega)) (Zb (Zaa Zz (Zd 2) Zi) (Zb (Zd 1) Zf))))) Za9
        ·refine Zj ?_ ?_
         ·refine Za0 ?_ ?_ ?_
          ·exact ZaA ((Zc7 hu)) (Zaa Zz (Zd 2) Zi) Zal
          ·refine Zj ?_ ?_
           ·exact ZaC (Zad (k:=n + 2) (ps:=["deeds","seen"]) IH hr (Zb (Zaa Zz (Zd 2) Zi) (Zb (Zd 1) Zf)))
           ·exact Zo (ZaC (Zad (k:=n + 2) (ps:=["deeds","seen"]) IH hr (Zb (Zaa Zz (Zd 2) Zi) (Zb (Zd 1) Zf))))
          ·exact Za9
         ·refine Zo ?_
          exact Za0 (ZaA ((Zc7 hu)) (Zaa Zz (Zd 2) Zi) Zal) (Zo (ZaC (Zad (k:=n + 2) (ps:=["deeds","seen"]) IH hr (Zb (Zaa Zz (Zd 2) Zi) (Zb (Zd 1) Zf))))) Za9
  exact all 7
theorem ZdG:ZaJ ["script","program","seen","cells","rows","k","found","row","item"] ["script"] (Zr ZgG):=⟨rfl,rfl,rfl,by decide +kernel,rfl,by decide +kernel,by decide +kernel⟩
theorem Zto {f:Addr} {fd:FuncData} (F:Fun K "law" "law" ZgG f fd) (T:Txt K mg) (F_roll_of:Fn3 P w K mg base 31 "roll_of" ["program"] ZfD) (F__law_program:Fn3 P w K mg base 5 "_law_program" ["script"] Zco) (F__law_rows_of_deeds:Fn3 P w K mg base 9 "_law_rows_of_deeds" ["deeds","at","cells"] Zbm) (F__law_names:Fn3 P w K mg base 9 "_law_names" ["deeds","seen"] ZdV):Zfo P w K mg base CX0 32 f fd ["script"] (sp3 K 1 Zl4):=
  fn3 (N:=["script","program","seen","cells","rows","k","found","row","item"]) (k:=31) F ZdG fun cdv A outer s H E hr=>by
    have hu:=Zdk hr
    unfold Zpf
    refine Zj ?_ ?_
    ·exact Zw 1 ZdG.nd (Zad (k:=5) (ps:=["script"]) F__law_program (hr.mono (by decide)) (Zb (Zd 0) Zf))
    ·refine Zj ?_ ?_
     ·exact Zw 2 ZdG.nd (ZeK (T:="list") ZlH T.m_list Zj5 (Zb (Zaa Zz (Zd 1) Zi) Zf))
     ·refine Zj ?_ ?_
      ·exact ZaC (Zad (k:=9) (ps:=["deeds","seen"]) F__law_names (hr.mono (by decide)) (Zb (Zaa Zz (Zd 1) Zi) (Zb (Zd 2) Zf)))
      ·refine Zj ?_ ?_
       ·refine Zw 3 ?_ ?_
        ·exact ZdG.nd
        ·refine ZeK (T:="dict") ?_ ?_ ?_ ?_
         ·exact (ZpT rfl)
         ·exact T.m_dict
         ·exact Zqh
         ·refine Zb ?_ ?_
          ·refine Zuw (N':=["script","program","seen","cells","rows",".k","found","row","item","k","name"]) ?_ ?_ ?_ ?_ (fun C cl s H ex=>⟨?_,?_,?_⟩)
           ·exact Zhb rfl (by kernel_rfl)
           ·exact rfl
           ·exact rfl
           ·exact ZfK T.m_enumerate (Zd 2)
           ·exact Zg0 rfl (Zcc 9 ((show List.Nodup (["script","program","seen","cells","rows",".k","found","row","item","k","name"]:List Str) by decide +kernel)) (Zcc 10 ((show List.Nodup (["script","program","seen","cells","rows",".k","found","row","item","k","name"]:List Str) by decide +kernel)) ZfI))
           ·exact Zj0
           ·exact Zay (Zb (Zd 10) (Zb (Zq Zab (Zq Zfi Zi (Zd 9)) Zi) Zf))
          ·exact Zf
       ·refine Zj ?_ ?_
        ·exact Zw 4 ZdG.nd (ZaH Zf)
        ·refine Zj ?_ ?_
         ·refine Zeu ?_ ?_ ?_ ?_ ?_
          ·exact rfl
          ·exact rfl
          ·exact Zjc T.m_range (Zbf (id:="len") Zbj T.m_len ZaT (Zb (Zaa Zz (Zd 1) Zi) Zf))
          ·exact ZcQ 5 ZdG.nd
          ·refine Zo ?_
           refine Zw 4 ?_ ?_
           ·exact ZdG.nd
           ·refine Zq ?_ ?_ ?_
            ·exact Zab
            ·exact Zd 4
            ·refine ZaH ?_
             refine Zb ?_ ?_
             ·exact Zay (Zb Zal (Zb Zi (Zb (Zq Zab (Zq Zfi Zi (Zd 5)) Zi) Zf)))
             ·exact Zb (Zay (Zb Zal (Zb Zi (Zb (Zd 5) Zf)))) Zf
         ·refine Zj ?_ ?_
          ·refine Zw 4 ?_ ?_
           ·exact ZdG.nd
           ·refine Zq ?_ ?_ ?_
            ·exact Zab
            ·exact Zq Zab (Zd 4) (Zad (k:=9) (ps:=["deeds","at","cells"]) F__law_rows_of_deeds (hr.mono (by decide)) (Zb (Zaa Zz (Zd 1) Zi) (Zb (Zbf (id:="len") Zbj T.m_len ZaT (Zb (Zd 4) Zf)) (Zb (Zd 3) Zf))))
            ·exact ZaH (Zb (Zay (Zb Zal Zf)) Zf)
          ·refine Zj ?_ ?_
           ·exact Zw 6 ZdG.nd (Zad (k:=31) (ps:=["program"]) F_roll_of (hr.mono (by decide)) (Zb (Zd 1) Zf))
           ·refine Zj ?_ ?_
            ·refine Za0 ?_ ?_ ?_
             ·refine CW.ct ?_
              refine ZkB ?_ ?_
              ·exact Zhj (ZeB (ZeJ .tuple T.m_isinstance T.m_tuple (Zd 6)))
              ·exact ZjZ (ZaA ((ZrN hu)) (Zbf (id:="len") Zbj T.m_len ZaT (Zb (Zd 6) Zf)) (Zbf (id:="len") Zbj T.m_len ZaT (Zb (Zd 4) Zf)))
             ·exact Zo (ZaP Zpu)
             ·exact Za9
            ·refine Zj ?_ ?_
             ·refine ZgH ?_ ?_ ?_ ?_ ?_
              ·exact rfl
              ·exact rfl
              ·exact ZfK T.m_enumerate (Zd 4)
              ·exact Zg0 rfl (Zcc 5 ZdG.nd (Zcc 7 ZdG.nd ZfI))
              ·refine Zj ?_ ?_
               ·refine Za0 ?_ ?_ ?_
                ·refine CW.ct ?_
                 refine ZkB ?_ ?_
                 ·exact Zhj (ZeB (ZeJ .tuple T.m_isinstance T.m_tuple (Zaa Zz (Zd 6) (Zd 5))))
                 ·refine ZkB ?_ ?_
                  ·exact ZaA ((ZrN hu)) (Zbf (id:="len") Zbj T.m_len ZaT (Zb (Zaa Zz (Zd 6) (Zd 5)) Zf)) (Zbf (id:="len") Zbj T.m_len ZaT (Zb (Zd 7) Zf))
                  ·exact ZjZ (Zhj (ZeB (ZeJ .str T.m_isinstance T.m_str (Zaa Zz (Zaa Zz (Zd 6) (Zd 5)) Zi))))
                ·exact Zo (ZaP Zpu)
                ·exact Za9
               ·refine Zj ?_ ?_
                ·refine Zeu ?_ ?_ ?_ ?_ ?_
                 ·exact rfl
                 ·exact rfl
                 ·exact Ziu (ZoW ZoL (Zaa Zz (Zd 6) (Zd 5)) (Zgy Zi) Zgl)
                 ·exact ZcQ 8 ZdG.nd
                 ·exact Zo (Za0 (CW.ct (ZkB (Zhj (ZeB (ZeJ .int T.m_isinstance T.m_int (Zd 8)))) (ZjZ (ZeB (ZeJ .bool T.m_isinstance T.m_bool (Zd 8)))))) (Zo (ZaP Zpu)) Za9)
                ·exact Zo (Za0 (ZaA ((ZrN hu)) (Zaa Zz (Zd 6) (Zd 5)) (Zd 7)) (Zo (ZaP Zpu)) Za9)
             ·exact Zo (ZaP Zpu)
end
end Law
set_option maxHeartbeats 200000
namespace Law
open L3
theorem Zil (n d:Nat):sIx n d none = d:=rfl
theorem ZjR (n d k:Nat):sIx n d (some (k:Int)) = min k n:=by
 have h:¬ ((k:Int) < 0):=(fun z=>iN [_] [] 1 7211153 T1 z)
 simp only [sIx,if_neg h,Int.toNat_natCast]
theorem Zkg {α:Type} (w:List α) (k:Nat):cutD w (some (k:Int)) none = w.drop k:=by
 unfold cutD
 rw [ZjR,Zil]
 by_cases h:k ≤ w.length
 ·rw [Nat.min_eq_left h,List.take_of_length_le (by simp)]
 ·rw [Nat.min_eq_right (by exact lB 1 1052737 T1 h),List.drop_eq_nil_of_le (Nat.le_refl _),List.drop_eq_nil_of_le (by exact lB 1 1052737 T1 h)]; simp
theorem ZpA {α:Type} (w:List α) (k:Nat):cutD w none (some (k:Int)) = w.take k:=by
 unfold cutD
 rw [ZjR,Zil]
 by_cases h:k ≤ w.length
 ·rw [Nat.min_eq_left h]; simp
 ·rw [Nat.min_eq_right (by exact lB 1 1052737 T1 h),Nat.sub_zero,List.drop_zero,List.take_of_length_le (Nat.le_refl _),List.take_of_length_le (by exact lB 1 1052737 T1 h)]
theorem ZiN {i j:Int} (h:-(2 ^ 64) < i ∧ i < 2 ^ 64):Zia i j = true:=by
 unfold Zia; rw [Bool.or_eq_true]; left; simp only [Bool.and_eq_true,decide_eq_true_eq]; exact h
theorem mul_r {i j:Int} (h:-(2 ^ 64) < j ∧ j < 2 ^ 64):Zia i j = true:=by
 unfold Zia; rw [Bool.or_eq_true]; right; simp only [Bool.and_eq_true,decide_eq_true_eq]; exact h
theorem ZcN (x:Int) (m:Nat) (h:0 < m):∃ a:Nat,x % (m:Int) = a ∧ a < m:=by
 have h1:=Int.emod_nonneg x (b:=(m:Int)) (by exact fun z=>iN [_] [] 2 416093702305 T1 z h)
 have h2:=Int.emod_lt_of_pos x (b:=(m:Int)) (by exact iN [_] [] 1 149491217 T1 h)
 exact ⟨(x % (m:Int)).toNat,(Int.toNat_of_nonneg h1).symm,by exact iN [_,_] [_] 2 18698308976785 T1 h2 (Int.toNat_of_nonneg h1)⟩
theorem Zgo {M M':Store} {d:D} (h:M'.length = M.length):Zff M d M' = .ok d M':=by
 unfold Zff
 rw [List.take_of_length_le (Nat.le_of_eq h)]
 split <;> rfl
theorem ZbV {i j:Int} {M:Store} (h:0 < j ∧ j < 1073741824):Za6 (.int i) (.int j) M = .ok (.int (i / j)) M:=by simp only [ZiP,if_pos h]
theorem Zbg {g:EL3} {env:Zam} {M M':Store} {ds:List D} (h:g env M = .ok ds M') (hl:decide (ds.length ≤ 100) = true):ZaE g env M = .ok (.ref M'.length) (M' ++ [.lst ds]):=by
 have z:ds.length ≤ SZ:=Nat.le_trans (of_decide_eq_true hl) (by decide)
 simp only [ZaE,h,R3.bind,if_pos z,alloc]
theorem Zdg {env:Zam} {M M':Store} {n:Nat} {xs:List D} {d:D} {o t:E3} (ho:o env M = .ok (.ref n) M) (hM:M[n]? = some (.lst xs)) (ht:t env M = .ok d M') (hM':M'[n]? = some (.lst xs)) (hl:xs.length < SZ):
  Zak (ZaN tyL Zan o (Za t (Ze))) env M = .nx env (M'.set n (.lst (xs ++ [d]))):=by
 have e:ZaN tyL Zan o (Za t (Ze)) env M = .ok .non (M'.set n (.lst (xs ++ [d]))):=by
  simp only [ZaN,ho,R3.bind,Zhc,hM,Za,ht,Ze,Zf5,hM',if_pos hl,if_true]
 rw [Zak,e]
theorem ZvQ {op:D → D → D → Store → R3 D} {f g h:E3} {env:Zam} {M M1 M2 M3 M4:Store} {a b c d:D} (h1:f env M = .ok a M1) (h2:g env M1 = .ok b M2) (h3:h env M2 = .ok c M3) (h4:op a b c M3 = .ok d M4):e3 op f g h env M = .ok d M4:=by simp only [e3,h1,h2,h3,h4,R3.bind]
noncomputable def dr (ns:List Int) (k:Nat):Int:=
 ((((if 0 < ns.length then ns.getD (k % ns.length) 0 % 2147483629 else 0) + 3 + 86243 * ((k / max 1 ns.length:Nat):Int)) * 69621 % 2147483629) * (((if 0 < ns.length then ns.getD (k % ns.length) 0 % 2147483629 else 0) + 3 + 86243 * ((k / max 1 ns.length:Nat):Int)) * 69621 % 2147483629)) % 2147483587
theorem ZuH (ns:List Int) (k:Nat):0 ≤ dr ns k:=Int.emod_nonneg _ (by decide)
noncomputable abbrev SC (ns:List Int):D:=.scr (ns.map D.int)
theorem Zjq {i j:Int} (h:-(2 ^ 64) < j ∧ j < 2 ^ 64) (M:Store):ZbD (.int i) (.int j) M = .ok (.int (i * j)) M:=by rw [Zef,if_pos (mul_r h)]
theorem ZpQ {ns:List Int} (hl:ns.length ≤ 63) (k:Nat) (M:Store):Zaj [SC ns,.int k] M = .ok (.int (dr ns k)) M:=by
 refine (ZcX (M':=M) (d:=.int (dr ns k)) (env:=[some (SC ns),some (.int k),none,none]) ?_).trans (ZgZ rfl)
 have hlen:∀ a b c:Option D,Zaq ZaF (Za (Zc 0) Ze) [some (SC ns),a,b,c] M = .ok (.int (ns.length:Int)) M:=fun a b c=>by
  refine ZaS rfl ?_
  rw [ZhJ,List.length_map]
 have hmax:∀ a b c:Option D,Zaq ZiJ (Za (eC (.int 1)) (Za (Zaq ZaF (Za (Zc 0) Ze)) Ze)) [some (SC ns),a,b,c] M = .ok (.int ((max 1 ns.length:Nat):Int)) M:=fun a b c=>by
  simp only [Zaq,Za,eC,R3.bind,Ze]
  have:=hlen a b c
  simp only [Zaq,Za,R3.bind,Ze] at this
  rw [this]
  simp only [Zor]
  congr 2
  split <;> omega
 have fin:∀ z:Int,(Zy (Zaf 3 (e2 Zaw (e2 ZbD (e2 Zm (e2 Zm (Zc 2) (eC (.int 3))) (e2 ZbD (eC (.int 86243)) (e2 Za6 (Zc 1) (Zaq ZiJ (Za (eC (.int 1)) (Za (Zaq ZaF (Za (Zc 0) (Ze))) (Ze))))))) (eC (.int 69621))) (eC (.int 2147483629)))) (Zbu (e2 Zaw (e2 ZbD (Zc 3) (Zc 3)) (eC (.int 2147483587))))) [some (SC ns),some (.int k),some (.int z),none] M = .rt (.int ((((z + 3 + 86243 * ((k / max 1 ns.length:Nat):Int)) * 69621 % 2147483629) * ((z + 3 + 86243 * ((k / max 1 ns.length:Nat):Int)) * 69621 % 2147483629)) % 2147483587)) M:=fun z=>by
  have hz:0 < max 1 ns.length:=by omega
  rw [Zn (Zx (d:=.int ((z + 3 + 86243 * ((k / max 1 ns.length:Nat):Int)) * 69621 % 2147483629)) (Zg (Zg (Zg (Zg rfl rfl rfl) (Zg rfl (Zg rfl (hmax _ _ _) (ZbV (by omega))) (by rw [Zef,if_pos (ZiN (by decide))])) rfl) rfl (Zjq (by decide) M)) rfl (ZaV (by decide))))]
  have b1:=Int.emod_nonneg ((z + 3 + 86243 * (((k / max 1 ns.length:Nat)):Int)) * 69621) (b:=2147483629) (by decide)
  have b2:=Int.emod_lt_of_pos ((z + 3 + 86243 * (((k / max 1 ns.length:Nat)):Int)) * 69621) (b:=2147483629) (by decide)
  refine ZbP (Zg (Zg rfl rfl (Zjq (by omega) M)) rfl (ZaV (by decide)))
 unfold Zfr
 rw [Zn (Zx (d:=.int 0) rfl)]
 by_cases h0:0 < ns.length
 ·have e:((k:Int) % (ns.length:Int)) = ((k % ns.length:Nat):Int):=by omega
  have hk:k % ns.length < ns.length:=Nat.mod_lt _ h0
  rw [Zn ((ZbO (Zg (hlen _ _ _) rfl (by rw [ZdX,decide_eq_true (by omega)]))).trans (Zx (d:=.int (ns.getD (k % ns.length) 0 % 2147483629)) (Zg (Zg rfl (Zg rfl (hlen _ _ _) (ZaV (by omega))) (by
   rw [e,Zig,ZaU,List.getElem?_map,List.getElem?_eq_getElem hk,List.getD_eq_getElem?_getD,List.getElem?_eq_getElem hk]; rfl)) rfl (ZaV (by decide))))),dr,if_pos h0]
  exact fin _
 ·rw [Zn (ZaO (Zg (hlen _ _ _) rfl (by rw [ZdX,decide_eq_false (by omega)]))),dr,if_neg h0]
  exact fin 0
noncomputable def Zao (x:List Nat):Bool:=decide (x = [97,100,100] ∨ x = [115,117,98] ∨ x = [109,111,114,101] ∨ x = [99,101,108,108])
theorem Zon {a b p c:Nat} (h:List.replicate a p ++ [c] ++ List.replicate b p ≠ [97,100,100]):Zao (List.replicate a p ++ [c] ++ List.replicate b p) = false:=by
 refine decide_eq_false fun z=>?_
 rcases z with z | z | z | z
 ·exact h z
 all_goals
  have hl:=congrArg List.length z
  simp only [List.length_append,List.length_replicate,List.length_cons,List.length_nil] at hl
  match a,b,hl with
  | 0,b,hl=>
   first
    | (obtain rfl:b = 2:=by omega); simp [List.replicate] at z; omega
    | (obtain rfl:b = 3:=by omega); simp [List.replicate] at z; omega
  | 1,b,hl=>
   first
    | (obtain rfl:b = 1:=by omega); simp [List.replicate] at z; omega
    | (obtain rfl:b = 2:=by omega); simp [List.replicate] at z; omega
  | 2,b,hl=>
   first
    | (obtain rfl:b = 0:=by omega); simp [List.replicate] at z; omega
    | (obtain rfl:b = 1:=by omega); simp [List.replicate] at z; omega
  | 3,b,hl=>
   first
    | (obtain rfl:b = 0:=by omega); simp [List.replicate] at z; omega
    | omega
  | a + 4,b,hl=>omega
theorem ZeF {ns:List Int} (hl:ns.length ≤ 63) {k:Nat} {f g:E3} {env:Zam} {M:Store} (h0:f env M = .ok (SC ns) M) (h1:g env M = .ok (.int (k:Int)) M):Zt Zaj (Za f (Za g Ze)) env M = .ok (.int (dr ns k)) M:=Zej h0 h1 (ZpQ hl k M)
noncomputable abbrev LTS:List Nat:=[97,98,99,100,101,102,103,104,105,106,107,108,109,110,111,112,113,114,115,116,117,118,119,120,121,122]
theorem Zpy (x:Int):∃ c:Nat,LTS[(x % 26).toNat]? = some c ∧ ∀ M,Zk (.str LTS) (.int (x % 26)) M = .ok (.str [c]) M:=by
 obtain ⟨a,e,ha⟩:=ZcN x 26 (by decide)
 have hg:LTS[a]? = some (LTS[a]'ha):=List.getElem?_eq_getElem ha
 have e':x % 26 = (a:Int):=e
 refine ⟨LTS[a]'ha,by rw [e',Int.toNat_natCast]; exact hg,fun M=>?_⟩
 rw [e',ZhR,ZaU,hg]
 exact if_pos (show LTS.length ≤ SZ by decide)
theorem ZpB (k c:Nat):(List.replicate k [c]).flatten = List.replicate k c:=by
 induction k with
 | zero=>rfl
 | succ k ih=>rw [List.replicate_succ,List.flatten_cons,ih]; rfl
theorem mul_str {c:Nat} {k:Nat} (hk:k < 100) (M:Store):ZbD (.str [c]) (.int (k:Int)) M = .ok (.str (List.replicate k c)) M:=by
 have h:[c].length * ((k:Int)).toNat ≤ SZ ∧ (k:Int) < 1000000 ∧ -1000000 < (k:Int):=by
  refine ⟨?_,by omega,by omega⟩
  rw [List.length_singleton,Nat.one_mul,Int.toNat_natCast]
  exact Nat.le_trans (Nat.le_of_lt hk) (by decide)
 rw [Zpt,if_pos h,Int.toNat_natCast,ZpB]
theorem add_str {x y:List Nat} (h:x.length + y.length < 100) (M:Store):Zm (.str x) (.str y) M = .ok (.str (x ++ y)) M:=by
 rw [Zol,if_pos (Nat.le_trans (Nat.le_of_lt h) (by decide))]
def Znh (w:List Nat):Prop:=(∃ a b p c,w = List.replicate a p ++ [c] ++ List.replicate b p) ∧ w ≠ [97,100,100] ∧ w.length ≤ 8
theorem Znh.op {w:List Nat} (h:Znh w):Zao w = false:=by
 obtain ⟨⟨a,b,p,c,rfl⟩,h,_⟩:=h
 exact Zon h
theorem Zdl {a b:List Nat} {M:Store} (h:a = b):Za7 (.str a) (.str b) M = .ok (.bl true) M:=by simp only [Za7,Zj4,decide_eq_true h]
theorem ZaR {a b:List Nat} {M:Store} (h:¬ a = b):Za7 (.str a) (.str b) M = .ok (.bl false) M:=by simp only [Za7,Zj4,decide_eq_false h]
theorem Zn4 {a b p c:Nat} (e:List.replicate a p ++ [c] ++ List.replicate b p = [97,100,100]):a = 0:=by
 match a,b,e with
 | 0,_,_=>rfl
 | 1,0,e=>simp at e
 | 1,1,e=>simp at e; omega
 | 1,k + 2,e=>simp [List.replicate_succ] at e
 | 2,k,e=>simp [List.replicate_succ] at e; omega
 | a + 3,b,e=>have:=congrArg List.length e; simp at this; omega
theorem ZhH {ns:List Int} (hl:ns.length ≤ 63) (i:Nat):∃ w,Znh w ∧ w[(dr ns 1 % 8).toNat]? = LTS[(((i:Int) + dr ns 3) % 26).toNat]? ∧ ∀ M,Za1 [SC ns,.int (i:Int)] M = .ok (.str w) M:=by
 obtain ⟨p,hp0,hp⟩:=Zpy (dr ns 0)
 obtain ⟨c,hc0,hc⟩:=Zpy ((i:Int) + dr ns 3)
 obtain ⟨pl,ep,hpl⟩:=ZcN (dr ns 1) 8 (by decide)
 have ep:dr ns 1 % 8 = (pl:Int):=ep
 have e8:(8:Int) - (pl:Int) = ((8 - pl:Nat):Int):=by omega
 obtain ⟨t1,et1,ht1⟩:=ZcN (dr ns 2) (8 - pl) (by omega)
 obtain ⟨t2,et2,ht2⟩:=ZcN (dr ns (4 + i)) (8 - pl) (by omega)
 let b:Bool:=decide (dr ns 1 / 8 % 2 = 1)
 have hb:decide (dr ns 1 / 8 % 2 = 1) = b:=rfl
 let t:Nat:=if b then t2 else t1
 have ht:t < 8 - pl:=by show (if b then t2 else t1) < _; split <;> assumption
 let w0:List Nat:=List.replicate pl p ++ [c] ++ List.replicate t p
 have hw0:w0.length ≤ 8:=by simp only [w0,List.length_append,List.length_replicate,List.length_cons,List.length_nil]; omega
 have main:∀ M,Za1 [SC ns,.int (i:Int)] M = .ok (.str (if w0 = [97,100,100] then [97,100,100,100] else w0)) M:=fun M=>by
  refine (ZcX (M':=M) (d:=.str (if w0 = [97,100,100] then [97,100,100,100] else w0)) (env:=[some (SC ns),some (.int i),none,none,none,none,none]) ?_).trans (ZgZ rfl)
  unfold Zfn
  rw [Zn (Zx (d:=.str LTS) rfl),Zn (Zx (d:=.str [p]) (Zg rfl (Zg (ZeF hl (k:=0) rfl rfl) rfl (ZaV (by decide))) (hp M))),
   Zn (Zx (d:=.int (pl:Int)) (Zg (ZeF hl (k:=1) rfl rfl) rfl ((ZaV (by decide)).trans (by rw [ep])))),
   Zn (Zx (d:=.int (t1:Int)) (Zg (ZeF hl (k:=2) rfl rfl) (Zg rfl rfl (by rw [ZhZ,e8])) ((ZaV (by omega)).trans (by rw [et1]))))]
  have hc1:∀ x:Option D,e2 Za7 (e2 Zaw (e2 Za6 (Zt Zaj (Za (Zc 0) (Za (eC (.int 1)) (Ze)))) (eC (.int 8))) (eC (.int 2))) (eC (.int 1)) [some (SC ns),some (.int (i:Int)),some (.str LTS),some (.str [p]),some (.int (pl:Int)),some (.int (t1:Int)),x] M = .ok (.bl b) M:=fun x=>
   Zg (Zg (Zg (ZeF hl (k:=1) rfl rfl) rfl (ZbV (by decide))) rfl (ZaV (by decide))) rfl rfl
  have step:sIf (e2 Za7 (e2 Zaw (e2 Za6 (Zt Zaj (Za (Zc 0) (Za (eC (.int 1)) (Ze)))) (eC (.int 8))) (eC (.int 2))) (eC (.int 1))) (Zaf 5 (e2 Zaw (Zt Zaj (Za (Zc 0) (Za (e2 Zm (eC (.int 4)) (Zc 1)) (Ze)))) (e2 ZeU (eC (.int 8)) (Zc 4)))) (Zba) [some (SC ns),some (.int (i:Int)),some (.str LTS),some (.str [p]),some (.int (pl:Int)),some (.int (t1:Int)),none] M = .nx [some (SC ns),some (.int (i:Int)),some (.str LTS),some (.str [p]),some (.int (pl:Int)),some (.int (t:Int)),none] M:=by
   cases hbb:b with
   | false=>
    have h1:=hc1 none
    rw [hbb] at h1
    have et:t = t1:=by show (if b then t2 else t1) = t1; rw [hbb]; rfl
    rw [ZaZ h1,et]; rfl
   | true=>
    have h1:=hc1 none
    rw [hbb] at h1
    have et:t = t2:=by show (if b then t2 else t1) = t2; rw [hbb]; rfl
    rw [ZbO h1,et]
    exact Zx (Zg (ZeF hl (k:=4 + i) rfl (Zg rfl rfl rfl)) (Zg rfl rfl (by rw [ZhZ,e8])) ((ZaV (by omega)).trans (by rw [et2])))
  rw [Zn step,Zn (Zx (d:=.str w0) (Zg (Zg (Zg rfl rfl (mul_str (by omega) M)) (Zg rfl (Zg (Zg rfl (ZeF hl (k:=3) rfl rfl) rfl) rfl (ZaV (by decide))) (hc M)) (add_str (by simp only [List.length_replicate,List.length_singleton]; omega) M)) (Zg rfl rfl (mul_str (by omega) M)) (add_str (by simp only [List.length_append,List.length_replicate,List.length_singleton]; omega) M)))]
  by_cases e:w0 = [97,100,100]
  ·rw [if_pos e]
   exact Zl2 ((ZbO (Zg rfl rfl (Zdl e))).trans rfl)
  ·rw [if_neg e,Zn (ZaO (Zg rfl rfl (ZaR e)))]
   rfl
 have hat:w0[pl]? = some c:=by simp [w0]
 refine ⟨_,?_,?_,main⟩
 ·by_cases e:w0 = [97,100,100]
  ·rw [if_pos e]; exact ⟨⟨0,3,100,97,rfl⟩,by decide,by decide⟩
  ·rw [if_neg e]; exact ⟨⟨pl,t,p,c,rfl⟩,e,hw0⟩
 ·rw [ep,Int.toNat_natCast,hc0]
  by_cases e:w0 = [97,100,100]
  ·rw [if_pos e]
   have h0:pl = 0:=Zn4 e
   rw [e] at hat
   rw [h0] at hat ⊢
   exact hat
  ·rw [if_neg e]; exact hat
theorem ZnE {d:Int} (hd:0 ≤ d):∃ z:Int,∀ M,ZcJ [.int d] M = .ok (.int z) M:=by
 obtain ⟨a,ea,ha⟩:=ZcN d 4 (by decide)
 obtain ⟨b,eb,hb⟩:=ZcN (d / 4) 2 (by decide)
 have ea:d % 4 = (a:Int):=ea
 have eb:d / 4 % 2 = (b:Int):=eb
 let some4:List Int:=[d / 8 % 5,d / 8 % 1000,d / 8 * 4099 % 10 ^ 12,0]
 have h4:∃ y:Int,(some4.map D.int)[a]? = some (.int y):=⟨some4[a]'ha,by rw [List.getElem?_map,List.getElem?_eq_getElem (show a < some4.length from ha)]; rfl⟩
 obtain ⟨y,hy⟩:=h4
 have h2:∃ z:Int,([D.int y,.int (-y)])[b]? = some (.int z):=by
  match b,hb with
  | 0,_=>exact ⟨_,rfl⟩
  | 1,_=>exact ⟨_,rfl⟩
 obtain ⟨z,hz⟩:=h2
 refine ⟨z,fun M=>?_⟩
 refine (ZcX (M':=M ++ [.lst (some4.map D.int),.lst [.int y,.int (-y)]]) (d:=.int z) (env:=[some (.int d),none]) ?_).trans (Zed rfl)
 unfold Zey
 rw [Zn (Zx (d:=.ref M.length) (M':=M ++ [.lst (some4.map D.int)]) (Zbg (Zh (Zg (Zg rfl rfl (ZbV (by decide))) rfl (ZaV (by decide))) (Zh (Zg (Zg rfl rfl (ZbV (by decide))) rfl (ZaV (by decide))) (Zh (Zg (Zg (Zg rfl rfl (ZbV (by decide))) rfl (Zjq (by decide) M)) (Zg rfl rfl rfl) (ZaV (by decide))) (Zh rfl rfl)))) rfl))]
 have ix:∀ x:Option D,e2 Zk (Zc 1) (e2 Zaw (Zc 0) (eC (.int 4))) [some (.int d),some (.ref M.length)] (M ++ [.lst (some4.map D.int)]) = .ok (.int y) (M ++ [.lst (some4.map D.int)]):=fun _=>
  Zg rfl (Zg rfl rfl (ZaV (by decide))) (Zbe (Zax M _ []) (by rw [ea,ZaU]; exact hy))
 refine ZbP (Zg (Zbg (ds:=[.int y,.int (-y)]) (Zh (ix none) (Zh (ZbG (ix none) rfl) rfl)) rfl) (Zg (Zg rfl rfl (ZbV (by decide))) rfl (ZaV (by decide))) ?_)
 rw [List.append_assoc]
 refine Zbe (xs:=[.int y,.int (-y)]) ?_ (by rw [eb,ZaU]; exact hz)
 rw [List.length_append]
 exact ZdU M [.lst (some4.map D.int),.lst [.int y,.int (-y)]] 1
inductive Sm where
 | num (i:Int) | nam (x:List Nat) | cel (a:Sm) | two (o:Nat) (a b:Sm)
noncomputable abbrev CEL:List Nat:=[99,101,108,108]
noncomputable def opW:Nat → List Nat
 | 0=>[97,100,100]
 | 1=>[115,117,98]
 | _=>[109,111,114,101]
noncomputable def Sm.flat:Sm → List D
 | .num i=>[.int i]
 | .nam x=>[.str x]
 | .cel a=>.str CEL :: a.flat
 | .two o a b=>.str (opW o) :: (a.flat ++ b.flat)
noncomputable def Sm.good:Sm → Prop
 | .num _=>True
 | .nam x=>Zao x = false
 | .cel a=>a.good
 | .two _ a b=>a.good ∧ b.good
noncomputable def Sm.all (Q:List Nat → Prop):Sm → Prop
 | .num _=>True
 | .nam x=>Q x
 | .cel a=>a.all Q
 | .two _ a b=>a.all Q ∧ b.all Q
theorem Sm.all_mono {Q R:List Nat → Prop} (h:∀ x,Q x → R x):∀ t:Sm,t.all Q → t.all R
 | .num _,_=>trivial
 | .nam x,q=>h x q
 | .cel a,q=>a.all_mono h q
 | .two _ a b,q=>⟨a.all_mono h q.1,b.all_mono h q.2⟩
theorem Sm.all_good:∀ t:Sm,t.all (fun x=>Zao x = false) → t.good
 | .num _,_=>trivial
 | .nam _,q=>q
 | .cel a,q=>a.all_good q
 | .two _ a b,q=>⟨a.all_good q.1,b.all_good q.2⟩
noncomputable def Sm.parts:Sm → List Sm
 | .num _=>[]
 | .nam _=>[]
 | .cel a=>[a]
 | .two _ a b=>[a,b]
noncomputable def Sm.head:Sm → D
 | .num i=>.int i
 | .nam x=>.str x
 | .cel _=>.str CEL
 | .two o _ _=>.str (opW o)
theorem Sm.flat_eq (t:Sm):t.flat = t.head :: (t.parts.map Sm.flat).flatten:=by
 cases t <;> simp [Sm.flat,Sm.head,Sm.parts]
noncomputable def ar:D → Nat
 | .str x=>if x = CEL then 1 else if Zao x = true then 2 else 0
 | _=>0
inductive IsW:D → Prop
 | int (i:Int):IsW (.int i)
 | str (x:List Nat):IsW (.str x)
theorem Zb9:∀ (t:Sm),∀ d ∈ t.flat,IsW d
 | .num i,d,h=>by rw [List.mem_singleton.mp h]; exact .int i
 | .nam x,d,h=>by rw [List.mem_singleton.mp h]; exact .str x
 | .cel a,d,h=>by
  rcases List.mem_cons.mp h with h | h
  ·rw [h]; exact .str _
  ·exact Zb9 a d h
 | .two o a b,d,h=>by
  rcases List.mem_cons.mp h with h | h
  ·rw [h]; exact .str _
  ·rcases List.mem_append.mp h with h | h
   ·exact Zb9 a d h
   ·exact Zb9 b d h
theorem Zry (x:List Nat):Zev x ZcE = if x = [97,100,100] then some 2 else if x = [115,117,98] then some 2 else if x = [109,111,114,101] then some 2 else if x = CEL then some 1 else none:=rfl
theorem ZrQ {w:D} (h:IsW w) (M:Store):ZfJ ZcE w (.int 0) M = .ok (.int (ar w:Nat)) M:=by
 cases h with
 | int i=>rfl
 | str x=>
  show (match Zev x ZcE with | some i=>R3.ok (D.int i) M | none=>R3.ok (D.int 0) M) = _
  rw [Zry]
  by_cases h1:x = [97,100,100]
  ·subst h1; rfl
  by_cases h2:x = [115,117,98]
  ·subst h2; rfl
  by_cases h3:x = [109,111,114,101]
  ·subst h3; rfl
  by_cases h4:x = CEL
  ·subst h4; rfl
  have:Zao x = false:=decide_eq_false fun z=>z.elim h1 fun z=>z.elim h2 fun z=>z.elim h3 h4
  simp only [if_neg h1,if_neg h2,if_neg h3,if_neg h4,ar,this]
  rfl
noncomputable def stp (s:List (List D) × Nat) (w:D):List (List D) × Nat:=
 let s:=if s.2 = 0 then (s.1 ++ [[]],1) else s
 (s.1.dropLast ++ [s.1.getLastD [] ++ [w]],s.2 - 1 + ar w)
theorem ZgX (ds:List (List D)) (cur:List D) (l:Nat) (w:D):stp (ds ++ [cur],l + 1) w = (ds ++ [cur ++ [w]],l + ar w):=by
 simp [stp]
theorem Zl9 (ds:List (List D)) (w:D):stp (ds,0) w = stp (ds ++ [[]],0 + 1) w:=by
 simp [stp]
theorem Zgt:∀ (t:Sm),t.good → ∀ (ds:List (List D)) (cur:List D) (l:Nat) (r:List D),(t.flat ++ r).foldl stp (ds ++ [cur],l + 1) = r.foldl stp (ds ++ [cur ++ t.flat],l)
 | .num i,_,ds,cur,l,r=>by simp only [Sm.flat,List.cons_append,List.nil_append,List.foldl_cons,ZgX]; rfl
 | .nam x,h,ds,cur,l,r=>by
  have e:ar (.str x) = 0:=by
   have h:Zao x = false:=h
   have h':x ≠ CEL:=fun z=>by subst z; exact absurd h (by decide)
   simp only [ar,if_neg h',h]; rfl
  simp only [Sm.flat,List.cons_append,List.nil_append,List.foldl_cons,ZgX,e,Nat.add_zero]
 | .cel a,h,ds,cur,l,r=>by
  have e:ar (.str CEL) = 1:=rfl
  simp only [Sm.flat,List.cons_append,List.foldl_cons,ZgX,e,Zgt a h,List.append_assoc,List.nil_append]
 | .two o a b,h,ds,cur,l,r=>by
  have e:ar (.str (opW o)) = 2:=by
   match o with
   | 0=>rfl
   | 1=>rfl
   | _ + 2=>rfl
  have e2:l + 2 = l + 1 + 1:=rfl
  simp only [Sm.flat,List.cons_append,List.foldl_cons,ZgX,e,List.append_assoc,e2,Zgt a h.1,Zgt b h.2,List.nil_append]
theorem ZjG (t:Sm):∃ w r,t.flat = w :: r:=⟨_,_,t.flat_eq⟩
theorem Zqg (t:Sm) (h:t.good) (ds:List (List D)) (r:List D):(t.flat ++ r).foldl stp (ds,0) = r.foldl stp (ds ++ [t.flat],0):=by
 obtain ⟨w,q,e⟩:=ZjG t
 have h1:=Zgt t h ds [] 0 r
 rw [List.nil_append] at h1
 rw [← h1,e,List.cons_append,List.foldl_cons,List.foldl_cons,Zl9]
theorem Zl7:∀ (ts:List Sm),(∀ t ∈ ts,t.good) → ∀ ds,(ts.map Sm.flat).flatten.foldl stp (ds,0) = (ds ++ ts.map Sm.flat,0)
 | [],_,ds=>by simp
 | t :: ts,h,ds=>by
  rw [List.map_cons,List.flatten_cons,Zqg t (h t List.mem_cons_self),Zl7 ts fun t ht=>h t (List.mem_cons_of_mem _ ht)]
  simp
noncomputable def Zei (n j:Nat):List D:=(List.range j).map fun k=>D.ref (n + 1 + k)
noncomputable def SSt (M:Store) (done:List (List D)):Store:=M ++ .lst (Zei M.length done.length) :: done.map MO.lst
theorem ZmV (M:Store) (done:List (List D)):(SSt M done).length = M.length + 1 + done.length:=by
 simp only [SSt,List.length_append,List.length_cons,List.length_map]; omega
theorem Zh2 (M:Store) (done:List (List D)):(SSt M done)[M.length]? = some (.lst (Zei M.length done.length)):=Zax _ _ _
theorem Zow (M:Store) (done:List (List D)) (k:Nat):(SSt M done)[M.length + 1 + k]? = (done[k]?).map MO.lst:=by
 rw [SSt,Nat.add_assoc,ZdU,Nat.add_comm 1 k,List.getElem?_cons_succ,List.getElem?_map]
theorem Zin (n j:Nat):Zei n (j + 1) = Zei n j ++ [D.ref (n + 1 + j)]:=by simp [Zei,List.range_succ]
theorem ZpS (M:Store) (done:List (List D)):(SSt M done ++ [MO.lst []]).set M.length (MO.lst (Zei M.length done.length ++ [D.ref (SSt M done).length])) = SSt M (done ++ [[]]):=by
 have h:=ZhK M (MO.lst (Zei M.length done.length) :: done.map MO.lst ++ [MO.lst []]) 0 (MO.lst (Zei M.length done.length ++ [D.ref (SSt M done).length]))
 rw [Nat.add_zero] at h
 rw [ZmV] at h ⊢
 rw [SSt,List.append_assoc,h,SSt,List.length_append,List.length_singleton,Zin]
 simp
theorem Zqr (M:Store) (ds:List (List D)) (cur:List D) (w:D):(SSt M (ds ++ [cur])).set (M.length + 1 + ds.length) (MO.lst (cur ++ [w])) = SSt M (ds ++ [cur ++ [w]]):=by
 rw [SSt,Nat.add_assoc,ZhK,SSt]
 simp [Nat.add_comm 1]
theorem Zjd {α:Type} {enc h:α → D} {it:It3} {g:G3} {n:Nat} {elt:E3} {I:Zam → Prop} {M:Store}:∀ (as:List α) (acc:List D) (env:Zam),I env →
  (∀ a ∈ as,∀ env,I env → ∃ env1,g (enc a) env = some env1 ∧ I env1 ∧ ∀ x,elt env1 (M.set n (.lst x)) = .ok (h a) (M.set n (.lst x))) → (∀ x,locked it (M.set n (.lst x)) = true) → n < M.length → acc.length + as.length ≤ SZ →
  Zdd it g [] elt n (as.map enc) env (M.set n (.lst acc)) = .ok (.ref n) (M.set n (.lst (acc ++ as.map h)))
 | [],acc,env,_,_,hl,_,_=>by
  simp only [List.map_nil,ZqJ,hl,if_true,List.append_nil]
 | a :: as,acc,env,hI,hf,hl,hn,hz=>by
  obtain ⟨env1,hg,hI1,he⟩:=hf a List.mem_cons_self env hI
  have gt:(M.set n (.lst acc))[n]? = some (.lst acc):=by simp [hn]
  have lt:acc.length < SZ:=by simp only [List.length_cons] at hz; exact lC 1 2204024704001 T1 hz
  have ih:=Zjd as (acc ++ [h a]) env1 hI1 (fun b hb=>hf b (List.mem_cons_of_mem _ hb)) hl hn (by simp only [List.length_append,List.length_cons,List.length_nil] at hz ⊢; exact lC 1 0x21aec0cc02a1c0c01 T1 hz)
  simp only [List.map_cons,ZqP,hl,if_true,hg,Zjh,Znx,R3.bind,he,gt,lt,List.set_set]
  rw [ih]
  simp
theorem Zpj {α:Type} {enc h:α → D} {own:Nat} {i:I3} {g:G3} {elt:E3} {env:Zam} {M M1:Store} {lock:Option Nat} {as:List α} (I:Zam → Prop) (hi:i env M = .ok ⟨as.map enc,lock⟩ M1) (hlock:∀ n,lock = some n → M1[n]? = some (.lst (as.map enc)))
  (hI:I (env ++ List.replicate own none)) (hf:∀ a ∈ as,∀ env,I env → ∃ env1,g (enc a) env = some env1 ∧ I env1 ∧ ∀ x,elt env1 (M1 ++ [.lst x]) = .ok (h a) (M1 ++ [.lst x])) (hz:as.length ≤ 100000):
  eLC i own g [] elt env M = .ok (.ref M1.length) (M1 ++ [.lst (as.map h)]):=by
 have st:∀ x:List D,(M1 ++ [MO.lst []]).set M1.length (.lst x) = M1 ++ [.lst x]:=fun x=>by simp
 rw [Zr1 hi]
 have:=Zjd (enc:=enc) (h:=h) (it:=⟨as.map enc,lock⟩) (g:=g) (n:=M1.length) (elt:=elt) (I:=I) (M:=M1 ++ [.lst []]) as [] (env ++ List.replicate own none) hI
  (fun a ha e he=>by
   obtain ⟨e1,h1,h2,h3⟩:=hf a ha e he
   exact ⟨e1,h1,h2,fun x=>by rw [st]; exact h3 x⟩)
  (fun x=>by
   rw [st]
   cases lock with
   | none=>rfl
   | some n=>
    simp only [locked,decide_eq_true_eq]
    exact ZaW (hlock n rfl) _) (by simp) (by simp; exact lA 1 0xf42405b00186a05b001 T1 hz)
 rw [st,st] at this
 simpa using this
theorem Zld {M:Store} {n:Nat} {x:List D} (h:M[n]? = some (.lst x)):ZcY [.ref n] M = .ok (.tup x) M:=by simp [h]
noncomputable abbrev Zsu:S3:=Zy (sIf (e2 Za7 (Zc 2) (eC (.int 0))) (Zy (Zak (ZaN tyL Zan (Zc 1) (Za (ZaE (Ze)) (Ze)))) (Zaf 2 (eC (.int 1)))) (Zba)) (Zy (Zak (ZaN tyL Zan (e2 Zk (Zc 1) (e1 ZcI (eC (.int 1)))) (Za (Zc 3) (Ze)))) (Zaf 2 (e2 Zm (e2 ZeU (Zc 2) (eC (.int 1))) (e2 (ZfJ ZcE) (Zc 3) (eC (.int 0))))))
theorem ZnI (n j:Nat):(Zei n j).length = j:=by simp [Zei]
theorem Ze0 {env:Zam} {M M' M2:Store} {n:Nat} {xs:List D} {d:D} {o t:E3} (ho:o env M = .ok (.ref n) M') (hM:M'[n]? = some (.lst xs)) (ht:t env M' = .ok d M2) (hM':M2[n]? = some (.lst xs)) (hl:xs.length < SZ):
  Zak (ZaN tyL Zan o (Za t (Ze))) env M = .nx env (M2.set n (.lst (xs ++ [d]))):=by
 have e:ZaN tyL Zan o (Za t (Ze)) env M = .ok .non (M2.set n (.lst (xs ++ [d]))):=by
  simp only [ZaN,ho,R3.bind,Zhc,hM,Za,ht,Ze,Zf5,hM',if_pos hl,if_true]
 rw [Zak,e]
theorem Zkf (M:Store) (ds:List (List D)) (cur:List D) (l:Nat) (w W:D) (hw:IsW w) (h1:ds.length < 1000) (h2:cur.length < 1000):
  (Zy (Zak (ZaN tyL Zan (e2 Zk (Zc 1) (e1 ZcI (eC (.int 1)))) (Za (Zc 3) (Ze)))) (Zaf 2 (e2 Zm (e2 ZeU (Zc 2) (eC (.int 1))) (e2 (ZfJ ZcE) (Zc 3) (eC (.int 0)))))) [some W,some (.ref M.length),some (.int ((l + 1:Nat):Int)),some w] (SSt M (ds ++ [cur]))
   = .nx [some W,some (.ref M.length),some (.int ((l + ar w:Nat):Int)),some w] (SSt M (ds ++ [cur ++ [w]])):=by
 have hr:Zei M.length (ds ++ [cur]).length = Zei M.length ds.length ++ [.ref (M.length + 1 + ds.length)]:=by rw [List.length_append,List.length_singleton,Zin]
 have hat:(SSt M (ds ++ [cur]))[M.length + 1 + ds.length]? = some (.lst cur):=by rw [Zow]; simp
 refine (Zn (Ze0 (M':=SSt M (ds ++ [cur])) (Zg rfl (ZbG rfl (ZgC 1)) (Zbe (Zh2 M _) (by rw [hr]; exact getD_last _ _))) hat rfl hat (Nat.lt_trans h2 (by decide)))).trans ?_
 rw [Zqr]
 refine Zx (Zg (Zg rfl rfl rfl) (Zg rfl rfl (ZrQ hw _)) ?_)
 rw [ZeQ]
 congr 2
 omega
theorem Znm (M:Store) (done:List (List D)) (l:Nat) (w W:D) (hw:IsW w) (h1:done.length < 900) (h2:∀ c ∈ done,c.length < 900) (hn:l ≠ 0 → done ≠ []):
  Zsu [some W,some (.ref M.length),some (.int (l:Int)),some w] (SSt M done) = .nx [some W,some (.ref M.length),some (.int ((stp (done,l) w).2:Nat)),some w] (SSt M (stp (done,l) w).1):=by
 cases l with
 | zero=>
  rw [Zl9,ZgX]
  have hz:(Zei M.length done.length).length < SZ:=by rw [ZnI]; exact Nat.lt_trans h1 (by decide)
  show Zy _ _ _ _ = _
  refine (Zn ((ZbO (Zg rfl rfl (Zh4 rfl))).trans ((Zn (Zdg rfl (Zh2 M done) (Zbg rfl rfl) (ZaW (Zh2 M done) _) hz)).trans (Zx (d:=.int 1) rfl)))).trans ?_
  rw [ZpS]
  exact Zkf M done [] 0 w W hw (by omega) (by simp)
 | succ l=>
  have hd:=hn (by omega)
  have e:done = done.dropLast ++ [done.getLast hd]:=(List.dropLast_concat_getLast hd).symm
  generalize done.dropLast = ds at e
  generalize done.getLast hd = cur at e
  subst e
  rw [ZgX]
  show Zy _ _ _ _ = _
  refine (Zn (ZaO (Zg rfl rfl (Zhz (by omega))))).trans ?_
  exact Zkf M ds cur l w W hw (by simp at h1; omega) (by have:=h2 cur (by simp); omega)
theorem Zms (s:List (List D) × Nat) (w:D):(stp s w).1.length ≤ s.1.length + 1 ∧ (stp s w).1 ≠ []:=by
 unfold stp
 by_cases h:s.2 = 0
 ·simp [h]
 ·simp [h]
theorem Zqj (s:List (List D) × Nat) (w:D) (k:Nat) (h:∀ c ∈ s.1,c.length ≤ k):∀ c ∈ (stp s w).1,c.length ≤ k + 1:=by
 have key:∀ x:List (List D),(∀ c ∈ x,c.length ≤ k) → ∀ c ∈ x.dropLast ++ [x.getLastD [] ++ [w]],c.length ≤ k + 1:=by
  intro x hx c hc
  rcases List.mem_append.mp hc with hc | hc
  ·exact Nat.le_succ_of_le (hx c (List.dropLast_subset _ hc))
  ·rw [List.mem_singleton.mp hc,List.length_append,List.length_singleton]
   refine Nat.succ_le_succ ?_
   cases x with
   | nil=>exact Nat.zero_le _
   | cons a x=>exact hx _ (by rw [List.getLastD_cons]; exact (show (x.getLastD a) ∈ a :: x by rw [List.getLastD_eq_getLast?]; cases hx':x.getLast? with | none=>simp | some y=>exact List.mem_cons_of_mem _ (List.mem_of_getLast? hx')))
 unfold stp
 by_cases hs:s.2 = 0
 ·simp only [hs,if_true]
  exact key _ fun c hc=>by
   rcases List.mem_append.mp hc with hc | hc
   ·exact h c hc
   ·rw [List.mem_singleton.mp hc]; exact Nat.zero_le _
 ·simp only [hs,if_false]
  exact key _ h
theorem Znk (M:Store) (W:D) (ws:List D) (hw:∀ w ∈ ws,IsW w) (hl:ws.length ≤ 500) (x0:Option D) (it:It3) (hi:it.lock = none):
  ∃ x,Zbl it (ZbC 3) Zsu ws [some W,some (.ref M.length),some (.int 0),x0] (SSt M []) = .nx [some W,some (.ref M.length),some (.int ((ws.foldl stp ([],0)).2:Nat)),x] (SSt M (ws.foldl stp ([],0)).1):=by
 have main:∀ (ws:List D) (done:List (List D)) (l k:Nat) (x0:Option D),(∀ w ∈ ws,IsW w) → k + ws.length ≤ 500 → done.length ≤ k → (∀ c ∈ done,c.length ≤ k) → (l ≠ 0 → done ≠ []) →
   ∃ x,Zbl it (ZbC 3) Zsu ws [some W,some (.ref M.length),some (.int (l:Int)),x0] (SSt M done) = .nx [some W,some (.ref M.length),some (.int ((ws.foldl stp (done,l)).2:Nat)),x] (SSt M (ws.foldl stp (done,l)).1):=by
  intro ws
  induction ws with
  | nil=>intro done l k x0 _ _ _ _ _; exact ⟨x0,by rw [ZcO,if_pos (by unfold locked; rw [hi])]; rfl⟩
  | cons w ws ih=>
   intro done l k x0 hw hk h1 h2 hn
   rw [List.length_cons] at hk
   obtain ⟨x,hx⟩:=ih (stp (done,l) w).1 (stp (done,l) w).2 (k + 1) (some w) (fun y hy=>hw y (List.mem_cons_of_mem _ hy)) (by omega) (by have:=(Zms (done,l) w).1; simp only at this; omega) (Zqj (done,l) w k h2) (fun _=>(Zms (done,l) w).2)
   refine ⟨x,?_⟩
   rw [ZcM,if_pos (by unfold locked; rw [hi])]
   have:=Znm M done l w W (hw w List.mem_cons_self) (by omega) (fun c hc=>by have:=h2 c hc; omega) hn
   simp only [ZbC,List.set_cons_succ,List.set_cons_zero,this]
   exact hx
 exact main ws [] 0 0 x0 hw (by omega) (Nat.zero_le _) (fun c hc=>by cases hc) (fun h=>absurd rfl h)
theorem ZlG (M:Store) (ts:List Sm) (hg:∀ t ∈ ts,t.good) (hl:(ts.map Sm.flat).flatten.length ≤ 500):∃ G k,ZfQ [.tup (ts.map Sm.flat).flatten] M = .ok (.ref (M.length + k)) (M ++ G) ∧ G[k]? = some (.lst (ts.map fun t=>.tup t.flat)):=by
 have hws:∀ w ∈ (ts.map Sm.flat).flatten,IsW w:=fun w hw=>by
  obtain ⟨l,h1,h2⟩:=List.mem_flatten.mp hw
  obtain ⟨t,_,rfl⟩:=List.mem_map.mp h1
  exact Zb9 t w h2
 obtain ⟨x,hx⟩:=Znk M (.tup (ts.map Sm.flat).flatten) _ hws hl none ⟨(ts.map Sm.flat).flatten,none⟩ rfl
 rw [Zl7 ts hg] at hx
 simp only [List.nil_append] at hx
 have hn:(ts.map Sm.flat).length ≤ 100000:=by
  have:∀ l:List Sm,(l.map Sm.flat).length ≤ (l.map Sm.flat).flatten.length:=by
   intro l
   induction l with
   | nil=>exact Nat.le_refl _
   | cons t l ih=>
    rw [List.map_cons,List.flatten_cons,List.length_append,List.length_cons]
    obtain ⟨w,r,e⟩:=ZjG t
    rw [e,List.length_cons]; omega
  have:=this ts
  omega
 let S:=SSt M (ts.map Sm.flat)
 have lc:eLC (ZfV (Zc 1)) 1 (ZbC 4) [] (Zaq ZcY (Za (Zc 4) (Ze))) [some (.tup (ts.map Sm.flat).flatten),some (.ref M.length),some (.int ((0:Nat):Int)),x] S = .ok (.ref S.length) (S ++ [.lst ((List.range (ts.map Sm.flat).length).map fun k=>D.tup ((ts.map Sm.flat).getD k []))]):=by
  refine Zpj (enc:=fun k=>D.ref (M.length + 1 + k)) (h:=fun k=>D.tup ((ts.map Sm.flat).getD k [])) (as:=List.range (ts.map Sm.flat).length) (M1:=S) (lock:=some M.length) (fun e=>∃ a b c d y,e = [a,b,c,d,y]) ?_ ?_ ⟨_,_,_,_,_,rfl⟩ ?_ (by rw [List.length_range]; exact hn)
  ·show (R3.ok (D.ref M.length) S).bind _ = _
   simp only [R3.bind]
   rw [show S[M.length]? = _ from Zh2 M _]
   rfl
  ·intro n hn'; cases hn'; exact Zh2 M _
  ·intro k hk env ⟨a,b,c,d,y,e⟩
   subst e
   have hk:=List.mem_range.mp hk
   refine ⟨_,rfl,⟨_,_,_,_,_,rfl⟩,fun z=>?_⟩
   refine ZaS rfl ?_
   refine (Zld (x:=(ts.map Sm.flat).getD k []) (ZaW ?_ _))
   rw [Zow,List.getElem?_eq_getElem hk,List.getD_eq_getElem?_getD,List.getElem?_eq_getElem hk]; rfl
 have hlist:((List.range (ts.map Sm.flat).length).map fun k=>D.tup ((ts.map Sm.flat).getD k [])) = ts.map fun t=>D.tup t.flat:=by
  apply List.ext_getElem?
  intro j
  rw [List.getElem?_map,List.getElem?_map]
  by_cases hj:j < ts.length
  ·rw [List.getElem?_range (by simpa using hj),List.getElem?_eq_getElem hj]
   simp [List.getD_eq_getElem?_getD,List.getElem?_map,List.getElem?_eq_getElem hj]
  ·rw [List.getElem?_eq_none (by simpa using hj),List.getElem?_eq_none (by simpa using hj)]; rfl
 rw [hlist] at lc
 have hS:S = M ++ (.lst (Zei M.length (ts.map Sm.flat).length) :: (ts.map Sm.flat).map MO.lst):=rfl
 refine ⟨(.lst (Zei M.length (ts.map Sm.flat).length) :: (ts.map Sm.flat).map MO.lst) ++ [.lst (ts.map fun t=>.tup t.flat)],1 + (ts.map Sm.flat).length,?_,?_⟩
 ·have hlen:S.length = M.length + (1 + (ts.map Sm.flat).length):=by rw [ZmV,Nat.add_assoc]
  refine (ZcX (M':=S ++ [.lst (ts.map fun t=>.tup t.flat)]) (d:=.ref S.length) (env:=[some (.tup (ts.map Sm.flat).flatten),none,none,none]) ?_).trans ?_
  ·unfold Zg7
   rw [Zn (Zx (d:=.ref M.length) (M':=SSt M []) (Zbg rfl rfl)),Zn (Zx (d:=.int 0) rfl),Zn ((Zdz (it:=⟨(ts.map Sm.flat).flatten,none⟩) rfl).trans hx)]
   exact ZbP ((Zq2 (Zg rfl rfl (Zh4 rfl))).trans lc)
  ·have hb:below M.length (.ref S.length) = false:=by show decide (S.length < M.length) = false; rw [hlen]; exact decide_eq_false (by omega)
   rw [Zff,hb,hlen,hS,List.append_assoc]; rfl
 ·simp [Nat.add_comm 1]
theorem Zoz (M:Store) (t:Sm) (hg:t.good) (hl:t.flat.length ≤ 500):∃ G k,Zfb [.tup t.flat] M = .ok (.ref (M.length + k)) (M ++ G) ∧ G[k]? = some (.lst (t.parts.map fun t=>.tup t.flat)):=by
 have hgp:∀ s ∈ t.parts,s.good:=by
  cases t with
  | num _=>intro s h; cases h
  | nam _=>intro s h; cases h
  | cel a=>intro s h; rw [List.mem_singleton.mp h]; exact hg
  | two o a b=>
   intro s h
   rcases List.mem_cons.mp h with h | h
   ·rw [h]; exact hg.1
   ·rw [List.mem_singleton.mp h]; exact hg.2
 have e:=t.flat_eq
 have hl':(t.parts.map Sm.flat).flatten.length ≤ 500:=by rw [e,List.length_cons] at hl; omega
 obtain ⟨G,k,h1,h2⟩:=ZlG M t.parts hgp hl'
 refine ⟨G,k,?_,h2⟩
 refine (ZcX (M':=M ++ G) (d:=.ref (M.length + k)) (env:=[some (.tup t.flat)]) ?_).trans ?_
 ·unfold Zgg
  refine ZbP (ZeI (M1:=M) (a:=.tup (t.parts.map Sm.flat).flatten) ?_ h1)
  show R3.ok (D.tup (cutD t.flat (some ((1:Nat):Int)) none)) M = _
  rw [Zkg,e]; rfl
 ·have hb:below M.length (.ref (M.length + k)) = false:=decide_eq_false (by omega)
  rw [Zff,hb]; rfl
noncomputable abbrev Zoe:S3:=Zy (Zaf 6 (Zt Zaj (Za (Zc 0) (Za (e2 Zm (Zc 1) (Zaq ZaF (Za (Zc 4) (Ze)))) (Ze))))) (Zy (Zaf 5 (e2 ZeU (Zc 5) (eC (.int 1)))) (sIf (eOr (e2 Zo2 (e2 Zm (Zaq ZaF (Za (Zc 4) (Ze))) (Zc 5)) (Zc 3)) (e2 Zgq (e2 Zaw (Zc 6) (eC (.int 5))) (eC (.int 2)))) (sIf (e2 Za7 (e2 Zaw (e2 Za6 (Zc 6) (eC (.int 5))) (eC (.int 3))) (eC (.int 0))) (Zak (ZaN tyL Zan (Zc 4) (Za (Zt ZcJ (Za (e2 Za6 (Zc 6) (eC (.int 15))) (Ze))) (Ze)))) (Zak (ZaN tyL Zan (Zc 4) (Za (e2 Zk (Zc 2) (e2 Zaw (e2 Za6 (Zc 6) (eC (.int 15))) (Zaq ZaF (Za (Zc 2) (Ze))))) (Ze))))) (sIf (e2 Za7 (e2 Zaw (Zc 6) (eC (.int 5))) (eC (.int 2))) (Zy (Zak (ZaN tyL Zan (Zc 4) (Za (eC (.str [99,101,108,108])) (Ze)))) (Zaf 5 (e2 Zm (Zc 5) (eC (.int 1))))) (Zy (Zak (ZaN tyL Zan (Zc 4) (Za (e2 Zk (ZaE (Za (eC (.str [97,100,100])) (Za (eC (.str [115,117,98])) (Za (eC (.str [109,111,114,101])) (Ze))))) (e2 Zaw (e2 Za6 (Zc 6) (eC (.int 5))) (eC (.int 3)))) (Ze)))) (Zaf 5 (e2 Zm (Zc 5) (eC (.int 2))))))))
inductive Zi0 (Q:List Nat → Prop) (lim n d:Nat):D → Nat → Prop
 | num (i:Int):Zi0 Q lim n d (.int i) d
 | nam (x:List Nat) (h:Q x):Zi0 Q lim n d (.str x) d
 | cel (h:n + d < lim):Zi0 Q lim n d (.str CEL) (d + 1)
 | two (o:Nat) (h:n + d < lim):Zi0 Q lim n d (.str (opW o)) (d + 2)
def Due (Q:List Nat → Prop) (words:List D) (due:Nat):Prop:=∀ ts:List Sm,ts.length = due → (∀ t ∈ ts,t.all Q) → ∃ t:Sm,t.all Q ∧ t.flat = words ++ (ts.map Sm.flat).flatten
theorem ZvI {Q:List Nat → Prop}:Due Q [] 1:=fun ts h hg=>by
 match ts,h with
 | [t],_=>exact ⟨t,hg t (by simp),by simp⟩
theorem Zgs {Q:List Nat → Prop} {words:List D} {d:Nat} {t:Sm} {ts:List Sm} (h:Due Q words (d + 1)) (hl:ts.length = d) (ht:t.all Q) (hg:∀ t ∈ ts,t.all Q):∃ s:Sm,s.all Q ∧ s.flat = words ++ (t.flat ++ (ts.map Sm.flat).flatten):=by
 obtain ⟨s,h1,h2⟩:=h (t :: ts) (by rw [List.length_cons,hl]) (fun x hx=>by
  rcases List.mem_cons.mp hx with e | e
  ·rw [e]; exact ht
  ·exact hg x e)
 exact ⟨s,h1,h2⟩
theorem Zom {Q:List Nat → Prop} {lim n d due':Nat} {words:List D} {w:D} (h:Due Q words (d + 1)) (t:Zi0 Q lim n d w due'):Due Q (words ++ [w]) due':=by
 cases t with
 | num i=>exact fun ts hl hg=>by simpa [Sm.flat] using Zgs h hl (t:=.num i) trivial hg
 | nam x hx=>exact fun ts hl hg=>by simpa [Sm.flat] using Zgs h hl (t:=.nam x) hx hg
 | cel hh=>
  intro ts hl hg
  cases ts with
  | nil=>cases hl
  | cons a ts=>simpa [Sm.flat] using Zgs h (Nat.succ.inj hl) (t:=.cel a) (hg a (by simp)) fun t ht=>hg t (List.mem_cons_of_mem _ ht)
 | two o hh=>
  intro ts hl hg
  cases ts with
  | nil=>cases hl
  | cons a ts=>cases ts with
   | nil=>simp at hl
   | cons b ts=>simpa [Sm.flat] using Zgs h (by simp at hl; omega) (t:=.two o a b) ⟨hg a (by simp),hg b (by simp)⟩ fun t ht=>hg t (List.mem_cons_of_mem _ (List.mem_cons_of_mem _ ht))
theorem Zpk {M G:Store} {x y:List D}:(M ++ .lst x :: G).set M.length (.lst y) = M ++ .lst y :: G:=by
 have:=ZhK M (.lst x :: G) 0 (.lst y)
 simpa using this
theorem Znd {Q:List Nat → Prop} {ns:List Int} (hl:ns.length ≤ 63) {M G:Store} {nr at0 lim d:Nat} {names:List (List Nat)} {words:List D} (hn:M[nr]? = some (.lst (names.map D.str))) (hne:0 < names.length) (hlt:names.length < 1000) (hop:∀ x ∈ names,Q x) (hw:words.length < 1000) (x:Option D):
  ∃ w due' G' dr',Zi0 Q lim words.length d w due' ∧ Zoe [some (SC ns),some (.int (at0:Int)),some (.ref nr),some (.int (lim:Int)),some (.ref M.length),some (.int ((d + 1:Nat):Int)),x] (M ++ .lst words :: G) =
   .nx [some (SC ns),some (.int (at0:Int)),some (.ref nr),some (.int (lim:Int)),some (.ref M.length),some (.int (due':Nat)),dr'] (M ++ .lst (words ++ [w]) :: G'):=by
 have h4:(M ++ .lst words :: G)[M.length]? = some (.lst words):=Zax _ _ _
 have hlen:∀ {env:Zam},Zc 4 env (M ++ .lst words :: G) = .ok (.ref M.length) (M ++ .lst words :: G) → Zaq ZaF (Za (Zc 4) (Ze)) env (M ++ .lst words :: G) = .ok (.int (words.length:Int)) (M ++ .lst words :: G):=fun h=>ZaS h (ZaM h4)
 have hwz:words.length < SZ:=Nat.lt_trans hw (by decide)
 let D0:=dr ns (at0 + words.length)
 have hD:0 ≤ D0:=ZuH _ _
 have s1:Zaf 6 (Zt Zaj (Za (Zc 0) (Za (e2 Zm (Zc 1) (Zaq ZaF (Za (Zc 4) (Ze)))) (Ze)))) [some (SC ns),some (.int (at0:Int)),some (.ref nr),some (.int (lim:Int)),some (.ref M.length),some (.int ((d + 1:Nat):Int)),x] (M ++ .lst words :: G) = .nx [some (SC ns),some (.int (at0:Int)),some (.ref nr),some (.int (lim:Int)),some (.ref M.length),some (.int ((d + 1:Nat):Int)),some (.int D0)] (M ++ .lst words :: G):=
  Zx (ZeF hl (k:=at0 + words.length) rfl (Zg rfl (hlen rfl) rfl))
 have s2:Zaf 5 (e2 ZeU (Zc 5) (eC (.int 1))) [some (SC ns),some (.int (at0:Int)),some (.ref nr),some (.int (lim:Int)),some (.ref M.length),some (.int ((d + 1:Nat):Int)),some (.int D0)] (M ++ .lst words :: G) = .nx [some (SC ns),some (.int (at0:Int)),some (.ref nr),some (.int (lim:Int)),some (.ref M.length),some (.int (d:Int)),some (.int D0)] (M ++ .lst words :: G):=
  Zx (d:=.int (d:Int)) (Zg rfl rfl (by rw [ZhZ]; congr 2; omega))
 have c1:∀ b:Bool,(b = true ↔ (lim:Int) ≤ (words.length:Int) + (d:Int) ∨ D0 % 5 < 2) → eOr (e2 Zo2 (e2 Zm (Zaq ZaF (Za (Zc 4) (Ze))) (Zc 5)) (Zc 3)) (e2 Zgq (e2 Zaw (Zc 6) (eC (.int 5))) (eC (.int 2))) [some (SC ns),some (.int (at0:Int)),some (.ref nr),some (.int (lim:Int)),some (.ref M.length),some (.int (d:Int)),some (.int D0)] (M ++ .lst words :: G) = .ok (.bl b) (M ++ .lst words :: G):=fun b hb=>by
  by_cases hq:(lim:Int) ≤ (words.length:Int) + (d:Int)
  ·have:b = true:=hb.mpr (.inl hq)
   subst this
   exact ZuL (Zg (Zg (hlen rfl) rfl rfl) rfl (by rw [Zmp,decide_eq_true hq]))
  ·rw [Zkr (Zg (Zg (hlen rfl) rfl rfl) rfl (by rw [Zmp,decide_eq_false hq]))]
   refine Zg (Zg rfl rfl (ZaV (by decide))) rfl ?_
   rw [Zeo]
   congr 2
   cases hb2:b with
   | true=>exact decide_eq_true ((hb.mp hb2).resolve_left hq)
   | false=>exact decide_eq_false fun z=>by have:=hb.mpr (.inr z); rw [hb2] at this; cases this
 show ∃ w due' G' dr',_ ∧ Zy _ _ _ _ = _
 rw [Zn s1,Zn s2]
 by_cases hleaf:(lim:Int) ≤ (words.length:Int) + (d:Int) ∨ D0 % 5 < 2
 ·rw [ZbO (c1 true ⟨fun _=>hleaf,fun _=>rfl⟩)]
  by_cases h3:D0 / 5 % 3 = 0
  ·obtain ⟨z,hz⟩:=ZnE (d:=D0 / 15) (by omega)
   refine ⟨.int z,d,G,some (.int D0),.num z,?_⟩
   rw [ZbO (Zg (Zg (Zg rfl rfl (ZbV (by decide))) rfl (ZaV (by decide))) rfl (Zh4 h3)),Zdg rfl h4 (ZeI (Zg rfl rfl (ZbV (by decide))) (hz _)) h4 hwz,Zpk]
  ·obtain ⟨a,ea,ha⟩:=ZcN (D0 / 15) names.length hne
   have hga:names[a]? = some (names[a]'ha):=List.getElem?_eq_getElem ha
   refine ⟨.str (names[a]'ha),d,G,some (.int D0),.nam _ (hop _ (List.getElem_mem ha)),?_⟩
   have hnr:(M ++ .lst words :: G)[nr]? = some (.lst (names.map D.str)):=ZaW hn _
   rw [ZaZ (Zg (Zg (Zg rfl rfl (ZbV (by decide))) rfl (ZaV (by decide))) rfl (Zhz h3)),Zdg rfl h4 (Zg rfl (Zg (Zg rfl rfl (ZbV (by decide))) (ZaS rfl (ZaM hnr)) (ZaV (by rw [List.length_map]; omega))) (Zbe hnr (by rw [List.length_map,ea,ZaU,List.getElem?_map,hga]; rfl))) h4 hwz,Zpk]
 ·have hlt2:words.length + d < lim:=by omega
  rw [ZaZ (c1 false ⟨fun z=>ft z,fun z=>absurd z hleaf⟩)]
  by_cases h2:D0 % 5 = 2
  ·refine ⟨.str CEL,d + 1,G,some (.int D0),.cel hlt2,?_⟩
   rw [ZbO (Zg (Zg rfl rfl (ZaV (by decide))) rfl (Zh4 h2)),Zn (Zdg rfl h4 rfl h4 hwz),Zpk]
   exact Zx (Zg rfl rfl rfl)
  ·obtain ⟨o,eo,ho⟩:=ZcN (D0 / 5) 3 (by decide)
   have eo:D0 / 5 % 3 = (o:Int):=eo
   refine ⟨.str (opW o),d + 2,G ++ [.lst [.str [97,100,100],.str [115,117,98],.str [109,111,114,101]]],some (.int D0),.two o hlt2,?_⟩
   have hM2:M ++ .lst words :: G ++ [.lst [.str [97,100,100],.str [115,117,98],.str [109,111,114,101]]] = M ++ .lst words :: (G ++ [.lst [.str [97,100,100],.str [115,117,98],.str [109,111,114,101]]]):=by simp
   have hi:[D.str [97,100,100],.str [115,117,98],.str [109,111,114,101]][o]? = some (.str (opW o)):=by
    match o,ho with
    | 0,_=>rfl
    | 1,_=>rfl
    | 2,_=>rfl
   rw [ZaZ (Zg (Zg rfl rfl (ZaV (by decide))) rfl (Zhz h2)),Zn (Zdg (M':=M ++ .lst words :: (G ++ [.lst [.str [97,100,100],.str [115,117,98],.str [109,111,114,101]]])) rfl h4 (Zg (Zbg (ds:=[.str [97,100,100],.str [115,117,98],.str [109,111,114,101]]) rfl rfl) (Zg (Zg rfl rfl (ZbV (by decide))) rfl (ZaV (by decide))) (by rw [← hM2]; exact Zbe (Zax _ _ []) (by rw [eo,ZaU]; exact hi))) (Zax _ _ _) hwz),Zpk]
   exact Zx (Zg rfl rfl rfl)
theorem ZlD {Q:List Nat → Prop} {ns:List Int} (hl:ns.length ≤ 63) {M:Store} {nr at0 lim:Nat} {names:List (List Nat)} (hn:M[nr]? = some (.lst (names.map D.str))) (hne:0 < names.length) (hlt:names.length < 1000) (hop:∀ x ∈ names,Q x) (hlim:lim ≤ 900):
  ∀ (m fuel d:Nat) (words:List D) (G:Store) (x:Option D),words.length + m = lim + 2 → m < fuel → words.length + d ≤ lim + 2 → Due Q words d → (∀ w ∈ words,IsW w) →
  ∃ t:Sm,t.all Q ∧ t.flat.length ≤ lim + 2 ∧ (∀ w ∈ t.flat,IsW w) ∧ ∃ G' x',ZcW (e2 ZeL (Zc 5) (eC (.int 0))) Zoe fuel [some (SC ns),some (.int (at0:Int)),some (.ref nr),some (.int (lim:Int)),some (.ref M.length),some (.int (d:Int)),x] (M ++ .lst words :: G) =
   .nx [some (SC ns),some (.int (at0:Int)),some (.ref nr),some (.int (lim:Int)),some (.ref M.length),some (.int 0),x'] (M ++ .lst t.flat :: G'):=by
 intro m
 induction m with
 | zero=>
  intro fuel d words G x hm hf hd hdue hw
  have:d = 0:=by omega
  subst this
  obtain ⟨t,h1,h2⟩:=hdue [] rfl (fun t ht=>by cases ht)
  have h2:t.flat = words:=by simpa using h2
  refine ⟨t,h1,by rw [h2]; omega,by rw [h2]; exact hw,G,x,?_⟩
  obtain ⟨f,rfl⟩:∃ f,fuel = f + 1:=⟨fuel - 1,by omega⟩
  rw [Zdf,h2]
  rfl
 | succ m ih=>
  intro fuel d words G x hm hf hd hdue hw
  obtain ⟨f,rfl⟩:∃ f,fuel = f + 1:=⟨fuel - 1,by omega⟩
  cases d with
  | zero=>
   obtain ⟨t,h1,h2⟩:=hdue [] rfl (fun t ht=>by cases ht)
   have h2:t.flat = words:=by simpa using h2
   refine ⟨t,h1,by rw [h2]; omega,by rw [h2]; exact hw,G,x,?_⟩
   rw [Zdf,h2]
   rfl
  | succ d=>
   obtain ⟨w,due',G',dr',ht,hb⟩:=Znd (at0:=at0) (lim:=lim) (d:=d) (G:=G) hl hn hne hlt hop (words:=words) (by omega) x
   have hlen:(words ++ [w]).length = words.length + 1:=by simp
   have hdue':=Zom hdue ht
   have hiw:IsW w:=by cases ht <;> first | exact .int _ | exact .str _
   obtain ⟨t,g1,g2,g3,G2,x2,g4⟩:=ih f due' (words ++ [w]) G' dr' (by omega) (by omega) (by rw [hlen]; cases ht <;> omega) hdue' (fun y hy=>by
    rcases List.mem_append.mp hy with hy | hy
    ·exact hw y hy
    ·rw [List.mem_singleton.mp hy]; exact hiw)
   refine ⟨t,g1,g2,g3,G2,x2,?_⟩
   rw [Zdf]
   have hc:e2 ZeL (Zc 5) (eC (.int 0)) [some (SC ns),some (.int (at0:Int)),some (.ref nr),some (.int (lim:Int)),some (.ref M.length),some (.int ((d + 1:Nat):Int)),x] (M ++ .lst words :: G) = .ok (.bl true) (M ++ .lst words :: G):=Zg rfl rfl (by rw [ZdX,decide_eq_true (by omega)])
   rw [hc]
   show (match Zoe _ _ with | .nx e M'=>_ | .ct e M'=>_ | .bk e M'=>_ | o=>o) = _
   rw [hb]
   exact g4
theorem Zda {n:Nat}:∀ {l:List D},(∀ w ∈ l,IsW w) → belowL n l = true
 | [],_=>rfl
 | w :: l,h=>by
  have h1:below n w = true:=by cases h w List.mem_cons_self <;> rfl
  show (below n w && belowL n l) = true
  rw [h1,Zda fun x hx=>h x (List.mem_cons_of_mem _ hx)]; rfl
theorem Zl1 {Q:List Nat → Prop} {ns:List Int} (hl:ns.length ≤ 63) {M:Store} {nr at0 lim:Nat} {names:List (List Nat)} (hn:M[nr]? = some (.lst (names.map D.str))) (hne:0 < names.length) (hlt:names.length < 1000) (hop:∀ x ∈ names,Q x) (hlim:lim ≤ 900):
  ∃ t:Sm,t.all Q ∧ t.flat.length ≤ lim + 2 ∧ Zbt [SC ns,.int (at0:Int),.ref nr,.int (lim:Int)] M = .ok (.tup t.flat) M:=by
 obtain ⟨t,h1,h2,h3,G,x,h4⟩:=ZlD (at0:=at0) hl hn hne hlt hop hlim (lim + 2) 1000000 1 [] [] none (by simp) (by omega) (by simp) ZvI (fun w hw=>by cases hw)
 refine ⟨t,h1,h2,?_⟩
 refine (ZcX (M':=M ++ .lst t.flat :: G) (d:=.tup t.flat) (env:=[some (SC ns),some (.int (at0:Int)),some (.ref nr),some (.int (lim:Int)),none,none,none]) ?_).trans (Zed (by show belowL _ _ = true; exact Zda h3))
 unfold Zf8
 rw [Zn (Zx (d:=.ref M.length) (M':=M ++ [.lst []]) (Zbg rfl rfl)),Zn (Zx (d:=.int 1) rfl)]
 refine (Zn h4).trans ?_
 exact ZbP (ZaS rfl (ZfN (Zax _ _ _)))
theorem ZkO (t:Sm):ZbT t.flat (0:Int) = some t.head:=by rw [t.flat_eq]; exact ZaU _ 0
theorem Zmy {t p:Sm} (h:p ∈ t.parts):p.flat.length < t.flat.length:=by
 cases t with
 | num _=>cases h
 | nam _=>cases h
 | cel a=>rw [List.mem_singleton.mp h]; simp [Sm.flat]
 | two o a b=>
  rcases List.mem_cons.mp h with h | h
  ·rw [h]; simp [Sm.flat]; omega
  ·rw [List.mem_singleton.mp h]; simp [Sm.flat]; omega
theorem Zno {t p:Sm} (hg:t.good) (h:p ∈ t.parts):p.good:=by
 cases t with
 | num _=>cases h
 | nam _=>cases h
 | cel a=>rw [List.mem_singleton.mp h]; exact hg
 | two o a b=>
  rcases List.mem_cons.mp h with h | h
  ·rw [h]; exact hg.1
  ·rw [List.mem_singleton.mp h]; exact hg.2
theorem Zj3 {ty:D → Store → Bool} {me:D → List D → Store → R3 D} {o:E3} {g:EL3} {env:Zam} {M M1 M2 M3:Store} {a d:D} {ds:List D} (h1:o env M = .ok a M1) (hi:ty a M1 = true) (h2:g env M1 = .ok ds M2) (h3:me a ds M2 = .ok d M3):ZaN ty me o g env M = .ok d M3:=by
 simp only [ZaN,h1,R3.bind,hi,if_true,h2,h3]
def ZtH (kvs:List (Zav × D)):Prop:=∀ k d,Zb5 kvs k = some d → ∃ z,d = .int z
noncomputable def intOf (kvs:List (Zav × D)) (k:Zav):Int:=match Zb5 kvs k with
 | some (.int z)=>z
 | _=>0
theorem ZtH.get {kvs:List (Zav × D)} (h:ZtH kvs) (k:Zav):(Zb5 kvs k).getD (.int 0) = .int (intOf kvs k):=by
 unfold intOf
 cases e:Zb5 kvs k with
 | none=>rfl
 | some d=>
  obtain ⟨z,rfl⟩:=h k d e
  rfl
theorem ZnY (k:Zav) (v:D) (kvs:List (Zav × D)):(putD k v kvs).length ≤ kvs.length + 1:=by
 unfold putD; split <;> simp
theorem ZeO {i:IL3} {g:G3} {u:S3} {env:Zam} {M M':Store} {it:ItL} (h:i env M = .ok it M'):ZgK i g u env M = Zcb it.lk g u it.items env M':=by rw [ZgK,h]
theorem Zah {M S:Store} {n:Nat} {o:MO} (h:M <+: S) (e:M[n]? = some o):S[n]? = some o:=by
 obtain ⟨G,rfl⟩:=h
 exact ZaW e G
theorem Zcx {M S:Store} {r:Nat} {o:MO} (h:M <+: S) (hr:M.length ≤ r):M <+: S.set r o:=by
 obtain ⟨G,rfl⟩:=h
 obtain ⟨k,rfl⟩:=Nat.le.dest hr
 rw [ZhK]
 exact ⟨_,rfl⟩
def LE (f:E3) (env:Zam) (M:Store) (xs:List D):Prop:=∃ n S,f env M = .ok (.ref n) S ∧ M <+: S ∧ S[n]? = some (.lst xs)
def LF (f:E3) (env:Zam) (M:Store) (xs:List D):Prop:=∃ n S,f env M = .ok (.ref n) S ∧ M <+: S ∧ S[n]? = some (.lst xs) ∧ M.length ≤ n
def FL (F:F3) (ds:List D) (M:Store) (xs:List D):Prop:=∃ n S,F ds M = .ok (.ref n) S ∧ M <+: S ∧ S[n]? = some (.lst xs) ∧ M.length ≤ n
def BL (M0:Store) (u:S3) (env:Zam) (M:Store) (xs:List D):Prop:=∃ n S,u env M = .rt (.ref n) S ∧ M0 <+: S ∧ S[n]? = some (.lst xs) ∧ M0.length ≤ n
theorem LF.le {f:E3} {env:Zam} {M:Store} {xs:List D} (h:LF f env M xs):LE f env M xs:=let ⟨n,S,a,b,c,_⟩:=h; ⟨n,S,a,b,c⟩
theorem Zii {M:Store} {n m:Nat} {x y:List D} (h1:M[n]? = some (.lst x)) (h2:M[m]? = some (.lst y)) (hz:x.length + y.length ≤ 900000):Zm (.ref n) (.ref m) M = .ok (.ref M.length) (M ++ [.lst (x ++ y)]):=by
 rw [Zo9,h1,h2]
 exact if_pos (Nat.le_trans hz (by decide))
theorem LE.add {f g:E3} {env:Zam} {M:Store} {x y:List D} (hf:LE f env M x) (hg:∀ S,M <+: S → LE g env S y) (hz:x.length + y.length ≤ 900000):LF (e2 Zm f g) env M (x ++ y):=by
 obtain ⟨n,S,h1,p1,g1⟩:=hf
 obtain ⟨m,S2,h2,p2,g2⟩:=hg S p1
 exact ⟨S2.length,S2 ++ [.lst (x ++ y)],Zg h1 h2 (Zii (Zah p2 g1) g2 hz),(p1.trans p2).trans (List.prefix_append _ _),Zax _ _ _,(p1.trans p2).length_le⟩
theorem LE.var {i n:Nat} {env:Zam} {M:Store} {x:List D} (h:Zc i env M = .ok (.ref n) M) (hx:M[n]? = some (.lst x)):LE (Zc i) env M x:=⟨n,M,h,List.prefix_refl _,hx⟩
theorem LF.lst {g:EL3} {env:Zam} {M:Store} {ds:List D} (h:g env M = .ok ds M) (hl:decide (ds.length ≤ 100) = true):LF (ZaE g) env M ds:=⟨M.length,M ++ [.lst ds],Zbg h hl,List.prefix_append _ _,Zax _ _ _,Nat.le_refl _⟩
theorem LF.call {F:F3} {g:EL3} {env:Zam} {M:Store} {ds:List D} {x:List D} (h:g env M = .ok ds M) (hF:FL F ds M x):LF (Zt F g) env M x:=by
 obtain ⟨n,S,h1,p1,g1⟩:=hF
 exact ⟨n,S,by simp only [Zt,h,R3.bind,h1],p1,g1⟩
theorem BL.set {M0:Store} {i:Nat} {f:E3} {u:S3} {env:Zam} {M:Store} {x xs:List D} (hf:LE f env M x) (hu:∀ n S,M <+: S → S[n]? = some (.lst x) → BL M0 u (env.set i (some (.ref n))) S xs):BL M0 (Zy (Zaf i f) u) env M xs:=by
 obtain ⟨n,S,h1,p1,g1⟩:=hf
 obtain ⟨m,S2,h2,r⟩:=hu n S p1 g1
 exact ⟨m,S2,(Zn (Zx h1 rfl)).trans h2,r⟩
theorem BL.setv {M0:Store} {i:Nat} {f:E3} {u:S3} {env:Zam} {M:Store} {d:D} {xs:List D} (hf:f env M = .ok d M) (hu:BL M0 u (env.set i (some d)) M xs):BL M0 (Zy (Zaf i f) u) env M xs:=by
 obtain ⟨m,S2,h2,r⟩:=hu
 exact ⟨m,S2,(Zn (Zx hf rfl)).trans h2,r⟩
theorem BL.ret {M0:Store} {f:E3} {env:Zam} {M:Store} {xs:List D} (hf:LF f env M xs) (p:M0 <+: M):BL M0 (Zbu f) env M xs:=by
 obtain ⟨n,S,h1,p1,g1,l1⟩:=hf
 exact ⟨n,S,ZbP h1,p.trans p1,g1,Nat.le_trans p.length_le l1⟩
theorem BL.skip {M0:Store} {c:E3} {u v:S3} {env:Zam} {M:Store} {xs:List D} (hc:c env M = .ok (.bl false) M) (hv:BL M0 v env M xs):BL M0 (Zy (sIf c u Zba) v) env M xs:=by
 obtain ⟨n,S,h1,r⟩:=hv
 exact ⟨n,S,(Zn (ZaO hc)).trans h1,r⟩
theorem BL.take {M0:Store} {c:E3} {u v w:S3} {env:Zam} {M:Store} {xs:List D} (hc:c env M = .ok (.bl true) M) (hu:BL M0 u env M xs):BL M0 (Zy (sIf c u w) v) env M xs:=by
 obtain ⟨n,S,h1,r⟩:=hu
 exact ⟨n,S,Zl2 ((ZbO hc).trans h1),r⟩
theorem BL.step {M0:Store} {u v:S3} {env env':Zam} {M S:Store} {xs:List D} (hu:u env M = .nx env' S) (hv:BL M0 v env' S xs):BL M0 (Zy u v) env M xs:=by
 obtain ⟨n,S2,h1,r⟩:=hv
 exact ⟨n,S2,(Zn hu).trans h1,r⟩
theorem FL.of {ps n:Nat} {body:S3} {ds:List D} {env:Zam} {M:Store} {xs:List D} (h:BL M body env M xs) (hl:ds.length = ps) (he:ds.map some ++ List.replicate (n - ps) none = env):FL (mkF ps n body) ds M xs:=by
 obtain ⟨k,S,h1,p1,g1,l1⟩:=h
 refine ⟨k,S,(ZcX (n:=n) h1 hl he).trans ?_,p1,g1,l1⟩
 have hb:below M.length (.ref k) = false:=decide_eq_false (by omega)
 rw [Zff,hb]; rfl
theorem Zh8 {o t:E3} {env:Zam} {M:Store} {r:Nat} {xs ys:List D} (ho:o env M = .ok (.ref r) M) (hr:M[r]? = some (.lst xs)) (ht:LF t env M ys) (hz:xs.length + ys.length ≤ 900000):
  ∃ S,Zak (ZaN tyL Zcn o (Za t Ze)) env M = .nx env (S.set r (.lst (xs ++ ys))) ∧ M <+: S:=by
 obtain ⟨n,S,h1,p1,g1,l1⟩:=ht
 refine ⟨S,Zcs (d:=.non) (Zj3 ho (by rw [Zhc,hr]) (Zh h1 rfl) ?_),p1⟩
 have hlt:=(List.getElem?_eq_some_iff.mp hr).1
 rw [ZcZ,Zah p1 hr,g1]
 exact if_pos ⟨by omega,Nat.le_trans hz (by decide)⟩
noncomputable abbrev ZfR (b i:Int):D:=.tup [.str [112,117,116],.int b,.int i]
noncomputable abbrev Zf4 (a b:Int):D:=.tup [.str [103,101,116],.int a,.int b]
noncomputable abbrev ZiB (a b:Int):D:=.tup [.str [115,101,116],.int a,.int b]
noncomputable abbrev ZdP (x:List Nat) (a b c:Int):D:=.tup [.str x,.int a,.int b,.int c]
noncomputable abbrev ZmG (a:Int):D:=.tup [.str [119,104,101,110],.int 0,.int a]
noncomputable abbrev Zjg (a:Int):D:=.tup [.str [106,117,109,112],.int a]
noncomputable abbrev Zq4:D:=.tup [.str [116,101,108,108],.int 0]
noncomputable def Sm.rows (ck:List (Zav × D)):Sm → Int → List D
 | .num i,b=>[ZfR b i]
 | .nam x,b=>[ZfR 7 (intOf ck (.inr x)),Zf4 b 7]
 | .cel a,b=>a.rows ck b ++ [ZdP [97,100,100] b b b,Zf4 b b]
 | .two o a c,b=>a.rows ck b ++ c.rows ck (b + 1) ++ [ZdP (opW o) b b (b + 1)]
noncomputable def Sm.kn (ck:List (Zav × D)):Sm → Prop
 | .num _=>True
 | .nam x=>∃ z,Zb5 ck (.inr x) = some (.int z)
 | .cel a=>a.kn ck
 | .two _ a c=>a.kn ck ∧ c.kn ck
theorem Zbp (ck:List (Zav × D)):∀ (t:Sm) (b:Int),(t.rows ck b).length ≤ 2 * t.flat.length
 | .num _,_=>by simp [Sm.rows,Sm.flat]
 | .nam _,_=>by simp [Sm.rows,Sm.flat]
 | .cel a,b=>by have:=Zbp ck a b; simp [Sm.rows,Sm.flat]; omega
 | .two _ a c,b=>by have:=Zbp ck a b; have:=Zbp ck c (b + 1); simp [Sm.rows,Sm.flat]; omega
theorem ZhI {ck:List (Zav × D)} {M:Store} {c:Nat} {x:List Nat} (hc:M[c]? = some (.dct ck)) (h:∃ z,Zb5 ck (.inr x) = some (.int z)):Zex (.ref c) (.str x) M = .ok (.int (intOf ck (.inr x))) M:=by
 obtain ⟨z,h⟩:=h
 rw [ZiQ,hc]
 show (match Zb5 ck (.inr x) with | some d=>R3.ok d M | none=>R3.bad) = _
 have:intOf ck (.inr x) = z:=by unfold intOf; rw [h]
 rw [h,this]
def ZkD (ck:List (Zav × D)) (F:F3) (t:Sm):Prop:=∀ (M:Store) (c:Nat) (b:Int),M[c]? = some (.dct ck) → FL F [.tup t.flat,.int b,.ref c] M (t.rows ck b)
noncomputable abbrev Zv2 (rec:F3):S3:=Zak (ZaN tyL Zcn (Zc 3) (Za (Zt rec (Za (Zc 6) (Za (e2 Zm (Zc 1) (Zc 5)) (Za (Zc 2) (Ze))))) (Ze)))
theorem ZkV {ck:List (Zav × D)} {rec:F3} {W:D} {b:Int} {c pk r:Nat} {items:List D} (hpr:pk ≠ r) (hcr:c ≠ r):∀ (ts:List Sm),(∀ t ∈ ts,ZkD ck rec t ∧ t.flat.length ≤ 500) → ∀ (k:Nat) (acc:List D) (M M0:Store) (x y:Option D),M0 <+: M → M0.length ≤ r → M[r]? = some (.lst acc) → M[pk]? = some (.lst items) → M[c]? = some (.dct ck) → acc.length + 2000 * ts.length ≤ 800000 →
  ∃ S x' y',Zcb [(pk,items)] (Zc3 [5,6]) (Zv2 rec) (ZbM k (ts.map fun t=>.tup t.flat)) [some W,some (.int b),some (.ref c),some (.ref r),some (.ref pk),x,y] M = .nx [some W,some (.int b),some (.ref c),some (.ref r),some (.ref pk),x',y'] S ∧ M0 <+: S ∧
   S[r]? = some (.lst (acc ++ ((ts.zipIdx k).map fun p=>p.1.rows ck (b + (p.2:Int))).flatten)) ∧ S[pk]? = some (.lst items) ∧ S[c]? = some (.dct ck)
 | [],_,k,acc,M,M0,x,y,p,_,hr,hp,hc,_=>⟨M,x,y,by
  show Zcb _ _ _ [] _ _ = _
  rw [Ze3,if_pos (by simp [Za5,hp])],p,by simpa using hr,hp,hc⟩
 | t :: ts,ht,k,acc,M,M0,x,y,p,hl,hr,hp,hc,hz=>by
  obtain ⟨h1,h2⟩:=ht t List.mem_cons_self
  rw [List.length_cons] at hz
  have hrl:=Zbp ck t (b + (k:Int))
  obtain ⟨S,e,p1⟩:=Zh8 (o:=Zc 3) (t:=Zt rec (Za (Zc 6) (Za (e2 Zm (Zc 1) (Zc 5)) (Za (Zc 2) (Ze))))) (env:=[some W,some (.int b),some (.ref c),some (.ref r),some (.ref pk),some (.int (k:Int)),some (.tup t.flat)]) rfl hr (LF.call rfl (h1 M c (b + (k:Int)) hc)) (by omega)
  have hrS:r < S.length:=(List.getElem?_eq_some_iff.mp (Zah p1 hr)).1
  obtain ⟨S2,x',y',e2,q1,q2,q3,q4⟩:=ZkV (W:=W) (b:=b) hpr hcr ts (fun t' h'=>ht t' (List.mem_cons_of_mem _ h')) (k + 1) (acc ++ t.rows ck (b + (k:Int))) (S.set r (.lst (acc ++ t.rows ck (b + (k:Int))))) M0 (some (.int (k:Int))) (some (.tup t.flat)) (Zcx (p.trans p1) hl) hl (List.getElem?_set_self hrS) (by rw [List.getElem?_set_ne hpr.symm]; exact Zah p1 hp) (by rw [List.getElem?_set_ne hcr.symm]; exact Zah p1 hc) (by simp; omega)
  refine ⟨S2,x',y',?_,q1,by rw [q2]; simp,q3,q4⟩
  show Zcb _ _ _ (.tup [.int (k:Int),.tup t.flat] :: ZbM (k + 1) (ts.map fun t=>.tup t.flat)) _ _ = _
  rw [Ze1,if_pos (by simp [Za5,hp])]
  simp only [Zc3,Zdv,Zdt,List.set_cons_succ,List.set_cons_zero,e,e2]
theorem ZnP (b:Int) (M:Store):ZcC [.int b] M = .ok (ZdP [97,100,100] b b b) M:=
 (ZcX (M':=M) (env:=[some (.int b)]) (ZbP (Zv rfl rfl))).trans (ZgZ rfl)
theorem ZnZ {ck:List (Zav × D)} {rec:F3} {t:Sm} (hg:t.good) (hk:t.kn ck) (hl:t.flat.length ≤ 500) (hr:∀ p ∈ t.parts,ZkD ck rec p):ZkD ck (mkF 3 7 (Zdy rec)) t:=by
 intro M c b hc
 refine FL.of (env:=[some (.tup t.flat),some (.int b),some (.ref c),none,none,none,none]) ?_ rfl rfl
 unfold Zdy
 have hM1:M <+: (M ++ [MO.lst []]):=List.prefix_append _ _
 obtain ⟨G,k,hp,hG⟩:=Zoz (M ++ [MO.lst []]) t hg hl
 have hpk:(M ++ [MO.lst []] ++ G)[(M ++ [MO.lst []]).length + k]? = some (.lst (t.parts.map fun t=>.tup t.flat)):=(ZdU (M ++ [MO.lst []]) G k).trans hG
 have hcl:c < M.length:=(List.getElem?_eq_some_iff.mp hc).1
 have hlM:(M ++ [MO.lst []]).length = M.length + 1:=by simp
 have pS:M <+: M ++ [MO.lst []] ++ G:=hM1.trans (List.prefix_append _ _)
 have hr0:(M ++ [MO.lst []] ++ G)[M.length]? = some (.lst []):=ZaW (Zax M _ []) G
 have hpl2:t.parts.length ≤ 2:=by cases t <;> simp [Sm.parts]
 obtain ⟨S,x',y',e,q1,q2,q3,q4⟩:=ZkV (W:=.tup t.flat) (b:=b) (pk:=(M ++ [MO.lst []]).length + k) (r:=M.length) (c:=c) (items:=t.parts.map fun t=>.tup t.flat) (by omega) (by omega) t.parts (fun p h=>⟨hr p h,by have:=Zmy h; omega⟩) 0 [] (M ++ [MO.lst []] ++ G) M none none pS (Nat.le_refl _) hr0 hpk (Zah pS hc) (by simp; omega)
 refine BL.step (env':=[some (.tup t.flat),some (.int b),some (.ref c),some (.ref M.length),none,none,none]) (S:=M ++ [MO.lst []]) (Zx (Zbg rfl rfl)) ?_
 refine BL.step (env':=[some (.tup t.flat),some (.int b),some (.ref c),some (.ref M.length),some (.ref ((M ++ [MO.lst []]).length + k)),none,none]) (S:=M ++ [MO.lst []] ++ G) (Zx (ZeI rfl hp)) ?_
 have hit:Zfm (Zc 4) [some (.tup t.flat),some (.int b),some (.ref c),some (.ref M.length),some (.ref ((M ++ [MO.lst []]).length + k)),none,none] (M ++ [MO.lst []] ++ G) = .ok ⟨ZbM 0 (t.parts.map fun t=>.tup t.flat),[((M ++ [MO.lst []]).length + k,t.parts.map fun t=>.tup t.flat)]⟩ (M ++ [MO.lst []] ++ G):=by
  show (match (M ++ [MO.lst []] ++ G)[(M ++ [MO.lst []]).length + k]? with | some (.lst ds)=>R3.ok (⟨ZbM 0 ds,[((M ++ [MO.lst []]).length + k,ds)]⟩:ItL) (M ++ [MO.lst []] ++ G) | _=>R3.bad) = _
  rw [hpk]
 refine BL.step ((ZeO hit).trans e) ?_
 have hlen:∀ x y:Option D,Zaq ZaF (Za (Zc 4) (Ze)) [some (.tup t.flat),some (.int b),some (.ref c),some (.ref M.length),some (.ref ((M ++ [MO.lst []]).length + k)),x,y] S = .ok (.int (t.parts.length:Int)) S:=fun x y=>by
  refine ZaS rfl ?_
  rw [ZaM q3,List.length_map]
 rw [List.nil_append] at q2
 cases t with
 | two o s u=>
  have q2:S[M.length]? = some (.lst (s.rows ck b ++ u.rows ck (b + 1))):=by rw [q2]; simp [Sm.parts,List.zipIdx]
  refine BL.take (Zg (hlen _ _) rfl (Zh4 rfl)) (BL.ret (LE.add (LE.var rfl q2) (fun T pT=>(LF.lst (ds:=[ZdP (opW o) b b (b + 1)]) (Zh (Zv (Zh (Zg rfl rfl (Zfc (ZkO _))) (Zh rfl (Zh rfl (Zh (Zg rfl rfl rfl) rfl)))) rfl) rfl) rfl).le) ?_) q1)
  have h1:=Zbp ck s b
  have h2:=Zbp ck u (b + 1)
  have h3:(Sm.two o s u).flat.length = s.flat.length + u.flat.length + 1:=by simp [Sm.flat]
  simp; omega
 | cel s=>
  have q2:S[M.length]? = some (.lst (s.rows ck b)):=by rw [q2]; simp [Sm.parts,List.zipIdx]
  refine BL.skip (Zg (hlen _ _) rfl (Zhz (show ¬ ((1:Nat):Int) = 2 by decide))) (BL.take (Zg (hlen _ _) rfl (Zh4 rfl)) (BL.ret (LE.add (LE.var rfl q2) (fun T pT=>(LF.lst (ds:=[ZdP [97,100,100] b b b,Zf4 b b]) (Zh (ZeI rfl (ZnP b T)) (Zh (Zv rfl rfl) rfl)) rfl).le) ?_) q1))
  have h1:=Zbp ck s b
  have h3:(Sm.cel s).flat.length = s.flat.length + 1:=by simp [Sm.flat]
  simp; omega
 | num i=>
  exact BL.skip (Zg (hlen _ _) rfl (Zhz (show ¬ ((0:Nat):Int) = 2 by decide))) (BL.skip (Zg (hlen _ _) rfl (Zhz (show ¬ ((0:Nat):Int) = 1 by decide))) (BL.take (ZbG (Zg rfl rfl (Zfc (ZkO _))) (show ZaD .int (.int i) S = .ok (.bl true) S from rfl)) (BL.ret (LF.lst (Zh (Zv (Zh rfl (Zh rfl (Zh (Zg rfl rfl (Zfc (ZkO _))) rfl))) rfl) rfl) rfl) q1)))
 | nam x=>
  exact BL.skip (Zg (hlen _ _) rfl (Zhz (show ¬ ((0:Nat):Int) = 2 by decide))) (BL.skip (Zg (hlen _ _) rfl (Zhz (show ¬ ((0:Nat):Int) = 1 by decide))) (BL.skip (ZbG (Zg rfl rfl (Zfc (ZkO _))) (show ZaD .int (.str x) S = .ok (.bl false) S from rfl)) (BL.ret (LF.lst (Zh (Zv (Zh rfl (Zh rfl (Zh (Zg rfl (Zg rfl rfl (Zfc (ZkO _))) (ZhI q4 hk)) rfl))) rfl) (Zh (Zv (Zh rfl (Zh rfl (Zh rfl rfl))) rfl) rfl)) rfl) q1)))
theorem Zp4 {ck:List (Zav × D)} {t p:Sm} (hk:t.kn ck) (h:p ∈ t.parts):p.kn ck:=by
 cases t with
 | num _=>cases h
 | nam _=>cases h
 | cel a=>rw [List.mem_singleton.mp h]; exact hk
 | two o a b=>
  rcases List.mem_cons.mp h with h | h
  ·rw [h]; exact hk.1
  ·rw [List.mem_singleton.mp h]; exact hk.2
theorem ZqS {ck:List (Zav × D)}:∀ (n:Nat) (t:Sm),t.good → t.kn ck → t.flat.length ≤ n → n ≤ 500 → ZkD ck (ZdC n) t:=by
 intro n
 induction n with
 | zero=>
  intro t _ _ h _
  obtain ⟨x,r,e⟩:=ZjG t
  rw [e,List.length_cons] at h
  omega
 | succ n ih=>
  intro t hg hk hl hn
  exact ZnZ hg hk (by omega) fun p hp=>ih p (Zno hg hp) (Zp4 hk hp) (by have:=Zmy hp; omega) (by omega)
theorem ZsU {ck:List (Zav × D)} {t:Sm} (hg:t.good) (hk:t.kn ck) (hl:t.flat.length ≤ 13):ZkD ck Za8 t:=ZqS 13 t hg hk hl (by omega)
noncomputable abbrev Zhv:S3:=Zy (Zaf 6 (ZaN tyL Zet (Zc 4) (Za (eC (.int 0)) (Ze)))) (sIf (e1 (ZaD .tuple) (Zc 6)) (Zak (ZaN tyL Zan (Zc 3) (Za (Zc 6) (Ze)))) (sIf (e1 (ZaD .int) (e2 Zk (Zc 5) (eC (.int 0)))) (Zak (ZaN tyL Zan (Zc 3) (Za (Zai (Za (eC (.str [112,117,116])) (Za (Zc 6) (Za (ZaN tyL Zet (Zc 5) (Za (eC (.int 0)) (Ze))) (Ze))))) (Ze)))) (sIf (e2 Za7 (e2 Zk (Zc 5) (eC (.int 0))) (eC (.str [99,101,108,108]))) (Zy (Zak (ZaN tyL Zet (Zc 5) (Za (eC (.int 0)) (Ze)))) (Zaf 4 (e2 Zm (ZaE (Za (Zc 6) (Za (Zai (Za (eC (.str [97,100,100])) (Za (Zc 6) (Za (Zc 6) (Za (Zc 6) (Ze)))))) (Za (Zai (Za (eC (.str [103,101,116])) (Za (Zc 6) (Za (Zc 6) (Ze))))) (Ze))))) (Zc 4)))) (sIf (e2 Znb (e2 Zk (Zc 5) (eC (.int 0))) (Zai (Za (eC (.str [97,100,100])) (Za (eC (.str [115,117,98])) (Za (eC (.str [109,111,114,101])) (Ze)))))) (Zaf 4 (e2 Zm (ZaE (Za (Zc 6) (Za (e2 Zm (Zc 6) (eC (.int 1))) (Za (Zai (Za (ZaN tyL Zet (Zc 5) (Za (eC (.int 0)) (Ze))) (Za (Zc 6) (Za (Zc 6) (Za (e2 Zm (Zc 6) (eC (.int 1))) (Ze)))))) (Ze))))) (Zc 4))) (Zaf 3 (e2 Zm (Zc 3) (ZaE (Za (Zai (Za (eC (.str [112,117,116])) (Za (eC (.int 7)) (Za (e2 Zex (Zc 2) (ZaN tyL Zet (Zc 5) (Za (eC (.int 0)) (Ze)))) (Ze))))) (Za (Zai (Za (eC (.str [103,101,116])) (Za (Zc 6) (Za (eC (.int 7)) (Ze))))) (Ze))))))))))
structure LI (M0:Store) (ck:List (Zav × D)) (c r td lf:Nat) (rows todo left:List D) (M:Store):Prop where
 p:M0 <+: M
 hr:M[r]? = some (.lst rows)
 ht:M[td]? = some (.lst todo)
 hl:M[lf]? = some (.lst left)
 hc:M[c]? = some (.dct ck)
 lr:M0.length ≤ r
 lt:M0.length ≤ td
 ll:M0.length ≤ lf
 rt:r ≠ td
 rl:r ≠ lf
 tl:td ≠ lf
section
variable {M0:Store} {ck:List (Zav × D)} {c r td lf:Nat} {rows todo left:List D} {M:Store}
theorem LI.cr (h:LI M0 ck c r td lf rows todo left M):c ≠ r:=fun e=>by have:=h.hc; rw [e,h.hr] at this; cases this
theorem LI.ct (h:LI M0 ck c r td lf rows todo left M):c ≠ td:=fun e=>by have:=h.hc; rw [e,h.ht] at this; cases this
theorem LI.cl (h:LI M0 ck c r td lf rows todo left M):c ≠ lf:=fun e=>by have:=h.hc; rw [e,h.hl] at this; cases this
theorem LI.setr (h:LI M0 ck c r td lf rows todo left M) (x:List D):LI M0 ck c r td lf x todo left (M.set r (.lst x)):=
 ⟨Zcx h.p h.lr,List.getElem?_set_self (List.getElem?_eq_some_iff.mp h.hr).1,by rw [List.getElem?_set_ne h.rt]; exact h.ht,by rw [List.getElem?_set_ne h.rl]; exact h.hl,by rw [List.getElem?_set_ne h.cr.symm]; exact h.hc,h.lr,h.lt,h.ll,h.rt,h.rl,h.tl⟩
theorem LI.sett (h:LI M0 ck c r td lf rows todo left M) (x:List D):LI M0 ck c r td lf rows x left (M.set td (.lst x)):=
 ⟨Zcx h.p h.lt,by rw [List.getElem?_set_ne h.rt.symm]; exact h.hr,List.getElem?_set_self (List.getElem?_eq_some_iff.mp h.ht).1,by rw [List.getElem?_set_ne h.tl]; exact h.hl,by rw [List.getElem?_set_ne h.ct.symm]; exact h.hc,h.lr,h.lt,h.ll,h.rt,h.rl,h.tl⟩
theorem LI.setl (h:LI M0 ck c r td lf rows todo left M) (x:List D):LI M0 ck c r td lf rows todo x (M.set lf (.lst x)):=
 ⟨Zcx h.p h.ll,by rw [List.getElem?_set_ne h.rl.symm]; exact h.hr,by rw [List.getElem?_set_ne h.tl.symm]; exact h.ht,List.getElem?_set_self (List.getElem?_eq_some_iff.mp h.hl).1,by rw [List.getElem?_set_ne h.cl.symm]; exact h.hc,h.lr,h.lt,h.ll,h.rt,h.rl,h.tl⟩
theorem LI.newt (h:LI M0 ck c r td lf rows todo left M) (o:MO) (x:List D):LI M0 ck c r (M.length + 1) lf rows x left (M ++ [o] ++ [.lst x]):=by
 have g:∀ {i:Nat} {u:MO},M[i]? = some u → (M ++ [o] ++ [MO.lst x])[i]? = some u:=fun e=>ZaW (ZaW e _) _
 have hlr:=(List.getElem?_eq_some_iff.mp h.hr).1
 have hll:=(List.getElem?_eq_some_iff.mp h.hl).1
 have hL:(M ++ [o]).length = M.length + 1:=by simp
 exact ⟨(h.p.trans (List.prefix_append _ _)).trans (List.prefix_append _ _),g h.hr,by rw [← hL]; exact Zax _ _ _,g h.hl,g h.hc,h.lr,by have:=h.p.length_le; omega,h.ll,by omega,h.rl,by omega⟩
theorem LI.newr (h:LI M0 ck c r td lf rows todo left M) (o:MO) (x:List D):LI M0 ck c (M.length + 1) td lf x todo left (M ++ [o] ++ [.lst x]):=by
 have g:∀ {i:Nat} {u:MO},M[i]? = some u → (M ++ [o] ++ [MO.lst x])[i]? = some u:=fun e=>ZaW (ZaW e _) _
 have hlt:=(List.getElem?_eq_some_iff.mp h.ht).1
 have hll:=(List.getElem?_eq_some_iff.mp h.hl).1
 have hL:(M ++ [o]).length = M.length + 1:=by simp
 exact ⟨(h.p.trans (List.prefix_append _ _)).trans (List.prefix_append _ _),by rw [← hL]; exact Zax _ _ _,g h.ht,g h.hl,g h.hc,by have:=h.p.length_le; omega,h.lt,h.ll,by omega,by omega,h.tl⟩
end
theorem ZdR {i n:Nat} {env:Zam} {M:Store} {d:D} {xs:List D} (hv:Zc i env M = .ok (.ref n) M) (h:M[n]? = some (.lst (d :: xs))):ZaN tyL Zet (Zc i) (Za (eC (.int 0)) (Ze)) env M = .ok d (M.set n (.lst xs)):=by
 refine Zj3 hv (by rw [Zhc,h]) rfl ?_
 rw [Zjp,h]
 have e1:ixD (d :: xs).length 0 = some 0:=(ZjD _ 0).trans (if_pos (by simp))
 dsimp only
 rw [if_pos (by decide),e1]; rfl
noncomputable abbrev lrE (W B:Option D) (c r td lf:Nat) (x:Option D):Zam:=[W,B,some (.ref c),some (.ref r),some (.ref td),some (.ref lf),x]
section
variable {M0:Store} {ck:List (Zav × D)} {c r td lf:Nat} {rows todo left:List D} {M:Store} {W B:Option D}
theorem Zlx (h:LI M0 ck c r td lf rows (.tup x :: todo) left M) (hz:rows.length < 900000) (y:Option D):∃ S,Zhv (lrE W B c r td lf y) M = .nx (lrE W B c r td lf (some (.tup x))) S ∧ LI M0 ck c r td lf (rows ++ [.tup x]) todo left S:=by
 have h1:=h.sett todo
 exact ⟨_,(Zn (Zx (ZdR rfl h.ht))).trans ((ZbO (ZbG rfl (show ZaD .tuple (.tup x) _ = .ok (.bl true) _ from rfl))).trans (Zdg rfl h1.hr rfl h1.hr (Nat.lt_trans hz (by decide)))),h1.setr _⟩
theorem ZrO {i b:Int} (h:LI M0 ck c r td lf rows (.int b :: todo) (.int i :: left) M) (hz:rows.length < 900000) (y:Option D):∃ S,Zhv (lrE W B c r td lf y) M = .nx (lrE W B c r td lf (some (.int b))) S ∧ LI M0 ck c r td lf (rows ++ [ZfR b i]) todo left S:=by
 have h1:=h.sett todo
 have h2:=h1.setl left
 refine ⟨_,(Zn (Zx (ZdR rfl h.ht))).trans ((ZaZ (ZbG rfl (show ZaD .tuple (.int b) _ = .ok (.bl false) _ from rfl))).trans ((ZbO (ZbG (Zg rfl rfl (Zbe h1.hl (ZaU _ 0))) (show ZaD .int (.int i) _ = .ok (.bl true) _ from rfl))).trans (Zdg rfl h1.hr (Zv (Zh rfl (Zh rfl (Zh (ZdR rfl h1.hl) rfl))) rfl) h2.hr (Nat.lt_trans hz (by decide))))),h2.setr _⟩
theorem ZrV {b:Int} (h:LI M0 ck c r td lf rows (.int b :: todo) (.str CEL :: left) M) (hz:todo.length < 800000) (y:Option D):∃ S td',Zhv (lrE W B c r td lf y) M = .nx (lrE W B c r td' lf (some (.int b))) S ∧ LI M0 ck c r td' lf rows (.int b :: ZdP [97,100,100] b b b :: Zf4 b b :: todo) left S:=by
 have h1:=h.sett todo
 have h2:=h1.setl left
 have hg:=h1.hl
 have h3:=h2.newt (.lst [.int b,ZdP [97,100,100] b b b,Zf4 b b]) (.int b :: ZdP [97,100,100] b b b :: Zf4 b b :: todo)
 refine ⟨_,_,(Zn (Zx (ZdR rfl h.ht))).trans ((ZaZ (ZbG rfl (show ZaD .tuple (.int b) _ = .ok (.bl false) _ from rfl))).trans ((ZaZ (ZbG (Zg rfl rfl (Zbe hg (ZaU _ 0))) (show ZaD .int (.str CEL) _ = .ok (.bl false) _ from rfl))).trans ((ZbO (Zg (Zg rfl rfl (Zbe hg (ZaU _ 0))) rfl (Zdl rfl))).trans ((Zn (Zcs (ZdR rfl hg))).trans (Zx (Zg (Zbg (ds:=[.int b,ZdP [97,100,100] b b b,Zf4 b b]) (Zh rfl (Zh (Zv rfl rfl) (Zh (Zv rfl rfl) rfl))) rfl) rfl (Zii (Zax _ _ _) (ZaW h2.ht _) (by simp; omega)))))))),?_⟩
 have e:(((M.set td (.lst todo)).set lf (.lst left)) ++ [MO.lst [.int b,ZdP [97,100,100] b b b,Zf4 b b]]).length = ((M.set td (.lst todo)).set lf (.lst left)).length + 1:=by simp
 rw [e]; exact h3
theorem Zr4 {b:Int} {o:Nat} (h:LI M0 ck c r td lf rows (.int b :: todo) (.str (opW o) :: left) M) (hz:todo.length < 800000) (y:Option D):∃ S td',Zhv (lrE W B c r td lf y) M = .nx (lrE W B c r td' lf (some (.int b))) S ∧ LI M0 ck c r td' lf rows (.int b :: .int (b + 1) :: ZdP (opW o) b b (b + 1) :: todo) left S:=by
 have h1:=h.sett todo
 have h2:=h1.setl left
 have hg:=h1.hl
 have h3:=h2.newt (.lst [.int b,.int (b + 1),ZdP (opW o) b b (b + 1)]) (.int b :: .int (b + 1) :: ZdP (opW o) b b (b + 1) :: todo)
 have hne:opW o ≠ CEL:=by
  match o with
  | 0=>decide
  | 1=>decide
  | o + 2=>show [109,111,114,101] ≠ _; decide
 have hin:∀ M:Store,Znb (.str (opW o)) (.tup [.str [97,100,100],.str [115,117,98],.str [109,111,114,101]]) M = .ok (.bl true) M:=fun M=>by
  match o with
  | 0=>rfl
  | 1=>rfl
  | o + 2=>rfl
 refine ⟨_,_,(Zn (Zx (ZdR rfl h.ht))).trans ((ZaZ (ZbG rfl (show ZaD .tuple (.int b) _ = .ok (.bl false) _ from rfl))).trans ((ZaZ (ZbG (Zg rfl rfl (Zbe hg (ZaU _ 0))) (show ZaD .int (.str (opW o)) _ = .ok (.bl false) _ from rfl))).trans ((ZaZ (Zg (Zg rfl rfl (Zbe hg (ZaU _ 0))) rfl (ZaR hne))).trans ((ZbO (Zg (Zg rfl rfl (Zbe hg (ZaU _ 0))) (Zv rfl rfl) (hin _))).trans (Zx (Zg (Zbg (ds:=[.int b,.int (b + 1),ZdP (opW o) b b (b + 1)]) (Zh rfl (Zh (Zg rfl rfl rfl) (Zh (Zv (Zh (ZdR rfl hg) (Zh rfl (Zh rfl (Zh (Zg rfl rfl rfl) rfl)))) rfl) rfl))) rfl) rfl (Zii (Zax _ _ _) (ZaW h2.ht _) (by simp; omega)))))))),?_⟩
 have e:(((M.set td (.lst todo)).set lf (.lst left)) ++ [MO.lst [.int b,.int (b + 1),ZdP (opW o) b b (b + 1)]]).length = ((M.set td (.lst todo)).set lf (.lst left)).length + 1:=by simp
 rw [e]; exact h3
theorem Ztf {b:Int} {x:List Nat} (hx:Zao x = false) (hk:∃ z,Zb5 ck (.inr x) = some (.int z)) (h:LI M0 ck c r td lf rows (.int b :: todo) (.str x :: left) M) (hz:rows.length < 800000) (y:Option D):∃ S r',Zhv (lrE W B c r td lf y) M = .nx (lrE W B c r' td lf (some (.int b))) S ∧ LI M0 ck c r' td lf (rows ++ [ZfR 7 (intOf ck (.inr x)),Zf4 b 7]) todo left S:=by
 have h1:=h.sett todo
 have h2:=h1.setl left
 have hg:=h1.hl
 have h3:=h2.newr (.lst [ZfR 7 (intOf ck (.inr x)),Zf4 b 7]) (rows ++ [ZfR 7 (intOf ck (.inr x)),Zf4 b 7])
 have n1:¬ x = CEL:=fun e=>by rw [e] at hx; exact absurd hx (by decide)
 have hin:∀ M:Store,Znb (.str x) (.tup [.str [97,100,100],.str [115,117,98],.str [109,111,114,101]]) M = .ok (.bl false) M:=fun M=>by
  have a1:¬ [97,100,100] = x:=fun e=>by rw [← e] at hx; exact absurd hx (by decide)
  have a2:¬ [115,117,98] = x:=fun e=>by rw [← e] at hx; exact absurd hx (by decide)
  have a3:¬ [109,111,114,101] = x:=fun e=>by rw [← e] at hx; exact absurd hx (by decide)
  show (match some ((([97,100,100]:List Nat) == x) || ((([115,117,98]:List Nat) == x) || ((([109,111,114,101]:List Nat) == x) || false))) with | some r=>R3.ok (D.bl r) M | none=>R3.bad) = _
  rw [beq_eq_false_iff_ne.mpr a1,beq_eq_false_iff_ne.mpr a2,beq_eq_false_iff_ne.mpr a3]; rfl
 refine ⟨_,_,(Zn (Zx (ZdR rfl h.ht))).trans ((ZaZ (ZbG rfl (show ZaD .tuple (.int b) _ = .ok (.bl false) _ from rfl))).trans ((ZaZ (ZbG (Zg rfl rfl (Zbe hg (ZaU _ 0))) (show ZaD .int (.str x) _ = .ok (.bl false) _ from rfl))).trans ((ZaZ (Zg (Zg rfl rfl (Zbe hg (ZaU _ 0))) rfl (ZaR n1))).trans ((ZaZ (Zg (Zg rfl rfl (Zbe hg (ZaU _ 0))) (Zv rfl rfl) (hin _))).trans (Zx (Zg rfl (Zbg (ds:=[ZfR 7 (intOf ck (.inr x)),Zf4 b 7]) (Zh (Zv (Zh rfl (Zh rfl (Zh (Zg rfl (ZdR rfl hg) (ZhI h2.hc hk)) rfl))) rfl) (Zh (Zv rfl rfl) rfl)) rfl) (Zii (ZaW h2.hr _) (Zax _ _ _) (by simp; omega)))))))),?_⟩
 have e:(((M.set td (.lst todo)).set lf (.lst left)) ++ [MO.lst [ZfR 7 (intOf ck (.inr x)),Zf4 b 7]]).length = ((M.set td (.lst todo)).set lf (.lst left)).length + 1:=by simp
 rw [e]; exact h3
end
noncomputable def Sm.turns:Sm → Nat
 | .num _=>1
 | .nam _=>1
 | .cel a=>a.turns + 3
 | .two _ a b=>a.turns + b.turns + 2
theorem ZgM:∀ t:Sm,t.turns ≤ 3 * t.flat.length
 | .num _=>by simp [Sm.turns,Sm.flat]
 | .nam _=>by simp [Sm.turns,Sm.flat]
 | .cel a=>by have:=ZgM a; simp [Sm.turns,Sm.flat]; omega
 | .two _ a b=>by have:=ZgM a; have:=ZgM b; simp [Sm.turns,Sm.flat]; omega
noncomputable abbrev Zll:E3:=e2 ZeL (Zaq ZaF (Za (Zc 4) (Ze))) (eC (.int 0))
theorem Zd4 {M0:Store} {ck:List (Zav × D)} {c r td lf:Nat} {rows todo left:List D} {d:D} {M S:Store} {W B y:Option D} {e':Zam} (f:Nat) (h:LI M0 ck c r td lf rows (d :: todo) left M) (hb:Zhv (lrE W B c r td lf y) M = .nx e' S):ZcW Zll Zhv (f + 1) (lrE W B c r td lf y) M = ZcW Zll Zhv f e' S:=by
 have hc:Zll (lrE W B c r td lf y) M = .ok (.bl true) M:=Zg (ZaS rfl (ZaM h.ht)) rfl (by rw [ZdX,decide_eq_true (by simp)])
 rw [Zdf,hc]
 show (match Zhv _ _ with | .nx e M'=>_ | .ct e M'=>_ | .bk e M'=>_ | o=>o) = _
 rw [hb]
theorem ZjS {M0:Store} {ck:List (Zav × D)} {c lf:Nat} {W B:Option D}:∀ (t:Sm),t.good → t.kn ck → t.flat.length ≤ 500 → ∀ (f:Nat) (b:Int) (rows todo left:List D) (r td:Nat) (M:Store) (y:Option D),rows.length + 2 * t.flat.length ≤ 700000 → todo.length + 3 * t.flat.length ≤ 700000 → LI M0 ck c r td lf rows (.int b :: todo) (t.flat ++ left) M →
  ∃ S r' td' y',ZcW Zll Zhv (t.turns + f) (lrE W B c r td lf y) M = ZcW Zll Zhv f (lrE W B c r' td' lf y') S ∧ LI M0 ck c r' td' lf (rows ++ t.rows ck b) todo left S
 | .num i,_,_,_,f,b,rows,todo,left,r,td,M,y,h1,_,h=>by
  obtain ⟨S,e,h2⟩:=ZrO (W:=W) (B:=B) h (by omega) y
  refine ⟨S,r,td,some (.int b),?_,h2⟩
  rw [show (Sm.num i).turns + f = f + 1 from Nat.add_comm 1 f]
  exact Zd4 f h e
 | .nam x,hg,hk,_,f,b,rows,todo,left,r,td,M,y,h1,_,h=>by
  obtain ⟨S,r',e,h2⟩:=Ztf (W:=W) (B:=B) hg hk h (by omega) y
  refine ⟨S,r',td,some (.int b),?_,h2⟩
  rw [show (Sm.nam x).turns + f = f + 1 from Nat.add_comm 1 f]
  exact Zd4 f h e
 | .cel s,hg,hk,hl,f,b,rows,todo,left,r,td,M,y,h1,h0,h=>by
  have hfl:(Sm.cel s).flat.length = s.flat.length + 1:=by simp [Sm.flat]
  have hrl:=Zbp ck s b
  obtain ⟨S,td1,e,h2⟩:=ZrV (W:=W) (B:=B) h (by omega) y
  obtain ⟨S2,r2,td2,y2,e2',h3⟩:=ZjS s hg hk (by omega) (f + 1 + 1) b rows (ZdP [97,100,100] b b b :: Zf4 b b :: todo) left r td1 S (some (.int b)) (by omega) (by simp; omega) h2
  obtain ⟨S3,e3',h4⟩:=Zlx (W:=W) (B:=B) h3 (by simp; omega) y2
  obtain ⟨S4,e4,h5⟩:=Zlx (W:=W) (B:=B) h4 (by simp; omega) (some (ZdP [97,100,100] b b b))
  refine ⟨S4,r2,td2,some (Zf4 b b),?_,by simpa [Sm.rows] using h5⟩
  rw [show (Sm.cel s).turns + f = (s.turns + (f + 1 + 1)) + 1 by simp [Sm.turns]; omega,Zd4 _ h e,e2',Zd4 _ h3 e3',Zd4 _ h4 e4]
 | .two o s u,hg,hk,hl,f,b,rows,todo,left,r,td,M,y,h1,h0,h=>by
  have hfl:(Sm.two o s u).flat.length = s.flat.length + u.flat.length + 1:=by simp [Sm.flat]
  have hrl:=Zbp ck s b
  have hru:=Zbp ck u (b + 1)
  have hm:(Sm.two o s u).flat ++ left = .str (opW o) :: (s.flat ++ (u.flat ++ left)):=by simp [Sm.flat]
  rw [hm] at h
  obtain ⟨S,td1,e,h2⟩:=Zr4 (W:=W) (B:=B) h (by omega) y
  obtain ⟨S2,r2,td2,y2,e2',h3⟩:=ZjS s hg.1 hk.1 (by omega) (u.turns + (f + 1)) b rows (.int (b + 1) :: ZdP (opW o) b b (b + 1) :: todo) (u.flat ++ left) r td1 S (some (.int b)) (by omega) (by simp; omega) h2
  obtain ⟨S3,r3,td3,y3,e3',h4⟩:=ZjS u hg.2 hk.2 (by omega) (f + 1) (b + 1) (rows ++ s.rows ck b) (ZdP (opW o) b b (b + 1) :: todo) left r2 td2 S2 y2 (by simp; omega) (by simp; omega) h3
  obtain ⟨S4,e4,h5⟩:=Zlx (W:=W) (B:=B) h4 (by simp; omega) y3
  refine ⟨S4,r3,td3,some (ZdP (opW o) b b (b + 1)),?_,by simpa [Sm.rows] using h5⟩
  rw [show (Sm.two o s u).turns + f = (s.turns + (u.turns + (f + 1))) + 1 by simp [Sm.turns]; omega,Zd4 _ h e,e2',e3',Zd4 _ h4 e4]
theorem Zsi {ck:List (Zav × D)} {t:Sm} (hg:t.good) (hk:t.kn ck) (hl:t.flat.length ≤ 500):ZkD ck Zag t:=by
 intro M c b hc
 refine FL.of (env:=[some (.tup t.flat),some (.int b),some (.ref c),none,none,none,none]) ?_ rfl rfl
 unfold ZcV
 have hcl:=(List.getElem?_eq_some_iff.mp hc).1
 let M3:Store:=M ++ [.lst [],.lst [.int b],.lst t.flat]
 have h0:LI M ck c M.length (M.length + 1) (M.length + 2) [] (.int b :: []) (t.flat ++ []) M3:=⟨List.prefix_append _ _,ZdU M [.lst [],.lst [.int b],.lst t.flat] 0,ZdU M [.lst [],.lst [.int b],.lst t.flat] 1,by rw [List.append_nil]; exact ZdU M [.lst [],.lst [.int b],.lst t.flat] 2,ZaW hc _,Nat.le_refl _,by omega,by omega,by omega,by omega,by omega⟩
 have ht:=ZgM t
 obtain ⟨S,r',td',y',e,h1⟩:=ZjS (W:=some (.tup t.flat)) (B:=some (.int b)) t hg hk hl (1000000 - t.turns) b [] [] [] M.length (M.length + 1) M3 none (by simp; omega) (by simp; omega) h0
 rw [show t.turns + (1000000 - t.turns) = 1000000 by omega] at e
 have hend:ZcW Zll Zhv (1000000 - t.turns) (lrE (some (.tup t.flat)) (some (.int b)) c r' td' (M.length + 2) y') S = .nx (lrE (some (.tup t.flat)) (some (.int b)) c r' td' (M.length + 2) y') S:=by
  obtain ⟨k,hk⟩:∃ k,1000000 - t.turns = k + 1:=⟨1000000 - t.turns - 1,by omega⟩
  have hcnd:Zll (lrE (some (.tup t.flat)) (some (.int b)) c r' td' (M.length + 2) y') S = .ok (.bl false) S:=Zg (ZaS rfl (ZaM h1.ht)) rfl rfl
  rw [hk,Zdf,hcnd]
 rw [hend] at e
 rw [List.nil_append] at h1
 refine BL.step (env':=[some (.tup t.flat),some (.int b),some (.ref c),some (.ref M.length),none,none,none]) (S:=M ++ [.lst []]) (Zx (Zbg rfl rfl)) ?_
 refine BL.step (env':=[some (.tup t.flat),some (.int b),some (.ref c),some (.ref M.length),some (.ref (M.length + 1)),none,none]) (S:=M ++ [.lst [],.lst [.int b]]) (Zx ?_) ?_
 ·refine (Zbg (ds:=[.int b]) (M':=M ++ [MO.lst []]) rfl rfl).trans ?_
  rw [List.append_assoc,List.length_append]; rfl
 refine BL.step (env':=lrE (some (.tup t.flat)) (some (.int b)) c M.length (M.length + 1) (M.length + 2) none) (S:=M3) (Zx ?_) ?_
 ·refine (ZaS (a:=.tup t.flat) (M1:=M ++ [MO.lst [],.lst [.int b]]) rfl (Zip _)).trans ?_
  show R3.ok (D.ref (M ++ _).length) ((M ++ _) ++ _) = _
  rw [List.append_assoc,List.length_append]; rfl
 refine BL.step e ?_
 exact ⟨r',S,ZbP rfl,h1.p,h1.hr,h1.lr⟩
inductive Ds where
 | nil
 | set (x:List Nat) (t:Sm) (r:Ds)
 | put (t u:Sm) (r:Ds)
 | tell (t:Sm) (r:Ds)
 | whn (t:Sm) (a b r:Ds)
 | whl (t:Sm) (a r:Ds)
noncomputable abbrev Zpo:List Nat:=[115,101,116]
noncomputable abbrev Zn2:List Nat:=[112,117,116]
noncomputable abbrev Zps:List Nat:=[116,101,108,108]
noncomputable abbrev Zjs:List Nat:=[119,104,101,110]
noncomputable abbrev ZkM:List Nat:=[119,104,105,108,101]
noncomputable abbrev ZdE (x:List Nat) (t:Sm):D:=.tup [.str Zpo,.str x,.tup t.flat]
noncomputable abbrev Zd8 (t u:Sm):D:=.tup [.str Zn2,.tup t.flat,.tup u.flat]
noncomputable abbrev ZcU (t:Sm):D:=.tup [.str Zps,.tup t.flat]
noncomputable abbrev ZcH (t:Sm) (a b:List D):D:=.tup [.str Zjs,.tup t.flat,.tup a,.tup b]
noncomputable abbrev ZcF (t:Sm) (a:List D):D:=.tup [.str ZkM,.tup t.flat,.tup a]
noncomputable def Ds.enc:Ds → List D
 | .nil=>[]
 | .set x t r=>ZdE x t :: r.enc
 | .put t u r=>Zd8 t u :: r.enc
 | .tell t r=>ZcU t :: r.enc
 | .whn t a b r=>ZcH t a.enc b.enc :: r.enc
 | .whl t a r=>ZcF t a.enc :: r.enc
def Sm.ok (t:Sm):Prop:=t.good ∧ t.flat.length ≤ 13
noncomputable def Ds.ok:Ds → Prop
 | .nil=>True
 | .set x t r=>Zao x = false ∧ t.ok ∧ r.ok
 | .put t u r=>t.ok ∧ u.ok ∧ r.ok
 | .tell t r=>t.ok ∧ r.ok
 | .whn t a b r=>t.ok ∧ a.ok ∧ b.ok ∧ r.ok
 | .whl t a r=>t.ok ∧ a.ok ∧ r.ok
noncomputable def Ds.kn (ck:List (Zav × D)):Ds → Prop
 | .nil=>True
 | .set x t r=>(∃ z,Zb5 ck (.inr x) = some (.int z)) ∧ t.kn ck ∧ r.kn ck
 | .put t u r=>t.kn ck ∧ u.kn ck ∧ r.kn ck
 | .tell t r=>t.kn ck ∧ r.kn ck
 | .whn t a b r=>t.kn ck ∧ a.kn ck ∧ b.kn ck ∧ r.kn ck
 | .whl t a r=>t.kn ck ∧ a.kn ck ∧ r.kn ck
noncomputable def Ds.dep:Ds → Nat
 | .nil=>0
 | .set _ _ r=>r.dep
 | .put _ _ r=>r.dep
 | .tell _ r=>r.dep
 | .whn _ a b r=>max (max a.dep b.dep + 1) r.dep
 | .whl _ a r=>max (a.dep + 1) r.dep
noncomputable def Ds.wt:Ds → Nat
 | .nil=>0
 | .set _ t r=>2 * t.flat.length + 3 + r.wt
 | .put t u r=>2 * t.flat.length + 2 * u.flat.length + 3 + r.wt
 | .tell t r=>2 * t.flat.length + 3 + r.wt
 | .whn t a b r=>2 * t.flat.length + 3 + a.wt + b.wt + r.wt
 | .whl t a r=>2 * t.flat.length + 3 + a.wt + r.wt
noncomputable def ZjM (ck:List (Zav × D)) (x:List Nat) (t:Sm):List D:=t.rows ck 0 ++ [ZfR 7 (intOf ck (.inr x)),ZiB 7 0]
noncomputable def Zh6 (ck:List (Zav × D)) (t u:Sm):List D:=t.rows ck 0 ++ [ZdP [97,100,100] 0 0 0] ++ u.rows ck 1 ++ [ZiB 0 1]
noncomputable def ZgF (ck:List (Zav × D)) (t:Sm):List D:=t.rows ck 0 ++ [Zq4]
noncomputable def Zio (ck:List (Zav × D)) (t:Sm) (A B:Int → List D) (p:Int):List D:=
 t.rows ck 0 ++ [ZmG (p + ((t.rows ck 0).length:Int) + 1 + ((B (p + ((t.rows ck 0).length:Int) + 1)).length:Int) + 1)] ++ B (p + ((t.rows ck 0).length:Int) + 1) ++
  [Zjg (p + ((t.rows ck 0).length:Int) + 1 + ((B (p + ((t.rows ck 0).length:Int) + 1)).length:Int) + 1 + ((A (p + ((t.rows ck 0).length:Int) + 1 + ((B (p + ((t.rows ck 0).length:Int) + 1)).length:Int) + 1)).length:Int))] ++
  A (p + ((t.rows ck 0).length:Int) + 1 + ((B (p + ((t.rows ck 0).length:Int) + 1)).length:Int) + 1)
noncomputable def Zh0 (ck:List (Zav × D)) (t:Sm) (A:Int → List D) (p:Int):List D:=
 t.rows ck 0 ++ [ZmG (p + ((t.rows ck 0).length:Int) + 2),Zjg (p + ((t.rows ck 0).length:Int) + 2 + ((A (p + ((t.rows ck 0).length:Int) + 2)).length:Int) + 1)] ++ A (p + ((t.rows ck 0).length:Int) + 2) ++ [Zjg p]
noncomputable def Ds.rows (ck:List (Zav × D)):Ds → Int → List D
 | .nil,_=>[]
 | .set x t r,p=>ZjM ck x t ++ r.rows ck (p + ((ZjM ck x t).length:Int))
 | .put t u r,p=>Zh6 ck t u ++ r.rows ck (p + ((Zh6 ck t u).length:Int))
 | .tell t r,p=>ZgF ck t ++ r.rows ck (p + ((ZgF ck t).length:Int))
 | .whn t a b r,p=>Zio ck t (a.rows ck) (b.rows ck) p ++ r.rows ck (p + ((Zio ck t (a.rows ck) (b.rows ck) p).length:Int))
 | .whl t a r,p=>Zh0 ck t (a.rows ck) p ++ r.rows ck (p + ((Zh0 ck t (a.rows ck) p).length:Int))
theorem Zib (ck:List (Zav × D)) (x:List Nat) (t:Sm):(ZjM ck x t).length ≤ 2 * t.flat.length + 3:=by
 have:=Zbp ck t 0; simp [ZjM]; omega
theorem Zik (ck:List (Zav × D)) (t u:Sm):(Zh6 ck t u).length ≤ 2 * t.flat.length + 2 * u.flat.length + 3:=by
 have:=Zbp ck t 0; have:=Zbp ck u 1; simp [Zh6]; omega
theorem Zg6 (ck:List (Zav × D)) (t:Sm):(ZgF ck t).length ≤ 2 * t.flat.length + 3:=by
 have:=Zbp ck t 0; simp [ZgF]; omega
theorem ZhN (ck:List (Zav × D)) (t:Sm) {A B:Int → List D} {x y:Nat} (hA:∀ p,(A p).length ≤ x) (hB:∀ p,(B p).length ≤ y) (p:Int):(Zio ck t A B p).length ≤ 2 * t.flat.length + 3 + x + y:=by
 have h1:=Zbp ck t 0
 have h2:=hB (p + ((t.rows ck 0).length:Int) + 1)
 have h3:=hA (p + ((t.rows ck 0).length:Int) + 1 + ((B (p + ((t.rows ck 0).length:Int) + 1)).length:Int) + 1)
 simp only [Zio,List.length_append,List.length_cons,List.length_nil]; omega
theorem Zh3 (ck:List (Zav × D)) (t:Sm) {A:Int → List D} {x:Nat} (hA:∀ p,(A p).length ≤ x) (p:Int):(Zh0 ck t A p).length ≤ 2 * t.flat.length + 3 + x:=by
 have h1:=Zbp ck t 0
 have h2:=hA (p + ((t.rows ck 0).length:Int) + 2)
 simp only [Zh0,List.length_append,List.length_cons,List.length_nil]; omega
theorem ZbH (ck:List (Zav × D)):∀ (ds:Ds) (p:Int),(ds.rows ck p).length ≤ ds.wt
 | .nil,_=>Nat.le_refl _
 | .set x t r,p=>by have:=Zib ck x t; have:=ZbH ck r (p + ((ZjM ck x t).length:Int)); simp only [Ds.rows,Ds.wt,List.length_append]; omega
 | .put t u r,p=>by have:=Zik ck t u; have:=ZbH ck r (p + ((Zh6 ck t u).length:Int)); simp only [Ds.rows,Ds.wt,List.length_append]; omega
 | .tell t r,p=>by have:=Zg6 ck t; have:=ZbH ck r (p + ((ZgF ck t).length:Int)); simp only [Ds.rows,Ds.wt,List.length_append]; omega
 | .whn t a b r,p=>by have:=ZhN ck t (ZbH ck a) (ZbH ck b) p; have:=ZbH ck r (p + ((Zio ck t (a.rows ck) (b.rows ck) p).length:Int)); simp only [Ds.rows,Ds.wt,List.length_append]; omega
 | .whl t a r,p=>by have:=Zh3 ck t (ZbH ck a) p; have:=ZbH ck r (p + ((Zh0 ck t (a.rows ck) p).length:Int)); simp only [Ds.rows,Ds.wt,List.length_append]; omega
def ZgI (ck:List (Zav × D)) (F:F3) (ds:Ds):Prop:=∀ (M:Store) (c:Nat) (p:Int),M[c]? = some (.dct ck) → FL F [.tup ds.enc,.int p,.ref c] M (ds.rows ck p)
section
variable {ck:List (Zav × D)}
theorem Zhg {t:Sm} (h:t.ok) (hk:t.kn ck):ZkD ck Za8 t:=ZsU h.1 hk h.2
theorem Zht {t:Sm} (h:t.ok) (b:Int):(t.rows ck b).length ≤ 26:=by have:=Zbp ck t b; have:=h.2; omega
theorem ZoF {x:List Nat} (hx:∃ z,Zb5 ck (.inr x) = some (.int z)) (b:Int) {M:Store} {c:Nat} (hc:M[c]? = some (.dct ck)):FL Zbo [.str x,.int b,.ref c] M [ZfR 7 (intOf ck (.inr x)),ZiB 7 b]:=
 FL.of (env:=[some (.str x),some (.int b),some (.ref c)]) (BL.ret (LF.lst (Zh (Zv (Zh rfl (Zh rfl (Zh (Zg rfl rfl (ZhI hc hx)) rfl))) rfl) (Zh (Zv rfl rfl) rfl)) rfl) (List.prefix_refl _)) rfl rfl
theorem ZkL (rec:Nat → F3) {x:List Nat} {t:Sm} (hx:∃ z,Zb5 ck (.inr x) = some (.int z)) (ht:t.ok) (hk:t.kn ck) {M:Store} {c:Nat} (p:Int) (hc:M[c]? = some (.dct ck)):FL (mkF 3 4 (Zbn rec)) [ZdE x t,.int p,.ref c] M (ZjM ck x t):=by
 refine FL.of (env:=[some (ZdE x t),some (.int p),some (.ref c),none]) ?_ rfl rfl
 unfold Zbn
 have hl:=Zht (ck:=ck) ht 0
 exact BL.skip (Zg rfl rfl (ZaR (by decide))) (BL.skip (Zg rfl rfl (ZaR (by decide))) (BL.skip (Zg rfl rfl (ZaR (by decide))) (BL.take (Zg rfl rfl (Zdl rfl)) (BL.ret (LE.add (LF.call rfl (Zhg ht hk M c 0 hc)).le (fun S pS=>(LF.call rfl (ZoF hx 0 (Zah pS hc))).le) (by simp; omega)) (List.prefix_refl _)))))
theorem Zi6 (rec:Nat → F3) {t:Sm} (ht:t.ok) (hk:t.kn ck) {M:Store} {c:Nat} (p:Int) (hc:M[c]? = some (.dct ck)):FL (mkF 3 4 (Zbn rec)) [ZcU t,.int p,.ref c] M (ZgF ck t):=by
 refine FL.of (env:=[some (ZcU t),some (.int p),some (.ref c),none]) ?_ rfl rfl
 unfold Zbn
 have hl:=Zht (ck:=ck) ht 0
 exact BL.skip (Zg rfl rfl (ZaR (by decide))) (BL.skip (Zg rfl rfl (ZaR (by decide))) (BL.skip (Zg rfl rfl (ZaR (by decide))) (BL.skip (Zg rfl rfl (ZaR (by decide))) (BL.ret (LE.add (LF.call rfl (Zhg ht hk M c 0 hc)).le (fun S pS=>(LF.lst (Zh (Zv rfl rfl) rfl) rfl).le) (by simp; omega)) (List.prefix_refl _)))))
theorem Zku (rec:Nat → F3) {t u:Sm} (ht:t.ok) (hk:t.kn ck) (hu:u.ok) (hku:u.kn ck) {M:Store} {c:Nat} (p:Int) (hc:M[c]? = some (.dct ck)):FL (mkF 3 4 (Zbn rec)) [Zd8 t u,.int p,.ref c] M (Zh6 ck t u):=by
 refine FL.of (env:=[some (Zd8 t u),some (.int p),some (.ref c),none]) ?_ rfl rfl
 unfold Zbn
 have hl:=Zht (ck:=ck) ht 0
 have hl2:=Zht (ck:=ck) hu 1
 refine BL.skip (Zg rfl rfl (ZaR (by decide))) (BL.skip (Zg rfl rfl (ZaR (by decide))) (BL.take (Zg rfl rfl (Zdl rfl)) (BL.set (x:=t.rows ck 0 ++ [ZdP [97,100,100] 0 0 0]) (LE.add (LF.call rfl (Zhg ht hk M c 0 hc)).le (fun S pS=>(LF.lst (Zh (ZeI rfl (ZnP 0 S)) rfl) rfl).le) (by simp; omega)).le fun n S pS hn=>?_)))
 exact BL.ret (LE.add (LE.add (LE.var rfl hn) (fun T pT=>(LF.call rfl (Zhg hu hku T c 1 (Zah (pS.trans pT) hc))).le) (by simp; omega)).le (fun T pT=>(LF.lst (Zh (Zv rfl rfl) rfl) rfl).le) (by simp; omega)) pS
theorem ZpI (rec:Nat → F3) {t:Sm} {a b:Ds} (ht:t.ok) (hk:t.kn ck) (ha:ZgI ck (rec 0) a) (hb:ZgI ck (rec 0) b) (hw:a.wt + b.wt ≤ 200000) {M:Store} {c:Nat} (p:Int) (hc:M[c]? = some (.dct ck)):FL (mkF 3 9 (Zdc rec)) [ZcH t a.enc b.enc,.int p,.ref c] M (Zio ck t (a.rows ck) (b.rows ck) p):=by
 refine FL.of (env:=[some (ZcH t a.enc b.enc),some (.int p),some (.ref c),none,none,none,none,none,none]) ?_ rfl rfl
 unfold Zdc
 have hl:=Zht (ck:=ck) ht 0
 have hla:=ZbH ck a
 have hlb:=ZbH ck b
 refine BL.set (LF.call rfl (Zhg ht hk M c 0 hc)).le fun n1 S1 p1 g1=>?_
 refine BL.setv (d:=.int (p + ((t.rows ck 0).length:Int) + 1)) (Zg (Zg rfl (ZaS rfl (ZaM g1)) rfl) rfl rfl) ?_
 refine BL.set (LF.call rfl (hb S1 c (p + ((t.rows ck 0).length:Int) + 1) (Zah p1 hc))).le fun n2 S2 p2 g2=>?_
 refine BL.setv (d:=.int (p + ((t.rows ck 0).length:Int) + 1 + ((b.rows ck (p + ((t.rows ck 0).length:Int) + 1)).length:Int) + 1)) (Zg (Zg rfl (ZaS rfl (ZaM g2)) rfl) rfl rfl) ?_
 refine BL.set (LF.call rfl (ha S2 c (p + ((t.rows ck 0).length:Int) + 1 + ((b.rows ck (p + ((t.rows ck 0).length:Int) + 1)).length:Int) + 1) (Zah (p1.trans p2) hc))).le fun n3 S3 p3 g3=>?_
 refine BL.setv (Zg rfl (ZaS rfl (ZaM g3)) rfl) ?_
 have q1:=hlb (p + ((t.rows ck 0).length:Int) + 1)
 have q2:=hla (p + ((t.rows ck 0).length:Int) + 1 + ((b.rows ck (p + ((t.rows ck 0).length:Int) + 1)).length:Int) + 1)
 refine BL.ret (LE.add (LE.add (LE.add (LE.add (LE.var rfl (Zah (p2.trans p3) g1)) (fun T pT=>(LF.lst (Zh (Zv rfl rfl) rfl) rfl).le) ?_).le (fun T pT=>LE.var rfl (Zah (p3.trans pT) g2)) ?_).le (fun T pT=>(LF.lst (Zh (Zv rfl rfl) rfl) rfl).le) ?_).le (fun T pT=>LE.var rfl (Zah pT g3)) ?_) ((p1.trans p2).trans p3)
 all_goals simp; omega
theorem ZnT (rec:Nat → F3) {t:Sm} {a:Ds} (ht:t.ok) (hk:t.kn ck) (ha:ZgI ck (rec 0) a) (hw:a.wt ≤ 200000) {M:Store} {c:Nat} (p:Int) (hc:M[c]? = some (.dct ck)):FL (mkF 3 7 (ZcR rec)) [ZcF t a.enc,.int p,.ref c] M (Zh0 ck t (a.rows ck) p):=by
 refine FL.of (env:=[some (ZcF t a.enc),some (.int p),some (.ref c),none,none,none,none]) ?_ rfl rfl
 unfold ZcR
 have hl:=Zht (ck:=ck) ht 0
 have hla:=ZbH ck a (p + ((t.rows ck 0).length:Int) + 2)
 refine BL.set (LF.call rfl (Zhg ht hk M c 0 hc)).le fun n1 S1 p1 g1=>?_
 refine BL.setv (d:=.int (p + ((t.rows ck 0).length:Int) + 2)) (Zg (Zg rfl (ZaS rfl (ZaM g1)) rfl) rfl rfl) ?_
 refine BL.set (LF.call rfl (ha S1 c (p + ((t.rows ck 0).length:Int) + 2) (Zah p1 hc))).le fun n2 S2 p2 g2=>?_
 refine BL.setv (Zg (Zg rfl (ZaS rfl (ZaM g2)) rfl) rfl rfl) ?_
 refine BL.ret (LE.add (LE.add (LE.add (LE.var rfl (Zah p2 g1)) (fun T pT=>(LF.lst (Zh (Zv rfl rfl) (Zh (Zv rfl rfl) rfl)) rfl).le) ?_).le (fun T pT=>LE.var rfl (Zah pT g2)) ?_).le (fun T pT=>(LF.lst (Zh (Zv rfl rfl) rfl) rfl).le) ?_) (p1.trans p2)
 all_goals simp; omega
end
section
variable {ck:List (Zav × D)}
noncomputable abbrev Zsg (F:F3):S3:=Zak (ZaN tyL Zcn (Zc 3) (Za (Zt F (Za (Zc 4) (Za (e2 Zm (Zc 1) (Zaq ZaF (Za (Zc 3) (Ze)))) (Za (Zc 2) (Ze))))) (Ze)))
def Znv (ck:List (Zav × D)) (F:F3) (d:D) (h:Int → List D):Prop:=∀ (M:Store) (c:Nat) (p:Int),M[c]? = some (.dct ck) → FL F [d,.int p,.ref c] M (h p)
theorem Zfu {F:F3} {it:It3} (hi:it.lock = none) {W:Option D} {p:Int} {c r:Nat} {acc:List D} {d:D} {h:Int → List D} {M M0:Store} {x:Option D} (H:Znv ck F d h) (hp:M0 <+: M) (hr:M[r]? = some (.lst acc)) (hl:M0.length ≤ r) (hc:M[c]? = some (.dct ck)) (hz:acc.length + (h (p + (acc.length:Int))).length ≤ 800000) (ds:List D):
  ∃ S,Zbl it (ZbC 4) (Zsg F) (d :: ds) [W,some (.int p),some (.ref c),some (.ref r),x] M = Zbl it (ZbC 4) (Zsg F) ds [W,some (.int p),some (.ref c),some (.ref r),some d] S ∧ M0 <+: S ∧ S[r]? = some (.lst (acc ++ h (p + (acc.length:Int)))) ∧ S[c]? = some (.dct ck):=by
 have hcr:c ≠ r:=fun e=>by rw [e,hr] at hc; cases hc
 obtain ⟨S,e,p1⟩:=Zh8 (o:=Zc 3) (t:=Zt F (Za (Zc 4) (Za (e2 Zm (Zc 1) (Zaq ZaF (Za (Zc 3) (Ze)))) (Za (Zc 2) (Ze))))) (env:=[W,some (.int p),some (.ref c),some (.ref r),some d]) (ys:=h (p + (acc.length:Int))) rfl hr (LF.call (ds:=[d,.int (p + (acc.length:Int)),.ref c]) (Zh rfl (Zh (Zg rfl (ZaS rfl (ZaM hr)) rfl) rfl)) (H M c (p + (acc.length:Int)) hc)) (by omega)
 refine ⟨_,?_,Zcx (hp.trans p1) hl,List.getElem?_set_self (List.getElem?_eq_some_iff.mp (Zah p1 hr)).1,by rw [List.getElem?_set_ne hcr.symm]; exact Zah p1 hc⟩
 rw [ZcM,if_pos (by unfold locked; rw [hi])]
 simp only [ZbC,List.set_cons_succ,List.set_cons_zero,e]
noncomputable def ZjN (ck:List (Zav × D)) (F:F3):Ds → Prop
 | .nil=>True
 | .set x t r=>Znv ck F (ZdE x t) (fun _=>ZjM ck x t) ∧ ZjN ck F r
 | .put t u r=>Znv ck F (Zd8 t u) (fun _=>Zh6 ck t u) ∧ ZjN ck F r
 | .tell t r=>Znv ck F (ZcU t) (fun _=>ZgF ck t) ∧ ZjN ck F r
 | .whn t a b r=>Znv ck F (ZcH t a.enc b.enc) (Zio ck t (a.rows ck) (b.rows ck)) ∧ ZjN ck F r
 | .whl t a r=>Znv ck F (ZcF t a.enc) (Zh0 ck t (a.rows ck)) ∧ ZjN ck F r
theorem ZeR {F:F3} {it:It3} (hi:it.lock = none) {W:Option D} {p:Int} {c r:Nat} {M0:Store} (hl:M0.length ≤ r):∀ (ds:Ds),ZjN ck F ds → ∀ (acc:List D) (M:Store) (x:Option D),M0 <+: M → M[r]? = some (.lst acc) → M[c]? = some (.dct ck) → acc.length + ds.wt ≤ 700000 →
  ∃ S x',Zbl it (ZbC 4) (Zsg F) ds.enc [W,some (.int p),some (.ref c),some (.ref r),x] M = .nx [W,some (.int p),some (.ref c),some (.ref r),x'] S ∧ M0 <+: S ∧ S[r]? = some (.lst (acc ++ ds.rows ck (p + (acc.length:Int))))
 | .nil,_,acc,M,x,hp,hr,hc,_=>⟨M,x,by
  show Zbl _ _ _ [] _ _ = _
  rw [ZcO,if_pos (by unfold locked; rw [hi])],hp,by simpa [Ds.rows] using hr⟩
 | .set y t rr,H,acc,M,x,hp,hr,hc,hz=>by
  have h1:=Zib ck y t
  rw [Ds.wt] at hz
  obtain ⟨S,e,q1,q2,q3⟩:=Zfu (W:=W) (p:=p) (x:=x) hi H.1 hp hr hl hc (by omega) rr.enc
  obtain ⟨S2,x2,e2',q4,q5⟩:=ZeR hi hl rr H.2 _ S _ q1 q2 q3 (by simp; omega)
  exact ⟨S2,x2,e.trans e2',q4,by rw [q5,Ds.rows,List.length_append,List.append_assoc,Int.natCast_add,Int.add_assoc]⟩
 | .put t u rr,H,acc,M,x,hp,hr,hc,hz=>by
  have h1:=Zik ck t u
  rw [Ds.wt] at hz
  obtain ⟨S,e,q1,q2,q3⟩:=Zfu (W:=W) (p:=p) (x:=x) hi H.1 hp hr hl hc (by omega) rr.enc
  obtain ⟨S2,x2,e2',q4,q5⟩:=ZeR hi hl rr H.2 _ S _ q1 q2 q3 (by simp; omega)
  exact ⟨S2,x2,e.trans e2',q4,by rw [q5,Ds.rows,List.length_append,List.append_assoc,Int.natCast_add,Int.add_assoc]⟩
 | .tell t rr,H,acc,M,x,hp,hr,hc,hz=>by
  have h1:=Zg6 ck t
  rw [Ds.wt] at hz
  obtain ⟨S,e,q1,q2,q3⟩:=Zfu (W:=W) (p:=p) (x:=x) hi H.1 hp hr hl hc (by omega) rr.enc
  obtain ⟨S2,x2,e2',q4,q5⟩:=ZeR hi hl rr H.2 _ S _ q1 q2 q3 (by simp; omega)
  exact ⟨S2,x2,e.trans e2',q4,by rw [q5,Ds.rows,List.length_append,List.append_assoc,Int.natCast_add,Int.add_assoc]⟩
 | .whn t a b rr,H,acc,M,x,hp,hr,hc,hz=>by
  have h1:=ZhN ck t (ZbH ck a) (ZbH ck b) (p + (acc.length:Int))
  rw [Ds.wt] at hz
  obtain ⟨S,e,q1,q2,q3⟩:=Zfu (W:=W) (p:=p) (x:=x) hi H.1 hp hr hl hc (by omega) rr.enc
  obtain ⟨S2,x2,e2',q4,q5⟩:=ZeR hi hl rr H.2 _ S _ q1 q2 q3 (by rw [List.length_append]; omega)
  exact ⟨S2,x2,e.trans e2',q4,by rw [q5,Ds.rows,List.length_append,List.append_assoc,Int.natCast_add,Int.add_assoc]⟩
 | .whl t a rr,H,acc,M,x,hp,hr,hc,hz=>by
  have h1:=Zh3 ck t (ZbH ck a) (p + (acc.length:Int))
  rw [Ds.wt] at hz
  obtain ⟨S,e,q1,q2,q3⟩:=Zfu (W:=W) (p:=p) (x:=x) hi H.1 hp hr hl hc (by omega) rr.enc
  obtain ⟨S2,x2,e2',q4,q5⟩:=ZeR hi hl rr H.2 _ S _ q1 q2 q3 (by rw [List.length_append]; omega)
  exact ⟨S2,x2,e.trans e2',q4,by rw [q5,Ds.rows,List.length_append,List.append_assoc,Int.natCast_add,Int.add_assoc]⟩
theorem ZoB {rec:Nat → F3} {ds:Ds} (H:ZjN ck (rec 1) ds) (hw:ds.wt ≤ 600000):ZgI ck (mkF 3 5 (ZcP rec)) ds:=by
 intro M c p hc
 refine FL.of (env:=[some (.tup ds.enc),some (.int p),some (.ref c),none,none]) ?_ rfl rfl
 unfold ZcP
 obtain ⟨S,x,e,q1,q2⟩:=ZeR (F:=rec 1) (it:=⟨ds.enc,none⟩) rfl (W:=some (.tup ds.enc)) (p:=p) (c:=c) (M0:=M) (Nat.le_refl _) ds H [] (M ++ [.lst []]) none (List.prefix_append _ _) (Zax M _ []) (ZaW hc _) (by simp; omega)
 refine BL.step (env':=[some (.tup ds.enc),some (.int p),some (.ref c),some (.ref M.length),none]) (S:=M ++ [.lst []]) (Zx (Zbg rfl rfl)) (BL.step ((Zdz (it:=⟨ds.enc,none⟩) rfl).trans e) ?_)
 exact ⟨M.length,S,ZbP rfl,q1,by rw [q2]; simp,Nat.le_refl _⟩
theorem ZfL {j:Nat} (IH:∀ ds:Ds,ds.ok → ds.kn ck → ds.wt ≤ 100000 → 3 * ds.dep + 2 ≤ j → ZgI ck (Zar j 0) ds):∀ (ds:Ds),ds.ok → ds.kn ck → ds.wt ≤ 100000 → 3 * ds.dep + 2 ≤ j + 3 → ZjN ck (Zar (j + 2) 1) ds
 | .nil,_,_,_,_=>trivial
 | .set x t r,ho,hk,hw,hd=>⟨fun M c p hc=>ZkL _ hk.1 ho.2.1 hk.2.1 p hc,ZfL IH r ho.2.2 hk.2.2 (by simp only [Ds.wt] at hw; omega) hd⟩
 | .put t u r,ho,hk,hw,hd=>⟨fun M c p hc=>Zku _ ho.1 hk.1 ho.2.1 hk.2.1 p hc,ZfL IH r ho.2.2 hk.2.2 (by simp only [Ds.wt] at hw; omega) hd⟩
 | .tell t r,ho,hk,hw,hd=>⟨fun M c p hc=>Zi6 _ ho.1 hk.1 p hc,ZfL IH r ho.2 hk.2 (by simp only [Ds.wt] at hw; omega) hd⟩
 | .whn t a b r,ho,hk,hw,hd=>by
  simp only [Ds.wt] at hw
  simp only [Ds.dep] at hd
  refine ⟨fun M c p hc=>?_,ZfL IH r ho.2.2.2 hk.2.2.2 (by omega) (by omega)⟩
  have h1:=ZpI (Zar j) ho.1 hk.1 (IH a ho.2.1 hk.2.1 (by omega) (by omega)) (IH b ho.2.2.1 hk.2.2.1 (by omega) (by omega)) (by omega) p hc
  refine FL.of (env:=[some (ZcH t a.enc b.enc),some (.int p),some (.ref c),none]) ?_ rfl rfl
  exact BL.take (Zg rfl rfl (Zdl rfl)) (BL.ret (LF.call rfl h1) (List.prefix_refl _))
 | .whl t a r,ho,hk,hw,hd=>by
  simp only [Ds.wt] at hw
  simp only [Ds.dep] at hd
  refine ⟨fun M c p hc=>?_,ZfL IH r ho.2.2 hk.2.2 (by omega) (by omega)⟩
  have h1:=ZnT (Zar j) ho.1 hk.1 (IH a ho.2.1 hk.2.1 (by omega) (by omega)) (by omega) p hc
  refine FL.of (env:=[some (ZcF t a.enc),some (.int p),some (.ref c),none]) ?_ rfl rfl
  exact BL.skip (Zg rfl rfl (ZaR (by decide))) (BL.take (Zg rfl rfl (Zdl rfl)) (BL.ret (LF.call rfl h1) (List.prefix_refl _)))
theorem ZmM {j:Nat}:∀ (ds:Ds),ds.ok → ds.kn ck → ds.wt ≤ 100000 → ds.dep = 0 → ZjN ck (Zar (j + 1) 1) ds
 | .nil,_,_,_,_=>trivial
 | .set x t r,ho,hk,hw,hd=>⟨fun M c p hc=>ZkL _ hk.1 ho.2.1 hk.2.1 p hc,ZmM r ho.2.2 hk.2.2 (by simp only [Ds.wt] at hw; omega) hd⟩
 | .put t u r,ho,hk,hw,hd=>⟨fun M c p hc=>Zku _ ho.1 hk.1 ho.2.1 hk.2.1 p hc,ZmM r ho.2.2 hk.2.2 (by simp only [Ds.wt] at hw; omega) hd⟩
 | .tell t r,ho,hk,hw,hd=>⟨fun M c p hc=>Zi6 _ ho.1 hk.1 p hc,ZmM r ho.2 hk.2 (by simp only [Ds.wt] at hw; omega) hd⟩
 | .whn t a b r,_,_,_,hd=>by simp only [Ds.dep] at hd; omega
 | .whl t a r,_,_,_,hd=>by simp only [Ds.dep] at hd; omega
theorem ZqM:∀ (n:Nat) (ds:Ds),ds.ok → ds.kn ck → ds.wt ≤ 100000 → 3 * ds.dep + 2 ≤ n → ZgI ck (Zar n 0) ds:=by
 intro n
 induction n using Nat.strongRecOn with
 | ind n ih=>
  intro ds ho hk hw hd
  match n,ih,hd with
  | 0,_,hd=>omega
  | 1,_,hd=>omega
  | 2,_,hd=>exact ZoB (ZmM (j:=0) ds ho hk hw (by omega)) (by omega)
  | j + 3,ih,hd=>exact ZoB (ZfL (j:=j) (fun ds ho hk hw hd=>ih j (by omega) ds ho hk hw hd) ds ho hk hw hd) (by omega)
theorem Zr2 {ds:Ds} (ho:ds.ok) (hk:ds.kn ck) (hw:ds.wt ≤ 100000) (hd:ds.dep ≤ 3):ZgI ck ZcS ds:=ZqM 13 ds ho hk hw (by omega)
end
noncomputable abbrev Zn1 (rec:F3):S3:=Zy (Zaf 5 (e2 Zm (Zc 1) (Zaq ZaF (Za (Zc 3) (Ze))))) (sIf (e2 Za7 (e2 Zk (Zc 4) (eC (.int 0))) (eC (.str [115,101,116]))) (Zaf 3 (e2 Zm (e2 Zm (Zc 3) (Zt Zag (Za (e2 Zk (Zc 4) (eC (.int 2))) (Za (eC (.int 0)) (Za (Zc 2) (Ze)))))) (ZaE (Za (Zai (Za (eC (.str [112,117,116])) (Za (eC (.int 7)) (Za (e2 Zex (Zc 2) (e2 Zk (Zc 4) (eC (.int 1)))) (Ze))))) (Za (Zai (Za (eC (.str [115,101,116])) (Za (eC (.int 7)) (Za (eC (.int 0)) (Ze))))) (Ze)))))) (sIf (e2 Za7 (e2 Zk (Zc 4) (eC (.int 0))) (eC (.str [112,117,116]))) (Zy (Zaf 3 (e2 Zm (e2 Zm (Zc 3) (Zt Zag (Za (e2 Zk (Zc 4) (eC (.int 1))) (Za (eC (.int 0)) (Za (Zc 2) (Ze)))))) (ZaE (Za (Zai (Za (eC (.str [97,100,100])) (Za (eC (.int 0)) (Za (eC (.int 0)) (Za (eC (.int 0)) (Ze)))))) (Ze))))) (Zaf 3 (e2 Zm (e2 Zm (Zc 3) (Zt Zag (Za (e2 Zk (Zc 4) (eC (.int 2))) (Za (eC (.int 1)) (Za (Zc 2) (Ze)))))) (ZaE (Za (Zai (Za (eC (.str [115,101,116])) (Za (eC (.int 0)) (Za (eC (.int 1)) (Ze))))) (Ze)))))) (sIf (e2 Za7 (e2 Zk (Zc 4) (eC (.int 0))) (eC (.str [116,101,108,108]))) (Zaf 3 (e2 Zm (e2 Zm (Zc 3) (Zt Zag (Za (e2 Zk (Zc 4) (eC (.int 1))) (Za (eC (.int 0)) (Za (Zc 2) (Ze)))))) (ZaE (Za (Zai (Za (eC (.str [116,101,108,108])) (Za (eC (.int 0)) (Ze)))) (Ze))))) (sIf (e2 Za7 (e2 Zk (Zc 4) (eC (.int 0))) (eC (.str [119,104,101,110]))) (Zy (Zaf 6 (Zt Zag (Za (e2 Zk (Zc 4) (eC (.int 1))) (Za (eC (.int 0)) (Za (Zc 2) (Ze)))))) (Zy (Zaf 7 (Zt rec (Za (e2 Zk (Zc 4) (eC (.int 3))) (Za (e2 Zm (e2 Zm (Zc 5) (Zaq ZaF (Za (Zc 6) (Ze)))) (eC (.int 1))) (Za (Zc 2) (Ze)))))) (Zy (Zaf 8 (e2 Zm (e2 Zm (e2 Zm (Zc 5) (Zaq ZaF (Za (Zc 6) (Ze)))) (Zaq ZaF (Za (Zc 7) (Ze)))) (eC (.int 2)))) (Zy (Zaf 9 (Zt rec (Za (e2 Zk (Zc 4) (eC (.int 2))) (Za (Zc 8) (Za (Zc 2) (Ze)))))) (Zaf 3 (e2 Zm (e2 Zm (e2 Zm (e2 Zm (e2 Zm (Zc 3) (Zc 6)) (ZaE (Za (Zai (Za (eC (.str [119,104,101,110])) (Za (eC (.int 0)) (Za (Zc 8) (Ze))))) (Ze)))) (Zc 7)) (ZaE (Za (Zai (Za (eC (.str [106,117,109,112])) (Za (e2 Zm (Zc 8) (Zaq ZaF (Za (Zc 9) (Ze)))) (Ze)))) (Ze)))) (Zc 9))))))) (Zy (Zaf 6 (Zt Zag (Za (e2 Zk (Zc 4) (eC (.int 1))) (Za (eC (.int 0)) (Za (Zc 2) (Ze)))))) (Zy (Zaf 10 (Zt rec (Za (e2 Zk (Zc 4) (eC (.int 2))) (Za (e2 Zm (e2 Zm (Zc 5) (Zaq ZaF (Za (Zc 6) (Ze)))) (eC (.int 2))) (Za (Zc 2) (Ze)))))) (Zy (Zaf 11 (e2 Zm (e2 Zm (e2 Zm (Zc 5) (Zaq ZaF (Za (Zc 6) (Ze)))) (Zaq ZaF (Za (Zc 10) (Ze)))) (eC (.int 3)))) (Zaf 3 (e2 Zm (e2 Zm (e2 Zm (e2 Zm (Zc 3) (Zc 6)) (ZaE (Za (Zai (Za (eC (.str [119,104,101,110])) (Za (eC (.int 0)) (Za (e2 Zm (e2 Zm (Zc 5) (Zaq ZaF (Za (Zc 6) (Ze)))) (eC (.int 2))) (Ze))))) (Za (Zai (Za (eC (.str [106,117,109,112])) (Za (Zc 11) (Ze)))) (Ze))))) (Zc 10)) (ZaE (Za (Zai (Za (eC (.str [106,117,109,112])) (Za (Zc 5) (Ze)))) (Ze))))))))))))
noncomputable abbrev lE (W:Option D) (p:Int) (c r:Nat) (a4 a5 a6 a7 a8 a9 a10 a11:Option D):Zam:=[W,some (.int p),some (.ref c),some (.ref r),a4,a5,a6,a7,a8,a9,a10,a11]
def ZhU (ck:List (Zav × D)) (rec:F3) (d:D) (h:Int → List D) (w:Nat):Prop:=∀ (W:Option D) (p:Int) (c r:Nat) (acc:List D) (M:Store) (a5 a6 a7 a8 a9 a10 a11:Option D),M[c]? = some (.dct ck) → M[r]? = some (.lst acc) → acc.length + w ≤ 700000 →
 ∃ r' S b5 b6 b7 b8 b9 b10 b11,Zn1 rec (lE W p c r (some d) a5 a6 a7 a8 a9 a10 a11) M = .nx (lE W p c r' (some d) b5 b6 b7 b8 b9 b10 b11) S ∧ M <+: S ∧ S[r']? = some (.lst (acc ++ h (p + (acc.length:Int)))) ∧ M.length ≤ r'
section
variable {ck:List (Zav × D)}
theorem ZgY {t:Sm} (h:t.ok) (hk:t.kn ck):ZkD ck Zag t:=Zsi h.1 hk (by have:=h.2; omega)
theorem Zhy {i:Nat} {f:E3} {env:Zam} {M:Store} {x:List D} (h:LF f env M x):∃ n S,Zaf i f env M = .nx (env.set i (some (.ref n))) S ∧ M <+: S ∧ S[n]? = some (.lst x) ∧ M.length ≤ n:=by
 obtain ⟨n,S,h1,r⟩:=h
 exact ⟨n,S,Zx h1 rfl,r⟩
theorem ZsN (rec:F3) {x:List Nat} {t:Sm} (hx:∃ z,Zb5 ck (.inr x) = some (.int z)) (ht:t.ok) (hk:t.kn ck):ZhU ck rec (ZdE x t) (fun _=>ZjM ck x t) (2 * t.flat.length + 3):=by
 intro W p c r acc M a5 a6 a7 a8 a9 a10 a11 hc hr hz
 have hl:=Zht (ck:=ck) ht 0
 obtain ⟨n,S,e,p1,g1,l1⟩:=Zhy (i:=3) (env:=lE W p c r (some (ZdE x t)) (some (.int (p + (acc.length:Int)))) a6 a7 a8 a9 a10 a11) (M:=M) (LE.add (LE.add (x:=acc) (f:=Zc 3) (LE.var rfl hr) (fun T pT=>(LF.call (ds:=[.tup t.flat,.int 0,.ref c]) (g:=Za (e2 Zk (Zc 4) (eC (.int 2))) (Za (eC (.int 0)) (Za (Zc 2) (Ze)))) rfl (ZgY ht hk T c 0 (Zah pT hc))).le) (by omega)).le (fun T pT=>(LF.lst (ds:=[ZfR 7 (intOf ck (.inr x)),ZiB 7 0]) (g:=Za (Zai (Za (eC (.str [112,117,116])) (Za (eC (.int 7)) (Za (e2 Zex (Zc 2) (e2 Zk (Zc 4) (eC (.int 1)))) (Ze))))) (Za (Zai (Za (eC (.str [115,101,116])) (Za (eC (.int 7)) (Za (eC (.int 0)) (Ze))))) (Ze))) (Zh (Zv (Zh rfl (Zh rfl (Zh (Zg rfl (Zg rfl rfl rfl) (ZhI (Zah pT hc) hx)) rfl))) rfl) (Zh (Zv rfl rfl) rfl)) rfl).le) (by simp; omega))
 refine ⟨n,S,some (.int (p + (acc.length:Int))),a6,a7,a8,a9,a10,a11,?_,p1,by rw [g1,List.append_assoc]; rfl,l1⟩
 exact (Zn (Zx (d:=.int (p + (acc.length:Int))) (Zg rfl (ZaS rfl (ZaM hr)) rfl))).trans ((ZbO (Zg rfl rfl (Zdl rfl))).trans e)
theorem Zqa (rec:F3) {t:Sm} (ht:t.ok) (hk:t.kn ck):ZhU ck rec (ZcU t) (fun _=>ZgF ck t) (2 * t.flat.length + 3):=by
 intro W p c r acc M a5 a6 a7 a8 a9 a10 a11 hc hr hz
 have hl:=Zht (ck:=ck) ht 0
 obtain ⟨n,S,e,p1,g1,l1⟩:=Zhy (i:=3) (env:=lE W p c r (some (ZcU t)) (some (.int (p + (acc.length:Int)))) a6 a7 a8 a9 a10 a11) (M:=M) (LE.add (LE.add (x:=acc) (f:=Zc 3) (LE.var rfl hr) (fun T pT=>(LF.call (ds:=[.tup t.flat,.int 0,.ref c]) (g:=Za (e2 Zk (Zc 4) (eC (.int 1))) (Za (eC (.int 0)) (Za (Zc 2) (Ze)))) rfl (ZgY ht hk T c 0 (Zah pT hc))).le) (by omega)).le (fun T pT=>(LF.lst (ds:=[Zq4]) (g:=Za (Zai (Za (eC (.str [116,101,108,108])) (Za (eC (.int 0)) (Ze)))) (Ze)) (Zh (Zv rfl rfl) rfl) rfl).le) (by simp; omega))
 refine ⟨n,S,some (.int (p + (acc.length:Int))),a6,a7,a8,a9,a10,a11,?_,p1,by rw [g1,List.append_assoc]; rfl,l1⟩
 exact (Zn (Zx (d:=.int (p + (acc.length:Int))) (Zg rfl (ZaS rfl (ZaM hr)) rfl))).trans ((ZaZ (Zg rfl rfl (ZaR (by decide)))).trans ((ZaZ (Zg rfl rfl (ZaR (by decide)))).trans ((ZbO (Zg rfl rfl (Zdl rfl))).trans e)))
theorem ZsB (rec:F3) {t u:Sm} (ht:t.ok) (hk:t.kn ck) (hu:u.ok) (hku:u.kn ck):ZhU ck rec (Zd8 t u) (fun _=>Zh6 ck t u) (2 * t.flat.length + 2 * u.flat.length + 3):=by
 intro W p c r acc M a5 a6 a7 a8 a9 a10 a11 hc hr hz
 have hl:=Zht (ck:=ck) ht 0
 have hl2:=Zht (ck:=ck) hu 1
 obtain ⟨n,S,e,p1,g1,l1⟩:=Zhy (i:=3) (env:=lE W p c r (some (Zd8 t u)) (some (.int (p + (acc.length:Int)))) a6 a7 a8 a9 a10 a11) (M:=M) (LE.add (LE.add (x:=acc) (f:=Zc 3) (LE.var rfl hr) (fun T pT=>(LF.call (ds:=[.tup t.flat,.int 0,.ref c]) (g:=Za (e2 Zk (Zc 4) (eC (.int 1))) (Za (eC (.int 0)) (Za (Zc 2) (Ze)))) rfl (ZgY ht hk T c 0 (Zah pT hc))).le) (by omega)).le (fun T pT=>(LF.lst (ds:=[ZdP [97,100,100] 0 0 0]) (g:=Za (Zai (Za (eC (.str [97,100,100])) (Za (eC (.int 0)) (Za (eC (.int 0)) (Za (eC (.int 0)) (Ze)))))) (Ze)) (Zh (Zv rfl rfl) rfl) rfl).le) (by simp; omega))
 obtain ⟨n2,S2,e2',p2,g2,l2⟩:=Zhy (i:=3) (env:=lE W p c n (some (Zd8 t u)) (some (.int (p + (acc.length:Int)))) a6 a7 a8 a9 a10 a11) (M:=S) (LE.add (LE.add (x:=acc ++ t.rows ck 0 ++ [ZdP [97,100,100] 0 0 0]) (f:=Zc 3) (LE.var rfl g1) (fun T pT=>(LF.call (ds:=[.tup u.flat,.int 1,.ref c]) (g:=Za (e2 Zk (Zc 4) (eC (.int 2))) (Za (eC (.int 1)) (Za (Zc 2) (Ze)))) rfl (ZgY hu hku T c 1 (Zah (p1.trans pT) hc))).le) (by simp; omega)).le (fun T pT=>(LF.lst (ds:=[ZiB 0 1]) (g:=Za (Zai (Za (eC (.str [115,101,116])) (Za (eC (.int 0)) (Za (eC (.int 1)) (Ze))))) (Ze)) (Zh (Zv rfl rfl) rfl) rfl).le) (by simp; omega))
 refine ⟨n2,S2,some (.int (p + (acc.length:Int))),a6,a7,a8,a9,a10,a11,?_,p1.trans p2,by rw [g2]; simp [Zh6],by have:=p1.length_le; omega⟩
 exact (Zn (Zx (d:=.int (p + (acc.length:Int))) (Zg rfl (ZaS rfl (ZaM hr)) rfl))).trans ((ZaZ (Zg rfl rfl (ZaR (by decide)))).trans ((ZbO (Zg rfl rfl (Zdl rfl))).trans ((Zn e).trans e2')))
theorem ZsY (rec:F3) {t:Sm} {a b:Ds} (ht:t.ok) (hk:t.kn ck) (ha:ZgI ck rec a) (hb:ZgI ck rec b):ZhU ck rec (ZcH t a.enc b.enc) (Zio ck t (a.rows ck) (b.rows ck)) (2 * t.flat.length + 3 + a.wt + b.wt):=by
 intro W p c r acc M a5 a6 a7 a8 a9 a10 a11 hc hr hz
 have hl:=Zht (ck:=ck) ht 0
 let h:=p + (acc.length:Int)
 let sb:=h + ((t.rows ck 0).length:Int) + 1
 let fb:=h + ((t.rows ck 0).length:Int) + 1 + ((b.rows ck sb).length:Int) + 1
 have q1:=ZbH ck b sb
 have q2:=ZbH ck a fb
 obtain ⟨n1,S1,e1,p1,g1,l1⟩:=Zhy (i:=6) (env:=lE W p c r (some (ZcH t a.enc b.enc)) (some (.int h)) a6 a7 a8 a9 a10 a11) (M:=M) (LF.call (ds:=[.tup t.flat,.int 0,.ref c]) (g:=Za (e2 Zk (Zc 4) (eC (.int 1))) (Za (eC (.int 0)) (Za (Zc 2) (Ze)))) rfl (ZgY ht hk M c 0 hc))
 obtain ⟨n2,S2,e2',p2,g2,l2⟩:=Zhy (i:=7) (env:=lE W p c r (some (ZcH t a.enc b.enc)) (some (.int h)) (some (.ref n1)) a7 a8 a9 a10 a11) (M:=S1) (LF.call (F:=rec) (ds:=[.tup b.enc,.int sb,.ref c]) (g:=Za (e2 Zk (Zc 4) (eC (.int 3))) (Za (e2 Zm (e2 Zm (Zc 5) (Zaq ZaF (Za (Zc 6) (Ze)))) (eC (.int 1))) (Za (Zc 2) (Ze)))) (Zh rfl (Zh (Zg (Zg rfl (ZaS rfl (ZaM g1)) rfl) rfl rfl) rfl)) (hb S1 c sb (Zah p1 hc)))
 have e8:Zaf 8 (e2 Zm (e2 Zm (e2 Zm (Zc 5) (Zaq ZaF (Za (Zc 6) (Ze)))) (Zaq ZaF (Za (Zc 7) (Ze)))) (eC (.int 2))) (lE W p c r (some (ZcH t a.enc b.enc)) (some (.int h)) (some (.ref n1)) (some (.ref n2)) a8 a9 a10 a11) S2 = .nx (lE W p c r (some (ZcH t a.enc b.enc)) (some (.int h)) (some (.ref n1)) (some (.ref n2)) (some (.int fb)) a9 a10 a11) S2:=
  Zx (d:=.int fb) (Zg (Zg (Zg rfl (ZaS rfl (ZaM (Zah p2 g1))) rfl) (ZaS rfl (ZaM g2)) rfl) rfl (by rw [ZeQ]; congr 2; simp only [fb,sb]; omega))
 obtain ⟨n3,S3,e3',p3,g3,l3⟩:=Zhy (i:=9) (env:=lE W p c r (some (ZcH t a.enc b.enc)) (some (.int h)) (some (.ref n1)) (some (.ref n2)) (some (.int fb)) a9 a10 a11) (M:=S2) (LF.call (F:=rec) (ds:=[.tup a.enc,.int fb,.ref c]) (g:=Za (e2 Zk (Zc 4) (eC (.int 2))) (Za (Zc 8) (Za (Zc 2) (Ze)))) rfl (ha S2 c fb (Zah (p1.trans p2) hc)))
 obtain ⟨n4,S4,e4',p4,g4,l4⟩:=Zhy (i:=3) (env:=lE W p c r (some (ZcH t a.enc b.enc)) (some (.int h)) (some (.ref n1)) (some (.ref n2)) (some (.int fb)) (some (.ref n3)) a10 a11) (M:=S3)
  (LE.add (LE.add (LE.add (LE.add (LE.add (f:=Zc 3) (x:=acc) (LE.var rfl (Zah ((p1.trans p2).trans p3) hr)) (fun T pT=>LE.var (i:=6) rfl (Zah ((p2.trans p3).trans pT) g1)) (by omega)).le (fun T pT=>(LF.lst (ds:=[ZmG fb]) (g:=Za (Zai (Za (eC (.str [119,104,101,110])) (Za (eC (.int 0)) (Za (Zc 8) (Ze))))) (Ze)) (Zh (Zv rfl rfl) rfl) rfl).le) (by simp; omega)).le (fun T pT=>LE.var (i:=7) rfl (Zah (p3.trans pT) g2)) (by simp; omega)).le (fun T pT=>(LF.lst (ds:=[Zjg (fb + ((a.rows ck fb).length:Int))]) (g:=Za (Zai (Za (eC (.str [106,117,109,112])) (Za (e2 Zm (Zc 8) (Zaq ZaF (Za (Zc 9) (Ze)))) (Ze)))) (Ze)) (Zh (Zv (Zh rfl (Zh (Zg rfl (ZaS rfl (ZaM (Zah pT g3))) rfl) rfl)) rfl) rfl) rfl).le) (by simp; omega)).le (fun T pT=>LE.var (i:=9) rfl (Zah pT g3)) (by simp; omega))
 refine ⟨n4,S4,some (.int h),some (.ref n1),some (.ref n2),some (.int fb),some (.ref n3),a10,a11,?_,((p1.trans p2).trans p3).trans p4,by rw [g4]; simp [Zio,fb,sb,h],by have:=((p1.trans p2).trans p3).length_le; omega⟩
 exact (Zn (Zx (d:=.int h) (Zg rfl (ZaS rfl (ZaM hr)) rfl))).trans ((ZaZ (Zg rfl rfl (ZaR (by decide)))).trans ((ZaZ (Zg rfl rfl (ZaR (by decide)))).trans ((ZaZ (Zg rfl rfl (ZaR (by decide)))).trans ((ZbO (Zg rfl rfl (Zdl rfl))).trans ((Zn e1).trans ((Zn e2').trans ((Zn e8).trans ((Zn e3').trans e4'))))))))
theorem ZrZ (rec:F3) {t:Sm} {a:Ds} (ht:t.ok) (hk:t.kn ck) (ha:ZgI ck rec a):ZhU ck rec (ZcF t a.enc) (Zh0 ck t (a.rows ck)) (2 * t.flat.length + 3 + a.wt):=by
 intro W p c r acc M a5 a6 a7 a8 a9 a10 a11 hc hr hz
 have hl:=Zht (ck:=ck) ht 0
 let h:=p + (acc.length:Int)
 let ib:=h + ((t.rows ck 0).length:Int) + 2
 have q1:=ZbH ck a ib
 obtain ⟨n1,S1,e1,p1,g1,l1⟩:=Zhy (i:=6) (env:=lE W p c r (some (ZcF t a.enc)) (some (.int h)) a6 a7 a8 a9 a10 a11) (M:=M) (LF.call (ds:=[.tup t.flat,.int 0,.ref c]) (g:=Za (e2 Zk (Zc 4) (eC (.int 1))) (Za (eC (.int 0)) (Za (Zc 2) (Ze)))) rfl (ZgY ht hk M c 0 hc))
 obtain ⟨n2,S2,e2',p2,g2,l2⟩:=Zhy (i:=10) (env:=lE W p c r (some (ZcF t a.enc)) (some (.int h)) (some (.ref n1)) a7 a8 a9 a10 a11) (M:=S1) (LF.call (F:=rec) (ds:=[.tup a.enc,.int ib,.ref c]) (g:=Za (e2 Zk (Zc 4) (eC (.int 2))) (Za (e2 Zm (e2 Zm (Zc 5) (Zaq ZaF (Za (Zc 6) (Ze)))) (eC (.int 2))) (Za (Zc 2) (Ze)))) (Zh rfl (Zh (Zg (Zg rfl (ZaS rfl (ZaM g1)) rfl) rfl rfl) rfl)) (ha S1 c ib (Zah p1 hc)))
 have e11:Zaf 11 (e2 Zm (e2 Zm (e2 Zm (Zc 5) (Zaq ZaF (Za (Zc 6) (Ze)))) (Zaq ZaF (Za (Zc 10) (Ze)))) (eC (.int 3))) (lE W p c r (some (ZcF t a.enc)) (some (.int h)) (some (.ref n1)) a7 a8 a9 (some (.ref n2)) a11) S2 = .nx (lE W p c r (some (ZcF t a.enc)) (some (.int h)) (some (.ref n1)) a7 a8 a9 (some (.ref n2)) (some (.int (ib + ((a.rows ck ib).length:Int) + 1)))) S2:=
  Zx (d:=.int (ib + ((a.rows ck ib).length:Int) + 1)) (Zg (Zg (Zg rfl (ZaS rfl (ZaM (Zah p2 g1))) rfl) (ZaS rfl (ZaM g2)) rfl) rfl (by rw [ZeQ]; congr 2; simp only [ib]; omega))
 obtain ⟨n4,S4,e4',p4,g4,l4⟩:=Zhy (i:=3) (env:=lE W p c r (some (ZcF t a.enc)) (some (.int h)) (some (.ref n1)) a7 a8 a9 (some (.ref n2)) (some (.int (ib + ((a.rows ck ib).length:Int) + 1)))) (M:=S2)
  (LE.add (LE.add (LE.add (LE.add (f:=Zc 3) (x:=acc) (LE.var rfl (Zah (p1.trans p2) hr)) (fun T pT=>LE.var (i:=6) rfl (Zah (p2.trans pT) g1)) (by omega)).le (fun T pT=>(LF.lst (ds:=[ZmG ib,Zjg (ib + ((a.rows ck ib).length:Int) + 1)]) (g:=Za (Zai (Za (eC (.str [119,104,101,110])) (Za (eC (.int 0)) (Za (e2 Zm (e2 Zm (Zc 5) (Zaq ZaF (Za (Zc 6) (Ze)))) (eC (.int 2))) (Ze))))) (Za (Zai (Za (eC (.str [106,117,109,112])) (Za (Zc 11) (Ze)))) (Ze))) (Zh (Zv (Zh rfl (Zh rfl (Zh (Zg (Zg rfl (ZaS rfl (ZaM (Zah (p2.trans pT) g1))) rfl) rfl rfl) rfl))) rfl) (Zh (Zv rfl rfl) rfl)) rfl).le) (by simp; omega)).le (fun T pT=>LE.var (i:=10) rfl (Zah pT g2)) (by simp; omega)).le (fun T pT=>(LF.lst (ds:=[Zjg h]) (g:=Za (Zai (Za (eC (.str [106,117,109,112])) (Za (Zc 5) (Ze)))) (Ze)) (Zh (Zv rfl rfl) rfl) rfl).le) (by simp; omega))
 refine ⟨n4,S4,some (.int h),some (.ref n1),a7,a8,a9,some (.ref n2),some (.int (ib + ((a.rows ck ib).length:Int) + 1)),?_,(p1.trans p2).trans p4,by rw [g4]; simp [Zh0,ib,h],by have:=(p1.trans p2).length_le; omega⟩
 exact (Zn (Zx (d:=.int h) (Zg rfl (ZaS rfl (ZaM hr)) rfl))).trans ((ZaZ (Zg rfl rfl (ZaR (by decide)))).trans ((ZaZ (Zg rfl rfl (ZaR (by decide)))).trans ((ZaZ (Zg rfl rfl (ZaR (by decide)))).trans ((ZaZ (Zg rfl rfl (ZaR (by decide)))).trans ((Zn e1).trans ((Zn e2').trans ((Zn e11).trans e4')))))))
end
section
variable {ck:List (Zav × D)}
noncomputable def Zhq (ck:List (Zav × D)) (rec:F3):Ds → Prop
 | .nil=>True
 | .set x t r=>ZhU ck rec (ZdE x t) (fun _=>ZjM ck x t) (2 * t.flat.length + 3) ∧ Zhq ck rec r
 | .put t u r=>ZhU ck rec (Zd8 t u) (fun _=>Zh6 ck t u) (2 * t.flat.length + 2 * u.flat.length + 3) ∧ Zhq ck rec r
 | .tell t r=>ZhU ck rec (ZcU t) (fun _=>ZgF ck t) (2 * t.flat.length + 3) ∧ Zhq ck rec r
 | .whn t a b r=>ZhU ck rec (ZcH t a.enc b.enc) (Zio ck t (a.rows ck) (b.rows ck)) (2 * t.flat.length + 3 + a.wt + b.wt) ∧ Zhq ck rec r
 | .whl t a r=>ZhU ck rec (ZcF t a.enc) (Zh0 ck t (a.rows ck)) (2 * t.flat.length + 3 + a.wt) ∧ Zhq ck rec r
theorem Zfl {rec:F3} {it:It3} (hi:it.lock = none) {W:Option D} {p:Int} {c r:Nat} {acc:List D} {d:D} {h:Int → List D} {w:Nat} {M M0:Store} {x a5 a6 a7 a8 a9 a10 a11:Option D} (H:ZhU ck rec d h w) (hp:M0 <+: M) (hr:M[r]? = some (.lst acc)) (hc:M[c]? = some (.dct ck)) (hz:acc.length + w ≤ 700000) (ds:List D):
  ∃ r' S b5 b6 b7 b8 b9 b10 b11,Zbl it (ZbC 4) (Zn1 rec) (d :: ds) (lE W p c r x a5 a6 a7 a8 a9 a10 a11) M = Zbl it (ZbC 4) (Zn1 rec) ds (lE W p c r' (some d) b5 b6 b7 b8 b9 b10 b11) S ∧ M0 <+: S ∧ S[r']? = some (.lst (acc ++ h (p + (acc.length:Int)))) ∧ S[c]? = some (.dct ck) ∧ M0.length ≤ r':=by
 obtain ⟨r',S,b5,b6,b7,b8,b9,b10,b11,e,p1,g1,l1⟩:=H W p c r acc M a5 a6 a7 a8 a9 a10 a11 hc hr hz
 refine ⟨r',S,b5,b6,b7,b8,b9,b10,b11,?_,hp.trans p1,g1,Zah p1 hc,Nat.le_trans hp.length_le l1⟩
 rw [ZcM,if_pos (by unfold locked; rw [hi])]
 have e':Zn1 rec [W,some (.int p),some (.ref c),some (.ref r),some d,a5,a6,a7,a8,a9,a10,a11] M = .nx [W,some (.int p),some (.ref c),some (.ref r'),some d,b5,b6,b7,b8,b9,b10,b11] S:=e
 simp only [ZbC,List.set_cons_succ,List.set_cons_zero,e']
theorem ZeS {rec:F3} {it:It3} (hi:it.lock = none) {W:Option D} {p:Int} {c:Nat} {M0:Store}:∀ (ds:Ds),Zhq ck rec ds → ∀ (r:Nat) (acc:List D) (M:Store) (x a5 a6 a7 a8 a9 a10 a11:Option D),M0.length ≤ r → M0 <+: M → M[r]? = some (.lst acc) → M[c]? = some (.dct ck) → acc.length + ds.wt ≤ 700000 →
  ∃ r' S x' b5 b6 b7 b8 b9 b10 b11,Zbl it (ZbC 4) (Zn1 rec) ds.enc (lE W p c r x a5 a6 a7 a8 a9 a10 a11) M = .nx (lE W p c r' x' b5 b6 b7 b8 b9 b10 b11) S ∧ M0 <+: S ∧ S[r']? = some (.lst (acc ++ ds.rows ck (p + (acc.length:Int)))) ∧ M0.length ≤ r'
 | .nil,_,r,acc,M,x,a5,a6,a7,a8,a9,a10,a11,hl,hp,hr,hc,_=>⟨r,M,x,a5,a6,a7,a8,a9,a10,a11,by
  show Zbl _ _ _ [] _ _ = _
  rw [ZcO,if_pos (by unfold locked; rw [hi])],hp,by simpa [Ds.rows] using hr,hl⟩
 | .set y t rr,H,r,acc,M,x,a5,a6,a7,a8,a9,a10,a11,hl,hp,hr,hc,hz=>by
  have h1:=Zib ck y t
  rw [Ds.wt] at hz
  obtain ⟨r1,S,b5,b6,b7,b8,b9,b10,b11,e,q1,q2,q3,q4⟩:=Zfl (W:=W) (p:=p) (x:=x) (a5:=a5) (a6:=a6) (a7:=a7) (a8:=a8) (a9:=a9) (a10:=a10) (a11:=a11) hi H.1 hp hr hc (by omega) rr.enc
  obtain ⟨r2,S2,x2,c5,c6,c7,c8,c9,c10,c11,e2',q5,q6,q7⟩:=ZeS hi rr H.2 r1 _ S (some (ZdE y t)) b5 b6 b7 b8 b9 b10 b11 q4 q1 q2 q3 (by simp; omega)
  exact ⟨r2,S2,x2,c5,c6,c7,c8,c9,c10,c11,e.trans e2',q5,by rw [q6,Ds.rows,List.length_append,List.append_assoc,Int.natCast_add,Int.add_assoc],q7⟩
 | .put t u rr,H,r,acc,M,x,a5,a6,a7,a8,a9,a10,a11,hl,hp,hr,hc,hz=>by
  have h1:=Zik ck t u
  rw [Ds.wt] at hz
  obtain ⟨r1,S,b5,b6,b7,b8,b9,b10,b11,e,q1,q2,q3,q4⟩:=Zfl (W:=W) (p:=p) (x:=x) (a5:=a5) (a6:=a6) (a7:=a7) (a8:=a8) (a9:=a9) (a10:=a10) (a11:=a11) hi H.1 hp hr hc (by omega) rr.enc
  obtain ⟨r2,S2,x2,c5,c6,c7,c8,c9,c10,c11,e2',q5,q6,q7⟩:=ZeS hi rr H.2 r1 _ S (some (Zd8 t u)) b5 b6 b7 b8 b9 b10 b11 q4 q1 q2 q3 (by simp; omega)
  exact ⟨r2,S2,x2,c5,c6,c7,c8,c9,c10,c11,e.trans e2',q5,by rw [q6,Ds.rows,List.length_append,List.append_assoc,Int.natCast_add,Int.add_assoc],q7⟩
 | .tell t rr,H,r,acc,M,x,a5,a6,a7,a8,a9,a10,a11,hl,hp,hr,hc,hz=>by
  have h1:=Zg6 ck t
  rw [Ds.wt] at hz
  obtain ⟨r1,S,b5,b6,b7,b8,b9,b10,b11,e,q1,q2,q3,q4⟩:=Zfl (W:=W) (p:=p) (x:=x) (a5:=a5) (a6:=a6) (a7:=a7) (a8:=a8) (a9:=a9) (a10:=a10) (a11:=a11) hi H.1 hp hr hc (by omega) rr.enc
  obtain ⟨r2,S2,x2,c5,c6,c7,c8,c9,c10,c11,e2',q5,q6,q7⟩:=ZeS hi rr H.2 r1 _ S (some (ZcU t)) b5 b6 b7 b8 b9 b10 b11 q4 q1 q2 q3 (by simp; omega)
  exact ⟨r2,S2,x2,c5,c6,c7,c8,c9,c10,c11,e.trans e2',q5,by rw [q6,Ds.rows,List.length_append,List.append_assoc,Int.natCast_add,Int.add_assoc],q7⟩
 | .whn t a b rr,H,r,acc,M,x,a5,a6,a7,a8,a9,a10,a11,hl,hp,hr,hc,hz=>by
  have h1:=ZhN ck t (ZbH ck a) (ZbH ck b) (p + (acc.length:Int))
  rw [Ds.wt] at hz
  obtain ⟨r1,S,b5,b6,b7,b8,b9,b10,b11,e,q1,q2,q3,q4⟩:=Zfl (W:=W) (p:=p) (x:=x) (a5:=a5) (a6:=a6) (a7:=a7) (a8:=a8) (a9:=a9) (a10:=a10) (a11:=a11) hi H.1 hp hr hc (by omega) rr.enc
  obtain ⟨r2,S2,x2,c5,c6,c7,c8,c9,c10,c11,e2',q5,q6,q7⟩:=ZeS hi rr H.2 r1 _ S (some (ZcH t a.enc b.enc)) b5 b6 b7 b8 b9 b10 b11 q4 q1 q2 q3 (by rw [List.length_append]; omega)
  exact ⟨r2,S2,x2,c5,c6,c7,c8,c9,c10,c11,e.trans e2',q5,by rw [q6,Ds.rows,List.length_append,List.append_assoc,Int.natCast_add,Int.add_assoc],q7⟩
 | .whl t a rr,H,r,acc,M,x,a5,a6,a7,a8,a9,a10,a11,hl,hp,hr,hc,hz=>by
  have h1:=Zh3 ck t (ZbH ck a) (p + (acc.length:Int))
  rw [Ds.wt] at hz
  obtain ⟨r1,S,b5,b6,b7,b8,b9,b10,b11,e,q1,q2,q3,q4⟩:=Zfl (W:=W) (p:=p) (x:=x) (a5:=a5) (a6:=a6) (a7:=a7) (a8:=a8) (a9:=a9) (a10:=a10) (a11:=a11) hi H.1 hp hr hc (by omega) rr.enc
  obtain ⟨r2,S2,x2,c5,c6,c7,c8,c9,c10,c11,e2',q5,q6,q7⟩:=ZeS hi rr H.2 r1 _ S (some (ZcF t a.enc)) b5 b6 b7 b8 b9 b10 b11 q4 q1 q2 q3 (by rw [List.length_append]; omega)
  exact ⟨r2,S2,x2,c5,c6,c7,c8,c9,c10,c11,e.trans e2',q5,by rw [q6,Ds.rows,List.length_append,List.append_assoc,Int.natCast_add,Int.add_assoc],q7⟩
theorem Zti {rec:F3} {ds:Ds} (H:Zhq ck rec ds) (hw:ds.wt ≤ 600000):ZgI ck (mkF 3 12 (ZbN rec)) ds:=by
 intro M c p hc
 refine FL.of (env:=[some (.tup ds.enc),some (.int p),some (.ref c),none,none,none,none,none,none,none,none,none]) ?_ rfl rfl
 unfold ZbN
 obtain ⟨r',S,x,b5,b6,b7,b8,b9,b10,b11,e,q1,q2,q3⟩:=ZeS (rec:=rec) (it:=⟨ds.enc,none⟩) rfl (W:=some (.tup ds.enc)) (p:=p) (c:=c) (M0:=M) ds H M.length [] (M ++ [.lst []]) none none none none none none none none (Nat.le_refl _) (List.prefix_append _ _) (Zax M _ []) (ZaW hc _) (by simp; omega)
 refine BL.step (env':=lE (some (.tup ds.enc)) p c M.length none none none none none none none none) (S:=M ++ [.lst []]) (Zx (Zbg rfl rfl)) (BL.step ((Zdz (it:=⟨ds.enc,none⟩) rfl).trans e) ?_)
 exact ⟨r',S,ZbP rfl,q1,by rw [q2]; simp,q3⟩
theorem ZeX {rec:F3} {k:Nat} (IH:∀ ds:Ds,ds.ok → ds.kn ck → ds.wt ≤ 100000 → ds.dep + 1 ≤ k → ZgI ck rec ds):∀ (ds:Ds),ds.ok → ds.kn ck → ds.wt ≤ 100000 → ds.dep ≤ k → Zhq ck rec ds
 | .nil,_,_,_,_=>trivial
 | .set x t r,ho,hk,hw,hd=>⟨ZsN _ hk.1 ho.2.1 hk.2.1,ZeX IH r ho.2.2 hk.2.2 (by simp only [Ds.wt] at hw; omega) hd⟩
 | .put t u r,ho,hk,hw,hd=>⟨ZsB _ ho.1 hk.1 ho.2.1 hk.2.1,ZeX IH r ho.2.2 hk.2.2 (by simp only [Ds.wt] at hw; omega) hd⟩
 | .tell t r,ho,hk,hw,hd=>⟨Zqa _ ho.1 hk.1,ZeX IH r ho.2 hk.2 (by simp only [Ds.wt] at hw; omega) hd⟩
 | .whn t a b r,ho,hk,hw,hd=>by
  simp only [Ds.wt] at hw
  simp only [Ds.dep] at hd
  exact ⟨ZsY _ ho.1 hk.1 (IH a ho.2.1 hk.2.1 (by omega) (by omega)) (IH b ho.2.2.1 hk.2.2.1 (by omega) (by omega)),ZeX IH r ho.2.2.2 hk.2.2.2 (by omega) (by omega)⟩
 | .whl t a r,ho,hk,hw,hd=>by
  simp only [Ds.wt] at hw
  simp only [Ds.dep] at hd
  exact ⟨ZrZ _ ho.1 hk.1 (IH a ho.2.1 hk.2.1 (by omega) (by omega)),ZeX IH r ho.2.2 hk.2.2 (by omega) (by omega)⟩
theorem ZpW:∀ (n:Nat) (ds:Ds),ds.ok → ds.kn ck → ds.wt ≤ 100000 → ds.dep + 1 ≤ n → ZgI ck (ZbQ n) ds:=by
 intro n
 induction n with
 | zero=>intro ds _ _ _ hd; omega
 | succ n ih=>intro ds ho hk hw hd; exact Zti (ZeX (k:=n) ih ds ho hk hw (by omega)) (by omega)
theorem Zrx {ds:Ds} (ho:ds.ok) (hk:ds.kn ck) (hw:ds.wt ≤ 100000) (hd:ds.dep ≤ 3):ZgI ck Zbm ds:=ZpW 7 ds ho hk hw (by omega)
end
noncomputable def resv (x:List Nat):Bool:=Zcp.contains x
noncomputable def rep1 (w:List Nat):Bool:=(List.range w.length).any fun i=>(w.eraseIdx i).all fun c=>c == (w.eraseIdx i).headD 0
theorem ZqW (a b p c:Nat):rep1 (List.replicate a p ++ [c] ++ List.replicate b p) = true:=by
 unfold rep1
 rw [List.any_eq_true]
 refine ⟨a,List.mem_range.mpr (by simp only [List.length_append,List.length_replicate,List.length_cons,List.length_nil]; omega),?_⟩
 have e:(List.replicate a p ++ [c] ++ List.replicate b p).eraseIdx a = List.replicate (a + b) p:=by
  rw [List.append_assoc,List.eraseIdx_append_of_length_le (by simp)]
  simp [List.replicate_append_replicate]
 rw [e,List.all_eq_true]
 intro y hy
 obtain ⟨h1,rfl⟩:=List.mem_replicate.mp hy
 obtain ⟨k,hk⟩:∃ k,a + b = k + 1:=⟨a + b - 1,by omega⟩
 rw [hk,List.replicate_succ]
 simp
theorem Znh.resv {w:List Nat} (h:Znh w):resv w = false:=by
 obtain ⟨⟨a,b,p,c,e⟩,hne,_⟩:=h
 have h1:=ZqW a b p c
 rw [← e] at h1
 cases hr:Law.resv w with
 | false=>rfl
 | true=>
  have hm:w ∈ Zcp:=List.contains_iff_mem.mp hr
  have key:∀ y ∈ Zcp,y = [97,100,100] ∨ rep1 y = false:=by decide
  rcases key w hm with h | h
  ·exact absurd h hne
  ·rw [h] at h1; cases h1
theorem ZqY {x:List Nat} (h:Zao x = true):resv x = true:=by
 rcases of_decide_eq_true h with rfl | rfl | rfl | rfl <;> decide
theorem Zgx {x:List Nat} (h:resv x = false):Zao x = false:=by
 cases hx:Zao x with
 | false=>rfl
 | true=>rw [ZqY hx] at h; cases h
noncomputable def Sm.nm:Sm → Prop
 | .num _=>True
 | .nam x=>resv x = false
 | .cel a=>a.nm
 | .two _ a b=>a.nm ∧ b.nm
noncomputable def Ds.nm:Ds → Prop
 | .nil=>True
 | .set x t r=>resv x = false ∧ t.nm ∧ r.nm
 | .put t u r=>t.nm ∧ u.nm ∧ r.nm
 | .tell t r=>t.nm ∧ r.nm
 | .whn t a b r=>t.nm ∧ a.nm ∧ b.nm ∧ r.nm
 | .whl t a r=>t.nm ∧ a.nm ∧ r.nm
noncomputable def Zbc (R:List Nat → Bool) (xs:List (List Nat)):D → List (List Nat)
 | .str x=>if R x = true ∨ x ∈ xs then xs else xs ++ [x]
 | _=>xs
noncomputable abbrev Zas (R:List Nat → Bool) (xs:List (List Nat)) (ws:List D):List (List Nat):=ws.foldl (Zbc R) xs
theorem Zg9 {x:List Nat} (h:Zao x = resv x) (xs:List (List Nat)):Zbc resv xs (.str x) = Zbc Zao xs (.str x):=by simp only [Zbc,h]
theorem fold_same:∀ (t:Sm),t.nm → ∀ xs,Zas resv xs t.flat = Zas Zao xs t.flat
 | .num _,_,_=>rfl
 | .nam x,h,xs=>by
  have h:resv x = false:=h
  simp only [Sm.flat,Zas,List.foldl_cons,List.foldl_nil,Zbc,h,Zgx h]
 | .cel a,h,xs=>by
  have e:Zbc resv xs (.str CEL) = Zbc Zao xs (.str CEL):=Zg9 (by decide) xs
  show Zas resv (Zbc resv xs (.str CEL)) a.flat = Zas Zao (Zbc Zao xs (.str CEL)) a.flat
  rw [e,fold_same a h]
 | .two o a b,h,xs=>by
  have e:Zbc resv xs (.str (opW o)) = Zbc Zao xs (.str (opW o)):=Zg9 (by
   match o with
   | 0=>decide
   | 1=>decide
   | o + 2=>show Zao [109,111,114,101] = resv [109,111,114,101]; decide) xs
  show (a.flat ++ b.flat).foldl (Zbc resv) (Zbc resv xs (.str (opW o))) = (a.flat ++ b.flat).foldl (Zbc Zao) (Zbc Zao xs (.str (opW o)))
  have ha:=fold_same a h.1 (Zbc Zao xs (.str (opW o)))
  have hb:=fold_same b h.2 (Zas Zao (Zbc Zao xs (.str (opW o))) a.flat)
  rw [e,List.foldl_append,List.foldl_append]
  show Zas resv (Zas resv (Zbc Zao xs (.str (opW o))) a.flat) b.flat = _
  rw [ha,hb]
noncomputable def Ds.names:Ds → List (List Nat) → List (List Nat)
 | .nil,xs=>xs
 | .set x t r,xs=>r.names (Zas Zao xs (.str x :: t.flat))
 | .put t u r,xs=>r.names (Zas Zao (Zas Zao xs t.flat) u.flat)
 | .tell t r,xs=>r.names (Zas Zao xs t.flat)
 | .whn t a b r,xs=>r.names (b.names (a.names (Zas Zao xs t.flat)))
 | .whl t a r,xs=>r.names (a.names (Zas Zao xs t.flat))
noncomputable def Ds.text:Ds → List (List D)
 | .nil=>[]
 | .set x t r=>(.str Zpo :: .str x :: t.flat) :: r.text
 | .put t u r=>(.str Zn2 :: (t.flat ++ u.flat)) :: r.text
 | .tell t r=>(.str Zps :: t.flat) :: r.text
 | .whn t a b r=>((.str Zjs :: t.flat) :: (a.text ++ [[.str [101,108,115,101]]] ++ b.text ++ [[.str [101,110,100]]])) ++ r.text
 | .whl t a r=>((.str ZkM :: t.flat) :: (a.text ++ [[.str [101,110,100]]])) ++ r.text
noncomputable def Zfg (xs:List (List Nat)) (rows:List (List D)):List (List Nat):=rows.foldl (Zas resv) xs
theorem Zds (xs:List (List Nat)) (a b:List (List D)):Zfg xs (a ++ b) = Zfg (Zfg xs a) b:=List.foldl_append
theorem Zee (xs:List (List Nat)) (a:List D) (b:List (List D)):Zfg xs (a :: b) = Zfg (Zas resv xs a) b:=rfl
theorem Zcu {x:List Nat} (h:resv x = true) (xs:List (List Nat)) (ws:List D):Zas resv xs (.str x :: ws) = Zas resv xs ws:=by
 have:Zbc resv xs (.str x) = xs:=by simp [Zbc,h]
 show Zas resv (Zbc resv xs (.str x)) ws = _
 rw [this]
theorem Zb8:∀ (ds:Ds),ds.nm → ∀ xs,Zfg xs ds.text = ds.names xs
 | .nil,_,_=>rfl
 | .set x t r,h,xs=>by
  have e:Zbc resv xs (.str x) = Zbc Zao xs (.str x):=Zg9 (by rw [h.1,Zgx h.1]) xs
  have e2:Zas resv xs (.str x :: t.flat) = Zas Zao xs (.str x :: t.flat):=by
   show Zas resv (Zbc resv xs (.str x)) t.flat = Zas Zao (Zbc Zao xs (.str x)) t.flat
   rw [e,fold_same t h.2.1]
  rw [Ds.text,Zee,Zcu (by decide),e2,Zb8 r h.2.2]; rfl
 | .put t u r,h,xs=>by
  have e:Zas resv xs (t.flat ++ u.flat) = Zas Zao (Zas Zao xs t.flat) u.flat:=by
   show (t.flat ++ u.flat).foldl _ _ = _
   rw [List.foldl_append]
   show Zas resv (Zas resv xs t.flat) u.flat = _
   rw [fold_same t h.1,fold_same u h.2.1]
  rw [Ds.text,Zee,Zcu (by decide),e,Zb8 r h.2.2]; rfl
 | .tell t r,h,xs=>by
  rw [Ds.text,Zee,Zcu (by decide),fold_same t h.1,Zb8 r h.2]; rfl
 | .whn t a b r,h,xs=>by
  have e1:∀ ys,Zfg ys [[D.str [101,108,115,101]]] = ys:=fun ys=>(Zcu (x:=[101,108,115,101]) (by decide) ys []:Zas resv ys [D.str [101,108,115,101]] = ys)
  have e2:∀ ys,Zfg ys [[D.str [101,110,100]]] = ys:=fun ys=>(Zcu (x:=[101,110,100]) (by decide) ys []:Zas resv ys [D.str [101,110,100]] = ys)
  rw [Ds.text,Zds,Zee,Zcu (by decide),fold_same t h.1,Zds,Zds,Zds,Zb8 a h.2.1,e1,Zb8 b h.2.2.1,e2,Zb8 r h.2.2.2]; rfl
 | .whl t a r,h,xs=>by
  have e2:∀ ys,Zfg ys [[D.str [101,110,100]]] = ys:=fun ys=>(Zcu (x:=[101,110,100]) (by decide) ys []:Zas resv ys [D.str [101,110,100]] = ys)
  rw [Ds.text,Zds,Zee,Zcu (by decide),fold_same t h.1,Zds,Zb8 a h.2.1,e2,Zb8 r h.2.2]; rfl
theorem ZhD {w:D} {xs:List (List Nat)} {n:Nat} {M:Store} (h:M[n]? = some (.lst (xs.map D.str))) (x:List Nat) (e:w = .str x):Zek w (.ref n) M = .ok (.bl (decide (x ∉ xs))) M:=by
 subst e
 show (match M[n]? with | some (.lst ys)=>(if Zbs (.str x) && ys.all Zbs then R3.ok (D.bl (!ys.any fun y=>deq y (.str x))) M else R3.bad) | _=>R3.bad) = _
 rw [h]
 have h1:(xs.map D.str).all Zbs = true:=by rw [List.all_map]; exact List.all_eq_true.mpr fun _ _=>rfl
 have h2:((xs.map D.str).any fun y=>deq y (.str x)) = decide (x ∈ xs):=by
  rw [List.any_map]
  by_cases q:x ∈ xs
  ·rw [decide_eq_true q,List.any_eq_true]
   exact ⟨x,q,by simp [ZmT]⟩
  ·rw [decide_eq_false q,List.any_eq_false]
   intro y hy
   show ¬ deq (.str y) (.str x) = true
   rw [ZmT]
   simp only [beq_iff_eq]
   exact fun z=>q (z ▸ hy)
 show (if Zbs (.str x) && (xs.map D.str).all Zbs then R3.ok (D.bl (!(xs.map D.str).any fun y=>deq y (.str x))) M else R3.bad) = _
 rw [h1,h2]
 show R3.ok (D.bl (!decide (x ∈ xs))) M = _
 by_cases q:x ∈ xs <;> simp [q]
noncomputable abbrev Zq5:S3:=sIf (Zew (e1 Zc9 (e1 (ZaD .int) (Zc 2))) (Zew (e2 Zer (Zc 2) (Zai (Za (eC (.str [97,100,100])) (Za (eC (.str [115,117,98])) (Za (eC (.str [109,111,114,101])) (Za (eC (.str [99,101,108,108])) (Ze))))))) (e2 Zek (Zc 2) (Zc 1)))) (Zak (ZaN tyL Zan (Zc 1) (Za (Zc 2) (Ze)))) (Zba)
theorem Zlu (x:List Nat) (M:Store):Zer (.str x) (.tup [.str [97,100,100],.str [115,117,98],.str [109,111,114,101],.str [99,101,108,108]]) M = .ok (.bl (!Zao x)) M:=by
 have e:((([97,100,100]:List Nat) == x) || ((([115,117,98]:List Nat) == x) || ((([109,111,114,101]:List Nat) == x) || ((([99,101,108,108]:List Nat) == x) || false)))) = Zao x:=by
  unfold Zao
  have c:∀ y:List Nat,(y == x) = decide (x = y):=fun y=>by
   by_cases q:x = y
   ·subst q; simp
   ·rw [decide_eq_false q]; exact beq_eq_false_iff_ne.mpr fun z=>q z.symm
  rw [c,c,c,c]
  simp
 show (match some ((([97,100,100]:List Nat) == x) || ((([115,117,98]:List Nat) == x) || ((([109,111,114,101]:List Nat) == x) || ((([99,101,108,108]:List Nat) == x) || false)))) with | some r=>R3.ok (D.bl (!r)) M | none=>R3.bad) = _
 rw [e]
theorem ZaY {M:Store} {n:Nat} {o:MO} (h:M[n]? = some o):M.set n o = M:=by
 apply List.ext_getElem?
 intro j
 by_cases hj:j = n
 ·subst hj; rw [List.getElem?_set_self (List.getElem?_eq_some_iff.mp h).1,h]
 ·rw [List.getElem?_set_ne (Ne.symm hj)]
theorem Znw {w:D} (hw:IsW w) {W:Option D} {s:Nat} {xs:List (List Nat)} {M:Store} (h:M[s]? = some (.lst (xs.map D.str))) (hz:xs.length < 900000):Zq5 [W,some (.ref s),some w] M = .nx [W,some (.ref s),some w] (M.set s (.lst ((Zbc Zao xs w).map D.str))):=by
 have hz2:(xs.map D.str).length < SZ:=by rw [List.length_map]; exact Nat.lt_trans hz (by decide)
 cases hw with
 | int i=>
  show _ = O3.nx _ (M.set s (.lst (xs.map D.str)))
  rw [ZaY h]
  exact ZaO (Zg8 (ZbG (ZbG rfl (show ZaD .int (.int i) M = .ok (.bl true) M from rfl)) rfl))
 | str x=>
  have c1:∀ g:E3,Zew (e1 Zc9 (e1 (ZaD .int) (Zc 2))) g [W,some (.ref s),some (.str x)] M = g [W,some (.ref s),some (.str x)] M:=fun g=>Zez (ZbG (ZbG rfl (show ZaD .int (.str x) M = .ok (.bl false) M from rfl)) rfl)
  by_cases hx:Zao x = true
  ·have e:Zbc Zao xs (.str x) = xs:=by simp [Zbc,hx]
   rw [e,ZaY h]
   exact ZaO ((c1 _).trans (Zg8 (Zg rfl (Zv rfl rfl) ((Zlu x M).trans (by rw [hx]; rfl)))))
  ·have hx':Zao x = false:=by cases q:Zao x with | true=>exact absurd q hx | false=>rfl
   by_cases hm:x ∈ xs
   ·have e:Zbc Zao xs (.str x) = xs:=by simp [Zbc,hm]
    rw [e,ZaY h]
    exact ZaO ((c1 _).trans ((Zez (Zg rfl (Zv rfl rfl) ((Zlu x M).trans (by rw [hx']; rfl)))).trans (Zg rfl rfl ((ZhD h x rfl).trans (by simp [hm])))))
   ·have e:Zbc Zao xs (.str x) = xs ++ [x]:=by simp [Zbc,hx',hm]
    rw [e,List.map_append]
    exact (ZbO ((c1 _).trans ((Zez (Zg rfl (Zv rfl rfl) ((Zlu x M).trans (by rw [hx']; rfl)))).trans (Zg rfl rfl ((ZhD h x rfl).trans (by simp [hm])))))).trans (Zdg rfl h rfl h hz2)
theorem ZhS (R:List Nat → Bool) (xs:List (List Nat)) (w:D):(Zbc R xs w).length ≤ xs.length + 1:=by
 unfold Zbc
 split
 ·split <;> simp
 ·omega
theorem Za4 (R:List Nat → Bool):∀ (ws:List D) (xs:List (List Nat)),(Zas R xs ws).length ≤ xs.length + ws.length
 | [],xs=>by simp
 | w :: ws,xs=>by
  have h1:=ZhS R xs w
  have h2:=Za4 R ws (Zbc R xs w)
  show (Zas R (Zbc R xs w) ws).length ≤ _
  rw [List.length_cons]; omega
theorem ZiV {it:It3} (hi:it.lock = none) {W:Option D} {s:Nat}:∀ (ws:List D),(∀ w ∈ ws,IsW w) → ∀ (xs:List (List Nat)) (M:Store) (x:Option D),M[s]? = some (.lst (xs.map D.str)) → xs.length + ws.length < 900000 →
  ∃ x',Zbl it (ZbC 2) Zq5 ws [W,some (.ref s),x] M = .nx [W,some (.ref s),x'] (M.set s (.lst ((Zas Zao xs ws).map D.str)))
 | [],_,xs,M,x,h,_=>⟨x,by rw [ZcO,if_pos (by unfold locked; rw [hi])]; show _ = O3.nx _ (M.set s (.lst (xs.map D.str))); rw [ZaY h]⟩
 | w :: ws,hw,xs,M,x,h,hz=>by
  rw [List.length_cons] at hz
  have hl:=ZhS Zao xs w
  have hs:=(List.getElem?_eq_some_iff.mp h).1
  obtain ⟨x',e⟩:=ZiV hi (W:=W) ws (fun y hy=>hw y (List.mem_cons_of_mem _ hy)) (Zbc Zao xs w) (M.set s (.lst ((Zbc Zao xs w).map D.str))) (some w) (List.getElem?_set_self hs) (by omega)
  refine ⟨x',?_⟩
  rw [ZcM,if_pos (by unfold locked; rw [hi])]
  simp only [ZbC,List.set_cons_succ,List.set_cons_zero,Znw (hw w List.mem_cons_self) h (by omega)]
  rw [e,List.set_set]; rfl
theorem ZqD {ws:List D} (hw:∀ w ∈ ws,IsW w) {s:Nat} {xs:List (List Nat)} {M:Store} (h:M[s]? = some (.lst (xs.map D.str))) (hz:xs.length + ws.length < 900000):Zby [.tup ws,.ref s] M = .ok .non (M.set s (.lst ((Zas Zao xs ws).map D.str))):=by
 obtain ⟨x',e⟩:=ZiV (it:=⟨ws,none⟩) rfl (W:=some (.tup ws)) ws hw xs M none h hz
 exact (Zhd (env:=[some (.tup ws),some (.ref s),none]) ((Zdz (it:=⟨ws,none⟩) rfl).trans e)).trans (Zgo (by simp))
noncomputable abbrev lnB (rec:F3):S3:=Zy (sIf (e2 Za7 (e2 Zk (Zc 2) (eC (.int 0))) (eC (.str [115,101,116]))) (Zak (Zt Zby (Za (e2 Zm (Zai (Za (e2 Zk (Zc 2) (eC (.int 1))) (Ze))) (e2 Zk (Zc 2) (eC (.int 2)))) (Za (Zc 1) (Ze))))) (Zak (Zt Zby (Za (e2 Zk (Zc 2) (eC (.int 1))) (Za (Zc 1) (Ze)))))) (Zy (sIf (e2 Za7 (e2 Zk (Zc 2) (eC (.int 0))) (eC (.str [112,117,116]))) (Zak (Zt Zby (Za (e2 Zk (Zc 2) (eC (.int 2))) (Za (Zc 1) (Ze))))) (Zba)) (Zy (sIf (e2 Za7 (e2 Zk (Zc 2) (eC (.int 0))) (eC (.str [119,104,101,110]))) (Zy (Zak (Zt rec (Za (e2 Zk (Zc 2) (eC (.int 2))) (Za (Zc 1) (Ze))))) (Zak (Zt rec (Za (e2 Zk (Zc 2) (eC (.int 3))) (Za (Zc 1) (Ze)))))) (Zba)) (sIf (e2 Za7 (e2 Zk (Zc 2) (eC (.int 0))) (eC (.str [119,104,105,108,101]))) (Zak (Zt rec (Za (e2 Zk (Zc 2) (eC (.int 2))) (Za (Zc 1) (Ze))))) (Zba))))
def NOf (F:F3) (ds:Ds):Prop:=∀ (M:Store) (s:Nat) (xs:List (List Nat)),M[s]? = some (.lst (xs.map D.str)) → xs.length + ds.wt ≤ 600000 → F [.tup ds.enc,.ref s] M = .ok .non (M.set s (.lst ((ds.names xs).map D.str)))
theorem Zbr:∀ (ds:Ds) (xs:List (List Nat)),(ds.names xs).length ≤ xs.length + ds.wt
 | .nil,xs=>Nat.le_refl _
 | .set x t r,xs=>by have h1:=Za4 Zao (.str x :: t.flat) xs; have h2:=Zbr r (Zas Zao xs (.str x :: t.flat)); simp only [Ds.names,Ds.wt,List.length_cons] at h1 h2 ⊢; omega
 | .put t u r,xs=>by have h0:=Za4 Zao t.flat xs; have h1:=Za4 Zao u.flat (Zas Zao xs t.flat); have h2:=Zbr r (Zas Zao (Zas Zao xs t.flat) u.flat); simp only [Ds.names,Ds.wt] at h2 ⊢; omega
 | .tell t r,xs=>by have h1:=Za4 Zao t.flat xs; have h2:=Zbr r (Zas Zao xs t.flat); simp only [Ds.names,Ds.wt] at h2 ⊢; omega
 | .whn t a b r,xs=>by have h0:=Za4 Zao t.flat xs; have h1:=Zbr a (Zas Zao xs t.flat); have h2:=Zbr b (a.names (Zas Zao xs t.flat)); have h3:=Zbr r (b.names (a.names (Zas Zao xs t.flat))); simp only [Ds.names,Ds.wt] at h3 ⊢; omega
 | .whl t a r,xs=>by have h0:=Za4 Zao t.flat xs; have h1:=Zbr a (Zas Zao xs t.flat); have h3:=Zbr r (a.names (Zas Zao xs t.flat)); simp only [Ds.names,Ds.wt] at h3 ⊢; omega
section
variable {W:Option D} {s:Nat} {xs:List (List Nat)} {M:Store}
theorem Zd2 {ws:List D} (hw:∀ w ∈ ws,IsW w) (h:M[s]? = some (.lst (xs.map D.str))) (hz:xs.length + ws.length < 900000) {d:D} {g:E3} (hg:g [W,some (.ref s),some d] M = .ok (.tup ws) M):Zak (Zt Zby (Za g (Za (Zc 1) (Ze)))) [W,some (.ref s),some d] M = .nx [W,some (.ref s),some d] (M.set s (.lst ((Zas Zao xs ws).map D.str))):=Zcs (Zej hg rfl (ZqD hw h hz))
theorem Zea (h:M[s]? = some (.lst (xs.map D.str))) (o:MO):(M.set s o)[s]? = some o:=List.getElem?_set_self (List.getElem?_eq_some_iff.mp h).1
theorem Zr5 (rec:F3) {x:List Nat} {t:Sm} (ht:t.ok) (h:M[s]? = some (.lst (xs.map D.str))) (hz:xs.length < 800000):lnB rec [W,some (.ref s),some (ZdE x t)] M = .nx [W,some (.ref s),some (ZdE x t)] (M.set s (.lst ((Zas Zao xs (.str x :: t.flat)).map D.str))):=by
 have hl:=ht.2
 have hw:∀ w ∈ (.str x :: t.flat:List D),IsW w:=fun w hw=>by
  rcases List.mem_cons.mp hw with e | e
  ·rw [e]; exact .str x
  ·exact Zb9 t w e
 have ha:e2 Zm (Zai (Za (e2 Zk (Zc 2) (eC (.int 1))) (Ze))) (e2 Zk (Zc 2) (eC (.int 2))) [W,some (.ref s),some (ZdE x t)] M = .ok (.tup (.str x :: t.flat)) M:=by
  refine Zg (Zv rfl rfl) rfl ?_
  rw [ZgE]
  exact if_pos (show 1 + t.flat.length ≤ 1000000 by omega)
 exact (Zn ((ZbO (Zg rfl rfl (Zdl rfl))).trans (Zd2 hw h (by simp; omega) ha))).trans ((Zn (ZaO (Zg rfl rfl (ZaR (by decide))))).trans ((Zn (ZaO (Zg rfl rfl (ZaR (by decide))))).trans (ZaO (Zg rfl rfl (ZaR (by decide))))))
theorem ZpZ (rec:F3) {t:Sm} (ht:t.ok) (h:M[s]? = some (.lst (xs.map D.str))) (hz:xs.length < 800000):lnB rec [W,some (.ref s),some (ZcU t)] M = .nx [W,some (.ref s),some (ZcU t)] (M.set s (.lst ((Zas Zao xs t.flat).map D.str))):=by
 have hl:=ht.2
 exact (Zn ((ZaZ (Zg rfl rfl (ZaR (by decide)))).trans (Zd2 (Zb9 t) h (by omega) rfl))).trans ((Zn (ZaO (Zg rfl rfl (ZaR (by decide))))).trans ((Zn (ZaO (Zg rfl rfl (ZaR (by decide))))).trans (ZaO (Zg rfl rfl (ZaR (by decide))))))
theorem Zsd (rec:F3) {t u:Sm} (ht:t.ok) (hu:u.ok) (h:M[s]? = some (.lst (xs.map D.str))) (hz:xs.length < 800000):lnB rec [W,some (.ref s),some (Zd8 t u)] M = .nx [W,some (.ref s),some (Zd8 t u)] (M.set s (.lst ((Zas Zao (Zas Zao xs t.flat) u.flat).map D.str))):=by
 have hl:=ht.2
 have hl2:=hu.2
 have h1:=Za4 Zao t.flat xs
 refine (Zn ((ZaZ (Zg rfl rfl (ZaR (by decide)))).trans (Zd2 (Zb9 t) h (by omega) rfl))).trans ((Zn ((ZbO (Zg rfl rfl (Zdl rfl))).trans (Zd2 (Zb9 u) (Zea h _) (by omega) rfl))).trans ((Zn (ZaO (Zg rfl rfl (ZaR (by decide))))).trans ((ZaO (Zg rfl rfl (ZaR (by decide)))).trans ?_)))
 rw [List.set_set]
theorem ZsQ {rec:F3} {t:Sm} {a b:Ds} (ht:t.ok) (ha:NOf rec a) (hb:NOf rec b) (h:M[s]? = some (.lst (xs.map D.str))) (hz:xs.length + t.flat.length + a.wt + b.wt ≤ 600000):lnB rec [W,some (.ref s),some (ZcH t a.enc b.enc)] M = .nx [W,some (.ref s),some (ZcH t a.enc b.enc)] (M.set s (.lst ((b.names (a.names (Zas Zao xs t.flat))).map D.str))):=by
 have hl:=ht.2
 have h1:=Za4 Zao t.flat xs
 have h2:=Zbr a (Zas Zao xs t.flat)
 refine (Zn ((ZaZ (Zg rfl rfl (ZaR (by decide)))).trans (Zd2 (Zb9 t) h (by omega) rfl))).trans ((Zn (ZaO (Zg rfl rfl (ZaR (by decide))))).trans ((Zn ((ZbO (Zg rfl rfl (Zdl rfl))).trans ((Zn (Zcs (Zej rfl rfl (ha _ s _ (Zea h _) (by omega))))).trans (Zcs (Zej rfl rfl (hb _ s _ (by rw [List.set_set]; exact Zea h _) (by omega))))))).trans ((ZaO (Zg rfl rfl (ZaR (by decide)))).trans ?_)))
 rw [List.set_set,List.set_set]
theorem ZsE {rec:F3} {t:Sm} {a:Ds} (ht:t.ok) (ha:NOf rec a) (h:M[s]? = some (.lst (xs.map D.str))) (hz:xs.length + t.flat.length + a.wt ≤ 600000):lnB rec [W,some (.ref s),some (ZcF t a.enc)] M = .nx [W,some (.ref s),some (ZcF t a.enc)] (M.set s (.lst ((a.names (Zas Zao xs t.flat)).map D.str))):=by
 have hl:=ht.2
 have h1:=Za4 Zao t.flat xs
 refine (Zn ((ZaZ (Zg rfl rfl (ZaR (by decide)))).trans (Zd2 (Zb9 t) h (by omega) rfl))).trans ((Zn (ZaO (Zg rfl rfl (ZaR (by decide))))).trans ((Zn (ZaO (Zg rfl rfl (ZaR (by decide))))).trans (((ZbO (Zg rfl rfl (Zdl rfl))).trans (Zcs (Zej rfl rfl (ha _ s _ (Zea h _) (by omega))))).trans ?_)))
 rw [List.set_set]
theorem Zgu {rec:F3} {it:It3} (hi:it.lock = none) {d:D} {M S:Store} {x:Option D} (e:lnB rec [W,some (.ref s),some d] M = .nx [W,some (.ref s),some d] S) (ds:List D):Zbl it (ZbC 2) (lnB rec) (d :: ds) [W,some (.ref s),x] M = Zbl it (ZbC 2) (lnB rec) ds [W,some (.ref s),some d] S:=by
 rw [ZcM,if_pos (by unfold locked; rw [hi])]
 simp only [ZbC,List.set_cons_succ,List.set_cons_zero,e]
end
theorem ZfM {rec:F3} {k:Nat} (IH:∀ ds:Ds,ds.ok → ds.dep + 1 ≤ k → NOf rec ds) {it:It3} (hi:it.lock = none) {W:Option D} {s:Nat}:∀ (ds:Ds),ds.ok → ds.dep ≤ k → ∀ (xs:List (List Nat)) (M:Store) (x:Option D),M[s]? = some (.lst (xs.map D.str)) → xs.length + ds.wt ≤ 600000 →
  ∃ x',Zbl it (ZbC 2) (lnB rec) ds.enc [W,some (.ref s),x] M = .nx [W,some (.ref s),x'] (M.set s (.lst ((ds.names xs).map D.str)))
 | .nil,_,_,xs,M,x,h,_=>⟨x,by
  show Zbl _ _ _ [] _ _ = O3.nx _ (M.set s (.lst (xs.map D.str)))
  rw [ZcO,if_pos (by unfold locked; rw [hi]),ZaY h]⟩
 | .set y t r,ho,hd,xs,M,x,h,hz=>by
  have h1:=Za4 Zao (.str y :: t.flat) xs
  simp only [Ds.wt,List.length_cons] at hz h1
  obtain ⟨x',e⟩:=ZfM IH hi (W:=W) r ho.2.2 hd _ (M.set s (.lst ((Zas Zao xs (.str y :: t.flat)).map D.str))) (some (ZdE y t)) (Zea h _) (by omega)
  exact ⟨x',(Zgu hi (Zr5 rec ho.2.1 h (by omega)) r.enc).trans (e.trans (by rw [List.set_set]; rfl))⟩
 | .put t u r,ho,hd,xs,M,x,h,hz=>by
  have h1:=Za4 Zao t.flat xs
  have h2:=Za4 Zao u.flat (Zas Zao xs t.flat)
  simp only [Ds.wt] at hz
  obtain ⟨x',e⟩:=ZfM IH hi (W:=W) r ho.2.2 hd _ (M.set s (.lst ((Zas Zao (Zas Zao xs t.flat) u.flat).map D.str))) (some (Zd8 t u)) (Zea h _) (by omega)
  exact ⟨x',(Zgu hi (Zsd rec ho.1 ho.2.1 h (by omega)) r.enc).trans (e.trans (by rw [List.set_set]; rfl))⟩
 | .tell t r,ho,hd,xs,M,x,h,hz=>by
  have h1:=Za4 Zao t.flat xs
  simp only [Ds.wt] at hz
  obtain ⟨x',e⟩:=ZfM IH hi (W:=W) r ho.2 hd _ (M.set s (.lst ((Zas Zao xs t.flat).map D.str))) (some (ZcU t)) (Zea h _) (by omega)
  exact ⟨x',(Zgu hi (ZpZ rec ho.1 h (by omega)) r.enc).trans (e.trans (by rw [List.set_set]; rfl))⟩
 | .whn t a b r,ho,hd,xs,M,x,h,hz=>by
  simp only [Ds.wt] at hz
  simp only [Ds.dep] at hd
  have h0:=Za4 Zao t.flat xs
  have h1:=Zbr a (Zas Zao xs t.flat)
  have h2:=Zbr b (a.names (Zas Zao xs t.flat))
  obtain ⟨x',e⟩:=ZfM IH hi (W:=W) r ho.2.2.2 (by omega) _ (M.set s (.lst ((b.names (a.names (Zas Zao xs t.flat))).map D.str))) (some (ZcH t a.enc b.enc)) (Zea h _) (by omega)
  exact ⟨x',(Zgu hi (ZsQ ho.1 (IH a ho.2.1 (by omega)) (IH b ho.2.2.1 (by omega)) h (by omega)) r.enc).trans (e.trans (by rw [List.set_set]; rfl))⟩
 | .whl t a r,ho,hd,xs,M,x,h,hz=>by
  simp only [Ds.wt] at hz
  simp only [Ds.dep] at hd
  have h0:=Za4 Zao t.flat xs
  have h1:=Zbr a (Zas Zao xs t.flat)
  obtain ⟨x',e⟩:=ZfM IH hi (W:=W) r ho.2.2 (by omega) _ (M.set s (.lst ((a.names (Zas Zao xs t.flat)).map D.str))) (some (ZcF t a.enc)) (Zea h _) (by omega)
  exact ⟨x',(Zgu hi (ZsE ho.1 (IH a ho.2.1 (by omega)) h (by omega)) r.enc).trans (e.trans (by rw [List.set_set]; rfl))⟩
theorem ZsA:∀ (n:Nat) (ds:Ds),ds.ok → ds.dep + 1 ≤ n → NOf (ZdT n) ds:=by
 intro n
 induction n with
 | zero=>intro ds _ hd; omega
 | succ n ih=>
  intro ds ho hd M s xs h hz
  obtain ⟨x',e⟩:=ZfM (k:=n) ih (it:=⟨ds.enc,none⟩) rfl (W:=some (.tup ds.enc)) ds ho (by omega) xs M none h hz
  exact (Zhd (env:=[some (.tup ds.enc),some (.ref s),none]) ((Zdz (it:=⟨ds.enc,none⟩) rfl).trans e)).trans (Zgo (by simp))
theorem ZtL {ds:Ds} (ho:ds.ok) (hd:ds.dep ≤ 3):NOf ZdV ds:=ZsA 7 ds ho (by omega)
def Zny (F:F3) (ds:Ds):Prop:=∀ (M:Store),FL F [.tup ds.enc] M (ds.text.map D.tup)
theorem text_len:∀ (ds:Ds),ds.text.length ≤ ds.wt
 | .nil=>Nat.le_refl _
 | .set x t r=>by have:=text_len r; simp only [Ds.text,Ds.wt,List.length_cons]; omega
 | .put t u r=>by have:=text_len r; simp only [Ds.text,Ds.wt,List.length_cons]; omega
 | .tell t r=>by have:=text_len r; simp only [Ds.text,Ds.wt,List.length_cons]; omega
 | .whn t a b r=>by have:=text_len r; have:=text_len a; have:=text_len b; simp only [Ds.text,Ds.wt,List.length_cons,List.length_append,List.length_nil]; omega
 | .whl t a r=>by have:=text_len r; have:=text_len a; simp only [Ds.text,Ds.wt,List.length_cons,List.length_append,List.length_nil]; omega
theorem Zf7 {x y:List D} (h:x.length + y.length ≤ 1000) (M:Store):Zm (.tup x) (.tup y) M = .ok (.tup (x ++ y)) M:=by
 rw [ZgE]
 exact if_pos (Nat.le_trans h (by decide))
def Zm6 (F:F3) (d:D) (h:List (List D)):Prop:=∀ (M:Store),FL F [d] M (h.map D.tup)
theorem Zs5 (rec:Nat → F3) {x:List Nat} {t:Sm} (ht:t.ok):Zm6 (mkF 1 3 (Zat rec)) (ZdE x t) [.str Zpo :: .str x :: t.flat]:=by
 intro M
 have hl:=ht.2
 refine FL.of (env:=[some (ZdE x t),none,none]) ?_ rfl rfl
 unfold Zat
 have hsl:eSl (Zc 0) (ZeN) (ZeV (e1 ZcI (eC (.int 1)))) [some (ZdE x t),none,none] M = .ok (.tup [.str Zpo,.str x]) M:=rfl
 exact BL.skip (Zg rfl rfl (ZaR (by decide))) (BL.skip (Zg rfl rfl (ZaR (by decide))) (BL.skip (Zg rfl rfl (ZaR (by decide))) (BL.ret (LF.lst (Zh (Zg hsl (Zg rfl rfl rfl) (Zf7 (x:=[.str Zpo,.str x]) (y:=t.flat) (by simp; omega) M)) rfl) rfl) (List.prefix_refl _))))
theorem ZqH (rec:Nat → F3) {t:Sm} (ht:t.ok):Zm6 (mkF 1 3 (Zat rec)) (ZcU t) [.str Zps :: t.flat]:=by
 intro M
 have hl:=ht.2
 refine FL.of (env:=[some (ZcU t),none,none]) ?_ rfl rfl
 unfold Zat
 have hsl:eSl (Zc 0) (ZeN) (ZeV (e1 ZcI (eC (.int 1)))) [some (ZcU t),none,none] M = .ok (.tup [.str Zps]) M:=rfl
 exact BL.skip (Zg rfl rfl (ZaR (by decide))) (BL.skip (Zg rfl rfl (ZaR (by decide))) (BL.skip (Zg rfl rfl (ZaR (by decide))) (BL.ret (LF.lst (Zh (Zg hsl (Zg rfl rfl rfl) (Zf7 (x:=[.str Zps]) (y:=t.flat) (by simp; omega) M)) rfl) rfl) (List.prefix_refl _))))
theorem Zr9 (rec:Nat → F3) {t u:Sm} (ht:t.ok) (hu:u.ok):Zm6 (mkF 1 3 (Zat rec)) (Zd8 t u) [.str Zn2 :: (t.flat ++ u.flat)]:=by
 intro M
 have hl:=ht.2
 have hl2:=hu.2
 refine FL.of (env:=[some (Zd8 t u),none,none]) ?_ rfl rfl
 unfold Zat
 exact BL.skip (Zg rfl rfl (ZaR (by decide))) (BL.skip (Zg rfl rfl (ZaR (by decide))) (BL.take (Zg rfl rfl (Zdl rfl)) (BL.ret (LF.lst (Zh (Zg (Zg (Zv rfl rfl) rfl (Zf7 (x:=[.str Zn2]) (y:=t.flat) (by simp; omega) M)) rfl (Zf7 (x:=.str Zn2 :: t.flat) (y:=u.flat) (by simp; omega) M)) rfl) rfl) (List.prefix_refl _))))
theorem ZrW {rec:Nat → F3} {t:Sm} {a b:Ds} (ht:t.ok) (ha:Zny (rec 0) a) (hb:Zny (rec 0) b) (hw:a.wt + b.wt ≤ 700000):Zm6 (mkF 1 3 (Zat rec)) (ZcH t a.enc b.enc) ((.str Zjs :: t.flat) :: (a.text ++ [[.str [101,108,115,101]]] ++ b.text ++ [[.str [101,110,100]]])):=by
 intro M
 have hl:=ht.2
 have q1:=text_len a
 have q2:=text_len b
 refine FL.of (env:=[some (ZcH t a.enc b.enc),none,none]) ?_ rfl rfl
 unfold Zat
 refine BL.take (Zg rfl rfl (Zdl rfl)) (BL.set (LF.call (ds:=[.tup a.enc]) rfl (ha M)).le fun n1 S1 p1 g1=>BL.set (LF.call (ds:=[.tup b.enc]) rfl (hb S1)).le fun n2 S2 p2 g2=>?_)
 have h:=LE.add (LE.add (LE.add (LE.add (env:=[some (ZcH t a.enc b.enc),some (.ref n1),some (.ref n2)]) (M:=S2) (LF.lst (ds:=[.tup (.str Zjs :: t.flat)]) (g:=Za (e2 Zm (Zai (Za (eC (.str [119,104,101,110])) (Ze))) (e2 Zk (Zc 0) (eC (.int 1)))) (Ze)) (Zh (Zg (Zv rfl rfl) rfl (Zf7 (x:=[.str Zjs]) (y:=t.flat) (by simp; omega) S2)) rfl) rfl).le (fun T pT=>LE.var (i:=1) rfl (Zah (p2.trans pT) g1)) (by simp; omega)).le (fun T pT=>(LF.lst (ds:=[.tup [.str [101,108,115,101]]]) (g:=Za (Zai (Za (eC (.str [101,108,115,101])) (Ze))) (Ze)) (Zh (Zv rfl rfl) rfl) rfl).le) (by simp; omega)).le (fun T pT=>LE.var (i:=2) rfl (Zah pT g2)) (by simp; omega)).le (fun T pT=>(LF.lst (ds:=[.tup [.str [101,110,100]]]) (g:=Za (Zai (Za (eC (.str [101,110,100])) (Ze))) (Ze)) (Zh (Zv rfl rfl) rfl) rfl).le) (by simp; omega)
 have e:[D.tup (.str Zjs :: t.flat)] ++ a.text.map D.tup ++ [.tup [.str [101,108,115,101]]] ++ b.text.map D.tup ++ [.tup [.str [101,110,100]]] = ((.str Zjs :: t.flat) :: (a.text ++ [[.str [101,108,115,101]]] ++ b.text ++ [[.str [101,110,100]]])).map D.tup:=by simp
 rw [e] at h
 exact BL.ret h (p1.trans p2)
theorem Zta {rec:Nat → F3} {t:Sm} {a:Ds} (ht:t.ok) (ha:Zny (rec 0) a) (hw:a.wt ≤ 700000):Zm6 (mkF 1 3 (Zat rec)) (ZcF t a.enc) ((.str ZkM :: t.flat) :: (a.text ++ [[.str [101,110,100]]])):=by
 intro M
 have hl:=ht.2
 have q1:=text_len a
 refine FL.of (env:=[some (ZcF t a.enc),none,none]) ?_ rfl rfl
 unfold Zat
 have h:=LE.add (LE.add (env:=[some (ZcF t a.enc),none,none]) (M:=M) (LF.lst (ds:=[.tup (.str ZkM :: t.flat)]) (g:=Za (e2 Zm (Zai (Za (eC (.str [119,104,105,108,101])) (Ze))) (e2 Zk (Zc 0) (eC (.int 1)))) (Ze)) (Zh (Zg (Zv rfl rfl) rfl (Zf7 (x:=[.str ZkM]) (y:=t.flat) (by simp; omega) M)) rfl) rfl).le (fun T pT=>(LF.call (F:=rec 0) (ds:=[.tup a.enc]) (g:=Za (e2 Zk (Zc 0) (eC (.int 2))) (Ze)) rfl (ha T)).le) (by simp; omega)).le (fun T pT=>(LF.lst (ds:=[.tup [.str [101,110,100]]]) (g:=Za (Zai (Za (eC (.str [101,110,100])) (Ze))) (Ze)) (Zh (Zv rfl rfl) rfl) rfl).le) (by simp; omega)
 have e:[D.tup (.str ZkM :: t.flat)] ++ a.text.map D.tup ++ [.tup [.str [101,110,100]]] = ((.str ZkM :: t.flat) :: (a.text ++ [[.str [101,110,100]]])).map D.tup:=by simp
 rw [e] at h
 exact BL.skip (Zg rfl rfl (ZaR (by decide))) (BL.take (Zg rfl rfl (Zdl rfl)) (BL.ret h (List.prefix_refl _)))
noncomputable abbrev trB (F:F3):S3:=Zak (ZaN tyL Zcn (Zc 1) (Za (Zt F (Za (Zc 2) (Ze))) (Ze)))
theorem ZgA {F:F3} {it:It3} (hi:it.lock = none) {W:Option D} {r:Nat} {acc:List D} {d:D} {h:List (List D)} {M M0:Store} {x:Option D} (H:Zm6 F d h) (hp:M0 <+: M) (hr:M[r]? = some (.lst acc)) (hl:M0.length ≤ r) (hz:acc.length + h.length ≤ 800000) (ds:List D):
  ∃ S,Zbl it (ZbC 2) (trB F) (d :: ds) [W,some (.ref r),x] M = Zbl it (ZbC 2) (trB F) ds [W,some (.ref r),some d] S ∧ M0 <+: S ∧ S[r]? = some (.lst (acc ++ h.map D.tup)):=by
 obtain ⟨S,e,p1⟩:=Zh8 (o:=Zc 1) (t:=Zt F (Za (Zc 2) (Ze))) (env:=[W,some (.ref r),some d]) (ys:=h.map D.tup) rfl hr (LF.call (ds:=[d]) rfl (H M)) (by simp; omega)
 refine ⟨_,?_,Zcx (hp.trans p1) hl,List.getElem?_set_self (List.getElem?_eq_some_iff.mp (Zah p1 hr)).1⟩
 rw [ZcM,if_pos (by unfold locked; rw [hi])]
 simp only [ZbC,List.set_cons_succ,List.set_cons_zero,e]
theorem ZfP {j:Nat} (IH:∀ ds:Ds,ds.ok → ds.wt ≤ 100000 → 2 * ds.dep + 2 ≤ j → Zny (Zap j 0) ds) {it:It3} (hi:it.lock = none) {W:Option D} {r:Nat} {M0:Store} (hl:M0.length ≤ r):∀ (ds:Ds),ds.ok → ds.wt ≤ 100000 → 2 * ds.dep ≤ j → ∀ (acc:List D) (M:Store) (x:Option D),M0 <+: M → M[r]? = some (.lst acc) → acc.length + ds.wt ≤ 700000 →
  ∃ S x',Zbl it (ZbC 2) (trB (Zap (j + 1) 1)) ds.enc [W,some (.ref r),x] M = .nx [W,some (.ref r),x'] S ∧ M0 <+: S ∧ S[r]? = some (.lst (acc ++ ds.text.map D.tup))
 | .nil,_,_,_,acc,M,x,hp,hr,_=>⟨M,x,by
  show Zbl _ _ _ [] _ _ = _
  rw [ZcO,if_pos (by unfold locked; rw [hi])],hp,by simpa [Ds.text] using hr⟩
 | .set y t rr,ho,hw,hd,acc,M,x,hp,hr,hz=>by
  rw [Ds.wt] at hz hw
  obtain ⟨S,e,q1,q2⟩:=ZgA (W:=W) (x:=x) hi (Zs5 (Zap j) (x:=y) ho.2.1) hp hr hl (by simp; omega) rr.enc
  obtain ⟨S2,x2,e2',q4,q5⟩:=ZfP IH hi hl rr ho.2.2 (by omega) hd _ S _ q1 q2 (by simp; omega)
  exact ⟨S2,x2,e.trans e2',q4,by rw [q5]; simp [Ds.text]⟩
 | .put t u rr,ho,hw,hd,acc,M,x,hp,hr,hz=>by
  rw [Ds.wt] at hz hw
  obtain ⟨S,e,q1,q2⟩:=ZgA (W:=W) (x:=x) hi (Zr9 (Zap j) ho.1 ho.2.1) hp hr hl (by simp; omega) rr.enc
  obtain ⟨S2,x2,e2',q4,q5⟩:=ZfP IH hi hl rr ho.2.2 (by omega) hd _ S _ q1 q2 (by simp; omega)
  exact ⟨S2,x2,e.trans e2',q4,by rw [q5]; simp [Ds.text]⟩
 | .tell t rr,ho,hw,hd,acc,M,x,hp,hr,hz=>by
  rw [Ds.wt] at hz hw
  obtain ⟨S,e,q1,q2⟩:=ZgA (W:=W) (x:=x) hi (ZqH (Zap j) ho.1) hp hr hl (by simp; omega) rr.enc
  obtain ⟨S2,x2,e2',q4,q5⟩:=ZfP IH hi hl rr ho.2 (by omega) hd _ S _ q1 q2 (by simp; omega)
  exact ⟨S2,x2,e.trans e2',q4,by rw [q5]; simp [Ds.text]⟩
 | .whn t a b rr,ho,hw,hd,acc,M,x,hp,hr,hz=>by
  rw [Ds.wt] at hz hw
  simp only [Ds.dep] at hd
  have l1:=text_len a
  have l2:=text_len b
  obtain ⟨S,e,q1,q2⟩:=ZgA (W:=W) (x:=x) hi (ZrW ho.1 (IH a ho.2.1 (by omega) (by omega)) (IH b ho.2.2.1 (by omega) (by omega)) (by omega)) hp hr hl (by simp; omega) rr.enc
  obtain ⟨S2,x2,e2',q4,q5⟩:=ZfP IH hi hl rr ho.2.2.2 (by omega) (by omega) _ S _ q1 q2 (by simp; omega)
  exact ⟨S2,x2,e.trans e2',q4,by rw [q5]; simp [Ds.text]⟩
 | .whl t a rr,ho,hw,hd,acc,M,x,hp,hr,hz=>by
  rw [Ds.wt] at hz hw
  simp only [Ds.dep] at hd
  have l1:=text_len a
  obtain ⟨S,e,q1,q2⟩:=ZgA (W:=W) (x:=x) hi (Zta ho.1 (IH a ho.2.1 (by omega) (by omega)) (by omega)) hp hr hl (by simp; omega) rr.enc
  obtain ⟨S2,x2,e2',q4,q5⟩:=ZfP IH hi hl rr ho.2.2 (by omega) (by omega) _ S _ q1 q2 (by simp; omega)
  exact ⟨S2,x2,e.trans e2',q4,by rw [q5]; simp [Ds.text]⟩
theorem ZsF:∀ (n:Nat) (ds:Ds),ds.ok → ds.wt ≤ 100000 → 2 * ds.dep + 2 ≤ n → Zny (Zap n 0) ds:=by
 intro n
 induction n using Nat.strongRecOn with
 | ind n ih=>
  intro ds ho hw hd M
  match n,ih,hd with
  | 0,_,hd=>omega
  | 1,_,hd=>omega
  | j + 2,ih,hd=>
   refine FL.of (env:=[some (.tup ds.enc),none,none]) ?_ rfl rfl
   obtain ⟨S,x,e,q1,q2⟩:=ZfP (j:=j) (fun ds ho hw hd=>ih j (by omega) ds ho hw hd) (it:=⟨ds.enc,none⟩) rfl (W:=some (.tup ds.enc)) (M0:=M) (Nat.le_refl _) ds ho hw (by omega) [] (M ++ [.lst []]) none (List.prefix_append _ _) (Zax M _ []) (by simp; omega)
   refine BL.step (env':=[some (.tup ds.enc),some (.ref M.length),none]) (S:=M ++ [.lst []]) (Zx (Zbg rfl rfl)) (BL.step ((Zdz (it:=⟨ds.enc,none⟩) rfl).trans e) ?_)
   exact ⟨M.length,S,ZbP rfl,q1,by rw [q2]; simp,Nat.le_refl _⟩
theorem ZuO {ds:Ds} (ho:ds.ok) (hw:ds.wt ≤ 100000) (hd:ds.dep ≤ 3):Zny ZbK ds:=ZsF 13 ds ho hw (by omega)
noncomputable abbrev Zqs:List Nat:=[116,97,107,101]
noncomputable abbrev Zbx (tk:List (List Nat)) (ds:Ds):D:=.tup [.tup (tk.map D.str),.tup ds.enc]
noncomputable def ZbW (tk:List (List Nat)):List (List D):=if 0 < tk.length then [.str Zqs :: tk.map D.str] else []
theorem ZjE {tk:List (List Nat)} {ds:Ds} (htk:tk.length ≤ 6) (ho:ds.ok) (hw:ds.wt ≤ 100000) (hd:ds.dep ≤ 3) (M:Store):FL ZdF [Zbx tk ds] M ((ZbW tk ++ ds.text).map D.tup):=by
 refine FL.of (env:=[some (Zbx tk ds),none]) ?_ rfl rfl
 unfold ZfC
 have hl:=text_len ds
 have hlen:Zaq ZaF (Za (e2 Zk (Zc 0) (eC (.int 0))) (Ze)) [some (Zbx tk ds),none] M = .ok (.int (tk.length:Int)) M:=by
  refine ZaS (a:=.tup (tk.map D.str)) (M1:=M) rfl ?_
  rw [Zgm,List.length_map]
 have h1:LE (eIf (e2 ZeL (Zaq ZaF (Za (e2 Zk (Zc 0) (eC (.int 0))) (Ze))) (eC (.int 0))) (ZaE (Za (e2 Zm (Zai (Za (eC (.str [116,97,107,101])) (Ze))) (e2 Zk (Zc 0) (eC (.int 0)))) (Ze))) (ZaE (Ze))) [some (Zbx tk ds),none] M ((ZbW tk).map D.tup):=by
  by_cases h:0 < tk.length
  ·have e:=Zq2 (c:=e2 ZeL (Zaq ZaF (Za (e2 Zk (Zc 0) (eC (.int 0))) (Ze))) (eC (.int 0))) (f:=ZaE (Za (e2 Zm (Zai (Za (eC (.str [116,97,107,101])) (Ze))) (e2 Zk (Zc 0) (eC (.int 0)))) (Ze))) (g:=ZaE (Ze)) (M1:=M) (env:=[some (Zbx tk ds),none]) (Zg hlen rfl (by rw [ZdX,decide_eq_true (by omega)]))
   obtain ⟨n,S,q1,q2⟩:=(LF.lst (ds:=[.tup (.str Zqs :: tk.map D.str)]) (env:=[some (Zbx tk ds),none]) (M:=M) (g:=Za (e2 Zm (Zai (Za (eC (.str [116,97,107,101])) (Ze))) (e2 Zk (Zc 0) (eC (.int 0)))) (Ze)) (Zh (Zg (Zv rfl rfl) rfl (Zf7 (x:=[.str Zqs]) (y:=tk.map D.str) (by simp; omega) M)) rfl) rfl).le
   refine ⟨n,S,e.trans q1,?_⟩
   unfold ZbW; rw [if_pos h]; exact q2
  ·have e:=ZtO (c:=e2 ZeL (Zaq ZaF (Za (e2 Zk (Zc 0) (eC (.int 0))) (Ze))) (eC (.int 0))) (f:=ZaE (Za (e2 Zm (Zai (Za (eC (.str [116,97,107,101])) (Ze))) (e2 Zk (Zc 0) (eC (.int 0)))) (Ze))) (g:=ZaE (Ze)) (M1:=M) (env:=[some (Zbx tk ds),none]) (Zg hlen rfl (by rw [ZdX,decide_eq_false (by omega)]))
   obtain ⟨n,S,q1,q2⟩:=(LF.lst (ds:=[]) (env:=[some (Zbx tk ds),none]) (M:=M) (g:=Ze) rfl rfl).le
   refine ⟨n,S,e.trans q1,?_⟩
   unfold ZbW; rw [if_neg h]; exact q2
 have hz:(ZbW tk).length ≤ 1:=by unfold ZbW; split <;> simp
 refine BL.set h1 fun n S p1 g1=>?_
 have h2:=LE.add (env:=[some (Zbx tk ds),some (.ref n)]) (LE.var (i:=1) rfl g1) (fun T pT=>(LF.call (F:=ZbK) (ds:=[.tup ds.enc]) (g:=Za (e2 Zk (Zc 0) (eC (.int 1))) (Ze)) rfl (ZuO ho hw hd T)).le) (by simp; omega)
 rw [← List.map_append] at h2
 exact BL.ret h2 p1
noncomputable abbrev nmB:S3:=sIf (Zew (e1 Zc9 (e1 (ZaD .int) (Zc 3))) (Zew (e2 Zer (Zc 3) (Zfe)) (e2 Zek (Zc 3) (Zc 1)))) (Zak (ZaN tyL Zan (Zc 1) (Za (Zc 3) (Ze)))) (Zba)
theorem ZlY (x:List Nat) (M:Store):Zer (.str x) (.tup (Zcp.map D.str)) M = .ok (.bl (!resv x)) M:=by
 have h1:(Zcp.map D.str).all Zbs = true:=by rw [List.all_map]; exact List.all_eq_true.mpr fun _ _=>rfl
 have h2:((Zcp.map D.str).any fun y=>deq y (.str x)) = resv x:=by
  rw [List.any_map]
  unfold resv
  cases hc:Zcp.contains x with
  | true=>rw [List.any_eq_true]; exact ⟨x,List.contains_iff_mem.mp hc,by simp [ZmT]⟩
  | false=>
   rw [List.any_eq_false]
   intro y hy
   show ¬ deq (.str y) (.str x) = true
   rw [ZmT]
   simp only [beq_iff_eq]
   intro z
   subst z
   rw [List.contains_iff_mem.mpr hy] at hc; cases hc
 show (match inD (.str x) (.tup (Zcp.map D.str)) with | some r=>R3.ok (D.bl (!r)) M | none=>R3.bad) = _
 rw [ZrF,h1,h2]; rfl
theorem ZqG {w:D} (hw:IsW w) {P R:Option D} {s:Nat} {xs:List (List Nat)} {M:Store} (h:M[s]? = some (.lst (xs.map D.str))) (hz:xs.length < 900000):nmB [P,some (.ref s),R,some w] M = .nx [P,some (.ref s),R,some w] (M.set s (.lst ((Zbc resv xs w).map D.str))):=by
 have hz2:(xs.map D.str).length < SZ:=by rw [List.length_map]; exact Nat.lt_trans hz (by decide)
 cases hw with
 | int i=>
  show _ = O3.nx _ (M.set s (.lst (xs.map D.str)))
  rw [ZaY h]
  exact ZaO (Zg8 (ZbG (ZbG rfl (show ZaD .int (.int i) M = .ok (.bl true) M from rfl)) rfl))
 | str x=>
  have c1:∀ g:E3,Zew (e1 Zc9 (e1 (ZaD .int) (Zc 3))) g [P,some (.ref s),R,some (.str x)] M = g [P,some (.ref s),R,some (.str x)] M:=fun g=>Zez (ZbG (ZbG rfl (show ZaD .int (.str x) M = .ok (.bl false) M from rfl)) rfl)
  by_cases hx:resv x = true
  ·have e:Zbc resv xs (.str x) = xs:=by simp [Zbc,hx]
   rw [e,ZaY h]
   exact ZaO ((c1 _).trans (Zg8 (Zg rfl rfl ((ZlY x M).trans (by rw [hx]; rfl)))))
  ·have hx':resv x = false:=by cases q:resv x with | true=>exact absurd q hx | false=>rfl
   by_cases hm:x ∈ xs
   ·have e:Zbc resv xs (.str x) = xs:=by simp [Zbc,hm]
    rw [e,ZaY h]
    exact ZaO ((c1 _).trans ((Zez (Zg rfl rfl ((ZlY x M).trans (by rw [hx']; rfl)))).trans (Zg rfl rfl ((ZhD h x rfl).trans (by simp [hm])))))
   ·have e:Zbc resv xs (.str x) = xs ++ [x]:=by simp [Zbc,hx',hm]
    rw [e,List.map_append]
    exact (ZbO ((c1 _).trans ((Zez (Zg rfl rfl ((ZlY x M).trans (by rw [hx']; rfl)))).trans (Zg rfl rfl ((ZhD h x rfl).trans (by simp [hm])))))).trans (Zdg rfl h rfl h hz2)
theorem ZmP {it:It3} (hi:it.lock = none) {P R:Option D} {s:Nat}:∀ (ws:List D),(∀ w ∈ ws,IsW w) → ∀ (xs:List (List Nat)) (M:Store) (x:Option D),M[s]? = some (.lst (xs.map D.str)) → xs.length + ws.length < 900000 →
  ∃ x',Zbl it (ZbC 3) nmB ws [P,some (.ref s),R,x] M = .nx [P,some (.ref s),R,x'] (M.set s (.lst ((Zas resv xs ws).map D.str)))
 | [],_,xs,M,x,h,_=>⟨x,by rw [ZcO,if_pos (by unfold locked; rw [hi])]; show _ = O3.nx _ (M.set s (.lst (xs.map D.str))); rw [ZaY h]⟩
 | w :: ws,hw,xs,M,x,h,hz=>by
  rw [List.length_cons] at hz
  have hl:=ZhS resv xs w
  obtain ⟨x',e⟩:=ZmP hi (P:=P) (R:=R) ws (fun y hy=>hw y (List.mem_cons_of_mem _ hy)) (Zbc resv xs w) (M.set s (.lst ((Zbc resv xs w).map D.str))) (some w) (Zea h _) (by omega)
  refine ⟨x',?_⟩
  rw [ZcM,if_pos (by unfold locked; rw [hi])]
  simp only [ZbC,List.set_cons_succ,List.set_cons_zero,ZqG (hw w List.mem_cons_self) h (by omega)]
  rw [e,List.set_set]; rfl
theorem ZkX {items:List D} {rr s:Nat} (hrs:rr ≠ s) {P:Option D}:∀ (rows:List (List D)),(∀ r ∈ rows,∀ w ∈ r,IsW w) → ∀ (xs:List (List Nat)) (M:Store) (x y:Option D),M[s]? = some (.lst (xs.map D.str)) → M[rr]? = some (.lst items) → xs.length + (rows.map List.length).sum < 900000 →
  ∃ x' y',Zbl ⟨items,some rr⟩ (ZbC 2) (Zfj (ZfV (Zc 2)) (ZbC 3) nmB) (rows.map D.tup) [P,some (.ref s),x,y] M = .nx [P,some (.ref s),x',y'] (M.set s (.lst ((Zfg xs rows).map D.str)))
 | [],_,xs,M,x,y,h,hr,_=>⟨x,y,by
  rw [List.map_nil,ZcO,if_pos (show locked ⟨items,some rr⟩ M = true from decide_eq_true hr)]
  show _ = O3.nx _ (M.set s (.lst (xs.map D.str)))
  rw [ZaY h]⟩
 | r :: rows,hw,xs,M,x,y,h,hr,hz=>by
  rw [List.map_cons,List.sum_cons] at hz
  have hl:=Za4 resv r xs
  obtain ⟨y1,e1⟩:=ZmP (it:=⟨r,none⟩) rfl (P:=P) (R:=some (.tup r)) r (hw r List.mem_cons_self) xs M y h (by omega)
  obtain ⟨x',y',e⟩:=ZkX hrs (P:=P) rows (fun q hq=>hw q (List.mem_cons_of_mem _ hq)) (Zas resv xs r) (M.set s (.lst ((Zas resv xs r).map D.str))) (some (.tup r)) y1 (Zea h _) (by rw [List.getElem?_set_ne hrs.symm]; exact hr) (by omega)
  refine ⟨x',y',?_⟩
  rw [List.map_cons,ZcM,if_pos (show locked ⟨items,some rr⟩ M = true from decide_eq_true hr)]
  have e2:Zfj (ZfV (Zc 2)) (ZbC 3) nmB [P,some (.ref s),some (.tup r),y] M = .nx [P,some (.ref s),some (.tup r),y1] (M.set s (.lst ((Zas resv xs r).map D.str))):=(Zdz (it:=⟨r,none⟩) rfl).trans e1
  simp only [ZbC,List.set_cons_succ,List.set_cons_zero,e2]
  rw [e,List.set_set]; rfl
theorem Zsa:∀ (ds:Ds),∀ r ∈ ds.text,∀ w ∈ r,IsW w:=by
 have hc:∀ (x:List Nat) (t:Sm),∀ w ∈ (.str x :: t.flat:List D),IsW w:=fun x t w hw=>by
  rcases List.mem_cons.mp hw with e | e
  ·rw [e]; exact .str x
  ·exact Zb9 t w e
 intro ds
 induction ds with
 | nil=>intro r hr; cases hr
 | set x t r ih=>
  intro q hq
  rcases List.mem_cons.mp hq with e | e
  ·subst e; intro w hw
   rcases List.mem_cons.mp hw with e | e
   ·rw [e]; exact .str _
   ·exact hc x t w e
  ·exact ih q e
 | put t u r ih=>
  intro q hq
  rcases List.mem_cons.mp hq with e | e
  ·subst e; intro w hw
   rcases List.mem_cons.mp hw with e | e
   ·rw [e]; exact .str _
   ·rcases List.mem_append.mp e with e | e
    ·exact Zb9 t w e
    ·exact Zb9 u w e
  ·exact ih q e
 | tell t r ih=>
  intro q hq
  rcases List.mem_cons.mp hq with e | e
  ·subst e; exact hc _ t
  ·exact ih q e
 | whn t a b r iha ihb ih=>
  intro q hq
  simp only [Ds.text,List.cons_append,List.mem_cons,List.mem_append,List.not_mem_nil,or_false] at hq
  rcases hq with e | ((((e | e) | e) | e) | e)
  ·subst e; exact hc _ t
  ·exact iha q e
  ·subst e; intro w hw; rw [List.mem_singleton.mp hw]; exact .str _
  ·exact ihb q e
  ·subst e; intro w hw; rw [List.mem_singleton.mp hw]; exact .str _
  ·exact ih q e
 | whl t a r iha ih=>
  intro q hq
  simp only [Ds.text,List.cons_append,List.mem_cons,List.mem_append,List.not_mem_nil,or_false] at hq
  rcases hq with e | ((e | e) | e)
  ·subst e; exact hc _ t
  ·exact iha q e
  ·subst e; intro w hw; rw [List.mem_singleton.mp hw]; exact .str _
  ·exact ih q e
theorem Zde:∀ (ds:Ds),(ds.text.map List.length).sum ≤ ds.wt
 | .nil=>Nat.le_refl _
 | .set x t r=>by have:=Zde r; simp only [Ds.text,Ds.wt,List.map_cons,List.sum_cons,List.length_cons]; omega
 | .put t u r=>by have:=Zde r; simp only [Ds.text,Ds.wt,List.map_cons,List.sum_cons,List.length_cons,List.length_append]; omega
 | .tell t r=>by have:=Zde r; simp only [Ds.text,Ds.wt,List.map_cons,List.sum_cons,List.length_cons]; omega
 | .whn t a b r=>by have:=Zde r; have:=Zde a; have:=Zde b; simp only [Ds.text,Ds.wt,List.map_cons,List.map_append,List.sum_append,List.sum_cons,List.length_cons,List.map_nil,List.sum_nil,List.length_nil]; omega
 | .whl t a r=>by have:=Zde r; have:=Zde a; simp only [Ds.text,Ds.wt,List.map_cons,List.map_append,List.sum_append,List.sum_cons,List.length_cons,List.map_nil,List.sum_nil,List.length_nil]; omega
theorem Zh1:∀ (ws xs:List (List Nat)),(∀ x ∈ ws,x ∈ xs) → Zas resv xs (ws.map D.str) = xs
 | [],_,_=>rfl
 | w :: ws,xs,h=>by
  have e:Zbc resv xs (.str w) = xs:=by simp [Zbc,h w List.mem_cons_self]
  show Zas resv (Zbc resv xs (.str w)) (ws.map D.str) = xs
  rw [e]; exact Zh1 ws xs fun x hx=>h x (List.mem_cons_of_mem _ hx)
theorem Zkk {tk:List (List Nat)} {ds:Ds} (htk:tk.length ≤ 6) (ho:ds.ok) (hn:ds.nm) (hw:ds.wt ≤ 100000) (hd:ds.dep ≤ 3) (M:Store):Zeg [Zbx tk ds] M = .ok (.tup ((ds.names tk).map D.str)) M:=by
 obtain ⟨rr,S,h1,⟨G,p1⟩,g1,l1⟩:=ZjE htk ho hw hd (M ++ [.lst (tk.map D.str)])
 have hs0:S[M.length]? = some (.lst (tk.map D.str)):=Zah ⟨G,p1⟩ (Zax M _ [])
 have hlM:(M ++ [MO.lst (tk.map D.str)]).length = M.length + 1:=by simp
 have htw:∀ r ∈ ZbW tk ++ ds.text,∀ w ∈ r,IsW w:=fun r hr=>by
  rcases List.mem_append.mp hr with e | e
  ·unfold ZbW at e
   split at e
   ·rw [List.mem_singleton.mp e]
    intro w hw
    rcases List.mem_cons.mp hw with e | e
    ·rw [e]; exact .str _
    ·obtain ⟨x,_,rfl⟩:=List.mem_map.mp e; exact .str x
   ·cases e
  ·exact Zsa ds r e
 have hts:=Zde ds
 have htl:((ZbW tk).map List.length).sum ≤ 7:=by unfold ZbW; split <;> simp <;> omega
 obtain ⟨x',y',e⟩:=ZkX (items:=(ZbW tk ++ ds.text).map D.tup) (rr:=rr) (s:=M.length) (by omega) (P:=some (Zbx tk ds)) (ZbW tk ++ ds.text) htw tk S none none hs0 g1 (by rw [List.map_append,List.sum_append]; omega)
 have hft:Zfg tk (ZbW tk ++ ds.text) = ds.names tk:=by
  rw [Zds]
  have:Zfg tk (ZbW tk) = tk:=by
   unfold ZbW
   split
   ·exact (Zcu (x:=Zqs) (by decide) tk _).trans (Zh1 tk tk fun _ h=>h)
   ·rfl
  rw [this,Zb8 ds hn]
 rw [hft] at e
 have hset:S.set M.length (.lst ((ds.names tk).map D.str)) = M ++ (.lst ((ds.names tk).map D.str) :: G):=by
  rw [← p1,List.append_assoc]
  exact Zpk
 rw [hset] at e
 refine (ZcX (M':=M ++ (.lst ((ds.names tk).map D.str) :: G)) (d:=.tup ((ds.names tk).map D.str)) (env:=[some (Zbx tk ds),none,none,none]) ?_).trans (Zed ?_)
 ·unfold Zga
  refine (Zn (Zx (d:=.ref M.length) (M':=M ++ [.lst (tk.map D.str)]) (ZaS rfl (Zip _)))).trans ((Zn ((Zdz (it:=⟨(ZbW tk ++ ds.text).map D.tup,some rr⟩) (M':=S) ?_).trans e)).trans (ZbP (ZaS rfl (ZfN (Zax _ _ _)))))
  show (Zt ZdF (Za (Zc 0) (Ze)) [some (Zbx tk ds),some (.ref M.length),none,none] (M ++ [.lst (tk.map D.str)])).bind _ = _
  rw [ZeI rfl h1,R3.bind_ok]
  show (match S[rr]? with | some (.lst ds)=>R3.ok (⟨ds,some rr⟩:It3) S | _=>R3.bad) = _
  rw [g1]
 ·show belowL _ _ = true
  exact Zda fun w hw=>by
   obtain ⟨x,_,rfl⟩:=List.mem_map.mp hw
   exact .str x
noncomputable def kvL:Nat → List (List Nat) → List (Zav × D)
 | _,[]=>[]
 | k,x :: r=>(.inr x,.int (2 * (k:Int) + 1)) :: kvL (k + 1) r
noncomputable def Zdj (L:List (List Nat)):List (Zav × D):=dictOf (kvL 0 L)
theorem Zk9:∀ (k:Nat) (L:List (List Nat)),(kvL k L).map (·.1) = L.map Sum.inr
 | _,[]=>rfl
 | k,x :: r=>by rw [kvL,List.map_cons,List.map_cons,Zk9 (k + 1) r]
theorem Zmn:∀ (k:Nat) (L:List (List Nat)),(kvL k L).length = L.length
 | _,[]=>rfl
 | k,x :: r=>by rw [kvL,List.length_cons,List.length_cons,Zmn (k + 1) r]
theorem Zk3:∀ (L:List (List Nat)) (k i:Nat) (x:List Nat),L.Nodup → L[i]? = some x → Zb5 (kvL k L) (.inr x) = some (.int (2 * ((k + i:Nat):Int) + 1))
 | [],_,_,_,_,h=>by cases h
 | y :: r,k,0,x,_,h=>by
  have e:y = x:=Option.some.inj h
  subst e
  show (if (Sum.inr y:Zav) = .inr y then some (D.int (2 * (k:Int) + 1)) else _) = _
  rw [if_pos rfl]; rfl
 | y :: r,k,i + 1,x,hn,h=>by
  have hr:r[i]? = some x:=h
  have hne:¬ (Sum.inr y:Zav) = .inr x:=fun e=>by
   have e:y = x:=Sum.inr.inj e
   subst e
   exact (List.nodup_cons.mp hn).1 (List.mem_of_getElem? hr)
  show (if (Sum.inr y:Zav) = .inr x then _ else Zb5 (kvL (k + 1) r) (.inr x)) = _
  rw [if_neg hne,Zk3 r (k + 1) i x (List.nodup_cons.mp hn).2 hr,Nat.add_assoc,Nat.add_comm 1 i]
theorem ZnA {L:List (List Nat)} (h:L.Nodup):(L.map (Sum.inr:List Nat → Zav)).Nodup:=by
 induction L with
 | nil=>exact List.nodup_nil
 | cons x r ih=>
  rw [List.map_cons,List.nodup_cons]
  refine ⟨fun hm=>?_,ih (List.nodup_cons.mp h).2⟩
  obtain ⟨y,hy,e⟩:=List.mem_map.mp hm
  have e:y = x:=Sum.inr.inj e
  exact (List.nodup_cons.mp h).1 (e ▸ hy)
theorem Zq7 {L:List (List Nat)} (hn:L.Nodup) {i:Nat} {x:List Nat} (h:L[i]? = some x):Zb5 (Zdj L) (.inr x) = some (.int (2 * (i:Int) + 1)):=by
 have hk:((kvL 0 L).map (·.1)).Nodup:=by rw [Zk9]; exact ZnA hn
 unfold Zdj dictOf
 rw [Zja _ _ _ hk,Zk3 L 0 i x hn h,Nat.zero_add]
theorem ZrD {L:List (List Nat)} (hn:L.Nodup) {i:Nat} {x:List Nat} (h:L[i]? = some x):intOf (Zdj L) (.inr x) = 2 * (i:Int) + 1:=by
 unfold intOf; rw [Zq7 hn h]
theorem ZoP {L:List (List Nat)} (hn:L.Nodup) {x:List Nat} (h:x ∈ L):∃ z,Zb5 (Zdj L) (.inr x) = some (.int z):=by
 obtain ⟨i,hi⟩:=List.getElem?_of_mem h
 exact ⟨_,Zq7 hn hi⟩
theorem ZoH (R:List Nat → Bool) (xs:List (List Nat)) (w:D):∀ x ∈ xs,x ∈ Zbc R xs w:=fun x hx=>by
 unfold Zbc
 split
 ·split
  ·exact hx
  ·exact List.mem_append_left _ hx
 ·exact hx
theorem ZlI (R:List Nat → Bool) {xs:List (List Nat)} (w:D) (h:xs.Nodup):(Zbc R xs w).Nodup:=by
 unfold Zbc
 split
 ·split
  ·exact h
  ·rename_i x hx
   rw [List.nodup_append]
   refine ⟨h,by simp,fun a ha b hb=>?_⟩
   rw [List.mem_singleton.mp hb]
   intro e; subst e
   exact hx (.inr ha)
 ·exact h
theorem ZcD (R:List Nat → Bool):∀ (ws:List D) (xs:List (List Nat)),∀ x ∈ xs,x ∈ Zas R xs ws
 | [],_,_,h=>h
 | w :: ws,xs,x,h=>ZcD R ws (Zbc R xs w) x (ZoH R xs w x h)
theorem Zct (R:List Nat → Bool):∀ (ws:List D) {xs:List (List Nat)},xs.Nodup → (Zas R xs ws).Nodup
 | [],_,h=>h
 | w :: ws,_,h=>Zct R ws (ZlI R w h)
theorem Zc1 {x:List Nat} (hx:Zao x = false):∀ (ws:List D) (xs:List (List Nat)),.str x ∈ ws → x ∈ Zas Zao xs ws
 | [],_,h=>by cases h
 | w :: ws,xs,h=>by
  rcases List.mem_cons.mp h with e | e
  ·subst e
   refine ZcD Zao ws _ x ?_
   show x ∈ (if Zao x = true ∨ x ∈ xs then xs else xs ++ [x])
   by_cases hm:x ∈ xs
   ·rw [if_pos (Or.inr hm)]; exact hm
   ·rw [if_neg (fun q=>q.elim (fun q=>by rw [hx] at q; cases q) hm)]; simp
  ·exact Zc1 hx ws _ e
theorem ZaK:∀ (ds:Ds) (xs:List (List Nat)),∀ x ∈ xs,x ∈ ds.names xs
 | .nil,_,_,h=>h
 | .set y t r,xs,x,h=>ZaK r _ x (ZcD Zao _ xs x h)
 | .put t u r,xs,x,h=>ZaK r _ x (ZcD Zao _ _ x (ZcD Zao _ xs x h))
 | .tell t r,xs,x,h=>ZaK r _ x (ZcD Zao _ xs x h)
 | .whn t a b r,xs,x,h=>ZaK r _ x (ZaK b _ x (ZaK a _ x (ZcD Zao _ xs x h)))
 | .whl t a r,xs,x,h=>ZaK r _ x (ZaK a _ x (ZcD Zao _ xs x h))
theorem names_nodup:∀ (ds:Ds) {xs:List (List Nat)},xs.Nodup → (ds.names xs).Nodup
 | .nil,_,h=>h
 | .set y t r,_,h=>names_nodup r (Zct Zao _ h)
 | .put t u r,_,h=>names_nodup r (Zct Zao _ (Zct Zao _ h))
 | .tell t r,_,h=>names_nodup r (Zct Zao _ h)
 | .whn t a b r,_,h=>names_nodup r (names_nodup b (names_nodup a (Zct Zao _ h)))
 | .whl t a r,_,h=>names_nodup r (names_nodup a (Zct Zao _ h))
theorem Zgz {L:List (List Nat)} (hn:L.Nodup):∀ (t:Sm),t.good → (∀ x,Zao x = false → .str x ∈ t.flat → x ∈ L) → t.kn (Zdj L)
 | .num _,_,_=>trivial
 | .nam x,hg,h=>ZoP hn (h x hg (List.mem_singleton.mpr rfl))
 | .cel a,hg,h=>Zgz hn a hg fun x hx hm=>h x hx (List.mem_cons_of_mem _ hm)
 | .two o a b,hg,h=>⟨Zgz hn a hg.1 fun x hx hm=>h x hx (List.mem_cons_of_mem _ (List.mem_append_left _ hm)),Zgz hn b hg.2 fun x hx hm=>h x hx (List.mem_cons_of_mem _ (List.mem_append_right _ hm))⟩
theorem ZfW {L:List (List Nat)} (hn:L.Nodup):∀ (ds:Ds) (xs:List (List Nat)),ds.ok → (∀ x ∈ ds.names xs,x ∈ L) → ds.kn (Zdj L)
 | .nil,_,_,_=>trivial
 | .set y t r,xs,ho,h=>⟨ZoP hn (h y (ZaK r _ y (Zc1 ho.1 _ xs List.mem_cons_self))),Zgz hn t ho.2.1.1 fun x hx hm=>h x (ZaK r _ x (Zc1 hx _ xs (List.mem_cons_of_mem _ hm))),ZfW hn r _ ho.2.2 h⟩
 | .put t u r,xs,ho,h=>⟨Zgz hn t ho.1.1 fun x hx hm=>h x (ZaK r _ x (ZcD Zao _ _ x (Zc1 hx _ xs hm))),Zgz hn u ho.2.1.1 fun x hx hm=>h x (ZaK r _ x (Zc1 hx _ _ hm)),ZfW hn r _ ho.2.2 h⟩
 | .tell t r,xs,ho,h=>⟨Zgz hn t ho.1.1 fun x hx hm=>h x (ZaK r _ x (Zc1 hx _ xs hm)),ZfW hn r _ ho.2 h⟩
 | .whn t a b r,xs,ho,h=>⟨Zgz hn t ho.1.1 fun x hx hm=>h x (ZaK r _ x (ZaK b _ x (ZaK a _ x (Zc1 hx _ xs hm)))),ZfW hn a _ ho.2.1 fun x hx=>h x (ZaK r _ x (ZaK b _ x hx)),ZfW hn b _ ho.2.2.1 fun x hx=>h x (ZaK r _ x hx),ZfW hn r _ ho.2.2.2 h⟩
 | .whl t a r,xs,ho,h=>⟨Zgz hn t ho.1.1 fun x hx hm=>h x (ZaK r _ x (ZaK a _ x (Zc1 hx _ xs hm))),ZfW hn a _ ho.2.1 fun x hx=>h x (ZaK r _ x hx),ZfW hn r _ ho.2.2 h⟩
noncomputable abbrev ncB:S3:=Zpa (Zc 1) (Zc 3) (e2 Zm (e2 ZbD (eC (.int 2)) (Zc 2)) (eC (.int 1)))
theorem ZmW {P:Option D} {n:Nat}:∀ (L:List (List Nat)) (k:Nat) (kvs:List (Zav × D)) (M:Store) (x y:Option D),M[n]? = some (.dct kvs) → kvs.length + L.length < 900000 →
  ∃ x' y',Zcb [] (Zc3 [2,3]) ncB (ZbM k (L.map D.str)) [P,some (.ref n),x,y] M = .nx [P,some (.ref n),x',y'] (M.set n (.dct ((kvL k L).foldl (fun acc p=>putD p.1 p.2 acc) kvs)))
 | [],k,kvs,M,x,y,h,_=>⟨x,y,by
  show Zcb _ _ _ [] _ _ = O3.nx _ (M.set n (.dct kvs))
  rw [Ze3,if_pos (show Za5 [] M = true from rfl),ZaY h]⟩
 | w :: L,k,kvs,M,x,y,h,hz=>by
  rw [List.length_cons] at hz
  have hl:=ZnY (.inr w) (.int (2 * (k:Int) + 1)) kvs
  have hn:=(List.getElem?_eq_some_iff.mp h).1
  have e:ncB [P,some (.ref n),some (.int (k:Int)),some (.str w)] M = .nx [P,some (.ref n),some (.int (k:Int)),some (.str w)] (M.set n (.dct (putD (.inr w) (.int (2 * (k:Int) + 1)) kvs))):=by
   refine Zcs (d:=.non) (ZvQ (Zg (Zg rfl rfl (by rw [Zef,if_pos (ZiN (by decide))])) rfl rfl) rfl rfl ?_)
   rw [Zjj,h]
   exact if_pos (Nat.lt_trans (show kvs.length < 900000 by omega) (by decide))
  obtain ⟨x',y',e2⟩:=ZmW (P:=P) L (k + 1) (putD (.inr w) (.int (2 * (k:Int) + 1)) kvs) (M.set n (.dct (putD (.inr w) (.int (2 * (k:Int) + 1)) kvs))) (some (.int (k:Int))) (some (.str w)) (List.getElem?_set_self hn) (by omega)
  refine ⟨x',y',?_⟩
  show Zcb _ _ _ (.tup [.int (k:Int),.str w] :: ZbM (k + 1) (L.map D.str)) _ _ = _
  rw [Ze1,if_pos (show Za5 [] M = true from rfl)]
  simp only [Zc3,Zdv,Zdt,List.set_cons_succ,List.set_cons_zero,e]
  rw [e2,List.set_set]; rfl
theorem ZiE {tk:List (List Nat)} {ds:Ds} (htk:tk.length ≤ 6) (ho:ds.ok) (hn:ds.nm) (hw:ds.wt ≤ 100000) (hd:ds.dep ≤ 3) (M:Store):ZdY [Zbx tk ds] M = .ok (.ref M.length) (M ++ [.dct (Zdj (ds.names tk))]):=by
 have hln:=Zbr ds tk
 obtain ⟨x',y',e⟩:=ZmW (P:=some (Zbx tk ds)) (n:=M.length) (ds.names tk) 0 [] (M ++ [.dct []]) none none (Zax M _ []) (by simp; omega)
 have hs:(M ++ [MO.dct []]).set M.length (.dct ((kvL 0 (ds.names tk)).foldl (fun acc p=>putD p.1 p.2 acc) [])) = M ++ [.dct (Zdj (ds.names tk))]:=by simp [Zdj,dictOf]
 rw [hs] at e
 refine (ZcX (M':=M ++ [.dct (Zdj (ds.names tk))]) (d:=.ref M.length) (env:=[some (Zbx tk ds),none,none,none]) ?_).trans ?_
 ·unfold Ze9
  refine (Zn (Zx (d:=.ref M.length) (M':=M ++ [.dct []]) rfl)).trans ((Zn ((ZeO (it:=⟨ZbM 0 ((ds.names tk).map D.str),[]⟩) (M':=M ++ [.dct []]) ?_).trans e)).trans (ZbP rfl))
  show (Zt Zeg (Za (Zc 0) (Ze)) _ _).bind _ = _
  rw [ZeI rfl (Zkk htk ho hn hw hd _),R3.bind_ok]
 ·have hb:below M.length (.ref M.length) = false:=decide_eq_false (Nat.lt_irrefl _)
  rw [Zff,hb]; rfl
noncomputable def ZfS (ck:List (Zav × D)):Nat → List (List Nat) → List D
 | _,[]=>[]
 | k,x :: r=>ZfR 7 (intOf ck (.inr x)) :: ZiB 7 (k:Int) :: ZfS ck (k + 1) r
theorem Zij (ck:List (Zav × D)):∀ (k:Nat) (tk:List (List Nat)),(ZfS ck k tk).length = 2 * tk.length
 | _,[]=>rfl
 | k,x :: r=>by simp only [ZfS,List.length_cons,Zij ck (k + 1) r]; omega
noncomputable abbrev roB:S3:=Zak (ZaN tyL Zcn (Zc 2) (Za (Zt Zbo (Za (Zc 4) (Za (Zc 3) (Za (Zc 1) (Ze))))) (Ze)))
theorem ZmJ {ck:List (Zav × D)} {P:Option D} {c r:Nat} {M0:Store} (hl:M0.length ≤ r):∀ (tk:List (List Nat)),(∀ x ∈ tk,∃ z,Zb5 ck (.inr x) = some (.int z)) → ∀ (k:Nat) (acc:List D) (M:Store) (x y:Option D),M0 <+: M → M[r]? = some (.lst acc) → M[c]? = some (.dct ck) → acc.length + 2 * tk.length ≤ 1000 →
  ∃ S x' y',Zcb [] (Zc3 [3,4]) roB (ZbM k (tk.map D.str)) [P,some (.ref c),some (.ref r),x,y] M = .nx [P,some (.ref c),some (.ref r),x',y'] S ∧ M0 <+: S ∧ S[r]? = some (.lst (acc ++ ZfS ck k tk)) ∧ S[c]? = some (.dct ck)
 | [],_,k,acc,M,x,y,hp,hr,hc,_=>⟨M,x,y,by
  show Zcb _ _ _ [] _ _ = _
  rw [Ze3,if_pos (show Za5 [] M = true from rfl)],hp,by simpa [ZfS] using hr,hc⟩
 | w :: tk,hk,k,acc,M,x,y,hp,hr,hc,hz=>by
  rw [List.length_cons] at hz
  have hcr:c ≠ r:=fun e=>by rw [e,hr] at hc; cases hc
  obtain ⟨S,e,p1⟩:=Zh8 (o:=Zc 2) (t:=Zt Zbo (Za (Zc 4) (Za (Zc 3) (Za (Zc 1) (Ze))))) (env:=[P,some (.ref c),some (.ref r),some (.int (k:Int)),some (.str w)]) rfl hr (LF.call (ds:=[.str w,.int (k:Int),.ref c]) rfl (ZoF (hk w List.mem_cons_self) (k:Int) hc)) (by simp; omega)
  have hrS:=(List.getElem?_eq_some_iff.mp (Zah p1 hr)).1
  obtain ⟨S2,x',y',e2,q1,q2,q3⟩:=ZmJ (P:=P) hl tk (fun z hz=>hk z (List.mem_cons_of_mem _ hz)) (k + 1) (acc ++ [ZfR 7 (intOf ck (.inr w)),ZiB 7 (k:Int)]) (S.set r (.lst (acc ++ [ZfR 7 (intOf ck (.inr w)),ZiB 7 (k:Int)]))) (some (.int (k:Int))) (some (.str w)) (Zcx (hp.trans p1) hl) (List.getElem?_set_self hrS) (by rw [List.getElem?_set_ne hcr.symm]; exact Zah p1 hc) (by simp; omega)
  refine ⟨S2,x',y',?_,q1,by rw [q2]; simp [ZfS],q3⟩
  show Zcb _ _ _ (.tup [.int (k:Int),.str w] :: ZbM (k + 1) (tk.map D.str)) _ _ = _
  rw [Ze1,if_pos (show Za5 [] M = true from rfl)]
  simp only [Zc3,Zdv,Zdt,List.set_cons_succ,List.set_cons_zero,e,e2]
def Zhk (d:D):Prop:=∃ (x:List Nat) (is:List Int),d = .tup (.str x :: is.map D.int)
theorem Ze7 (ck:List (Zav × D)):∀ (t:Sm) (b:Int),∀ d ∈ t.rows ck b,Zhk d
 | .num i,b,d,h=>by rw [List.mem_singleton.mp h]; exact ⟨_,[b,i],rfl⟩
 | .nam x,b,d,h=>by
  rcases List.mem_cons.mp h with e | e
  ·rw [e]; exact ⟨_,[7,_],rfl⟩
  ·rw [List.mem_singleton.mp e]; exact ⟨_,[b,7],rfl⟩
 | .cel a,b,d,h=>by
  rcases List.mem_append.mp h with e | e
  ·exact Ze7 ck a b d e
  ·rcases List.mem_cons.mp e with e | e
   ·rw [e]; exact ⟨_,[b,b,b],rfl⟩
   ·rw [List.mem_singleton.mp e]; exact ⟨_,[b,b],rfl⟩
 | .two o a c,b,d,h=>by
  rcases List.mem_append.mp h with e | e
  ·rcases List.mem_append.mp e with e | e
   ·exact Ze7 ck a b d e
   ·exact Ze7 ck c (b + 1) d e
  ·rw [List.mem_singleton.mp e]; exact ⟨_,[b,b,b + 1],rfl⟩
theorem Ze8 (ck:List (Zav × D)):∀ (ds:Ds) (p:Int),∀ d ∈ ds.rows ck p,Zhk d
 | .nil,_,d,h=>by cases h
 | .set x t r,p,d,h=>by
  rcases List.mem_append.mp h with e | e
  ·rcases List.mem_append.mp e with e | e
   ·exact Ze7 ck t 0 d e
   ·rcases List.mem_cons.mp e with e | e
    ·rw [e]; exact ⟨_,[7,_],rfl⟩
    ·rw [List.mem_singleton.mp e]; exact ⟨_,[7,0],rfl⟩
  ·exact Ze8 ck r _ d e
 | .put t u r,p,d,h=>by
  rcases List.mem_append.mp h with e | e
  ·simp only [Zh6,List.mem_append,List.mem_singleton] at e
   rcases e with ((e | e) | e) | e
   ·exact Ze7 ck t 0 d e
   ·rw [e]; exact ⟨_,[0,0,0],rfl⟩
   ·exact Ze7 ck u 1 d e
   ·rw [e]; exact ⟨_,[0,1],rfl⟩
  ·exact Ze8 ck r _ d e
 | .tell t r,p,d,h=>by
  rcases List.mem_append.mp h with e | e
  ·rcases List.mem_append.mp e with e | e
   ·exact Ze7 ck t 0 d e
   ·rw [List.mem_singleton.mp e]; exact ⟨_,[0],rfl⟩
  ·exact Ze8 ck r _ d e
 | .whn t a b r,p,d,h=>by
  rcases List.mem_append.mp h with e | e
  ·simp only [Zio,List.mem_append,List.mem_singleton] at e
   rcases e with (((e | e) | e) | e) | e
   ·exact Ze7 ck t 0 d e
   ·rw [e]; exact ⟨_,[0,_],rfl⟩
   ·exact Ze8 ck b _ d e
   ·rw [e]; exact ⟨_,[_],rfl⟩
   ·exact Ze8 ck a _ d e
  ·exact Ze8 ck r _ d e
 | .whl t a r,p,d,h=>by
  rcases List.mem_append.mp h with e | e
  ·simp only [Zh0,List.mem_append,List.mem_cons,List.not_mem_nil,or_false] at e
   rcases e with ((e | (e | e)) | e) | e
   ·exact Ze7 ck t 0 d e
   ·rw [e]; exact ⟨_,[0,_],rfl⟩
   ·rw [e]; exact ⟨_,[_],rfl⟩
   ·exact Ze8 ck a _ d e
   ·rw [e]; exact ⟨_,[p],rfl⟩
  ·exact Ze8 ck r _ d e
theorem Zmq (ck:List (Zav × D)):∀ (k:Nat) (tk:List (List Nat)),∀ d ∈ ZfS ck k tk,Zhk d
 | _,[],d,h=>by cases h
 | k,x :: r,d,h=>by
  rcases List.mem_cons.mp h with e | e
  ·rw [e]; exact ⟨_,[7,_],rfl⟩
  ·rcases List.mem_cons.mp e with e | e
   ·rw [e]; exact ⟨_,[7,_],rfl⟩
   ·exact Zmq ck (k + 1) r d e
theorem Zji {n:Nat}:∀ {l:List D},(∀ d ∈ l,Zhk d) → belowL n l = true
 | [],_=>rfl
 | d :: l,h=>by
  obtain ⟨x,is,e⟩:=h d List.mem_cons_self
  have h1:below n d = true:=by
   rw [e]
   show belowL n _ = true
   exact Zda fun w hw=>by
    rcases List.mem_cons.mp hw with e | e
    ·rw [e]; exact .str x
    ·obtain ⟨i,_,rfl⟩:=List.mem_map.mp e; exact .int i
  show (below n d && belowL n l) = true
  rw [h1,Zji fun y hy=>h y (List.mem_cons_of_mem _ hy)]; rfl
noncomputable abbrev Zrg:D:=.tup [.str [104,97,108,116]]
noncomputable def ZkI (ck:List (Zav × D)) (tk:List (List Nat)) (ds:Ds):List D:=ZfS ck 0 tk ++ ds.rows ck (2 * (tk.length:Int)) ++ [Zrg]
theorem ZkQ (ck:List (Zav × D)) (tk:List (List Nat)) (ds:Ds):∀ d ∈ ZkI ck tk ds,Zhk d:=fun d h=>by
 simp only [ZkI,List.mem_append,List.mem_singleton] at h
 rcases h with (e | e) | e
 ·exact Zmq ck 0 tk d e
 ·exact Ze8 ck ds _ d e
 ·rw [e]; exact ⟨_,[],rfl⟩
theorem ZlU {tk:List (List Nat)} {ds:Ds} (htk:tk.length ≤ 6) (hnd:tk.Nodup) (ho:ds.ok) (hn:ds.nm) (hw:ds.wt ≤ 100000) (hd:ds.dep ≤ 3) (M:Store):ZfD [Zbx tk ds] M = .ok (.tup (ZkI (Zdj (ds.names tk)) tk ds)) M:=by
 let L:=ds.names tk
 have hL:L.Nodup:=names_nodup ds hnd
 have hsub:∀ x ∈ tk,x ∈ L:=ZaK ds tk
 let M1:=M ++ [MO.dct (Zdj L)] ++ [.lst []]
 have hM1:(M ++ [MO.dct (Zdj L)]).length = M.length + 1:=by simp
 have hr0:M1[M.length + 1]? = some (.lst []):=by rw [← hM1]; exact Zax _ _ []
 have hc0:M1[M.length]? = some (.dct (Zdj L)):=ZaW (Zax M _ []) _
 have hp0:M <+: M1:=(List.prefix_append M _).trans (List.prefix_append _ _)
 obtain ⟨S,x',y',e,q1,q2,q3⟩:=ZmJ (P:=some (Zbx tk ds)) (M0:=M) (r:=M.length + 1) (c:=M.length) (by omega) tk (fun x hx=>ZoP hL (hsub x hx)) 0 [] M1 none none hp0 hr0 hc0 (by simp; omega)
 rw [List.nil_append] at q2
 have hpl:=Zij (Zdj L) 0 tk
 have hdl:=ZbH (Zdj L) ds (2 * (tk.length:Int))
 have hD:=Zr2 ho (ZfW hL ds tk ho fun _ h=>h) hw hd S M.length (2 * (tk.length:Int)) q3
 obtain ⟨S2,e2',p2⟩:=Zh8 (o:=Zc 2) (t:=Zt ZcS (Za (e2 Zk (Zc 0) (eC (.int 1))) (Za (Zaq ZaF (Za (Zc 2) (Ze))) (Za (Zc 1) (Ze))))) (env:=[some (Zbx tk ds),some (.ref M.length),some (.ref (M.length + 1)),x',y']) rfl q2 (LF.call (ds:=[.tup ds.enc,.int (2 * (tk.length:Int)),.ref M.length]) (Zh rfl (Zh (ZaS rfl ((ZaM q2).trans (by rw [hpl]; congr 2))) rfl)) hD) (by omega)
 have hrS:=(List.getElem?_eq_some_iff.mp (Zah p2 q2)).1
 obtain ⟨G,hG⟩:M <+: S2.set (M.length + 1) (.lst (ZfS (Zdj L) 0 tk ++ ds.rows (Zdj L) (2 * (tk.length:Int)))):=Zcx (q1.trans p2) (by omega)
 have hat:(S2.set (M.length + 1) (.lst (ZfS (Zdj L) 0 tk ++ ds.rows (Zdj L) (2 * (tk.length:Int)))))[M.length + 1]? = some (.lst (ZfS (Zdj L) 0 tk ++ ds.rows (Zdj L) (2 * (tk.length:Int)))):=List.getElem?_set_self hrS
 rw [← hG] at hat e2'
 refine (ZcX (M':=M ++ G) (d:=.tup (ZkI (Zdj L) tk ds)) (env:=[some (Zbx tk ds),none,none,none,none]) ?_).trans (Zed ?_)
 ·unfold Zhe
  refine (Zn (Zx (d:=.ref M.length) (M':=M ++ [MO.dct (Zdj L)]) (ZeI rfl (ZiE htk ho hn hw hd M)))).trans ((Zn (Zx (d:=.ref (M.length + 1)) (M':=M1) ?_)).trans ((Zn ((ZeO (it:=⟨ZbM 0 (tk.map D.str),[]⟩) (M':=M1) rfl).trans e)).trans ((Zn e2').trans (ZbP (Zg (ZaS rfl (ZfN hat)) (Zv (Zh (Zv rfl rfl) rfl) rfl) ?_)))))
  ·refine (Zbg (ds:=[]) (M':=M ++ [MO.dct (Zdj L)]) rfl rfl).trans ?_
   rw [hM1]
  ·rw [ZgE]
   exact if_pos (show (ZfS (Zdj L) 0 tk ++ ds.rows (Zdj L) (2 * (tk.length:Int))).length + 1 ≤ 1000000 by rw [List.length_append]; omega)
 ·show belowL _ _ = true
  exact Zji (ZkQ _ tk ds)
noncomputable def wdF (ns:List Int) (i:Nat):List Nat:=if h:ns.length ≤ 63 then (ZhH h i).choose else []
theorem Zjx {ns:List Int} (h:ns.length ≤ 63) (i:Nat):Znh (wdF ns i):=by
 unfold wdF; rw [dif_pos h]; exact (ZhH h i).choose_spec.1
theorem ZnR {ns:List Int} (h:ns.length ≤ 63) (i:Nat) (M:Store):Za1 [SC ns,.int (i:Int)] M = .ok (.str (wdF ns i)) M:=by
 unfold wdF; rw [dif_pos h]; exact (ZhH h i).choose_spec.2.2 M
theorem Zq1 {ns:List Int} (h:ns.length ≤ 63) (i:Nat):(wdF ns i)[(dr ns 1 % 8).toNat]? = LTS[(((i:Int) + dr ns 3) % 26).toNat]?:=by
 unfold wdF; rw [dif_pos h]; exact (ZhH h i).choose_spec.2.1
noncomputable def Zfp (ns:List Int) (n:Nat):List (List Nat):=(List.range n).map (wdF ns)
theorem Zgj (ns:List Int) (n:Nat):(Zfp ns n).length = n:=by simp [Zfp]
theorem Zuo (n:Nat):ZnJ 0 n = (List.range n).map fun (k:Nat)=>D.int (k:Int):=by
 unfold ZnJ
 refine List.map_congr_left fun k _=>?_
 rw [Int.zero_add]
theorem ZiM {f:E3} {env:Zam} {M:Store} {n:Nat} (h:f env M = .ok (.int (n:Int)) M) (hn:n ≤ 1000):Zen f env M = .ok ⟨(List.range n).map fun (k:Nat)=>D.int (k:Int),none⟩ M:=by
 have hc:(n:Int) ≤ 1000000 ∧ -1000000 ≤ (n:Int):=by omega
 simp only [Zen,h,R3.bind,if_pos hc,Int.toNat_natCast,Zuo]
theorem Zpl {ns:List Int} (hl:ns.length ≤ 63) (n:Nat) (hn:n ≤ 100) {i:Nat} {env:Zam} (I:Zam → Prop) (h0:I (env ++ List.replicate 1 none)) (hI:∀ e,I e → ∀ d,I (e.set i (some d)) ∧ ∀ M,Zc 0 (e.set i (some d)) M = .ok (SC ns) M ∧ Zc i (e.set i (some d)) M = .ok d M) (M:Store):
  eLC (Zen (eC (.int (n:Int)))) 1 (ZbC i) [] (Zt Za1 (Za (Zc 0) (Za (Zc i) (Ze)))) env M = .ok (.ref M.length) (M ++ [.lst ((Zfp ns n).map D.str)]):=by
 have h:=Zpj (enc:=fun k=>D.int ((k:Nat):Int)) (h:=fun k=>D.str (wdF ns k)) (own:=1) (i:=Zen (eC (.int (n:Int)))) (g:=ZbC i) (elt:=Zt Za1 (Za (Zc 0) (Za (Zc i) (Ze)))) (env:=env) (M:=M) (as:=List.range n) (M1:=M) (lock:=none) I
  (ZiM rfl (by omega)) (fun _ h=>by cases h) h0
  (fun k _ e he=>⟨_,rfl,(hI e he _).1,fun x=>Zej ((hI e he _).2 _).1 ((hI e he _).2 _).2 (ZnR hl k _)⟩) (by simp; omega)
 rw [h]
 simp [Zfp]
noncomputable def Ds.app:Ds → Ds → Ds
 | .nil,s=>s
 | .set x t r,s=>.set x t (r.app s)
 | .put t u r,s=>.put t u (r.app s)
 | .tell t r,s=>.tell t (r.app s)
 | .whn t a b r,s=>.whn t a b (r.app s)
 | .whl t a r,s=>.whl t a (r.app s)
theorem Ze4:∀ (d s:Ds),(d.app s).enc = d.enc ++ s.enc
 | .nil,_=>rfl
 | .set x t r,s=>by simp only [Ds.app,Ds.enc,Ze4 r s,List.cons_append]
 | .put t u r,s=>by simp only [Ds.app,Ds.enc,Ze4 r s,List.cons_append]
 | .tell t r,s=>by simp only [Ds.app,Ds.enc,Ze4 r s,List.cons_append]
 | .whn t a b r,s=>by simp only [Ds.app,Ds.enc,Ze4 r s,List.cons_append]
 | .whl t a r,s=>by simp only [Ds.app,Ds.enc,Ze4 r s,List.cons_append]
structure Zdo (d:Ds) (n:Nat):Prop where
 ok:d.ok
 nm:d.nm
 dep:d.dep ≤ n
theorem Zha:∀ {d s:Ds},d.ok → s.ok → (d.app s).ok
 | .nil,_,_,h=>h
 | .set _ _ _,_,h,k=>⟨h.1,h.2.1,Zha h.2.2 k⟩
 | .put _ _ _,_,h,k=>⟨h.1,h.2.1,Zha h.2.2 k⟩
 | .tell _ _,_,h,k=>⟨h.1,Zha h.2 k⟩
 | .whn _ _ _ _,_,h,k=>⟨h.1,h.2.1,h.2.2.1,Zha h.2.2.2 k⟩
 | .whl _ _ _,_,h,k=>⟨h.1,h.2.1,Zha h.2.2 k⟩
theorem ZgW:∀ {d s:Ds},d.nm → s.nm → (d.app s).nm
 | .nil,_,_,h=>h
 | .set _ _ _,_,h,k=>⟨h.1,h.2.1,ZgW h.2.2 k⟩
 | .put _ _ _,_,h,k=>⟨h.1,h.2.1,ZgW h.2.2 k⟩
 | .tell _ _,_,h,k=>⟨h.1,ZgW h.2 k⟩
 | .whn _ _ _ _,_,h,k=>⟨h.1,h.2.1,h.2.2.1,ZgW h.2.2.2 k⟩
 | .whl _ _ _,_,h,k=>⟨h.1,h.2.1,ZgW h.2.2 k⟩
theorem ZfE:∀ (d s:Ds),(d.app s).dep = max d.dep s.dep
 | .nil,_=>by simp [Ds.app,Ds.dep]
 | .set _ _ r,s=>by simp only [Ds.app,Ds.dep,ZfE r s]
 | .put _ _ r,s=>by simp only [Ds.app,Ds.dep,ZfE r s]
 | .tell _ r,s=>by simp only [Ds.app,Ds.dep,ZfE r s]
 | .whn _ a b r,s=>by simp only [Ds.app,Ds.dep,ZfE r s]; omega
 | .whl _ a r,s=>by simp only [Ds.app,Ds.dep,ZfE r s]; omega
theorem Zfq:∀ (d s:Ds),(d.app s).wt = d.wt + s.wt
 | .nil,_=>by simp [Ds.app,Ds.wt]
 | .set _ _ r,s=>by simp only [Ds.app,Ds.wt,Zfq r s]; omega
 | .put _ _ r,s=>by simp only [Ds.app,Ds.wt,Zfq r s]; omega
 | .tell _ r,s=>by simp only [Ds.app,Ds.wt,Zfq r s]; omega
 | .whn _ a b r,s=>by simp only [Ds.app,Ds.wt,Zfq r s]; omega
 | .whl _ a r,s=>by simp only [Ds.app,Ds.wt,Zfq r s]; omega
theorem Zdo.app {d s:Ds} {n:Nat} (h:Zdo d n) (k:Zdo s n):Zdo (d.app s) n:=⟨Zha h.ok k.ok,ZgW h.nm k.nm,by rw [ZfE]; have:=h.dep; have:=k.dep; omega⟩
theorem Zdo.nil (n:Nat):Zdo .nil n:=⟨trivial,trivial,Nat.zero_le _⟩
theorem Zdo.mono {d:Ds} {n m:Nat} (h:Zdo d n) (a:n ≤ m):Zdo d m:=⟨h.ok,h.nm,Nat.le_trans h.dep a⟩
inductive Op7 where
 | whl (t:Sm) (l:Ds)
 | whn (t:Sm)
 | whe (t:Sm) (a:Ds)
noncomputable def Op7.enc:Op7 → D
 | .whl t l=>.tup [.str ZkM,.tup t.flat,.tup l.enc]
 | .whn t=>.tup [.str Zjs,.tup t.flat,.non]
 | .whe t a=>.tup [.str Zjs,.tup t.flat,.tup a.enc]
def Sm.fine (t:Sm):Prop:=t.ok ∧ t.nm
noncomputable def Op7.fine (n:Nat):Op7 → Prop
 | .whl t l=>t.fine ∧ Zdo l 0
 | .whn t=>t.fine
 | .whe t a=>t.fine ∧ Zdo a n
noncomputable def Op7.wt:Op7 → Nat
 | .whl t l=>2 * t.flat.length + 3 + l.wt
 | .whn t=>2 * t.flat.length + 3
 | .whe t a=>2 * t.flat.length + 3 + a.wt
noncomputable def Zb0:Ds → List (Op7 × Ds) → Prop
 | cur,[]=>Zdo cur 3
 | cur,(o,d) :: r=>Zdo cur (2 - r.length) ∧ r.length < 3 ∧ o.fine (2 - r.length) ∧ Zb0 d r
noncomputable def SWt:Ds → List (Op7 × Ds) → Nat
 | cur,[]=>cur.wt
 | cur,(o,d) :: r=>cur.wt + o.wt + SWt d r
theorem ZhG (cur s:Ds) (r:List (Op7 × Ds)):SWt (cur.app s) r = SWt cur r + s.wt:=by
 cases r with
 | nil=>exact Zfq cur s
 | cons p r=>obtain ⟨o,d⟩:=p; simp only [SWt,Zfq]; omega
theorem Zp9 (cur:Ds) (o:Op7) (r:List (Op7 × Ds)):SWt .nil ((o,cur) :: r) = SWt cur r + o.wt:=by simp only [SWt,Ds.wt]; omega
theorem Zb0.cur {cur:Ds} {r:List (Op7 × Ds)} (h:Zb0 cur r):Zdo cur (3 - r.length):=by
 cases r with
 | nil=>exact h
 | cons p r=>exact h.1.mono (by rw [List.length_cons]; omega)
theorem Zb0.len {cur:Ds} {r:List (Op7 × Ds)} (h:Zb0 cur r):r.length ≤ 3:=by
 cases r with
 | nil=>exact Nat.zero_le _
 | cons p r=>have:=h.2.1; rw [List.length_cons]; omega
theorem Zb0.put {cur cur':Ds} {r:List (Op7 × Ds)} (h:Zb0 cur r) (hc:Zdo cur' (3 - r.length)):Zb0 cur' r:=by
 cases r with
 | nil=>exact hc
 | cons p r=>exact ⟨hc.mono (by rw [List.length_cons]; omega),h.2.1,h.2.2.1,h.2.2.2⟩
theorem Zb0.push {cur:Ds} {r:List (Op7 × Ds)} {o:Op7} (h:Zb0 cur r) (hl:r.length < 3) (ho:o.fine (2 - r.length)):Zb0 .nil ((o,cur) :: r):=⟨Zdo.nil _,hl,ho,h⟩
theorem Zb0.whl {cur d l:Ds} {t:Sm} {r:List (Op7 × Ds)} (h:Zb0 cur ((.whl t l,d) :: r)):Zb0 (d.app (.whl t (cur.app l) .nil)) r:=by
 obtain ⟨h1,h2,h3,h4⟩:=h
 have ha:=h1.app (h3.2.mono (Nat.zero_le _))
 have hd:=ha.dep
 exact h4.put (h4.cur.app (s:=.whl t (cur.app l) .nil) ⟨⟨h3.1.1,ha.ok,trivial⟩,⟨h3.1.2,ha.nm,trivial⟩,by simp only [Ds.dep]; omega⟩)
theorem Zb0.whe {cur d a:Ds} {t:Sm} {r:List (Op7 × Ds)} (h:Zb0 cur ((.whe t a,d) :: r)):Zb0 (d.app (.whn t a cur .nil)) r:=by
 obtain ⟨h1,h2,h3,h4⟩:=h
 have hd:=h1.dep
 have hd2:=h3.2.dep
 exact h4.put (h4.cur.app (s:=.whn t a cur .nil) ⟨⟨h3.1.1,h3.2.ok,h1.ok,trivial⟩,⟨h3.1.2,h3.2.nm,h1.nm,trivial⟩,by simp only [Ds.dep]; omega⟩)
theorem Zb0.whn {cur d:Ds} {t:Sm} {r:List (Op7 × Ds)} (h:Zb0 cur ((.whn t,d) :: r)):Zb0 .nil ((.whe t cur,d) :: r):=⟨Zdo.nil _,h.2.1,⟨h.2.2.1,h.1⟩,h.2.2.2⟩
theorem Ztj (cur d l:Ds) (t:Sm) (r:List (Op7 × Ds)):SWt (d.app (.whl t (cur.app l) .nil)) r = SWt cur ((.whl t l,d) :: r):=by rw [ZhG]; simp only [SWt,Ds.wt,Op7.wt,Zfq]; omega
theorem Zsw (cur d a:Ds) (t:Sm) (r:List (Op7 × Ds)):SWt (d.app (.whn t a cur .nil)) r = SWt cur ((.whe t a,d) :: r):=by rw [ZhG]; simp only [SWt,Ds.wt,Op7.wt]; omega
theorem Ztl (cur d:Ds) (t:Sm) (r:List (Op7 × Ds)):SWt .nil ((.whe t cur,d) :: r) = SWt cur ((.whn t,d) :: r):=by simp only [SWt,Ds.wt,Op7.wt]; omega
theorem ZjT (cur:Ds) (r:List (Op7 × Ds)):cur.wt ≤ SWt cur r:=by
 cases r with
 | nil=>exact Nat.le_refl _
 | cons p r=>obtain ⟨o,d⟩:=p; simp only [SWt]; omega
noncomputable def Zck (r:List (Op7 × Ds)):List D:=(r.map fun q=>q.1.enc).reverse
noncomputable def ZcK (c:Nat) (rs:List Nat):List D:=(rs.reverse ++ [c]).map D.ref
theorem ZiZ (x:Op7) (d:Ds) (r:List (Op7 × Ds)):Zck ((x,d) :: r) = Zck r ++ [x.enc]:=by simp [Zck]
theorem ZfO (c' c:Nat) (rs:List Nat):ZcK c' (c :: rs) = ZcK c rs ++ [D.ref c']:=by simp [ZcK]
structure FSt (M0:Store) (f o c:Nat) (rs:List Nat) (cur:Ds) (r:List (Op7 × Ds)) (M:Store):Prop where
 p:M0 <+: M
 hf:M[f]? = some (MO.lst (ZcK c rs))
 ho:M[o]? = some (MO.lst (Zck r))
 hc:M[c]? = some (.lst cur.enc)
 hr:∀ (i:Nat) a q,rs[i]? = some a → r[i]? = some q → M[a]? = some (.lst q.2.enc)
 len:rs.length = r.length
 nd:(c :: rs).Nodup
 fn:f ∉ c :: rs
 on:o ∉ c :: rs
 fo:f ≠ o
 lf:M0.length ≤ f
 lo:M0.length ≤ o
 lc:∀ a ∈ c :: rs,M0.length ≤ a
section
variable {M0:Store} {f o c:Nat} {rs:List Nat} {cur:Ds} {r:List (Op7 × Ds)} {M:Store}
theorem FSt.keep {S:Store} (h:FSt M0 f o c rs cur r M) (p:M0 <+: S) (k:∀ a,a = f ∨ a = o ∨ a ∈ c :: rs → S[a]? = M[a]?):FSt M0 f o c rs cur r S:=
 ⟨p,(k f (.inl rfl)).trans h.hf,(k o (.inr (.inl rfl))).trans h.ho,(k c (.inr (.inr List.mem_cons_self))).trans h.hc,fun i a q h1 h2=>(k a (.inr (.inr (List.mem_cons_of_mem _ (List.mem_of_getElem? h1))))).trans (h.hr i a q h1 h2),h.len,h.nd,h.fn,h.on,h.fo,h.lf,h.lo,h.lc⟩
theorem FSt.lt (h:FSt M0 f o c rs cur r M):∀ a,a = f ∨ a = o ∨ a ∈ c :: rs → a < M.length:=fun a ha=>by
 rcases ha with e | e | e
 ·rw [e]; exact (List.getElem?_eq_some_iff.mp h.hf).1
 ·rw [e]; exact (List.getElem?_eq_some_iff.mp h.ho).1
 ·rcases List.mem_cons.mp e with e | e
  ·rw [e]; exact (List.getElem?_eq_some_iff.mp h.hc).1
  ·obtain ⟨i,hi⟩:=List.getElem?_of_mem e
   have hil:i < r.length:=by rw [← h.len]; exact (List.getElem?_eq_some_iff.mp hi).1
   exact (List.getElem?_eq_some_iff.mp (h.hr i a r[i] hi (List.getElem?_eq_getElem hil))).1
theorem FSt.ext {S:Store} (h:FSt M0 f o c rs cur r M) (p:M <+: S):FSt M0 f o c rs cur r S:=h.keep (h.p.trans p) fun a ha=>by
 obtain ⟨G,rfl⟩:=p
 exact List.getElem?_append_left (h.lt a ha)
theorem FSt.put (h:FSt M0 f o c rs cur r M) (s:Ds):FSt M0 f o c rs (cur.app s) r (M.set c (.lst (cur.enc ++ s.enc))):=by
 have hcl:=(List.getElem?_eq_some_iff.mp h.hc).1
 have hcf:c ≠ f:=fun e=>h.fn (by rw [e]; exact List.mem_cons_self)
 have hco:c ≠ o:=fun e=>h.on (by rw [e]; exact List.mem_cons_self)
 refine ⟨Zcx h.p (h.lc c List.mem_cons_self),by rw [List.getElem?_set_ne hcf]; exact h.hf,by rw [List.getElem?_set_ne hco]; exact h.ho,by rw [List.getElem?_set_self hcl,Ze4],fun i a q h1 h2=>?_,h.len,h.nd,h.fn,h.on,h.fo,h.lf,h.lo,h.lc⟩
 have hne:c ≠ a:=fun e=>(List.nodup_cons.mp h.nd).1 (by rw [e]; exact List.mem_of_getElem? h1)
 rw [List.getElem?_set_ne hne]
 exact h.hr i a q h1 h2
theorem FSt.push (h:FSt M0 f o c rs cur r M) (x:Op7):FSt M0 f o M.length (c :: rs) .nil ((x,cur) :: r) (((M.set o (MO.lst (Zck r ++ [x.enc]))) ++ [MO.lst []]).set f (MO.lst (ZcK c rs ++ [D.ref M.length]))):=by
 have hol:=(List.getElem?_eq_some_iff.mp h.ho).1
 have hfl:=(List.getElem?_eq_some_iff.mp h.hf).1
 have hlt:=h.lt
 have hML:(M.set o (MO.lst (Zck r ++ [x.enc]))).length = M.length:=List.length_set ..
 have get:∀ a,a ≠ f → a ≠ o → a < M.length → (((M.set o (MO.lst (Zck r ++ [x.enc]))) ++ [MO.lst []]).set f (MO.lst (ZcK c rs ++ [D.ref M.length])))[a]? = M[a]?:=fun a h1 h2 h3=>by
  rw [List.getElem?_set_ne (Ne.symm h1),List.getElem?_append_left (by rw [hML]; exact h3),List.getElem?_set_ne (Ne.symm h2)]
 have nf:∀ a ∈ c :: rs,a ≠ f:=fun a ha e=>h.fn (e ▸ ha)
 have no:∀ a ∈ c :: rs,a ≠ o:=fun a ha e=>h.on (e ▸ ha)
 refine ⟨Zcx ((Zcx h.p h.lo).trans (List.prefix_append _ _)) h.lf,?_,?_,?_,fun i a q h1 h2=>?_,?_,?_,?_,?_,h.fo,h.lf,h.lo,?_⟩
 ·rw [List.getElem?_set_self (by rw [List.length_append,hML]; omega),ZfO]
 ·rw [List.getElem?_set_ne h.fo,List.getElem?_append_left (by rw [hML]; exact hol),List.getElem?_set_self hol,ZiZ]
 ·rw [List.getElem?_set_ne (by omega)]
  have:=Zax (M.set o (MO.lst (Zck r ++ [x.enc]))) (MO.lst []) []
  rw [hML] at this
  exact this
 ·cases i with
  | zero=>
   have e1:c = a:=Option.some.inj h1
   have e2:(x,cur) = q:=Option.some.inj h2
   rw [← e1,← e2,get c (nf c List.mem_cons_self) (no c List.mem_cons_self) (hlt c (.inr (.inr List.mem_cons_self)))]
   exact h.hc
  | succ i=>
   have ha:a ∈ c :: rs:=List.mem_cons_of_mem _ (List.mem_of_getElem? (show rs[i]? = some a from h1))
   rw [get a (nf a ha) (no a ha) (hlt a (.inr (.inr ha)))]
   exact h.hr i a q h1 h2
 ·rw [List.length_cons,List.length_cons,h.len]
 ·rw [List.nodup_cons]
  exact ⟨fun hm=>absurd (hlt _ (.inr (.inr hm))) (Nat.lt_irrefl _),h.nd⟩
 ·intro hm
  rcases List.mem_cons.mp hm with e | e
  ·omega
  ·exact h.fn e
 ·intro hm
  rcases List.mem_cons.mp hm with e | e
  ·omega
  ·exact h.on e
 ·intro a ha
  rcases List.mem_cons.mp ha with e | e
  ·rw [e]; exact h.p.length_le
  ·exact h.lc a e
theorem FSt.pop {x:Op7} {d:Ds} {c':Nat} (h:FSt M0 f o c (c' :: rs) cur ((x,d) :: r) M):FSt M0 f o c' rs d r ((M.set f (MO.lst (ZcK c' rs))).set o (MO.lst (Zck r))):=by
 have hol:=(List.getElem?_eq_some_iff.mp h.ho).1
 have hfl:=(List.getElem?_eq_some_iff.mp h.hf).1
 have get:∀ a,a ≠ f → a ≠ o → ((M.set f (MO.lst (ZcK c' rs))).set o (MO.lst (Zck r)))[a]? = M[a]?:=fun a h1 h2=>by
  rw [List.getElem?_set_ne (Ne.symm h2),List.getElem?_set_ne (Ne.symm h1)]
 have nf:∀ a ∈ c' :: rs,a ≠ f:=fun a ha e=>h.fn (e ▸ List.mem_cons_of_mem _ ha)
 have no:∀ a ∈ c' :: rs,a ≠ o:=fun a ha e=>h.on (e ▸ List.mem_cons_of_mem _ ha)
 refine ⟨Zcx (Zcx h.p h.lf) h.lo,?_,?_,?_,fun i a q h1 h2=>?_,Nat.succ.inj h.len,(List.nodup_cons.mp h.nd).2,fun hm=>h.fn (List.mem_cons_of_mem _ hm),fun hm=>h.on (List.mem_cons_of_mem _ hm),h.fo,h.lf,h.lo,fun a ha=>h.lc a (List.mem_cons_of_mem _ ha)⟩
 ·rw [List.getElem?_set_ne (Ne.symm h.fo),List.getElem?_set_self hfl]
 ·rw [List.getElem?_set_self (by rw [List.length_set]; exact hol)]
 ·rw [get c' (nf c' List.mem_cons_self) (no c' List.mem_cons_self)]
  exact h.hr 0 c' (x,d) rfl rfl
 ·have ha:a ∈ c' :: rs:=List.mem_cons_of_mem _ (List.mem_of_getElem? h1)
  rw [get a (nf a ha) (no a ha)]
  exact h.hr (i + 1) a q h1 h2
end
theorem ZeZ (c:Nat) (rs:List Nat):ZcK c rs = rs.reverse.map D.ref ++ [D.ref c]:=by simp [ZcK]
theorem ZkK {M S:Store} {f c n:Nat} {l l':List D} {d:D} (hM:M[f]? = some (.lst (l ++ [.ref c]))) (hc:c < M.length) (hS:S[f]? = some (.lst (l' ++ [.ref n]))) (hn:M.length ≤ n):Zff M d S = .ok d S:=by
 have hf:=(List.getElem?_eq_some_iff.mp hM).1
 have ht:(S.take M.length)[f]? = some (.lst (l' ++ [.ref n])):=by rw [List.getElem?_take_of_lt hf]; exact hS
 have h1:S.take M.length ≠ M:=fun e=>by
  rw [e,hM] at ht
  have e1:l ++ [D.ref c] = l' ++ [.ref n]:=by injection ht with ht; injection ht
  have e2:=congrArg List.getLast? e1
  simp at e2
  omega
 have h2:(S.take M.length).all (Zgi M.length) = false:=by
  rw [List.all_eq_false]
  refine ⟨_,List.mem_of_getElem? ht,?_⟩
  show ¬ belowL M.length (l' ++ [.ref n]) = true
  have:∀ l:List D,belowL M.length (l ++ [.ref n]) = false:=by
   intro l
   induction l with
   | nil=>show (decide (n < M.length) && true) = false; rw [decide_eq_false (by omega)]; rfl
   | cons a l ih=>show (below M.length a && belowL M.length (l ++ [.ref n])) = false; rw [ih,Bool.and_false]
  rw [this]; exact Bool.false_ne_true
 unfold Zff
 rw [decide_eq_false h1,h2,Bool.or_false,Bool.and_false]; rfl
theorem Zkq {i n:Nat} {env:Zam} {M:Store} {d:D} {xs:List D} (hv:Zc i env M = .ok (.ref n) M) (h:M[n]? = some (.lst (xs ++ [d]))):ZaN tyL Zet (Zc i) (Ze) env M = .ok d (M.set n (.lst xs)):=by
 refine Zj3 hv (by rw [Zhc,h]) rfl ?_
 rw [Zj6,h]
 have e1:(xs ++ [d])[(xs ++ [d]).length - 1]? = some d:=by simp
 simp only [e1,List.dropLast_concat]
noncomputable def Op7.mu:Op7 → Nat
 | .whl _ _=>1
 | .whn _=>2
 | .whe _ _=>1
noncomputable def mu7 (r:List (Op7 × Ds)):Nat:=(r.map fun q=>q.1.mu).sum
theorem ZeT (x:Op7) (d:Ds) (r:List (Op7 × Ds)):mu7 ((x,d) :: r) = x.mu + mu7 r:=by simp [mu7]
inductive ZrX (M0:Store) (f o:Nat) (w m:Nat) (S:Store):Prop
 | mk (c:Nat) (rs:List Nat) (cur:Ds) (r:List (Op7 × Ds)) (h:FSt M0 f o c rs cur r S) (g:Zb0 cur r) (hw:SWt cur r = w) (hm:mu7 r < m)
theorem ZdB:∀ d:Ds,d.enc.length ≤ d.wt
 | .nil=>Nat.le_refl _
 | .set _ _ r=>by have:=ZdB r; simp only [Ds.enc,Ds.wt,List.length_cons]; omega
 | .put _ _ r=>by have:=ZdB r; simp only [Ds.enc,Ds.wt,List.length_cons]; omega
 | .tell _ r=>by have:=ZdB r; simp only [Ds.enc,Ds.wt,List.length_cons]; omega
 | .whn _ _ _ r=>by have:=ZdB r; simp only [Ds.enc,Ds.wt,List.length_cons]; omega
 | .whl _ _ r=>by have:=ZdB r; simp only [Ds.enc,Ds.wt,List.length_cons]; omega
theorem Zjk {M0:Store} {f o c c':Nat} {rs:List Nat} {cur d:Ds} {x:Op7} {r:List (Op7 × Ds)} {M:Store} (h:FSt M0 f o c (c' :: rs) cur ((x,d) :: r) M) (g:Zb0 cur ((x,d) :: r)) (hw:SWt cur ((x,d) :: r) ≤ 100000):
  ∃ S,Zbz [.ref f,.ref o] M = .ok .non S ∧ ZrX M0 f o (SWt cur ((x,d) :: r)) (mu7 ((x,d) :: r)) S:=by
 have hf:M[f]? = some (.lst (ZcK c' rs ++ [.ref c])):=by rw [← ZfO]; exact h.hf
 have ho:M[o]? = some (.lst (Zck r ++ [x.enc])):=by rw [← ZiZ x d r]; exact h.ho
 have hfl:=(List.getElem?_eq_some_iff.mp hf).1
 have ho1:(M.set f (.lst (ZcK c' rs)))[o]? = some (.lst (Zck r ++ [x.enc])):=by rw [List.getElem?_set_ne h.fo]; exact ho
 have hcf:c ≠ f:=fun e=>h.fn (by rw [e]; exact List.mem_cons_self)
 have hc1:(M.set f (.lst (ZcK c' rs)))[c]? = some (.lst cur.enc):=by rw [List.getElem?_set_ne (Ne.symm hcf)]; exact h.hc
 have h1:=h.pop
 have hlen:=g.len
 rw [List.length_cons] at hlen
 have hcw:=ZjT cur ((x,d) :: r)
 have hel:=ZdB cur
 have hdw:=ZjT d r
 have hsw:SWt cur ((x,d) :: r) = cur.wt + x.wt + SWt d r:=rfl
 have hel2:=ZdB d
 let M1:=(M.set f (.lst (ZcK c' rs))).set o (.lst (Zck r))
 have hM1l:M1.length = M.length:=by simp [M1]
 have s1:Zaf 2 (Zaq ZcY (Za (ZaN tyL Zet (Zc 0) (Ze)) (Ze))) [some (.ref f),some (.ref o),none,none] M = .nx [some (.ref f),some (.ref o),some (.tup cur.enc),none] (M.set f (.lst (ZcK c' rs))):=Zx (ZaS (Zkq rfl hf) (ZfN hc1))
 have s2:Zaf 3 (ZaN tyL Zet (Zc 1) (Ze)) [some (.ref f),some (.ref o),some (.tup cur.enc),none] (M.set f (.lst (ZcK c' rs))) = .nx [some (.ref f),some (.ref o),some (.tup cur.enc),some x.enc] M1:=Zx (Zkq rfl ho1)
 have hlast:ZbT (ZcK c' rs) (-1) = some (.ref c'):=by rw [ZeZ]; exact getD_last _ _
 have idx:∀ y z:Option D,e2 Zk (Zc 0) (e1 ZcI (eC (.int 1))) [some (.ref f),some (.ref o),y,z] M1 = .ok (.ref c') M1:=fun y z=>Zg rfl (ZbG rfl (ZgC 1)) (Zbe h1.hf hlast)
 have hd:d.enc.length < SZ:=Nat.lt_trans (show d.enc.length < 200000 by omega) (by decide)
 unfold Zbz ZeD
 cases x with
 | whl t l=>
  have hll:=ZdB l
  have hxw:(Op7.whl t l).wt = 2 * t.flat.length + 3 + l.wt:=rfl
  refine ⟨_,(Zhd (M':=M1.set c' (.lst (d.enc ++ [ZcF t (cur.enc ++ l.enc)]))) (env:=[some (.ref f),some (.ref o),none,none]) ((Zn s1).trans ((Zn s2).trans ((ZbO (Zg rfl rfl (Zdl rfl))).trans (Ze0 (idx _ _) h1.hc (Zv (Zh rfl (Zh rfl (Zh (Zg rfl rfl ?_) rfl))) rfl) h1.hc hd))))).trans (Zgo (by simp [M1])),c',rs,d.app (.whl t (cur.app l) .nil),r,?_,g.whl,Ztj cur d l t r,by rw [ZeT]; simp only [Op7.mu]; omega⟩
  ·rw [ZgE]; exact if_pos (show cur.enc.length + l.enc.length ≤ 1000000 by omega)
  ·have:=h1.put (.whl t (cur.app l) .nil)
   have e:(Ds.whl t (cur.app l) .nil).enc = [ZcF t (cur.enc ++ l.enc)]:=by simp only [Ds.enc,Ze4]
   rw [e] at this
   exact this
 | whe t a=>
  refine ⟨_,(Zhd (M':=M1.set c' (.lst (d.enc ++ [ZcH t a.enc cur.enc]))) (env:=[some (.ref f),some (.ref o),none,none]) ((Zn s1).trans ((Zn s2).trans ((ZaZ (Zg rfl rfl (ZaR (by decide)))).trans ((ZaZ (Zg rfl rfl (by rw [ZmR]; rfl))).trans (Ze0 (idx _ _) h1.hc (Zv (Zh rfl (Zh rfl (Zh rfl (Zh rfl rfl)))) rfl) h1.hc hd)))))).trans (Zgo (by simp [M1])),c',rs,d.app (.whn t a cur .nil),r,?_,g.whe,Zsw cur d a t r,by rw [ZeT]; simp only [Op7.mu]; omega⟩
  exact h1.put (.whn t a cur .nil)
 | whn t=>
  have h2:=h1.push (.whe t cur)
  have hol:(Zck r).length < SZ:=by
   have:(Zck r).length = r.length:=by simp [Zck]
   rw [this]; exact Nat.lt_trans (show r.length < 100 by omega) (by decide)
  have hfl2:(ZcK c' rs).length < SZ:=by
   have:(ZcK c' rs).length = rs.length + 1:=by simp [ZcK]
   rw [this,h1.len]; exact Nat.lt_trans (show r.length + 1 < 100 by omega) (by decide)
  have hf2:(M1.set o (MO.lst (Zck r ++ [(Op7.whe t cur).enc])))[f]? = some (.lst (ZcK c' rs)):=by rw [List.getElem?_set_ne (Ne.symm h.fo)]; exact h1.hf
  have s3:Zak (ZaN tyL Zan (Zc 1) (Za (Zai (Za (e2 Zk (Zc 3) (eC (.int 0))) (Za (e2 Zk (Zc 3) (eC (.int 1))) (Za (Zc 2) (Ze))))) (Ze))) [some (.ref f),some (.ref o),some (.tup cur.enc),some (Op7.whn t).enc] M1 = .nx [some (.ref f),some (.ref o),some (.tup cur.enc),some (Op7.whn t).enc] (M1.set o (MO.lst (Zck r ++ [(Op7.whe t cur).enc]))):=Zdg rfl h1.ho (Zv (Zh rfl (Zh rfl (Zh rfl rfl))) rfl) h1.ho hol
  have s4:Zak (ZaN tyL Zan (Zc 0) (Za (ZaE (Ze)) (Ze))) [some (.ref f),some (.ref o),some (.tup cur.enc),some (Op7.whn t).enc] (M1.set o (MO.lst (Zck r ++ [(Op7.whe t cur).enc]))) = .nx [some (.ref f),some (.ref o),some (.tup cur.enc),some (Op7.whn t).enc] (((M1.set o (MO.lst (Zck r ++ [(Op7.whe t cur).enc]))) ++ [MO.lst []]).set f (MO.lst (ZcK c' rs ++ [.ref M1.length]))):=by
   have hn:(M1.set o (MO.lst (Zck r ++ [(Op7.whe t cur).enc]))).length = M1.length:=List.length_set ..
   rw [← hn]
   exact Zdg rfl hf2 (Zbg rfl rfl) (ZaW hf2 _) hfl2
  refine ⟨_,(Zhd (env:=[some (.ref f),some (.ref o),none,none]) ((Zn s1).trans ((Zn s2).trans ((ZaZ (Zg rfl rfl (ZaR (by decide)))).trans ((ZbO (Zg rfl rfl (by rw [ZmR]; rfl))).trans ((Zn s3).trans s4)))))).trans (ZkK hf ?_ (l':=ZcK c' rs) (n:=M1.length) ?_ ?_),M1.length,c' :: rs,.nil,(.whe t cur,d) :: r,h2,g.whn,Ztl cur d t r,by rw [ZeT,ZeT]; simp only [Op7.mu]; omega⟩
  ·exact h.lt c (.inr (.inr List.mem_cons_self))
  ·have:=h2.hf
   rw [ZfO] at this
   exact this
  ·exact Nat.le_of_eq hM1l.symm
theorem Sm.nm_of:∀ t:Sm,t.all (fun x=>resv x = false) → t.nm
 | .num _,_=>trivial
 | .nam _,h=>h
 | .cel a,h=>a.nm_of h
 | .two _ a b,h=>⟨a.nm_of h.1,b.nm_of h.2⟩
theorem Sm.fine_of {t:Sm} (h:t.all (fun x=>resv x = false)) (hl:t.flat.length ≤ 13):t.fine:=⟨⟨t.all_good (t.all_mono (fun _=>Zgx) h),hl⟩,t.nm_of h⟩
inductive Zi9 (M0:Store) (f o:Nat) (w n:Nat) (S:Store):Prop
 | mk (c:Nat) (rs:List Nat) (cur:Ds) (r:List (Op7 × Ds)) (h:FSt M0 f o c rs cur r S) (g:Zb0 cur r) (hw:SWt cur r ≤ w) (hm:r.length ≤ n)
section
variable {ns:List Int} {M0:Store} {f o c nr:Nat} {rs:List Nat} {cur:Ds} {r:List (Op7 × Ds)} {M:Store} {names:List (List Nat)}
theorem ZmC {env:Zam} {x:Op7} (h:FSt M0 f o c rs cur r M) (hl:r.length < 3) (h2:∀ S,Zc 2 env S = .ok (.ref f) S):
  Zak (ZaN tyL Zan (Zc 2) (Za (ZaE (Ze)) (Ze))) env (M.set o (MO.lst (Zck r ++ [x.enc]))) = .nx env (((M.set o (MO.lst (Zck r ++ [x.enc]))) ++ [MO.lst []]).set f (MO.lst (ZcK c rs ++ [.ref M.length]))):=by
 have hn:(M.set o (MO.lst (Zck r ++ [x.enc]))).length = M.length:=List.length_set ..
 have hf2:(M.set o (MO.lst (Zck r ++ [x.enc])))[f]? = some (.lst (ZcK c rs)):=by rw [List.getElem?_set_ne (Ne.symm h.fo)]; exact h.hf
 have hfl2:(ZcK c rs).length < SZ:=by
  have:(ZcK c rs).length = rs.length + 1:=by simp [ZcK]
  rw [this,h.len]; exact Nat.lt_trans (show r.length + 1 < 100 by omega) (by decide)
 rw [← hn]
 exact Zdg (h2 _) hf2 (Zbg rfl rfl) (ZaW hf2 _) hfl2
theorem Zm3 (hl:ns.length ≤ 63) (k:Nat) (h:FSt M0 f o c rs cur r M) (g:Zb0 cur r) (hr:r.length < 3) (hw:SWt cur r ≤ 100000) (hn:M0[nr]? = some (.lst (names.map D.str))) (hne:0 < names.length) (hlt:names.length < 1000) (hop:∀ x ∈ names,resv x = false):
  ∃ S,Zcg [SC ns,.int (k:Int),.ref f,.ref o,.ref nr] M = .ok .non S ∧ Zi9 M0 f o (SWt cur r + 60) (r.length + 1) S:=by
 let dd:=dr ns (100 + k)
 have hf0:M[f]? = some (.lst (rs.reverse.map D.ref ++ [.ref c])):=by rw [← ZeZ]; exact h.hf
 have hcM:c < M.length:=h.lt c (.inr (.inr List.mem_cons_self))
 have holl:(Zck r).length < SZ:=by
  have:(Zck r).length = r.length:=by simp [Zck]
  rw [this]; exact Nat.lt_trans (show r.length < 100 by omega) (by decide)
 have hcw:=ZjT cur r
 have hel:=ZdB cur
 have fin:∀ {env env':Zam} {x:Op7} {cur':Ds} {S:Store} (h':FSt M0 f o c rs cur' r S) (g':Zb0 cur' r) (hx:x.fine (2 - r.length)) (hw':SWt cur' r + x.wt ≤ SWt cur r + 60) (hSM:M.length ≤ S.length) (e:ZcL env M = .nx env' (((S.set o (MO.lst (Zck r ++ [x.enc]))) ++ [MO.lst []]).set f (MO.lst (ZcK c rs ++ [.ref S.length])))) (he:[some (SC ns),some (.int (k:Int)),some (.ref f),some (.ref o),some (.ref nr),none,none,none,none] = env),∃ S',Zcg [SC ns,.int (k:Int),.ref f,.ref o,.ref nr] M = .ok .non S' ∧ Zi9 M0 f o (SWt cur r + 60) (r.length + 1) S':=fun {env env' x cur' S} h' g' hx hw' hSM e he=>by
  have h2:=h'.push x
  refine ⟨_,(Zhd (ps:=5) (n:=9) (ds:=[SC ns,.int (k:Int),.ref f,.ref o,.ref nr]) e rfl he).trans (ZkK hf0 hcM (l':=ZcK c rs) (n:=S.length) ?_ hSM),S.length,c :: rs,.nil,(x,cur') :: r,h2,g'.push hr hx,by rw [Zp9]; exact hw',Nat.le_refl _⟩
  have:=h2.hf
  rw [ZfO] at this
  exact this
 have hdraw:Zaf 5 (Zt Zaj (Za (Zc 0) (Za (e2 Zm (eC (.int 100)) (Zc 1)) (Ze)))) [some (SC ns),some (.int (k:Int)),some (.ref f),some (.ref o),some (.ref nr),none,none,none,none] M = .nx [some (SC ns),some (.int (k:Int)),some (.ref f),some (.ref o),some (.ref nr),some (.int dd),none,none,none] M:=Zx (ZeF hl (k:=100 + k) rfl (Zg rfl rfl rfl))
 by_cases h1:dd % 2 = 1
 ·-- a round
  let nm:=wdF ns (10 + r.length)
  have hnm:resv nm = false:=(Zjx hl _).resv
  have hnop:Zao nm = false:=Zgx hnm
  obtain ⟨q4,eq4,hq4⟩:=ZcN (dd / 2) 4 (by decide)
  obtain ⟨q8,eq8,hq8⟩:=ZcN (dd / 8) 8 (by decide)
  have eq8:dd / 8 % 8 = (q8:Int):=eq8
  let s1:Ds:=.set nm (.num (dd / 2 % 4)) .nil
  have hp:=h.put s1
  let M1:=M.set c (.lst (cur.enc ++ s1.enc))
  have hM1l:M1.length = M.length:=List.length_set ..
  let somes:List D:=[.tup [.str nm],.tup [.str [109,111,114,101],.str nm,.int 0],.tup [.str [97,100,100],.str nm,.int 0],.tup [.str [115,117,98],.str nm,.int 0],.tup [.int (1 - dd / 64 % 3)]]
  let M2:=M1 ++ [MO.lst somes]
  have hp2:=hp.ext (List.prefix_append M1 [MO.lst somes])
  let lesses:List D:=[.tup [ZdE nm (.two 1 (.nam nm) (.num 1))],.tup []]
  let M3:=M2 ++ [MO.lst lesses]
  have hp3:=hp2.ext (List.prefix_append M2 [MO.lst lesses])
  let less:Ds:=if q8 = 7 then .nil else .set nm (.two 1 (.nam nm) (.num 1)) .nil
  let cond:Sm:=match q8 % 5 with
   | 0=>.nam nm
   | 1=>.two 2 (.nam nm) (.num 0)
   | 2=>.two 0 (.nam nm) (.num 0)
   | 3=>.two 1 (.nam nm) (.num 0)
   | _=>.num (1 - dd / 64 % 3)
  have h5:q8 % 5 < 5:=Nat.mod_lt _ (by decide)
  have hcond:somes[q8 % 5]? = some (.tup cond.flat):=by
   show somes[q8 % 5]? = some (.tup (Sm.flat (match q8 % 5 with | 0=>.nam nm | 1=>.two 2 (.nam nm) (.num 0) | 2=>.two 0 (.nam nm) (.num 0) | 3=>.two 1 (.nam nm) (.num 0) | _=>.num (1 - dd / 64 % 3))))
   match q8 % 5,h5 with
   | 0,_=>rfl
   | 1,_=>rfl
   | 2,_=>rfl
   | 3,_=>rfl
   | 4,_=>rfl
  have hcf:cond.fine ∧ cond.flat.length ≤ 3:=by
   show Sm.fine (match q8 % 5 with | 0=>.nam nm | 1=>.two 2 (.nam nm) (.num 0) | 2=>.two 0 (.nam nm) (.num 0) | 3=>.two 1 (.nam nm) (.num 0) | _=>.num (1 - dd / 64 % 3)) ∧ (Sm.flat (match q8 % 5 with | 0=>.nam nm | 1=>.two 2 (.nam nm) (.num 0) | 2=>.two 0 (.nam nm) (.num 0) | 3=>.two 1 (.nam nm) (.num 0) | _=>.num (1 - dd / 64 % 3))).length ≤ 3
   match q8 % 5,h5 with
   | 0,_=>exact ⟨Sm.fine_of hnm (by simp [Sm.flat]),by simp [Sm.flat]⟩
   | 1,_=>exact ⟨Sm.fine_of ⟨hnm,trivial⟩ (by simp [Sm.flat]),by simp [Sm.flat]⟩
   | 2,_=>exact ⟨Sm.fine_of ⟨hnm,trivial⟩ (by simp [Sm.flat]),by simp [Sm.flat]⟩
   | 3,_=>exact ⟨Sm.fine_of ⟨hnm,trivial⟩ (by simp [Sm.flat]),by simp [Sm.flat]⟩
   | 4,_=>exact ⟨Sm.fine_of trivial (by simp [Sm.flat]),by simp [Sm.flat]⟩
  have hlf:Zdo less 0 ∧ less.wt ≤ 9:=by
   show Zdo (if q8 = 7 then Ds.nil else .set nm (.two 1 (.nam nm) (.num 1)) .nil) 0 ∧ (if q8 = 7 then Ds.nil else .set nm (.two 1 (.nam nm) (.num 1)) .nil).wt ≤ 9
   by_cases q:q8 = 7
   ·rw [if_pos q]; exact ⟨Zdo.nil _,Nat.zero_le _⟩
   ·rw [if_neg q]
    have hf:=Sm.fine_of (t:=.two 1 (.nam nm) (.num 1)) ⟨hnm,trivial⟩ (by simp [Sm.flat])
    exact ⟨⟨⟨hnop,hf.1,trivial⟩,⟨hnm,hf.2,trivial⟩,Nat.le_refl _⟩,by simp [Ds.wt,Sm.flat]⟩
  have hless:lesses[if q8 = 7 then 1 else 0]? = some (.tup less.enc):=by
   show lesses[if q8 = 7 then 1 else 0]? = some (.tup (if q8 = 7 then Ds.nil else .set nm (.two 1 (.nam nm) (.num 1)) .nil).enc)
   by_cases q:q8 = 7
   ·rw [if_pos q,if_pos q]; rfl
   ·rw [if_neg q,if_neg q]; rfl
  have hs1f:Zdo s1 (3 - r.length):=⟨⟨hnop,⟨trivial,by simp [Sm.flat]⟩,trivial⟩,⟨hnm,trivial,trivial⟩,Nat.zero_le _⟩
  have hs1w:s1.wt = 5:=by simp [s1,Ds.wt,Sm.flat]
  have hlist:ZbT (ZcK c rs) (-1) = some (.ref c):=by rw [ZeZ]; exact getD_last _ _
  refine fin (env:=[some (SC ns),some (.int (k:Int)),some (.ref f),some (.ref o),some (.ref nr),none,none,none,none]) (env':=[some (SC ns),some (.int (k:Int)),some (.ref f),some (.ref o),some (.ref nr),some (.int dd),some (.str nm),some (.ref M1.length),some (.tup less.enc)]) (x:=.whl cond less) hp3 (g.put (g.cur.app hs1f)) ⟨hcf.1,hlf.1⟩ ?_ (by simp [M3,M2,M1]) ?_ rfl
  ·have e1:(Op7.whl cond less).wt = 2 * cond.flat.length + 3 + less.wt:=rfl
   have:=hcf.2
   have:=hlf.2
   rw [ZhG,hs1w,e1]; omega
  unfold ZcL
  refine (Zn hdraw).trans ?_
  have t1:Zaf 6 (Zt Za1 (Za (Zc 0) (Za (e2 Zm (eC (.int 10)) (Zaq ZaF (Za (Zc 3) (Ze)))) (Ze)))) [some (SC ns),some (.int (k:Int)),some (.ref f),some (.ref o),some (.ref nr),some (.int dd),none,none,none] M = .nx [some (SC ns),some (.int (k:Int)),some (.ref f),some (.ref o),some (.ref nr),some (.int dd),some (.str nm),none,none] M:=by
   refine Zx (Zej (b:=.int ((10 + r.length:Nat):Int)) (M2:=M) rfl (Zg rfl (ZaS rfl (ZaM h.ho)) ?_) (ZnR hl (10 + r.length) M))
   rw [ZeQ]
   congr 2
   simp [Zck]
  have t2:Zak (ZaN tyL Zan (e2 Zk (Zc 2) (e1 ZcI (eC (.int 1)))) (Za (Zai (Za (eC (.str [115,101,116])) (Za (Zc 6) (Za (Zai (Za (e2 Zaw (e2 Za6 (Zc 5) (eC (.int 2))) (eC (.int 4))) (Ze))) (Ze))))) (Ze))) [some (SC ns),some (.int (k:Int)),some (.ref f),some (.ref o),some (.ref nr),some (.int dd),some (.str nm),none,none] M = .nx [some (SC ns),some (.int (k:Int)),some (.ref f),some (.ref o),some (.ref nr),some (.int dd),some (.str nm),none,none] M1:=
   Ze0 (Zg rfl (ZbG rfl (ZgC 1)) (Zbe h.hf hlist)) h.hc (Zv (Zh rfl (Zh rfl (Zh (Zv (Zh (Zg (Zg rfl rfl (ZbV (by decide))) rfl (ZaV (by decide))) rfl) rfl) rfl))) rfl) h.hc (Nat.lt_trans (show cur.enc.length < 200000 by omega) (by decide))
  have t3:Zaf 7 (ZaE (Za (Zai (Za (Zc 6) (Ze))) (Za (Zai (Za (eC (.str [109,111,114,101])) (Za (Zc 6) (Za (eC (.int 0)) (Ze))))) (Za (Zai (Za (eC (.str [97,100,100])) (Za (Zc 6) (Za (eC (.int 0)) (Ze))))) (Za (Zai (Za (eC (.str [115,117,98])) (Za (Zc 6) (Za (eC (.int 0)) (Ze))))) (Za (Zai (Za (e2 ZeU (eC (.int 1)) (e2 Zaw (e2 Za6 (Zc 5) (eC (.int 64))) (eC (.int 3)))) (Ze))) (Ze))))))) [some (SC ns),some (.int (k:Int)),some (.ref f),some (.ref o),some (.ref nr),some (.int dd),some (.str nm),none,none] M1 = .nx [some (SC ns),some (.int (k:Int)),some (.ref f),some (.ref o),some (.ref nr),some (.int dd),some (.str nm),some (.ref M1.length),none] M2:=
   Zx (Zbg (ds:=somes) (Zh (Zv rfl rfl) (Zh (Zv rfl rfl) (Zh (Zv rfl rfl) (Zh (Zv rfl rfl) (Zh (Zv (Zh (Zg rfl (Zg (Zg rfl rfl (ZbV (by decide))) rfl (ZaV (by decide))) rfl) rfl) rfl) rfl))))) rfl)
  have t4:Zaf 8 (e2 Zk (ZaE (Za (Zai (Za (Zai (Za (eC (.str [115,101,116])) (Za (Zc 6) (Za (Zai (Za (eC (.str [115,117,98])) (Za (Zc 6) (Za (eC (.int 1)) (Ze))))) (Ze))))) (Ze))) (Za (Zai (Ze)) (Ze)))) (Zaq ZgS (Za (e2 Za7 (e2 Zaw (e2 Za6 (Zc 5) (eC (.int 8))) (eC (.int 8))) (eC (.int 7))) (Ze)))) [some (SC ns),some (.int (k:Int)),some (.ref f),some (.ref o),some (.ref nr),some (.int dd),some (.str nm),some (.ref M1.length),none] M2 = .nx [some (SC ns),some (.int (k:Int)),some (.ref f),some (.ref o),some (.ref nr),some (.int dd),some (.str nm),some (.ref M1.length),some (.tup less.enc)] M3:=by
   refine Zx (Zg (Zbg (ds:=lesses) (Zh (Zv (Zh (Zv (Zh rfl (Zh rfl (Zh (Zv rfl rfl) rfl))) rfl) rfl) rfl) (Zh (Zv rfl rfl) rfl)) rfl) (ZaS (a:=.bl (decide (q8 = 7))) (M1:=M3) (Zg (Zg (Zg rfl rfl (ZbV (by decide))) rfl (ZaV (by decide))) rfl ?_) (d:=.int ((if q8 = 7 then 1 else 0:Nat):Int)) ?_) (Zbe (Zax M2 _ []) (by rw [ZaU]; exact hless)))
   ·rw [eq8]
    by_cases q:q8 = 7
    ·rw [decide_eq_true q]; exact Zh4 (by omega)
    ·rw [decide_eq_false q]; exact Zhz (by omega)
   ·rw [Zpi,ZqF]
    by_cases q:q8 = 7
    ·rw [decide_eq_true q,if_pos q]; rfl
    ·rw [decide_eq_false q,if_neg q]; rfl
  have hsome3:M3[M1.length]? = some (.lst somes):=ZaW (Zax M1 _ []) _
  have t5:Zak (ZaN tyL Zan (Zc 3) (Za (Zai (Za (eC (.str [119,104,105,108,101])) (Za (e2 Zk (Zc 7) (e2 Zaw (e2 Zaw (e2 Za6 (Zc 5) (eC (.int 8))) (eC (.int 8))) (eC (.int 5)))) (Za (Zc 8) (Ze))))) (Ze))) [some (SC ns),some (.int (k:Int)),some (.ref f),some (.ref o),some (.ref nr),some (.int dd),some (.str nm),some (.ref M1.length),some (.tup less.enc)] M3 = .nx [some (SC ns),some (.int (k:Int)),some (.ref f),some (.ref o),some (.ref nr),some (.int dd),some (.str nm),some (.ref M1.length),some (.tup less.enc)] (M3.set o (MO.lst (Zck r ++ [(Op7.whl cond less).enc]))):=
   Zdg rfl hp3.ho (Zv (Zh rfl (Zh (Zg rfl (Zg (Zg (Zg rfl rfl (ZbV (by decide))) rfl (ZaV (by decide))) rfl (ZaV (by decide))) (Zbe hsome3 (by rw [eq8,show ((q8:Int) % 5) = ((q8 % 5:Nat):Int) by omega,ZaU]; exact hcond))) (Zh rfl rfl))) rfl) hp3.ho holl
  exact (Zn ((ZbO (Zg (Zg rfl rfl (ZaV (by decide))) rfl (Zh4 h1))).trans ((Zn t1).trans ((Zn t2).trans ((Zn t3).trans ((Zn t4).trans t5)))))).trans (ZmC hp3 hr fun _=>rfl)
 ·-- a choice
  obtain ⟨t,ht,htl,hsum⟩:=Zl1 (Q:=fun x=>resv x = false) (at0:=200 + 30 * k) (lim:=4) hl (M:=M) (nr:=nr) (names:=names) (Zah h.p hn) hne hlt hop (by decide)
  refine fin (env:=[some (SC ns),some (.int (k:Int)),some (.ref f),some (.ref o),some (.ref nr),none,none,none,none]) (env':=[some (SC ns),some (.int (k:Int)),some (.ref f),some (.ref o),some (.ref nr),some (.int dd),none,none,none]) (x:=.whn t) h g (Sm.fine_of ht (by omega)) (by have e1:(Op7.whn t).wt = 2 * t.flat.length + 3:=rfl; rw [e1]; omega) (Nat.le_refl _) ?_ rfl
  unfold ZcL
  refine (Zn hdraw).trans ?_
  have hidx:e2 Zm (eC (.int 200)) (e2 ZbD (eC (.int 30)) (Zc 1)) [some (SC ns),some (.int (k:Int)),some (.ref f),some (.ref o),some (.ref nr),some (.int dd),none,none,none] M = .ok (.int ((200 + 30 * k:Nat):Int)) M:=by
   refine Zg rfl (Zg rfl rfl (by rw [Zef,if_pos (ZiN (by decide))])) ?_
   rw [ZeQ]
   congr 2
  have t5:Zak (ZaN tyL Zan (Zc 3) (Za (Zai (Za (eC (.str [119,104,101,110])) (Za (Zt Zbt (Za (Zc 0) (Za (e2 Zm (eC (.int 200)) (e2 ZbD (eC (.int 30)) (Zc 1))) (Za (Zc 4) (Za (eC (.int 4)) (Ze)))))) (Za (eC .non) (Ze))))) (Ze))) [some (SC ns),some (.int (k:Int)),some (.ref f),some (.ref o),some (.ref nr),some (.int dd),none,none,none] M = .nx [some (SC ns),some (.int (k:Int)),some (.ref f),some (.ref o),some (.ref nr),some (.int dd),none,none,none] (M.set o (MO.lst (Zck r ++ [(Op7.whn t).enc]))):=
   Zdg rfl h.ho (Zv (Zh rfl (Zh (Zph rfl hidx rfl rfl hsum) (Zh rfl rfl))) rfl) h.ho holl
  exact (Zn ((ZaZ (Zg (Zg rfl rfl (ZaV (by decide))) rfl (Zhz h1))).trans t5)).trans (ZmC h hr fun _=>rfl)
end
noncomputable abbrev ZrM:S3:=Zy (Zaf 7 (Zaq ZgS (Za (e2 Za7 (Zc 5) (e2 Zaw (Zt Zaj (Za (Zc 0) (Za (eC (.int 58)) (Ze)))) (eC (.int 8)))) (Ze)))) (Zy (Zaf 8 (Zt Zbt (Za (Zc 0) (Za (e2 Zm (eC (.int 200)) (e2 ZbD (eC (.int 30)) (Zc 5))) (Za (Zc 2) (Za (e2 Zk (ZaE (Za (eC (.int 4)) (Za (eC (.int 10)) (Ze)))) (Zc 7)) (Ze))))))) (sIf (e2 Zgq (e2 Zaw (Zc 6) (eC (.int 9))) (eC (.int 3))) (Zak (ZaN tyL Zan (e2 Zk (Zc 3) (e1 ZcI (eC (.int 1)))) (Za (Zai (Za (eC (.str [115,101,116])) (Za (e2 Zk (Zc 2) (e2 Zaw (e2 Za6 (Zc 6) (eC (.int 9))) (eC (.int 6)))) (Za (Zc 8) (Ze))))) (Ze)))) (sIf (e2 Za7 (e2 Zaw (Zc 6) (eC (.int 9))) (eC (.int 3))) (Zak (ZaN tyL Zan (e2 Zk (Zc 3) (e1 ZcI (eC (.int 1)))) (Za (Zai (Za (eC (.str [112,117,116])) (Za (Zc 8) (Za (Zt Zbt (Za (Zc 0) (Za (e2 Zm (eC (.int 215)) (e2 ZbD (eC (.int 30)) (Zc 5))) (Za (Zc 2) (Za (e2 Zk (ZaE (Za (eC (.int 3)) (Za (eC (.int 8)) (Ze)))) (Zc 7)) (Ze)))))) (Ze))))) (Ze)))) (sIf (Zew (e2 Zgq (e2 Zaw (Zc 6) (eC (.int 9))) (eC (.int 6))) (e2 Zgq (Zaq ZaF (Za (Zc 4) (Ze))) (eC (.int 3)))) (Zak (Zt Zcg (Za (Zc 0) (Za (Zc 5) (Za (Zc 3) (Za (Zc 4) (Za (Zc 2) (Ze)))))))) (sIf (Zew (e2 Za7 (e2 Zaw (Zc 6) (eC (.int 9))) (eC (.int 6))) (e2 ZeL (Zaq ZaF (Za (Zc 4) (Ze))) (eC (.int 0)))) (Zak (Zt Zbz (Za (Zc 3) (Za (Zc 4) (Ze))))) (Zak (ZaN tyL Zan (e2 Zk (Zc 3) (e1 ZcI (eC (.int 1)))) (Za (Zai (Za (eC (.str [116,101,108,108])) (Za (Zc 8) (Ze)))) (Ze)))))))))
noncomputable abbrev ldE (ns:List Int) (cl nr f o:Nat) (a5 a6 a7 a8:Option D):Zam:=[some (SC ns),some (.ref cl),some (.ref nr),some (.ref f),some (.ref o),a5,a6,a7,a8]
theorem ZkN (r:List (Op7 × Ds)):(Zck r).length = r.length:=by simp [Zck]
theorem Zs1 {F:F3} {f g h k l:E3} {env:Zam} {M M1 M2 M3 M4 M5 M6:Store} {a b c d e r:D} (h1:f env M = .ok a M1) (h2:g env M1 = .ok b M2) (h3:h env M2 = .ok c M3) (h4:k env M3 = .ok d M4) (h5:l env M4 = .ok e M5) (h6:F [a,b,c,d,e] M5 = .ok r M6):Zt F (Za f (Za g (Za h (Za k (Za l Ze))))) env M = .ok r M6:=by
 simp only [Zt,Za,Ze,R3.bind,h1,h2,h3,h4,h5,h6]
section
variable {ns:List Int} {M0:Store} {f o cl nr:Nat} {names:List (List Nat)}
theorem ZlM (hl:ns.length ≤ 63) (hn:M0[nr]? = some (.lst (names.map D.str))) (hne:0 < names.length) (hlt:names.length < 1000) (hop:∀ x ∈ names,resv x = false) (k:Nat) {M:Store} (p:M0 <+: M) (base a b:Nat) (hab:a ≤ 10 ∧ b ≤ 10) (deep:Bool) (e6 e8:Option D):
  ∃ t:Sm,t.fine ∧ t.flat.length ≤ 12 ∧ Zt Zbt (Za (Zc 0) (Za (e2 Zm (eC (.int (base:Int))) (e2 ZbD (eC (.int 30)) (Zc 5))) (Za (Zc 2) (Za (e2 Zk (ZaE (Za (eC (.int (a:Int))) (Za (eC (.int (b:Int))) (Ze)))) (Zc 7)) (Ze))))) (ldE ns cl nr f o (some (.int (k:Int))) e6 (some (.int (if deep = true then 1 else 0))) e8) M = .ok (.tup t.flat) (M ++ [.lst [.int (a:Int),.int (b:Int)]]):=by
 obtain ⟨t,ht,htl,hsum⟩:=Zl1 (Q:=fun x=>resv x = false) (at0:=base + 30 * k) (lim:=if deep = true then b else a) hl (M:=M ++ [.lst [.int (a:Int),.int (b:Int)]]) (nr:=nr) (names:=names) (Zah (p.trans (List.prefix_append _ _)) hn) hne hlt hop (by split <;> omega)
 have hlim:t.flat.length ≤ 12:=by split at htl <;> omega
 refine ⟨t,Sm.fine_of ht (by omega),hlim,?_⟩
 refine Zph (b:=.int ((base + 30 * k:Nat):Int)) (M2:=M) (d:=.int ((if deep = true then b else a:Nat):Int)) rfl (Zg rfl (Zg rfl rfl (by rw [Zef,if_pos (ZiN (by decide))])) (by rw [ZeQ]; congr 2)) rfl (Zg (Zbg (ds:=[.int (a:Int),.int (b:Int)]) rfl rfl) rfl (Zbe (Zax M _ []) ?_)) hsum
 cases deep with
 | true=>rfl
 | false=>rfl
theorem Zn3 (hl:ns.length ≤ 63) (hn:M0[nr]? = some (.lst (names.map D.str))) (hne:names.length = 7) (hop:∀ x ∈ names,resv x = false) (k:Nat) (cell:Int) {c:Nat} {rs:List Nat} {cur:Ds} {r:List (Op7 × Ds)} {M:Store} (h:FSt M0 f o c rs cur r M) (g:Zb0 cur r) (hw:SWt cur r ≤ 50000) (a7 a8:Option D):
  ∃ S b7 b8,ZrM (ldE ns cl nr f o (some (.int (k:Int))) (some (.int cell)) a7 a8) M = .nx (ldE ns cl nr f o (some (.int (k:Int))) (some (.int cell)) b7 b8) S ∧ Zi9 M0 f o (SWt cur r + 60) 3 S:=by
 let deep:Bool:=decide ((k:Int) = dr ns 58 % 8)
 have s1:Zaf 7 (Zaq ZgS (Za (e2 Za7 (Zc 5) (e2 Zaw (Zt Zaj (Za (Zc 0) (Za (eC (.int 58)) (Ze)))) (eC (.int 8)))) (Ze))) (ldE ns cl nr f o (some (.int (k:Int))) (some (.int cell)) a7 a8) M = .nx (ldE ns cl nr f o (some (.int (k:Int))) (some (.int cell)) (some (.int (if deep = true then 1 else 0))) a8) M:=Zx (ZaS (Zg rfl (Zg (ZeF hl (k:=58) rfl rfl) rfl (ZaV (by decide))) rfl) rfl)
 obtain ⟨t,ht,htl,hsum⟩:=ZlM (f:=f) (o:=o) (cl:=cl) hl hn (by omega) (by omega) hop k h.p 200 4 10 (by omega) deep (some (.int cell)) a8
 have h1:=h.ext (List.prefix_append M [.lst [.int ((4:Nat):Int),.int ((10:Nat):Int)]])
 let M1:=M ++ [MO.lst [.int ((4:Nat):Int),.int ((10:Nat):Int)]]
 have s2:Zaf 8 (Zt Zbt (Za (Zc 0) (Za (e2 Zm (eC (.int 200)) (e2 ZbD (eC (.int 30)) (Zc 5))) (Za (Zc 2) (Za (e2 Zk (ZaE (Za (eC (.int 4)) (Za (eC (.int 10)) (Ze)))) (Zc 7)) (Ze)))))) (ldE ns cl nr f o (some (.int (k:Int))) (some (.int cell)) (some (.int (if deep = true then 1 else 0))) a8) M = .nx (ldE ns cl nr f o (some (.int (k:Int))) (some (.int cell)) (some (.int (if deep = true then 1 else 0))) (some (.tup t.flat))) M1:=Zx hsum
 have hcw:=ZjT cur r
 have hel:=ZdB cur
 have hcz:cur.enc.length < SZ:=Nat.lt_trans (show cur.enc.length < 200000 by omega) (by decide)
 have hlist:ZbT (ZcK c rs) (-1) = some (.ref c):=by rw [ZeZ]; exact getD_last _ _
 have hlen:∀ {a7 a8:Option D},Zaq ZaF (Za (Zc 4) (Ze)) (ldE ns cl nr f o (some (.int (k:Int))) (some (.int cell)) a7 a8) M1 = .ok (.int (r.length:Int)) M1:=by
  exact ZaS rfl ((ZaM h1.ho).trans (by rw [ZkN]))
 have idx:∀ {a7 a8:Option D},e2 Zk (Zc 3) (e1 ZcI (eC (.int 1))) (ldE ns cl nr f o (some (.int (k:Int))) (some (.int cell)) a7 a8) M1 = .ok (.ref c) M1:=Zg rfl (ZbG rfl (ZgC 1)) (Zbe h1.hf hlist)
 have h9:∀ {a7 a8:Option D},e2 Zaw (Zc 6) (eC (.int 9)) (ldE ns cl nr f o (some (.int (k:Int))) (some (.int cell)) a7 a8) M1 = .ok (.int (cell % 9)) M1:=Zg rfl rfl (ZaV (by decide))
 have put:∀ {s:Ds},Zdo s (3 - r.length) → s.wt ≤ 60 → ∀ {S:Store},FSt M0 f o c rs cur r S → Zi9 M0 f o (SWt cur r + 60) 3 (S.set c (.lst (cur.enc ++ s.enc))):=fun {s} hs hsw {S} hS=>⟨c,rs,cur.app s,r,hS.put s,g.put (g.cur.app hs),by rw [ZhG]; omega,g.len⟩
 by_cases c1:cell % 9 < 3
 ·obtain ⟨q,eq,hq⟩:=ZcN (cell / 9) 6 (by decide)
  have eq:cell / 9 % 6 = (q:Int):=eq
  have hql:q < names.length:=by omega
  have hgq:names[q]? = some (names[q]'hql):=List.getElem?_eq_getElem hql
  have hres:=hop _ (List.getElem_mem hql)
  have hnr1:M1[nr]? = some (.lst (names.map D.str)):=Zah h1.p hn
  refine ⟨_,_,_,(Zn s1).trans ((Zn s2).trans ((ZbO (Zg h9 rfl (by rw [Zeo,decide_eq_true c1]))).trans (Ze0 idx h1.hc (Zv (Zh rfl (Zh (Zg rfl (Zg (Zg rfl rfl (ZbV (by decide))) rfl (ZaV (by decide))) (Zbe hnr1 (by rw [eq,ZaU,List.getElem?_map,hgq]; rfl))) (Zh rfl rfl))) rfl) h1.hc hcz))),?_⟩
  exact put (s:=.set (names[q]'hql) t .nil) ⟨⟨Zgx hres,ht.1,trivial⟩,⟨hres,ht.2,trivial⟩,Nat.zero_le _⟩ (by simp only [Ds.wt]; omega) h1
 have f1:∀ {a7 a8:Option D},e2 Zgq (e2 Zaw (Zc 6) (eC (.int 9))) (eC (.int 3)) (ldE ns cl nr f o (some (.int (k:Int))) (some (.int cell)) a7 a8) M1 = .ok (.bl false) M1:=Zg h9 rfl (by rw [Zeo,decide_eq_false c1])
 by_cases c2:cell % 9 = 3
 ·obtain ⟨u,hu,hul,hsum2⟩:=ZlM (f:=f) (o:=o) (cl:=cl) hl hn (by omega) (by omega) hop k h1.p 215 3 8 (by omega) deep (some (.int cell)) (some (.tup t.flat))
  have h2:=h1.ext (List.prefix_append M1 [.lst [.int ((3:Nat):Int),.int ((8:Nat):Int)]])
  refine ⟨_,_,_,(Zn s1).trans ((Zn s2).trans ((ZaZ f1).trans ((ZbO (Zg h9 rfl (Zh4 c2))).trans (Ze0 idx h1.hc (Zv (Zh rfl (Zh rfl (Zh hsum2 rfl))) rfl) h2.hc hcz)))),?_⟩
  exact put (s:=.put t u .nil) ⟨⟨ht.1,hu.1,trivial⟩,⟨ht.2,hu.2,trivial⟩,Nat.zero_le _⟩ (by simp only [Ds.wt]; omega) h2
 have f2:∀ {a7 a8:Option D},e2 Za7 (e2 Zaw (Zc 6) (eC (.int 9))) (eC (.int 3)) (ldE ns cl nr f o (some (.int (k:Int))) (some (.int cell)) a7 a8) M1 = .ok (.bl false) M1:=Zg h9 rfl (Zhz c2)
 by_cases c3:cell % 9 < 6 ∧ r.length < 3
 ·obtain ⟨S,e,hS⟩:=Zm3 hl k h1 g c3.2 (by omega) hn (by omega) (by omega) hop
  obtain ⟨c',rs',cur',r',q1,q2,q3,q4⟩:=hS
  refine ⟨S,_,_,(Zn s1).trans ((Zn s2).trans ((ZaZ f1).trans ((ZaZ f2).trans ((ZbO ((Zez (Zg h9 rfl (by rw [Zeo,decide_eq_true c3.1]))).trans (Zg hlen rfl (by rw [Zeo,decide_eq_true (by omega)])))).trans (Zcs (Zs1 rfl rfl rfl rfl rfl e)))))),c',rs',cur',r',q1,q2,q3,q2.len⟩
 have f3:∀ {a7 a8:Option D},Zew (e2 Zgq (e2 Zaw (Zc 6) (eC (.int 9))) (eC (.int 6))) (e2 Zgq (Zaq ZaF (Za (Zc 4) (Ze))) (eC (.int 3))) (ldE ns cl nr f o (some (.int (k:Int))) (some (.int cell)) a7 a8) M1 = .ok (.bl false) M1:=by
  by_cases q:cell % 9 < 6
  ·exact (Zez (Zg h9 rfl (by rw [Zeo,decide_eq_true q]))).trans (Zg hlen rfl (by rw [Zeo,decide_eq_false (by omega)]))
  ·exact Zg8 (Zg h9 rfl (by rw [Zeo,decide_eq_false q]))
 by_cases c4:cell % 9 = 6 ∧ 0 < r.length
 ·cases r with
  | nil=>exact absurd c4.2 (by simp)
  | cons q r=>
   obtain ⟨x,d⟩:=q
   cases rs with
   | nil=>have:=h.len; simp at this
   | cons c' rs=>
    obtain ⟨S,e,hS⟩:=Zjk h1 g (by omega)
    obtain ⟨c2,rs2,cur2,r2,q1,q2,q3,q4⟩:=hS
    refine ⟨S,_,_,(Zn s1).trans ((Zn s2).trans ((ZaZ f1).trans ((ZaZ f2).trans ((ZaZ f3).trans ((ZbO ((Zez (Zg h9 rfl (Zh4 c4.1))).trans (Zg hlen rfl (by rw [ZdX,decide_eq_true (by simp)])))).trans (Zcs (Zej rfl rfl e))))))),c2,rs2,cur2,r2,q1,q2,by omega,q2.len⟩
 have f4:∀ {a7 a8:Option D},Zew (e2 Za7 (e2 Zaw (Zc 6) (eC (.int 9))) (eC (.int 6))) (e2 ZeL (Zaq ZaF (Za (Zc 4) (Ze))) (eC (.int 0))) (ldE ns cl nr f o (some (.int (k:Int))) (some (.int cell)) a7 a8) M1 = .ok (.bl false) M1:=by
  by_cases q:cell % 9 = 6
  ·exact (Zez (Zg h9 rfl (Zh4 q))).trans (Zg hlen rfl (by rw [ZdX,decide_eq_false (by omega)]))
  ·exact Zg8 (Zg h9 rfl (Zhz q))
 refine ⟨_,_,_,(Zn s1).trans ((Zn s2).trans ((ZaZ f1).trans ((ZaZ f2).trans ((ZaZ f3).trans ((ZaZ f4).trans (Ze0 idx h1.hc (Zv rfl rfl) h1.hc hcz)))))),?_⟩
 exact put (s:=.tell t .nil) ⟨⟨ht.1,trivial⟩,⟨ht.2,trivial⟩,Nat.zero_le _⟩ (by simp only [Ds.wt]; omega) h1
theorem ZkW (hl:ns.length ≤ 63) (hn:M0[nr]? = some (.lst (names.map D.str))) (hne:names.length = 7) (hop:∀ x ∈ names,resv x = false) {items:List D} (hcl:M0[cl]? = some (.lst items)):∀ (cs:List Int) (k w:Nat) (M:Store) (a5 a6 a7 a8:Option D),Zi9 M0 f o w 3 M → w + 60 * cs.length ≤ 40000 →
  ∃ S b5 b6 b7 b8,Zcb [(cl,items)] (Zc3 [5,6]) ZrM (ZbM k (cs.map D.int)) (ldE ns cl nr f o a5 a6 a7 a8) M = .nx (ldE ns cl nr f o b5 b6 b7 b8) S ∧ Zi9 M0 f o (w + 60 * cs.length) 3 S
 | [],k,w,M,a5,a6,a7,a8,H,_=>by
  obtain ⟨c,rs,cur,r,h,g,hw,hm⟩:=H
  refine ⟨M,a5,a6,a7,a8,?_,c,rs,cur,r,h,g,by simpa using hw,hm⟩
  show Zcb _ _ _ [] _ _ = _
  rw [Ze3,if_pos (by simp [Za5,Zah h.p hcl])]
 | x :: cs,k,w,M,a5,a6,a7,a8,H,hz=>by
  rw [List.length_cons] at hz
  obtain ⟨c,rs,cur,r,h,g,hw,hm⟩:=H
  obtain ⟨S,b7,b8,e,HS⟩:=Zn3 (cl:=cl) hl hn hne hop k x h g (by omega) a7 a8
  obtain ⟨c2,rs2,cur2,r2,h2,g2,hw2,hm2⟩:=HS
  obtain ⟨S2,d5,d6,d7,d8,e2',HS2⟩:=ZkW hl hn hne hop hcl cs (k + 1) (w + 60) S (some (.int (k:Int))) (some (.int x)) b7 b8 ⟨c2,rs2,cur2,r2,h2,g2,by omega,hm2⟩ (by omega)
  obtain ⟨c3,rs3,cur3,r3,h3,g3,hw3,hm3⟩:=HS2
  refine ⟨S2,d5,d6,d7,d8,?_,c3,rs3,cur3,r3,h3,g3,by rw [List.length_cons]; omega,hm3⟩
  show Zcb _ _ _ (.tup [.int (k:Int),.int x] :: ZbM (k + 1) (cs.map D.int)) _ _ = _
  rw [Ze1,if_pos (by simp [Za5,Zah h.p hcl])]
  have e:ZrM [some (SC ns),some (.ref cl),some (.ref nr),some (.ref f),some (.ref o),some (.int (k:Int)),some (.int x),a7,a8] M = .nx [some (SC ns),some (.ref cl),some (.ref nr),some (.ref f),some (.ref o),some (.int (k:Int)),some (.int x),b7,b8] S:=e
  simp only [Zc3,Zdv,Zdt,List.set_cons_succ,List.set_cons_zero,e]
  exact e2'
theorem ZtY (r:List (Op7 × Ds)):mu7 r ≤ 2 * r.length:=by
 induction r with
 | nil=>exact Nat.le_refl _
 | cons p r ih=>
  obtain ⟨x,d⟩:=p
  rw [ZeT,List.length_cons]
  have:x.mu ≤ 2:=by cases x <;> simp [Op7.mu]
  omega
theorem ZnL {env:Zam} (h3:∀ S,Zc 3 env S = .ok (.ref f) S) (h4:∀ S,Zc 4 env S = .ok (.ref o) S):∀ (m fuel:Nat) (c:Nat) (rs:List Nat) (cur:Ds) (r:List (Op7 × Ds)) (M:Store),mu7 r ≤ m → m < fuel → FSt M0 f o c rs cur r M → Zb0 cur r → SWt cur r ≤ 100000 →
  ∃ S c' cur',ZcW (e2 ZeL (Zaq ZaF (Za (Zc 4) (Ze))) (eC (.int 0))) (Zak (Zt Zbz (Za (Zc 3) (Za (Zc 4) (Ze))))) fuel env M = .nx env S ∧ FSt M0 f o c' [] cur' [] S ∧ Zdo cur' 3 ∧ cur'.wt = SWt cur r:=by
 intro m
 induction m with
 | zero=>
  intro fuel c rs cur r M hm hf h g hw
  obtain ⟨k,rfl⟩:∃ k,fuel = k + 1:=⟨fuel - 1,by omega⟩
  cases r with
  | nil=>
   cases rs with
   | cons _ _=>have:=h.len; simp at this
   | nil=>
    refine ⟨M,c,cur,?_,h,g,rfl⟩
    rw [Zdf,Zg (ZaS (h4 M) (ZaM h.ho)) rfl (show ZeL (.int ((Zck []).length:Int)) (.int 0) M = .ok (.bl false) M from rfl)]
  | cons q r=>
   obtain ⟨x,d⟩:=q
   rw [ZeT] at hm
   cases x <;> simp [Op7.mu] at hm
 | succ m ih=>
  intro fuel c rs cur r M hm hf h g hw
  obtain ⟨k,rfl⟩:∃ k,fuel = k + 1:=⟨fuel - 1,by omega⟩
  cases r with
  | nil=>
   cases rs with
   | cons _ _=>have:=h.len; simp at this
   | nil=>
    refine ⟨M,c,cur,?_,h,g,rfl⟩
    rw [Zdf,Zg (ZaS (h4 M) (ZaM h.ho)) rfl (show ZeL (.int ((Zck []).length:Int)) (.int 0) M = .ok (.bl false) M from rfl)]
  | cons q r=>
   obtain ⟨x,d⟩:=q
   cases rs with
   | nil=>have:=h.len; simp at this
   | cons c' rs=>
    obtain ⟨S,e,HS⟩:=Zjk h g hw
    obtain ⟨c2,rs2,cur2,r2,q1,q2,q3,q4⟩:=HS
    obtain ⟨S2,c3,cur3,e2',h5,h6,h7⟩:=ih k c2 rs2 cur2 r2 S (by omega) (by omega) q1 q2 (by omega)
    refine ⟨S2,c3,cur3,?_,h5,h6,h7.trans q3⟩
    rw [Zdf,Zg (ZaS (h4 M) (ZaM h.ho)) rfl (show ZeL (.int ((Zck ((x,d) :: r)).length:Int)) (.int 0) M = .ok (.bl true) M by rw [ZdX,ZkN,decide_eq_true (by simp)])]
    show (match Zak _ _ _ with | .nx e M'=>_ | .ct e M'=>_ | .bk e M'=>_ | o=>o) = _
    rw [Zcs (Zej (h3 M) (h4 M) e)]
    exact e2'
end
theorem Zcd {n:Nat}:∀ d:Ds,belowL n d.enc = true
 | .nil=>rfl
 | .set x t r=>by
  show (below n (ZdE x t) && belowL n r.enc) = true
  rw [Zcd r,Bool.and_true]
  show (true && (belowL n t.flat && true)) = true
  rw [Zda (Zb9 t)]; rfl
 | .put t u r=>by
  show (below n (Zd8 t u) && belowL n r.enc) = true
  rw [Zcd r,Bool.and_true]
  show (true && (belowL n t.flat && (belowL n u.flat && true))) = true
  rw [Zda (Zb9 t),Zda (Zb9 u)]; rfl
 | .tell t r=>by
  show (below n (ZcU t) && belowL n r.enc) = true
  rw [Zcd r,Bool.and_true]
  show (true && (belowL n t.flat && true)) = true
  rw [Zda (Zb9 t)]; rfl
 | .whn t a b r=>by
  show (below n (ZcH t a.enc b.enc) && belowL n r.enc) = true
  rw [Zcd r,Bool.and_true]
  show (true && (belowL n t.flat && (belowL n a.enc && (belowL n b.enc && true)))) = true
  rw [Zda (Zb9 t),Zcd a,Zcd b]; rfl
 | .whl t a r=>by
  show (below n (ZcF t a.enc) && belowL n r.enc) = true
  rw [Zcd r,Bool.and_true]
  show (true && (belowL n t.flat && (belowL n a.enc && true))) = true
  rw [Zda (Zb9 t),Zcd a]; rfl
theorem ZoK {ns:List Int} (hl:ns.length ≤ 63) {M:Store} {cl nr:Nat} {names:List (List Nat)} {cs:List Int} (hcl:M[cl]? = some (.lst (cs.map D.int))) (hcs:cs.length ≤ 24) (hn:M[nr]? = some (.lst (names.map D.str))) (hne:names.length = 7) (hop:∀ x ∈ names,resv x = false):
  ∃ ds:Ds,Zdo ds 3 ∧ ds.wt ≤ 2000 ∧ ZdW [SC ns,.ref cl,.ref nr] M = .ok (.tup ds.enc) M:=by
 let M3:=M ++ [MO.lst [],.lst [.ref M.length],.lst []]
 have h0:FSt M (M.length + 1) (M.length + 2) M.length [] .nil [] M3:=⟨List.prefix_append _ _,ZdU M [MO.lst [],.lst [.ref M.length],.lst []] 1,ZdU M [MO.lst [],.lst [.ref M.length],.lst []] 2,ZdU M [MO.lst [],.lst [.ref M.length],.lst []] 0,fun i a q h=>by simp at h,rfl,by simp,by simp,by simp,by omega,by omega,by omega,by simp⟩
 obtain ⟨S,b5,b6,b7,b8,e,H⟩:=ZkW (f:=M.length + 1) (o:=M.length + 2) (cl:=cl) hl hn hne hop hcl cs 0 0 M3 none none none none ⟨M.length,[],.nil,[],h0,Zdo.nil 3,Nat.le_refl _,by simp⟩ (by omega)
 obtain ⟨c,rs,cur,r,h,g,hw,hm⟩:=H
 have hmu:=ZtY r
 obtain ⟨S2,c',cur',e2',h5,h6,h7⟩:=ZnL (env:=ldE ns cl nr (M.length + 1) (M.length + 2) b5 b6 b7 b8) (fun _=>rfl) (fun _=>rfl) (mu7 r) 1000000 c rs cur r S (Nat.le_refl _) (by omega) h g (by omega)
 obtain ⟨G,hG⟩:=h5.p
 refine ⟨cur',h6,by omega,?_⟩
 refine (ZcX (M':=S2) (d:=.tup cur'.enc) (env:=[some (SC ns),some (.ref cl),some (.ref nr),none,none,none,none,none,none]) ?_).trans ?_
 ·unfold Ze5
  refine (Zn (Zx (d:=.ref (M.length + 1)) (M':=M ++ [MO.lst [],.lst [.ref M.length]]) ?_)).trans ((Zn (Zx (d:=.ref (M.length + 2)) (M':=M3) ?_)).trans ?_)
  ·have hi:Za (ZaE (Ze)) (Ze) [some (SC ns),some (.ref cl),some (.ref nr),none,none,none,none,none,none] M = .ok [.ref M.length] (M ++ [.lst []]):=Zh (Zbg rfl rfl) rfl
   refine (Zbg hi rfl).trans ?_
   rw [List.append_assoc,List.length_append]; rfl
  ·refine (Zbg (ds:=[]) (M':=M ++ [MO.lst [],.lst [.ref M.length]]) rfl rfl).trans ?_
   rw [List.append_assoc,List.length_append]; rfl
  have hit:Zfm (Zc 1) (ldE ns cl nr (M.length + 1) (M.length + 2) none none none none) M3 = .ok ⟨ZbM 0 (cs.map D.int),[(cl,cs.map D.int)]⟩ M3:=by
   show (match M3[cl]? with | some (.lst ds)=>R3.ok (⟨ZbM 0 ds,[(cl,ds)]⟩:ItL) M3 | _=>R3.bad) = _
   rw [show M3[cl]? = _ from ZaW hcl _]
  refine (Zn ((ZeO hit).trans e)).trans ((Zn e2').trans (ZbP (ZaS (Zg rfl rfl (Zbe h5.hf rfl)) (ZfN h5.hc))))
 ·rw [← hG]
  exact Zed (Zcd cur')
theorem Zn6 {ns:List Int} (hl:ns.length ≤ 63):(Zfp ns 6).Nodup:=by
 unfold Zfp
 have key:∀ i j:Nat,i < 6 → j < 6 → wdF ns i = wdF ns j → i = j:=fun i j hi hj e=>by
  have h1:=Zq1 hl i
  have h2:=Zq1 hl j
  rw [e,h2] at h1
  have hb:∀ x:Int,(x % 26).toNat < LTS.length:=fun x=>by
   have a:=Int.emod_nonneg x (b:=26) (by decide)
   have b:=Int.emod_lt_of_pos x (b:=26) (by decide)
   show _ < 26
   omega
  have hn:LTS.Nodup:=by decide
  have:=(List.getElem?_inj (hb _) hn).mp h1
  have a1:=Int.emod_nonneg ((i:Int) + dr ns 3) (b:=26) (by decide)
  have a2:=Int.emod_nonneg ((j:Int) + dr ns 3) (b:=26) (by decide)
  omega
 have:∀ l:List Nat,l.Nodup → (∀ i ∈ l,i < 6) → (l.map (wdF ns)).Nodup:=by
  intro l
  induction l with
  | nil=>intro _ _; exact List.nodup_nil
  | cons i l ih=>
   intro hn hl6
   rw [List.map_cons,List.nodup_cons]
   refine ⟨fun hm=>?_,ih (List.nodup_cons.mp hn).2 fun j hj=>hl6 j (List.mem_cons_of_mem _ hj)⟩
   obtain ⟨j,hj,e⟩:=List.mem_map.mp hm
   have:=key j i (hl6 j (List.mem_cons_of_mem _ hj)) (hl6 i List.mem_cons_self) e
   exact (List.nodup_cons.mp hn).1 (this ▸ hj)
 exact this _ List.nodup_range fun i hi=>List.mem_range.mp hi
theorem Zhl {ns:List Int} (h:ns.length ≤ 63) (n:Nat):∀ x ∈ Zfp ns n,resv x = false:=fun x hx=>by
 obtain ⟨i,_,rfl⟩:=List.mem_map.mp hx
 exact (Zjx h i).resv
inductive Zsp (ns:List Int) (P:D):Prop
 | mk (tk:List (List Nat)) (ds:Ds) (e:P = Zbx tk ds) (nd:tk.Nodup) (len:tk.length ≤ 6) (fine:Zdo ds 3) (wt:ds.wt ≤ 2000) (rs:∀ x ∈ tk,resv x = false)
theorem Zle {ns:List Int} (hl:ns.length ≤ 63) (M:Store):∃ P,Zsp ns P ∧ Zco [SC ns] M = .ok P M:=by
 obtain ⟨j,ej,hj⟩:=ZcN (dr ns 50) 7 (by decide)
 have ej:dr ns 50 % 7 = (j:Int):=ej
 let nm:=Zfp ns 6
 let tk:=nm.take j
 let nm7:=nm ++ [wdF ns 10]
 let cs:=ns.take 24
 have hcs:cs.length ≤ 24:=by simp [cs]; omega
 have hnm7:nm7.length = 7:=by simp [nm7,nm,Zgj]
 have hr7:∀ x ∈ nm7,resv x = false:=fun x hx=>by
  rcases List.mem_append.mp hx with e | e
  ·exact Zhl hl 6 x e
  ·rw [List.mem_singleton.mp e]; exact (Zjx hl 10).resv
 have main:∀ M:Store,∃ ds:Ds,Zdo ds 3 ∧ ds.wt ≤ 2000 ∧ Zco [SC ns] M = .ok (Zbx tk ds) M:=fun M=>by
  let M1:=M ++ [MO.lst (nm.map D.str)]
  let M2:=M1 ++ [MO.lst (tk.map D.str)]
  let M3:=M2 ++ [MO.lst (cs.map D.int)]
  let M4:=M3 ++ [MO.lst [.str (wdF ns 10)]]
  let M5:=M4 ++ [MO.lst (nm7.map D.str)]
  have hcl:M5[M2.length]? = some (.lst (cs.map D.int)):=ZaW (ZaW (Zax M2 _ []) _) _
  have hnr:M5[M4.length]? = some (.lst (nm7.map D.str)):=Zax M4 _ []
  obtain ⟨ds,hf,hw,hd⟩:=ZoK hl (M:=M5) hcl hcs hnr hnm7 hr7
  refine ⟨ds,hf,hw,?_⟩
  refine (ZcX (M':=M5) (d:=Zbx tk ds) (env:=[some (SC ns),none,none]) ?_).trans ?_
  ·unfold Zec
   have s1:=Zpl hl 6 (by decide) (i:=3) (env:=[some (SC ns),none,none]) (fun e=>∃ a1 a2 a3,e = [some (SC ns),a1,a2,a3]) ⟨_,_,_,rfl⟩ (fun e ⟨a1,a2,a3,he⟩ d=>by subst he; exact ⟨⟨_,_,_,rfl⟩,fun M=>⟨rfl,rfl⟩⟩) M
   refine (Zn (Zx s1)).trans ?_
   have hsl:eSl (Zc 1) (ZeN) (ZeV (e2 Zaw (Zt Zaj (Za (Zc 0) (Za (eC (.int 50)) (Ze)))) (eC (.int 7)))) [some (SC ns),some (.ref M.length),none] M1 = .ok (.ref M1.length) M2:=by
    have hd:e2 Zaw (Zt Zaj (Za (Zc 0) (Za (eC (.int 50)) (Ze)))) (eC (.int 7)) [some (SC ns),some (.ref M.length),none] M1 = .ok (.int (j:Int)) M1:=Zg (ZeF hl (k:=50) rfl rfl) rfl ((ZaV (by decide)).trans (by rw [ej]))
    have ec:cutD (nm.map D.str) none (some (j:Int)) = tk.map D.str:=by rw [ZpA,List.map_take]
    simp only [eSl,Zc,R3.bind,ZeN,ZeV]
    have hv:([some (SC ns),some (.ref M.length),none]:Zam)[1]? = some (some (.ref M.length)):=rfl
    simp only [hv]
    rw [hd]
    simp only [R3.bind]
    rw [Zgp,show M1[M.length]? = _ from Zax M _ []]
    show alloc (.lst (cutD (nm.map D.str) none (some (j:Int)))) M1 = _
    rw [ec]; rfl
   refine (Zn (Zx (d:=.tup (tk.map D.str)) (M':=M2) (ZaS hsl (ZfN (Zax M1 _ []))))).trans ?_
   have hs24:eSl (Zc 0) (ZeN) (ZeV (eC (.int 24))) [some (SC ns),some (.ref M.length),some (.tup (tk.map D.str))] M2 = .ok (.ref M2.length) M3:=by
    have ec:cutD (ns.map D.int) none (some ((24:Nat):Int)) = cs.map D.int:=by rw [ZpA,List.map_take]
    show alloc (.lst (cutD (ns.map D.int) none (some ((24:Nat):Int)))) M2 = _
    rw [ec]; rfl
   have h1:M4[M.length]? = some (.lst (nm.map D.str)):=ZaW (ZaW (ZaW (Zax M _ []) _) _) _
   have hadd:e2 Zm (Zc 1) (ZaE (Za (Zt Za1 (Za (Zc 0) (Za (eC (.int 10)) (Ze)))) (Ze))) [some (SC ns),some (.ref M.length),some (.tup (tk.map D.str))] M3 = .ok (.ref M4.length) M5:=by
    refine Zg rfl (Zbg (Zh (Zej rfl rfl (ZnR hl 10 M3)) rfl) rfl) ((Zii h1 (Zax M3 _ []) (by rw [List.length_map,Zgj]; simp)).trans ?_)
    show R3.ok (D.ref M4.length) (M4 ++ [.lst (nm.map D.str ++ [.str (wdF ns 10)])]) = _
    simp only [M5,nm7,List.map_append]; rfl
   exact ZbP (Zv (Zh rfl (Zh (ZrP rfl hs24 hadd hd) rfl)) rfl)
  ·have e:M5 = M ++ [MO.lst (nm.map D.str),.lst (tk.map D.str),.lst (cs.map D.int),.lst [.str (wdF ns 10)],.lst (nm7.map D.str)]:=by simp [M5,M4,M3,M2,M1]
   rw [e]
   refine Zed ?_
   show (belowL _ _ && (belowL _ _ && true)) = true
   rw [Zcd,Zda fun w hw=>by obtain ⟨x,_,rfl⟩:=List.mem_map.mp hw; exact IsW.str x]; rfl
 obtain ⟨ds,hf,hw,e⟩:=main M
 refine ⟨Zbx tk ds,⟨tk,ds,rfl,(Zn6 hl).sublist (List.take_sublist _ _),?_,hf,hw,fun x hx=>Zhl hl 6 x (List.take_subset _ _ hx)⟩,e⟩
 simp [tk,nm,Zgj]; omega
theorem ZpE (R:List Nat → Bool) (xs:List (List Nat)) (w:D):xs <+: Zbc R xs w:=by
 unfold Zbc
 split
 ·split
  ·exact List.prefix_refl _
  ·exact List.prefix_append _ _
 ·exact List.prefix_refl _
theorem Zdp (R:List Nat → Bool):∀ (ws:List D) (xs:List (List Nat)),xs <+: Zas R xs ws
 | [],_=>List.prefix_refl _
 | w :: ws,xs=>(ZpE R xs w).trans (Zdp R ws (Zbc R xs w))
theorem Zcz:∀ (ds:Ds) (xs:List (List Nat)),xs <+: ds.names xs
 | .nil,_=>List.prefix_refl _
 | .set _ _ r,_=>(Zdp Zao _ _).trans (Zcz r _)
 | .put _ _ r,_=>((Zdp Zao _ _).trans (Zdp Zao _ _)).trans (Zcz r _)
 | .tell _ r,_=>(Zdp Zao _ _).trans (Zcz r _)
 | .whn _ a b r,_=>(((Zdp Zao _ _).trans (Zcz a _)).trans (Zcz b _)).trans (Zcz r _)
 | .whl _ a r,_=>((Zdp Zao _ _).trans (Zcz a _)).trans (Zcz r _)
noncomputable def prs:Nat → List (List Nat) → List D
 | _,[]=>[]
 | k,x :: r=>.tup [.str x,.int (2 * (k:Int) + 1)] :: prs (k + 1) r
theorem ZiX:∀ (k:Nat) (L:List (List Nat)),Zdr (prs k L) = some (kvL k L)
 | _,[]=>rfl
 | k,x :: r=>by
  show (Zdr (prs (k + 1) r)).map (fun l=>((.inr x,.int (2 * (k:Int) + 1)) :: l:List (Zav × D))) = _
  rw [ZiX (k + 1) r]; rfl
noncomputable abbrev prE:E3:=Zai (Za (Zc 10) (Za (e2 Zm (e2 ZbD (eC (.int 2)) (Zc 9)) (eC (.int 1))) (Ze)))
theorem Zkc {lk:List (Nat × List D)} {M:Store} (hlk:∀ x,Za5 lk (M ++ [MO.lst x]) = true) (b0 b1 b2 b3 b4 b5 b6 b7 b8:Option D):∀ (L:List (List Nat)) (k:Nat) (acc:List D) (x y:Option D),acc.length + L.length < 900000 →
  ZdJ lk (Zc3 [9,10]) [] prE M.length (ZbM k (L.map D.str)) [b0,b1,b2,b3,b4,b5,b6,b7,b8,x,y] (M ++ [.lst acc]) = .ok (.ref M.length) (M ++ [.lst (acc ++ prs k L)])
 | [],k,acc,x,y,_=>by
  show ZdJ _ _ _ _ _ [] _ _ = _
  simp only [ZdJ,hlk,if_true,prs,List.append_nil]
 | w :: L,k,acc,x,y,hz=>by
  rw [List.length_cons] at hz
  have ih:=Zkc hlk b0 b1 b2 b3 b4 b5 b6 b7 b8 L (k + 1) (acc ++ [.tup [.str w,.int (2 * (k:Int) + 1)]]) (some (.int (k:Int))) (some (.str w)) (by simp; omega)
  have he:prE [b0,b1,b2,b3,b4,b5,b6,b7,b8,some (.int (k:Int)),some (.str w)] (M ++ [.lst acc]) = .ok (.tup [.str w,.int (2 * (k:Int) + 1)]) (M ++ [.lst acc]):=Zv (Zh rfl (Zh (Zg (Zg rfl rfl (by rw [Zef,if_pos (ZiN (by decide))])) rfl rfl) rfl)) rfl
  have gt:(M ++ [MO.lst acc])[M.length]? = some (.lst acc):=Zax _ _ _
  have lt:acc.length < SZ:=Nat.lt_trans (show acc.length < 900000 by omega) (by decide)
  have st:(M ++ [MO.lst acc]).set M.length (.lst (acc ++ [.tup [.str w,.int (2 * (k:Int) + 1)]])) = M ++ [.lst (acc ++ [.tup [.str w,.int (2 * (k:Int) + 1)]])]:=by simp
  show ZdJ _ _ _ _ _ (.tup [.int (k:Int),.str w] :: ZbM (k + 1) (L.map D.str)) _ _ = _
  simp only [ZdJ,hlk,if_true,Zc3,Zdv,Zdt,List.set_cons_succ,List.set_cons_zero,Zjh,R3.bind,he,gt,lt,st]
  rw [ih]
  simp [prs]
noncomputable abbrev lpB:S3:=Zaf 4 (e2 Zm (Zc 4) (ZaE (Za (Zai (Za (eC (.str [112,117,116])) (Za (eC (.int 7)) (Za (e2 Zm (e2 ZbD (eC (.int 2)) (Zc 5)) (eC (.int 1))) (Ze))))) (Za (Zai (Za (eC (.str [115,101,116])) (Za (eC (.int 7)) (Za (Zc 5) (Ze))))) (Ze)))))
noncomputable def ZlZ:Nat → Nat → List D
 | _,0=>[]
 | k,n + 1=>ZfR 7 (2 * (k:Int) + 1) :: ZiB 7 (k:Int) :: ZlZ (k + 1) n
theorem Zl3 {L:List (List Nat)} (hn:L.Nodup):∀ (tk:List (List Nat)) (k:Nat),(∀ i x,tk[i]? = some x → L[k + i]? = some x) → ZfS (Zdj L) k tk = ZlZ k tk.length
 | [],_,_=>rfl
 | x :: tk,k,h=>by
  have h0:=h 0 x rfl
  rw [Nat.add_zero] at h0
  rw [ZfS,List.length_cons,ZlZ,ZrD hn h0,Zl3 hn tk (k + 1) fun i y hi=>by
   have:=h (i + 1) y hi
   rw [show k + (i + 1) = k + 1 + i by omega] at this
   exact this]
theorem Zmv {it:It3} (hi:it.lock = none) (b0 b1 b2 b3 b6 b7 b8:Option D) {M0:Store}:∀ (n k:Nat) (r:Nat) (acc:List D) (M:Store) (x:Option D),M0 <+: M → M[r]? = some (.lst acc) → acc.length + 2 * n ≤ 1000 →
  ∃ S r' x',Zbl it (ZbC 5) lpB ((List.range' k n).map fun (j:Nat)=>D.int (j:Int)) [b0,b1,b2,b3,some (.ref r),x,b6,b7,b8] M = .nx [b0,b1,b2,b3,some (.ref r'),x',b6,b7,b8] S ∧ M0 <+: S ∧ S[r']? = some (.lst (acc ++ ZlZ k n))
 | 0,k,r,acc,M,x,hp,hr,_=>⟨M,r,x,by
  show Zbl _ _ _ [] _ _ = _
  rw [ZcO,if_pos (by unfold locked; rw [hi])],hp,by simpa [ZlZ] using hr⟩
 | n + 1,k,r,acc,M,x,hp,hr,hz=>by
  obtain ⟨r1,S,e,p1,g1,_⟩:=Zhy (i:=4) (env:=[b0,b1,b2,b3,some (.ref r),some (.int (k:Int)),b6,b7,b8]) (M:=M) (LE.add (f:=Zc 4) (x:=acc) (LE.var rfl hr) (fun T pT=>(LF.lst (ds:=[ZfR 7 (2 * (k:Int) + 1),ZiB 7 (k:Int)]) (g:=Za (Zai (Za (eC (.str [112,117,116])) (Za (eC (.int 7)) (Za (e2 Zm (e2 ZbD (eC (.int 2)) (Zc 5)) (eC (.int 1))) (Ze))))) (Za (Zai (Za (eC (.str [115,101,116])) (Za (eC (.int 7)) (Za (Zc 5) (Ze))))) (Ze))) (Zh (Zv (Zh rfl (Zh rfl (Zh (Zg (Zg rfl rfl (by rw [Zef,if_pos (ZiN (by decide))])) rfl rfl) rfl))) rfl) (Zh (Zv rfl rfl) rfl)) rfl).le) (by simp; omega))
  obtain ⟨S2,r2,x2,e2',q1,q2⟩:=Zmv hi b0 b1 b2 b3 b6 b7 b8 n (k + 1) r1 _ S (some (.int (k:Int))) (hp.trans p1) g1 (by simp; omega)
  refine ⟨S2,r2,x2,?_,q1,by rw [q2]; simp [ZlZ]⟩
  rw [List.range'_succ,List.map_cons,ZcM,if_pos (by unfold locked; rw [hi])]
  have e:lpB [b0,b1,b2,b3,some (.ref r),some (.int (k:Int)),b6,b7,b8] M = .nx [b0,b1,b2,b3,some (.ref r1),some (.int (k:Int)),b6,b7,b8] S:=e
  simp only [ZbC,List.set_cons_succ,List.set_cons_zero,e]
  exact e2'
noncomputable abbrev ckB:S3:=Zy (sIf (eOr (e1 Zc9 (e1 (ZaD .tuple) (e2 Zk (Zc 6) (Zc 5)))) (eOr (e2 ZiF (Zaq ZaF (Za (e2 Zk (Zc 6) (Zc 5)) (Ze))) (Zaq ZaF (Za (Zc 7) (Ze)))) (e1 Zc9 (e1 (ZaD .str) (e2 Zk (e2 Zk (Zc 6) (Zc 5)) (eC (.int 0))))))) (Zbu (eC (.bl false))) (Zba)) (Zy (Zfj (ZfV (eSl (e2 Zk (Zc 6) (Zc 5)) (ZeV (eC (.int 1))) (ZeN))) (ZbC 8) (sIf (eOr (e1 Zc9 (e1 (ZaD .int) (Zc 8))) (e1 (ZaD .bool) (Zc 8))) (Zbu (eC (.bl false))) (Zba))) (sIf (e2 ZiF (e2 Zk (Zc 6) (Zc 5)) (Zc 7)) (Zbu (eC (.bl false))) (Zba)))
theorem ZiS {it:It3} (hi:it.lock = none) (b0 b1 b2 b3 b4 b5 b6 b7:Option D) (M:Store):∀ (is:List Int) (x:Option D),∃ x',Zbl it (ZbC 8) (sIf (eOr (e1 Zc9 (e1 (ZaD .int) (Zc 8))) (e1 (ZaD .bool) (Zc 8))) (Zbu (eC (.bl false))) (Zba)) (is.map D.int) [b0,b1,b2,b3,b4,b5,b6,b7,x] M = .nx [b0,b1,b2,b3,b4,b5,b6,b7,x'] M
 | [],x=>⟨x,by rw [List.map_nil,ZcO,if_pos (by unfold locked; rw [hi])]⟩
 | i :: is,x=>by
  obtain ⟨x',e⟩:=ZiS hi b0 b1 b2 b3 b4 b5 b6 b7 M is (some (.int i))
  refine ⟨x',?_⟩
  have t:sIf (eOr (e1 Zc9 (e1 (ZaD .int) (Zc 8))) (e1 (ZaD .bool) (Zc 8))) (Zbu (eC (.bl false))) (Zba) [b0,b1,b2,b3,b4,b5,b6,b7,some (.int i)] M = .nx [b0,b1,b2,b3,b4,b5,b6,b7,some (.int i)] M:=ZaO (M':=M) ((Zkr (M1:=M) (ZbG (a:=.bl true) (M1:=M) rfl rfl)).trans rfl)
  rw [List.map_cons,ZcM,if_pos (by unfold locked; rw [hi])]
  simp only [ZbC,List.set_cons_succ,List.set_cons_zero,t]
  exact e
theorem ZpC {d:D} (h:Zhk d):ZaX DEEP d = true:=by
 obtain ⟨x,is,rfl⟩:=h
 have h:(is.map D.int).all (ZaX 59) = true:=by rw [List.all_map]; exact List.all_eq_true.mpr fun i _=>ZmF 59 i
 show (ZaX 59 (.str x) && (is.map D.int).all (ZaX 59)) = true
 rw [ZmE,h]; rfl
theorem Zqx {R:List D} {k:Nat} {d:D} (hk:R[k]? = some d) (hd:Zhk d) (b0 b1 b2 b3 b4 b8:Option D) (M:Store):
  ∃ b8',ckB [b0,b1,b2,b3,b4,some (.int (k:Int)),some (.tup R),some d,b8] M = .nx [b0,b1,b2,b3,b4,some (.int (k:Int)),some (.tup R),some d,b8'] M:=by
 have hp:=ZpC hd
 obtain ⟨x,is,rfl⟩:=hd
 have idx:∀ b8,e2 Zk (Zc 6) (Zc 5) [b0,b1,b2,b3,b4,some (.int (k:Int)),some (.tup R),some (.tup (.str x :: is.map D.int)),b8] M = .ok (.tup (.str x :: is.map D.int)) M:=fun _=>Zg rfl rfl (Zfc (by rw [ZaU]; exact hk))
 obtain ⟨x',e⟩:=ZiS (it:=⟨is.map D.int,none⟩) rfl b0 b1 b2 b3 b4 (some (.int (k:Int))) (some (.tup R)) (some (.tup (.str x :: is.map D.int))) M is b8
 have ne_ii:∀ (i:Int) (M:Store),ZiF (.int i) (.int i) M = .ok (.bl false) M:=fun i M=>by
  show (match some (decide (i = i)) with | some r=>R3.ok (D.bl (!r)) M | none=>R3.bad) = _
  rw [decide_eq_true rfl]; rfl
 have cnd:eOr (e1 Zc9 (e1 (ZaD .tuple) (e2 Zk (Zc 6) (Zc 5)))) (eOr (e2 ZiF (Zaq ZaF (Za (e2 Zk (Zc 6) (Zc 5)) (Ze))) (Zaq ZaF (Za (Zc 7) (Ze)))) (e1 Zc9 (e1 (ZaD .str) (e2 Zk (e2 Zk (Zc 6) (Zc 5)) (eC (.int 0)))))) [b0,b1,b2,b3,b4,some (.int (k:Int)),some (.tup R),some (.tup (.str x :: is.map D.int)),b8] M = .ok (.bl false) M:=by
  refine (Zkr (M1:=M) (ZbG (a:=.bl true) (M1:=M) (ZbG (idx b8) (show ZaD .tuple (.tup (.str x :: is.map D.int)) M = .ok (.bl true) M from rfl)) rfl)).trans ?_
  refine (Zkr (M1:=M) (Zg (a:=.int ((D.str x :: is.map D.int).length:Int)) (b:=.int ((D.str x :: is.map D.int).length:Int)) (M1:=M) (M2:=M) (ZaS (idx b8) rfl) (ZaS rfl rfl) (ne_ii _ M))).trans ?_
  exact ZbG (a:=.bl true) (M1:=M) (ZbG (a:=.str x) (M1:=M) (Zg (idx b8) rfl (Zfc (ZaU (D.str x :: is.map D.int) 0))) (show ZaD .str (.str x) M = .ok (.bl true) M from rfl)) rfl
 refine ⟨x',(Zn (ZaO (M':=M) cnd)).trans ((Zn ((Zdz (it:=⟨is.map D.int,none⟩) (M':=M) ?_).trans e)).trans (ZaO (M':=M) (Zg (idx _) rfl ?_)))⟩
 ·have hs:eSl (e2 Zk (Zc 6) (Zc 5)) (ZeV (eC (.int 1))) (ZeN) [b0,b1,b2,b3,b4,some (.int (k:Int)),some (.tup R),some (.tup (.str x :: is.map D.int)),b8] M = .ok (.tup (is.map D.int)) M:=by
   have ec:cutD (D.str x :: is.map D.int) (some ((1:Nat):Int)) none = is.map D.int:=by rw [Zkg]; rfl
   show (e2 Zk (Zc 6) (Zc 5) _ M).bind _ = _
   rw [idx,R3.bind_ok]
   show R3.ok (D.tup (cutD (D.str x :: is.map D.int) (some ((1:Nat):Int)) none)) M = _
   rw [ec]
  show (eSl _ _ _ _ M).bind _ = _
  rw [hs,R3.bind_ok]
 ·have hq:(D.str x :: is.map D.int).all (ZaX DEEP) = true:=by
   have h:(is.map D.int).all (ZaX 60) = true:=by rw [List.all_map]; exact List.all_eq_true.mpr fun i _=>ZmF 60 i
   show (ZaX 60 (.str x) && (is.map D.int).all (ZaX 60)) = true
   rw [ZmE,h]; rfl
  show (match eqD (.tup _) (.tup _) M with | some r=>R3.ok (D.bl (!r)) M | none=>R3.bad) = _
  rw [ZlJ,hq]
  show R3.ok (D.bl (!(ZdN _ _))) M = _
  rw [Zm7 hq]; rfl
theorem Zmu {R:List D} (hR:∀ d ∈ R,Zhk d) {n:Nat} (b0 b1 b2 b3 b4:Option D) {M:Store} (hn:M[n]? = some (.lst R)):∀ (ds:List D) (k:Nat) (b5 b7 b8:Option D),(∀ i d,ds[i]? = some d → R[k + i]? = some d) →
  ∃ c5 c7 c8,Zcb [(n,R)] (Zc3 [5,7]) ckB (ZbM k ds) [b0,b1,b2,b3,b4,b5,some (.tup R),b7,b8] M = .nx [b0,b1,b2,b3,b4,c5,some (.tup R),c7,c8] M
 | [],k,b5,b7,b8,_=>⟨b5,b7,b8,by
  show Zcb _ _ _ [] _ _ = _
  rw [Ze3,if_pos (by simp [Za5,hn])]⟩
 | d :: ds,k,b5,b7,b8,h=>by
  have h0:=h 0 d rfl
  rw [Nat.add_zero] at h0
  obtain ⟨c8,e⟩:=Zqx h0 (hR d (List.mem_of_getElem? h0)) b0 b1 b2 b3 b4 b8 M
  obtain ⟨c5,c7,c8',e2'⟩:=Zmu hR b0 b1 b2 b3 b4 hn ds (k + 1) (some (.int (k:Int))) (some d) c8 (fun i y hi=>by
   have:=h (i + 1) y hi
   rw [show k + (i + 1) = k + 1 + i by omega] at this
   exact this)
  refine ⟨c5,c7,c8',?_⟩
  show Zcb _ _ _ (.tup [.int (k:Int),d] :: ZbM (k + 1) ds) _ _ = _
  rw [Ze1,if_pos (by simp [Za5,hn])]
  simp only [Zc3,Zdv,Zdt,List.set_cons_succ,List.set_cons_zero,e]
  exact e2'
theorem law_holds (ns:List Int) (hl:ns.length ≤ 63):∃ M',Zl4 [.scr (ns.map D.int)] [] = .ok (.bl true) M':=by
 refine Rt.law (env:=[some (SC ns),none,none,none,none,none,none,none,none]) ?_
 unfold Zpf
 obtain ⟨P,⟨tk,ds,eP,hnd,htk,hf,hw,hrs⟩,hP⟩:=Zle hl []
 subst eP
 let L:=ds.names tk
 have hL:L.Nodup:=names_nodup ds hnd
 have hLl:L.length ≤ tk.length + ds.wt:=Zbr ds tk
 let ck:=Zdj L
 refine Rt.set (d:=Zbx tk ds) (M':=[]) (ZeI rfl hP) ?_
 refine Rt.set (d:=.ref 0) (M':=[.lst (tk.map D.str)]) rfl ?_
 have hln:=ZtL hf.ok hf.dep [.lst (tk.map D.str)] 0 tk rfl (by omega)
 refine Rt.expr (d:=.non) (M':=[.lst (L.map D.str)]) (Zej rfl rfl hln) ?_
 have hcomp:ZrK (Zfm (Zc 2)) 2 (Zc3 [9,10]) [] prE [some (SC ns),some (Zbx tk ds),some (.ref 0),none,none,none,none,none,none] [.lst (L.map D.str)] = .ok (.ref 1) [.lst (L.map D.str),.lst (prs 0 L)]:=by
  have h:=Zkc (lk:=[(0,L.map D.str)]) (M:=[.lst (L.map D.str)]) (fun x=>by simp [Za5]) (some (SC ns)) (some (Zbx tk ds)) (some (.ref 0)) none none none none none none L 0 [] none none (by simp; omega)
  exact h
 have hdict:Zlv [.ref 1] [.lst (L.map D.str),.lst (prs 0 L)] = .ok (.ref 2) [.lst (L.map D.str),.lst (prs 0 L),.dct ck]:=by
  show (match Zdr (prs 0 L) with | some l=>(if l.length ≤ 100000 then alloc (.dct (dictOf l)) [MO.lst (L.map D.str),.lst (prs 0 L)] else R3.bad) | none=>R3.bad) = _
  rw [ZiX]
  exact if_pos (show (kvL 0 L).length ≤ 100000 by rw [Zmn]; omega)
 refine Rt.set (d:=.ref 2) (M':=[.lst (L.map D.str),.lst (prs 0 L),.dct ck]) (ZaS hcomp hdict) ?_
 let S0:Store:=[.lst (L.map D.str),.lst (prs 0 L),.dct ck]
 refine Rt.set (d:=.ref 3) (M':=S0 ++ [.lst []]) (Zbg (M':=S0) (ds:=[]) rfl rfl) ?_
 obtain ⟨S,r,x,e,p1,g1⟩:=Zmv (it:=⟨(List.range tk.length).map fun (k:Nat)=>D.int (k:Int),none⟩) rfl (some (SC ns)) (some (Zbx tk ds)) (some (.ref 0)) (some (.ref 2)) none none none (M0:=S0) tk.length 0 3 [] (S0 ++ [.lst []]) none (List.prefix_append _ _) rfl (by simp; omega)
 rw [List.nil_append] at g1
 have hrng:Zen (Zaq ZaF (Za (e2 Zk (Zc 1) (eC (.int 0))) (Ze))) [some (SC ns),some (Zbx tk ds),some (.ref 0),some (.ref 2),some (.ref 3),none,none,none,none] (S0 ++ [.lst []]) = .ok ⟨(List.range tk.length).map fun (k:Nat)=>D.int (k:Int),none⟩ (S0 ++ [.lst []]):=by
  refine ZiM (n:=tk.length) ?_ (by omega)
  refine ZaS (a:=.tup (tk.map D.str)) (M1:=S0 ++ [.lst []]) rfl ?_
  rw [Zgm,List.length_map]
 rw [← List.range_eq_range'] at e
 refine Rt.loop hrng e ?_
 have hpre:ZfS ck 0 tk = ZlZ 0 tk.length:=Zl3 hL tk 0 fun i x hi=>by
  rw [Nat.zero_add]
  obtain ⟨G,hG⟩:=Zcz ds tk
  show (ds.names tk)[i]? = some x
  rw [← hG,List.getElem?_append_left (List.getElem?_eq_some_iff.mp hi).1]
  exact hi
 have hplen:=Zij ck 0 tk
 have hkn:ds.kn ck:=ZfW hL ds tk hf.ok fun _ h=>h
 have hdl:=ZbH ck ds (2 * (tk.length:Int))
 have hcS:S[2]? = some (.dct ck):=Zah p1 rfl
 have hLD:=Zrx hf.ok hkn (by omega) hf.dep
 rw [← hpre] at g1
 obtain ⟨n4,S4,e4,p4,g4,l4⟩:=LE.add (env:=[some (SC ns),some (Zbx tk ds),some (.ref 0),some (.ref 2),some (.ref r),x,none,none,none]) (M:=S) (LE.add (f:=Zc 4) (x:=ZfS ck 0 tk) (LE.var rfl g1) (fun T pT=>(LF.call (F:=Zbm) (ds:=[.tup ds.enc,.int (2 * (tk.length:Int)),.ref 2]) (g:=Za (e2 Zk (Zc 1) (eC (.int 1))) (Za (Zaq ZaF (Za (Zc 4) (Ze))) (Za (Zc 3) (Ze)))) (Zh rfl (Zh (ZaS rfl ((ZaM (Zah pT g1)).trans (by rw [hplen]; congr 2))) rfl)) (hLD T 2 (2 * (tk.length:Int)) (Zah pT hcS))).le) (by omega)).le (fun T pT=>(LF.lst (ds:=[Zrg]) (g:=Za (Zai (Za (eC (.str [104,97,108,116])) (Ze))) (Ze)) (Zh (Zv rfl rfl) rfl) rfl).le) (by simp; omega)
 refine Rt.set (d:=.ref n4) (M':=S4) e4 ?_
 have hroll:=ZlU htk hnd hf.ok hf.nm (by omega) hf.dep S4
 let R:=ZkI ck tk ds
 have g4:S4[n4]? = some (.lst R):=g4
 refine Rt.set (d:=.tup R) (M':=S4) (ZeI rfl hroll) ?_
 have ne_ii:∀ (i:Int) (M:Store),ZiF (.int i) (.int i) M = .ok (.bl false) M:=fun i M=>by
  show (match some (decide (i = i)) with | some r=>R3.ok (D.bl (!r)) M | none=>R3.bad) = _
  rw [decide_eq_true rfl]; rfl
 refine Rt.skip (M':=S4) ((Zkr (M1:=S4) (ZbG (a:=.bl true) (M1:=S4) rfl rfl)).trans (Zg (a:=.int (R.length:Int)) (b:=.int (R.length:Int)) (M1:=S4) (M2:=S4) rfl (ZaS rfl (ZaM g4)) (ne_ii _ _))) ?_
 obtain ⟨c5,c7,c8,e5⟩:=Zmu (ZkQ ck tk ds) (n:=n4) (some (SC ns)) (some (Zbx tk ds)) (some (.ref 0)) (some (.ref 2)) (some (.ref n4)) g4 R 0 x none none (fun i d hi=>by rw [Nat.zero_add]; exact hi)
 have hit:Zfm (Zc 4) [some (SC ns),some (Zbx tk ds),some (.ref 0),some (.ref 2),some (.ref n4),x,some (.tup R),none,none] S4 = .ok ⟨ZbM 0 R,[(n4,R)]⟩ S4:=by
  show (match S4[n4]? with | some (.lst ds)=>R3.ok (⟨ZbM 0 ds,[(n4,ds)]⟩:ItL) S4 | _=>R3.bad) = _
  rw [g4]
 refine Rt.step ((ZeO hit).trans e5) ?_
 exact Rt.ret (M':=S4) rfl
end Law
set_option maxHeartbeats 400000
namespace Law
open PySem PySem.Spec PyProof.Rows L2 L3
theorem uZ {P:List Value → Prop} (h:P []):∀ us:List Value,us.length = 0 → P us:=fun us e=>(List.eq_nil_of_length_eq_zero e) ▸ h
theorem uS {P:List Value → Prop} {n:Nat} (h:∀ a us,us.length = n → P (a :: us)) (us:List Value) (e:us.length = n + 1):P us:=by
 cases us with
 | nil=>exact absurd e (Nat.succ_ne_zero n).symm
 | cons a us=>exact h a us (Nat.succ.inj e)
theorem ub1 {P:List Value → Prop} {xa:Str} (h:∀ a,P [a]):∀ us:List Value,us.length = [xa].length → P us:=uS fun a=>uZ (h a)
theorem ub2 {P:List Value → Prop} {xa xb:Str} (h:∀ a b,P [a,b]):∀ us:List Value,us.length = [xa,xb].length → P us:=uS fun a=>uS fun b=>uZ (h a b)
theorem ub3 {P:List Value → Prop} {xa xb xc:Str} (h:∀ a b c,P [a,b,c]):∀ us:List Value,us.length = [xa,xb,xc].length → P us:=uS fun a=>uS fun b=>uS fun c=>uZ (h a b c)
theorem ub4 {P:List Value → Prop} {xa xb xc xd:Str} (h:∀ a b c d,P [a,b,c,d]):∀ us:List Value,us.length = [xa,xb,xc,xd].length → P us:=uS fun a=>uS fun b=>uS fun c=>uS fun d=>uZ (h a b c d)
theorem ub5 {P:List Value → Prop} {xa xb xc xd xe:Str} (h:∀ a b c d e,P [a,b,c,d,e]):∀ us:List Value,us.length = [xa,xb,xc,xd,xe].length → P us:=uS fun a=>uS fun b=>uS fun c=>uS fun d=>uS fun e=>uZ (h a b c d e)
theorem ZrA {l:PySem.W.OpenLaw} {w:World} {K:W.Frag} {h:Heap} {mg:Str → Option Value} {fa f0 f1 f2 f3 f4 f5 f6 f7 f8 f9 f10 f11 f12 f13 f14 f15 f16 f17 f18 f19 f20 f21 f22 f23 f24 f25 f26 f27:Addr} (X:K.In h) (G:h.Ns mainGlobals mg) (hfa:mg "law" = some (.ref fa))
  {od0 an0 od1 an1 od2 an2 od3 an3 od4 an4 od5 an5 od6 an6 od7 an7 od8 an8 od9 an9 od10 an10 od11 an11 od12 an12 od13 an13 od14 an14 od15 an15 od16 an16 od17 an17 od18 an18 od19 an19 od20 an20 od21 an21 od22 an22 od23 an23 od24 an24 od25 an25 od26 an26 od27 an27:Option Addr} {sl0 sl1 sl2 sl3 sl4 sl5 sl6 sl7 sl8 sl9 sl10 sl11 sl12 sl13 sl14 sl15 sl16 sl17 sl18 sl19 sl20 sl21 sl22 sl23 sl24 sl25 sl26 sl27:Array (Option Value)} {oc0 kV0 dc0 pm0 cd0 ct0 oc1 kV1 dc1 pm1 cd1 ct1 oc2 kV2 dc2 pm2 cd2 ct2 oc3 kV3 dc3 pm3 cd3 ct3 oc4 kV4 dc4 pm4 cd4 ct4 oc5 kV5 dc5 pm5 cd5 ct5 oc6 kV6 dc6 pm6 cd6 ct6 oc7 kV7 dc7 pm7 cd7 ct7 oc8 kV8 dc8 pm8 cd8 ct8 oc9 kV9 dc9 pm9 cd9 ct9 oc10 kV10 dc10 pm10 cd10 ct10 oc11 kV11 dc11 pm11 cd11 ct11 oc12 kV12 dc12 pm12 cd12 ct12 oc13 kV13 dc13 pm13 cd13 ct13 oc14 kV14 dc14 pm14 cd14 ct14 oc15 kV15 dc15 pm15 cd15 ct15 oc16 kV16 dc16 pm16 cd16 ct16 oc17 kV17 dc17 pm17 cd17 ct17 oc18 kV18 dc18 pm18 cd18 ct18 oc19 kV19 dc19 pm19 cd19 ct19 oc20 kV20 dc20 pm20 cd20 ct20 oc21 kV21 dc21 pm21 cd21 ct21 oc22 kV22 dc22 pm22 cd22 ct22 oc23 kV23 dc23 pm23 cd23 ct23 oc24 kV24 dc24 pm24 cd24 ct24 oc25 kV25 dc25 pm25 cd25 ct25 oc26 kV26 dc26 pm26 cd26 ct26 oc27 kV27 dc27 pm27 cd27 ct27:Value} {t_NAME_BOX:Tok} {a_PARTS:Addr} {a_WORDS:Addr}
  (a0:W.nsIn K mainGlobals "sums_in" = some (some (.ref f0))) (l0:K.lookup f0 = some ⟨oc0,od0,.func (W.fnOf "sums_in" "sums_in" (ZaG ZdZ) (ZaB ZdZ) (Zr ZdZ) .none kV0 dc0 pm0 an0 cd0 ct0),sl0⟩) (c0:W.codeIn K cd0 "sums_in" = true) (k0:W.keepIn K (.ref f0) = true)
  (a1:W.nsIn K mainGlobals "parts_of" = some (some (.ref f1))) (l1:K.lookup f1 = some ⟨oc1,od1,.func (W.fnOf "parts_of" "parts_of" (ZaG Zdx) (ZaB Zdx) (Zr Zdx) .none kV1 dc1 pm1 an1 cd1 ct1),sl1⟩) (c1:W.codeIn K cd1 "parts_of" = true) (k1:W.keepIn K (.ref f1) = true)
  (a2:W.nsIn K mainGlobals "text_rows_of_deed" = some (some (.ref f2))) (l2:K.lookup f2 = some ⟨oc2,od2,.func (W.fnOf "text_rows_of_deed" "text_rows_of_deed" (ZaG Zbb) (ZaB Zbb) (Zr Zbb) .none kV2 dc2 pm2 an2 cd2 ct2),sl2⟩) (c2:W.codeIn K cd2 "text_rows_of_deed" = true) (k2:W.keepIn K (.ref f2) = true)
  (a3:W.nsIn K mainGlobals "text_rows_of_deeds" = some (some (.ref f3))) (l3:K.lookup f3 = some ⟨oc3,od3,.func (W.fnOf "text_rows_of_deeds" "text_rows_of_deeds" (ZaG Za3) (ZaB Za3) (Zr Za3) .none kV3 dc3 pm3 an3 cd3 ct3),sl3⟩) (c3:W.codeIn K cd3 "text_rows_of_deeds" = true) (k3:W.keepIn K (.ref f3) = true)
  (a4:W.nsIn K mainGlobals "text_rows" = some (some (.ref f4))) (l4:K.lookup f4 = some ⟨oc4,od4,.func (W.fnOf "text_rows" "text_rows" (ZaG Zc2) (ZaB Zc2) (Zr Zc2) .none kV4 dc4 pm4 an4 cd4 ct4),sl4⟩) (c4:W.codeIn K cd4 "text_rows" = true) (k4:W.keepIn K (.ref f4) = true)
  (a5:W.nsIn K mainGlobals "names_of" = some (some (.ref f5))) (l5:K.lookup f5 = some ⟨oc5,od5,.func (W.fnOf "names_of" "names_of" (ZaG Zdq) (ZaB Zdq) (Zr Zdq) .none kV5 dc5 pm5 an5 cd5 ct5),sl5⟩) (c5:W.codeIn K cd5 "names_of" = true) (k5:W.keepIn K (.ref f5) = true)
  (a6:W.nsIn K mainGlobals "name_cells" = some (some (.ref f6))) (l6:K.lookup f6 = some ⟨oc6,od6,.func (W.fnOf "name_cells" "name_cells" (ZaG Zcw) (ZaB Zcw) (Zr Zcw) .none kV6 dc6 pm6 an6 cd6 ct6),sl6⟩) (c6:W.codeIn K cd6 "name_cells" = true) (k6:W.keepIn K (.ref f6) = true)
  (a7:W.nsIn K mainGlobals "rows_to_name" = some (some (.ref f7))) (l7:K.lookup f7 = some ⟨oc7,od7,.func (W.fnOf "rows_to_name" "rows_to_name" (ZaG ZbZ) (ZaB ZbZ) (Zr ZbZ) .none kV7 dc7 pm7 an7 cd7 ct7),sl7⟩) (c7:W.codeIn K cd7 "rows_to_name" = true) (k7:W.keepIn K (.ref f7) = true)
  (a8:W.nsIn K mainGlobals "double_row" = some (some (.ref f8))) (l8:K.lookup f8 = some ⟨oc8,od8,.func (W.fnOf "double_row" "double_row" (ZaG Zcv) (ZaB Zcv) (Zr Zcv) .none kV8 dc8 pm8 an8 cd8 ct8),sl8⟩) (c8:W.codeIn K cd8 "double_row" = true) (k8:W.keepIn K (.ref f8) = true)
  (a9:W.nsIn K mainGlobals "rows_of_sum" = some (some (.ref f9))) (l9:K.lookup f9 = some ⟨oc9,od9,.func (W.fnOf "rows_of_sum" "rows_of_sum" (ZaG Zci) (ZaB Zci) (Zr Zci) .none kV9 dc9 pm9 an9 cd9 ct9),sl9⟩) (c9:W.codeIn K cd9 "rows_of_sum" = true) (k9:W.keepIn K (.ref f9) = true)
  (a10:W.nsIn K mainGlobals "rows_of_while" = some (some (.ref f10))) (l10:K.lookup f10 = some ⟨oc10,od10,.func (W.fnOf "rows_of_while" "rows_of_while" (ZaG ZbJ) (ZaB ZbJ) (Zr ZbJ) .none kV10 dc10 pm10 an10 cd10 ct10),sl10⟩) (c10:W.codeIn K cd10 "rows_of_while" = true) (k10:W.keepIn K (.ref f10) = true)
  (a11:W.nsIn K mainGlobals "rows_of_when" = some (some (.ref f11))) (l11:K.lookup f11 = some ⟨oc11,od11,.func (W.fnOf "rows_of_when" "rows_of_when" (ZaG Zb1) (ZaB Zb1) (Zr Zb1) .none kV11 dc11 pm11 an11 cd11 ct11),sl11⟩) (c11:W.codeIn K cd11 "rows_of_when" = true) (k11:W.keepIn K (.ref f11) = true)
  (a12:W.nsIn K mainGlobals "rows_of_deed" = some (some (.ref f12))) (l12:K.lookup f12 = some ⟨oc12,od12,.func (W.fnOf "rows_of_deed" "rows_of_deed" (ZaG Zb2) (ZaB Zb2) (Zr Zb2) .none kV12 dc12 pm12 an12 cd12 ct12),sl12⟩) (c12:W.codeIn K cd12 "rows_of_deed" = true) (k12:W.keepIn K (.ref f12) = true)
  (a13:W.nsIn K mainGlobals "rows_of_deeds" = some (some (.ref f13))) (l13:K.lookup f13 = some ⟨oc13,od13,.func (W.fnOf "rows_of_deeds" "rows_of_deeds" (ZaG ZbI) (ZaB ZbI) (Zr ZbI) .none kV13 dc13 pm13 an13 cd13 ct13),sl13⟩) (c13:W.codeIn K cd13 "rows_of_deeds" = true) (k13:W.keepIn K (.ref f13) = true)
  (a14:W.nsIn K mainGlobals "roll_of" = some (some (.ref f14))) (l14:K.lookup f14 = some ⟨oc14,od14,.func (W.fnOf "roll_of" "roll_of" (ZaG Zd3) (ZaB Zd3) (Zr Zd3) .none kV14 dc14 pm14 an14 cd14 ct14),sl14⟩) (c14:W.codeIn K cd14 "roll_of" = true) (k14:W.keepIn K (.ref f14) = true)
  (a15:W.nsIn K mainGlobals "_law_draw" = some (some (.ref f15))) (l15:K.lookup f15 = some ⟨oc15,od15,.func (W.fnOf "_law_draw" "_law_draw" (ZaG Zc6) (ZaB Zc6) (Zr Zc6) .none kV15 dc15 pm15 an15 cd15 ct15),sl15⟩) (c15:W.codeIn K cd15 "_law_draw" = true) (k15:W.keepIn K (.ref f15) = true)
  (a16:W.nsIn K mainGlobals "_law_word" = some (some (.ref f16))) (l16:K.lookup f16 = some ⟨oc16,od16,.func (W.fnOf "_law_word" "_law_word" (ZaG Zc5) (ZaB Zc5) (Zr Zc5) .none kV16 dc16 pm16 an16 cd16 ct16),sl16⟩) (c16:W.codeIn K cd16 "_law_word" = true) (k16:W.keepIn K (.ref f16) = true)
  (a17:W.nsIn K mainGlobals "_law_number" = some (some (.ref f17))) (l17:K.lookup f17 = some ⟨oc17,od17,.func (W.fnOf "_law_number" "_law_number" (ZaG Zcf) (ZaB Zcf) (Zr Zcf) .none kV17 dc17 pm17 an17 cd17 ct17),sl17⟩) (c17:W.codeIn K cd17 "_law_number" = true) (k17:W.keepIn K (.ref f17) = true)
  (a18:W.nsIn K mainGlobals "_law_sum" = some (some (.ref f18))) (l18:K.lookup f18 = some ⟨oc18,od18,.func (W.fnOf "_law_sum" "_law_sum" (ZaG Zdm) (ZaB Zdm) (Zr Zdm) .none kV18 dc18 pm18 an18 cd18 ct18),sl18⟩) (c18:W.codeIn K cd18 "_law_sum" = true) (k18:W.keepIn K (.ref f18) = true)
  (a19:W.nsIn K mainGlobals "_law_closed" = some (some (.ref f19))) (l19:K.lookup f19 = some ⟨oc19,od19,.func (W.fnOf "_law_closed" "_law_closed" (ZaG Zcj) (ZaB Zcj) (Zr Zcj) .none kV19 dc19 pm19 an19 cd19 ct19),sl19⟩) (c19:W.codeIn K cd19 "_law_closed" = true) (k19:W.keepIn K (.ref f19) = true)
  (a20:W.nsIn K mainGlobals "_law_opened" = some (some (.ref f20))) (l20:K.lookup f20 = some ⟨oc20,od20,.func (W.fnOf "_law_opened" "_law_opened" (ZaG Zch) (ZaB Zch) (Zr Zch) .none kV20 dc20 pm20 an20 cd20 ct20),sl20⟩) (c20:W.codeIn K cd20 "_law_opened" = true) (k20:W.keepIn K (.ref f20) = true)
  (a21:W.nsIn K mainGlobals "_law_deeds" = some (some (.ref f21))) (l21:K.lookup f21 = some ⟨oc21,od21,.func (W.fnOf "_law_deeds" "_law_deeds" (ZaG Zcy) (ZaB Zcy) (Zr Zcy) .none kV21 dc21 pm21 an21 cd21 ct21),sl21⟩) (c21:W.codeIn K cd21 "_law_deeds" = true) (k21:W.keepIn K (.ref f21) = true)
  (a22:W.nsIn K mainGlobals "_law_program" = some (some (.ref f22))) (l22:K.lookup f22 = some ⟨oc22,od22,.func (W.fnOf "_law_program" "_law_program" (ZaG Zb3) (ZaB Zb3) (Zr Zb3) .none kV22 dc22 pm22 an22 cd22 ct22),sl22⟩) (c22:W.codeIn K cd22 "_law_program" = true) (k22:W.keepIn K (.ref f22) = true)
  (a23:W.nsIn K mainGlobals "_law_rows_of_sum" = some (some (.ref f23))) (l23:K.lookup f23 = some ⟨oc23,od23,.func (W.fnOf "_law_rows_of_sum" "_law_rows_of_sum" (ZaG Zbi) (ZaB Zbi) (Zr Zbi) .none kV23 dc23 pm23 an23 cd23 ct23),sl23⟩) (c23:W.codeIn K cd23 "_law_rows_of_sum" = true) (k23:W.keepIn K (.ref f23) = true)
  (a24:W.nsIn K mainGlobals "_law_rows_of_deeds" = some (some (.ref f24))) (l24:K.lookup f24 = some ⟨oc24,od24,.func (W.fnOf "_law_rows_of_deeds" "_law_rows_of_deeds" (ZaG Za2) (ZaB Za2) (Zr Za2) .none kV24 dc24 pm24 an24 cd24 ct24),sl24⟩) (c24:W.codeIn K cd24 "_law_rows_of_deeds" = true) (k24:W.keepIn K (.ref f24) = true)
  (a25:W.nsIn K mainGlobals "_law_seen" = some (some (.ref f25))) (l25:K.lookup f25 = some ⟨oc25,od25,.func (W.fnOf "_law_seen" "_law_seen" (ZaG Zc4) (ZaB Zc4) (Zr Zc4) .none kV25 dc25 pm25 an25 cd25 ct25),sl25⟩) (c25:W.codeIn K cd25 "_law_seen" = true) (k25:W.keepIn K (.ref f25) = true)
  (a26:W.nsIn K mainGlobals "_law_names" = some (some (.ref f26))) (l26:K.lookup f26 = some ⟨oc26,od26,.func (W.fnOf "_law_names" "_law_names" (ZaG ZcB) (ZaB ZcB) (Zr ZcB) .none kV26 dc26 pm26 an26 cd26 ct26),sl26⟩) (c26:W.codeIn K cd26 "_law_names" = true) (k26:W.keepIn K (.ref f26) = true)
  (a27:W.nsIn K mainGlobals "law" = some (some (.ref f27))) (l27:K.lookup f27 = some ⟨oc27,od27,.func (W.fnOf "law" "law" (ZaG ZgG) (ZaB ZgG) (Zr ZgG) .none kV27 dc27 pm27 an27 cd27 ct27),sl27⟩) (c27:W.codeIn K cd27 "law" = true) (k27:W.keepIn K (.ref f27) = true)
  (z_bool:W.nsIn K mainGlobals "bool" = some none)
  (z_dict:W.nsIn K mainGlobals "dict" = some none)
  (z_enumerate:W.nsIn K mainGlobals "enumerate" = some none)
  (z_int:W.nsIn K mainGlobals "int" = some none)
  (z_isinstance:W.nsIn K mainGlobals "isinstance" = some none)
  (z_len:W.nsIn K mainGlobals "len" = some none)
  (z_list:W.nsIn K mainGlobals "list" = some none)
  (z_max:W.nsIn K mainGlobals "max" = some none)
  (z_range:W.nsIn K mainGlobals "range" = some none)
  (z_str:W.nsIn K mainGlobals "str" = some none)
  (z_tuple:W.nsIn K mainGlobals "tuple" = some none)
  (g_NAME_BOX:W.nsIn K mainGlobals "NAME_BOX" = some (some (.int 7 t_NAME_BOX)))
  (g_PARTS:W.nsIn K mainGlobals "PARTS" = some (some (.ref a_PARTS))) (r_tab_PARTS:ZiY K a_PARTS ZcE)
  (Zfe:W.nsIn K mainGlobals "WORDS" = some (some (.ref a_WORDS))) (r_tab_WORDS:Znu K (Zcp.map fun y=>(⟨y.toArray⟩:Str)) (.ref a_WORDS) = true):
  ∃ fd:FuncData,(∀ (s:Shared) (v:Value),BindsTo s fd ⟨[v],[]⟩ [("script",v)]) ∧ ∀ base:Heap,K.In base → base.Ns mainGlobals mg → Zfo l.prog w K mg base CX0 32 fa fd ["script"] (sp3 K 1 Zl4):=by
 have e:=hfa.symm.trans (W.mg_of X G a27)
 cases e
 have T:Txt K mg:=⟨trivial,W.mg_none_of X G z_bool,W.mg_none_of X G z_dict,W.mg_none_of X G z_enumerate,W.mg_none_of X G z_int,W.mg_none_of X G z_isinstance,W.mg_none_of X G z_len,W.mg_none_of X G z_list,W.mg_none_of X G z_max,W.mg_none_of X G z_range,W.mg_none_of X G z_str,W.mg_none_of X G z_tuple,⟨_,W.mg_of X G g_NAME_BOX⟩,⟨_,W.mg_of X G g_PARTS,r_tab_PARTS⟩,⟨_,W.mg_of X G Zfe,r_tab_WORDS⟩⟩
 have D_sums_in:ZaI K mg "sums_in" ZdZ ["words"]:=ZaL X G a0 l0 c0 k0 (Binds.all (ub1 fun _=>rfl))
 have D_parts_of:ZaI K mg "parts_of" Zdx ["words"]:=ZaL X G a1 l1 c1 k1 (Binds.all (ub1 fun _=>rfl))
 have D_text_rows_of_deed:ZaI K mg "text_rows_of_deed" Zbb ["deed"]:=ZaL X G a2 l2 c2 k2 (Binds.all (ub1 fun _=>rfl))
 have D_text_rows_of_deeds:ZaI K mg "text_rows_of_deeds" Za3 ["deeds"]:=ZaL X G a3 l3 c3 k3 (Binds.all (ub1 fun _=>rfl))
 have D_text_rows:ZaI K mg "text_rows" Zc2 ["program"]:=ZaL X G a4 l4 c4 k4 (Binds.all (ub1 fun _=>rfl))
 have D_names_of:ZaI K mg "names_of" Zdq ["program"]:=ZaL X G a5 l5 c5 k5 (Binds.all (ub1 fun _=>rfl))
 have D_name_cells:ZaI K mg "name_cells" Zcw ["program"]:=ZaL X G a6 l6 c6 k6 (Binds.all (ub1 fun _=>rfl))
 have D_rows_to_name:ZaI K mg "rows_to_name" ZbZ ["name","box","cells"]:=ZaL X G a7 l7 c7 k7 (Binds.all (ub3 fun _ _ _=>rfl))
 have D_double_row:ZaI K mg "double_row" Zcv ["box"]:=ZaL X G a8 l8 c8 k8 (Binds.all (ub1 fun _=>rfl))
 have D_rows_of_sum:ZaI K mg "rows_of_sum" Zci ["words","box","cells"]:=ZaL X G a9 l9 c9 k9 (Binds.all (ub3 fun _ _ _=>rfl))
 have D_rows_of_while:ZaI K mg "rows_of_while" ZbJ ["deed","begin","cells"]:=ZaL X G a10 l10 c10 k10 (Binds.all (ub3 fun _ _ _=>rfl))
 have D_rows_of_when:ZaI K mg "rows_of_when" Zb1 ["deed","begin","cells"]:=ZaL X G a11 l11 c11 k11 (Binds.all (ub3 fun _ _ _=>rfl))
 have D_rows_of_deed:ZaI K mg "rows_of_deed" Zb2 ["deed","begin","cells"]:=ZaL X G a12 l12 c12 k12 (Binds.all (ub3 fun _ _ _=>rfl))
 have D_rows_of_deeds:ZaI K mg "rows_of_deeds" ZbI ["deeds","begin","cells"]:=ZaL X G a13 l13 c13 k13 (Binds.all (ub3 fun _ _ _=>rfl))
 have D_roll_of:ZaI K mg "roll_of" Zd3 ["program"]:=ZaL X G a14 l14 c14 k14 (Binds.all (ub1 fun _=>rfl))
 have D__law_draw:ZaI K mg "_law_draw" Zc6 ["script","k"]:=ZaL X G a15 l15 c15 k15 (Binds.all (ub2 fun _ _=>rfl))
 have D__law_word:ZaI K mg "_law_word" Zc5 ["script","i"]:=ZaL X G a16 l16 c16 k16 (Binds.all (ub2 fun _ _=>rfl))
 have D__law_number:ZaI K mg "_law_number" Zcf ["draw"]:=ZaL X G a17 l17 c17 k17 (Binds.all (ub1 fun _=>rfl))
 have D__law_sum:ZaI K mg "_law_sum" Zdm ["script","at","names","limit"]:=ZaL X G a18 l18 c18 k18 (Binds.all (ub4 fun _ _ _ _=>rfl))
 have D__law_closed:ZaI K mg "_law_closed" Zcj ["frames","opens"]:=ZaL X G a19 l19 c19 k19 (Binds.all (ub2 fun _ _=>rfl))
 have D__law_opened:ZaI K mg "_law_opened" Zch ["script","k","frames","opens","names"]:=ZaL X G a20 l20 c20 k20 (Binds.all (ub5 fun _ _ _ _ _=>rfl))
 have D__law_deeds:ZaI K mg "_law_deeds" Zcy ["script","cells","names"]:=ZaL X G a21 l21 c21 k21 (Binds.all (ub3 fun _ _ _=>rfl))
 have D__law_program:ZaI K mg "_law_program" Zb3 ["script"]:=ZaL X G a22 l22 c22 k22 (Binds.all (ub1 fun _=>rfl))
 have D__law_rows_of_sum:ZaI K mg "_law_rows_of_sum" Zbi ["words","box","cells"]:=ZaL X G a23 l23 c23 k23 (Binds.all (ub3 fun _ _ _=>rfl))
 have D__law_rows_of_deeds:ZaI K mg "_law_rows_of_deeds" Za2 ["deeds","at","cells"]:=ZaL X G a24 l24 c24 k24 (Binds.all (ub3 fun _ _ _=>rfl))
 have D__law_seen:ZaI K mg "_law_seen" Zc4 ["words","seen"]:=ZaL X G a25 l25 c25 k25 (Binds.all (ub2 fun _ _=>rfl))
 have D__law_names:ZaI K mg "_law_names" ZcB ["deeds","seen"]:=ZaL X G a26 l26 c26 k26 (Binds.all (ub2 fun _ _=>rfl))
 refine ⟨W.fnOf "law" "law" (ZaG ZgG) (ZaB ZgG) (Zr ZgG) .none kV27 dc27 pm27 an27 cd27 ct27,fun s v=>.of_eq rfl,fun base _ _=>?_⟩
 have F_sums_in:=ZlC (P:=l.prog) (w:=w) (base:=base) D_sums_in T
 have F_parts_of:=Zkt (P:=l.prog) (w:=w) (base:=base) D_parts_of T F_sums_in
 have GG:=Ze6 (P:=l.prog) (w:=w) (base:=base) D_text_rows_of_deeds D_text_rows_of_deed T 13
 obtain ⟨F_text_rows_of_deeds,F_text_rows_of_deed⟩:=GG
 have F_text_rows:=Zjv (P:=l.prog) (w:=w) (base:=base) D_text_rows T F_text_rows_of_deeds
 have F_names_of:=ZkT (P:=l.prog) (w:=w) (base:=base) D_names_of T F_text_rows
 have F_name_cells:=Ziy (P:=l.prog) (w:=w) (base:=base) D_name_cells T F_names_of
 have F_rows_to_name:=Zhw (P:=l.prog) (w:=w) (base:=base) D_rows_to_name T
 have F_double_row:=ZiD (P:=l.prog) (w:=w) (base:=base) D_double_row T
 have F_rows_of_sum:=ZhO (P:=l.prog) (w:=w) (base:=base) D_rows_of_sum T F_parts_of F_double_row
 have GG:=ZgP (P:=l.prog) (w:=w) (base:=base) F_rows_to_name F_rows_of_sum F_double_row D_rows_of_deeds D_rows_of_deed D_rows_of_when D_rows_of_while T 13
 obtain ⟨F_rows_of_deeds,F_rows_of_deed,F_rows_of_when,F_rows_of_while⟩:=GG
 have F_roll_of:=ZlN (P:=l.prog) (w:=w) (base:=base) D_roll_of T F_name_cells F_rows_to_name F_rows_of_deeds
 have F__law_draw:=Zjz (P:=l.prog) (w:=w) (base:=base) D__law_draw T
 have F__law_word:=Zjn (P:=l.prog) (w:=w) (base:=base) D__law_word T F__law_draw
 have F__law_number:=Zif (P:=l.prog) (w:=w) (base:=base) D__law_number T
 have F__law_sum:=ZkU (P:=l.prog) (w:=w) (base:=base) D__law_sum T F__law_draw F__law_number
 have F__law_closed:=Zis (P:=l.prog) (w:=w) (base:=base) D__law_closed T
 have F__law_opened:=Zh9 (P:=l.prog) (w:=w) (base:=base) D__law_opened T F__law_draw F__law_word F__law_sum
 have F__law_deeds:=Ziw (P:=l.prog) (w:=w) (base:=base) D__law_deeds T F__law_draw F__law_sum F__law_closed F__law_opened
 have F__law_program:=ZhB (P:=l.prog) (w:=w) (base:=base) D__law_program T F__law_draw F__law_word F__law_deeds
 have F__law_rows_of_sum:=ZfT (P:=l.prog) (w:=w) (base:=base) D__law_rows_of_sum T
 have F__law_rows_of_deeds:=Zfk (P:=l.prog) (w:=w) (base:=base) D__law_rows_of_deeds T F__law_rows_of_sum
 have F__law_seen:=ZjC (P:=l.prog) (w:=w) (base:=base) D__law_seen T
 have F__law_names:=ZiC (P:=l.prog) (w:=w) (base:=base) D__law_names T F__law_seen
 exact Zto (Zo6 (st:=ZgG) l27 c27 k27) T F_roll_of F__law_program F__law_rows_of_deeds F__law_names
end Law
open PySem PySem.W PyProof.Rows
set_option maxRecDepth 100000 in
set_option maxHeartbeats 0 in
theorem PySem.Challenge.cw_stepledger_k73_roll_row_by_row_holds : PySem.Challenge.rw_stepledger_k73_roll_row_by_row.Holds := by
 w_on; o_law; k_head; (case hw=>w_witness2)
 k_fill
 refine L3.Zuc (l:=PySem.Challenge.rw_stepledger_k73_roll_row_by_row) (k:=32) (F:=Law.Zl4) rfl rfl ⟨rfl,by decide,by decide⟩ (fun w h Y=>W.kIn_of Y) ?G Law.law_holds
 case G=>
  intro w mg fa h KX G hmg
  refine' Law.ZrA KX G hmg ?a0 ?l0 ?c0 ?k0 ?a1 ?l1 ?c1 ?k1 ?a2 ?l2 ?c2 ?k2 ?a3 ?l3 ?c3 ?k3 ?a4 ?l4 ?c4 ?k4 ?a5 ?l5 ?c5 ?k5 ?a6 ?l6 ?c6 ?k6 ?a7 ?l7 ?c7 ?k7 ?a8 ?l8 ?c8 ?k8 ?a9 ?l9 ?c9 ?k9 ?a10 ?l10 ?c10 ?k10 ?a11 ?l11 ?c11 ?k11 ?a12 ?l12 ?c12 ?k12 ?a13 ?l13 ?c13 ?k13 ?a14 ?l14 ?c14 ?k14 ?a15 ?l15 ?c15 ?k15 ?a16 ?l16 ?c16 ?k16 ?a17 ?l17 ?c17 ?k17 ?a18 ?l18 ?c18 ?k18 ?a19 ?l19 ?c19 ?k19 ?a20 ?l20 ?c20 ?k20 ?a21 ?l21 ?c21 ?k21 ?a22 ?l22 ?c22 ?k22 ?a23 ?l23 ?c23 ?k23 ?a24 ?l24 ?c24 ?k24 ?a25 ?l25 ?c25 ?k25 ?a26 ?l26 ?c26 ?k26 ?a27 ?l27 ?c27 ?k27 ?z_bool ?z_dict ?z_enumerate ?z_int ?z_isinstance ?z_len ?z_list ?z_max ?z_range ?z_str ?z_tuple ?g_NAME_BOX ?g_PARTS ?r_tab_PARTS ?Zfe ?r_tab_WORDS
  (case a0=>k_is)
  (case l0=>k_is)
  (case c0=>k_is)
  (case k0=>k_is)
  (case a1=>k_is)
  (case l1=>k_is)
  (case c1=>k_is)
  (case k1=>k_is)
  (case a2=>k_is)
  (case l2=>k_is)
  (case c2=>k_is)
  (case k2=>k_is)
  (case a3=>k_is)
  (case l3=>k_is)
  (case c3=>k_is)
  (case k3=>k_is)
  (case a4=>k_is)
  (case l4=>k_is)
  (case c4=>k_is)
  (case k4=>k_is)
  (case a5=>k_is)
  (case l5=>k_is)
  (case c5=>k_is)
  (case k5=>k_is)
  (case a6=>k_is)
  (case l6=>k_is)
  (case c6=>k_is)
  (case k6=>k_is)
  (case a7=>k_is)
  (case l7=>k_is)
  (case c7=>k_is)
  (case k7=>k_is)
  (case a8=>k_is)
  (case l8=>k_is)
  (case c8=>k_is)
  (case k8=>k_is)
  (case a9=>k_is)
  (case l9=>k_is)
  (case c9=>k_is)
  (case k9=>k_is)
  (case a10=>k_is)
  (case l10=>k_is)
  (case c10=>k_is)
  (case k10=>k_is)
  (case a11=>k_is)
  (case l11=>k_is)
  (case c11=>k_is)
  (case k11=>k_is)
  (case a12=>k_is)
  (case l12=>k_is)
  (case c12=>k_is)
  (case k12=>k_is)
  (case a13=>k_is)
  (case l13=>k_is)
  (case c13=>k_is)
  (case k13=>k_is)
  (case a14=>k_is)
  (case l14=>k_is)
  (case c14=>k_is)
  (case k14=>k_is)
  (case a15=>k_is)
  (case l15=>k_is)
  (case c15=>k_is)
  (case k15=>k_is)
  (case a16=>k_is)
  (case l16=>k_is)
  (case c16=>k_is)
  (case k16=>k_is)
  (case a17=>k_is)
  (case l17=>k_is)
  (case c17=>k_is)
  (case k17=>k_is)
  (case a18=>k_is)
  (case l18=>k_is)
  (case c18=>k_is)
  (case k18=>k_is)
  (case a19=>k_is)
  (case l19=>k_is)
  (case c19=>k_is)
  (case k19=>k_is)
  (case a20=>k_is)
  (case l20=>k_is)
  (case c20=>k_is)
  (case k20=>k_is)
  (case a21=>k_is)
  (case l21=>k_is)
  (case c21=>k_is)
  (case k21=>k_is)
  (case a22=>k_is)
  (case l22=>k_is)
  (case c22=>k_is)
  (case k22=>k_is)
  (case a23=>k_is)
  (case l23=>k_is)
  (case c23=>k_is)
  (case k23=>k_is)
  (case a24=>k_is)
  (case l24=>k_is)
  (case c24=>k_is)
  (case k24=>k_is)
  (case a25=>k_is)
  (case l25=>k_is)
  (case c25=>k_is)
  (case k25=>k_is)
  (case a26=>k_is)
  (case l26=>k_is)
  (case c26=>k_is)
  (case k26=>k_is)
  (case a27=>k_is)
  (case l27=>k_is)
  (case c27=>k_is)
  (case k27=>k_is)
  (case z_bool=>k_is)
  (case z_dict=>k_is)
  (case z_enumerate=>k_is)
  (case z_int=>k_is)
  (case z_isinstance=>k_is)
  (case z_len=>k_is)
  (case z_list=>k_is)
  (case z_max=>k_is)
  (case z_range=>k_is)
  (case z_str=>k_is)
  (case z_tuple=>k_is)
  (case g_NAME_BOX=>k_is)
  (case g_PARTS=>k_is)
  (case r_tab_PARTS=>first | rfl | decide +kernel)
  (case Zfe=>k_is)
  (case r_tab_WORDS=>first | rfl | decide +kernel)
